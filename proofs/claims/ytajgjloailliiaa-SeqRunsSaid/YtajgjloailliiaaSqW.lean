/- Layer 8: the program's Of, walked. -/
import Derived.Test.YtajgjloailliiaaSqU
import Derived.Test.YtajgjloailliiaaMaps
import Derived.Maps.OwnSet
namespace Go.Proofs.Ytajgjloailliiaa
open Go.RowKit Go.Maps

theorem sqCells_pl : ∀ (vs : List Value) (L : List Sq) (_ : vs.length = L.length) (n : Nat) (hn : n < L.length) (u : Value) (p : List Int), sqCells (vs.set n u) (L.set n { L[n] with pl := p }) = (sqCells vs L).set (n * 4) u
  | [], [], _, _, hn, _, _ => by simp at hn
  | [], _ :: _, h, _, _, _, _ => by simp at h
  | _ :: _, [], h, _, _, _, _ => by simp at h
  | a :: vs, b :: L, h, 0, _, u, p => by simp [sqCells, Sq.cells]
  | a :: vs, b :: L, h, n + 1, hn, u, p => by
    have hl : (b.cells a).length = 4 := rfl
    have ih := sqCells_pl vs L (by simpa using h) n (by simpa using hn) u p
    simp only [List.set_cons_succ, List.getElem_cons_succ, sqCells, ih]
    rw [List.set_append_right _ _ (by omega), hl, show (n + 1) * 4 - 4 = n * 4 by omega]
theorem sqCells_eos : ∀ (vs : List Value) (L : List Sq) (_ : vs.length = L.length) (n : Nat) (hn : n < L.length) (e : Int), sqCells vs (L.set n { L[n] with eos := e }) = (sqCells vs L).set (n * 4 + 3) (.int .i64 e)
  | [], [], _, _, hn, _ => by simp at hn
  | [], _ :: _, h, _, _, _ => by simp at h
  | _ :: _, [], h, _, _, _ => by simp at h
  | a :: vs, b :: L, h, 0, _, e => by simp [sqCells, Sq.cells]
  | a :: vs, b :: L, h, n + 1, hn, e => by
    have hl : (b.cells a).length = 4 := rfl
    have ih := sqCells_eos vs L (by simpa using h) n (by simpa using hn) e
    simp only [List.set_cons_succ, List.getElem_cons_succ, sqCells, ih]
    rw [List.set_append_right _ _ (by omega), hl, show (n + 1) * 4 + 3 - 4 = n * 4 + 3 by omega]

/-- a row of sequences as the program builds it -/
structure SeqsM (w : World) (B : Nat) (v : Value) (vs : List Value) (L : List Sq) : Prop where
  outer : OwnN w B 36 4 v L.length (sqCells vs L)
  len : vs.length = L.length
  inner : ∀ (j : Nat) (h1 : j < vs.length) (h2 : j < L.length), Mix w B 3 vs[j] (ints .i64 L[j].pl)
  apart : ∀ (i j : Nat) (hi : i < vs.length) (hj : j < vs.length), i ≠ j → ApartB B vs[i] vs[j]
section
variable {w w' w'' : World} {B : Nat} {v : Value} {vs : List Value} {L : List Sq}
theorem SeqsM.empty (w : World) (B : Nat) : SeqsM w B (.slice none 0 0) [] [] := ⟨OwnN.empty _ _ _ _, rfl, fun j h1 => by simp at h1, fun i j h1 => by simp at h1⟩
theorem SeqsM.below (h : SeqsM w B v vs L) {C : Nat} (hb : Below C w w') (hC : w.heap.size ≤ C) (hB : B ≤ C) : SeqsM w' B v vs L :=
  ⟨h.outer.below hb hC, h.len, fun j h1 h2 => (h.inner j h1 h2).below hb hC hB, h.apart⟩
theorem SeqsM.same (h : SeqsM w B v vs L) (hh : w'.heap = w.heap) (h1 : w'.os = w.os) (h2 : w'.tape = w.tape) (h3 : w'.output = w.output) (hB : B ≤ w.heap.size) : SeqsM w' B v vs L :=
  h.below (C := w.heap.size) (below_same (Below.refl _ _) hh h1 h2 h3) (Nat.le_refl _) hB
/-- no list of places lies in the outer row's block -/
theorem SeqsM.far (h : SeqsM w B v vs L) {j : Nat} (hj : j < vs.length) : ob B vs[j] = none ∨ ob B vs[j] ≠ v.ownBlock := by
  have hl := h.len
  rcases h.inner j hj (by omega) with ⟨A, e, hn, hla⟩ | ho
  · rw [e]; exact .inl (Mix.ob_full hla hn)
  · rw [ho.ob]
    exact OwnN.unlike ho.asN h.outer (by decide)
/-- what stays when a block turns that is none of theirs -/
theorem SeqsM.keep (h : SeqsM w B v vs L) {q : Nat} (hg : w.grownBy w' (some q)) (hB : B ≤ w.heap.size) (hq : B ≤ q) (hv : v.ownBlock ≠ some q) (hi : ∀ (j : Nat) (h1 : j < vs.length), ob B vs[j] ≠ some q) : SeqsM w' B v vs L :=
  ⟨h.outer.keep hg (.inr hv), h.len, fun j h1 h2 => (h.inner j h1 h2).keep hg hB (fun g e => by injection e with e; omega) (.inr (hi j h1)), h.apart⟩
/-- one more sequence, of a run's own slice -/
theorem SeqsM.push {v' : Value} {A : Option Addr} {s : Sq} (h : SeqsM w B v vs L) (hB : B ≤ w.heap.size) (hs : Lies w B A (ints .i64 s.pl)) (hne : s.pl ≠ []) (hg : w.grownBy w' v.ownBlock)
    (ho : OwnN w' B 36 4 v' (L.length + 1) (sqCells vs L ++ s.cells (.slice A s.pl.length s.pl.length))) : SeqsM w' B v' (vs ++ [.slice A s.pl.length s.pl.length]) (L ++ [s]) := by
  have hl := h.len
  have hr : ∀ g, v.ownBlock = some g → B ≤ g := fun g e => (h.outer.inside g e).1
  have hsn : ints .i64 s.pl ≠ [] := by simpa [ints] using hne
  have hob : ob B (.slice A s.pl.length s.pl.length) = none := Mix.ob_full hs hsn
  refine ⟨by rw [sqCells_append _ _ _ _ hl, List.length_append, List.length_singleton]; exact ho, by simp [hl], fun j h1 h2 => ?_, fun i j hi hj hij => ?_⟩
  · by_cases hj : j < vs.length
    · simp only [List.getElem_append_left hj, List.getElem_append_left (show j < L.length by omega)]
      exact (h.inner j hj (by omega)).keep hg hB hr (h.far hj)
    · have he : j = L.length := by rw [List.length_append, List.length_singleton] at h2; omega
      subst he
      simp only [List.getElem_append_right (show vs.length ≤ L.length by omega), List.getElem_append_right (Nat.le_refl L.length), Nat.sub_self, show L.length - vs.length = 0 by omega, List.getElem_cons_zero]
      exact .inl ⟨A, by simp [ints], hsn, hs.grown hg hB hr⟩
  · by_cases h1 : i < vs.length
    · rw [List.getElem_append_left h1]
      by_cases h2 : j < vs.length
      · rw [List.getElem_append_left h2]; exact h.apart i j h1 h2 hij
      · rw [List.getElem_append_right (by omega)]
        have : j - vs.length = 0 := by simp at hj; omega
        simp only [this, List.getElem_cons_zero]
        exact ApartB.symm (.inl hob)
    · rw [List.getElem_append_right (by omega)]
      have : i - vs.length = 0 := by simp at hi; omega
      simp only [this, List.getElem_cons_zero]
      exact .inl hob
/-- sequence n has more places, in a row of its own, which is stored anew -/
theorem SeqsM.grow {g c n : Nat} {u : Value} {p : List Int} (h : SeqsM w B (.slice (some ⟨g, 0, none⟩) L.length c) vs L) (hB : B ≤ w.heap.size) (hn : n < L.length) (hnv : n < vs.length)
    (hu : Own w' B 3 u (ints .i64 p)) (hg : w.grownBy w' (ob B vs[n])) (hl2 : u.ownBlock = ob B vs[n] ∨ u.ownBlock = some w.heap.size)
    (ho : OwnN w'' B 36 4 (.slice (some ⟨g, 0, none⟩) L.length c) L.length ((sqCells vs L).set (n * 4) u)) (hg2 : w'.grownBy w'' (some g)) :
    SeqsM w'' B (.slice (some ⟨g, 0, none⟩) L.length c) (vs.set n u) (L.set n { L[n] with pl := p }) := by
  have hl := h.len
  have hgi := h.outer.inside g rfl
  have hB' : B ≤ w'.heap.size := Nat.le_trans hB hg.size
  have hug : u.ownBlock ≠ some g := by
    rcases hl2 with e | e
    · rw [e]
      rcases h.far hnv with h1 | h1
      · rw [h1]; simp
      · exact h1
    · rw [e]; intro e2; injection e2 with e2; omega
  have old : ∀ (j : Nat) (hj : j < vs.length), j ≠ n → Mix w'' B 3 vs[j] (ints .i64 (L[j]'(by omega)).pl) := fun j hj hjn => by
    have h1 := (h.inner j hj (by omega)).keep hg hB (fun q e => (ob_ge e).1) (h.apart j n hj hnv hjn)
    refine h1.keep hg2 hB' (fun q e => by injection e with e; omega) ?_
    rcases h.far hj with h2 | h2
    · exact .inl h2
    · exact .inr h2
  refine ⟨by rw [sqCells_pl vs L hl n hn u p, List.length_set]; exact ho, by simp [hl], fun j h1 h2 => ?_, fun i j hi hj hij => ?_⟩
  · by_cases hjn : j = n
    · subst hjn
      rw [List.getElem_set_self, List.getElem_set_self]
      exact .inr (hu.keep hg2 (.inr hug))
    · simp only [List.getElem_set_ne (fun e => hjn e.symm)]
      exact old j (by simpa using h1) hjn
  · have hi' : i < vs.length := by simpa using hi
    have hj' : j < vs.length := by simpa using hj
    have key : ∀ (j : Nat) (hj : j < vs.length), j ≠ n → ApartB B u vs[j] := fun j hj hjn => by
      have hou : ob B u = u.ownBlock := hu.ob
      rcases hl2 with e | e
      · have := h.apart n j hnv hj (fun e => hjn e.symm)
        unfold ApartB at *
        rw [hou, e]; exact this
      · refine .inr fun e2 => ?_
        rw [hou, e] at e2
        have h3 := (ob_ge e2.symm).2
        rcases h.inner j hj (by omega) with ⟨A, ev, hn0, hla⟩ | ho
        · rw [ev, Mix.ob_full hla hn0] at e2; cases e2
        · have := (Own.inside ho _ h3).2; omega
    by_cases h1 : i = n
    · subst h1
      rw [List.getElem_set_self, List.getElem_set_ne hij]
      exact key j hj' (fun e => hij e.symm)
    · by_cases h2 : j = n
      · subst h2
        rw [List.getElem_set_self, List.getElem_set_ne (fun e => h1 e.symm)]
        exact (key i hi' h1).symm
      · rw [List.getElem_set_ne (fun e => h1 e.symm), List.getElem_set_ne (fun e => h2 e.symm)]
        exact h.apart i j hi' hj' hij
/-- sequence n's direction behind is stored anew -/
theorem SeqsM.eos {g c n : Nat} {e : Int} (h : SeqsM w B (.slice (some ⟨g, 0, none⟩) L.length c) vs L) (hB : B ≤ w.heap.size) (hn : n < L.length)
    (ho : OwnN w' B 36 4 (.slice (some ⟨g, 0, none⟩) L.length c) L.length ((sqCells vs L).set (n * 4 + 3) (.int .i64 e))) (hg : w.grownBy w' (some g)) :
    SeqsM w' B (.slice (some ⟨g, 0, none⟩) L.length c) vs (L.set n { L[n] with eos := e }) := by
  have hl := h.len
  have hgi := h.outer.inside g rfl
  refine ⟨by rw [sqCells_eos vs L hl n hn e, List.length_set]; exact ho, by simp [hl], fun j h1 h2 => ?_, h.apart⟩
  have hp : ((L.set n { L[n] with eos := e })[j]).pl = (L[j]'(by simpa using h2)).pl := by
    by_cases hjn : n = j
    · subst hjn; rw [List.getElem_set_self]
    · rw [List.getElem_set_ne hjn]
  rw [hp]
  refine (h.inner j h1 (by simpa using h2)).keep hg hB (fun q e => by injection e with e; omega) ?_
  rcases h.far h1 with h2 | h2
  · exact .inl h2
  · exact .inr h2
theorem SeqsM.read (h : SeqsM w B v vs L) (hB : B ≤ w.heap.size) : ∃ A c, v = .slice A L.length c ∧ SeqsR w A L vs := by
  obtain ⟨A, c, hv, hl, _, _⟩ := h.outer.form
  refine ⟨A, c, hv, h.len, hl, fun j h1 h2 => ?_⟩
  obtain ⟨Aj, cj, e, hj⟩ := (h.inner j h1 h2).form hB
  rw [ints, List.length_map] at e
  exact ⟨Aj, cj, e, hj⟩
/-- sequence n's cells -/
theorem SeqsM.cellAt {g c n : Nat} (h : SeqsM w B (.slice (some ⟨g, 0, none⟩) L.length c) vs L) (hn : n < L.length) (hnv : n < vs.length) : w.cell? ⟨g, n * 4, none⟩ = some vs[n] := by
  have h1 := World.ownsRow.cellAt h.outer (n * 4) (by omega)
  rw [h1]
  have h2 := sqCells_get vs L h.len n hn 0 (by omega)
  simpa [Sq.cells] using h2
end
/-- a map's block is none of a row's -/
theorem MapAt.ne {w : World} {b n : Nat} {M : Int → Option Int} (h : MapAt w b n M) {B : Nat} {e : TypeId} {s k : Nat} {v : Value} {xs : List Value} (ho : OwnN w B e s v k xs) : v.ownBlock ≠ some b := by
  obtain ⟨D, ⟨es, clock, hb, _⟩, _⟩ := h
  rcases ho.2 with ⟨rfl, _⟩ | ⟨g, cap, cur, rfl, _, hh, _⟩
  · simp [Value.ownBlock]
  · intro e
    have : g = b := by simpa [Value.ownBlock] using e
    subst this
    rw [hb] at hh
    cases hh
theorem MapAt.neAt {w : World} {b n : Nat} {M : Int → Option Int} (h : MapAt w b n M) {B : Nat} {e : TypeId} {u : Value} {xs : List Value} (ho : Mix w B e u xs) : ob B u ≠ some b := by
  rcases ho with ⟨A, rfl, hn, hl⟩ | ho
  · rw [Mix.ob_full hl hn]; simp
  · rw [ho.ob]; exact h.ne ho.asN
section
variable {w : World} {b n : Nat} {M : Int → Option Int} {ops : Array Oper} {rest : List Oper} {o : Oper} {a : Act} {Q : Exit → Act → World → Prop}
theorem look_some (hg : o.guard = none) {t : TypeId} {m x : Operand} (hop : o.op = Op.lookup t m x true) (ht : Try.prog.underlying t = some (.map 3 3))
    (hm : a.eval m = .map (some b)) (h : MapAt w b n M) {k y : Int} (hx : a.eval x = .int .i64 k) (hk : (Lit.int .i64 k).wf = true) (hM : M k = some y)
    (hK : wpList Try.prog ops Q rest (a.put o.dst (.tuple #[.int .i64 y, .bool true])) w) : wpList Try.prog ops Q (o :: rest) a w := by
  obtain ⟨D, hown, hR⟩ := h
  refine wpList_lookup_own_ok_int w hg m x t hop 3 3 .i64 keyI ht Try.underlying3 (by go_simp) b n D hm hown _ (.int .i64 k) hx (keyOf_int_mk Try.underlying3 hk) ?_
  intro c hc _
  have h1 := hR.2 k
  rw [hM] at h1
  rw [h1] at hc
  injection hc with hc
  injection hc with _ hc
  subst hc
  rw [hR.has hM]
  exact hK
theorem look_none (hg : o.guard = none) {t : TypeId} {m x : Operand} (hop : o.op = Op.lookup t m x true) (ht : Try.prog.underlying t = some (.map 3 3))
    (hm : a.eval m = .map (some b)) (h : MapAt w b n M) {k : Int} (hx : a.eval x = .int .i64 k) (hk : (Lit.int .i64 k).wf = true) (hM : M k = none)
    (hK : ∀ c : Int, wpList Try.prog ops Q rest (a.put o.dst (.tuple #[.int .i64 c, .bool false])) w) : wpList Try.prog ops Q (o :: rest) a w := by
  obtain ⟨D, hown, hR⟩ := h
  refine wpList_lookup_own_ok_int w hg m x t hop 3 3 .i64 keyI ht Try.underlying3 (by go_simp) b n D hm hown _ (.int .i64 k) hx (keyOf_int_mk Try.underlying3 hk) ?_
  intro c hc _
  have h1 := hR.2 k
  rw [hM] at h1
  rw [h1]
  exact hK c
end
end Go.Proofs.Ytajgjloailliiaa
