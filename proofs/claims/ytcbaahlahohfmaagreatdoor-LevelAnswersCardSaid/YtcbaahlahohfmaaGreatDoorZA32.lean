/- Shared texts, shaken for one claim. -/
import Derived.Maps.OwnSet
import Derived.Test.YtcbaahlahohfmaaGreatDoorZA18
import Derived.Test.YtcbaahlahohfmaaGreatDoorZA31
namespace Go.Proofs.YtcbaahlahohfmaaGreatDoor
open Go.RowKit
def sqZ : Sq := ⟨[], 0, 0, 0⟩
def addPl (l : List Sq) (n : Nat) (r : List Int) : List Sq := l.set n { l.getD n sqZ with pl := (l.getD n sqZ).pl ++ r }
def setEos (l : List Sq) (n : Nat) (e : Int) : List Sq := l.set n { l.getD n sqZ with eos := e }
theorem addPl_length (l : List Sq) (n : Nat) (r : List Int) : (addPl l n r).length = l.length := by simp [addPl]
theorem setEos_length (l : List Sq) (n : Nat) (e : Int) : (setEos l n e).length = l.length := by simp [setEos]
def otherI (m : List Int) (r : List Int) : Int := m.getD (lastI r).toNat 0
def sosW (lv : List Int) (base : Int) (L : List (List Int)) (k : Nat) : Int := dirL (max (levW lv base L k) (levW lv base L ((k : Int) - 1)))
def eosW (cl lv : List Int) (base : Int) (L : List (List Int)) (k : Nat) : Int := dirL (max (levW lv base L k) (behW lv base L k (cl.getD (lastI (L.getD k [])).toNat 0)))
def seqAt (M : Int → Option Int) (S : List Sq) (r : List Int) : Nat := match M (headI r) with
 | some n => n.toNat
 | none => S.length
def seqIn (lv : List Int) (base : Int) (L : List (List Int)) (k : Nat) (M : Int → Option Int) (S : List Sq) : List Sq := match M (headI (L.getD k [])) with
 | some n => addPl S n.toNat (L.getD k [])
 | none => S ++ [⟨L.getD k [], levW lv base L k, sosW lv base L k, 0⟩]
def pst (cl lv m : List Int) (base : Int) (L : List (List Int)) : Nat → (Int → Option Int) × List Sq
 | 0 => (fun _ => none, [])
 | k + 1 =>
  let st := pst cl lv m base L k
  let n := seqAt st.1 st.2 (L.getD k [])
  (if lastI (L.getD k []) < otherI m (L.getD k []) then fun x => if x = otherI m (L.getD k []) then some (n : Int) else st.1 x else st.1,
   setEos (seqIn lv base L k st.1 st.2) n (eosW cl lv base L k))
structure PstOk (st : (Int → Option Int) × List Sq) (k : Nat) : Prop where
 len : st.2.length ≤ k
 pl : ∀ s ∈ st.2, s.pl.length ≤ k * 1000000
 ne : ∀ s ∈ st.2, s.pl ≠ []
 at' : ∀ x y, st.1 x = some y → ∃ n : Nat, y = n ∧ n < st.2.length
theorem seqIn_ok {lv : List Int} {base : Int} {L : List (List Int)} {k : Nat} {M : Int → Option Int} {S : List Sq} (h : PstOk (M, S) k) (hk : k < L.length) (hr : L[k].length ≤ 1000000) (hne : L[k] ≠ []) :
 seqAt M S (L.getD k []) < (seqIn lv base L k M S).length ∧ (seqIn lv base L k M S).length ≤ k + 1 ∧ (∀ s ∈ seqIn lv base L k M S, s.pl.length ≤ (k + 1) * 1000000 ∧ s.pl ≠ []) ∧ ∀ x y, M x = some y → ∃ n : Nat, y = n ∧ n < (seqIn lv base L k M S).length := by
 have hg : L.getD k [] = L[k] := by simp [hk]
 have h1 := h.len
 have hmul : (k + 1) * 1000000 = k * 1000000 + 1000000 := by rw [Nat.add_mul, Nat.one_mul]
 have h1' : S.length ≤ k := h1
 rw [hg]
 cases hm : M (headI L[k]) with
 | some y =>
  obtain ⟨n, rfl, hn⟩ := h.at' _ _ hm
  have e1 : seqAt M S L[k] = n := by rw [seqAt, hm]; simp
  have e2 : seqIn lv base L k M S = addPl S n L[k] := by rw [seqIn, hg, hm]; simp
  have hn' : n < S.length := hn
  rw [e1, e2, addPl_length]
  refine ⟨hn, by omega, fun s hs => ?_, fun x y hx => by obtain ⟨q, a, b⟩ := h.at' _ _ hx; exact ⟨q, a, b⟩⟩
  rw [addPl] at hs
  rcases List.mem_or_eq_of_mem_set hs with h2 | rfl
  ·exact ⟨Nat.le_trans (h.pl s h2) (Nat.mul_le_mul_right _ (Nat.le_succ k)), h.ne s h2⟩
  ·have hs2 : S.getD n sqZ = S[n] := by simp [hn']
   have := h.pl S[n] (List.getElem_mem hn')
   rw [hs2]
   exact ⟨by rw [List.length_append]; omega, by simp [hne]⟩
 | none =>
  have e1 : seqAt M S L[k] = S.length := by rw [seqAt, hm]
  have e2 : seqIn lv base L k M S = S ++ [⟨L[k], levW lv base L k, sosW lv base L k, 0⟩] := by rw [seqIn, hg, hm]
  rw [e1, e2, List.length_append, List.length_singleton]
  refine ⟨by omega, by omega, fun s hs => ?_, fun x y hx => by obtain ⟨q, a, b⟩ := h.at' _ _ hx; have b' : q < S.length := b; exact ⟨q, a, by omega⟩⟩
  rcases List.mem_append.1 hs with h2 | h2
  ·exact ⟨Nat.le_trans (h.pl s h2) (Nat.mul_le_mul_right _ (Nat.le_succ k)), h.ne s h2⟩
  ·rw [List.mem_singleton.1 h2]
   exact ⟨by show L[k].length ≤ _; omega, hne⟩
theorem setEos_mem {l : List Sq} {n : Nat} {e : Int} {s : Sq} (hs : s ∈ setEos l n e) (hn : n < l.length) : ∃ s' ∈ l, s.pl = s'.pl := by
 rw [setEos] at hs
 rcases List.mem_or_eq_of_mem_set hs with h2 | rfl
 ·exact ⟨s, h2, rfl⟩
 ·exact ⟨l[n], List.getElem_mem hn, by simp [hn]⟩
theorem pst_ok (cl lv m : List Int) (base : Int) {L : List (List Int)} (hr : ∀ r ∈ L, r.length ≤ 1000000 ∧ r ≠ []) : ∀ k, k ≤ L.length → PstOk (pst cl lv m base L k) k := by
 intro k
 induction k with
 | zero => intro _; exact ⟨by simp [pst], fun s hs => by simp [pst] at hs, fun s hs => by simp [pst] at hs, fun x y h => by simp [pst] at h⟩
 | succ k ih =>
  intro hk
  have h1 := ih (by omega)
  have hmem := hr _ (List.getElem_mem (show k < L.length by omega))
  obtain ⟨a1, a2, a3, a4⟩ := seqIn_ok (lv := lv) (base := base) (M := (pst cl lv m base L k).1) (S := (pst cl lv m base L k).2) h1 (by omega) hmem.1 hmem.2
  refine ⟨by rw [pst, setEos_length]; exact a2, fun s hs => ?_, fun s hs => ?_, fun x y hx => ?_⟩
  ·obtain ⟨s', hs', e⟩ := setEos_mem hs a1
   rw [e]; exact (a3 s' hs').1
  ·obtain ⟨s', hs', e⟩ := setEos_mem hs a1
   rw [e]; exact (a3 s' hs').2
  ·rw [pst] at hx ⊢
   simp only [setEos_length] at hx ⊢
   split at hx
   ·simp only at hx
    split at hx
    ·injection hx with hx
     exact ⟨_, hx.symm, a1⟩
    ·exact a4 x y hx
   ·exact a4 x y hx
def ob (B : Nat) (u : Value) : Option Nat := u.ownBlock.filter (fun g => decide (B ≤ g))
theorem ob_ge {B : Nat} {u : Value} {g : Nat} (h : ob B u = some g) : B ≤ g ∧ u.ownBlock = some g := by
 unfold ob at h
 rw [Option.filter_eq_some_iff] at h
 exact ⟨by simpa using h.2, h.1⟩
theorem Own.ob {w : World} {B : Nat} {e : TypeId} {u : Value} {xs : List Value} (h : Own w B e u xs) : ob B u = u.ownBlock := by
 unfold Go.Proofs.YtcbaahlahohfmaaGreatDoor.ob
 cases hu : u.ownBlock with
 | none => rfl
 | some g => simp [(Own.inside h g hu).1]
def ApartB (B : Nat) (u u' : Value) : Prop := ob B u = none ∨ ob B u ≠ ob B u'
theorem ApartB.symm {B : Nat} {u u' : Value} (h : ApartB B u u') : ApartB B u' u := by
 unfold ApartB at *
 cases h1 : ob B u' with
 | none => exact .inl rfl
 | some g =>
  refine .inr fun e => ?_
  rcases h with h | h
  ·rw [h] at e; cases e
  ·exact h (by rw [h1, ← e])
def Mix (w : World) (B : Nat) (e : TypeId) (u : Value) (xs : List Value) : Prop := (∃ A, u = .slice A xs.length xs.length ∧ xs ≠ [] ∧ Lies w B A xs) ∨ Own w B e u xs
section
variable {w w' : World} {B : Nat} {e : TypeId} {u : Value} {xs : List Value}
theorem Mix.ob_full {A : Option Addr} {n c : Nat} (h : Lies w B A xs) (hn : xs ≠ []) : ob B (.slice A n c) = none := by
 obtain ⟨p, rfl, hp, _⟩ := h hn
 unfold ob
 simp [Value.ownBlock]; omega
theorem Mix.keep (h : Mix w B e u xs) {row : Option Nat} (hg : w.grownBy w' row) (hB : B ≤ w.heap.size) (hr : ∀ g, row = some g → B ≤ g) (ha : ob B u = none ∨ ob B u ≠ row) : Mix w' B e u xs := by
 rcases h with ⟨A, rfl, hn, hl⟩ | h
 ·exact .inl ⟨A, rfl, hn, hl.grown hg hB hr⟩
 ·refine .inr (h.keep hg ?_)
  rw [h.ob] at ha; exact ha
theorem Mix.below (h : Mix w B e u xs) {C : Nat} (hb : Below C w w') (hC : w.heap.size ≤ C) (hB : B ≤ C) : Mix w' B e u xs := by
 rcases h with ⟨A, rfl, hn, hl⟩ | h
 ·exact .inl ⟨A, rfl, hn, hl.below (hb.mono hB)⟩
 ·exact .inr (h.below hb hC)
theorem Mix.form (h : Mix w B e u xs) (hB : B ≤ w.heap.size) : ∃ A c, u = .slice A xs.length c ∧ Lies w w.heap.size A xs := by
 rcases h with ⟨A, rfl, hn, hl⟩ | h
 ·exact ⟨A, _, rfl, hl.wider hB⟩
 ·obtain ⟨A, c, hv, hl, _⟩ := h.form
  exact ⟨A, c, hv, hl⟩
end
section
variable {P : Program}
theorem run_app_mix {t e : TypeId} {z : Value} {bytes : Nat} (T : SliceOf P t e z bytes) (ty : TypeId) (W : World) (B B' : Nat) (v : Value) (xs ys : List Value) (A : Option Addr) (c : Nat)
 (hmix : Mix W B e v xs) (hsrc : Lies W B' A ys) (hy : ys ≠ []) (h1 : ∀ u ∈ ys, u.oneCell' = true) (hB : B ≤ W.heap.size)
 (hlen : xs.length + ys.length ≤ maxLen) (hby : (xs.length + ys.length) * bytes ≤ 140737488355328) :
 ∃ v' w', (Builtin.append_ #[t, t] ty #[v, .slice A ys.length c]).run P W = .ok v' w' ∧ Own w' B e v' (xs ++ ys) ∧ W.grownBy w' (ob B v) ∧ (v'.ownBlock = ob B v ∨ v'.ownBlock = some W.heap.size) := by
 rcases hmix with ⟨A0, rfl, hn, hl⟩ | hown
 ·obtain ⟨i, hi, hz0, hz1, hz2⟩ := info_parts T.elem
  obtain ⟨p0, rfl, hp0, hc0⟩ := hl hn
  obtain ⟨p, rfl, _, hc⟩ := hsrc hy
  have hypos := List.length_pos_iff.2 hy
  have hr := run_append_grow (P := P) W t ty e i z T.slice hi hz0 p0 xs.length xs.length xs (by rw [hz1]; simp) hc0 p ys.length c ys (by rw [hz1]; simp) hc (by omega) (by unfold maxLen at hlen; omega) (growslice_fits (by omega) (by rw [hz2]; exact hby))
  have hob : ob B (.slice (some p0) xs.length xs.length) = none := Mix.ob_full hl hn
  rw [hob]
  refine ⟨_, _, hr, ?_, ⟨rfl, rfl, rfl, by simp, fun k hk _ => heap_alloc_old W.drew _ hk⟩, .inr rfl⟩
  unfold Own
  have hge := grownCap_ge W (xs.length + ys.length) xs.length e
  have hcm : grownCap W (xs.length + ys.length) xs.length e ≤ maxLen := grownCap_le_maxLen W (xs.length + ys.length) xs.length e hlen
  rw [List.length_append]
  refine ⟨by simp, .inr ⟨W.heap.size, _, _, rfl, hB, heap_alloc_new W.drew _, hge, hcm, ?_, ?_⟩⟩
  ·simp only [Array.size_append, List.size_toArray, size_zeroCells, T.one]
   omega
  ·simp only [Array.toList_append, List.append_assoc]
   rw [← List.append_assoc, show (xs.length + ys.length) * 1 = (xs ++ ys).length by simp]
   exact List.take_left
 ·rw [hown.ob]
  exact run_app_src T ty W B B' v xs ys A c hown hsrc h1 hB hlen hby
variable {ops : Array Oper} {rest : List Oper} {o : Oper} {a : Act} {Q : Exit → Act → World → Prop}
theorem app_mix {t e : TypeId} {z : Value} {bytes : Nat} (T : SliceOf P t e z bytes) (w0 W : World) (B B' : Nat) (s x : Operand) (v : Value) (xs ys : List Value) (A : Option Addr) (n c : Nat)
 (hw : Region.wanted o (yielded ops a.tmps) = true) (ho : o.op = .call { callee := .builtin .append, args := #[s, x], argTypes := #[t, t] })
 (hs : a.eval s = v) (hx : a.eval x = .slice A n c) (hn : n = ys.length)
 (hmix : Mix W B e v xs) (hsrc : Lies W B' A ys) (hy : ys ≠ []) (h1 : ∀ u ∈ ys, u.oneCell' = true) (hb : Below B w0 W) (hB : B ≤ W.heap.size)
 (hlen : xs.length + ys.length ≤ maxLen) (hby : (xs.length + ys.length) * bytes ≤ 140737488355328)
 (h : ∀ v' w', Own w' B e v' (xs ++ ys) → Below B w0 w' → W.grownBy w' (ob B v) → (v'.ownBlock = ob B v ∨ v'.ownBlock = some W.heap.size) → wpList P ops Q rest (a.put o.dst v') w') :
 wpList P ops Q (o :: rest) a W := by
 subst hn
 refine wpList_step fun K hK => ?_
 rw [if_pos hw]
 obtain ⟨v', w', hr, h2, h3, h4⟩ := run_app_mix T o.type W B B' v xs ys A c hmix hsrc hy h1 hB hlen hby
 unfold Oper.wp execOp
 simp only [ho, resolve, invoke, builtin, Sem.run_bind, Sem.run_pure, Result.andThen_ok, List.map_toArray, List.map_cons, List.map_nil, hs, hx, hr]
 exact hK _ _ (h v' w' h2 (hb.grown h3 hB (fun k hk => (ob_ge hk).1)) h3 h4)
end
end Go.Proofs.YtcbaahlahohfmaaGreatDoor
namespace Go.Proofs.YtcbaahlahohfmaaGreatDoor
open Go.RowKit Go.Maps
theorem sqCells_pl : ∀ (vs : List Value) (L : List Sq) (_ : vs.length = L.length) (n : Nat) (hn : n < L.length) (u : Value) (p : List Int), sqCells (vs.set n u) (L.set n { L[n] with pl := p }) = (sqCells vs L).set (n * 4) u
 | [], [], _, _, hn, _, _ => by simp at hn
 | [], _ :: _, h, _, _, _, _ => by simp at h
 | _ :: _, [], h, _, _, _, _ => by simp at h
 | a :: vs, b :: L, h, 0, _, u, p => by simp [sqCells, Sq.cells]
 | a :: vs, b :: L, h, n + 1, hn, u, p => by
  have hl : (b.cells a).length = 4 := rfl
  have ih := sqCells_pl vs L (by simpa using h) n (by simpa using hn) u p
  simp only [List.set_cons_succ, List.getElem_cons_succ, sqCells, ih]
  rw [List.set_append_right _ _ (by omega), hl, show (n + 1) * 4 - 4 = n * 4 by omega]
theorem sqCells_eos : ∀ (vs : List Value) (L : List Sq) (_ : vs.length = L.length) (n : Nat) (hn : n < L.length) (e : Int), sqCells vs (L.set n { L[n] with eos := e }) = (sqCells vs L).set (n * 4 + 3) (.int .i64 e)
 | [], [], _, _, hn, _ => by simp at hn
 | [], _ :: _, h, _, _, _ => by simp at h
 | _ :: _, [], h, _, _, _ => by simp at h
 | a :: vs, b :: L, h, 0, _, e => by simp [sqCells, Sq.cells]
 | a :: vs, b :: L, h, n + 1, hn, e => by
  have hl : (b.cells a).length = 4 := rfl
  have ih := sqCells_eos vs L (by simpa using h) n (by simpa using hn) e
  simp only [List.set_cons_succ, List.getElem_cons_succ, sqCells, ih]
  rw [List.set_append_right _ _ (by omega), hl, show (n + 1) * 4 + 3 - 4 = n * 4 + 3 by omega]
structure SeqsM (w : World) (B : Nat) (v : Value) (vs : List Value) (L : List Sq) : Prop where
 outer : OwnN w B 49 4 v L.length (sqCells vs L)
 len : vs.length = L.length
 inner : ∀ (j : Nat) (h1 : j < vs.length) (h2 : j < L.length), Mix w B 3 vs[j] (ints .i64 L[j].pl)
 apart : ∀ (i j : Nat) (hi : i < vs.length) (hj : j < vs.length), i ≠ j → ApartB B vs[i] vs[j]
section
variable {w w' w'' : World} {B : Nat} {v : Value} {vs : List Value} {L : List Sq}
theorem SeqsM.empty (w : World) (B : Nat) : SeqsM w B (.slice none 0 0) [] [] := ⟨OwnN.empty _ _ _ _, rfl, fun j h1 => by simp at h1, fun i j h1 => by simp at h1⟩
theorem SeqsM.below (h : SeqsM w B v vs L) {C : Nat} (hb : Below C w w') (hC : w.heap.size ≤ C) (hB : B ≤ C) : SeqsM w' B v vs L :=
 ⟨h.outer.below hb hC, h.len, fun j h1 h2 => (h.inner j h1 h2).below hb hC hB, h.apart⟩
theorem SeqsM.same (h : SeqsM w B v vs L) (hh : w'.heap = w.heap) (h1 : w'.os = w.os) (h2 : w'.tape = w.tape) (h3 : w'.output = w.output) (hB : B ≤ w.heap.size) : SeqsM w' B v vs L :=
 h.below (C := w.heap.size) (below_same (Below.refl _ _) hh h1 h2 h3) (Nat.le_refl _) hB
theorem SeqsM.far (h : SeqsM w B v vs L) {j : Nat} (hj : j < vs.length) : ob B vs[j] = none ∨ ob B vs[j] ≠ v.ownBlock := by
 have hl := h.len
 rcases h.inner j hj (by omega) with ⟨A, e, hn, hla⟩ | ho
 ·rw [e]; exact .inl (Mix.ob_full hla hn)
 ·rw [ho.ob]
  exact OwnN.unlike ho.asN h.outer (by decide)
theorem SeqsM.keep (h : SeqsM w B v vs L) {q : Nat} (hg : w.grownBy w' (some q)) (hB : B ≤ w.heap.size) (hq : B ≤ q) (hv : v.ownBlock ≠ some q) (hi : ∀ (j : Nat) (h1 : j < vs.length), ob B vs[j] ≠ some q) : SeqsM w' B v vs L :=
 ⟨h.outer.keep hg (.inr hv), h.len, fun j h1 h2 => (h.inner j h1 h2).keep hg hB (fun g e => by injection e with e; omega) (.inr (hi j h1)), h.apart⟩
theorem SeqsM.push {v' : Value} {A : Option Addr} {s : Sq} (h : SeqsM w B v vs L) (hB : B ≤ w.heap.size) (hs : Lies w B A (ints .i64 s.pl)) (hne : s.pl ≠ []) (hg : w.grownBy w' v.ownBlock)
 (ho : OwnN w' B 49 4 v' (L.length + 1) (sqCells vs L ++ s.cells (.slice A s.pl.length s.pl.length))) : SeqsM w' B v' (vs ++ [.slice A s.pl.length s.pl.length]) (L ++ [s]) := by
 have hl := h.len
 have hr : ∀ g, v.ownBlock = some g → B ≤ g := fun g e => (h.outer.inside g e).1
 have hsn : ints .i64 s.pl ≠ [] := by simpa [ints] using hne
 have hob : ob B (.slice A s.pl.length s.pl.length) = none := Mix.ob_full hs hsn
 refine ⟨by rw [sqCells_append _ _ _ _ hl, List.length_append, List.length_singleton]; exact ho, by simp [hl], fun j h1 h2 => ?_, fun i j hi hj hij => ?_⟩
 ·by_cases hj : j < vs.length
  ·simp only [List.getElem_append_left hj, List.getElem_append_left (show j < L.length by omega)]
   exact (h.inner j hj (by omega)).keep hg hB hr (h.far hj)
  ·have he : j = L.length := by rw [List.length_append, List.length_singleton] at h2; omega
   subst he
   simp only [List.getElem_append_right (show vs.length ≤ L.length by omega), List.getElem_append_right (Nat.le_refl L.length), Nat.sub_self, show L.length - vs.length = 0 by omega, List.getElem_cons_zero]
   exact .inl ⟨A, by simp [ints], hsn, hs.grown hg hB hr⟩
 ·by_cases h1 : i < vs.length
  ·rw [List.getElem_append_left h1]
   by_cases h2 : j < vs.length
   ·rw [List.getElem_append_left h2]; exact h.apart i j h1 h2 hij
   ·rw [List.getElem_append_right (by omega)]
    have : j - vs.length = 0 := by simp at hj; omega
    simp only [this, List.getElem_cons_zero]
    exact ApartB.symm (.inl hob)
  ·rw [List.getElem_append_right (by omega)]
   have : i - vs.length = 0 := by simp at hi; omega
   simp only [this, List.getElem_cons_zero]
   exact .inl hob
theorem SeqsM.grow {g c n : Nat} {u : Value} {p : List Int} (h : SeqsM w B (.slice (some ⟨g, 0, none⟩) L.length c) vs L) (hB : B ≤ w.heap.size) (hn : n < L.length) (hnv : n < vs.length)
 (hu : Own w' B 3 u (ints .i64 p)) (hg : w.grownBy w' (ob B vs[n])) (hl2 : u.ownBlock = ob B vs[n] ∨ u.ownBlock = some w.heap.size)
 (ho : OwnN w'' B 49 4 (.slice (some ⟨g, 0, none⟩) L.length c) L.length ((sqCells vs L).set (n * 4) u)) (hg2 : w'.grownBy w'' (some g)) :
 SeqsM w'' B (.slice (some ⟨g, 0, none⟩) L.length c) (vs.set n u) (L.set n { L[n] with pl := p }) := by
 have hl := h.len
 have hgi := h.outer.inside g rfl
 have hB' : B ≤ w'.heap.size := Nat.le_trans hB hg.size
 have hug : u.ownBlock ≠ some g := by
  rcases hl2 with e | e
  ·rw [e]
   rcases h.far hnv with h1 | h1
   ·rw [h1]; simp
   ·exact h1
  ·rw [e]; intro e2; injection e2 with e2; omega
 have old : ∀ (j : Nat) (hj : j < vs.length), j ≠ n → Mix w'' B 3 vs[j] (ints .i64 (L[j]'(by omega)).pl) := fun j hj hjn => by
  have h1 := (h.inner j hj (by omega)).keep hg hB (fun q e => (ob_ge e).1) (h.apart j n hj hnv hjn)
  refine h1.keep hg2 hB' (fun q e => by injection e with e; omega) ?_
  rcases h.far hj with h2 | h2
  ·exact .inl h2
  ·exact .inr h2
 refine ⟨by rw [sqCells_pl vs L hl n hn u p, List.length_set]; exact ho, by simp [hl], fun j h1 h2 => ?_, fun i j hi hj hij => ?_⟩
 ·by_cases hjn : j = n
  ·subst hjn
   rw [List.getElem_set_self, List.getElem_set_self]
   exact .inr (hu.keep hg2 (.inr hug))
  ·simp only [List.getElem_set_ne (fun e => hjn e.symm)]
   exact old j (by simpa using h1) hjn
 ·have hi' : i < vs.length := by simpa using hi
  have hj' : j < vs.length := by simpa using hj
  have key : ∀ (j : Nat) (hj : j < vs.length), j ≠ n → ApartB B u vs[j] := fun j hj hjn => by
   have hou : ob B u = u.ownBlock := hu.ob
   rcases hl2 with e | e
   ·have := h.apart n j hnv hj (fun e => hjn e.symm)
    unfold ApartB at *
    rw [hou, e]; exact this
   ·refine .inr fun e2 => ?_
    rw [hou, e] at e2
    have h3 := (ob_ge e2.symm).2
    rcases h.inner j hj (by omega) with ⟨A, ev, hn0, hla⟩ | ho
    ·rw [ev, Mix.ob_full hla hn0] at e2; cases e2
    ·have := (Own.inside ho _ h3).2; omega
  by_cases h1 : i = n
  ·subst h1
   rw [List.getElem_set_self, List.getElem_set_ne hij]
   exact key j hj' (fun e => hij e.symm)
  ·by_cases h2 : j = n
   ·subst h2
    rw [List.getElem_set_self, List.getElem_set_ne (fun e => h1 e.symm)]
    exact (key i hi' h1).symm
   ·rw [List.getElem_set_ne (fun e => h1 e.symm), List.getElem_set_ne (fun e => h2 e.symm)]
    exact h.apart i j hi' hj' hij
theorem SeqsM.eos {g c n : Nat} {e : Int} (h : SeqsM w B (.slice (some ⟨g, 0, none⟩) L.length c) vs L) (hB : B ≤ w.heap.size) (hn : n < L.length)
 (ho : OwnN w' B 49 4 (.slice (some ⟨g, 0, none⟩) L.length c) L.length ((sqCells vs L).set (n * 4 + 3) (.int .i64 e))) (hg : w.grownBy w' (some g)) :
 SeqsM w' B (.slice (some ⟨g, 0, none⟩) L.length c) vs (L.set n { L[n] with eos := e }) := by
 have hl := h.len
 have hgi := h.outer.inside g rfl
 refine ⟨by rw [sqCells_eos vs L hl n hn e, List.length_set]; exact ho, by simp [hl], fun j h1 h2 => ?_, h.apart⟩
 have hp : ((L.set n { L[n] with eos := e })[j]).pl = (L[j]'(by simpa using h2)).pl := by
  by_cases hjn : n = j
  ·subst hjn; rw [List.getElem_set_self]
  ·rw [List.getElem_set_ne hjn]
 rw [hp]
 refine (h.inner j h1 (by simpa using h2)).keep hg hB (fun q e => by injection e with e; omega) ?_
 rcases h.far h1 with h2 | h2
 ·exact .inl h2
 ·exact .inr h2
theorem SeqsM.read (h : SeqsM w B v vs L) (hB : B ≤ w.heap.size) : ∃ A c, v = .slice A L.length c ∧ SeqsR w A L vs := by
 obtain ⟨A, c, hv, hl, _, _⟩ := h.outer.form
 refine ⟨A, c, hv, h.len, hl, fun j h1 h2 => ?_⟩
 obtain ⟨Aj, cj, e, hj⟩ := (h.inner j h1 h2).form hB
 rw [ints, List.length_map] at e
 exact ⟨Aj, cj, e, hj⟩
theorem SeqsM.cellAt {g c n : Nat} (h : SeqsM w B (.slice (some ⟨g, 0, none⟩) L.length c) vs L) (hn : n < L.length) (hnv : n < vs.length) : w.cell? ⟨g, n * 4, none⟩ = some vs[n] := by
 have h1 := World.ownsRow.cellAt h.outer (n * 4) (by omega)
 rw [h1]
 have h2 := sqCells_get vs L h.len n hn 0 (by omega)
 simpa [Sq.cells] using h2
end
theorem MapAt.ne {w : World} {b n : Nat} {M : Int → Option Int} (h : MapAt w b n M) {B : Nat} {e : TypeId} {s k : Nat} {v : Value} {xs : List Value} (ho : OwnN w B e s v k xs) : v.ownBlock ≠ some b := by
 obtain ⟨D, ⟨es, clock, hb, _⟩, _⟩ := h
 rcases ho.2 with ⟨rfl, _⟩ | ⟨g, cap, cur, rfl, _, hh, _⟩
 ·simp [Value.ownBlock]
 ·intro e
  have : g = b := by simpa [Value.ownBlock] using e
  subst this
  rw [hb] at hh
  cases hh
theorem MapAt.neAt {w : World} {b n : Nat} {M : Int → Option Int} (h : MapAt w b n M) {B : Nat} {e : TypeId} {u : Value} {xs : List Value} (ho : Mix w B e u xs) : ob B u ≠ some b := by
 rcases ho with ⟨A, rfl, hn, hl⟩ | ho
 ·rw [Mix.ob_full hl hn]; simp
 ·rw [ho.ob]; exact h.ne ho.asN
section
variable {w : World} {b n : Nat} {M : Int → Option Int} {ops : Array Oper} {rest : List Oper} {o : Oper} {a : Act} {Q : Exit → Act → World → Prop}
theorem look_some (hg : o.guard = none) {t : TypeId} {m x : Operand} (hop : o.op = Op.lookup t m x true) (ht : Tryz.prog.underlying t = some (.map 3 3))
 (hm : a.eval m = .map (some b)) (h : MapAt w b n M) {k y : Int} (hx : a.eval x = .int .i64 k) (hk : (Lit.int .i64 k).wf = true) (hM : M k = some y)
 (hK : wpList Tryz.prog ops Q rest (a.put o.dst (.tuple #[.int .i64 y, .bool true])) w) : wpList Tryz.prog ops Q (o :: rest) a w := by
 obtain ⟨D, hown, hR⟩ := h
 refine wpList_lookup_own_ok_int w hg m x t hop 3 3 .i64 keyI ht Tryz.underlying3 (by go_simp) b n D hm hown _ (.int .i64 k) hx (keyOf_int_mk Tryz.underlying3 hk) ?_
 intro c hc _
 have h1 := hR.2 k
 rw [hM] at h1
 rw [h1] at hc
 injection hc with hc
 injection hc with _ hc
 subst hc
 rw [hR.has hM]
 exact hK
theorem look_none (hg : o.guard = none) {t : TypeId} {m x : Operand} (hop : o.op = Op.lookup t m x true) (ht : Tryz.prog.underlying t = some (.map 3 3))
 (hm : a.eval m = .map (some b)) (h : MapAt w b n M) {k : Int} (hx : a.eval x = .int .i64 k) (hk : (Lit.int .i64 k).wf = true) (hM : M k = none)
 (hK : ∀ c : Int, wpList Tryz.prog ops Q rest (a.put o.dst (.tuple #[.int .i64 c, .bool false])) w) : wpList Tryz.prog ops Q (o :: rest) a w := by
 obtain ⟨D, hown, hR⟩ := h
 refine wpList_lookup_own_ok_int w hg m x t hop 3 3 .i64 keyI ht Tryz.underlying3 (by go_simp) b n D hm hown _ (.int .i64 k) hx (keyOf_int_mk Tryz.underlying3 hk) ?_
 intro c hc _
 have h1 := hR.2 k
 rw [hM] at h1
 rw [h1]
 exact hK c
end
end Go.Proofs.YtcbaahlahohfmaaGreatDoor
