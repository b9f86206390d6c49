/- Layer 8: what the program's Of goes through, plainly; sequences whose places are a run's own slice, as yet, or a row of one's own. -/
import Derived.Test.YtajgjloailliiaaSqT
namespace Go.Proofs.Ytajgjloailliiaa
open Go.RowKit

def sqZ : Sq := ⟨[], 0, 0, 0⟩
/-- a sequence has a run more -/
def addPl (l : List Sq) (n : Nat) (r : List Int) : List Sq := l.set n { l.getD n sqZ with pl := (l.getD n sqZ).pl ++ r }
def setEos (l : List Sq) (n : Nat) (e : Int) : List Sq := l.set n { l.getD n sqZ with eos := e }
theorem addPl_length (l : List Sq) (n : Nat) (r : List Int) : (addPl l n r).length = l.length := by simp [addPl]
theorem setEos_length (l : List Sq) (n : Nat) (e : Int) : (setEos l n e).length = l.length := by simp [setEos]
/-- where the isolate of a run's last place ends, or begins -/
def otherI (m : List Int) (r : List Int) : Int := m.getD (lastI r).toNat 0
def sosW (lv : List Int) (base : Int) (L : List (List Int)) (k : Nat) : Int := dirL (max (levW lv base L k) (levW lv base L ((k : Int) - 1)))
def eosW (cl lv : List Int) (base : Int) (L : List (List Int)) (k : Nat) : Int := dirL (max (levW lv base L k) (behW lv base L k (cl.getD (lastI (L.getD k [])).toNat 0)))
/-- the sequence of run k, and all of them with it -/
def seqAt (M : Int → Option Int) (S : List Sq) (r : List Int) : Nat := match M (headI r) with
  | some n => n.toNat
  | none => S.length
def seqIn (lv : List Int) (base : Int) (L : List (List Int)) (k : Nat) (M : Int → Option Int) (S : List Sq) : List Sq := match M (headI (L.getD k [])) with
  | some n => addPl S n.toNat (L.getD k [])
  | none => S ++ [⟨L.getD k [], levW lv base L k, sosW lv base L k, 0⟩]
/-- the first k runs: which sequence waits for a place, and the sequences -/
def pst (cl lv m : List Int) (base : Int) (L : List (List Int)) : Nat → (Int → Option Int) × List Sq
  | 0 => (fun _ => none, [])
  | k + 1 =>
    let st := pst cl lv m base L k
    let n := seqAt st.1 st.2 (L.getD k [])
    (if lastI (L.getD k []) < otherI m (L.getD k []) then fun x => if x = otherI m (L.getD k []) then some (n : Int) else st.1 x else st.1,
      setEos (seqIn lv base L k st.1 st.2) n (eosW cl lv base L k))
structure PstOk (st : (Int → Option Int) × List Sq) (k : Nat) : Prop where
  len : st.2.length ≤ k
  pl : ∀ s ∈ st.2, s.pl.length ≤ k * 1000000
  ne : ∀ s ∈ st.2, s.pl ≠ []
  at' : ∀ x y, st.1 x = some y → ∃ n : Nat, y = n ∧ n < st.2.length
theorem seqIn_ok {lv : List Int} {base : Int} {L : List (List Int)} {k : Nat} {M : Int → Option Int} {S : List Sq} (h : PstOk (M, S) k) (hk : k < L.length) (hr : L[k].length ≤ 1000000) (hne : L[k] ≠ []) :
    seqAt M S (L.getD k []) < (seqIn lv base L k M S).length ∧ (seqIn lv base L k M S).length ≤ k + 1 ∧ (∀ s ∈ seqIn lv base L k M S, s.pl.length ≤ (k + 1) * 1000000 ∧ s.pl ≠ []) ∧ ∀ x y, M x = some y → ∃ n : Nat, y = n ∧ n < (seqIn lv base L k M S).length := by
  have hg : L.getD k [] = L[k] := by simp [hk]
  have h1 := h.len
  have hmul : (k + 1) * 1000000 = k * 1000000 + 1000000 := by rw [Nat.add_mul, Nat.one_mul]
  have h1' : S.length ≤ k := h1
  rw [hg]
  cases hm : M (headI L[k]) with
  | some y =>
    obtain ⟨n, rfl, hn⟩ := h.at' _ _ hm
    have e1 : seqAt M S L[k] = n := by rw [seqAt, hm]; simp
    have e2 : seqIn lv base L k M S = addPl S n L[k] := by rw [seqIn, hg, hm]; simp
    have hn' : n < S.length := hn
    rw [e1, e2, addPl_length]
    refine ⟨hn, by omega, fun s hs => ?_, fun x y hx => by obtain ⟨q, a, b⟩ := h.at' _ _ hx; exact ⟨q, a, b⟩⟩
    rw [addPl] at hs
    rcases List.mem_or_eq_of_mem_set hs with h2 | rfl
    · exact ⟨Nat.le_trans (h.pl s h2) (Nat.mul_le_mul_right _ (Nat.le_succ k)), h.ne s h2⟩
    · have hs2 : S.getD n sqZ = S[n] := by simp [hn']
      have := h.pl S[n] (List.getElem_mem hn')
      rw [hs2]
      exact ⟨by rw [List.length_append]; omega, by simp [hne]⟩
  | none =>
    have e1 : seqAt M S L[k] = S.length := by rw [seqAt, hm]
    have e2 : seqIn lv base L k M S = S ++ [⟨L[k], levW lv base L k, sosW lv base L k, 0⟩] := by rw [seqIn, hg, hm]
    rw [e1, e2, List.length_append, List.length_singleton]
    refine ⟨by omega, by omega, fun s hs => ?_, fun x y hx => by obtain ⟨q, a, b⟩ := h.at' _ _ hx; have b' : q < S.length := b; exact ⟨q, a, by omega⟩⟩
    rcases List.mem_append.1 hs with h2 | h2
    · exact ⟨Nat.le_trans (h.pl s h2) (Nat.mul_le_mul_right _ (Nat.le_succ k)), h.ne s h2⟩
    · rw [List.mem_singleton.1 h2]
      exact ⟨by show L[k].length ≤ _; omega, hne⟩
theorem setEos_mem {l : List Sq} {n : Nat} {e : Int} {s : Sq} (hs : s ∈ setEos l n e) (hn : n < l.length) : ∃ s' ∈ l, s.pl = s'.pl := by
  rw [setEos] at hs
  rcases List.mem_or_eq_of_mem_set hs with h2 | rfl
  · exact ⟨s, h2, rfl⟩
  · exact ⟨l[n], List.getElem_mem hn, by simp [hn]⟩
theorem pst_ok (cl lv m : List Int) (base : Int) {L : List (List Int)} (hr : ∀ r ∈ L, r.length ≤ 1000000 ∧ r ≠ []) : ∀ k, k ≤ L.length → PstOk (pst cl lv m base L k) k := by
  intro k
  induction k with
  | zero => intro _; exact ⟨by simp [pst], fun s hs => by simp [pst] at hs, fun s hs => by simp [pst] at hs, fun x y h => by simp [pst] at h⟩
  | succ k ih =>
    intro hk
    have h1 := ih (by omega)
    have hmem := hr _ (List.getElem_mem (show k < L.length by omega))
    obtain ⟨a1, a2, a3, a4⟩ := seqIn_ok (lv := lv) (base := base) (M := (pst cl lv m base L k).1) (S := (pst cl lv m base L k).2) h1 (by omega) hmem.1 hmem.2
    refine ⟨by rw [pst, setEos_length]; exact a2, fun s hs => ?_, fun s hs => ?_, fun x y hx => ?_⟩
    · obtain ⟨s', hs', e⟩ := setEos_mem hs a1
      rw [e]; exact (a3 s' hs').1
    · obtain ⟨s', hs', e⟩ := setEos_mem hs a1
      rw [e]; exact (a3 s' hs').2
    · rw [pst] at hx ⊢
      simp only [setEos_length] at hx ⊢
      split at hx
      · simp only at hx
        split at hx
        · injection hx with hx
          exact ⟨_, hx.symm, a1⟩
        · exact a4 x y hx
      · exact a4 x y hx

/-- the block of a slice, if it is one of those from B on -/
def ob (B : Nat) (u : Value) : Option Nat := u.ownBlock.filter (fun g => decide (B ≤ g))
theorem ob_ge {B : Nat} {u : Value} {g : Nat} (h : ob B u = some g) : B ≤ g ∧ u.ownBlock = some g := by
  unfold ob at h
  rw [Option.filter_eq_some_iff] at h
  exact ⟨by simpa using h.2, h.1⟩
theorem Own.ob {w : World} {B : Nat} {e : TypeId} {u : Value} {xs : List Value} (h : Own w B e u xs) : ob B u = u.ownBlock := by
  unfold Go.Proofs.Ytajgjloailliiaa.ob
  cases hu : u.ownBlock with
  | none => rfl
  | some g => simp [(Own.inside h g hu).1]
def ApartB (B : Nat) (u u' : Value) : Prop := ob B u = none ∨ ob B u ≠ ob B u'
theorem ApartB.symm {B : Nat} {u u' : Value} (h : ApartB B u u') : ApartB B u' u := by
  unfold ApartB at *
  cases h1 : ob B u' with
  | none => exact .inl rfl
  | some g =>
    refine .inr fun e => ?_
    rcases h with h | h
    · rw [h] at e; cases e
    · exact h (by rw [h1, ← e])
/-- a slice that is full and lies ahead of B, or a row of one's own -/
def Mix (w : World) (B : Nat) (e : TypeId) (u : Value) (xs : List Value) : Prop := (∃ A, u = .slice A xs.length xs.length ∧ xs ≠ [] ∧ Lies w B A xs) ∨ Own w B e u xs
section
variable {w w' : World} {B : Nat} {e : TypeId} {u : Value} {xs : List Value}
theorem Mix.ob_full {A : Option Addr} {n c : Nat} (h : Lies w B A xs) (hn : xs ≠ []) : ob B (.slice A n c) = none := by
  obtain ⟨p, rfl, hp, _⟩ := h hn
  unfold ob
  simp [Value.ownBlock]; omega
theorem Mix.keep (h : Mix w B e u xs) {row : Option Nat} (hg : w.grownBy w' row) (hB : B ≤ w.heap.size) (hr : ∀ g, row = some g → B ≤ g) (ha : ob B u = none ∨ ob B u ≠ row) : Mix w' B e u xs := by
  rcases h with ⟨A, rfl, hn, hl⟩ | h
  · exact .inl ⟨A, rfl, hn, hl.grown hg hB hr⟩
  · refine .inr (h.keep hg ?_)
    rw [h.ob] at ha; exact ha
theorem Mix.below (h : Mix w B e u xs) {C : Nat} (hb : Below C w w') (hC : w.heap.size ≤ C) (hB : B ≤ C) : Mix w' B e u xs := by
  rcases h with ⟨A, rfl, hn, hl⟩ | h
  · exact .inl ⟨A, rfl, hn, hl.below (hb.mono hB)⟩
  · exact .inr (h.below hb hC)
theorem Mix.form (h : Mix w B e u xs) (hB : B ≤ w.heap.size) : ∃ A c, u = .slice A xs.length c ∧ Lies w w.heap.size A xs := by
  rcases h with ⟨A, rfl, hn, hl⟩ | h
  · exact ⟨A, _, rfl, hl.wider hB⟩
  · obtain ⟨A, c, hv, hl, _⟩ := h.form
    exact ⟨A, c, hv, hl⟩
end
section
variable {P : Program}
/-- append to such a slice -/
theorem run_app_mix {t e : TypeId} {z : Value} {bytes : Nat} (T : SliceOf P t e z bytes) (ty : TypeId) (W : World) (B B' : Nat) (v : Value) (xs ys : List Value) (A : Option Addr) (c : Nat)
    (hmix : Mix W B e v xs) (hsrc : Lies W B' A ys) (hy : ys ≠ []) (h1 : ∀ u ∈ ys, u.oneCell' = true) (hB : B ≤ W.heap.size)
    (hlen : xs.length + ys.length ≤ maxLen) (hby : (xs.length + ys.length) * bytes ≤ 140737488355328) :
    ∃ v' w', (Builtin.append_ #[t, t] ty #[v, .slice A ys.length c]).run P W = .ok v' w' ∧ Own w' B e v' (xs ++ ys) ∧ W.grownBy w' (ob B v) ∧ (v'.ownBlock = ob B v ∨ v'.ownBlock = some W.heap.size) := by
  rcases hmix with ⟨A0, rfl, hn, hl⟩ | hown
  · obtain ⟨i, hi, hz0, hz1, hz2⟩ := info_parts T.elem
    obtain ⟨p0, rfl, hp0, hc0⟩ := hl hn
    obtain ⟨p, rfl, _, hc⟩ := hsrc hy
    have hypos := List.length_pos_iff.2 hy
    have hr := run_append_grow (P := P) W t ty e i z T.slice hi hz0 p0 xs.length xs.length xs (by rw [hz1]; simp) hc0 p ys.length c ys (by rw [hz1]; simp) hc (by omega) (by unfold maxLen at hlen; omega) (growslice_fits (by omega) (by rw [hz2]; exact hby))
    have hob : ob B (.slice (some p0) xs.length xs.length) = none := Mix.ob_full hl hn
    rw [hob]
    refine ⟨_, _, hr, ?_, ⟨rfl, rfl, rfl, by simp, fun k hk _ => heap_alloc_old W.drew _ hk⟩, .inr rfl⟩
    unfold Own
    have hge := grownCap_ge W (xs.length + ys.length) xs.length e
    have hcm : grownCap W (xs.length + ys.length) xs.length e ≤ maxLen := grownCap_le_maxLen W (xs.length + ys.length) xs.length e hlen
    rw [List.length_append]
    refine ⟨by simp, .inr ⟨W.heap.size, _, _, rfl, hB, heap_alloc_new W.drew _, hge, hcm, ?_, ?_⟩⟩
    · simp only [Array.size_append, List.size_toArray, size_zeroCells, T.one]
      omega
    · simp only [Array.toList_append, List.append_assoc]
      rw [← List.append_assoc, show (xs.length + ys.length) * 1 = (xs ++ ys).length by simp]
      exact List.take_left
  · rw [hown.ob]
    exact run_app_src T ty W B B' v xs ys A c hown hsrc h1 hB hlen hby
variable {ops : Array Oper} {rest : List Oper} {o : Oper} {a : Act} {Q : Exit → Act → World → Prop}
theorem app_mix {t e : TypeId} {z : Value} {bytes : Nat} (T : SliceOf P t e z bytes) (w0 W : World) (B B' : Nat) (s x : Operand) (v : Value) (xs ys : List Value) (A : Option Addr) (n c : Nat)
    (hw : Region.wanted o (yielded ops a.tmps) = true) (ho : o.op = .call { callee := .builtin .append, args := #[s, x], argTypes := #[t, t] })
    (hs : a.eval s = v) (hx : a.eval x = .slice A n c) (hn : n = ys.length)
    (hmix : Mix W B e v xs) (hsrc : Lies W B' A ys) (hy : ys ≠ []) (h1 : ∀ u ∈ ys, u.oneCell' = true) (hb : Below B w0 W) (hB : B ≤ W.heap.size)
    (hlen : xs.length + ys.length ≤ maxLen) (hby : (xs.length + ys.length) * bytes ≤ 140737488355328)
    (h : ∀ v' w', Own w' B e v' (xs ++ ys) → Below B w0 w' → W.grownBy w' (ob B v) → (v'.ownBlock = ob B v ∨ v'.ownBlock = some W.heap.size) → wpList P ops Q rest (a.put o.dst v') w') :
    wpList P ops Q (o :: rest) a W := by
  subst hn
  refine wpList_step fun K hK => ?_
  rw [if_pos hw]
  obtain ⟨v', w', hr, h2, h3, h4⟩ := run_app_mix T o.type W B B' v xs ys A c hmix hsrc hy h1 hB hlen hby
  unfold Oper.wp execOp
  simp only [ho, resolve, invoke, builtin, Sem.run_bind, Sem.run_pure, Result.andThen_ok, List.map_toArray, List.map_cons, List.map_nil, hs, hx, hr]
  exact hK _ _ (h v' w' h2 (hb.grown h3 hB (fun k hk => (ob_ge hk).1)) h3 h4)
/-- a store of one cell into a row whose elements have several -/
theorem store_cellN {t e : TypeId} {size : Nat} (W : World) (B : Nat) (x y : Operand) (g j c n : Nat) (u : Value) (xs : List Value) (w0 : World)
    (hgd : o.guard = none) (hd : o.dst = none) (ho : o.op = .store t x y) (ht : (P.info? t).map (·.size) = some 1) (hu : u.oneCell' = true) (hx : a.eval x = .pointer (some ⟨g, j, none⟩)) (hy : a.eval y = u) (hr : OwnN W B e size (.slice (some ⟨g, 0, none⟩) n c) n xs) (hj : j < n * size) (hb : Below B w0 W)
    (h : ∀ w', OwnN w' B e size (.slice (some ⟨g, 0, none⟩) n c) n (xs.set j u) → Below B w0 w' → W.grownBy w' (some g) → wpList P ops Q rest a w') : wpList P ops Q (o :: rest) a W := by
  refine wpList_plain hgd fun K hK => ?_
  have hjl : j < xs.length := by rw [hr.1]; exact hj
  have hcell : W.cell? ⟨g, j, none⟩ = some xs[j] := by
    have := World.ownsRow.cellAt hr j hj
    rw [this, List.getElem?_eq_getElem hjl]
  have hfree : W.frozen? ⟨g, j, none⟩ = false := World.ownsRow.frozenAt hr j
  have hst := World.ownsRow.stored hr j u
  have hin := (OwnN.inside hr) g rfl
  obtain ⟨i, hi, hz1⟩ : ∃ i, P.info? t = some i ∧ i.size = 1 := by
    cases hh : P.info? t with
    | none => rw [hh] at ht; cases ht
    | some i => rw [hh] at ht; exact ⟨i, rfl, by simpa using ht⟩
  unfold Oper.wp
  obtain ⟨dst, op, ty, pos, after, guard⟩ := o
  obtain rfl : dst = none := hd
  obtain rfl : op = .store t x y := ho
  simp [execOp, hx, hy, Instr.storeAt, Instr.sureAddr]
  cases u with
  | agg cs => cases hu
  | tuple cs => cases hu
  | _ =>
    all_goals
      go_simp
      simp only [sizeOf, typeInfo, Sem.run_bind, Sem.run_pure]
      go_simp
      first
        | exact hK _ _ (h _ hst.1 (hb.setCell hin.1 _) hst.2)
        | (rw [run_store P W _ _ _ rfl]; simp only [hcell, hfree]; exact hK _ _ (h _ hst.1 (hb.setCell hin.1 _) hst.2))
end
end Go.Proofs.Ytajgjloailliiaa
