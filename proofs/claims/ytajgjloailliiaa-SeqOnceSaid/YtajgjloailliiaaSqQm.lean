/- Layer 8: plain: what the program's Of goes through ends with the document's sequences. -/
import Derived.Test.YtajgjloailliiaaSqQ
import Derived.Test.YtajgjloailliiaaSqSm
namespace Go.Proofs.Ytajgjloailliiaa
open Go.RowKit

section
variable {cl lv : List Int} {u : Nat → Nat} {L : List (List Int)}
/-- runs begin at unlike places -/
theorem head_inj (h : Split cl lv (seenI cl) (seenQ cl).length L u) {i j : Nat} (hi : i < L.length) (hj : j < L.length) (e : headI L[i] = headI L[j]) : i = j := by
  obtain ⟨x1, y1⟩ := h.head hi
  obtain ⟨x2, y2⟩ := h.head hj
  rw [y1, y2] at e
  have hx := seenQ_inj cl x1 x2 (by omega)
  rcases Nat.lt_trichotomy i j with hh | hh | hh
  · have := h.lt (i := i) (j := j) hh (by omega); omega
  · exact hh
  · have := h.lt (i := j) (j := i) hh (by omega); omega
/-- a run waits for the place that one begins with, just where it goes on in that one -/
theorem goes_on (h : Split cl lv (seenI cl) (seenQ cl).length L u) {i k : Nat} (hi : i < L.length) (hk : k < L.length) :
    (lastI L[i] < otherI (mt cl) L[i] ∧ headI L[k] = otherI (mt cl) L[i]) ↔ nextI cl (mt cl) L i = (k : Int) := by
  obtain ⟨hx, hl⟩ := h.last hi
  have hg : L.getD i [] = L[i] := by simp [hi]
  have hp := (seenQ_at cl hx).1
  have hm := minv cl cl.length (Nat.le_refl _)
  have ho : otherI (mt cl) L[i] = mf cl (seenQ cl)[u (i + 1) - 1] := by rw [otherI, hl, Int.toNat_natCast, mt_at cl hp]
  have hn : nextI cl (mt cl) L i = if isOpens (at0 cl (seenQ cl)[u (i + 1) - 1]) = false ∨ mf cl (seenQ cl)[u (i + 1) - 1] < 0 then -1 else firstAt L (mf cl (seenQ cl)[u (i + 1) - 1]) := by
    rw [nextI, hg, hl, Int.toNat_natCast, at0_getD, mt_at cl hp]
  rw [ho, hn, hl]
  generalize (seenQ cl)[u (i + 1) - 1] = p at hp
  constructor
  · rintro ⟨h1, h2⟩
    have hop : isOpens (at0 cl p) = true := by
      cases hh : isOpens (at0 cl p) with
      | true => rfl
      | false =>
        rcases hm.cl p hp hh with e | ⟨a, e, h3, _⟩
        · have e' : mf cl p = -1 := e
          omega
        · have e' : mf cl p = (a : Int) := e
          omega
    rw [if_neg (by rintro (h3 | h3); · rw [hop] at h3; cases h3
                   · omega)]
    exact firstAt_some hk h2 (fun j hj e => by have := head_inj h (show j < L.length by omega) hk (by rw [e, h2]); omega)
  · intro h1
    split at h1
    · omega
    · rename_i hno
      have hop : isOpens (at0 cl p) = true := by
        cases hh : isOpens (at0 cl p) with
        | true => rfl
        | false => exact absurd (.inl hh) hno
      rcases firstAt_range L (mf cl p) with e | ⟨k', e, hk', e2⟩
      · omega
      · obtain rfl : k = k' := by omega
        refine ⟨?_, e2⟩
        rcases hm.op p hp hop with e3 | ⟨b, hb⟩
        · exact absurd (.inr (by rw [show mf cl p = -1 from e3]; decide)) hno
        · have e4 : mf cl p = (b : Int) := hb.fa
          have := hb.lt
          omega
end

section
variable {cl m : List Int} {L : List (List Int)}
/-- a run is in one chain alone of those that begin a sequence -/
theorem root_one (h : Onward cl m L) (hO : Once cl m L) : ∀ j i i', i < L.length → i' < L.length → goneN cl m L L.length i = false → goneN cl m L L.length i' = false → j ∈ idxI cl m L i → j ∈ idxI cl m L i' → i = i' := by
  intro j
  induction j using Nat.strongRecOn with
  | _ j ih =>
    intro i i' hi hi' g g' hj hj'
    obtain ⟨_, _, a3, _⟩ := (idx_mem h (L.length - i) i hi (Nat.le_refl _)).2 j hj
    obtain ⟨_, _, b3, _⟩ := (idx_mem h (L.length - i') i' hi' (Nat.le_refl _)).2 j hj'
    rcases a3 with rfl | ⟨x, hx, nx⟩
    · rcases b3 with rfl | ⟨y, hy, ny⟩
      · rfl
      · have hyl := ((idx_mem h (L.length - i') i' hi' (Nat.le_refl _)).2 y hy).2.1
        have := (gone_iff cl m L j).2 ⟨y, hyl, ny⟩
        rw [g] at this; cases this
    · have hxl := ((idx_mem h (L.length - i) i hi (Nat.le_refl _)).2 x hx).2.1
      rcases b3 with rfl | ⟨y, hy, ny⟩
      · have := (gone_iff cl m L j).2 ⟨x, hxl, nx⟩
        rw [g'] at this; cases this
      · have hyl := ((idx_mem h (L.length - i') i' hi' (Nat.le_refl _)).2 y hy).2.1
        obtain rfl := hO x y j hxl hyl nx ny
        have hlt : x < j := by
          rcases h x hxl with e | ⟨k', e, e2, _⟩
          · rw [e] at nx; omega
          · rw [e] at nx; omega
        exact ih x hlt i i' hi hi' g g' hx hy
/-- of a rising list those below k + 1 -/
theorem below_one {l : List Nat} (h : l.Pairwise (· < ·)) (k : Nat) : (k ∈ l → l.filter (fun j => decide (j < k + 1)) = l.filter (fun j => decide (j < k)) ++ [k]) ∧ (k ∉ l → l.filter (fun j => decide (j < k + 1)) = l.filter (fun j => decide (j < k))) := by
  induction l with
  | nil => simp
  | cons a l ih =>
    obtain ⟨h1, h2⟩ := List.pairwise_cons.1 h
    obtain ⟨i1, i2⟩ := ih h2
    constructor
    · intro hk
      rcases List.mem_cons.1 hk with rfl | hk
      · have e1 : l.filter (fun j => decide (j < k + 1)) = [] := List.filter_eq_nil_iff.2 fun x hx => by have := h1 x hx; simp; omega
        have e2 : l.filter (fun j => decide (j < k)) = [] := List.filter_eq_nil_iff.2 fun x hx => by have := h1 x hx; simp; omega
        rw [List.filter_cons, List.filter_cons, e1, e2, if_pos (by simp), if_neg (by simp)]; rfl
      · have := h1 k hk
        rw [List.filter_cons, List.filter_cons, i1 hk, if_pos (by simp; omega), if_pos (by simp; omega)]; rfl
    · intro hk
      have hak : a ≠ k := fun e => hk (e ▸ List.mem_cons_self)
      have hkl : k ∉ l := fun e => hk (List.mem_cons_of_mem _ e)
      rw [List.filter_cons, List.filter_cons, i2 hkl]
      by_cases ha : a < k
      · rw [if_pos (by simp; omega), if_pos (by simpa using ha)]
      · rw [if_neg (by simp; omega), if_neg (by simpa using ha)]
/-- the runs of a chain, of the first k -/
def idxP (cl m : List Int) (L : List (List Int)) (k i : Nat) : List Nat := (idxI cl m L i).filter fun j => decide (j < k)
/-- the sequence of the chain of run i, as far as the first k -/
def part (cl lv m : List Int) (base : Int) (L : List (List Int)) (k i : Nat) : Sq :=
  ⟨(idxP cl m L k i).flatMap (fun j => L.getD j []), levW lv base L i, sosW lv base L i, eosW cl lv base L ((idxP cl m L k i).getLastD 0)⟩
theorem part_keep {lv : List Int} {base : Int} (h : Onward cl m L) {k i : Nat} (hi : i < L.length) (hk : k ∉ idxI cl m L i) : part cl lv m base L (k + 1) i = part cl lv m base L k i := by
  have e : idxP cl m L (k + 1) i = idxP cl m L k i := (below_one (idx_mem h (L.length - i) i hi (Nat.le_refl _)).1 k).2 hk
  rw [part, part, e]
theorem part_more {lv : List Int} {base : Int} (h : Onward cl m L) {k i : Nat} (hi : i < L.length) (hk : k ∈ idxI cl m L i) :
    part cl lv m base L (k + 1) i = { part cl lv m base L k i with pl := (part cl lv m base L k i).pl ++ L.getD k [], eos := eosW cl lv base L k } := by
  have e : idxP cl m L (k + 1) i = idxP cl m L k i ++ [k] := (below_one (idx_mem h (L.length - i) i hi (Nat.le_refl _)).1 k).1 hk
  simp only [part, e, List.flatMap_append, List.flatMap_cons, List.flatMap_nil, List.append_nil, List.getLastD_concat]
theorem part_new {lv : List Int} {base : Int} (h : Onward cl m L) {k : Nat} (hk : k < L.length) : part cl lv m base L (k + 1) k = ⟨L.getD k [], levW lv base L k, sosW lv base L k, eosW cl lv base L k⟩ := by
  have hm := idx_mem h (L.length - k) k hk (Nat.le_refl _)
  have e0 : idxP cl m L k k = [] := List.filter_eq_nil_iff.2 fun x hx => by have := (hm.2 x hx).1; simp; omega
  have e : idxP cl m L (k + 1) k = [k] := by
    have := (below_one hm.1 k).1 (idx_self h hk)
    rw [idxP, this, ← idxP, e0]; rfl
  simp only [part, e, List.flatMap_cons, List.flatMap_nil, List.append_nil]
  rfl
theorem starts_lt {k : Nat} : (startsN cl m L k).Pairwise (· < ·) := List.Pairwise.filter _ List.pairwise_lt_range
theorem starts_gone {k : Nat} (hg : goneN cl m L L.length k = true) : startsN cl m L (k + 1) = startsN cl m L k := by
  unfold startsN
  rw [List.range_succ, List.filter_append]
  simp [hg]
theorem starts_new {k : Nat} (hg : goneN cl m L L.length k = false) : startsN cl m L (k + 1) = startsN cl m L k ++ [k] := by
  unfold startsN
  rw [List.range_succ, List.filter_append]
  simp [hg]
end

/-- what holds of the first k runs -/
structure Half (cl lv m : List Int) (base : Int) (L : List (List Int)) (k : Nat) : Prop where
  seqs : (pst cl lv m base L k).2 = (startsN cl m L k).map (part cl lv m base L k)
  waits : ∀ (j : Nat), j < k → ∀ (k' : Nat) (_ : k' < L.length), nextI cl m L j = (k' : Int) → ∃ n i : Nat, (pst cl lv m base L k).1 (headI (L.getD k' [])) = some (n : Int) ∧ (startsN cl m L k)[n]? = some i ∧ j ∈ idxI cl m L i
  just : ∀ (k' : Nat) (_ : k' < L.length) (y : Int), (pst cl lv m base L k).1 (headI (L.getD k' [])) = some y → ∃ j, j < k ∧ nextI cl m L j = (k' : Int)
theorem half {cl lv : List Int} {u : Nat → Nat} {L : List (List Int)} (h : Split cl lv (seenI cl) (seenQ cl).length L u) (hW : Onward cl (mt cl) L) (base : Int) : ∀ k, k ≤ L.length → Half cl lv (mt cl) base L k := by
  have hO := once_I h
  intro k
  induction k with
  | zero => intro _; exact ⟨rfl, fun j hj => absurd hj (by omega), fun k' _ y hy => by cases hy⟩
  | succ k ih =>
    intro hk
    have hkl : k < L.length := by omega
    have H := ih (by omega)
    have hg : L.getD k [] = L[k] := by simp [hkl]
    obtain ⟨M, hM⟩ : ∃ M, (pst cl lv (mt cl) base L k).1 = M := ⟨_, rfl⟩
    obtain ⟨S, hS⟩ : ∃ S, (pst cl lv (mt cl) base L k).2 = S := ⟨_, rfl⟩
    obtain ⟨h1, h2, h3⟩ := H
    rw [hM] at h2 h3
    rw [hS] at h1
    -- the sequences, and run k's number
    have key : setEos (seqIn lv base L k M S) (seqAt M S (L.getD k [])) (eosW cl lv base L k) = (startsN cl (mt cl) L (k + 1)).map (part cl lv (mt cl) base L (k + 1)) ∧ ∃ i, (startsN cl (mt cl) L (k + 1))[seqAt M S (L.getD k [])]? = some i ∧ k ∈ idxI cl (mt cl) L i := by
      cases hgo : goneN cl (mt cl) L L.length k with
      | true =>
        obtain ⟨j, hjl, hj⟩ := (gone_iff cl (mt cl) L k).1 hgo
        have hjk : j < k := by
          rcases hW j hjl with e | ⟨k', e, e2, _⟩
          · rw [e] at hj; omega
          · rw [e] at hj; omega
        obtain ⟨n, i, e1, e2, e3⟩ := h2 j hjk k hkl hj
        obtain ⟨hn, e2'⟩ := List.getElem?_eq_some_iff.1 e2
        have hmi := starts_mem.1 (show i ∈ startsN cl (mt cl) L k by rw [← e2']; exact List.getElem_mem hn)
        have hki : k ∈ idxI cl (mt cl) L i := ((idx_mem hW (L.length - i) i (by omega) (Nat.le_refl _)).2 j e3).2.2.2 k hj
        have ea : seqAt M S (L.getD k []) = n := by rw [seqAt, e1]; simp
        have es : seqIn lv base L k M S = addPl S n (L.getD k []) := by rw [seqIn, e1]; simp
        rw [ea, es, starts_gone hgo]
        have hSn : n < S.length := by rw [h1, List.length_map]; exact hn
        have hSg : S.getD n sqZ = part cl lv (mt cl) base L k i := by
          have : S[n] = part cl lv (mt cl) base L k i := by simp only [h1, List.getElem_map, e2']
          simp [hSn, this]
        refine ⟨?_, i, e2, hki⟩
        rw [setEos, addPl, hSg]
        apply List.ext_getElem
        · simp [h1]
        · intro q hq1 hq2
          rw [List.getElem_map]
          by_cases hqn : n = q
          · subst hqn
            rw [List.getElem_set_self, e2', part_more hW (by omega) hki]
            simp [hSn]
          · rw [List.getElem_set_ne hqn, List.getElem_set_ne hqn]
            have hqs : q < (startsN cl (mt cl) L k).length := by simpa using hq2
            have hmq := starts_mem.1 (List.getElem_mem hqs)
            have hne : (startsN cl (mt cl) L k)[q] ≠ i := by
              intro e
              rw [← e2'] at e
              have hlt := List.pairwise_iff_getElem.1 (starts_lt (cl := cl) (m := mt cl) (L := L) (k := k))
              rcases Nat.lt_or_ge q n with h5 | h5
              · have := hlt q n hqs hn h5; omega
              · have := hlt n q hn hqs (by omega); omega
            rw [part_keep hW (by omega) (fun hm => hne (root_one hW hO k _ i (by omega) (by omega) hmq.2 hmi.2 hm hki))]
            simp only [h1, List.getElem_map]
      | false =>
        have hno : M (headI (L.getD k [])) = none := by
          cases hm : M (headI (L.getD k [])) with
          | none => rfl
          | some y =>
            obtain ⟨j, hj, hj2⟩ := h3 k hkl y hm
            have := (gone_iff cl (mt cl) L k).2 ⟨j, by omega, hj2⟩
            rw [hgo] at this; cases this
        have ea : seqAt M S (L.getD k []) = S.length := by rw [seqAt, hno]
        have es : seqIn lv base L k M S = S ++ [⟨L.getD k [], levW lv base L k, sosW lv base L k, 0⟩] := by rw [seqIn, hno]
        have hSl : S.length = (startsN cl (mt cl) L k).length := by rw [h1, List.length_map]
        rw [ea, es, starts_new hgo]
        refine ⟨?_, k, by rw [hSl]; simp, idx_self hW hkl⟩
        rw [setEos, List.set_append_right _ _ (Nat.le_refl _), List.map_append, List.map_singleton, part_new hW hkl]
        congr 1
        · rw [h1]
          apply List.map_congr_left
          intro i hi
          have hmi := starts_mem.1 hi
          refine (part_keep hW (by omega) fun hm => ?_).symm
          rcases ((idx_mem hW (L.length - i) i (by omega) (Nat.le_refl _)).2 k hm).2.2.1 with e | ⟨x, hx, hx2⟩
          · omega
          · have hxl := ((idx_mem hW (L.length - i) i (by omega) (Nat.le_refl _)).2 x hx).2.1
            have := (gone_iff cl (mt cl) L k).2 ⟨x, hxl, hx2⟩
            rw [hgo] at this; cases this
        · simp
    obtain ⟨k1, i0, k2, k3⟩ := key
    have e1 : (pst cl lv (mt cl) base L (k + 1)).1 = if lastI L[k] < otherI (mt cl) L[k] then fun x => if x = otherI (mt cl) L[k] then some ((seqAt M S (L.getD k []) : Nat) : Int) else M x else M := by rw [pst, hM, hS, hg]
    have e2 : (pst cl lv (mt cl) base L (k + 1)).2 = setEos (seqIn lv base L k M S) (seqAt M S (L.getD k [])) (eosW cl lv base L k) := by rw [pst, hM, hS]
    have e3 : ∀ k' (hk' : k' < L.length), (pst cl lv (mt cl) base L (k + 1)).1 (headI (L.getD k' [])) = if nextI cl (mt cl) L k = (k' : Int) then some ((seqAt M S (L.getD k []) : Nat) : Int) else M (headI (L.getD k' [])) := by
      intro k' hk'
      have hg' : L.getD k' [] = L[k'] := by simp [hk']
      rw [e1, hg']
      have hgo := goes_on h hkl hk'
      by_cases hc : lastI L[k] < otherI (mt cl) L[k]
      · rw [if_pos hc]
        by_cases hd : headI L[k'] = otherI (mt cl) L[k]
        · rw [if_pos hd, if_pos (hgo.1 ⟨hc, hd⟩)]
        · rw [if_neg hd, if_neg (fun e => hd (hgo.2 e).2)]
      · rw [if_neg hc, if_neg (fun e => hc (hgo.2 e).1)]
    refine ⟨by rw [e2]; exact k1, fun j hj k' hk' hjn => ?_, fun k' hk' y hy => ?_⟩
    · rw [e3 k' hk']
      by_cases hjk : j = k
      · subst hjk
        rw [if_pos hjn]
        exact ⟨_, i0, rfl, k2, k3⟩
      · rw [if_neg (fun e => hjk (hO j k k' (by omega) hkl hjn e))]
        obtain ⟨n, i, a1, a2, a3⟩ := h2 j (by omega) k' hk' hjn
        refine ⟨n, i, a1, ?_, a3⟩
        obtain ⟨hn, a2'⟩ := List.getElem?_eq_some_iff.1 a2
        cases hgo : goneN cl (mt cl) L L.length k with
        | true => rw [starts_gone hgo]; exact a2
        | false => rw [starts_new hgo, List.getElem?_append_left hn]; exact a2
    · rw [e3 k' hk'] at hy
      split at hy
      · rename_i hc; exact ⟨k, by omega, hc⟩
      · obtain ⟨j, hj, hj2⟩ := h3 k' hk' y hy
        exact ⟨j, by omega, hj2⟩
end Go.Proofs.Ytajgjloailliiaa

/- Layer 8: plain: the program's sequences are the document's. -/
namespace Go.Proofs.Ytajgjloailliiaa
open Go.RowKit

theorem seenI_at {cl : List Int} {a : Nat} (h : a < (seenQ cl).length) : (seenI cl).getD a 0 = ((seenQ cl)[a] : Nat) := by
  rw [seenI_getD]; congr 1; simp [h]
theorem seenI_ne {cl : List Int} {a b : Nat} (ha : a < (seenQ cl).length) (hb : b < (seenQ cl).length) (hab : a ≠ b) : ((seenI cl).getD a 0 == (seenI cl).getD b 0) = false := by
  rw [seenI_at ha, seenI_at hb]
  simp only [beq_eq_false_iff_ne, ne_eq, Int.natCast_inj]
  exact fun e => hab (seenQ_inj cl ha hb e)
theorem ahead_at (cl lv : List Int) (base : Int) {a : Nat} (ha : a < (seenQ cl).length) : ∀ k, a < k → k ≤ (seenQ cl).length → aheadN lv (seenI cl) base ((seenI cl).getD a 0) k = if 0 < a then lv.getD ((seenI cl).getD (a - 1) 0).toNat 0 else base := by
  intro k
  induction k with
  | zero => intro h; omega
  | succ k ih =>
    intro h1 h2
    rw [aheadN]
    by_cases hk : k = a
    · subst hk
      rw [beq_self_eq_true, Bool.true_and]
      by_cases h0 : 0 < k
      · rw [if_pos (by simpa using h0), if_pos h0]
      · rw [if_neg (by simpa using h0), if_neg h0]
        obtain rfl : k = 0 := by omega
        rfl
    · rw [seenI_ne (by omega) ha hk, Bool.false_and, if_neg (by simp)]
      exact ih (by omega) (by omega)
theorem behind_none (cl lv : List Int) (base : Int) {b : Nat} (hb : b < (seenQ cl).length) : ∀ k, k ≤ b → behindN cl lv (seenI cl) base ((seenI cl).getD b 0) k = base := by
  intro k
  induction k with
  | zero => intro _; rfl
  | succ k ih =>
    intro h1
    rw [behindN, seenI_ne (by omega) hb (by omega), Bool.false_and, if_neg (by simp)]
    exact ih (by omega)
theorem behind_at (cl lv : List Int) (base : Int) {b : Nat} (hb : b < (seenQ cl).length) : ∀ k, b < k → k ≤ (seenQ cl).length → behindN cl lv (seenI cl) base ((seenI cl).getD b 0) k =
    if (decide (b + 1 < (seenI cl).length) && (cl.getD ((seenI cl).getD b 0).toNat 0 != 10 && !isOpens (cl.getD ((seenI cl).getD b 0).toNat 0))) then lv.getD ((seenI cl).getD (b + 1) 0).toNat 0 else base := by
  intro k
  induction k with
  | zero => intro h; omega
  | succ k ih =>
    intro h1 h2
    rw [behindN]
    by_cases hk : k = b
    · subst hk
      rw [beq_self_eq_true, Bool.true_and]
      split
      · rfl
      · exact behind_none cl lv base hb k (Nat.le_refl _)
    · rw [seenI_ne (by omega) hb hk, Bool.false_and, if_neg (by simp)]
      exact ih (by omega) (by omega)
theorem lastI_append (xs : List Int) {r : List Int} (h : r ≠ []) : lastI (xs ++ r) = lastI r := by
  have hp := List.length_pos_iff.2 h
  unfold lastI
  rw [List.length_append, List.getD_eq_getElem?_getD, List.getElem?_append_right (by omega), List.getD_eq_getElem?_getD]
  congr 2
  omega

section
variable {cl lv : List Int} {u : Nat → Nat} {L : List (List Int)}
theorem last_level (h : Split cl lv (seenI cl) (seenQ cl).length L u) {j : Nat} (hj : j < L.length) : lv.getD (lastI L[j]).toNat 0 = lv.getD (headI L[j]).toNat 0 := by
  obtain ⟨ha, e1⟩ := h.head hj
  obtain ⟨hb, e2⟩ := h.last hj
  have hlt := h.lt (i := j) (j := j + 1) (by omega) (by omega)
  rw [e1, e2, Int.toNat_natCast, Int.toNat_natCast]
  have := run_level h hj (u (j + 1) - 1 - u j) (by omega) (by omega) ha
  simp only [show u j + (u (j + 1) - 1 - u j) = u (j + 1) - 1 by omega] at this
  exact this
theorem sos_eq (h : Split cl lv (seenI cl) (seenQ cl).length L u) {i : Nat} (hi : i < L.length) (base : Int) {pl : List Int} (hp : headI pl = headI L[i]) : sosI cl lv pl (levW lv base L i) base = sosW lv base L i := by
  obtain ⟨ha, e1⟩ := h.head hi
  rw [sosI, sosW, hp, e1, ← seenI_at ha, seenI_length, ahead_at cl lv base ha _ ha (Nat.le_refl _)]
  congr 2
  by_cases h0 : 0 < i
  · have hu := h.lt (i := 0) (j := i) h0 (by omega)
    obtain ⟨hb, e2⟩ := h.last (j := i - 1) (by omega)
    simp only [show i - 1 + 1 = i by omega] at hb e2
    rw [if_pos (by omega), seenI_at hb, ← e2, last_level h (by omega), show ((i : Int) - 1) = ((i - 1 : Nat) : Int) by omega, levW_in (by omega)]
  · obtain rfl : i = 0 := by omega
    rw [h.zero, if_neg (by omega), levW_out (.inl (by omega))]
theorem eos_eq (h : Split cl lv (seenI cl) (seenQ cl).length L u) {j : Nat} (hj : j < L.length) (base : Int) {pl : List Int} (hp : lastI pl = lastI L[j]) : eosI cl lv pl base = eosW cl lv base L j := by
  obtain ⟨hb, e2⟩ := h.last hj
  have hlt := h.lt (i := j) (j := j + 1) (by omega) (by omega)
  have hg : L.getD j [] = L[j] := by simp [hj]
  rw [eosI, eosW, hg, hp, last_level h hj, levW_in hj]
  congr 2
  rw [e2, ← seenI_at hb, seenI_length, behind_at cl lv base hb _ hb (Nat.le_refl _), behW]
  obtain ⟨k, hk⟩ : ∃ k, cl.getD ((seenI cl).getD (u (j + 1) - 1) 0).toNat 0 = k := ⟨_, rfl⟩
  rw [hk, show u (j + 1) - 1 + 1 = u (j + 1) by omega, seenI_length]
  rcases h10 : (k == 10) with _ | _
  · rcases hop : isOpens k with _ | _
    · have hne : (k != 10) = true := by simpa using h10
      rw [hne]
      simp only [Bool.not_false, Bool.and_true, Bool.or_self]
      by_cases hn : j + 1 < L.length
      · obtain ⟨hx, e3⟩ := h.head hn
        rw [if_pos (by simpa using hx), seenI_at hx, ← e3, if_neg (by simp), show ((j : Int) + 1) = ((j + 1 : Nat) : Int) by omega, levW_in hn]
      · have he : j + 1 = L.length := by omega
        rw [he, h.top, if_neg (by simp), if_neg (by simp), levW_out (.inr (by omega))]
    · simp
  · have hne : (k != 10) = false := by simpa using h10
    rw [hne]
    simp
end
theorem part_all {cl lv : List Int} {u : Nat → Nat} {L : List (List Int)} (h : Split cl lv (seenI cl) (seenQ cl).length L u) (hW : Onward cl (mt cl) L) (hN : Within L cl.length) (base : Int) {i : Nat} (hi : i < L.length) :
    part cl lv (mt cl) base L L.length i = sqOf cl lv base (chainI cl (mt cl) L i) := by
  have hm := idx_mem hW (L.length - i) i hi (Nat.le_refl _)
  have e : idxP cl (mt cl) L L.length i = idxI cl (mt cl) L i := List.filter_eq_self.2 fun x hx => by have := (hm.2 x hx).2.1; simpa using this
  have hc : chainI cl (mt cl) L i = (idxI cl (mt cl) L i).flatMap fun j => L.getD j [] := by rw [chainI, idxN_chain]; rfl
  have hne := chainI_ne hW hN hi
  rw [part, e, ← hc, sqOf, hne.2, ← levW_in hi (lv := lv) (base := base), sos_eq h hi base hne.2]
  congr 1
  rcases List.eq_nil_or_concat (idxI cl (mt cl) L i) with e0 | ⟨l', j, e0⟩
  · have := idx_self hW hi
    rw [e0] at this; simp at this
  · rw [List.concat_eq_append] at e0
    have hjm : j ∈ idxI cl (mt cl) L i := by rw [e0]; simp
    have hjl := (hm.2 j hjm).2.1
    have hg : L.getD j [] = L[j] := by simp [hjl]
    have hl : lastI (chainI cl (mt cl) L i) = lastI L[j] := by
      rw [hc, e0, List.flatMap_append, List.flatMap_cons, List.flatMap_nil, List.append_nil, hg]
      exact lastI_append _ (hN _ (List.getElem_mem hjl)).1
    rw [e0, List.getLastD_concat]
    exact (eos_eq h hjl base hl).symm
theorem pst_seqs (cl lv : List Int) (base : Int) : (pst cl lv (mt cl) base (listsI cl lv) (listsI cl lv).length).2 = seqsI cl lv base := by
  by_cases he : cl.length = lv.length
  · obtain ⟨u, h⟩ := split_I he
    rw [seqsI, seqsN_eq, (half h (onward_I cl lv) base _ (Nat.le_refl _)).seqs]
    apply List.map_congr_left
    intro i hi
    exact part_all h (onward_I cl lv) (within_I cl lv) base (starts_mem.1 hi).1
  · rw [seqsI, lists_none he]; rfl
end Go.Proofs.Ytajgjloailliiaa
