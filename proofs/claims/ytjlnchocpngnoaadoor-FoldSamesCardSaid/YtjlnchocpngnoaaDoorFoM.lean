/- Plain facts on folding: twice is once; a number's kin. -/
import Derived.Test.YtjlnchocpngnoaaDoorFoA
namespace Go.Proofs.YtjlnchocpngnoaaDoor

theorem fo_spec (c : Int) : (65 ≤ c ∧ c ≤ 90 ∧ fo c = c + 32) ∨ (c = 181 ∧ fo c = c + 775) ∨ (192 ≤ c ∧ c ≤ 214 ∧ fo c = c + 32) ∨ (216 ≤ c ∧ c ≤ 222 ∧ fo c = c + 32) ∨ (913 ≤ c ∧ c ≤ 929 ∧ fo c = c + 32) ∨
    (931 ≤ c ∧ c ≤ 937 ∧ fo c = c + 32) ∨ (c = 962 ∧ fo c = c + 1) ∨ (1024 ≤ c ∧ c ≤ 1039 ∧ fo c = c + 80) ∨ (1040 ≤ c ∧ c ≤ 1071 ∧ fo c = c + 32) ∨ (c = 7838 ∧ fo c = c + -7615) ∨
    (¬ (65 ≤ c ∧ c ≤ 90) ∧ c ≠ 181 ∧ ¬ (192 ≤ c ∧ c ≤ 214) ∧ ¬ (216 ≤ c ∧ c ≤ 222) ∧ ¬ (913 ≤ c ∧ c ≤ 929) ∧ ¬ (931 ≤ c ∧ c ≤ 937) ∧ c ≠ 962 ∧ ¬ (1024 ≤ c ∧ c ≤ 1071) ∧ c ≠ 7838 ∧ fo c = c) := by
  by_cases h1 : 65 ≤ c ∧ c ≤ 90
  · exact .inl ⟨h1.1, h1.2, by unfold fo; rw [if_pos h1]⟩
  by_cases h2 : 181 ≤ c ∧ c ≤ 181
  · exact .inr (.inl ⟨by omega, by unfold fo; rw [if_neg h1, if_pos h2]⟩)
  by_cases h3 : 192 ≤ c ∧ c ≤ 214
  · exact .inr (.inr (.inl ⟨h3.1, h3.2, by unfold fo; rw [if_neg h1, if_neg h2, if_pos h3]⟩))
  by_cases h4 : 216 ≤ c ∧ c ≤ 222
  · exact .inr (.inr (.inr (.inl ⟨h4.1, h4.2, by unfold fo; rw [if_neg h1, if_neg h2, if_neg h3, if_pos h4]⟩)))
  by_cases h5 : 913 ≤ c ∧ c ≤ 929
  · exact .inr (.inr (.inr (.inr (.inl ⟨h5.1, h5.2, by unfold fo; rw [if_neg h1, if_neg h2, if_neg h3, if_neg h4, if_pos h5]⟩))))
  by_cases h6 : 931 ≤ c ∧ c ≤ 937
  · exact .inr (.inr (.inr (.inr (.inr (.inl ⟨h6.1, h6.2, by unfold fo; rw [if_neg h1, if_neg h2, if_neg h3, if_neg h4, if_neg h5, if_pos h6]⟩)))))
  by_cases h7 : 962 ≤ c ∧ c ≤ 962
  · exact .inr (.inr (.inr (.inr (.inr (.inr (.inl ⟨by omega, by unfold fo; rw [if_neg h1, if_neg h2, if_neg h3, if_neg h4, if_neg h5, if_neg h6, if_pos h7]⟩))))))
  by_cases h8 : 1024 ≤ c ∧ c ≤ 1039
  · exact .inr (.inr (.inr (.inr (.inr (.inr (.inr (.inl ⟨h8.1, h8.2, by unfold fo; rw [if_neg h1, if_neg h2, if_neg h3, if_neg h4, if_neg h5, if_neg h6, if_neg h7, if_pos h8]⟩)))))))
  by_cases h9 : 1040 ≤ c ∧ c ≤ 1071
  · exact .inr (.inr (.inr (.inr (.inr (.inr (.inr (.inr (.inl ⟨h9.1, h9.2, by unfold fo; rw [if_neg h1, if_neg h2, if_neg h3, if_neg h4, if_neg h5, if_neg h6, if_neg h7, if_neg h8, if_pos h9]⟩))))))))
  by_cases h10 : 7838 ≤ c ∧ c ≤ 7838
  · exact .inr (.inr (.inr (.inr (.inr (.inr (.inr (.inr (.inr (.inl ⟨by omega, by unfold fo; rw [if_neg h1, if_neg h2, if_neg h3, if_neg h4, if_neg h5, if_neg h6, if_neg h7, if_neg h8, if_neg h9, if_pos h10]⟩)))))))))
  exact .inr (.inr (.inr (.inr (.inr (.inr (.inr (.inr (.inr (.inr ⟨h1, by omega, h3, h4, h5, h6, by omega, by omega, by omega, by unfold fo; rw [if_neg h1, if_neg h2, if_neg h3, if_neg h4, if_neg h5, if_neg h6, if_neg h7, if_neg h8, if_neg h9, if_neg h10]⟩)))))))))
theorem fo_twice (c : Int) : fo (fo c) = fo c := by
  have h1 := fo_spec c
  have h2 := fo_spec (fo c)
  omega
theorem fo_row : ∀ r ∈ rws, ∀ x, r.1 ≤ x → x ≤ r.2.1 → fo x = x + r.2.2 ∧ r.2.2 ≠ 0 := by
  intro r hr x h1 h2
  have h := fo_spec x
  simp only [rws, List.mem_cons, List.mem_nil_iff, or_false] at hr
  rcases hr with rfl | rfl | rfl | rfl | rfl | rfl | rfl | rfl | rfl | rfl
  all_goals (dsimp only at h1 h2 ⊢; omega)
theorem fo_rows (x : Int) (h : fo x ≠ x) : ∃ r ∈ rws, r.1 ≤ x ∧ x ≤ r.2.1 := by
  have hs := fo_spec x
  simp only [rws, List.mem_cons, List.mem_nil_iff, or_false, exists_eq_or_imp, exists_eq_left]
  omega

/-- a whole number of 64 bits -/
def I64 (c : Int) : Prop := -9223372036854775808 ≤ c ∧ c ≤ 9223372036854775807
theorem fo_i64 {c : Int} (h : I64 c) : I64 (fo c) := by
  have := fo_spec c
  unfold I64 at *
  omega
theorem wf_i64 {c : Int} (h : (Lit.int .i64 c).wf = true) : I64 c := by
  unfold I64
  simp [Lit.wf] at h
  have h0 : IntKind.i64.min = -9223372036854775808 := by decide
  omega

/-- what is folded into t by a row -/
def from? (t : Int) (r : Int × Int × Int) : Option Int := if r.1 ≤ t - r.2.2 ∧ t - r.2.2 ≤ r.2.1 then some (t - r.2.2) else none
def froms (t : Int) : List Int := rws.filterMap (from? t)
theorem mem_froms {t x : Int} : x ∈ froms t ↔ fo x = t ∧ x ≠ t := by
  unfold froms
  rw [List.mem_filterMap]
  constructor
  · rintro ⟨r, hr, he⟩
    unfold from? at he
    split at he
    · rename_i h
      injection he with he
      have := fo_row r hr x (by omega) (by omega)
      omega
    · cases he
  · rintro ⟨h, hne⟩
    obtain ⟨r, hr, h1, h2⟩ := fo_rows x (by omega)
    have := fo_row r hr x h1 h2
    refine ⟨r, hr, ?_⟩
    unfold from?
    rw [if_pos (by omega)]
    exact congrArg some (by omega)
theorem froms_rise (t : Int) : (froms t).Pairwise (· < ·) := by
  unfold froms
  refine List.Pairwise.filterMap (R := fun (r s : Int × Int × Int) => r.2.1 < s.1) _ ?_ (by decide)
  intro r s hrs x hx y hy
  unfold from? at hx hy
  split at hx
  · split at hy
    · injection hx with hx
      injection hy with hy
      omega
    · cases hy
  · cases hx
set_option maxHeartbeats 4000000 in
theorem froms_few (t : Int) : (froms t).length ≤ 3 := by
  have hs : t < 97 ∨ (97 ≤ t ∧ t < 123) ∨ (123 ≤ t ∧ t < 223) ∨ (223 ≤ t ∧ t < 224) ∨ (224 ≤ t ∧ t < 247) ∨ (247 ≤ t ∧ t < 248) ∨ (248 ≤ t ∧ t < 255) ∨ (255 ≤ t ∧ t < 945) ∨ (945 ≤ t ∧ t < 956) ∨ (956 ≤ t ∧ t < 957) ∨
      (957 ≤ t ∧ t < 962) ∨ (962 ≤ t ∧ t < 963) ∨ (963 ≤ t ∧ t < 964) ∨ (964 ≤ t ∧ t < 970) ∨ (970 ≤ t ∧ t < 1072) ∨ (1072 ≤ t ∧ t < 1104) ∨ (1104 ≤ t ∧ t < 1120) ∨ 1120 ≤ t := by omega
  unfold froms rws
  rcases hs with hs | hs | hs | hs | hs | hs | hs | hs | hs | hs | hs | hs | hs | hs | hs | hs | hs | hs
  all_goals
    simp only [List.filterMap_cons, List.filterMap_nil, from?]
    repeat (first | rw [if_pos (by omega)] | rw [if_neg (by omega)])
    simp

/-- all that are folded into t, rising -/
def kin (t : Int) : List Int := (t :: froms t).mergeSort fun x y => decide (x ≤ y)
theorem mem_kin {c x : Int} : x ∈ kin (fo c) ↔ fo x = fo c := by
  unfold kin
  rw [List.mem_mergeSort, List.mem_cons, mem_froms]
  constructor
  · rintro (rfl | h)
    · exact fo_twice c
    · exact h.1
  · intro h
    by_cases e : x = fo c
    · exact .inl e
    · exact .inr ⟨h, e⟩
theorem kin_few (t : Int) : (kin t).length ≤ 4 := by
  unfold kin
  rw [List.length_mergeSort, List.length_cons]
  have := froms_few t
  omega
theorem kin_rise (t : Int) : (kin t).Pairwise (· < ·) := by
  have h1 : (kin t).Pairwise (fun x y => decide (x ≤ y) = true) := by
    unfold kin
    exact List.pairwise_mergeSort (le := fun x y => decide (x ≤ y)) (fun a b c h h' => by simp at *; omega) (fun a b => by simp; omega) _
  have h2 : (kin t).Nodup := by
    unfold kin
    refine (List.mergeSort_perm _ _).symm.nodup ?_
    refine List.nodup_cons.2 ⟨fun h => (mem_froms.1 h).2 rfl, (froms_rise t).imp fun h => by omega⟩
  refine (h1.and h2).imp ?_
  rintro a b ⟨h, h'⟩
  simp at h
  have : a ≠ b := h'
  omega
/-- rising lists of the same members are the same -/
theorem rise_eq : ∀ l m : List Int, l.Pairwise (· < ·) → m.Pairwise (· < ·) → (∀ x, x ∈ l ↔ x ∈ m) → l = m
  | [], [], _, _, _ => rfl
  | [], y :: m, _, _, h => by have := (h y).2 (by simp); simp at this
  | x :: l, [], _, _, h => by have := (h x).1 (by simp); simp at this
  | x :: l, y :: m, hl, hm, h => by
    rw [List.pairwise_cons] at hl hm
    have e : x = y := by
      have h1 := (h x).1 (by simp)
      have h2 := (h y).2 (by simp)
      rw [List.mem_cons] at h1 h2
      rcases h1 with h1 | h1
      · exact h1
      · rcases h2 with h2 | h2
        · exact h2.symm
        · have a := hm.1 x h1
          have b := hl.1 y h2
          omega
    subst e
    rw [rise_eq l m hl.2 hm.2 fun z => ?_]
    have := h z
    rw [List.mem_cons, List.mem_cons] at this
    constructor
    · intro hz
      rcases this.1 (.inr hz) with e | e
      · have := hl.1 z hz
        omega
      · exact e
    · intro hz
      rcases this.2 (.inr hz) with e | e
      · have := hm.1 z hz
        omega
      · exact e

/-- a number among rising ones, once -/
def putL : List Int → Int → List Int
  | [], n => [n]
  | x :: r, n => if x < n then x :: putL r n else if x = n then x :: r else n :: x :: r
theorem mem_putL : ∀ (l : List Int) (n x : Int), x ∈ putL l n ↔ x = n ∨ x ∈ l
  | [], n, x => by simp [putL]
  | y :: r, n, x => by
    unfold putL
    split
    · rw [List.mem_cons, mem_putL r n x, List.mem_cons]
      constructor
      · rintro (h | h | h) <;> simp [h]
      · rintro (h | h | h) <;> simp [h]
    · split
      · rename_i h; subst h; simp
      · simp
theorem putL_rise : ∀ (l : List Int) (n : Int), l.Pairwise (· < ·) → (putL l n).Pairwise (· < ·)
  | [], n, _ => by simp [putL]
  | y :: r, n, h => by
    rw [List.pairwise_cons] at h
    unfold putL
    split
    · rename_i hy
      rw [List.pairwise_cons]
      refine ⟨fun z hz => ?_, putL_rise r n h.2⟩
      rcases (mem_putL r n z).1 hz with e | e
      · omega
      · exact h.1 z e
    · split
      · rw [List.pairwise_cons]; exact h
      · rename_i h1 h2
        rw [List.pairwise_cons, List.pairwise_cons]
        refine ⟨fun z hz => ?_, h⟩
        rw [List.mem_cons] at hz
        rcases hz with e | e
        · omega
        · have := h.1 z e
          omega
/-- where a number goes among others: behind those that come before it and are less -/
theorem putL_at : ∀ (l : List Int) (n : Int) (k : Nat), k ≤ l.length → (∀ i (h : i < l.length), i < k → l[i] < n) → (∀ h : k < l.length, ¬ l[k] < n) →
    putL l n = if l[k]? = some n then l else l.take k ++ [n] ++ l.drop k
  | [], n, k, hk, _, _ => by
    have : k = 0 := by simpa using hk
    subst this
    simp [putL]
  | x :: r, n, 0, hk, h1, h2 => by
    have h3 : ¬ x < n := h2 (by simp)
    unfold putL
    rw [if_neg h3]
    simp
  | x :: r, n, k + 1, hk, h1, h2 => by
    have h3 : x < n := h1 0 (by simp) (by omega)
    have ih := putL_at r n k (by simpa using hk) (fun i h hi => h1 (i + 1) (by simpa using h) (by omega)) (fun h => h2 (by simpa using h))
    unfold putL
    rw [if_pos h3, ih]
    simp only [List.getElem?_cons_succ, List.take_succ_cons, List.drop_succ_cons]
    split <;> simp
theorem putL_len (l : List Int) (n : Int) : (putL l n).length ≤ l.length + 1 := by
  induction l with
  | nil => simp [putL]
  | cons x r ih =>
    unfold putL
    split
    · simpa using ih
    · split <;> simp

/-- what the document's loop has gathered behind k rounds -/
def gath (c : Int) (k : Nat) : List Int := ((List.range k).map Int.ofNat).filter fun j => decide (j ≠ c) && decide (j ≠ fo c) && decide (fo j ≠ j) && decide (fo j = fo c)
theorem gath_zero (c : Int) : gath c 0 = [] := rfl
theorem gath_rise (c : Int) (k : Nat) : (gath c k).Pairwise (· < ·) := by
  unfold gath
  refine List.Pairwise.filter _ (List.pairwise_map.2 ?_)
  exact List.pairwise_lt_range.imp fun h => by simpa using h
theorem gath_lt {c x : Int} {k : Nat} (h : x ∈ gath c k) : 0 ≤ x ∧ x < k := by
  unfold gath at h
  rw [List.mem_filter, List.mem_map] at h
  obtain ⟨⟨j, hj, rfl⟩, _⟩ := h
  have := List.mem_range.1 hj
  simp
  omega
theorem gath_len (c : Int) (k : Nat) : (gath c k).length ≤ k := by
  unfold gath
  refine Nat.le_trans (List.length_filter_le _ _) ?_
  simp
theorem putL_last : ∀ (l : List Int) (n : Int), (∀ x ∈ l, x < n) → putL l n = l ++ [n]
  | [], n, _ => rfl
  | x :: r, n, h => by
    unfold putL
    rw [if_pos (h x (by simp)), putL_last r n fun y hy => h y (by simp [hy])]
    rfl
theorem gath_succ (c : Int) (k : Nat) : gath c (k + 1) = if (k : Int) ≠ c ∧ (k : Int) ≠ fo c ∧ fo k ≠ k ∧ fo k = fo c then putL (gath c k) k else gath c k := by
  have e : gath c (k + 1) = gath c k ++ ([(k : Int)].filter fun j => decide (j ≠ c) && decide (j ≠ fo c) && decide (fo j ≠ j) && decide (fo j = fo c)) := by
    unfold gath
    rw [List.range_succ, List.map_append, List.filter_append]
    rfl
  rw [e]
  split
  · rename_i h
    rw [putL_last _ _ fun x hx => (gath_lt hx).2]
    rw [List.filter_cons_of_pos (by rw [decide_eq_true h.1, decide_eq_true h.2.1, decide_eq_true h.2.2.1, decide_eq_true h.2.2.2]; rfl)]
    rfl
  · rename_i h
    rw [List.filter_cons_of_neg (by simp; omega)]
    simp
theorem kin_gath (c : Int) : kin (fo c) = putL (putL (gath c 7936) c) (fo c) := by
  refine rise_eq _ _ (kin_rise _) (putL_rise _ _ (putL_rise _ _ (gath_rise _ _))) fun x => ?_
  rw [mem_kin, mem_putL, mem_putL]
  constructor
  · intro h
    by_cases e : x = fo c
    · exact .inl e
    by_cases e2 : x = c
    · exact .inr (.inl e2)
    refine .inr (.inr ?_)
    have hs := fo_spec x
    have : fo x ≠ x := by omega
    unfold gath
    rw [List.mem_filter, List.mem_map]
    refine ⟨⟨x.toNat, List.mem_range.2 (by omega), ?_⟩, by rw [decide_eq_true e2, decide_eq_true e, decide_eq_true this, decide_eq_true h]; rfl⟩
    show ((x.toNat : Nat) : Int) = x
    omega
  · rintro (rfl | rfl | h)
    · exact fo_twice c
    · rfl
    · unfold gath at h
      rw [List.mem_filter] at h
      simp at h
      exact h.2.2
end Go.Proofs.YtjlnchocpngnoaaDoor
