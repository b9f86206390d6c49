/- Layer 7: the document's Out, Kept, Chars, Only, Rank, Same; what they are, plainly. -/
import Derived.Test.YtdblpcfbhhgfdaaClA
import Derived.Test.YtdblpcfbhhgfdaaClB
import Derived.Test.YtdblpcfbhhgfdaaInts2
namespace Go.Proofs.Ytdblpcfbhhgfdaa
open Go.RowKit

/-- is a character left out? -/
def outC (c : Int) : Bool := isOut (Go.Proofs.Ytdblpcfbhhgfdaa.cls c)
/-- the places of those that are kept, of the first k -/
def keptN (l : List Int) (k : Nat) : List Int := ((List.range k).filter fun i => !outC (l.getD i 0)).map fun (i : Nat) => (i : Int)
def keptI (l : List Int) : List Int := keptN l l.length
def charsI (l : List Int) : List Int := l.filter fun c => !outC c
def onlyI (l : List Int) : List Int := l.filter outC
def rankI (l : List Int) (i : Int) : Nat := (charsI (l.take i.toNat)).length
theorem keptN_succ (l : List Int) (k : Nat) (h : k < l.length) : keptN l (k + 1) = if outC l[k] then keptN l k else keptN l k ++ [(k : Int)] := by
  unfold keptN
  have hg : l.getD k 0 = l[k] := by simp [h]
  have hf : ([k].filter fun i => !outC (l.getD i 0)) = if outC l[k] then [] else [k] := by
    rw [List.filter_cons, hg]
    cases outC l[k] <;> rfl
  rw [List.range_succ, List.filter_append, List.map_append, hf]
  split
  · simp
  · rfl
theorem keptN_le (l : List Int) (k : Nat) : (keptN l k).length ≤ k := by
  unfold keptN
  rw [List.length_map]
  have := List.length_filter_le (fun i => !outC (l.getD i 0)) (List.range k)
  rw [List.length_range] at this
  exact this
theorem chars_succ (l : List Int) (k : Nat) (h : k < l.length) : charsI (l.take (k + 1)) = if outC l[k] then charsI (l.take k) else charsI (l.take k) ++ [l[k]] := by
  unfold charsI
  rw [take_snoc l k h, List.filter_append]
  cases ho : outC l[k] <;> simp [ho]
theorem only_succ (l : List Int) (k : Nat) (h : k < l.length) : onlyI (l.take (k + 1)) = if outC l[k] then onlyI (l.take k) ++ [l[k]] else onlyI (l.take k) := by
  unfold onlyI
  rw [take_snoc l k h, List.filter_append]
  cases ho : outC l[k] <;> simp [ho]
theorem chars_le (l : List Int) (k : Nat) : (charsI (l.take k)).length ≤ k := by
  have h1 := List.length_filter_le (fun c => !outC c) (l.take k)
  have h2 : (l.take k).length ≤ k := by simp; omega
  unfold charsI
  omega
theorem only_le (l : List Int) (k : Nat) : (onlyI (l.take k)).length ≤ k := by
  have h1 := List.length_filter_le outC (l.take k)
  have h2 : (l.take k).length ≤ k := by simp; omega
  unfold onlyI
  omega

theorem rout7_any (c : Int) (w : World) : Calls Try.prog 19 #[.int .i64 c] w fun e w' => e = .returned (.bool (outC c)) ∧ w = w' := by
  go_enter Try.func19, Try.ntmps19
  go_wp2_with fail
  refine (rof_any c w).mono ?_
  rintro e wq ⟨rfl, rfl⟩
  go_wp2_with fail
  refine (rout_any _ w).mono ?_
  rintro e wq ⟨rfl, rfl⟩
  go_wp2
  go_ret
  exact ⟨rfl, rfl⟩

set_option maxHeartbeats 2000000 in
theorem rkept_any (A : Option Addr) (l : List Int) (c : Nat) (w : World) (h : Lies w w.heap.size A (ints .i64 l)) (hl : l.length ≤ 1000000) :
    Calls Try.prog 9 #[.slice A l.length c] w fun ed w' => Rowed w w.heap.size 3 (ints .i64 (keptI l)) ed w' := by
  have H := Lib.hid h
  clear h
  go_enter Try.func9, Try.ntmps9
  go_wp2
  go_loopw [4, 3] (fun iv ov wr => ∃ k : Nat, k ≤ l.length ∧ iv = .int .i64 k ∧ Own wr w.heap.size 3 ov (ints .i64 (keptN l k)) ∧ Below w.heap.size w wr) (fun iv _ _ => l.length - (intOf iv).toNat)
  case atStart => exact ⟨0, by omega, rfl, Own.empty _ _ _, Below.refl _ _⟩
  case round =>
    obtain ⟨k, hk, rfl, ho, hb⟩ := hrel
    have HO := Lib.hid ho
    have HB := Lib.hid hb
    clear ho hb
    by_cases hlt : k < l.length
    · obtain ⟨p, rfl, _, hcl⟩ := (H.out.below HB.out).int hlt
      obtain ⟨x, hx⟩ : ∃ x, l[k] = x := ⟨_, rfl⟩
      have HS := Lib.hid (keptN_succ l k hlt)
      rw [hx] at hcl HS
      have hle := keptN_le l k
      have b0 : (0 : Int) ≤ (k : Int) := by omega
      have b1 : (k : Int) < (l.length : Int) := by omega
      clear hx
      rcases hoc : outC x with _ | _
      · have HOC := Lib.hid hoc
        clear hoc
        go_wp2_with fail
        refine (rout7_any x _).mono ?_
        rintro e wq ⟨rfl, rfl⟩
        rw [HOC.out]
        go_wp2_with (first
          | (at_builtin; refine app_lit intsT w wr w.heap.size _ _ #[.int .i64 (k : Int)] 1 _ _ rfl rfl rfl rfl HO.out (by simp [Value.oneCell']) HB.out HB.out.size (by unfold maxLen; simp; omega) (by simp; omega) ?_; intro v2 w2 o2 b2 _ _; have O2 := Lib.hid o2; have B2 := Lib.hid b2; clear o2 b2)
          | fail)
        go_roundw
        case rel => exact ⟨k + 1, by omega, by go_num, by rw [HS.out, HOC.out, if_neg (by simp)]; simpa [ints] using O2.out, B2.out⟩
        case measure => simp [intOf]; omega
      · have HOC := Lib.hid hoc
        clear hoc
        go_wp2_with fail
        refine (rout7_any x _).mono ?_
        rintro e wq ⟨rfl, rfl⟩
        rw [HOC.out]
        go_wp2_with fail
        go_roundw
        case rel => exact ⟨k + 1, by omega, by go_num, by rw [HS.out, HOC.out, if_pos rfl]; exact HO.out, HB.out⟩
        case measure => simp [intOf]; omega
    · obtain rfl : k = l.length := by omega
      go_wp2
      go_ret
      exact ⟨_, rfl, HO.out, HB.out⟩

set_option maxHeartbeats 2000000 in
theorem rchars_any (A : Option Addr) (l : List Int) (c : Nat) (w : World) (h : Lies w w.heap.size A (ints .i64 l)) (hl : l.length ≤ 1000000) :
    Calls Try.prog 11 #[.slice A l.length c] w fun ed w' => Rowed w w.heap.size 3 (ints .i64 (charsI l)) ed w' := by
  have H := Lib.hid h
  clear h
  go_enter Try.func11, Try.ntmps11
  go_wp2
  go_loopw [4, 3] (fun iv ov wr => ∃ k : Nat, k ≤ l.length ∧ iv = .int .i64 k ∧ Own wr w.heap.size 3 ov (ints .i64 (charsI (l.take k))) ∧ Below w.heap.size w wr) (fun iv _ _ => l.length - (intOf iv).toNat)
  case atStart => exact ⟨0, by omega, rfl, Own.empty _ _ _, Below.refl _ _⟩
  case round =>
    obtain ⟨k, hk, rfl, ho, hb⟩ := hrel
    have HO := Lib.hid ho
    have HB := Lib.hid hb
    clear ho hb
    by_cases hlt : k < l.length
    · obtain ⟨p, rfl, _, hcl⟩ := (H.out.below HB.out).int hlt
      obtain ⟨x, hx⟩ : ∃ x, l[k] = x := ⟨_, rfl⟩
      have HS := Lib.hid (chars_succ l k hlt)
      rw [hx] at hcl HS
      have hle := chars_le l k
      have b0 : (0 : Int) ≤ (k : Int) := by omega
      have b1 : (k : Int) < (l.length : Int) := by omega
      clear hx
      rcases hoc : outC x with _ | _
      · have HOC := Lib.hid hoc
        clear hoc
        go_wp2_with fail
        refine (rout7_any x _).mono ?_
        rintro e wq ⟨rfl, rfl⟩
        rw [HOC.out]
        go_wp2_with (first
          | (at_builtin; refine app_lit intsT w wr w.heap.size _ _ #[.int .i64 x] 1 _ _ rfl rfl rfl rfl HO.out (by simp [Value.oneCell']) HB.out HB.out.size (by unfold maxLen; simp; omega) (by simp; omega) ?_; intro v2 w2 o2 b2 _ _; have O2 := Lib.hid o2; have B2 := Lib.hid b2; clear o2 b2)
          | fail)
        go_roundw
        case rel => exact ⟨k + 1, by omega, by go_num, by rw [HS.out, HOC.out, if_neg (by simp)]; simpa [ints] using O2.out, B2.out⟩
        case measure => simp [intOf]; omega
      · have HOC := Lib.hid hoc
        clear hoc
        go_wp2_with fail
        refine (rout7_any x _).mono ?_
        rintro e wq ⟨rfl, rfl⟩
        rw [HOC.out]
        go_wp2_with fail
        go_roundw
        case rel => exact ⟨k + 1, by omega, by go_num, by rw [HS.out, HOC.out, if_pos rfl]; exact HO.out, HB.out⟩
        case measure => simp [intOf]; omega
    · obtain rfl : k = l.length := by omega
      go_wp2
      go_ret
      exact ⟨_, rfl, by have := HO.out; rw [List.take_length] at this; exact this, HB.out⟩

set_option maxHeartbeats 2000000 in
theorem ronly_any (A : Option Addr) (l : List Int) (c : Nat) (w : World) (h : Lies w w.heap.size A (ints .i64 l)) (hl : l.length ≤ 1000000) :
    Calls Try.prog 13 #[.slice A l.length c] w fun ed w' => Rowed w w.heap.size 3 (ints .i64 (onlyI l)) ed w' := by
  have H := Lib.hid h
  clear h
  go_enter Try.func13, Try.ntmps13
  go_wp2
  go_loopw [4, 3] (fun iv ov wr => ∃ k : Nat, k ≤ l.length ∧ iv = .int .i64 k ∧ Own wr w.heap.size 3 ov (ints .i64 (onlyI (l.take k))) ∧ Below w.heap.size w wr) (fun iv _ _ => l.length - (intOf iv).toNat)
  case atStart => exact ⟨0, by omega, rfl, Own.empty _ _ _, Below.refl _ _⟩
  case round =>
    obtain ⟨k, hk, rfl, ho, hb⟩ := hrel
    have HO := Lib.hid ho
    have HB := Lib.hid hb
    clear ho hb
    by_cases hlt : k < l.length
    · obtain ⟨p, rfl, _, hcl⟩ := (H.out.below HB.out).int hlt
      obtain ⟨x, hx⟩ : ∃ x, l[k] = x := ⟨_, rfl⟩
      have HS := Lib.hid (only_succ l k hlt)
      rw [hx] at hcl HS
      have hle := only_le l k
      have b0 : (0 : Int) ≤ (k : Int) := by omega
      have b1 : (k : Int) < (l.length : Int) := by omega
      clear hx
      rcases hoc : outC x with _ | _
      · have HOC := Lib.hid hoc
        clear hoc
        go_wp2_with fail
        refine (rout7_any x _).mono ?_
        rintro e wq ⟨rfl, rfl⟩
        rw [HOC.out]
        go_wp2_with fail
        go_roundw
        case rel => exact ⟨k + 1, by omega, by go_num, by rw [HS.out, HOC.out, if_neg (by simp)]; exact HO.out, HB.out⟩
        case measure => simp [intOf]; omega
      · have HOC := Lib.hid hoc
        clear hoc
        go_wp2_with fail
        refine (rout7_any x _).mono ?_
        rintro e wq ⟨rfl, rfl⟩
        rw [HOC.out]
        go_wp2_with (first
          | (at_builtin; refine app_lit intsT w wr w.heap.size _ _ #[.int .i64 x] 1 _ _ rfl rfl rfl rfl HO.out (by simp [Value.oneCell']) HB.out HB.out.size (by unfold maxLen; simp; omega) (by simp; omega) ?_; intro v2 w2 o2 b2 _ _; have O2 := Lib.hid o2; have B2 := Lib.hid b2; clear o2 b2)
          | fail)
        go_roundw
        case rel => exact ⟨k + 1, by omega, by go_num, by rw [HS.out, HOC.out, if_pos rfl]; simpa [ints] using O2.out, B2.out⟩
        case measure => simp [intOf]; omega
    · obtain rfl : k = l.length := by omega
      go_wp2
      go_ret
      exact ⟨_, rfl, by have := HO.out; rw [List.take_length] at this; exact this, HB.out⟩

set_option maxHeartbeats 2000000 in
theorem rrank_any (A : Option Addr) (l : List Int) (c : Nat) (i : Int) (w : World) (h : Lies w w.heap.size A (ints .i64 l)) (hl : l.length ≤ 1000000) :
    Calls Try.prog 15 #[.slice A l.length c, .int .i64 i] w fun ed w' => ed = .returned (.int .i64 (rankI l i : Int)) ∧ w = w' := by
  have H := Lib.hid h
  obtain ⟨z, hz⟩ : ∃ z, rankI l i = z := ⟨_, rfl⟩
  have HZ := Lib.hid hz
  rw [hz]
  clear h hz
  go_enter Try.func15, Try.ntmps15
  go_wp2
  go_loopw [6, 5] (fun iv nv wr => ∃ k : Nat, k ≤ l.length ∧ k ≤ i.toNat ∧ iv = .int .i64 k ∧ nv = .int .i64 ((charsI (l.take k)).length : Int) ∧ wr = w) (fun iv _ _ => l.length - (intOf iv).toNat)
  case atStart => exact ⟨0, by omega, by omega, rfl, rfl, rfl⟩
  case round =>
    obtain ⟨k, hk, hki, rfl, rfl, rfl⟩ := hrel
    have hle := chars_le l k
    have HTZ : Hid (l.length ≤ k ∨ i.toNat ≤ k → (charsI (l.take k)).length = z) := Lib.hid fun h => by
      rw [← HZ.out, rankI]
      rcases h with h | h
      · rw [List.take_of_length_le h, List.take_of_length_le (by omega)]
      · rw [show i.toNat = k by omega]
    obtain ⟨n, hn⟩ : ∃ n, (charsI (l.take k)).length = n := ⟨_, rfl⟩
    have hle0 := hle
    rw [hn] at hle HTZ
    by_cases hlt : k < l.length
    · rcases hi : decide ((k : Int) < i) with _ | _
      · have : n = z := HTZ.out (.inr (by simp at hi; omega))
        subst this
        go_wp2
        go_ret
        exact ⟨rfl, rfl⟩
      · have hki' : k + 1 ≤ i.toNat := by simp at hi; omega
        obtain ⟨p, rfl, _, hcl⟩ := H.out.int hlt
        obtain ⟨x, hx⟩ : ∃ x, l[k] = x := ⟨_, rfl⟩
        have HS := Lib.hid (chars_succ l k hlt)
        rw [hx] at hcl HS
        have HN := Lib.hid hn
        have b0 : (0 : Int) ≤ (k : Int) := by omega
        have b1 : (k : Int) < (l.length : Int) := by omega
        clear hx hn
        rcases hoc : outC x with _ | _
        · have HOC := Lib.hid hoc
          have HR : Hid ((charsI (l.take (k + 1))).length = n + 1) := Lib.hid (by rw [HS.out, hoc, if_neg (by simp), List.length_append, HN.out]; rfl)
          clear hoc
          go_wp2_with fail
          refine (rout7_any x _).mono ?_
          rintro e wq ⟨rfl, rfl⟩
          rw [HOC.out]
          go_wp2_with fail
          go_roundw
          case rel => exact ⟨k + 1, by omega, hki', by go_num, by rw [HR.out, ← HN.out]; go_num, by first | rfl | trivial⟩
          case measure => simp [intOf]; omega
        · have HOC := Lib.hid hoc
          have HR : Hid ((charsI (l.take (k + 1))).length = n) := Lib.hid (by rw [HS.out, hoc, if_pos rfl, HN.out])
          clear hoc
          go_wp2_with fail
          refine (rout7_any x _).mono ?_
          rintro e wq ⟨rfl, rfl⟩
          rw [HOC.out]
          go_wp2_with fail
          go_roundw
          case rel => exact ⟨k + 1, by omega, hki', by go_num, by rw [HR.out, HN.out], by first | rfl | trivial⟩
          case measure => simp [intOf]; omega
    · have : n = z := HTZ.out (.inl (by omega))
      subst this
      go_wp2
      go_ret
      exact ⟨rfl, rfl⟩

set_option maxHeartbeats 1000000 in
theorem rsame_any (A : Option Addr) (a : List Int) (c : Nat) (A' : Option Addr) (b : List Int) (c' : Nat) (w : World) (h : Lies w w.heap.size A (ints .i64 a)) (h' : Lies w w.heap.size A' (ints .i64 b)) (ha : a.length ≤ 1000000) (hb : b.length ≤ 1000000) :
    Calls Try.prog 17 #[.slice A a.length c, .slice A' b.length c'] w fun e w' => e = .returned (.bool (decide (charsI a = charsI b))) ∧ Below w.heap.size w w' := by
  have H := Lib.hid h
  have H' := Lib.hid h'
  obtain ⟨ca, hca⟩ : ∃ x, charsI a = x := ⟨_, rfl⟩
  obtain ⟨cb, hcb⟩ : ∃ x, charsI b = x := ⟨_, rfl⟩
  have hla : ca.length ≤ 1000000 := by have := chars_le a a.length; rw [List.take_length, hca] at this; omega
  have hlb : cb.length ≤ 1000000 := by have := chars_le b b.length; rw [List.take_length, hcb] at this; omega
  have HA := Lib.hid hca
  have HB := Lib.hid hcb
  rw [hca, hcb]
  clear h h' hca hcb
  go_enter Try.func17, Try.ntmps17
  go_wp2_with fail
  refine (rchars_any A a c w H.out ha).mono ?_
  rintro e w1 ⟨v1, rfl, o1, b1⟩
  rw [HA.out] at o1
  obtain ⟨A1, c1, rfl, l1, _, _⟩ := o1.form
  have B1 := Lib.hid b1
  have L1 := Lib.hid l1
  have D1 := Lib.hid b1
  simp only [ints, List.length_map]
  clear o1 b1 l1
  have HB1 := Lib.hid (H'.out.up B1.out)
  go_wp2_with fail
  refine (rchars_any A' b c' w1 HB1.out hb).mono ?_
  rintro e w2 ⟨v2, rfl, o2, b2⟩
  rw [HB.out] at o2
  obtain ⟨A2, c2, rfl, l2, _, _⟩ := o2.form
  have B2 := Lib.hid (below_then B1.out b2)
  have L2 := Lib.hid l2
  have D2 := Lib.hid b2
  simp only [ints, List.length_map]
  clear o2 b2 l2
  have L1b := Lib.hid (L1.out.up D2.out)
  go_wp2_with fail
  refine (ints_any A1 A2 ca cb c1 c2 w2 L1b.out L2.out hla hlb).mono ?_
  rintro e w3 ⟨rfl, b3⟩
  have B3 := Lib.hid (below_then B2.out b3)
  have D3 := Lib.hid b3
  clear b3
  go_wp2_with fail
  go_ret
  exact ⟨rfl, B3.out⟩
end Go.Proofs.Ytdblpcfbhhgfdaa
