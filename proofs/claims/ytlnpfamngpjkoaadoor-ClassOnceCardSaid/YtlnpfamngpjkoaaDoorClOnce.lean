/- ClassOnce: for every number, it has one class, of one kind. Conditions: none beyond the row's own (the classes' names as the program's text lays them). -/
import Derived.Test.YtlnpfamngpjkoaaDoorClL
import Derived.Test.YtlnpfamngpjkoaaDoorLaw
namespace Go.Proofs.YtlnpfamngpjkoaaDoor.lawOnce
open Go.ChangeShapes Go.WideShapes Go.ChangeAt Go.RowKit Reckon

theorem step_low {c : Int} {v : AV} : ∀ {l : List (Int × AV)}, (∀ x ∈ l.head?, c < x.1) → stepF c v l = v
  | [], _ => rfl
  | (x, u) :: r, h => by
    have := h (x, u) (by simp)
    simp only [stepF, if_pos this]
theorem step_high {c : Int} : ∀ (l : List (Int × AV)) (v : AV), (∀ x ∈ l, x.1 ≤ c) → stepF c v l = ((l.map (·.2)).getLast?).getD v
  | [], v, _ => rfl
  | (x, u) :: r, v, h => by
    have h0 := h (x, u) (by simp)
    have := step_high (c := c) r u (fun y hy => h y (by simp [hy]))
    simp only [stepF, if_neg (show ¬ c < x by simp at h0; omega), this]
    cases r with
    | nil => rfl
    | cons y r => simp [List.getLast?_cons]
/-- what is no character has class 0 -/
theorem cls_out (c : Int) (h : c < 0 ∨ 1114111 < c) : cls c = 0 := by
  rcases h with h | h
  · unfold cls
    rw [step_low (by intro x hx; simp [clsSteps] at hx; subst hx; exact h)]
    rfl
  · unfold cls
    rw [step_high]
    · rfl
    · intro x hx
      have : x.1 ≤ 1114111 := by
        have h2 : ∀ x ∈ clsSteps, x.1 ≤ 1114111 := by decide
        exact h2 x hx
      omega

def kind (S O N P : Bool) (m1 m2 m3 : Int) (k : Int) : Prop := isStrong k = S ∧ isOut k = O ∧ isNeutral k = N ∧ isOpens k = P ∧
  m1 = (if S then 1 else 0) ∧ m2 = m1 + (if O then 1 else 0) ∧ m3 = m2 + (if N then 1 else 0)
theorem kinds (k : Int) (h : 0 ≤ k ∧ k ≤ 22) : ∃ S O N P m1 m2 m3, kind S O N P m1 m2 m3 k ∧
    ((3 ≤ k ∧ k ≤ 8 ∧ S = false ∧ O = false ∧ N = false ∧ P = false ∧ m1 = 0 ∧ m2 = 0 ∧ m3 = 0) ∨ (k ≤ 2 ∧ k ≤ 2 ∧ S = true ∧ O = false ∧ N = false ∧ P = false ∧ m1 = 1 ∧ m2 = 1 ∧ m3 = 1) ∨
     (9 ≤ k ∧ 9 ≤ k ∧ S = false ∧ O = true ∧ N = false ∧ P = false ∧ m1 = 0 ∧ m2 = 1 ∧ m3 = 1) ∨
     (9 ≤ k ∧ 9 ≤ k ∧ S = false ∧ O = false ∧ N = true ∧ P = false ∧ m1 = 0 ∧ m2 = 0 ∧ m3 = 1) ∨ (9 ≤ k ∧ 9 ≤ k ∧ S = false ∧ O = false ∧ N = true ∧ P = true ∧ m1 = 0 ∧ m2 = 0 ∧ m3 = 1)) := by
  refine ⟨_, _, _, _, _, _, _, ⟨rfl, rfl, rfl, rfl, rfl, rfl, rfl⟩, ?_⟩
  have hk : k = 0 ∨ k = 1 ∨ k = 2 ∨ k = 3 ∨ k = 4 ∨ k = 5 ∨ k = 6 ∨ k = 7 ∨ k = 8 ∨ k = 9 ∨ k = 10 ∨ k = 11 ∨ k = 12 ∨ k = 13 ∨ k = 14 ∨ k = 15 ∨ k = 16 ∨ k = 17 ∨ k = 18 ∨ k = 19 ∨ k = 20 ∨ k = 21 ∨ k = 22 := by omega
  rcases hk with rfl | rfl | rfl | rfl | rfl | rfl | rfl | rfl | rfl | rfl | rfl | rfl | rfl | rfl | rfl | rfl | rfl | rfl | rfl | rfl | rfl | rfl | rfl
  all_goals decide
theorem word_some (k : Int) (h : 0 ≤ k ∧ k ≤ 22) : ((wordOf k).toList == []) = false := by
  have hk : ∀ m : Fin 23, ((wordOf (m.val : Int)).toList == []) = false := by decide +kernel
  have := hk ⟨k.toNat, by omega⟩
  have e : ((k.toNat : Nat) : Int) = k := by omega
  simp only [e] at this
  exact this


set_option maxHeartbeats 4000000 in
theorem walk_a (w : World) (hT : ClsTabs w) (c k : Int) (W : ByteArray) (HK : Hid (cls c = k)) (HW : Hid (wordOf k = W)) (hW : (W.toList == []) = false) (HS : Hid (isStrong k = false)) (HO : Hid (isOut k = false)) (HN : Hid (isNeutral k = false)) (HP : Hid (isOpens k = false))
    (q1 : 3 ≤ k) (q2 : k ≤ 8) (r1 : 0 ≤ c) (r2 : c ≤ 1114111) :
    Calls Tryd.prog 4 #[.int .i64 c] w fun e w' => e = .returned (.bool true) ∧ Below w.heap.size w w' := by
  have HT := Lib.hid hT
  have hbig := hT.big
  clear hT
  go_enter Tryd.func4, Tryd.ntmps4
  go_wp2_with fail
  refine (calive_any w HT.out).mono ?_
  rintro e w1 ⟨rfl, b1⟩
  have B1 := Lib.hid b1
  clear b1
  go_wp2_with fail
  refine (of_any c _).mono ?_
  rintro e w2 ⟨rfl, rfl⟩
  rw [HK.out]
  go_wp2_with fail
  go_loopw [5, 4] (fun i m wr => ((i = .int .i64 0 ∧ m = .int .i64 0) ∨ (i = .int .i64 1 ∧ m = .int .i64 0) ∨ (i = .int .i64 2 ∧ m = .int .i64 0) ∨ (i = .int .i64 3 ∧ m = .int .i64 0)) ∧ Below w.heap.size w wr) (fun i _ _ => 3 - (intOf i).toNat)
  case atStart => exact ⟨.inl ⟨rfl, rfl⟩, B1.out⟩
  case round =>
      obtain ⟨hj, hb⟩ := hrel
      have HB := Lib.hid hb
      clear hb
      rcases hj with ⟨rfl, rfl⟩ | ⟨rfl, rfl⟩ | ⟨rfl, rfl⟩ | ⟨rfl, rfl⟩
      · go_wp2_with (first
          | (go_at_call 15; refine (strong_any _ _).mono ?_; rintro e w3 ⟨rfl, b3⟩; rw [HS.out]; have B3 := Lib.hid b3; clear b3)
          | (go_at_call 17; refine (out_any _ _).mono ?_; rintro e w4 ⟨rfl, b4⟩; rw [HO.out]; have B4 := Lib.hid b4; clear b4)
          | (go_at_call 21; refine (neutral_any _ _).mono ?_; rintro e w5 ⟨rfl, b5⟩; rw [HN.out]; have B5 := Lib.hid b5; clear b5))
        go_roundw
        case rel => exact ⟨.inr (.inl ⟨rfl, rfl⟩), below_then HB.out (below_then B3.out (below_then B4.out (below_then B5.out (below_alloc _ _))))⟩
        case measure => simp [intOf]
      · go_wp2_with (first
          | (go_at_call 15; refine (strong_any _ _).mono ?_; rintro e w3 ⟨rfl, b3⟩; rw [HS.out]; have B3 := Lib.hid b3; clear b3)
          | (go_at_call 17; refine (out_any _ _).mono ?_; rintro e w4 ⟨rfl, b4⟩; rw [HO.out]; have B4 := Lib.hid b4; clear b4)
          | (go_at_call 21; refine (neutral_any _ _).mono ?_; rintro e w5 ⟨rfl, b5⟩; rw [HN.out]; have B5 := Lib.hid b5; clear b5))
        go_roundw
        case rel => exact ⟨.inr (.inr (.inl ⟨rfl, rfl⟩)), below_then HB.out (below_then B3.out (below_then B4.out (below_then B5.out (below_alloc _ _))))⟩
        case measure => simp [intOf]
      · go_wp2_with (first
          | (go_at_call 15; refine (strong_any _ _).mono ?_; rintro e w3 ⟨rfl, b3⟩; rw [HS.out]; have B3 := Lib.hid b3; clear b3)
          | (go_at_call 17; refine (out_any _ _).mono ?_; rintro e w4 ⟨rfl, b4⟩; rw [HO.out]; have B4 := Lib.hid b4; clear b4)
          | (go_at_call 21; refine (neutral_any _ _).mono ?_; rintro e w5 ⟨rfl, b5⟩; rw [HN.out]; have B5 := Lib.hid b5; clear b5))
        go_roundw
        case rel => exact ⟨.inr (.inr (.inr ⟨rfl, rfl⟩)), below_then HB.out (below_then B3.out (below_then B4.out (below_then B5.out (below_alloc _ _))))⟩
        case measure => simp [intOf]
      · go_wp2_with fail
        refine (word_any _ _ (HT.out.below HB.out hbig)).mono ?_
        rintro e w6 ⟨rfl, rfl⟩
        rw [HW.out]
        go_wp2_with fail
        refine (opens_any _ _).mono ?_
        rintro e w6 ⟨rfl, b6⟩
        have B6 := Lib.hid (below_then HB.out b6)
        clear b6
        rw [HP.out]
        go_wp2
        go_ret
        exact ⟨rfl, B6.out⟩

set_option maxHeartbeats 4000000 in
theorem walk_b (w : World) (hT : ClsTabs w) (c k : Int) (W : ByteArray) (HK : Hid (cls c = k)) (HW : Hid (wordOf k = W)) (hW : (W.toList == []) = false) (HS : Hid (isStrong k = true)) (HO : Hid (isOut k = false)) (HN : Hid (isNeutral k = false)) (HP : Hid (isOpens k = false))
    (q1 : 0 ≤ k) (q2 : k ≤ 2) (r1 : 0 ≤ c) (r2 : c ≤ 1114111) :
    Calls Tryd.prog 4 #[.int .i64 c] w fun e w' => e = .returned (.bool true) ∧ Below w.heap.size w w' := by
  have HT := Lib.hid hT
  have hbig := hT.big
  clear hT
  go_enter Tryd.func4, Tryd.ntmps4
  go_wp2_with fail
  refine (calive_any w HT.out).mono ?_
  rintro e w1 ⟨rfl, b1⟩
  have B1 := Lib.hid b1
  clear b1
  go_wp2_with fail
  refine (of_any c _).mono ?_
  rintro e w2 ⟨rfl, rfl⟩
  rw [HK.out]
  go_wp2_with fail
  go_loopw [5, 4] (fun i m wr => ((i = .int .i64 0 ∧ m = .int .i64 0) ∨ (i = .int .i64 1 ∧ m = .int .i64 1) ∨ (i = .int .i64 2 ∧ m = .int .i64 1) ∨ (i = .int .i64 3 ∧ m = .int .i64 1)) ∧ Below w.heap.size w wr) (fun i _ _ => 3 - (intOf i).toNat)
  case atStart => exact ⟨.inl ⟨rfl, rfl⟩, B1.out⟩
  case round =>
      obtain ⟨hj, hb⟩ := hrel
      have HB := Lib.hid hb
      clear hb
      rcases hj with ⟨rfl, rfl⟩ | ⟨rfl, rfl⟩ | ⟨rfl, rfl⟩ | ⟨rfl, rfl⟩
      · go_wp2_with (first
          | (go_at_call 15; refine (strong_any _ _).mono ?_; rintro e w3 ⟨rfl, b3⟩; rw [HS.out]; have B3 := Lib.hid b3; clear b3)
          | (go_at_call 17; refine (out_any _ _).mono ?_; rintro e w4 ⟨rfl, b4⟩; rw [HO.out]; have B4 := Lib.hid b4; clear b4)
          | (go_at_call 21; refine (neutral_any _ _).mono ?_; rintro e w5 ⟨rfl, b5⟩; rw [HN.out]; have B5 := Lib.hid b5; clear b5))
        go_roundw
        case rel => exact ⟨.inr (.inl ⟨rfl, rfl⟩), below_then HB.out (below_then B3.out (below_then B4.out (below_then B5.out (below_alloc _ _))))⟩
        case measure => simp [intOf]
      · go_wp2_with (first
          | (go_at_call 15; refine (strong_any _ _).mono ?_; rintro e w3 ⟨rfl, b3⟩; rw [HS.out]; have B3 := Lib.hid b3; clear b3)
          | (go_at_call 17; refine (out_any _ _).mono ?_; rintro e w4 ⟨rfl, b4⟩; rw [HO.out]; have B4 := Lib.hid b4; clear b4)
          | (go_at_call 21; refine (neutral_any _ _).mono ?_; rintro e w5 ⟨rfl, b5⟩; rw [HN.out]; have B5 := Lib.hid b5; clear b5))
        go_roundw
        case rel => exact ⟨.inr (.inr (.inl ⟨rfl, rfl⟩)), below_then HB.out (below_then B3.out (below_then B4.out (below_then B5.out (below_alloc _ _))))⟩
        case measure => simp [intOf]
      · go_wp2_with (first
          | (go_at_call 15; refine (strong_any _ _).mono ?_; rintro e w3 ⟨rfl, b3⟩; rw [HS.out]; have B3 := Lib.hid b3; clear b3)
          | (go_at_call 17; refine (out_any _ _).mono ?_; rintro e w4 ⟨rfl, b4⟩; rw [HO.out]; have B4 := Lib.hid b4; clear b4)
          | (go_at_call 21; refine (neutral_any _ _).mono ?_; rintro e w5 ⟨rfl, b5⟩; rw [HN.out]; have B5 := Lib.hid b5; clear b5))
        go_roundw
        case rel => exact ⟨.inr (.inr (.inr ⟨rfl, rfl⟩)), below_then HB.out (below_then B3.out (below_then B4.out (below_then B5.out (below_alloc _ _))))⟩
        case measure => simp [intOf]
      · go_wp2_with fail
        refine (word_any _ _ (HT.out.below HB.out hbig)).mono ?_
        rintro e w6 ⟨rfl, rfl⟩
        rw [HW.out]
        go_wp2_with fail
        refine (opens_any _ _).mono ?_
        rintro e w6 ⟨rfl, b6⟩
        have B6 := Lib.hid (below_then HB.out b6)
        clear b6
        rw [HP.out]
        go_wp2
        go_ret
        exact ⟨rfl, B6.out⟩

set_option maxHeartbeats 4000000 in
theorem walk_bl (w : World) (hT : ClsTabs w) (c k : Int) (W : ByteArray) (HK : Hid (cls c = k)) (HW : Hid (wordOf k = W)) (hW : (W.toList == []) = false) (HS : Hid (isStrong k = true)) (HO : Hid (isOut k = false)) (HN : Hid (isNeutral k = false)) (HP : Hid (isOpens k = false))
    (q1 : k = 0) (q2 : k = 0) (r1 : c < 0) (_ : c < 0) :
    Calls Tryd.prog 4 #[.int .i64 c] w fun e w' => e = .returned (.bool true) ∧ Below w.heap.size w w' := by
  have HT := Lib.hid hT
  have hbig := hT.big
  clear hT
  obtain rfl := q1
  go_enter Tryd.func4, Tryd.ntmps4
  go_wp2_with fail
  refine (calive_any w HT.out).mono ?_
  rintro e w1 ⟨rfl, b1⟩
  have B1 := Lib.hid b1
  clear b1
  go_wp2_with fail
  refine (of_any c _).mono ?_
  rintro e w2 ⟨rfl, rfl⟩
  rw [HK.out]
  go_wp2_with fail
  go_loopw [5, 4] (fun i m wr => ((i = .int .i64 0 ∧ m = .int .i64 0) ∨ (i = .int .i64 1 ∧ m = .int .i64 1) ∨ (i = .int .i64 2 ∧ m = .int .i64 1) ∨ (i = .int .i64 3 ∧ m = .int .i64 1)) ∧ Below w.heap.size w wr) (fun i _ _ => 3 - (intOf i).toNat)
  case atStart => exact ⟨.inl ⟨rfl, rfl⟩, B1.out⟩
  case round =>
      obtain ⟨hj, hb⟩ := hrel
      have HB := Lib.hid hb
      clear hb
      rcases hj with ⟨rfl, rfl⟩ | ⟨rfl, rfl⟩ | ⟨rfl, rfl⟩ | ⟨rfl, rfl⟩
      · go_wp2_with (first
          | (go_at_call 15; refine (strong_any _ _).mono ?_; rintro e w3 ⟨rfl, b3⟩; rw [HS.out]; have B3 := Lib.hid b3; clear b3)
          | (go_at_call 17; refine (out_any _ _).mono ?_; rintro e w4 ⟨rfl, b4⟩; rw [HO.out]; have B4 := Lib.hid b4; clear b4)
          | (go_at_call 21; refine (neutral_any _ _).mono ?_; rintro e w5 ⟨rfl, b5⟩; rw [HN.out]; have B5 := Lib.hid b5; clear b5))
        go_roundw
        case rel => exact ⟨.inr (.inl ⟨rfl, rfl⟩), below_then HB.out (below_then B3.out (below_then B4.out (below_then B5.out (below_alloc _ _))))⟩
        case measure => simp [intOf]
      · go_wp2_with (first
          | (go_at_call 15; refine (strong_any _ _).mono ?_; rintro e w3 ⟨rfl, b3⟩; rw [HS.out]; have B3 := Lib.hid b3; clear b3)
          | (go_at_call 17; refine (out_any _ _).mono ?_; rintro e w4 ⟨rfl, b4⟩; rw [HO.out]; have B4 := Lib.hid b4; clear b4)
          | (go_at_call 21; refine (neutral_any _ _).mono ?_; rintro e w5 ⟨rfl, b5⟩; rw [HN.out]; have B5 := Lib.hid b5; clear b5))
        go_roundw
        case rel => exact ⟨.inr (.inr (.inl ⟨rfl, rfl⟩)), below_then HB.out (below_then B3.out (below_then B4.out (below_then B5.out (below_alloc _ _))))⟩
        case measure => simp [intOf]
      · go_wp2_with (first
          | (go_at_call 15; refine (strong_any _ _).mono ?_; rintro e w3 ⟨rfl, b3⟩; rw [HS.out]; have B3 := Lib.hid b3; clear b3)
          | (go_at_call 17; refine (out_any _ _).mono ?_; rintro e w4 ⟨rfl, b4⟩; rw [HO.out]; have B4 := Lib.hid b4; clear b4)
          | (go_at_call 21; refine (neutral_any _ _).mono ?_; rintro e w5 ⟨rfl, b5⟩; rw [HN.out]; have B5 := Lib.hid b5; clear b5))
        go_roundw
        case rel => exact ⟨.inr (.inr (.inr ⟨rfl, rfl⟩)), below_then HB.out (below_then B3.out (below_then B4.out (below_then B5.out (below_alloc _ _))))⟩
        case measure => simp [intOf]
      · go_wp2_with fail
        refine (word_any _ _ (HT.out.below HB.out hbig)).mono ?_
        rintro e w6 ⟨rfl, rfl⟩
        rw [HW.out]
        go_wp2_with fail
        refine (opens_any _ _).mono ?_
        rintro e w6 ⟨rfl, b6⟩
        have B6 := Lib.hid (below_then HB.out b6)
        clear b6
        rw [HP.out]
        go_wp2
        go_ret
        exact ⟨rfl, B6.out⟩

set_option maxHeartbeats 4000000 in
theorem walk_bh (w : World) (hT : ClsTabs w) (c k : Int) (W : ByteArray) (HK : Hid (cls c = k)) (HW : Hid (wordOf k = W)) (hW : (W.toList == []) = false) (HS : Hid (isStrong k = true)) (HO : Hid (isOut k = false)) (HN : Hid (isNeutral k = false)) (HP : Hid (isOpens k = false))
    (q1 : k = 0) (q2 : k = 0) (r1 : 1114111 < c) (_ : 1114111 < c) :
    Calls Tryd.prog 4 #[.int .i64 c] w fun e w' => e = .returned (.bool true) ∧ Below w.heap.size w w' := by
  have HT := Lib.hid hT
  have hbig := hT.big
  clear hT
  obtain rfl := q1
  go_enter Tryd.func4, Tryd.ntmps4
  go_wp2_with fail
  refine (calive_any w HT.out).mono ?_
  rintro e w1 ⟨rfl, b1⟩
  have B1 := Lib.hid b1
  clear b1
  go_wp2_with fail
  refine (of_any c _).mono ?_
  rintro e w2 ⟨rfl, rfl⟩
  rw [HK.out]
  go_wp2_with fail
  go_loopw [5, 4] (fun i m wr => ((i = .int .i64 0 ∧ m = .int .i64 0) ∨ (i = .int .i64 1 ∧ m = .int .i64 1) ∨ (i = .int .i64 2 ∧ m = .int .i64 1) ∨ (i = .int .i64 3 ∧ m = .int .i64 1)) ∧ Below w.heap.size w wr) (fun i _ _ => 3 - (intOf i).toNat)
  case atStart => exact ⟨.inl ⟨rfl, rfl⟩, B1.out⟩
  case round =>
      obtain ⟨hj, hb⟩ := hrel
      have HB := Lib.hid hb
      clear hb
      rcases hj with ⟨rfl, rfl⟩ | ⟨rfl, rfl⟩ | ⟨rfl, rfl⟩ | ⟨rfl, rfl⟩
      · go_wp2_with (first
          | (go_at_call 15; refine (strong_any _ _).mono ?_; rintro e w3 ⟨rfl, b3⟩; rw [HS.out]; have B3 := Lib.hid b3; clear b3)
          | (go_at_call 17; refine (out_any _ _).mono ?_; rintro e w4 ⟨rfl, b4⟩; rw [HO.out]; have B4 := Lib.hid b4; clear b4)
          | (go_at_call 21; refine (neutral_any _ _).mono ?_; rintro e w5 ⟨rfl, b5⟩; rw [HN.out]; have B5 := Lib.hid b5; clear b5))
        go_roundw
        case rel => exact ⟨.inr (.inl ⟨rfl, rfl⟩), below_then HB.out (below_then B3.out (below_then B4.out (below_then B5.out (below_alloc _ _))))⟩
        case measure => simp [intOf]
      · go_wp2_with (first
          | (go_at_call 15; refine (strong_any _ _).mono ?_; rintro e w3 ⟨rfl, b3⟩; rw [HS.out]; have B3 := Lib.hid b3; clear b3)
          | (go_at_call 17; refine (out_any _ _).mono ?_; rintro e w4 ⟨rfl, b4⟩; rw [HO.out]; have B4 := Lib.hid b4; clear b4)
          | (go_at_call 21; refine (neutral_any _ _).mono ?_; rintro e w5 ⟨rfl, b5⟩; rw [HN.out]; have B5 := Lib.hid b5; clear b5))
        go_roundw
        case rel => exact ⟨.inr (.inr (.inl ⟨rfl, rfl⟩)), below_then HB.out (below_then B3.out (below_then B4.out (below_then B5.out (below_alloc _ _))))⟩
        case measure => simp [intOf]
      · go_wp2_with (first
          | (go_at_call 15; refine (strong_any _ _).mono ?_; rintro e w3 ⟨rfl, b3⟩; rw [HS.out]; have B3 := Lib.hid b3; clear b3)
          | (go_at_call 17; refine (out_any _ _).mono ?_; rintro e w4 ⟨rfl, b4⟩; rw [HO.out]; have B4 := Lib.hid b4; clear b4)
          | (go_at_call 21; refine (neutral_any _ _).mono ?_; rintro e w5 ⟨rfl, b5⟩; rw [HN.out]; have B5 := Lib.hid b5; clear b5))
        go_roundw
        case rel => exact ⟨.inr (.inr (.inr ⟨rfl, rfl⟩)), below_then HB.out (below_then B3.out (below_then B4.out (below_then B5.out (below_alloc _ _))))⟩
        case measure => simp [intOf]
      · go_wp2_with fail
        refine (word_any _ _ (HT.out.below HB.out hbig)).mono ?_
        rintro e w6 ⟨rfl, rfl⟩
        rw [HW.out]
        go_wp2_with fail
        refine (opens_any _ _).mono ?_
        rintro e w6 ⟨rfl, b6⟩
        have B6 := Lib.hid (below_then HB.out b6)
        clear b6
        rw [HP.out]
        go_wp2
        go_ret
        exact ⟨rfl, B6.out⟩

set_option maxHeartbeats 4000000 in
theorem walk_o (w : World) (hT : ClsTabs w) (c k : Int) (W : ByteArray) (HK : Hid (cls c = k)) (HW : Hid (wordOf k = W)) (hW : (W.toList == []) = false) (HS : Hid (isStrong k = false)) (HO : Hid (isOut k = true)) (HN : Hid (isNeutral k = false)) (HP : Hid (isOpens k = false))
    (q1 : 9 ≤ k) (q2 : k ≤ 22) (r1 : 0 ≤ c) (r2 : c ≤ 1114111) :
    Calls Tryd.prog 4 #[.int .i64 c] w fun e w' => e = .returned (.bool true) ∧ Below w.heap.size w w' := by
  have HT := Lib.hid hT
  have hbig := hT.big
  clear hT
  go_enter Tryd.func4, Tryd.ntmps4
  go_wp2_with fail
  refine (calive_any w HT.out).mono ?_
  rintro e w1 ⟨rfl, b1⟩
  have B1 := Lib.hid b1
  clear b1
  go_wp2_with fail
  refine (of_any c _).mono ?_
  rintro e w2 ⟨rfl, rfl⟩
  rw [HK.out]
  go_wp2_with fail
  go_loopw [5, 4] (fun i m wr => ((i = .int .i64 0 ∧ m = .int .i64 0) ∨ (i = .int .i64 1 ∧ m = .int .i64 0) ∨ (i = .int .i64 2 ∧ m = .int .i64 1) ∨ (i = .int .i64 3 ∧ m = .int .i64 1)) ∧ Below w.heap.size w wr) (fun i _ _ => 3 - (intOf i).toNat)
  case atStart => exact ⟨.inl ⟨rfl, rfl⟩, B1.out⟩
  case round =>
      obtain ⟨hj, hb⟩ := hrel
      have HB := Lib.hid hb
      clear hb
      rcases hj with ⟨rfl, rfl⟩ | ⟨rfl, rfl⟩ | ⟨rfl, rfl⟩ | ⟨rfl, rfl⟩
      · go_wp2_with (first
          | (go_at_call 15; refine (strong_any _ _).mono ?_; rintro e w3 ⟨rfl, b3⟩; rw [HS.out]; have B3 := Lib.hid b3; clear b3)
          | (go_at_call 17; refine (out_any _ _).mono ?_; rintro e w4 ⟨rfl, b4⟩; rw [HO.out]; have B4 := Lib.hid b4; clear b4)
          | (go_at_call 21; refine (neutral_any _ _).mono ?_; rintro e w5 ⟨rfl, b5⟩; rw [HN.out]; have B5 := Lib.hid b5; clear b5))
        go_roundw
        case rel => exact ⟨.inr (.inl ⟨rfl, rfl⟩), below_then HB.out (below_then B3.out (below_then B4.out (below_then B5.out (below_alloc _ _))))⟩
        case measure => simp [intOf]
      · go_wp2_with (first
          | (go_at_call 15; refine (strong_any _ _).mono ?_; rintro e w3 ⟨rfl, b3⟩; rw [HS.out]; have B3 := Lib.hid b3; clear b3)
          | (go_at_call 17; refine (out_any _ _).mono ?_; rintro e w4 ⟨rfl, b4⟩; rw [HO.out]; have B4 := Lib.hid b4; clear b4)
          | (go_at_call 21; refine (neutral_any _ _).mono ?_; rintro e w5 ⟨rfl, b5⟩; rw [HN.out]; have B5 := Lib.hid b5; clear b5))
        go_roundw
        case rel => exact ⟨.inr (.inr (.inl ⟨rfl, rfl⟩)), below_then HB.out (below_then B3.out (below_then B4.out (below_then B5.out (below_alloc _ _))))⟩
        case measure => simp [intOf]
      · go_wp2_with (first
          | (go_at_call 15; refine (strong_any _ _).mono ?_; rintro e w3 ⟨rfl, b3⟩; rw [HS.out]; have B3 := Lib.hid b3; clear b3)
          | (go_at_call 17; refine (out_any _ _).mono ?_; rintro e w4 ⟨rfl, b4⟩; rw [HO.out]; have B4 := Lib.hid b4; clear b4)
          | (go_at_call 21; refine (neutral_any _ _).mono ?_; rintro e w5 ⟨rfl, b5⟩; rw [HN.out]; have B5 := Lib.hid b5; clear b5))
        go_roundw
        case rel => exact ⟨.inr (.inr (.inr ⟨rfl, rfl⟩)), below_then HB.out (below_then B3.out (below_then B4.out (below_then B5.out (below_alloc _ _))))⟩
        case measure => simp [intOf]
      · go_wp2_with fail
        refine (word_any _ _ (HT.out.below HB.out hbig)).mono ?_
        rintro e w6 ⟨rfl, rfl⟩
        rw [HW.out]
        go_wp2_with fail
        refine (opens_any _ _).mono ?_
        rintro e w6 ⟨rfl, b6⟩
        have B6 := Lib.hid (below_then HB.out b6)
        clear b6
        rw [HP.out]
        go_wp2
        go_ret
        exact ⟨ret_bool (show (!decide (k ≤ 8)) = true by simp; omega), B6.out⟩

set_option maxHeartbeats 4000000 in
theorem walk_n (w : World) (hT : ClsTabs w) (c k : Int) (W : ByteArray) (HK : Hid (cls c = k)) (HW : Hid (wordOf k = W)) (hW : (W.toList == []) = false) (HS : Hid (isStrong k = false)) (HO : Hid (isOut k = false)) (HN : Hid (isNeutral k = true)) (HP : Hid (isOpens k = false))
    (q1 : 9 ≤ k) (q2 : k ≤ 22) (r1 : 0 ≤ c) (r2 : c ≤ 1114111) :
    Calls Tryd.prog 4 #[.int .i64 c] w fun e w' => e = .returned (.bool true) ∧ Below w.heap.size w w' := by
  have HT := Lib.hid hT
  have hbig := hT.big
  clear hT
  go_enter Tryd.func4, Tryd.ntmps4
  go_wp2_with fail
  refine (calive_any w HT.out).mono ?_
  rintro e w1 ⟨rfl, b1⟩
  have B1 := Lib.hid b1
  clear b1
  go_wp2_with fail
  refine (of_any c _).mono ?_
  rintro e w2 ⟨rfl, rfl⟩
  rw [HK.out]
  go_wp2_with fail
  go_loopw [5, 4] (fun i m wr => ((i = .int .i64 0 ∧ m = .int .i64 0) ∨ (i = .int .i64 1 ∧ m = .int .i64 0) ∨ (i = .int .i64 2 ∧ m = .int .i64 0) ∨ (i = .int .i64 3 ∧ m = .int .i64 1)) ∧ Below w.heap.size w wr) (fun i _ _ => 3 - (intOf i).toNat)
  case atStart => exact ⟨.inl ⟨rfl, rfl⟩, B1.out⟩
  case round =>
      obtain ⟨hj, hb⟩ := hrel
      have HB := Lib.hid hb
      clear hb
      rcases hj with ⟨rfl, rfl⟩ | ⟨rfl, rfl⟩ | ⟨rfl, rfl⟩ | ⟨rfl, rfl⟩
      · go_wp2_with (first
          | (go_at_call 15; refine (strong_any _ _).mono ?_; rintro e w3 ⟨rfl, b3⟩; rw [HS.out]; have B3 := Lib.hid b3; clear b3)
          | (go_at_call 17; refine (out_any _ _).mono ?_; rintro e w4 ⟨rfl, b4⟩; rw [HO.out]; have B4 := Lib.hid b4; clear b4)
          | (go_at_call 21; refine (neutral_any _ _).mono ?_; rintro e w5 ⟨rfl, b5⟩; rw [HN.out]; have B5 := Lib.hid b5; clear b5))
        go_roundw
        case rel => exact ⟨.inr (.inl ⟨rfl, rfl⟩), below_then HB.out (below_then B3.out (below_then B4.out (below_then B5.out (below_alloc _ _))))⟩
        case measure => simp [intOf]
      · go_wp2_with (first
          | (go_at_call 15; refine (strong_any _ _).mono ?_; rintro e w3 ⟨rfl, b3⟩; rw [HS.out]; have B3 := Lib.hid b3; clear b3)
          | (go_at_call 17; refine (out_any _ _).mono ?_; rintro e w4 ⟨rfl, b4⟩; rw [HO.out]; have B4 := Lib.hid b4; clear b4)
          | (go_at_call 21; refine (neutral_any _ _).mono ?_; rintro e w5 ⟨rfl, b5⟩; rw [HN.out]; have B5 := Lib.hid b5; clear b5))
        go_roundw
        case rel => exact ⟨.inr (.inr (.inl ⟨rfl, rfl⟩)), below_then HB.out (below_then B3.out (below_then B4.out (below_then B5.out (below_alloc _ _))))⟩
        case measure => simp [intOf]
      · go_wp2_with (first
          | (go_at_call 15; refine (strong_any _ _).mono ?_; rintro e w3 ⟨rfl, b3⟩; rw [HS.out]; have B3 := Lib.hid b3; clear b3)
          | (go_at_call 17; refine (out_any _ _).mono ?_; rintro e w4 ⟨rfl, b4⟩; rw [HO.out]; have B4 := Lib.hid b4; clear b4)
          | (go_at_call 21; refine (neutral_any _ _).mono ?_; rintro e w5 ⟨rfl, b5⟩; rw [HN.out]; have B5 := Lib.hid b5; clear b5))
        go_roundw
        case rel => exact ⟨.inr (.inr (.inr ⟨rfl, rfl⟩)), below_then HB.out (below_then B3.out (below_then B4.out (below_then B5.out (below_alloc _ _))))⟩
        case measure => simp [intOf]
      · go_wp2_with fail
        refine (word_any _ _ (HT.out.below HB.out hbig)).mono ?_
        rintro e w6 ⟨rfl, rfl⟩
        rw [HW.out]
        go_wp2_with fail
        refine (opens_any _ _).mono ?_
        rintro e w6 ⟨rfl, b6⟩
        have B6 := Lib.hid (below_then HB.out b6)
        clear b6
        rw [HP.out]
        go_wp2
        go_ret
        exact ⟨ret_bool (show (!decide (k ≤ 8)) = true by simp; omega), B6.out⟩

set_option maxHeartbeats 4000000 in
theorem walk_p (w : World) (hT : ClsTabs w) (c k : Int) (W : ByteArray) (HK : Hid (cls c = k)) (HW : Hid (wordOf k = W)) (hW : (W.toList == []) = false) (HS : Hid (isStrong k = false)) (HO : Hid (isOut k = false)) (HN : Hid (isNeutral k = true)) (HP : Hid (isOpens k = true))
    (q1 : 9 ≤ k) (q2 : k ≤ 22) (r1 : 0 ≤ c) (r2 : c ≤ 1114111) :
    Calls Tryd.prog 4 #[.int .i64 c] w fun e w' => e = .returned (.bool true) ∧ Below w.heap.size w w' := by
  have HT := Lib.hid hT
  have hbig := hT.big
  clear hT
  go_enter Tryd.func4, Tryd.ntmps4
  go_wp2_with fail
  refine (calive_any w HT.out).mono ?_
  rintro e w1 ⟨rfl, b1⟩
  have B1 := Lib.hid b1
  clear b1
  go_wp2_with fail
  refine (of_any c _).mono ?_
  rintro e w2 ⟨rfl, rfl⟩
  rw [HK.out]
  go_wp2_with fail
  go_loopw [5, 4] (fun i m wr => ((i = .int .i64 0 ∧ m = .int .i64 0) ∨ (i = .int .i64 1 ∧ m = .int .i64 0) ∨ (i = .int .i64 2 ∧ m = .int .i64 0) ∨ (i = .int .i64 3 ∧ m = .int .i64 1)) ∧ Below w.heap.size w wr) (fun i _ _ => 3 - (intOf i).toNat)
  case atStart => exact ⟨.inl ⟨rfl, rfl⟩, B1.out⟩
  case round =>
      obtain ⟨hj, hb⟩ := hrel
      have HB := Lib.hid hb
      clear hb
      rcases hj with ⟨rfl, rfl⟩ | ⟨rfl, rfl⟩ | ⟨rfl, rfl⟩ | ⟨rfl, rfl⟩
      · go_wp2_with (first
          | (go_at_call 15; refine (strong_any _ _).mono ?_; rintro e w3 ⟨rfl, b3⟩; rw [HS.out]; have B3 := Lib.hid b3; clear b3)
          | (go_at_call 17; refine (out_any _ _).mono ?_; rintro e w4 ⟨rfl, b4⟩; rw [HO.out]; have B4 := Lib.hid b4; clear b4)
          | (go_at_call 21; refine (neutral_any _ _).mono ?_; rintro e w5 ⟨rfl, b5⟩; rw [HN.out]; have B5 := Lib.hid b5; clear b5))
        go_roundw
        case rel => exact ⟨.inr (.inl ⟨rfl, rfl⟩), below_then HB.out (below_then B3.out (below_then B4.out (below_then B5.out (below_alloc _ _))))⟩
        case measure => simp [intOf]
      · go_wp2_with (first
          | (go_at_call 15; refine (strong_any _ _).mono ?_; rintro e w3 ⟨rfl, b3⟩; rw [HS.out]; have B3 := Lib.hid b3; clear b3)
          | (go_at_call 17; refine (out_any _ _).mono ?_; rintro e w4 ⟨rfl, b4⟩; rw [HO.out]; have B4 := Lib.hid b4; clear b4)
          | (go_at_call 21; refine (neutral_any _ _).mono ?_; rintro e w5 ⟨rfl, b5⟩; rw [HN.out]; have B5 := Lib.hid b5; clear b5))
        go_roundw
        case rel => exact ⟨.inr (.inr (.inl ⟨rfl, rfl⟩)), below_then HB.out (below_then B3.out (below_then B4.out (below_then B5.out (below_alloc _ _))))⟩
        case measure => simp [intOf]
      · go_wp2_with (first
          | (go_at_call 15; refine (strong_any _ _).mono ?_; rintro e w3 ⟨rfl, b3⟩; rw [HS.out]; have B3 := Lib.hid b3; clear b3)
          | (go_at_call 17; refine (out_any _ _).mono ?_; rintro e w4 ⟨rfl, b4⟩; rw [HO.out]; have B4 := Lib.hid b4; clear b4)
          | (go_at_call 21; refine (neutral_any _ _).mono ?_; rintro e w5 ⟨rfl, b5⟩; rw [HN.out]; have B5 := Lib.hid b5; clear b5))
        go_roundw
        case rel => exact ⟨.inr (.inr (.inr ⟨rfl, rfl⟩)), below_then HB.out (below_then B3.out (below_then B4.out (below_then B5.out (below_alloc _ _))))⟩
        case measure => simp [intOf]
      · go_wp2_with fail
        refine (word_any _ _ (HT.out.below HB.out hbig)).mono ?_
        rintro e w6 ⟨rfl, rfl⟩
        rw [HW.out]
        go_wp2_with fail
        refine (opens_any _ _).mono ?_
        rintro e w6 ⟨rfl, b6⟩
        have B6 := Lib.hid (below_then HB.out b6)
        clear b6
        rw [HP.out]
        go_wp2_with fail
        refine (neutral_any _ _).mono ?_
        rintro e w7 ⟨rfl, b7⟩
        have B7 := Lib.hid (below_then B6.out b7)
        clear b7
        rw [HN.out]
        go_wp2
        go_ret
        exact ⟨ret_bool (show (!decide (k ≤ 8)) = true by simp; omega), B7.out⟩

theorem walk (w : World) (hT : ClsTabs w) (c : Int) (_ : (Lit.int .i64 c).wf = true) :
    Calls Tryd.prog 4 #[.int .i64 c] w fun e w' => e = .returned (.bool true) ∧ Below w.heap.size w w' := by
  have hr := cls_range c
  have hW := word_some (cls c) hr
  obtain ⟨S, O, N, P, m1, m2, m3, ⟨hS, hO, hN, hP, -, -, -⟩, hc⟩ := kinds (cls c) hr
  by_cases l : c < 0
  · have h0 := cls_out c (.inl l)
    rw [h0] at hW
    exact walk_bl w hT c 0 _ h0 rfl hW (Lib.hid (by decide)) (Lib.hid (by decide)) (Lib.hid (by decide)) (Lib.hid (by decide)) rfl rfl l l
  by_cases u : 1114111 < c
  · have h0 := cls_out c (.inr u)
    rw [h0] at hW
    exact walk_bh w hT c 0 _ h0 rfl hW (Lib.hid (by decide)) (Lib.hid (by decide)) (Lib.hid (by decide)) (Lib.hid (by decide)) rfl rfl u u
  rcases hc with ⟨q1, q2, rfl, rfl, rfl, rfl, -⟩ | ⟨q1, q2, rfl, rfl, rfl, rfl, -⟩ | ⟨q1, q2, rfl, rfl, rfl, rfl, -⟩ | ⟨q1, q2, rfl, rfl, rfl, rfl, -⟩ | ⟨q1, q2, rfl, rfl, rfl, rfl, -⟩
  · exact walk_a w hT c _ _ rfl rfl hW hS hO hN hP q1 q2 (by omega) (by omega)
  · exact walk_b w hT c _ _ rfl rfl hW hS hO hN hP hr.1 q2 (by omega) (by omega)
  · exact walk_o w hT c _ _ rfl rfl hW hS hO hN hP q1 hr.2 (by omega) (by omega)
  · exact walk_n w hT c _ _ rfl rfl hW hS hO hN hP q1 hr.2 (by omega) (by omega)
  · exact walk_p w hT c _ _ rfl rfl hW hS hO hN hP q1 hr.2 (by omega) (by omega)
-- WRAP
theorem spec : LawSpec Rows.classOnceSpec 1 := ⟨rfl, fun H ds h => by
  match ds, h with
  | [d0], _ => rfl⟩
theorem params_ok : ∀ t ∈ Tryd.f4.params.toList, Tryd.prog.readableRec t = true ∧ t < Tryd.prog.types.size := by
  rw [Tryd.params4]
  intro t ht
  simp only [List.mem_cons, List.mem_nil_iff, or_false] at ht
  rcases ht with rfl
  all_goals exact ⟨by kernel_rfl, of_decide_eq_true (by kernel_rfl)⟩

theorem contract (H : Type) (enc : TypeId × Value → H) (W : World) (base : Nat) (args : Array Value) (ds gs : List (DataW H)) (before : List MemPlace)
    (hval : ∀ (j : Nat) t v, Tryd.f4.params[j]? = some t → args[j]? = some v → Value.okWide Tryd.prog W .any base t v)
    (hW : DataW.Whole enc Tryd.prog Tryd.f4.params.toList Rows.classOnceSpec.vars false W args.toList ds gs before) (hL : laidMetH Tryd.prog laidList W) :
    Calls Tryd.prog 4 args W fun e W' => ∃ v, e = .returned v ∧ Rows.classOnceSpec.post enc Tryd.prog Tryd.f4 false true false false W args v W' := by
  have hW' := hW
  obtain ⟨p, q, hA0, hV, rfl, hfz, hnd⟩ := hW
  have hA : DataW.TrodAll enc Tryd.prog W 0 (fun _ => true) true Tryd.f4.params.toList args.toList ds p := hA0
  rw [Tryd.params4] at hA hval
  obtain ⟨v0, vs0, d0, ds0, p0, q0, hargs, rfl, rfl, h0, r0⟩ := trodAll_cons hA
  obtain ⟨rfl, rfl, rfl⟩ := trodAll_nil r0
  obtain rfl : args = #[v0] := by cases args; simp_all
  obtain ⟨a0, rfl, rfl, rfl, w0⟩ := open_int Tryd.underlying3 (hval 0 3 v0 rfl rfl) h0
  exact (walk W (tabs_of hL) a0 w0).mono fun e W' ⟨he, hg⟩ => ⟨_, he, law_post spec (by rw [Tryd.params4]; rfl) (by kernel_rfl) params_ok (by kernel_rfl) Tryd.underlying4 hW' hg⟩

theorem laid_met (os : Os) : laidMet Tryd.prog Rows.classOnceRow.laid ((laidWorld os #[.int .i64 0]).forCall (fun _ _ => 0) ⟨#[], #[.int .i64 0], []⟩).memory :=
  laidMet_of_run' 8 (by kernel_rfl) (by kernel_rfl)
theorem reads (os : Os) {H : Type} (enc : TypeId × Value → H) : ∃ places, DataW.whole enc Tryd.prog ((laidWorld os #[.int .i64 0]).forCall (fun _ _ => 0) ⟨#[], #[.int .i64 0], []⟩).memory Tryd.f4.params.toList Rows.classOnceSpec.vars false #[.int .i64 0].toList 8 = some ([.lit (.int .i64 0)], [], places) :=
  ⟨[], by kernel_rfl⟩
set_option maxRecDepth 100000 in
theorem lifted (os : Os) (started : os.Started) (H : Type) (enc : TypeId × Value → H) (F : Stop.Interp) :
    ReturnsInHanded {} Tryd.checked os 4 .any ((OpenSpec.ofChange Rows.classOnceSpec).preRow enc Tryd.prog Tryd.f4 Rows.classOnceRow.domain false Rows.classOnceRow.laid) (((OpenSpec.ofChange Rows.classOnceSpec).at F).post enc Tryd.prog Tryd.f4 false true false false) := by
  obtain ⟨places, hx⟩ := reads os enc
  refine returnsInHanded_of_row (C := Tryd.checked) (s := OpenSpec.ofChange Rows.classOnceSpec) own started (by kernel_rfl) Tryd.func4
    (witness_row_at (enc := enc) (C := Tryd.checked) false (laidWorld os #[.int .i64 0]) #[.int .i64 0] rfl (by kernel_rfl) (by kernel_rfl) (by kernel_rfl)
      (OpenSpec.preRow_of_cond 8 hx (by kernel_rfl) (fun k hk => by cases hk) (by kernel_rfl) (laid_met os))) ?_
  intro W base args ds gs before hval hW _ _ _ hL _ _
  exact contract H enc W base args ds gs before hval hW hL
theorem said : Rows.ClassOnceSaid :=
  OpenClaim.holds_of_cond 4 Tryd.f4 rfl rfl rfl rfl rfl rfl rfl ⟨rfl, rfl, rfl, rfl, rfl⟩ rfl rfl rfl rfl rfl (by kernel_rfl) Tryd.func4 (by kernel_rfl)
    (of_decide_eq_true (by kernel_rfl)) (by unfold Func.isWrapper; first | (rw [if_pos (by decide +kernel)]; kernel_rfl) | (rw [if_neg (by decide +kernel)]; exact ⟨rfl, rfl⟩))
    (fun os started H enc _ F => by rw [OpenClaim.pre_eq_preRow]; exact lifted os started H enc F)
theorem card : Rows.ClassOnceCardSaid :=
  Claim7.holds_tied_plain_at .later [] _ _ _ _ said (fun _ h => by cases h) (by kernel_rfl) (fun _ h => by cases h) classOnce_row_tie rfl ⟨rfl, rfl⟩ (by kernel_rfl) rfl
    (plainOf "ductus/ductuslaw02.ClassOnce" 4 Tryd.f4 (by kernel_rfl) Tryd.func4 (by kernel_rfl) (fun j t ht => by
      rw [Tryd.params4] at ht
      have hm := Array.mem_of_getElem? ht
      simp only [List.mem_toArray, List.mem_cons, List.mem_nil_iff, or_false] at hm
      rcases hm with rfl
      all_goals (show Tryd.prog.wantsStandIn _ = false; kernel_rfl))) (by kernel_rfl)
end Go.Proofs.YtlnpfamngpjkoaaDoor.lawOnce
