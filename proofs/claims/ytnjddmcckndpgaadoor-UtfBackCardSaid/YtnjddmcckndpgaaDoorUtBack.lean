/- UtfBack: for every list of numbers and every bytes, what is written is read as it was, and places rise, from 0 to the end, each as far as its character's bytes. Conditions: none beyond the row's own (Go's two tables as its text lays them). -/
import Derived.Test.YtnjddmcckndpgaaDoorUtL
import Derived.Test.YtnjddmcckndpgaaDoorUtM
import Derived.Test.YtnjddmcckndpgaaDoorLaw
namespace Go.Proofs.YtnjddmcckndpgaaDoor.lawBack
open Go.ChangeShapes Go.WideShapes Go.ChangeAt Go.RowKit

/-- what is known of what any bytes are read as -/
structure Known (M T : List Int) (z : Nat) : Prop where
  len : T.length = M.length + 1
  zero : ∀ h : 0 < T.length, T[0] = 0
  last : ∀ h : M.length < T.length, T[M.length] = z
  step : ∀ i (hi : i < M.length) (h1 : i < T.length) (h2 : i + 1 < T.length), isCh M[i] = true ∧ (T[i + 1] - T[i] = szCh M[i] ∨ (T[i + 1] - T[i] = 1 ∧ M[i] = 65533)) ∧ 0 ≤ T[i] ∧ T[i] ≤ z ∧ 0 ≤ T[i + 1] ∧ T[i + 1] ≤ z
theorem known (l : List UInt8) : Known (decC l) (decA l) l.length :=
  ⟨decA_len l, decA_zero l, decA_last l, fun i hi h1 h2 => by
    obtain ⟨a, _, _, b, c, d, e, f⟩ := dec_steps l i hi
    exact ⟨a, b, c, d, e, f⟩⟩

theorem decode_l (A : Option Addr) (l : List UInt8) (c : Nat) (w : World) (h : Lies w w.heap.size A (ints .u8 (u8s l))) (hl : l.length ≤ 4000) :
    Calls Tryd.prog 9 #[.slice A l.length c] w (Rowed3 w w.heap.size 3 (ints .i64 (decC l)) (ints .i64 (decA l)) 0) := by
  have := decode_any A l c w h hl
  rwa [u8s_length] at this

set_option maxHeartbeats 8000000 in
theorem walk_bad (A : Option Addr) (l : List Int) (c : Nat) (A' : Option Addr) (b : List UInt8) (c' : Nat) (w : World) (hl : l.length ≤ 5000) (hb : b.length ≤ 4000)
    (h : Lies w w.heap.size A (ints .i64 l)) (h' : Lies w w.heap.size A' (ints .u8 (u8s b))) (hT : Tabs w) (ok : ¬ (allCh l = true ∧ (encAll l).length ≤ 4000)) :
    Calls Tryd.prog 5 #[.slice A l.length c, .slice A' b.length c'] w fun e w' => e = .returned (.bool true) ∧ Below w.heap.size w w' := by
  have HT := Lib.hid hT
  have H := Lib.hid h
  have H' := Lib.hid h'
  clear hT h h'
  obtain ⟨M, hM⟩ : ∃ M, decC b = M := ⟨_, rfl⟩
  obtain ⟨T, hTt⟩ : ∃ T, decA b = T := ⟨_, rfl⟩
  have hK : Known M T b.length := by rw [← hM, ← hTt]; exact known b
  have hML : M.length ≤ 4000 := by rw [← hM]; simp only [decC, List.length_map]; exact Nat.le_trans (decAt_len 0 b) hb
  have HK := Lib.hid hK
  have HM := Lib.hid hM
  have HTT := Lib.hid hTt
  clear hK hM hTt
  have h2 : (encL l).2 = 1 ∨ (encL l).2 = 2 := by
    unfold encL
    split
    · split
      · rename_i a b; exact absurd ⟨a, b⟩ ok
      · right; rfl
    · left; rfl
  have h2z : (((encL l).2) == 0) = false := by rw [beq_eq_false_iff_ne]; omega
  clear ok h2
  go_enter Tryd.func5, Tryd.ntmps5
  go_wp2_with fail
  refine (alive_any w HT.out).mono ?_
  rintro e w1 ⟨rfl, b1⟩
  have B1 := Lib.hid b1
  clear b1
  go_wp2_with fail
  refine (encode_any _ l _ _ (H.out.up B1.out) hl).mono ?_
  rintro e w2 ⟨v, rfl, o, b2⟩
  have B2 := Lib.hid (below_then B1.out b2)
  clear b2 o
  go_wp2_with fail
  refine (decode_l _ b _ _ (H'.out.up B2.out) hb).mono ?_
  rintro e w3 ⟨v1, v2, rfl, o1, o2, b3⟩
  have B3 := Lib.hid (below_then B2.out b3)
  rw [HM.out] at o1
  rw [HTT.out] at o2
  obtain ⟨A1, c1, rfl, l1, _, _⟩ := o1.form
  obtain ⟨A2, c2, rfl, l2, _, _⟩ := o2.form
  have hT1 := HK.out.len
  obtain ⟨g2, f2, rfl, _, k2⟩ := l2.plainInts (by omega)
  have z0 : w3.cell? ⟨g2, f2, none⟩ = some (.int .i64 0) := by
    have := k2 0 (by omega)
    rw [HK.out.zero (by omega)] at this
    simpa using this
  have z1 : w3.cell? ⟨g2, f2 + M.length, none⟩ = some (.int .i64 (b.length : Int)) := by
    have := k2 M.length (by omega)
    rw [HK.out.last (by omega)] at this
    exact this
  have L1 := Lib.hid l1
  have K2 := Lib.hid k2
  simp only [ints, List.length_map, hT1]
  clear b3 o1 o2 l1 l2 hT1 k2
  go_wp2
  go_loopw [13] (fun i wr => ∃ k n : Nat, k ≤ M.length ∧ i = .int .i64 k ∧ wr = w3.drewN n) (fun i _ => M.length - (intOf i).toNat)
  case atStart => exact ⟨0, 0, by omega, rfl, rfl⟩
  case round =>
    obtain ⟨k, n, hk, rfl, rfl⟩ := hrel
    by_cases hlt : k < M.length
    · obtain ⟨g1, f1, rfl, _, k1⟩ := L1.out.plainInts (by omega)
      have hT1 := HK.out.len
      obtain ⟨y1, y2, y3, y4, y5, y6⟩ := HK.out.step k hlt (by omega) (by omega)
      have d0 := k1 k hlt
      have d1 := K2.out k (by omega)
      have d2 := K2.out (k + 1) (by omega)
      obtain ⟨m, hm⟩ : ∃ m, M[k] = m := ⟨_, rfl⟩
      obtain ⟨t0, ht0⟩ : ∃ t, T[k] = t := ⟨_, rfl⟩
      obtain ⟨t1, ht1⟩ : ∃ t, T[k + 1] = t := ⟨_, rfl⟩
      rw [hm] at d0 y1 y2
      rw [ht0] at d1 y2 y3 y4
      rw [ht1] at d2 y2 y5 y6
      clear hm ht0 ht1 hT1 k1
      have YR := Lib.hid y1
      have sw : IntKind.i64.wrap (t1 - t0) = t1 - t0 := IntWalk.i64_in _ (by omega)
      have sk : IntKind.i64.wrap ((k : Int) + 1) = (k : Int) + 1 := IntWalk.i64_in _ (by omega)
      have sn : ((k : Int) + 1).toNat = k + 1 := by omega
      have i0 : (0 : Int) ≤ (k : Int) := by omega
      have i1 : (k : Int) < (M.length : Int) := by omega
      have i2 : (k : Int) < (M.length : Int) + 1 := by omega
      have i3 : (k : Int) + 1 < (M.length : Int) + 1 := by omega
      have i4 : (0 : Int) ≤ (k : Int) + 1 := by omega
      have i5 : k < M.length + 1 := by omega
      clear y1
      rcases y2 with y2 | ⟨y2, rfl⟩
      · have q1 : ((t1 - t0) == szCh m) = true := by rw [beq_iff_eq]; exact y2
        have q2 : ((t1 - t0) != szCh m) = false := by rw [bne_eq_false_iff_eq]; exact y2
        have Y2 := Lib.hid y2
        clear y2
        go_wp2
        go_quiet (fail)
        clear sw sk
        go_wp2_with (first
          | (go_at_call 18; refine (right_yes _ _ YR.out).mono ?_; rintro e w' ⟨rfl, rfl⟩)
          | (go_at_call 20; refine (size_any _ _).mono ?_; rintro e w' ⟨rfl, rfl⟩))
        go_roundw
        case rel => exact ⟨k + 1, _, by omega, by go_num, rfl⟩
        case measure => simp [intOf]; omega
      · have e3 : szCh 65533 = 3 := by decide
        have q1 : ((t1 - t0) == 3) = false := by rw [beq_eq_false_iff_ne]; omega
        have q2 : ((t1 - t0) != 3) = true := by rw [bne_iff_ne]; omega
        have q3 : ((t1 - t0) == 1) = true := by rw [beq_iff_eq]; exact y2
        have q4 : ((t1 - t0) != 1) = false := by rw [bne_eq_false_iff_eq]; exact y2
        have Y2 := Lib.hid y2
        clear y2
        go_wp2
        go_quiet (fail)
        clear sw sk
        go_wp2_with (first
          | (go_at_call 18; refine (right_yes _ _ YR.out).mono ?_; rintro e w' ⟨rfl, rfl⟩)
          | (go_at_call 20; refine (size_any _ _).mono ?_; rintro e w' ⟨rfl, rfl⟩; rw [e3]))
        go_roundw
        case rel => exact ⟨k + 1, _, by omega, by go_num, rfl⟩
        case measure => simp [intOf]; omega
    · go_wp2
      go_ret
      exact ⟨rfl, below_drawn B3.out n⟩

set_option maxHeartbeats 8000000 in
theorem walk_ok (A : Option Addr) (l : List Int) (c : Nat) (A' : Option Addr) (b : List UInt8) (c' : Nat) (w : World) (hl : l.length ≤ 5000) (hb : b.length ≤ 4000)
    (h : Lies w w.heap.size A (ints .i64 l)) (h' : Lies w w.heap.size A' (ints .u8 (u8s b))) (hT : Tabs w) (ok1 : allCh l = true) (ok2 : (encAll l).length ≤ 4000) :
    Calls Tryd.prog 5 #[.slice A l.length c, .slice A' b.length c'] w fun e w' => e = .returned (.bool true) ∧ Below w.heap.size w w' := by
  have HT := Lib.hid hT
  have hbig := hT.big
  have H := Lib.hid h
  have H' := Lib.hid h'
  clear hT h h'
  obtain ⟨M, hM⟩ : ∃ M, decC b = M := ⟨_, rfl⟩
  obtain ⟨T, hTt⟩ : ∃ T, decA b = T := ⟨_, rfl⟩
  have hK : Known M T b.length := by rw [← hM, ← hTt]; exact known b
  have hML : M.length ≤ 4000 := by rw [← hM]; simp only [decC, List.length_map]; exact Nat.le_trans (decAt_len 0 b) hb
  have HK := Lib.hid hK
  have HM := Lib.hid hM
  have HTT := Lib.hid hTt
  clear hK hM hTt
  obtain ⟨xb, hxb⟩ : ∃ xb, encB l = xb := ⟨_, rfl⟩
  have E1 : Hid (encL l = (u8s xb, 0)) := by show _ = _; rw [encL_ok ok1 ok2, ← hxb, u8s_encB l ok1]
  have xl : xb.length ≤ 4000 := by rw [← hxb, encB_len]; exact ok2
  have E2 : Hid (decC xb = l) := by show _ = _; rw [← hxb]; exact decC_enc l ok1
  have E3 : Hid (valL xb = true) := by
    show _ = _
    simp [valL, xl]; rw [← hxb]; exact validD_enc l ok1
  have E4 : Hid (nthI (decA xb) l.length = xb.length) := by
    show _ = _
    have := decA_at l [] ok1 rfl
    rw [List.append_nil, hxb] at this
    rw [this, ← hxb, encB_len]
  clear hxb ok1 ok2
  go_enter Tryd.func5, Tryd.ntmps5
  go_wp2_with fail
  refine (alive_any w HT.out).mono ?_
  rintro e w1 ⟨rfl, b1⟩
  have B1 := Lib.hid b1
  clear b1
  go_wp2_with fail
  refine (encode_any _ l _ _ (H.out.up B1.out) hl).mono ?_
  rintro e w2 ⟨v, rfl, o, b2⟩
  rw [E1.out] at o ⊢
  obtain ⟨A3, c3, rfl, l3, k3, _⟩ := o.form
  have L3 := Lib.hid l3
  have C2 := Lib.hid (below_then B1.out b2)
  simp only [ints, List.length_map, u8s_length] at k3 ⊢
  clear b2 o l3
  go_wp2_with fail
  refine (decode_l _ xb _ _ L3.out xl).mono ?_
  rintro e w3 ⟨v5, v6, rfl, o5, o6, b3⟩
  rw [E2.out] at o5
  obtain ⟨A5, c5, rfl, l5, _, _⟩ := o5.form
  obtain ⟨A6, c6, rfl, l6, _, _⟩ := o6.form
  have L5 := Lib.hid l5
  have L6 := Lib.hid l6
  have C3 := Lib.hid (below_then C2.out b3)
  have L3' := Lib.hid (L3.out.up b3)
  simp only [ints, List.length_map]
  clear b3 o5 o6 l5 l6 L3
  go_wp2_with fail
  refine (ints_ok A5 A l c5 c w3 L5.out (H.out.up C3.out) (by omega)).mono ?_
  rintro e w4 ⟨rfl, b4⟩
  have C4 := Lib.hid (below_then C3.out b4)
  have L3'' := Lib.hid (L3'.out.up b4)
  have L6' := Lib.hid (L6.out.up b4)
  clear b4 L3' L5 L6
  go_wp2_with fail
  refine (valid_any A3 xb c3 w4 L3''.out (HT.out.below C4.out hbig) k3).mono ?_
  rintro e w5 ⟨rfl, b5⟩
  rw [E3.out]
  have B2 := Lib.hid (below_then C4.out b5)
  have L6'' := Lib.hid (L6'.out.up b5)
  clear b5 L3'' L6'
  go_wp2_with fail
  refine (offset_any A6 (decA xb) c6 l.length _ w5 L6''.out).mono ?_
  rintro e w7 ⟨rfl, rfl⟩
  rw [E4.out]
  clear L6''
  go_wp2_with fail
  refine (decode_l _ b _ _ (H'.out.up B2.out) hb).mono ?_
  rintro e w3 ⟨v1, v2, rfl, o1, o2, b3⟩
  have B3 := Lib.hid (below_then B2.out b3)
  rw [HM.out] at o1
  rw [HTT.out] at o2
  obtain ⟨A1, c1, rfl, l1, _, _⟩ := o1.form
  obtain ⟨A2, c2, rfl, l2, _, _⟩ := o2.form
  have hT1 := HK.out.len
  obtain ⟨g2, f2, rfl, _, k2⟩ := l2.plainInts (by omega)
  have z0 : w3.cell? ⟨g2, f2, none⟩ = some (.int .i64 0) := by
    have := k2 0 (by omega)
    rw [HK.out.zero (by omega)] at this
    simpa using this
  have z1 : w3.cell? ⟨g2, f2 + M.length, none⟩ = some (.int .i64 (b.length : Int)) := by
    have := k2 M.length (by omega)
    rw [HK.out.last (by omega)] at this
    exact this
  have L1 := Lib.hid l1
  have K2 := Lib.hid k2
  simp only [ints, List.length_map, hT1]
  clear b3 o1 o2 l1 l2 hT1 k2
  go_wp2
  go_loopw [13] (fun i wr => ∃ k n : Nat, k ≤ M.length ∧ i = .int .i64 k ∧ wr = w3.drewN n) (fun i _ => M.length - (intOf i).toNat)
  case atStart => exact ⟨0, 0, by omega, rfl, rfl⟩
  case round =>
    obtain ⟨k, n, hk, rfl, rfl⟩ := hrel
    by_cases hlt : k < M.length
    · obtain ⟨g1, f1, rfl, _, k1⟩ := L1.out.plainInts (by omega)
      have hT1 := HK.out.len
      obtain ⟨y1, y2, y3, y4, y5, y6⟩ := HK.out.step k hlt (by omega) (by omega)
      have d0 := k1 k hlt
      have d1 := K2.out k (by omega)
      have d2 := K2.out (k + 1) (by omega)
      obtain ⟨m, hm⟩ : ∃ m, M[k] = m := ⟨_, rfl⟩
      obtain ⟨t0, ht0⟩ : ∃ t, T[k] = t := ⟨_, rfl⟩
      obtain ⟨t1, ht1⟩ : ∃ t, T[k + 1] = t := ⟨_, rfl⟩
      rw [hm] at d0 y1 y2
      rw [ht0] at d1 y2 y3 y4
      rw [ht1] at d2 y2 y5 y6
      clear hm ht0 ht1 hT1 k1
      have YR := Lib.hid y1
      have sw : IntKind.i64.wrap (t1 - t0) = t1 - t0 := IntWalk.i64_in _ (by omega)
      have sk : IntKind.i64.wrap ((k : Int) + 1) = (k : Int) + 1 := IntWalk.i64_in _ (by omega)
      have sn : ((k : Int) + 1).toNat = k + 1 := by omega
      have i0 : (0 : Int) ≤ (k : Int) := by omega
      have i1 : (k : Int) < (M.length : Int) := by omega
      have i2 : (k : Int) < (M.length : Int) + 1 := by omega
      have i3 : (k : Int) + 1 < (M.length : Int) + 1 := by omega
      have i4 : (0 : Int) ≤ (k : Int) + 1 := by omega
      have i5 : k < M.length + 1 := by omega
      clear y1
      rcases y2 with y2 | ⟨y2, rfl⟩
      · have q1 : ((t1 - t0) == szCh m) = true := by rw [beq_iff_eq]; exact y2
        have q2 : ((t1 - t0) != szCh m) = false := by rw [bne_eq_false_iff_eq]; exact y2
        have Y2 := Lib.hid y2
        clear y2
        go_wp2
        go_quiet (fail)
        clear sw sk
        go_wp2_with (first
          | (go_at_call 18; refine (right_yes _ _ YR.out).mono ?_; rintro e w' ⟨rfl, rfl⟩)
          | (go_at_call 20; refine (size_any _ _).mono ?_; rintro e w' ⟨rfl, rfl⟩))
        go_roundw
        case rel => exact ⟨k + 1, _, by omega, by go_num, rfl⟩
        case measure => simp [intOf]; omega
      · have e3 : szCh 65533 = 3 := by decide
        have q1 : ((t1 - t0) == 3) = false := by rw [beq_eq_false_iff_ne]; omega
        have q2 : ((t1 - t0) != 3) = true := by rw [bne_iff_ne]; omega
        have q3 : ((t1 - t0) == 1) = true := by rw [beq_iff_eq]; exact y2
        have q4 : ((t1 - t0) != 1) = false := by rw [bne_eq_false_iff_eq]; exact y2
        have Y2 := Lib.hid y2
        clear y2
        go_wp2
        go_quiet (fail)
        clear sw sk
        go_wp2_with (first
          | (go_at_call 18; refine (right_yes _ _ YR.out).mono ?_; rintro e w' ⟨rfl, rfl⟩)
          | (go_at_call 20; refine (size_any _ _).mono ?_; rintro e w' ⟨rfl, rfl⟩; rw [e3]))
        go_roundw
        case rel => exact ⟨k + 1, _, by omega, by go_num, rfl⟩
        case measure => simp [intOf]; omega
    · go_wp2
      go_ret
      exact ⟨rfl, below_drawn B3.out n⟩

set_option maxHeartbeats 1000000 in
theorem walk_long (A : Option Addr) (l : List Int) (c : Nat) (A' : Option Addr) (n : Nat) (c' : Nat) (w : World) (hl : l.length ≤ 9223372036854775807) (hb : n ≤ 9223372036854775807)
    (hT : Tabs w) (hh : 5000 < l.length ∨ 4000 < n) :
    Calls Tryd.prog 5 #[.slice A l.length c, .slice A' n c'] w fun e w' => e = .returned (.bool true) ∧ Below w.heap.size w w' := by
  have HT := Lib.hid hT
  clear hT
  by_cases h1 : 5000 < l.length
  · go_enter Tryd.func5, Tryd.ntmps5
    go_wp2_with fail
    refine (alive_any w HT.out).mono ?_
    rintro e w1 ⟨rfl, b1⟩
    go_wp2
    go_ret
    exact ⟨rfl, b1⟩
  · have h2 : 4000 < n := by omega
    clear hh
    go_enter Tryd.func5, Tryd.ntmps5
    go_wp2_with fail
    refine (alive_any w HT.out).mono ?_
    rintro e w1 ⟨rfl, b1⟩
    go_wp2
    go_ret
    exact ⟨rfl, b1⟩

theorem bytes_of (l : List Int) (h : ∀ n ∈ l, (Lit.int .u8 n).wf = true) : ∃ bs : List UInt8, l = u8s bs := by
  refine ⟨toB l, (u8s_toB l fun n hn => ?_).symm⟩
  have := h n hn
  have e1 : IntKind.u8.min = 0 := rfl
  have e2 : IntKind.u8.max = 255 := rfl
  simp only [Lit.wf, e1, e2, Bool.and_eq_true, decide_eq_true_eq] at this
  omega

theorem walk (w : World) (hT : Tabs w) (A : Option Addr) (l : List Int) (c : Nat) (hc : l.length ≤ c) (hm : c ≤ maxLen) (h : Lies w w.heap.size A (ints .i64 l)) (_ : ∀ n ∈ l, (Lit.int .i64 n).wf = true)
    (A' : Option Addr) (l' : List Int) (c' : Nat) (hc' : l'.length ≤ c') (hm' : c' ≤ maxLen) (h' : Lies w w.heap.size A' (ints .u8 l')) (wf : ∀ n ∈ l', (Lit.int .u8 n).wf = true) :
    Calls Tryd.prog 5 #[.slice A l.length c, .slice A' l'.length c'] w fun e w' => e = .returned (.bool true) ∧ Below w.heap.size w w' := by
  obtain ⟨b, rfl⟩ := bytes_of l' wf
  unfold maxLen at hm hm'
  rw [u8s_length] at hc' ⊢
  by_cases hh : 5000 < l.length ∨ 4000 < b.length
  · exact walk_long A l c A' b.length c' w (by omega) (by omega) hT hh
  · by_cases ok : allCh l = true ∧ (encAll l).length ≤ 4000
    · exact walk_ok A l c A' b c' w (by omega) (by omega) h h' hT ok.1 ok.2
    · exact walk_bad A l c A' b c' w (by omega) (by omega) h h' hT ok
-- WRAP
theorem spec : LawSpec Rows.utfBackSpec 2 := ⟨rfl, fun H ds h => by
  match ds, h with
  | [d0, d1], _ => rfl⟩
theorem params_ok : ∀ t ∈ Tryd.f5.params.toList, Tryd.prog.readableRec t = true ∧ t < Tryd.prog.types.size := by
  rw [Tryd.params5]
  intro t ht
  simp only [List.mem_cons, List.mem_nil_iff, or_false] at ht
  rcases ht with rfl | rfl
  all_goals exact ⟨by kernel_rfl, of_decide_eq_true (by kernel_rfl)⟩

theorem contract (H : Type) (enc : TypeId × Value → H) (W : World) (base : Nat) (args : Array Value) (ds gs : List (DataW H)) (before : List MemPlace)
    (hval : ∀ (j : Nat) t v, Tryd.f5.params[j]? = some t → args[j]? = some v → Value.okWide Tryd.prog W .any base t v)
    (hW : DataW.Whole enc Tryd.prog Tryd.f5.params.toList Rows.utfBackSpec.vars false W args.toList ds gs before) (hL : laidMetH Tryd.prog laidList W) :
    Calls Tryd.prog 5 args W fun e W' => ∃ v, e = .returned v ∧ Rows.utfBackSpec.post enc Tryd.prog Tryd.f5 false true false false W args v W' := by
  have hW' := hW
  obtain ⟨p, q, hA0, hV, rfl, hfz, hnd⟩ := hW
  have hA : DataW.TrodAll enc Tryd.prog W 0 (fun _ => true) true Tryd.f5.params.toList args.toList ds p := hA0
  rw [Tryd.params5] at hA hval
  obtain ⟨v0, vs0, d0, ds0, p0, q0, hargs, rfl, rfl, h0, r0⟩ := trodAll_cons hA
  obtain ⟨v1, vs1, d1, ds1, p1, q1, rfl, rfl, rfl, h1, r1⟩ := trodAll_cons r0
  obtain ⟨rfl, rfl, rfl⟩ := trodAll_nil r1
  obtain rfl : args = #[v0, v1] := by cases args; simp_all
  obtain ⟨A0, l0, c0, rfl, hc0, hm0, hl0, wf0⟩ := open_list Tryd.underlying24 Tryd.underlying3 (by kernel_rfl) (hval 0 24 v0 rfl rfl) h0
  obtain ⟨A1, l1, c1, rfl, hc1, hm1, hl1, wf1⟩ := open_list Tryd.underlying22 Tryd.underlying5 (by kernel_rfl) (hval 1 22 v1 rfl rfl) h1
  exact (walk W (tabs_of hL) A0 l0 c0 hc0 hm0 hl0 wf0 A1 l1 c1 hc1 hm1 hl1 wf1).mono fun e W' ⟨he, hg⟩ => ⟨_, he, law_post spec (by rw [Tryd.params5]; rfl) (by kernel_rfl) params_ok (by kernel_rfl) Tryd.underlying4 hW' hg⟩

theorem laid_met (os : Os) : laidMet Tryd.prog Rows.utfBackRow.laid ((laidWorld os #[.slice none 0 0, .slice none 0 0]).forCall (fun _ _ => 0) ⟨#[], #[.slice none 0 0, .slice none 0 0], []⟩).memory :=
  laidMet_of_run' 8 (by kernel_rfl) (by kernel_rfl)
theorem reads (os : Os) {H : Type} (enc : TypeId × Value → H) : ∃ places, DataW.whole enc Tryd.prog ((laidWorld os #[.slice none 0 0, .slice none 0 0]).forCall (fun _ _ => 0) ⟨#[], #[.slice none 0 0, .slice none 0 0], []⟩).memory Tryd.f5.params.toList Rows.utfBackSpec.vars false #[.slice none 0 0, .slice none 0 0].toList 8 = some ([.nil, .nil], [], places) :=
  ⟨[], by kernel_rfl⟩
set_option maxRecDepth 100000 in
theorem lifted (os : Os) (started : os.Started) (H : Type) (enc : TypeId × Value → H) (F : Stop.Interp) :
    ReturnsInHanded {} Tryd.checked os 5 .any ((OpenSpec.ofChange Rows.utfBackSpec).preRow enc Tryd.prog Tryd.f5 Rows.utfBackRow.domain false Rows.utfBackRow.laid) (((OpenSpec.ofChange Rows.utfBackSpec).at F).post enc Tryd.prog Tryd.f5 false true false false) := by
  obtain ⟨places, hx⟩ := reads os enc
  refine returnsInHanded_of_row (C := Tryd.checked) (s := OpenSpec.ofChange Rows.utfBackSpec) own started (by kernel_rfl) Tryd.func5
    (witness_row_at (enc := enc) (C := Tryd.checked) false (laidWorld os #[.slice none 0 0, .slice none 0 0]) #[.slice none 0 0, .slice none 0 0] rfl (by kernel_rfl) (by kernel_rfl) (by kernel_rfl)
      (OpenSpec.preRow_of_cond 8 hx (by kernel_rfl) (fun k hk => by cases hk) (by kernel_rfl) (laid_met os))) ?_
  intro W base args ds gs before hval hW _ _ _ hL _ _
  exact contract H enc W base args ds gs before hval hW hL
theorem said : Rows.UtfBackSaid :=
  OpenClaim.holds_of_cond 5 Tryd.f5 rfl rfl rfl rfl rfl rfl rfl ⟨rfl, rfl, rfl, rfl, rfl⟩ rfl rfl rfl rfl rfl (by kernel_rfl) Tryd.func5 (by kernel_rfl)
    (of_decide_eq_true (by kernel_rfl)) (by unfold Func.isWrapper; first | (rw [if_pos (by decide +kernel)]; kernel_rfl) | (rw [if_neg (by decide +kernel)]; exact ⟨rfl, rfl⟩))
    (fun os started H enc _ F => by rw [OpenClaim.pre_eq_preRow]; exact lifted os started H enc F)
theorem card : Rows.UtfBackCardSaid :=
  Claim7.holds_tied_plain_at .later [] _ _ _ _ said (fun _ h => by cases h) (by kernel_rfl) (fun _ h => by cases h) utfBack_row_tie rfl ⟨rfl, rfl⟩ (by kernel_rfl) rfl
    (plainOf "ductus/ductuslaw01.UtfBack" 5 Tryd.f5 (by kernel_rfl) Tryd.func5 (by kernel_rfl) (fun j t ht => by
      rw [Tryd.params5] at ht
      have hm := Array.mem_of_getElem? ht
      simp only [List.mem_toArray, List.mem_cons, List.mem_nil_iff, or_false] at hm
      rcases hm with rfl | rfl
      all_goals (show Tryd.prog.wantsStandIn _ = false; kernel_rfl))) (by kernel_rfl)
end Go.Proofs.YtnjddmcckndpgaaDoor.lawBack
