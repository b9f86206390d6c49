/- BaseSkips: for every two lists of numbers and every direction, whatever stands in an isolate at the beginning says nothing of its paragraph, but of the isolate. Conditions: none (the names' cells are tied to the program's text). -/
import Derived.Test.YtbbmeccoddbemaaDoorBsF
import Derived.Test.YtbbmeccoddbemaaDoorClL
import Derived.Test.YtbbmeccoddbemaaDoorLaw
namespace Go.Proofs.YtbbmeccoddbemaaDoor.lawSkips
open Go.ChangeShapes Go.WideShapes Go.ChangeAt Go.RowKit

theorem skips_level (xs l : List Int) (dir : Int) (h : bal xs 0 = some 0) : level ((21 :: (xs ++ [22])) ++ l) dir = level l dir := by
  have e : firstP ((21 :: (xs ++ [22])) ++ l) 0 = firstP l 0 := by
    simp only [List.cons_append, List.append_assoc, List.nil_append, firstP]
    rw [if_neg (by decide), if_pos (by decide), bal_first xs (22 :: l) 0 0 h]
    simp only [firstP]
    rw [if_neg (by decide), if_neg (by decide), if_pos trivial]
  unfold level
  rw [e]
theorem skips_isolate (xs : List Int) (h : bal xs 0 = some 0) : isolate (21 :: (xs ++ [22])) 0 = level xs 0 := by
  have hst : stopAt (xs ++ [22]) 1 1 = 1 + xs.length := by
    have := bal_stop xs [22] 0 0 1 h
    rw [this]
    simp only [stopAt]
    rw [if_neg (by decide), if_neg (by decide), if_pos trivial, if_pos (by omega)]
  have hneg : ¬ ((0 : Int) < 0 ∨ (((21 :: (xs ++ [22]) : List Int).length : Nat) : Int) ≤ 0) := by simp; omega
  unfold isolate level
  rw [if_neg hneg, show at0 (21 :: (xs ++ [22])) (0 : Int).toNat = 21 from rfl, if_neg (by decide), if_neg (by decide), if_pos rfl, if_neg (by decide), if_neg (by decide)]
  show max (firstP ((xs ++ [22]).take (stopAt (xs ++ [22]) 1 1 - 1)) 0) 0 = _
  rw [hst, Nat.add_sub_cancel_left, List.take_left]

set_option maxRecDepth 20000 in
set_option maxHeartbeats 4000000 in
theorem walk_ok (w : World) (hT : ClsTabs w) (A : Option Addr) (l : List Int) (c : Nat) (hl : l.length ≤ 300) (hc : l.length ≤ c) (h : Lies w w.heap.size A (ints .i64 l))
    (A' : Option Addr) (xs : List Int) (c' : Nat) (hx : xs.length ≤ 300) (hc' : xs.length ≤ c') (h' : Lies w w.heap.size A' (ints .i64 xs)) (dir : Int) :
    Calls Tryd.prog 5 #[.slice A l.length c, .slice A' xs.length c', .int .i64 dir] w fun e w' => e = .returned (.bool true) ∧ Below w.heap.size w w' := by
  have hl' : l.length ≤ 1000000 := by omega
  have hx' : xs.length ≤ 1000000 := by omega
  have HT := Lib.hid hT
  have hbig := hT.big
  have HL := Lib.hid h
  have HX := Lib.hid h'
  obtain ⟨t, ht⟩ : ∃ t, bal xs 0 = t := ⟨_, rfl⟩
  have H0 := Lib.hid ht
  clear hT h h' ht
  go_enter Tryd.func5, Tryd.ntmps5
  go_wp2_with fail
  refine (balive_any w HT.out).mono ?_
  rintro e w1 ⟨rfl, b1⟩
  have B1 := Lib.hid b1
  have D1 := Lib.hid b1
  clear b1
  go_wp2_with fail
  go_loopw [7, 8] (fun dv iv wr => ∃ k d : Nat, k ≤ xs.length ∧ d ≤ k ∧ dv = .int .i64 d ∧ iv = .int .i64 k ∧ Hid (bal (xs.drop k) d = t) ∧ wr = w1) (fun _ iv _ => xs.length - (intOf iv).toNat)
  case atStart => exact ⟨0, 0, by omega, by omega, rfl, rfl, H0, rfl⟩
  case round =>
    obtain ⟨k, d, hk, hd, rfl, rfl, HB, rfl⟩ := hrel
    by_cases hlt : k < xs.length
    · obtain ⟨p, rfl, hpb, hcell⟩ := (HX.out.below B1.out).int hlt
      have b0 : (0 : Int) ≤ (k : Int) := by omega
      have b1 : (k : Int) < (xs.length : Int) := by omega
      have hdrop : xs.drop k = xs[k] :: xs.drop (k + 1) := List.drop_eq_getElem_cons hlt
      obtain ⟨x, hx⟩ : ∃ x, xs[k] = x := ⟨_, rfl⟩
      rw [hx] at hcell hdrop
      have hb := HB.out
      rw [hdrop, bal] at hb
      clear hx hdrop HB
      rcases h10 : (x == 10) with _ | _
      · rw [if_neg (by simpa using h10)] at hb
        rcases ho : isOpens x with _ | _
        · rw [ho, if_neg (by simp)] at hb
          have HO := Lib.hid ho
          clear ho
          rcases h22 : (x == 22) with _ | _
          · rw [if_neg (by simpa using h22)] at hb
            have HB := Lib.hid hb
            have hlt0 : decide ((d : Int) < 0) = false := by simp
            clear hb
            go_wp2_with fail
            refine (ropens_any x _).mono ?_
            rintro e wq ⟨rfl, rfl⟩
            rw [HO.out]
            go_wp2_with fail
            go_roundw
            case rel => exact ⟨k + 1, d, by omega, by omega, rfl, by go_num, HB, by first | rfl | trivial⟩
            case measure => simp [intOf]; omega
          · rw [if_pos (by simpa using h22)] at hb
            by_cases hd0 : d = 0
            · subst hd0
              go_wp2_with fail
              refine (ropens_any x _).mono ?_
              rintro e wq ⟨rfl, rfl⟩
              rw [HO.out]
              go_wp2_with fail
              go_ret
              exact ⟨rfl, B1.out⟩
            · rw [if_neg hd0] at hb
              have HB := Lib.hid hb
              have hw1 : IntKind.i64.wrap ((d : Int) - 1) = ((d - 1 : Nat) : Int) := by rw [IntWalk.i64_in _ (by omega)]; omega
              have hlt0 : decide (((d - 1 : Nat) : Int) < 0) = false := by simp
              clear hb hd0
              go_wp2_with fail
              refine (ropens_any x _).mono ?_
              rintro e wq ⟨rfl, rfl⟩
              rw [HO.out]
              go_wp2_with fail
              go_roundw
              case rel => exact ⟨k + 1, d - 1, by omega, by omega, by first | rfl | go_num, by go_num, HB, by first | rfl | trivial⟩
              case measure => simp [intOf]; omega
        · rw [ho, if_pos rfl] at hb
          have h22 : (x == 22) = false := by rw [beq_eq_false_iff_ne]; intro e; subst e; revert ho; decide
          have HO := Lib.hid ho
          have HB := Lib.hid hb
          have hlt0 : decide ((d : Int) + 1 < 0) = false := by simp; omega
          clear hb ho
          go_wp2_with fail
          refine (ropens_any x _).mono ?_
          rintro e wq ⟨rfl, rfl⟩
          rw [HO.out]
          go_wp2_with fail
          go_roundw
          case rel => exact ⟨k + 1, d + 1, by omega, by omega, by go_num, by go_num, HB, by first | rfl | trivial⟩
          case measure => simp [intOf]; omega
      · rcases ho : isOpens x with _ | _
        · have HO := Lib.hid ho
          have h22 : (x == 22) = false := by simp at h10; subst h10; decide
          have hlt0 : decide ((d : Int) < 0) = false := by simp
          clear ho hb
          go_wp2_with fail
          refine (ropens_any x _).mono ?_
          rintro e wq ⟨rfl, rfl⟩
          rw [HO.out]
          go_wp2_with fail
          go_ret
          exact ⟨rfl, B1.out⟩
        · simp at h10; subst h10; exact absurd ho (by decide)
    · rcases hd0 : ((d : Int) != 0) with _ | _
      · obtain rfl : d = 0 := by simpa using hd0
        have hb := HB.out
        rw [List.drop_of_length_le (by omega), bal] at hb
        have H0' : bal xs 0 = some 0 := by rw [H0.out, ← hb]
        obtain ⟨zs, hz⟩ : ∃ zs, (21 :: (xs ++ [22]) : List Int) = zs := ⟨_, rfl⟩
        have hlev := skips_level xs l dir H0'
        have hiso := skips_isolate xs H0'
        have hzl : zs.length ≤ 302 := by rw [← hz]; simp; omega
        have hzi : ([.int .i64 21] ++ ints .i64 xs) ++ [.int .i64 22] = ints .i64 zs := by rw [← hz]; simp [ints]
        rw [hz] at hlev hiso
        obtain ⟨ys, hy⟩ : ∃ ys, zs ++ l = ys := ⟨_, rfl⟩
        have hyl : ys.length ≤ 700 := by rw [← hy]; simp; omega
        have hyi : ints .i64 zs ++ ints .i64 l = ints .i64 ys := by rw [← hy]; simp [ints]
        rw [hy] at hlev
        obtain ⟨r, hr⟩ : ∃ r, level l dir = r := ⟨_, rfl⟩
        rw [hr] at hlev
        obtain ⟨s, hs⟩ : ∃ r, level xs 0 = r := ⟨_, rfl⟩
        rw [hs] at hiso
        have R1 := Lib.hid hlev
        have R2 := Lib.hid hr
        have R3 := Lib.hid hiso
        have R4 := Lib.hid hs
        have HZI := Lib.hid hzi
        have HYI := Lib.hid hyi
        have HX1 := Lib.hid (HX.out.up B1.out)
        have HL1 := Lib.hid (HL.out.up B1.out)
        have OZ : Hid (Own (wr.alloc (.cells #[.int .i64 21] 3)) wr.heap.size 3 (.slice (some ⟨wr.heap.size, 0, none⟩) 1 1) [.int .i64 21]) :=
          Lib.hid (Own.ofLit #[.int .i64 21] (Nat.le_refl _) (by simp [maxLen]))
        have BZ := Lib.hid (below_alloc wr (.cells #[.int .i64 21] 3))
        clear hb H0' hlev hr hiso hs hz hzi hy hyi HB H0
        go_wp2_with (first
          | (at_builtin; refine app_src intsT wr _ wr.heap.size _ _ _ _ _ (ints .i64 xs) _ _ _ rfl rfl rfl rfl (by simp) OZ.out (HX1.out.below BZ.out) (ints_one _ _) BZ.out (by simp) (by unfold maxLen; simp; omega) (by simp; omega) ?_; intro v2 w2 o2 b2 _ _; have O2 := Lib.hid o2; have B2 := Lib.hid b2; clear o2 b2)
          | (at_builtin; refine app_lit intsT wr w2 wr.heap.size _ _ #[.int .i64 22] 1 v2 _ rfl rfl rfl rfl O2.out (by simp [Value.oneCell']) B2.out B2.out.size (by unfold maxLen; simp; omega) (by simp; omega) ?_; intro v3 w3 o3 b3 _ _; rw [show ([Value.int .i64 21] ++ ints .i64 xs) ++ (#[Value.int .i64 22] : Array Value).toList = ints .i64 zs from HZI.out] at o3; obtain ⟨A3, c3, rfl, l3, hc3, _⟩ := o3.form; simp only [ints, List.length_map] at o3 hc3 ⊢; have O3 := Lib.hid o3; have B3 := Lib.hid b3; clear o3 b3 l3)
          | (at_builtin; refine app_kept intsT wr w3 wr.heap.size _ _ _ A3 zs.length c3 _ (ints .i64 l) A _ c rfl rfl rfl rfl (by simp) O3.out (HL1.out.below B3.out) (ints_one _ _) B3.out B3.out.size (by unfold maxLen; simp; omega) (by simp; omega) ?_; intro v4 w4 o4 b4 _ k4; rw [HYI.out] at o4; obtain ⟨A4, c4, rfl, l4, hc4, _⟩ := o4.form; simp only [ints, List.length_map] at o4 hc4 ⊢; have L4 := Lib.hid l4; have K4 := Lib.hid k4; have B4 := Lib.hid b4; clear o4 b4 l4 k4)
          | fail)
        have BB4 : Hid (Below w.heap.size w w4) := Lib.hid (below_then B1.out B4.out)
        refine (level_any A4 ys c4 dir w4 (HT.out.below BB4.out hbig) L4.out (by omega) hc4).mono ?_
        rintro e w5 ⟨rfl, b5⟩
        rw [R1.out]
        have B5 := Lib.hid (below_then BB4.out b5)
        have D5 := Lib.hid b5
        clear b5
        go_wp2_with fail
        refine (level_any A l c dir w5 (HT.out.below B5.out hbig) (HL.out.up B5.out) hl' hc).mono ?_
        rintro e w6 ⟨rfl, b6⟩
        rw [R2.out]
        have B6 := Lib.hid (below_then B5.out b6)
        have D6 := Lib.hid b6
        clear b6
        have K6 := Lib.hid ((K4.out.up D5.out).up D6.out)
        go_wp2_with fail
        refine (isolate_any A3 zs c3 0 w6 (HT.out.below B6.out hbig) K6.out (by omega) hc3).mono ?_
        rintro e w7 ⟨rfl, b7⟩
        rw [R3.out]
        have B7 := Lib.hid (below_then B6.out b7)
        clear b7
        go_wp2_with fail
        refine (level_any A' xs c' 0 w7 (HT.out.below B7.out hbig) (HX.out.up B7.out) hx' hc').mono ?_
        rintro e w8 ⟨rfl, b8⟩
        rw [R4.out]
        have B8 := Lib.hid (below_then B7.out b8)
        clear b8
        go_wp2_with fail
        go_ret
        exact ⟨rfl, B8.out⟩
      · go_wp2
        go_ret
        exact ⟨rfl, B1.out⟩

set_option maxHeartbeats 1000000 in
theorem walk_long (w : World) (hT : ClsTabs w) (A : Option Addr) (l : List Int) (c : Nat) (A' : Option Addr) (xs : List Int) (c' : Nat) (hl : l.length ≤ 9223372036854775807) (hx : xs.length ≤ 9223372036854775807) (hh : 300 < l.length ∨ 300 < xs.length) (dir : Int) :
    Calls Tryd.prog 5 #[.slice A l.length c, .slice A' xs.length c', .int .i64 dir] w fun e w' => e = .returned (.bool true) ∧ Below w.heap.size w w' := by
  by_cases h1 : 300 < l.length
  · clear hh
    go_enter Tryd.func5, Tryd.ntmps5
    go_wp2_with fail
    refine (balive_any w hT).mono ?_
    rintro e w1 ⟨rfl, b1⟩
    have B1 := Lib.hid b1
    have D1 := Lib.hid b1
    clear b1
    go_wp2
    go_ret
    exact ⟨rfl, B1.out⟩
  · have h2 : 300 < xs.length := by omega
    clear hh
    go_enter Tryd.func5, Tryd.ntmps5
    go_wp2_with fail
    refine (balive_any w hT).mono ?_
    rintro e w1 ⟨rfl, b1⟩
    have B1 := Lib.hid b1
    have D1 := Lib.hid b1
    clear b1
    go_wp2
    go_ret
    exact ⟨rfl, B1.out⟩

theorem walk (w : World) (hT : ClsTabs w) (A : Option Addr) (l : List Int) (c : Nat) (hc : l.length ≤ c) (hm : c ≤ maxLen) (h : Lies w w.heap.size A (ints .i64 l)) (_ : ∀ n ∈ l, (Lit.int .i64 n).wf = true)
    (A' : Option Addr) (xs : List Int) (c' : Nat) (hc' : xs.length ≤ c') (hm' : c' ≤ maxLen) (h' : Lies w w.heap.size A' (ints .i64 xs)) (_ : ∀ n ∈ xs, (Lit.int .i64 n).wf = true) (dir : Int) (_ : (Lit.int .i64 dir).wf = true) :
    Calls Tryd.prog 5 #[.slice A l.length c, .slice A' xs.length c', .int .i64 dir] w fun e w' => e = .returned (.bool true) ∧ Below w.heap.size w w' := by
  unfold maxLen at hm hm'
  by_cases hh : 300 < l.length ∨ 300 < xs.length
  · exact walk_long w hT A l c A' xs c' (by omega) (by omega) hh dir
  · exact walk_ok w hT A l c (by omega) hc h A' xs c' (by omega) hc' h' dir
-- WRAP
theorem spec : LawSpec Rows.baseSkipsSpec 3 := ⟨rfl, fun H ds h => by
  match ds, h with
  | [d0, d1, d2], _ => rfl⟩
theorem params_ok : ∀ t ∈ Tryd.f5.params.toList, Tryd.prog.readableRec t = true ∧ t < Tryd.prog.types.size := by
  rw [Tryd.params5]
  intro t ht
  simp only [List.mem_cons, List.mem_nil_iff, or_false] at ht
  rcases ht with rfl | rfl | rfl
  all_goals exact ⟨by kernel_rfl, of_decide_eq_true (by kernel_rfl)⟩

theorem contract (H : Type) (enc : TypeId × Value → H) (W : World) (base : Nat) (args : Array Value) (ds gs : List (DataW H)) (before : List MemPlace)
    (hval : ∀ (j : Nat) t v, Tryd.f5.params[j]? = some t → args[j]? = some v → Value.okWide Tryd.prog W .any base t v)
    (hW : DataW.Whole enc Tryd.prog Tryd.f5.params.toList Rows.baseSkipsSpec.vars false W args.toList ds gs before) (hL : laidMetH Tryd.prog laidList W) :
    Calls Tryd.prog 5 args W fun e W' => ∃ v, e = .returned v ∧ Rows.baseSkipsSpec.post enc Tryd.prog Tryd.f5 false true false false W args v W' := by
  have hW' := hW
  obtain ⟨p, q, hA0, hV, rfl, hfz, hnd⟩ := hW
  have hA : DataW.TrodAll enc Tryd.prog W 0 (fun _ => true) true Tryd.f5.params.toList args.toList ds p := hA0
  rw [Tryd.params5] at hA hval
  obtain ⟨v0, vs0, d0, ds0, p0, q0, hargs, rfl, rfl, h0, r0⟩ := trodAll_cons hA
  obtain ⟨v1, vs1, d1, ds1, p1, q1, rfl, rfl, rfl, h1, r1⟩ := trodAll_cons r0
  obtain ⟨v2, vs2, d2, ds2, p2, q2, rfl, rfl, rfl, h2, r2⟩ := trodAll_cons r1
  obtain ⟨rfl, rfl, rfl⟩ := trodAll_nil r2
  obtain rfl : args = #[v0, v1, v2] := by cases args; simp_all
  obtain ⟨A0, l0, c0, rfl, hc0, hm0, hl0, wf0⟩ := open_list Tryd.underlying22 Tryd.underlying3 (by kernel_rfl) (hval 0 22 v0 rfl rfl) h0
  obtain ⟨A1, l1, c1, rfl, hc1, hm1, hl1, wf1⟩ := open_list Tryd.underlying22 Tryd.underlying3 (by kernel_rfl) (hval 1 22 v1 rfl rfl) h1
  obtain ⟨a2, rfl, rfl, rfl, w2⟩ := open_int Tryd.underlying3 (hval 2 3 v2 rfl rfl) h2
  exact (walk W (tabs_of hL) A0 l0 c0 hc0 hm0 hl0 wf0 A1 l1 c1 hc1 hm1 hl1 wf1 a2 w2).mono fun e W' ⟨he, hg⟩ => ⟨_, he, law_post spec (by rw [Tryd.params5]; rfl) (by kernel_rfl) params_ok (by kernel_rfl) Tryd.underlying4 hW' hg⟩

theorem laid_met (os : Os) : laidMet Tryd.prog Rows.baseSkipsRow.laid ((laidWorld os #[.slice none 0 0, .slice none 0 0, .int .i64 0]).forCall (fun _ _ => 0) ⟨#[], #[.slice none 0 0, .slice none 0 0, .int .i64 0], []⟩).memory :=
  laidMet_of_run' 8 (by kernel_rfl) (by kernel_rfl)
theorem reads (os : Os) {H : Type} (enc : TypeId × Value → H) : ∃ places, DataW.whole enc Tryd.prog ((laidWorld os #[.slice none 0 0, .slice none 0 0, .int .i64 0]).forCall (fun _ _ => 0) ⟨#[], #[.slice none 0 0, .slice none 0 0, .int .i64 0], []⟩).memory Tryd.f5.params.toList Rows.baseSkipsSpec.vars false #[.slice none 0 0, .slice none 0 0, .int .i64 0].toList 8 = some ([.nil, .nil, .lit (.int .i64 0)], [], places) :=
  ⟨[], by kernel_rfl⟩
set_option maxRecDepth 100000 in
theorem lifted (os : Os) (started : os.Started) (H : Type) (enc : TypeId × Value → H) (F : Stop.Interp) :
    ReturnsInHanded {} Tryd.checked os 5 .any ((OpenSpec.ofChange Rows.baseSkipsSpec).preRow enc Tryd.prog Tryd.f5 Rows.baseSkipsRow.domain false Rows.baseSkipsRow.laid) (((OpenSpec.ofChange Rows.baseSkipsSpec).at F).post enc Tryd.prog Tryd.f5 false true false false) := by
  obtain ⟨places, hx⟩ := reads os enc
  refine returnsInHanded_of_row (C := Tryd.checked) (s := OpenSpec.ofChange Rows.baseSkipsSpec) own started (by kernel_rfl) Tryd.func5
    (witness_row_at (enc := enc) (C := Tryd.checked) false (laidWorld os #[.slice none 0 0, .slice none 0 0, .int .i64 0]) #[.slice none 0 0, .slice none 0 0, .int .i64 0] rfl (by kernel_rfl) (by kernel_rfl) (by kernel_rfl)
      (OpenSpec.preRow_of_cond 8 hx (by kernel_rfl) (fun k hk => by cases hk) (by kernel_rfl) (laid_met os))) ?_
  intro W base args ds gs before hval hW _ _ _ hL _ _
  exact contract H enc W base args ds gs before hval hW hL
theorem said : Rows.BaseSkipsSaid :=
  OpenClaim.holds_of_cond 5 Tryd.f5 rfl rfl rfl rfl rfl rfl rfl ⟨rfl, rfl, rfl, rfl, rfl⟩ rfl rfl rfl rfl rfl (by kernel_rfl) Tryd.func5 (by kernel_rfl)
    (of_decide_eq_true (by kernel_rfl)) (by unfold Func.isWrapper; first | (rw [if_pos (by decide +kernel)]; kernel_rfl) | (rw [if_neg (by decide +kernel)]; exact ⟨rfl, rfl⟩))
    (fun os started H enc _ F => by rw [OpenClaim.pre_eq_preRow]; exact lifted os started H enc F)
theorem card : Rows.BaseSkipsCardSaid :=
  Claim7.holds_tied_plain_at .later [] _ _ _ _ said (fun _ h => by cases h) (by kernel_rfl) (fun _ h => by cases h) baseSkips_row_tie rfl ⟨rfl, rfl⟩ (by kernel_rfl) rfl
    (plainOf "ductus/ductuslaw05.BaseSkips" 5 Tryd.f5 (by kernel_rfl) Tryd.func5 (by kernel_rfl) (fun j t ht => by
      rw [Tryd.params5] at ht
      have hm := Array.mem_of_getElem? ht
      simp only [List.mem_toArray, List.mem_cons, List.mem_nil_iff, or_false] at hm
      rcases hm with rfl | rfl | rfl
      all_goals (show Tryd.prog.wantsStandIn _ = false; kernel_rfl))) (by kernel_rfl)
end Go.Proofs.YtbbmeccoddbemaaDoor.lawSkips
