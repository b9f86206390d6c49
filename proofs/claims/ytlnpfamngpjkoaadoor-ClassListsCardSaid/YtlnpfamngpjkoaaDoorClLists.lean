/- ClassLists: for any two lists of numbers, the classes of the one behind the other are both's. Conditions: none beyond the row's own (the classes' names as the program's text lays them). -/
import Derived.Test.YtlnpfamngpjkoaaDoorClL
import Derived.Test.YtlnpfamngpjkoaaDoorLaw
namespace Go.Proofs.YtlnpfamngpjkoaaDoor.lawLists
open Go.ChangeShapes Go.WideShapes Go.ChangeAt Go.RowKit Reckon

set_option maxHeartbeats 4000000 in
theorem walk_ok (w : World) (hT : ClsTabs w) (A : Option Addr) (a : List Int) (c : Nat) (A' : Option Addr) (b : List Int) (c' : Nat) (ha : a.length ≤ 1000) (hb : b.length ≤ 1000)
    (h : Lies w w.heap.size A (ints .i64 a)) (h' : Lies w w.heap.size A' (ints .i64 b)) :
    Calls Tryd.prog 5 #[.slice A a.length c, .slice A' b.length c'] w fun e w' => e = .returned (.bool true) ∧ Below w.heap.size w w' := by
  have HT := Lib.hid hT
  have H := Lib.hid h
  have H' := Lib.hid h'
  obtain ⟨t, ht⟩ : ∃ t, a ++ b = t := ⟨_, rfl⟩
  obtain ⟨x, hx⟩ : ∃ x, a.map cls = x := ⟨_, rfl⟩
  obtain ⟨y, hy⟩ : ∃ y, b.map cls = y := ⟨_, rfl⟩
  obtain ⟨z, hz⟩ : ∃ z, x ++ y = z := ⟨_, rfl⟩
  have hxl : x.length = a.length := by rw [← hx]; simp
  have hyl : y.length = b.length := by rw [← hy]; simp
  have htl : t.length ≤ 2000 := by rw [← ht, List.length_append]; omega
  have hzl : z.length ≤ 2000 := by rw [← hz, List.length_append]; omega
  have HZ : Hid (t.map cls = z) := by show _ = _; rw [← ht, List.map_append, hx, hy, hz]
  have HXA : Hid (∀ i (p : i < a.length), (x[i]? = some (cls a[i]))) := fun i p => by rw [← hx]; simp [p]
  have HXL := Lib.hid hxl
  have HTT := Lib.hid ht
  have HZZ := Lib.hid hz
  have HX := Lib.hid hx
  have HY := Lib.hid hy
  have lx : (ints .i64 x).length ≤ 1000 := by simp; omega
  have ly : (ints .i64 y).length ≤ 1000 := by simp; omega
  have la : (ints .i64 a).length ≤ 1000 := by simpa using ha
  have lb : (ints .i64 b).length ≤ 1000 := by simpa using hb
  clear hT h h' ht hx hy hz hyl hxl
  go_enter Tryd.func5, Tryd.ntmps5
  go_wp2_with fail
  refine (calive_any w HT.out).mono ?_
  rintro e w1 ⟨rfl, b1⟩
  have B1 := Lib.hid b1
  have HA := Lib.hid (H.out.up b1)
  have HB := Lib.hid (H'.out.up b1)
  clear b1
  have S1 := Lib.hid (Own.ofLit (w := w1) (B := w1.heap.size) (e := 3) #[] (Nat.le_refl _) (by simp [maxLen]))
  go_wp2_with (first
    | (at_builtin; refine app_src intsT w1 _ w1.heap.size w1.heap.size _ _ _ _ (ints .i64 a) _ _ _ rfl rfl rfl rfl (by simp) S1.out (HA.out.alloc (Nat.le_refl _) _) (ints_one _ _) (below_alloc _ _) (by simp) (by unfold maxLen; simp only [List.length_nil]; omega) (by simp only [List.length_nil]; omega) ?_; intro v1 w4 o4 b4 _ _
       have S2 := Lib.hid o4
       have B4 := Lib.hid b4
       clear S1 o4 b4)
    | (at_builtin; refine app_src intsT w1 _ w1.heap.size w1.heap.size _ _ _ _ (ints .i64 b) _ _ _ rfl rfl rfl rfl (by simp) S2.out (HB.out.below B4.out) (ints_one _ _) B4.out B4.out.size (by unfold maxLen; simp only [List.nil_append]; omega) (by simp only [List.nil_append]; omega) ?_; intro v2 w5 o5 b5 _ _))
  have o5' : Own w5 w1.heap.size 3 v2 (ints .i64 t) := by rw [← HTT.out]; simpa [ints] using o5
  obtain ⟨A5, c5, rfl, l5, _, _⟩ := o5'.form
  have L5 := Lib.hid l5
  have B5 := Lib.hid (below_then B1.out b5)
  simp only [ints, List.length_map]
  clear o5 o5' l5 b5 S2 B4 HA HB
  refine (all_any A5 t c5 w5 L5.out (by omega)).mono ?_
  rintro e w6 ⟨v6, rfl, o6, b6⟩
  rw [HZ.out] at o6
  obtain ⟨A6, c6, rfl, l6, _, _⟩ := o6.form
  have L6 := Lib.hid l6
  have B6 := Lib.hid (below_then B5.out b6)
  have HA := Lib.hid (H.out.up B6.out)
  simp only [ints, List.length_map]
  clear o6 l6 b6 L5
  go_wp2_with fail
  refine (all_any A a c w6 HA.out (by omega)).mono ?_
  rintro e w7 ⟨v7, rfl, o7, b7⟩
  rw [HX.out] at o7
  obtain ⟨A7, c7, rfl, l7, _, _⟩ := o7.form
  have L7 := Lib.hid l7
  have L6' := Lib.hid (L6.out.up b7)
  have B7 := Lib.hid (below_then B6.out b7)
  have HB := Lib.hid (H'.out.up B7.out)
  simp only [ints, List.length_map]
  clear o7 l7 b7 L6 HA
  go_wp2_with fail
  refine (all_any A' b c' w7 HB.out (by omega)).mono ?_
  rintro e w8 ⟨v8, rfl, o8, b8⟩
  rw [HY.out] at o8
  obtain ⟨A8, c8, rfl, l8, _, _⟩ := o8.form
  have L8 := Lib.hid l8
  have L6 := Lib.hid (L6'.out.up b8)
  have L7' := Lib.hid (L7.out.up b8)
  have B8 := Lib.hid (below_then B7.out b8)
  have hxl := HXL.out
  have hxb : ((x.length : Int) != (a.length : Int)) = false := by rw [hxl]; simp
  simp only [ints, List.length_map]
  clear o8 l8 b8 L6' L7 HB hxl
  have S1 := Lib.hid (Own.ofLit (w := w8) (B := w8.heap.size) (e := 3) #[] (Nat.le_refl _) (by simp [maxLen]))
  go_wp2_with (first
    | (at_builtin; refine app_src intsT w8 _ w8.heap.size w8.heap.size _ _ _ _ (ints .i64 x) _ _ _ rfl rfl rfl rfl (by simp) S1.out (L7'.out.alloc (Nat.le_refl _) _) (ints_one _ _) (below_alloc _ _) (by simp) (by unfold maxLen; simp only [List.length_nil]; omega) (by simp only [List.length_nil]; omega) ?_; intro v1 w9 o4 b4 _ _
       have S2 := Lib.hid o4
       have B4 := Lib.hid b4
       clear S1 o4 b4)
    | (at_builtin; refine app_src intsT w8 _ w8.heap.size w8.heap.size _ _ _ _ (ints .i64 y) _ _ _ rfl rfl rfl rfl (by simp) S2.out (L8.out.below B4.out) (ints_one _ _) B4.out B4.out.size (by unfold maxLen; simp only [List.nil_append]; omega) (by simp only [List.nil_append]; omega) ?_; intro v2 w10 o5 b5 _ _))
  have o5' : Own w10 w8.heap.size 3 v2 (ints .i64 z) := by rw [← HZZ.out]; simpa [ints] using o5
  obtain ⟨A9, c9, rfl, l9, _, _⟩ := o5'.form
  have L9 := Lib.hid l9
  have B9 := Lib.hid (below_then B8.out b5)
  have L6' := Lib.hid (L6.out.up b5)
  have L7 := Lib.hid (L7'.out.up b5)
  simp only [ints, List.length_map]
  clear o5 o5' l9 b5 S2 B4 L6 L7' L8
  refine (ints_ok A6 A9 z c6 c9 w10 L6'.out L9.out (by omega)).mono ?_
  rintro e w11 ⟨rfl, b11⟩
  have B11 := Lib.hid (below_then B9.out b11)
  have L7' := Lib.hid (L7.out.up b11)
  have HA := Lib.hid (H.out.up B11.out)
  clear b11 L6' L9 L7
  go_wp2_with fail
  go_loopw [8] (fun i wr => ∃ n : Nat, n ≤ a.length ∧ i = .int .i64 n ∧ Below w11.heap.size w11 wr) (fun i _ => a.length - (intOf i).toNat)
  case atStart => exact ⟨0, by omega, rfl, Below.refl _ _⟩
  case round =>
    obtain ⟨n, hn, rfl, hb⟩ := hrel
    have HB := Lib.hid hb
    clear hb
    by_cases hlt : n < a.length
    · have hltx : n < x.length := by rw [HXL.out]; exact hlt
      obtain ⟨p, hp, _, hc⟩ := (HA.out.below HB.out).int hlt
      obtain ⟨q, hq, _, hd⟩ := (L7'.out.below HB.out).int hltx
      have hxe : x[n] = cls a[n] := by
        have := HXA.out n hlt
        rw [List.getElem?_eq_getElem hltx] at this
        exact Option.some.inj this
      rw [hxe] at hd
      subst hp hq
      obtain ⟨v, hv⟩ : ∃ v, a[n] = v := ⟨_, rfl⟩
      rw [hv] at hc hd
      clear hv hxe
      have b0 : (0 : Int) ≤ (n : Int) := by omega
      have b1 : (n : Int) < (a.length : Int) := by omega
      have b2 : (n : Int) < (x.length : Int) := by omega
      go_wp2
      go_quiet ((first | (go_at_call 8; with_reducible exact quiet_same (of_any _ _))))
      go_wp2
      go_roundw
      case rel => exact ⟨n + 1, by omega, by go_num, below_drawn HB.out _⟩
      case measure => simp [intOf]; omega
    · go_wp2
      go_ret
      exact ⟨rfl, below_then B11.out HB.out⟩

set_option maxHeartbeats 1000000 in
theorem walk_long (w : World) (hT : ClsTabs w) (A : Option Addr) (a : List Int) (c : Nat) (A' : Option Addr) (b : List Int) (c' : Nat) (ha : a.length ≤ 9223372036854775807) (hb : b.length ≤ 9223372036854775807)
    (hh : 1000 < a.length ∨ (a.length ≤ 1000 ∧ 1000 < b.length)) :
    Calls Tryd.prog 5 #[.slice A a.length c, .slice A' b.length c'] w fun e w' => e = .returned (.bool true) ∧ Below w.heap.size w w' := by
  have HT := Lib.hid hT
  clear hT
  rcases hh with h1 | ⟨h1, h2⟩
  all_goals
    go_enter Tryd.func5, Tryd.ntmps5
    go_wp2_with fail
    refine (calive_any w HT.out).mono ?_
    rintro e w1 ⟨rfl, b1⟩
    go_wp2
    go_ret
    exact ⟨rfl, b1⟩

theorem walk (w : World) (hT : ClsTabs w) (A : Option Addr) (a : List Int) (c : Nat) (hc : a.length ≤ c) (hm : c ≤ maxLen) (h : Lies w w.heap.size A (ints .i64 a)) (_ : ∀ n ∈ a, (Lit.int .i64 n).wf = true)
    (A' : Option Addr) (b : List Int) (c' : Nat) (hc' : b.length ≤ c') (hm' : c' ≤ maxLen) (h' : Lies w w.heap.size A' (ints .i64 b)) (_ : ∀ n ∈ b, (Lit.int .i64 n).wf = true) :
    Calls Tryd.prog 5 #[.slice A a.length c, .slice A' b.length c'] w fun e w' => e = .returned (.bool true) ∧ Below w.heap.size w w' := by
  unfold maxLen at hm hm'
  by_cases hh : 1000 < a.length ∨ (a.length ≤ 1000 ∧ 1000 < b.length)
  · exact walk_long w hT A a c A' b c' (by omega) (by omega) hh
  · exact walk_ok w hT A a c A' b c' (by omega) (by omega) h h'
-- WRAP
theorem spec : LawSpec Rows.classListsSpec 2 := ⟨rfl, fun H ds h => by
  match ds, h with
  | [d0, d1], _ => rfl⟩
theorem params_ok : ∀ t ∈ Tryd.f5.params.toList, Tryd.prog.readableRec t = true ∧ t < Tryd.prog.types.size := by
  rw [Tryd.params5]
  intro t ht
  simp only [List.mem_cons, List.mem_nil_iff, or_false] at ht
  rcases ht with rfl | rfl
  all_goals exact ⟨by kernel_rfl, of_decide_eq_true (by kernel_rfl)⟩

theorem contract (H : Type) (enc : TypeId × Value → H) (W : World) (base : Nat) (args : Array Value) (ds gs : List (DataW H)) (before : List MemPlace)
    (hval : ∀ (j : Nat) t v, Tryd.f5.params[j]? = some t → args[j]? = some v → Value.okWide Tryd.prog W .any base t v)
    (hW : DataW.Whole enc Tryd.prog Tryd.f5.params.toList Rows.classListsSpec.vars false W args.toList ds gs before) (hL : laidMetH Tryd.prog laidList W) :
    Calls Tryd.prog 5 args W fun e W' => ∃ v, e = .returned v ∧ Rows.classListsSpec.post enc Tryd.prog Tryd.f5 false true false false W args v W' := by
  have hW' := hW
  obtain ⟨p, q, hA0, hV, rfl, hfz, hnd⟩ := hW
  have hA : DataW.TrodAll enc Tryd.prog W 0 (fun _ => true) true Tryd.f5.params.toList args.toList ds p := hA0
  rw [Tryd.params5] at hA hval
  obtain ⟨v0, vs0, d0, ds0, p0, q0, hargs, rfl, rfl, h0, r0⟩ := trodAll_cons hA
  obtain ⟨v1, vs1, d1, ds1, p1, q1, rfl, rfl, rfl, h1, r1⟩ := trodAll_cons r0
  obtain ⟨rfl, rfl, rfl⟩ := trodAll_nil r1
  obtain rfl : args = #[v0, v1] := by cases args; simp_all
  obtain ⟨A0, l0, c0, rfl, hc0, hm0, hl0, wf0⟩ := open_list Tryd.underlying22 Tryd.underlying3 (by kernel_rfl) (hval 0 22 v0 rfl rfl) h0
  obtain ⟨A1, l1, c1, rfl, hc1, hm1, hl1, wf1⟩ := open_list Tryd.underlying22 Tryd.underlying3 (by kernel_rfl) (hval 1 22 v1 rfl rfl) h1
  exact (walk W (tabs_of hL) A0 l0 c0 hc0 hm0 hl0 wf0 A1 l1 c1 hc1 hm1 hl1 wf1).mono fun e W' ⟨he, hg⟩ => ⟨_, he, law_post spec (by rw [Tryd.params5]; rfl) (by kernel_rfl) params_ok (by kernel_rfl) Tryd.underlying4 hW' hg⟩

theorem laid_met (os : Os) : laidMet Tryd.prog Rows.classListsRow.laid ((laidWorld os #[.slice none 0 0, .slice none 0 0]).forCall (fun _ _ => 0) ⟨#[], #[.slice none 0 0, .slice none 0 0], []⟩).memory :=
  laidMet_of_run' 8 (by kernel_rfl) (by kernel_rfl)
theorem reads (os : Os) {H : Type} (enc : TypeId × Value → H) : ∃ places, DataW.whole enc Tryd.prog ((laidWorld os #[.slice none 0 0, .slice none 0 0]).forCall (fun _ _ => 0) ⟨#[], #[.slice none 0 0, .slice none 0 0], []⟩).memory Tryd.f5.params.toList Rows.classListsSpec.vars false #[.slice none 0 0, .slice none 0 0].toList 8 = some ([.nil, .nil], [], places) :=
  ⟨[], by kernel_rfl⟩
set_option maxRecDepth 100000 in
theorem lifted (os : Os) (started : os.Started) (H : Type) (enc : TypeId × Value → H) (F : Stop.Interp) :
    ReturnsInHanded {} Tryd.checked os 5 .any ((OpenSpec.ofChange Rows.classListsSpec).preRow enc Tryd.prog Tryd.f5 Rows.classListsRow.domain false Rows.classListsRow.laid) (((OpenSpec.ofChange Rows.classListsSpec).at F).post enc Tryd.prog Tryd.f5 false true false false) := by
  obtain ⟨places, hx⟩ := reads os enc
  refine returnsInHanded_of_row (C := Tryd.checked) (s := OpenSpec.ofChange Rows.classListsSpec) own started (by kernel_rfl) Tryd.func5
    (witness_row_at (enc := enc) (C := Tryd.checked) false (laidWorld os #[.slice none 0 0, .slice none 0 0]) #[.slice none 0 0, .slice none 0 0] rfl (by kernel_rfl) (by kernel_rfl) (by kernel_rfl)
      (OpenSpec.preRow_of_cond 8 hx (by kernel_rfl) (fun k hk => by cases hk) (by kernel_rfl) (laid_met os))) ?_
  intro W base args ds gs before hval hW _ _ _ hL _ _
  exact contract H enc W base args ds gs before hval hW hL
theorem said : Rows.ClassListsSaid :=
  OpenClaim.holds_of_cond 5 Tryd.f5 rfl rfl rfl rfl rfl rfl rfl ⟨rfl, rfl, rfl, rfl, rfl⟩ rfl rfl rfl rfl rfl (by kernel_rfl) Tryd.func5 (by kernel_rfl)
    (of_decide_eq_true (by kernel_rfl)) (by unfold Func.isWrapper; first | (rw [if_pos (by decide +kernel)]; kernel_rfl) | (rw [if_neg (by decide +kernel)]; exact ⟨rfl, rfl⟩))
    (fun os started H enc _ F => by rw [OpenClaim.pre_eq_preRow]; exact lifted os started H enc F)
theorem card : Rows.ClassListsCardSaid :=
  Claim7.holds_tied_plain_at .later [] _ _ _ _ said (fun _ h => by cases h) (by kernel_rfl) (fun _ h => by cases h) classLists_row_tie rfl ⟨rfl, rfl⟩ (by kernel_rfl) rfl
    (plainOf "ductus/ductuslaw02.ClassLists" 5 Tryd.f5 (by kernel_rfl) Tryd.func5 (by kernel_rfl) (fun j t ht => by
      rw [Tryd.params5] at ht
      have hm := Array.mem_of_getElem? ht
      simp only [List.mem_toArray, List.mem_cons, List.mem_nil_iff, or_false] at hm
      rcases hm with rfl | rfl
      all_goals (show Tryd.prog.wantsStandIn _ = false; kernel_rfl))) (by kernel_rfl)
end Go.Proofs.YtlnpfamngpjkoaaDoor.lawLists
