/- BaseFirsts: for every list of numbers and every three places, what is looked at further finds the same first strong one; of none nothing. Conditions: none (the names' cells are tied to the program's text). -/
import Derived.Test.YtbbmeccoddbemaaDoorBsF
import Derived.Test.YtbbmeccoddbemaaDoorClL
import Derived.Test.YtbbmeccoddbemaaDoorLaw
import Derived.Test.YtbbmeccoddbemaaDoorSame
namespace Go.Proofs.YtbbmeccoddbemaaDoor.lawFirsts
open Go.ChangeShapes Go.WideShapes Go.ChangeAt Go.RowKit

theorem firsts_facts (l : List Int) (f p q : Int) : firstP (partI l f f) 0 = -1 ∧ ((firstP (partI l f (min p q)) 0 = -1 ∧ (firstP (partI l f (max p q)) 0 = -1 ∨ firstP (partI l f (max p q)) 0 = 0 ∨ firstP (partI l f (max p q)) 0 = 1)) ∨
    (firstP (partI l f (min p q)) 0 = 0 ∧ firstP (partI l f (max p q)) 0 = 0) ∨ (firstP (partI l f (min p q)) 0 = 1 ∧ firstP (partI l f (max p q)) 0 = 1)) := by
  constructor
  · rw [partI, show (min f (l.length : Int)).toNat - (max f 0).toNat = 0 by omega]; rfl
  · by_cases h : firstP (partI l f (min p q)) 0 = -1
    · exact .inl ⟨h, firstP_range _ _⟩
    · have e : partI l f (max p q) = partI l f (min p q) ++ ((l.drop (max f 0).toNat).drop ((min (min p q) (l.length : Int)).toNat - (max f 0).toNat)).take ((min (max p q) (l.length : Int)).toNat - (max f 0).toNat - ((min (min p q) (l.length : Int)).toNat - (max f 0).toNat)) := by
        rw [partI, partI, ← List.take_add]
        congr 1
        omega
      have h2 := firstP_more (partI l f (min p q)) (((l.drop (max f 0).toNat).drop ((min (min p q) (l.length : Int)).toNat - (max f 0).toNat)).take ((min (max p q) (l.length : Int)).toNat - (max f 0).toNat - ((min (min p q) (l.length : Int)).toNat - (max f 0).toNat))) 0 h
      rw [← e] at h2
      rw [h2]
      have := firstP_range (partI l f (min p q)) 0
      omega

set_option maxRecDepth 20000 in
set_option maxHeartbeats 4000000 in
theorem walk_ok (w : World) (hT : ClsTabs w) (A : Option Addr) (l : List Int) (c : Nat) (hl : l.length ≤ 300) (hc : l.length ≤ c) (h : Lies w w.heap.size A (ints .i64 l)) (x y z : Int)
    (hx : 0 ≤ x ∧ x ≤ 65535) (hy : 0 ≤ y ∧ y ≤ 65535) (hz : 0 ≤ z ∧ z ≤ 65535) :
    Calls Tryd.prog 6 #[.slice A l.length c, .agg #[.int .u16 x, .int .u16 y, .int .u16 z]] w fun e w' => e = .returned (.bool true) ∧ Below w.heap.size w w' := by
  have hl' : l.length ≤ 1000000 := by omega
  obtain ⟨w0, hw0⟩ : ∃ u, w.alloc (.cells #[.int .u16 x, .int .u16 y, .int .u16 z] 34) = u := ⟨_, rfl⟩
  have B0 : Hid (Below w.heap.size w w0) := Lib.hid (hw0 ▸ below_alloc w _)
  have SK : Hid (∀ w', Below w0.heap.size w0 w' → w'.cell? ⟨w.heap.size, 0, none⟩ = some (.int .u16 x) ∧ w'.cell? ⟨w.heap.size, 1, none⟩ = some (.int .u16 y) ∧ w'.cell? ⟨w.heap.size, 2, none⟩ = some (.int .u16 z)) := by
    subst hw0
    exact Lib.hid fun w' hb => ⟨boxed hb rfl, boxed hb rfl, boxed hb rfl⟩
  have HT := Lib.hid (hT.below B0.out hT.big)
  have hbig := HT.out.big
  have H := Lib.hid (h.up B0.out)
  have HW := Lib.hid hw0
  clear hT h hw0
  have hwx : IntKind.i64.wrap x = x := IntWalk.i64_in _ (by omega)
  have hwy : IntKind.i64.wrap y = y := IntWalk.i64_in _ (by omega)
  have hwz : IntKind.i64.wrap z = z := IntWalk.i64_in _ (by omega)
  go_enter Tryd.func6, Tryd.ntmps6
  go_wp2_with fail
  rw [HW.out]
  refine (balive_any w0 HT.out).mono ?_
  rintro e w1 ⟨rfl, b1⟩
  have B1 := Lib.hid b1
  clear b1
  obtain ⟨h1, h2, h3⟩ := SK.out w1 B1.out
  obtain ⟨f, hf⟩ : ∃ f, x % ((l.length : Int) + 1) = f := ⟨_, rfl⟩
  obtain ⟨p, hp⟩ : ∃ f, y % ((l.length : Int) + 1) = f := ⟨_, rfl⟩
  obtain ⟨q, hq⟩ : ∃ f, z % ((l.length : Int) + 1) = f := ⟨_, rfl⟩
  have hfacts := firsts_facts l f p q
  obtain ⟨mn, hmn⟩ : ∃ m, min p q = m := ⟨_, rfl⟩
  obtain ⟨mx, hmx⟩ : ∃ m, max p q = m := ⟨_, rfl⟩
  rw [hmn, hmx] at hfacts
  obtain ⟨h0, hfacts⟩ := hfacts
  have H0 := Lib.hid h0
  clear h0
  go_wp2_with fail
  go_quiet (fail)
  simp only [hf, hp, hq]
  clear h1 h2 h3 hf hp hq hwx hwy hwz
  obtain ⟨ra, hra⟩ : ∃ m, firstP (partI l f mn) 0 = m := ⟨_, rfl⟩
  obtain ⟨rb, hrb⟩ : ∃ m, firstP (partI l f mx) 0 = m := ⟨_, rfl⟩
  rw [hra, hrb] at hfacts
  have HA := Lib.hid hra
  have HB := Lib.hid hrb
  clear hra hrb
  rcases hfacts with ⟨rfl, rfl | rfl | rfl⟩ | ⟨rfl, rfl⟩ | ⟨rfl, rfl⟩
  all_goals
    go_wp2_with fail
    refine (first_any A l c f mn _ (HT.out.below (below_drawn B1.out _) hbig) (H.out.up (below_drawn B1.out _)) hl' hc).mono ?_
    rintro e w2 ⟨rfl, b2⟩
    rw [HA.out]
    have B2 := Lib.hid (below_then (below_drawn B1.out _) b2)
    clear b2
    go_wp2_with fail
    refine (first_any A l c f mx _ (HT.out.below B2.out hbig) (H.out.up B2.out) hl' hc).mono ?_
    rintro e w3 ⟨rfl, b3⟩
    rw [HB.out]
    have B3 := Lib.hid (below_then B2.out b3)
    clear b3
    go_wp2_with fail
    refine (first_any A l c f f _ (HT.out.below B3.out hbig) (H.out.up B3.out) hl' hc).mono ?_
    rintro e w4 ⟨rfl, b4⟩
    rw [H0.out]
    have B4 := Lib.hid (below_then B3.out b4)
    clear b4
    go_wp2_with fail
    go_ret
    exact ⟨rfl, B0.out.trans (B4.out.mono B0.out.size)⟩

set_option maxHeartbeats 1000000 in
theorem walk_long (w : World) (hT : ClsTabs w) (A : Option Addr) (l : List Int) (c : Nat) (hl : l.length ≤ 9223372036854775807) (hh : 300 < l.length) (x y z : Int) :
    Calls Tryd.prog 6 #[.slice A l.length c, .agg #[.int .u16 x, .int .u16 y, .int .u16 z]] w fun e w' => e = .returned (.bool true) ∧ Below w.heap.size w w' := by
  have B0 : Hid (Below w.heap.size w (w.alloc (.cells #[.int .u16 x, .int .u16 y, .int .u16 z] 34))) := Lib.hid (below_alloc w _)
  have HT := Lib.hid (hT.below B0.out hT.big)
  clear hT
  go_enter Tryd.func6, Tryd.ntmps6
  go_wp2_with fail
  refine (balive_any _ HT.out).mono ?_
  rintro e w1 ⟨rfl, b1⟩
  have B1 := Lib.hid (B0.out.trans (b1.mono B0.out.size))
  clear b1
  go_wp2
  go_ret
  exact ⟨rfl, B1.out⟩

theorem walk (w : World) (hT : ClsTabs w) (A : Option Addr) (l : List Int) (c : Nat) (hc : l.length ≤ c) (hm : c ≤ maxLen) (h : Lies w w.heap.size A (ints .i64 l)) (_ : ∀ n ∈ l, (Lit.int .i64 n).wf = true)
    (x y z : Int) (hx : (Lit.int .u16 x).wf = true) (hy : (Lit.int .u16 y).wf = true) (hz : (Lit.int .u16 z).wf = true) :
    Calls Tryd.prog 6 #[.slice A l.length c, .agg #[.int .u16 x, .int .u16 y, .int .u16 z]] w fun e w' => e = .returned (.bool true) ∧ Below w.heap.size w w' := by
  unfold maxLen at hm
  by_cases hh : 300 < l.length
  · exact walk_long w hT A l c (by omega) hh x y z
  · exact walk_ok w hT A l c (by omega) hc h x y z (bounds_u16 hx) (bounds_u16 hy) (bounds_u16 hz)
-- WRAP
theorem spec : LawSpec Rows.baseFirstsSpec 2 := ⟨rfl, fun H ds h => by
  match ds, h with
  | [d0, d1], _ => rfl⟩
theorem params_ok : ∀ t ∈ Tryd.f6.params.toList, Tryd.prog.readableRec t = true ∧ t < Tryd.prog.types.size := by
  rw [Tryd.params6]
  intro t ht
  simp only [List.mem_cons, List.mem_nil_iff, or_false] at ht
  rcases ht with rfl | rfl
  all_goals exact ⟨by kernel_rfl, of_decide_eq_true (by kernel_rfl)⟩

theorem contract (H : Type) (enc : TypeId × Value → H) (W : World) (base : Nat) (args : Array Value) (ds gs : List (DataW H)) (before : List MemPlace)
    (hval : ∀ (j : Nat) t v, Tryd.f6.params[j]? = some t → args[j]? = some v → Value.okWide Tryd.prog W .any base t v)
    (hW : DataW.Whole enc Tryd.prog Tryd.f6.params.toList Rows.baseFirstsSpec.vars false W args.toList ds gs before) (hL : laidMetH Tryd.prog laidList W) :
    Calls Tryd.prog 6 args W fun e W' => ∃ v, e = .returned v ∧ Rows.baseFirstsSpec.post enc Tryd.prog Tryd.f6 false true false false W args v W' := by
  have hW' := hW
  obtain ⟨p, q, hA0, hV, rfl, hfz, hnd⟩ := hW
  have hA : DataW.TrodAll enc Tryd.prog W 0 (fun _ => true) true Tryd.f6.params.toList args.toList ds p := hA0
  rw [Tryd.params6] at hA hval
  obtain ⟨v0, vs0, d0, ds0, p0, q0, hargs, rfl, rfl, h0, r0⟩ := trodAll_cons hA
  obtain ⟨v1, vs1, d1, ds1, p1, q1, rfl, rfl, rfl, h1, r1⟩ := trodAll_cons r0
  obtain ⟨rfl, rfl, rfl⟩ := trodAll_nil r1
  obtain rfl : args = #[v0, v1] := by cases args; simp_all
  obtain ⟨A0, l0, c0, rfl, hc0, hm0, hl0, wf0⟩ := open_list Tryd.underlying22 Tryd.underlying3 (by kernel_rfl) (hval 0 22 v0 rfl rfl) h0
  obtain ⟨n1, rfl, hn1, wf1⟩ := open_nums Tryd.underlying34 Tryd.underlying33 (by kernel_rfl) (by kernel_rfl) (hval 1 34 v1 rfl rfl) h1
  rcases n1 with _ | ⟨x1_0, n1⟩
  · simp at hn1
  rcases n1 with _ | ⟨x1_1, n1⟩
  · simp at hn1
  rcases n1 with _ | ⟨x1_2, n1⟩
  · simp at hn1
  obtain rfl : n1 = [] := List.eq_nil_of_length_eq_zero (by simpa using hn1)
  exact (walk W (tabs_of hL) A0 l0 c0 hc0 hm0 hl0 wf0 x1_0 x1_1 x1_2 (wf1 _ (by simp)) (wf1 _ (by simp)) (wf1 _ (by simp))).mono fun e W' ⟨he, hg⟩ => ⟨_, he, law_post spec (by rw [Tryd.params6]; rfl) (by kernel_rfl) params_ok (by kernel_rfl) Tryd.underlying4 hW' hg⟩

theorem laid_met (os : Os) : laidMet Tryd.prog Rows.baseFirstsRow.laid ((laidWorld os #[.slice none 0 0, .agg #[.int .u16 0, .int .u16 0, .int .u16 0]]).forCall (fun _ _ => 0) ⟨#[], #[.slice none 0 0, .agg #[.int .u16 0, .int .u16 0, .int .u16 0]], []⟩).memory :=
  laidMet_of_run' 8 (by kernel_rfl) (by kernel_rfl)
theorem reads (os : Os) {H : Type} (enc : TypeId × Value → H) : ∃ places, DataW.whole enc Tryd.prog ((laidWorld os #[.slice none 0 0, .agg #[.int .u16 0, .int .u16 0, .int .u16 0]]).forCall (fun _ _ => 0) ⟨#[], #[.slice none 0 0, .agg #[.int .u16 0, .int .u16 0, .int .u16 0]], []⟩).memory Tryd.f6.params.toList Rows.baseFirstsSpec.vars false #[.slice none 0 0, .agg #[.int .u16 0, .int .u16 0, .int .u16 0]].toList 8 = some ([.nil, .agg [.lit (.int .u16 0), .lit (.int .u16 0), .lit (.int .u16 0)]], [], places) :=
  ⟨[], by kernel_rfl⟩
set_option maxRecDepth 100000 in
theorem lifted (os : Os) (started : os.Started) (H : Type) (enc : TypeId × Value → H) (F : Stop.Interp) :
    ReturnsInHanded {} Tryd.checked os 6 .any ((OpenSpec.ofChange Rows.baseFirstsSpec).preRow enc Tryd.prog Tryd.f6 Rows.baseFirstsRow.domain false Rows.baseFirstsRow.laid) (((OpenSpec.ofChange Rows.baseFirstsSpec).at F).post enc Tryd.prog Tryd.f6 false true false false) := by
  obtain ⟨places, hx⟩ := reads os enc
  refine returnsInHanded_of_row (C := Tryd.checked) (s := OpenSpec.ofChange Rows.baseFirstsSpec) own started (by kernel_rfl) Tryd.func6
    (witness_row_at (enc := enc) (C := Tryd.checked) false (laidWorld os #[.slice none 0 0, .agg #[.int .u16 0, .int .u16 0, .int .u16 0]]) #[.slice none 0 0, .agg #[.int .u16 0, .int .u16 0, .int .u16 0]] rfl (by kernel_rfl) (by kernel_rfl) (by kernel_rfl)
      (OpenSpec.preRow_of_cond 8 hx (by kernel_rfl) (fun k hk => by cases hk) (by kernel_rfl) (laid_met os))) ?_
  intro W base args ds gs before hval hW _ _ _ hL _ _
  exact contract H enc W base args ds gs before hval hW hL
theorem said : Rows.BaseFirstsSaid :=
  OpenClaim.holds_of_cond 6 Tryd.f6 rfl rfl rfl rfl rfl rfl rfl ⟨rfl, rfl, rfl, rfl, rfl⟩ rfl rfl rfl rfl rfl (by kernel_rfl) Tryd.func6 (by kernel_rfl)
    (of_decide_eq_true (by kernel_rfl)) (by unfold Func.isWrapper; first | (rw [if_pos (by decide +kernel)]; kernel_rfl) | (rw [if_neg (by decide +kernel)]; exact ⟨rfl, rfl⟩))
    (fun os started H enc _ F => by rw [OpenClaim.pre_eq_preRow]; exact lifted os started H enc F)
theorem card : Rows.BaseFirstsCardSaid :=
  Claim7.holds_tied_plain_at .later [] _ _ _ _ said (fun _ h => by cases h) (by kernel_rfl) (fun _ h => by cases h) baseFirsts_row_tie rfl ⟨rfl, rfl⟩ (by kernel_rfl) rfl
    (plainOf "ductus/ductuslaw05.BaseFirsts" 6 Tryd.f6 (by kernel_rfl) Tryd.func6 (by kernel_rfl) (fun j t ht => by
      rw [Tryd.params6] at ht
      have hm := Array.mem_of_getElem? ht
      simp only [List.mem_toArray, List.mem_cons, List.mem_nil_iff, or_false] at hm
      rcases hm with rfl | rfl
      all_goals (show Tryd.prog.wantsStandIn _ = false; kernel_rfl))) (by kernel_rfl)
end Go.Proofs.YtbbmeccoddbemaaDoor.lawFirsts
