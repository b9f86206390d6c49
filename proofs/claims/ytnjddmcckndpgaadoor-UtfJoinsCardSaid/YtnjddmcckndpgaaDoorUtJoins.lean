/- UtfJoins: for every two lists of numbers, whole characters of two texts, one behind the other, are both's. Conditions: none beyond the row's own (Go's two tables as its text lays them). -/
import Derived.Test.YtnjddmcckndpgaaDoorUtL
import Derived.Test.YtnjddmcckndpgaaDoorUtM
import Derived.Test.YtnjddmcckndpgaaDoorLaw
import Derived.Test.YtnjddmcckndpgaaDoorMem2
namespace Go.Proofs.YtnjddmcckndpgaaDoor.lawJoins
open Go.ChangeShapes Go.WideShapes Go.ChangeAt Go.RowKit

theorem decode_l (A : Option Addr) (l : List UInt8) (c : Nat) (w : World) (h : Lies w w.heap.size A (ints .u8 (u8s l))) (hl : l.length ≤ 4000) :
    Calls Tryd.prog 9 #[.slice A l.length c] w (Rowed3 w w.heap.size 3 (ints .i64 (decC l)) (ints .i64 (decA l)) 0) := by
  have := decode_any A l c w h hl
  rwa [u8s_length] at this

/-- what Encode tells, in two ways -/
theorem encL_two (l : List Int) : (∃ n, encL l = ([], n) ∧ (n == 0) = false ∧ (n != 0) = true) ∨ (allCh l = true ∧ (encAll l).length ≤ 4000 ∧ encL l = (u8s (encB l), 0)) := by
  by_cases h : allCh l = true
  · by_cases h' : (encAll l).length ≤ 4000
    · exact .inr ⟨h, h', by rw [encL_ok h h', u8s_encB l h]⟩
    · exact .inl ⟨2, encL_long h h', rfl, rfl⟩
  · exact .inl ⟨1, encL_bad (by simpa using h), rfl, rfl⟩

set_option maxHeartbeats 2000000 in
theorem walk_bad (A : Option Addr) (a : List Int) (c : Nat) (A' : Option Addr) (b : List Int) (c' : Nat) (w : World) (ha : a.length ≤ 1000) (hb : b.length ≤ 1000)
    (h : Lies w w.heap.size A (ints .i64 a)) (h' : Lies w w.heap.size A' (ints .i64 b)) (hT : Tabs w) (n m : Int) (x y : List Int) (ea : encL a = (x, n)) (eb : encL b = (y, m))
    (hh : (n != 0) = true ∨ ((n != 0) = false ∧ (m != 0) = true) ∨ ((n != 0) = false ∧ (m != 0) = false ∧ 4000 < x.length + y.length)) (hx : x.length ≤ 4000) (hy : y.length ≤ 4000) :
    Calls Tryd.prog 6 #[.slice A a.length c, .slice A' b.length c'] w fun e w' => e = .returned (.bool true) ∧ Below w.heap.size w w' := by
  have HT := Lib.hid hT
  have H := Lib.hid h
  have H' := Lib.hid h'
  have EA := Lib.hid ea
  have EB := Lib.hid eb
  clear hT h h' ea eb
  rcases hh with q1 | ⟨q1, q2⟩ | ⟨q1, q2, q3⟩
  all_goals
    go_enter Tryd.func6, Tryd.ntmps6
    go_wp2_with fail
    refine (alive_any w HT.out).mono ?_
    rintro e w1 ⟨rfl, b1⟩
    have B1 := Lib.hid b1
    clear b1
    go_wp2_with fail
    refine (encode_any _ a _ _ (H.out.up B1.out) (by omega)).mono ?_
    rintro e w2 ⟨v, rfl, o, b2⟩
    have B2 := Lib.hid (below_then B1.out b2)
    rw [EA.out] at o ⊢
    obtain ⟨A3, c3, rfl, _, _, _⟩ := o.form
    simp only [ints, List.length_map]
    clear b2 o
    go_wp2_with fail
    refine (encode_any _ b _ _ (H'.out.up B2.out) (by omega)).mono ?_
    rintro e w3 ⟨v, rfl, o, b3⟩
    have B3 := Lib.hid (below_then B2.out b3)
    rw [EB.out] at o ⊢
    obtain ⟨A4, c4, rfl, _, _, _⟩ := o.form
    simp only [ints, List.length_map]
    clear b3 o
    go_wp2
    go_ret
    exact ⟨rfl, B3.out⟩

set_option maxHeartbeats 1500000 in
theorem walk_ok (A : Option Addr) (a : List Int) (c : Nat) (A' : Option Addr) (b : List Int) (c' : Nat) (w : World) (ha : a.length ≤ 1000) (hb : b.length ≤ 1000)
    (h : Lies w w.heap.size A (ints .i64 a)) (h' : Lies w w.heap.size A' (ints .i64 b)) (hT : Tabs w) (a1 : allCh a = true) (b1 : allCh b = true) (x y : List UInt8) (hx : encB a = x) (hy : encB b = y)
    (ea : encL a = (u8s x, 0)) (eb : encL b = (u8s y, 0)) (hl : x.length + y.length ≤ 4000) :
    Calls Tryd.prog 6 #[.slice A a.length c, .slice A' b.length c'] w fun e w' => e = .returned (.bool true) ∧ Below w.heap.size w w' := by
  have HT := Lib.hid hT
  have H := Lib.hid h
  have H' := Lib.hid h'
  have EA := Lib.hid ea
  have EB := Lib.hid eb
  have ab : allCh (a ++ b) = true := by simp only [allCh, List.all_append, Bool.and_eq_true] at *; exact ⟨a1, b1⟩
  have D1 : Hid (decC (x ++ y) = a ++ b) := by show _ = _; rw [← hx, ← hy, ← encB_append]; exact decC_enc _ ab
  have D2 : Hid (nthI (decA (x ++ y)) a.length = x.length) := by
    show _ = _
    rw [← hx, ← hy, ← encB_append, decA_at a b a1 b1, encB_len]
  have D3 : Hid (nthI (decA (x ++ y)) ((a.length : Int) + b.length + 1) = -1) := by
    show _ = _
    have e := decA_len (x ++ y)
    rw [D1.out, List.length_append] at e
    rw [nthI, if_neg (by omega)]
  obtain ⟨z, hz⟩ : ∃ z, x ++ y = z := ⟨_, rfl⟩
  obtain ⟨t, ht⟩ : ∃ t, a ++ b = t := ⟨_, rfl⟩
  have zl : z.length ≤ 4000 := by rw [← hz, List.length_append]; exact hl
  have tl : t.length ≤ 2000 := by rw [← ht, List.length_append]; omega
  rw [hz] at D1 D2 D3
  rw [ht] at D1
  have HZ := Lib.hid hz
  have HX := Lib.hid ht
  clear hT h h' ea eb hx hy ab a1 b1 hz ht
  go_enter Tryd.func6, Tryd.ntmps6
  go_wp2_with fail
  refine (alive_any w HT.out).mono ?_
  rintro e w1 ⟨rfl, b1⟩
  have B1 := Lib.hid b1
  clear b1
  go_wp2_with fail
  refine (encode_any _ a _ _ (H.out.up B1.out) (by omega)).mono ?_
  rintro e w2 ⟨v, rfl, o, b2⟩
  have B2 := Lib.hid (below_then B1.out b2)
  rw [EA.out] at o ⊢
  obtain ⟨A3, c3, rfl, l3, _, _⟩ := o.form
  have L3 := Lib.hid l3
  simp only [ints, List.length_map, u8s_length]
  clear b2 o l3
  go_wp2_with fail
  refine (encode_any _ b _ _ (H'.out.up B2.out) (by omega)).mono ?_
  rintro e w3 ⟨v, rfl, o, b3⟩
  have B3 := Lib.hid (below_then B2.out b3)
  rw [EB.out] at o ⊢
  obtain ⟨A4, c4, rfl, l4, _, _⟩ := o.form
  have L4 := Lib.hid l4
  have L3' := Lib.hid (L3.out.up b3)
  simp only [ints, List.length_map, u8s_length]
  clear b3 o l4 L3
  have S1 := Lib.hid (Own.ofLit (w := w3) (B := w3.heap.size) (e := 5) #[] (Nat.le_refl _) (by simp [maxLen]))
  have ly : (ints .u8 (u8s x)).length ≤ 4000 := by simp; omega
  have lz : (ints .u8 (u8s x)).length + (ints .u8 (u8s y)).length ≤ 4000 := by simp; omega
  go_wp2_with (first
    | (at_builtin; refine app_src bytesT w3 _ w3.heap.size w3.heap.size _ _ _ _ (ints .u8 (u8s x)) _ _ _ rfl rfl rfl rfl (by simp) S1.out (L3'.out.alloc (Nat.le_refl _) _) (ints_one _ _) (below_alloc _ _) (by simp) (by unfold maxLen; simp only [List.length_nil]; omega) (by simp only [List.length_nil]; omega) ?_; intro v1 w4 o4 b4 _ _
       have S2 := Lib.hid o4
       have B4 := Lib.hid b4
       clear S1 o4 b4)
    | (at_builtin; refine app_src bytesT w3 _ w3.heap.size w3.heap.size _ _ _ _ (ints .u8 (u8s y)) _ _ _ rfl rfl rfl rfl (by simp) S2.out (L4.out.below B4.out) (ints_one _ _) B4.out B4.out.size (by unfold maxLen; simp only [List.nil_append]; omega) (by simp only [List.nil_append]; omega) ?_; intro v2 w5 o5 b5 _ _))
  have o5' : Own w5 w3.heap.size 5 v2 (ints .u8 (u8s z)) := by rw [← HZ.out]; simpa [ints, u8s] using o5
  obtain ⟨A5, c5, rfl, l5, _, _⟩ := o5'.form
  have L5 := Lib.hid l5
  have B5 := Lib.hid (below_then B3.out b5)
  simp only [ints, List.length_map, u8s_length]
  clear o5 o5' l5 b5 S2 B4 L3' L4
  refine (decode_l A5 z c5 w5 L5.out zl).mono ?_
  rintro e w6 ⟨v7, v8, rfl, o7, o8, b6⟩
  rw [D1.out] at o7
  obtain ⟨A7, c7, rfl, l7, _, _⟩ := o7.form
  obtain ⟨A8, c8, rfl, l8, _, _⟩ := o8.form
  have L7 := Lib.hid l7
  have L8 := Lib.hid l8
  have B6 := Lib.hid (below_then B5.out b6)
  have HA := Lib.hid (H.out.up B6.out)
  have HB := Lib.hid (H'.out.up B6.out)
  simp only [ints, List.length_map]
  clear o7 o8 l7 l8 b6 L5
  have S1 := Lib.hid (Own.ofLit (w := w6) (B := w6.heap.size) (e := 3) #[] (Nat.le_refl _) (by simp [maxLen]))
  have la : (ints .i64 a).length ≤ 1000 := by simpa using ha
  have lb : (ints .i64 b).length ≤ 1000 := by simpa using hb
  go_wp2_with (first
    | (at_builtin; refine app_src intsT w6 _ w6.heap.size w6.heap.size _ _ _ _ (ints .i64 a) _ _ _ rfl rfl rfl rfl (by simp) S1.out (HA.out.alloc (Nat.le_refl _) _) (ints_one _ _) (below_alloc _ _) (by simp) (by unfold maxLen; simp only [List.length_nil]; omega) (by simp only [List.length_nil]; omega) ?_; intro v1 w7 o4 b4 _ _
       have S2 := Lib.hid o4
       have B4 := Lib.hid b4
       clear S1 o4 b4)
    | (at_builtin; refine app_src intsT w6 _ w6.heap.size w6.heap.size _ _ _ _ (ints .i64 b) _ _ _ rfl rfl rfl rfl (by simp) S2.out (HB.out.below B4.out) (ints_one _ _) B4.out B4.out.size (by unfold maxLen; simp only [List.nil_append]; omega) (by simp only [List.nil_append]; omega) ?_; intro v2 w8 o5 b5 _ _))
  have o5' : Own w8 w6.heap.size 3 v2 (ints .i64 t) := by rw [← HX.out]; simpa [ints] using o5
  obtain ⟨A9, c9, rfl, l9, _, _⟩ := o5'.form
  have L9 := Lib.hid l9
  have B8 := Lib.hid (below_then B6.out b5)
  have L8' := Lib.hid (L8.out.up b5)
  have L7' := Lib.hid (L7.out.up b5)
  simp only [ints, List.length_map]
  clear o5 o5' l9 b5 S2 B4 L7 L8
  refine (ints_ok A7 A9 t c7 c9 w8 L7'.out L9.out (by omega)).mono ?_
  rintro e w9 ⟨rfl, b9⟩
  have B9 := Lib.hid (below_then B8.out b9)
  have L8'' := Lib.hid (L8'.out.up b9)
  clear b9 L7' L8' L9
  go_wp2_with fail
  refine (offset_any A8 (decA z) c8 a.length _ w9 L8''.out).mono ?_
  rintro e w10 ⟨rfl, rfl⟩
  rw [D2.out]
  go_wp2_with fail
  refine (offset_any A8 (decA z) c8 _ _ w9 L8''.out).mono ?_
  rintro e w10 ⟨rfl, rfl⟩
  rw [D3.out]
  go_wp2
  go_ret
  exact ⟨rfl, B9.out⟩

set_option maxHeartbeats 1000000 in
theorem walk_long (A : Option Addr) (a : List Int) (c : Nat) (A' : Option Addr) (b : List Int) (c' : Nat) (w : World) (ha : a.length ≤ 9223372036854775807) (hb : b.length ≤ 9223372036854775807)
    (hT : Tabs w) (hh : 1000 < a.length ∨ (a.length ≤ 1000 ∧ 1000 < b.length)) :
    Calls Tryd.prog 6 #[.slice A a.length c, .slice A' b.length c'] w fun e w' => e = .returned (.bool true) ∧ Below w.heap.size w w' := by
  have HT := Lib.hid hT
  clear hT
  rcases hh with h1 | ⟨h1, h2⟩
  all_goals
    go_enter Tryd.func6, Tryd.ntmps6
    go_wp2_with fail
    refine (alive_any w HT.out).mono ?_
    rintro e w1 ⟨rfl, b1⟩
    go_wp2
    go_ret
    exact ⟨rfl, b1⟩

theorem walk (w : World) (hT : Tabs w) (A : Option Addr) (a : List Int) (c : Nat) (hc : a.length ≤ c) (hm : c ≤ maxLen) (h : Lies w w.heap.size A (ints .i64 a)) (_ : ∀ n ∈ a, (Lit.int .i64 n).wf = true)
    (A' : Option Addr) (b : List Int) (c' : Nat) (hc' : b.length ≤ c') (hm' : c' ≤ maxLen) (h' : Lies w w.heap.size A' (ints .i64 b)) (_ : ∀ n ∈ b, (Lit.int .i64 n).wf = true) :
    Calls Tryd.prog 6 #[.slice A a.length c, .slice A' b.length c'] w fun e w' => e = .returned (.bool true) ∧ Below w.heap.size w w' := by
  unfold maxLen at hm hm'
  by_cases hh : 1000 < a.length ∨ (a.length ≤ 1000 ∧ 1000 < b.length)
  · exact walk_long A a c A' b c' w (by omega) (by omega) hT hh
  · have ha : a.length ≤ 1000 := by omega
    have hb : b.length ≤ 1000 := by omega
    rcases encL_two a with ⟨n, ea, z1, z2⟩ | ⟨a1, a2, ea⟩
    · rcases encL_two b with ⟨m, eb, _, _⟩ | ⟨b1, b2, eb⟩
      · exact walk_bad A a c A' b c' w ha hb h h' hT n m [] [] ea eb (.inl z2) (by simp) (by simp)
      · exact walk_bad A a c A' b c' w ha hb h h' hT n 0 [] _ ea eb (.inl z2) (by simp) (by rw [u8s_length, encB_len]; exact b2)
    · rcases encL_two b with ⟨m, eb, y1, y2⟩ | ⟨b1, b2, eb⟩
      · exact walk_bad A a c A' b c' w ha hb h h' hT 0 m _ [] ea eb (.inr (.inl ⟨rfl, y2⟩)) (by rw [u8s_length, encB_len]; exact a2) (by simp)
      · by_cases hl : (encB a).length + (encB b).length ≤ 4000
        · exact walk_ok A a c A' b c' w ha hb h h' hT a1 b1 _ _ rfl rfl ea eb hl
        · exact walk_bad A a c A' b c' w ha hb h h' hT 0 0 _ _ ea eb (.inr (.inr ⟨rfl, rfl, by rw [u8s_length, u8s_length]; omega⟩)) (by rw [u8s_length, encB_len]; exact a2) (by rw [u8s_length, encB_len]; exact b2)
-- WRAP
theorem spec : LawSpec Rows.utfJoinsSpec 2 := ⟨rfl, fun H ds h => by
  match ds, h with
  | [d0, d1], _ => rfl⟩
theorem params_ok : ∀ t ∈ Tryd.f6.params.toList, Tryd.prog.readableRec t = true ∧ t < Tryd.prog.types.size := by
  rw [Tryd.params6]
  intro t ht
  simp only [List.mem_cons, List.mem_nil_iff, or_false] at ht
  rcases ht with rfl | rfl
  all_goals exact ⟨by kernel_rfl, of_decide_eq_true (by kernel_rfl)⟩

theorem contract (H : Type) (enc : TypeId × Value → H) (W : World) (base : Nat) (args : Array Value) (ds gs : List (DataW H)) (before : List MemPlace)
    (hval : ∀ (j : Nat) t v, Tryd.f6.params[j]? = some t → args[j]? = some v → Value.okWide Tryd.prog W .any base t v)
    (hW : DataW.Whole enc Tryd.prog Tryd.f6.params.toList Rows.utfJoinsSpec.vars false W args.toList ds gs before) (hL : laidMetH Tryd.prog laidList W) :
    Calls Tryd.prog 6 args W fun e W' => ∃ v, e = .returned v ∧ Rows.utfJoinsSpec.post enc Tryd.prog Tryd.f6 false true false false W args v W' := by
  have hW' := hW
  obtain ⟨p, q, hA0, hV, rfl, hfz, hnd⟩ := hW
  have hA : DataW.TrodAll enc Tryd.prog W 0 (fun _ => true) true Tryd.f6.params.toList args.toList ds p := hA0
  rw [Tryd.params6] at hA hval
  obtain ⟨v0, vs0, d0, ds0, p0, q0, hargs, rfl, rfl, h0, r0⟩ := trodAll_cons hA
  obtain ⟨v1, vs1, d1, ds1, p1, q1, rfl, rfl, rfl, h1, r1⟩ := trodAll_cons r0
  obtain ⟨rfl, rfl, rfl⟩ := trodAll_nil r1
  obtain rfl : args = #[v0, v1] := by cases args; simp_all
  obtain ⟨A0, l0, c0, rfl, hc0, hm0, hl0, wf0⟩ := open_list Tryd.underlying24 Tryd.underlying3 (by kernel_rfl) (hval 0 24 v0 rfl rfl) h0
  obtain ⟨A1, l1, c1, rfl, hc1, hm1, hl1, wf1⟩ := open_list Tryd.underlying24 Tryd.underlying3 (by kernel_rfl) (hval 1 24 v1 rfl rfl) h1
  exact (walk W (tabs_of hL) A0 l0 c0 hc0 hm0 hl0 wf0 A1 l1 c1 hc1 hm1 hl1 wf1).mono fun e W' ⟨he, hg⟩ => ⟨_, he, law_post spec (by rw [Tryd.params6]; rfl) (by kernel_rfl) params_ok (by kernel_rfl) Tryd.underlying4 hW' hg⟩

theorem laid_met (os : Os) : laidMet Tryd.prog Rows.utfJoinsRow.laid ((laidWorld os #[.slice none 0 0, .slice none 0 0]).forCall (fun _ _ => 0) ⟨#[], #[.slice none 0 0, .slice none 0 0], []⟩).memory :=
  laidMet_of_run' 8 (by kernel_rfl) (by kernel_rfl)
theorem reads (os : Os) {H : Type} (enc : TypeId × Value → H) : ∃ places, DataW.whole enc Tryd.prog ((laidWorld os #[.slice none 0 0, .slice none 0 0]).forCall (fun _ _ => 0) ⟨#[], #[.slice none 0 0, .slice none 0 0], []⟩).memory Tryd.f6.params.toList Rows.utfJoinsSpec.vars false #[.slice none 0 0, .slice none 0 0].toList 8 = some ([.nil, .nil], [], places) :=
  ⟨[], by kernel_rfl⟩
set_option maxRecDepth 100000 in
theorem lifted (os : Os) (started : os.Started) (H : Type) (enc : TypeId × Value → H) (F : Stop.Interp) :
    ReturnsInHanded {} Tryd.checked os 6 .any ((OpenSpec.ofChange Rows.utfJoinsSpec).preRow enc Tryd.prog Tryd.f6 Rows.utfJoinsRow.domain false Rows.utfJoinsRow.laid) (((OpenSpec.ofChange Rows.utfJoinsSpec).at F).post enc Tryd.prog Tryd.f6 false true false false) := by
  obtain ⟨places, hx⟩ := reads os enc
  refine returnsInHanded_of_row (C := Tryd.checked) (s := OpenSpec.ofChange Rows.utfJoinsSpec) own started (by kernel_rfl) Tryd.func6
    (witness_row_at (enc := enc) (C := Tryd.checked) false (laidWorld os #[.slice none 0 0, .slice none 0 0]) #[.slice none 0 0, .slice none 0 0] rfl (by kernel_rfl) (by kernel_rfl) (by kernel_rfl)
      (OpenSpec.preRow_of_cond 8 hx (by kernel_rfl) (fun k hk => by cases hk) (by kernel_rfl) (laid_met os))) ?_
  intro W base args ds gs before hval hW _ _ _ hL _ _
  exact contract H enc W base args ds gs before hval hW hL
theorem said : Rows.UtfJoinsSaid :=
  OpenClaim.holds_of_cond 6 Tryd.f6 rfl rfl rfl rfl rfl rfl rfl ⟨rfl, rfl, rfl, rfl, rfl⟩ rfl rfl rfl rfl rfl (by kernel_rfl) Tryd.func6 (by kernel_rfl)
    (of_decide_eq_true (by kernel_rfl)) (by unfold Func.isWrapper; first | (rw [if_pos (by decide +kernel)]; kernel_rfl) | (rw [if_neg (by decide +kernel)]; exact ⟨rfl, rfl⟩))
    (fun os started H enc _ F => by rw [OpenClaim.pre_eq_preRow]; exact lifted os started H enc F)
theorem card : Rows.UtfJoinsCardSaid :=
  Claim7.holds_tied_plain_at .later [] _ _ _ _ said (fun _ h => by cases h) (by kernel_rfl) (fun _ h => by cases h) utfJoins_row_tie rfl ⟨rfl, rfl⟩ (by kernel_rfl) rfl
    (plainOf "ductus/ductuslaw01.UtfJoins" 6 Tryd.f6 (by kernel_rfl) Tryd.func6 (by kernel_rfl) (fun j t ht => by
      rw [Tryd.params6] at ht
      have hm := Array.mem_of_getElem? ht
      simp only [List.mem_toArray, List.mem_cons, List.mem_nil_iff, or_false] at hm
      rcases hm with rfl | rfl
      all_goals (show Tryd.prog.wantsStandIn _ = false; kernel_rfl))) (by kernel_rfl)
end Go.Proofs.YtnjddmcckndpgaaDoor.lawJoins
