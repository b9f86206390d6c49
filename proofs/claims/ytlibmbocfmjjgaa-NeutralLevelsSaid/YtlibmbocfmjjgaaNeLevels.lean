/- NeutralLevels: for every list of numbers and every level of eight bits, levels of L are even, of R odd, of numbers even and above; they rise by two at most, and stay just where the direction is the level's. Conditions: none. -/
import Derived.Test.YtlibmbocfmjjgaaNeV
import Derived.Test.YtlibmbocfmjjgaaLaw
import Derived.Test.YtlibmbocfmjjgaaRows
namespace Go.Proofs.Ytlibmbocfmjjgaa.lawLevels
open Go.ChangeShapes Go.WideShapes Go.ChangeAt Go.RowKit

theorem mod_even (u k : Nat) (hu : u % 2 = 0) : ((u + k : Nat) : Int) % 2 = ((k % 2 : Nat) : Int) := by omega
theorem mod_odd (u k : Nat) (hu : u % 2 = 1) : ((u + k : Nat) : Int) % 2 = (((k + 1) % 2 : Nat) : Int) := by omega
/-- a level in a small level, and how much it rises -/
theorem level_at (x : Int) (u : Nat) (hu : u ≤ 255) : ∃ k : Nat, nLevelI x u = ((u + k : Nat) : Int) ∧ (
    (u % 2 = 0 ∧ ((x = 0 ∧ k = 0) ∨ (x = 1 ∧ k = 1) ∨ (x = 3 ∧ k = 2) ∨ (x = 6 ∧ k = 2) ∨ (x ≠ 0 ∧ x ≠ 1 ∧ x ≠ 3 ∧ x ≠ 6 ∧ k = 0))) ∨
    (u % 2 = 1 ∧ ((x = 0 ∧ k = 1) ∨ (x = 1 ∧ k = 0) ∨ (x = 3 ∧ k = 1) ∨ (x = 6 ∧ k = 1) ∨ (x ≠ 0 ∧ x ≠ 1 ∧ x ≠ 3 ∧ x ≠ 6 ∧ k = 0)))) := by
  have h1 : wrap64 ((u : Int) + 1) = ((u + 1 : Nat) : Int) := by rw [IntWalk.wrap64_in _ (by omega)]; rfl
  have h2 : wrap64 ((u : Int) + 2) = ((u + 2 : Nat) : Int) := by rw [IntWalk.wrap64_in _ (by omega)]; rfl
  rcases Nat.mod_two_eq_zero_or_one u with hp | hp
  · have hd : dirL (u : Int) = 0 := by rw [dirL, if_pos (by omega)]
    by_cases e1 : x = 1
    · exact ⟨1, by rw [nLevelI, hd, if_pos ⟨rfl, e1⟩, h1], .inl ⟨hp, by omega⟩⟩
    · by_cases e36 : x = 6 ∨ x = 3
      · exact ⟨2, by rw [nLevelI, hd, if_neg (by omega), if_pos ⟨rfl, e36⟩, h2], .inl ⟨hp, by omega⟩⟩
      · exact ⟨0, by rw [nLevelI, hd, if_neg (by omega), if_neg (by omega), if_neg (by omega)]; rfl, .inl ⟨hp, by omega⟩⟩
  · have hd : dirL (u : Int) = 1 := by rw [dirL, if_neg (by omega)]
    by_cases e0 : x = 0 ∨ x = 6 ∨ x = 3
    · exact ⟨1, by rw [nLevelI, hd, if_neg (by omega), if_neg (by omega), if_pos ⟨rfl, e0⟩, h1], .inr ⟨hp, by omega⟩⟩
    · exact ⟨0, by rw [nLevelI, hd, if_neg (by omega), if_neg (by omega), if_neg (by omega)]; rfl, .inr ⟨hp, by omega⟩⟩

set_option maxRecDepth 20000 in
set_option maxHeartbeats 8000000 in
theorem walk_ok (w : World) (A : Option Addr) (l : List Int) (c : Nat) (hl : l.length ≤ 500) (h : Lies w w.heap.size A (ints .i64 l)) (u : Nat) (hu : u ≤ 255) :
    Calls Try.prog 5 #[.slice A l.length c, .int .u8 (u : Int)] w fun e w' => e = .returned (.bool true) ∧ Below w.heap.size w w' := by
  have hw0 : IntKind.i64.wrap (u : Int) = (u : Int) := IntWalk.i64_in _ (by omega)
  have H := Lib.hid h
  obtain ⟨L, hL⟩ : ∃ L, nLevelsI l u = L := ⟨_, rfl⟩
  have hLL : L.length = l.length := by rw [← hL, nLevelsI, List.length_map]
  have HL := Lib.hid hL
  have HLL := Lib.hid hLL
  have HAT : Hid (∀ i (hi : i < l.length) (hi' : i < L.length), L[i] = nLevelI l[i] u) := Lib.hid fun i hi _ => by subst hL; simp [nLevelsI]
  clear h hL hLL
  go_enter Try.func5, Try.ntmps5
  go_wp2_with fail
  refine (nalive_any w).mono ?_
  rintro e w1 ⟨rfl, b1⟩
  have B1 := Lib.hid b1
  have D1 := Lib.hid b1
  clear b1
  have H1 := Lib.hid (H.out.up B1.out)
  go_wp2_with fail
  refine (nlevels_any A l c u w1 H1.out (by omega)).mono ?_
  rintro e w2 ⟨v2, rfl, o2, b2⟩
  rw [HL.out] at o2
  obtain ⟨A2, c2, hv2, l2, -, -⟩ := o2.form
  rw [ints, List.length_map, HLL.out] at hv2
  subst hv2
  have B2 := Lib.hid (below_then B1.out b2)
  have L2 := Lib.hid l2
  have H2 := Lib.hid (H1.out.up b2)
  clear o2 l2 b2
  go_wp2_with fail
  go_loopw [6] (fun iv wr => ∃ i : Nat, i ≤ l.length ∧ iv = .int .i64 i ∧ Below w2.heap.size w2 wr) (fun iv _ => l.length - (intOf iv).toNat)
  case atStart => exact ⟨0, by omega, rfl, Below.refl _ _⟩
  case round =>
    obtain ⟨i, hi, rfl, hb⟩ := hrel
    have HB := Lib.hid hb
    clear hb
    by_cases hlt : i < l.length
    · have hlo : i < L.length := by rw [HLL.out]; exact hlt
      obtain ⟨p, hp, _, hcx⟩ := (H2.out.up HB.out).int hlt
      obtain ⟨p2, hp2, _, hck⟩ := (L2.out.up HB.out).int hlo
      subst hp hp2
      have hat := HAT.out i hlt hlo
      obtain ⟨k, hk, hw⟩ := level_at l[i] u hu
      rw [hat, hk] at hck
      obtain ⟨x, hx⟩ : ∃ x, l[i] = x := ⟨_, rfl⟩
      rw [hx] at hcx hw
      obtain ⟨m, hm⟩ : ∃ m, u + k = m := ⟨_, rfl⟩
      rw [hm] at hck
      have hs : IntKind.i64.wrap ((m : Int) - (u : Int)) = (k : Int) := by rw [IntWalk.i64_in _ (by omega)]; omega
      have c0 : (0 : Int) ≤ (i : Int) := by omega
      have c1 : (i : Int) < (l.length : Int) := by omega
      have c2' : (i : Int) < (L.length : Int) := by omega
      have HM := Lib.hid hm
      clear hk hat hx hlo hm
      rcases hw with ⟨hp, ⟨rfl, rfl⟩ | ⟨rfl, rfl⟩ | ⟨rfl, rfl⟩ | ⟨rfl, rfl⟩ | ⟨x0, x1, x3, x6, rfl⟩⟩ | ⟨hp, ⟨rfl, rfl⟩ | ⟨rfl, rfl⟩ | ⟨rfl, rfl⟩ | ⟨rfl, rfl⟩ | ⟨x0, x1, x3, x6, rfl⟩⟩
      · have hd : dirL (u : Int) = 0 := by rw [dirL, if_pos (by omega)]
        have hm2 : ((m : Int) % 2) = 0 := by have := HM.out; omega
        go_wp2_with fail
        go_quiet ((first | (go_at_call 19; with_reducible exact quiet_same (rdir8_any _ _))))
        go_wp2_with fail
        go_roundw
        case rel => exact ⟨i + 1, by omega, by go_num, below_drawn HB.out _⟩
        case measure => simp [intOf]; omega
      · have hd : dirL (u : Int) = 0 := by rw [dirL, if_pos (by omega)]
        have hm2 : ((m : Int) % 2) = 1 := by have := HM.out; omega
        go_wp2_with fail
        go_quiet ((first | (go_at_call 19; with_reducible exact quiet_same (rdir8_any _ _))))
        go_wp2_with fail
        go_roundw
        case rel => exact ⟨i + 1, by omega, by go_num, below_drawn HB.out _⟩
        case measure => simp [intOf]; omega
      · have hd : dirL (u : Int) = 0 := by rw [dirL, if_pos (by omega)]
        have hm2 : ((m : Int) % 2) = 0 := by have := HM.out; omega
        go_wp2_with fail
        go_quiet (fail)
        go_wp2_with fail
        go_roundw
        case rel => exact ⟨i + 1, by omega, by go_num, below_drawn HB.out _⟩
        case measure => simp [intOf]; omega
      · have hd : dirL (u : Int) = 0 := by rw [dirL, if_pos (by omega)]
        have hm2 : ((m : Int) % 2) = 0 := by have := HM.out; omega
        go_wp2_with fail
        go_quiet (fail)
        go_wp2_with fail
        go_roundw
        case rel => exact ⟨i + 1, by omega, by go_num, below_drawn HB.out _⟩
        case measure => simp [intOf]; omega
      · have hd : dirL (u : Int) = 0 := by rw [dirL, if_pos (by omega)]
        have hm2 : ((m : Int) % 2) = 0 := by have := HM.out; omega
        have f0 : (x == 0) = false := by simpa using x0
        have f1 : (x == 1) = false := by simpa using x1
        have f3 : (x == 3) = false := by simpa using x3
        have f6 : (x == 6) = false := by simpa using x6
        clear x0 x1 x3 x6
        go_wp2_with fail
        go_quiet (fail)
        go_wp2_with fail
        go_roundw
        case rel => exact ⟨i + 1, by omega, by go_num, below_drawn HB.out _⟩
        case measure => simp [intOf]; omega
      · have hd : dirL (u : Int) = 1 := by rw [dirL, if_neg (by omega)]
        have hm2 : ((m : Int) % 2) = 0 := by have := HM.out; omega
        go_wp2_with fail
        go_quiet ((first | (go_at_call 19; with_reducible exact quiet_same (rdir8_any _ _))))
        go_wp2_with fail
        go_roundw
        case rel => exact ⟨i + 1, by omega, by go_num, below_drawn HB.out _⟩
        case measure => simp [intOf]; omega
      · have hd : dirL (u : Int) = 1 := by rw [dirL, if_neg (by omega)]
        have hm2 : ((m : Int) % 2) = 1 := by have := HM.out; omega
        go_wp2_with fail
        go_quiet ((first | (go_at_call 19; with_reducible exact quiet_same (rdir8_any _ _))))
        go_wp2_with fail
        go_roundw
        case rel => exact ⟨i + 1, by omega, by go_num, below_drawn HB.out _⟩
        case measure => simp [intOf]; omega
      · have hd : dirL (u : Int) = 1 := by rw [dirL, if_neg (by omega)]
        have hm2 : ((m : Int) % 2) = 0 := by have := HM.out; omega
        go_wp2_with fail
        go_quiet (fail)
        go_wp2_with fail
        go_roundw
        case rel => exact ⟨i + 1, by omega, by go_num, below_drawn HB.out _⟩
        case measure => simp [intOf]; omega
      · have hd : dirL (u : Int) = 1 := by rw [dirL, if_neg (by omega)]
        have hm2 : ((m : Int) % 2) = 0 := by have := HM.out; omega
        go_wp2_with fail
        go_quiet (fail)
        go_wp2_with fail
        go_roundw
        case rel => exact ⟨i + 1, by omega, by go_num, below_drawn HB.out _⟩
        case measure => simp [intOf]; omega
      · have hd : dirL (u : Int) = 1 := by rw [dirL, if_neg (by omega)]
        have hm2 : ((m : Int) % 2) = 1 := by have := HM.out; omega
        have f0 : (x == 0) = false := by simpa using x0
        have f1 : (x == 1) = false := by simpa using x1
        have f3 : (x == 3) = false := by simpa using x3
        have f6 : (x == 6) = false := by simpa using x6
        clear x0 x1 x3 x6
        go_wp2_with fail
        go_quiet (fail)
        go_wp2_with fail
        go_roundw
        case rel => exact ⟨i + 1, by omega, by go_num, below_drawn HB.out _⟩
        case measure => simp [intOf]; omega
    · obtain rfl : i = l.length := by omega
      go_wp2
      go_ret
      exact ⟨rfl, below_then B2.out HB.out⟩

set_option maxHeartbeats 1000000 in
theorem walk_long (w : World) (A : Option Addr) (l : List Int) (c : Nat) (hl : l.length ≤ 9223372036854775807) (hh : 500 < l.length) (u : Int) :
    Calls Try.prog 5 #[.slice A l.length c, .int .u8 u] w fun e w' => e = .returned (.bool true) ∧ Below w.heap.size w w' := by
  go_enter Try.func5, Try.ntmps5
  go_wp2_with fail
  refine (nalive_any w).mono ?_
  rintro e w1 ⟨rfl, b1⟩
  have B1 := Lib.hid b1
  have D1 := Lib.hid b1
  clear b1
  go_wp2
  go_ret
  exact ⟨rfl, B1.out⟩

theorem walk (w : World) (A : Option Addr) (l : List Int) (c : Nat) (hc : l.length ≤ c) (hm : c ≤ maxLen) (h : Lies w w.heap.size A (ints .i64 l)) (_ : ∀ n ∈ l, (Lit.int .i64 n).wf = true) (u : Int) (hu : (Lit.int .u8 u).wf = true) :
    Calls Try.prog 5 #[.slice A l.length c, .int .u8 u] w fun e w' => e = .returned (.bool true) ∧ Below w.heap.size w w' := by
  unfold maxLen at hm
  have hb := bounds_u8 hu
  obtain ⟨z, rfl⟩ : ∃ z : Nat, u = z := ⟨u.toNat, by omega⟩
  by_cases hh : 500 < l.length
  · exact walk_long w A l c (by omega) hh _
  · exact walk_ok w A l c (by omega) h z (by omega)
-- WRAP
theorem spec : LawSpec Rows.neutralLevelsSpec 2 := ⟨rfl, fun H ds h => by
  match ds, h with
  | [d0, d1], _ => rfl⟩
theorem params_ok : ∀ t ∈ Try.f5.params.toList, Try.prog.readableRec t = true ∧ t < Try.prog.types.size := by
  rw [Try.params5]
  intro t ht
  simp only [List.mem_cons, List.mem_nil_iff, or_false] at ht
  rcases ht with rfl | rfl
  all_goals exact ⟨by kernel_rfl, of_decide_eq_true (by kernel_rfl)⟩

theorem contract (H : Type) (enc : TypeId × Value → H) (W : World) (base : Nat) (args : Array Value) (ds gs : List (DataW H)) (before : List MemPlace)
    (hval : ∀ (j : Nat) t v, Try.f5.params[j]? = some t → args[j]? = some v → Value.okWide Try.prog W .any base t v)
    (hW : DataW.Whole enc Try.prog Try.f5.params.toList Rows.neutralLevelsSpec.vars false W args.toList ds gs before) :
    Calls Try.prog 5 args W fun e W' => ∃ v, e = .returned v ∧ Rows.neutralLevelsSpec.post enc Try.prog Try.f5 false true false false W args v W' := by
  have hW' := hW
  obtain ⟨p, q, hA0, hV, rfl, hfz, hnd⟩ := hW
  have hA : DataW.TrodAll enc Try.prog W 0 (fun _ => true) true Try.f5.params.toList args.toList ds p := hA0
  rw [Try.params5] at hA hval
  obtain ⟨v0, vs0, d0, ds0, p0, q0, hargs, rfl, rfl, h0, r0⟩ := trodAll_cons hA
  obtain ⟨v1, vs1, d1, ds1, p1, q1, rfl, rfl, rfl, h1, r1⟩ := trodAll_cons r0
  obtain ⟨rfl, rfl, rfl⟩ := trodAll_nil r1
  obtain rfl : args = #[v0, v1] := by cases args; simp_all
  obtain ⟨A0, l0, c0, rfl, hc0, hm0, hl0, wf0⟩ := open_list Try.underlying22 Try.underlying3 (by kernel_rfl) (hval 0 22 v0 rfl rfl) h0
  obtain ⟨a1, rfl, rfl, rfl, w1⟩ := open_int Try.underlying5 (hval 1 5 v1 rfl rfl) h1
  exact (walk W A0 l0 c0 hc0 hm0 hl0 wf0 a1 w1).mono fun e W' ⟨he, hg⟩ => ⟨_, he, law_post spec (by rw [Try.params5]; rfl) (by kernel_rfl) params_ok (by kernel_rfl) Try.underlying4 hW' hg⟩

theorem own : ownKnob Try.prog.godebug = none := by kernel_rfl
set_option maxRecDepth 100000 in
theorem lifted (os : Os) (started : os.Started) (H : Type) (enc : TypeId × Value → H) :
    ReturnsInHanded {} Try.checked os 5 .any (Rows.neutralLevelsSpec.pre6 enc Try.prog Try.f5 Rows.neutralLevelsRow.domain false) (Rows.neutralLevelsSpec.post enc Try.prog Try.f5 false true false false) := by
  refine returnsInHanded_of_change (C := Try.checked) own started (by kernel_rfl) Try.func5
    (ChangeSpec.witness6 (enc := enc) (C := Try.checked) false ⟨#[], #[.slice none 0 0, .int .u8 0], []⟩ 8 (by kernel_rfl) (by kernel_rfl) (by kernel_rfl) (by kernel_rfl)) ?_
  intro W base args ds gs before hval hW _ _
  exact contract H enc W base args ds gs before hval hW
theorem said : Rows.NeutralLevelsSaid :=
  OpenClaim.holds_of_wide 5 Try.f5 rfl rfl rfl rfl rfl rfl rfl ⟨rfl, rfl, rfl, rfl, rfl⟩ rfl rfl rfl rfl rfl (by kernel_rfl) Try.func5 (by kernel_rfl)
    (of_decide_eq_true (by kernel_rfl)) (by unfold Func.isWrapper; first | (rw [if_pos (by decide +kernel)]; kernel_rfl) | (rw [if_neg (by decide +kernel)]; exact ⟨rfl, rfl⟩))
    (fun os started H enc _ => lifted os started H enc)
end Go.Proofs.Ytlibmbocfmjjgaa.lawLevels
