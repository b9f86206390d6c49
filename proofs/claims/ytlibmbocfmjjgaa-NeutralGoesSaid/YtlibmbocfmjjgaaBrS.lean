/- Layer 10: the document's Same at the same pairs. -/
import Derived.Test.YtlibmbocfmjjgaaPC
import Derived.Test.YtlibmbocfmjjgaaHeld
import Derived.Test.YtlibmbocfmjjgaaSame
namespace Go.Proofs.Ytlibmbocfmjjgaa
open Go.RowKit

theorem eq_pr (x y : Int) (w : World) : (Op.equalIn 10000 38 (.agg #[.int .i64 x, .int .i64 y]) (.agg #[.int .i64 x, .int .i64 y])).run Try.prog w = .ok true w := by
  have u3 := Try.underlying3
  have a3 := Try.isAgg3
  have z3 := Try.sizeOf3
  rw [show (10000 : Nat) = 9999 + 1 from rfl, Op.equalIn]
  simp only [Sem.run_bind, run_underlying Try.underlying38, Result.andThen_ok]
  simp only [Std.Legacy.Range.forIn_eq_forIn_range', Std.Legacy.Range.size, Nat.sub_zero, Nat.add_sub_cancel, Nat.div_one, List.range'_succ, List.range'_zero, List.forIn_cons, List.forIn_nil]
  go_simp
set_option maxHeartbeats 2000000 in
theorem rsame10_any (A : Option Addr) (c : Nat) (P : List (Int × Int)) (A' : Option Addr) (c' : Nat) (w : World) (h : Lies w w.heap.size A (prC P)) (h' : Lies w w.heap.size A' (prC P)) (hl : P.length ≤ 1000000) :
    Calls Try.prog 11 #[.slice A P.length c, .slice A' P.length c'] w fun e w' => e = .returned (.bool true) ∧ Below w.heap.size w w' := by
  have H := Lib.hid h
  have H' := Lib.hid h'
  clear h h'
  go_enter Try.func11, Try.ntmps11
  go_wp2
  go_loopw [5] (fun i wr => ∃ k : Nat, k ≤ P.length ∧ i = .int .i64 k ∧ Below w.heap.size w wr) (fun i _ => P.length - (intOf i).toNat)
  case atStart => exact ⟨0, by omega, rfl, Below.refl _ _⟩
  case round =>
    obtain ⟨k, hk, rfl, hb⟩ := hrel
    have HB := Lib.hid hb
    clear hb
    by_cases hlt : k < P.length
    · obtain ⟨g, off, hA, hg, p0, p1⟩ := prC_at (Lies.up H.out HB.out) hlt
      obtain ⟨g', off', hA', hg', q0, q1⟩ := prC_at (Lies.up H'.out HB.out) hlt
      subst hA hA'
      have b0 : (0 : Int) ≤ (k : Int) := by omega
      have b1 : (k : Int) < (P.length : Int) := by omega
      obtain ⟨x, hx⟩ : ∃ x, P[k].1 = x := ⟨_, rfl⟩
      obtain ⟨y, hy⟩ : ∃ x, P[k].2 = x := ⟨_, rfl⟩
      rw [hx] at p0 q0
      rw [hy] at p1 q1
      clear hx hy
      have hk0 : wr.drew.cell? ⟨g, off + k * 2, none⟩ = some (.int .i64 x) ∧ wr.drew.cell? ⟨g, off + k * 2 + 1, none⟩ = some (.int .i64 y) ∧ wr.drew.cell? ⟨g', off' + k * 2, none⟩ = some (.int .i64 x) ∧ wr.drew.cell? ⟨g', off' + k * 2 + 1, none⟩ = some (.int .i64 y) := ⟨p0, p1, q0, q1⟩
      have heq := fun u => eq_pr x y u
      clear p0 p1 q0 q1
      go_wp2_with fail
      refine wp_region_E (S := fun w' => w'.cell? ⟨g, off + k * 2, none⟩ = some (.int .i64 x) ∧ w'.cell? ⟨g, off + k * 2 + 1, none⟩ = some (.int .i64 y) ∧ w'.cell? ⟨g', off' + k * 2, none⟩ = some (.int .i64 x) ∧ w'.cell? ⟨g', off' + k * 2 + 1, none⟩ = some (.int .i64 y)) [] (by kernel_rfl) (hk0) (fun hHeld hZ => ?_)
      refine' eT 0 rfl (fun _ _ _ h => h) (Or.inl ⟨by rfl, fun u hu => ?_⟩) hHeld hZ fun gZ => ?_
      rotate_left
      · (try dsimp only at hu); go_simp; try with_reducible rfl
      clear hZ; have hZ := gZ; clear gZ
      try simp only [Act.put,ZA,ZB,ZD,ZE,ZF]
      refine' eT 1 rfl (fun _ _ _ h => h) (Or.inl ⟨by rfl, fun u hu => ?_⟩) hHeld hZ fun gZ => ?_
      rotate_left
      · (try dsimp only at hu); go_simp; try with_reducible rfl
      clear hZ; have hZ := gZ; clear gZ
      try simp only [Act.put,ZA,ZB,ZC,ZD,ZE,ZF]
      refine' eT 2 rfl (fun _ _ _ h => h) (Or.inl ⟨by rfl, fun u hu => ?_⟩) hHeld hZ fun gZ => ?_
      rotate_left
      · (try dsimp only at hu); go_simp; try with_reducible rfl
      clear hZ; have hZ := gZ; clear gZ
      try simp only [Act.put,ZA,ZB,ZC,ZD,ZE,ZF]
      refine' eT 3 rfl (fun _ _ _ h => h) (Or.inl ⟨by rfl, fun u hu => ?_⟩) hHeld hZ fun gZ => ?_
      rotate_left
      · (try dsimp only at hu); go_simp; try with_reducible rfl
      clear hZ; have hZ := gZ; clear gZ
      try simp only [Act.put,ZA,ZB,ZC,ZD,ZE,ZF]
      refine' eT 4 rfl (fun _ _ _ h => h) (Or.inl ⟨by rfl, fun u hu => ?_⟩) hHeld hZ fun gZ => ?_
      rotate_left
      · (try dsimp only at hu); go_simp; try with_reducible rfl
      clear hZ; have hZ := gZ; clear gZ
      try simp only [Act.put,ZA,ZB,ZC,ZD,ZE,ZF]
      refine' eT 5 rfl (fun _ _ _ h => h) (Or.inl ⟨by rfl, fun u hu => ?_⟩) hHeld hZ fun gZ => ?_
      rotate_left
      · (try dsimp only at hu); go_simp; try with_reducible rfl
      clear hZ; have hZ := gZ; clear gZ
      try simp only [Act.put,ZA,ZB,ZC,ZD,ZE,ZF]
      refine' eT 6 rfl (fun _ _ _ h => h) (Or.inl ⟨by rfl, fun u hu => ?_⟩) hHeld hZ fun gZ => ?_
      rotate_left
      · (try dsimp only at hu); go_simp; try with_reducible rfl
      clear hZ; have hZ := gZ; clear gZ
      try simp only [Act.put,ZA,ZB,ZC,ZD,ZE,ZF]
      refine' eT 7 rfl (fun _ _ _ h => h) (Or.inl ⟨by rfl, fun u hu => ?_⟩) hHeld hZ fun gZ => ?_
      rotate_left
      · (try dsimp only at hu); go_simp; try with_reducible rfl
      clear hZ; have hZ := gZ; clear gZ
      try simp only [Act.put,ZA,ZB,ZC,ZD,ZE,ZF]
      refine' eT 8 rfl (fun _ _ _ h => h) (Or.inl ⟨by rfl, fun u hu => ?_⟩) hHeld hZ fun gZ => ?_
      rotate_left
      · (try dsimp only at hu); go_simp; try with_reducible rfl
      clear hZ; have hZ := gZ; clear gZ
      try simp only [Act.put,ZA,ZB,ZC,ZD,ZE,ZF]
      refine wpAnyE_done (by kernel_rfl) ?_ _
      clear hZ
      go_wp2_with fail
      go_roundw
      case rel => exact ⟨k + 1, by omega, by go_num, by exact below_same HB.out rfl rfl rfl rfl⟩
      case measure => simp [intOf]; omega
    · obtain rfl : k = P.length := by omega
      go_wp2
      go_ret
      exact ⟨rfl, HB.out⟩
end Go.Proofs.Ytlibmbocfmjjgaa
