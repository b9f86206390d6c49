/- Layer 10: the program's mark. -/
import Derived.Test.YtoiolgpbecgfkaaBrB
namespace Go.Proofs.Ytoiolgpbecgfkaa
open Go.RowKit

set_option maxHeartbeats 4000000 in
theorem mark_any (g c : Nat) (l : List Int) (A' : Option Addr) (first : List Int) (c' : Nat) (i : Nat) (s : Int) (B : Nat) (w : World) (h : Row w B 3 g c (ints .i64 l)) (h' : Lies w B A' (ints .i64 first)) (hl : l.length ≤ 1000000) (he : first.length = l.length) (hi : i < l.length) :
    Calls Try.prog 30 #[.slice (some ⟨g, 0, none⟩) l.length c, .slice A' first.length c', .int .i64 (i : Int), .int .i64 s] w
      fun ed w' => ed = .returned (.tuple #[]) ∧ Row w' B 3 g c (ints .i64 (turnL l first i s)) ∧ Below B w w' ∧ w.grownBy w' (some g) := by
  have H := Lib.hid h
  have H' := Lib.hid h'
  have HE := Lib.hid he
  have hin := h.inside
  obtain ⟨u0, hc0⟩ : ∃ u, w.cell? ⟨g, i, none⟩ = some u := ⟨_, h.cell (by simpa using hi)⟩
  have hf0 := h.free i
  have b0 : (0 : Int) ≤ (i : Int) := by omega
  have b1 : (i : Int) < (l.length : Int) := by omega
  clear h h' he
  go_enter Try.func30, Try.ntmps30
  go_wp2_with (first
    | (refine store_row intsT w B _ _ g i c .i64 s (ints .i64 l) w rfl rfl rfl rfl rfl H.out (by simpa using hi) (Below.refl _ _) ?_; intro w1 r1 b1' g1; rw [ints_set, ← setR_none l i s, setR_next l i i s (Nat.le_refl _)] at r1; have R1 := Lib.hid r1; have B1 := Lib.hid b1'; have G1 := Lib.hid g1; clear r1 b1' g1)
    | fail)
  go_loopw [2] (fun kv wr => ∃ m : Nat, i + 1 + m ≤ l.length ∧ kv = .int .i64 ((i + 1 + m : Nat) : Int) ∧ Hid (∀ j (h : j < m), first.getD (i + 1 + j) 0 = 8) ∧ Row wr B 3 g c (ints .i64 (setR l i (i + 1 + m) s)) ∧ Below B w wr ∧ w.grownBy wr (some g)) (fun kv _ => l.length - (intOf kv).toNat)
  case atStart => exact ⟨0, by omega, by go_num, Lib.hid (fun j h => absurd h (by omega)), R1.out, B1.out, G1.out⟩
  case round =>
    obtain ⟨m, hm, rfl, HM, hr, hb, hg⟩ := hrel
    have HR := Lib.hid hr
    have HB := Lib.hid hb
    have HG := Lib.hid hg
    obtain ⟨k, hk⟩ : ∃ k, i + 1 + m = k := ⟨_, rfl⟩
    have hki : i < k := by omega
    rw [hk] at hm HR ⊢
    have HK := Lib.hid hk
    clear hr hb hg hk
    by_cases hlt : k < l.length
    · have hlf : k < first.length := by have := HE.out; omega
      obtain ⟨p, hp, _, hc⟩ := (H'.out.below HB.out).int hlf
      subst hp
      obtain ⟨x, hx⟩ : ∃ x, first[k] = x := ⟨_, rfl⟩
      rw [hx] at hc
      have HX : Hid (first.getD k 0 = x) := Lib.hid (by simp [hlf, hx])
      have d0 : (0 : Int) ≤ (k : Int) := by omega
      have d1 : (k : Int) < (l.length : Int) := by omega
      have d2 : (k : Int) < (first.length : Int) := by omega
      clear hx
      rcases h8 : (x == 8) with _ | _
      · have HS : Hid (turnL l first i s = setR l i k s) := Lib.hid (by
          have h9 := HK.out
          rw [turnL, marksB_stop first i m (by omega) HM.out (.inr (by rw [h9, HX.out]; simpa using h8)), h9])
        go_wp2_with fail
        (try simp only [Exit.inBlock, Exit.then])
        exact bodyPost_end (results_none rfl _ _ _) rfl ⟨rfl, by rw [HS.out]; exact HR.out, HB.out, HG.out⟩
      · obtain ⟨u1, hc1⟩ : ∃ u, wr.cell? ⟨g, k, none⟩ = some u := ⟨_, HR.out.cell (by simp [setR_length]; omega)⟩
        have hf1 := HR.out.free k
        go_wp2_with (first
          | (refine store_row intsT wr B _ _ g k c .i64 s (ints .i64 (setR l i k s)) w rfl rfl rfl rfl rfl HR.out (by simp [setR_length]; omega) HB.out ?_; intro w2 r2 b2' g2; rw [ints_set, setR_next l i k s (by omega)] at r2; have R2 := Lib.hid r2; have B2 := Lib.hid b2'; have G2 := Lib.hid g2; clear r2 b2' g2)
          | fail)
        go_roundw
        case rel =>
          have h9 := HK.out
          refine ⟨m + 1, by omega, by rw [show i + 1 + (m + 1) = k + 1 by omega]; go_num, Lib.hid (fun j hj => ?_), by rw [show i + 1 + (m + 1) = k + 1 by omega]; exact R2.out, B2.out, HG.out.trans G2.out⟩
          by_cases hjm : j = m
          · subst hjm; rw [h9, HX.out]; simpa using h8
          · exact HM.out j (by omega)
        case measure => simp [intOf]; omega
    · have HS : Hid (turnL l first i s = setR l i k s) := Lib.hid (by
        have h9 := HK.out
        have h10 := HE.out
        rw [turnL, marksB_stop first i m (by omega) HM.out (.inl (by omega)), h9])
      go_wp2_with fail
      (try simp only [Exit.inBlock, Exit.then])
      exact bodyPost_end (results_none rfl _ _ _) rfl ⟨rfl, by rw [HS.out]; exact HR.out, HB.out, HG.out⟩
end Go.Proofs.Ytoiolgpbecgfkaa
