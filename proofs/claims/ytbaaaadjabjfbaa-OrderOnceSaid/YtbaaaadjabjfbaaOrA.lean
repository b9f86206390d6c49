/- Layer 14: a row of a list of one's own, turned round: slices.Reverse, and the document's turn. -/
import Derived.Test.YtbaaaadjabjfbaaOrP
import Derived.Test.YtbaaaadjabjfbaaCells
import Derived.Test.YtbaaaadjabjfbaaSame
namespace Go.Proofs.Ytbaaaadjabjfbaa
open Go.RowKit

/-- what stands at a place of a row's middle -/
theorem Row.mid {w : World} {B g c : Nat} {pre l post : List Int} (h : Row w B 3 g c (ints .i64 (pre ++ l ++ post))) {j : Nat} {x : Int} (hj : j < l.length) (e : l[j]? = some x) : w.cell? ⟨g, pre.length + j, none⟩ = some (.int .i64 x) := by
  obtain ⟨h2, h3⟩ := List.getElem?_eq_some_iff.1 (mid_get (pre := pre) (post := post) hj e)
  rw [h.cell (j := pre.length + j) (by simpa [ints] using h2)]
  simp only [ints, List.getElem_map, h3]
theorem Row.midSet {w : World} {B g c : Nat} {pre l post : List Int} (h : Row w B 3 g c (ints .i64 (pre ++ l ++ post))) {j : Nat} (x : Int) (hj : j < l.length) : Row (w.setCell ⟨g, pre.length + j, none⟩ (.int .i64 x)) B 3 g c (ints .i64 (pre ++ l.set j x ++ post)) := by
  have := h.set (pre.length + j) (.int .i64 x)
  rwa [ints_set, mid_set hj] at this

/-- a row of its own was turned: what a call leaves -/
def Turned (w : World) (B g c : Nat) (xs : List Int) (ed : Ending) (w' : World) : Prop := ed = .returned (.tuple #[]) ∧ Row w' B 3 g c (ints .i64 xs) ∧ Below B w w'

set_option maxHeartbeats 2000000 in
theorem reverse_any (B g c cc : Nat) (pre l post : List Int) (A : Option Addr) (w : World) (hA : 0 < l.length → A = some ⟨g, pre.length, none⟩) (hlen : (pre ++ l ++ post).length ≤ 1000000) (hR : Row w B 3 g c (ints .i64 (pre ++ l ++ post))) :
    Calls Try.prog 24 #[.slice A l.length cc] w (Turned w B g c (pre ++ l.reverse ++ post)) := by
  have HA := Lib.hid hA
  have HR0 : Hid (Row w B 3 g c (ints .i64 (pre ++ revK l 0 ++ post))) := Lib.hid (by rw [revK_zero]; exact hR)
  have hn : l.length ≤ 1000000 := by simp at hlen; omega
  have hp : pre.length ≤ 1000000 := by simp at hlen; omega
  have hw0 : IntKind.i64.wrap ((l.length : Int) - 1) = (l.length : Int) - 1 := IntWalk.i64_in _ (by omega)
  obtain ⟨z, hz⟩ : ∃ z, pre ++ l.reverse ++ post = z := ⟨_, rfl⟩
  have HZ := Lib.hid hz
  rw [hz]
  clear hA hR hlen hz
  go_enter Try.func24, Try.ntmps24
  go_wp2_with fail
  go_loopw [2, 3] (fun iv jv wr => ∃ k : Nat, k + k ≤ l.length ∧ iv = .int .i64 k ∧ jv = .int .i64 ((l.length : Int) - 1 - k) ∧ Hid (Row wr B 3 g c (ints .i64 (pre ++ revK l k ++ post))) ∧ Hid (Below B w wr)) (fun iv _ _ => l.length - (intOf iv).toNat)
  case atStart => exact ⟨0, by omega, rfl, by simp, HR0, Lib.hid (Below.refl _ _)⟩
  case round =>
    obtain ⟨k, hk, rfl, rfl, HR, HB⟩ := hrel
    by_cases hlt : k + k + 1 < l.length
    · obtain ⟨m, hm⟩ : ∃ m, l.length - 1 - k = m := ⟨_, rfl⟩
      have hmz : (l.length : Int) - 1 - (k : Int) = (m : Int) := by omega
      rw [hmz]
      have c1 := Row.mid HR.out (j := k) (by rw [revK_length]; omega) (revK_low l hlt)
      have c2 := Row.mid HR.out (j := m) (by rw [revK_length]; omega) (hm ▸ revK_high l hlt)
      have HS := Lib.hid (revK_succ l hlt)
      rw [hm] at HS
      obtain ⟨x, hx⟩ : ∃ x, l.getD k 0 = x := ⟨_, rfl⟩
      obtain ⟨y, hy⟩ : ∃ y, l.getD m 0 = y := ⟨_, rfl⟩
      rw [hx] at c1 HS
      rw [hy] at c2 HS
      have f1 := HR.out.free (pre.length + k)
      have R1 := Lib.hid (Row.midSet HR.out y (j := k) (by rw [revK_length]; omega))
      obtain ⟨u3, c3⟩ : ∃ u, (wr.setCell ⟨g, pre.length + k, none⟩ (.int .i64 y)).cell? ⟨g, pre.length + m, none⟩ = some u := ⟨_, R1.out.cell (j := pre.length + m) (by simp [revK_length]; omega)⟩
      have f3 : (wr.setCell ⟨g, pre.length + k, none⟩ (.int .i64 y)).frozen? ⟨g, pre.length + m, none⟩ = false := R1.out.free _
      obtain rfl := HA.out (by omega)
      have b0 : (0 : Int) ≤ (k : Int) := by omega
      have b1 : (k : Int) < (l.length : Int) := by omega
      have b2 : (0 : Int) ≤ (m : Int) := by omega
      have b3 : (m : Int) < (l.length : Int) := by omega
      have b4 : (k : Int) < (m : Int) := by omega
      have HM := Lib.hid hm
      have HL := Lib.hid hlt
      have hw1 : IntKind.i64.wrap ((m : Int) - 1) = (l.length : Int) - 1 - ((k + 1 : Nat) : Int) := by rw [IntWalk.i64_in _ (by omega)]; omega
      clear hm hmz hx hy hlt
      go_wp2_with fail
      go_region
      have R8 := (Row.midSet R1.out x (j := m) (by rw [List.length_set, revK_length]; have := HL.out; have := HM.out; omega)).drewN 1
      rw [HS.out] at R8
      have B8 := below_drawn (Row.setB (Row.setB HB.out HR.out (pre.length + k) (.int .i64 y)) R1.out (pre.length + m) (.int .i64 x)) 1
      clear c1 c2 c3 f1 f3 R1
      change Row ((wr.setCell ⟨g, pre.length + k, none⟩ (.int .i64 y)).setCell ⟨g, pre.length + m, none⟩ (.int .i64 x)).drew _ _ _ _ _ at R8
      change Below _ _ ((wr.setCell ⟨g, pre.length + k, none⟩ (.int .i64 y)).setCell ⟨g, pre.length + m, none⟩ (.int .i64 x)).drew at B8
      generalize ((wr.setCell ⟨g, pre.length + k, none⟩ (.int .i64 y)).setCell ⟨g, pre.length + m, none⟩ (.int .i64 x)).drew = w7 at R8 B8 ⊢
      have HR8 := Lib.hid R8
      have HB8 := Lib.hid B8
      clear R8 B8
      go_wp2_with fail
      go_roundw
      case rel =>
        have := HL.out
        exact ⟨k + 1, by omega, by go_num, rfl, HR8, HB8⟩
      case measure => have := HL.out; simp [intOf]; omega
    · have b4 : ¬ (k : Int) < (l.length : Int) - 1 - (k : Int) := by omega
      have HE := Lib.hid (revK_end l (k := k) (by omega))
      go_wp2_with fail
      refine bodyPost_ret (v := .tuple #[]) (results_none rfl _ _ _) rfl ?_
      exact ⟨rfl, by rw [← HZ.out, ← HE.out]; exact HR.out, HB.out⟩

set_option maxHeartbeats 2000000 in
/-- the document's -/
theorem rturn_any (B g c n : Nat) (pre l post : List Int) (w : World) (hl : (pre ++ l ++ post).length = n) (hlen : n ≤ 1000000) (hR : Row w B 3 g c (ints .i64 (pre ++ l ++ post))) :
    Calls Try.prog 21 #[.slice (some ⟨g, 0, none⟩) n c, .int .i64 (pre.length : Int), .int .i64 ((pre.length + l.length : Nat) : Int)] w (Turned w B g c (pre ++ l.reverse ++ post)) := by
  have HR0 : Hid (Row w B 3 g c (ints .i64 (pre ++ revK l 0 ++ post))) := Lib.hid (by rw [revK_zero]; exact hR)
  obtain ⟨a, ha⟩ : ∃ a, pre.length = a := ⟨_, rfl⟩
  have HPA := Lib.hid ha
  have hn : a + l.length ≤ n := by rw [← ha, ← hl]; simp
  obtain ⟨z, hz⟩ : ∃ z, pre ++ l.reverse ++ post = z := ⟨_, rfl⟩
  have HZ := Lib.hid hz
  rw [hz, ha]
  clear hR hl hz ha
  go_enter Try.func21, Try.ntmps21
  go_wp2_with fail
  go_loopw [1, 2] (fun iv jv wr => ∃ k : Nat, k + k ≤ l.length ∧ iv = .int .i64 ((a + k : Nat) : Int) ∧ jv = .int .i64 ((a : Int) + (l.length : Int) - k) ∧ Hid (Row wr B 3 g c (ints .i64 (pre ++ revK l k ++ post))) ∧ Hid (Below B w wr)) (fun iv _ _ => a + l.length - (intOf iv).toNat)
  case atStart => exact ⟨0, by omega, rfl, by simp, HR0, Lib.hid (Below.refl _ _)⟩
  case round =>
    obtain ⟨k, hk, rfl, rfl, HR, HB⟩ := hrel
    by_cases hlt : k + k + 1 < l.length
    · obtain ⟨m, hm⟩ : ∃ m, l.length - 1 - k = m := ⟨_, rfl⟩
      have hmz : (a : Int) + (l.length : Int) - (k : Int) = ((a + m : Nat) : Int) + 1 := by omega
      rw [hmz]
      have c1 := Row.mid HR.out (j := k) (by rw [revK_length]; omega) (revK_low l hlt)
      have c2 := Row.mid HR.out (j := m) (by rw [revK_length]; omega) (hm ▸ revK_high l hlt)
      have HS := Lib.hid (revK_succ l hlt)
      rw [hm] at HS
      obtain ⟨x, hx⟩ : ∃ x, l.getD k 0 = x := ⟨_, rfl⟩
      obtain ⟨y, hy⟩ : ∃ y, l.getD m 0 = y := ⟨_, rfl⟩
      rw [hx] at c1 HS
      rw [hy] at c2 HS
      have f1 := HR.out.free (pre.length + k)
      have R1 := Lib.hid (Row.midSet HR.out y (j := k) (by rw [revK_length]; omega))
      obtain ⟨u3, c3⟩ : ∃ u, (wr.setCell ⟨g, pre.length + k, none⟩ (.int .i64 y)).cell? ⟨g, pre.length + m, none⟩ = some u := ⟨_, R1.out.cell (j := pre.length + m) (by simp [revK_length]; omega)⟩
      have f3 : (wr.setCell ⟨g, pre.length + k, none⟩ (.int .i64 y)).frozen? ⟨g, pre.length + m, none⟩ = false := R1.out.free _
      have R8 := (Row.midSet R1.out x (j := m) (by rw [List.length_set, revK_length]; omega)).drewN 1
      rw [HS.out] at R8
      have B8 := below_drawn (Row.setB (Row.setB HB.out HR.out (pre.length + k) (.int .i64 y)) R1.out (pre.length + m) (.int .i64 x)) 1
      rw [HPA.out] at c1 c2 f1 c3 f3 R8 B8
      have HR8 := Lib.hid R8
      have HB8 := Lib.hid B8
      clear R8 B8 R1
      have HM := Lib.hid hm
      have HL := Lib.hid hlt
      obtain ⟨i, hi⟩ : ∃ i, a + k = i := ⟨_, rfl⟩
      obtain ⟨j, hj⟩ : ∃ j, a + m = j := ⟨_, rfl⟩
      rw [hi] at c1 f1 c3 f3 HR8 HB8
      rw [hj] at c2 c3 f3 HR8 HB8
      rw [hi, hj]
      have b0 : (0 : Int) ≤ (i : Int) := by omega
      have b1 : (i : Int) < (n : Int) := by omega
      have b2 : (0 : Int) ≤ (j : Int) := by omega
      have b3 : (j : Int) < (n : Int) := by omega
      have b4 : (i : Int) < (j : Int) := by omega
      have hj6 : j < 1000000 := by omega
      have HI := Lib.hid hi
      have HJ := Lib.hid hj
      have hw1 : IntKind.i64.wrap ((j : Int) + 1 - 1) = (j : Int) := by rw [IntWalk.i64_in _ (by omega)]; omega
      clear hm hmz hx hy hlt hi hj
      go_wp2_with fail
      go_region
      have R8 := HR8.out
      have B8 := HB8.out
      clear c1 c2 c3 f1 f3 HR8 HB8
      change Row ((wr.setCell ⟨g, i, none⟩ (.int .i64 y)).setCell ⟨g, j, none⟩ (.int .i64 x)).drew _ _ _ _ _ at R8
      change Below _ _ ((wr.setCell ⟨g, i, none⟩ (.int .i64 y)).setCell ⟨g, j, none⟩ (.int .i64 x)).drew at B8
      generalize ((wr.setCell ⟨g, i, none⟩ (.int .i64 y)).setCell ⟨g, j, none⟩ (.int .i64 x)).drew = w7 at R8 B8 ⊢
      have HR8 := Lib.hid R8
      have HB8 := Lib.hid B8
      clear R8 B8
      go_wp2_with fail
      go_roundw
      case rel =>
        have := HL.out
        have := HI.out
        have := HJ.out
        have := HM.out
        refine ⟨k + 1, by omega, by rw [← HI.out]; go_num, ?_, HR8, HB8⟩
        congr 1
        omega
      case measure => have := HL.out; have := HI.out; simp [intOf]; omega
    · have b4 : ¬ ((a + k : Nat) : Int) < (a : Int) + (l.length : Int) - (k : Int) - 1 := by omega
      have HE := Lib.hid (revK_end l (k := k) (by omega))
      go_wp2_with fail
      refine bodyPost_ret (v := .tuple #[]) (results_none rfl _ _ _) rfl ?_
      exact ⟨rfl, by rw [← HZ.out, ← HE.out]; exact HR.out, HB.out⟩
end Go.Proofs.Ytbaaaadjabjfbaa
