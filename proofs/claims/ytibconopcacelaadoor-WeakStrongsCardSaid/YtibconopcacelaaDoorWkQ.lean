/- Layer 9: the program's rule, known, Of and Rule. -/
import Derived.Test.YtibconopcacelaaDoorWkT
namespace Go.Proofs.YtibconopcacelaaDoor
open Go.RowKit

theorem ex3 (l : List Int) : (l.map fun k => if k ∈ ([2] : List Int) then (1 : Int) else k) = rW3 l := by
  rw [rW3]
  apply List.map_congr_left
  intro k _
  simp
theorem ex6 (l : List Int) : (l.map fun k => if k ∈ ([4, 5, 7] : List Int) then (13 : Int) else k) = rW6 l := by
  rw [rW6]
  apply List.map_congr_left
  intro k _
  simp

set_option maxRecDepth 20000 in
set_option maxHeartbeats 4000000 in
theorem rule_own (s : Int) (n : Nat) (h1 : 1 ≤ n) (h7 : n ≤ 7) : Ruled 13 [.int .i64 s, .int .i64 (n : Int)] (fun l => rulePlain l s n) := by
  intro B c A l w hl hB hO
  have HO := Lib.hid hO
  have HBB := Lib.hid hB
  clear hB
  show Calls _ _ #[.slice A l.length c, .int .i64 s, .int .i64 (n : Int)] _ _
  have h : n = 1 ∨ n = 2 ∨ n = 3 ∨ n = 4 ∨ n = 5 ∨ n = 6 ∨ n = 7 := by omega
  clear h1 h7
  rcases h with rfl | rfl | rfl | rfl | rfl | rfl | rfl
  · clear hO
    go_enter Tryd.func13, Tryd.ntmps13
    go_wp2_with fail
    refine (marks_any s B c A l w hl HBB.out HO.out).mono ?_
    rintro e w1 ⟨rfl, o1, b1⟩
    have O1 := Lib.hid o1
    have B1 := Lib.hid b1
    clear o1 b1
    go_wp2
    exact bodyPost_end (results_none rfl _ _ _) rfl ⟨rfl, O1.out, B1.out⟩
  · clear hO
    go_enter Tryd.func13, Tryd.ntmps13
    go_wp2_with fail
    refine (numbers_any s 2 6 B c A l w hl HBB.out HO.out).mono ?_
    rintro e w1 ⟨rfl, o1, b1⟩
    have O1 := Lib.hid o1
    have B1 := Lib.hid b1
    clear o1 b1
    go_wp2
    exact bodyPost_end (results_none rfl _ _ _) rfl ⟨rfl, O1.out, B1.out⟩
  · have hap := own_fresh hO (Nat.le_refl _)
    have H := exchange_any 1 [2] 1 w.heap.size #[.int .i64 2] rfl (by decide) B c A l (w.alloc (.cells #[.int .i64 2] 3)) hl (by have := HBB.out; simp; omega) (hO.alloc _) (World.alloc_heap_new w _) hap
    rw [ex3] at H
    have HX := Lib.hid H
    clear hO H hap
    go_enter Tryd.func13, Tryd.ntmps13
    go_wp2_with fail
    refine HX.out.mono ?_
    rintro e w1 ⟨rfl, o1, b1⟩
    have O1 := Lib.hid o1
    have B1 := Lib.hid (((Below.refl B w).alloc HBB.out _).trans b1)
    clear o1 b1
    go_wp2
    exact bodyPost_end (results_none rfl _ _ _) rfl ⟨rfl, O1.out, B1.out⟩
  · clear hO
    go_enter Tryd.func13, Tryd.ntmps13
    go_wp2_with fail
    refine (separators_any B c A l w hl HBB.out HO.out).mono ?_
    rintro e w1 ⟨rfl, o1, b1⟩
    have O1 := Lib.hid o1
    have B1 := Lib.hid b1
    clear o1 b1
    go_wp2
    exact bodyPost_end (results_none rfl _ _ _) rfl ⟨rfl, O1.out, B1.out⟩
  · clear hO
    go_enter Tryd.func13, Tryd.ntmps13
    go_wp2_with fail
    refine (terminators_any B c A l w hl HBB.out HO.out).mono ?_
    rintro e w1 ⟨rfl, o1, b1⟩
    have O1 := Lib.hid o1
    have B1 := Lib.hid b1
    clear o1 b1
    go_wp2
    exact bodyPost_end (results_none rfl _ _ _) rfl ⟨rfl, O1.out, B1.out⟩
  · have hap := own_fresh hO (Nat.le_refl _)
    have H := exchange_any 13 [4, 5, 7] 3 w.heap.size #[.int .i64 4, .int .i64 5, .int .i64 7] rfl (by decide) B c A l (w.alloc (.cells #[.int .i64 4, .int .i64 5, .int .i64 7] 3)) hl (by have := HBB.out; simp; omega) (hO.alloc _) (World.alloc_heap_new w _) hap
    rw [ex6] at H
    have HX := Lib.hid H
    clear hO H hap
    go_enter Tryd.func13, Tryd.ntmps13
    go_wp2_with fail
    refine HX.out.mono ?_
    rintro e w1 ⟨rfl, o1, b1⟩
    have O1 := Lib.hid o1
    have B1 := Lib.hid (((Below.refl B w).alloc HBB.out _).trans b1)
    clear o1 b1
    go_wp2
    exact bodyPost_end (results_none rfl _ _ _) rfl ⟨rfl, O1.out, B1.out⟩
  · clear hO
    go_enter Tryd.func13, Tryd.ntmps13
    go_wp2_with fail
    refine (numbers_any s 0 0 B c A l w hl HBB.out HO.out).mono ?_
    rintro e w1 ⟨rfl, o1, b1⟩
    have O1 := Lib.hid o1
    have B1 := Lib.hid b1
    clear o1 b1
    go_wp2
    exact bodyPost_end (results_none rfl _ _ _) rfl ⟨rfl, O1.out, B1.out⟩

set_option maxHeartbeats 1000000 in
theorem wknown_any (A : Option Addr) (l : List Int) (c : Nat) (w : World) (hT : ClsTabs w) (h : Lies w w.heap.size A (ints .i64 l)) (hl : l.length ≤ 1000000) :
    Calls Tryd.prog 12 #[.slice A l.length c] w fun ed w' => ∃ A2 c2, ed = .returned (.slice A2 l.length c2) ∧ Own w' w.heap.size 3 (.slice A2 l.length c2) (ints .i64 (plainL l)) ∧ Below w.heap.size w w' := by
  have H := Lib.hid h
  have HT := Lib.hid hT
  have HC := Lib.hid fun (xs : Array Value) (u : World) => call_ok (N := 20) Tryd.func20 (by kernel_rfl) (by kernel_rfl) xs u
  clear h hT
  go_enter Tryd.func12, Tryd.ntmps12
  go_wp2_with fail
  refine (clone_any A l c w H.out hl).mono ?_
  rintro e w1 ⟨v1, rfl, o1, b1⟩
  obtain ⟨A1, c1, rfl, -, -, -⟩ := o1.form
  have hx : (ints .i64 l).length = l.length := by simp [ints]
  rw [hx] at o1 ⊢
  have HE := each_own 20 [] HC.out w.heap.size c1 A1 l (plainL l) (by simp [plainL]) (fun _ _ => True) w1 hl o1 trivial
    (fun k hk wr _ hbel ho => (known1_any k (l.getD k 0) wr (HT.out.below (b1.trans hbel) HT.out.big)).mono fun ed w' ⟨h1, h2⟩ => by
      subst h2
      rw [map_at plainK hk] at h1
      exact ⟨h1, trivial, ho, Below.refl _ _⟩)
    (fun _ _ _ _ _ _ _ => trivial)
  have HX := Lib.hid HE
  have B1 := Lib.hid b1
  clear HE o1 b1 hx
  go_wp2_with fail
  refine HX.out.mono ?_
  rintro e w2 ⟨rfl, -, o2, b2⟩
  have O2 := Lib.hid o2
  have B2 := Lib.hid (B1.out.trans b2)
  clear o2 b2
  go_wp2
  go_ret
  exact ⟨A1, c1, rfl, O2.out, B2.out⟩

set_option maxHeartbeats 1000000 in
theorem wrule_any (A : Option Addr) (l : List Int) (c : Nat) (sos : Int) (n : Nat) (w : World) (hT : ClsTabs w) (h : Lies w w.heap.size A (ints .i64 l)) (hl : l.length ≤ 1000) (h1 : 1 ≤ n) (h7 : n ≤ 7) :
    Calls Tryd.prog 10 #[.slice A l.length c, .int .i64 sos, .int .i64 (n : Int)] w fun ed w' => Rowed w w.heap.size 3 (ints .i64 (ruleI l sos n)) ed w' := by
  have H := Lib.hid h
  have HT := Lib.hid hT
  have HR := Lib.hid (rule_own (sideK sos) n h1 h7)
  clear h hT h1 h7
  go_enter Tryd.func10, Tryd.ntmps10
  go_wp2_with fail
  refine (wknown_any A l c w HT.out H.out (by omega)).mono ?_
  rintro e w1 ⟨A1, c1, rfl, o1, b1⟩
  have HX := Lib.hid (HR.out w.heap.size c1 A1 (plainL l) w1 (by simp [plainL]; omega) b1.size (by rw [plainL, List.length_map]; exact o1))
  have B1 := Lib.hid b1
  clear o1 b1
  go_wp2_with fail
  refine (wside_any sos w1).mono ?_
  rintro e wq ⟨rfl, rfl⟩
  go_wp2_with fail
  have hx : (plainL l).length = l.length := by simp [plainL]
  rw [hx] at HX
  clear hx
  refine HX.out.mono ?_
  rintro e w2 ⟨rfl, o2, b2⟩
  have O2 := Lib.hid o2
  have B2 := Lib.hid (B1.out.trans b2)
  clear o2 b2
  go_wp2
  go_ret
  exact ⟨_, rfl, O2.out, B2.out⟩

/-- the first n rules, on classes alone -/
def chainI (l : List Int) (sos : Int) : Nat → List Int
  | 0 => plainL l
  | n + 1 => rulePlain (chainI l sos n) (sideK sos) (n + 1)
theorem chainI_length (l : List Int) (sos : Int) : ∀ n, (chainI l sos n).length = l.length
  | 0 => by simp [chainI, plainL]
  | n + 1 => by rw [chainI, rulePlain_length, chainI_length]
theorem chainI_all (l : List Int) (sos : Int) : chainI l sos 7 = ofI l sos := (ofI_eq l sos).1.symm

set_option maxHeartbeats 1000000 in
theorem wof_any (A : Option Addr) (l : List Int) (c : Nat) (sos : Int) (w : World) (hT : ClsTabs w) (h : Lies w w.heap.size A (ints .i64 l)) (hl : l.length ≤ 1000) :
    Calls Tryd.prog 8 #[.slice A l.length c, .int .i64 sos] w fun ed w' => Rowed w w.heap.size 3 (ints .i64 (ofI l sos)) ed w' := by
  have H := Lib.hid h
  have HT := Lib.hid hT
  clear h hT
  go_enter Tryd.func8, Tryd.ntmps8
  go_wp2_with fail
  refine (wknown_any A l c w HT.out H.out (by omega)).mono ?_
  rintro e w1 ⟨A1, c1, rfl, o1, b1⟩
  have O1 := Lib.hid o1
  have B1 := Lib.hid b1
  clear o1 b1
  go_wp2_with fail
  go_loopw [6] (fun nv wr => ∃ n : Nat, n ≤ 7 ∧ nv = .int .i64 ((n + 1 : Nat) : Int) ∧ Hid (Own wr w.heap.size 3 (.slice A1 l.length c1) (ints .i64 (chainI l sos n))) ∧ Hid (Below w.heap.size w wr)) (fun nv _ => 8 - (intOf nv).toNat)
  case atStart => exact ⟨0, by omega, rfl, O1, B1⟩
  case round =>
    obtain ⟨n, hn, rfl, HO, HB⟩ := hrel
    by_cases hlt : n < 7
    · have hR := rule_own (sideK sos) (n + 1) (by omega) (by omega) w.heap.size c1 A1 (chainI l sos n) wr (by rw [chainI_length]; omega) HB.out.size (by rw [chainI_length]; exact HO.out)
      rw [chainI_length] at hR
      change Calls _ _ _ _ (fun ed w' => _ ∧ Own w' _ _ _ (ints .i64 (chainI l sos (n + 1))) ∧ _) at hR
      have HX := Lib.hid hR
      clear hR
      have b1 : decide ((((n + 1 : Nat) : Int)) ≤ 7) = true := by simp; omega
      have b0 : (((n + 1 : Nat) : Int)) ≤ 7 := by omega
      have b2 : IntKind.i64.wrap (((n + 1 : Nat) : Int) + 1) = ((n + 1 + 1 : Nat) : Int) := by rw [IntWalk.i64_in _ (by omega)]; rfl
      generalize hz : ((n + 1 : Nat) : Int) = z at *
      have HZ := Lib.hid hz
      clear hz
      go_wp2_with fail
      refine (wside_any sos wr).mono ?_
      rintro e wq ⟨rfl, rfl⟩
      go_wp2_with fail
      refine HX.out.mono ?_
      rintro e w2 ⟨rfl, o2, b2'⟩
      have O2 := Lib.hid o2
      have B2 := Lib.hid (HB.out.trans b2')
      clear o2 b2'
      go_wp2
      go_roundw
      case rel => exact ⟨n + 1, by omega, rfl, O2, B2⟩
      case measure => rw [← HZ.out]; simp [intOf]; omega
    · obtain rfl : n = 7 := by omega
      go_wp2
      go_ret
      exact ⟨_, rfl, by have := HO.out; rw [chainI_all] at this; exact this, HB.out⟩
end Go.Proofs.YtibconopcacelaaDoor
