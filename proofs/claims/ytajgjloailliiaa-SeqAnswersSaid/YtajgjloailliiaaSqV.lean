/- Layer 8: the fixed fact. -/
import Derived.Test.YtajgjloailliiaaSqP
namespace Go.Proofs.Ytajgjloailliiaa
open Go.RowKit

theorem alive_seqs : seqsI [0, 20, 1, 22, 9, 2] [0, 0, 1, 0, 0, 1] 0 = [⟨[0, 1, 3], 0, 0, 1⟩, ⟨[2], 1, 1, 1⟩, ⟨[5], 1, 1, 1⟩] := by
  have a1 : listsI [0, 20, 1, 22, 9, 2] [0, 0, 1, 0, 0, 1] = [[0, 1], [2], [3], [5]] := by decide +kernel
  have a2 : mt [0, 20, 1, 22, 9, 2] = [-1, 3, -1, 1, -1, -1] := by decide +kernel
  have g0 : goneN [0, 20, 1, 22, 9, 2] [-1, 3, -1, 1, -1, -1] [[0, 1], [2], [3], [5]] 4 0 = false := by decide +kernel
  have g1 : goneN [0, 20, 1, 22, 9, 2] [-1, 3, -1, 1, -1, -1] [[0, 1], [2], [3], [5]] 4 1 = false := by decide +kernel
  have g2 : goneN [0, 20, 1, 22, 9, 2] [-1, 3, -1, 1, -1, -1] [[0, 1], [2], [3], [5]] 4 2 = true := by decide +kernel
  have g3 : goneN [0, 20, 1, 22, 9, 2] [-1, 3, -1, 1, -1, -1] [[0, 1], [2], [3], [5]] 4 3 = false := by decide +kernel
  have c0 : chainI [0, 20, 1, 22, 9, 2] [-1, 3, -1, 1, -1, -1] [[0, 1], [2], [3], [5]] 0 = [0, 1, 3] := by decide +kernel
  have c1 : chainI [0, 20, 1, 22, 9, 2] [-1, 3, -1, 1, -1, -1] [[0, 1], [2], [3], [5]] 1 = [2] := by decide +kernel
  have c3 : chainI [0, 20, 1, 22, 9, 2] [-1, 3, -1, 1, -1, -1] [[0, 1], [2], [3], [5]] 3 = [5] := by decide +kernel
  have s0 : sqOf [0, 20, 1, 22, 9, 2] [0, 0, 1, 0, 0, 1] 0 [0, 1, 3] = ⟨[0, 1, 3], 0, 0, 1⟩ := by decide +kernel
  have s1 : sqOf [0, 20, 1, 22, 9, 2] [0, 0, 1, 0, 0, 1] 0 [2] = ⟨[2], 1, 1, 1⟩ := by decide +kernel
  have s3 : sqOf [0, 20, 1, 22, 9, 2] [0, 0, 1, 0, 0, 1] 0 [5] = ⟨[5], 1, 1, 1⟩ := by decide +kernel
  rw [seqsI, a1, a2]
  simp only [seqsN, List.length_cons, List.length_nil, Nat.zero_add, Nat.reduceAdd, g0, g1, g2, g3, c0, c1, c3, s0, s1, s3]
  rfl
theorem alive_runs : listsI [0, 9, 0, 10, 0] [0, 5, 0, 0, 0] = [[0, 2, 3], [4]] := by decide +kernel
theorem Lies.litAt {w : World} {e : TypeId} (cs : Array Value) (n : Nat) (h : w.heap.size = n) : Lies (w.alloc (.cells cs e)) (w.alloc (.cells cs e)).heap.size (some ⟨n, 0, none⟩) cs.toList := by
  subst h; exact Lies.litUp cs
/-- the fixed fact's own sequences, laid out one behind the other -/
theorem alive_want (w1 : World) : SeqsR ((((w1.alloc (.cells #[.int .i64 0, .int .i64 1, .int .i64 3] 3)).alloc (.cells #[.int .i64 2] 3)).alloc (.cells #[.int .i64 5] 3)).alloc
    (.cells #[.slice (some ⟨w1.heap.size, 0, none⟩) 3 3, .int .i64 0, .int .i64 0, .int .i64 1, .slice (some ⟨w1.heap.size + 1, 0, none⟩) 1 1, .int .i64 1, .int .i64 1, .int .i64 1, .slice (some ⟨w1.heap.size + 1 + 1, 0, none⟩) 1 1, .int .i64 1, .int .i64 1, .int .i64 1] 36))
    (some ⟨w1.heap.size + 1 + 1 + 1, 0, none⟩) [⟨[0, 1, 3], 0, 0, 1⟩, ⟨[2], 1, 1, 1⟩, ⟨[5], 1, 1, 1⟩] [.slice (some ⟨w1.heap.size, 0, none⟩) 3 3, .slice (some ⟨w1.heap.size + 1, 0, none⟩) 1 1, .slice (some ⟨w1.heap.size + 1 + 1, 0, none⟩) 1 1] := by
  have z1 := Lies.litUp (w := w1) (e := 3) #[.int .i64 0, .int .i64 1, .int .i64 3]
  have z2 := Lies.litAt (w := w1.alloc (.cells #[.int .i64 0, .int .i64 1, .int .i64 3] 3)) (e := 3) #[.int .i64 2] (w1.heap.size + 1) (by simp)
  have z3 := Lies.litAt (w := (w1.alloc (.cells #[.int .i64 0, .int .i64 1, .int .i64 3] 3)).alloc (.cells #[.int .i64 2] 3)) (e := 3) #[.int .i64 5] (w1.heap.size + 1 + 1) (by simp)
  have z4 := Lies.litAt (w := ((w1.alloc (.cells #[.int .i64 0, .int .i64 1, .int .i64 3] 3)).alloc (.cells #[.int .i64 2] 3)).alloc (.cells #[.int .i64 5] 3)) (e := 36) #[.slice (some ⟨w1.heap.size, 0, none⟩) 3 3, .int .i64 0, .int .i64 0, .int .i64 1, .slice (some ⟨w1.heap.size + 1, 0, none⟩) 1 1, .int .i64 1, .int .i64 1, .int .i64 1, .slice (some ⟨w1.heap.size + 1 + 1, 0, none⟩) 1 1, .int .i64 1, .int .i64 1, .int .i64 1] (w1.heap.size + 1 + 1 + 1) (by simp)
  have y1 := ((z1.up (below_alloc _ (.cells #[.int .i64 2] 3))).up (below_alloc _ (.cells #[.int .i64 5] 3))).up (below_alloc _ (.cells #[.slice (some ⟨w1.heap.size, 0, none⟩) 3 3, .int .i64 0, .int .i64 0, .int .i64 1, .slice (some ⟨w1.heap.size + 1, 0, none⟩) 1 1, .int .i64 1, .int .i64 1, .int .i64 1, .slice (some ⟨w1.heap.size + 1 + 1, 0, none⟩) 1 1, .int .i64 1, .int .i64 1, .int .i64 1] 36))
  have y2 := (z2.up (below_alloc _ (.cells #[.int .i64 5] 3))).up (below_alloc _ (.cells #[.slice (some ⟨w1.heap.size, 0, none⟩) 3 3, .int .i64 0, .int .i64 0, .int .i64 1, .slice (some ⟨w1.heap.size + 1, 0, none⟩) 1 1, .int .i64 1, .int .i64 1, .int .i64 1, .slice (some ⟨w1.heap.size + 1 + 1, 0, none⟩) 1 1, .int .i64 1, .int .i64 1, .int .i64 1] 36))
  have y3 := z3.up (below_alloc _ (.cells #[.slice (some ⟨w1.heap.size, 0, none⟩) 3 3, .int .i64 0, .int .i64 0, .int .i64 1, .slice (some ⟨w1.heap.size + 1, 0, none⟩) 1 1, .int .i64 1, .int .i64 1, .int .i64 1, .slice (some ⟨w1.heap.size + 1 + 1, 0, none⟩) 1 1, .int .i64 1, .int .i64 1, .int .i64 1] 36))
  refine ⟨rfl, z4, fun j h1 h2 => ?_⟩
  match j, h1 with
  | 0, _ => exact ⟨_, _, rfl, y1⟩
  | 1, _ => exact ⟨_, _, rfl, y2⟩
  | 2, _ => exact ⟨_, _, rfl, y3⟩
set_option maxRecDepth 20000 in
set_option maxHeartbeats 1000000 in
theorem qalive_any (w : World) : Calls Try.prog 6 #[] w fun e w' => e = .returned (.bool true) ∧ Below w.heap.size w w' := by
  go_enter Try.func6, Try.ntmps6
  go_wp2_with fail
  refine (sof_any _ [0, 20, 1, 22, 9, 2] _ _ [0, 0, 1, 0, 0, 1] _ 0 _ (Lies.up (Lies.litUp (w := w) (e := 3) #[.int .i64 0, .int .i64 20, .int .i64 1, .int .i64 22, .int .i64 9, .int .i64 2]) (below_alloc _ _)) (Lies.second _ #[.int .i64 0, .int .i64 0, .int .i64 1, .int .i64 0, .int .i64 0, .int .i64 1]) (by decide) (by decide)).mono ?_
  rintro e w1 ⟨A1, c1, vs1, rfl, s1, b1⟩
  rw [alive_seqs] at s1 ⊢
  have B1 := Lib.hid (below_then (below_then (below_alloc w _) (below_alloc _ _)) b1)
  have S1 := Lib.hid s1
  clear s1 b1
  go_wp2_with fail
  have W1 := Lib.hid (alive_want w1)
  obtain ⟨wa, hwa⟩ : ∃ u, (((w1.alloc (.cells #[.int .i64 0, .int .i64 1, .int .i64 3] 3)).alloc (.cells #[.int .i64 2] 3)).alloc (.cells #[.int .i64 5] 3)).alloc
    (.cells #[.slice (some ⟨w1.heap.size, 0, none⟩) 3 3, .int .i64 0, .int .i64 0, .int .i64 1, .slice (some ⟨w1.heap.size + 1, 0, none⟩) 1 1, .int .i64 1, .int .i64 1, .int .i64 1, .slice (some ⟨w1.heap.size + 1 + 1, 0, none⟩) 1 1, .int .i64 1, .int .i64 1, .int .i64 1] 36) = u := ⟨_, rfl⟩
  have BA : Hid (Below w1.heap.size w1 wa) := Lib.hid (by
    rw [← hwa]
    exact below_then (below_then (below_then (below_alloc _ _) (below_alloc _ _)) (below_alloc _ _)) (below_alloc _ _))
  have hz : w1.heap.size + 1 + 1 + 1 + 1 = wa.heap.size := by rw [← hwa]; simp
  rw [hwa] at W1 ⊢
  rw [hz]
  clear hwa hz
  have hr := sruns_any _ [0, 9, 0, 10, 0] 5 _ [0, 5, 0, 0, 0] 5 _ ((Lies.litUp (w := wa) (e := 3) #[.int .i64 0, .int .i64 9, .int .i64 0, .int .i64 10, .int .i64 0]).up (below_alloc _ _)) (Lies.second (e := 3) _ #[.int .i64 0, .int .i64 5, .int .i64 0, .int .i64 0, .int .i64 0]) (by decide) (by decide)
  rw [alive_runs] at hr
  refine hr.mono ?_
  clear hr
  rintro e w2 ⟨A2, c2, rfl, p2, b2⟩
  have BW := Lib.hid (below_then (below_then (below_alloc wa (.cells #[.int .i64 0, .int .i64 9, .int .i64 0, .int .i64 10, .int .i64 0] 3)) (below_alloc _ _)) b2)
  have B2 := Lib.hid (below_then BA.out BW.out)
  have W2 := Lib.hid (W1.out.up BW.out)
  have S2 := Lib.hid (S1.out.up B2.out)
  have P2 := Lib.hid p2
  clear p2 b2
  go_wp2_with fail
  refine (rsame8_any A1 c1 [⟨[0, 1, 3], 0, 0, 1⟩, ⟨[2], 1, 1, 1⟩, ⟨[5], 1, 1, 1⟩] vs1 _ _ [⟨[0, 1, 3], 0, 0, 1⟩, ⟨[2], 1, 1, 1⟩, ⟨[5], 1, 1, 1⟩] _ w2 S2.out W2.out (by decide) (by decide) (by decide)).mono ?_
  rintro e w3 ⟨rfl, b3⟩
  rw [decide_eq_true (rfl : ([⟨[0, 1, 3], 0, 0, 1⟩, ⟨[2], 1, 1, 1⟩, ⟨[5], 1, 1, 1⟩] : List Sq) = [⟨[0, 1, 3], 0, 0, 1⟩, ⟨[2], 1, 1, 1⟩, ⟨[5], 1, 1, 1⟩])]
  have B3 := Lib.hid (below_then B2.out b3)
  have S3 := Lib.hid (S2.out.up b3)
  have P3 := Lib.hid (Lies.up P2.out b3)
  clear b3
  go_wp2_with fail
  refine (sright_any A1 c1 [⟨[0, 1, 3], 0, 0, 1⟩, ⟨[2], 1, 1, 1⟩, ⟨[5], 1, 1, 1⟩] vs1 6 w3 S3.out (by decide) (by decide) (by decide)).mono ?_
  rintro e w4 ⟨rfl, b4⟩
  rw [show rightI (([⟨[0, 1, 3], 0, 0, 1⟩, ⟨[2], 1, 1, 1⟩, ⟨[5], 1, 1, 1⟩] : List Sq).map (·.pl)) 6 = true by decide +kernel]
  have B4 := Lib.hid (below_then B3.out b4)
  have S4 := Lib.hid (S3.out.up b4)
  have P4 := Lib.hid (Lies.up P3.out b4)
  clear b4
  go_wp2_with fail
  refine (sright_any A1 c1 [⟨[0, 1, 3], 0, 0, 1⟩, ⟨[2], 1, 1, 1⟩, ⟨[5], 1, 1, 1⟩] vs1 5 w4 S4.out (by decide) (by decide) (by decide)).mono ?_
  rintro e w5 ⟨rfl, b5⟩
  rw [show rightI (([⟨[0, 1, 3], 0, 0, 1⟩, ⟨[2], 1, 1, 1⟩, ⟨[5], 1, 1, 1⟩] : List Sq).map (·.pl)) 5 = false by decide +kernel]
  have B5 := Lib.hid (below_then B4.out b5)
  obtain ⟨g, off, hA2, hg, r0, r1⟩ := PairsR.at' (j := 0) (Lies.up P4.out b5) (by decide)
  subst hA2
  have q0 : w5.cell? ⟨g, off, none⟩ = some (.int .i64 0) := r0
  have q1 : w5.cell? ⟨g, off + 1, none⟩ = some (.int .i64 3) := r1
  have heq := fun u => eq_pair 0 3 u
  clear b5 r0 r1
  go_wp2_with fail
  refine (sdir_any 3 w5).mono ?_
  rintro e w6 ⟨rfl, b6⟩
  rw [show dirL 3 = 1 by decide]
  have B6 := Lib.hid (below_then B5.out b6)
  clear b6
  go_wp2_with fail
  refine (sdir_any (-1) w6).mono ?_
  rintro e w7 ⟨rfl, b7⟩
  rw [show dirL (-1) = 1 by decide]
  have B7 := Lib.hid (below_then B6.out b7)
  clear b7
  go_wp2_with fail
  refine (sdir_any 0 w7).mono ?_
  rintro e w8 ⟨rfl, b8⟩
  rw [show dirL 0 = 0 by decide]
  have B8 := Lib.hid (below_then B7.out b8)
  clear b8
  go_wp2_with fail
  go_ret
  exact ⟨rfl, below_then B1.out B8.out⟩
end Go.Proofs.Ytajgjloailliiaa
