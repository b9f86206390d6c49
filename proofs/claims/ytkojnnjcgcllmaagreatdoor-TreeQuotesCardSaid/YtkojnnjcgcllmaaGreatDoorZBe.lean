/- TreeQuotes: a quoted text's tree is its characters, one behind the other, each alone; of up to 90. Conditions: none (the table's cells are tied to the program's text). -/
import Derived.Test.YtkojnnjcgcllmaaGreatDoorRows
import Derived.Deep.DeepCutAuto
import Derived.IntWalk
import Derived.Test.YtkojnnjcgcllmaaGreatDoorZB2
import Derived.Test.YtkojnnjcgcllmaaGreatDoorZB12
import Derived.Test.YtkojnnjcgcllmaaGreatDoorZB19
namespace Go.Proofs.YtkojnnjcgcllmaaGreatDoor.lawQuotes
open Go.ChangeShapes Go.WideShapes Go.ChangeAt Go.RowKit
structure KidsOf (w : World) (g off : Nat) (l : List Int) : Prop where
 lt : g < w.heap.size
 kid : ∀ (i : Nat) (h : i < l.length), ∃ A c, w.cell? ⟨g, off + i * 5, none⟩ = some (.int .i64 2) ∧ w.cell? ⟨g, off + i * 5 + 1, none⟩ = some (.slice A (rsL l[i]).length c) ∧ Lies w w.heap.size A (prC (rsL l[i]))
theorem KidsOf.up {w w' : World} {g off : Nat} {l : List Int} (h : KidsOf w g off l) (hb : Below w.heap.size w w') : KidsOf w' g off l :=
 ⟨Nat.lt_of_lt_of_le h.lt hb.size, fun i hi => by
  obtain ⟨A, c, h1, h2, h3⟩ := h.kid i hi
  exact ⟨A, c, by rw [hb.cell (p := ⟨g, off + i * 5, none⟩) h.lt]; exact h1, by rw [hb.cell (p := ⟨g, off + i * 5 + 1, none⟩) h.lt]; exact h2, h3.up hb⟩⟩
theorem ch_form {w : World} {P : Nat → Prop} {c : Int} {v : Array Value} (h : Treed w P (chN c) v) : ∃ A n A' n', v = #[.int .i64 2, .slice A (rsL c).length n, .int .i64 0, .int .i64 0, .slice A' 0 n'] ∧ Lies w w.heap.size A (prC (rsL c)) := by
 unfold chN at h
 obtain ⟨A, n, A', n', vs, hv, hr, -⟩ := h.inv
 rw [ch_ranges] at hv hr
 exact ⟨A, n, A', n', hv, hr.lies⟩
theorem kids_join {w : World} {P : Nat → Prop} {l : List Int} {v : Array Value} (h : Treed w P (.mk 3 0 0 [] (l.map chN)) v) (h0 : 0 < l.length) : ∃ A n g off c', v = #[.int .i64 3, .slice A 0 n, .int .i64 0, .int .i64 0, .slice (some ⟨g, off, none⟩) l.length c'] ∧ KidsOf w g off l := by
 obtain ⟨A, n, A', n', vs, rfl, -, hl, hk, ht⟩ := h.inv
 rw [List.length_map] at hl
 have h5 : ∀ v ∈ vs, v.size = 5 := fun v hv => by
  obtain ⟨i, hi, rfl⟩ := List.getElem_of_mem hv
  exact (ht i hi (by simp; omega)).size
 obtain ⟨g, off, rfl, hg, -⟩ := kid_at hk h5 (fun _ _ _ => rfl) (i := 0) (by omega)
 refine ⟨A, n, g, off, n', by rw [List.length_map]; rfl, hg, fun i hi => ?_⟩
 obtain ⟨g', off', he, -, hc⟩ := kid_at hk h5 (fun _ _ _ => rfl) (i := i) (by omega)
 injection he with he
 injection he with e1 e2
 subst e1 e2
 have hi' : i < vs.length := by omega
 have hti := ht i hi' (by simp; omega)
 rw [List.getElem_map] at hti
 obtain ⟨A1, n1, A2, n2, hv, hr⟩ := ch_form hti
 have c0 := hc 0 (by decide)
 have c1 := hc 1 (by decide)
 rw [hv] at c0 c1
 exact ⟨A1, n1, c0, c1, hr⟩
-- WALK
set_option maxRecDepth 20000 in
set_option maxHeartbeats 16000000 in
theorem walk_ok (w : World) (hFT : FoTabs w) (A : Option Addr) (l : List Int) (c : Nat) (hl : l.length ≤ 90) (h : Lies w w.heap.size A (ints .i64 l)) :
 Calls Tryz.prog 6 #[.slice A l.length c] w fun e w' => e = .returned (.bool true) ∧ Below w.heap.size w w' := by
 have HFT := Lib.hid hFT
 have L0 := Lib.hid h
 have HP := Lib.hid (fun (u : World) (A : Option Addr) (c : Nat) hT h hc => parse_right u hT A (quoteI l) c 0 (by decide) h hc (quoteT 0 l) (of_quote l (by omega)) (by rw [quoteT_length]; omega) (fault_quote _ l 0 3) (l.length + 1) 1 (quoteN l) [] (pat_quote l) (size_quote l (by omega)))
 have d1 : decide (90 < (l.length : Int)) = false := decide_eq_false (by omega)
 clear hFT h
 go_enter Tryz.func6, Tryz.ntmps6
 go_wp2_with fail
 refine (alive_any w HFT.out).mono ?_
 rintro e w1 ⟨rfl, b⟩
 have B1 := Lib.hid b
 have L1 := Lib.hid (L0.out.up b)
 clear b
 go_wp2_with fail
 refine (rquote15_any w1 A l c L1.out (by omega)).mono ?_
 rintro e w2 ⟨v, rfl, o, b⟩
 obtain ⟨A2, c2, hv, l2, hc2, -⟩ := o.form
 rw [show (ints .i64 (quoteI l)).length = (quoteI l).length by simp [ints]] at hv hc2
 subst hv
 have B2 := Lib.hid (below_then B1.out b)
 have L2 := Lib.hid (L1.out.up b)
 have HP2 := Lib.hid (HP.out w2 A2 c2 (HFT.out.below B2.out HFT.out.big) l2 hc2)
 clear o b l2 hc2
 go_wp2_with fail
 refine HP2.out.mono ?_
 rintro e w3 ⟨v3, rfl, t3, b⟩
 have B3 := Lib.hid (below_then B2.out b)
 have L3 := Lib.hid (L2.out.up b)
 clear b
 unfold quoteN at t3
 rcases l with _ | ⟨x0, _ | ⟨x1, r⟩⟩
 ·obtain ⟨A5, n5, A6, n6, vs, rfl, -⟩ := t3.inv
  have B4 := Lib.hid (B3.out.alloc B3.out.size (.cells #[.int .i64 1, .slice A5 0 n5, .int .i64 0, .int .i64 0, .slice A6 0 n6] 35))
  simp only [List.length_nil]
  go_wp2_with fail
  go_loopw [7] (fun iv wr => iv = .int .i64 0 ∧ Hid (Below w.heap.size w wr)) (fun _ _ => 0)
  case atStart => exact ⟨rfl, B4⟩
  case round =>
   obtain ⟨rfl, HB⟩ := hrel
   go_wp2_with fail
   go_ret
   exact ⟨rfl, HB.out⟩
 ·obtain ⟨A5, n5, A6, n6, rfl, l5⟩ := ch_form (show Treed w3 _ (chN x0) v3 from t3)
  obtain ⟨w4, hw4⟩ : ∃ u, (w3.alloc (.cells #[.int .i64 2, .slice A5 (rsL x0).length n5, .int .i64 0, .int .i64 0, .slice A6 0 n6] 35)).alloc (.cells #[.int .i64 2, .slice A5 (rsL x0).length n5, .int .i64 0, .int .i64 0, .slice A6 0 n6] 35) = u := ⟨_, rfl⟩
  have N4 : w3.grownBy w4 none := hw4 ▸ (grown_new w3 _ none).trans (grown_new _ _ none)
  have X4 : Box w4 (w3.heap.size + 1) #[.int .i64 2, .slice A5 (rsL x0).length n5, .int .i64 0, .int .i64 0, .slice A6 0 n6] 35 := by
   have := Box.new (w3.alloc (.cells #[.int .i64 2, .slice A5 (rsL x0).length n5, .int .i64 0, .int .i64 0, .slice A6 0 n6] 35)) #[.int .i64 2, .slice A5 (rsL x0).length n5, .int .i64 0, .int .i64 0, .slice A6 0 n6] 35
   rw [World.size_alloc] at this
   rw [← hw4]
   exact this
  have BN := below_row_none N4 (Nat.le_refl _)
  obtain ⟨g, hg⟩ : ∃ g, w3.heap.size + 1 = g := ⟨_, rfl⟩
  have KO : Hid (KidsOf w4 g 0 [x0]) := Lib.hid ⟨by rw [← hg]; exact X4.lt, fun i hi => by
   simp only [List.length_cons, List.length_nil] at hi
   obtain rfl : i = 0 := by omega
   rw [← hg]
   exact ⟨A5, n5, X4.cell (i := 0) rfl, X4.cell (i := 1) rfl, l5.up BN⟩⟩
  have LW : Hid (Lies w4 w4.heap.size A (ints .i64 [x0])) := Lib.hid (L3.out.up BN)
  have BW : Hid (Below w.heap.size w w4) := Lib.hid (below_then B3.out BN)
  subst hw4
  clear N4 X4 BN l5 t3
  obtain ⟨n, hn⟩ : ∃ n, [x0].length = n := ⟨_, rfl⟩
  have hn1 : n = 1 := by rw [← hn]; rfl
  have HN := Lib.hid hn
  have f1 : ((n : Int) == 1) = true := by simp; omega
  have f2 : ((1 : Int) != (n : Int)) = false := by simp; omega
  have f3 : ((n : Int) == 0) = false := by simp; omega
  have f4 : decide (1 < (n : Int)) = false := decide_eq_false (by omega)
  have f5 : (n == 1) = true := by simp; omega
  have f6 : (n == 0) = false := by simp; omega
  have f7 : decide (1 < n) = false := decide_eq_false (by omega)
  rw [hn]
  clear hn
  go_wp2_with fail
  obtain ⟨w4, hw4⟩ : ∃ u, (w3.alloc (.cells #[.int .i64 2, .slice A5 (rsL x0).length n5, .int .i64 0, .int .i64 0, .slice A6 0 n6] 35)).alloc (.cells #[.int .i64 2, .slice A5 (rsL x0).length n5, .int .i64 0, .int .i64 0, .slice A6 0 n6] 35) = u := ⟨_, rfl⟩
  rw [hw4] at KO LW BW ⊢
  clear hw4 hg
  go_loopw [7] (fun iv wr => ∃ k : Nat, k ≤ n ∧ iv = .int .i64 k ∧ Hid (Below w4.heap.size w4 wr)) (fun iv _ => n - (intOf iv).toNat)
  case atStart => exact ⟨0, by omega, rfl, Lib.hid (Below.refl _ _)⟩
  case round =>
   obtain ⟨k, hk, rfl, HB⟩ := hrel
   by_cases hlt : k < n
   ·have hlq : k < [x0].length := by rw [HN.out]; exact hlt
    obtain ⟨Ak, ck, m0, m1, lk⟩ := (KO.out.up HB.out).kid k hlq
    simp only [Nat.zero_add] at m0 m1
    obtain ⟨bq, oq, rfl, hbq, hqc⟩ := (LW.out.up HB.out).plainInts (by omega)
    have m2 := hqc k hlq
    have hgk := (KO.out.up HB.out).lt
    obtain ⟨x, hx⟩ : ∃ x, [x0][k] = x := ⟨_, rfl⟩
    rw [hx] at m1 m2 lk
    have hrh := rsL_has x
    obtain ⟨ins, hi⟩ : ∃ b, insB x = b := ⟨_, rfl⟩
    have HX : Hid ((decide (0 ≤ x) && decide (x ≤ topR)) = ins) := Lib.hid hi
    have HRS : Hid (rsL x = if ins = true then [(x, x)] else []) := Lib.hid (by unfold rsL; rw [hi])
    rw [hi] at hrh
    have k0 : (0 : Int) ≤ (k : Int) := by omega
    have k1 : (k : Int) < ((n : Nat) : Int) := by omega
    have HK : Hid (∀ u, Below wr.heap.size wr u → u.cell? ⟨g, k * 5, none⟩ = some (.int .i64 2) ∧ u.cell? ⟨g, k * 5 + 1, none⟩ = some (.slice Ak (rsL x).length ck) ∧ u.cell? ⟨bq, oq + k, none⟩ = some (.int .i64 x) ∧ Lies u u.heap.size Ak (prC (rsL x))) := Lib.hid fun u hu => by
     rw [hu.cell (p := ⟨g, k * 5, none⟩) hgk, hu.cell (p := ⟨g, k * 5 + 1, none⟩) hgk, hu.cell (p := ⟨bq, oq + k, none⟩) hbq]
     exact ⟨m0, m1, m2, lk.up hu⟩
    have HHS := Lib.hid (fun (u : World) (hu : Below wr.heap.size wr u) => trhas_any u Ak (rsL x) ck x (HK.out u hu).2.2.2 (by rw [HRS.out]; split <;> simp))
    rw [hrh] at HHS
    have k9 : (k : Int) < 1 := by omega
    clear hx hi hrh hbq hgk hqc m0 m1 lk
    go_upto_region 14 with fail
    go_cut [8] (fun v wx => v = .bool ins ∧ wr = wx)
    case first =>
     by_cases h0 : 0 ≤ x
     ·by_cases h1 : x ≤ 1114111
      ·have d2 : decide (0 ≤ x) = true := decide_eq_true h0
       have d3 : decide (x ≤ 1114111) = true := decide_eq_true h1
       have HE : Hid (true = ins) := Lib.hid (by rw [← HX.out]; unfold topR; rw [d2, d3]; rfl)
       clear h0 h1
       go_wp2_with fail
       go_meet
       exact ⟨by rw [HE.out], rfl⟩
      ·have d2 : decide (0 ≤ x) = true := decide_eq_true h0
       have d3 : decide (x ≤ 1114111) = false := decide_eq_false h1
       have HE : Hid (false = ins) := Lib.hid (by rw [← HX.out]; unfold topR; rw [d2, d3]; rfl)
       clear h0 h1
       go_wp2_with fail
       go_meet
       exact ⟨by rw [HE.out], rfl⟩
     ·have d2 : decide (0 ≤ x) = false := decide_eq_false h0
      have HE : Hid (false = ins) := Lib.hid (by rw [← HX.out, d2]; rfl)
      clear h0
      go_wp2_with fail
      go_meet
      exact ⟨by rw [HE.out], rfl⟩
    case rest =>
     obtain ⟨rfl, rfl⟩ := hcut
     cases ins
     ·have HRX : Hid (rsL x = []) := Lib.hid (by rw [HRS.out]; rfl)
      rw [HRX.out] at HK HHS
      have HSS : Hid (∀ u, Below wr.heap.size wr u → u.cell? ⟨g, k * 5, none⟩ = some (.int .i64 2) ∧ u.cell? ⟨g, k * 5 + 1, none⟩ = some (.slice Ak 0 ck) ∧ u.cell? ⟨bq, oq + k, none⟩ = some (.int .i64 x)) := Lib.hid fun u hu => ⟨(HK.out u hu).1, (HK.out u hu).2.1, (HK.out u hu).2.2.1⟩
      go_wp2_with fail
      refine wp_region_held_drew (S := fun u => u.cell? ⟨g, k * 5, none⟩ = some (.int .i64 2) ∧ u.cell? ⟨g, k * 5 + 1, none⟩ = some (.slice Ak 0 ck) ∧ u.cell? ⟨bq, oq + k, none⟩ = some (.int .i64 x)) (by kernel_rfl) (HSS.out _ (by exact below_same (Below.refl _ wr) rfl rfl rfl rfl)) (fun hHeld => ?_)
      refine' hY 0 ?_
      try simp only [Act.put,ZA,ZB,ZD,ZE,ZF]
      refine' hY 1 ?_
      try simp only [Act.put,ZA,ZB,ZC,ZD,ZE,ZF]
      refine' hY 2 ?_
      try simp only [Act.put,ZA,ZB,ZC,ZD,ZE,ZF]
      refine' hY 3 ?_
      try simp only [Act.put,ZA,ZB,ZC,ZD,ZE,ZF]
      refine' hY 4 ?_
      try simp only [Act.put,ZA,ZB,ZC,ZD,ZE,ZF]
      refine' hY 5 ?_
      try simp only [Act.put,ZA,ZB,ZC,ZD,ZE,ZF]
      refine' hY 6 ?_
      try simp only [Act.put,ZA,ZB,ZC,ZD,ZE,ZF]
      refine' hY 7 ?_
      try simp only [Act.put,ZA,ZB,ZC,ZD,ZE,ZF]
      refine' hY 8 ?_
      try simp only [Act.put,ZA,ZB,ZC,ZD,ZE,ZF]
      refine' hY 9 ?_
      try simp only [Act.put,ZA,ZB,ZC,ZD,ZE,ZF]
      refine' hY 10 ?_
      try simp only [Act.put,ZA,ZB,ZC,ZD,ZE,ZF]
      refine' hY 11 ?_
      try simp only [Act.put,ZA,ZB,ZC,ZD,ZE,ZF]
      refine' hY 12 ?_
      try simp only [Act.put,ZA,ZB,ZC,ZD,ZE,ZF]
      refine' hY 13 ?_
      try simp only [Act.put,ZA,ZB,ZC,ZD,ZE,ZF]
      refine' hY 14 ?_
      try simp only [Act.put,ZA,ZB,ZC,ZD,ZE,ZF]
      refine' hY 15 ?_
      try simp only [Act.put,ZA,ZB,ZC,ZD,ZE,ZF]
      refine' hY 17 ?_
      try simp only [Act.put,ZA,ZB,ZC,ZD,ZE,ZF]
      refine hA 16 fun K hK => ?_
      go_simp
      refine (HHS.out wr.drew (by exact below_same (Below.refl _ wr) rfl rfl rfl rfl)).mono ?_
      rintro e wh ⟨rfl, bh⟩
      have BH : Hid (Below wr.heap.size wr wh) := Lib.hid (below_then_drew bh)
      clear bh
      go_wp2_with fail
      refine hK.out _ _ (HSS.out _ BH.out) (fun hHeld => ?_)
      clear hK K
      try simp only [Act.put,ZA,ZB,ZC,ZD,ZE,ZF]
      refine' hY 18 ?_
      try simp only [Act.put,ZA,ZB,ZC,ZD,ZE,ZF]
      refine' hY 19 ?_
      try simp only [Act.put,ZA,ZB,ZC,ZD,ZE,ZF]
      refine' hY 20 ?_
      try simp only [Act.put,ZA,ZB,ZC,ZD,ZE,ZF]
      refine' hY 21 ?_
      try simp only [Act.put,ZA,ZB,ZC,ZD,ZE,ZF]
      refine' hY 22 ?_
      try simp only [Act.put,ZA,ZB,ZC,ZD,ZE,ZF]
      refine' hY 23 ?_
      try simp only [Act.put,ZA,ZB,ZC,ZD,ZE,ZF]
      refine' hY 24 ?_
      try simp only [Act.put,ZA,ZB,ZC,ZD,ZE,ZF]
      refine' hY 25 ?_
      try simp only [Act.put,ZA,ZB,ZC,ZD,ZE,ZF]
      refine hA 26 fun K hK => ?_
      go_simp
      refine hK.out _ _ (HSS.out _ BH.out) (fun hHeld => ?_)
      clear hK K
      try simp only [Act.put,ZA,ZB,ZC,ZD,ZE,ZF]
      refine' hY 27 ?_
      try simp only [Act.put,ZA,ZB,ZC,ZD,ZE,ZF]
      refine' hY 28 ?_
      try simp only [Act.put,ZA,ZB,ZC,ZD,ZE,ZF]
      refine' hY 29 ?_
      try simp only [Act.put,ZA,ZB,ZC,ZD,ZE,ZF]
      refine' hY 30 ?_
      try simp only [Act.put,ZA,ZB,ZC,ZD,ZE,ZF]
      refine' hY 31 ?_
      try simp only [Act.put,ZA,ZB,ZC,ZD,ZE,ZF]
      refine' hN 32 ?_
      try simp only [Act.put,ZA,ZB,ZC,ZD,ZE,ZF]
      refine' hN 33 ?_
      try simp only [Act.put,ZA,ZB,ZC,ZD,ZE,ZF]
      refine' hN 34 ?_
      try simp only [Act.put,ZA,ZB,ZC,ZD,ZE,ZF]
      refine' hN 35 ?_
      try simp only [Act.put,ZA,ZB,ZC,ZD,ZE,ZF]
      refine' hN 36 ?_
      try simp only [Act.put,ZA,ZB,ZC,ZD,ZE,ZF]
      refine' hN 37 ?_
      try simp only [Act.put,ZA,ZB,ZC,ZD,ZE,ZF]
      refine' hN 38 ?_
      try simp only [Act.put,ZA,ZB,ZC,ZD,ZE,ZF]
      refine' hN 39 ?_
      try simp only [Act.put,ZA,ZB,ZC,ZD,ZE,ZF]
      refine' hN 40 ?_
      try simp only [Act.put,ZA,ZB,ZC,ZD,ZE,ZF]
      refine' hN 41 ?_
      try simp only [Act.put,ZA,ZB,ZC,ZD,ZE,ZF]
      refine' hN 42 ?_
      try simp only [Act.put,ZA,ZB,ZC,ZD,ZE,ZF]
      refine' hN 43 ?_
      try simp only [Act.put,ZA,ZB,ZC,ZD,ZE,ZF]
      refine' hN 44 ?_
      try simp only [Act.put,ZA,ZB,ZC,ZD,ZE,ZF]
      refine' hN 45 ?_
      try simp only [Act.put,ZA,ZB,ZC,ZD,ZE,ZF]
      refine' hN 46 ?_
      try simp only [Act.put,ZA,ZB,ZC,ZD,ZE,ZF]
      refine' hN 47 ?_
      try simp only [Act.put,ZA,ZB,ZC,ZD,ZE,ZF]
      refine' hN 48 ?_
      try simp only [Act.put,ZA,ZB,ZC,ZD,ZE,ZF]
      refine' hN 49 ?_
      try simp only [Act.put,ZA,ZB,ZC,ZD,ZE,ZF]
      refine' hN 50 ?_
      try simp only [Act.put,ZA,ZB,ZC,ZD,ZE,ZF]
      refine' hN 51 ?_
      try simp only [Act.put,ZA,ZB,ZC,ZD,ZE,ZF]
      refine' hN 52 ?_
      try simp only [Act.put,ZA,ZB,ZC,ZD,ZE,ZF]
      refine' hN 53 ?_
      try simp only [Act.put,ZA,ZB,ZC,ZD,ZE,ZF]
      refine' hN 54 ?_
      try simp only [Act.put,ZA,ZB,ZC,ZD,ZE,ZF]
      refine' hN 55 ?_
      try simp only [Act.put,ZA,ZB,ZC,ZD,ZE,ZF]
      refine' hN 56 ?_
      try simp only [Act.put,ZA,ZB,ZC,ZD,ZE,ZF]
      refine' hN 57 ?_
      try simp only [Act.put,ZA,ZB,ZC,ZD,ZE,ZF]
      refine' hN 58 ?_
      try simp only [Act.put,ZA,ZB,ZC,ZD,ZE,ZF]
      refine' hN 59 ?_
      try simp only [Act.put,ZA,ZB,ZC,ZD,ZE,ZF]
      refine' hY 60 ?_
      try simp only [Act.put,ZA,ZB,ZC,ZD,ZE,ZF]
      refine' hY 61 ?_
      try simp only [Act.put,ZA,ZB,ZC,ZD,ZE,ZF]
      refine wpAnyH_done (by kernel_rfl) ?_ _
      have BN := Lib.hid (HB.out.trans (BH.out.mono HB.out.size))
      go_wp2_with fail
      go_roundw
      case rel => exact ⟨k + 1, by omega, by go_num, BN⟩
      case measure => simp [intOf]; omega
     ·have HRX : Hid (rsL x = [(x, x)]) := Lib.hid (by rw [HRS.out]; rfl)
      rw [HRX.out] at HK HHS
      obtain ⟨gr, orr, hAk, hgr, r0, r1⟩ := prC_at (HK.out wr (Below.refl _ _)).2.2.2 (j := 0) (by simp)
      simp only [Nat.zero_mul, Nat.add_zero, List.getElem_cons_zero] at r0 r1
      subst hAk
      have HR : Hid (∀ u, Below wr.heap.size wr u → u.cell? ⟨gr, orr, none⟩ = some (.int .i64 x) ∧ u.cell? ⟨gr, orr + 1, none⟩ = some (.int .i64 x)) := Lib.hid fun u hu => by
       rw [hu.cell (p := ⟨gr, orr, none⟩) hgr, hu.cell (p := ⟨gr, orr + 1, none⟩) hgr]
       exact ⟨r0, r1⟩
      clear r0 r1
      have HSS : Hid (∀ u, Below wr.heap.size wr u → u.cell? ⟨g, k * 5, none⟩ = some (.int .i64 2) ∧ u.cell? ⟨g, k * 5 + 1, none⟩ = some (.slice (some ⟨gr, orr, none⟩) 1 ck) ∧ u.cell? ⟨bq, oq + k, none⟩ = some (.int .i64 x) ∧ u.cell? ⟨gr, orr, none⟩ = some (.int .i64 x) ∧ u.cell? ⟨gr, orr + 1, none⟩ = some (.int .i64 x)) := Lib.hid fun u hu => ⟨(HK.out u hu).1, (HK.out u hu).2.1, (HK.out u hu).2.2.1, (HR.out u hu).1, (HR.out u hu).2⟩
      go_wp2_with fail
      refine wp_region_held_drew (S := fun u => u.cell? ⟨g, k * 5, none⟩ = some (.int .i64 2) ∧ u.cell? ⟨g, k * 5 + 1, none⟩ = some (.slice (some ⟨gr, orr, none⟩) 1 ck) ∧ u.cell? ⟨bq, oq + k, none⟩ = some (.int .i64 x) ∧ u.cell? ⟨gr, orr, none⟩ = some (.int .i64 x) ∧ u.cell? ⟨gr, orr + 1, none⟩ = some (.int .i64 x)) (by kernel_rfl) (HSS.out _ (by exact below_same (Below.refl _ wr) rfl rfl rfl rfl)) (fun hHeld => ?_)
      refine' hY 0 ?_
      try simp only [Act.put,ZA,ZB,ZD,ZE,ZF]
      refine' hY 1 ?_
      try simp only [Act.put,ZA,ZB,ZC,ZD,ZE,ZF]
      refine' hY 2 ?_
      try simp only [Act.put,ZA,ZB,ZC,ZD,ZE,ZF]
      refine' hY 3 ?_
      try simp only [Act.put,ZA,ZB,ZC,ZD,ZE,ZF]
      refine' hY 4 ?_
      try simp only [Act.put,ZA,ZB,ZC,ZD,ZE,ZF]
      refine' hY 5 ?_
      try simp only [Act.put,ZA,ZB,ZC,ZD,ZE,ZF]
      refine' hY 6 ?_
      try simp only [Act.put,ZA,ZB,ZC,ZD,ZE,ZF]
      refine' hY 7 ?_
      try simp only [Act.put,ZA,ZB,ZC,ZD,ZE,ZF]
      refine' hY 8 ?_
      try simp only [Act.put,ZA,ZB,ZC,ZD,ZE,ZF]
      refine' hY 9 ?_
      try simp only [Act.put,ZA,ZB,ZC,ZD,ZE,ZF]
      refine' hY 10 ?_
      try simp only [Act.put,ZA,ZB,ZC,ZD,ZE,ZF]
      refine' hY 11 ?_
      try simp only [Act.put,ZA,ZB,ZC,ZD,ZE,ZF]
      refine' hY 12 ?_
      try simp only [Act.put,ZA,ZB,ZC,ZD,ZE,ZF]
      refine' hY 13 ?_
      try simp only [Act.put,ZA,ZB,ZC,ZD,ZE,ZF]
      refine' hY 14 ?_
      try simp only [Act.put,ZA,ZB,ZC,ZD,ZE,ZF]
      refine' hY 15 ?_
      try simp only [Act.put,ZA,ZB,ZC,ZD,ZE,ZF]
      refine' hY 17 ?_
      try simp only [Act.put,ZA,ZB,ZC,ZD,ZE,ZF]
      refine hA 16 fun K hK => ?_
      go_simp
      refine (HHS.out wr.drew (by exact below_same (Below.refl _ wr) rfl rfl rfl rfl)).mono ?_
      rintro e wh ⟨rfl, bh⟩
      have BH : Hid (Below wr.heap.size wr wh) := Lib.hid (below_then_drew bh)
      clear bh
      go_wp2_with fail
      refine hK.out _ _ (HSS.out _ BH.out) (fun hHeld => ?_)
      clear hK K
      try simp only [Act.put,ZA,ZB,ZC,ZD,ZE,ZF]
      refine' hY 18 ?_
      try simp only [Act.put,ZA,ZB,ZC,ZD,ZE,ZF]
      refine' hY 19 ?_
      try simp only [Act.put,ZA,ZB,ZC,ZD,ZE,ZF]
      refine' hY 20 ?_
      try simp only [Act.put,ZA,ZB,ZC,ZD,ZE,ZF]
      refine' hY 21 ?_
      try simp only [Act.put,ZA,ZB,ZC,ZD,ZE,ZF]
      refine' hY 22 ?_
      try simp only [Act.put,ZA,ZB,ZC,ZD,ZE,ZF]
      refine' hY 23 ?_
      try simp only [Act.put,ZA,ZB,ZC,ZD,ZE,ZF]
      refine' hY 24 ?_
      try simp only [Act.put,ZA,ZB,ZC,ZD,ZE,ZF]
      refine' hY 25 ?_
      try simp only [Act.put,ZA,ZB,ZC,ZD,ZE,ZF]
      refine hA 26 fun K hK => ?_
      go_simp
      refine hK.out _ _ (HSS.out _ BH.out) (fun hHeld => ?_)
      clear hK K
      try simp only [Act.put,ZA,ZB,ZC,ZD,ZE,ZF]
      refine' hY 27 ?_
      try simp only [Act.put,ZA,ZB,ZC,ZD,ZE,ZF]
      refine' hY 28 ?_
      try simp only [Act.put,ZA,ZB,ZC,ZD,ZE,ZF]
      refine' hY 29 ?_
      try simp only [Act.put,ZA,ZB,ZC,ZD,ZE,ZF]
      refine' hY 30 ?_
      try simp only [Act.put,ZA,ZB,ZC,ZD,ZE,ZF]
      refine' hY 31 ?_
      try simp only [Act.put,ZA,ZB,ZC,ZD,ZE,ZF]
      refine' hY 32 ?_
      try simp only [Act.put,ZA,ZB,ZC,ZD,ZE,ZF]
      refine' hY 33 ?_
      try simp only [Act.put,ZA,ZB,ZC,ZD,ZE,ZF]
      refine' hY 34 ?_
      try simp only [Act.put,ZA,ZB,ZC,ZD,ZE,ZF]
      refine' hY 35 ?_
      try simp only [Act.put,ZA,ZB,ZC,ZD,ZE,ZF]
      refine' hY 36 ?_
      try simp only [Act.put,ZA,ZB,ZC,ZD,ZE,ZF]
      refine' hY 37 ?_
      try simp only [Act.put,ZA,ZB,ZC,ZD,ZE,ZF]
      refine' hY 38 ?_
      try simp only [Act.put,ZA,ZB,ZC,ZD,ZE,ZF]
      refine' hY 39 ?_
      try simp only [Act.put,ZA,ZB,ZC,ZD,ZE,ZF]
      refine' hY 40 ?_
      try simp only [Act.put,ZA,ZB,ZC,ZD,ZE,ZF]
      refine' hY 41 ?_
      try simp only [Act.put,ZA,ZB,ZC,ZD,ZE,ZF]
      refine' hY 42 ?_
      try simp only [Act.put,ZA,ZB,ZC,ZD,ZE,ZF]
      refine' hY 43 ?_
      try simp only [Act.put,ZA,ZB,ZC,ZD,ZE,ZF]
      refine' hY 44 ?_
      try simp only [Act.put,ZA,ZB,ZC,ZD,ZE,ZF]
      refine' hY 45 ?_
      try simp only [Act.put,ZA,ZB,ZC,ZD,ZE,ZF]
      refine' hY 46 ?_
      try simp only [Act.put,ZA,ZB,ZC,ZD,ZE,ZF]
      refine' hY 47 ?_
      try simp only [Act.put,ZA,ZB,ZC,ZD,ZE,ZF]
      refine' hY 48 ?_
      try simp only [Act.put,ZA,ZB,ZC,ZD,ZE,ZF]
      refine' hY 49 ?_
      try simp only [Act.put,ZA,ZB,ZC,ZD,ZE,ZF]
      refine' hY 50 ?_
      try simp only [Act.put,ZA,ZB,ZC,ZD,ZE,ZF]
      refine' hY 51 ?_
      try simp only [Act.put,ZA,ZB,ZC,ZD,ZE,ZF]
      refine' hY 52 ?_
      try simp only [Act.put,ZA,ZB,ZC,ZD,ZE,ZF]
      refine' hY 53 ?_
      try simp only [Act.put,ZA,ZB,ZC,ZD,ZE,ZF]
      refine' hY 54 ?_
      try simp only [Act.put,ZA,ZB,ZC,ZD,ZE,ZF]
      refine' hY 55 ?_
      try simp only [Act.put,ZA,ZB,ZC,ZD,ZE,ZF]
      refine' hY 56 ?_
      try simp only [Act.put,ZA,ZB,ZC,ZD,ZE,ZF]
      refine' hY 57 ?_
      try simp only [Act.put,ZA,ZB,ZC,ZD,ZE,ZF]
      refine' hY 58 ?_
      try simp only [Act.put,ZA,ZB,ZC,ZD,ZE,ZF]
      refine' hY 59 ?_
      try simp only [Act.put,ZA,ZB,ZC,ZD,ZE,ZF]
      refine' hY 60 ?_
      try simp only [Act.put,ZA,ZB,ZC,ZD,ZE,ZF]
      refine' hY 61 ?_
      try simp only [Act.put,ZA,ZB,ZC,ZD,ZE,ZF]
      refine wpAnyH_done (by kernel_rfl) ?_ _
      have BN := Lib.hid (HB.out.trans (BH.out.mono HB.out.size))
      go_wp2_with fail
      go_roundw
      case rel => exact ⟨k + 1, by omega, by go_num, BN⟩
      case measure => simp [intOf]; omega
   ·obtain rfl : k = n := by omega
    have BE := Lib.hid (BW.out.trans (HB.out.mono BW.out.size))
    go_wp2_with fail
    go_ret
    exact ⟨rfl, BE.out⟩
 ·obtain ⟨A5, n5, g, off, c6, rfl, ko⟩ := kids_join (l := x0 :: x1 :: r) t3 (by simp)
  have hl2 : (x0 :: x1 :: r).length = r.length + 2 := rfl
  obtain ⟨q, hq⟩ : ∃ q, x0 :: x1 :: r = q := ⟨_, rfl⟩
  rw [hq] at L3 ko hl2 hl ⊢
  obtain ⟨n, hn⟩ : ∃ n, q.length = n := ⟨_, rfl⟩
  have HN := Lib.hid hn
  rw [hn] at hl2 hl
  rw [hn]
  have f1 : ((n : Int) == 1) = false := by simp; omega
  have f2 : ((n : Int) != (n : Int)) = false := by simp
  have f3 : ((n : Int) == 0) = false := by simp; omega
  have f4 : decide (1 < (n : Int)) = true := decide_eq_true (by omega)
  have f5 : (n == 1) = false := by simp; omega
  have f6 : (n == 0) = false := by simp; omega
  have f7 : decide (1 < n) = true := decide_eq_true (by omega)
  have f8 : (n != n) = false := by simp
  have KO : Hid (KidsOf (w3.alloc (.cells #[.int .i64 3, .slice A5 0 n5, .int .i64 0, .int .i64 0, .slice (some ⟨g, off, none⟩) n c6] 35)) g off q) := Lib.hid (ko.up (below_alloc w3 _))
  have LW := Lib.hid (L3.out.up (below_alloc w3 (.cells #[.int .i64 3, .slice A5 0 n5, .int .i64 0, .int .i64 0, .slice (some ⟨g, off, none⟩) n c6] 35)))
  have BW := Lib.hid (B3.out.alloc B3.out.size (.cells #[.int .i64 3, .slice A5 0 n5, .int .i64 0, .int .i64 0, .slice (some ⟨g, off, none⟩) n c6] 35))
  clear hn t3 ko hq hl2
  go_wp2_with fail
  obtain ⟨w4, hw4⟩ : ∃ u, w3.alloc (.cells #[.int .i64 3, .slice A5 0 n5, .int .i64 0, .int .i64 0, .slice (some ⟨g, off, none⟩) n c6] 35) = u := ⟨_, rfl⟩
  rw [hw4] at KO LW BW ⊢
  clear hw4
  go_loopw [7] (fun iv wr => ∃ k : Nat, k ≤ n ∧ iv = .int .i64 k ∧ Hid (Below w4.heap.size w4 wr)) (fun iv _ => n - (intOf iv).toNat)
  case atStart => exact ⟨0, by omega, rfl, Lib.hid (Below.refl _ _)⟩
  case round =>
   obtain ⟨k, hk, rfl, HB⟩ := hrel
   by_cases hlt : k < n
   ·have hlq : k < q.length := by rw [HN.out]; exact hlt
    obtain ⟨Ak, ck, m0, m1, lk⟩ := (KO.out.up HB.out).kid k hlq
    obtain ⟨bq, oq, rfl, hbq, hqc⟩ := (LW.out.up HB.out).plainInts (by omega)
    have m2 := hqc k hlq
    have hgk := (KO.out.up HB.out).lt
    obtain ⟨x, hx⟩ : ∃ x, q[k] = x := ⟨_, rfl⟩
    rw [hx] at m1 m2 lk
    have hrh := rsL_has x
    obtain ⟨ins, hi⟩ : ∃ b, insB x = b := ⟨_, rfl⟩
    have HX : Hid ((decide (0 ≤ x) && decide (x ≤ topR)) = ins) := Lib.hid hi
    have HRS : Hid (rsL x = if ins = true then [(x, x)] else []) := Lib.hid (by unfold rsL; rw [hi])
    rw [hi] at hrh
    have k0 : (0 : Int) ≤ (k : Int) := by omega
    have k1 : (k : Int) < ((n : Nat) : Int) := by omega
    have HK : Hid (∀ u, Below wr.heap.size wr u → u.cell? ⟨g, off + k * 5, none⟩ = some (.int .i64 2) ∧ u.cell? ⟨g, off + k * 5 + 1, none⟩ = some (.slice Ak (rsL x).length ck) ∧ u.cell? ⟨bq, oq + k, none⟩ = some (.int .i64 x) ∧ Lies u u.heap.size Ak (prC (rsL x))) := Lib.hid fun u hu => by
     rw [hu.cell (p := ⟨g, off + k * 5, none⟩) hgk, hu.cell (p := ⟨g, off + k * 5 + 1, none⟩) hgk, hu.cell (p := ⟨bq, oq + k, none⟩) hbq]
     exact ⟨m0, m1, m2, lk.up hu⟩
    have HHS := Lib.hid (fun (u : World) (hu : Below wr.heap.size wr u) => trhas_any u Ak (rsL x) ck x (HK.out u hu).2.2.2 (by rw [HRS.out]; split <;> simp))
    rw [hrh] at HHS
    clear hx hi hrh hbq hgk hqc m0 m1 lk
    go_upto_region 14 with fail
    go_cut [8] (fun v wx => v = .bool ins ∧ wr = wx)
    case first =>
     by_cases h0 : 0 ≤ x
     ·by_cases h1 : x ≤ 1114111
      ·have d2 : decide (0 ≤ x) = true := decide_eq_true h0
       have d3 : decide (x ≤ 1114111) = true := decide_eq_true h1
       have HE : Hid (true = ins) := Lib.hid (by rw [← HX.out]; unfold topR; rw [d2, d3]; rfl)
       clear h0 h1
       go_wp2_with fail
       go_meet
       exact ⟨by rw [HE.out], rfl⟩
      ·have d2 : decide (0 ≤ x) = true := decide_eq_true h0
       have d3 : decide (x ≤ 1114111) = false := decide_eq_false h1
       have HE : Hid (false = ins) := Lib.hid (by rw [← HX.out]; unfold topR; rw [d2, d3]; rfl)
       clear h0 h1
       go_wp2_with fail
       go_meet
       exact ⟨by rw [HE.out], rfl⟩
     ·have d2 : decide (0 ≤ x) = false := decide_eq_false h0
      have HE : Hid (false = ins) := Lib.hid (by rw [← HX.out, d2]; rfl)
      clear h0
      go_wp2_with fail
      go_meet
      exact ⟨by rw [HE.out], rfl⟩
    case rest =>
     obtain ⟨rfl, rfl⟩ := hcut
     cases ins
     ·have HRX : Hid (rsL x = []) := Lib.hid (by rw [HRS.out]; rfl)
      rw [HRX.out] at HK HHS
      have HSS : Hid (∀ u, Below wr.heap.size wr u → u.cell? ⟨g, off + k * 5, none⟩ = some (.int .i64 2) ∧ u.cell? ⟨g, off + k * 5 + 1, none⟩ = some (.slice Ak 0 ck) ∧ u.cell? ⟨bq, oq + k, none⟩ = some (.int .i64 x)) := Lib.hid fun u hu => ⟨(HK.out u hu).1, (HK.out u hu).2.1, (HK.out u hu).2.2.1⟩
      go_wp2_with fail
      refine wp_region_held_drew (S := fun u => u.cell? ⟨g, off + k * 5, none⟩ = some (.int .i64 2) ∧ u.cell? ⟨g, off + k * 5 + 1, none⟩ = some (.slice Ak 0 ck) ∧ u.cell? ⟨bq, oq + k, none⟩ = some (.int .i64 x)) (by kernel_rfl) (HSS.out _ (by exact below_same (Below.refl _ wr) rfl rfl rfl rfl)) (fun hHeld => ?_)
      refine' hY 0 ?_
      try simp only [Act.put,ZA,ZB,ZD,ZE,ZF]
      refine' hY 1 ?_
      try simp only [Act.put,ZA,ZB,ZC,ZD,ZE,ZF]
      refine' hY 2 ?_
      try simp only [Act.put,ZA,ZB,ZC,ZD,ZE,ZF]
      refine' hY 3 ?_
      try simp only [Act.put,ZA,ZB,ZC,ZD,ZE,ZF]
      refine' hY 4 ?_
      try simp only [Act.put,ZA,ZB,ZC,ZD,ZE,ZF]
      refine' hY 5 ?_
      try simp only [Act.put,ZA,ZB,ZC,ZD,ZE,ZF]
      refine' hY 6 ?_
      try simp only [Act.put,ZA,ZB,ZC,ZD,ZE,ZF]
      refine' hY 7 ?_
      try simp only [Act.put,ZA,ZB,ZC,ZD,ZE,ZF]
      refine' hY 8 ?_
      try simp only [Act.put,ZA,ZB,ZC,ZD,ZE,ZF]
      refine' hY 9 ?_
      try simp only [Act.put,ZA,ZB,ZC,ZD,ZE,ZF]
      refine' hY 10 ?_
      try simp only [Act.put,ZA,ZB,ZC,ZD,ZE,ZF]
      refine' hY 11 ?_
      try simp only [Act.put,ZA,ZB,ZC,ZD,ZE,ZF]
      refine' hY 12 ?_
      try simp only [Act.put,ZA,ZB,ZC,ZD,ZE,ZF]
      refine' hY 13 ?_
      try simp only [Act.put,ZA,ZB,ZC,ZD,ZE,ZF]
      refine' hY 14 ?_
      try simp only [Act.put,ZA,ZB,ZC,ZD,ZE,ZF]
      refine' hY 15 ?_
      try simp only [Act.put,ZA,ZB,ZC,ZD,ZE,ZF]
      refine' hY 17 ?_
      try simp only [Act.put,ZA,ZB,ZC,ZD,ZE,ZF]
      refine hA 16 fun K hK => ?_
      go_simp
      refine (HHS.out wr.drew (by exact below_same (Below.refl _ wr) rfl rfl rfl rfl)).mono ?_
      rintro e wh ⟨rfl, bh⟩
      have BH : Hid (Below wr.heap.size wr wh) := Lib.hid (below_then_drew bh)
      clear bh
      go_wp2_with fail
      refine hK.out _ _ (HSS.out _ BH.out) (fun hHeld => ?_)
      clear hK K
      try simp only [Act.put,ZA,ZB,ZC,ZD,ZE,ZF]
      refine' hY 18 ?_
      try simp only [Act.put,ZA,ZB,ZC,ZD,ZE,ZF]
      refine' hY 19 ?_
      try simp only [Act.put,ZA,ZB,ZC,ZD,ZE,ZF]
      refine' hY 20 ?_
      try simp only [Act.put,ZA,ZB,ZC,ZD,ZE,ZF]
      refine' hY 21 ?_
      try simp only [Act.put,ZA,ZB,ZC,ZD,ZE,ZF]
      refine' hY 22 ?_
      try simp only [Act.put,ZA,ZB,ZC,ZD,ZE,ZF]
      refine' hY 23 ?_
      try simp only [Act.put,ZA,ZB,ZC,ZD,ZE,ZF]
      refine' hY 24 ?_
      try simp only [Act.put,ZA,ZB,ZC,ZD,ZE,ZF]
      refine' hY 25 ?_
      try simp only [Act.put,ZA,ZB,ZC,ZD,ZE,ZF]
      refine hA 26 fun K hK => ?_
      go_simp
      refine hK.out _ _ (HSS.out _ BH.out) (fun hHeld => ?_)
      clear hK K
      try simp only [Act.put,ZA,ZB,ZC,ZD,ZE,ZF]
      refine' hY 27 ?_
      try simp only [Act.put,ZA,ZB,ZC,ZD,ZE,ZF]
      refine' hY 28 ?_
      try simp only [Act.put,ZA,ZB,ZC,ZD,ZE,ZF]
      refine' hY 29 ?_
      try simp only [Act.put,ZA,ZB,ZC,ZD,ZE,ZF]
      refine' hY 30 ?_
      try simp only [Act.put,ZA,ZB,ZC,ZD,ZE,ZF]
      refine' hY 31 ?_
      try simp only [Act.put,ZA,ZB,ZC,ZD,ZE,ZF]
      refine' hN 32 ?_
      try simp only [Act.put,ZA,ZB,ZC,ZD,ZE,ZF]
      refine' hN 33 ?_
      try simp only [Act.put,ZA,ZB,ZC,ZD,ZE,ZF]
      refine' hN 34 ?_
      try simp only [Act.put,ZA,ZB,ZC,ZD,ZE,ZF]
      refine' hN 35 ?_
      try simp only [Act.put,ZA,ZB,ZC,ZD,ZE,ZF]
      refine' hN 36 ?_
      try simp only [Act.put,ZA,ZB,ZC,ZD,ZE,ZF]
      refine' hN 37 ?_
      try simp only [Act.put,ZA,ZB,ZC,ZD,ZE,ZF]
      refine' hN 38 ?_
      try simp only [Act.put,ZA,ZB,ZC,ZD,ZE,ZF]
      refine' hN 39 ?_
      try simp only [Act.put,ZA,ZB,ZC,ZD,ZE,ZF]
      refine' hN 40 ?_
      try simp only [Act.put,ZA,ZB,ZC,ZD,ZE,ZF]
      refine' hN 41 ?_
      try simp only [Act.put,ZA,ZB,ZC,ZD,ZE,ZF]
      refine' hN 42 ?_
      try simp only [Act.put,ZA,ZB,ZC,ZD,ZE,ZF]
      refine' hN 43 ?_
      try simp only [Act.put,ZA,ZB,ZC,ZD,ZE,ZF]
      refine' hN 44 ?_
      try simp only [Act.put,ZA,ZB,ZC,ZD,ZE,ZF]
      refine' hN 45 ?_
      try simp only [Act.put,ZA,ZB,ZC,ZD,ZE,ZF]
      refine' hN 46 ?_
      try simp only [Act.put,ZA,ZB,ZC,ZD,ZE,ZF]
      refine' hN 47 ?_
      try simp only [Act.put,ZA,ZB,ZC,ZD,ZE,ZF]
      refine' hN 48 ?_
      try simp only [Act.put,ZA,ZB,ZC,ZD,ZE,ZF]
      refine' hN 49 ?_
      try simp only [Act.put,ZA,ZB,ZC,ZD,ZE,ZF]
      refine' hN 50 ?_
      try simp only [Act.put,ZA,ZB,ZC,ZD,ZE,ZF]
      refine' hN 51 ?_
      try simp only [Act.put,ZA,ZB,ZC,ZD,ZE,ZF]
      refine' hN 52 ?_
      try simp only [Act.put,ZA,ZB,ZC,ZD,ZE,ZF]
      refine' hN 53 ?_
      try simp only [Act.put,ZA,ZB,ZC,ZD,ZE,ZF]
      refine' hN 54 ?_
      try simp only [Act.put,ZA,ZB,ZC,ZD,ZE,ZF]
      refine' hN 55 ?_
      try simp only [Act.put,ZA,ZB,ZC,ZD,ZE,ZF]
      refine' hN 56 ?_
      try simp only [Act.put,ZA,ZB,ZC,ZD,ZE,ZF]
      refine' hN 57 ?_
      try simp only [Act.put,ZA,ZB,ZC,ZD,ZE,ZF]
      refine' hN 58 ?_
      try simp only [Act.put,ZA,ZB,ZC,ZD,ZE,ZF]
      refine' hN 59 ?_
      try simp only [Act.put,ZA,ZB,ZC,ZD,ZE,ZF]
      refine' hY 60 ?_
      try simp only [Act.put,ZA,ZB,ZC,ZD,ZE,ZF]
      refine' hY 61 ?_
      try simp only [Act.put,ZA,ZB,ZC,ZD,ZE,ZF]
      refine wpAnyH_done (by kernel_rfl) ?_ _
      have BN := Lib.hid (HB.out.trans (BH.out.mono HB.out.size))
      go_wp2_with fail
      go_roundw
      case rel => exact ⟨k + 1, by omega, by go_num, BN⟩
      case measure => simp [intOf]; omega
     ·have HRX : Hid (rsL x = [(x, x)]) := Lib.hid (by rw [HRS.out]; rfl)
      rw [HRX.out] at HK HHS
      obtain ⟨gr, orr, hAk, hgr, r0, r1⟩ := prC_at (HK.out wr (Below.refl _ _)).2.2.2 (j := 0) (by simp)
      simp only [Nat.zero_mul, Nat.add_zero, List.getElem_cons_zero] at r0 r1
      subst hAk
      have HR : Hid (∀ u, Below wr.heap.size wr u → u.cell? ⟨gr, orr, none⟩ = some (.int .i64 x) ∧ u.cell? ⟨gr, orr + 1, none⟩ = some (.int .i64 x)) := Lib.hid fun u hu => by
       rw [hu.cell (p := ⟨gr, orr, none⟩) hgr, hu.cell (p := ⟨gr, orr + 1, none⟩) hgr]
       exact ⟨r0, r1⟩
      clear r0 r1
      have HSS : Hid (∀ u, Below wr.heap.size wr u → u.cell? ⟨g, off + k * 5, none⟩ = some (.int .i64 2) ∧ u.cell? ⟨g, off + k * 5 + 1, none⟩ = some (.slice (some ⟨gr, orr, none⟩) 1 ck) ∧ u.cell? ⟨bq, oq + k, none⟩ = some (.int .i64 x) ∧ u.cell? ⟨gr, orr, none⟩ = some (.int .i64 x) ∧ u.cell? ⟨gr, orr + 1, none⟩ = some (.int .i64 x)) := Lib.hid fun u hu => ⟨(HK.out u hu).1, (HK.out u hu).2.1, (HK.out u hu).2.2.1, (HR.out u hu).1, (HR.out u hu).2⟩
      go_wp2_with fail
      refine wp_region_held_drew (S := fun u => u.cell? ⟨g, off + k * 5, none⟩ = some (.int .i64 2) ∧ u.cell? ⟨g, off + k * 5 + 1, none⟩ = some (.slice (some ⟨gr, orr, none⟩) 1 ck) ∧ u.cell? ⟨bq, oq + k, none⟩ = some (.int .i64 x) ∧ u.cell? ⟨gr, orr, none⟩ = some (.int .i64 x) ∧ u.cell? ⟨gr, orr + 1, none⟩ = some (.int .i64 x)) (by kernel_rfl) (HSS.out _ (by exact below_same (Below.refl _ wr) rfl rfl rfl rfl)) (fun hHeld => ?_)
      refine' hY 0 ?_
      try simp only [Act.put,ZA,ZB,ZD,ZE,ZF]
      refine' hY 1 ?_
      try simp only [Act.put,ZA,ZB,ZC,ZD,ZE,ZF]
      refine' hY 2 ?_
      try simp only [Act.put,ZA,ZB,ZC,ZD,ZE,ZF]
      refine' hY 3 ?_
      try simp only [Act.put,ZA,ZB,ZC,ZD,ZE,ZF]
      refine' hY 4 ?_
      try simp only [Act.put,ZA,ZB,ZC,ZD,ZE,ZF]
      refine' hY 5 ?_
      try simp only [Act.put,ZA,ZB,ZC,ZD,ZE,ZF]
      refine' hY 6 ?_
      try simp only [Act.put,ZA,ZB,ZC,ZD,ZE,ZF]
      refine' hY 7 ?_
      try simp only [Act.put,ZA,ZB,ZC,ZD,ZE,ZF]
      refine' hY 8 ?_
      try simp only [Act.put,ZA,ZB,ZC,ZD,ZE,ZF]
      refine' hY 9 ?_
      try simp only [Act.put,ZA,ZB,ZC,ZD,ZE,ZF]
      refine' hY 10 ?_
      try simp only [Act.put,ZA,ZB,ZC,ZD,ZE,ZF]
      refine' hY 11 ?_
      try simp only [Act.put,ZA,ZB,ZC,ZD,ZE,ZF]
      refine' hY 12 ?_
      try simp only [Act.put,ZA,ZB,ZC,ZD,ZE,ZF]
      refine' hY 13 ?_
      try simp only [Act.put,ZA,ZB,ZC,ZD,ZE,ZF]
      refine' hY 14 ?_
      try simp only [Act.put,ZA,ZB,ZC,ZD,ZE,ZF]
      refine' hY 15 ?_
      try simp only [Act.put,ZA,ZB,ZC,ZD,ZE,ZF]
      refine' hY 17 ?_
      try simp only [Act.put,ZA,ZB,ZC,ZD,ZE,ZF]
      refine hA 16 fun K hK => ?_
      go_simp
      refine (HHS.out wr.drew (by exact below_same (Below.refl _ wr) rfl rfl rfl rfl)).mono ?_
      rintro e wh ⟨rfl, bh⟩
      have BH : Hid (Below wr.heap.size wr wh) := Lib.hid (below_then_drew bh)
      clear bh
      go_wp2_with fail
      refine hK.out _ _ (HSS.out _ BH.out) (fun hHeld => ?_)
      clear hK K
      try simp only [Act.put,ZA,ZB,ZC,ZD,ZE,ZF]
      refine' hY 18 ?_
      try simp only [Act.put,ZA,ZB,ZC,ZD,ZE,ZF]
      refine' hY 19 ?_
      try simp only [Act.put,ZA,ZB,ZC,ZD,ZE,ZF]
      refine' hY 20 ?_
      try simp only [Act.put,ZA,ZB,ZC,ZD,ZE,ZF]
      refine' hY 21 ?_
      try simp only [Act.put,ZA,ZB,ZC,ZD,ZE,ZF]
      refine' hY 22 ?_
      try simp only [Act.put,ZA,ZB,ZC,ZD,ZE,ZF]
      refine' hY 23 ?_
      try simp only [Act.put,ZA,ZB,ZC,ZD,ZE,ZF]
      refine' hY 24 ?_
      try simp only [Act.put,ZA,ZB,ZC,ZD,ZE,ZF]
      refine' hY 25 ?_
      try simp only [Act.put,ZA,ZB,ZC,ZD,ZE,ZF]
      refine hA 26 fun K hK => ?_
      go_simp
      refine hK.out _ _ (HSS.out _ BH.out) (fun hHeld => ?_)
      clear hK K
      try simp only [Act.put,ZA,ZB,ZC,ZD,ZE,ZF]
      refine' hY 27 ?_
      try simp only [Act.put,ZA,ZB,ZC,ZD,ZE,ZF]
      refine' hY 28 ?_
      try simp only [Act.put,ZA,ZB,ZC,ZD,ZE,ZF]
      refine' hY 29 ?_
      try simp only [Act.put,ZA,ZB,ZC,ZD,ZE,ZF]
      refine' hY 30 ?_
      try simp only [Act.put,ZA,ZB,ZC,ZD,ZE,ZF]
      refine' hY 31 ?_
      try simp only [Act.put,ZA,ZB,ZC,ZD,ZE,ZF]
      refine' hY 32 ?_
      try simp only [Act.put,ZA,ZB,ZC,ZD,ZE,ZF]
      refine' hY 33 ?_
      try simp only [Act.put,ZA,ZB,ZC,ZD,ZE,ZF]
      refine' hY 34 ?_
      try simp only [Act.put,ZA,ZB,ZC,ZD,ZE,ZF]
      refine' hY 35 ?_
      try simp only [Act.put,ZA,ZB,ZC,ZD,ZE,ZF]
      refine' hY 36 ?_
      try simp only [Act.put,ZA,ZB,ZC,ZD,ZE,ZF]
      refine' hY 37 ?_
      try simp only [Act.put,ZA,ZB,ZC,ZD,ZE,ZF]
      refine' hY 38 ?_
      try simp only [Act.put,ZA,ZB,ZC,ZD,ZE,ZF]
      refine' hY 39 ?_
      try simp only [Act.put,ZA,ZB,ZC,ZD,ZE,ZF]
      refine' hY 40 ?_
      try simp only [Act.put,ZA,ZB,ZC,ZD,ZE,ZF]
      refine' hY 41 ?_
      try simp only [Act.put,ZA,ZB,ZC,ZD,ZE,ZF]
      refine' hY 42 ?_
      try simp only [Act.put,ZA,ZB,ZC,ZD,ZE,ZF]
      refine' hY 43 ?_
      try simp only [Act.put,ZA,ZB,ZC,ZD,ZE,ZF]
      refine' hY 44 ?_
      try simp only [Act.put,ZA,ZB,ZC,ZD,ZE,ZF]
      refine' hY 45 ?_
      try simp only [Act.put,ZA,ZB,ZC,ZD,ZE,ZF]
      refine' hY 46 ?_
      try simp only [Act.put,ZA,ZB,ZC,ZD,ZE,ZF]
      refine' hY 47 ?_
      try simp only [Act.put,ZA,ZB,ZC,ZD,ZE,ZF]
      refine' hY 48 ?_
      try simp only [Act.put,ZA,ZB,ZC,ZD,ZE,ZF]
      refine' hY 49 ?_
      try simp only [Act.put,ZA,ZB,ZC,ZD,ZE,ZF]
      refine' hY 50 ?_
      try simp only [Act.put,ZA,ZB,ZC,ZD,ZE,ZF]
      refine' hY 51 ?_
      try simp only [Act.put,ZA,ZB,ZC,ZD,ZE,ZF]
      refine' hY 52 ?_
      try simp only [Act.put,ZA,ZB,ZC,ZD,ZE,ZF]
      refine' hY 53 ?_
      try simp only [Act.put,ZA,ZB,ZC,ZD,ZE,ZF]
      refine' hY 54 ?_
      try simp only [Act.put,ZA,ZB,ZC,ZD,ZE,ZF]
      refine' hY 55 ?_
      try simp only [Act.put,ZA,ZB,ZC,ZD,ZE,ZF]
      refine' hY 56 ?_
      try simp only [Act.put,ZA,ZB,ZC,ZD,ZE,ZF]
      refine' hY 57 ?_
      try simp only [Act.put,ZA,ZB,ZC,ZD,ZE,ZF]
      refine' hY 58 ?_
      try simp only [Act.put,ZA,ZB,ZC,ZD,ZE,ZF]
      refine' hY 59 ?_
      try simp only [Act.put,ZA,ZB,ZC,ZD,ZE,ZF]
      refine' hY 60 ?_
      try simp only [Act.put,ZA,ZB,ZC,ZD,ZE,ZF]
      refine' hY 61 ?_
      try simp only [Act.put,ZA,ZB,ZC,ZD,ZE,ZF]
      refine wpAnyH_done (by kernel_rfl) ?_ _
      have BN := Lib.hid (HB.out.trans (BH.out.mono HB.out.size))
      go_wp2_with fail
      go_roundw
      case rel => exact ⟨k + 1, by omega, by go_num, BN⟩
      case measure => simp [intOf]; omega
   ·obtain rfl : k = n := by omega
    have BE := Lib.hid (BW.out.trans (HB.out.mono BW.out.size))
    go_wp2_with fail
    go_ret
    exact ⟨rfl, BE.out⟩
set_option maxRecDepth 20000 in
set_option maxHeartbeats 1000000 in
theorem walk_long (w : World) (hFT : FoTabs w) (A : Option Addr) (l : List Int) (c : Nat) (hl : 90 < l.length) :
 Calls Tryz.prog 6 #[.slice A l.length c] w fun e w' => e = .returned (.bool true) ∧ Below w.heap.size w w' := by
 have d1 : decide (90 < (l.length : Int)) = true := decide_eq_true (by omega)
 clear hl
 go_enter Tryz.func6, Tryz.ntmps6
 go_wp2_with fail
 refine (alive_any w hFT).mono ?_
 rintro e w1 ⟨rfl, b1⟩
 have B1 := Lib.hid b1
 clear b1
 go_wp2_with fail
 go_ret
 exact ⟨rfl, B1.out⟩
theorem walk (w : World) (hFT : FoTabs w) (A : Option Addr) (l : List Int) (c : Nat) (_ : l.length ≤ c) (_ : c ≤ maxLen) (h : Lies w w.heap.size A (ints .i64 l)) (_ : ∀ n ∈ l, (Lit.int .i64 n).wf = true) :
 Calls Tryz.prog 6 #[.slice A l.length c] w fun e w' => e = .returned (.bool true) ∧ Below w.heap.size w w' := by
 by_cases hh : 90 < l.length
 ·exact walk_long w hFT A l c hh
 ·exact walk_ok w hFT A l c (by omega) h
-- WRAP
theorem spec : LawSpec Rows.treeQuotesSpec 1 := ⟨rfl, fun H ds h => by
 match ds, h with
 | [d0], _ => rfl⟩
theorem params_ok : ∀ t ∈ Tryz.f6.params.toList, Tryz.prog.readableRec t = true ∧ t < Tryz.prog.types.size := by
 rw [Tryz.params6]
 intro t ht
 simp only [List.mem_cons, List.mem_nil_iff, or_false] at ht
 rcases ht with rfl
 all_goals exact ⟨by kernel_rfl, of_decide_eq_true (by kernel_rfl)⟩
set_option maxRecDepth 100000 in
theorem contract (H : Type) (enc : TypeId × Value → H) (W : World) (base : Nat) (args : Array Value) (ds gs : List (DataW H)) (before : List MemPlace)
 (hval : ∀ (j : Nat) t v, Tryz.f6.params[j]? = some t → args[j]? = some v → Value.okWide Tryz.prog W .any base t v)
 (hW : DataW.Whole enc Tryz.prog Tryz.f6.params.toList Rows.treeQuotesSpec.vars false W args.toList ds gs before) (hL : laidMetH Tryz.prog laidList W) :
 Calls Tryz.prog 6 args W fun e W' => ∃ v, e = .returned v ∧ Rows.treeQuotesSpec.post enc Tryz.prog Tryz.f6 false true false false W args v W' := by
 have hW' := hW
 obtain ⟨p, q, hA0, hV, rfl, hfz, hnd⟩ := hW
 have hA : DataW.TrodAll enc Tryz.prog W 0 (fun _ => true) true Tryz.f6.params.toList args.toList ds p := hA0
 rw [Tryz.params6] at hA hval
 obtain ⟨v0, vs0, d0, ds0, p0, q0, hargs, rfl, rfl, h0, r0⟩ := trodAll_cons hA
 obtain ⟨rfl, rfl, rfl⟩ := trodAll_nil r0
 obtain rfl : args = #[v0] := by cases args; simp_all
 obtain ⟨A0, l0, c0, rfl, hc0, hm0, hl0, wf0⟩ := open_list Tryz.underlying32 Tryz.underlying3 (by kernel_rfl) (hval 0 32 v0 rfl rfl) h0
 exact (walk W (tabs_of hL) A0 l0 c0 hc0 hm0 hl0 wf0).mono fun e W' ⟨he, hg⟩ => ⟨_, he, law_post spec (by rw [Tryz.params6]; rfl) (by kernel_rfl) params_ok (by kernel_rfl) Tryz.underlying4 hW' hg⟩
set_option maxRecDepth 100000 in
theorem laid_met (os : Os) : laidMet Tryz.prog Rows.treeQuotesRow.laid ((laidWorld os #[.slice none 0 0]).forCall (fun _ _ => 0) ⟨#[], #[.slice none 0 0], []⟩).memory :=
 laidMet_of_run' 8 (by kernel_rfl) (by kernel_rfl)
set_option maxRecDepth 100000 in
theorem reads (os : Os) {H : Type} (enc : TypeId × Value → H) : ∃ places, DataW.whole enc Tryz.prog ((laidWorld os #[.slice none 0 0]).forCall (fun _ _ => 0) ⟨#[], #[.slice none 0 0], []⟩).memory Tryz.f6.params.toList Rows.treeQuotesSpec.vars false #[.slice none 0 0].toList 8 = some ([.nil], [], places) :=
 ⟨[], by kernel_rfl⟩
set_option maxRecDepth 100000 in
theorem lifted (os : Os) (started : os.Started) (H : Type) (enc : TypeId × Value → H) (F : Stop.Interp) :
 ReturnsInHanded {} Tryz.checked os 6 .any ((OpenSpec.ofChange Rows.treeQuotesSpec).preRow enc Tryz.prog Tryz.f6 Rows.treeQuotesRow.domain false Rows.treeQuotesRow.laid) (((OpenSpec.ofChange Rows.treeQuotesSpec).at F).post enc Tryz.prog Tryz.f6 false true false false) := by
 obtain ⟨places, hx⟩ := reads os enc
 refine returnsInHanded_of_row (C := Tryz.checked) (s := OpenSpec.ofChange Rows.treeQuotesSpec) own started (by kernel_rfl) Tryz.func6
  (witness_row_at (enc := enc) (C := Tryz.checked) false (laidWorld os #[.slice none 0 0]) #[.slice none 0 0] rfl (by kernel_rfl) (by kernel_rfl) (by kernel_rfl)
   (OpenSpec.preRow_of_cond 8 hx (by kernel_rfl) (fun k hk => by cases hk) (by kernel_rfl) (laid_met os))) ?_
 intro W base args ds gs before hval hW _ _ _ hL _ _
 exact contract H enc W base args ds gs before hval hW hL
set_option maxRecDepth 100000 in
theorem said : Rows.TreeQuotesSaid :=
 OpenClaim.holds_of_cond 6 Tryz.f6 rfl rfl rfl rfl rfl rfl rfl ⟨rfl, rfl, rfl, rfl, rfl⟩ rfl rfl rfl rfl rfl (by kernel_rfl) Tryz.func6 (by kernel_rfl)
  (of_decide_eq_true (by kernel_rfl)) (by unfold Func.isWrapper; first | (rw [if_pos (by decide +kernel)]; kernel_rfl) | (rw [if_neg (by decide +kernel)]; exact ⟨rfl, rfl⟩))
  (fun os started H enc _ F => by rw [OpenClaim.pre_eq_preRow]; exact lifted os started H enc F)
set_option maxRecDepth 100000 in
theorem card : Rows.TreeQuotesCardSaid :=
 Claim7.holds_tied_plain_at .later [] _ _ _ _ said (fun _ h => by cases h) (by kernel_rfl) (fun _ h => by cases h) treeQuotes_row_tie rfl ⟨rfl, rfl⟩ (by kernel_rfl) rfl
  (plainOf "ductus/ductuslaw16.TreeQuotes" 6 Tryz.f6 (by kernel_rfl) Tryz.func6 (by kernel_rfl) (fun j t ht => by
   rw [Tryz.params6] at ht
   have hm := Array.mem_of_getElem? ht
   simp only [List.mem_toArray, List.mem_cons, List.mem_nil_iff, or_false] at hm
   rcases hm with rfl
   all_goals (show Tryz.prog.wantsStandIn _ = false; kernel_rfl))) (by kernel_rfl)
end Go.Proofs.YtkojnnjcgcllmaaGreatDoor.lawQuotes
