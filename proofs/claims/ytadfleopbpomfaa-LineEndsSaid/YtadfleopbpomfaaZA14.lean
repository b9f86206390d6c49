/- Shared texts, shaken for one claim. -/
import Derived.Deep.LoopGhost
import Derived.Deep.DeepCutAuto
import Derived.Test.YtadfleopbpomfaaZA13
namespace Go.Proofs.Ytadfleopbpomfaa
open Go.RowKit
theorem nestT : SliceOf Try.prog 75 22 (.slice none 0 0) 24 := ⟨by kernel_rfl, by kernel_rfl, rfl⟩
theorem Nest.same {w w' : World} {B : Nat} {eo ei : TypeId} {v : Value} {es : List Value} {L : List (List Value)} (h : Nest w B eo ei v es L) (hh : w'.heap = w.heap) : Nest w' B eo ei v es L :=
 ⟨h.outer.same hh, h.len, fun j h1 h2 => (h.inner j h1 h2).same hh, h.apart⟩
theorem Nest.weaken {w : World} {B B' : Nat} {eo ei : TypeId} {v : Value} {es : List Value} {L : List (List Value)} (h : Nest w B eo ei v es L) (hB : B' ≤ B) : Nest w B' eo ei v es L :=
 ⟨h.outer.weaken hB, h.len, fun j h1 h2 => (h.inner j h1 h2).weaken hB, h.apart⟩
theorem addLast_map {L : List (List Int)} {t : Nat} {xs : List Int} {q : Int} (ht : L.length - 1 = t) (htl : t < L.length) (hx : L[t] = xs) : (L.map (ints .i64)).set t (ints .i64 xs ++ [Value.int .i64 q]) = (addLast L q).map (ints .i64) := by
 subst ht hx
 unfold addLast
 rw [List.map_set]
 congr 1
 simp [htl]
set_option maxRecDepth 20000 in
set_option maxHeartbeats 8000000 in
theorem rlists_any (A : Option Addr) (cl : List Int) (c : Nat) (A' : Option Addr) (lv : List Int) (c' : Nat) (w : World) (h : Lies w w.heap.size A (ints .i64 cl)) (h' : Lies w w.heap.size A' (ints .i64 lv)) (hl : cl.length ≤ 1000000) (he : cl.length = lv.length) :
 Calls Try.prog 51 #[.slice A cl.length c, .slice A' lv.length c'] w fun ed w' => ∃ v es, ed = .returned v ∧ Nest w' w.heap.size 22 3 v es ((listsN cl lv (seenI cl) (seenI cl).length).map (ints .i64)) ∧ Below w.heap.size w w' := by
 have H := Lib.hid h
 have H' := Lib.hid h'
 obtain ⟨s, hs⟩ : ∃ s, seenI cl = s := ⟨_, rfl⟩
 have HS := Lib.hid hs
 have HSL : Hid (s.length ≤ cl.length) := Lib.hid (by rw [← hs]; exact seenN_le cl cl.length)
 have HSA : Hid (∀ j (h : j < s.length), ∃ q : Nat, s[j] = (q : Int) ∧ q < cl.length) := Lib.hid (by subst hs; exact seenN_at cl cl.length)
 have hne : ((cl.length : Int) != (lv.length : Int)) = false := by rw [he]; simp
 have HE := Lib.hid he
 have hs6 : s.length ≤ 1000000 := by have := HSL.out; omega
 rw [hs]
 clear h h' hs he
 go_enter Try.func51, Try.ntmps51
 go_wp2_with fail
 refine (rseen8_any A cl c w H.out hl).mono ?_
 rintro e w1 ⟨v1, rfl, o1, b1⟩
 rw [HS.out] at o1
 obtain ⟨A1, c1, rfl, l1, _, _⟩ := o1.form
 have L1 := Lib.hid l1
 have B1 := Lib.hid b1
 simp only [ints, List.length_map]
 clear o1 b1 l1 hne
 go_wp2_with fail
 go_loopg [7, 5] s.length (fun m iv ov wr => ∃ (k : Nat) (es : List Value), k + m = s.length ∧ iv = .int .i64 k ∧ Nest wr w1.heap.size 22 3 ov es ((listsN cl lv s k).map (ints .i64)) ∧ Below w1.heap.size w1 wr)
 case atStart => exact ⟨0, [], by omega, rfl, Nest.empty _ _ _ _, Below.refl _ _⟩
 case round =>
  obtain ⟨k, es, hkm, rfl, hn, hb⟩ := hrel
  have HN := Lib.hid hn
  have HB := Lib.hid hb
  clear hn hb
  by_cases hlt : k < s.length
  ·obtain ⟨Ao, co, rfl, _, _, _⟩ := HN.out.outer.form
   obtain ⟨q, hq1, hq2⟩ := HSA.out k hlt
   obtain ⟨ps, rfl, _, hcs⟩ := (L1.out.below HB.out).int hlt
   rw [hq1] at hcs
   obtain ⟨pv, rfl, _, hcv⟩ := ((H'.out.up B1.out).below HB.out).int (show q < lv.length by have := HE.out; omega)
   obtain ⟨pc, rfl, _, _⟩ := ((H.out.up B1.out).below HB.out).int hq2
   have b0 : (0 : Int) ≤ (k : Int) := by omega
   have b1 : (k : Int) < (s.length : Int) := by omega
   have b2 : (0 : Int) ≤ (q : Int) := by omega
   have b3 : (q : Int) < (lv.length : Int) := by have := HE.out; omega
   have hsk : s.getD k 0 = (q : Int) := by simp [hlt, hq1]
   obtain ⟨x, hx⟩ : ∃ x, lv[q]'(by have := HE.out; omega) = x := ⟨_, rfl⟩
   have hxg : lv.getD q 0 = x := by have := HE.out; simp [show q < lv.length by omega, hx]
   rw [hx] at hcv
   have HKQ := Lib.hid (And.intro hsk hxg)
   obtain ⟨fr, hfr⟩ : ∃ f, freshAt cl lv s k = f := ⟨_, rfl⟩
   have HFR := Lib.hid hfr
   clear hx hsk hxg hq1 hfr
   go_upto_region 8 with fail
   go_cut [51] (fun v wx => v = .bool fr ∧ wx.heap = wr.heap ∧ Below w1.heap.size w1 wx)
   case first =>
    by_cases hk0 : k = 0
    ·subst hk0
     have HF1 : Hid (true = fr) := Lib.hid (by rw [← HFR.out]; simp [freshAt])
     go_wp2_with fail
     refine wp_region_held_drew (S := fun _ => True) (by kernel_rfl) (trivial) (fun hHeld => ?_)
     refine' hY 0 ?_
     try simp only [Act.put,ZA,ZB,ZD,ZE,ZF]
     refine' hY 1 ?_
     try simp only [Act.put,ZA,ZB,ZC,ZD,ZE,ZF]
     refine' hY 2 ?_
     try simp only [Act.put,ZA,ZB,ZC,ZD,ZE,ZF]
     refine' hN 3 ?_
     try simp only [Act.put,ZA,ZB,ZC,ZD,ZE,ZF]
     refine' hN 4 ?_
     try simp only [Act.put,ZA,ZB,ZC,ZD,ZE,ZF]
     refine' hN 5 ?_
     try simp only [Act.put,ZA,ZB,ZC,ZD,ZE,ZF]
     refine' hN 6 ?_
     try simp only [Act.put,ZA,ZB,ZC,ZD,ZE,ZF]
     refine' hN 7 ?_
     try simp only [Act.put,ZA,ZB,ZC,ZD,ZE,ZF]
     refine' hN 8 ?_
     try simp only [Act.put,ZA,ZB,ZC,ZD,ZE,ZF]
     refine' hN 9 ?_
     try simp only [Act.put,ZA,ZB,ZC,ZD,ZE,ZF]
     refine' hN 10 ?_
     try simp only [Act.put,ZA,ZB,ZC,ZD,ZE,ZF]
     refine' hN 11 ?_
     try simp only [Act.put,ZA,ZB,ZC,ZD,ZE,ZF]
     refine' hN 12 ?_
     try simp only [Act.put,ZA,ZB,ZC,ZD,ZE,ZF]
     refine' hN 13 ?_
     try simp only [Act.put,ZA,ZB,ZC,ZD,ZE,ZF]
     refine' hN 14 ?_
     try simp only [Act.put,ZA,ZB,ZC,ZD,ZE,ZF]
     refine' hN 15 ?_
     try simp only [Act.put,ZA,ZB,ZC,ZD,ZE,ZF]
     refine' hN 16 ?_
     try simp only [Act.put,ZA,ZB,ZC,ZD,ZE,ZF]
     refine' hN 17 ?_
     try simp only [Act.put,ZA,ZB,ZC,ZD,ZE,ZF]
     refine' hN 18 ?_
     try simp only [Act.put,ZA,ZB,ZC,ZD,ZE,ZF]
     refine' hY 19 ?_
     try simp only [Act.put,ZA,ZB,ZC,ZD,ZE,ZF]
     refine' hY 20 ?_
     try simp only [Act.put,ZA,ZB,ZC,ZD,ZE,ZF]
     refine' hN 21 ?_
     try simp only [Act.put,ZA,ZB,ZC,ZD,ZE,ZF]
     refine' hN 22 ?_
     try simp only [Act.put,ZA,ZB,ZC,ZD,ZE,ZF]
     refine' hN 23 ?_
     try simp only [Act.put,ZA,ZB,ZC,ZD,ZE,ZF]
     refine' hN 24 ?_
     try simp only [Act.put,ZA,ZB,ZC,ZD,ZE,ZF]
     refine' hN 25 ?_
     try simp only [Act.put,ZA,ZB,ZC,ZD,ZE,ZF]
     refine' hN 26 ?_
     try simp only [Act.put,ZA,ZB,ZC,ZD,ZE,ZF]
     refine' hN 27 ?_
     try simp only [Act.put,ZA,ZB,ZC,ZD,ZE,ZF]
     refine' hN 28 ?_
     try simp only [Act.put,ZA,ZB,ZC,ZD,ZE,ZF]
     refine' hN 29 ?_
     try simp only [Act.put,ZA,ZB,ZC,ZD,ZE,ZF]
     refine' hY 30 ?_
     try simp only [Act.put,ZA,ZB,ZC,ZD,ZE,ZF]
     refine wpAnyH_done (by kernel_rfl) ?_ _
     go_wp2_with fail
     go_meet
     exact ⟨by rw [HF1.out], rfl, below_drawn HB.out 1⟩
    ·obtain ⟨k', hk'⟩ : ∃ k', k - 1 = k' := ⟨_, rfl⟩
     have hk1 : k' < s.length := by omega
     obtain ⟨q', hq1', hq2'⟩ := HSA.out k' hk1
     obtain ⟨ps', hps', _, hcs'⟩ := (L1.out.below HB.out).int hk1
     injection hps' with hps'
     subst hps'
     rw [hq1'] at hcs'
     have hqv : q' < lv.length := by have := HE.out; omega
     obtain ⟨pv', hpv', _, hcv'⟩ := ((H'.out.up B1.out).below HB.out).int hqv
     injection hpv' with hpv'
     subst hpv'
     obtain ⟨pc', hpc', _, hcc'⟩ := ((H.out.up B1.out).below HB.out).int hq2'
     injection hpc' with hpc'
     subst hpc'
     have hsk' : s.getD k' 0 = (q' : Int) := by simp [hk1, hq1']
     obtain ⟨y, hy⟩ : ∃ y, lv[q'] = y := ⟨_, rfl⟩
     obtain ⟨z, hz⟩ : ∃ y, cl[q'] = y := ⟨_, rfl⟩
     have hyg : lv.getD q' 0 = y := by simp [hqv, hy]
     have hzg : cl.getD q' 0 = z := by simp [hq2', hz]
     have HFE : Hid ((x != y || z == 10) = fr) := Lib.hid (by
      rw [← HFR.out, freshAt, hk', HKQ.out.1, hsk', Int.toNat_natCast, Int.toNat_natCast, HKQ.out.2, hyg, hzg]
      rw [show (k == 0) = false by simpa using hk0]; rfl)
     rw [hy] at hcv'
     rw [hz] at hcc'
     have hkb : ((k : Int) == 0) = false := by simp; omega
     have hwk : IntKind.i64.wrap ((k : Int) - 1) = (k' : Int) := by rw [IntWalk.i64_in _ (by omega)]; omega
     have c0 : (0 : Int) ≤ (k' : Int) := by omega
     have c1 : (k' : Int) < (s.length : Int) := by omega
     have c2 : (0 : Int) ≤ (q' : Int) := by omega
     have c3 : (q' : Int) < (lv.length : Int) := by omega
     have c4 : (q' : Int) < (cl.length : Int) := by omega
     have hcr : wr.drew.cell? (ps.add k) = some (.int .i64 q) ∧ wr.drew.cell? (pv.add q) = some (.int .i64 x) ∧ wr.drew.cell? (ps.add k') = some (.int .i64 q') ∧ wr.drew.cell? (pv.add q') = some (.int .i64 y) ∧ wr.drew.cell? (pc.add q') = some (.int .i64 z) := ⟨hcs, hcv, hcs', hcv', hcc'⟩
     clear hk' hq1' hsk' hy hz hyg hzg hk0
     rcases hxy : (x != y) with _ | _
     ·rcases hz10 : (z == 10) with _ | _
      ·have HF1 : Hid (false = fr) := Lib.hid (by rw [← HFE.out, hxy, hz10]; rfl)
       go_wp2_with fail
       clear hcs hcv hcs' hcv' hcc'
       refine wp_region_held_drew (S := fun w' => w'.cell? (ps.add k) = some (.int .i64 q) ∧ w'.cell? (pv.add q) = some (.int .i64 x) ∧ w'.cell? (ps.add k') = some (.int .i64 q') ∧ w'.cell? (pv.add q') = some (.int .i64 y) ∧ w'.cell? (pc.add q') = some (.int .i64 z)) (by kernel_rfl) (hcr) (fun hHeld => ?_)
       refine' hY 0 ?_
       try simp only [Act.put,ZA,ZB,ZD,ZE,ZF]
       refine' hY 1 ?_
       try simp only [Act.put,ZA,ZB,ZC,ZD,ZE,ZF]
       refine' hY 2 ?_
       try simp only [Act.put,ZA,ZB,ZC,ZD,ZE,ZF]
       refine' hY 3 ?_
       try simp only [Act.put,ZA,ZB,ZC,ZD,ZE,ZF]
       refine' hY 4 ?_
       try simp only [Act.put,ZA,ZB,ZC,ZD,ZE,ZF]
       refine' hY 5 ?_
       try simp only [Act.put,ZA,ZB,ZC,ZD,ZE,ZF]
       refine' hY 6 ?_
       try simp only [Act.put,ZA,ZB,ZC,ZD,ZE,ZF]
       refine' hY 7 ?_
       try simp only [Act.put,ZA,ZB,ZC,ZD,ZE,ZF]
       refine' hY 8 ?_
       try simp only [Act.put,ZA,ZB,ZC,ZD,ZE,ZF]
       refine' hY 9 ?_
       try simp only [Act.put,ZA,ZB,ZC,ZD,ZE,ZF]
       refine' hY 10 ?_
       try simp only [Act.put,ZA,ZB,ZC,ZD,ZE,ZF]
       refine' hY 11 ?_
       try simp only [Act.put,ZA,ZB,ZC,ZD,ZE,ZF]
       refine' hY 12 ?_
       try simp only [Act.put,ZA,ZB,ZC,ZD,ZE,ZF]
       refine' hY 13 ?_
       try simp only [Act.put,ZA,ZB,ZC,ZD,ZE,ZF]
       refine' hY 14 ?_
       try simp only [Act.put,ZA,ZB,ZC,ZD,ZE,ZF]
       refine' hY 15 ?_
       try simp only [Act.put,ZA,ZB,ZC,ZD,ZE,ZF]
       refine' hY 16 ?_
       try simp only [Act.put,ZA,ZB,ZC,ZD,ZE,ZF]
       refine' hY 17 ?_
       try simp only [Act.put,ZA,ZB,ZC,ZD,ZE,ZF]
       refine' hY 18 ?_
       try simp only [Act.put,ZA,ZB,ZC,ZD,ZE,ZF]
       refine' hY 19 ?_
       try simp only [Act.put,ZA,ZB,ZC,ZD,ZE,ZF]
       refine' hY 20 ?_
       try simp only [Act.put,ZA,ZB,ZC,ZD,ZE,ZF]
       refine' hY 21 ?_
       try simp only [Act.put,ZA,ZB,ZC,ZD,ZE,ZF]
       refine' hY 22 ?_
       try simp only [Act.put,ZA,ZB,ZC,ZD,ZE,ZF]
       refine' hY 23 ?_
       try simp only [Act.put,ZA,ZB,ZC,ZD,ZE,ZF]
       refine' hY 24 ?_
       try simp only [Act.put,ZA,ZB,ZC,ZD,ZE,ZF]
       refine' hY 25 ?_
       try simp only [Act.put,ZA,ZB,ZC,ZD,ZE,ZF]
       refine' hY 26 ?_
       try simp only [Act.put,ZA,ZB,ZC,ZD,ZE,ZF]
       refine' hY 27 ?_
       try simp only [Act.put,ZA,ZB,ZC,ZD,ZE,ZF]
       refine' hY 28 ?_
       try simp only [Act.put,ZA,ZB,ZC,ZD,ZE,ZF]
       refine' hY 29 ?_
       try simp only [Act.put,ZA,ZB,ZC,ZD,ZE,ZF]
       refine' hY 30 ?_
       try simp only [Act.put,ZA,ZB,ZC,ZD,ZE,ZF]
       refine wpAnyH_done (by kernel_rfl) ?_ _
       go_wp2_with fail
       go_meet
       exact ⟨by rw [HF1.out], rfl, below_drawn HB.out 1⟩
      ·have HF1 : Hid (true = fr) := Lib.hid (by rw [← HFE.out, hxy, hz10]; rfl)
       go_wp2_with fail
       clear hcs hcv hcs' hcv' hcc'
       refine wp_region_held_drew (S := fun w' => w'.cell? (ps.add k) = some (.int .i64 q) ∧ w'.cell? (pv.add q) = some (.int .i64 x) ∧ w'.cell? (ps.add k') = some (.int .i64 q') ∧ w'.cell? (pv.add q') = some (.int .i64 y) ∧ w'.cell? (pc.add q') = some (.int .i64 z)) (by kernel_rfl) (hcr) (fun hHeld => ?_)
       refine' hY 0 ?_
       try simp only [Act.put,ZA,ZB,ZD,ZE,ZF]
       refine' hY 1 ?_
       try simp only [Act.put,ZA,ZB,ZC,ZD,ZE,ZF]
       refine' hY 2 ?_
       try simp only [Act.put,ZA,ZB,ZC,ZD,ZE,ZF]
       refine' hY 3 ?_
       try simp only [Act.put,ZA,ZB,ZC,ZD,ZE,ZF]
       refine' hY 4 ?_
       try simp only [Act.put,ZA,ZB,ZC,ZD,ZE,ZF]
       refine' hY 5 ?_
       try simp only [Act.put,ZA,ZB,ZC,ZD,ZE,ZF]
       refine' hY 6 ?_
       try simp only [Act.put,ZA,ZB,ZC,ZD,ZE,ZF]
       refine' hY 7 ?_
       try simp only [Act.put,ZA,ZB,ZC,ZD,ZE,ZF]
       refine' hY 8 ?_
       try simp only [Act.put,ZA,ZB,ZC,ZD,ZE,ZF]
       refine' hY 9 ?_
       try simp only [Act.put,ZA,ZB,ZC,ZD,ZE,ZF]
       refine' hY 10 ?_
       try simp only [Act.put,ZA,ZB,ZC,ZD,ZE,ZF]
       refine' hY 11 ?_
       try simp only [Act.put,ZA,ZB,ZC,ZD,ZE,ZF]
       refine' hY 12 ?_
       try simp only [Act.put,ZA,ZB,ZC,ZD,ZE,ZF]
       refine' hY 13 ?_
       try simp only [Act.put,ZA,ZB,ZC,ZD,ZE,ZF]
       refine' hY 14 ?_
       try simp only [Act.put,ZA,ZB,ZC,ZD,ZE,ZF]
       refine' hY 15 ?_
       try simp only [Act.put,ZA,ZB,ZC,ZD,ZE,ZF]
       refine' hY 16 ?_
       try simp only [Act.put,ZA,ZB,ZC,ZD,ZE,ZF]
       refine' hY 17 ?_
       try simp only [Act.put,ZA,ZB,ZC,ZD,ZE,ZF]
       refine' hY 18 ?_
       try simp only [Act.put,ZA,ZB,ZC,ZD,ZE,ZF]
       refine' hY 19 ?_
       try simp only [Act.put,ZA,ZB,ZC,ZD,ZE,ZF]
       refine' hY 20 ?_
       try simp only [Act.put,ZA,ZB,ZC,ZD,ZE,ZF]
       refine' hY 21 ?_
       try simp only [Act.put,ZA,ZB,ZC,ZD,ZE,ZF]
       refine' hY 22 ?_
       try simp only [Act.put,ZA,ZB,ZC,ZD,ZE,ZF]
       refine' hY 23 ?_
       try simp only [Act.put,ZA,ZB,ZC,ZD,ZE,ZF]
       refine' hY 24 ?_
       try simp only [Act.put,ZA,ZB,ZC,ZD,ZE,ZF]
       refine' hY 25 ?_
       try simp only [Act.put,ZA,ZB,ZC,ZD,ZE,ZF]
       refine' hY 26 ?_
       try simp only [Act.put,ZA,ZB,ZC,ZD,ZE,ZF]
       refine' hY 27 ?_
       try simp only [Act.put,ZA,ZB,ZC,ZD,ZE,ZF]
       refine' hY 28 ?_
       try simp only [Act.put,ZA,ZB,ZC,ZD,ZE,ZF]
       refine' hY 29 ?_
       try simp only [Act.put,ZA,ZB,ZC,ZD,ZE,ZF]
       refine' hY 30 ?_
       try simp only [Act.put,ZA,ZB,ZC,ZD,ZE,ZF]
       refine wpAnyH_done (by kernel_rfl) ?_ _
       go_wp2_with fail
       go_meet
       exact ⟨by rw [HF1.out], rfl, below_drawn HB.out 1⟩
     ·have HF1 : Hid (true = fr) := Lib.hid (by rw [← HFE.out, hxy]; rfl)
      go_wp2_with fail
      clear hcs hcv hcs' hcv' hcc'
      refine wp_region_held_drew (S := fun w' => w'.cell? (ps.add k) = some (.int .i64 q) ∧ w'.cell? (pv.add q) = some (.int .i64 x) ∧ w'.cell? (ps.add k') = some (.int .i64 q') ∧ w'.cell? (pv.add q') = some (.int .i64 y) ∧ w'.cell? (pc.add q') = some (.int .i64 z)) (by kernel_rfl) (hcr) (fun hHeld => ?_)
      refine' hY 0 ?_
      try simp only [Act.put,ZA,ZB,ZD,ZE,ZF]
      refine' hY 1 ?_
      try simp only [Act.put,ZA,ZB,ZC,ZD,ZE,ZF]
      refine' hY 2 ?_
      try simp only [Act.put,ZA,ZB,ZC,ZD,ZE,ZF]
      refine' hY 3 ?_
      try simp only [Act.put,ZA,ZB,ZC,ZD,ZE,ZF]
      refine' hY 4 ?_
      try simp only [Act.put,ZA,ZB,ZC,ZD,ZE,ZF]
      refine' hY 5 ?_
      try simp only [Act.put,ZA,ZB,ZC,ZD,ZE,ZF]
      refine' hY 6 ?_
      try simp only [Act.put,ZA,ZB,ZC,ZD,ZE,ZF]
      refine' hY 7 ?_
      try simp only [Act.put,ZA,ZB,ZC,ZD,ZE,ZF]
      refine' hY 8 ?_
      try simp only [Act.put,ZA,ZB,ZC,ZD,ZE,ZF]
      refine' hY 9 ?_
      try simp only [Act.put,ZA,ZB,ZC,ZD,ZE,ZF]
      refine' hY 10 ?_
      try simp only [Act.put,ZA,ZB,ZC,ZD,ZE,ZF]
      refine' hY 11 ?_
      try simp only [Act.put,ZA,ZB,ZC,ZD,ZE,ZF]
      refine' hY 12 ?_
      try simp only [Act.put,ZA,ZB,ZC,ZD,ZE,ZF]
      refine' hY 13 ?_
      try simp only [Act.put,ZA,ZB,ZC,ZD,ZE,ZF]
      refine' hY 14 ?_
      try simp only [Act.put,ZA,ZB,ZC,ZD,ZE,ZF]
      refine' hY 15 ?_
      try simp only [Act.put,ZA,ZB,ZC,ZD,ZE,ZF]
      refine' hY 16 ?_
      try simp only [Act.put,ZA,ZB,ZC,ZD,ZE,ZF]
      refine' hY 17 ?_
      try simp only [Act.put,ZA,ZB,ZC,ZD,ZE,ZF]
      refine' hY 18 ?_
      try simp only [Act.put,ZA,ZB,ZC,ZD,ZE,ZF]
      refine' hY 19 ?_
      try simp only [Act.put,ZA,ZB,ZC,ZD,ZE,ZF]
      refine' hY 20 ?_
      try simp only [Act.put,ZA,ZB,ZC,ZD,ZE,ZF]
      refine' hN 21 ?_
      try simp only [Act.put,ZA,ZB,ZC,ZD,ZE,ZF]
      refine' hN 22 ?_
      try simp only [Act.put,ZA,ZB,ZC,ZD,ZE,ZF]
      refine' hN 23 ?_
      try simp only [Act.put,ZA,ZB,ZC,ZD,ZE,ZF]
      refine' hN 24 ?_
      try simp only [Act.put,ZA,ZB,ZC,ZD,ZE,ZF]
      refine' hN 25 ?_
      try simp only [Act.put,ZA,ZB,ZC,ZD,ZE,ZF]
      refine' hN 26 ?_
      try simp only [Act.put,ZA,ZB,ZC,ZD,ZE,ZF]
      refine' hN 27 ?_
      try simp only [Act.put,ZA,ZB,ZC,ZD,ZE,ZF]
      refine' hN 28 ?_
      try simp only [Act.put,ZA,ZB,ZC,ZD,ZE,ZF]
      refine' hN 29 ?_
      try simp only [Act.put,ZA,ZB,ZC,ZD,ZE,ZF]
      refine' hY 30 ?_
      try simp only [Act.put,ZA,ZB,ZC,ZD,ZE,ZF]
      refine wpAnyH_done (by kernel_rfl) ?_ _
      go_wp2_with fail
      go_meet
      exact ⟨by rw [HF1.out], rfl, below_drawn HB.out 1⟩
   case rest =>
    obtain ⟨rfl, hheap, hbx⟩ := hcut
    have NX := Lib.hid (HN.out.same hheap)
    have BX := Lib.hid hbx
    have hll := (listsN_le cl lv s k).1
    have hesl : es.length ≤ 1000000 := by have := NX.out.len; rw [List.length_map] at this; omega
    clear hheap hbx
    go_upto_if 51 with fail
    go_cut [5] (fun v wx => ∃ es2, Nest wx w1.heap.size 22 3 v es2 ((if fr then listsN cl lv s k ++ [[]] else listsN cl lv s k).map (ints .i64)) ∧ Below w1.heap.size w1 wx)
    case first =>
     rcases fr with _ | _
     ·go_wp2_with fail
      go_meet
      exact ⟨es, NX.out, BX.out⟩
     ·go_wp2_with (first
       | (at_builtin; refine app_lit nestT w1 wc w1.heap.size _ _ #[.slice none 0 0] 1 _ es rfl rfl rfl rfl NX.out.outer (by simp [Value.oneCell']) BX.out BX.out.size (by unfold maxLen; simp; omega) (by simp; omega) ?_; intro v2 w2 o2 b2 g2 _; have N2 := Lib.hid (NX.out.pushNil (by decide) o2 g2); have B2 := Lib.hid b2; clear o2 b2 g2)
       | fail)
      go_meet
      exact ⟨_, by simpa [ints] using N2.out, B2.out⟩
    case rest =>
     obtain ⟨es2, hn2, hb2⟩ := hcut
     obtain ⟨L2, hL2⟩ : ∃ L, (if fr then listsN cl lv s k ++ [[]] else listsN cl lv s k) = L := ⟨_, rfl⟩
     rw [hL2] at hn2
     have HL2 : Hid (listsN cl lv s (k + 1) = addLast L2 q) := Lib.hid (by rw [listsN, HFR.out, hL2, HKQ.out.1])
     have hpos : 0 < L2.length := by have := (listsN_le cl lv s (k + 1)).2 (by omega); rw [HL2.out, addLast_length] at this; exact this
     have hl6 : L2.length ≤ 1000001 := by have := (listsN_le cl lv s (k + 1)).1; rw [HL2.out, addLast_length] at this; omega
     have hlen : es2.length = L2.length := by have := hn2.len; rwa [List.length_map] at this
     obtain ⟨g, co2, hv2, hrow⟩ := hn2.outer.inRow (by omega)
     subst hv2
     obtain ⟨t, ht⟩ : ∃ t, es2.length - 1 = t := ⟨_, rfl⟩
     have htl : t < es2.length := by omega
     have htL : t < L2.length := by omega
     have hin := hn2.inner t htl (by rw [List.length_map]; omega)
     rw [List.getElem_map] at hin
     obtain ⟨xs, hxs⟩ : ∃ xs, L2[t] = xs := ⟨_, rfl⟩
     rw [hxs] at hin
     obtain ⟨m, hm⟩ : ∃ m, xs.length = m := ⟨_, rfl⟩
     have hm6 : m ≤ 1000000 := by
      have hmem : xs ∈ L2 := by rw [← hxs]; exact List.getElem_mem htL
      rw [← hL2] at hmem
      rw [← hm]
      have hbd := listsN_mem cl lv s k
      cases fr with
      | false => exact Nat.le_trans (hbd xs (by simpa using hmem)) (by omega)
      | true =>
       rcases List.mem_append.1 (by simpa using hmem : xs ∈ listsN cl lv s k ++ [[]]) with h1 | h1
       ·exact Nat.le_trans (hbd xs h1) (by omega)
       ·rw [List.mem_singleton.1 h1]; simp
     obtain ⟨Ae, ce, hev, _, _, _⟩ := hin.form
     rw [List.length_map, hm] at hev
     have hco := hrow.cell htl
     rw [hev] at hco
     obtain ⟨ps', hps', hpb, hcs2⟩ := (L1.out.below hb2).int hlt
     injection hps' with hps'
     subst hps'
     have hsq : s[k] = (q : Int) := by have := HKQ.out.1; simpa [hlt] using this
     rw [hsq] at hcs2
     have hw1 : IntKind.i64.wrap ((es2.length : Int) - 1) = (t : Int) := by rw [IntWalk.i64_in _ (by omega)]; omega
     have d0 : (0 : Int) ≤ (t : Int) := by omega
     have d1 : (t : Int) < (es2.length : Int) := by omega
     have hgin := hrow.inside
     have SK : Hid (∀ w', Below wc.heap.size wc w' → w'.cell? ⟨g, t, none⟩ = some (.slice Ae m ce) ∧ w'.cell? (ps.add k) = some (.int .i64 q)) := Lib.hid fun w' hb => ⟨by rw [hb.cell (show g < wc.heap.size by omega)]; exact hco, by rw [hb.cell (World.block_lt_of_cell? wc _ hcs2)]; exact hcs2⟩
     have hk0 := SK.out wc.drew (by exact below_same (Below.refl _ _) rfl rfl rfl rfl)
     have N2 := Lib.hid ((hn2.same (w' := wc.drew) rfl).alloc (.cells #[.int .i64 q] 3))
     have BZ := Lib.hid hb2
     have OI := Lib.hid (show Own (wc.drew.alloc (.cells #[.int .i64 q] 3)) w1.heap.size 3 (.slice Ae m ce) (ints .i64 xs) from hev ▸ (hin.same (w' := wc.drew) rfl).alloc _)
     have HEV := Lib.hid hev
     have HT := Lib.hid ht
     have HM := Lib.hid hm
     have HLN := Lib.hid hlen
     have HXS := Lib.hid hxs
     clear hn2 hrow hin hev hco hcs2 hsq ht hm hlen hxs hL2
     go_wp2_with fail
     refine wp_region_E (S := fun w' => w'.cell? ⟨g, t, none⟩ = some (.slice Ae m ce) ∧ w'.cell? (ps.add k) = some (.int .i64 q)) [17] (by kernel_rfl) (hk0) (fun hHeld hZ => ?_)
     refine' eY 0 hHeld hZ fun hZ => ?_
     try simp only [Act.put,ZA,ZB,ZD,ZE,ZF]
     refine' eY 1 hHeld hZ fun hZ => ?_
     try simp only [Act.put,ZA,ZB,ZC,ZD,ZE,ZF]
     refine' eY 2 hHeld hZ fun hZ => ?_
     try simp only [Act.put,ZA,ZB,ZC,ZD,ZE,ZF]
     refine' eY 3 hHeld hZ fun hZ => ?_
     try simp only [Act.put,ZA,ZB,ZC,ZD,ZE,ZF]
     refine' eY 4 hHeld hZ fun hZ => ?_
     try simp only [Act.put,ZA,ZB,ZC,ZD,ZE,ZF]
     refine' eY 5 hHeld hZ fun hZ => ?_
     try simp only [Act.put,ZA,ZB,ZC,ZD,ZE,ZF]
     refine' eY 6 hHeld hZ fun hZ => ?_
     try simp only [Act.put,ZA,ZB,ZC,ZD,ZE,ZF]
     refine' eY 7 hHeld hZ fun hZ => ?_
     try simp only [Act.put,ZA,ZB,ZC,ZD,ZE,ZF]
     refine' eY 8 hHeld hZ fun hZ => ?_
     try simp only [Act.put,ZA,ZB,ZC,ZD,ZE,ZF]
     refine' eY 9 hHeld hZ fun hZ => ?_
     try simp only [Act.put,ZA,ZB,ZC,ZD,ZE,ZF]
     refine' eY 10 hHeld hZ fun hZ => ?_
     try simp only [Act.put,ZA,ZB,ZC,ZD,ZE,ZF]
     refine' eY 11 hHeld hZ fun hZ => ?_
     try simp only [Act.put,ZA,ZB,ZC,ZD,ZE,ZF]
     refine' eY 12 hHeld hZ fun hZ => ?_
     try simp only [Act.put,ZA,ZB,ZC,ZD,ZE,ZF]
     refine' eY 13 hHeld hZ fun hZ => ?_
     try simp only [Act.put,ZA,ZB,ZC,ZD,ZE,ZF]
     refine eA 14 fun K hK => ?_
     go_simp
     refine eB hK hZ (SK.out _ (by exact below_same (below_alloc wc _) rfl rfl rfl rfl)) fun hHeld hZ => ?_
     clear hK K
     try simp only [Act.put,ZA,ZB,ZC,ZD,ZE,ZF]
     refine eA 15 fun K hK => ?_
     refine step_app intsT wc _ w1.heap.size _ (.tmp 64) (.tmp 69) (.slice Ae m ce) (ints .i64 xs) [.int .i64 q] _ _ _ rfl rfl rfl rfl rfl (Own.same OI.out rfl) (Lies.sameHeap (Lies.lit (w := wc.drew) (e := 3) #[.int .i64 q]) rfl) (by simp [Value.oneCell']) (by exact below_same ((below_alloc wc _).mono BZ.out.size) rfl rfl rfl rfl) (by have := BZ.out.size; simp; omega) (by have := HM.out; unfold maxLen; simp; omega) (by have := HM.out; simp; omega) ?_
     intro v2 w2 o2 b2 g2 e2
     have O2 := Lib.hid o2
     have B2 := Lib.hid b2
     have G2 := Lib.hid g2
     have E2 := Lib.hid e2
     obtain ⟨A2, c2, rfl, _, _, _⟩ := o2.form
     clear o2 b2 g2 e2
     have OUT := Lib.hid (N2.out.outer.keep G2.out (.inr (fun e => by
      rw [← HEV.out] at e
      rcases N2.out.far (by decide) t htl with h1 | h1
      ·rw [h1] at e; cases e
      ·exact h1 e.symm)))
     have SK2 : w2.cell? ⟨g, t, none⟩ = some (.slice Ae m ce) ∧ w2.cell? (ps.add k) = some (.int .i64 q) := ⟨by
      have h1 := Row.cell (show Row w2 w1.heap.size 22 g co2 es2 from OUT.out) htl
      rw [h1, HEV.out], by rw [B2.out.cell (by rw [add_block]; exact hpb)]; exact (SK.out wc (Below.refl _ _)).2⟩
     refine eB hK hZ (SK2) fun hHeld hZ => ?_
     clear hK K
     try simp only [Act.put,ZA,ZB,ZC,ZD,ZE,ZF]
     refine' eX 16 hZ fun hZ => ?_
     try simp only [Act.put,ZA,ZB,ZC,ZD,ZE,ZF]
     refine eA 17 fun K hK => ?_
     refine step_store (e := 22) w2 w1.heap.size (.tmp 71) (.tmp 70) g t co2 (.slice A2 (ints .i64 xs ++ [Value.int .i64 (q : Int)]).length c2) es2 w2 rfl rfl rfl (by kernel_rfl) rfl rfl rfl OUT.out.asN htl (Below.refl _ _) ?_
     intro w3 r3 b3 g3
     have R3 := Lib.hid r3
     have B3 := Lib.hid b3
     have G3 := Lib.hid g3
     clear r3 b3 g3
     refine eE hK hZ fun hZ => ?_
     clear hK K
     try simp only [Act.put,ZA,ZB,ZC,ZD,ZE,ZF]
     refine wpAnyE_done (by kernel_rfl) ?_ _
     clear hZ
     go_wp2_with fail
     go_roundg (s.length - (k + 1))
     case measure => omega
     case rel =>
      have hn3 := N2.out.grow (by decide) htl O2.out (by rw [HEV.out]; exact G2.out) (by rw [HEV.out]; exact E2.out) (by unfold Own; rw [List.length_set]; exact R3.out) G3.out
      rw [List.length_set, addLast_map (by have := HLN.out; have := HT.out; omega) htL HXS.out, ← HL2.out] at hn3
      exact ⟨k + 1, _, by omega, by go_num, hn3, (BZ.out.trans B2.out).trans B3.out⟩
  ·obtain rfl : k = s.length := by omega
   go_wp2
   go_ret
   exact ⟨_, es, rfl, HN.out.weaken B1.out.size, B1.out.trans (HB.out.mono B1.out.size)⟩
end Go.Proofs.Ytadfleopbpomfaa
namespace Go.Proofs.Ytadfleopbpomfaa
open Go.RowKit
theorem rlists_all (A : Option Addr) (cl : List Int) (c : Nat) (A' : Option Addr) (lv : List Int) (c' : Nat) (w : World) (h : Lies w w.heap.size A (ints .i64 cl)) (h' : Lies w w.heap.size A' (ints .i64 lv)) (hl : cl.length ≤ 1000000) :
 Calls Try.prog 51 #[.slice A cl.length c, .slice A' lv.length c'] w fun ed w' => ∃ v es, ed = .returned v ∧ Nest w' w.heap.size 22 3 v es ((listsI cl lv).map (ints .i64)) ∧ Below w.heap.size w w' := by
 by_cases he : cl.length = lv.length
 ·have hL : listsI cl lv = listsN cl lv (seenI cl) (seenI cl).length := by rw [listsI, if_pos he]
  rw [hL]
  exact rlists_any A cl c A' lv c' w h h' hl he
 ·have hL : listsI cl lv = [] := by rw [listsI, if_neg he]
  rw [hL]
  have hne : ((cl.length : Int) != (lv.length : Int)) = true := by simp; omega
  go_enter Try.func51, Try.ntmps51
  go_wp2_with fail
  go_ret
  exact ⟨_, [], rfl, Nest.empty _ _ _ _, Below.refl _ _⟩
theorem listsI_le (cl lv : List Int) : (listsI cl lv).length ≤ cl.length ∧ ∀ l ∈ listsI cl lv, l.length ≤ cl.length := by
 have h1 := seenN_le cl cl.length
 unfold listsI
 split
 ·have h2 := (listsN_le cl lv (seenI cl) (seenI cl).length).1
  have h3 := listsN_mem cl lv (seenI cl) (seenI cl).length
  unfold seenI at *
  exact ⟨by omega, fun l hl => Nat.le_trans (h3 l hl) h1⟩
 ·simp
def headI (r : List Int) : Int := r.getD 0 0
def lastI (r : List Int) : Int := r.getD (r.length - 1) 0
structure Shown (w : World) (B : Nat) (p : Addr) (k : Nat) (r : List Int) where
 b : Nat
 off : Nat
 c : Nat
 lt : b < B
 outer : p.block < B
 cell : w.cell? (p.add k) = some (.slice (some ⟨b, off, none⟩) r.length c)
 cells : ∀ i (hi : i < r.length), w.cell? ⟨b, off + i, none⟩ = some (.int .i64 r[i])
theorem Nest.shown {w w1 : World} {B : Nat} {eo ei : TypeId} {A : Option Addr} {n c : Nat} {es : List Value} {L : List (List Int)} (h : Nest w B eo ei (.slice A n c) es (L.map (ints .i64))) (hb : Below w.heap.size w w1) {k : Nat} (hk : k < L.length) (hne : L[k] ≠ []) :
 ∃ p, A = some p ∧ Nonempty (Shown w1 w.heap.size p k L[k]) := by
 obtain ⟨A1, c1, hv, hl, _, _⟩ := h.outer.form
 injection hv with hA _ _
 subst hA
 have hlen := h.len
 rw [List.length_map] at hlen
 obtain ⟨p, rfl, hpb, hcell⟩ := (hl.below hb).cellAt (i := k) (by omega)
 have hin := h.inner k (by omega) (by rw [List.length_map]; exact hk)
 rw [List.getElem_map] at hin
 obtain ⟨Ai, ci, hev, hli, _, _⟩ := hin.form
 obtain ⟨b, off, rfl, hbb, hcs⟩ := (hli.below hb).plainInts (List.length_pos_iff.2 hne)
 rw [hev, List.length_map] at hcell
 exact ⟨p, rfl, ⟨⟨b, off, ci, hbb, hpb, hcell, hcs⟩⟩⟩
end Go.Proofs.Ytadfleopbpomfaa
namespace Go.Proofs.Ytadfleopbpomfaa
open Go.RowKit
def firstAt (L : List (List Int)) (x : Int) : Int := match (List.range L.length).find? (fun k => headI (L.getD k []) == x) with
 | some k => k
 | none => -1
theorem firstAt_none {L : List (List Int)} {x : Int} (h : ∀ k (hk : k < L.length), headI L[k] ≠ x) : firstAt L x = -1 := by
 unfold firstAt
 rw [List.find?_eq_none.2]
 intro k hk
 have hk := List.mem_range.1 hk
 simpa [hk] using h k hk
theorem firstAt_some {L : List (List Int)} {x : Int} {k : Nat} (hk : k < L.length) (he : headI L[k] = x) (hn : ∀ j (hj : j < k), headI (L[j]'(by omega)) ≠ x) : firstAt L x = k := by
 unfold firstAt
 have : (List.range L.length).find? (fun k => headI (L.getD k []) == x) = some k := by
  rw [List.find?_range_eq_some]
  refine ⟨by simpa [hk] using he, by simpa using hk, fun j hj => ?_⟩
  have hjl : j < L.length := by omega
  simpa [hjl] using hn j hj
 rw [this]
def nextI (cl m : List Int) (L : List (List Int)) (i : Nat) : Int :=
 if isOpens (cl.getD (lastI (L.getD i [])).toNat 0) = false ∨ m.getD (lastI (L.getD i [])).toNat 0 < 0 then -1 else firstAt L (m.getD (lastI (L.getD i [])).toNat 0)
def Within (L : List (List Int)) (n : Nat) : Prop := ∀ r ∈ L, r ≠ [] ∧ r.length ≤ n ∧ ∀ x ∈ r, ∃ q : Nat, x = (q : Int) ∧ q < n
theorem Within.last {L : List (List Int)} {n : Nat} (h : Within L n) {i : Nat} (hi : i < L.length) : ∃ q : Nat, lastI L[i] = (q : Int) ∧ q < n := by
 obtain ⟨h1, _, h2⟩ := h _ (List.getElem_mem hi)
 have hp := List.length_pos_iff.2 h1
 refine h2 _ ?_
 unfold lastI
 have : L[i].getD (L[i].length - 1) 0 = L[i][L[i].length - 1] := by simp [List.getElem?_eq_getElem (show L[i].length - 1 < L[i].length by omega)]
 rw [this]
 exact List.getElem_mem _
set_option maxHeartbeats 4000000 in
theorem rnext_any (A : Option Addr) (cl : List Int) (c : Nat) (A1 : Option Addr) (c1 : Nat) (es : List Value) (L : List (List Int)) (A' : Option Addr) (m : List Int) (c' : Nat) (i : Nat) (B : Nat) (w : World)
 (h : Lies w w.heap.size A (ints .i64 cl)) (hN : Nest w B 22 3 (.slice A1 L.length c1) es (L.map (ints .i64))) (h' : Lies w w.heap.size A' (ints .i64 m)) (hl : cl.length ≤ 1000000) (hm : m.length = cl.length) (hW : Within L cl.length) (hLl : L.length ≤ 1000000) (hi : i < L.length) :
 Calls Try.prog 53 #[.slice A cl.length c, .slice A1 L.length c1, .slice A' m.length c', .int .i64 (i : Int)] w fun ed w' => ed = .returned (.int .i64 (nextI cl m L i)) ∧ Below w.heap.size w w' := by
 have H := Lib.hid h
 have H' := Lib.hid h'
 have NN := Lib.hid hN
 have WW := Lib.hid hW
 obtain ⟨q, hq, hqn⟩ := hW.last hi
 have hgi : L.getD i [] = L[i] := by simp [hi]
 obtain ⟨k', hk'⟩ : ∃ k, cl[q] = k := ⟨_, rfl⟩
 have hqm : q < m.length := by omega
 obtain ⟨mv, hmv⟩ : ∃ k, m[q] = k := ⟨_, rfl⟩
 obtain ⟨z, hz⟩ : ∃ z, nextI cl m L i = z := ⟨_, rfl⟩
 have HZ : Hid (z = if isOpens k' = false ∨ mv < 0 then -1 else firstAt L mv) := Lib.hid (by
  rw [← hz, nextI, hgi, hq, Int.toNat_natCast, show cl.getD q 0 = k' by simp [hqn, hk'], show m.getD q 0 = mv by simp [hqm, hmv]])
 rw [hz]
 obtain ⟨p, hpA, ⟨S⟩⟩ := hN.shown (Below.refl _ _) hi (hW _ (List.getElem_mem hi)).1
 obtain ⟨b, off, ci, hbb, hpb, hcell, hcs⟩ := S
 obtain ⟨n, hn⟩ : ∃ n, L[i].length = n := ⟨_, rfl⟩
 have hn0 : 0 < n := by rw [← hn]; exact List.length_pos_iff.2 (hW _ (List.getElem_mem hi)).1
 have hn6 : n ≤ 1000000 := by have := (hW _ (List.getElem_mem hi)).2.1; omega
 have hc1 := hcs (n - 1) (by omega)
 have hlast : L[i][n - 1]'(by omega) = (q : Int) := by
  have e : L[i][L[i].length - 1]'(by omega) = lastI L[i] := by simp [lastI, List.getElem?_eq_getElem (show L[i].length - 1 < L[i].length by omega)]
  simp only [hn] at e
  rw [e, hq]
 rw [hlast] at hc1
 rw [hn] at hcell
 obtain ⟨t, ht⟩ : ∃ t, n - 1 = t := ⟨_, rfl⟩
 rw [ht] at hc1
 have HPA := Lib.hid hpA
 subst hpA
 have b0 : (0 : Int) ≤ (i : Int) := by omega
 have b1 : (i : Int) < (L.length : Int) := by omega
 have b2 : (0 : Int) ≤ (t : Int) := by omega
 have b3 : (t : Int) < (n : Int) := by omega
 have hw1 : IntKind.i64.wrap ((n : Int) - 1) = (t : Int) := by rw [IntWalk.i64_in _ (by omega)]; omega
 have SK : Hid (∀ w', Below w.heap.size w w' → w'.cell? (p.add i) = some (.slice (some ⟨b, off, none⟩) n ci) ∧ w'.cell? ⟨b, off + t, none⟩ = some (.int .i64 q)) :=
  Lib.hid fun w' h => ⟨by rw [h.cell (by rw [add_block]; exact hpb)]; exact hcell, by rw [h.cell hbb]; exact hc1⟩
 have hk0 := SK.out w.drew (by exact below_same (Below.refl _ _) rfl rfl rfl rfl)
 obtain ⟨pc, hpc, _, hcc⟩ := h.int hqn
 obtain ⟨pm, hpm, _, hcm⟩ := h'.int hqm
 subst hpc hpm
 rw [hk'] at hcc
 rw [hmv] at hcm
 have d0 : (0 : Int) ≤ (q : Int) := by omega
 have d1 : (q : Int) < (cl.length : Int) := by omega
 have d2 : (q : Int) < (m.length : Int) := by omega
 have HM := Lib.hid hm
 have HMV : Hid (m[q] = mv) := Lib.hid hmv
 clear hN hW h h' hq hgi hk' hmv hz hcs hlast ht hn hcell hc1 hm
 go_enter Try.func53, Try.ntmps53
 go_wp2_with fail
 refine wp_region_E (S := fun w' => w'.cell? (p.add i) = some (.slice (some ⟨b, off, none⟩) n ci) ∧ w'.cell? ⟨b, off + t, none⟩ = some (.int .i64 q)) [] (by kernel_rfl) (hk0) (fun hHeld hZ => ?_)
 refine' eY 0 hHeld hZ fun hZ => ?_
 try simp only [Act.put,ZA,ZB,ZD,ZE,ZF]
 refine' eY 1 hHeld hZ fun hZ => ?_
 try simp only [Act.put,ZA,ZB,ZC,ZD,ZE,ZF]
 refine' eY 2 hHeld hZ fun hZ => ?_
 try simp only [Act.put,ZA,ZB,ZC,ZD,ZE,ZF]
 refine' eY 3 hHeld hZ fun hZ => ?_
 try simp only [Act.put,ZA,ZB,ZC,ZD,ZE,ZF]
 refine' eY 4 hHeld hZ fun hZ => ?_
 try simp only [Act.put,ZA,ZB,ZC,ZD,ZE,ZF]
 refine' eY 5 hHeld hZ fun hZ => ?_
 try simp only [Act.put,ZA,ZB,ZC,ZD,ZE,ZF]
 refine' eY 6 hHeld hZ fun hZ => ?_
 try simp only [Act.put,ZA,ZB,ZC,ZD,ZE,ZF]
 refine' eY 7 hHeld hZ fun hZ => ?_
 try simp only [Act.put,ZA,ZB,ZC,ZD,ZE,ZF]
 refine' eY 8 hHeld hZ fun hZ => ?_
 try simp only [Act.put,ZA,ZB,ZC,ZD,ZE,ZF]
 refine' eY 9 hHeld hZ fun hZ => ?_
 try simp only [Act.put,ZA,ZB,ZC,ZD,ZE,ZF]
 refine' eY 10 hHeld hZ fun hZ => ?_
 try simp only [Act.put,ZA,ZB,ZC,ZD,ZE,ZF]
 refine' eY 11 hHeld hZ fun hZ => ?_
 try simp only [Act.put,ZA,ZB,ZC,ZD,ZE,ZF]
 refine' eY 12 hHeld hZ fun hZ => ?_
 try simp only [Act.put,ZA,ZB,ZC,ZD,ZE,ZF]
 refine wpAnyE_done (by kernel_rfl) ?_ _
 clear hZ
 have hcc' : w.drew.cell? (pc.add q) = some (.int .i64 k') := hcc
 have hcm' : w.drew.cell? (pm.add q) = some (.int .i64 mv) := hcm
 clear hcc hcm hk0 hHeld
 rcases hop : isOpens k' with _ | _
 ·have HF : Hid (z = -1) := Lib.hid (by rw [HZ.out, if_pos (.inl hop)])
  go_wp2_with fail
  refine (ropens_any k' w.drew).mono ?_
  rintro e wq ⟨rfl, rfl⟩
  rw [hop]
  clear hop
  go_wp2
  go_ret
  exact ⟨ret_int HF.out.symm, by exact below_same (Below.refl _ _) rfl rfl rfl rfl⟩
 ·rcases hneg : decide (mv < 0) with _ | _
  ·have HF : Hid (z = firstAt L mv) := Lib.hid (by rw [HZ.out, if_neg (by rw [hop]; simpa using hneg)])
   go_wp2_with fail
   refine (ropens_any k' w.drew).mono ?_
   rintro e wq ⟨rfl, rfl⟩
   rw [hop]
   clear hop
   go_wp2
   go_loopw [10] (fun iv wr => ∃ k : Nat, k ≤ L.length ∧ iv = .int .i64 k ∧ Hid (∀ j (hj : j < k) (hl : j < L.length), headI L[j] ≠ mv) ∧ Below w.heap.size w wr) (fun iv _ => L.length - (intOf iv).toNat)
   case atStart => exact ⟨0, by omega, rfl, Lib.hid (fun j hj => absurd hj (by omega)), by exact below_same (Below.refl _ _) rfl rfl rfl rfl⟩
   case round =>
    obtain ⟨k, hk, rfl, HJ, hb⟩ := hrel
    have HB := Lib.hid hb
    clear hb
    by_cases hlt : k < L.length
    ·obtain ⟨p', hpA', ⟨S⟩⟩ := NN.out.shown HB.out hlt (WW.out _ (List.getElem_mem hlt)).1
     injection hpA' with hpA'
     subst hpA'
     obtain ⟨b', off', ck, hbb', _, hcell', hcs'⟩ := S
     have hpos : 0 < L[k].length := List.length_pos_iff.2 (WW.out _ (List.getElem_mem hlt)).1
     have hc0 := hcs' 0 hpos
     obtain ⟨x, hx⟩ : ∃ x, headI L[k] = x := ⟨_, rfl⟩
     rw [show L[k][0] = x by rw [← hx, headI]; simp [hpos]] at hc0
     simp only [Nat.add_zero] at hc0
     obtain ⟨r, hr⟩ : ∃ r, L[k].length = r := ⟨_, rfl⟩
     rw [hr] at hcell' hpos
     have hcm2 : wr.drew.cell? (pm.add q) = some (.int .i64 mv) := by
      obtain ⟨pm2, hpm2, _, hc2⟩ := (H'.out.below HB.out).int hqm
      injection hpm2 with hpm2
      subst hpm2
      rw [HMV.out] at hc2
      exact hc2
     have c0 : (0 : Int) ≤ (k : Int) := by omega
     have c1 : (k : Int) < (L.length : Int) := by omega
     have c2 : (0 : Int) < (r : Int) := by omega
     have HX := Lib.hid hx
     have hk1 : wr.drew.cell? (p.add k) = some (.slice (some ⟨b', off', none⟩) r ck) ∧ wr.drew.cell? ⟨b', off', none⟩ = some (.int .i64 x) ∧ wr.drew.cell? (pm.add q) = some (.int .i64 mv) := ⟨hcell', hc0, hcm2⟩
     clear hx hr hcs' hcell' hc0 hcm2 hcc' hcm'
     rcases hxm : (x == mv) with _ | _
     ·go_wp2_with fail
      refine wp_region_E (S := fun w' => w'.cell? (p.add k) = some (.slice (some ⟨b', off', none⟩) r ck) ∧ w'.cell? ⟨b', off', none⟩ = some (.int .i64 x) ∧ w'.cell? (pm.add q) = some (.int .i64 mv)) [] (by kernel_rfl) (hk1) (fun hHeld hZ => ?_)
      refine' eY 0 hHeld hZ fun hZ => ?_
      try simp only [Act.put,ZA,ZB,ZD,ZE,ZF]
      refine' eY 1 hHeld hZ fun hZ => ?_
      try simp only [Act.put,ZA,ZB,ZC,ZD,ZE,ZF]
      refine' eY 2 hHeld hZ fun hZ => ?_
      try simp only [Act.put,ZA,ZB,ZC,ZD,ZE,ZF]
      refine' eY 3 hHeld hZ fun hZ => ?_
      try simp only [Act.put,ZA,ZB,ZC,ZD,ZE,ZF]
      refine' eY 4 hHeld hZ fun hZ => ?_
      try simp only [Act.put,ZA,ZB,ZC,ZD,ZE,ZF]
      refine' eY 5 hHeld hZ fun hZ => ?_
      try simp only [Act.put,ZA,ZB,ZC,ZD,ZE,ZF]
      refine' eY 6 hHeld hZ fun hZ => ?_
      try simp only [Act.put,ZA,ZB,ZC,ZD,ZE,ZF]
      refine' eY 7 hHeld hZ fun hZ => ?_
      try simp only [Act.put,ZA,ZB,ZC,ZD,ZE,ZF]
      refine' eY 8 hHeld hZ fun hZ => ?_
      try simp only [Act.put,ZA,ZB,ZC,ZD,ZE,ZF]
      refine' eY 9 hHeld hZ fun hZ => ?_
      try simp only [Act.put,ZA,ZB,ZC,ZD,ZE,ZF]
      refine' eY 10 hHeld hZ fun hZ => ?_
      try simp only [Act.put,ZA,ZB,ZC,ZD,ZE,ZF]
      refine wpAnyE_done (by kernel_rfl) ?_ _
      clear hZ
      go_wp2_with fail
      go_roundw
      case rel =>
       refine ⟨k + 1, by omega, by go_num, Lib.hid (fun j hj hl => ?_), by exact below_same HB.out rfl rfl rfl rfl⟩
       by_cases hjk : j = k
       ·subst hjk; rw [HX.out]; simpa using hxm
       ·exact HJ.out j (by omega) hl
      case measure => simp [intOf]; omega
     ·go_wp2_with fail
      refine wp_region_E (S := fun w' => w'.cell? (p.add k) = some (.slice (some ⟨b', off', none⟩) r ck) ∧ w'.cell? ⟨b', off', none⟩ = some (.int .i64 x) ∧ w'.cell? (pm.add q) = some (.int .i64 mv)) [] (by kernel_rfl) (hk1) (fun hHeld hZ => ?_)
      refine' eY 0 hHeld hZ fun hZ => ?_
      try simp only [Act.put,ZA,ZB,ZD,ZE,ZF]
      refine' eY 1 hHeld hZ fun hZ => ?_
      try simp only [Act.put,ZA,ZB,ZC,ZD,ZE,ZF]
      refine' eY 2 hHeld hZ fun hZ => ?_
      try simp only [Act.put,ZA,ZB,ZC,ZD,ZE,ZF]
      refine' eY 3 hHeld hZ fun hZ => ?_
      try simp only [Act.put,ZA,ZB,ZC,ZD,ZE,ZF]
      refine' eY 4 hHeld hZ fun hZ => ?_
      try simp only [Act.put,ZA,ZB,ZC,ZD,ZE,ZF]
      refine' eY 5 hHeld hZ fun hZ => ?_
      try simp only [Act.put,ZA,ZB,ZC,ZD,ZE,ZF]
      refine' eY 6 hHeld hZ fun hZ => ?_
      try simp only [Act.put,ZA,ZB,ZC,ZD,ZE,ZF]
      refine' eY 7 hHeld hZ fun hZ => ?_
      try simp only [Act.put,ZA,ZB,ZC,ZD,ZE,ZF]
      refine' eY 8 hHeld hZ fun hZ => ?_
      try simp only [Act.put,ZA,ZB,ZC,ZD,ZE,ZF]
      refine' eY 9 hHeld hZ fun hZ => ?_
      try simp only [Act.put,ZA,ZB,ZC,ZD,ZE,ZF]
      refine' eY 10 hHeld hZ fun hZ => ?_
      try simp only [Act.put,ZA,ZB,ZC,ZD,ZE,ZF]
      refine wpAnyE_done (by kernel_rfl) ?_ _
      clear hZ
      go_wp2_with fail
      go_ret
      exact ⟨ret_int (by rw [HF.out, firstAt_some hlt (by rw [HX.out]; simpa using hxm) (fun j hj => HJ.out j hj (by omega))]), by exact below_same HB.out rfl rfl rfl rfl⟩
    ·obtain rfl : k = L.length := by omega
     go_wp2
     go_ret
     exact ⟨ret_int (by rw [HF.out, firstAt_none (fun j hj => HJ.out j hj hj)]), HB.out⟩
  ·have HF : Hid (z = -1) := Lib.hid (by rw [HZ.out, if_pos (.inr (by simpa using hneg))])
   go_wp2_with fail
   refine (ropens_any k' w.drew).mono ?_
   rintro e wq ⟨rfl, rfl⟩
   rw [hop]
   clear hop
   go_wp2
   go_ret
   exact ⟨ret_int HF.out.symm, by exact below_same (Below.refl _ _) rfl rfl rfl rfl⟩
end Go.Proofs.Ytadfleopbpomfaa
