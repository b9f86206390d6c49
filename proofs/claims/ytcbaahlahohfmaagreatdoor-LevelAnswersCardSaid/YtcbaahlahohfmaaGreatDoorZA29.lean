/- Shared texts, shaken for one claim. -/
import Derived.Test.YtcbaahlahohfmaaGreatDoorZA1
import Derived.Test.YtcbaahlahohfmaaGreatDoorZA2
import Derived.Test.YtcbaahlahohfmaaGreatDoorZA6
import Derived.Test.YtcbaahlahohfmaaGreatDoorZA8
import Derived.Test.YtcbaahlahohfmaaGreatDoorZA13
import Derived.Test.YtcbaahlahohfmaaGreatDoorZA22
import Derived.Test.YtcbaahlahohfmaaGreatDoorZA23
import Derived.Test.YtcbaahlahohfmaaGreatDoorZA27
import Derived.Test.YtcbaahlahohfmaaGreatDoorZA28
namespace Go.Proofs.YtcbaahlahohfmaaGreatDoor
open Go.RowKit
def Two (w w' : World) (g1 g2 : Nat) : Prop := w.heap.size ≤ w'.heap.size ∧ ∀ k, k < w.heap.size → k ≠ g1 → k ≠ g2 → w'.heap[k]? = w.heap[k]?
section
variable {w w' w'' : World} {g1 g2 : Nat}
theorem Two.refl (w : World) (g1 g2 : Nat) : Two w w g1 g2 := ⟨Nat.le_refl _, fun _ _ _ _ => rfl⟩
theorem Two.trans (h : Two w w' g1 g2) (h' : Two w' w'' g1 g2) : Two w w'' g1 g2 :=
 ⟨Nat.le_trans h.1 h'.1, fun k hk h1 h2 => (h'.2 k (Nat.lt_of_lt_of_le hk h.1) h1 h2).trans (h.2 k hk h1 h2)⟩
theorem Two.ofBelow (h : Below w.heap.size w w') : Two w w' g1 g2 := ⟨h.size, fun k hk _ _ => h.block k hk⟩
theorem Two.of1 (h : w.grownBy w' (some g1)) : Two w w' g1 g2 := ⟨h.size, fun k hk h1 _ => h.block k hk fun e => h1 (Option.some.inj e)⟩
theorem Two.of2 (h : w.grownBy w' (some g2)) : Two w w' g1 g2 := ⟨h.size, fun k hk _ h2 => h.block k hk fun e => h2 (Option.some.inj e)⟩
theorem Two.cell (h : Two w w' g1 g2) {p : Addr} (hp : p.block < w.heap.size) (h1 : p.block ≠ g1) (h2 : p.block ≠ g2) : w'.cell? p = w.cell? p := World.cell?_of_block (h.2 _ hp h1 h2)
theorem Lies.two {B : Nat} {A : Option Addr} {xs : List Value} (hl : Lies w B A xs) (h : Two w w' g1 g2) (hB : B ≤ w.heap.size) (h1 : ∀ p, A = some p → p.block ≠ g1) (h2 : ∀ p, A = some p → p.block ≠ g2) : Lies w' B A xs := fun hn => by
 obtain ⟨p, hA, hp, hc⟩ := hl hn
 refine ⟨p, hA, hp, fun i u hu => ?_⟩
 rw [h.cell (by rw [add_block]; omega) (by rw [add_block]; exact h1 p hA) (by rw [add_block]; exact h2 p hA)]
 exact hc i u hu
end
set_option maxRecDepth 20000 in
set_option maxHeartbeats 4000000 in
theorem lsettle_any (g1 c1 g2 c2 : Nat) (LV CL : List Int) (base : Int) (A : Option Addr) (chars : List Int) (c : Nat) (As : Option Addr) (cs : Nat) (S : Sq) (B : Nat) (w : World) (hT : ClsTabs w)
 (h1 : Row w B 3 g1 c1 (ints .i64 LV)) (h2 : Row w B 3 g2 c2 (ints .i64 CL)) (hne : g1 ≠ g2)
 (h : Lies w B A (ints .i64 chars)) (hs : Lies w w.heap.size As (ints .i64 S.pl)) (ns1 : ∀ p, As = some p → p.block ≠ g1) (ns2 : ∀ p, As = some p → p.block ≠ g2)
 (hp : ∀ x ∈ S.pl, 0 ≤ x ∧ x < (chars.length : Int)) (hL1 : LV.length = chars.length) (hL2 : CL.length = chars.length) (hl : chars.length ≤ 1000) (hpl : S.pl.length ≤ 1000) (hB : B ≤ w.heap.size)
 (E : List Int) (hE : nofI (ofB (pickL chars S.pl) (ofI (pickL CL S.pl) S.sos) (pickL CL S.pl) S.lev S.sos) S.lev S.sos S.eos = E) :
 Calls Tryz.prog 31 #[.agg #[.slice (some ⟨g1, 0, none⟩) LV.length c1, .slice (some ⟨g2, 0, none⟩) CL.length c2, .int .i64 base], .slice A chars.length c, .agg #[.slice As S.pl.length cs, .int .i64 S.lev, .int .i64 S.sos, .int .i64 S.eos]] w
  fun ed w' => ed = .returned (.tuple #[]) ∧ Row w' B 3 g1 c1 (ints .i64 (putN LV S.pl (nLevelsI E S.lev) S.pl.length)) ∧ Row w' B 3 g2 c2 (ints .i64 (putN CL S.pl E S.pl.length)) ∧ Below B w w' ∧ Two w w' g1 g2 := by
 obtain ⟨w0, hw0⟩ : ∃ u, (w.alloc (.cells #[.slice (some ⟨g1, 0, none⟩) LV.length c1, .slice (some ⟨g2, 0, none⟩) CL.length c2, .int .i64 base] 38)).alloc (.cells #[.slice As S.pl.length cs, .int .i64 S.lev, .int .i64 S.sos, .int .i64 S.eos] 49) = u := ⟨_, rfl⟩
 have D0 : Hid (Below w.heap.size w w0) := Lib.hid (hw0 ▸ (below_alloc w _).alloc (by simp) _)
 have HQ : Hid (g1 < w.heap.size ∧ g2 < w.heap.size ∧ w.heap.size + 1 < w0.heap.size ∧ B ≤ g1 ∧ B ≤ g2) := Lib.hid ⟨h1.inside.2, h2.inside.2, by rw [← hw0]; simp, h1.inside.1, h2.inside.1⟩
 have SK : Hid (∀ w', Two w0 w' g1 g2 → (w'.cell? ⟨w.heap.size, 0, none⟩ = some (.slice (some ⟨g1, 0, none⟩) LV.length c1) ∧ w'.cell? ⟨w.heap.size, 1, none⟩ = some (.slice (some ⟨g2, 0, none⟩) CL.length c2)) ∧
  w'.cell? ⟨w.heap.size + 1, 0, none⟩ = some (.slice As S.pl.length cs) ∧ w'.cell? ⟨w.heap.size + 1, 1, none⟩ = some (.int .i64 S.lev) ∧ w'.cell? ⟨w.heap.size + 1, 2, none⟩ = some (.int .i64 S.sos) ∧ w'.cell? ⟨w.heap.size + 1, 3, none⟩ = some (.int .i64 S.eos)) := Lib.hid fun w' hg => by
  have a1 : ∀ i, w'.cell? ⟨w.heap.size, i, none⟩ = w0.cell? ⟨w.heap.size, i, none⟩ := fun i => hg.cell (by have := HQ.out; show w.heap.size < _; omega) (by have := HQ.out; show w.heap.size ≠ _; omega) (by have := HQ.out; show w.heap.size ≠ _; omega)
  have a2 : ∀ i, w'.cell? ⟨w.heap.size + 1, i, none⟩ = w0.cell? ⟨w.heap.size + 1, i, none⟩ := fun i => hg.cell (by have := HQ.out; show w.heap.size + 1 < _; omega) (by have := HQ.out; show w.heap.size + 1 ≠ _; omega) (by have := HQ.out; show w.heap.size + 1 ≠ _; omega)
  have hz : (w.alloc (.cells #[.slice (some ⟨g1, 0, none⟩) LV.length c1, .slice (some ⟨g2, 0, none⟩) CL.length c2, .int .i64 base] 38)).heap.size = w.heap.size + 1 := by simp
  rw [a1, a1, a2, a2, a2, a2, ← hw0]
  refine ⟨⟨boxed (below_alloc _ _) rfl, boxed (below_alloc _ _) rfl⟩, ?_⟩
  rw [← hz]
  exact ⟨boxed (Below.refl _ _) rfl, boxed (Below.refl _ _) rfl, boxed (Below.refl _ _) rfl, boxed (Below.refl _ _) rfl⟩
 have HT := Lib.hid (hT.below D0.out hT.big)
 have R1 := Lib.hid (h1.below D0.out (Nat.le_refl _))
 have R2 := Lib.hid (h2.below D0.out (Nat.le_refl _))
 have H := Lib.hid ((h.below (D0.out.mono hB)).wider (Nat.le_trans hB D0.out.size))
 have HS := Lib.hid (hs.up D0.out)
 have NS1 := Lib.hid ns1
 have NS2 := Lib.hid ns2
 have HNE := Lib.hid hne
 have HP := Lib.hid hp
 have HP1 : Hid (∀ x ∈ S.pl, 0 ≤ x ∧ x < (LV.length : Int)) := Lib.hid (by rw [hL1]; exact hp)
 have HP2 : Hid (∀ x ∈ S.pl, 0 ≤ x ∧ x < (CL.length : Int)) := Lib.hid (by rw [hL2]; exact hp)
 have HL : Hid (LV.length ≤ 1000000 ∧ CL.length ≤ 1000000 ∧ chars.length ≤ 1000000 ∧ S.pl.length ≤ 1000000) := Lib.hid ⟨by omega, by omega, by omega, by omega⟩
 have HPL := Lib.hid hpl
 have HBw := Lib.hid hB
 obtain ⟨OC, hOC⟩ : ∃ O, pickL chars S.pl = O := ⟨_, rfl⟩
 obtain ⟨OW, hOW⟩ : ∃ O, pickL CL S.pl = O := ⟨_, rfl⟩
 obtain ⟨WK, hWK⟩ : ∃ O, ofI OW S.sos = O := ⟨_, rfl⟩
 obtain ⟨BR, hBR⟩ : ∃ O, ofB OC WK OW S.lev S.sos = O := ⟨_, rfl⟩
 rw [hOC, hOW, hWK, hBR] at hE
 have HLN : Hid (OC.length = S.pl.length ∧ OW.length = S.pl.length ∧ WK.length = S.pl.length ∧ BR.length = S.pl.length ∧ E.length = S.pl.length) := Lib.hid (by
  have e1 : OC.length = S.pl.length := by rw [← hOC, pick_length]
  have e2 : OW.length = S.pl.length := by rw [← hOW, pick_length]
  have e3 : WK.length = S.pl.length := by rw [← hWK, ofI_length, e2]
  have e4 : BR.length = S.pl.length := by rw [← hBR, (ofB_keeps OC WK OW S.lev S.sos).1, e3]
  exact ⟨e1, e2, e3, e4, by rw [← hE, nofI_length, e4]⟩)
 have HOC := Lib.hid hOC
 have HOW := Lib.hid hOW
 have HWK := Lib.hid hWK
 have HBR := Lib.hid hBR
 have HE := Lib.hid hE
 clear hT h1 h2 hne h hs ns1 ns2 hp hL1 hL2 hl hpl hB hOC hOW hWK hBR hE
 go_enter Tryz.func31, Tryz.ntmps31
 go_upto_region 1 with fail
 clear hw0
 obtain ⟨⟨-, s1⟩, s2, -⟩ := SK.out w0 (Two.refl _ _ _)
 go_wp2_with fail
 clear s1 s2
 refine (lpick_any (some ⟨g2, 0, none⟩) CL c2 As S.pl cs w0 (Lies.ofRow R2.out) HS.out HP2.out HL.out.2.1 HL.out.2.2.2).mono ?_
 rintro e wa ⟨va, rfl, oa, ba⟩
 rw [HOW.out] at oa
 obtain ⟨Aa, ca, hva, la, -, -⟩ := oa.form
 rw [ints, List.length_map] at hva
 subst hva
 have La := Lib.hid la
 have Ba := Lib.hid ba
 clear oa la ba
 obtain ⟨-, -, -, q2, -⟩ := SK.out wa (Two.ofBelow Ba.out)
 go_wp2_with fail
 clear q2
 refine (wof_any Aa OW ca S.sos wa (HT.out.below Ba.out HT.out.big) La.out (by rw [HLN.out.2.1]; exact HPL.out)).mono ?_
 rintro e wb ⟨vb, rfl, ob_, bb⟩
 rw [HWK.out] at ob_
 obtain ⟨Ab, cb, hvb, lb, -, -⟩ := ob_.form
 rw [ints, List.length_map] at hvb
 subst hvb
 have Lb := Lib.hid lb
 have Lab := Lib.hid (La.out.up bb)
 have Bb := Lib.hid (below_then Ba.out bb)
 clear ob_ lb bb
 go_upto_region 3 with fail
 have hq : wb.drew.cell? ⟨w.heap.size + 1, 0, none⟩ = some (.slice As S.pl.length cs) ∧ wb.drew.cell? ⟨w.heap.size + 1, 1, none⟩ = some (.int .i64 S.lev) ∧ wb.drew.cell? ⟨w.heap.size + 1, 2, none⟩ = some (.int .i64 S.sos) := by
  obtain ⟨-, k0, k1, k2, -⟩ := SK.out wb (Two.ofBelow Bb.out)
  exact ⟨k0, k1, k2⟩
 refine wp_region_E (S := fun w' => w'.cell? ⟨w.heap.size + 1, 0, none⟩ = some (.slice As S.pl.length cs) ∧ w'.cell? ⟨w.heap.size + 1, 1, none⟩ = some (.int .i64 S.lev) ∧ w'.cell? ⟨w.heap.size + 1, 2, none⟩ = some (.int .i64 S.sos)) [] (by kernel_rfl) (hq) (fun hHeld hZ => ?_)
 refine' eY 0 hHeld hZ fun hZ => ?_
 try simp only [Act.put,ZA,ZB,ZD,ZE,ZF]
 refine' eY 1 hHeld hZ fun hZ => ?_
 try simp only [Act.put,ZA,ZB,ZC,ZD,ZE,ZF]
 refine' eY 2 hHeld hZ fun hZ => ?_
 try simp only [Act.put,ZA,ZB,ZC,ZD,ZE,ZF]
 refine' eY 4 hHeld hZ fun hZ => ?_
 try simp only [Act.put,ZA,ZB,ZC,ZD,ZE,ZF]
 refine' eY 5 hHeld hZ fun hZ => ?_
 try simp only [Act.put,ZA,ZB,ZC,ZD,ZE,ZF]
 refine' eY 6 hHeld hZ fun hZ => ?_
 try simp only [Act.put,ZA,ZB,ZC,ZD,ZE,ZF]
 refine' eY 7 hHeld hZ fun hZ => ?_
 try simp only [Act.put,ZA,ZB,ZC,ZD,ZE,ZF]
 refine' eY 8 hHeld hZ fun hZ => ?_
 try simp only [Act.put,ZA,ZB,ZC,ZD,ZE,ZF]
 refine' eY 9 hHeld hZ fun hZ => ?_
 try simp only [Act.put,ZA,ZB,ZC,ZD,ZE,ZF]
 refine eA 3 fun K hK => ?_
 go_simp
 have BD : Hid (Below w0.heap.size w0 wb.drew) := Lib.hid (by exact below_same Bb.out rfl rfl rfl rfl)
 have LabD : Hid (Lies wb.drew wb.drew.heap.size Aa (ints .i64 OW)) := Lib.hid (Lies.sameHeap Lab.out rfl)
 have LbD : Hid (Lies wb.drew wb.drew.heap.size Ab (ints .i64 WK)) := Lib.hid (Lies.sameHeap Lb.out rfl)
 refine (lpick_any A chars c As S.pl cs wb.drew (H.out.up BD.out) (HS.out.up BD.out) HP.out HL.out.2.2.1 HL.out.2.2.2).mono ?_
 rintro e wp ⟨vp, rfl, op_, bp⟩
 rw [HOC.out] at op_
 obtain ⟨Ap, cp, hvp, lp, -, -⟩ := op_.form
 rw [ints, List.length_map] at hvp
 subst hvp
 have Lp := Lib.hid lp
 have Bp := Lib.hid (below_then BD.out bp)
 have Lap := Lib.hid (LabD.out.up bp)
 have Lbp := Lib.hid (LbD.out.up bp)
 clear op_ lp bp
 have hq2 : wp.cell? ⟨w.heap.size + 1, 0, none⟩ = some (.slice As S.pl.length cs) ∧ wp.cell? ⟨w.heap.size + 1, 1, none⟩ = some (.int .i64 S.lev) ∧ wp.cell? ⟨w.heap.size + 1, 2, none⟩ = some (.int .i64 S.sos) := by
  obtain ⟨-, k0, k1, k2, -⟩ := SK.out wp (Two.ofBelow Bp.out)
  exact ⟨k0, k1, k2⟩
 refine eB hK hZ (hq2) fun hHeld hZ => ?_
 clear hK K
 try simp only [Act.put,ZA,ZB,ZC,ZD,ZE,ZF]
 refine eA 10 fun K hK => ?_
 go_simp
 refine (bof_any Ap OC cp Ab WK cb Aa OW ca S.lev S.sos wp Lp.out Lbp.out Lap.out (by rw [HLN.out.1]; exact HPL.out) (by rw [HLN.out.2.2.1]; exact HPL.out) (by rw [HLN.out.2.1]; exact HPL.out)).mono ?_
 rintro e wq ⟨vq, rfl, oq, bq⟩
 rw [HBR.out] at oq
 obtain ⟨Aq, cq, hvq, lq, -, -⟩ := oq.form
 rw [ints, List.length_map] at hvq
 subst hvq
 have Lq := Lib.hid lq
 have Bq := Lib.hid (below_then Bp.out bq)
 clear oq lq bq
 have hq3 : wq.cell? ⟨w.heap.size + 1, 0, none⟩ = some (.slice As S.pl.length cs) ∧ wq.cell? ⟨w.heap.size + 1, 1, none⟩ = some (.int .i64 S.lev) ∧ wq.cell? ⟨w.heap.size + 1, 2, none⟩ = some (.int .i64 S.sos) := by
  obtain ⟨-, k0, k1, k2, -⟩ := SK.out wq (Two.ofBelow Bq.out)
  exact ⟨k0, k1, k2⟩
 refine eB hK hZ (hq3) fun hHeld hZ => ?_
 clear hK K
 try simp only [Act.put,ZA,ZB,ZC,ZD,ZE,ZF]
 refine' eX 11 hZ fun hZ => ?_
 try simp only [Act.put,ZA,ZB,ZC,ZD,ZE,ZF]
 refine wpAnyE_done (by kernel_rfl) ?_ _
 clear hZ
 clear hq hq2 hq3 hHeld
 obtain ⟨-, -, q1, q2, q3⟩ := SK.out wq (Two.ofBelow Bq.out)
 go_wp2_with fail
 clear q1 q2 q3
 refine (nof_any Aq BR cq S.lev S.sos S.eos wq Lq.out (by rw [HLN.out.2.2.2.1]; exact HPL.out)).mono ?_
 rintro e wf ⟨vf, rfl, of_, bf⟩
 rw [HE.out] at of_
 have EO : Hid (Own wf wq.heap.size 3 vf (ints .i64 E)) := Lib.hid of_
 obtain ⟨Ae, ce, hve, le_, -, -⟩ := of_.form
 rw [ints, List.length_map] at hve
 subst hve
 have Le := Lib.hid le_
 have BF := Lib.hid (below_then Bq.out bf)
 have NE : Hid (∀ p, Ae = some p → w0.heap.size ≤ p.block) := Lib.hid fun p hp => by
  have h1 := (Own.inside EO.out p.block (by rw [hp]; rfl)).1
  have h2 := Bq.out.size
  omega
 clear of_ bf le_
 obtain ⟨⟨-, q1⟩, q2, -⟩ := SK.out wf (Two.ofBelow BF.out)
 go_wp2_with fail
 clear q1 q2
 refine (lput_any g2 c2 CL As S.pl cs Ae E ce B wf (R2.out.below BF.out (Nat.le_refl _)) (HS.out.up BF.out) Le.out NS2.out (fun p hp => by have h1 := NE.out p hp; have h2 := HQ.out; omega) HP2.out HLN.out.2.2.2.2 HL.out.2.1 HL.out.2.2.2).mono ?_
 rintro e wg ⟨rfl, rg, bg, gg⟩
 have RG := Lib.hid rg
 have BG : Hid (Below B w0 wg) := Lib.hid ((BF.out.mono (by have := HBw.out; have := D0.out.size; omega)).trans bg)
 have TG : Hid (Two w0 wg g1 g2) := Lib.hid ((Two.ofBelow BF.out).trans (Two.of2 gg))
 have R1g : Hid (Row wg B 3 g1 c1 (ints .i64 LV)) := Lib.hid ((R1.out.below BF.out (Nat.le_refl _)).keep gg (fun e => HNE.out (Option.some.inj e).symm))
 have Leg : Hid (Lies wg wg.heap.size Ae (ints .i64 E)) := Lib.hid ((lies_grown Le.out gg (Nat.le_refl _) (fun p hp => by have h1 := NE.out p hp; have h2 := HQ.out; omega)).wider gg.size)
 have HSg : Hid (Lies wg wg.heap.size As (ints .i64 S.pl)) := Lib.hid ((lies_grown (HS.out.up BF.out) gg (Nat.le_refl _) NS2.out).wider gg.size)
 clear rg bg gg
 go_upto_region 6 with fail
 have hq : wg.drew.cell? ⟨w.heap.size, 0, none⟩ = some (.slice (some ⟨g1, 0, none⟩) LV.length c1) ∧ wg.drew.cell? ⟨w.heap.size + 1, 0, none⟩ = some (.slice As S.pl.length cs) ∧ wg.drew.cell? ⟨w.heap.size + 1, 1, none⟩ = some (.int .i64 S.lev) := by
  obtain ⟨⟨k0, -⟩, k1, k2, -⟩ := SK.out wg TG.out
  exact ⟨k0, k1, k2⟩
 refine wp_region_E (S := fun w' => w'.cell? ⟨w.heap.size, 0, none⟩ = some (.slice (some ⟨g1, 0, none⟩) LV.length c1) ∧ w'.cell? ⟨w.heap.size + 1, 0, none⟩ = some (.slice As S.pl.length cs) ∧ w'.cell? ⟨w.heap.size + 1, 1, none⟩ = some (.int .i64 S.lev)) [8] (by kernel_rfl) (hq) (fun hHeld hZ => ?_)
 refine' eY 0 hHeld hZ fun hZ => ?_
 try simp only [Act.put,ZA,ZB,ZD,ZE,ZF]
 refine' eY 1 hHeld hZ fun hZ => ?_
 try simp only [Act.put,ZA,ZB,ZC,ZD,ZE,ZF]
 refine' eY 2 hHeld hZ fun hZ => ?_
 try simp only [Act.put,ZA,ZB,ZC,ZD,ZE,ZF]
 refine' eY 3 hHeld hZ fun hZ => ?_
 try simp only [Act.put,ZA,ZB,ZC,ZD,ZE,ZF]
 refine' eY 4 hHeld hZ fun hZ => ?_
 try simp only [Act.put,ZA,ZB,ZC,ZD,ZE,ZF]
 refine' eY 5 hHeld hZ fun hZ => ?_
 try simp only [Act.put,ZA,ZB,ZC,ZD,ZE,ZF]
 refine' eY 6 hHeld hZ fun hZ => ?_
 try simp only [Act.put,ZA,ZB,ZC,ZD,ZE,ZF]
 refine eA 7 fun K hK => ?_
 go_simp
 have BD2 : Hid (Below wg.heap.size wg wg.drew) := Lib.hid (by exact below_same (Below.refl _ _) rfl rfl rfl rfl)
 refine (nlevels_any Ae E ce S.lev wg.drew (Lies.sameHeap Leg.out rfl) (by rw [HLN.out.2.2.2.2]; exact HPL.out)).mono ?_
 rintro e wh ⟨vh, rfl, oh, bh⟩
 have HO : Hid (Own wh wg.drew.heap.size 3 vh (ints .i64 (nLevelsI E S.lev))) := Lib.hid oh
 obtain ⟨Ah, ch, hvh, lh, -, -⟩ := oh.form
 rw [ints, List.length_map] at hvh
 subst hvh
 have Lh := Lib.hid lh
 have BH : Hid (Below wg.heap.size wg wh) := Lib.hid (below_then_drew bh)
 have NH : Hid (∀ p, Ah = some p → w0.heap.size ≤ p.block) := Lib.hid fun p hp => by
  have h1 := (Own.inside HO.out p.block (by rw [hp]; rfl)).1
  have h2 := TG.out.1
  have h3 : wg.drew.heap.size = wg.heap.size := rfl
  omega
 have TH : Hid (Two w0 wh g1 g2) := Lib.hid (TG.out.trans (Two.ofBelow BH.out))
 clear oh lh bh
 have hq2 : wh.cell? ⟨w.heap.size, 0, none⟩ = some (.slice (some ⟨g1, 0, none⟩) LV.length c1) ∧ wh.cell? ⟨w.heap.size + 1, 0, none⟩ = some (.slice As S.pl.length cs) ∧ wh.cell? ⟨w.heap.size + 1, 1, none⟩ = some (.int .i64 S.lev) := by
  obtain ⟨⟨k0, -⟩, k1, k2, -⟩ := SK.out wh TH.out
  exact ⟨k0, k1, k2⟩
 refine eB hK hZ (hq2) fun hHeld hZ => ?_
 clear hK K
 try simp only [Act.put,ZA,ZB,ZC,ZD,ZE,ZF]
 refine eA 8 fun K hK => ?_
 go_simp
 have hput := lput_any g1 c1 LV As S.pl cs Ah (nLevelsI E S.lev) ch B wh (R1g.out.below BH.out (Nat.le_refl _)) (HSg.out.up BH.out) Lh.out NS1.out (fun p hp => by have h1 := NH.out p hp; have h2 := HQ.out; omega) HP1.out (by rw [nLevelsI_length]; exact HLN.out.2.2.2.2) HL.out.1 HL.out.2.2.2
 refine hput.mono ?_
 rintro e wz ⟨rfl, rz, bz, gz⟩
 have RZ := Lib.hid rz
 have RZ2 : Hid (Row wz B 3 g2 c2 (ints .i64 (putN CL S.pl E S.pl.length))) := Lib.hid ((RG.out.below BH.out (Nat.le_refl _)).keep gz (fun e => HNE.out (Option.some.inj e)))
 have BZ : Hid (Below B w wz) := Lib.hid ((D0.out.mono HBw.out).trans (((BG.out.trans (BH.out.mono (by have := TG.out.1; have := D0.out.size; have := HBw.out; omega)))).trans bz))
 have TZ : Hid (Two w wz g1 g2) := Lib.hid ((Two.ofBelow D0.out).trans (TH.out.trans (Two.of1 gz)))
 clear hput rz bz gz hq hq2
 refine eE hK hZ fun hZ => ?_
 clear hK K
 try simp only [Act.put,ZA,ZB,ZC,ZD,ZE,ZF]
 refine wpAnyE_done (by kernel_rfl) ?_ _
 clear hZ
 clear hHeld
 (try simp only [Exit.inBlock, Exit.then])
 exact bodyPost_end (results_none rfl _ _ _) rfl ⟨rfl, RZ.out, RZ2.out, BZ.out, TZ.out⟩
end Go.Proofs.YtcbaahlahohfmaaGreatDoor
namespace Go.Proofs.YtcbaahlahohfmaaGreatDoor
open Go.RowKit Reckon
theorem listOf_zero (n : Nat) : List.replicate n (Value.int .i64 0) = ints .i64 (listOf n (fun _ => 0)) := by
 rw [ints, listOf, List.map_map]
 apply List.ext_getElem
 ·simp
 ·intro i h1 h2; simp
abbrev stk (st : List Nat) : List Value := ints .i64 (st.reverse.map fun p : Nat => (p : Int))
theorem mrun_len (l : List Int) : ∀ k, (mrun l k).1.length ≤ k := by
 intro k
 induction k with
 | zero => simp [mrun]
 | succ k ih =>
  simp only [mrun, mStep]
  repeat' split
  all_goals simp_all
  all_goals omega
set_option maxRecDepth 20000 in
set_option maxHeartbeats 4000000 in
theorem match_any (A : Option Addr) (l : List Int) (c : Nat) (w : World) (h : Lies w w.heap.size A (ints .i64 l)) (hl : l.length ≤ 1000000) :
 Calls Tryz.prog 89 #[.slice A l.length c] w (Rowed w w.heap.size 3 (ints .i64 (mt l))) := by
 have H := Lib.hid h
 clear h
 go_enter Tryz.func89, Tryz.ntmps89
 go_wp2_with (first
  | (refine make_row intsT w w w.heap.size _ _ .i64 .i64 l.length rfl rfl rfl rfl rfl (Below.refl _ _) (Nat.le_refl _) (by omega) (by unfold maxLen; omega) ?_; intro w2 r2 b2 g2)
  | fail)
 rw [listOf_zero] at r2
 have R2 := Lib.hid r2
 have B2 := Lib.hid b2
 clear r2 b2 g2
 go_wp2
 go_loopw [4, 13] (fun ov iv wr => ∃ (k : Nat), k ≤ l.length ∧ iv = .int .i64 k ∧ Row wr w.heap.size 3 w.heap.size l.length (ints .i64 (listOf l.length (mrun l k).2)) ∧ Own wr w.heap.size 3 ov (stk (mrun l k).1) ∧ Hid (ov.ownBlock ≠ some w.heap.size) ∧ Below w.heap.size w wr) (fun _ iv _ => l.length - (intOf iv).toNat)
 case atStart => exact ⟨0, by omega, rfl, R2.out, Own.empty _ _ _, Lib.hid (by simp [Value.ownBlock]), B2.out⟩
 case round =>
  obtain ⟨k, hk, rfl, hr, ho, HV, hb⟩ := hrel
  have HR := Lib.hid hr
  have HO := Lib.hid ho
  have HB := Lib.hid hb
  clear hr ho hb
  by_cases hlt : k < l.length
  ·obtain ⟨p, rfl, hpb, hc⟩ := (H.out.below HB.out).int hlt
   have b0 : (0 : Int) ≤ (k : Int) := by omega
   have b1 : (k : Int) < (l.length : Int) := by omega
   have hmr : mrun l (k + 1) = mStep (mrun l k) k l[k] := by rw [mrun, at0_eq hlt]
   have hml := mrun_len l k
   have hall : ∀ q ∈ (mrun l k).1, q < k := fun q hq => ((minv l k hk).open_ q hq).1
   obtain ⟨x, hx⟩ : ∃ x, l[k] = x := ⟨_, rfl⟩
   rw [hx] at hc hmr
   obtain ⟨⟨st, f⟩, hst⟩ : ∃ s, mrun l k = s := ⟨_, rfl⟩
   rw [hst] at HR HO hml hmr hall
   simp only [mStep] at hmr
   simp only at HR HO hml hall
   have HALL := Lib.hid hall
   have HMR := Lib.hid hmr
   clear hx hst hmr hall
   rcases h10 : (x == 10) with _ | _
   ·have n10 : ¬ x = 10 := by simpa using h10
    rcases ho : isOpens x with _ | _
    ·have HO1 := Lib.hid ho
     rcases h22 : (x == 22) with _ | _
     ·have n22 : ¬ x = 22 := by simpa using h22
      have hmr := HMR.out
      rw [if_neg n10, ho, if_neg Bool.false_ne_true, if_neg n22] at hmr
      have HM := Lib.hid hmr
      clear n10 n22 ho HMR hmr
      go_wp2_with (first
       | (refine store_row intsT wr w.heap.size _ _ w.heap.size k l.length .i64 (-1) _ w rfl rfl rfl rfl rfl HR.out (by simpa using hlt) HB.out ?_; intro w5 r5 b5 g5; rw [ints_set, listOf_set] at r5; have R5 := Lib.hid r5; have B5 := Lib.hid b5; have O5 := Lib.hid (HO.out.keepRow g5 HV.out); clear r5 b5 g5)
       | fail)
      go_wp2_with fail
      refine (opens_any x w5).mono ?_
      rintro e w6 ⟨rfl, b6⟩
      rw [HO1.out]
      have B6 := Lib.hid (B5.out.trans (b6.mono B5.out.size))
      have D6 := Lib.hid b6
      clear b6
      go_wp2_with fail
      go_roundw
      case rel => exact ⟨k + 1, by omega, by go_num, by rw [HM.out]; exact R5.out.below D6.out (Nat.le_refl _), by rw [HM.out]; exact O5.out.below D6.out (Nat.le_refl _), HV, B6.out⟩
      case measure => simp [intOf]; omega
     ·have n22 : x = 22 := by simpa using h22
      have hmr := HMR.out
      rw [if_neg n10, ho, if_neg Bool.false_ne_true, if_pos n22] at hmr
      clear n10 n22 ho HMR
      rcases st with _ | ⟨p, st⟩
      ·simp only at hmr
       have HM := Lib.hid hmr
       clear hmr
       obtain ⟨A', c', rfl, _, _, _⟩ := HO.out.form
       go_wp2_with (first
        | (refine store_row intsT wr w.heap.size _ _ w.heap.size k l.length .i64 (-1) _ w rfl rfl rfl rfl rfl HR.out (by simpa using hlt) HB.out ?_; intro w5 r5 b5 g5; rw [ints_set, listOf_set] at r5; have R5 := Lib.hid r5; have B5 := Lib.hid b5; have O5 := Lib.hid (HO.out.keepRow g5 HV.out); clear r5 b5 g5)
        | fail)
       go_wp2_with fail
       refine (opens_any x w5).mono ?_
       rintro e w6 ⟨rfl, b6⟩
       rw [HO1.out]
       have B6 := Lib.hid (B5.out.trans (b6.mono B5.out.size))
       have D6 := Lib.hid b6
       clear b6
       go_wp2_with fail
       go_roundw
       case rel => exact ⟨k + 1, by omega, by go_num, by rw [HM.out]; exact R5.out.below D6.out (Nat.le_refl _), by rw [HM.out]; exact O5.out.below D6.out (Nat.le_refl _), HV, B6.out⟩
       case measure => simp [intOf]; omega
      ·simp only at hmr
       have HM := Lib.hid hmr
       clear hmr
       obtain ⟨g', c', rfl, hrow⟩ := HO.out.inRow (by simp)
       obtain ⟨q, hq⟩ : ∃ q, st.length = q := ⟨_, rfl⟩
       have hs : (stk (p :: st)).length = q + 1 := by simp [hq]
       rw [hs] at HV ⊢
       have hgg : ¬ g' = w.heap.size := fun e => HV.out (by rw [e]; rfl)
       have HQ := Lib.hid hq
       have HRW := Lib.hid hrow
       have hqk : q + 1 ≤ k := by simpa [hq] using hml
       have hw1 : IntKind.i64.wrap (((q + 1 : Nat) : Int) - 1) = (q : Int) := by rw [IntWalk.i64_in _ (by omega)]; omega
       have hgt : decide (((q + 1 : Nat) : Int) > 0) = true := by simp
       clear hs hq hrow hml
       go_wp2_with (first
        | (refine store_row intsT wr w.heap.size _ _ w.heap.size k l.length .i64 (-1) _ w rfl rfl rfl rfl rfl HR.out (by simpa using hlt) HB.out ?_; intro w5 r5 b5 g5; rw [ints_set, listOf_set] at r5; have R5 := Lib.hid r5; have B5 := Lib.hid b5; have O5 := Lib.hid (HRW.out.keep g5 (fun e => hgg (by injection e with e; exact e.symm))); clear r5 b5 g5)
        | fail)
       go_wp2_with fail
       refine (opens_any x w5).mono ?_
       rintro e w6 ⟨rfl, b6⟩
       rw [HO1.out]
       have B6 := Lib.hid (B5.out.trans (b6.mono B5.out.size))
       have D6 := Lib.hid b6
       clear b6
       have R6 := Lib.hid (R5.out.below D6.out (Nat.le_refl _))
       have O6 := Lib.hid (O5.out.below D6.out (Nat.le_refl _))
       have hpk : p < k := HALL.out p (by simp)
       have HC1 : Hid (w6.cell? ⟨g', q, none⟩ = some (.int .i64 p)) := by
        have := O6.out.cell (j := q) (by simp [HQ.out])
        exact Lib.hid (by simpa [HQ.out] using this)
       have hc1 := HC1.out
       obtain ⟨u2, hc2⟩ : ∃ u, w6.cell? ⟨w.heap.size, k, none⟩ = some u := ⟨_, R6.out.cell (j := k) (by simpa using hlt)⟩
       have hf2 := R6.out.free k
       have R7 := Lib.hid (R6.out.set k (.int .i64 p))
       obtain ⟨u3, hc3⟩ : ∃ u, (w6.setCell ⟨w.heap.size, k, none⟩ (.int .i64 p)).cell? ⟨w.heap.size, p, none⟩ = some u := ⟨_, R7.out.cell (j := p) (by simp; omega)⟩
       have hf3 : (w6.setCell ⟨w.heap.size, k, none⟩ (.int .i64 p)).frozen? ⟨w.heap.size, p, none⟩ = false := R7.out.free p
       have b2 : (0 : Int) ≤ (q : Int) := by omega
       have b3 : (q : Int) < ((q + 1 : Nat) : Int) := by omega
       have b4 : (0 : Int) ≤ (p : Int) := by omega
       have b5 : (p : Int) < (l.length : Int) := by omega
       go_wp2_with fail
       go_region
       have R8 := (R7.out.set p (.int .i64 k)).drewN 1
       rw [ints_set, ints_set, listOf_set, listOf_set] at R8
       have O8 := Row.drewN ((O6.out.keep (R6.out.setG k (.int .i64 p)) (fun e => hgg (by injection e with e; exact e.symm))).keep (R7.out.setG p (.int .i64 k)) (fun e => hgg (by injection e with e; exact e.symm))) 1
       have B8 := below_drawn (Row.setB (Row.setB B6.out R6.out k (.int .i64 p)) R7.out p (.int .i64 k)) 1
       have O8' := O8.own (n := q + 1) (by simp [HQ.out])
       clear R7 hc1 hc2 hc3 hf2 hf3 HC1 O8
       change Row ((w6.setCell ⟨w.heap.size, k, none⟩ (.int .i64 p)).setCell ⟨w.heap.size, p, none⟩ (.int .i64 k)).drew _ _ _ _ _ at R8
       change Own ((w6.setCell ⟨w.heap.size, k, none⟩ (.int .i64 p)).setCell ⟨w.heap.size, p, none⟩ (.int .i64 k)).drew _ _ _ _ at O8'
       change Below _ _ ((w6.setCell ⟨w.heap.size, k, none⟩ (.int .i64 p)).setCell ⟨w.heap.size, p, none⟩ (.int .i64 k)).drew at B8
       generalize ((w6.setCell ⟨w.heap.size, k, none⟩ (.int .i64 p)).setCell ⟨w.heap.size, p, none⟩ (.int .i64 k)).drew = w7 at R8 O8' B8 ⊢
       have HR8 := Lib.hid R8
       have HO8 := Lib.hid O8'
       have HB8 := Lib.hid B8
       clear R8 O8' B8
       go_wp2_with (first
        | (refine short_own intsT w7 w.heap.size _ _ .i64 q _ _ rfl rfl rfl rfl (by omega) HO8.out (by simp [HQ.out]) ?_; intro v9 o9 e9; have O9 := Lib.hid o9; have HV9 := Lib.hid (show v9.ownBlock ≠ some w.heap.size by rw [e9]; exact HV.out); clear o9 e9)
        | fail)
       go_roundw
       case rel =>
        refine ⟨k + 1, by omega, by go_num, by rw [HM.out]; exact HR8.out, ?_, HV9, HB8.out⟩
        rw [HM.out]
        have := O9.out
        rw [show ((q : Int)).toNat = q by omega] at this
        have e : (stk (p :: st)).take q = stk st := by
         rw [stk, List.reverse_cons, List.map_append, ints, List.map_append, List.take_left' (by simp [HQ.out])]
        rw [e] at this
        exact this
       case measure => simp [intOf]; omega
    ·have HO1 := Lib.hid ho
     have hmr := HMR.out
     rw [if_neg n10, if_pos ho] at hmr
     have HM := Lib.hid hmr
     clear n10 ho HMR hmr
     go_wp2_with (first
      | (refine store_row intsT wr w.heap.size _ _ w.heap.size k l.length .i64 (-1) _ w rfl rfl rfl rfl rfl HR.out (by simpa using hlt) HB.out ?_; intro w5 r5 b5 g5; rw [ints_set, listOf_set] at r5; have R5 := Lib.hid r5; have B5 := Lib.hid b5; have O5 := Lib.hid (HO.out.keepRow g5 HV.out); clear r5 b5 g5)
      | fail)
     go_wp2_with fail
     refine (opens_any x w5).mono ?_
     rintro e w6 ⟨rfl, b6⟩
     rw [HO1.out]
     have B6 := Lib.hid (B5.out.trans (b6.mono B5.out.size))
     have D6 := Lib.hid b6
     clear b6
     have O6 := Lib.hid (O5.out.below D6.out (Nat.le_refl _))
     have R6 := Lib.hid (R5.out.below D6.out (Nat.le_refl _))
     go_wp2_with (first
      | (at_builtin; refine app_lit intsT w _ w.heap.size _ _ _ _ _ _ rfl rfl rfl rfl O6.out (by simp [Value.oneCell']) B6.out B6.out.size (by unfold maxLen; simp; omega) (by simp; omega) ?_; intro v7 w7 o7 b7 g7 e7)
      | fail)
     go_roundw
     case rel =>
      refine ⟨k + 1, by omega, by go_num, ?_, ?_, Lib.hid (fresh_ne HV.out R6.out.inside.2 e7), b7⟩
      ·rw [HM.out]; exact R6.out.keep g7 HV.out
      ·rw [HM.out]; simpa [stk, ints] using o7
     case measure => simp [intOf]; omega
   ·have hmr := HMR.out
    rw [if_pos (by simpa using h10)] at hmr
    have HM := Lib.hid hmr
    clear hmr HMR
    go_wp2_with (first
     | (refine store_row intsT wr w.heap.size _ _ w.heap.size k l.length .i64 (-1) _ w rfl rfl rfl rfl rfl HR.out (by simpa using hlt) HB.out ?_; intro w5 r5 b5 g5; rw [ints_set, listOf_set] at r5; have R5 := Lib.hid r5; have B5 := Lib.hid b5; have O5 := Lib.hid (HO.out.keepRow g5 HV.out); clear r5 b5 g5)
     | (refine short_own intsT w5 w.heap.size _ _ .i64 0 _ _ rfl rfl rfl rfl (by omega) O5.out (by simp) ?_; intro v6 o6 e6; have O6 := Lib.hid o6; have HV6 := Lib.hid (show v6.ownBlock ≠ some w.heap.size by rw [e6]; exact HV.out); clear o6 e6)
     | fail)
    go_roundw
    case rel => exact ⟨k + 1, by omega, by go_num, by rw [HM.out]; exact R5.out, by rw [HM.out]; simpa using O6.out, HV6, B5.out⟩
    case measure => simp [intOf]; omega
  ·go_wp2
   go_ret
   obtain rfl : k = l.length := by omega
   refine rowed_ret (HR.out.own ?_) HB.out rfl
   simp
theorem fill_minus (k : Nat) : upd (fun j => if j < k then -1 else 0) k (-1) = fun j => if j < k + 1 then -1 else 0 := by
 funext j
 simp only [upd]
 by_cases h : j = k
 ·rw [if_pos h, if_pos (by omega)]
 ·rw [if_neg h]
  by_cases h' : j < k
  ·rw [if_pos h', if_pos (by omega)]
  ·rw [if_neg h', if_neg (by omega)]
set_option maxRecDepth 20000 in
set_option maxHeartbeats 4000000 in
theorem rmatch_any (A : Option Addr) (l : List Int) (c : Nat) (w : World) (h : Lies w w.heap.size A (ints .i64 l)) (hl : l.length ≤ 1000000) :
 Calls Tryz.prog 63 #[.slice A l.length c] w (Rowed w w.heap.size 3 (ints .i64 (mt l))) := by
 have H := Lib.hid h
 clear h
 go_enter Tryz.func63, Tryz.ntmps63
 go_wp2_with (first
  | (refine make_row intsT w w w.heap.size _ _ .i64 .i64 l.length rfl rfl rfl rfl rfl (Below.refl _ _) (Nat.le_refl _) (by omega) (by unfold maxLen; omega) ?_; intro w2 r2 b2 g2)
  | fail)
 rw [listOf_zero] at r2
 have R2 := Lib.hid r2
 have B2 := Lib.hid b2
 clear r2 b2 g2
 go_wp2
 go_loopw [4] (fun iv wr => ∃ (k : Nat), k ≤ l.length ∧ iv = .int .i64 k ∧ Row wr w.heap.size 3 w.heap.size l.length (ints .i64 (listOf l.length (fun j => if j < k then -1 else 0))) ∧ Below w.heap.size w wr) (fun iv _ => l.length - (intOf iv).toNat)
 case atStart => exact ⟨0, by omega, rfl, R2.out, B2.out⟩
 case round =>
  obtain ⟨k, hk, rfl, hr, hb⟩ := hrel
  have HR := Lib.hid hr
  have HB := Lib.hid hb
  clear hr hb
  by_cases hlt : k < l.length
  ·have b0 : (0 : Int) ≤ (k : Int) := by omega
   have b1 : (k : Int) < (l.length : Int) := by omega
   go_wp2_with (first
    | (refine store_row intsT wr w.heap.size _ _ w.heap.size k l.length .i64 (-1) _ w rfl rfl rfl rfl rfl HR.out (by simpa using hlt) HB.out ?_; intro w5 r5 b5 g5; rw [ints_set, listOf_set, fill_minus] at r5; have R5 := Lib.hid r5; have B5 := Lib.hid b5; clear r5 b5 g5)
    | fail)
   go_roundw
   case rel => exact ⟨k + 1, by omega, by go_num, R5.out, B5.out⟩
   case measure => simp [intOf]; omega
  ·have hz : listOf l.length (fun j => if j < k then -1 else 0) = listOf l.length (rrun l 0) := by
    apply List.map_congr_left
    intro j hj
    have : j < l.length := by simpa using hj
    rw [if_pos (by omega)]; rfl
   have HR1 : Hid (Row wr w.heap.size 3 w.heap.size l.length (ints .i64 (listOf l.length (rrun l 0)))) := Lib.hid (by rw [← hz]; exact HR.out)
   clear hz HR
   go_wp2
   go_loopw [5] (fun iv wr => ∃ (k : Nat), k ≤ l.length ∧ iv = .int .i64 k ∧ Row wr w.heap.size 3 w.heap.size l.length (ints .i64 (listOf l.length (rrun l k))) ∧ Below w.heap.size w wr) (fun iv _ => l.length - (intOf iv).toNat)
   case atStart => exact ⟨0, by omega, rfl, HR1.out, HB.out⟩
   case round =>
    clear HB HR1 hlt hk
    obtain ⟨k, hk, rfl, hr, hb⟩ := hrel
    have HR := Lib.hid hr
    have HB := Lib.hid hb
    clear hr hb
    by_cases hlt : k < l.length
    ·obtain ⟨p, rfl, hpb, hc⟩ := (H.out.below HB.out).int hlt
     have b0 : (0 : Int) ≤ (k : Int) := by omega
     have b1 : (k : Int) < (l.length : Int) := by omega
     have HRR : Hid (rrun l (k + 1) = if isOpens l[k] then (if 0 ≤ endOf l k then upd (upd (rrun l k) k (endOf l k)) (endOf l k).toNat k else upd (rrun l k) k (endOf l k)) else rrun l k) := Lib.hid (by rw [rrun, at0_eq hlt])
     obtain ⟨x, hx⟩ : ∃ x, l[k] = x := ⟨_, rfl⟩
     rw [hx] at hc HRR
     obtain ⟨f, hf⟩ : ∃ f, rrun l k = f := ⟨_, rfl⟩
     rw [hf] at HR HRR
     clear hx hf
     rcases ho : isOpens x with _ | _
     ·have HO := Lib.hid ho
      have HM := HRR.out
      rw [if_neg (by rw [ho]; simp)] at HM
      have HM := Lib.hid HM
      clear ho HRR
      go_wp2_with fail
      refine (ropens_any x _).mono ?_
      rintro e wq ⟨rfl, rfl⟩
      rw [HO.out]
      go_wp2_with fail
      go_roundw
      case rel => exact ⟨k + 1, by omega, by go_num, by rw [HM.out]; exact HR.out, HB.out⟩
      case measure => simp [intOf]; omega
     ·have HO := Lib.hid ho
      have hj := first_jump l k 0
      have HE := Lib.hid (rend_any (some p) l c k wr ((H.out.below HB.out).wider HB.out.size) hl hlt)
      have HM := HRR.out
      rw [if_pos ho] at HM
      obtain ⟨ee, hee⟩ : ∃ ee, endOf l k = ee := ⟨_, rfl⟩
      rw [hee] at HE HM hj
      clear hee ho HRR
      rcases hj with ⟨rfl, _⟩ | ⟨e, rfl, he1, he2, _⟩
      ·rw [if_neg (by omega)] at HM
       have HM := Lib.hid HM
       go_wp2_with fail
       refine (ropens_any x _).mono ?_
       rintro e wq ⟨rfl, rfl⟩
       rw [HO.out]
       go_wp2_with fail
       refine (HE.out).mono ?_
       rintro e w3 ⟨rfl, b3⟩
       have B3 := Lib.hid (HB.out.trans (b3.mono HB.out.size))
       have D3 := Lib.hid b3
       clear b3
       have R3 := Lib.hid (HR.out.below D3.out (Nat.le_refl _))
       go_wp2_with (first
        | (refine store_row intsT w3 w.heap.size _ _ w.heap.size k l.length .i64 (-1) _ w rfl rfl rfl rfl rfl R3.out (by simpa using hlt) B3.out ?_; intro w5 r5 b5 g5; rw [ints_set, listOf_set] at r5; have R5 := Lib.hid r5; have B5 := Lib.hid b5; clear r5 b5 g5)
        | fail)
       go_roundw
       case rel => exact ⟨k + 1, by omega, by go_num, by rw [HM.out]; exact R5.out, B5.out⟩
       case measure => simp [intOf]; omega
      ·rw [if_pos (by omega), Int.toNat_natCast] at HM
       have HM := Lib.hid HM
       have b2 : (0 : Int) ≤ (e : Int) := by omega
       have b3 : (e : Int) < (l.length : Int) := by omega
       have hge : decide ((e : Int) ≥ 0) = true := by simp
       go_wp2_with fail
       refine (ropens_any x _).mono ?_
       rintro e wq ⟨rfl, rfl⟩
       rw [HO.out]
       go_wp2_with fail
       refine (HE.out).mono ?_
       rintro e w3 ⟨rfl, b3⟩
       have B3 := Lib.hid (HB.out.trans (b3.mono HB.out.size))
       have D3 := Lib.hid b3
       clear b3
       have R3 := Lib.hid (HR.out.below D3.out (Nat.le_refl _))
       go_wp2_with (first
        | (refine store_row intsT w3 w.heap.size _ _ w.heap.size k l.length .i64 e _ w rfl rfl rfl rfl rfl R3.out (by simpa using hlt) B3.out ?_; intro w5 r5 b5 g5; rw [ints_set, listOf_set] at r5; have R5 := Lib.hid r5; have B5 := Lib.hid b5; clear r5 b5 g5)
        | (refine store_row intsT w5 w.heap.size _ _ w.heap.size e l.length .i64 k _ w rfl rfl rfl rfl rfl R5.out (by simpa using he2) B5.out ?_; intro w6 r6 b6 g6; rw [ints_set, listOf_set] at r6; have R6 := Lib.hid r6; have B6 := Lib.hid b6; clear r6 b6 g6)
        | fail)
       go_roundw
       case rel => exact ⟨k + 1, by omega, by go_num, by rw [HM.out]; exact R6.out, B6.out⟩
       case measure => simp [intOf]; omega
    ·obtain rfl : k = l.length := by omega
     rw [rrun_mt] at HR
     go_wp2
     go_ret
     refine rowed_ret (HR.out.own ?_) HB.out rfl
     simp [mt]
end Go.Proofs.YtcbaahlahohfmaaGreatDoor
