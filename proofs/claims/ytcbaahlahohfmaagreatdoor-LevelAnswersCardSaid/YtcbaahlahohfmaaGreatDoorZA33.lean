/- Shared texts, shaken for one claim. -/
import Derived.Test.YtcbaahlahohfmaaGreatDoorZA17
import Derived.Test.YtcbaahlahohfmaaGreatDoorZA32
namespace Go.Proofs.YtcbaahlahohfmaaGreatDoor
open Go.RowKit Go.Maps
theorem sisolates_any (A : Option Addr) (l : List Int) (c : Nat) (w : World) (h : Lies w w.heap.size A (ints .i64 l)) (hl : l.length ≤ 1000000) :
 Calls Tryz.prog 48 #[.slice A l.length c] w fun ed w' => Rowed w w.heap.size 3 (ints .i64 (mt l)) ed w' := by
 go_enter Tryz.func48, Tryz.ntmps48
 go_wp2_with fail
 refine (match_any A l c w h hl).mono ?_
 rintro e w1 ⟨v1, rfl, o1, b1⟩
 go_wp2
 go_ret
 exact ⟨_, rfl, o1, b1⟩
theorem mt_range (cl : List Int) (q : Nat) (h : q < cl.length) : -1 ≤ mf cl q ∧ mf cl q < cl.length := by
 have hm := minv cl cl.length (Nat.le_refl _)
 cases ho : isOpens (at0 cl q) with
 | true =>
  rcases hm.op q h ho with e | ⟨b, hb⟩
  ·rw [show mf cl q = -1 from e]; omega
  ·have h1 : mf cl q = (b : Int) := hb.fa
   have := hb.bi
   omega
 | false =>
  rcases hm.cl q h ho with e | ⟨a, h1, h2, _⟩
  ·rw [show mf cl q = -1 from e]; omega
  ·have h3 : mf cl q = (a : Int) := h1
   omega
theorem MapAt.mono {w : World} {b n : Nat} {M : Int → Option Int} (h : MapAt w b n M) : MapAt w b (n + 1) M := h.elim fun D h => ⟨D, h.1.mono (Nat.le_succ _), h.2⟩
def RowedSY (w : World) (L : List Sq) (ed : Ending) (w' : World) : Prop := ∃ A c vs, ed = .returned (.slice A L.length c) ∧ SeqsR w' A L vs ∧ (∀ p, A = some p → w.heap.size ≤ p.block) ∧ (∀ u ∈ vs, Young w.heap.size u) ∧ Below w.heap.size w w'
set_option maxRecDepth 20000 in
set_option maxHeartbeats 4000000 in
theorem sofp_anyY (A : Option Addr) (cl : List Int) (c : Nat) (A' : Option Addr) (lv : List Int) (c' : Nat) (base : Int) (w : World) (h : Lies w w.heap.size A (ints .i64 cl)) (h' : Lies w w.heap.size A' (ints .i64 lv)) (hl : cl.length ≤ 1000000) :
 Calls Tryz.prog 30 #[.slice A cl.length c, .slice A' lv.length c', .int .i64 base] w (RowedSY w (pst cl lv (mt cl) base (listsI cl lv) (listsI cl lv).length).2) := by
 have H := Lib.hid h
 have H' := Lib.hid h'
 have hsix := listsI_six (lv := lv) hl
 have HSP := Lib.hid (ssplit_anyY A cl c A' lv c' w h h' hl)
 have WW := Lib.hid (within_I cl lv)
 have HE : Hid (0 < (listsI cl lv).length → cl.length = lv.length) := Lib.hid (fun hp => Classical.byContradiction fun hne => by rw [lists_none hne] at hp; simp at hp)
 obtain ⟨L, hL⟩ : ∃ L, listsI cl lv = L := ⟨_, rfl⟩
 obtain ⟨m, hm⟩ : ∃ m, mt cl = m := ⟨_, rfl⟩
 have HML : Hid (m.length = cl.length) := Lib.hid (by rw [← hm, mt_length])
 have HM := Lib.hid hm
 rw [hL] at HSP hsix WW HE
 obtain ⟨hL6, hne, hle⟩ := hsix
 have HNE := Lib.hid hne
 have HLE := Lib.hid hle
 have HOK : Hid (∀ k, k ≤ L.length → PstOk (pst cl lv m base L k) k) := Lib.hid (pst_ok cl lv m base (fun r hr => by
  obtain ⟨j, hj, rfl⟩ := List.mem_iff_getElem.1 hr
  exact ⟨hle j hj, hne j hj⟩))
 rw [hL, hm]
 clear h h' hL hne hle hm
 go_enter Tryz.func30, Tryz.ntmps30
 go_wp2_with fail
 refine HSP.out.mono ?_
 rintro e w1 ⟨A1, c1, rfl, r1, y1, b1⟩
 have R1 := Lib.hid r1
 have Y1 := Lib.hid y1
 have B1 := Lib.hid b1
 clear r1 y1 b1
 go_wp2_with fail
 obtain ⟨W, hW⟩ : ∃ W, w1.alloc (.cells #[.slice A cl.length c, .slice A' lv.length c', .int .i64 base, .slice A1 L.length c1] 64) = W := ⟨_, rfl⟩
 obtain ⟨q0, hq0⟩ : ∃ q, w1.heap.size = q := ⟨_, rfl⟩
 have BW : Hid (Below w1.heap.size w1 W) := Lib.hid (hW ▸ below_alloc w1 _)
 have SK : Hid (∀ w', Below W.heap.size W w' → w'.cell? ⟨q0, 0, none⟩ = some (.slice A cl.length c) ∧ w'.cell? ⟨q0, 1, none⟩ = some (.slice A' lv.length c') ∧ w'.cell? ⟨q0, 2, none⟩ = some (.int .i64 base) ∧ w'.cell? ⟨q0, 3, none⟩ = some (.slice A1 L.length c1)) := by
  subst hW hq0
  exact Lib.hid fun w' h => ⟨boxed h rfl, boxed h rfl, boxed h rfl, boxed h rfl⟩
 rw [hW, hq0]
 clear hW hq0
 refine (sisolates_any A cl c W ((H.out.up B1.out).up BW.out) hl).mono ?_
 rintro e w3 ⟨v3, rfl, o3, b3⟩
 rw [HM.out] at o3
 obtain ⟨A3, c3, rfl, l3, _, _⟩ := o3.form
 simp only [ints, List.length_map]
 have B3 := Lib.hid b3
 have L3 := Lib.hid l3
 clear o3 b3 l3
 have hbx : ∀ o : Obj, (w3.alloc o).cell? ⟨q0, 3, none⟩ = some (.slice A1 L.length c1) := fun o => (SK.out _ (B3.out.trans ((below_alloc w3 o).mono B3.out.size))).2.2.2
 have hmm := @run_makeMap Tryz.prog
 go_wp2_with fail
 clear hbx hmm
 -- what stays: all that lies ahead of w3's end
 have KEEP : Hid (∀ w', Below w3.heap.size w3 w' → Lies w' w'.heap.size A (ints .i64 cl) ∧ Lies w' w'.heap.size A' (ints .i64 lv) ∧ Lies w' w3.heap.size A3 (ints .i64 m) ∧ RunsR w' A1 L ∧ Below W.heap.size W w') :=
  Lib.hid fun w' h => ⟨(((H.out.up B1.out).up BW.out).up B3.out).up h, (((H'.out.up B1.out).up BW.out).up B3.out).up h, L3.out.below h, ((R1.out.up BW.out).up B3.out).up h, below_then B3.out h⟩
 have RUN : Hid (∀ w' k (hk : k < L.length), Below w3.heap.size w3 w' → ∃ p b off, A1 = some p ∧ p.block < w3.heap.size ∧ b < w3.heap.size ∧ w'.cell? (p.add k) = some (.slice (some ⟨b, off, none⟩) L[k].length L[k].length) ∧ w'.cell? ⟨b, off, none⟩ = some (.int .i64 (headI L[k])) ∧ w'.cell? ⟨b, off + (L[k].length - 1), none⟩ = some (.int .i64 (lastI L[k])) ∧ Lies w' w3.heap.size (some ⟨b, off, none⟩) (ints .i64 L[k])) :=
  Lib.hid fun w' k hk h => RunsR.later ((R1.out.up BW.out).up B3.out) h hk (HNE.out k hk)
 have YRUN : Hid (∀ w' k (_ : k < L.length) (p : Addr) (b off n c : Nat), Below w3.heap.size w3 w' → A1 = some p → w'.cell? (p.add k) = some (.slice (some ⟨b, off, none⟩) n c) → w.heap.size ≤ b) :=
  Lib.hid fun w' k hk p b off n c h hp hc => ((Y1.out.up R1.out BW.out).up (R1.out.up BW.out) B3.out).up ((R1.out.up BW.out).up B3.out) h p hp k hk _ hc b rfl
 have N3 : Hid (w.heap.size ≤ w3.heap.size) := Lib.hid (Nat.le_trans B1.out.size (Nat.le_trans BW.out.size B3.out.size))
 go_loopw [29, 10] (fun iv ov wr => ∃ (k : Nat) (vs : List Value), k ≤ L.length ∧ iv = .int .i64 k ∧ SeqsM wr w3.heap.size ov vs (pst cl lv m base L k).2 ∧ MapAt wr w3.heap.size k (pst cl lv m base L k).1 ∧ Below w3.heap.size w3 wr ∧ Hid (∀ u ∈ vs, Young w.heap.size u)) (fun iv _ _ => L.length - (intOf iv).toNat)
 case atStart => exact ⟨0, [], by omega, rfl, SeqsM.empty _ _, mapAt_made _, below_alloc _ _, Lib.hid (by simp)⟩
 case round =>
  obtain ⟨k, vs, hk, rfl, hs, hmap, hb, HY⟩ := hrel
  have HS := Lib.hid hs
  have HMA := Lib.hid hmap
  have HB := Lib.hid hb
  clear hs hmap hb
  by_cases hlt : k < L.length
  ·obtain ⟨p, b, off, hA1, hpb, hbb, hcell, hc0, hc1, hrl⟩ := RUN.out wr k hlt HB.out
   have HYB : Hid (w.heap.size ≤ b) := Lib.hid (YRUN.out wr k hlt p b off _ _ HB.out hA1 hcell)
   subst hA1
   obtain ⟨r, hr⟩ : ∃ r, L[k] = r := ⟨_, rfl⟩
   have hgk : L.getD k [] = r := by simp [hlt, hr]
   obtain ⟨q, hq, hql⟩ := WW.out.head hlt
   obtain ⟨y, hy, hyl⟩ := WW.out.last hlt
   rw [hq] at hc0
   rw [hy] at hc1
   rw [hr] at hcell hc1 hrl hq hy
   obtain ⟨n1, hn1⟩ : ∃ n, r.length = n := ⟨_, rfl⟩
   have hn0 : 0 < n1 := by rw [← hn1, ← hr]; exact List.length_pos_iff.2 (HNE.out k hlt)
   have hn6 : n1 ≤ 1000000 := by rw [← hn1, ← hr]; exact HLE.out k hlt
   rw [hn1] at hcell hc1
   obtain ⟨M, hM⟩ : ∃ M, (pst cl lv m base L k).1 = M := ⟨_, rfl⟩
   obtain ⟨S, hS⟩ : ∃ S, (pst cl lv m base L k).2 = S := ⟨_, rfl⟩
   rw [hM] at HMA
   rw [hS] at HS
   have HNX : Hid (pst cl lv m base L (k + 1) = (if lastI r < otherI m r then fun x => if x = otherI m r then some ((seqAt M S r : Nat) : Int) else M x else M, setEos (seqIn lv base L k M S) (seqAt M S r) (eosW cl lv base L k))) :=
    Lib.hid (by rw [pst, hM, hS, hgk])
   have HO : Hid (PstOk (M, S) k) := Lib.hid (by rw [← hM, ← hS]; exact HOK.out k hk)
   have HR : Hid (r.length = n1 ∧ r ≠ [] ∧ headI r = q ∧ lastI r = y ∧ L[k] = r ∧ L.getD k [] = r) := Lib.hid ⟨hn1, hr ▸ HNE.out k hlt, hq, hy, hr, hgk⟩
   have HRL := Lib.hid hrl
   have HC1 := Lib.hid hc1
   have HC0 := Lib.hid hc0
   have b0 : (0 : Int) ≤ (k : Int) := by omega
   have b1 : (k : Int) < (L.length : Int) := by omega
   have b4 : (0 : Int) < (n1 : Int) := by omega
   clear hr hgk hq hy hn1 hM hS hrl hc1
   have hqw : (Lit.int .i64 (q : Int)).wf = true := WalkArith.wf_i64 (by omega)
   go_upto_region 8 with fail
   go_cut [13, 14] (fun nv bv wx => wr = wx ∧ bv = .bool (M q).isSome ∧ ∃ c : Int, nv = .int .i64 c ∧ ∀ n, M q = some n → c = n)
   case first =>
    cases hmq : M q with
    | some n =>
     go_wp2_with (first
      | (refine look_some rfl rfl Tryz.underlying65 rfl HMA.out rfl hqw hmq ?_)
      | fail)
     go_meet
     exact ⟨rfl, by rw [hmq]; rfl, n, rfl, fun x h => by rw [hmq] at h; injection h⟩
    | none =>
     go_wp2_with (first
      | (refine look_none rfl rfl Tryz.underlying65 rfl HMA.out rfl hqw hmq ?_; intro c0)
      | fail)
     go_meet
     exact ⟨rfl, by rw [hmq]; rfl, _, rfl, fun x h => by rw [hmq] at h; cases h⟩
   case rest =>
    obtain ⟨rfl, rfl, c0, rfl, hc0n⟩ := hcut
    have HCN := Lib.hid hc0n
    have HEQ : Hid (cl.length = lv.length) := Lib.hid (HE.out (by omega))
    clear hc0n hc0 hqw
    obtain ⟨fr, hfr⟩ : ∃ b, (M q).isSome = b := ⟨_, rfl⟩
    have HFR := Lib.hid hfr
    rw [hfr]
    clear hfr
    go_upto_if 42 with fail
    go_cut [10, 13] (fun ov nv wx => ∃ vs2, nv = .int .i64 ((seqAt M S r : Nat) : Int) ∧ SeqsM wx w3.heap.size ov vs2 (seqIn lv base L k M S) ∧ MapAt wx w3.heap.size k M ∧ Below w3.heap.size w3 wx ∧ Hid (∀ u ∈ vs2, Young w.heap.size u))
    case first =>
     rcases fr with _ | _
     ·have hmq : M q = none := by have := HFR.out; cases hm : M q with | none => rfl | some x => rw [hm] at this; cases this
      have HSA : Hid (seqAt M S r = S.length ∧ seqIn lv base L k M S = S ++ [⟨r, levW lv base L k, sosW lv base L k, 0⟩]) := Lib.hid ⟨by rw [seqAt, HR.out.2.2.1, hmq], by rw [seqIn, HR.out.2.2.2.2.2, HR.out.2.2.1, hmq]⟩
      clear hmq
      have hS6 : S.length ≤ 1000000 := Nat.le_trans HO.out.len (by omega)
      obtain ⟨Ao, co, rfl, _, _, _⟩ := HS.out.outer.form
      have SKr : Hid (∀ w', Below w3.heap.size w3 w' → w'.cell? ⟨q0, 0, none⟩ = some (.slice A cl.length c) ∧ w'.cell? ⟨q0, 1, none⟩ = some (.slice A' lv.length c') ∧ w'.cell? ⟨q0, 2, none⟩ = some (.int .i64 base) ∧ w'.cell? ⟨q0, 3, none⟩ = some (.slice (some p) L.length c1)) :=
       Lib.hid fun w' h => SK.out w' (KEEP.out w' h).2.2.2.2
      go_wp2_with fail
      refine wp_region_E (S := fun w' => w'.cell? ⟨q0, 0, none⟩ = some (.slice A cl.length c) ∧ w'.cell? ⟨q0, 1, none⟩ = some (.slice A' lv.length c') ∧ w'.cell? ⟨q0, 2, none⟩ = some (.int .i64 base) ∧ w'.cell? ⟨q0, 3, none⟩ = some (.slice (some p) L.length c1)) [] (by kernel_rfl) (SKr.out _ (by exact below_same HB.out rfl rfl rfl rfl)) (fun hHeld hZ => ?_)
      refine' eY 0 hHeld hZ fun hZ => ?_
      try simp only [Act.put,ZA,ZB,ZD,ZE,ZF]
      refine' eY 1 hHeld hZ fun hZ => ?_
      try simp only [Act.put,ZA,ZB,ZC,ZD,ZE,ZF]
      refine' eY 2 hHeld hZ fun hZ => ?_
      try simp only [Act.put,ZA,ZB,ZC,ZD,ZE,ZF]
      refine' eY 3 hHeld hZ fun hZ => ?_
      try simp only [Act.put,ZA,ZB,ZC,ZD,ZE,ZF]
      refine' eY 5 hHeld hZ fun hZ => ?_
      try simp only [Act.put,ZA,ZB,ZC,ZD,ZE,ZF]
      refine' eY 6 hHeld hZ fun hZ => ?_
      try simp only [Act.put,ZA,ZB,ZC,ZD,ZE,ZF]
      refine eA 4 fun K hK => ?_
      go_simp
      refine (slevel_any A cl.length c A' lv c' base (some p) L c1 k _ (KEEP.out _ (by exact below_same HB.out rfl rfl rfl rfl)).2.1 (KEEP.out _ (by exact below_same HB.out rfl rfl rfl rfl)).2.2.2.1 (HEQ.out ▸ WW.out)).mono ?_
      rintro e w4 ⟨rfl, b4'⟩
      have B4 := Lib.hid (HB.out.trans (show Below w3.heap.size wr w4 from (show Below wr.heap.size wr w4 from ⟨b4'.os, b4'.tape, b4'.output, b4'.size, b4'.block⟩).mono HB.out.size))
      have D4 := Lib.hid (show Below wr.heap.size wr w4 from ⟨b4'.os, b4'.tape, b4'.output, b4'.size, b4'.block⟩)
      clear b4'
      refine eB hK hZ (SKr.out _ B4.out) fun hHeld hZ => ?_
      clear hK K
      try simp only [Act.put,ZA,ZB,ZC,ZD,ZE,ZF]
      refine eA 7 fun K hK => ?_
      go_simp
      refine (ssos_any A cl.length c A' lv c' base (some p) L c1 k _ (KEEP.out _ B4.out).2.1 (KEEP.out _ B4.out).2.2.2.1 (HEQ.out ▸ WW.out) (by omega)).mono ?_
      rintro e w5 ⟨rfl, b5'⟩
      have B5 := Lib.hid (B4.out.trans (b5'.mono B4.out.size))
      have D5 := Lib.hid (below_then D4.out b5')
      clear b5'
      have hsw : dirL (max (levW lv base L k) (levW lv base L ((k : Int) - 1))) = sosW lv base L k := rfl
      rw [hsw]
      obtain ⟨x1, hx1⟩ : ∃ x, levW lv base L k = x := ⟨_, rfl⟩
      obtain ⟨x2, hx2⟩ : ∃ x, sosW lv base L k = x := ⟨_, rfl⟩
      rw [hx1, hx2] at HSA
      rw [hx2]
      have hx1' := hx1
      clear hsw
      refine eB hK hZ (SKr.out _ B5.out) fun hHeld hZ => ?_
      clear hK K
      try simp only [Act.put,ZA,ZB,ZC,ZD,ZE,ZF]
      simp only [hx1]
      clear hx1 hx2 hx1'
      refine' eY 8 hHeld hZ fun hZ => ?_
      try simp only [Act.put,ZA,ZB,ZC,ZD,ZE,ZF]
      refine eA 9 fun K hK => ?_
      go_simp
      refine eB hK hZ (SKr.out _ (by exact below_same (B5.out.trans ((below_alloc w5 _).mono B5.out.size)) rfl rfl rfl rfl)) fun hHeld hZ => ?_
      clear hK K
      try simp only [Act.put,ZA,ZB,ZC,ZD,ZE,ZF]
      refine eA 10 fun K hK => ?_
      have S5 := Lib.hid ((HS.out.below D5.out (Nat.le_refl _) HB.out.size).below (below_alloc w5 (.cells #[.slice (some ⟨b, off, none⟩) n1 n1, .int .i64 x1, .int .i64 x2, .int .i64 0] 49)) (Nat.le_refl _) B5.out.size)
      refine step_appN seqsT w3 _ w3.heap.size _ (.tmp 56) (.tmp 65) _ S.length 1 (sqCells vs S) [.slice (some ⟨b, off, none⟩) n1 n1, .int .i64 x1, .int .i64 x2, .int .i64 0] _ _ rfl rfl rfl rfl (OwnN.same S5.out.outer rfl) (Lies.sameHeap (Lies.lit (w := w5) (e := 49) #[.slice (some ⟨b, off, none⟩) n1 n1, .int .i64 x1, .int .i64 x2, .int .i64 0]) rfl) rfl (by simp [Value.oneCell']) (by exact below_same (B5.out.trans ((below_alloc w5 _).mono B5.out.size)) rfl rfl rfl rfl) (by have := B5.out.size; simp; omega) (by unfold maxLen; omega) (by omega) ?_
      intro v6 w6 o6 b6 g6 e6
      have O6 := Lib.hid o6
      have B6 := Lib.hid b6
      have G6 := Lib.hid g6
      clear o6 b6 g6 e6
      refine eB hK hZ (SKr.out _ B6.out) fun hHeld hZ => ?_
      clear hK K
      try simp only [Act.put,ZA,ZB,ZC,ZD,ZE,ZF]
      refine' eY 11 hHeld hZ fun hZ => ?_
      try simp only [Act.put,ZA,ZB,ZC,ZD,ZE,ZF]
      refine wpAnyE_done (by kernel_rfl) ?_ _
      clear hZ
      go_wp2_with fail
      go_meet
      have hS5 : w3.heap.size ≤ (w5.alloc (.cells #[.slice (some ⟨b, off, none⟩) n1 n1, .int .i64 x1, .int .i64 x2, .int .i64 0] 49)).heap.size := by have := B5.out.size; simp; omega
      have hrl5 := (HRL.out.below (D5.out.mono HB.out.size)).below ((below_alloc w5 (.cells #[.slice (some ⟨b, off, none⟩) n1 n1, .int .i64 x1, .int .i64 x2, .int .i64 0] 49)).mono B5.out.size)
      have hfin := S5.out.push (s := ⟨r, x1, x2, 0⟩) hS5 hrl5 HR.out.2.1 G6.out (by
       have := O6.out
       rw [← HR.out.1] at this
       exact this)
      rw [HSA.out.1, HSA.out.2]
      refine ⟨_, rfl, hfin, ?_, B6.out, Lib.hid (young_push HY.out HYB.out)⟩
      ·refine ((HMA.out.below D5.out HMA.out.lt (Nat.le_refl _)).alloc _).kept G6.out (fun e => ?_)
       exact ((HMA.out.below D5.out HMA.out.lt (Nat.le_refl _)).alloc _).ne S5.out.outer e.symm
     ·obtain ⟨n, hmq⟩ : ∃ n, M q = some n := by have := HFR.out; cases hm : M q with | none => rw [hm] at this; cases this | some x => exact ⟨x, rfl⟩
      obtain ⟨n, rfl, hnl⟩ := HO.out.at' _ _ hmq
      have hnl : n < S.length := hnl
      obtain rfl := HCN.out _ hmq
      have HSA : Hid (seqAt M S r = n ∧ seqIn lv base L k M S = addPl S n r) := Lib.hid ⟨by rw [seqAt, HR.out.2.2.1, hmq]; simp, by rw [seqIn, HR.out.2.2.2.2.2, HR.out.2.2.1, hmq]; simp⟩
      clear hmq HCN
      have hS6 : S.length ≤ 1000000 := Nat.le_trans HO.out.len (by omega)
      have hlen := HS.out.len
      have hnv : n < vs.length := by omega
      have hpl := HO.out.pl S[n] (List.getElem_mem hnl)
      have hmx := HS.out.inner n hnv hnl
      obtain ⟨An, cn, hvn, _⟩ := hmx.form HB.out.size
      rw [ints, List.length_map] at hvn
      obtain ⟨pn, hpn⟩ : ∃ x, S[n].pl = x := ⟨_, rfl⟩
      rw [hpn] at hmx hvn hpl
      obtain ⟨nn, hnn⟩ : ∃ x, pn.length = x := ⟨_, rfl⟩
      rw [hnn] at hvn
      obtain ⟨g, co, rfl, -, -, -, -⟩ := HS.out.outer.block (by omega)
      have hcn := HS.out.cellAt hnl hnv
      rw [hvn] at hcn
      have HMX := Lib.hid hmx
      have HVN := Lib.hid hvn
      have HPN : Hid (S[n].pl = pn ∧ pn.length = nn) := Lib.hid ⟨hpn, hnn⟩
      have HLN := Lib.hid hlen
      have HNN : Hid (nn ≤ 1000000000000) := Lib.hid (by
       have h2 : k * 1000000 ≤ 1000000 * 1000000 := Nat.mul_le_mul_right _ (by omega)
       omega)
      have d0 : (0 : Int) ≤ (n : Int) := by omega
      have d1 : (n : Int) < (S.length : Int) := by omega
      clear hmx hvn hpn hnn hpl hlen
      go_wp2_with (first
       | (at_builtin; refine app_mix intsT w3 wr w3.heap.size w3.heap.size _ _ (.slice An nn cn) (ints .i64 pn) (ints .i64 r) (some ⟨b, off, none⟩) n1 n1 rfl rfl rfl rfl (by rw [ints, List.length_map, HR.out.1]) (HVN.out ▸ HMX.out) HRL.out (by have := HR.out.2.1; simpa [ints] using this) (ints_one _ _) HB.out HB.out.size (by have := HNN.out; have := HPN.out.2; have := HR.out.1; simp only [ints, List.length_map]; unfold maxLen; omega) (by have := HNN.out; have := HPN.out.2; have := HR.out.1; simp only [ints, List.length_map]; omega) ?_
          intro v5 w5 o5 b5 g5 l5
          have O5 := Lib.hid o5
          have B5 := Lib.hid b5
          have G5 := Lib.hid g5
          have E5 := Lib.hid l5
          obtain ⟨A5, c5, hv5, -, -, -⟩ := o5.form
          obtain ⟨n5, hn5⟩ : ∃ x, (ints .i64 pn ++ ints .i64 r).length = x := ⟨_, rfl⟩
          rw [hn5] at hv5
          subst hv5
          clear o5 b5 g5 l5 hn5
          have OUT := Lib.hid (HS.out.outer.keep G5.out (.inr (fun e => by
           rw [← HVN.out] at e
           rcases HS.out.far hnv with h1 | h1
           ·rw [h1] at e; cases e
           ·exact h1 e.symm))))
       | (refine store_cellN w5 w3.heap.size _ _ g (n * 4) co S.length (.slice A5 n5 c5) (sqCells vs S) w3 rfl rfl rfl (by kernel_rfl) rfl rfl rfl OUT.out (by omega) B5.out ?_
          intro w6 o6 b6 g6
          have O6 := Lib.hid o6
          have B6 := Lib.hid b6
          have G6 := Lib.hid g6
          clear o6 b6 g6)
       | fail)
      go_meet
      rw [HSA.out.1, HSA.out.2]
      have hfin := HS.out.grow HB.out.size hnl hnv (p := pn ++ r) (by have := O5.out; rw [ints, ints, ← List.map_append] at this; exact this) (by rw [HVN.out]; exact G5.out) (by rw [HVN.out]; exact E5.out) O6.out G6.out
      refine ⟨vs.set n (.slice A5 n5 c5), rfl, ?_, ?_, B6.out, Lib.hid (young_set HY.out fun x hx => Nat.le_trans N3.out (Own.inside O5.out x hx).1)⟩
      ·have he : addPl S n r = S.set n { S[n] with pl := pn ++ r } := by
        rw [addPl, show S.getD n sqZ = S[n] by simp [hnl], HPN.out.1]
       rw [he]; exact hfin
      ·refine (HMA.out.kept G5.out (fun e => ?_)).kept G6.out (fun e => ?_)
       ·rw [← HVN.out] at e
        exact HMA.out.neAt (HS.out.inner n hnv hnl) e.symm
       ·exact HMA.out.ne HS.out.outer e.symm
    case rest =>
     obtain ⟨vs2, rfl, hs2, hm2, hb2, HY2⟩ := hcut
     have HS2 := Lib.hid hs2
     have HM2 := Lib.hid hm2
     have HB2 := Lib.hid hb2
     clear hs2 hm2 hb2
     have hok := seqIn_ok (lv := lv) (base := base) HO.out hlt (HLE.out k hlt) (HNE.out k hlt)
     rw [HR.out.2.2.2.2.2] at hok
     obtain ⟨n, hn⟩ : ∃ x, seqAt M S r = x := ⟨_, rfl⟩
     obtain ⟨S2, hS2⟩ : ∃ x, seqIn lv base L k M S = x := ⟨_, rfl⟩
     rw [hn, hS2] at hok HNX
     rw [hn]
     rw [hS2] at HS2
     obtain ⟨x, hx⟩ : ∃ x, eosW cl lv base L k = x := ⟨_, rfl⟩
     have HX : Hid (dirL (max (levW lv base L k) (behW lv base L k (cl.getD (lastI (L[k]'hlt)).toNat 0))) = x) := Lib.hid (by rw [← hx, eosW, HR.out.2.2.2.2.2, HR.out.2.2.2.2.1])
     rw [hx] at HNX
     have HNX1 : Hid ((pst cl lv m base L (k + 1)).1 = if lastI r < otherI m r then fun x => if x = otherI m r then some (n : Int) else M x else M) := Lib.hid (by rw [HNX.out])
     have hnl := hok.1
     have hS6 : S2.length ≤ k + 1 := hok.2.1
     obtain ⟨t, ht⟩ : ∃ t, n1 - 1 = t := ⟨_, rfl⟩
     have HT : Hid (n1 = t + 1) := Lib.hid (by omega)
     have HLC : Hid (∀ w', Below w3.heap.size w3 w' → w'.cell? ⟨b, off + t, none⟩ = some (.int .i64 y)) := Lib.hid fun w' h => by
      have h1 := HC1.out
      rw [ht, HB.out.cell hbb] at h1
      rw [h.cell hbb]; exact h1
     have hym : y < m.length := by have := HML.out; omega
     obtain ⟨e, he⟩ : ∃ x, m[y] = x := ⟨_, rfl⟩
     have HOE : Hid (otherI m r = e) := Lib.hid (by rw [otherI, HR.out.2.2.2.1, Int.toNat_natCast]; simp [hym, he])
     obtain ⟨pm, hpm, _, hcm⟩ := (KEEP.out wc HB2.out).2.2.1.int hym
     subst hpm
     rw [he] at hcm
     have HCM : Hid (∀ w', Below w3.heap.size w3 w' → w'.cell? (pm.add y) = some (.int .i64 e)) := Lib.hid fun w' h => by
      obtain ⟨pm', hpm', _, h1⟩ := (KEEP.out w' h).2.2.1.int hym
      injection hpm' with hpm'
      subst hpm'
      rw [he] at h1; exact h1
     have hew : (Lit.int .i64 e).wf = true := by
      have h1 := HM.out
      subst h1
      have h2 := mt_range cl y (by omega)
      have h3 : (mt cl)[y] = mf cl y := by
       have := mt_at cl (q := y) (by omega)
       simpa [hym] using this
      rw [h3] at he
      exact WalkArith.wf_i64 (by omega)
     have HEW := Lib.hid hew
     have hlen2 := HS2.out.len
     have HLV := Lib.hid hlen2
     obtain ⟨g, co, rfl, -, -, -, -⟩ := HS2.out.outer.block (by omega)
     have d0 : (0 : Int) ≤ (n : Int) := by omega
     have d1 : (n : Int) < (S2.length : Int) := by omega
     have d2 : (0 : Int) ≤ (y : Int) := by omega
     have d3 : (y : Int) < (m.length : Int) := by omega
     have hnw : (Lit.int .i64 (n : Int)).wf = true := WalkArith.wf_i64 (by omega)
     obtain ⟨sk0, sk1, sk2, sk3⟩ := SK.out wc (KEEP.out wc HB2.out).2.2.2.2
     clear hok hn hS2 hx ht he hcm hew hlen2
     go_wp2_with fail
     clear sk0 sk1 sk2 sk3
     refine (seos_any A cl c A' lv c' base (some p) L c1 k wc (KEEP.out wc HB2.out).1 (KEEP.out wc HB2.out).2.1 (KEEP.out wc HB2.out).2.2.2.1 HEQ.out WW.out hlt hL6 hl).mono ?_
     rintro e' w4 ⟨rfl, b4⟩
     rw [HX.out]
     have S4 := Lib.hid (HS2.out.below b4 (Nat.le_refl _) HB2.out.size)
     have M4 := Lib.hid (HM2.out.below b4 HM2.out.lt (Nat.le_refl _))
     have B4 := Lib.hid (HB2.out.trans (b4.mono HB2.out.size))
     clear b4
     go_wp2_with (first
      | (refine store_cellN w4 w3.heap.size _ _ g (n * 4 + 3) co S2.length (.int .i64 x) (sqCells vs2 S2) w3 rfl rfl rfl (by kernel_rfl) rfl rfl rfl S4.out.outer (by omega) B4.out ?_
         intro w6 o6 b6 g6
         have S6 := Lib.hid (S4.out.eos B4.out.size hnl o6 g6)
         have M6 := Lib.hid (M4.out.kept g6 (fun e => M4.out.ne S4.out.outer e.symm))
         have B6 := Lib.hid b6
         clear o6 b6 g6)
      | fail)
     refine (slast_any b off n1 t n1 y _ HT.out hn6 (HLC.out _ B6.out)).mono ?_
     rintro e' wq ⟨rfl, rfl⟩
     have hcm6 := HCM.out _ B6.out
     go_wp2_with fail
     refine (slast_any b off n1 t n1 y _ HT.out hn6 (HLC.out _ B6.out)).mono ?_
     rintro e' wq ⟨rfl, rfl⟩
     clear hcm6
     have HSE : Hid (setEos S2 n x = S2.set n { S2[n] with eos := x }) := Lib.hid (by rw [setEos, show S2.getD n sqZ = S2[n] by simp [hnl]])
     rcases hge : decide ((y : Int) < e) with _ | _
     ·have HG : Hid (¬ (lastI r < otherI m r)) := Lib.hid (by rw [HOE.out, HR.out.2.2.2.1]; simpa using hge)
      go_wp2_with fail
      go_roundw
      case rel => exact ⟨k + 1, vs2, by omega, by go_num, by rw [HNX.out, HSE.out]; exact S6.out, by rw [HNX1.out, if_neg (by have := HG.out; omega)]; exact M6.out.mono, B6.out, HY2⟩
      case measure => simp [intOf]; omega
     ·have HG : Hid (lastI r < otherI m r) := Lib.hid (by rw [HOE.out, HR.out.2.2.2.1]; simpa using hge)
      go_wp2_with (first
       | (refine update_at rfl rfl Tryz.underlying65 rfl M6.out (by unfold maxLen; omega) rfl rfl HEW.out hnw ?_
          intro w7 m7 g7
          have S7 := Lib.hid (S6.out.keep g7 B6.out.size (Nat.le_refl _) (M6.out.ne S6.out.outer) (fun j h1 => M6.out.neAt (S6.out.inner j h1 (by have := S6.out.len; omega))))
          have M7 := Lib.hid m7
          have B7 := Lib.hid (B6.out.grown g7 B6.out.size (fun k hk => by cases hk; exact Nat.le_refl _))
          clear m7 g7)
       | fail)
      go_roundw
      case rel => exact ⟨k + 1, vs2, by omega, by go_num, by rw [HNX.out, HSE.out]; exact S7.out, by rw [HNX1.out, if_pos HG.out, HOE.out]; exact M7.out, B7.out, HY2⟩
      case measure => simp [intOf]; omega
  ·obtain rfl : k = L.length := by omega
   go_wp2_with fail
   go_ret
   have hw3 : w.heap.size ≤ w3.heap.size := Nat.le_trans B1.out.size (Nat.le_trans BW.out.size B3.out.size)
   have hin := HS.out.outer.inside
   obtain ⟨A4, c4, rfl, hr⟩ := HS.out.read HB.out.size
   exact ⟨A4, c4, vs, rfl, hr, fun p hp => by subst hp; exact Nat.le_trans hw3 (hin p.block rfl).1, HY.out, ((B1.out.trans (BW.out.mono B1.out.size)).trans (B3.out.mono (Nat.le_trans B1.out.size BW.out.size))).trans (HB.out.mono hw3)⟩
end Go.Proofs.YtcbaahlahohfmaaGreatDoor
namespace Go.Proofs.YtcbaahlahohfmaaGreatDoor
open Go.RowKit
section
variable {cl lv : List Int} {u : Nat → Nat} {L : List (List Int)}
theorem head_inj (h : Split cl lv (seenI cl) (seenQ cl).length L u) {i j : Nat} (hi : i < L.length) (hj : j < L.length) (e : headI L[i] = headI L[j]) : i = j := by
 obtain ⟨x1, y1⟩ := h.head hi
 obtain ⟨x2, y2⟩ := h.head hj
 rw [y1, y2] at e
 have hx := seenQ_inj cl x1 x2 (by omega)
 rcases Nat.lt_trichotomy i j with hh | hh | hh
 ·have := h.lt (i := i) (j := j) hh (by omega); omega
 ·exact hh
 ·have := h.lt (i := j) (j := i) hh (by omega); omega
theorem goes_on (h : Split cl lv (seenI cl) (seenQ cl).length L u) {i k : Nat} (hi : i < L.length) (hk : k < L.length) :
 (lastI L[i] < otherI (mt cl) L[i] ∧ headI L[k] = otherI (mt cl) L[i]) ↔ nextI cl (mt cl) L i = (k : Int) := by
 obtain ⟨hx, hl⟩ := h.last hi
 have hg : L.getD i [] = L[i] := by simp [hi]
 have hp := (seenQ_at cl hx).1
 have hm := minv cl cl.length (Nat.le_refl _)
 have ho : otherI (mt cl) L[i] = mf cl (seenQ cl)[u (i + 1) - 1] := by rw [otherI, hl, Int.toNat_natCast, mt_at cl hp]
 have hn : nextI cl (mt cl) L i = if isOpens (at0 cl (seenQ cl)[u (i + 1) - 1]) = false ∨ mf cl (seenQ cl)[u (i + 1) - 1] < 0 then -1 else firstAt L (mf cl (seenQ cl)[u (i + 1) - 1]) := by
  rw [nextI, hg, hl, Int.toNat_natCast, at0_getD, mt_at cl hp]
 rw [ho, hn, hl]
 generalize (seenQ cl)[u (i + 1) - 1] = p at hp
 constructor
 ·rintro ⟨h1, h2⟩
  have hop : isOpens (at0 cl p) = true := by
   cases hh : isOpens (at0 cl p) with
   | true => rfl
   | false =>
    rcases hm.cl p hp hh with e | ⟨a, e, h3, _⟩
    ·have e' : mf cl p = -1 := e
     omega
    ·have e' : mf cl p = (a : Int) := e
     omega
  rw [if_neg (fun h3 => h3.elim (fun h3 => by rw [hop] at h3; cases h3) (fun h3 => by omega))]
  exact firstAt_some hk h2 (fun j hj e => by have := head_inj h (show j < L.length by omega) hk (by rw [e, h2]); omega)
 ·intro h1
  split at h1
  ·omega
  ·rename_i hno
   have hop : isOpens (at0 cl p) = true := by
    cases hh : isOpens (at0 cl p) with
    | true => rfl
    | false => exact absurd (.inl hh) hno
   rcases firstAt_range L (mf cl p) with e | ⟨k', e, hk', e2⟩
   ·omega
   ·obtain rfl : k = k' := by omega
    refine ⟨?_, e2⟩
    rcases hm.op p hp hop with e3 | ⟨b, hb⟩
    ·exact absurd (.inr (by rw [show mf cl p = -1 from e3]; decide)) hno
    ·have e4 : mf cl p = (b : Int) := hb.fa
     have := hb.lt
     omega
end
section
variable {cl m : List Int} {L : List (List Int)}
theorem root_one (h : Onward cl m L) (hO : Once cl m L) : ∀ j i i', i < L.length → i' < L.length → goneN cl m L L.length i = false → goneN cl m L L.length i' = false → j ∈ idxI cl m L i → j ∈ idxI cl m L i' → i = i' := by
 intro j
 induction j using Nat.strongRecOn with
 | _ j ih =>
  intro i i' hi hi' g g' hj hj'
  obtain ⟨_, _, a3, _⟩ := (idx_mem h (L.length - i) i hi (Nat.le_refl _)).2 j hj
  obtain ⟨_, _, b3, _⟩ := (idx_mem h (L.length - i') i' hi' (Nat.le_refl _)).2 j hj'
  rcases a3 with rfl | ⟨x, hx, nx⟩
  ·rcases b3 with rfl | ⟨y, hy, ny⟩
   ·rfl
   ·have hyl := ((idx_mem h (L.length - i') i' hi' (Nat.le_refl _)).2 y hy).2.1
    have := (gone_iff cl m L j).2 ⟨y, hyl, ny⟩
    rw [g] at this; cases this
  ·have hxl := ((idx_mem h (L.length - i) i hi (Nat.le_refl _)).2 x hx).2.1
   rcases b3 with rfl | ⟨y, hy, ny⟩
   ·have := (gone_iff cl m L j).2 ⟨x, hxl, nx⟩
    rw [g'] at this; cases this
   ·have hyl := ((idx_mem h (L.length - i') i' hi' (Nat.le_refl _)).2 y hy).2.1
    obtain rfl := hO x y j hxl hyl nx ny
    have hlt : x < j := by
     rcases h x hxl with e | ⟨k', e, e2, _⟩
     ·rw [e] at nx; omega
     ·rw [e] at nx; omega
    exact ih x hlt i i' hi hi' g g' hx hy
theorem below_one {l : List Nat} (h : l.Pairwise (· < ·)) (k : Nat) : (k ∈ l → l.filter (fun j => decide (j < k + 1)) = l.filter (fun j => decide (j < k)) ++ [k]) ∧ (k ∉ l → l.filter (fun j => decide (j < k + 1)) = l.filter (fun j => decide (j < k))) := by
 induction l with
 | nil => simp
 | cons a l ih =>
  obtain ⟨h1, h2⟩ := List.pairwise_cons.1 h
  obtain ⟨i1, i2⟩ := ih h2
  constructor
  ·intro hk
   rcases List.mem_cons.1 hk with rfl | hk
   ·have e1 : l.filter (fun j => decide (j < k + 1)) = [] := List.filter_eq_nil_iff.2 fun x hx => by have := h1 x hx; simp; omega
    have e2 : l.filter (fun j => decide (j < k)) = [] := List.filter_eq_nil_iff.2 fun x hx => by have := h1 x hx; simp; omega
    rw [List.filter_cons, List.filter_cons, e1, e2, if_pos (by simp), if_neg (by simp)]; rfl
   ·have := h1 k hk
    rw [List.filter_cons, List.filter_cons, i1 hk, if_pos (by simp; omega), if_pos (by simp; omega)]; rfl
  ·intro hk
   have hak : a ≠ k := fun e => hk (e ▸ List.mem_cons_self)
   have hkl : k ∉ l := fun e => hk (List.mem_cons_of_mem _ e)
   rw [List.filter_cons, List.filter_cons, i2 hkl]
   by_cases ha : a < k
   ·rw [if_pos (by simp; omega), if_pos (by simpa using ha)]
   ·rw [if_neg (by simp; omega), if_neg (by simpa using ha)]
def idxP (cl m : List Int) (L : List (List Int)) (k i : Nat) : List Nat := (idxI cl m L i).filter fun j => decide (j < k)
def prt (cl lv m : List Int) (base : Int) (L : List (List Int)) (k i : Nat) : Sq :=
 ⟨(idxP cl m L k i).flatMap (fun j => L.getD j []), levW lv base L i, sosW lv base L i, eosW cl lv base L ((idxP cl m L k i).getLastD 0)⟩
theorem part_keep {lv : List Int} {base : Int} (h : Onward cl m L) {k i : Nat} (hi : i < L.length) (hk : k ∉ idxI cl m L i) : prt cl lv m base L (k + 1) i = prt cl lv m base L k i := by
 have e : idxP cl m L (k + 1) i = idxP cl m L k i := (below_one (idx_mem h (L.length - i) i hi (Nat.le_refl _)).1 k).2 hk
 rw [prt, prt, e]
theorem part_more {lv : List Int} {base : Int} (h : Onward cl m L) {k i : Nat} (hi : i < L.length) (hk : k ∈ idxI cl m L i) :
 prt cl lv m base L (k + 1) i = { prt cl lv m base L k i with pl := (prt cl lv m base L k i).pl ++ L.getD k [], eos := eosW cl lv base L k } := by
 have e : idxP cl m L (k + 1) i = idxP cl m L k i ++ [k] := (below_one (idx_mem h (L.length - i) i hi (Nat.le_refl _)).1 k).1 hk
 simp only [prt, e, List.flatMap_append, List.flatMap_cons, List.flatMap_nil, List.append_nil, List.getLastD_concat]
theorem part_new {lv : List Int} {base : Int} (h : Onward cl m L) {k : Nat} (hk : k < L.length) : prt cl lv m base L (k + 1) k = ⟨L.getD k [], levW lv base L k, sosW lv base L k, eosW cl lv base L k⟩ := by
 have hm := idx_mem h (L.length - k) k hk (Nat.le_refl _)
 have e0 : idxP cl m L k k = [] := List.filter_eq_nil_iff.2 fun x hx => by have := (hm.2 x hx).1; simp; omega
 have e : idxP cl m L (k + 1) k = [k] := by
  have := (below_one hm.1 k).1 (idx_self h hk)
  rw [idxP, this, ← idxP, e0]; rfl
 simp only [prt, e, List.flatMap_cons, List.flatMap_nil, List.append_nil]
 rfl
theorem starts_lt {k : Nat} : (startsN cl m L k).Pairwise (· < ·) := List.Pairwise.filter _ List.pairwise_lt_range
theorem starts_gone {k : Nat} (hg : goneN cl m L L.length k = true) : startsN cl m L (k + 1) = startsN cl m L k := by
 unfold startsN
 rw [List.range_succ, List.filter_append]
 simp [hg]
theorem starts_new {k : Nat} (hg : goneN cl m L L.length k = false) : startsN cl m L (k + 1) = startsN cl m L k ++ [k] := by
 unfold startsN
 rw [List.range_succ, List.filter_append]
 simp [hg]
end
structure Half (cl lv m : List Int) (base : Int) (L : List (List Int)) (k : Nat) : Prop where
 seqs : (pst cl lv m base L k).2 = (startsN cl m L k).map (prt cl lv m base L k)
 waits : ∀ (j : Nat), j < k → ∀ (k' : Nat) (_ : k' < L.length), nextI cl m L j = (k' : Int) → ∃ n i : Nat, (pst cl lv m base L k).1 (headI (L.getD k' [])) = some (n : Int) ∧ (startsN cl m L k)[n]? = some i ∧ j ∈ idxI cl m L i
 just : ∀ (k' : Nat) (_ : k' < L.length) (y : Int), (pst cl lv m base L k).1 (headI (L.getD k' [])) = some y → ∃ j, j < k ∧ nextI cl m L j = (k' : Int)
theorem half {cl lv : List Int} {u : Nat → Nat} {L : List (List Int)} (h : Split cl lv (seenI cl) (seenQ cl).length L u) (hW : Onward cl (mt cl) L) (base : Int) : ∀ k, k ≤ L.length → Half cl lv (mt cl) base L k := by
 have hO := once_I h
 intro k
 induction k with
 | zero => intro _; exact ⟨rfl, fun j hj => absurd hj (by omega), fun k' _ y hy => by cases hy⟩
 | succ k ih =>
  intro hk
  have hkl : k < L.length := by omega
  have H := ih (by omega)
  have hg : L.getD k [] = L[k] := by simp [hkl]
  obtain ⟨M, hM⟩ : ∃ M, (pst cl lv (mt cl) base L k).1 = M := ⟨_, rfl⟩
  obtain ⟨S, hS⟩ : ∃ S, (pst cl lv (mt cl) base L k).2 = S := ⟨_, rfl⟩
  obtain ⟨h1, h2, h3⟩ := H
  rw [hM] at h2 h3
  rw [hS] at h1
  -- the sequences, and run k's number
  have key : setEos (seqIn lv base L k M S) (seqAt M S (L.getD k [])) (eosW cl lv base L k) = (startsN cl (mt cl) L (k + 1)).map (prt cl lv (mt cl) base L (k + 1)) ∧ ∃ i, (startsN cl (mt cl) L (k + 1))[seqAt M S (L.getD k [])]? = some i ∧ k ∈ idxI cl (mt cl) L i := by
   cases hgo : goneN cl (mt cl) L L.length k with
   | true =>
    obtain ⟨j, hjl, hj⟩ := (gone_iff cl (mt cl) L k).1 hgo
    have hjk : j < k := by
     rcases hW j hjl with e | ⟨k', e, e2, _⟩
     ·rw [e] at hj; omega
     ·rw [e] at hj; omega
    obtain ⟨n, i, e1, e2, e3⟩ := h2 j hjk k hkl hj
    obtain ⟨hn, e2'⟩ := List.getElem?_eq_some_iff.1 e2
    have hmi := starts_mem.1 (show i ∈ startsN cl (mt cl) L k by rw [← e2']; exact List.getElem_mem hn)
    have hki : k ∈ idxI cl (mt cl) L i := ((idx_mem hW (L.length - i) i (by omega) (Nat.le_refl _)).2 j e3).2.2.2 k hj
    have ea : seqAt M S (L.getD k []) = n := by rw [seqAt, e1]; simp
    have es : seqIn lv base L k M S = addPl S n (L.getD k []) := by rw [seqIn, e1]; simp
    rw [ea, es, starts_gone hgo]
    have hSn : n < S.length := by rw [h1, List.length_map]; exact hn
    have hSg : S.getD n sqZ = prt cl lv (mt cl) base L k i := by
     have : S[n] = prt cl lv (mt cl) base L k i := by simp only [h1, List.getElem_map, e2']
     simp [hSn, this]
    refine ⟨?_, i, e2, hki⟩
    rw [setEos, addPl, hSg]
    apply List.ext_getElem
    ·simp [h1]
    ·intro q hq1 hq2
     rw [List.getElem_map]
     by_cases hqn : n = q
     ·subst hqn
      rw [List.getElem_set_self, e2', part_more hW (by omega) hki]
      simp [hSn]
     ·rw [List.getElem_set_ne hqn, List.getElem_set_ne hqn]
      have hqs : q < (startsN cl (mt cl) L k).length := by simpa using hq2
      have hmq := starts_mem.1 (List.getElem_mem hqs)
      have hne : (startsN cl (mt cl) L k)[q] ≠ i := by
       intro e
       rw [← e2'] at e
       have hlt := List.pairwise_iff_getElem.1 (starts_lt (cl := cl) (m := mt cl) (L := L) (k := k))
       rcases Nat.lt_or_ge q n with h5 | h5
       ·have := hlt q n hqs hn h5; omega
       ·have := hlt n q hn hqs (by omega); omega
      rw [part_keep hW (by omega) (fun hm => hne (root_one hW hO k _ i (by omega) (by omega) hmq.2 hmi.2 hm hki))]
      simp only [h1, List.getElem_map]
   | false =>
    have hno : M (headI (L.getD k [])) = none := by
     cases hm : M (headI (L.getD k [])) with
     | none => rfl
     | some y =>
      obtain ⟨j, hj, hj2⟩ := h3 k hkl y hm
      have := (gone_iff cl (mt cl) L k).2 ⟨j, by omega, hj2⟩
      rw [hgo] at this; cases this
    have ea : seqAt M S (L.getD k []) = S.length := by rw [seqAt, hno]
    have es : seqIn lv base L k M S = S ++ [⟨L.getD k [], levW lv base L k, sosW lv base L k, 0⟩] := by rw [seqIn, hno]
    have hSl : S.length = (startsN cl (mt cl) L k).length := by rw [h1, List.length_map]
    rw [ea, es, starts_new hgo]
    refine ⟨?_, k, by rw [hSl]; simp, idx_self hW hkl⟩
    rw [setEos, List.set_append_right _ _ (Nat.le_refl _), List.map_append, List.map_singleton, part_new hW hkl]
    congr 1
    ·rw [h1]
     apply List.map_congr_left
     intro i hi
     have hmi := starts_mem.1 hi
     refine (part_keep hW (by omega) fun hm => ?_).symm
     rcases ((idx_mem hW (L.length - i) i (by omega) (Nat.le_refl _)).2 k hm).2.2.1 with e | ⟨x, hx, hx2⟩
     ·omega
     ·have hxl := ((idx_mem hW (L.length - i) i (by omega) (Nat.le_refl _)).2 x hx).2.1
      have := (gone_iff cl (mt cl) L k).2 ⟨x, hxl, hx2⟩
      rw [hgo] at this; cases this
    ·simp
  obtain ⟨k1, i0, k2, k3⟩ := key
  have e1 : (pst cl lv (mt cl) base L (k + 1)).1 = if lastI L[k] < otherI (mt cl) L[k] then fun x => if x = otherI (mt cl) L[k] then some ((seqAt M S (L.getD k []) : Nat) : Int) else M x else M := by rw [pst, hM, hS, hg]
  have e2 : (pst cl lv (mt cl) base L (k + 1)).2 = setEos (seqIn lv base L k M S) (seqAt M S (L.getD k [])) (eosW cl lv base L k) := by rw [pst, hM, hS]
  have e3 : ∀ k' (hk' : k' < L.length), (pst cl lv (mt cl) base L (k + 1)).1 (headI (L.getD k' [])) = if nextI cl (mt cl) L k = (k' : Int) then some ((seqAt M S (L.getD k []) : Nat) : Int) else M (headI (L.getD k' [])) := by
   intro k' hk'
   have hg' : L.getD k' [] = L[k'] := by simp [hk']
   rw [e1, hg']
   have hgo := goes_on h hkl hk'
   by_cases hc : lastI L[k] < otherI (mt cl) L[k]
   ·rw [if_pos hc]
    by_cases hd : headI L[k'] = otherI (mt cl) L[k]
    ·rw [if_pos hd, if_pos (hgo.1 ⟨hc, hd⟩)]
    ·rw [if_neg hd, if_neg (fun e => hd (hgo.2 e).2)]
   ·rw [if_neg hc, if_neg (fun e => hc (hgo.2 e).1)]
  refine ⟨by rw [e2]; exact k1, fun j hj k' hk' hjn => ?_, fun k' hk' y hy => ?_⟩
  ·rw [e3 k' hk']
   by_cases hjk : j = k
   ·subst hjk
    rw [if_pos hjn]
    exact ⟨_, i0, rfl, k2, k3⟩
   ·rw [if_neg (fun e => hjk (hO j k k' (by omega) hkl hjn e))]
    obtain ⟨n, i, a1, a2, a3⟩ := h2 j (by omega) k' hk' hjn
    refine ⟨n, i, a1, ?_, a3⟩
    obtain ⟨hn, a2'⟩ := List.getElem?_eq_some_iff.1 a2
    cases hgo : goneN cl (mt cl) L L.length k with
    | true => rw [starts_gone hgo]; exact a2
    | false => rw [starts_new hgo, List.getElem?_append_left hn]; exact a2
  ·rw [e3 k' hk'] at hy
   split at hy
   ·rename_i hc; exact ⟨k, by omega, hc⟩
   ·obtain ⟨j, hj, hj2⟩ := h3 k' hk' y hy
    exact ⟨j, by omega, hj2⟩
end Go.Proofs.YtcbaahlahohfmaaGreatDoor
