/- Shared texts, shaken for one claim. -/
import Derived.Deep.DeepCutAuto
import Derived.Lib.SliceRun
import Derived.Laws.IdiomCopy
import Derived.Test.YtcbaahlahohfmaaGreatDoorZA1
import Derived.Test.YtcbaahlahohfmaaGreatDoorZA6
import Derived.Test.YtcbaahlahohfmaaGreatDoorZA7
import Derived.Test.YtcbaahlahohfmaaGreatDoorZA13
import Derived.Test.YtcbaahlahohfmaaGreatDoorZA14
import Derived.Test.YtcbaahlahohfmaaGreatDoorZA17
import Derived.Test.YtcbaahlahohfmaaGreatDoorZA18
import Derived.Test.YtcbaahlahohfmaaGreatDoorZA20
import Derived.Test.YtcbaahlahohfmaaGreatDoorZA21
namespace Go.Proofs.YtcbaahlahohfmaaGreatDoor
open Go.RowKit
set_option maxHeartbeats 2000000 in
theorem lpick_any (A : Option Addr) (l : List Int) (c : Nat) (A' : Option Addr) (at_ : List Int) (c' : Nat) (w : World) (h : Lies w w.heap.size A (ints .i64 l)) (h' : Lies w w.heap.size A' (ints .i64 at_))
 (hp : ∀ x ∈ at_, 0 ≤ x ∧ x < (l.length : Int)) (_ : l.length ≤ 1000000) (hl' : at_.length ≤ 1000000) :
 Calls Tryz.prog 53 #[.slice A l.length c, .slice A' at_.length c'] w fun ed w' => Rowed w w.heap.size 3 (ints .i64 (pickL l at_)) ed w' := by
 have H := Lib.hid h
 have H' := Lib.hid h'
 have HP := Lib.hid hp
 clear h h' hp
 have hmk := run_make_row' (P := Tryz.prog) 22 3 (.int .i64 0) 8 intsT.slice intsT.elem rfl .i64 .i64 at_.length (by omega) (by omega)
 go_enter Tryz.func53, Tryz.ntmps53
 go_wp2
 go_loopw [13] (fun iv wr => ∃ (k : Nat) (cc : Array Value), k ≤ at_.length ∧ iv = .int .i64 k ∧ Hid (cc.toList = ints .i64 (pickL l (at_.take k)) ++ List.replicate (at_.length - k) (.int .i64 0)) ∧ wr = w.alloc (.cells cc 3)) (fun iv _ => at_.length - (intOf iv).toNat)
 case atStart => exact ⟨0, _, by omega, rfl, fill_start _ _, rfl⟩
 case round =>
  obtain ⟨k, cc, hk, rfl, HC, rfl⟩ := hrel
  have HS : Hid (cc.size = at_.length) := by
   show cc.size = at_.length
   have := congrArg List.length HC.out
   simp [ints, pickL] at this
   omega
  by_cases hlt : k < at_.length
  ·obtain ⟨p', hp', hpb', hc'⟩ := H'.out.int hlt
   subst hp'
   obtain ⟨q, hq, hql⟩ : ∃ q : Nat, at_[k] = (q : Int) ∧ q < l.length := by
    have := HP.out _ (List.getElem_mem hlt)
    exact ⟨at_[k].toNat, by omega, by omega⟩
   obtain ⟨p, hp, hpb, hc⟩ := H.out.int hql
   subst hp
   obtain ⟨x, hx⟩ : ∃ x, l[q] = x := ⟨_, rfl⟩
   have HS1 : Hid (pickL l (at_.take (k + 1)) = pickL l (at_.take k) ++ [x]) := Lib.hid (by
    rw [take_snoc at_ k hlt, pickL, List.map_append, hq, List.map_cons, List.map_nil, Int.toNat_natCast, getD_at hql, hx]; rfl)
   rw [hq] at hc'
   rw [hx] at hc
   have k0 : (0 : Int) ≤ (k : Int) := by omega
   have k1 : (k : Int) < (at_.length : Int) := by omega
   have q0 : (0 : Int) ≤ (q : Int) := by omega
   have q1 : (q : Int) < (l.length : Int) := by omega
   have hcc' : (w.alloc (.cells cc 3)).cell? (p'.add k) = some (.int .i64 q) := by rw [World.cell?_alloc_lt w _ _ (by rw [add_block]; exact hpb')]; exact hc'
   have hcc : (w.alloc (.cells cc 3)).cell? (p.add q) = some (.int .i64 x) := by rw [World.cell?_alloc_lt w _ _ (by rw [add_block]; exact hpb)]; exact hc
   have hks : k < cc.size := by rw [HS.out]; exact hlt
   clear hx hq hc hc' hpb hpb'
   go_wp2
   go_roundw
   case rel =>
    refine ⟨k + 1, _, by omega, by go_num, ?_, rfl⟩
    have := fill_step (v := .int .i64 x) HC.out (by simp [pickL]; omega) hlt
    show Array.toList _ = _
    rw [this, HS1.out]
    simp only [ints, List.map_append, List.map_cons, List.map_nil]
   case measure => simp [intOf]; omega
  ·go_wp2
   go_ret
   have hcl : cc.toList = ints .i64 (pickL l at_) := by
    rw [HC.out, List.take_of_length_le (by omega), show at_.length - k = 0 by omega]; simp
   refine rowed_ret ?_ (below_alloc _ _) hcl
   have := Own.ofLit (w := w) (B := w.heap.size) (e := 3) cc (Nat.le_refl _) (by rw [HS.out]; unfold maxLen; omega)
   rw [HS.out] at this
   exact this
set_option maxHeartbeats 2000000 in
theorem lput_any (g c : Nat) (l : List Int) (A' : Option Addr) (at_ : List Int) (c' : Nat) (A2 : Option Addr) (told : List Int) (c2 : Nat) (B : Nat) (w : World)
 (h : Row w B 3 g c (ints .i64 l)) (h' : Lies w w.heap.size A' (ints .i64 at_)) (h2 : Lies w w.heap.size A2 (ints .i64 told))
 (n' : ∀ p, A' = some p → p.block ≠ g) (n2 : ∀ p, A2 = some p → p.block ≠ g)
 (hp : ∀ x ∈ at_, 0 ≤ x ∧ x < (l.length : Int)) (he : told.length = at_.length) (_ : l.length ≤ 1000000) (hl' : at_.length ≤ 1000000) :
 Calls Tryz.prog 57 #[.slice (some ⟨g, 0, none⟩) l.length c, .slice A' at_.length c', .slice A2 told.length c2] w
  fun ed w' => ed = .returned (.tuple #[]) ∧ Row w' B 3 g c (ints .i64 (putN l at_ told at_.length)) ∧ Below B w w' ∧ w.grownBy w' (some g) := by
 have H := Lib.hid h
 have H' := Lib.hid h'
 have H2 := Lib.hid h2
 have N' := Lib.hid n'
 have N2 := Lib.hid n2
 have HP := Lib.hid hp
 have HE := Lib.hid he
 clear h h' h2 n' n2 hp he
 go_enter Tryz.func57, Tryz.ntmps57
 go_wp2_with fail
 go_loopw [10] (fun kv wr => ∃ k : Nat, k ≤ at_.length ∧ kv = .int .i64 k ∧ Hid (Row wr B 3 g c (ints .i64 (putN l at_ told k))) ∧ Hid (Below B w wr) ∧ Hid (w.grownBy wr (some g))) (fun kv _ => at_.length - (intOf kv).toNat)
 case atStart => exact ⟨0, by omega, rfl, H, Lib.hid (Below.refl _ _), Lib.hid (grown_of_below (Below.refl _ _) _)⟩
 case round =>
  obtain ⟨k, hk, rfl, HR, HB, HG⟩ := hrel
  by_cases hlt : k < at_.length
  ·have hlt2 : k < told.length := by rw [HE.out]; exact hlt
   obtain ⟨p', hp', _, hc'⟩ := (lies_grown H'.out HG.out (Nat.le_refl _) N'.out).int hlt
   subst hp'
   obtain ⟨p2, hp2, _, hc2⟩ := (lies_grown H2.out HG.out (Nat.le_refl _) N2.out).int hlt2
   subst hp2
   obtain ⟨q, hq, hql⟩ : ∃ q : Nat, at_[k] = (q : Int) ∧ q < l.length := by
    have := HP.out _ (List.getElem_mem hlt)
    exact ⟨at_[k].toNat, by omega, by omega⟩
   obtain ⟨x, hx⟩ : ∃ x, told[k] = x := ⟨_, rfl⟩
   rw [hq] at hc'
   rw [hx] at hc2
   have HS : Hid ((putN l at_ told k).set q x = putN l at_ told (k + 1)) := Lib.hid (by
    rw [putN, getD_at hlt, getD_at hlt2, hq, hx, Int.toNat_natCast])
   have HL : Hid (q < (putN l at_ told k).length) := Lib.hid (by rw [putN_length]; exact hql)
   have k0 : (0 : Int) ≤ (k : Int) := by omega
   have k1 : (k : Int) < (at_.length : Int) := by omega
   have k2 : (k : Int) < (told.length : Int) := by omega
   have q0 : (0 : Int) ≤ (q : Int) := by omega
   have q1 : (q : Int) < (l.length : Int) := by omega
   clear hx hq hlt2
   go_wp2_with (first
    | (refine store_row intsT wr B _ _ g q c .i64 x (ints .i64 (putN l at_ told k)) w rfl rfl rfl rfl rfl HR.out (by rw [ints, List.length_map]; exact HL.out) HB.out ?_; intro w2 r2 b2' g2; rw [ints_set, HS.out] at r2; have R2 := Lib.hid r2; have B2 := Lib.hid b2'; have G2 := Lib.hid g2; clear r2 b2' g2)
    | fail)
   go_roundw
   case rel => exact ⟨k + 1, by omega, by go_num, R2, B2, Lib.hid (HG.out.trans G2.out)⟩
   case measure => simp [intOf]; omega
  ·obtain rfl : k = at_.length := by omega
   go_wp2_with fail
   (try simp only [Exit.inBlock, Exit.then])
   exact bodyPost_end (results_none rfl _ _ _) rfl ⟨rfl, HR.out, HB.out, HG.out⟩
set_option maxRecDepth 20000 in
set_option maxHeartbeats 4000000 in
theorem lfollow_any (g c : Nat) (L : List Int) (A' : Option Addr) (cl : List Int) (c' : Nat) (base : Int) (B : Nat) (w : World)
 (h : Row w B 3 g c (ints .i64 L)) (h' : Lies w w.heap.size A' (ints .i64 cl)) (n' : ∀ p, A' = some p → p.block ≠ g) (he : cl.length = L.length) (hl : cl.length ≤ 1000000) (hB : B ≤ w.heap.size) :
 Calls Tryz.prog 32 #[.agg #[.slice (some ⟨g, 0, none⟩) L.length c, .slice A' cl.length c', .int .i64 base]] w
  fun ed w' => ed = .returned (.tuple #[]) ∧ Row w' B 3 g c (ints .i64 (fillN cl base L cl.length)) ∧ Below B w w' ∧ w.grownBy w' (some g) := by
 obtain ⟨w0, hw0⟩ : ∃ u, w.alloc (.cells #[.slice (some ⟨g, 0, none⟩) L.length c, .slice A' cl.length c', .int .i64 base] 38) = u := ⟨_, rfl⟩
 have G0 : Hid (w.grownBy w0 (some g)) := Lib.hid (hw0 ▸ grown_of_below (below_alloc w _) _)
 have B0 : Hid (Below B w w0) := Lib.hid (hw0 ▸ (below_alloc w _).mono hB)
 have HQ : Hid (w.heap.size ≠ g ∧ w.heap.size < w0.heap.size) := Lib.hid ⟨by have := h.inside; omega, by rw [← hw0]; simp⟩
 have SK : Hid (∀ w', w0.grownBy w' (some g) → w'.cell? ⟨w.heap.size, 0, none⟩ = some (.slice (some ⟨g, 0, none⟩) L.length c) ∧ w'.cell? ⟨w.heap.size, 1, none⟩ = some (.slice A' cl.length c') ∧ w'.cell? ⟨w.heap.size, 2, none⟩ = some (.int .i64 base)) := Lib.hid fun w' hg => by
  have hb := hg.block w.heap.size HQ.out.2 (fun e => HQ.out.1 (Option.some.inj e))
  rw [World.cell?_of_block (a := ⟨w.heap.size, 0, none⟩) hb, World.cell?_of_block (a := ⟨w.heap.size, 1, none⟩) hb, World.cell?_of_block (a := ⟨w.heap.size, 2, none⟩) hb, ← hw0]
  exact ⟨boxed (Below.refl _ _) rfl, boxed (Below.refl _ _) rfl, boxed (Below.refl _ _) rfl⟩
 have H0 : Hid (Row w0 B 3 g c (ints .i64 L)) := Lib.hid (hw0 ▸ h.alloc _)
 have H' := Lib.hid (lies_grown h' G0.out (Nat.le_refl _) n')
 have N' := Lib.hid n'
 have HE := Lib.hid he
 have S0 : Hid (w.heap.size ≤ w0.heap.size) := Lib.hid G0.out.size
 clear h h' n' he
 go_enter Tryz.func32, Tryz.ntmps32
 go_upto_region 1 with fail
 obtain ⟨s0, s1, s2⟩ := SK.out w0 (grown_of_below (Below.refl _ _) _)
 clear hw0
 go_wp2_with fail
 clear s0 s1 s2
 go_loopw [10, 2] (fun kv av wr => ∃ k : Nat, k ≤ cl.length ∧ kv = .int .i64 k ∧ av = .int .i64 (aheadF cl base L k) ∧ Hid (Row wr B 3 g c (ints .i64 (fillN cl base L k))) ∧ Hid (Below B w wr) ∧ Hid (w0.grownBy wr (some g))) (fun kv _ _ => cl.length - (intOf kv).toNat)
 case atStart => exact ⟨0, by omega, rfl, rfl, H0, B0, Lib.hid (grown_of_below (Below.refl _ _) _)⟩
 case round =>
  obtain ⟨k, hk, rfl, rfl, HR, HB, HG⟩ := hrel
  by_cases hlt : k < cl.length
  ·obtain ⟨p', hp', _, hc'⟩ := (lies_grown (H'.out.wider S0.out) HG.out (Nat.le_refl _) N'.out).int hlt
   subst hp'
   obtain ⟨x, hx⟩ : ∃ x, cl[k] = x := ⟨_, rfl⟩
   rw [hx] at hc'
   obtain ⟨a, ha⟩ : ∃ a, aheadF cl base L k = a := ⟨_, rfl⟩
   have HA := Lib.hid ha
   have HX : Hid (cl.getD k 0 = x) := Lib.hid (by rw [getD_at hlt, hx])
   have HLk : Hid (∀ j, (fillN cl base L j).length = L.length) := Lib.hid (fillN_length cl base L)
   have hkL : k < L.length := by rw [← HE.out]; exact hlt
   have k0 : (0 : Int) ≤ (k : Int) := by omega
   have k1 : (k : Int) < (cl.length : Int) := by omega
   have k2 : (k : Int) < (L.length : Int) := by omega
   rw [ha]
   clear hx ha
   go_wp2_with fail
   refine (out_any x wr).mono ?_
   rintro e w1 ⟨rfl, b1⟩
   have G1 := Lib.hid (HG.out.trans (grown_of_below b1 _))
   have B1 := Lib.hid (HB.out.trans (b1.mono (Nat.le_trans (by have := HR.out.inside; omega) (Nat.le_refl wr.heap.size))))
   have R1 := Lib.hid (HR.out.below b1 (Nat.le_refl _))
   clear b1
   rcases ho : isOut x with _ | _
   ·have HN : Hid (fillN cl base L (k + 1) = fillN cl base L k) := Lib.hid (fillN_in (by rw [HX.out, ho]))
    obtain ⟨s0, -, -⟩ := SK.out w1 G1.out
    have hcL : w1.cell? ⟨g, k, none⟩ = some (.int .i64 (aheadF cl base L (k + 1))) := by
     have h1 := R1.out.cell (j := k) (by rw [ints, List.length_map, HLk.out]; exact hkL)
     rw [h1, aheadF_next, HN.out]
     simp [List.getD_eq_getElem?_getD, List.getElem?_eq_getElem (show k < (fillN cl base L k).length by rw [HLk.out]; exact hkL)]
    clear hc'
    go_wp2_with fail
    go_roundw
    case rel => exact ⟨k + 1, by omega, by go_num, rfl, Lib.hid (by rw [HN.out]; exact R1.out), B1, G1⟩
    case measure => simp [intOf]; omega
   ·have HN : Hid ((fillN cl base L k).set k a = fillN cl base L (k + 1)) := Lib.hid (by rw [← HA.out, fillN_out (by rw [HX.out, ho])])
    obtain ⟨s0, -, -⟩ := SK.out w1 G1.out
    clear hc'
    go_upto_region 7 with (first
     | (refine store_row intsT w1 B _ _ g k c .i64 a (ints .i64 (fillN cl base L k)) w rfl rfl rfl rfl rfl R1.out (by rw [ints, List.length_map, HLk.out]; exact hkL) B1.out ?_; intro w2 r2 b2' g2; rw [ints_set, HN.out] at r2; have R2 := Lib.hid r2; have B2 := Lib.hid b2'; have G2 := Lib.hid (G1.out.trans g2); clear r2 b2' g2 s0)
     | fail)
    obtain ⟨s0, -, -⟩ := SK.out w2 G2.out
    have hcL : w2.cell? ⟨g, k, none⟩ = some (.int .i64 (aheadF cl base L (k + 1))) := by
     have h1 := R2.out.cell (j := k) (by rw [ints, List.length_map, HLk.out]; exact hkL)
     rw [h1, aheadF_next]
     simp [List.getD_eq_getElem?_getD, List.getElem?_eq_getElem (show k < (fillN cl base L (k + 1)).length by rw [HLk.out]; exact hkL)]
    go_wp2_with fail
    go_roundw
    case rel => exact ⟨k + 1, by omega, by go_num, rfl, R2, B2, G2⟩
    case measure => simp [intOf]; omega
  ·obtain rfl : k = cl.length := by omega
   go_wp2_with fail
   (try simp only [Exit.inBlock, Exit.then])
   exact bodyPost_end (results_none rfl _ _ _) rfl ⟨rfl, HR.out, HB.out, G0.out.trans HG.out⟩
end Go.Proofs.YtcbaahlahohfmaaGreatDoor
namespace Go.Proofs.YtcbaahlahohfmaaGreatDoor
open Go.RowKit
theorem rend11_any (s : Int) (w : World) : Calls Tryz.prog 74 #[.int .i64 s] w fun e w' => e = .returned (.int .i64 (endK s)) ∧ w = w' := by
 rcases h : (s == 1) with _ | _
 ·have hz : endK s = 0 := by rw [endK, if_neg (by simpa using h)]
  rw [hz]
  go_enter Tryz.func74, Tryz.ntmps74
  go_wp2
  go_ret
  exact ⟨rfl, rfl⟩
 ·have hz : endK s = 1 := by rw [endK, if_pos (by simpa using h)]
  rw [hz]
  go_enter Tryz.func74, Tryz.ntmps74
  go_wp2
  go_ret
  exact ⟨rfl, rfl⟩
theorem rside11_any (k lev : Int) (w : World) : Calls Tryz.prog 75 #[.int .i64 k, .int .i64 lev] w fun e w' => e = .returned (.int .i64 (nSide lev k)) ∧ w = w' := by
 obtain ⟨z, hz⟩ : ∃ z, sdB k = z := ⟨_, rfl⟩
 have HZ := Lib.hid hz
 by_cases hs : z < 0
 ·have hn : nSide lev k = dirL lev := by rw [nSide, hz, if_pos hs]
  have hd : decide (z < 0) = true := decide_eq_true hs
  rw [hn]
  clear hz hn
  go_enter Tryz.func75, Tryz.ntmps75
  go_wp2_with fail
  refine (rside10_any k w).mono ?_
  rintro e wq ⟨rfl, rfl⟩
  rw [HZ.out]
  go_wp2_with fail
  refine (rdir8_any lev w).mono ?_
  rintro e wq ⟨rfl, rfl⟩
  go_wp2
  go_ret
  exact ⟨rfl, rfl⟩
 ·have hn : nSide lev k = z := by rw [nSide, hz, if_neg hs]
  have hd : decide (z < 0) = false := decide_eq_false hs
  rw [hn]
  clear hz hn
  go_enter Tryz.func75, Tryz.ntmps75
  go_wp2_with fail
  refine (rside10_any k w).mono ?_
  rintro e wq ⟨rfl, rfl⟩
  rw [HZ.out]
  go_wp2
  go_ret
  exact ⟨rfl, rfl⟩
theorem dir_even {lev : Int} (h : (Int.tmod lev 2 == 0) = true) : dirL lev = 0 := by rw [dirL, if_pos ((tmod_dir lev).1 (by simpa using h))]
theorem dir_odd {lev : Int} (h : (Int.tmod lev 2 == 0) = false) : dirL lev = 1 := by rw [dirL, if_neg (fun e => by rw [(tmod_dir lev).2 e] at h; simp at h)]
set_option maxHeartbeats 2000000 in
theorem rlevel11_any (k lev : Int) (w : World) : Calls Tryz.prog 41 #[.int .i64 k, .int .i64 lev] w fun e w' => e = .returned (.int .i64 (nLevelI k lev)) ∧ w = w' := by
 obtain ⟨z, hz⟩ : ∃ z, nLevelI k lev = z := ⟨_, rfl⟩
 rw [hz]
 rcases hev : (Int.tmod lev 2 == 0) with _ | _
 ·have hne : (Int.tmod lev 2 != 0) = true := by rw [bne, hev]; rfl
  have hd := dir_odd hev
  rcases e0 : (k == 0) with _ | _
  ·rcases e6 : (k == 6) with _ | _
   ·rcases e3 : (k == 3) with _ | _
    ·have HF : Hid (z = lev) := Lib.hid (by
      simp only [beq_eq_false_iff_ne] at e0 e3 e6
      rw [← hz, nLevelI, hd, if_neg (by omega), if_neg (by omega), if_neg (by omega)])
     clear hz hd
     go_enter Tryz.func41, Tryz.ntmps41
     go_wp2
     go_ret
     exact ⟨ret_int HF.out.symm, rfl⟩
    ·have HF : Hid (z = wrap64 (lev + 1)) := Lib.hid (by
      simp only [beq_iff_eq] at e3
      rw [← hz, nLevelI, hd, if_neg (by omega), if_neg (by omega), if_pos (by omega)])
     clear hz hd
     go_enter Tryz.func41, Tryz.ntmps41
     go_wp2
     go_ret
     exact ⟨ret_int HF.out.symm, rfl⟩
   ·have HF : Hid (z = wrap64 (lev + 1)) := Lib.hid (by
     simp only [beq_iff_eq] at e6
     rw [← hz, nLevelI, hd, if_neg (by omega), if_neg (by omega), if_pos (by omega)])
    clear hz hd
    go_enter Tryz.func41, Tryz.ntmps41
    go_wp2
    go_ret
    exact ⟨ret_int HF.out.symm, rfl⟩
  ·have HF : Hid (z = wrap64 (lev + 1)) := Lib.hid (by
    simp only [beq_iff_eq] at e0
    rw [← hz, nLevelI, hd, if_neg (by omega), if_neg (by omega), if_pos (by omega)])
   clear hz hd
   obtain rfl : k = 0 := by simpa using e0
   go_enter Tryz.func41, Tryz.ntmps41
   go_wp2
   go_ret
   exact ⟨ret_int HF.out.symm, rfl⟩
 ·have hne : (Int.tmod lev 2 != 0) = false := by rw [bne, hev]; rfl
  have hd := dir_even hev
  rcases e1 : (k == 1) with _ | _
  ·rcases e6 : (k == 6) with _ | _
   ·rcases e3 : (k == 3) with _ | _
    ·have HF : Hid (z = lev) := Lib.hid (by
      simp only [beq_eq_false_iff_ne] at e1 e3 e6
      rw [← hz, nLevelI, hd, if_neg (by omega), if_neg (by omega), if_neg (by omega)])
     clear hz hd
     go_enter Tryz.func41, Tryz.ntmps41
     go_wp2
     go_ret
     exact ⟨ret_int HF.out.symm, rfl⟩
    ·have HF : Hid (z = wrap64 (lev + 2)) := Lib.hid (by
      simp only [beq_iff_eq] at e3
      rw [← hz, nLevelI, hd, if_neg (by omega), if_pos (by omega)])
     clear hz hd
     go_enter Tryz.func41, Tryz.ntmps41
     go_wp2
     go_ret
     exact ⟨ret_int HF.out.symm, rfl⟩
   ·have HF : Hid (z = wrap64 (lev + 2)) := Lib.hid (by
     simp only [beq_iff_eq] at e6
     rw [← hz, nLevelI, hd, if_neg (by omega), if_pos (by omega)])
    clear hz hd
    go_enter Tryz.func41, Tryz.ntmps41
    go_wp2
    go_ret
    exact ⟨ret_int HF.out.symm, rfl⟩
  ·have HF : Hid (z = wrap64 (lev + 1)) := Lib.hid (by
    simp only [beq_iff_eq] at e1
    rw [← hz, nLevelI, hd, if_pos (by omega)])
   clear hz hd
   obtain rfl : k = 1 := by simpa using e1
   go_enter Tryz.func41, Tryz.ntmps41
   go_wp2
   go_ret
   exact ⟨ret_int HF.out.symm, rfl⟩
end Go.Proofs.YtcbaahlahohfmaaGreatDoor
namespace Go.Proofs.YtcbaahlahohfmaaGreatDoor
open Go.RowKit
theorem gStep_new {G : List (Int × Int)} {k : Nat} (h : ∀ p, G.getLast? = some p → p.2 ≠ (k : Int)) : gStep G k = G ++ [((k : Int), ((k + 1 : Nat) : Int))] := by
 rw [gStep, if_neg]
 intro e
 obtain ⟨p, hp, hp2⟩ := Option.map_eq_some_iff.1 e
 exact h p hp hp2
theorem gStep_on {D : List (Int × Int)} {a b : Int} {k : Nat} (h : b = (k : Int)) : gStep (D ++ [(a, b)]) k = D ++ [(a, ((k + 1 : Nat) : Int))] := by
 rw [gStep]
 simp [h]
theorem prC_last (D : List (Int × Int)) (a b y : Int) : (prC (D ++ [(a, b)])).set (D.length * 2 + 1) (.int .i64 y) = prC (D ++ [(a, y)]) := by
 rw [prC_append, prC_append, List.set_append_right _ _ (by rw [prC_length]; omega), prC_length, Nat.add_sub_cancel_left]
 rfl
set_option maxRecDepth 20000 in
set_option maxHeartbeats 4000000 in
theorem rgroups11_any (A : Option Addr) (l : List Int) (c : Nat) (w : World) (h : Lies w w.heap.size A (ints .i64 l)) (hl : l.length ≤ 1000000) :
 Calls Tryz.prog 73 #[.slice A l.length c] w fun ed w' => ∃ v, ed = .returned v ∧ OwnN w' w.heap.size 79 2 v (groupsI l).length (prC (groupsI l)) ∧ Below w.heap.size w w' := by
 have H := Lib.hid h
 clear h
 go_enter Tryz.func73, Tryz.ntmps73
 go_wp2_with fail
 go_loopw [4, 3] (fun iv ov wr => ∃ k : Nat, k ≤ l.length ∧ iv = .int .i64 k ∧ OwnN wr w.heap.size 79 2 ov (grpN l k).length (prC (grpN l k)) ∧ Below w.heap.size w wr) (fun iv _ _ => l.length - (intOf iv).toNat)
 case atStart => exact ⟨0, by omega, rfl, OwnN.empty _ _ _ _, Below.refl _ _⟩
 case round =>
  obtain ⟨k, hk, rfl, ho, hb⟩ := hrel
  have HLE : Hid ((grpN l k).length ≤ k) := Lib.hid (ginv l k hk).len
  have HB := Lib.hid hb
  clear hb
  by_cases hlt : k < l.length
  ·obtain ⟨p, rfl, _, hcl⟩ := (H.out.below HB.out).int hlt
   obtain ⟨x, hx⟩ : ∃ x, l[k] = x := ⟨_, rfl⟩
   rw [hx] at hcl
   have hnx : grpN l (k + 1) = if isNeutral x then gStep (grpN l k) k else grpN l k := by rw [grpN, getD_at hlt, hx]
   obtain ⟨G, hG⟩ : ∃ G, grpN l k = G := ⟨_, rfl⟩
   rw [hG] at ho hnx HLE
   have HO := Lib.hid ho
   have b0 : (0 : Int) ≤ (k : Int) := by omega
   have b1 : (k : Int) < (l.length : Int) := by omega
   have hw : IntKind.i64.wrap ((k : Int) + 1) = ((k + 1 : Nat) : Int) := by rw [IntWalk.i64_in _ (by omega)]; rfl
   have HNX := Lib.hid hnx
   clear hx hG ho hnx
   rcases hn : isNeutral x with _ | _
   ·have HN := Lib.hid hn
    clear hn hw
    go_wp2_with fail
    refine (rneutral_any x wr).mono ?_
    rintro e wq ⟨rfl, rfl⟩
    rw [HN.out]
    go_wp2_with fail
    go_roundw
    case rel => exact ⟨k + 1, by omega, by go_num, by rw [HNX.out, HN.out, if_neg (by simp)]; exact HO.out, HB.out⟩
    case measure => simp [intOf]; omega
   ·have HN := Lib.hid hn
    clear hn
    by_cases hg0 : G.length = 0
    ·obtain rfl := List.eq_nil_of_length_eq_zero hg0
     clear hg0
     obtain ⟨Ao, co, rfl, -, -, -⟩ := HO.out.form
     go_wp2_with fail
     refine (rneutral_any x wr).mono ?_
     rintro e wq ⟨rfl, rfl⟩
     rw [HN.out]
     go_wp2_with (first
      | (at_builtin; refine appN_at prT w _ w.heap.size _ _ _ _ 0 1 [] [.int .i64 (k : Int), .int .i64 ((k + 1 : Nat) : Int)] _ _ rfl rfl rfl rfl (HO.out.alloc _) (Lies.lit (w := wr) (e := 79) #[.int .i64 (k : Int), .int .i64 ((k + 1 : Nat) : Int)]) rfl (by simp [Value.oneCell']) (HB.out.alloc HB.out.size _) (HB.out.alloc HB.out.size _).size (by unfold maxLen; omega) (by omega) ?_; intro v2 w2 o2 b2 _ _; have O2 := Lib.hid o2; have B2 := Lib.hid b2; clear o2 b2)
      | fail)
     go_roundw
     case rel => exact ⟨k + 1, by omega, by go_num, by rw [HNX.out, HN.out, if_pos rfl, gStep_new (fun p hp => by cases hp)]; exact O2.out, B2.out⟩
     case measure => simp [intOf]; omega
    ·obtain ⟨D, ⟨a, b⟩, hD⟩ : ∃ D p, G = D ++ [p] := ⟨G.dropLast, G.getLast (fun e => hg0 (by rw [e]; rfl)), (List.dropLast_concat_getLast _).symm⟩
     subst hD
     obtain ⟨m, hm⟩ : ∃ m, D.length = m := ⟨_, rfl⟩
     have hlen : (D ++ [(a, b)]).length = m + 1 := by rw [List.length_append, hm]; rfl
     rw [hlen] at HO HLE
     obtain ⟨g, co, rfl, -, -, -, hcell⟩ := HO.out.block (by omega)
     have hc0 : wr.cell? ⟨g, m * 2 + 1, none⟩ = some (.int .i64 b) := by
      rw [hcell (m * 2 + 1) (by omega), prC_append, List.getElem?_append_right (by rw [prC_length]; omega), prC_length, hm, Nat.add_sub_cancel_left]
      rfl
     have HM := Lib.hid hm
     have hle := HLE.out
     clear hg0 hlen hcell hm
     have c0 : (0 : Int) < (m : Int) + 1 := by omega
     have c1 : (m : Int) < (m : Int) + 1 := by omega
     have c2 : (0 : Int) ≤ (m : Int) := by omega
     rcases hbk : (b == (k : Int)) with _ | _
     ·have HNE : Hid (¬ b = (k : Int)) := Lib.hid (by simpa using hbk)
      go_wp2_with fail
      refine (rneutral_any x wr).mono ?_
      rintro e wq ⟨rfl, rfl⟩
      rw [HN.out]
      go_wp2_with (first
       | (at_builtin; refine appN_at prT w _ w.heap.size _ _ _ _ (m + 1) 1 _ [.int .i64 (k : Int), .int .i64 ((k + 1 : Nat) : Int)] _ _ rfl rfl rfl rfl (HO.out.alloc _) (Lies.lit (w := wr) (e := 79) #[.int .i64 (k : Int), .int .i64 ((k + 1 : Nat) : Int)]) rfl (by simp [Value.oneCell']) (HB.out.alloc HB.out.size _) (HB.out.alloc HB.out.size _).size (by unfold maxLen; omega) (by omega) ?_; intro v2 w2 o2 b2 _ _; have O2 := Lib.hid o2; have B2 := Lib.hid b2; clear o2 b2)
       | fail)
      go_roundw
      case rel =>
       refine ⟨k + 1, by omega, by go_num, ?_, B2.out⟩
       rw [HNX.out, HN.out, if_pos rfl, gStep_new (fun p hp => by simp at hp; subst hp; exact HNE.out), prC_append, List.length_append, List.length_append, HM.out]
       exact O2.out
      case measure => simp [intOf]; omega
     ·have HEQ : Hid (b = (k : Int)) := Lib.hid (by simpa using hbk)
      go_wp2_with fail
      refine (rneutral_any x wr).mono ?_
      rintro e wq ⟨rfl, rfl⟩
      rw [HN.out]
      go_wp2_with (first
       | (refine store_cellN wr w.heap.size _ _ g (m * 2 + 1) co (m + 1) (.int .i64 ((k + 1 : Nat) : Int)) _ w rfl rfl rfl (by kernel_rfl) rfl rfl rfl HO.out (by omega) HB.out ?_; intro w2 o2 b2 g2; have O2 := Lib.hid o2; have B2 := Lib.hid b2; clear o2 b2 g2)
       | fail)
      go_roundw
      case rel =>
       refine ⟨k + 1, by omega, by go_num, ?_, B2.out⟩
       have := O2.out
       rw [← HM.out, prC_last, HM.out] at this
       rw [HNX.out, HN.out, if_pos rfl, gStep_on HEQ.out, List.length_append, HM.out]
       exact this
      case measure => simp [intOf]; omega
  ·obtain rfl : k = l.length := by omega
   go_wp2
   go_ret
   exact ⟨_, rfl, ho, HB.out⟩
end Go.Proofs.YtcbaahlahohfmaaGreatDoor
namespace Go.Proofs.YtcbaahlahohfmaaGreatDoor
open Go.RowKit
set_option maxRecDepth 20000 in
set_option maxHeartbeats 8000000 in
theorem rof11_any (A : Option Addr) (l : List Int) (c : Nat) (lev sos eos : Int) (w : World) (h : Lies w w.heap.size A (ints .i64 l)) (hl : l.length ≤ 1000000) :
 Calls Tryz.prog 40 #[.slice A l.length c, .int .i64 lev, .int .i64 sos, .int .i64 eos] w fun ed w' => Rowed w w.heap.size 3 (ints .i64 (nofI l lev sos eos)) ed w' := by
 have H := Lib.hid h
 obtain ⟨G, hG⟩ : ∃ G, groupsI l = G := ⟨_, rfl⟩
 have HG := Lib.hid hG
 have HGL : Hid (G.length ≤ l.length) := Lib.hid (by rw [← hG]; exact (ginv l l.length (Nat.le_refl _)).len)
 clear h hG
 go_enter Tryz.func40, Tryz.ntmps40
 go_wp2_with (first
  | (at_builtin; refine app_src intsT w (w.alloc (.cells #[] 3)) w.heap.size w.heap.size _ _ _ [] (ints .i64 l) A l.length c rfl rfl rfl rfl (by simp [ints]) (Own.ofLit #[] (Nat.le_refl _) (by decide)) (H.out.alloc (Nat.le_refl _) _) (ints_one _ _) (below_alloc _ _) (by simp) (by unfold maxLen; simp [ints]; omega) (by simp [ints]; omega) ?_; intro v1 w1 o1 b1 _ _; have O1 := Lib.hid o1; have B1 := Lib.hid b1; clear o1 b1)
  | fail)
 have H1 := Lib.hid (H.out.up B1.out)
 refine (rgroups11_any A l c w1 H1.out hl).mono ?_
 rintro e w2 ⟨v2, rfl, o2, b2⟩
 rw [HG.out] at o2
 obtain ⟨A2, c2, rfl, -, -, -⟩ := o2.form
 have P2 := Lib.hid o2
 have B2 := Lib.hid (below_then B1.out b2)
 have O2 := Lib.hid (O1.out.below b2 (Nat.le_refl _))
 clear o2 b2
 obtain ⟨L', hL'⟩ : ∃ L', nofI l lev sos eos = L' := ⟨_, rfl⟩
 have HL' := Lib.hid hL'
 have HLL : Hid (L'.length = l.length) := Lib.hid (by rw [← hL', nofI_length])
 have O0 : Hid (Own w2 w.heap.size 3 v1 (ints .i64 (mixL l L' (endN l 0)))) := Lib.hid (by rw [endN, if_pos rfl, mixL_zero]; simpa using O2.out)
 have HOV : Hid (∀ n, n = G.length → mixL l L' (endN l n) = L') := Lib.hid fun n hn => by rw [hn, ← HG.out, ← hL', mix_last]
 have HAG : Hid (∀ n (hn : n < G.length), ∃ a b : Nat, G[n] = ((a : Int), (b : Int)) ∧ Around l a b ∧ endN l (n + 1) = b ∧ mixL l L' (endN l n) = mixL l L' a ∧ ∀ i, a ≤ i → i < b → L'.getD i 0 = grpTo l lev sos eos a b) := Lib.hid fun n hn => by
  have hg := HG.out
  subst hg
  obtain ⟨a, b, h1, h2⟩ := grp_at l hn
  exact ⟨a, b, h1, h2, endN_succ l hn h1, by rw [← hL', mix_group l lev sos eos hn h1 h2], fun i i1 i2 => by rw [← hL', nofI_group lev sos eos h2 i1 i2]⟩
 clear hL'
 have hgl := HGL.out
 go_wp2_with fail
 go_loopw [11] (fun nv wr => ∃ n : Nat, n ≤ G.length ∧ nv = .int .i64 n ∧ Hid (Own wr w.heap.size 3 v1 (ints .i64 (mixL l L' (endN l n)))) ∧ Hid (OwnN wr w1.heap.size 79 2 (.slice A2 G.length c2) G.length (prC G)) ∧ Hid (Below w.heap.size w wr)) (fun nv _ => G.length - (intOf nv).toNat)
 case atStart => exact ⟨0, by omega, rfl, O0, P2, B2⟩
 case round =>
  obtain ⟨n, hn, rfl, HO, HP, HB⟩ := hrel
  by_cases hlt : n < G.length
  ·obtain ⟨a, b, hab, har, hen, hmx, hto⟩ := HAG.out n hlt
   obtain ⟨A3, c3, hv3, hl3, -, -⟩ := HP.out.form
   injection hv3 with hv3 _ hc3
   subst hv3 hc3
   obtain ⟨g, off, hA, _, p0, p1⟩ := prC_at hl3 hlt
   subst hA
   rw [hab] at p0 p1
   simp only at p0 p1
   have hbl := har.le
   have hal := har.lt
   have HAR := Lib.hid har
   have HAB := Lib.hid hab
   have HEN := Lib.hid hen
   have HTO := Lib.hid hto
   have HMX := Lib.hid hmx
   obtain ⟨X, hX⟩ : ∃ X, (if 0 < a then nSide lev (l.getD (a - 1) 0) else endK sos) = X := ⟨_, rfl⟩
   obtain ⟨Y, hY⟩ : ∃ Y, (if b < l.length then nSide lev (l.getD b 0) else endK eos) = Y := ⟨_, rfl⟩
   have HGT : Hid (grpTo l lev sos eos a b = if X = Y then X else dirL lev) := Lib.hid (by rw [grpTo, hX, hY])
   have HX := Lib.hid hX
   have HY := Lib.hid hY
   have n0 : (0 : Int) ≤ (n : Int) := by omega
   have n1 : (n : Int) < (G.length : Int) := by omega
   clear hab har hen hmx hto hl3 hX hY
   have hlb := HAR.out.le
   go_upto_if 36 with fail
   refine (rend11_any sos wr).mono ?_
   rintro e wq ⟨rfl, rfl⟩
   go_upto_if 36 with fail
   refine (rend11_any eos wr).mono ?_
   rintro e wq ⟨rfl, rfl⟩
   go_upto_if 36 with fail
   go_cut [12] (fun v wx => v = .int .i64 X ∧ wr = wx)
   case first =>
    rcases a with _ | m
    ·have hi : Hid (endK sos = X) := Lib.hid (by have := HX.out; rw [if_neg (by omega)] at this; exact this)
     go_wp2_with fail
     go_meet
     exact ⟨by rw [hi.out], rfl⟩
    ·have hml : m < l.length := by omega
     obtain ⟨p, hp, _, hc⟩ := (H.out.below HB.out).int hml
     subst hp
     have hi : Hid (nSide lev l[m] = X) := Lib.hid (by have := HX.out; rw [if_pos (by omega), Nat.add_sub_cancel, getD_at hml] at this; exact this)
     obtain ⟨x, hx⟩ : ∃ x, l[m] = x := ⟨_, rfl⟩
     rw [hx] at hc hi
     have m0 : (0 : Int) ≤ (m : Int) := by omega
     have m1 : (m : Int) < (l.length : Int) := by omega
     have m2 : (0 : Int) < (m : Int) + 1 := by omega
     clear hx
     go_wp2_with fail
     refine (rside11_any x lev wr).mono ?_
     rintro e wq ⟨rfl, rfl⟩
     rw [hi.out]
     go_wp2_with fail
     go_meet
     exact ⟨rfl, rfl⟩
   case rest =>
    obtain ⟨rfl, rfl⟩ := hcut
    go_upto_if 55 with fail
    go_cut [13] (fun v wx => v = .int .i64 Y ∧ wr = wx)
    case first =>
     by_cases hbn : b < l.length
     ·obtain ⟨p, hp, _, hc⟩ := (H.out.below HB.out).int hbn
      subst hp
      have hi : Hid (nSide lev l[b] = Y) := Lib.hid (by have := HY.out; rw [if_pos hbn, getD_at hbn] at this; exact this)
      obtain ⟨x, hx⟩ : ∃ x, l[b] = x := ⟨_, rfl⟩
      rw [hx] at hc hi
      have m0 : (0 : Int) ≤ (b : Int) := by omega
      have m1 : (b : Int) < (l.length : Int) := by omega
      clear hx
      go_wp2_with fail
      refine (rside11_any x lev wr).mono ?_
      rintro e wq ⟨rfl, rfl⟩
      rw [hi.out]
      go_wp2_with fail
      go_meet
      exact ⟨rfl, rfl⟩
     ·have hi : Hid (endK eos = Y) := Lib.hid (by have := HY.out; rw [if_neg hbn] at this; exact this)
      have m1 : ¬ (b : Int) < (l.length : Int) := by omega
      go_wp2_with fail
      go_meet
      exact ⟨by rw [hi.out], rfl⟩
    case rest =>
     obtain ⟨rfl, rfl⟩ := hcut
     go_upto_if 70 with fail
     refine (rdir8_any lev wr).mono ?_
     rintro e wq ⟨rfl, rfl⟩
     obtain ⟨T, hT⟩ : ∃ T, grpTo l lev sos eos a b = T := ⟨_, rfl⟩
     rw [hT] at HGT HTO
     go_upto_if 70 with fail
     go_cut [14] (fun v wx => v = .int .i64 T ∧ wr = wx)
     case first =>
      rcases hxy : (X == Y) with _ | _
      ·have hi : Hid (dirL lev = T) := Lib.hid (by have := HGT.out; rw [if_neg (by simpa using hxy)] at this; exact this.symm)
       go_wp2_with fail
       go_meet
       exact ⟨by rw [hi.out], rfl⟩
      ·have hi : Hid (X = T) := Lib.hid (by have := HGT.out; rw [if_pos (by simpa using hxy)] at this; exact this.symm)
       go_wp2_with fail
       go_meet
       exact ⟨by rw [hi.out], rfl⟩
     case rest =>
      obtain ⟨rfl, rfl⟩ := hcut
      clear hT
      have hil : (ints .i64 (mixL l L' (endN l n))).length = l.length := by rw [ints, List.length_map, mixL_all HLL.out]
      obtain ⟨g1, c1, hv1, hR⟩ := HO.out.inRow (by omega)
      rw [hil] at hv1
      subst hv1
      rw [HMX.out] at hR
      have HR := Lib.hid hR
      clear hil hR
      go_wp2_with fail
      go_loopw [15] (fun iv wx => ∃ i : Nat, a ≤ i ∧ i ≤ b ∧ iv = .int .i64 i ∧ Hid (Row wx w.heap.size 3 g1 c1 (ints .i64 (mixL l L' i))) ∧ Hid (OwnN wx w1.heap.size 79 2 (.slice (some ⟨g, off, none⟩) G.length c2) G.length (prC G)) ∧ Hid (Below w.heap.size w wx)) (fun iv _ => b - (intOf iv).toNat)
      case atStart => exact ⟨a, by omega, by omega, rfl, HR, HP, HB⟩
      case round =>
       rename World => wx
       obtain ⟨i, hai, hib, rfl, HRi, HPi, HBi⟩ := hrel
       obtain ⟨A4, c4, hv4, hl4, -, -⟩ := HPi.out.form
       injection hv4 with hv4 _ hc4
       subst hv4 hc4
       obtain ⟨g4, off4, hA4, _, q0, q1⟩ := prC_at hl4 hlt
       injection hA4 with hA4
       injection hA4 with hg4 ho4 _
       subst hg4 ho4
       rw [HAB.out] at q0 q1
       simp only at q0 q1
       clear hl4 p0 p1
       by_cases hlt2 : i < b
       ·have i1 : (i : Int) < (b : Int) := by omega
        have hjl : i < (ints .i64 (mixL l L' i)).length := by rw [ints, List.length_map, mixL_all HLL.out]; omega
        have HJL := Lib.hid hjl
        clear hjl
        go_wp2_with (first
         | (refine store_row intsT wx w.heap.size _ _ g1 i c1 .i64 T (ints .i64 (mixL l L' i)) w rfl rfl rfl rfl rfl HRi.out HJL.out HBi.out ?_; intro w5 r5 b5 g5; have R5 := Lib.hid r5; have B5 := Lib.hid b5; have P5 := Lib.hid (HPi.out.keep g5 (OwnN.unlike HPi.out (HRi.out : OwnN _ _ _ 1 _ _ _) (by decide))); clear r5 b5 g5)
         | fail)
        go_roundw
        case rel =>
         refine ⟨i + 1, by omega, by omega, by go_num, Lib.hid ?_, P5, B5⟩
         have := R5.out
         have hset := mixL_set (pre := []) (post := []) HLL.out (show i < l.length by omega)
         simp only [List.nil_append, List.append_nil, List.length_nil, Nat.zero_add] at hset
         rw [ints_set, ← HTO.out i hai hlt2, hset] at this
         exact this
        case measure => simp [intOf]; omega
       ·obtain rfl : i = b := by omega
        have i1 : ¬ (i : Int) < (i : Int) := by omega
        go_wp2_with fail
        go_roundw
        case rel =>
         refine ⟨n + 1, by omega, by go_num, Lib.hid ?_, HPi, HBi⟩
         have := HRi.out
         rw [Row, ints, List.length_map, mixL_all HLL.out] at this
         rw [HEN.out]; exact this
        case measure => simp [intOf]; omega
  ·obtain rfl : n = G.length := by omega
   go_wp2
   go_ret
   exact ⟨v1, rfl, by have := HO.out; rw [HOV.out _ rfl, ← HL'.out] at this; exact this, HB.out⟩
end Go.Proofs.YtcbaahlahohfmaaGreatDoor
namespace Go.Proofs.YtcbaahlahohfmaaGreatDoor
open Go.RowKit
theorem sdir_q (k : Int) (w : World) : Calls Tryz.prog 90 #[.int .i64 k] w fun ed w' => ed = .returned (.int .i64 (dirL k)) ∧ w = w' := by
 rcases h : (Int.tmod k 2 != 0) with _ | _
 ·have hz : dirL k = 0 := by rw [dirL, if_pos ((tmod_dir k).1 (by simpa using h))]
  rw [hz]
  go_enter Tryz.func90, Tryz.ntmps90
  go_wp2
  go_ret
  exact ⟨rfl, rfl⟩
 ·have hz : dirL k = 1 := by rw [dirL, if_neg (fun e => by rw [(tmod_dir k).2 e] at h; simp at h)]
  rw [hz]
  go_enter Tryz.func90, Tryz.ntmps90
  go_wp2
  go_ret
  exact ⟨rfl, rfl⟩
theorem sdir_any (k : Int) (w : World) : Calls Tryz.prog 90 #[.int .i64 k] w fun ed w' => ed = .returned (.int .i64 (dirL k)) ∧ Below w.heap.size w w' :=
 (sdir_q k w).mono fun _ _ ⟨h1, h2⟩ => ⟨h1, h2 ▸ Below.refl _ _⟩
end Go.Proofs.YtcbaahlahohfmaaGreatDoor
namespace Go.Proofs.YtcbaahlahohfmaaGreatDoor
open Go.RowKit
theorem bside_q (k : Int) (w : World) : Calls Tryz.prog 174 #[.int .i64 k] w fun e w' => e = .returned (.int .i64 (sdB k)) ∧ w = w' := by
 obtain ⟨z, hz⟩ : ∃ z, sdB k = z := ⟨_, rfl⟩
 have HZ := Lib.hid hz
 rw [hz]
 clear hz
 rcases e0 : (k == 0) with _ | _
 ·rcases e1 : (k == 1) with _ | _
  ·rcases e3 : (k == 3) with _ | _
   ·rcases e6 : (k == 6) with _ | _
    ·have HF : Hid (z = -1) := Lib.hid (by rw [← HZ.out, sdB, if_neg (by simpa using e0), if_neg (by simp at e1 e3 e6; omega)])
     go_enter Tryz.func174, Tryz.ntmps174
     go_wp2
     go_ret
     exact ⟨ret_int HF.out.symm, rfl⟩
    ·have HF : Hid (z = 1) := Lib.hid (by rw [← HZ.out, sdB, if_neg (by simpa using e0), if_pos (by simp at e1 e3 e6; omega)])
     go_enter Tryz.func174, Tryz.ntmps174
     go_wp2
     go_ret
     exact ⟨ret_int HF.out.symm, rfl⟩
   ·have HF : Hid (z = 1) := Lib.hid (by rw [← HZ.out, sdB, if_neg (by simpa using e0), if_pos (by simp at e1 e3; omega)])
    go_enter Tryz.func174, Tryz.ntmps174
    go_wp2
    go_ret
    exact ⟨ret_int HF.out.symm, rfl⟩
  ·have HF : Hid (z = 1) := Lib.hid (by rw [← HZ.out, sdB, if_neg (by simpa using e0), if_pos (by simp at e1; omega)])
   go_enter Tryz.func174, Tryz.ntmps174
   go_wp2
   go_ret
   exact ⟨ret_int HF.out.symm, rfl⟩
 ·have HF : Hid (z = 0) := Lib.hid (by rw [← HZ.out, sdB, if_pos (by simpa using e0)])
  go_enter Tryz.func174, Tryz.ntmps174
  go_wp2
  go_ret
  exact ⟨ret_int HF.out.symm, rfl⟩
end Go.Proofs.YtcbaahlahohfmaaGreatDoor
namespace Go.Proofs.YtcbaahlahohfmaaGreatDoor
open Go.RowKit
structure Kpt (p : Int → Bool) (l : List Int) (j : Nat) (cur : List Int) : Prop where
 len : cur.length = l.length
 done : cur.take (l.take j |>.filter p).length = (l.take j).filter p
 rest : cur.drop j = l.drop j
theorem kpt_le (p : Int → Bool) (l : List Int) (j : Nat) : ((l.take j).filter p).length ≤ j := by
 have := List.length_filter_le p (l.take j)
 simp at this; omega
theorem filter_take_succ (p : Int → Bool) (l : List Int) (k : Nat) (h : k < l.length) : (l.take (k + 1)).filter p = if p l[k] then (l.take k).filter p ++ [l[k]] else (l.take k).filter p := by
 rw [take_snoc l k h, List.filter_append]
 cases ho : p l[k] <;> simp [ho]
theorem Kpt.get {p : Int → Bool} {l cur : List Int} {j : Nat} (h : Kpt p l j cur) (hj : j < l.length) : cur[j]? = some l[j] := by
 have := congrArg (·[0]?) h.rest
 simp only [List.getElem?_drop, Nat.add_zero] at this
 rw [this, List.getElem?_eq_getElem hj]
theorem Kpt.skip {p : Int → Bool} {l cur : List Int} {j : Nat} (h : Kpt p l j cur) (hj : j < l.length) (hp : p l[j] = false) : Kpt p l (j + 1) cur ∧ ((l.take (j + 1)).filter p).length = ((l.take j).filter p).length := by
 have hf := filter_take_succ p l j hj
 rw [hp, if_neg (by simp)] at hf
 refine ⟨⟨h.len, by rw [hf]; exact h.done, ?_⟩, by rw [hf]⟩
 rw [← List.drop_drop, ← List.drop_drop, h.rest]
theorem Kpt.keep {p : Int → Bool} {l cur : List Int} {j i : Nat} (h : Kpt p l j cur) (hj : j < l.length) (hp : p l[j] = true) (hi : ((l.take j).filter p).length = i) : Kpt p l (j + 1) (cur.set i l[j]) ∧ ((l.take (j + 1)).filter p).length = i + 1 := by
 have hf := filter_take_succ p l j hj
 have hle := kpt_le p l j
 rw [hp, if_pos rfl] at hf
 have hlen : ((l.take (j + 1)).filter p).length = i + 1 := by rw [hf]; simp [hi]
 have hd := h.done
 rw [hi] at hd
 have hcl := h.len
 refine ⟨⟨by rw [List.length_set, h.len], ?_, ?_⟩, hlen⟩
 ·rw [hlen, List.take_succ_eq_append_getElem (by rw [List.length_set]; omega), List.take_set_of_le (Nat.le_refl _), List.getElem_set_self, hd, hf]
 ·rw [List.drop_set_of_lt (by omega), ← List.drop_drop, ← List.drop_drop, h.rest]
set_option maxHeartbeats 1000000 in
theorem clone_any (A : Option Addr) (l : List Int) (c : Nat) (w : World) (h : Lies w w.heap.size A (ints .i64 l)) (hl : l.length ≤ 1000000) :
 Calls Tryz.prog 94 #[.slice A l.length c] w fun ed w' => Rowed w w.heap.size 3 (ints .i64 l) ed w' := by
 have H := Lib.hid h
 clear h
 rcases A with _ | p
 ·have : l = [] := by
   rcases l with _ | ⟨x, l⟩
   ·rfl
   ·obtain ⟨p, hp, _⟩ := H.out (by simp); cases hp
  subst this
  have he : ∀ W, (binOp .eql 22 (.slice none 0 c) (.slice none 0 0)).run Tryz.prog W = .ok (.bool true) W := fun W => Lib.run_eql_slice_nil W _ _ _ _ _ _ _ Tryz.underlying22
  go_enter Tryz.func94, Tryz.ntmps94
  go_wp2
  go_ret
  exact ⟨_, rfl, Own.empty _ _ _, Below.refl _ _⟩
 ·have he : ∀ W, (binOp .eql 22 (.slice (some p) l.length c) (.slice none 0 0)).run Tryz.prog W = .ok (.bool false) W := fun W => Lib.run_eql_slice_nil W _ _ _ _ _ _ _ Tryz.underlying22
  go_enter Tryz.func94, Tryz.ntmps94
  go_wp2_with (first
   | (at_builtin; refine app_src intsT w (w.alloc (.cells #[] 3)) w.heap.size w.heap.size _ _ _ [] (ints .i64 l) (some p) l.length c rfl rfl rfl rfl (by simp) (Own.ofLit #[] (Nat.le_refl _) (by decide)) (H.out.alloc (Nat.le_refl _) _) (ints_one _ _) (below_alloc _ _) (by simp) (by unfold maxLen; simp; omega) (by simp; omega) ?_; intro v2 w2 o2 b2 _ _; have O2 := Lib.hid o2; have B2 := Lib.hid b2; clear o2 b2)
   | fail)
  go_ret
  exact ⟨_, rfl, by simpa using O2.out, B2.out⟩
end Go.Proofs.YtcbaahlahohfmaaGreatDoor
