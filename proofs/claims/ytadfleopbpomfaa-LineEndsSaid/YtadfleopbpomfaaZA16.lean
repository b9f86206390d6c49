/- Shared texts, shaken for one claim. -/
import Derived.Test.YtadfleopbpomfaaZA14
namespace Go.Proofs.Ytadfleopbpomfaa
open Go.RowKit
def aheadN (lv s : List Int) (base x : Int) : Nat → Int
 | 0 => base
 | k + 1 => if s.getD k 0 == x && decide (0 < k) then lv.getD (s.getD (k - 1) 0).toNat 0 else aheadN lv s base x k
def behindN (cl lv s : List Int) (base y : Int) : Nat → Int
 | 0 => base
 | k + 1 => if s.getD k 0 == y && (decide (k + 1 < s.length) && (cl.getD y.toNat 0 != 10 && !isOpens (cl.getD y.toNat 0))) then lv.getD (s.getD (k + 1) 0).toNat 0 else behindN cl lv s base y k
def sosI (cl lv pl : List Int) (lev base : Int) : Int := dirL (max lev (aheadN lv (seenI cl) base (headI pl) (seenI cl).length))
def eosI (cl lv pl : List Int) (base : Int) : Int := dirL (max (lv.getD (lastI pl).toNat 0) (behindN cl lv (seenI cl) base (lastI pl) (seenI cl).length))
def SqAt (w : World) (g : Nat) (As : Option Addr) (n c : Nat) (lev : Int) : Prop := w.cell? ⟨g, 0, none⟩ = some (.slice As n c) ∧ w.cell? ⟨g, 1, none⟩ = some (.int .i64 lev)
theorem four_cells {w : World} {B g c : Nat} {e : TypeId} {u0 u1 u2 u3 : Value} (h : OwnN w B e 1 (.slice (some ⟨g, 0, none⟩) 4 c) 4 [u0, u1, u2, u3]) :
 w.cell? ⟨g, 0, none⟩ = some u0 ∧ w.cell? ⟨g, 1, none⟩ = some u1 ∧ w.cell? ⟨g, 2, none⟩ = some u2 ∧ w.cell? ⟨g, 3, none⟩ = some u3 :=
 ⟨World.ownsRow.cellAt h 0 (by omega), World.ownsRow.cellAt h 1 (by omega), World.ownsRow.cellAt h 2 (by omega), World.ownsRow.cellAt h 3 (by omega)⟩
theorem four_block {w : World} {B g : Nat} {e : TypeId} {xs : List Value} (h : OwnN w B e 1 (.slice (some ⟨g, 0, none⟩) 4 4) 4 xs) : w.heap[g]? = some (.cells xs.toArray e) := by
 rcases h.2 with ⟨hv, _⟩ | ⟨g', cap, cur, hv, hbg, hh, hc, hm, hs, ht⟩
 ·cases hv
 ·injection hv with h1 _ h3
  injection h1 with h1
  injection h1 with h1
  subst h1 h3
  rw [hh]
  congr 2
  have h4 : cur.toList = xs := by rw [← ht, List.take_of_length_le (by simp; omega)]
  rw [← h4]
theorem four_stored {w : World} {B g : Nat} {e : TypeId} {a0 a1 a2 a3 : Value} (h : OwnN w B e 1 (.slice (some ⟨g, 0, none⟩) 4 4) 4 [a0, a1, a2, a3]) (b0 b1 b2 b3 : Value) :
 ((((w.setCell ⟨g, 0, none⟩ b0).setCell ⟨g, 1, none⟩ b1).setCell ⟨g, 2, none⟩ b2).setCell ⟨g, 3, none⟩ b3).heap[g]? = some (.cells #[b0, b1, b2, b3] e) := by
 have h0 : OwnN _ _ _ _ _ _ _ := (World.ownsRow.stored h 0 b0).1
 have h1 : OwnN _ _ _ _ _ _ _ := (World.ownsRow.stored h0 1 b1).1
 have h2 : OwnN _ _ _ _ _ _ _ := (World.ownsRow.stored h1 2 b2).1
 have h3 : OwnN _ _ _ _ _ _ _ := (World.ownsRow.stored h2 3 b3).1
 exact four_block h3
set_option maxRecDepth 20000 in
set_option maxHeartbeats 8000000 in
theorem rbounded_any (A : Option Addr) (cl : List Int) (c : Nat) (A' : Option Addr) (lv : List Int) (c' : Nat) (As : Option Addr) (pl : List Int) (cs : Nat) (lev z1 z2 base : Int) (w : World)
 (h : Lies w w.heap.size A (ints .i64 cl)) (h' : Lies w w.heap.size A' (ints .i64 lv)) (hs : Lies w w.heap.size As (ints .i64 pl)) (hl : cl.length ≤ 1000000) (he : cl.length = lv.length) (hne : pl ≠ []) (hpl : pl.length ≤ 1000000000000) (hq : ∀ x ∈ pl, ∃ q : Nat, x = (q : Int) ∧ q < cl.length) :
 Calls Try.prog 54 #[.agg #[.slice As pl.length cs, .int .i64 lev, .int .i64 z1, .int .i64 z2], .slice A cl.length c, .slice A' lv.length c', .int .i64 base] w
  fun ed w' => ed = .returned (.agg #[.slice As pl.length cs, .int .i64 lev, .int .i64 (sosI cl lv pl lev base), .int .i64 (eosI cl lv pl base)]) ∧ Below w.heap.size w w' := by
 obtain ⟨n, hn⟩ : ∃ n, pl.length = n := ⟨_, rfl⟩
 have hn0 : 0 < n := by rw [← hn]; exact List.length_pos_iff.2 hne
 obtain ⟨t, ht⟩ : ∃ t, n - 1 = t := ⟨_, rfl⟩
 obtain ⟨x, hx⟩ : ∃ x, headI pl = x := ⟨_, rfl⟩
 obtain ⟨y, hy, hyq⟩ : ∃ y : Nat, lastI pl = (y : Int) ∧ y < cl.length := by
  have e : pl[pl.length - 1]'(by omega) = lastI pl := by simp [lastI, List.getElem?_eq_getElem (show pl.length - 1 < pl.length by omega)]
  rw [← e]; exact hq _ (List.getElem_mem _)
 obtain ⟨b, off, hAs, hbb, hcs⟩ := hs.plainInts (by omega)
 subst hAs
 have hp0 := hcs 0 (by omega)
 have hp1 := hcs (n - 1) (by omega)
 rw [show pl[0]'(by omega) = x by rw [← hx, headI]; simp [show 0 < pl.length by omega]] at hp0
 rw [show pl[n - 1]'(by omega) = (y : Int) by
  have e : pl[pl.length - 1]'(by omega) = lastI pl := by simp [lastI, List.getElem?_eq_getElem (show pl.length - 1 < pl.length by omega)]
  simp only [hn] at e
  rw [e, hy], ht] at hp1
 simp only [Nat.add_zero] at hp0
 have hyl : y < lv.length := by omega
 obtain ⟨ky, hky⟩ : ∃ k, cl[y] = k := ⟨_, rfl⟩
 obtain ⟨ly, hly⟩ : ∃ k, lv[y] = k := ⟨_, rfl⟩
 have hyg : cl.getD y 0 = ky := by simp [hyq, hky]
 have hlg : lv.getD y 0 = ly := by simp [hyl, hly]
 obtain ⟨s, hs'⟩ : ∃ s, seenI cl = s := ⟨_, rfl⟩
 have HS := Lib.hid hs'
 have HSL : Hid (s.length ≤ cl.length) := Lib.hid (by rw [← hs']; exact seenN_le cl cl.length)
 have HSA : Hid (∀ j (h : j < s.length), ∃ q : Nat, s[j] = (q : Int) ∧ q < cl.length) := Lib.hid (by subst hs'; exact seenN_at cl cl.length)
 obtain ⟨so, hso⟩ : ∃ z, sosI cl lv pl lev base = z := ⟨_, rfl⟩
 obtain ⟨eo, heo⟩ : ∃ z, eosI cl lv pl base = z := ⟨_, rfl⟩
 have HSO : Hid (dirL (max lev (aheadN lv s base x s.length)) = so) := Lib.hid (by rw [← hso, sosI, hs', hx])
 have HEO : Hid (dirL (max ly (behindN cl lv s base y s.length)) = eo) := Lib.hid (by rw [← heo, eosI, hs', hy, Int.toNat_natCast, hlg])
 have HKY := Lib.hid hyg
 have hs6 : s.length ≤ 1000000 := by have := HSL.out; omega
 have hn6 : n ≤ 1000000000000 := by omega
 obtain ⟨w0, hw0⟩ : ∃ u, w.alloc (.cells #[.slice (some ⟨b, off, none⟩) n cs, .int .i64 lev, .int .i64 z1, .int .i64 z2] 61) = u := ⟨_, rfl⟩
 have B0 : Hid (Below w.heap.size w w0) := Lib.hid (hw0 ▸ below_alloc w _)
 have Z0 : Hid (w0.heap.size = w.heap.size + 1) := Lib.hid (by rw [← hw0]; simp)
 have SA : Hid (∀ w', Below w0.heap.size w0 w' → SqAt w' w.heap.size (some ⟨b, off, none⟩) n cs lev) := Lib.hid fun w' hb => ⟨boxed (hw0 ▸ hb) rfl, boxed (hw0 ▸ hb) rfl⟩
 rw [hn, hso, heo]
 have H := Lib.hid (h.up B0.out)
 have H' := Lib.hid (h'.up B0.out)
 have P0 := Lib.hid hp0
 have P1 := Lib.hid hp1
 have HW := Lib.hid hw0
 have HE := Lib.hid he
 have HCY := Lib.hid hky
 have HLY := Lib.hid hly
 have hw1 : IntKind.i64.wrap ((n : Int) - 1) = (t : Int) := by rw [IntWalk.i64_in _ (by omega)]; omega
 have b0 : (0 : Int) ≤ (t : Int) := by omega
 have b1 : (t : Int) < (n : Int) := by omega
 clear h h' hs hq hn ht hx hy hcs hp0 hp1 hky hly hyg hlg hs' hso heo hw0 he hne hpl
 go_enter Try.func54, Try.ntmps54
 go_wp2_with fail
 rw [HW.out]
 obtain ⟨W0, hW0⟩ : ∃ u, w0.alloc (.cells #[.slice none 0 0, .int .i64 0, .int .i64 0, .int .i64 0] 61) = u := ⟨_, rfl⟩
 have HW0 := Lib.hid hW0
 rw [hW0]
 have BW : Hid (Below w0.heap.size w0 W0) := Lib.hid (hW0 ▸ below_alloc w0 _)
 have ZW : Hid (W0.heap.size = w.heap.size + 2) := Lib.hid (by rw [← hW0]; simp [Z0.out])
 have R0 : Hid (OwnN W0 w.heap.size 61 1 (.slice (some ⟨w.heap.size, 0, none⟩) 4 4) 4 [.slice (some ⟨b, off, none⟩) n cs, .int .i64 lev, .int .i64 z1, .int .i64 z2]) := Lib.hid (by
  have h1 := OwnN.ofLit (w := w) (B := w.heap.size) (e := 61) (size := 1) (n := 4) #[.slice (some ⟨b, off, none⟩) n cs, .int .i64 lev, .int .i64 z1, .int .i64 z2] (Nat.le_refl _) (by decide) rfl
  rw [HW.out] at h1
  exact h1.below BW.out (Nat.le_refl _))
 have R8 : Hid (OwnN W0 w0.heap.size 61 1 (.slice (some ⟨w.heap.size + 1, 0, none⟩) 4 4) 4 [.slice none 0 0, .int .i64 0, .int .i64 0, .int .i64 0]) := Lib.hid (by
  have h1 := OwnN.ofLit (w := w0) (B := w0.heap.size) (e := 61) (size := 1) (n := 4) #[.slice none 0 0, .int .i64 0, .int .i64 0, .int .i64 0] (Nat.le_refl _) (by decide) rfl
  rw [HW0.out, Z0.out] at h1
  rw [Z0.out]
  exact h1)
 have HR : Hid (W0.heap[w.heap.size + 1]? = some (.cells #[.slice none 0 0, .int .i64 0, .int .i64 0, .int .i64 0] 61)) := Lib.hid (by
  have := Go.heap_alloc_new w0 (.cells #[.slice none 0 0, .int .i64 0, .int .i64 0, .int .i64 0] 61)
  rw [HW0.out, Z0.out] at this; exact this)
 clear hW0
 refine (rseen8_any A cl c W0 (H.out.up BW.out) hl).mono ?_
 rintro e w1 ⟨v1, rfl, o1, b1'⟩
 rw [HS.out] at o1
 obtain ⟨A1, c1, rfl, l1, _, _⟩ := o1.form
 have L1 := Lib.hid l1
 have B1 := Lib.hid b1'
 have Z1 : Hid (W0.heap.size ≤ w1.heap.size) := Lib.hid b1'.size
 simp only [ints, List.length_map]
 have SW : Hid (∀ w', Below w1.heap.size w1 w' → SqAt w' w.heap.size (some ⟨b, off, none⟩) n cs lev ∧ w'.cell? ⟨b, off, none⟩ = some (.int .i64 x) ∧ w'.cell? ⟨b, off + t, none⟩ = some (.int .i64 y)) := Lib.hid fun w' hb => by
  have hb0 : Below w0.heap.size w0 w' := BW.out.trans ((B1.out.trans (hb.mono Z1.out)).mono BW.out.size)
  have hbw : Below w.heap.size w w' := B0.out.trans (hb0.mono B0.out.size)
  exact ⟨SA.out w' hb0, by rw [hbw.cell hbb]; exact P0.out, by rw [hbw.cell hbb]; exact P1.out⟩
 clear o1 b1' l1
 obtain ⟨⟨q0, q1⟩, q2, q3⟩ := SW.out w1 (Below.refl _ _)
 go_wp2_with fail
 clear q0 q1 q2 q3
 have HC1 := Lib.hid (H.out.up (below_then BW.out B1.out))
 have HC2 := Lib.hid (H'.out.up (below_then BW.out B1.out))
 go_loopg [13, 9, 10] s.length (fun m iv av bv wr => ∃ k : Nat, k + m = s.length ∧ iv = .int .i64 k ∧ av = .int .i64 (aheadN lv s base x k) ∧ bv = .int .i64 (behindN cl lv s base y k) ∧ Below w1.heap.size w1 wr)
 case atStart => exact ⟨0, by omega, rfl, rfl, rfl, Below.refl _ _⟩
 case round =>
  obtain ⟨k, hkm, rfl, rfl, rfl, hb⟩ := hrel
  have HB := Lib.hid hb
  clear hb
  obtain ⟨av, hav⟩ : ∃ z, aheadN lv s base x k = z := ⟨_, rfl⟩
  obtain ⟨bv, hbv⟩ : ∃ z, behindN cl lv s base y k = z := ⟨_, rfl⟩
  rw [hav, hbv]
  have HAV := Lib.hid hav
  have HBV := Lib.hid hbv
  clear hav hbv
  by_cases hlt : k < s.length
  ·obtain ⟨q, hq1, hq2⟩ := HSA.out k hlt
   obtain ⟨ps, hps, _, hcs⟩ := (L1.out.below HB.out).int hlt
   subst hps
   rw [hq1] at hcs
   have hsk : s.getD k 0 = (q : Int) := by simp [hlt, hq1]
   have HSK := Lib.hid hsk
   have d0 : (0 : Int) ≤ (k : Int) := by omega
   have d1 : (k : Int) < (s.length : Int) := by omega
   obtain ⟨⟨q0, q1⟩, q2, q3⟩ := SW.out wr HB.out
   clear hsk hq1
   obtain ⟨fr, hfr⟩ : ∃ f, ((q : Int) == x && decide (0 < k)) = f := ⟨_, rfl⟩
   have HFR := Lib.hid hfr
   clear hfr
   go_upto_region 7 with fail
   go_cut [44] (fun v wx => v = .bool fr ∧ wx.heap = wr.heap ∧ Below w1.heap.size w1 wx)
   case first =>
    have hk1 : wr.drew.cell? (ps.add k) = some (.int .i64 q) ∧ wr.drew.cell? ⟨w.heap.size, 0, none⟩ = some (.slice (some ⟨b, off, none⟩) n cs) ∧ wr.drew.cell? ⟨b, off, none⟩ = some (.int .i64 x) := ⟨hcs, q0, q2⟩
    clear hcs q0 q1 q2 q3
    rcases hqx : ((q : Int) == x) with _ | _
    ·have HF : Hid (false = fr) := Lib.hid (by rw [← HFR.out, hqx]; rfl)
     go_wp2_with fail
     refine wp_region_E (S := fun w' => w'.cell? (ps.add k) = some (.int .i64 q) ∧ w'.cell? ⟨w.heap.size, 0, none⟩ = some (.slice (some ⟨b, off, none⟩) n cs) ∧ w'.cell? ⟨b, off, none⟩ = some (.int .i64 x)) [] (by kernel_rfl) (hk1) (fun hHeld hZ => ?_)
     refine' eY 0 hHeld hZ fun hZ => ?_
     try simp only [Act.put,ZA,ZB,ZD,ZE,ZF]
     refine' eY 1 hHeld hZ fun hZ => ?_
     try simp only [Act.put,ZA,ZB,ZC,ZD,ZE,ZF]
     refine' eY 2 hHeld hZ fun hZ => ?_
     try simp only [Act.put,ZA,ZB,ZC,ZD,ZE,ZF]
     refine' eY 3 hHeld hZ fun hZ => ?_
     try simp only [Act.put,ZA,ZB,ZC,ZD,ZE,ZF]
     refine' eY 4 hHeld hZ fun hZ => ?_
     try simp only [Act.put,ZA,ZB,ZC,ZD,ZE,ZF]
     refine' eY 5 hHeld hZ fun hZ => ?_
     try simp only [Act.put,ZA,ZB,ZC,ZD,ZE,ZF]
     refine' eY 6 hHeld hZ fun hZ => ?_
     try simp only [Act.put,ZA,ZB,ZC,ZD,ZE,ZF]
     refine' eY 7 hHeld hZ fun hZ => ?_
     try simp only [Act.put,ZA,ZB,ZC,ZD,ZE,ZF]
     refine' eY 8 hHeld hZ fun hZ => ?_
     try simp only [Act.put,ZA,ZB,ZC,ZD,ZE,ZF]
     refine' eY 9 hHeld hZ fun hZ => ?_
     try simp only [Act.put,ZA,ZB,ZC,ZD,ZE,ZF]
     refine' eN 10 hZ fun hZ => ?_
     try simp only [Act.put,ZA,ZB,ZC,ZD,ZE,ZF]
     refine' eN 11 hZ fun hZ => ?_
     try simp only [Act.put,ZA,ZB,ZC,ZD,ZE,ZF]
     refine' eY 12 hHeld hZ fun hZ => ?_
     try simp only [Act.put,ZA,ZB,ZC,ZD,ZE,ZF]
     refine wpAnyE_done (by kernel_rfl) ?_ _
     clear hZ
     go_wp2_with fail
     go_meet
     exact ⟨by rw [HF.out], rfl, by exact below_same HB.out rfl rfl rfl rfl⟩
    ·rcases hk0 : decide (0 < k) with _ | _
     ·have HF : Hid (false = fr) := Lib.hid (by rw [← HFR.out, hqx, hk0]; rfl)
      go_wp2_with fail
      refine wp_region_E (S := fun w' => w'.cell? (ps.add k) = some (.int .i64 q) ∧ w'.cell? ⟨w.heap.size, 0, none⟩ = some (.slice (some ⟨b, off, none⟩) n cs) ∧ w'.cell? ⟨b, off, none⟩ = some (.int .i64 x)) [] (by kernel_rfl) (hk1) (fun hHeld hZ => ?_)
      refine' eY 0 hHeld hZ fun hZ => ?_
      try simp only [Act.put,ZA,ZB,ZD,ZE,ZF]
      refine' eY 1 hHeld hZ fun hZ => ?_
      try simp only [Act.put,ZA,ZB,ZC,ZD,ZE,ZF]
      refine' eY 2 hHeld hZ fun hZ => ?_
      try simp only [Act.put,ZA,ZB,ZC,ZD,ZE,ZF]
      refine' eY 3 hHeld hZ fun hZ => ?_
      try simp only [Act.put,ZA,ZB,ZC,ZD,ZE,ZF]
      refine' eY 4 hHeld hZ fun hZ => ?_
      try simp only [Act.put,ZA,ZB,ZC,ZD,ZE,ZF]
      refine' eY 5 hHeld hZ fun hZ => ?_
      try simp only [Act.put,ZA,ZB,ZC,ZD,ZE,ZF]
      refine' eY 6 hHeld hZ fun hZ => ?_
      try simp only [Act.put,ZA,ZB,ZC,ZD,ZE,ZF]
      refine' eY 7 hHeld hZ fun hZ => ?_
      try simp only [Act.put,ZA,ZB,ZC,ZD,ZE,ZF]
      refine' eY 8 hHeld hZ fun hZ => ?_
      try simp only [Act.put,ZA,ZB,ZC,ZD,ZE,ZF]
      refine' eY 9 hHeld hZ fun hZ => ?_
      try simp only [Act.put,ZA,ZB,ZC,ZD,ZE,ZF]
      refine' eY 10 hHeld hZ fun hZ => ?_
      try simp only [Act.put,ZA,ZB,ZC,ZD,ZE,ZF]
      refine' eY 11 hHeld hZ fun hZ => ?_
      try simp only [Act.put,ZA,ZB,ZC,ZD,ZE,ZF]
      refine' eY 12 hHeld hZ fun hZ => ?_
      try simp only [Act.put,ZA,ZB,ZC,ZD,ZE,ZF]
      refine wpAnyE_done (by kernel_rfl) ?_ _
      clear hZ
      go_wp2_with fail
      go_meet
      exact ⟨by rw [HF.out], rfl, by exact below_same HB.out rfl rfl rfl rfl⟩
     ·have HF : Hid (true = fr) := Lib.hid (by rw [← HFR.out, hqx, hk0]; rfl)
      go_wp2_with fail
      refine wp_region_E (S := fun w' => w'.cell? (ps.add k) = some (.int .i64 q) ∧ w'.cell? ⟨w.heap.size, 0, none⟩ = some (.slice (some ⟨b, off, none⟩) n cs) ∧ w'.cell? ⟨b, off, none⟩ = some (.int .i64 x)) [] (by kernel_rfl) (hk1) (fun hHeld hZ => ?_)
      refine' eY 0 hHeld hZ fun hZ => ?_
      try simp only [Act.put,ZA,ZB,ZD,ZE,ZF]
      refine' eY 1 hHeld hZ fun hZ => ?_
      try simp only [Act.put,ZA,ZB,ZC,ZD,ZE,ZF]
      refine' eY 2 hHeld hZ fun hZ => ?_
      try simp only [Act.put,ZA,ZB,ZC,ZD,ZE,ZF]
      refine' eY 3 hHeld hZ fun hZ => ?_
      try simp only [Act.put,ZA,ZB,ZC,ZD,ZE,ZF]
      refine' eY 4 hHeld hZ fun hZ => ?_
      try simp only [Act.put,ZA,ZB,ZC,ZD,ZE,ZF]
      refine' eY 5 hHeld hZ fun hZ => ?_
      try simp only [Act.put,ZA,ZB,ZC,ZD,ZE,ZF]
      refine' eY 6 hHeld hZ fun hZ => ?_
      try simp only [Act.put,ZA,ZB,ZC,ZD,ZE,ZF]
      refine' eY 7 hHeld hZ fun hZ => ?_
      try simp only [Act.put,ZA,ZB,ZC,ZD,ZE,ZF]
      refine' eY 8 hHeld hZ fun hZ => ?_
      try simp only [Act.put,ZA,ZB,ZC,ZD,ZE,ZF]
      refine' eY 9 hHeld hZ fun hZ => ?_
      try simp only [Act.put,ZA,ZB,ZC,ZD,ZE,ZF]
      refine' eY 10 hHeld hZ fun hZ => ?_
      try simp only [Act.put,ZA,ZB,ZC,ZD,ZE,ZF]
      refine' eY 11 hHeld hZ fun hZ => ?_
      try simp only [Act.put,ZA,ZB,ZC,ZD,ZE,ZF]
      refine' eY 12 hHeld hZ fun hZ => ?_
      try simp only [Act.put,ZA,ZB,ZC,ZD,ZE,ZF]
      refine wpAnyE_done (by kernel_rfl) ?_ _
      clear hZ
      go_wp2_with fail
      go_meet
      exact ⟨by rw [HF.out], rfl, by exact below_same HB.out rfl rfl rfl rfl⟩
   case rest =>
    obtain ⟨rfl, hheap, hbx⟩ := hcut
    have BX := Lib.hid hbx
    clear hheap hbx hcs q0 q1 q2 q3
    obtain ⟨av', hav'⟩ : ∃ z, aheadN lv s base x (k + 1) = z := ⟨_, rfl⟩
    have HAE : Hid (av' = if fr then lv.getD (s.getD (k - 1) 0).toNat 0 else av) := Lib.hid (by rw [← hav', aheadN, HSK.out, HFR.out, HAV.out])
    have HAV' := Lib.hid hav'
    clear hav'
    go_upto_if 44 with fail
    go_cut [9] (fun v wx => v = .int .i64 av' ∧ Below w1.heap.size w1 wx)
    case first =>
     rcases fr with _ | _
     ·have HF : Hid (av' = av) := Lib.hid (by rw [HAE.out]; rfl)
      go_wp2_with fail
      go_meet
      exact ⟨by rw [HF.out], BX.out⟩
     ·have hk0 : 0 < k := by have := HFR.out; simp at this; exact this.2
      obtain ⟨k', hk'⟩ : ∃ k', k - 1 = k' := ⟨_, rfl⟩
      have hk1 : k' < s.length := by omega
      obtain ⟨q', hq1', hq2'⟩ := HSA.out k' hk1
      obtain ⟨ps', hps', _, hcs'⟩ := (L1.out.below BX.out).int hk1
      injection hps' with hps'
      subst hps'
      rw [hq1'] at hcs'
      have hqv : q' < lv.length := by have := HE.out; omega
      obtain ⟨pv', hpv', _, hcv'⟩ := (HC2.out.below BX.out).int hqv
      subst hpv'
      obtain ⟨l', hl'⟩ : ∃ z, lv[q'] = z := ⟨_, rfl⟩
      rw [hl'] at hcv'
      have HF : Hid (av' = l') := Lib.hid (by
       rw [HAE.out, hk', show s.getD k' 0 = (q' : Int) by simp [hk1, hq1'], Int.toNat_natCast, show lv.getD q' 0 = l' by simp [hqv, hl']]; rfl)
      have hwk : IntKind.i64.wrap ((k : Int) - 1) = (k' : Int) := by rw [IntWalk.i64_in _ (by omega)]; omega
      have c0 : (0 : Int) ≤ (k' : Int) := by omega
      have c1 : (k' : Int) < (s.length : Int) := by omega
      have c2 : (0 : Int) ≤ (q' : Int) := by omega
      have c3 : (q' : Int) < (lv.length : Int) := by omega
      clear hk' hq1' hl' hk0
      go_wp2_with fail
      go_meet
      exact ⟨by rw [HF.out], BX.out⟩
    case rest =>
     obtain ⟨rfl, hbx⟩ := hcut
     have BZ := Lib.hid hbx
     clear hbx
     obtain ⟨pc, hpc, _, hcc⟩ := (HC1.out.below BZ.out).int hyq
     subst hpc
     rw [HCY.out] at hcc
     obtain ⟨ps', hps', _, hcs⟩ := (L1.out.below BZ.out).int hlt
     injection hps' with hps'
     subst hps'
     rw [show s[k] = (q : Int) by have := HSK.out; simpa [hlt] using this] at hcs
     obtain ⟨bv', hbv'⟩ : ∃ z, behindN cl lv s base y (k + 1) = z := ⟨_, rfl⟩
     have HBE : Hid (behindN cl lv s base y (k + 1) = if (q : Int) == (y : Int) && (decide (k + 1 < s.length) && (ky != 10 && !isOpens ky)) then lv.getD (s.getD (k + 1) 0).toNat 0 else bv) := Lib.hid (by rw [behindN, HSK.out, HBV.out, Int.toNat_natCast, HKY.out])
     have hwk : IntKind.i64.wrap ((k : Int) + 1) = (k : Int) + 1 := IntWalk.i64_in _ (by omega)
     have y0 : (0 : Int) ≤ (y : Int) := by omega
     have y1 : (y : Int) < (cl.length : Int) := by omega
     clear hbv'
     rcases e1 : (q == y) with _ | _
     ·have e1' : ((q : Int) == (y : Int)) = false := by simp at e1 ⊢; omega
      replace HBE : Hid (behindN cl lv s base y (k + 1) = bv) := Lib.hid (by rw [HBE.out, e1']; rfl)
      go_wp2_with fail
      go_roundg (s.length - (k + 1))
      case measure => omega
      case rel => exact ⟨k + 1, by omega, by go_num, by rw [HAV'.out], by rw [HBE.out], BZ.out⟩
     ·have e1' : ((q : Int) == (y : Int)) = true := by simp at e1 ⊢; omega
      rcases e2 : decide (k + 1 < s.length) with _ | _
      ·have e2' : decide ((k : Int) + 1 < (s.length : Int)) = false := by simp at e2 ⊢; omega
       replace HBE : Hid (behindN cl lv s base y (k + 1) = bv) := Lib.hid (by rw [HBE.out, e1', e2]; rfl)
       go_wp2_with fail
       go_roundg (s.length - (k + 1))
       case measure => omega
       case rel => exact ⟨k + 1, by omega, by go_num, by rw [HAV'.out], by rw [HBE.out], BZ.out⟩
      ·have e2' : decide ((k : Int) + 1 < (s.length : Int)) = true := by simp at e2 ⊢; omega
       have hk1 : k + 1 < s.length := by simpa using e2
       rcases e3 : (ky != 10) with _ | _
       ·replace HBE : Hid (behindN cl lv s base y (k + 1) = bv) := Lib.hid (by rw [HBE.out, e1', e2, e3]; rfl)
        go_wp2_with fail
        go_roundg (s.length - (k + 1))
        case measure => omega
        case rel => exact ⟨k + 1, by omega, by go_num, by rw [HAV'.out], by rw [HBE.out], BZ.out⟩
       ·rcases e4 : isOpens ky with _ | _
        ·obtain ⟨q', hq1', hq2'⟩ := HSA.out (k + 1) hk1
         obtain ⟨ps', hps', _, hcs'⟩ := (L1.out.below BZ.out).int hk1
         injection hps' with hps'
         subst hps'
         rw [hq1'] at hcs'
         have hqv : q' < lv.length := by have := HE.out; omega
         obtain ⟨pv', hpv', _, hcv'⟩ := (HC2.out.below BZ.out).int hqv
         subst hpv'
         obtain ⟨l', hl'⟩ : ∃ z, lv[q'] = z := ⟨_, rfl⟩
         rw [hl'] at hcv'
         replace HBE : Hid (behindN cl lv s base y (k + 1) = l') := Lib.hid (by
          rw [HBE.out, e1', e2, e3, e4, show s.getD (k + 1) 0 = (q' : Int) by simp [hk1, hq1'], Int.toNat_natCast, show lv.getD q' 0 = l' by simp [hqv, hl']]; rfl)
         have E4 := Lib.hid e4
         have hcs2 : wc.cell? ⟨ps.block, ps.off + (k + 1), none⟩ = some (.int .i64 q') := by rw [show (⟨ps.block, ps.off + (k + 1), none⟩ : Addr) = ps.add (k + 1) by simp [Addr.add]]; exact hcs'
         have c0 : (0 : Int) ≤ (k : Int) + 1 := by omega
         have c1 : (k : Int) + 1 < (s.length : Int) := by omega
         have c2 : (0 : Int) ≤ (q' : Int) := by omega
         have c3 : (q' : Int) < (lv.length : Int) := by omega
         clear hq1' hl' e4
         go_wp2_with fail
         refine (ropens_any ky _).mono ?_
         rintro e wq ⟨rfl, rfl⟩
         rw [E4.out]
         go_wp2_with fail
         go_roundg (s.length - (k + 1))
         case measure => omega
         case rel => exact ⟨k + 1, by omega, by go_num, by rw [HAV'.out], by rw [HBE.out], BZ.out⟩
        ·replace HBE : Hid (behindN cl lv s base y (k + 1) = bv) := Lib.hid (by rw [HBE.out, e1', e2, e3, e4]; rfl)
         have E4 := Lib.hid e4
         clear e4
         go_wp2_with fail
         refine (ropens_any ky _).mono ?_
         rintro e wq ⟨rfl, rfl⟩
         rw [E4.out]
         go_wp2_with fail
         go_roundg (s.length - (k + 1))
         case measure => omega
         case rel => exact ⟨k + 1, by omega, by go_num, by rw [HAV'.out], by rw [HBE.out], BZ.out⟩
  ·obtain rfl : k = s.length := by omega
   obtain ⟨pv, hpv, _, hcv⟩ := (HC2.out.below HB.out).int hyl
   subst hpv
   rw [HLY.out] at hcv
   have y0 : (0 : Int) ≤ (y : Int) := by omega
   have y1 : (y : Int) < (lv.length : Int) := by omega
   obtain ⟨⟨_, q1⟩, _, _⟩ := SW.out wr HB.out
   go_wp2_with fail
   have hk1 : wr.drew.cell? ⟨w.heap.size, 1, none⟩ = some (.int .i64 lev) ∧ wr.drew.cell? (pv.add y) = some (.int .i64 ly) := ⟨q1, hcv⟩
   have HK1 := Lib.hid hk1
   have HS1 : Hid (dirL (max lev av) = so) := Lib.hid (by rw [← HSO.out, HAV.out])
   have HE1 : Hid (dirL (max ly bv) = eo) := Lib.hid (by rw [← HEO.out, HBV.out])
   have BR : Hid (Below w.heap.size w wr) := Lib.hid ((B0.out.trans (BW.out.mono B0.out.size)).trans ((B1.out.mono (by have := ZW.out; omega)).trans (HB.out.mono (by have := ZW.out; have := Z1.out; omega))))
   have RR : Hid (OwnN wr w.heap.size 61 1 (.slice (some ⟨w.heap.size, 0, none⟩) 4 4) 4 [.slice (some ⟨b, off, none⟩) n cs, .int .i64 lev, .int .i64 z1, .int .i64 z2]) := Lib.hid ((R0.out.below B1.out (Nat.le_refl _)).below HB.out (Nat.le_refl _))
   clear q1 hcv
   rcases Decidable.em (lev < av) with ma | ma
   ·have HS2 : Hid (dirL av = so) := Lib.hid (by rw [← HS1.out]; congr 1; omega)
    rcases Decidable.em (ly < bv) with mb | mb
    ·have HE2 : Hid (dirL bv = eo) := Lib.hid (by rw [← HE1.out]; congr 1; omega)
     refine wp_region_E (S := fun w' => w'.cell? ⟨w.heap.size, 1, none⟩ = some (.int .i64 lev) ∧ w'.cell? (pv.add y) = some (.int .i64 ly)) [13, 15] (by kernel_rfl) (hk1) (fun hHeld hZ => ?_)
     refine' eY 0 hHeld hZ fun hZ => ?_
     try simp only [Act.put,ZA,ZB,ZD,ZE,ZF]
     refine' eY 1 hHeld hZ fun hZ => ?_
     try simp only [Act.put,ZA,ZB,ZC,ZD,ZE,ZF]
     refine' eY 2 hHeld hZ fun hZ => ?_
     try simp only [Act.put,ZA,ZB,ZC,ZD,ZE,ZF]
     refine' eY 3 hHeld hZ fun hZ => ?_
     try simp only [Act.put,ZA,ZB,ZC,ZD,ZE,ZF]
     refine' eY 5 hHeld hZ fun hZ => ?_
     try simp only [Act.put,ZA,ZB,ZC,ZD,ZE,ZF]
     refine' eY 6 hHeld hZ fun hZ => ?_
     try simp only [Act.put,ZA,ZB,ZC,ZD,ZE,ZF]
     refine' eY 7 hHeld hZ fun hZ => ?_
     try simp only [Act.put,ZA,ZB,ZC,ZD,ZE,ZF]
     refine' eY 8 hHeld hZ fun hZ => ?_
     try simp only [Act.put,ZA,ZB,ZC,ZD,ZE,ZF]
     refine' eY 9 hHeld hZ fun hZ => ?_
     try simp only [Act.put,ZA,ZB,ZC,ZD,ZE,ZF]
     refine' eY 10 hHeld hZ fun hZ => ?_
     try simp only [Act.put,ZA,ZB,ZC,ZD,ZE,ZF]
     refine eA 4 fun K hK => ?_
     go_simp
     go_wp2_with fail
     refine (rdir8_any _ _).mono ?_
     rintro e wq ⟨rfl, rfl⟩
     rw [HS2.out]
     refine eB hK hZ (HK1.out) fun hHeld hZ => ?_
     clear hK K
     try simp only [Act.put,ZA,ZB,ZC,ZD,ZE,ZF]
     refine' eX 12 hZ fun hZ => ?_
     try simp only [Act.put,ZA,ZB,ZC,ZD,ZE,ZF]
     refine eA 11 fun K hK => ?_
     go_simp
     refine (rdir8_any _ _).mono ?_
     rintro e wq ⟨rfl, rfl⟩
     rw [HE2.out]
     refine eB hK hZ (HK1.out) fun hHeld hZ => ?_
     clear hK K
     try simp only [Act.put,ZA,ZB,ZC,ZD,ZE,ZF]
     refine eA 13 fun K hK => ?_
     refine step_store (e := 61) wr.drew w.heap.size (.tmp 101) (.tmp 93) w.heap.size 2 4 (.int .i64 so) [.slice (some ⟨b, off, none⟩) n cs, .int .i64 lev, .int .i64 z1, .int .i64 z2] w rfl rfl rfl (by kernel_rfl) rfl rfl rfl (RR.out.same rfl) (by simp) (by exact below_same BR.out rfl rfl rfl rfl) ?_
     intro w2 r2 b2 g2
     have R2 := Lib.hid r2
     have B2 := Lib.hid b2
     have G2 := Lib.hid g2
     clear r2 b2 g2
     refine eE hK hZ fun hZ => ?_
     clear hK K
     try simp only [Act.put,ZA,ZB,ZC,ZD,ZE,ZF]
     refine' eX 14 hZ fun hZ => ?_
     try simp only [Act.put,ZA,ZB,ZC,ZD,ZE,ZF]
     refine eA 15 fun K hK => ?_
     refine step_store (e := 61) w2 w.heap.size (.tmp 102) (.tmp 100) w.heap.size 3 4 (.int .i64 eo) [.slice (some ⟨b, off, none⟩) n cs, .int .i64 lev, .int .i64 so, .int .i64 z2] w rfl rfl rfl (by kernel_rfl) rfl rfl rfl R2.out (by simp) B2.out ?_
     intro w3 r3 b3 g3
     have R3 : Hid (OwnN w3 w.heap.size 61 1 (.slice (some ⟨w.heap.size, 0, none⟩) 4 4) 4 [.slice (some ⟨b, off, none⟩) n cs, .int .i64 lev, .int .i64 so, .int .i64 eo]) := Lib.hid r3
     have B3 := Lib.hid b3
     have G3 := Lib.hid g3
     clear r3 b3 g3
     refine eE hK hZ fun hZ => ?_
     clear hK K
     try simp only [Act.put,ZA,ZB,ZC,ZD,ZE,ZF]
     refine wpAnyE_done (by kernel_rfl) ?_ _
     clear hZ
     obtain ⟨r0, r1, r2, r3⟩ := four_cells R3.out
     have T3 := Lib.hid ((((R8.out.below B1.out (Nat.le_refl _)).below HB.out (Nat.le_refl _)).same (w' := wr.drew) rfl |>.keep G2.out (.inr (by simp [Value.ownBlock]))).keep G3.out (.inr (by simp [Value.ownBlock])))
     obtain ⟨t0, t1, t2, t3⟩ := four_cells T3.out
     have f8 := fun j => World.ownsRow.frozenAt T3.out j
     obtain ⟨f0, f1, f2, f3⟩ := And.intro (f8 0) (And.intro (f8 1) (And.intro (f8 2) (f8 3)))
     clear f8
     go_wp2_with fail
     (try simp only [Exit.inBlock, Exit.then])
     refine bodyPost_ret (v := .agg #[.slice (some ⟨b, off, none⟩) n cs, .int .i64 lev, .int .i64 so, .int .i64 eo]) ?_ rfl ⟨rfl, (((B3.out.setCell (Nat.le_succ _) _).setCell (Nat.le_succ _) _).setCell (Nat.le_succ _) _).setCell (Nat.le_succ _) _⟩
     exact results_cell_row rfl _ _ (w.heap.size + 1) 61 _ (0, 0) _ rfl (four_stored T3.out _ _ _ _) Try.underlying61 rfl (by kernel_rfl)
    ·have HE2 : Hid (dirL ly = eo) := Lib.hid (by rw [← HE1.out]; congr 1; omega)
     refine wp_region_E (S := fun w' => w'.cell? ⟨w.heap.size, 1, none⟩ = some (.int .i64 lev) ∧ w'.cell? (pv.add y) = some (.int .i64 ly)) [13, 15] (by kernel_rfl) (hk1) (fun hHeld hZ => ?_)
     refine' eY 0 hHeld hZ fun hZ => ?_
     try simp only [Act.put,ZA,ZB,ZD,ZE,ZF]
     refine' eY 1 hHeld hZ fun hZ => ?_
     try simp only [Act.put,ZA,ZB,ZC,ZD,ZE,ZF]
     refine' eY 2 hHeld hZ fun hZ => ?_
     try simp only [Act.put,ZA,ZB,ZC,ZD,ZE,ZF]
     refine' eY 3 hHeld hZ fun hZ => ?_
     try simp only [Act.put,ZA,ZB,ZC,ZD,ZE,ZF]
     refine' eY 5 hHeld hZ fun hZ => ?_
     try simp only [Act.put,ZA,ZB,ZC,ZD,ZE,ZF]
     refine' eY 6 hHeld hZ fun hZ => ?_
     try simp only [Act.put,ZA,ZB,ZC,ZD,ZE,ZF]
     refine' eY 7 hHeld hZ fun hZ => ?_
     try simp only [Act.put,ZA,ZB,ZC,ZD,ZE,ZF]
     refine' eY 8 hHeld hZ fun hZ => ?_
     try simp only [Act.put,ZA,ZB,ZC,ZD,ZE,ZF]
     refine' eY 9 hHeld hZ fun hZ => ?_
     try simp only [Act.put,ZA,ZB,ZC,ZD,ZE,ZF]
     refine' eY 10 hHeld hZ fun hZ => ?_
     try simp only [Act.put,ZA,ZB,ZC,ZD,ZE,ZF]
     refine eA 4 fun K hK => ?_
     go_simp
     go_wp2_with fail
     refine (rdir8_any _ _).mono ?_
     rintro e wq ⟨rfl, rfl⟩
     rw [HS2.out]
     refine eB hK hZ (HK1.out) fun hHeld hZ => ?_
     clear hK K
     try simp only [Act.put,ZA,ZB,ZC,ZD,ZE,ZF]
     refine' eX 12 hZ fun hZ => ?_
     try simp only [Act.put,ZA,ZB,ZC,ZD,ZE,ZF]
     refine eA 11 fun K hK => ?_
     go_simp
     refine (rdir8_any _ _).mono ?_
     rintro e wq ⟨rfl, rfl⟩
     rw [HE2.out]
     refine eB hK hZ (HK1.out) fun hHeld hZ => ?_
     clear hK K
     try simp only [Act.put,ZA,ZB,ZC,ZD,ZE,ZF]
     refine eA 13 fun K hK => ?_
     refine step_store (e := 61) wr.drew w.heap.size (.tmp 101) (.tmp 93) w.heap.size 2 4 (.int .i64 so) [.slice (some ⟨b, off, none⟩) n cs, .int .i64 lev, .int .i64 z1, .int .i64 z2] w rfl rfl rfl (by kernel_rfl) rfl rfl rfl (RR.out.same rfl) (by simp) (by exact below_same BR.out rfl rfl rfl rfl) ?_
     intro w2 r2 b2 g2
     have R2 := Lib.hid r2
     have B2 := Lib.hid b2
     have G2 := Lib.hid g2
     clear r2 b2 g2
     refine eE hK hZ fun hZ => ?_
     clear hK K
     try simp only [Act.put,ZA,ZB,ZC,ZD,ZE,ZF]
     refine' eX 14 hZ fun hZ => ?_
     try simp only [Act.put,ZA,ZB,ZC,ZD,ZE,ZF]
     refine eA 15 fun K hK => ?_
     refine step_store (e := 61) w2 w.heap.size (.tmp 102) (.tmp 100) w.heap.size 3 4 (.int .i64 eo) [.slice (some ⟨b, off, none⟩) n cs, .int .i64 lev, .int .i64 so, .int .i64 z2] w rfl rfl rfl (by kernel_rfl) rfl rfl rfl R2.out (by simp) B2.out ?_
     intro w3 r3 b3 g3
     have R3 : Hid (OwnN w3 w.heap.size 61 1 (.slice (some ⟨w.heap.size, 0, none⟩) 4 4) 4 [.slice (some ⟨b, off, none⟩) n cs, .int .i64 lev, .int .i64 so, .int .i64 eo]) := Lib.hid r3
     have B3 := Lib.hid b3
     have G3 := Lib.hid g3
     clear r3 b3 g3
     refine eE hK hZ fun hZ => ?_
     clear hK K
     try simp only [Act.put,ZA,ZB,ZC,ZD,ZE,ZF]
     refine wpAnyE_done (by kernel_rfl) ?_ _
     clear hZ
     obtain ⟨r0, r1, r2, r3⟩ := four_cells R3.out
     have T3 := Lib.hid ((((R8.out.below B1.out (Nat.le_refl _)).below HB.out (Nat.le_refl _)).same (w' := wr.drew) rfl |>.keep G2.out (.inr (by simp [Value.ownBlock]))).keep G3.out (.inr (by simp [Value.ownBlock])))
     obtain ⟨t0, t1, t2, t3⟩ := four_cells T3.out
     have f8 := fun j => World.ownsRow.frozenAt T3.out j
     obtain ⟨f0, f1, f2, f3⟩ := And.intro (f8 0) (And.intro (f8 1) (And.intro (f8 2) (f8 3)))
     clear f8
     go_wp2_with fail
     (try simp only [Exit.inBlock, Exit.then])
     refine bodyPost_ret (v := .agg #[.slice (some ⟨b, off, none⟩) n cs, .int .i64 lev, .int .i64 so, .int .i64 eo]) ?_ rfl ⟨rfl, (((B3.out.setCell (Nat.le_succ _) _).setCell (Nat.le_succ _) _).setCell (Nat.le_succ _) _).setCell (Nat.le_succ _) _⟩
     exact results_cell_row rfl _ _ (w.heap.size + 1) 61 _ (0, 0) _ rfl (four_stored T3.out _ _ _ _) Try.underlying61 rfl (by kernel_rfl)
   ·have HS2 : Hid (dirL lev = so) := Lib.hid (by rw [← HS1.out]; congr 1; omega)
    rcases Decidable.em (ly < bv) with mb | mb
    ·have HE2 : Hid (dirL bv = eo) := Lib.hid (by rw [← HE1.out]; congr 1; omega)
     refine wp_region_E (S := fun w' => w'.cell? ⟨w.heap.size, 1, none⟩ = some (.int .i64 lev) ∧ w'.cell? (pv.add y) = some (.int .i64 ly)) [13, 15] (by kernel_rfl) (hk1) (fun hHeld hZ => ?_)
     refine' eY 0 hHeld hZ fun hZ => ?_
     try simp only [Act.put,ZA,ZB,ZD,ZE,ZF]
     refine' eY 1 hHeld hZ fun hZ => ?_
     try simp only [Act.put,ZA,ZB,ZC,ZD,ZE,ZF]
     refine' eY 2 hHeld hZ fun hZ => ?_
     try simp only [Act.put,ZA,ZB,ZC,ZD,ZE,ZF]
     refine' eY 3 hHeld hZ fun hZ => ?_
     try simp only [Act.put,ZA,ZB,ZC,ZD,ZE,ZF]
     refine' eY 5 hHeld hZ fun hZ => ?_
     try simp only [Act.put,ZA,ZB,ZC,ZD,ZE,ZF]
     refine' eY 6 hHeld hZ fun hZ => ?_
     try simp only [Act.put,ZA,ZB,ZC,ZD,ZE,ZF]
     refine' eY 7 hHeld hZ fun hZ => ?_
     try simp only [Act.put,ZA,ZB,ZC,ZD,ZE,ZF]
     refine' eY 8 hHeld hZ fun hZ => ?_
     try simp only [Act.put,ZA,ZB,ZC,ZD,ZE,ZF]
     refine' eY 9 hHeld hZ fun hZ => ?_
     try simp only [Act.put,ZA,ZB,ZC,ZD,ZE,ZF]
     refine' eY 10 hHeld hZ fun hZ => ?_
     try simp only [Act.put,ZA,ZB,ZC,ZD,ZE,ZF]
     refine eA 4 fun K hK => ?_
     go_simp
     go_wp2_with fail
     refine (rdir8_any _ _).mono ?_
     rintro e wq ⟨rfl, rfl⟩
     rw [HS2.out]
     refine eB hK hZ (HK1.out) fun hHeld hZ => ?_
     clear hK K
     try simp only [Act.put,ZA,ZB,ZC,ZD,ZE,ZF]
     refine' eX 12 hZ fun hZ => ?_
     try simp only [Act.put,ZA,ZB,ZC,ZD,ZE,ZF]
     refine eA 11 fun K hK => ?_
     go_simp
     refine (rdir8_any _ _).mono ?_
     rintro e wq ⟨rfl, rfl⟩
     rw [HE2.out]
     refine eB hK hZ (HK1.out) fun hHeld hZ => ?_
     clear hK K
     try simp only [Act.put,ZA,ZB,ZC,ZD,ZE,ZF]
     refine eA 13 fun K hK => ?_
     refine step_store (e := 61) wr.drew w.heap.size (.tmp 101) (.tmp 93) w.heap.size 2 4 (.int .i64 so) [.slice (some ⟨b, off, none⟩) n cs, .int .i64 lev, .int .i64 z1, .int .i64 z2] w rfl rfl rfl (by kernel_rfl) rfl rfl rfl (RR.out.same rfl) (by simp) (by exact below_same BR.out rfl rfl rfl rfl) ?_
     intro w2 r2 b2 g2
     have R2 := Lib.hid r2
     have B2 := Lib.hid b2
     have G2 := Lib.hid g2
     clear r2 b2 g2
     refine eE hK hZ fun hZ => ?_
     clear hK K
     try simp only [Act.put,ZA,ZB,ZC,ZD,ZE,ZF]
     refine' eX 14 hZ fun hZ => ?_
     try simp only [Act.put,ZA,ZB,ZC,ZD,ZE,ZF]
     refine eA 15 fun K hK => ?_
     refine step_store (e := 61) w2 w.heap.size (.tmp 102) (.tmp 100) w.heap.size 3 4 (.int .i64 eo) [.slice (some ⟨b, off, none⟩) n cs, .int .i64 lev, .int .i64 so, .int .i64 z2] w rfl rfl rfl (by kernel_rfl) rfl rfl rfl R2.out (by simp) B2.out ?_
     intro w3 r3 b3 g3
     have R3 : Hid (OwnN w3 w.heap.size 61 1 (.slice (some ⟨w.heap.size, 0, none⟩) 4 4) 4 [.slice (some ⟨b, off, none⟩) n cs, .int .i64 lev, .int .i64 so, .int .i64 eo]) := Lib.hid r3
     have B3 := Lib.hid b3
     have G3 := Lib.hid g3
     clear r3 b3 g3
     refine eE hK hZ fun hZ => ?_
     clear hK K
     try simp only [Act.put,ZA,ZB,ZC,ZD,ZE,ZF]
     refine wpAnyE_done (by kernel_rfl) ?_ _
     clear hZ
     obtain ⟨r0, r1, r2, r3⟩ := four_cells R3.out
     have T3 := Lib.hid ((((R8.out.below B1.out (Nat.le_refl _)).below HB.out (Nat.le_refl _)).same (w' := wr.drew) rfl |>.keep G2.out (.inr (by simp [Value.ownBlock]))).keep G3.out (.inr (by simp [Value.ownBlock])))
     obtain ⟨t0, t1, t2, t3⟩ := four_cells T3.out
     have f8 := fun j => World.ownsRow.frozenAt T3.out j
     obtain ⟨f0, f1, f2, f3⟩ := And.intro (f8 0) (And.intro (f8 1) (And.intro (f8 2) (f8 3)))
     clear f8
     go_wp2_with fail
     (try simp only [Exit.inBlock, Exit.then])
     refine bodyPost_ret (v := .agg #[.slice (some ⟨b, off, none⟩) n cs, .int .i64 lev, .int .i64 so, .int .i64 eo]) ?_ rfl ⟨rfl, (((B3.out.setCell (Nat.le_succ _) _).setCell (Nat.le_succ _) _).setCell (Nat.le_succ _) _).setCell (Nat.le_succ _) _⟩
     exact results_cell_row rfl _ _ (w.heap.size + 1) 61 _ (0, 0) _ rfl (four_stored T3.out _ _ _ _) Try.underlying61 rfl (by kernel_rfl)
    ·have HE2 : Hid (dirL ly = eo) := Lib.hid (by rw [← HE1.out]; congr 1; omega)
     refine wp_region_E (S := fun w' => w'.cell? ⟨w.heap.size, 1, none⟩ = some (.int .i64 lev) ∧ w'.cell? (pv.add y) = some (.int .i64 ly)) [13, 15] (by kernel_rfl) (hk1) (fun hHeld hZ => ?_)
     refine' eY 0 hHeld hZ fun hZ => ?_
     try simp only [Act.put,ZA,ZB,ZD,ZE,ZF]
     refine' eY 1 hHeld hZ fun hZ => ?_
     try simp only [Act.put,ZA,ZB,ZC,ZD,ZE,ZF]
     refine' eY 2 hHeld hZ fun hZ => ?_
     try simp only [Act.put,ZA,ZB,ZC,ZD,ZE,ZF]
     refine' eY 3 hHeld hZ fun hZ => ?_
     try simp only [Act.put,ZA,ZB,ZC,ZD,ZE,ZF]
     refine' eY 5 hHeld hZ fun hZ => ?_
     try simp only [Act.put,ZA,ZB,ZC,ZD,ZE,ZF]
     refine' eY 6 hHeld hZ fun hZ => ?_
     try simp only [Act.put,ZA,ZB,ZC,ZD,ZE,ZF]
     refine' eY 7 hHeld hZ fun hZ => ?_
     try simp only [Act.put,ZA,ZB,ZC,ZD,ZE,ZF]
     refine' eY 8 hHeld hZ fun hZ => ?_
     try simp only [Act.put,ZA,ZB,ZC,ZD,ZE,ZF]
     refine' eY 9 hHeld hZ fun hZ => ?_
     try simp only [Act.put,ZA,ZB,ZC,ZD,ZE,ZF]
     refine' eY 10 hHeld hZ fun hZ => ?_
     try simp only [Act.put,ZA,ZB,ZC,ZD,ZE,ZF]
     refine eA 4 fun K hK => ?_
     go_simp
     go_wp2_with fail
     refine (rdir8_any _ _).mono ?_
     rintro e wq ⟨rfl, rfl⟩
     rw [HS2.out]
     refine eB hK hZ (HK1.out) fun hHeld hZ => ?_
     clear hK K
     try simp only [Act.put,ZA,ZB,ZC,ZD,ZE,ZF]
     refine' eX 12 hZ fun hZ => ?_
     try simp only [Act.put,ZA,ZB,ZC,ZD,ZE,ZF]
     refine eA 11 fun K hK => ?_
     go_simp
     refine (rdir8_any _ _).mono ?_
     rintro e wq ⟨rfl, rfl⟩
     rw [HE2.out]
     refine eB hK hZ (HK1.out) fun hHeld hZ => ?_
     clear hK K
     try simp only [Act.put,ZA,ZB,ZC,ZD,ZE,ZF]
     refine eA 13 fun K hK => ?_
     refine step_store (e := 61) wr.drew w.heap.size (.tmp 101) (.tmp 93) w.heap.size 2 4 (.int .i64 so) [.slice (some ⟨b, off, none⟩) n cs, .int .i64 lev, .int .i64 z1, .int .i64 z2] w rfl rfl rfl (by kernel_rfl) rfl rfl rfl (RR.out.same rfl) (by simp) (by exact below_same BR.out rfl rfl rfl rfl) ?_
     intro w2 r2 b2 g2
     have R2 := Lib.hid r2
     have B2 := Lib.hid b2
     have G2 := Lib.hid g2
     clear r2 b2 g2
     refine eE hK hZ fun hZ => ?_
     clear hK K
     try simp only [Act.put,ZA,ZB,ZC,ZD,ZE,ZF]
     refine' eX 14 hZ fun hZ => ?_
     try simp only [Act.put,ZA,ZB,ZC,ZD,ZE,ZF]
     refine eA 15 fun K hK => ?_
     refine step_store (e := 61) w2 w.heap.size (.tmp 102) (.tmp 100) w.heap.size 3 4 (.int .i64 eo) [.slice (some ⟨b, off, none⟩) n cs, .int .i64 lev, .int .i64 so, .int .i64 z2] w rfl rfl rfl (by kernel_rfl) rfl rfl rfl R2.out (by simp) B2.out ?_
     intro w3 r3 b3 g3
     have R3 : Hid (OwnN w3 w.heap.size 61 1 (.slice (some ⟨w.heap.size, 0, none⟩) 4 4) 4 [.slice (some ⟨b, off, none⟩) n cs, .int .i64 lev, .int .i64 so, .int .i64 eo]) := Lib.hid r3
     have B3 := Lib.hid b3
     have G3 := Lib.hid g3
     clear r3 b3 g3
     refine eE hK hZ fun hZ => ?_
     clear hK K
     try simp only [Act.put,ZA,ZB,ZC,ZD,ZE,ZF]
     refine wpAnyE_done (by kernel_rfl) ?_ _
     clear hZ
     obtain ⟨r0, r1, r2, r3⟩ := four_cells R3.out
     have T3 := Lib.hid ((((R8.out.below B1.out (Nat.le_refl _)).below HB.out (Nat.le_refl _)).same (w' := wr.drew) rfl |>.keep G2.out (.inr (by simp [Value.ownBlock]))).keep G3.out (.inr (by simp [Value.ownBlock])))
     obtain ⟨t0, t1, t2, t3⟩ := four_cells T3.out
     have f8 := fun j => World.ownsRow.frozenAt T3.out j
     obtain ⟨f0, f1, f2, f3⟩ := And.intro (f8 0) (And.intro (f8 1) (And.intro (f8 2) (f8 3)))
     clear f8
     go_wp2_with fail
     (try simp only [Exit.inBlock, Exit.then])
     refine bodyPost_ret (v := .agg #[.slice (some ⟨b, off, none⟩) n cs, .int .i64 lev, .int .i64 so, .int .i64 eo]) ?_ rfl ⟨rfl, (((B3.out.setCell (Nat.le_succ _) _).setCell (Nat.le_succ _) _).setCell (Nat.le_succ _) _).setCell (Nat.le_succ _) _⟩
     exact results_cell_row rfl _ _ (w.heap.size + 1) 61 _ (0, 0) _ rfl (four_stored T3.out _ _ _ _) Try.underlying61 rfl (by kernel_rfl)
end Go.Proofs.Ytadfleopbpomfaa
