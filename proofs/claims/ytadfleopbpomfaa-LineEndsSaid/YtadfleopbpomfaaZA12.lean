/- Shared texts, shaken for one claim. -/
import Derived.Test.YtadfleopbpomfaaZA11
namespace Go.Proofs.Ytadfleopbpomfaa
open Go.RowKit
theorem wf_small {x : X6} {k : Nat} (h : Wf x k) (hk : k ≤ 1000000) : x.Small := by
 have hlen : ∀ (st : List Ent) (b t : Int), st.Pairwise (fun a b => b.lev < a.lev) → (∀ e ∈ st, b ≤ e.lev ∧ e.lev ≤ t) → (st.length : Int) ≤ max (t - b + 1) 0 := by
  intro st
  induction st with
  | nil => intro b t _ _; simp; omega
  | cons e st ih =>
   intro b t hp hr
   obtain ⟨h1, h2⟩ := List.pairwise_cons.1 hp
   have h3 := hr e (by simp)
   have := ih b (e.lev - 1) h2 (fun a ha => ⟨(hr a (by simp [ha])).1, by have := h1 a ha; omega⟩)
   simp only [List.length_cons]
   omega
 have h1 := hlen x.st x.base 125 h.mono h.rng
 have hb := h.base
 exact ⟨by omega, by rw [h.levels]; exact hk, by rw [h.classes]; exact hk, by have := h.isos; omega, by have := h.embeds; omega, by have := h.valid; omega⟩
set_option maxRecDepth 20000 in
set_option maxHeartbeats 16000000 in
theorem went_loop (A : Option Addr) (l : List Int) (cap : Nat) (base : Int) (w : World) (h : Lies w w.heap.size A (ints .i64 l)) (hl : l.length ≤ 1000000) :
 Calls Try.prog 50 #[.slice A l.length cap, .int .i64 base] w fun ed w' => ed = .returned (.pointer (some ⟨w.heap.size, 0, none⟩)) ∧ HasX w' w.heap.size w.heap.size (runX l base l.length) (.slice A l.length cap) ∧ Below w.heap.size w w' := by
 have HL := Lib.hid h
 have HW := Lib.hid (wf_run l base)
 obtain ⟨b, hb⟩ : ∃ b : Int, (if base = 0 then (0 : Int) else 1) = b := ⟨_, rfl⟩
 have HBG : Hid (beginX base = startX ⟨b, [], 0, 0, 0, 0, [], []⟩) := Lib.hid (by rw [beginX, hb])
 have X0 : Hid (IsX (w.alloc (.cells #[.int .i64 b, .slice none 0 0, .int .i64 0, .int .i64 0, .int .i64 0, .int .i64 0, .slice none 0 0, .slice none 0 0, .slice A l.length cap] 74)) w.heap.size w.heap.size ⟨b, [], 0, 0, 0, 0, [], []⟩ (.slice A l.length cap) (.slice none 0 0) (.slice none 0 0) (.slice none 0 0)) :=
  Lib.hid ⟨OwnN.ofLit (n := 9) (size := 1) #[.int .i64 b, .slice none 0 0, .int .i64 0, .int .i64 0, .int .i64 0, .int .i64 0, .slice none 0 0, .slice none 0 0, .slice A l.length cap] (Nat.le_refl _) (by unfold maxLen; omega) rfl, OwnN.empty _ _ _ _, OwnN.empty _ _ _ _, OwnN.empty _ _ _ _, Apart.nil_left⟩
 have B0 := Lib.hid (below_alloc w (.cells #[.int .i64 b, .slice none 0 0, .int .i64 0, .int .i64 0, .int .i64 0, .int .i64 0, .slice none 0 0, .slice none 0 0, .slice A l.length cap] 74))
 obtain ⟨B, hB⟩ : ∃ B, w.heap.size = B := ⟨_, rfl⟩
 rw [hB] at HL X0 B0
 have HB := Lib.hid hB
 clear h
 have hb2 : (b = 0 ∧ (base != 0) = false) ∨ (b = 1 ∧ (base != 0) = true) := by
  by_cases h0 : base = 0
  ·rw [if_pos h0] at hb; exact .inl ⟨hb.symm, by simpa using h0⟩
  ·rw [if_neg h0] at hb; exact .inr ⟨hb.symm, by simpa using h0⟩
 clear hb
 rcases hb2 with ⟨rfl, hb0⟩ | ⟨rfl, hb0⟩
 all_goals
  go_enter Try.func50, Try.ntmps50
  go_wp2_with fail
  refine (start_any _ B B _ _ _ _ _ X0.out).mono ?_
  rintro ed w1 ⟨rfl, ⟨sv1, x1⟩, b1⟩
  have X1 : Hid (HasX w1 B B (runX l base 0) (.slice A l.length cap)) := Lib.hid (by rw [runX, HBG.out]; exact ⟨_, _, _, x1⟩)
  have B1 := Lib.hid (B0.out.trans b1)
  clear x1 b1 hb0 hB
  go_wp2_with fail
  go_loopw [6] (fun iv wr => ∃ k : Nat, k ≤ l.length ∧ iv = .int .i64 k ∧ HasX wr B B (runX l base k) (.slice A l.length cap) ∧ Below B w wr) (fun iv _ => l.length - (intOf iv).toNat)
  case atStart => exact ⟨0, by omega, rfl, X1.out, B1.out⟩
  case round =>
   obtain ⟨k, hk, rfl, hx, hbw⟩ := hrel
   have HX := Lib.hid hx
   have BW := Lib.hid hbw
   clear hx hbw
   by_cases hlt : k < l.length
   ·obtain ⟨p, rfl, hpb, hcell⟩ := ((HB.out ▸ HL.out : Lies w B A (ints .i64 l)).below BW.out).int hlt
    have b0 : (0 : Int) ≤ (k : Int) := by omega
    have b1 : (k : Int) < (l.length : Int) := by omega
    have HST1 : Hid (runX l base (k + 1) = stepX l (runX l base k) k l[k]) := Lib.hid (by rw [runX, at0_eq hlt])
    have HWF := Lib.hid (HW.out k)
    have HSM := Lib.hid (wf_small (HW.out k) (by omega))
    obtain ⟨c, hc⟩ : ∃ c, l[k] = c := ⟨_, rfl⟩
    rw [hc] at hcell HST1
    obtain ⟨x, hx⟩ : ∃ x, runX l base k = x := ⟨_, rfl⟩
    rw [hx] at HX HST1 HWF HSM
    obtain ⟨e, st, hst⟩ := HWF.out.top
    have HST := Lib.hid hst
    have hsm : x.st.length ≤ 1000000 := by have := HSM.out.st; omega
    have hll : x.levels.length ≤ 1000000 := HSM.out.lev
    have hcl : x.classes.length ≤ 1000000 := HSM.out.cls
    clear hc hx hst
    rcases h16 : (c == 16) with _ | _
    ·rcases h14 : (c == 14) with _ | _
     ·rcases h17 : (c == 17) with _ | _
      ·rcases h15 : (c == 15) with _ | _
       ·rcases ho : isOpens c with _ | _
        ·rcases h22 : (c == 22) with _ | _
         ·rcases h18 : (c == 18) with _ | _
          ·rcases h9 : (c == 9) with _ | _
           ·rcases h10 : (c == 10) with _ | _
            ·have hw := wordOf_isEmpty c
             by_cases hw0 : c < 0 ∨ 22 < c
             ·rw [decide_eq_true hw0] at hw
              have HST1 := Lib.hid (HST1.out.trans (show stepX l x k c = putX x 0 from by unfold stepX; rw [if_neg (by simp at h16 h14 h17 h15; omega), if_neg (by rw [ho]; simp), if_neg (by simpa using h22), if_neg (by simpa using h18), if_neg (by simpa using h9), if_neg (by simpa using h10), if_pos hw0]))
              clear hw0
              have HO := Lib.hid ho
              clear ho
              go_wp2_with fail
              refine (ropens_any c _).mono ?_
              rintro e wq ⟨rfl, rfl⟩
              rw [HO.out]
              go_wp2_with fail
              refine (rword_any c wr).mono ?_
              rintro ed w4 ⟨rfl, b4⟩
              have X4 : Hid (HasX w4 B B x (.slice (some p) l.length cap)) := Lib.hid (by obtain ⟨sv, lv, cv, h⟩ := HX.out; exact ⟨sv, lv, cv, h.below b4 (Nat.le_refl _)⟩)
              have B4 : Hid (Below B w w4) := Lib.hid (BW.out.trans (b4.mono (by obtain ⟨sv, lv, cv, h⟩ := HX.out; exact h.le)))
              clear b4
              go_wp2_with fail
              refine (put_any w4 B B x _ 0 e st HST.out X4.out HSM.out).mono ?_
              rintro ed w5 ⟨rfl, x5, b5⟩
              have X5 := Lib.hid x5
              have B5 := Lib.hid (B4.out.trans b5)
              clear x5 b5
              go_wp2_with fail
              go_roundw
              case rel => exact ⟨k + 1, by omega, by go_num, by rw [HST1.out]; exact X5.out, B5.out⟩
              case measure => simp [intOf]; omega
             ·rw [decide_eq_false hw0] at hw
              have HST1 := Lib.hid (HST1.out.trans (show stepX l x k c = putX x c from by unfold stepX; rw [if_neg (by simp at h16 h14 h17 h15; omega), if_neg (by rw [ho]; simp), if_neg (by simpa using h22), if_neg (by simpa using h18), if_neg (by simpa using h9), if_neg (by simpa using h10), if_neg hw0]))
              clear hw0
              have HO := Lib.hid ho
              clear ho
              go_wp2_with fail
              refine (ropens_any c _).mono ?_
              rintro e wq ⟨rfl, rfl⟩
              rw [HO.out]
              go_wp2_with fail
              refine (rword_any c wr).mono ?_
              rintro ed w4 ⟨rfl, b4⟩
              have X4 : Hid (HasX w4 B B x (.slice (some p) l.length cap)) := Lib.hid (by obtain ⟨sv, lv, cv, h⟩ := HX.out; exact ⟨sv, lv, cv, h.below b4 (Nat.le_refl _)⟩)
              have B4 : Hid (Below B w w4) := Lib.hid (BW.out.trans (b4.mono (by obtain ⟨sv, lv, cv, h⟩ := HX.out; exact h.le)))
              clear b4
              go_wp2_with fail
              refine (put_any w4 B B x _ c e st HST.out X4.out HSM.out).mono ?_
              rintro ed w5 ⟨rfl, x5, b5⟩
              have X5 := Lib.hid x5
              have B5 := Lib.hid (B4.out.trans b5)
              clear x5 b5
              go_wp2_with fail
              go_roundw
              case rel => exact ⟨k + 1, by omega, by go_num, by rw [HST1.out]; exact X5.out, B5.out⟩
              case measure => simp [intOf]; omega
            ·have HST1 := Lib.hid (HST1.out.trans (show stepX l x k c = tellX (startX x) x.base c from by unfold stepX; rw [if_neg (by simp at h16 h14 h17 h15; omega), if_neg (by rw [ho]; simp), if_neg (by simpa using h22), if_neg (by simpa using h18), if_neg (by simpa using h9), if_pos (by simpa using h10)]))
             obtain ⟨sv, lv, cv, h⟩ := HX.out
             obtain ⟨Al, cl, rfl, _, _, _⟩ := h.levels.form
             obtain ⟨Ac, cc, rfl, _, _, _⟩ := h.classes.form
             have H := Lib.hid h
             clear h
             have HO := Lib.hid ho
             clear ho
             go_wp2_with fail
             refine (ropens_any c _).mono ?_
             rintro e wq ⟨rfl, rfl⟩
             rw [HO.out]
             go_wp2_with fail
             refine (start_any wr B B x _ sv _ _ H.out).mono ?_
             rintro ed w5 ⟨rfl, ⟨sv5, x5⟩, b5⟩
             have X5 := Lib.hid x5
             have B5 := Lib.hid (BW.out.trans b5)
             clear x5 b5
             go_wp2_with fail
             refine wp_region_E (S := fun w' => fieldsAt w' B x (.slice Al x.levels.length cl) (.slice Ac x.classes.length cc)) [21, 24] (by kernel_rfl) (X5.out.seen) (fun hHeld hZ => ?_)
             refine' eX 0 hZ fun hZ => ?_
             try simp only [Act.put,ZA,ZB,ZD,ZE,ZF]
             refine' eX 1 hZ fun hZ => ?_
             try simp only [Act.put,ZA,ZB,ZC,ZD,ZE,ZF]
             refine' eX 2 hZ fun hZ => ?_
             try simp only [Act.put,ZA,ZB,ZC,ZD,ZE,ZF]
             refine' eX 3 hZ fun hZ => ?_
             try simp only [Act.put,ZA,ZB,ZC,ZD,ZE,ZF]
             refine' eX 4 hZ fun hZ => ?_
             try simp only [Act.put,ZA,ZB,ZC,ZD,ZE,ZF]
             refine' eX 6 hZ fun hZ => ?_
             try simp only [Act.put,ZA,ZB,ZC,ZD,ZE,ZF]
             refine' eX 7 hZ fun hZ => ?_
             try simp only [Act.put,ZA,ZB,ZC,ZD,ZE,ZF]
             refine' eX 8 hZ fun hZ => ?_
             try simp only [Act.put,ZA,ZB,ZC,ZD,ZE,ZF]
             refine' eX 12 hZ fun hZ => ?_
             try simp only [Act.put,ZA,ZB,ZC,ZD,ZE,ZF]
             refine' eX 13 hZ fun hZ => ?_
             try simp only [Act.put,ZA,ZB,ZC,ZD,ZE,ZF]
             refine' eX 14 hZ fun hZ => ?_
             try simp only [Act.put,ZA,ZB,ZC,ZD,ZE,ZF]
             refine' eX 16 hZ fun hZ => ?_
             try simp only [Act.put,ZA,ZB,ZC,ZD,ZE,ZF]
             refine' eY 5 hHeld hZ fun hZ => ?_
             try simp only [Act.put,ZA,ZB,ZC,ZD,ZE,ZF]
             refine' eY 9 hHeld hZ fun hZ => ?_
             try simp only [Act.put,ZA,ZB,ZC,ZD,ZE,ZF]
             refine' eY 15 hHeld hZ fun hZ => ?_
             try simp only [Act.put,ZA,ZB,ZC,ZD,ZE,ZF]
             have X0 := Lib.hid (X5.out.same (w' := w5.drew) rfl)
             have B0 : Hid (Below B w w5.drew) := Lib.hid (below_drawn B5.out 1)
             generalize w5.drew = u0 at X0 B0 hHeld ⊢
             refine wpAnyE_ready (rs := [10, 17]) (by kernel_rfl) (by simp) ?_
             refine AllReadyE.cons rfl (fun K hK => ?_) (AllReadyE.cons rfl (fun K hK => ?_) AllReadyE.nil)
             ·go_simp
              have X1 := Lib.hid (X0.out.alloc (.cells #[.int .i64 x.base] 3))
              have T1 := Lib.hid (LitAt.new u0 3 #[.int .i64 x.base])
              have B1 := Lib.hid (B0.out.trans ((below_alloc u0 (.cells #[.int .i64 x.base] 3)).mono X0.out.le))
              refine eB hK hZ (X1.out.seen) fun hHeld hZ => ?_
              clear hK K
              try simp only [Act.put,ZA,ZB,ZC,ZD,ZE,ZF]
              generalize u0.alloc (.cells #[.int .i64 x.base] 3) = u1 at X1 T1 B1 hHeld ⊢
              refine wpAnyE_ready (rs := [11, 17]) (by kernel_rfl) (by simp) ?_
              refine AllReadyE.cons rfl (fun K hK => ?_) (AllReadyE.cons rfl (fun K hK => ?_) AllReadyE.nil)
              ·refine step_appN intsN u1 u1 B _ (.tmp 102) (.tmp 107) _ x.levels.length 1 (ints .i64 x.levels) [.int .i64 x.base] _ _ rfl rfl rfl rfl X1.out.levels T1.out.lies rfl (by simp [Value.oneCell']) (Below.refl _ _) X1.out.le (by unfold maxLen; omega) (by omega) ?_
               intro v2 u2 o_ b_ g_ e_
               obtain ⟨A2, c2, rfl, _, _, _⟩ := o_.form
               have X2 := Lib.hid (X1.out.appL o_ g_ e_)
               have B2 := Lib.hid (B1.out.trans b_)
               clear o_ b_ g_ e_
               refine eB hK hZ (X2.out.seen) fun hHeld hZ => ?_
               clear hK K
               try simp only [Act.put,ZA,ZB,ZC,ZD,ZE,ZF]
               refine eA 17 fun K hK => ?_
               go_simp
               have X3 := Lib.hid (X2.out.alloc (.cells #[.int .i64 c] 3))
               have T3 := Lib.hid (LitAt.new u2 3 #[.int .i64 c])
               have B3 := Lib.hid (B2.out.trans ((below_alloc u2 (.cells #[.int .i64 c] 3)).mono X2.out.le))
               refine eB hK hZ (X3.out.seen) fun hHeld hZ => ?_
               clear hK K
               try simp only [Act.put,ZA,ZB,ZC,ZD,ZE,ZF]
               generalize u2.alloc (.cells #[.int .i64 c] 3) = u3 at X3 T3 B3 hHeld ⊢
               refine eA 18 fun K hK => ?_
               refine step_appN intsN u3 u3 B _ (.tmp 112) (.tmp 114) _ x.classes.length 1 (ints .i64 x.classes) [.int .i64 c] _ _ rfl rfl rfl rfl X3.out.classes T3.out.lies rfl (by simp [Value.oneCell']) (Below.refl _ _) X3.out.le (by unfold maxLen; omega) (by omega) ?_
               intro v4 u4 o_ b_ g_ e_
               obtain ⟨A4, c4, rfl, _, _, _⟩ := o_.form
               have X4 := Lib.hid (X3.out.appC o_ g_ e_)
               have B4 := Lib.hid (B3.out.trans b_)
               clear o_ b_ g_ e_
               refine eB hK hZ (X4.out.seen) fun hHeld hZ => ?_
               clear hK K
               try simp only [Act.put,ZA,ZB,ZC,ZD,ZE,ZF]
               refine' eX 19 hZ fun hZ => ?_
               try simp only [Act.put,ZA,ZB,ZC,ZD,ZE,ZF]
               refine' eX 20 hZ fun hZ => ?_
               try simp only [Act.put,ZA,ZB,ZC,ZD,ZE,ZF]
               refine eA 21 fun K hK => ?_
               refine step_store u4 B (.tmp 117) (.tmp 108) B 6 9 _ _ u4 rfl rfl rfl (by kernel_rfl) rfl rfl rfl X4.out.row (by simp [X6.cells]) (Below.refl _ _) ?_
               intro u5 r_ b_ g_
               have R5 := Lib.hid r_
               have G5 := Lib.hid g_
               have B5 := Lib.hid (B4.out.trans b_)
               clear r_ b_ g_
               refine eE hK hZ fun hZ => ?_
               clear hK K
               try simp only [Act.put,ZA,ZB,ZC,ZD,ZE,ZF]
               refine' eX 22 hZ fun hZ => ?_
               try simp only [Act.put,ZA,ZB,ZC,ZD,ZE,ZF]
               refine' eX 23 hZ fun hZ => ?_
               try simp only [Act.put,ZA,ZB,ZC,ZD,ZE,ZF]
               refine eA 24 fun K hK => ?_
               refine step_store u5 B (.tmp 119) (.tmp 115) B 7 9 _ _ u5 rfl rfl rfl (by kernel_rfl) rfl rfl rfl R5.out (by simp [X6.cells]) (Below.refl _ _) ?_
               intro u6 r_ b_ g_
               have XF := Lib.hid (X4.out.done R5.out G5.out r_ g_)
               have BF := Lib.hid (B5.out.trans b_)
               clear r_ b_ g_
               refine eE hK hZ fun hZ => ?_
               clear hK K
               try simp only [Act.put,ZA,ZB,ZC,ZD,ZE,ZF]
               refine wpAnyE_done (by kernel_rfl) ?_ _
               clear hZ
               go_wp2_with fail
               go_roundw
               case rel => exact ⟨k + 1, by omega, by go_num, by rw [HST1.out]; exact ⟨_, _, _, XF.out⟩, BF.out⟩
               case measure => simp [intOf]; omega
              ·have N2 := Lib.hid (X1.out.newL)
               go_simp
               have X2 := Lib.hid (X1.out.alloc (.cells #[.int .i64 c] 3))
               have T2 := Lib.hid (LitAt.new u1 3 #[.int .i64 c])
               have B2 := Lib.hid (B1.out.trans ((below_alloc u1 (.cells #[.int .i64 c] 3)).mono X1.out.le))
               have T1_2 := Lib.hid (T1.out.alloc (.cells #[.int .i64 c] 3))
               refine eB hK hZ (X2.out.seen) fun hHeld hZ => ?_
               clear hK K
               try simp only [Act.put,ZA,ZB,ZC,ZD,ZE,ZF]
               generalize u1.alloc (.cells #[.int .i64 c] 3) = u2 at X2 T2 B2 T1_2 hHeld ⊢
               refine eA 11 fun K hK => ?_
               refine step_appN intsN u2 u2 B _ (.tmp 102) (.tmp 107) _ x.levels.length 1 (ints .i64 x.levels) [.int .i64 x.base] _ _ rfl rfl rfl rfl X2.out.levels T1_2.out.lies rfl (by simp [Value.oneCell']) (Below.refl _ _) X2.out.le (by unfold maxLen; omega) (by omega) ?_
               intro v3 u3 o_ b_ g_ e_
               obtain ⟨A3, c3, rfl, _, _, _⟩ := o_.form
               have X3 := Lib.hid (X2.out.appL o_ g_ e_)
               have B3 := Lib.hid (B2.out.trans b_)
               have T2_3 := Lib.hid (T2.out.grown g_ N2.out)
               clear o_ b_ g_ e_
               refine eB hK hZ (X3.out.seen) fun hHeld hZ => ?_
               clear hK K
               try simp only [Act.put,ZA,ZB,ZC,ZD,ZE,ZF]
               refine eA 18 fun K hK => ?_
               refine step_appN intsN u3 u3 B _ (.tmp 112) (.tmp 114) _ x.classes.length 1 (ints .i64 x.classes) [.int .i64 c] _ _ rfl rfl rfl rfl X3.out.classes T2_3.out.lies rfl (by simp [Value.oneCell']) (Below.refl _ _) X3.out.le (by unfold maxLen; omega) (by omega) ?_
               intro v4 u4 o_ b_ g_ e_
               obtain ⟨A4, c4, rfl, _, _, _⟩ := o_.form
               have X4 := Lib.hid (X3.out.appC o_ g_ e_)
               have B4 := Lib.hid (B3.out.trans b_)
               clear o_ b_ g_ e_
               refine eB hK hZ (X4.out.seen) fun hHeld hZ => ?_
               clear hK K
               try simp only [Act.put,ZA,ZB,ZC,ZD,ZE,ZF]
               refine' eX 19 hZ fun hZ => ?_
               try simp only [Act.put,ZA,ZB,ZC,ZD,ZE,ZF]
               refine' eX 20 hZ fun hZ => ?_
               try simp only [Act.put,ZA,ZB,ZC,ZD,ZE,ZF]
               refine eA 21 fun K hK => ?_
               refine step_store u4 B (.tmp 117) (.tmp 108) B 6 9 _ _ u4 rfl rfl rfl (by kernel_rfl) rfl rfl rfl X4.out.row (by simp [X6.cells]) (Below.refl _ _) ?_
               intro u5 r_ b_ g_
               have R5 := Lib.hid r_
               have G5 := Lib.hid g_
               have B5 := Lib.hid (B4.out.trans b_)
               clear r_ b_ g_
               refine eE hK hZ fun hZ => ?_
               clear hK K
               try simp only [Act.put,ZA,ZB,ZC,ZD,ZE,ZF]
               refine' eX 22 hZ fun hZ => ?_
               try simp only [Act.put,ZA,ZB,ZC,ZD,ZE,ZF]
               refine' eX 23 hZ fun hZ => ?_
               try simp only [Act.put,ZA,ZB,ZC,ZD,ZE,ZF]
               refine eA 24 fun K hK => ?_
               refine step_store u5 B (.tmp 119) (.tmp 115) B 7 9 _ _ u5 rfl rfl rfl (by kernel_rfl) rfl rfl rfl R5.out (by simp [X6.cells]) (Below.refl _ _) ?_
               intro u6 r_ b_ g_
               have XF := Lib.hid (X4.out.done R5.out G5.out r_ g_)
               have BF := Lib.hid (B5.out.trans b_)
               clear r_ b_ g_
               refine eE hK hZ fun hZ => ?_
               clear hK K
               try simp only [Act.put,ZA,ZB,ZC,ZD,ZE,ZF]
               refine wpAnyE_done (by kernel_rfl) ?_ _
               clear hZ
               go_wp2_with fail
               go_roundw
               case rel => exact ⟨k + 1, by omega, by go_num, by rw [HST1.out]; exact ⟨_, _, _, XF.out⟩, BF.out⟩
               case measure => simp [intOf]; omega
             ·have N1 := Lib.hid (X0.out.newL)
              go_simp
              have X1 := Lib.hid (X0.out.alloc (.cells #[.int .i64 c] 3))
              have T1 := Lib.hid (LitAt.new u0 3 #[.int .i64 c])
              have B1 := Lib.hid (B0.out.trans ((below_alloc u0 (.cells #[.int .i64 c] 3)).mono X0.out.le))
              refine eB hK hZ (X1.out.seen) fun hHeld hZ => ?_
              clear hK K
              try simp only [Act.put,ZA,ZB,ZC,ZD,ZE,ZF]
              generalize u0.alloc (.cells #[.int .i64 c] 3) = u1 at X1 T1 B1 hHeld ⊢
              refine eA 10 fun K hK => ?_
              go_simp
              have X2 := Lib.hid (X1.out.alloc (.cells #[.int .i64 x.base] 3))
              have T2 := Lib.hid (LitAt.new u1 3 #[.int .i64 x.base])
              have B2 := Lib.hid (B1.out.trans ((below_alloc u1 (.cells #[.int .i64 x.base] 3)).mono X1.out.le))
              have T1_2 := Lib.hid (T1.out.alloc (.cells #[.int .i64 x.base] 3))
              refine eB hK hZ (X2.out.seen) fun hHeld hZ => ?_
              clear hK K
              try simp only [Act.put,ZA,ZB,ZC,ZD,ZE,ZF]
              generalize u1.alloc (.cells #[.int .i64 x.base] 3) = u2 at X2 T2 B2 T1_2 hHeld ⊢
              refine eA 11 fun K hK => ?_
              refine step_appN intsN u2 u2 B _ (.tmp 102) (.tmp 107) _ x.levels.length 1 (ints .i64 x.levels) [.int .i64 x.base] _ _ rfl rfl rfl rfl X2.out.levels T2.out.lies rfl (by simp [Value.oneCell']) (Below.refl _ _) X2.out.le (by unfold maxLen; omega) (by omega) ?_
              intro v3 u3 o_ b_ g_ e_
              obtain ⟨A3, c3, rfl, _, _, _⟩ := o_.form
              have X3 := Lib.hid (X2.out.appL o_ g_ e_)
              have B3 := Lib.hid (B2.out.trans b_)
              have T1_2_3 := Lib.hid (T1_2.out.grown g_ N1.out)
              clear o_ b_ g_ e_
              refine eB hK hZ (X3.out.seen) fun hHeld hZ => ?_
              clear hK K
              try simp only [Act.put,ZA,ZB,ZC,ZD,ZE,ZF]
              refine eA 18 fun K hK => ?_
              refine step_appN intsN u3 u3 B _ (.tmp 112) (.tmp 114) _ x.classes.length 1 (ints .i64 x.classes) [.int .i64 c] _ _ rfl rfl rfl rfl X3.out.classes T1_2_3.out.lies rfl (by simp [Value.oneCell']) (Below.refl _ _) X3.out.le (by unfold maxLen; omega) (by omega) ?_
              intro v4 u4 o_ b_ g_ e_
              obtain ⟨A4, c4, rfl, _, _, _⟩ := o_.form
              have X4 := Lib.hid (X3.out.appC o_ g_ e_)
              have B4 := Lib.hid (B3.out.trans b_)
              clear o_ b_ g_ e_
              refine eB hK hZ (X4.out.seen) fun hHeld hZ => ?_
              clear hK K
              try simp only [Act.put,ZA,ZB,ZC,ZD,ZE,ZF]
              refine' eX 19 hZ fun hZ => ?_
              try simp only [Act.put,ZA,ZB,ZC,ZD,ZE,ZF]
              refine' eX 20 hZ fun hZ => ?_
              try simp only [Act.put,ZA,ZB,ZC,ZD,ZE,ZF]
              refine eA 21 fun K hK => ?_
              refine step_store u4 B (.tmp 117) (.tmp 108) B 6 9 _ _ u4 rfl rfl rfl (by kernel_rfl) rfl rfl rfl X4.out.row (by simp [X6.cells]) (Below.refl _ _) ?_
              intro u5 r_ b_ g_
              have R5 := Lib.hid r_
              have G5 := Lib.hid g_
              have B5 := Lib.hid (B4.out.trans b_)
              clear r_ b_ g_
              refine eE hK hZ fun hZ => ?_
              clear hK K
              try simp only [Act.put,ZA,ZB,ZC,ZD,ZE,ZF]
              refine' eX 22 hZ fun hZ => ?_
              try simp only [Act.put,ZA,ZB,ZC,ZD,ZE,ZF]
              refine' eX 23 hZ fun hZ => ?_
              try simp only [Act.put,ZA,ZB,ZC,ZD,ZE,ZF]
              refine eA 24 fun K hK => ?_
              refine step_store u5 B (.tmp 119) (.tmp 115) B 7 9 _ _ u5 rfl rfl rfl (by kernel_rfl) rfl rfl rfl R5.out (by simp [X6.cells]) (Below.refl _ _) ?_
              intro u6 r_ b_ g_
              have XF := Lib.hid (X4.out.done R5.out G5.out r_ g_)
              have BF := Lib.hid (B5.out.trans b_)
              clear r_ b_ g_
              refine eE hK hZ fun hZ => ?_
              clear hK K
              try simp only [Act.put,ZA,ZB,ZC,ZD,ZE,ZF]
              refine wpAnyE_done (by kernel_rfl) ?_ _
              clear hZ
              go_wp2_with fail
              go_roundw
              case rel => exact ⟨k + 1, by omega, by go_num, by rw [HST1.out]; exact ⟨_, _, _, XF.out⟩, BF.out⟩
              case measure => simp [intOf]; omega
           ·have HST1 := Lib.hid (HST1.out.trans (show stepX l x k c = tellX x e.lev c from by unfold stepX; rw [if_neg (by simp at h16 h14 h17 h15; omega), if_neg (by rw [ho]; simp), if_neg (by simpa using h22), if_neg (by simpa using h18), if_pos (by simpa using h9), HST.out]))
            obtain ⟨sv, lv, cv, h⟩ := HX.out
            obtain ⟨Al, cl, rfl, _, _, _⟩ := h.levels.form
            obtain ⟨Ac, cc, rfl, _, _, _⟩ := h.classes.form
            have H := Lib.hid h
            clear h
            have hf0 := field0 e.lev e.over e.iso
            have HO := Lib.hid ho
            clear ho
            go_wp2_with fail
            refine (ropens_any c _).mono ?_
            rintro e wq ⟨rfl, rfl⟩
            rw [HO.out]
            go_wp2_with fail
            refine wp_region_E (S := fun w' => fieldsAt w' B x (.slice Al x.levels.length cl) (.slice Ac x.classes.length cc)) [20, 23] (by kernel_rfl) (H.out.seen) (fun hHeld hZ => ?_)
            refine' eX 0 hZ fun hZ => ?_
            try simp only [Act.put,ZA,ZB,ZD,ZE,ZF]
            refine' eX 1 hZ fun hZ => ?_
            try simp only [Act.put,ZA,ZB,ZC,ZD,ZE,ZF]
            refine' eX 2 hZ fun hZ => ?_
            try simp only [Act.put,ZA,ZB,ZC,ZD,ZE,ZF]
            refine' eX 3 hZ fun hZ => ?_
            try simp only [Act.put,ZA,ZB,ZC,ZD,ZE,ZF]
            refine' eX 4 hZ fun hZ => ?_
            try simp only [Act.put,ZA,ZB,ZC,ZD,ZE,ZF]
            refine' eX 6 hZ fun hZ => ?_
            try simp only [Act.put,ZA,ZB,ZC,ZD,ZE,ZF]
            refine' eX 11 hZ fun hZ => ?_
            try simp only [Act.put,ZA,ZB,ZC,ZD,ZE,ZF]
            refine' eX 12 hZ fun hZ => ?_
            try simp only [Act.put,ZA,ZB,ZC,ZD,ZE,ZF]
            refine' eX 13 hZ fun hZ => ?_
            try simp only [Act.put,ZA,ZB,ZC,ZD,ZE,ZF]
            refine' eX 15 hZ fun hZ => ?_
            try simp only [Act.put,ZA,ZB,ZC,ZD,ZE,ZF]
            refine' eY 5 hHeld hZ fun hZ => ?_
            try simp only [Act.put,ZA,ZB,ZC,ZD,ZE,ZF]
            refine' eY 14 hHeld hZ fun hZ => ?_
            try simp only [Act.put,ZA,ZB,ZC,ZD,ZE,ZF]
            have X0 := Lib.hid (H.out.same (w' := wr.drew) rfl)
            have B0 : Hid (Below B w wr.drew) := Lib.hid (below_drawn BW.out 1)
            generalize wr.drew = u0 at X0 B0 hHeld ⊢
            refine wpAnyE_ready (rs := [7, 16]) (by kernel_rfl) (by simp) ?_
            refine AllReadyE.cons rfl (fun K hK => ?_) (AllReadyE.cons rfl (fun K hK => ?_) AllReadyE.nil)
            ·go_simp
             refine (top_any u0 B B _ _ sv _ _ e st HST.out X0.out hsm).mono ?_
             rintro ed u1 ⟨rfl, b_⟩
             have X1 := Lib.hid (X0.out.below b_ (Nat.le_refl _))
             have B1 := Lib.hid (B0.out.trans (b_.mono X0.out.le))
             clear b_
             refine eB hK hZ (X1.out.seen) fun hHeld hZ => ?_
             clear hK K
             try simp only [Act.put,ZA,ZB,ZC,ZD,ZE,ZF]
             refine' eX 8 hZ fun hZ => ?_
             try simp only [Act.put,ZA,ZB,ZC,ZD,ZE,ZF]
             refine wpAnyE_ready (rs := [9, 16]) (by kernel_rfl) (by simp) ?_
             refine AllReadyE.cons rfl (fun K hK => ?_) (AllReadyE.cons rfl (fun K hK => ?_) AllReadyE.nil)
             ·go_simp
              have X2 := Lib.hid (X1.out.alloc (.cells #[.int .i64 e.lev] 3))
              have T2 := Lib.hid (LitAt.new u1 3 #[.int .i64 e.lev])
              have B2 := Lib.hid (B1.out.trans ((below_alloc u1 (.cells #[.int .i64 e.lev] 3)).mono X1.out.le))
              refine eB hK hZ (X2.out.seen) fun hHeld hZ => ?_
              clear hK K
              try simp only [Act.put,ZA,ZB,ZC,ZD,ZE,ZF]
              generalize u1.alloc (.cells #[.int .i64 e.lev] 3) = u2 at X2 T2 B2 hHeld ⊢
              refine wpAnyE_ready (rs := [10, 16]) (by kernel_rfl) (by simp) ?_
              refine AllReadyE.cons rfl (fun K hK => ?_) (AllReadyE.cons rfl (fun K hK => ?_) AllReadyE.nil)
              ·refine step_appN intsN u2 u2 B _ (.tmp 75) (.tmp 79) _ x.levels.length 1 (ints .i64 x.levels) [.int .i64 e.lev] _ _ rfl rfl rfl rfl X2.out.levels T2.out.lies rfl (by simp [Value.oneCell']) (Below.refl _ _) X2.out.le (by unfold maxLen; omega) (by omega) ?_
               intro v3 u3 o_ b_ g_ e_
               obtain ⟨A3, c3, rfl, _, _, _⟩ := o_.form
               have X3 := Lib.hid (X2.out.appL o_ g_ e_)
               have B3 := Lib.hid (B2.out.trans b_)
               clear o_ b_ g_ e_
               refine eB hK hZ (X3.out.seen) fun hHeld hZ => ?_
               clear hK K
               try simp only [Act.put,ZA,ZB,ZC,ZD,ZE,ZF]
               refine eA 16 fun K hK => ?_
               go_simp
               have X4 := Lib.hid (X3.out.alloc (.cells #[.int .i64 c] 3))
               have T4 := Lib.hid (LitAt.new u3 3 #[.int .i64 c])
               have B4 := Lib.hid (B3.out.trans ((below_alloc u3 (.cells #[.int .i64 c] 3)).mono X3.out.le))
               refine eB hK hZ (X4.out.seen) fun hHeld hZ => ?_
               clear hK K
               try simp only [Act.put,ZA,ZB,ZC,ZD,ZE,ZF]
               generalize u3.alloc (.cells #[.int .i64 c] 3) = u4 at X4 T4 B4 hHeld ⊢
               refine eA 17 fun K hK => ?_
               refine step_appN intsN u4 u4 B _ (.tmp 84) (.tmp 86) _ x.classes.length 1 (ints .i64 x.classes) [.int .i64 c] _ _ rfl rfl rfl rfl X4.out.classes T4.out.lies rfl (by simp [Value.oneCell']) (Below.refl _ _) X4.out.le (by unfold maxLen; omega) (by omega) ?_
               intro v5 u5 o_ b_ g_ e_
               obtain ⟨A5, c5, rfl, _, _, _⟩ := o_.form
               have X5 := Lib.hid (X4.out.appC o_ g_ e_)
               have B5 := Lib.hid (B4.out.trans b_)
               clear o_ b_ g_ e_
               refine eB hK hZ (X5.out.seen) fun hHeld hZ => ?_
               clear hK K
               try simp only [Act.put,ZA,ZB,ZC,ZD,ZE,ZF]
               refine' eX 18 hZ fun hZ => ?_
               try simp only [Act.put,ZA,ZB,ZC,ZD,ZE,ZF]
               refine' eX 19 hZ fun hZ => ?_
               try simp only [Act.put,ZA,ZB,ZC,ZD,ZE,ZF]
               refine eA 20 fun K hK => ?_
               refine step_store u5 B (.tmp 89) (.tmp 80) B 6 9 _ _ u5 rfl rfl rfl (by kernel_rfl) rfl rfl rfl X5.out.row (by simp [X6.cells]) (Below.refl _ _) ?_
               intro u6 r_ b_ g_
               have R6 := Lib.hid r_
               have G6 := Lib.hid g_
               have B6 := Lib.hid (B5.out.trans b_)
               clear r_ b_ g_
               refine eE hK hZ fun hZ => ?_
               clear hK K
               try simp only [Act.put,ZA,ZB,ZC,ZD,ZE,ZF]
               refine' eX 21 hZ fun hZ => ?_
               try simp only [Act.put,ZA,ZB,ZC,ZD,ZE,ZF]
               refine' eX 22 hZ fun hZ => ?_
               try simp only [Act.put,ZA,ZB,ZC,ZD,ZE,ZF]
               refine eA 23 fun K hK => ?_
               refine step_store u6 B (.tmp 91) (.tmp 87) B 7 9 _ _ u6 rfl rfl rfl (by kernel_rfl) rfl rfl rfl R6.out (by simp [X6.cells]) (Below.refl _ _) ?_
               intro u7 r_ b_ g_
               have XF := Lib.hid (X5.out.done R6.out G6.out r_ g_)
               have BF := Lib.hid (B6.out.trans b_)
               clear r_ b_ g_
               refine eE hK hZ fun hZ => ?_
               clear hK K
               try simp only [Act.put,ZA,ZB,ZC,ZD,ZE,ZF]
               refine wpAnyE_done (by kernel_rfl) ?_ _
               clear hZ
               go_wp2_with fail
               go_roundw
               case rel => exact ⟨k + 1, by omega, by go_num, by rw [HST1.out]; exact ⟨_, _, _, XF.out⟩, BF.out⟩
               case measure => simp [intOf]; omega
              ·have N3 := Lib.hid (X2.out.newL)
               go_simp
               have X3 := Lib.hid (X2.out.alloc (.cells #[.int .i64 c] 3))
               have T3 := Lib.hid (LitAt.new u2 3 #[.int .i64 c])
               have B3 := Lib.hid (B2.out.trans ((below_alloc u2 (.cells #[.int .i64 c] 3)).mono X2.out.le))
               have T2_3 := Lib.hid (T2.out.alloc (.cells #[.int .i64 c] 3))
               refine eB hK hZ (X3.out.seen) fun hHeld hZ => ?_
               clear hK K
               try simp only [Act.put,ZA,ZB,ZC,ZD,ZE,ZF]
               generalize u2.alloc (.cells #[.int .i64 c] 3) = u3 at X3 T3 B3 T2_3 hHeld ⊢
               refine eA 10 fun K hK => ?_
               refine step_appN intsN u3 u3 B _ (.tmp 75) (.tmp 79) _ x.levels.length 1 (ints .i64 x.levels) [.int .i64 e.lev] _ _ rfl rfl rfl rfl X3.out.levels T2_3.out.lies rfl (by simp [Value.oneCell']) (Below.refl _ _) X3.out.le (by unfold maxLen; omega) (by omega) ?_
               intro v4 u4 o_ b_ g_ e_
               obtain ⟨A4, c4, rfl, _, _, _⟩ := o_.form
               have X4 := Lib.hid (X3.out.appL o_ g_ e_)
               have B4 := Lib.hid (B3.out.trans b_)
               have T3_4 := Lib.hid (T3.out.grown g_ N3.out)
               clear o_ b_ g_ e_
               refine eB hK hZ (X4.out.seen) fun hHeld hZ => ?_
               clear hK K
               try simp only [Act.put,ZA,ZB,ZC,ZD,ZE,ZF]
               refine eA 17 fun K hK => ?_
               refine step_appN intsN u4 u4 B _ (.tmp 84) (.tmp 86) _ x.classes.length 1 (ints .i64 x.classes) [.int .i64 c] _ _ rfl rfl rfl rfl X4.out.classes T3_4.out.lies rfl (by simp [Value.oneCell']) (Below.refl _ _) X4.out.le (by unfold maxLen; omega) (by omega) ?_
               intro v5 u5 o_ b_ g_ e_
               obtain ⟨A5, c5, rfl, _, _, _⟩ := o_.form
               have X5 := Lib.hid (X4.out.appC o_ g_ e_)
               have B5 := Lib.hid (B4.out.trans b_)
               clear o_ b_ g_ e_
               refine eB hK hZ (X5.out.seen) fun hHeld hZ => ?_
               clear hK K
               try simp only [Act.put,ZA,ZB,ZC,ZD,ZE,ZF]
               refine' eX 18 hZ fun hZ => ?_
               try simp only [Act.put,ZA,ZB,ZC,ZD,ZE,ZF]
               refine' eX 19 hZ fun hZ => ?_
               try simp only [Act.put,ZA,ZB,ZC,ZD,ZE,ZF]
               refine eA 20 fun K hK => ?_
               refine step_store u5 B (.tmp 89) (.tmp 80) B 6 9 _ _ u5 rfl rfl rfl (by kernel_rfl) rfl rfl rfl X5.out.row (by simp [X6.cells]) (Below.refl _ _) ?_
               intro u6 r_ b_ g_
               have R6 := Lib.hid r_
               have G6 := Lib.hid g_
               have B6 := Lib.hid (B5.out.trans b_)
               clear r_ b_ g_
               refine eE hK hZ fun hZ => ?_
               clear hK K
               try simp only [Act.put,ZA,ZB,ZC,ZD,ZE,ZF]
               refine' eX 21 hZ fun hZ => ?_
               try simp only [Act.put,ZA,ZB,ZC,ZD,ZE,ZF]
               refine' eX 22 hZ fun hZ => ?_
               try simp only [Act.put,ZA,ZB,ZC,ZD,ZE,ZF]
               refine eA 23 fun K hK => ?_
               refine step_store u6 B (.tmp 91) (.tmp 87) B 7 9 _ _ u6 rfl rfl rfl (by kernel_rfl) rfl rfl rfl R6.out (by simp [X6.cells]) (Below.refl _ _) ?_
               intro u7 r_ b_ g_
               have XF := Lib.hid (X5.out.done R6.out G6.out r_ g_)
               have BF := Lib.hid (B6.out.trans b_)
               clear r_ b_ g_
               refine eE hK hZ fun hZ => ?_
               clear hK K
               try simp only [Act.put,ZA,ZB,ZC,ZD,ZE,ZF]
               refine wpAnyE_done (by kernel_rfl) ?_ _
               clear hZ
               go_wp2_with fail
               go_roundw
               case rel => exact ⟨k + 1, by omega, by go_num, by rw [HST1.out]; exact ⟨_, _, _, XF.out⟩, BF.out⟩
               case measure => simp [intOf]; omega
             ·have N2 := Lib.hid (X1.out.newL)
              go_simp
              have X2 := Lib.hid (X1.out.alloc (.cells #[.int .i64 c] 3))
              have T2 := Lib.hid (LitAt.new u1 3 #[.int .i64 c])
              have B2 := Lib.hid (B1.out.trans ((below_alloc u1 (.cells #[.int .i64 c] 3)).mono X1.out.le))
              refine eB hK hZ (X2.out.seen) fun hHeld hZ => ?_
              clear hK K
              try simp only [Act.put,ZA,ZB,ZC,ZD,ZE,ZF]
              generalize u1.alloc (.cells #[.int .i64 c] 3) = u2 at X2 T2 B2 hHeld ⊢
              refine eA 9 fun K hK => ?_
              go_simp
              have X3 := Lib.hid (X2.out.alloc (.cells #[.int .i64 e.lev] 3))
              have T3 := Lib.hid (LitAt.new u2 3 #[.int .i64 e.lev])
              have B3 := Lib.hid (B2.out.trans ((below_alloc u2 (.cells #[.int .i64 e.lev] 3)).mono X2.out.le))
              have T2_3 := Lib.hid (T2.out.alloc (.cells #[.int .i64 e.lev] 3))
              refine eB hK hZ (X3.out.seen) fun hHeld hZ => ?_
              clear hK K
              try simp only [Act.put,ZA,ZB,ZC,ZD,ZE,ZF]
              generalize u2.alloc (.cells #[.int .i64 e.lev] 3) = u3 at X3 T3 B3 T2_3 hHeld ⊢
              refine eA 10 fun K hK => ?_
              refine step_appN intsN u3 u3 B _ (.tmp 75) (.tmp 79) _ x.levels.length 1 (ints .i64 x.levels) [.int .i64 e.lev] _ _ rfl rfl rfl rfl X3.out.levels T3.out.lies rfl (by simp [Value.oneCell']) (Below.refl _ _) X3.out.le (by unfold maxLen; omega) (by omega) ?_
              intro v4 u4 o_ b_ g_ e_
              obtain ⟨A4, c4, rfl, _, _, _⟩ := o_.form
              have X4 := Lib.hid (X3.out.appL o_ g_ e_)
              have B4 := Lib.hid (B3.out.trans b_)
              have T2_3_4 := Lib.hid (T2_3.out.grown g_ N2.out)
              clear o_ b_ g_ e_
              refine eB hK hZ (X4.out.seen) fun hHeld hZ => ?_
              clear hK K
              try simp only [Act.put,ZA,ZB,ZC,ZD,ZE,ZF]
              refine eA 17 fun K hK => ?_
              refine step_appN intsN u4 u4 B _ (.tmp 84) (.tmp 86) _ x.classes.length 1 (ints .i64 x.classes) [.int .i64 c] _ _ rfl rfl rfl rfl X4.out.classes T2_3_4.out.lies rfl (by simp [Value.oneCell']) (Below.refl _ _) X4.out.le (by unfold maxLen; omega) (by omega) ?_
              intro v5 u5 o_ b_ g_ e_
              obtain ⟨A5, c5, rfl, _, _, _⟩ := o_.form
              have X5 := Lib.hid (X4.out.appC o_ g_ e_)
              have B5 := Lib.hid (B4.out.trans b_)
              clear o_ b_ g_ e_
              refine eB hK hZ (X5.out.seen) fun hHeld hZ => ?_
              clear hK K
              try simp only [Act.put,ZA,ZB,ZC,ZD,ZE,ZF]
              refine' eX 18 hZ fun hZ => ?_
              try simp only [Act.put,ZA,ZB,ZC,ZD,ZE,ZF]
              refine' eX 19 hZ fun hZ => ?_
              try simp only [Act.put,ZA,ZB,ZC,ZD,ZE,ZF]
              refine eA 20 fun K hK => ?_
              refine step_store u5 B (.tmp 89) (.tmp 80) B 6 9 _ _ u5 rfl rfl rfl (by kernel_rfl) rfl rfl rfl X5.out.row (by simp [X6.cells]) (Below.refl _ _) ?_
              intro u6 r_ b_ g_
              have R6 := Lib.hid r_
              have G6 := Lib.hid g_
              have B6 := Lib.hid (B5.out.trans b_)
              clear r_ b_ g_
              refine eE hK hZ fun hZ => ?_
              clear hK K
              try simp only [Act.put,ZA,ZB,ZC,ZD,ZE,ZF]
              refine' eX 21 hZ fun hZ => ?_
              try simp only [Act.put,ZA,ZB,ZC,ZD,ZE,ZF]
              refine' eX 22 hZ fun hZ => ?_
              try simp only [Act.put,ZA,ZB,ZC,ZD,ZE,ZF]
              refine eA 23 fun K hK => ?_
              refine step_store u6 B (.tmp 91) (.tmp 87) B 7 9 _ _ u6 rfl rfl rfl (by kernel_rfl) rfl rfl rfl R6.out (by simp [X6.cells]) (Below.refl _ _) ?_
              intro u7 r_ b_ g_
              have XF := Lib.hid (X5.out.done R6.out G6.out r_ g_)
              have BF := Lib.hid (B6.out.trans b_)
              clear r_ b_ g_
              refine eE hK hZ fun hZ => ?_
              clear hK K
              try simp only [Act.put,ZA,ZB,ZC,ZD,ZE,ZF]
              refine wpAnyE_done (by kernel_rfl) ?_ _
              clear hZ
              go_wp2_with fail
              go_roundw
              case rel => exact ⟨k + 1, by omega, by go_num, by rw [HST1.out]; exact ⟨_, _, _, XF.out⟩, BF.out⟩
              case measure => simp [intOf]; omega
            ·have N1 := Lib.hid (X0.out.newL)
             go_simp
             have X1 := Lib.hid (X0.out.alloc (.cells #[.int .i64 c] 3))
             have T1 := Lib.hid (LitAt.new u0 3 #[.int .i64 c])
             have B1 := Lib.hid (B0.out.trans ((below_alloc u0 (.cells #[.int .i64 c] 3)).mono X0.out.le))
             refine eB hK hZ (X1.out.seen) fun hHeld hZ => ?_
             clear hK K
             try simp only [Act.put,ZA,ZB,ZC,ZD,ZE,ZF]
             generalize u0.alloc (.cells #[.int .i64 c] 3) = u1 at X1 T1 B1 hHeld ⊢
             refine eA 7 fun K hK => ?_
             go_simp
             refine (top_any u1 B B _ _ sv _ _ e st HST.out X1.out hsm).mono ?_
             rintro ed u2 ⟨rfl, b_⟩
             have X2 := Lib.hid (X1.out.below b_ (Nat.le_refl _))
             have B2 := Lib.hid (B1.out.trans (b_.mono X1.out.le))
             have T1_2 := Lib.hid (T1.out.below b_)
             clear b_
             refine eB hK hZ (X2.out.seen) fun hHeld hZ => ?_
             clear hK K
             try simp only [Act.put,ZA,ZB,ZC,ZD,ZE,ZF]
             refine' eX 8 hZ fun hZ => ?_
             try simp only [Act.put,ZA,ZB,ZC,ZD,ZE,ZF]
             refine eA 9 fun K hK => ?_
             go_simp
             have X3 := Lib.hid (X2.out.alloc (.cells #[.int .i64 e.lev] 3))
             have T3 := Lib.hid (LitAt.new u2 3 #[.int .i64 e.lev])
             have B3 := Lib.hid (B2.out.trans ((below_alloc u2 (.cells #[.int .i64 e.lev] 3)).mono X2.out.le))
             have T1_2_3 := Lib.hid (T1_2.out.alloc (.cells #[.int .i64 e.lev] 3))
             refine eB hK hZ (X3.out.seen) fun hHeld hZ => ?_
             clear hK K
             try simp only [Act.put,ZA,ZB,ZC,ZD,ZE,ZF]
             generalize u2.alloc (.cells #[.int .i64 e.lev] 3) = u3 at X3 T3 B3 T1_2_3 hHeld ⊢
             refine eA 10 fun K hK => ?_
             refine step_appN intsN u3 u3 B _ (.tmp 75) (.tmp 79) _ x.levels.length 1 (ints .i64 x.levels) [.int .i64 e.lev] _ _ rfl rfl rfl rfl X3.out.levels T3.out.lies rfl (by simp [Value.oneCell']) (Below.refl _ _) X3.out.le (by unfold maxLen; omega) (by omega) ?_
             intro v4 u4 o_ b_ g_ e_
             obtain ⟨A4, c4, rfl, _, _, _⟩ := o_.form
             have X4 := Lib.hid (X3.out.appL o_ g_ e_)
             have B4 := Lib.hid (B3.out.trans b_)
             have T1_2_3_4 := Lib.hid (T1_2_3.out.grown g_ N1.out)
             clear o_ b_ g_ e_
             refine eB hK hZ (X4.out.seen) fun hHeld hZ => ?_
             clear hK K
             try simp only [Act.put,ZA,ZB,ZC,ZD,ZE,ZF]
             refine eA 17 fun K hK => ?_
             refine step_appN intsN u4 u4 B _ (.tmp 84) (.tmp 86) _ x.classes.length 1 (ints .i64 x.classes) [.int .i64 c] _ _ rfl rfl rfl rfl X4.out.classes T1_2_3_4.out.lies rfl (by simp [Value.oneCell']) (Below.refl _ _) X4.out.le (by unfold maxLen; omega) (by omega) ?_
             intro v5 u5 o_ b_ g_ e_
             obtain ⟨A5, c5, rfl, _, _, _⟩ := o_.form
             have X5 := Lib.hid (X4.out.appC o_ g_ e_)
             have B5 := Lib.hid (B4.out.trans b_)
             clear o_ b_ g_ e_
             refine eB hK hZ (X5.out.seen) fun hHeld hZ => ?_
             clear hK K
             try simp only [Act.put,ZA,ZB,ZC,ZD,ZE,ZF]
             refine' eX 18 hZ fun hZ => ?_
             try simp only [Act.put,ZA,ZB,ZC,ZD,ZE,ZF]
             refine' eX 19 hZ fun hZ => ?_
             try simp only [Act.put,ZA,ZB,ZC,ZD,ZE,ZF]
             refine eA 20 fun K hK => ?_
             refine step_store u5 B (.tmp 89) (.tmp 80) B 6 9 _ _ u5 rfl rfl rfl (by kernel_rfl) rfl rfl rfl X5.out.row (by simp [X6.cells]) (Below.refl _ _) ?_
             intro u6 r_ b_ g_
             have R6 := Lib.hid r_
             have G6 := Lib.hid g_
             have B6 := Lib.hid (B5.out.trans b_)
             clear r_ b_ g_
             refine eE hK hZ fun hZ => ?_
             clear hK K
             try simp only [Act.put,ZA,ZB,ZC,ZD,ZE,ZF]
             refine' eX 21 hZ fun hZ => ?_
             try simp only [Act.put,ZA,ZB,ZC,ZD,ZE,ZF]
             refine' eX 22 hZ fun hZ => ?_
             try simp only [Act.put,ZA,ZB,ZC,ZD,ZE,ZF]
             refine eA 23 fun K hK => ?_
             refine step_store u6 B (.tmp 91) (.tmp 87) B 7 9 _ _ u6 rfl rfl rfl (by kernel_rfl) rfl rfl rfl R6.out (by simp [X6.cells]) (Below.refl _ _) ?_
             intro u7 r_ b_ g_
             have XF := Lib.hid (X5.out.done R6.out G6.out r_ g_)
             have BF := Lib.hid (B6.out.trans b_)
             clear r_ b_ g_
             refine eE hK hZ fun hZ => ?_
             clear hK K
             try simp only [Act.put,ZA,ZB,ZC,ZD,ZE,ZF]
             refine wpAnyE_done (by kernel_rfl) ?_ _
             clear hZ
             go_wp2_with fail
             go_roundw
             case rel => exact ⟨k + 1, by omega, by go_num, by rw [HST1.out]; exact ⟨_, _, _, XF.out⟩, BF.out⟩
             case measure => simp [intOf]; omega
          ·have HST1 := Lib.hid (HST1.out.trans (show stepX l x k c = backX x from by unfold stepX; rw [if_neg (by simp at h16 h14 h17 h15; omega), if_neg (by rw [ho]; simp), if_neg (by simpa using h22), if_pos (by simpa using h18)]))
           have HO := Lib.hid ho
           clear ho
           go_wp2_with fail
           refine (ropens_any c _).mono ?_
           rintro e wq ⟨rfl, rfl⟩
           rw [HO.out]
           go_wp2_with fail
           refine (back_any wr B B x _ e st HST.out HX.out HSM.out).mono ?_
           rintro ed w5 ⟨rfl, x5, b5⟩
           have X5 := Lib.hid x5
           have B5 := Lib.hid (BW.out.trans b5)
           clear x5 b5
           go_wp2_with fail
           go_roundw
           case rel => exact ⟨k + 1, by omega, by go_num, by rw [HST1.out]; exact X5.out, B5.out⟩
           case measure => simp [intOf]; omega
         ·obtain ⟨⟨e2, st2, hs2⟩, _⟩ := wf_end (c := c) HWF.out
          have HST1 := Lib.hid (HST1.out.trans (show stepX l x k c = endX x c from by unfold stepX; rw [if_neg (by simp at h16 h14 h17 h15; omega), if_neg (by rw [ho]; simp), if_pos (by simpa using h22)]))
          have HO := Lib.hid ho
          clear ho
          go_wp2_with fail
          refine (ropens_any c _).mono ?_
          rintro e wq ⟨rfl, rfl⟩
          rw [HO.out]
          go_wp2_with fail
          refine (endX_any wr B B x _ c e2 st2 hs2 HX.out HSM.out).mono ?_
          rintro ed w5 ⟨rfl, x5, b5⟩
          have X5 := Lib.hid x5
          have B5 := Lib.hid (BW.out.trans b5)
          clear x5 b5
          go_wp2_with fail
          go_roundw
          case rel => exact ⟨k + 1, by omega, by go_num, by rw [HST1.out]; exact X5.out, B5.out⟩
          case measure => simp [intOf]; omega
        ·have HST1 := Lib.hid (HST1.out.trans (show stepX l x k c = isolateX x l k c from by unfold stepX; rw [if_neg (by simp at h16 h14 h17 h15; omega), if_pos ho]))
         have HO := Lib.hid ho
         clear ho
         go_wp2_with fail
         refine (ropens_any c _).mono ?_
         rintro e wq ⟨rfl, rfl⟩
         rw [HO.out]
         go_wp2_with fail
         refine (isolateX_any wr B B x (some p) l cap k c e st HST.out HX.out HSM.out hl ((HB.out ▸ HL.out : Lies w B (some p) (ints .i64 l)).below BW.out)).mono ?_
         rintro ed w5 ⟨rfl, x5, b5⟩
         have X5 := Lib.hid x5
         have B5 := Lib.hid (BW.out.trans b5)
         clear x5 b5
         go_wp2_with fail
         go_roundw
         case rel => exact ⟨k + 1, by omega, by go_num, by rw [HST1.out]; exact X5.out, B5.out⟩
         case measure => simp [intOf]; omega
       ·have HST1 := Lib.hid (HST1.out.trans (show stepX l x k c = embedX x c from by unfold stepX; rw [if_pos (by simp at h15; omega)]))
        go_wp2_with fail
        refine (embed_any wr B B x _ c e st HST.out HX.out HSM.out).mono ?_
        rintro ed w5 ⟨rfl, x5, b5⟩
        have X5 := Lib.hid x5
        have B5 := Lib.hid (BW.out.trans b5)
        clear x5 b5
        go_wp2_with fail
        go_roundw
        case rel => exact ⟨k + 1, by omega, by go_num, by rw [HST1.out]; exact X5.out, B5.out⟩
        case measure => simp [intOf]; omega
      ·have HST1 := Lib.hid (HST1.out.trans (show stepX l x k c = embedX x c from by unfold stepX; rw [if_pos (by simp at h17; omega)]))
       go_wp2_with fail
       refine (embed_any wr B B x _ c e st HST.out HX.out HSM.out).mono ?_
       rintro ed w5 ⟨rfl, x5, b5⟩
       have X5 := Lib.hid x5
       have B5 := Lib.hid (BW.out.trans b5)
       clear x5 b5
       go_wp2_with fail
       go_roundw
       case rel => exact ⟨k + 1, by omega, by go_num, by rw [HST1.out]; exact X5.out, B5.out⟩
       case measure => simp [intOf]; omega
     ·have HST1 := Lib.hid (HST1.out.trans (show stepX l x k c = embedX x c from by unfold stepX; rw [if_pos (by simp at h14; omega)]))
      go_wp2_with fail
      refine (embed_any wr B B x _ c e st HST.out HX.out HSM.out).mono ?_
      rintro ed w5 ⟨rfl, x5, b5⟩
      have X5 := Lib.hid x5
      have B5 := Lib.hid (BW.out.trans b5)
      clear x5 b5
      go_wp2_with fail
      go_roundw
      case rel => exact ⟨k + 1, by omega, by go_num, by rw [HST1.out]; exact X5.out, B5.out⟩
      case measure => simp [intOf]; omega
    ·have HST1 := Lib.hid (HST1.out.trans (show stepX l x k c = embedX x c from by unfold stepX; rw [if_pos (by simp at h16; omega)]))
     go_wp2_with fail
     refine (embed_any wr B B x _ c e st HST.out HX.out HSM.out).mono ?_
     rintro ed w5 ⟨rfl, x5, b5⟩
     have X5 := Lib.hid x5
     have B5 := Lib.hid (BW.out.trans b5)
     clear x5 b5
     go_wp2_with fail
     go_roundw
     case rel => exact ⟨k + 1, by omega, by go_num, by rw [HST1.out]; exact X5.out, B5.out⟩
     case measure => simp [intOf]; omega
   ·go_wp2_with fail
    go_ret
    obtain rfl : k = l.length := by omega
    exact ⟨by rw [HB.out]; rfl, by rw [HB.out]; exact HX.out, by rw [HB.out]; exact BW.out⟩
end Go.Proofs.Ytadfleopbpomfaa
