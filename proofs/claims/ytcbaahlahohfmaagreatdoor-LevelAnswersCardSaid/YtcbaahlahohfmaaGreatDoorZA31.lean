/- Shared texts, shaken for one claim. -/
import Derived.Test.YtcbaahlahohfmaaGreatDoorZA30
namespace Go.Proofs.YtcbaahlahohfmaaGreatDoor
open Go.RowKit
def Cutting (cl lv s : List Int) (t f : Nat) (Lo : List (List Int)) : Prop := (t ≤ s.length ∧ f < t ∧ listsN cl lv s t = Lo ++ [(s.take t).drop f]) ∨ (t = s.length + 1 ∧ listsN cl lv s s.length = Lo)
theorem cutting_start {cl lv s : List Int} (h : 0 < s.length) : Cutting cl lv s 1 0 [] := by
 refine .inl ⟨h, by omega, ?_⟩
 have hf : freshAt cl lv s 0 = true := rfl
 rw [listsN, hf, if_pos rfl]
 have e : s.take 1 = [s.getD 0 0] := by
  rcases s with _ | ⟨x, s⟩
  ·simp at h
  ·simp
 rw [e]
 simp [listsN, addLast]
theorem cutting_end {cl lv s : List Int} {f : Nat} {Lo : List (List Int)} (h : Cutting cl lv s s.length f Lo) : f < s.length ∧ Cutting cl lv s (s.length + 1) s.length (Lo ++ [(s.take s.length).drop f]) := by
 rcases h with ⟨_, h1, h2⟩ | ⟨h1, _⟩
 ·exact ⟨h1, .inr ⟨rfl, h2⟩⟩
 ·omega
theorem cutting_fresh {cl lv s : List Int} {t f : Nat} {Lo : List (List Int)} (h : Cutting cl lv s t f Lo) (ht : t < s.length) (hf : freshAt cl lv s t = true) : f < t ∧ Cutting cl lv s (t + 1) t (Lo ++ [(s.take t).drop f]) := by
 rcases h with ⟨_, h1, h2⟩ | ⟨h1, _⟩
 ·refine ⟨h1, .inl ⟨ht, by omega, ?_⟩⟩
  rw [listsN, hf, if_pos rfl, h2, addLast]
  have e : (s.take (t + 1)).drop t = [s.getD t 0] := by
   rw [List.take_succ_eq_append_getElem ht, List.drop_append_of_le_length (by simp; omega), List.drop_of_length_le (by simp; omega)]
   simp [ht]
  rw [e]
  simp
 ·omega
theorem cutting_more {cl lv s : List Int} {t f : Nat} {Lo : List (List Int)} (h : Cutting cl lv s t f Lo) (ht : t < s.length) (hf : freshAt cl lv s t = false) : Cutting cl lv s (t + 1) f Lo := by
 rcases h with ⟨_, h1, h2⟩ | ⟨h1, _⟩
 ·refine .inl ⟨ht, by omega, ?_⟩
  rw [listsN, hf, if_neg (by simp), h2, addLast]
  have e : (s.take (t + 1)).drop f = (s.take t).drop f ++ [s.getD t 0] := by
   rw [List.take_succ_eq_append_getElem ht, List.drop_append_of_le_length (by simp; omega)]
   simp [ht]
  rw [e]
  simp
 ·omega
theorem fresh_ends {cl lv s : List Int} {k q q' : Nat} (h0 : 0 < k) (h1 : s.getD (k - 1) 0 = (q : Int)) (h2 : s.getD k 0 = (q' : Int)) : (cl.getD q 0 == 10 || lv.getD q 0 != lv.getD q' 0) = freshAt cl lv s k := by
 unfold freshAt
 rw [show (k == 0) = false by simp; omega, h1, h2, Int.toNat_natCast, Int.toNat_natCast, Bool.false_or, Bool.or_comm]
 congr 1
 rw [Bool.eq_iff_iff, bne_iff_ne, bne_iff_ne]
 exact ⟨fun a b => a b.symm, fun a b => a b.symm⟩
def RowedRY (w : World) (L : List (List Int)) (ed : Ending) (w' : World) : Prop := ∃ A c, ed = .returned (.slice A L.length c) ∧ RunsR w' A L ∧ RunsY w' w.heap.size A L.length ∧ Below w.heap.size w w'
set_option maxRecDepth 20000 in
set_option maxHeartbeats 8000000 in
theorem ssplit_anyY (A : Option Addr) (cl : List Int) (c : Nat) (A' : Option Addr) (lv : List Int) (c' : Nat) (w : World) (h : Lies w w.heap.size A (ints .i64 cl)) (h' : Lies w w.heap.size A' (ints .i64 lv)) (hl : cl.length ≤ 1000000) :
 Calls Tryz.prog 47 #[.slice A cl.length c, .slice A' lv.length c'] w (RowedRY w (listsI cl lv)) := by
 by_cases he : cl.length = lv.length
 ·have hLI : listsI cl lv = listsN cl lv (seenI cl) (seenI cl).length := by rw [listsI, if_pos he]
  rw [hLI]
  have H := Lib.hid h
  have H' := Lib.hid h'
  obtain ⟨s, hs⟩ : ∃ s, seenI cl = s := ⟨_, rfl⟩
  have HS := Lib.hid hs
  have HSL : Hid (s.length ≤ cl.length) := Lib.hid (by rw [← hs]; exact seenN_le cl cl.length)
  have HSA : Hid (∀ j (h : j < s.length), ∃ q : Nat, s[j] = (q : Int) ∧ q < cl.length) := Lib.hid (by subst hs; exact seenN_at cl cl.length)
  have hne : ((cl.length : Int) != (lv.length : Int)) = false := by rw [he]; simp
  have HE := Lib.hid he
  have hs6 : s.length ≤ 1000000 := by have := HSL.out; omega
  rw [hs]
  clear h h' hs he hLI
  go_enter Tryz.func47, Tryz.ntmps47
  go_wp2_with fail
  refine (skept_any A cl c w H.out hl).mono ?_
  rintro e w1 ⟨v1, rfl, o1, b1⟩
  rw [HS.out] at o1
  obtain ⟨A1, c1, rfl, l1, hc1, _⟩ := o1.form
  rw [ints, List.length_map] at hc1
  have L1 := Lib.hid l1
  have O1 := Lib.hid o1
  have B1 := Lib.hid b1
  have C1 := Lib.hid hc1
  simp only [ints, List.length_map]
  clear o1 b1 l1 hne hc1
  by_cases hpos : 0 < s.length
  ·obtain ⟨g, hg⟩ : ∃ g, A1 = some ⟨g, 0, none⟩ := by
    obtain ⟨g, c2, hv, _⟩ := O1.out.inRow (by rw [ints, List.length_map]; exact hpos)
    injection hv with hv _ _
    exact ⟨g, hv⟩
   subst hg
   go_wp2_with fail
   go_loopw [8, 5, 7] (fun iv ov fv wr => ∃ (t f : Nat) (es : List Value) (Lo : List (List Int)), 1 ≤ t ∧ t ≤ s.length + 1 ∧ f ≤ s.length ∧ iv = .int .i64 t ∧ fv = .int .i64 f ∧ Own wr w1.heap.size 22 ov es ∧ Hid (Cuts g s es Lo) ∧ Hid (Cutting cl lv s t f Lo) ∧ Below w1.heap.size w1 wr ∧ es.length < t) (fun iv _ _ _ => s.length + 1 - (intOf iv).toNat)
   case atStart => exact ⟨1, 0, [], [], by omega, by omega, by omega, rfl, rfl, Own.empty _ _ _, Lib.hid (Cuts.nil _ _), Lib.hid (cutting_start hpos), Below.refl _ _, by simp⟩
   case round =>
    obtain ⟨t, f, es, Lo, ht1, ht2, hf2, rfl, rfl, ho, HCu, HCt, hb, hes⟩ := hrel
    have HO := Lib.hid ho
    have HB := Lib.hid hb
    clear ho hb
    have P1 := (L1.out.below HB.out)
    by_cases hlt : t ≤ s.length
    ·obtain ⟨k, hk⟩ : ∃ k, t - 1 = k := ⟨_, rfl⟩
     have b0 : (t : Int) ≤ (s.length : Int) := by omega
     have b1 : (0 : Int) ≤ (k : Int) := by omega
     have b2 : (k : Int) < (s.length : Int) := by omega
     have hwk : IntKind.i64.wrap ((t : Int) - 1) = (k : Int) := by rw [IntWalk.i64_in _ (by omega)]; omega
     have hww : IntKind.i64.wrap ((t : Int) + 1) = ((t + 1 : Nat) : Int) := by rw [IntWalk.i64_in _ (by omega)]; omega
     obtain ⟨q, hq1, hq2⟩ := HSA.out k (by omega)
     obtain ⟨ps, hps, _, hcs⟩ := P1.int (i := k) (by omega)
     injection hps with hps
     subst hps
     rw [hq1, add_plain, Nat.zero_add] at hcs
     have hkg : s.getD (t - 1) 0 = (q : Int) := by rw [hk]; simp [show k < s.length by omega, hq1]
     obtain ⟨fr, hfr⟩ : ∃ b, (t == s.length || freshAt cl lv s t) = b := ⟨_, rfl⟩
     have HFR := Lib.hid hfr
     clear hfr
     go_upto_region 9 with fail
     go_cut [39] (fun v wx => v = .bool fr ∧ Below wr.heap.size wr wx)
     case first =>
      by_cases hte : t = s.length
      ·have hff : Hid (true = fr) := Lib.hid (by rw [← HFR.out, hte]; simp)
       have hteI : ((t : Int) == (s.length : Int)) = true := by simp [hte]
       clear hte
       go_wp2_with fail
       refine wp_region_held_drew (S := fun _ => True) (by kernel_rfl) (trivial) (fun hHeld => ?_)
       refine' hY 0 ?_
       try simp only [Act.put,ZA,ZB,ZD,ZE,ZF]
       refine' hY 1 ?_
       try simp only [Act.put,ZA,ZB,ZC,ZD,ZE,ZF]
       refine' hY 2 ?_
       try simp only [Act.put,ZA,ZB,ZC,ZD,ZE,ZF]
       refine' hY 3 ?_
       try simp only [Act.put,ZA,ZB,ZC,ZD,ZE,ZF]
       refine' hY 4 ?_
       try simp only [Act.put,ZA,ZB,ZC,ZD,ZE,ZF]
       refine' hN 5 ?_
       try simp only [Act.put,ZA,ZB,ZC,ZD,ZE,ZF]
       refine' hN 6 ?_
       try simp only [Act.put,ZA,ZB,ZC,ZD,ZE,ZF]
       refine' hN 7 ?_
       try simp only [Act.put,ZA,ZB,ZC,ZD,ZE,ZF]
       refine' hN 8 ?_
       try simp only [Act.put,ZA,ZB,ZC,ZD,ZE,ZF]
       refine' hN 9 ?_
       try simp only [Act.put,ZA,ZB,ZC,ZD,ZE,ZF]
       refine' hN 10 ?_
       try simp only [Act.put,ZA,ZB,ZC,ZD,ZE,ZF]
       refine' hN 11 ?_
       try simp only [Act.put,ZA,ZB,ZC,ZD,ZE,ZF]
       refine' hN 12 ?_
       try simp only [Act.put,ZA,ZB,ZC,ZD,ZE,ZF]
       refine' hN 13 ?_
       try simp only [Act.put,ZA,ZB,ZC,ZD,ZE,ZF]
       refine' hN 14 ?_
       try simp only [Act.put,ZA,ZB,ZC,ZD,ZE,ZF]
       refine' hN 15 ?_
       try simp only [Act.put,ZA,ZB,ZC,ZD,ZE,ZF]
       refine' hN 16 ?_
       try simp only [Act.put,ZA,ZB,ZC,ZD,ZE,ZF]
       refine' hY 17 ?_
       try simp only [Act.put,ZA,ZB,ZC,ZD,ZE,ZF]
       refine wpAnyH_done (by kernel_rfl) ?_ _
       go_wp2_with fail
       go_meet
       exact ⟨by rw [hff.out], by exact below_same (Below.refl _ _) rfl rfl rfl rfl⟩
      ·obtain ⟨q', hq1', hq2'⟩ := HSA.out t (by omega)
       obtain ⟨ps', hps', _, hcs'⟩ := P1.int (i := t) (by omega)
       injection hps' with hps'
       subst hps'
       rw [hq1', add_plain, Nat.zero_add] at hcs'
       have hff : Hid ((cl.getD q 0 == 10 || lv.getD q 0 != lv.getD q' 0) = fr) := Lib.hid (by
        rw [← HFR.out, fresh_ends (by omega) hkg (show s.getD t 0 = (q' : Int) by simp [show t < s.length by omega, hq1'])]
        rw [show (t == s.length) = false by simpa using hte]; rfl)
       have hteI : ((t : Int) == (s.length : Int)) = false := by simp; omega
       have b3 : (t : Int) < (s.length : Int) := by omega
       have b4 : (0 : Int) ≤ (t : Int) := by omega
       have hcr : wr.drew.cell? ⟨g, k, none⟩ = some (.int .i64 q) ∧ wr.drew.cell? ⟨g, t, none⟩ = some (.int .i64 q') := ⟨hcs, hcs'⟩
       have HCL := Lib.hid (Lies.sameHeap ((H.out.up B1.out).below HB.out) (w' := wr.drew) rfl)
       have HLV := Lib.hid (Lies.sameHeap ((H'.out.up B1.out).below HB.out) (w' := wr.drew) rfl)
       clear hte hk hq1 hq1' hcs hcs' hkg
       go_wp2_with fail
       refine wp_region_held_drew (S := fun w' => w'.cell? ⟨g, k, none⟩ = some (.int .i64 q) ∧ w'.cell? ⟨g, t, none⟩ = some (.int .i64 q')) (by kernel_rfl) (hcr) (fun hHeld => ?_)
       refine' hY 0 ?_
       try simp only [Act.put,ZA,ZB,ZD,ZE,ZF]
       refine' hY 1 ?_
       try simp only [Act.put,ZA,ZB,ZC,ZD,ZE,ZF]
       refine' hY 2 ?_
       try simp only [Act.put,ZA,ZB,ZC,ZD,ZE,ZF]
       refine' hY 3 ?_
       try simp only [Act.put,ZA,ZB,ZC,ZD,ZE,ZF]
       refine' hY 4 ?_
       try simp only [Act.put,ZA,ZB,ZC,ZD,ZE,ZF]
       refine' hY 5 ?_
       try simp only [Act.put,ZA,ZB,ZC,ZD,ZE,ZF]
       refine' hY 6 ?_
       try simp only [Act.put,ZA,ZB,ZC,ZD,ZE,ZF]
       refine' hY 7 ?_
       try simp only [Act.put,ZA,ZB,ZC,ZD,ZE,ZF]
       refine' hY 8 ?_
       try simp only [Act.put,ZA,ZB,ZC,ZD,ZE,ZF]
       refine' hY 9 ?_
       try simp only [Act.put,ZA,ZB,ZC,ZD,ZE,ZF]
       refine' hY 10 ?_
       try simp only [Act.put,ZA,ZB,ZC,ZD,ZE,ZF]
       refine' hY 11 ?_
       try simp only [Act.put,ZA,ZB,ZC,ZD,ZE,ZF]
       refine' hY 12 ?_
       try simp only [Act.put,ZA,ZB,ZC,ZD,ZE,ZF]
       refine' hY 13 ?_
       try simp only [Act.put,ZA,ZB,ZC,ZD,ZE,ZF]
       refine' hY 14 ?_
       try simp only [Act.put,ZA,ZB,ZC,ZD,ZE,ZF]
       refine' hY 15 ?_
       try simp only [Act.put,ZA,ZB,ZC,ZD,ZE,ZF]
       refine hA 16 fun K hK => ?_
       go_simp
       refine (sends_any A cl c A' lv c' q q' _ (HCL.out.wider HB.out.size) (HLV.out.wider HB.out.size) hq2 (by have := HE.out; omega) (by have := HE.out; omega)).mono ?_
       rintro e w5 ⟨rfl, b5⟩
       rw [hff.out]
       have B5 := Lib.hid (show Below wr.heap.size wr w5 from ⟨b5.os, b5.tape, b5.output, b5.size, b5.block⟩)
       clear b5
       go_wp2_with fail
       refine hK.out _ _ (⟨by rw [B5.out.cell (World.block_lt_of_cell? wr.drew _ hcr.1)]; exact hcr.1, by rw [B5.out.cell (World.block_lt_of_cell? wr.drew _ hcr.2)]; exact hcr.2⟩) (fun hHeld => ?_)
       clear hK K
       try simp only [Act.put,ZA,ZB,ZC,ZD,ZE,ZF]
       refine' hY 17 ?_
       try simp only [Act.put,ZA,ZB,ZC,ZD,ZE,ZF]
       refine wpAnyH_done (by kernel_rfl) ?_ _
       go_wp2_with fail
       go_meet
       exact ⟨rfl, by exact below_same B5.out rfl rfl rfl rfl⟩
     case rest =>
      obtain ⟨rfl, hbx⟩ := hcut
      have BX := Lib.hid (HB.out.trans (hbx.mono HB.out.size))
      have OX := Lib.hid (HO.out.below hbx (Nat.le_refl _))
      clear hbx hcs hkg hq1 hk P1 hwk
      rcases fr with _ | _
      ·have hfr : t < s.length ∧ freshAt cl lv s t = false := by
        have := HFR.out
        rw [Bool.or_eq_false_iff] at this
        refine ⟨?_, this.2⟩
        have h1 := this.1
        simp at h1; omega
       have HC2 := Lib.hid (cutting_more HCt.out hfr.1 hfr.2)
       clear hfr
       go_wp2_with fail
       go_roundw
       case rel => exact ⟨t + 1, f, es, Lo, by omega, by omega, by omega, by go_num, rfl, OX.out, HCu, HC2, BX.out, by omega⟩
       case measure => simp [intOf]; omega
      ·have hfr : f < t ∧ Cutting cl lv s (t + 1) t (Lo ++ [(s.take t).drop f]) := by
        rcases Nat.lt_or_ge t s.length with h1 | h1
        ·have := HFR.out
         rw [show (t == s.length) = false by simp; omega, Bool.false_or] at this
         exact cutting_fresh HCt.out h1 this
        ·obtain rfl : t = s.length := by omega
         exact cutting_end HCt.out
       have hft := hfr.1
       have HC2 := Lib.hid hfr.2
       have hb3 : (f : Int) ≤ (t : Int) := by omega
       have hb4 : (0 : Int) ≤ (f : Int) := by omega
       have CC1 := C1.out
       clear hfr
       go_wp2_with (first
        | (refine cut_plain intsT _ _ _ _ _ f t g s.length c1 rfl rfl rfl rfl rfl rfl hft (by omega) ?_)
        | (at_builtin; refine app_lit nestT w1 wc w1.heap.size _ _ #[.slice (some ⟨g, f, none⟩) (t - f) (t - f)] 1 _ es rfl rfl rfl rfl OX.out (by simp [Value.oneCell']) BX.out BX.out.size (by unfold maxLen; simp; omega) (by simp; omega) ?_; intro v2 w2 o2 b2 _ _; have O2 := Lib.hid o2; have B2 := Lib.hid b2; clear o2 b2)
        | fail)
       go_roundw
       case rel => exact ⟨t + 1, t, _, _, by omega, by omega, by omega, by go_num, rfl, O2.out, Lib.hid (HCu.out.push hft hlt), HC2, B2.out, by simp; omega⟩
       case measure => simp [intOf]; omega
    ·have hte : t = s.length + 1 := by omega
     have hge : ¬ (t : Int) ≤ (s.length : Int) := by omega
     have HLo : Hid (listsN cl lv s s.length = Lo) := Lib.hid (by
      rcases HCt.out with ⟨h1, _⟩ | ⟨_, h1⟩
      ·omega
      ·exact h1)
     go_wp2_with fail
     go_ret
     rw [HLo.out]
     obtain ⟨A2, c2, hv2, l2, _, _⟩ := HO.out.form
     rw [hv2, HCu.out.len]
     exact ⟨_, _, rfl, HCu.out.read (O1.out.below HB.out (Nat.le_refl _)) l2, HCu.out.young l2 (Own.inside O1.out g rfl).1, B1.out.trans (HB.out.mono B1.out.size)⟩
  ·have hs0 : s = [] := List.eq_nil_of_length_eq_zero (by omega)
   subst hs0
   simp only [List.length_nil]
   go_wp2_with fail
   go_loopw [8, 5] (fun iv ov wr => iv = .int .i64 1 ∧ ov = .slice none 0 0 ∧ wr = w1) (fun _ _ _ => 0)
   case atStart => exact ⟨rfl, rfl, rfl⟩
   case round =>
    obtain ⟨rfl, rfl, rfl⟩ := hrel
    go_wp2_with fail
    go_ret
    exact ⟨_, _, rfl, ⟨[], rfl, Lies.empty, fun j h1 => by simp at h1⟩, fun p _ k hk => absurd hk (Nat.not_lt_zero k), B1.out⟩
 ·have hL : listsI cl lv = [] := by rw [listsI, if_neg he]
  rw [hL]
  have hne : ((cl.length : Int) != (lv.length : Int)) = true := by simp; omega
  go_enter Tryz.func47, Tryz.ntmps47
  go_wp2_with fail
  go_ret
  exact ⟨_, _, rfl, ⟨[], rfl, Lies.empty, fun j h1 => by simp at h1⟩, fun p _ k hk => absurd hk (Nat.not_lt_zero k), Below.refl _ _⟩
end Go.Proofs.YtcbaahlahohfmaaGreatDoor
namespace Go.Proofs.YtcbaahlahohfmaaGreatDoor
open Go.RowKit
def levW (lv : List Int) (base : Int) (L : List (List Int)) (i : Int) : Int := if i < 0 ∨ (L.length : Int) ≤ i then base else lv.getD (headI (L.getD i.toNat [])).toNat 0
theorem levW_out {lv : List Int} {base : Int} {L : List (List Int)} {i : Int} (h : i < 0 ∨ (L.length : Int) ≤ i) : levW lv base L i = base := by rw [levW, if_pos h]
theorem levW_in {lv : List Int} {base : Int} {L : List (List Int)} {k : Nat} (h : k < L.length) : levW lv base L (k : Int) = lv.getD (headI L[k]).toNat 0 := by
 rw [levW, if_neg (by omega), Int.toNat_natCast, show L.getD k [] = L[k] by simp [h]]
theorem Within.head {L : List (List Int)} {n : Nat} (h : Within L n) {i : Nat} (hi : i < L.length) : ∃ q : Nat, headI L[i] = (q : Int) ∧ q < n := by
 obtain ⟨h1, _, h2⟩ := h _ (List.getElem_mem hi)
 have hp := List.length_pos_iff.2 h1
 refine h2 _ ?_
 rw [headI, show L[i].getD 0 0 = L[i][0] by simp [hp]]
 exact List.getElem_mem _
abbrev walkV (A : Option Addr) (n c : Nat) (A' : Option Addr) (n' c' : Nat) (base : Int) (Ar : Option Addr) (nr cr : Nat) : Value := .agg #[.slice A n c, .slice A' n' c', .int .i64 base, .slice Ar nr cr]
set_option maxRecDepth 20000 in
set_option maxHeartbeats 4000000 in
theorem slevel_any (A : Option Addr) (n c : Nat) (A' : Option Addr) (lv : List Int) (c' : Nat) (base : Int) (Ar : Option Addr) (L : List (List Int)) (cr : Nat) (i : Int) (w : World)
 (h' : Lies w w.heap.size A' (ints .i64 lv)) (hr : RunsR w Ar L) (hW : Within L lv.length) :
 Calls Tryz.prog 49 #[walkV A n c A' lv.length c' base Ar L.length cr, .int .i64 i] w fun ed w' => ed = .returned (.int .i64 (levW lv base L i)) ∧ Below w.heap.size w w' := by
 by_cases h0 : i < 0
 ·rw [levW_out (.inl h0)]
  clear h' hr hW
  go_enter Tryz.func49, Tryz.ntmps49
  go_wp2_with fail
  go_ret
  exact ⟨rfl, below_alloc _ _⟩
 ·by_cases h1 : (L.length : Int) ≤ i
  ·rw [levW_out (.inr h1)]
   clear h' hr hW
   go_enter Tryz.func49, Tryz.ntmps49
   go_wp2_with fail
   go_ret
   exact ⟨rfl, below_alloc _ _⟩
  ·obtain ⟨k, rfl⟩ : ∃ k : Nat, i = k := ⟨i.toNat, by omega⟩
   have hk : k < L.length := by omega
   obtain ⟨q, hq, hql⟩ := hW.head hk
   obtain ⟨p, b, off, rfl, hpb, hbb, hcell, hc0, _, _⟩ := hr.at' hk (hW _ (List.getElem_mem hk)).1
   obtain ⟨pv, rfl, hpvb, hcv⟩ := h'.int hql
   obtain ⟨x, hx⟩ : ∃ x, lv[q] = x := ⟨_, rfl⟩
   rw [levW_in hk, hq, Int.toNat_natCast, show lv.getD q 0 = x by simp [hql, hx]]
   obtain ⟨m, hm⟩ : ∃ m, L[k].length = m := ⟨_, rfl⟩
   have hm0 : 0 < m := by rw [← hm]; exact List.length_pos_iff.2 (hW _ (List.getElem_mem hk)).1
   rw [hm] at hcell
   rw [hq] at hc0
   rw [hx] at hcv
   have b0 : (0 : Int) ≤ (k : Int) := by omega
   have b1 : (k : Int) < (L.length : Int) := by omega
   have b2 : (0 : Int) ≤ (q : Int) := by omega
   have b3 : (q : Int) < (lv.length : Int) := by omega
   have b4 : (0 : Int) < (m : Int) := by omega
   have hs : Hid (∀ o : Obj, (w.alloc o).cell? (p.add k) = some (.slice (some ⟨b, off, none⟩) m m) ∧ (w.alloc o).cell? ⟨b, off, none⟩ = some (.int .i64 q) ∧ (w.alloc o).cell? (pv.add q) = some (.int .i64 x)) :=
    Lib.hid fun o => ⟨by rw [(below_alloc w o).cell (by rw [add_block]; exact hpb)]; exact hcell, by rw [(below_alloc w o).cell hbb]; exact hc0, by rw [(below_alloc w o).cell (by rw [add_block]; exact hpvb)]; exact hcv⟩
   clear h' hr hW hq hx hm hcell hc0 hcv h0 h1 hpb hbb hpvb
   go_enter Tryz.func49, Tryz.ntmps49
   go_wp2_with fail
   refine wp_region_E (S := fun w' => w'.cell? ⟨w.heap.size, 1, none⟩ = some (.slice (some pv) lv.length c') ∧ w'.cell? ⟨w.heap.size, 3, none⟩ = some (.slice (some p) L.length cr) ∧ w'.cell? (p.add k) = some (.slice (some ⟨b, off, none⟩) m m) ∧ w'.cell? ⟨b, off, none⟩ = some (.int .i64 q) ∧ w'.cell? (pv.add q) = some (.int .i64 x)) [] (by kernel_rfl) (⟨boxed (below_drawn (Below.refl _ _) 1) rfl, boxed (below_drawn (Below.refl _ _) 1) rfl, hs.out _⟩) (fun hHeld hZ => ?_)
   refine' eY 0 hHeld hZ fun hZ => ?_
   try simp only [Act.put,ZA,ZB,ZD,ZE,ZF]
   refine' eY 1 hHeld hZ fun hZ => ?_
   try simp only [Act.put,ZA,ZB,ZC,ZD,ZE,ZF]
   refine' eY 2 hHeld hZ fun hZ => ?_
   try simp only [Act.put,ZA,ZB,ZC,ZD,ZE,ZF]
   refine' eY 3 hHeld hZ fun hZ => ?_
   try simp only [Act.put,ZA,ZB,ZC,ZD,ZE,ZF]
   refine' eY 4 hHeld hZ fun hZ => ?_
   try simp only [Act.put,ZA,ZB,ZC,ZD,ZE,ZF]
   refine' eY 5 hHeld hZ fun hZ => ?_
   try simp only [Act.put,ZA,ZB,ZC,ZD,ZE,ZF]
   refine' eY 6 hHeld hZ fun hZ => ?_
   try simp only [Act.put,ZA,ZB,ZC,ZD,ZE,ZF]
   refine' eY 7 hHeld hZ fun hZ => ?_
   try simp only [Act.put,ZA,ZB,ZC,ZD,ZE,ZF]
   refine' eY 8 hHeld hZ fun hZ => ?_
   try simp only [Act.put,ZA,ZB,ZC,ZD,ZE,ZF]
   refine' eY 9 hHeld hZ fun hZ => ?_
   try simp only [Act.put,ZA,ZB,ZC,ZD,ZE,ZF]
   refine' eY 10 hHeld hZ fun hZ => ?_
   try simp only [Act.put,ZA,ZB,ZC,ZD,ZE,ZF]
   refine' eY 11 hHeld hZ fun hZ => ?_
   try simp only [Act.put,ZA,ZB,ZC,ZD,ZE,ZF]
   refine wpAnyE_done (by kernel_rfl) ?_ _
   clear hZ
   go_wp2_with fail
   go_ret
   exact ⟨rfl, by exact below_same (below_alloc w _) rfl rfl rfl rfl⟩
set_option maxRecDepth 20000 in
set_option maxHeartbeats 4000000 in
theorem ssos_any (A : Option Addr) (n c : Nat) (A' : Option Addr) (lv : List Int) (c' : Nat) (base : Int) (Ar : Option Addr) (L : List (List Int)) (cr : Nat) (k : Nat) (w : World)
 (h' : Lies w w.heap.size A' (ints .i64 lv)) (hr : RunsR w Ar L) (hW : Within L lv.length) (hk : k ≤ 1000000) :
 Calls Tryz.prog 50 #[walkV A n c A' lv.length c' base Ar L.length cr, .int .i64 (k : Int)] w fun ed w' => ed = .returned (.int .i64 (dirL (max (levW lv base L k) (levW lv base L ((k : Int) - 1))))) ∧ Below w.heap.size w w' := by
 have H' := Lib.hid h'
 have HR := Lib.hid hr
 have HW := Lib.hid hW
 obtain ⟨x, hx⟩ : ∃ x, levW lv base L k = x := ⟨_, rfl⟩
 obtain ⟨y, hy⟩ : ∃ x, levW lv base L ((k : Int) - 1) = x := ⟨_, rfl⟩
 rw [hx, hy]
 have hwk : IntKind.i64.wrap ((k : Int) - 1) = (k : Int) - 1 := by rw [IntWalk.i64_in _ (by omega)]
 have lev1 : Hid (∀ u, Below w.heap.size w u → Calls Tryz.prog 49 #[walkV A n c A' lv.length c' base Ar L.length cr, .int .i64 (k : Int)] u fun ed w' => ed = .returned (.int .i64 x) ∧ Below u.heap.size u w') :=
  Lib.hid fun u hu => hx ▸ slevel_any A n c A' lv c' base Ar L cr k u (H'.out.up hu) (HR.out.up hu) HW.out
 have lev2 : Hid (∀ u, Below w.heap.size w u → Calls Tryz.prog 49 #[walkV A n c A' lv.length c' base Ar L.length cr, .int .i64 ((k : Int) - 1)] u fun ed w' => ed = .returned (.int .i64 y) ∧ Below u.heap.size u w') :=
  Lib.hid fun u hu => hy ▸ slevel_any A n c A' lv c' base Ar L cr ((k : Int) - 1) u (H'.out.up hu) (HR.out.up hu) HW.out
 clear h' hr hW hx hy hk
 obtain ⟨z, hz⟩ : ∃ z, max x y = z := ⟨_, rfl⟩
 rw [hz]
 have SK : Hid (∀ w', Below (w.alloc (.cells #[.slice A n c, .slice A' lv.length c', .int .i64 base, .slice Ar L.length cr] 64)).heap.size (w.alloc (.cells #[.slice A n c, .slice A' lv.length c', .int .i64 base, .slice Ar L.length cr] 64)) w' →
  w'.cell? ⟨w.heap.size, 0, none⟩ = some (.slice A n c) ∧ w'.cell? ⟨w.heap.size, 1, none⟩ = some (.slice A' lv.length c') ∧ w'.cell? ⟨w.heap.size, 2, none⟩ = some (.int .i64 base) ∧ w'.cell? ⟨w.heap.size, 3, none⟩ = some (.slice Ar L.length cr)) :=
  Lib.hid fun w' h => ⟨boxed h rfl, boxed h rfl, boxed h rfl, boxed h rfl⟩
 obtain ⟨W, hW⟩ : ∃ W, w.alloc (.cells #[.slice A n c, .slice A' lv.length c', .int .i64 base, .slice Ar L.length cr] 64) = W := ⟨_, rfl⟩
 have BW : Hid (Below w.heap.size w W) := Lib.hid (hW ▸ below_alloc w _)
 rw [hW] at SK
 go_enter Tryz.func50, Tryz.ntmps50
 rcases Decidable.em (x < y) with hxy | hxy
 ·have HZ : Hid (y = z) := Lib.hid (by rw [← hz]; omega)
  have HZM := Lib.hid hz
  clear hz
  go_wp2_with fail
  clear hW
  refine wp_region_E (S := fun w' => w'.cell? ⟨w.heap.size, 0, none⟩ = some (.slice A n c) ∧ w'.cell? ⟨w.heap.size, 1, none⟩ = some (.slice A' lv.length c') ∧ w'.cell? ⟨w.heap.size, 2, none⟩ = some (.int .i64 base) ∧ w'.cell? ⟨w.heap.size, 3, none⟩ = some (.slice Ar L.length cr)) [] (by kernel_rfl) (SK.out _ (by exact below_same (Below.refl W.heap.size W) rfl rfl rfl rfl)) (fun hHeld hZ => ?_)
  refine' eY 0 hHeld hZ fun hZ => ?_
  try simp only [Act.put,ZA,ZB,ZD,ZE,ZF]
  refine' eY 1 hHeld hZ fun hZ => ?_
  try simp only [Act.put,ZA,ZB,ZC,ZD,ZE,ZF]
  refine' eY 3 hHeld hZ fun hZ => ?_
  try simp only [Act.put,ZA,ZB,ZC,ZD,ZE,ZF]
  refine' eY 4 hHeld hZ fun hZ => ?_
  try simp only [Act.put,ZA,ZB,ZC,ZD,ZE,ZF]
  refine' eY 5 hHeld hZ fun hZ => ?_
  try simp only [Act.put,ZA,ZB,ZC,ZD,ZE,ZF]
  refine eA 2 fun K hK => ?_
  go_simp
  refine (lev1.out _ (by exact below_same BW.out rfl rfl rfl rfl)).mono ?_
  rintro e w2 ⟨rfl, b2⟩
  have B2 := Lib.hid (show Below W.heap.size W w2 from ⟨b2.os, b2.tape, b2.output, b2.size, b2.block⟩)
  clear b2
  refine eB hK hZ (SK.out _ B2.out) fun hHeld hZ => ?_
  clear hK K
  try simp only [Act.put,ZA,ZB,ZC,ZD,ZE,ZF]
  refine eA 6 fun K hK => ?_
  go_simp
  refine (lev2.out _ (BW.out.trans (B2.out.mono BW.out.size))).mono ?_
  rintro e w3 ⟨rfl, b3⟩
  have B3 := Lib.hid (below_then B2.out b3)
  clear b3
  refine eB hK hZ (SK.out _ B3.out) fun hHeld hZ => ?_
  clear hK K
  try simp only [Act.put,ZA,ZB,ZC,ZD,ZE,ZF]
  refine' eY 7 hHeld hZ fun hZ => ?_
  try simp only [Act.put,ZA,ZB,ZC,ZD,ZE,ZF]
  refine eA 8 fun K hK => ?_
  go_simp
  refine (sdir_any _ _).mono ?_
  rintro e w4 ⟨rfl, b4⟩
  have B4 := Lib.hid (below_then B3.out b4)
  clear b4
  refine eB hK hZ (SK.out _ B4.out) fun hHeld hZ => ?_
  clear hK K
  try simp only [Act.put,ZA,ZB,ZC,ZD,ZE,ZF]
  refine' eY 9 hHeld hZ fun hZ => ?_
  try simp only [Act.put,ZA,ZB,ZC,ZD,ZE,ZF]
  refine wpAnyE_done (by kernel_rfl) ?_ _
  clear hZ
  go_wp2_with fail
  go_ret
  exact ⟨by first | (rw [HZ.out]; rfl) | (rw [← HZM.out]; rfl), by exact below_same (BW.out.trans (B4.out.mono BW.out.size)) rfl rfl rfl rfl⟩
 ·have HZ : Hid (x = z) := Lib.hid (by rw [← hz]; omega)
  have HZM := Lib.hid hz
  clear hz
  go_wp2_with fail
  clear hW
  refine wp_region_E (S := fun w' => w'.cell? ⟨w.heap.size, 0, none⟩ = some (.slice A n c) ∧ w'.cell? ⟨w.heap.size, 1, none⟩ = some (.slice A' lv.length c') ∧ w'.cell? ⟨w.heap.size, 2, none⟩ = some (.int .i64 base) ∧ w'.cell? ⟨w.heap.size, 3, none⟩ = some (.slice Ar L.length cr)) [] (by kernel_rfl) (SK.out _ (by exact below_same (Below.refl W.heap.size W) rfl rfl rfl rfl)) (fun hHeld hZ => ?_)
  refine' eY 0 hHeld hZ fun hZ => ?_
  try simp only [Act.put,ZA,ZB,ZD,ZE,ZF]
  refine' eY 1 hHeld hZ fun hZ => ?_
  try simp only [Act.put,ZA,ZB,ZC,ZD,ZE,ZF]
  refine' eY 3 hHeld hZ fun hZ => ?_
  try simp only [Act.put,ZA,ZB,ZC,ZD,ZE,ZF]
  refine' eY 4 hHeld hZ fun hZ => ?_
  try simp only [Act.put,ZA,ZB,ZC,ZD,ZE,ZF]
  refine' eY 5 hHeld hZ fun hZ => ?_
  try simp only [Act.put,ZA,ZB,ZC,ZD,ZE,ZF]
  refine eA 2 fun K hK => ?_
  go_simp
  refine (lev1.out _ (by exact below_same BW.out rfl rfl rfl rfl)).mono ?_
  rintro e w2 ⟨rfl, b2⟩
  have B2 := Lib.hid (show Below W.heap.size W w2 from ⟨b2.os, b2.tape, b2.output, b2.size, b2.block⟩)
  clear b2
  refine eB hK hZ (SK.out _ B2.out) fun hHeld hZ => ?_
  clear hK K
  try simp only [Act.put,ZA,ZB,ZC,ZD,ZE,ZF]
  refine eA 6 fun K hK => ?_
  go_simp
  refine (lev2.out _ (BW.out.trans (B2.out.mono BW.out.size))).mono ?_
  rintro e w3 ⟨rfl, b3⟩
  have B3 := Lib.hid (below_then B2.out b3)
  clear b3
  refine eB hK hZ (SK.out _ B3.out) fun hHeld hZ => ?_
  clear hK K
  try simp only [Act.put,ZA,ZB,ZC,ZD,ZE,ZF]
  refine' eY 7 hHeld hZ fun hZ => ?_
  try simp only [Act.put,ZA,ZB,ZC,ZD,ZE,ZF]
  refine eA 8 fun K hK => ?_
  go_simp
  refine (sdir_any _ _).mono ?_
  rintro e w4 ⟨rfl, b4⟩
  have B4 := Lib.hid (below_then B3.out b4)
  clear b4
  refine eB hK hZ (SK.out _ B4.out) fun hHeld hZ => ?_
  clear hK K
  try simp only [Act.put,ZA,ZB,ZC,ZD,ZE,ZF]
  refine' eY 9 hHeld hZ fun hZ => ?_
  try simp only [Act.put,ZA,ZB,ZC,ZD,ZE,ZF]
  refine wpAnyE_done (by kernel_rfl) ?_ _
  clear hZ
  go_wp2_with fail
  go_ret
  exact ⟨by first | (rw [HZ.out]; rfl) | (rw [← HZM.out]; rfl), by exact below_same (BW.out.trans (B4.out.mono BW.out.size)) rfl rfl rfl rfl⟩
def behW (lv : List Int) (base : Int) (L : List (List Int)) (i : Nat) (k : Int) : Int := if (k == 10 || isOpens k) then base else levW lv base L ((i : Int) + 1)
set_option maxRecDepth 20000 in
set_option maxHeartbeats 4000000 in
theorem seos_any (A : Option Addr) (cl : List Int) (c : Nat) (A' : Option Addr) (lv : List Int) (c' : Nat) (base : Int) (Ar : Option Addr) (L : List (List Int)) (cr : Nat) (i : Nat) (w : World)
 (h : Lies w w.heap.size A (ints .i64 cl)) (h' : Lies w w.heap.size A' (ints .i64 lv)) (hr : RunsR w Ar L) (he : cl.length = lv.length) (hW : Within L cl.length) (hi : i < L.length) (hL6 : L.length ≤ 1000000) (hl : cl.length ≤ 1000000) :
 Calls Tryz.prog 51 #[walkV A cl.length c A' lv.length c' base Ar L.length cr, .int .i64 (i : Int)] w fun ed w' => ed = .returned (.int .i64 (dirL (max (levW lv base L i) (behW lv base L i (cl.getD (lastI (L[i]'hi)).toNat 0))))) ∧ Below w.heap.size w w' := by
 obtain ⟨q, hq, hql⟩ := hW.last hi
 obtain ⟨p, b, off, rfl, hpb, hbb, hcell, _, hc1, _⟩ := hr.at' hi (hW _ (List.getElem_mem hi)).1
 obtain ⟨pc, rfl, hpcb, hcc⟩ := h.int hql
 obtain ⟨ky, hky⟩ : ∃ x, cl[q] = x := ⟨_, rfl⟩
 rw [hq, Int.toNat_natCast, show cl.getD q 0 = ky by simp [hql, hky]]
 obtain ⟨m, hm⟩ : ∃ m, L[i].length = m := ⟨_, rfl⟩
 have hm0 : 0 < m := by rw [← hm]; exact List.length_pos_iff.2 (hW _ (List.getElem_mem hi)).1
 have hm6 : m ≤ 1000000 := by rw [← hm]; exact Nat.le_trans (hW _ (List.getElem_mem hi)).2.1 hl
 obtain ⟨t, ht⟩ : ∃ t, m - 1 = t := ⟨_, rfl⟩
 have HMT : Hid (m = t + 1) := Lib.hid (by omega)
 rw [hm] at hcell
 rw [hm, ht, hq] at hc1
 rw [hky] at hcc
 obtain ⟨x, hx⟩ : ∃ x, levW lv base L i = x := ⟨_, rfl⟩
 obtain ⟨y, hy⟩ : ∃ x, levW lv base L ((i : Int) + 1) = x := ⟨_, rfl⟩
 obtain ⟨z, hz⟩ : ∃ x, behW lv base L i ky = x := ⟨_, rfl⟩
 have HZ : Hid (z = if (ky == 10 || isOpens ky) then base else y) := Lib.hid (by rw [← hz, behW, hy])
 rw [hx, hz]
 obtain ⟨v, hv⟩ : ∃ v, max x z = v := ⟨_, rfl⟩
 rw [hv]
 have HVV := Lib.hid hv
 clear hv
 have hwk : IntKind.i64.wrap ((i : Int) + 1) = (i : Int) + 1 := by rw [IntWalk.i64_in _ (by omega)]
 have b0 : (0 : Int) ≤ (i : Int) := by omega
 have b1 : (i : Int) < (L.length : Int) := by omega
 have b2 : (0 : Int) ≤ (q : Int) := by omega
 have b3 : (q : Int) < (cl.length : Int) := by omega
 have b4 : (0 : Int) < (m : Int) := by omega
 have H' := Lib.hid h'
 have HR := Lib.hid hr
 have HW := Lib.hid hW
 have lev1 : Hid (∀ u, Below w.heap.size w u → Calls Tryz.prog 49 #[walkV (some pc) cl.length c A' lv.length c' base (some p) L.length cr, .int .i64 (i : Int)] u fun ed w' => ed = .returned (.int .i64 x) ∧ Below u.heap.size u w') :=
  Lib.hid fun u hu => hx ▸ slevel_any (some pc) cl.length c A' lv c' base (some p) L cr i u (H'.out.up hu) (HR.out.up hu) (he ▸ HW.out)
 have lev2 : Hid (∀ u, Below w.heap.size w u → Calls Tryz.prog 49 #[walkV (some pc) cl.length c A' lv.length c' base (some p) L.length cr, .int .i64 ((i : Int) + 1)] u fun ed w' => ed = .returned (.int .i64 y) ∧ Below u.heap.size u w') :=
  Lib.hid fun u hu => hy ▸ slevel_any (some pc) cl.length c A' lv c' base (some p) L cr ((i : Int) + 1) u (H'.out.up hu) (HR.out.up hu) (he ▸ HW.out)
 have SC : Hid (∀ w', Below w.heap.size w w' → w'.cell? (p.add i) = some (.slice (some ⟨b, off, none⟩) m m) ∧ w'.cell? ⟨b, off + t, none⟩ = some (.int .i64 q) ∧ w'.cell? (pc.add q) = some (.int .i64 ky)) :=
  Lib.hid fun w' h => ⟨by rw [h.cell (by rw [add_block]; exact hpb)]; exact hcell, by rw [h.cell hbb]; exact hc1, by rw [h.cell (by rw [add_block]; exact hpcb)]; exact hcc⟩
 have SK : Hid (∀ w', Below (w.alloc (.cells #[.slice (some pc) cl.length c, .slice A' lv.length c', .int .i64 base, .slice (some p) L.length cr] 64)).heap.size (w.alloc (.cells #[.slice (some pc) cl.length c, .slice A' lv.length c', .int .i64 base, .slice (some p) L.length cr] 64)) w' →
  w'.cell? ⟨w.heap.size, 0, none⟩ = some (.slice (some pc) cl.length c) ∧ w'.cell? ⟨w.heap.size, 1, none⟩ = some (.slice A' lv.length c') ∧ w'.cell? ⟨w.heap.size, 2, none⟩ = some (.int .i64 base) ∧ w'.cell? ⟨w.heap.size, 3, none⟩ = some (.slice (some p) L.length cr)) :=
  Lib.hid fun w' h => ⟨boxed h rfl, boxed h rfl, boxed h rfl, boxed h rfl⟩
 obtain ⟨W, hW⟩ : ∃ W, w.alloc (.cells #[.slice (some pc) cl.length c, .slice A' lv.length c', .int .i64 base, .slice (some p) L.length cr] 64) = W := ⟨_, rfl⟩
 have BW : Hid (Below w.heap.size w W) := Lib.hid (hW ▸ below_alloc w _)
 rw [hW] at SK
 have HWE := Lib.hid hW
 have hk0 := SK.out W (Below.refl _ _)
 clear h h' hr hx hy hz hm ht hcell hc1 hcc hky hq hpb hbb hpcb he
 go_enter Tryz.func51, Tryz.ntmps51
 go_wp2_with fail
 clear hW hk0
 refine (lev2.out _ BW.out).mono ?_
 rintro e w2 ⟨rfl, b2'⟩
 have B2 := Lib.hid b2'
 clear b2'
 have SX : Hid (∀ w', Below W.heap.size W w' → w'.cell? ⟨w.heap.size, 0, none⟩ = some (.slice (some pc) cl.length c) ∧ w'.cell? ⟨w.heap.size, 3, none⟩ = some (.slice (some p) L.length cr) ∧ w'.cell? (p.add i) = some (.slice (some ⟨b, off, none⟩) m m) ∧ w'.cell? ⟨b, off + t, none⟩ = some (.int .i64 q) ∧ w'.cell? (pc.add q) = some (.int .i64 ky)) :=
  Lib.hid fun w' h => ⟨(SK.out w' h).1, (SK.out w' h).2.2.2, SC.out w' (BW.out.trans (h.mono BW.out.size))⟩
 go_wp2_with fail
 refine wp_region_E (S := fun w' => w'.cell? ⟨w.heap.size, 0, none⟩ = some (.slice (some pc) cl.length c) ∧ w'.cell? ⟨w.heap.size, 3, none⟩ = some (.slice (some p) L.length cr) ∧ w'.cell? (p.add i) = some (.slice (some ⟨b, off, none⟩) m m) ∧ w'.cell? ⟨b, off + t, none⟩ = some (.int .i64 q) ∧ w'.cell? (pc.add q) = some (.int .i64 ky)) [] (by kernel_rfl) (SX.out _ (by exact below_same B2.out rfl rfl rfl rfl)) (fun hHeld hZ => ?_)
 refine' eY 0 hHeld hZ fun hZ => ?_
 try simp only [Act.put,ZA,ZB,ZD,ZE,ZF]
 refine' eY 1 hHeld hZ fun hZ => ?_
 try simp only [Act.put,ZA,ZB,ZC,ZD,ZE,ZF]
 refine' eY 2 hHeld hZ fun hZ => ?_
 try simp only [Act.put,ZA,ZB,ZC,ZD,ZE,ZF]
 refine' eY 3 hHeld hZ fun hZ => ?_
 try simp only [Act.put,ZA,ZB,ZC,ZD,ZE,ZF]
 refine' eY 4 hHeld hZ fun hZ => ?_
 try simp only [Act.put,ZA,ZB,ZC,ZD,ZE,ZF]
 refine' eY 5 hHeld hZ fun hZ => ?_
 try simp only [Act.put,ZA,ZB,ZC,ZD,ZE,ZF]
 refine' eY 6 hHeld hZ fun hZ => ?_
 try simp only [Act.put,ZA,ZB,ZC,ZD,ZE,ZF]
 refine eA 7 fun K hK => ?_
 go_simp
 refine (slast_any b off m t m q _ HMT.out hm6 hHeld.2.2.2.1).mono ?_
 rintro e wq ⟨rfl, rfl⟩
 refine eB hK hZ (hHeld) fun hHeld hZ => ?_
 clear hK K
 try simp only [Act.put,ZA,ZB,ZC,ZD,ZE,ZF]
 refine' eY 8 hHeld hZ fun hZ => ?_
 try simp only [Act.put,ZA,ZB,ZC,ZD,ZE,ZF]
 refine' eY 9 hHeld hZ fun hZ => ?_
 try simp only [Act.put,ZA,ZB,ZC,ZD,ZE,ZF]
 refine' eY 10 hHeld hZ fun hZ => ?_
 try simp only [Act.put,ZA,ZB,ZC,ZD,ZE,ZF]
 refine wpAnyE_done (by kernel_rfl) ?_ _
 clear hZ
 have SW3 := SK.out w2.drew (by exact below_same B2.out rfl rfl rfl rfl)
 have B3 : Hid (Below W.heap.size W w2.drew) := Lib.hid (by exact below_same B2.out rfl rfl rfl rfl)
 clear hHeld
 generalize w2.drew = w3 at *
 rcases h10 : (ky == 10) with _ | _
 ·rcases hop : isOpens ky with _ | _
  ·have zz : Hid (z = y) := Lib.hid (by rw [HZ.out, h10, hop]; rfl)
   clear HZ
   go_wp2_with fail
   refine (opens_any ky _).mono ?_
   rintro e w4 ⟨rfl, b4'⟩
   rw [hop]
   have B4 := Lib.hid (below_then B3.out b4')
   clear hop b4'
   clear SW3
   have SW4 := SK.out _ B4.out
   go_wp2_with fail
   clear SW4
   refine (lev1.out _ (BW.out.trans (B4.out.mono BW.out.size))).mono ?_
   rintro e w5 ⟨rfl, b5'⟩
   have B5 := Lib.hid (below_then B4.out b5')
   clear b5'
   rcases Decidable.em (x < y) with hxy | hxy
   ·have HV : Hid (y = v) := Lib.hid (by rw [← HVV.out, zz.out]; omega)
    go_wp2_with fail
    refine (sdir_any _ _).mono ?_
    rintro e w6 ⟨rfl, b6'⟩
    have B6 := Lib.hid (below_then B5.out b6')
    clear b6'
    go_wp2_with fail
    go_ret
    exact ⟨by first | (rw [HV.out]; rfl) | (rw [← HVV.out, zz.out]; rfl), BW.out.trans (B6.out.mono BW.out.size)⟩
   ·have HV : Hid (x = v) := Lib.hid (by rw [← HVV.out, zz.out]; omega)
    go_wp2_with fail
    refine (sdir_any _ _).mono ?_
    rintro e w6 ⟨rfl, b6'⟩
    have B6 := Lib.hid (below_then B5.out b6')
    clear b6'
    go_wp2_with fail
    go_ret
    exact ⟨by first | (rw [HV.out]; rfl) | (rw [← HVV.out, zz.out]; rfl), BW.out.trans (B6.out.mono BW.out.size)⟩
  ·have zz : Hid (z = base) := Lib.hid (by rw [HZ.out, h10, hop]; rfl)
   clear HZ
   go_wp2_with fail
   refine (opens_any ky _).mono ?_
   rintro e w4 ⟨rfl, b4'⟩
   rw [hop]
   have B4 := Lib.hid (below_then B3.out b4')
   clear hop b4'
   clear SW3
   have SW4 := SK.out _ B4.out
   go_wp2_with fail
   clear SW4
   refine (lev1.out _ (BW.out.trans (B4.out.mono BW.out.size))).mono ?_
   rintro e w5 ⟨rfl, b5'⟩
   have B5 := Lib.hid (below_then B4.out b5')
   clear b5'
   rcases Decidable.em (x < base) with hxy | hxy
   ·have HV : Hid (base = v) := Lib.hid (by rw [← HVV.out, zz.out]; omega)
    go_wp2_with fail
    refine (sdir_any _ _).mono ?_
    rintro e w6 ⟨rfl, b6'⟩
    have B6 := Lib.hid (below_then B5.out b6')
    clear b6'
    go_wp2_with fail
    go_ret
    exact ⟨by first | (rw [HV.out]; rfl) | (rw [← HVV.out, zz.out]; rfl), BW.out.trans (B6.out.mono BW.out.size)⟩
   ·have HV : Hid (x = v) := Lib.hid (by rw [← HVV.out, zz.out]; omega)
    go_wp2_with fail
    refine (sdir_any _ _).mono ?_
    rintro e w6 ⟨rfl, b6'⟩
    have B6 := Lib.hid (below_then B5.out b6')
    clear b6'
    go_wp2_with fail
    go_ret
    exact ⟨by first | (rw [HV.out]; rfl) | (rw [← HVV.out, zz.out]; rfl), BW.out.trans (B6.out.mono BW.out.size)⟩
 ·have zz : Hid (z = base) := Lib.hid (by rw [HZ.out, h10]; rfl)
  clear HZ
  clear SW3
  have SW4 := SK.out _ B3.out
  go_wp2_with fail
  clear SW4
  refine (lev1.out _ (BW.out.trans (B3.out.mono BW.out.size))).mono ?_
  rintro e w5 ⟨rfl, b5'⟩
  have B5 := Lib.hid (below_then B3.out b5')
  clear b5'
  rcases Decidable.em (x < base) with hxy | hxy
  ·have HV : Hid (base = v) := Lib.hid (by rw [← HVV.out, zz.out]; omega)
   go_wp2_with fail
   refine (sdir_any _ _).mono ?_
   rintro e w6 ⟨rfl, b6'⟩
   have B6 := Lib.hid (below_then B5.out b6')
   clear b6'
   go_wp2_with fail
   go_ret
   exact ⟨by first | (rw [HV.out]; rfl) | (rw [← HVV.out, zz.out]; rfl), BW.out.trans (B6.out.mono BW.out.size)⟩
  ·have HV : Hid (x = v) := Lib.hid (by rw [← HVV.out, zz.out]; omega)
   go_wp2_with fail
   refine (sdir_any _ _).mono ?_
   rintro e w6 ⟨rfl, b6'⟩
   have B6 := Lib.hid (below_then B5.out b6')
   clear b6'
   go_wp2_with fail
   go_ret
   exact ⟨by first | (rw [HV.out]; rfl) | (rw [← HVV.out, zz.out]; rfl), BW.out.trans (B6.out.mono BW.out.size)⟩
end Go.Proofs.YtcbaahlahohfmaaGreatDoor
