/- Shared texts, shaken for one claim. -/
import Derived.Deep.LoopGhost
import Derived.Test.YtadfleopbpomfaaZA8
import Derived.Test.YtadfleopbpomfaaZA9
namespace Go.Proofs.Ytadfleopbpomfaa
open Go.RowKit Reckon
theorem first_jump (l : List Int) (k m : Nat) : (endOf l k = -1 ∧ firstP ((l.drop (k + 1)).take m) 1 = -1) ∨
 ∃ e : Nat, endOf l k = e ∧ k < e ∧ e < l.length ∧ firstP ((l.drop (k + 1)).take m) 1 = if e < k + 1 + m then firstP ((l.drop (e + 1)).take (k + 1 + m - (e + 1))) 0 else -1 := by
 have h := firstP_jump (l.drop (k + 1)) 1 (k + 1) m (by omega)
 unfold endOf
 cases hl : look (l.drop (k + 1)) 1 (k + 1) with
 | run d => rw [hl] at h; exact .inl ⟨rfl, h⟩
 | done r =>
  rw [hl] at h
  cases r with
  | none => exact .inl ⟨rfl, h⟩
  | some e =>
   obtain ⟨h1, h2, h3⟩ := h
   have h4 : e < l.length := by simp at h2; omega
   refine .inr ⟨e, rfl, by omega, h4, ?_⟩
   rw [h3, List.drop_drop, show k + 1 + (e + 1 - (k + 1)) = e + 1 by omega, show m - (e + 1 - (k + 1)) = k + 1 + m - (e + 1) by omega]
set_option maxHeartbeats 2000000 in
theorem rfirst_any (A : Option Addr) (l : List Int) (c : Nat) (f t : Int) (w : World) (h : Lies w w.heap.size A (ints .i64 l)) (hl : l.length ≤ 1000000) :
 Calls Try.prog 49 #[.slice A l.length c, .int .i64 f, .int .i64 t] w fun e w' => e = .returned (.int .i64 (firstP (partI l f t) 0)) ∧ Below w.heap.size w w' := by
 obtain ⟨a, ha⟩ : ∃ a : Nat, (if 0 < f then f else (0 : Int)) = a := ⟨(max f 0).toNat, by split <;> omega⟩
 obtain ⟨m, hm⟩ : ∃ m : Int, (if (l.length : Int) < t then (l.length : Int) else t) = m := ⟨_, rfl⟩
 have hml : m ≤ l.length := by rw [← hm]; split <;> omega
 have hmt : ∀ e : Nat, e < l.length → (e < m.toNat ↔ (e : Int) < t) := fun e he => by split at hm <;> omega
 have hP : partI l f t = (l.drop a).take (m.toNat - a) := by
  have h1 : (max f 0).toNat = a := by split at ha <;> omega
  have h2 : min t l.length = m := by split at hm <;> omega
  rw [partI, h1, h2]
 rw [hP]
 obtain ⟨z, hz⟩ : ∃ z, firstP ((l.drop a).take (m.toNat - a)) 0 = z := ⟨_, rfl⟩
 rw [hz]
 have HZ := Lib.hid hz
 have HMT := Lib.hid hmt
 have H := Lib.hid h
 clear hP hz h hmt
 go_enter Try.func49, Try.ntmps49
 go_wp2
 go_loopw [7] (fun iv wr => ∃ k : Nat, iv = .int .i64 k ∧ Hid (firstP ((l.drop k).take (m.toNat - k)) 0 = z) ∧ Below w.heap.size w wr) (fun iv _ => m.toNat - (intOf iv).toNat)
 case atStart => exact ⟨a, rfl, HZ, Below.refl _ _⟩
 case round =>
  obtain ⟨k, rfl, HL, hb⟩ := hrel
  have HB := Lib.hid hb
  clear hb
  by_cases hlt : (k : Int) < m
  ·have hkl : k < l.length := by omega
   have hkm : k < m.toNat := by omega
   obtain ⟨p, rfl, hpb, hcell⟩ := (H.out.below HB.out).int hkl
   have b0 : (0 : Int) ≤ (k : Int) := by omega
   have b1 : (k : Int) < (l.length : Int) := by omega
   have hdrop : (l.drop k).take (m.toNat - k) = l[k] :: (l.drop (k + 1)).take (m.toNat - (k + 1)) := by
    rw [List.drop_eq_getElem_cons hkl, show m.toNat - k = (m.toNat - (k + 1)) + 1 by omega, List.take_succ_cons]
   obtain ⟨x, hx⟩ : ∃ x, l[k] = x := ⟨_, rfl⟩
   rw [hx] at hcell hdrop
   have hl2 := HL.out
   rw [hdrop, firstP] at hl2
   clear hx hdrop HL
   rcases h10 : (x == 10) with _ | _
   ·have n10 : ¬ x = 10 := by simpa using h10
    rw [if_neg n10] at hl2
    rcases ho : isOpens x with _ | _
    ·rw [ho] at hl2
     simp only [Bool.false_eq_true, if_false] at hl2
     have HO := Lib.hid ho
     clear ho
     rcases h22 : (x == 22) with _ | _
     ·have n22 : ¬ x = 22 := by simpa using h22
      rw [if_neg n22] at hl2
      clear n10 n22
      rcases h1 : (x == 1) with _ | _
      ·rcases h2 : (x == 2) with _ | _
       ·rcases h0 : (x == 0) with _ | _
        ·have hw := wordOf_isEmpty x
         by_cases hw0 : x < 0 ∨ 22 < x
         ·rw [decide_eq_true hw0] at hw
          have hs : side x = 0 := by rw [side, if_pos (by omega)]
          rw [hs, if_pos (by simp)] at hl2
          subst hl2
          clear hw0 hs
          go_wp2_with fail
          refine (ropens_any x _).mono ?_
          rintro e wq ⟨rfl, rfl⟩
          rw [HO.out]
          go_wp2_with fail
          refine (rword_any x wr).mono ?_
          rintro e w1 ⟨rfl, b1⟩
          have B1 := Lib.hid (HB.out.trans (b1.mono HB.out.size))
          have D1 := Lib.hid b1
          clear b1
          go_wp2_with fail
          go_ret
          exact ⟨rfl, B1.out⟩
         ·rw [decide_eq_false hw0] at hw
          have hs : side x = -1 := by
           simp at h0 h1 h2
           rw [side, if_neg (by omega), if_neg (by omega)]
          rw [hs, if_neg (fun h => absurd h.2 (by decide))] at hl2
          have HL3 := Lib.hid hl2
          clear hl2 hw0 hs
          go_wp2_with fail
          refine (ropens_any x _).mono ?_
          rintro e wq ⟨rfl, rfl⟩
          rw [HO.out]
          go_wp2_with fail
          refine (rword_any x wr).mono ?_
          rintro e w1 ⟨rfl, b1⟩
          have B1 := Lib.hid (HB.out.trans (b1.mono HB.out.size))
          have D1 := Lib.hid b1
          clear b1
          go_wp2_with fail
          go_roundw
          case rel => exact ⟨k + 1, by go_num, HL3, B1.out⟩
          case measure => simp [intOf]; omega
        ·have hs : side x = 0 := by simp at h0; rw [side, if_pos (by omega)]
         rw [hs, if_pos (by simp)] at hl2
         subst hl2
         clear hs
         go_wp2_with fail
         refine (ropens_any x _).mono ?_
         rintro e wq ⟨rfl, rfl⟩
         rw [HO.out]
         go_wp2_with fail
         go_ret
         exact ⟨rfl, HB.out⟩
       ·have hs : side x = 1 := by simp at h2; subst h2; decide
        have h0 : (x == 0) = false := by simp at h2; subst h2; decide
        rw [hs, if_pos (by simp)] at hl2
        subst hl2
        clear hs
        go_wp2_with fail
        refine (ropens_any x _).mono ?_
        rintro e wq ⟨rfl, rfl⟩
        rw [HO.out]
        go_wp2_with fail
        go_ret
        exact ⟨rfl, HB.out⟩
      ·have hs : side x = 1 := by simp at h1; subst h1; decide
       rw [hs, if_pos (by simp)] at hl2
       subst hl2
       clear hs
       go_wp2_with fail
       refine (ropens_any x _).mono ?_
       rintro e wq ⟨rfl, rfl⟩
       rw [HO.out]
       go_wp2_with fail
       go_ret
       exact ⟨rfl, HB.out⟩
     ·have n22 : x = 22 := by simpa using h22
      subst n22
      have h1 : ((22 : Int) == 1) = false := by decide
      have h2 : ((22 : Int) == 2) = false := by decide
      have h0 : ((22 : Int) == 0) = false := by decide
      have hw : (wordOf 22).toList.isEmpty = false := by decide +kernel
      rw [if_pos rfl] at hl2
      have HL3 := Lib.hid hl2
      clear hl2 n10 h10 h22
      go_wp2_with fail
      refine (ropens_any 22 _).mono ?_
      rintro e wq ⟨rfl, rfl⟩
      rw [HO.out]
      go_wp2_with fail
      refine (rword_any 22 wr).mono ?_
      rintro e w1 ⟨rfl, b1⟩
      have B1 := Lib.hid (HB.out.trans (b1.mono HB.out.size))
      have D1 := Lib.hid b1
      clear b1
      go_wp2_with fail
      go_roundw
      case rel => exact ⟨k + 1, by go_num, HL3, B1.out⟩
      case measure => simp [intOf]; omega
    ·rw [ho, if_pos rfl] at hl2
     have HO := Lib.hid ho
     clear n10 ho
     have hj := first_jump l k (m.toNat - (k + 1))
     simp only [Nat.zero_add] at hl2
     rw [hl2] at hj
     obtain ⟨ee, hee⟩ : ∃ ee, endOf l k = ee := ⟨_, rfl⟩
     have HR := Lib.hid (rend_any (some p) l c k wr (H.out.below HB.out |>.wider HB.out.size) hl hkl)
     rw [hee] at HR hj
     clear hee hl2
     rcases hj with ⟨rfl, rfl⟩ | ⟨e, rfl, he1, he2, hj⟩
     ·go_wp2_with fail
      refine (ropens_any x _).mono ?_
      rintro e wq ⟨rfl, rfl⟩
      rw [HO.out]
      go_wp2_with fail
      refine (HR.out).mono ?_
      rintro e w1 ⟨rfl, b1⟩
      have B1 := Lib.hid (HB.out.trans (b1.mono HB.out.size))
      have D1 := Lib.hid b1
      clear b1
      go_wp2_with fail
      go_ret
      exact ⟨rfl, B1.out⟩
     ·have hme := HMT.out e he2
      by_cases het : (e : Int) < t
      ·have hge : decide ((e : Int) ≥ t) = false := by simp; omega
       rw [if_pos (by omega), show k + 1 + (m.toNat - (k + 1)) - (e + 1) = m.toNat - (e + 1) by omega] at hj
       have HL3 := Lib.hid hj.symm
       clear hj hme
       go_wp2_with fail
       refine (ropens_any x _).mono ?_
       rintro e wq ⟨rfl, rfl⟩
       rw [HO.out]
       go_wp2_with fail
       refine (HR.out).mono ?_
       rintro e w1 ⟨rfl, b1⟩
       have B1 := Lib.hid (HB.out.trans (b1.mono HB.out.size))
       have D1 := Lib.hid b1
       clear b1
       go_wp2_with fail
       go_roundw
       case rel => exact ⟨e + 1, by go_num, HL3, B1.out⟩
       case measure => simp [intOf]; omega
      ·have hge : decide ((e : Int) ≥ t) = true := by simp; omega
       rw [if_neg (by omega)] at hj
       subst hj
       clear hme
       go_wp2_with fail
       refine (ropens_any x _).mono ?_
       rintro e wq ⟨rfl, rfl⟩
       rw [HO.out]
       go_wp2_with fail
       refine (HR.out).mono ?_
       rintro e w1 ⟨rfl, b1⟩
       have B1 := Lib.hid (HB.out.trans (b1.mono HB.out.size))
       have D1 := Lib.hid b1
       clear b1
       go_wp2_with fail
       go_ret
       exact ⟨rfl, B1.out⟩
   ·rw [if_pos (by simpa using h10)] at hl2
    subst hl2
    go_wp2
    go_ret
    exact ⟨rfl, HB.out⟩
  ·have hl2 := HL.out
   rw [show m.toNat - k = 0 by omega, List.take_zero, firstP] at hl2
   subst hl2
   go_wp2
   go_ret
   exact ⟨rfl, HB.out⟩
end Go.Proofs.Ytadfleopbpomfaa
namespace Go.Proofs.Ytadfleopbpomfaa
open Go.RowKit Reckon
theorem partI_all (l : List Int) : partI l 0 l.length = l := by
 have h1 : (max (0 : Int) 0).toNat = 0 := by decide
 have h2 : (min (l.length : Int) l.length).toNat = l.length := by omega
 rw [partI, h1, h2, List.drop_zero, Nat.sub_zero, List.take_length]
set_option maxHeartbeats 1000000 in
theorem rlevel_any (A : Option Addr) (l : List Int) (c : Nat) (dir : Int) (w : World) (h : Lies w w.heap.size A (ints .i64 l)) (hl : l.length ≤ 1000000) :
 Calls Try.prog 39 #[.slice A l.length c, .int .i64 dir] w fun e w' => e = .returned (.int .i64 (level l dir)) ∧ Below w.heap.size w w' := by
 have HF := Lib.hid (rfirst_any A l c 0 l.length w h hl)
 rw [partI_all] at HF
 obtain ⟨r, hr⟩ : ∃ r, firstP l 0 = r := ⟨_, rfl⟩
 obtain ⟨z, hz⟩ : ∃ z, level l dir = z := ⟨_, rfl⟩
 have hm : (if 0 < r then r else (0 : Int)) = max r 0 := by split <;> omega
 have HZ := Lib.hid hz
 rw [level, hr] at hz
 rw [hr] at HF
 rw [HZ.out]
 clear hr h
 rcases h1 : (dir == 1) with _ | _
 ·rw [if_neg (by simpa using h1)] at hz
  rcases h2 : (dir == 2) with _ | _
  ·rw [if_neg (by simpa using h2), ← hm] at hz
   clear hm
   go_enter Try.func39, Try.ntmps39
   go_wp2_with fail
   refine (HF.out).mono ?_
   rintro e w1 ⟨rfl, b1⟩
   have B1 := Lib.hid b1
   have D1 := Lib.hid b1
   clear b1
   go_wp2_with fail
   go_ret
   exact ⟨by first | rfl | rw [← hz]; rfl, B1.out⟩
  ·rw [if_pos (by simpa using h2)] at hz
   subst hz
   go_enter Try.func39, Try.ntmps39
   go_wp2_with fail
   go_ret
   exact ⟨rfl, Below.refl _ _⟩
 ·rw [if_pos (by simpa using h1)] at hz
  subst hz
  go_enter Try.func39, Try.ntmps39
  go_wp2_with fail
  go_ret
  exact ⟨rfl, Below.refl _ _⟩
set_option maxHeartbeats 1000000 in
theorem risolate_any (A : Option Addr) (l : List Int) (c : Nat) (i : Int) (w : World) (h : Lies w w.heap.size A (ints .i64 l)) (hl : l.length ≤ 1000000) :
 Calls Try.prog 89 #[.slice A l.length c, .int .i64 i] w fun e w' => e = .returned (.int .i64 (isolate l i)) ∧ Below w.heap.size w w' := by
 have H := Lib.hid h
 obtain ⟨z, hz⟩ : ∃ z, isolate l i = z := ⟨_, rfl⟩
 rw [hz]
 rw [isolate] at hz
 clear h
 rcases h0 : decide (i < 0) with _ | _
 ·obtain ⟨n, rfl⟩ : ∃ n : Nat, i = n := ⟨i.toNat, by simp at h0; omega⟩
  by_cases hn : n < l.length
  ·have hge : decide ((n : Int) ≥ (l.length : Int)) = false := by simp; omega
   rw [if_neg (by omega), Int.toNat_natCast, isolate_end] at hz
   obtain ⟨p, rfl, _, hcell⟩ := H.out.int hn
   have b0 : (0 : Int) ≤ (n : Int) := by omega
   have b1 : (n : Int) < (l.length : Int) := by omega
   have hx' := at0_eq hn
   obtain ⟨x, hx⟩ : ∃ x, l[n] = x := ⟨_, rfl⟩
   rw [hx] at hcell hx'
   rw [hx'] at hz
   clear hx hx'
   rcases h19 : (x == 19) with _ | _
   ·rw [if_neg (by simpa using h19)] at hz
    rcases h20 : (x == 20) with _ | _
    ·rw [if_neg (by simpa using h20)] at hz
     rcases h21 : (x == 21) with _ | _
     ·rw [if_neg (by simpa using h21)] at hz
      subst hz
      go_enter Try.func89, Try.ntmps89
      go_wp2_with fail
      go_ret
      exact ⟨rfl, Below.refl _ _⟩
     ·rw [if_pos (by simpa using h21)] at hz
      have HE := Lib.hid (rend_any (some p) l c n w H.out hl hn)
      have hj := first_jump l n 0
      obtain ⟨s, hs⟩ : ∃ s, endOf l n = s := ⟨_, rfl⟩
      rw [hs] at hz HE hj
      obtain ⟨t, ht⟩ : ∃ t : Nat, (if 0 ≤ s then s.toNat else l.length) = t := ⟨_, rfl⟩
      rw [ht] at hz
      have htl : t ≤ l.length := by
       rcases hj with ⟨hj, _⟩ | ⟨e, he, _, he2, _⟩
       ·rw [← ht, if_neg (by omega)]; omega
       ·rw [← ht, if_pos (by omega)]; omega
      have hpart : partI l ((n : Int) + 1) t = (l.drop (n + 1)).take (t - (n + 1)) := by
       rw [partI, show (max ((n : Int) + 1) 0).toNat = n + 1 by omega, show (min (t : Int) l.length).toNat = t by omega]
      obtain ⟨r, hr⟩ : ∃ r, firstP ((l.drop (n + 1)).take (t - (n + 1))) 0 = r := ⟨_, rfl⟩
      rw [hr] at hz
      have hm : (if 0 < r then r else (0 : Int)) = z := by rw [← hz]; split <;> omega
      have HPR : Hid (firstP (partI l ((n : Int) + 1) t) 0 = r) := Lib.hid (by rw [hpart, hr])
      clear hz hs hr hpart hj
      rcases hs0 : decide (s < 0) with _ | _
      ·rw [if_pos (by simpa using hs0)] at ht
       obtain ⟨m, rfl⟩ : ∃ m : Nat, s = m := ⟨s.toNat, by simp at hs0; omega⟩
       obtain rfl : m = t := by simpa using ht
       clear ht
       go_enter Try.func89, Try.ntmps89
       go_wp2_with fail
       refine (HE.out).mono ?_
       rintro e w1 ⟨rfl, b1⟩
       have B1 := Lib.hid b1
       have D1 := Lib.hid b1
       clear b1
       go_wp2_with fail
       refine (rfirst_any (some p) l c ((n : Int) + 1) m w1 (H.out.up B1.out) hl).mono ?_
       rintro e w2 ⟨rfl, b2⟩
       rw [HPR.out]
       have B2 := Lib.hid (below_then B1.out b2)
       have D2 := Lib.hid b2
       clear b2
       go_wp2_with fail
       go_ret
       exact ⟨rfl, B2.out⟩
      ·rw [if_neg (by simpa using hs0)] at ht
       subst ht
       go_enter Try.func89, Try.ntmps89
       go_wp2_with fail
       refine (HE.out).mono ?_
       rintro e w1 ⟨rfl, b1⟩
       have B1 := Lib.hid b1
       have D1 := Lib.hid b1
       clear b1
       go_wp2_with fail
       refine (rfirst_any (some p) l c ((n : Int) + 1) l.length w1 (H.out.up B1.out) hl).mono ?_
       rintro e w2 ⟨rfl, b2⟩
       rw [HPR.out]
       have B2 := Lib.hid (below_then B1.out b2)
       have D2 := Lib.hid b2
       clear b2
       go_wp2_with fail
       go_ret
       exact ⟨rfl, B2.out⟩
    ·rw [if_pos (by simpa using h20)] at hz
     subst hz
     go_enter Try.func89, Try.ntmps89
     go_wp2_with fail
     go_ret
     exact ⟨rfl, Below.refl _ _⟩
   ·rw [if_pos (by simpa using h19)] at hz
    subst hz
    go_enter Try.func89, Try.ntmps89
    go_wp2_with fail
    go_ret
    exact ⟨rfl, Below.refl _ _⟩
  ·have hge : decide ((n : Int) ≥ (l.length : Int)) = true := by simp; omega
   rw [if_pos (by omega)] at hz
   subst hz
   go_enter Try.func89, Try.ntmps89
   go_wp2_with fail
   go_ret
   exact ⟨rfl, Below.refl _ _⟩
 ·rw [if_pos (by simp at h0; omega)] at hz
  subst hz
  go_enter Try.func89, Try.ntmps89
  go_wp2_with fail
  go_ret
  exact ⟨rfl, Below.refl _ _⟩
end Go.Proofs.Ytadfleopbpomfaa
namespace Go.Proofs.Ytadfleopbpomfaa
open Go.RowKit
theorem putX_st (x : X6) (c : Int) : (putX x c).st = x.st ∧ (putX x c).valid = x.valid ∧ (putX x c).isos = x.isos ∧ (putX x c).embeds = x.embeds := by
 unfold putX; split <;> simp_all
def isolateX (x : X6) (l : List Int) (i c : Int) : X6 := match x.st with
 | [] => x
 | e :: _ => if fitsX (putX x c) (nextL e.lev (isolate l i)) then pushX { putX x c with valid := (putX x c).valid + 1 } ⟨nextL e.lev (isolate l i), -1, true⟩ else { putX x c with isos := (putX x c).isos + 1 }
set_option maxRecDepth 20000 in
set_option maxHeartbeats 4000000 in
theorem isolateX_any (w : World) (B g : Nat) (x : X6) (A : Option Addr) (l : List Int) (cap : Nat) (i c : Int) (e : Ent) (st : List Ent) (hst : x.st = e :: st) (hx : HasX w B g x (.slice A l.length cap)) (hs : x.Small) (hl : l.length ≤ 1000000)
 (hA : Lies w B A (ints .i64 l)) :
 Calls Try.prog 70 #[.pointer (some ⟨g, 0, none⟩), .int .i64 i, .int .i64 c] w fun ed w' => ed = .returned (.tuple #[]) ∧ HasX w' B g (isolateX x l i c) (.slice A l.length cap) ∧ Below B w w' := by
 have HP := Lib.hid (put_any w B g x (.slice A l.length cap) c e st hst hx hs)
 obtain ⟨y, hy⟩ : ∃ y, putX x c = y := ⟨_, rfl⟩
 obtain ⟨p1, p2, p3, p4⟩ := putX_st x c
 rw [hy] at HP p1 p2 p3 p4
 obtain ⟨n, hn⟩ : ∃ n, nextL e.lev (isolate l i) = n := ⟨_, rfl⟩
 have HEX : Hid (isolateX x l i c = if fitsX y n then pushX { y with valid := y.valid + 1 } ⟨n, -1, true⟩ else { y with isos := y.isos + 1 }) := Lib.hid (by
  unfold isolateX
  split
  ·rename_i h; rw [hst] at h; cases h
  ·rename_i e' st' h
   rw [hst] at h
   injection h with h1 h2
   subst h1
   rw [hy, hn])
 have HY : Hid (y.st = e :: st) := Lib.hid (p1.trans hst)
 have hyl : y.st.length ≤ 1000000 := by rw [p1]; have := hs.st; omega
 have hyv : y.valid ≤ 1000000 := by rw [p2]; exact hs.valid
 have hyi : y.isos ≤ 1000000 := by rw [p3]; exact hs.isos
 obtain ⟨dd, hdd⟩ : ∃ d, isolate l i = d := ⟨_, rfl⟩
 rw [hdd] at hn
 have HDD := Lib.hid hdd
 have HN := Lib.hid hn
 have HA := Lib.hid hA
 clear hst hx hs hy hn hdd hA p1 p2 p3 p4
 have hf0 := field0 e.lev e.over e.iso
 go_enter Try.func70, Try.ntmps70
 go_wp2_with fail
 refine HP.out.mono ?_
 rintro ed w1 ⟨rfl, ⟨sv, lv, cv, x1⟩, b1⟩
 have X1 := Lib.hid x1
 have B1 := Lib.hid b1
 have h8 := x1.field 8 (by omega)
 simp only [X6.cells, List.getElem?_cons_succ, List.getElem?_cons_zero] at h8
 clear x1 b1
 go_wp2_with fail
 refine wp_region_E (S := fun w' => w'.cell? ⟨g, 8, none⟩ = some (.slice A l.length cap)) [] (by kernel_rfl) (h8) (fun hHeld hZ => ?_)
 refine' eX 0 hZ fun hZ => ?_
 try simp only [Act.put,ZA,ZB,ZD,ZE,ZF]
 refine' eX 3 hZ fun hZ => ?_
 try simp only [Act.put,ZA,ZB,ZC,ZD,ZE,ZF]
 refine' eX 4 hZ fun hZ => ?_
 try simp only [Act.put,ZA,ZB,ZC,ZD,ZE,ZF]
 refine' eX 5 hZ fun hZ => ?_
 try simp only [Act.put,ZA,ZB,ZC,ZD,ZE,ZF]
 refine' eX 7 hZ fun hZ => ?_
 try simp only [Act.put,ZA,ZB,ZC,ZD,ZE,ZF]
 refine' eY 6 hHeld hZ fun hZ => ?_
 try simp only [Act.put,ZA,ZB,ZC,ZD,ZE,ZF]
 have X1d := Lib.hid (X1.out.same (w' := w1.drew) rfl)
 have B1d : Hid (Below B w w1.drew) := Lib.hid (below_drawn B1.out 1)
 clear h8
 generalize w1.drew = u0 at X1d B1d hHeld ⊢
 refine eA 1 fun K hK => ?_
 go_simp
 refine (top_any u0 B g y _ sv lv cv e st HY.out X1d.out hyl).mono ?_
 rintro ed u1 ⟨rfl, b_⟩
 have X2 := Lib.hid (X1d.out.below b_ (Nat.le_refl _))
 have B2 := Lib.hid (B1d.out.trans (b_.mono X1d.out.le))
 clear b_
 refine eB hK hZ (X2.out.field 8 (by omega)) fun hHeld hZ => ?_
 clear hK K
 try simp only [Act.put,ZA,ZB,ZC,ZD,ZE,ZF]
 refine' eX 2 hZ fun hZ => ?_
 try simp only [Act.put,ZA,ZB,ZC,ZD,ZE,ZF]
 refine eA 8 fun K hK => ?_
 go_simp
 refine (risolate_any A l cap i u1 ((HA.out.below B2.out).wider X2.out.le) hl).mono ?_
 rintro ed u2 ⟨rfl, b_⟩
 rw [HDD.out]
 have X3 := Lib.hid (X2.out.below b_ (Nat.le_refl _))
 have B3 := Lib.hid (B2.out.trans (b_.mono X2.out.le))
 clear b_
 refine eB hK hZ (X3.out.field 8 (by omega)) fun hHeld hZ => ?_
 clear hK K
 try simp only [Act.put,ZA,ZB,ZC,ZD,ZE,ZF]
 refine eA 9 fun K hK => ?_
 go_simp
 refine (next_any e.lev dd u2).mono ?_
 rintro ed u3 ⟨rfl, rfl⟩
 rw [HN.out]
 refine eB hK hZ (X3.out.field 8 (by omega)) fun hHeld hZ => ?_
 clear hK K
 try simp only [Act.put,ZA,ZB,ZC,ZD,ZE,ZF]
 refine' eX 10 hZ fun hZ => ?_
 try simp only [Act.put,ZA,ZB,ZC,ZD,ZE,ZF]
 refine wpAnyE_done (by kernel_rfl) ?_ _
 clear hZ
 go_wp2_with fail
 refine (fits_any u2 B g y _ sv lv cv n X3.out).mono ?_
 rintro e wq ⟨rfl, rfl⟩
 rcases hfit : fitsX y n with _ | _
 ·have HZ : Hid (isolateX x l i c = { y with isos := y.isos + 1 }) := Lib.hid (by rw [HEX.out, hfit, if_neg (by simp)])
  have h2 := X3.out.field 2 (by omega)
  simp only [X6.cells, List.getElem?_cons_succ, List.getElem?_cons_zero] at h2
  have hw1 : IntKind.i64.wrap ((y.isos : Int) + 1) = ((y.isos + 1 : Nat) : Int) := by rw [IntWalk.i64_in _ (by omega)]; omega
  clear hfit
  go_wp2_with (first
   | (refine store_cell u2 B _ _ g 2 9 (.int .i64 ((y.isos + 1 : Nat) : Int)) _ u2 rfl rfl rfl (by kernel_rfl) rfl rfl rfl X3.out.row (by simp [X6.cells]) (Below.refl _ _) ?_; intro w3 r3 b3 g3; have X4 := Lib.hid (X3.out.stored (x' := { y with isos := y.isos + 1 }) r3 g3 rfl rfl rfl rfl); have B4 := Lib.hid (B3.out.trans b3); clear r3 b3 g3)
   | fail)
  (try simp only [Exit.inBlock, Exit.then])
  exact bodyPost_end (results_none rfl _ _ _) rfl ⟨rfl, by rw [HZ.out]; exact ⟨_, _, _, X4.out⟩, B4.out⟩
 ·have HZ : Hid (isolateX x l i c = pushX { y with valid := y.valid + 1 } ⟨n, -1, true⟩) := Lib.hid (by rw [HEX.out, hfit, if_pos rfl])
  have h4 := X3.out.field 4 (by omega)
  simp only [X6.cells, List.getElem?_cons_succ, List.getElem?_cons_zero] at h4
  have hw1 : IntKind.i64.wrap ((y.valid : Int) + 1) = ((y.valid + 1 : Nat) : Int) := by rw [IntWalk.i64_in _ (by omega)]; omega
  clear hfit
  go_wp2_with (first
   | (refine store_cell u2 B _ _ g 4 9 (.int .i64 ((y.valid + 1 : Nat) : Int)) _ u2 rfl rfl rfl (by kernel_rfl) rfl rfl rfl X3.out.row (by simp [X6.cells]) (Below.refl _ _) ?_; intro w3 r3 b3 g3; have X4 := Lib.hid (X3.out.stored (x' := { y with valid := y.valid + 1 }) r3 g3 rfl rfl rfl rfl); have B4 := Lib.hid (B3.out.trans b3); clear r3 b3 g3)
   | fail)
  refine (push_any w3 B g { y with valid := y.valid + 1 } _ sv lv cv ⟨n, -1, true⟩ X4.out hyl).mono ?_
  rintro ed w5 ⟨rfl, ⟨sv5, x5⟩, b5⟩
  have X5 := Lib.hid x5
  have B5 := Lib.hid (B4.out.trans b5)
  clear x5 b5
  go_wp2_with fail
  (try simp only [Exit.inBlock, Exit.then])
  exact bodyPost_end (results_none rfl _ _ _) rfl ⟨rfl, by rw [HZ.out]; exact ⟨_, _, _, X5.out⟩, B5.out⟩
end Go.Proofs.Ytadfleopbpomfaa
namespace Go.Proofs.Ytadfleopbpomfaa
open Go.RowKit
def unwind (st : List Ent) : List Ent := (st.dropWhile fun e => !e.iso).tail
theorem unwind_skip {e : Ent} {st : List Ent} (h : e.iso = false) : unwind (e :: st) = unwind st := by simp [unwind, List.dropWhile, h]
theorem unwind_hit {e : Ent} {st : List Ent} (h : e.iso = true) : unwind (e :: st) = st := by simp [unwind, List.dropWhile, h]
def endX0 (x : X6) : X6 := if 0 < x.isos then { x with isos := x.isos - 1 } else if 0 < x.valid then { x with embeds := 0, st := unwind x.st, valid := x.valid - 1 } else x
def endX (x : X6) (c : Int) : X6 := putX (endX0 x) c
set_option maxRecDepth 20000 in
set_option maxHeartbeats 4000000 in
theorem endX_any (w : World) (B g : Nat) (x : X6) (lsl : Value) (c : Int) (e : Ent) (st : List Ent) (hst : (endX0 x).st = e :: st) (hx : HasX w B g x lsl) (hs : x.Small) :
 Calls Try.prog 71 #[.pointer (some ⟨g, 0, none⟩), .int .i64 c] w fun ed w' => ed = .returned (.tuple #[]) ∧ HasX w' B g (endX x c) lsl ∧ Below B w w' := by
 obtain ⟨sv, lv, cv, h⟩ := hx
 have h2 := h.field 2 (by omega)
 have h4 := h.field 4 (by omega)
 simp only [X6.cells, List.getElem?_cons_succ, List.getElem?_cons_zero] at h2 h4
 have H := Lib.hid h
 have hi := hs.isos
 have hv := hs.valid
 have HS := Lib.hid hs
 obtain ⟨y, hy⟩ : ∃ y, endX0 x = y := ⟨_, rfl⟩
 have HEY : Hid (endX x c = putX y c) := Lib.hid (by rw [endX, hy])
 have HYS : y.Small := by
  rw [← hy]
  have := hs.st; have := hs.lev; have := hs.cls; have := hs.isos; have := hs.embeds; have := hs.valid
  unfold endX0
  split
  ·exact ⟨hs.st, hs.lev, hs.cls, by show x.isos - 1 ≤ _; omega, hs.embeds, hs.valid⟩
  ·split
   ·refine ⟨?_, hs.lev, hs.cls, hs.isos, Nat.zero_le _, by show x.valid - 1 ≤ _; omega⟩
    have h1 : (unwind x.st).length ≤ x.st.length := by
     unfold unwind
     rw [List.length_tail]
     have := (List.dropWhile_sublist (l := x.st) (p := fun e => !e.iso)).length_le
     omega
    show (unwind x.st).length ≤ _
    omega
   ·exact hs
 have HYSt := Lib.hid HYS
 rw [hy] at hst
 have HST := Lib.hid hst
 have hf2 := fun e : Ent => field2 e.lev e.over e.iso
 have HF2 := Lib.hid hf2
 rcases h0 : decide (0 < x.isos) with _ | _
 ·have n0 : ¬ 0 < x.isos := by simp at h0; omega
  rcases h1 : decide (0 < x.valid) with _ | _
  ·have n1 : ¬ 0 < x.valid := by simp at h1; omega
   obtain rfl : x = y := by rw [← hy, endX0, if_neg n0, if_neg n1]
   clear h hst hs hy HYS hf2 n0 n1
   go_enter Try.func71, Try.ntmps71
   go_wp2_with fail
   refine (put_any w B g x lsl c e st HST.out ⟨_, _, _, H.out⟩ HS.out).mono ?_
   rintro ed w9 ⟨rfl, x9, b9⟩
   have X9 := Lib.hid x9
   have B9 := Lib.hid b9
   clear x9 b9
   go_wp2_with fail
   (try simp only [Exit.inBlock, Exit.then])
   exact bodyPost_end (results_none rfl _ _ _) rfl ⟨rfl, by rw [HEY.out]; exact X9.out, B9.out⟩
  ·have n1 : 0 < x.valid := by simp at h1; omega
   have hyy : y = { x with embeds := 0, st := unwind x.st, valid := x.valid - 1 } := by rw [← hy, endX0, if_neg n0, if_pos n1]
   have HYY := Lib.hid hyy
   have hun : unwind x.st = e :: st := by rw [hyy] at hst; exact hst
   have HUN := Lib.hid hun
   have hw1 : IntKind.i64.wrap ((x.valid : Int) - 1) = ((x.valid - 1 : Nat) : Int) := by rw [IntWalk.i64_in _ (by omega)]; omega
   clear h hst hs hy HYS hf2 n0 hyy hun
   go_enter Try.func71, Try.ntmps71
   go_wp2_with (first
    | (refine store_cell w B _ _ g 3 9 (.int .i64 0) _ w rfl rfl rfl (by kernel_rfl) rfl rfl rfl H.out.row (by simp [X6.cells]) (Below.refl _ _) ?_; intro w1 r1 b1 g1; have X1 := Lib.hid (H.out.stored (x' := { x with embeds := 0 }) r1 g1 rfl rfl rfl rfl); have B1 := Lib.hid b1; clear r1 b1 g1)
    | fail)
   clear h2 h4
   go_loopg [] x.st.length (fun k wr => ∃ s sv', s.length = k ∧ s.length ≤ 100000 ∧ unwind s = e :: st ∧ IsX wr B g { x with embeds := 0, st := s } lsl sv' lv cv ∧ Below B w wr)
   case atStart => exact ⟨x.st, sv, rfl, HS.out.st, HUN.out, X1.out, B1.out⟩
   case round =>
    obtain ⟨s, sv', hsk, hsl, hsu, hx, hb⟩ := hrel
    cases s with
    | nil => simp [unwind] at hsu
    | cons e1 s1 =>
     have X2 := Lib.hid hx
     have B2 := Lib.hid hb
     have hf := HF2.out e1
     have hsl' : (e1 :: s1).length ≤ 1000000 := by omega
     rcases hio : e1.iso with _ | _
     ·have HU := Lib.hid ((unwind_skip hio).symm.trans hsu)
      have HIO := Lib.hid hio
      rw [hio] at hf
      clear hsu hx hb hio
      go_wp2_with fail
      refine (top_any wr B g { x with embeds := 0, st := e1 :: s1 } lsl sv' lv cv e1 s1 rfl X2.out hsl').mono ?_
      rintro ed w3 ⟨rfl, b3⟩
      rw [HIO.out]
      have X3 := Lib.hid (X2.out.below b3 (Nat.le_refl _))
      have B3 := Lib.hid (B2.out.trans (b3.mono X2.out.le))
      clear b3
      go_wp2_with fail
      refine (pop_any w3 B g { x with embeds := 0, st := e1 :: s1 } lsl sv' lv cv e1 s1 rfl X3.out hsl').mono ?_
      rintro ed w4 ⟨rfl, ⟨sv4, x4⟩, b4⟩
      have X4 := Lib.hid x4
      have B4 := Lib.hid (B3.out.trans b4)
      clear x4 b4
      go_wp2_with fail
      go_roundg s1.length
      case measure => simp at hsk; omega
      case rel => exact ⟨s1, sv4, rfl, by simp at hsl; omega, HU.out, X4.out, B4.out⟩
     ·have HU := Lib.hid ((unwind_hit hio).symm.trans hsu)
      have HIO := Lib.hid hio
      rw [hio] at hf
      clear hsu hx hb hio
      go_wp2_with fail
      refine (top_any wr B g { x with embeds := 0, st := e1 :: s1 } lsl sv' lv cv e1 s1 rfl X2.out hsl').mono ?_
      rintro ed w3 ⟨rfl, b3⟩
      rw [HIO.out]
      have X3 := Lib.hid (X2.out.below b3 (Nat.le_refl _))
      have B3 := Lib.hid (B2.out.trans (b3.mono X2.out.le))
      clear b3
      go_wp2_with fail
      refine (pop_any w3 B g { x with embeds := 0, st := e1 :: s1 } lsl sv' lv cv e1 s1 rfl X3.out hsl').mono ?_
      rintro ed w4 ⟨rfl, ⟨sv4, x4⟩, b4⟩
      have X4 := Lib.hid x4
      have B4 := Lib.hid (B3.out.trans b4)
      have h4 := x4.field 4 (by omega)
      simp only [X6.cells, List.getElem?_cons_succ, List.getElem?_cons_zero] at h4
      clear x4 b4
      have HYE : Hid (y = { x with embeds := 0, st := s1, valid := x.valid - 1 }) := Lib.hid (by rw [HYY.out, HUN.out, HU.out])
      go_wp2_with (first
       | (refine store_cell w4 B _ _ g 4 9 (.int .i64 ((x.valid - 1 : Nat) : Int)) _ w4 rfl rfl rfl (by kernel_rfl) rfl rfl rfl X4.out.row (by simp [X6.cells]) (Below.refl _ _) ?_; intro w5 r5 b5 g5; have X5 := Lib.hid (X4.out.stored (x' := { x with embeds := 0, st := s1, valid := x.valid - 1 }) r5 g5 rfl rfl rfl rfl); have B5 := Lib.hid (B4.out.trans b5); clear r5 b5 g5)
       | fail)
      refine (put_any w5 B g y lsl c e st HST.out (by rw [HYE.out]; exact ⟨_, _, _, X5.out⟩) HYSt.out).mono ?_
      rintro ed w9 ⟨rfl, x9, b9⟩
      have X9 := Lib.hid x9
      have B9 := Lib.hid (B5.out.trans b9)
      clear x9 b9
      go_wp2_with fail
      (try simp only [Exit.inBlock, Exit.then])
      exact bodyPost_end (results_none rfl _ _ _) rfl ⟨rfl, by rw [HEY.out]; exact X9.out, B9.out⟩
 ·have n0 : 0 < x.isos := by simp at h0; omega
  have hyy : y = { x with isos := x.isos - 1 } := by rw [← hy, endX0, if_pos n0]
  have HYY := Lib.hid hyy
  have hw1 : IntKind.i64.wrap ((x.isos : Int) - 1) = ((x.isos - 1 : Nat) : Int) := by rw [IntWalk.i64_in _ (by omega)]; omega
  clear h hst hs hy HYS hf2 hyy
  go_enter Try.func71, Try.ntmps71
  go_wp2_with (first
   | (refine store_cell w B _ _ g 2 9 (.int .i64 ((x.isos - 1 : Nat) : Int)) _ w rfl rfl rfl (by kernel_rfl) rfl rfl rfl H.out.row (by simp [X6.cells]) (Below.refl _ _) ?_; intro w5 r5 b5 g5; have X5 := Lib.hid (H.out.stored (x' := { x with isos := x.isos - 1 }) r5 g5 rfl rfl rfl rfl); have B5 := Lib.hid b5; clear r5 b5 g5)
   | fail)
  refine (put_any w5 B g y lsl c e st HST.out (by rw [HYY.out]; exact ⟨_, _, _, X5.out⟩) HYSt.out).mono ?_
  rintro ed w9 ⟨rfl, x9, b9⟩
  have X9 := Lib.hid x9
  have B9 := Lib.hid (B5.out.trans b9)
  clear x9 b9
  go_wp2_with fail
  (try simp only [Exit.inBlock, Exit.then])
  exact bodyPost_end (results_none rfl _ _ _) rfl ⟨rfl, by rw [HEY.out]; exact X9.out, B9.out⟩
end Go.Proofs.Ytadfleopbpomfaa
namespace Go.Proofs.Ytadfleopbpomfaa
open Go.RowKit
def resetP (p : P6) : P6 := { p with st := [⟨p.base, -1, false⟩], isos := 0, embeds := 0, valid := 0 }
def beginP (p : P6) (d o : Int) : P6 := if (overP p || !fitP p d) = true then (if p.isos = 0 then { p with embeds := p.embeds + 1 } else p) else pushP p d o false
def backP (p : P6) : P6 := if 0 < p.isos then p else if 0 < p.embeds then { p with embeds := p.embeds - 1 } else match p.st with
 | [] => p
 | e :: st => if e.iso = false ∧ 1 ≤ st.length then { p with st := st } else p
end Go.Proofs.Ytadfleopbpomfaa
namespace Go.Proofs.Ytadfleopbpomfaa
open Go.RowKit
def overE (e : Ent) (k : Int) : Int := if e.over = -1 then k else e.over
def knownI (k : Int) : Int := if k < 0 ∨ 22 < k then 0 else k
def embedP (p : P6) (k : Int) : P6 := if k = 16 then beginP p 1 (-1) else if k = 14 then beginP p 0 (-1) else if k = 17 then beginP p 1 1 else if k = 15 then beginP p 0 0 else if k = 18 then backP p else p
def isolateP (p : P6) (l : List Int) (i : Int) : P6 := if (overP p || !fitP p (isolate l i)) = true then { p with isos := p.isos + 1 } else { pushP p (isolate l i) (-1) true with valid := p.valid + 1 }
def endP (p : P6) : P6 := if 0 < p.isos then { p with isos := p.isos - 1 } else if 0 < p.valid then { p with embeds := 0, st := unwind p.st, valid := p.valid - 1 } else p
end Go.Proofs.Ytadfleopbpomfaa
namespace Go.Proofs.Ytadfleopbpomfaa
open Go.RowKit
def stepP (p : P6) (l : List Int) (i k : Int) : P6 := if k = 10 then resetP p else if isOut k then embedP p k else if isOpens k then isolateP p l i else if k = 22 then endP p else p
def tellP (p : P6) (k : Int) : Int × Int := match p.st with
 | [] => (0, 0)
 | e :: _ => if k = 10 then (p.base, k) else if isOut k then (e.lev, k) else if isOpens k then (e.lev, overE e k)
  else if k = 22 then (match (endP p).st with | [] => (0, 0) | e2 :: _ => (e2.lev, overE e2 k)) else (e.lev, overE e (knownI k))
end Go.Proofs.Ytadfleopbpomfaa
