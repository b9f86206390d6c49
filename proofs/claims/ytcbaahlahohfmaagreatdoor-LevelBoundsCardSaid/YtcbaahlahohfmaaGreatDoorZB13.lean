/- Shared texts, shaken for one claim. -/
import Derived.RangeFuncNested
import Derived.RangeFuncBound
import Derived.RangeFuncCalls
import Derived.RangeFuncLeaves
import Derived.Shelf.Abstract
import Derived.Shelf.RegionOpen
import Derived.OwnWalkIn
import Derived.TacticsInMore
import Derived.LoopNIn
import Derived.LoopIn
import Derived.Test.YtcbaahlahohfmaaGreatDoorZB7
import Derived.Test.YtcbaahlahohfmaaGreatDoorZB9
import Derived.Test.YtcbaahlahohfmaaGreatDoorZB11
namespace Go.Proofs.YtcbaahlahohfmaaGreatDoor
open Go.RowKit
theorem bracket_any (c k : Int) (w : World) : Calls Tryz.prog 139 #[.int .i64 c, .int .i64 k] w fun e w' =>
 e = .returned (.tuple #[.int .i64 (if k = 13 then (oth c).1 else 0), .bool (decide (k = 13) && (oth c).2.1), .bool (decide (k = 13) && (oth c).2.2)]) ∧ Below w.heap.size w w' := by
 rcases h13 : (k != 13) with _ | _
 ·have hk : k = 13 := by simpa using h13
  rw [if_pos hk, decide_eq_true hk, Bool.true_and, Bool.true_and]
  clear hk
  obtain ⟨⟨o, op, ok⟩, hoth⟩ : ∃ z, oth c = z := ⟨_, rfl⟩
  have HOT := Lib.hid hoth
  rw [hoth]
  clear hoth
  go_enter Tryz.func139, Tryz.ntmps139
  go_wp2_with fail
  refine (other_any c w).mono ?_
  rintro e w1 ⟨rfl, b1⟩
  rw [HOT.out]
  have B1 := Lib.hid b1
  clear b1
  go_wp2_with fail
  go_ret3
  exact ⟨rfl, B1.out⟩
 ·have hk : ¬ k = 13 := by simpa using h13
  rw [if_neg hk, decide_eq_false hk, Bool.false_and, Bool.false_and]
  clear hk
  go_enter Tryz.func139, Tryz.ntmps139
  go_wp2_with fail
  go_ret3
  exact ⟨rfl, Below.refl _ _⟩
set_option maxHeartbeats 4000000 in
theorem bsides_any (A : Option Addr) (l : List Int) (c : Nat) (f t : Int) (w : World) (h : Lies w w.heap.size A (ints .i64 l)) (hl : l.length ≤ 1000) (hf : -9223372036854775808 ≤ f ∧ f ≤ 9223372036854775807) (_ : -9223372036854775808 ≤ t ∧ t ≤ 9223372036854775807) :
 Calls Tryz.prog 144 #[.slice A l.length c, .int .i64 f, .int .i64 t] w fun e w' => e = .returned (.tuple #[.bool (hasL l f t), .bool (hasR l f t)]) ∧ Below w.heap.size w w' := by
 have H := Lib.hid h
 obtain ⟨z0, hz0⟩ : ∃ z, hasL l f t = z := ⟨_, rfl⟩
 obtain ⟨z1, hz1⟩ : ∃ z, hasR l f t = z := ⟨_, rfl⟩
 have Z0 := Lib.hid hz0
 have Z1 := Lib.hid hz1
 rw [hz0, hz1]
 obtain ⟨a, ha⟩ : ∃ a, lowB f = a := ⟨_, rfl⟩
 have HA := Lib.hid ha
 have haf : (a : Int) = max 0 f := by rw [← ha, lowB]; omega
 clear h hz0 hz1 ha
 rcases Decidable.em (f < 0) with h1 | h1
 ·rcases Decidable.em ((l.length : Int) < t) with h2 | h2
  ·have TT := trivial
   go_enter Tryz.func144, Tryz.ntmps144
   go_wp2_with fail
   go_loopw [8, 6, 7] (fun iv lv rv wr => ∃ i : Nat, (a = i ∨ i ≤ highB l t) ∧ a ≤ i ∧ iv = .int .i64 i ∧ lv = .bool (hasS 0 l a i) ∧ rv = .bool (hasS 1 l a i) ∧ wr = w) (fun iv _ _ _ => l.length - (intOf iv).toNat)
   case atStart => exact ⟨a, .inl rfl, Nat.le_refl _, by rw [show (a : Int) = 0 by omega], by rw [hasS_begin], by rw [hasS_begin], rfl⟩
   case round =>
    obtain ⟨i, hi, hia, rfl, rfl, rfl, rfl⟩ := hrel
    obtain ⟨lb, hlb⟩ : ∃ z, hasS 0 l a i = z := ⟨_, rfl⟩
    obtain ⟨rb, hrb⟩ : ∃ z, hasS 1 l a i = z := ⟨_, rfl⟩
    rw [hlb, hrb]
    have HLB := Lib.hid hlb
    have HRB := Lib.hid hrb
    clear hlb hrb
    by_cases hlt : (i : Int) < (l.length : Int)
    ·have hil : i < l.length := by omega
     obtain ⟨p, hp, _, hc⟩ := H.out.int hil
     subst hp
     obtain ⟨x, hx⟩ : ∃ x, l[i] = x := ⟨_, rfl⟩
     rw [hx] at hc
     have HX := Lib.hid hx
     have HL := Lib.hid (hasS_next 0 l a i hia hil)
     have HR := Lib.hid (hasS_next 1 l a i hia hil)
     have b0 : (0 : Int) ≤ (i : Int) := by omega
     have b1 : (i : Int) < (l.length : Int) := by omega
     have hdd : decide ((i : Int) < (l.length : Int)) = true := by simpa using hlt
     clear hx
     obtain ⟨s, hs⟩ : ∃ s, sdB x = s := ⟨_, rfl⟩
     have HS := Lib.hid hs
     clear hs
     go_wp2_with fail
     refine (bside_q x _).mono ?_
     rintro e wq ⟨rfl, rfl⟩
     rw [HS.out]
     rcases h0 : (s == 0) with _ | _
     ·rcases h1 : (s == 1) with _ | _
      ·go_wp2_with fail
       go_roundw
       case rel => exact ⟨i + 1, by first | exact .inr (by unfold highB; omega) | omega, by omega, by go_num, by rw [HL.out, HLB.out, HX.out, HS.out, h0, Bool.or_false], by rw [HR.out, HRB.out, HX.out, HS.out, h1, Bool.or_false], by first | rfl | trivial⟩
       case measure => simp [intOf]; omega
      ·go_wp2_with fail
       go_roundw
       case rel => exact ⟨i + 1, by first | exact .inr (by unfold highB; omega) | omega, by omega, by go_num, by rw [HL.out, HLB.out, HX.out, HS.out, h0, Bool.or_false], by rw [HR.out, HRB.out, HX.out, HS.out, h1, Bool.or_true], by first | rfl | trivial⟩
       case measure => simp [intOf]; omega
     ·have h1 : (s == 1) = false := by simp at h0 ⊢; omega
      go_wp2_with fail
      go_roundw
      case rel => exact ⟨i + 1, by first | exact .inr (by unfold highB; omega) | omega, by omega, by go_num, by rw [HL.out, HLB.out, HX.out, HS.out, h0, Bool.or_true], by rw [HR.out, HRB.out, HX.out, HS.out, h1, Bool.or_false], by first | rfl | trivial⟩
      case measure => simp [intOf]; omega
    ·have hdd : decide ((i : Int) < (l.length : Int)) = false := by simpa using hlt
     have HEND : Hid (lb = z0 ∧ rb = z1) := Lib.hid (by
      rw [← HLB.out, ← HRB.out, ← Z0.out, ← Z1.out, hasL, hasR]
      by_cases hab : a ≤ highB l t
      ·have : i = highB l t := by unfold highB at *; omega
       rw [this, HA.out]; exact ⟨rfl, rfl⟩
      ·rw [hasS_none 0 l (by omega), hasS_none 1 l (by omega), hasS_none 0 l (by rw [HA.out]; omega), hasS_none 1 l (by rw [HA.out]; omega)]; exact ⟨rfl, rfl⟩)
     go_wp2_with fail
     go_ret2
     exact ⟨by rw [HEND.out.1, HEND.out.2]; rfl, Below.refl _ _⟩
  ·have TT := trivial
   go_enter Tryz.func144, Tryz.ntmps144
   go_wp2_with fail
   go_loopw [8, 6, 7] (fun iv lv rv wr => ∃ i : Nat, (a = i ∨ i ≤ highB l t) ∧ a ≤ i ∧ iv = .int .i64 i ∧ lv = .bool (hasS 0 l a i) ∧ rv = .bool (hasS 1 l a i) ∧ wr = w) (fun iv _ _ _ => l.length - (intOf iv).toNat)
   case atStart => exact ⟨a, .inl rfl, Nat.le_refl _, by rw [show (a : Int) = 0 by omega], by rw [hasS_begin], by rw [hasS_begin], rfl⟩
   case round =>
    obtain ⟨i, hi, hia, rfl, rfl, rfl, rfl⟩ := hrel
    obtain ⟨lb, hlb⟩ : ∃ z, hasS 0 l a i = z := ⟨_, rfl⟩
    obtain ⟨rb, hrb⟩ : ∃ z, hasS 1 l a i = z := ⟨_, rfl⟩
    rw [hlb, hrb]
    have HLB := Lib.hid hlb
    have HRB := Lib.hid hrb
    clear hlb hrb
    by_cases hlt : (i : Int) < t
    ·have hil : i < l.length := by omega
     obtain ⟨p, hp, _, hc⟩ := H.out.int hil
     subst hp
     obtain ⟨x, hx⟩ : ∃ x, l[i] = x := ⟨_, rfl⟩
     rw [hx] at hc
     have HX := Lib.hid hx
     have HL := Lib.hid (hasS_next 0 l a i hia hil)
     have HR := Lib.hid (hasS_next 1 l a i hia hil)
     have b0 : (0 : Int) ≤ (i : Int) := by omega
     have b1 : (i : Int) < (l.length : Int) := by omega
     have hdd : decide ((i : Int) < t) = true := by simpa using hlt
     clear hx
     obtain ⟨s, hs⟩ : ∃ s, sdB x = s := ⟨_, rfl⟩
     have HS := Lib.hid hs
     clear hs
     go_wp2_with fail
     refine (bside_q x _).mono ?_
     rintro e wq ⟨rfl, rfl⟩
     rw [HS.out]
     rcases h0 : (s == 0) with _ | _
     ·rcases h1 : (s == 1) with _ | _
      ·go_wp2_with fail
       go_roundw
       case rel => exact ⟨i + 1, by first | exact .inr (by unfold highB; omega) | omega, by omega, by go_num, by rw [HL.out, HLB.out, HX.out, HS.out, h0, Bool.or_false], by rw [HR.out, HRB.out, HX.out, HS.out, h1, Bool.or_false], by first | rfl | trivial⟩
       case measure => simp [intOf]; omega
      ·go_wp2_with fail
       go_roundw
       case rel => exact ⟨i + 1, by first | exact .inr (by unfold highB; omega) | omega, by omega, by go_num, by rw [HL.out, HLB.out, HX.out, HS.out, h0, Bool.or_false], by rw [HR.out, HRB.out, HX.out, HS.out, h1, Bool.or_true], by first | rfl | trivial⟩
       case measure => simp [intOf]; omega
     ·have h1 : (s == 1) = false := by simp at h0 ⊢; omega
      go_wp2_with fail
      go_roundw
      case rel => exact ⟨i + 1, by first | exact .inr (by unfold highB; omega) | omega, by omega, by go_num, by rw [HL.out, HLB.out, HX.out, HS.out, h0, Bool.or_true], by rw [HR.out, HRB.out, HX.out, HS.out, h1, Bool.or_false], by first | rfl | trivial⟩
      case measure => simp [intOf]; omega
    ·have hdd : decide ((i : Int) < t) = false := by simpa using hlt
     have HEND : Hid (lb = z0 ∧ rb = z1) := Lib.hid (by
      rw [← HLB.out, ← HRB.out, ← Z0.out, ← Z1.out, hasL, hasR]
      by_cases hab : a ≤ highB l t
      ·have : i = highB l t := by unfold highB at *; omega
       rw [this, HA.out]; exact ⟨rfl, rfl⟩
      ·rw [hasS_none 0 l (by omega), hasS_none 1 l (by omega), hasS_none 0 l (by rw [HA.out]; omega), hasS_none 1 l (by rw [HA.out]; omega)]; exact ⟨rfl, rfl⟩)
     go_wp2_with fail
     go_ret2
     exact ⟨by rw [HEND.out.1, HEND.out.2]; rfl, Below.refl _ _⟩
 ·rcases Decidable.em ((l.length : Int) < t) with h2 | h2
  ·have TT := trivial
   go_enter Tryz.func144, Tryz.ntmps144
   go_wp2_with fail
   go_loopw [8, 6, 7] (fun iv lv rv wr => ∃ i : Nat, (a = i ∨ i ≤ highB l t) ∧ a ≤ i ∧ iv = .int .i64 i ∧ lv = .bool (hasS 0 l a i) ∧ rv = .bool (hasS 1 l a i) ∧ wr = w) (fun iv _ _ _ => l.length - (intOf iv).toNat)
   case atStart => exact ⟨a, .inl rfl, Nat.le_refl _, by rw [show (a : Int) = f by omega], by rw [hasS_begin], by rw [hasS_begin], rfl⟩
   case round =>
    obtain ⟨i, hi, hia, rfl, rfl, rfl, rfl⟩ := hrel
    obtain ⟨lb, hlb⟩ : ∃ z, hasS 0 l a i = z := ⟨_, rfl⟩
    obtain ⟨rb, hrb⟩ : ∃ z, hasS 1 l a i = z := ⟨_, rfl⟩
    rw [hlb, hrb]
    have HLB := Lib.hid hlb
    have HRB := Lib.hid hrb
    clear hlb hrb
    by_cases hlt : (i : Int) < (l.length : Int)
    ·have hil : i < l.length := by omega
     obtain ⟨p, hp, _, hc⟩ := H.out.int hil
     subst hp
     obtain ⟨x, hx⟩ : ∃ x, l[i] = x := ⟨_, rfl⟩
     rw [hx] at hc
     have HX := Lib.hid hx
     have HL := Lib.hid (hasS_next 0 l a i hia hil)
     have HR := Lib.hid (hasS_next 1 l a i hia hil)
     have b0 : (0 : Int) ≤ (i : Int) := by omega
     have b1 : (i : Int) < (l.length : Int) := by omega
     have hdd : decide ((i : Int) < (l.length : Int)) = true := by simpa using hlt
     clear hx
     obtain ⟨s, hs⟩ : ∃ s, sdB x = s := ⟨_, rfl⟩
     have HS := Lib.hid hs
     clear hs
     go_wp2_with fail
     refine (bside_q x _).mono ?_
     rintro e wq ⟨rfl, rfl⟩
     rw [HS.out]
     rcases h0 : (s == 0) with _ | _
     ·rcases h1 : (s == 1) with _ | _
      ·go_wp2_with fail
       go_roundw
       case rel => exact ⟨i + 1, by first | exact .inr (by unfold highB; omega) | omega, by omega, by go_num, by rw [HL.out, HLB.out, HX.out, HS.out, h0, Bool.or_false], by rw [HR.out, HRB.out, HX.out, HS.out, h1, Bool.or_false], by first | rfl | trivial⟩
       case measure => simp [intOf]; omega
      ·go_wp2_with fail
       go_roundw
       case rel => exact ⟨i + 1, by first | exact .inr (by unfold highB; omega) | omega, by omega, by go_num, by rw [HL.out, HLB.out, HX.out, HS.out, h0, Bool.or_false], by rw [HR.out, HRB.out, HX.out, HS.out, h1, Bool.or_true], by first | rfl | trivial⟩
       case measure => simp [intOf]; omega
     ·have h1 : (s == 1) = false := by simp at h0 ⊢; omega
      go_wp2_with fail
      go_roundw
      case rel => exact ⟨i + 1, by first | exact .inr (by unfold highB; omega) | omega, by omega, by go_num, by rw [HL.out, HLB.out, HX.out, HS.out, h0, Bool.or_true], by rw [HR.out, HRB.out, HX.out, HS.out, h1, Bool.or_false], by first | rfl | trivial⟩
      case measure => simp [intOf]; omega
    ·have hdd : decide ((i : Int) < (l.length : Int)) = false := by simpa using hlt
     have HEND : Hid (lb = z0 ∧ rb = z1) := Lib.hid (by
      rw [← HLB.out, ← HRB.out, ← Z0.out, ← Z1.out, hasL, hasR]
      by_cases hab : a ≤ highB l t
      ·have : i = highB l t := by unfold highB at *; omega
       rw [this, HA.out]; exact ⟨rfl, rfl⟩
      ·rw [hasS_none 0 l (by omega), hasS_none 1 l (by omega), hasS_none 0 l (by rw [HA.out]; omega), hasS_none 1 l (by rw [HA.out]; omega)]; exact ⟨rfl, rfl⟩)
     go_wp2_with fail
     go_ret2
     exact ⟨by rw [HEND.out.1, HEND.out.2]; rfl, Below.refl _ _⟩
  ·have TT := trivial
   go_enter Tryz.func144, Tryz.ntmps144
   go_wp2_with fail
   go_loopw [8, 6, 7] (fun iv lv rv wr => ∃ i : Nat, (a = i ∨ i ≤ highB l t) ∧ a ≤ i ∧ iv = .int .i64 i ∧ lv = .bool (hasS 0 l a i) ∧ rv = .bool (hasS 1 l a i) ∧ wr = w) (fun iv _ _ _ => l.length - (intOf iv).toNat)
   case atStart => exact ⟨a, .inl rfl, Nat.le_refl _, by rw [show (a : Int) = f by omega], by rw [hasS_begin], by rw [hasS_begin], rfl⟩
   case round =>
    obtain ⟨i, hi, hia, rfl, rfl, rfl, rfl⟩ := hrel
    obtain ⟨lb, hlb⟩ : ∃ z, hasS 0 l a i = z := ⟨_, rfl⟩
    obtain ⟨rb, hrb⟩ : ∃ z, hasS 1 l a i = z := ⟨_, rfl⟩
    rw [hlb, hrb]
    have HLB := Lib.hid hlb
    have HRB := Lib.hid hrb
    clear hlb hrb
    by_cases hlt : (i : Int) < t
    ·have hil : i < l.length := by omega
     obtain ⟨p, hp, _, hc⟩ := H.out.int hil
     subst hp
     obtain ⟨x, hx⟩ : ∃ x, l[i] = x := ⟨_, rfl⟩
     rw [hx] at hc
     have HX := Lib.hid hx
     have HL := Lib.hid (hasS_next 0 l a i hia hil)
     have HR := Lib.hid (hasS_next 1 l a i hia hil)
     have b0 : (0 : Int) ≤ (i : Int) := by omega
     have b1 : (i : Int) < (l.length : Int) := by omega
     have hdd : decide ((i : Int) < t) = true := by simpa using hlt
     clear hx
     obtain ⟨s, hs⟩ : ∃ s, sdB x = s := ⟨_, rfl⟩
     have HS := Lib.hid hs
     clear hs
     go_wp2_with fail
     refine (bside_q x _).mono ?_
     rintro e wq ⟨rfl, rfl⟩
     rw [HS.out]
     rcases h0 : (s == 0) with _ | _
     ·rcases h1 : (s == 1) with _ | _
      ·go_wp2_with fail
       go_roundw
       case rel => exact ⟨i + 1, by first | exact .inr (by unfold highB; omega) | omega, by omega, by go_num, by rw [HL.out, HLB.out, HX.out, HS.out, h0, Bool.or_false], by rw [HR.out, HRB.out, HX.out, HS.out, h1, Bool.or_false], by first | rfl | trivial⟩
       case measure => simp [intOf]; omega
      ·go_wp2_with fail
       go_roundw
       case rel => exact ⟨i + 1, by first | exact .inr (by unfold highB; omega) | omega, by omega, by go_num, by rw [HL.out, HLB.out, HX.out, HS.out, h0, Bool.or_false], by rw [HR.out, HRB.out, HX.out, HS.out, h1, Bool.or_true], by first | rfl | trivial⟩
       case measure => simp [intOf]; omega
     ·have h1 : (s == 1) = false := by simp at h0 ⊢; omega
      go_wp2_with fail
      go_roundw
      case rel => exact ⟨i + 1, by first | exact .inr (by unfold highB; omega) | omega, by omega, by go_num, by rw [HL.out, HLB.out, HX.out, HS.out, h0, Bool.or_true], by rw [HR.out, HRB.out, HX.out, HS.out, h1, Bool.or_false], by first | rfl | trivial⟩
      case measure => simp [intOf]; omega
    ·have hdd : decide ((i : Int) < t) = false := by simpa using hlt
     have HEND : Hid (lb = z0 ∧ rb = z1) := Lib.hid (by
      rw [← HLB.out, ← HRB.out, ← Z0.out, ← Z1.out, hasL, hasR]
      by_cases hab : a ≤ highB l t
      ·have : i = highB l t := by unfold highB at *; omega
       rw [this, HA.out]; exact ⟨rfl, rfl⟩
      ·rw [hasS_none 0 l (by omega), hasS_none 1 l (by omega), hasS_none 0 l (by rw [HA.out]; omega), hasS_none 1 l (by rw [HA.out]; omega)]; exact ⟨rfl, rfl⟩)
     go_wp2_with fail
     go_ret2
     exact ⟨by rw [HEND.out.1, HEND.out.2]; rfl, Below.refl _ _⟩
end Go.Proofs.YtcbaahlahohfmaaGreatDoor
namespace Go.Proofs.YtcbaahlahohfmaaGreatDoor
open Go.RowKit
attribute [local go_sem] Oper.semAt_some
def bwAt (l : List Int) (j : Nat) : Nat × Int := (l.length - 1 - j, l.getD (l.length - 1 - j) 0)
def bwTo (l : List Int) (k : Nat) : List (Nat × Int) := (List.range k).map (bwAt l)
theorem bwTo_succ (l : List Int) (k : Nat) : bwTo l (k + 1) = bwTo l k ++ [bwAt l k] := by simp [bwTo, List.range_succ]
theorem bwTo_length (l : List Int) (k : Nat) : (bwTo l k).length = k := by simp [bwTo]
set_option maxRecDepth 100000 in
set_option maxHeartbeats 2000000 in
theorem bw1_in (F : Fence) (n : Nat) (hF : F.fn 178) (hro : F.round = none) (hn : 1 ≤ n) (l0 Bs n₀ cap : Nat) (A : Option Addr) (l : List Int) (hl : l.length ≤ 1000000) (J Jx : List (Nat × Int) → World → Prop)
 (hY : ∀ k W, k < l.length → J (bwTo l k) W → YieldAt F (n - 1) Tryz.prog l0 #[.int .i64 ((bwAt l k).1 : Int), .int .i64 (bwAt l k).2] W fun e W' =>
  (e = .returned (.bool true) ∧ J (bwTo l (k + 1)) W' ∧ Below n₀ W W') ∨ (e = .returned (.bool false) ∧ Jx (bwTo l (k + 1)) W'))
 (W : World) (hBl : Bs < n₀) (hBs : W.cell? ⟨Bs, 0, none⟩ = some (.slice A l.length cap)) (hL : Lies W n₀ A (ints .i64 l)) (h0 : J [] W) :
 CallsIn F n Tryz.prog 178 #[.func (.yield l0) #[] #[], .pointer (some ⟨Bs, 0, none⟩)] W fun e W' => (∃ v, e = .returned v) ∧
  ((∃ ys, ys = bwTo l l.length ∧ J ys W') ∨ (∃ pre, (∃ k, k ≤ l.length ∧ pre = bwTo l k) ∧ Jx pre W')) := by
 have HY := Lib.hid hY
 have HL := Lib.hid hL
 have HB := Lib.hid hBs
 have H0 := Lib.hid h0
 clear hY hL h0
 refine callsIn_of_wp Tryz.func178 rfl hF ?_ hro
 simp only [Tryz.ntmps178, List.size_toArray, List.length_cons, List.length_nil, Nat.reduceAdd, Nat.reduceSub, Array.replicate_succ, Array.replicate_zero, List.push_toArray, List.append_toArray, List.nil_append, List.cons_append]
 have hw0 : IntKind.i64.wrap ((l.length : Int) - 1) = (l.length : Int) - 1 := IntWalk.i64_in _ (by omega)
 gi_wp2
 gi_loopw [3] (fun i wr => ∃ k : Nat, k ≤ l.length ∧ i = .int .i64 ((l.length : Int) - 1 - (k : Int)) ∧ Hid (J (bwTo l k) wr) ∧ Hid (Below n₀ W wr))
  (fun i _ => (intOf i + 1).toNat)
 case atStart => exact ⟨0, Nat.zero_le _, by simp, H0, Lib.hid (Below.refl _ _)⟩
 case round =>
  obtain ⟨k, hk, rfl, HJ, HBr⟩ := hrel
  by_cases hlt : k < l.length
  ·obtain ⟨m, hm⟩ : ∃ m, l.length - 1 - k = m := ⟨_, rfl⟩
   have hmz : (l.length : Int) - 1 - (k : Int) = (m : Int) := by omega
   rw [hmz]
   have hml : m < l.length := by omega
   obtain ⟨p, rfl, _, hc⟩ := (HL.out.below HBr.out).int hml
   have hc' : wr.cell? (p.add m) = some (.int .i64 (l.getD m 0)) := by rw [getD_at hml]; exact hc
   have hbc := (HBr.out.cell (p := ⟨Bs, 0, none⟩) hBl).trans HB.out
   have b0 : (0 : Int) ≤ (m : Int) := by omega
   have b1 : (m : Int) < (l.length : Int) := by omega
   have hq := HY.out k wr hlt HJ.out
   rw [show bwAt l k = (m, l.getD m 0) by rw [bwAt, hm]] at hq
   obtain ⟨fn, tmps, assign, body, hy, hR⟩ := hq
   dsimp only at hy
   have hw1 : IntKind.i64.wrap ((m : Int) - 1) = (l.length : Int) - 1 - ((k + 1 : Nat) : Int) := by rw [IntWalk.i64_in _ (by omega)]; omega
   obtain ⟨x, hx⟩ : ∃ x, l.getD m 0 = x := ⟨_, rfl⟩
   rw [hx] at hc' hy
   have HM := Lib.hid hm
   clear hc hmz hm hBs hx
   have HR := Lib.hid hR
   clear hR
   gi_wp2
   refine HR.out.mono ?_
   rintro e W3 (⟨rfl, j3, k3⟩ | ⟨rfl, j3⟩)
   ·have HJ3 := Lib.hid j3
    have HK3 := Lib.hid (HBr.out.trans k3)
    clear j3 k3
    gi_wp2
    go_roundw
    case rel => exact ⟨k + 1, by omega, by first | rfl | trivial, HJ3, HK3⟩
    case measure => have := HM.out; simp [intOf]; omega
   ·have HJ3 := Lib.hid j3
    clear j3
    gi_wp2
    refine bodyPost_ret (results_none rfl _ _ _) rfl ?_
    exact ⟨⟨_, rfl⟩, .inr ⟨_, ⟨k + 1, by omega, rfl⟩, HJ3.out⟩⟩
  ·obtain rfl : k = l.length := by omega
   have hmz : (l.length : Int) - 1 - (l.length : Int) = -1 := by omega
   rw [hmz]
   clear hBs hmz
   gi_wp2
   go_end0
   exact ⟨⟨_, rfl⟩, .inl ⟨_, rfl, HJ.out⟩⟩
set_option maxHeartbeats 1000000 in
theorem bw_in (F : Fence) (n : Nat) (hF : F.fn 169) (hro : F.round = none) (A : Option Addr) (len cap : Nat) (w : World) :
 CallsIn F n Tryz.prog 169 #[.slice A len cap] w fun e w' => e = .returned (.func (.func 178) #[] #[.pointer (some ⟨w.heap.size, 0, none⟩)]) ∧ w' = w.alloc (.cells #[.slice A len cap] 22) := by
 refine callsIn_of_wp Tryz.func169 rfl hF ?_ hro
 simp only [Tryz.ntmps169, List.size_toArray, List.length_cons, List.length_nil, Nat.reduceAdd, Nat.reduceSub, Array.replicate_succ, Array.replicate_zero, List.push_toArray, List.append_toArray, List.nil_append, List.cons_append]
 gi_wp2
 go_ret
 exact ⟨rfl, rfl⟩
theorem bw_stops (F : Fence) (n : Nat) (hF : F.fn 178) (hro : F.round = none) (hn : 1 ≤ n) (Bs n₀ cap : Nat) (A : Option Addr) (l : List Int) (hl : l.length ≤ 1000000) (w : World) (hBl : Bs < n₀) (hn₀ : n₀ ≤ w.heap.size)
 (hc : w.cell? ⟨Bs, 0, none⟩ = some (.slice A l.length cap)) (hL : Lies w n₀ A (ints .i64 l)) :
 SeqStopsK F n Tryz.prog 178 #[.pointer (some ⟨Bs, 0, none⟩)] (fun x : Nat × Int => #[Value.int .i64 (x.1 : Int), Value.int .i64 x.2]) (Below n₀) (fun ys => ys = bwTo l l.length)
  (fun pre => ∃ k, k ≤ l.length ∧ pre = bwTo l k) l.length w := fun l0 J Jx W hW _ _ hY h0 =>
 bw1_in F n hF hro hn l0 Bs n₀ cap A l hl J Jx (fun k u hk hj => by rw [bwTo_succ]; exact hY (bwTo l k) (bwAt l k) u hj (by rw [bwTo_length]; exact hk)) W hBl ((hW.cell (p := ⟨Bs, 0, none⟩) (by show Bs < _; omega)).trans hc) (hL.below (hW.mono hn₀)) h0
theorem bw_stopsP (p : Nat × Int → Prop) (F : Fence) (n : Nat) (hF : F.fn 178) (hro : F.round = none) (hn : 1 ≤ n) (Bs n₀ cap : Nat) (A : Option Addr) (l : List Int) (hl : l.length ≤ 1000000) (w : World) (hBl : Bs < n₀) (hn₀ : n₀ ≤ w.heap.size)
 (hc : w.cell? ⟨Bs, 0, none⟩ = some (.slice A l.length cap)) (hL : Lies w n₀ A (ints .i64 l)) (hp : ∀ k, k < l.length → p (bwAt l k)) :
 SeqStopsK F n Tryz.prog 178 #[.pointer (some ⟨Bs, 0, none⟩)] (fun x : {x : Nat × Int // p x} => #[Value.int .i64 (x.1.1 : Int), Value.int .i64 x.1.2]) (Below n₀) (fun ys => ys.map Subtype.val = bwTo l l.length)
  (fun pre => ∃ k, k ≤ l.length ∧ pre.map Subtype.val = bwTo l k) l.length w := fun l0 J Jx W hW _ _ hY h0 => by
 refine (bw1_in F n hF hro hn l0 Bs n₀ cap A l hl (fun ys u => ∃ xs : List {x : Nat × Int // p x}, xs.map Subtype.val = ys ∧ J xs u) (fun ys u => ∃ xs : List {x : Nat × Int // p x}, xs.map Subtype.val = ys ∧ Jx xs u)
  (fun k u hk hj => ?_) W hBl ((hW.cell (p := ⟨Bs, 0, none⟩) (by show Bs < _; omega)).trans hc) (hL.below (hW.mono hn₀)) (by exact ⟨[], rfl, h0⟩)).mono ?_
 ·obtain ⟨xs, e1, hj⟩ := hj
  obtain ⟨fn, tmps, assign, body, hy, hR⟩ := hY xs ⟨bwAt l k, hp k hk⟩ u hj (by rw [← List.length_map (f := Subtype.val), e1, bwTo_length]; exact hk)
  have e2 : (xs ++ [(⟨bwAt l k, hp k hk⟩ : {x : Nat × Int // p x})]).map Subtype.val = bwTo l (k + 1) := by rw [List.map_append, e1, bwTo_succ]; rfl
  refine ⟨fn, tmps, assign, body, hy, RoundIn.mono hR ?_⟩
  rintro e W3 (⟨rfl, j3, k3⟩ | ⟨rfl, j3⟩)
  ·exact .inl ⟨rfl, ⟨_, e2, j3⟩, k3⟩
  ·exact .inr ⟨rfl, ⟨_, e2, j3⟩⟩
 ·rintro e W3 ⟨hv, ⟨ys, e1, xs, e2, hj⟩ | ⟨pre, ⟨k, hk, e1⟩, xs, e2, hj⟩⟩
  ·exact ⟨hv, .inl ⟨xs, e2.trans e1, hj⟩⟩
  ·exact ⟨hv, .inr ⟨xs, ⟨k, hk, e2.trans e1⟩, hj⟩⟩
end Go.Proofs.YtcbaahlahohfmaaGreatDoor
