/- Shared texts, shaken for one claim. -/
import Derived.Test.YtcbaahlahohfmaaGreatDoorZA1
import Derived.Test.YtcbaahlahohfmaaGreatDoorZA6
import Derived.Test.YtcbaahlahohfmaaGreatDoorZA13
import Derived.Test.YtcbaahlahohfmaaGreatDoorZA17
import Derived.Test.YtcbaahlahohfmaaGreatDoorZA19
namespace Go.Proofs.YtcbaahlahohfmaaGreatDoor
open Go.RowKit
theorem pairs_ended (chars classes : List Int) : ∀ d k, (pairsN chars classes k).ended = true → pairsN chars classes (k + d) = pairsN chars classes k := by
 intro d
 induction d with
 | zero => intro k _; rfl
 | succ d ih =>
  intro k h
  rw [show k + (d + 1) = k + d + 1 by omega, pairsN, ih k h, pStep, if_pos h]
theorem pairs_le (chars classes : List Int) : ∀ k, (pairsN chars classes k).out.length ≤ k ∧ (pairsN chars classes k).waits.length ≤ k := by
 intro k
 induction k with
 | zero => exact ⟨Nat.le_refl _, Nat.le_refl _⟩
 | succ k ih =>
  rw [pairsN]
  obtain ⟨h1, h2⟩ := ih
  generalize pairsN chars classes k = st at *
  unfold pStep
  split
  ·exact ⟨by omega, by omega⟩
  ·split
   ·exact ⟨by omega, by omega⟩
   ·split
    ·split
     ·exact ⟨by show st.out.length ≤ _; omega, by show st.waits.length ≤ _; omega⟩
     ·exact ⟨by show st.out.length ≤ _; omega, by simp; omega⟩
    ·split
     ·exact ⟨by omega, by omega⟩
     ·rename_i w ws hf
      have hp : (putP st.out ((w : Int), (k : Int))).length = st.out.length + 1 := by
       have := putK_le st.out w
       unfold putP; simp; omega
      have hw : ∀ W : List Nat, ∀ w ws, findW chars (oth (cAt chars k)).1 W = some (w, ws) → ws.length ≤ W.length := by
       intro W
       induction W with
       | nil => intro w ws h; cases h
       | cons v W ih =>
        intro w ws h
        unfold findW at h
        split at h
        ·injection h with h; injection h with h3 h4; subst h4; simp
        ·have := ih w ws h; simp; omega
      have := hw _ w ws hf
      exact ⟨by show (putP st.out _).length ≤ _; omega, by show ws.length ≤ _; omega⟩
def waitL (W : List Nat) : List Int := W.reverse.map fun (w : Nat) => (w : Int)
theorem waitL_length (W : List Nat) : (waitL W).length = W.length := by simp [waitL]
theorem waitL_cons (w : Nat) (W : List Nat) : waitL (w :: W) = waitL W ++ [(w : Int)] := by simp [waitL]
theorem waitL_get (W : List Nat) (j : Nat) (h : j < (waitL W).length) (h' : W.length - 1 - j < W.length) : (waitL W)[j] = (W[W.length - 1 - j] : Nat) := by simp [waitL]
theorem waitL_drop (W : List Nat) (j : Nat) (h : j ≤ W.length) : waitL (W.drop (W.length - j)) = (waitL W).take j := by
 unfold waitL
 rw [← List.map_take]
 congr 1
 apply List.ext_getElem
 ·simp; omega
 ·intro i h1 h2
  simp at h1 h2
  simp only [List.getElem_reverse, List.getElem_drop, List.getElem_take, List.length_drop]
  congr 1
  omega
set_option maxRecDepth 20000 in
set_option maxHeartbeats 8000000 in
theorem rpairs_any (A : Option Addr) (chars : List Int) (c : Nat) (A' : Option Addr) (classes : List Int) (c' : Nat) (w : World) (h : Lies w w.heap.size A (ints .i64 chars)) (h' : Lies w w.heap.size A' (ints .i64 classes)) (hl : chars.length ≤ 1000000) (he : chars.length = classes.length) :
 Calls Tryz.prog 68 #[.slice A chars.length c, .slice A' classes.length c'] w
  fun ed w' => ∃ v, ed = .returned v ∧ OwnN w' w.heap.size 79 2 v (pairsI chars classes).length (prC (pairsI chars classes)) ∧ Below w.heap.size w w' := by
 have H := Lib.hid h
 have H' := Lib.hid h'
 have hP : pairsI chars classes = (pairsN chars classes chars.length).out := by rw [pairsI, if_pos he]
 have HE := Lib.hid he
 have hd : ((chars.length : Int) != (classes.length : Int)) = false := by simp [he]
 rw [hP]
 clear h h' hP he
 go_enter Tryz.func68, Tryz.ntmps68
 go_wp2_with fail
 go_loopw [7, 5, 6] (fun iv ov qv wr => ∃ k : Nat, k ≤ chars.length ∧ iv = .int .i64 k ∧ (pairsN chars classes k).ended = false ∧ OwnN wr w.heap.size 79 2 ov (pairsN chars classes k).out.length (prC (pairsN chars classes k).out) ∧ Own wr w.heap.size 3 qv (ints .i64 (waitL (pairsN chars classes k).waits)) ∧ Below w.heap.size w wr) (fun iv _ _ _ => chars.length - (intOf iv).toNat)
 case atStart => exact ⟨0, by omega, rfl, rfl, OwnN.empty _ _ _ _, Own.empty _ _ _, Below.refl _ _⟩
 case round =>
  obtain ⟨k, hk, rfl, hen, ho, hq, hb⟩ := hrel
  have HB := Lib.hid hb
  have HEN := Lib.hid hen
  obtain ⟨st, hst⟩ : ∃ x, pairsN chars classes k = x := ⟨_, rfl⟩
  have HST := Lib.hid hst
  have hle := pairs_le chars classes k
  rw [hst] at ho hq hle HEN
  have HO := Lib.hid ho
  have HQ := Lib.hid hq
  clear hb hen ho hq hst
  by_cases hlt : k < chars.length
  ·obtain ⟨p, hp, _, hc⟩ := (H.out.below HB.out).int hlt
   have hlt' : k < classes.length := by have := HE.out; omega
   obtain ⟨q, hqq, _, hcl⟩ := (H'.out.below HB.out).int hlt'
   subst hp hqq
   obtain ⟨x, hx⟩ : ∃ x, chars[k] = x := ⟨_, rfl⟩
   obtain ⟨y, hy⟩ : ∃ x, classes[k] = x := ⟨_, rfl⟩
   rw [hx] at hc
   rw [hy] at hcl
   have HX : Hid (cAt chars k = x) := Lib.hid (by simp [cAt, hlt, hx])
   have HY : Hid (cAt classes k = y) := Lib.hid (by simp [cAt, hlt', hy])
   have HNX : Hid (pairsN chars classes (k + 1) = pStep chars classes st k) := Lib.hid (by rw [pairsN, HST.out])
   have k0 : (0 : Int) ≤ (k : Int) := by omega
   have k1 : (k : Int) < (chars.length : Int) := by omega
   have k2 : (k : Int) < (classes.length : Int) := by omega
   clear hx hy
   obtain ⟨⟨o, op, ok⟩, hoth⟩ : ∃ z, oth x = z := ⟨_, rfl⟩
   have HOT := Lib.hid hoth
   go_wp2_with fail
   refine (rother_any x wr).mono ?_
   rintro e w1 ⟨rfl, b1⟩
   rw [hoth]
   clear hoth
   have B1 := Lib.hid (HB.out.trans (b1.mono HB.out.size))
   have O1 := Lib.hid (HO.out.below b1 (Nat.le_refl _))
   have Q1 := Lib.hid (HQ.out.below b1 (Nat.le_refl _))
   have hcl1 : w1.cell? (q.add k) = some (.int .i64 y) := by rw [b1.cell (World.block_lt_of_cell? wr _ hcl)]; exact hcl
   clear b1 hc hcl
   rcases ok with _ | _
   ·have HS : Hid (pairsN chars classes (k + 1) = st) := Lib.hid (by rw [HNX.out, pStep, HEN.out, HX.out, HOT.out, if_neg (by simp), if_pos (.inl rfl)])
    go_wp2_with fail
    go_roundw
    case rel => exact ⟨k + 1, by omega, by go_num, by rw [HS.out]; exact HEN.out, by rw [HS.out]; exact O1.out, by rw [HS.out]; exact Q1.out, B1.out⟩
    case measure => simp [intOf]; omega
   ·rcases h13 : (y != 13) with _ | _
    ·have HN : Hid (pairsN chars classes (k + 1) = if op then (if st.waits.length = 63 then { st with ended := true } else { st with waits := k :: st.waits }) else match findW chars o st.waits with
      | none => st
      | some (w, ws) => { st with out := putP st.out ((w : Int), (k : Int)), waits := ws }) := Lib.hid (by
      rw [HNX.out, pStep, HEN.out, HX.out, HY.out, HOT.out, if_neg (by simp), if_neg (by simp at h13; simp [h13])]
      rfl)
     obtain ⟨AQ, cq, rfl, hqlies, hqc, _⟩ := Q1.out.form
     obtain ⟨m, hm⟩ : ∃ m, st.waits.length = m := ⟨_, rfl⟩
     have HM := Lib.hid hm
     have LQ := Lib.hid hqlies
     simp only [ints, List.length_map, waitL_length, hm] at hqc ⊢
     have hm6 : m ≤ 1000000 := by have := hle.2; omega
     have UQ : Hid (Own w1 w.heap.size 3 (.slice AQ m cq) (ints .i64 (waitL st.waits))) := Lib.hid (by have := Q1.out; simp only [ints, List.length_map, waitL_length, hm] at this; exact this)
     clear hm hqlies
     rcases op with _ | _
     ·have HW := Lib.hid (pinv chars classes k)
      rw [HST.out] at HW
      obtain ⟨AO, co, rfl, hol, hoc, _⟩ := O1.out.form
      have LO := Lib.hid hol
      have hon : st.out.length ≤ 1000000 := by have := hle.1; omega
      have hw1 : IntKind.i64.wrap ((m : Int) - 1) = (m : Int) - 1 := IntWalk.i64_in _ (by omega)
      clear hol
      go_wp2_with fail
      rename World => wx
      go_loopw [11, 5, 6] (fun jv ov qv wr => ∃ j : Nat, j ≤ m ∧ jv = .int .i64 ((j : Int) - 1) ∧ ov = .slice AO st.out.length co ∧ qv = .slice AQ m cq ∧ Hid (findW chars o (st.waits.drop (m - j)) = findW chars o st.waits) ∧ Below wx.heap.size wx wr) (fun jv _ _ _ => ((intOf jv) + 1).toNat)
      case atStart => exact ⟨m, Nat.le_refl _, rfl, rfl, rfl, Lib.hid (by rw [Nat.sub_self, List.drop_zero]), Below.refl _ _⟩
      case round =>
       obtain ⟨j, hj, rfl, rfl, rfl, HJ, hb⟩ := hrel
       have HBy := Lib.hid hb
       clear hb
       rcases j with _ | j
       ·have HS : Hid (pairsN chars classes (k + 1) = st) := Lib.hid (by
         have h1 := HJ.out
         rw [Nat.sub_zero, List.drop_of_length_le (by rw [HM.out]; omega)] at h1
         rw [HN.out, if_neg (by simp), ← h1]; rfl)
        go_wp2_with fail
        go_roundw
        case rel => exact ⟨k + 1, by omega, by go_num, by rw [HS.out]; exact HEN.out, by rw [HS.out]; exact O1.out.below HBy.out (Nat.le_refl _), by rw [HS.out]; have := UQ.out.below HBy.out (Nat.le_refl _); unfold Own at this ⊢; simp only [List.length_map, waitL_length, HM.out] at this ⊢; exact this, B1.out.trans (HBy.out.mono B1.out.size)⟩
        case measure => simp [intOf]; omega
       ·have hjw : j < (waitL st.waits).length := by rw [waitL_length, HM.out]; omega
        have hwl : st.waits.length - 1 - j < st.waits.length := by rw [HM.out]; omega
        obtain ⟨v, hv⟩ : ∃ v, st.waits[st.waits.length - 1 - j] = v := ⟨_, rfl⟩
        have hvm : v ∈ st.waits := by rw [← hv]; exact List.getElem_mem _
        obtain ⟨hvk, _⟩ := HW.out.wait v hvm
        have hdr : st.waits.drop (m - (j + 1)) = v :: st.waits.drop (m - j) := by
         have h1 : m - (j + 1) = st.waits.length - 1 - j := by rw [HM.out]; omega
         have h2 : m - j = st.waits.length - 1 - j + 1 := by rw [HM.out]; omega
         rw [h1, h2, List.drop_eq_getElem_cons hwl, hv]
        have hwj : (waitL st.waits)[j] = (v : Int) := by rw [waitL_get _ _ hjw hwl, hv]
        obtain ⟨pq, hpq, _, hcq⟩ := (LQ.out.below HBy.out).int hjw
        rw [hwj] at hcq
        have hvl : v < chars.length := by omega
        have HBw : Hid (Below w.heap.size w wr) := Lib.hid (B1.out.trans (HBy.out.mono B1.out.size))
        obtain ⟨p', hp', _, hcv⟩ := (H.out.below HBw.out).int hvl
        injection hp' with hp'
        subst hp' hpq
        obtain ⟨xv, hxv⟩ : ∃ z, chars[v] = z := ⟨_, rfl⟩
        rw [hxv] at hcv
        have HXV : Hid (cAt chars v = xv) := Lib.hid (by simp [cAt, hvl, hxv])
        have HDR := Lib.hid hdr
        have hj1 : ((j + 1 : Nat) : Int) - 1 = (j : Int) := by omega
        rw [hj1]
        have j0 : (0 : Int) ≤ (j : Int) := by omega
        have j1 : (j : Int) < (m : Int) := by omega
        have v0 : (0 : Int) ≤ (v : Int) := by omega
        have v1 : (v : Int) < (chars.length : Int) := by omega
        clear hv hdr hwj hxv hj1 hwl hjw
        go_wp2_with fail
        refine (rsame_any xv o wr).mono ?_
        rintro e w3 ⟨rfl, b3⟩
        rw [sameB_both]
        have B3 := Lib.hid (HBy.out.trans (b3.mono HBy.out.size))
        rcases hsm : sameB xv o with _ | _
        ·clear b3
         have HF : Hid (findW chars o (st.waits.drop (m - j)) = findW chars o st.waits) := Lib.hid (by
          rw [← HJ.out, HDR.out, findW, HXV.out, hsm]; rfl)
         go_wp2_with fail
         go_roundw
         case rel => exact ⟨j, by omega, by first | rfl | trivial, by first | rfl | trivial, by first | rfl | trivial, HF.out, B3.out⟩
         case measure => simp [intOf] <;> omega
        ·have HF : Hid (findW chars o st.waits = some (v, st.waits.drop (m - j))) := Lib.hid (by
          rw [← HJ.out, HDR.out, findW, HXV.out, hsm]; rfl)
         have HS : Hid (pairsN chars classes (k + 1) = { st with out := putP st.out ((v : Int), (k : Int)), waits := st.waits.drop (m - j) }) := Lib.hid (by
          rw [HN.out, if_neg (by simp), HF.out])
         have hcq3 : w3.cell? (pq.add j) = some (.int .i64 v) := by rw [b3.cell (World.block_lt_of_cell? wr _ hcq)]; exact hcq
         have LO3 := Lib.hid ((LO.out.below B3.out).wider B3.out.size)
         clear b3 hcq hcv
         go_wp2_with fail
         refine (rput_any AO st.out co (v : Int) (k : Int) w3 LO3.out hoc hon).mono ?_
         rintro e w4 ⟨v4, rfl, o4, b4⟩
         have O4 := Lib.hid o4
         have B4 := Lib.hid (B3.out.trans (b4.mono B3.out.size))
         have U4 := Lib.hid (UQ.out.below B4.out (Nat.le_refl _))
         clear o4 b4 hcq3
         go_wp2_with (first
          | (refine short_own intsT w4 w.heap.size _ _ .i64 (j : Int) (.slice (some pq) m cq) (ints .i64 (waitL st.waits)) rfl rfl rfl rfl j0 U4.out (by simp [waitL_length, HM.out]; omega) ?_; intro v5 o5 _; have O5 := Lib.hid o5; clear o5)
          | fail)
         go_roundw
         case rel =>
          refine ⟨k + 1, by omega, by go_num, by rw [HS.out]; exact HEN.out, by rw [HS.out]; exact O4.out.weaken (by have := B1.out.size; have := B3.out.size; omega), ?_, B1.out.trans (B4.out.mono B1.out.size)⟩
          rw [HS.out]
          show Own w4 _ _ _ (ints .i64 (waitL (st.waits.drop (m - j))))
          have h1 := waitL_drop st.waits j (by rw [HM.out]; omega)
          rw [HM.out] at h1
          rw [h1]
          have h2 := O5.out
          rw [Int.toNat_natCast, ← List.map_take] at h2
          exact h2
         case measure => simp [intOf]; omega
     ·rcases h63 : ((m : Int) == 63) with _ | _
      ·have HS : Hid (pairsN chars classes (k + 1) = { st with waits := k :: st.waits }) := Lib.hid (by
        rw [HN.out, if_pos rfl, if_neg (by rw [HM.out]; simp at h63; omega)])
       go_wp2_with (first
        | (at_builtin; refine app_lit intsT w w1 w.heap.size _ _ #[.int .i64 (k : Int)] 1 (.slice AQ m cq) (ints .i64 (waitL st.waits)) rfl rfl rfl rfl UQ.out (by simp [Value.oneCell']) B1.out B1.out.size (by unfold maxLen; simp [waitL_length, HM.out]; omega) (by simp [waitL_length, HM.out]; omega) ?_; intro v2 w2 o2 b2 g2 _; have O2 := Lib.hid o2; have B2 := Lib.hid b2; have G2 := Lib.hid g2; clear o2 b2 g2)
        | fail)
       go_roundw
       case rel =>
        refine ⟨k + 1, by omega, by go_num, by rw [HS.out]; exact HEN.out, ?_, ?_, B2.out⟩
        ·rw [HS.out]
         exact O1.out.keep G2.out (OwnN.unlike O1.out (show OwnN w1 w.heap.size 3 1 (.slice AQ m cq) _ _ from UQ.out) (by decide))
        ·rw [HS.out]
         show Own w2 _ _ _ (ints .i64 (waitL (k :: st.waits)))
         rw [waitL_cons]
         simpa [ints] using O2.out
       case measure => simp [intOf]; omega
      ·have HS : Hid ((pairsN chars classes chars.length).out = st.out) := Lib.hid (by
        have h1 : pairsN chars classes (k + 1) = { st with ended := true } := by rw [HN.out, if_pos rfl, if_pos (by rw [HM.out]; simp at h63; omega)]
        have h2 := pairs_ended chars classes (chars.length - (k + 1)) (k + 1) (by rw [h1])
        rw [show k + 1 + (chars.length - (k + 1)) = chars.length by omega, h1] at h2
        rw [h2])
       go_wp2_with fail
       go_ret
       exact ⟨_, rfl, by rw [HS.out]; exact O1.out, B1.out⟩
    ·have HS : Hid (pairsN chars classes (k + 1) = st) := Lib.hid (by rw [HNX.out, pStep, HEN.out, HX.out, HY.out, HOT.out, if_neg (by simp), if_pos (.inr (by simpa using h13))])
     go_wp2_with fail
     go_roundw
     case rel => exact ⟨k + 1, by omega, by go_num, by rw [HS.out]; exact HEN.out, by rw [HS.out]; exact O1.out, by rw [HS.out]; exact Q1.out, B1.out⟩
     case measure => simp [intOf]; omega
  ·obtain rfl : k = chars.length := by omega
   go_wp2_with fail
   go_ret
   exact ⟨_, rfl, by rw [HST.out]; exact HO.out, HB.out⟩
end Go.Proofs.YtcbaahlahohfmaaGreatDoor
namespace Go.Proofs.YtcbaahlahohfmaaGreatDoor
open Go.RowKit
def aheadS (l : List Int) (sos : Int) : Nat → Int
 | 0 => if sos = 1 then 1 else 0
 | k + 1 => if 0 ≤ sdB (cAt l k) then sdB (cAt l k) else aheadS l sos k
theorem sdB_range (k : Int) : sdB k = -1 ∨ sdB k = 0 ∨ sdB k = 1 := by
 unfold sdB
 split
 ·exact .inr (.inl rfl)
 ·split
  ·exact .inr (.inr rfl)
  ·exact .inl rfl
theorem aheadS_range (l : List Int) (sos : Int) : ∀ k, aheadS l sos k = 0 ∨ aheadS l sos k = 1 := by
 intro k
 induction k with
 | zero => unfold aheadS; split <;> simp
 | succ k ih =>
  rw [aheadS]
  split
  ·rename_i hh
   rcases sdB_range (cAt l k) with h | h | h
   ·omega
   ·exact .inl h
   ·exact .inr h
  ·exact ih
def sameS (l : List Int) (e : Int) (p : Int × Int) : Bool := if e = 1 then hasR l (p.1 + 1) p.2 else hasL l (p.1 + 1) p.2
def otherS (l : List Int) (e : Int) (p : Int × Int) : Bool := if e = 1 then hasL l (p.1 + 1) p.2 else hasR l (p.1 + 1) p.2
def sideOf (l : List Int) (e sos : Int) (p : Int × Int) : Option Int :=
 match sameS l e p, otherS l e p with
 | true, _ => some e
 | false, true => some (if aheadS l sos p.1.toNat ≠ e then aheadS l sos p.1.toNat else e)
 | false, false => none
def ofStepB (first : List Int) (e sos : Int) (l : List Int) (p : Int × Int) : List Int := match sideOf l e sos p with
 | none => l
 | some s => turnL (turnL l first p.1.toNat s) first p.2.toNat s
def ofB (chars classes first : List Int) (level sos : Int) : List Int :=
 if chars.length = classes.length ∧ first.length = classes.length then (pairsI chars classes).foldl (ofStepB first (dirL level) sos) classes else classes
theorem dirL_range (k : Int) : dirL k = 0 ∨ dirL k = 1 := by unfold dirL; split <;> simp
theorem sideOf_range {l : List Int} {e sos s : Int} {p : Int × Int} (he : e = 0 ∨ e = 1) (h : sideOf l e sos p = some s) : s = 0 ∨ s = 1 := by
 have ha := aheadS_range l sos p.1.toNat
 unfold sideOf at h
 cases h1 : sameS l e p with
 | true => rw [h1] at h; injection h with h; subst h; exact he
 | false =>
  cases h2 : otherS l e p with
  | true =>
   rw [h1, h2] at h
   injection h with h
   by_cases h3 : aheadS l sos p.1.toNat ≠ e
   ·rw [if_pos h3] at h; subst h; exact ha
   ·rw [if_neg h3] at h; subst h; exact he
  | false => rw [h1, h2] at h; cases h
def Marked (first : List Int) (i k : Nat) : Prop := i ≤ k ∧ k < i + 1 + marksB first i
instance (first : List Int) (i k : Nat) : Decidable (Marked first i k) := inferInstanceAs (Decidable (_ ∧ _))
theorem turnL_get (l first : List Int) (i : Nat) (s : Int) {k : Nat} (h : k < l.length) : (turnL l first i s)[k]'(by rw [turnL_length]; exact h) = if Marked first i k then s else l[k] := by
 unfold turnL
 rw [setR_get _ _ _ _ _ h]
 rfl
theorem ofStepB_length (first : List Int) (e sos : Int) (l : List Int) (p : Int × Int) : (ofStepB first e sos l p).length = l.length := by
 unfold ofStepB
 split
 ·rfl
 ·rw [turnL_length, turnL_length]
theorem ofStepB_get (first : List Int) {e : Int} (he : e = 0 ∨ e = 1) (sos : Int) (l : List Int) (p : Int × Int) {k : Nat} (h : k < l.length) :
 (¬ Marked first p.1.toNat k ∧ ¬ Marked first p.2.toNat k → (ofStepB first e sos l p)[k]'(by rw [ofStepB_length]; exact h) = l[k]) ∧
 ((ofStepB first e sos l p)[k]'(by rw [ofStepB_length]; exact h) = l[k] ∨ (ofStepB first e sos l p)[k]'(by rw [ofStepB_length]; exact h) = 0 ∨ (ofStepB first e sos l p)[k]'(by rw [ofStepB_length]; exact h) = 1) := by
 cases hs : sideOf l e sos p with
 | none =>
  have e1 : ofStepB first e sos l p = l := by rw [ofStepB, hs]
  simp only [e1]
  exact ⟨fun _ => trivial, .inl trivial⟩
 | some s =>
  have e1 : ofStepB first e sos l p = turnL (turnL l first p.1.toNat s) first p.2.toNat s := by rw [ofStepB, hs]
  have hr := sideOf_range he hs
  simp only [e1]
  rw [turnL_get _ _ _ _ (by rw [turnL_length]; exact h), turnL_get _ _ _ _ h]
  refine ⟨fun ⟨h1, h2⟩ => by rw [if_neg h2, if_neg h1], ?_⟩
  split
  ·exact .inr hr
  ·split
   ·exact .inr hr
   ·exact .inl rfl
theorem fold_keeps (first : List Int) {e : Int} (he : e = 0 ∨ e = 1) (sos : Int) : ∀ (P : List (Int × Int)) (l : List Int), (P.foldl (ofStepB first e sos) l).length = l.length ∧
 ∀ (k : Nat) (h : k < l.length) (h' : k < (P.foldl (ofStepB first e sos) l).length),
  ((∀ p ∈ P, ¬ Marked first p.1.toNat k ∧ ¬ Marked first p.2.toNat k) → (P.foldl (ofStepB first e sos) l)[k] = l[k]) ∧
  ((P.foldl (ofStepB first e sos) l)[k] = l[k] ∨ (P.foldl (ofStepB first e sos) l)[k] = 0 ∨ (P.foldl (ofStepB first e sos) l)[k] = 1) := by
 intro P
 induction P with
 | nil => intro l; exact ⟨rfl, fun k h h' => ⟨fun _ => rfl, .inl rfl⟩⟩
 | cons p P ih =>
  intro l
  obtain ⟨i1, i2⟩ := ih (ofStepB first e sos l p)
  rw [ofStepB_length] at i1
  simp only [List.foldl_cons]
  refine ⟨i1, fun k h h' => ?_⟩
  obtain ⟨j1, j2⟩ := i2 k (by rw [ofStepB_length]; exact h) h'
  obtain ⟨s1, s2⟩ := ofStepB_get first he sos l p h
  refine ⟨fun hm => ?_, ?_⟩
  ·rw [j1 (fun q hq => hm q (List.mem_cons_of_mem _ hq))]
   exact s1 (hm p List.mem_cons_self)
  ·rcases j2 with j2 | j2
   ·rcases s2 with s2 | s2
    ·exact .inl (j2.trans s2)
    ·exact .inr (by rw [j2]; exact s2)
   ·exact .inr j2
theorem ofB_keeps (chars classes first : List Int) (level sos : Int) : (ofB chars classes first level sos).length = classes.length ∧
 ∀ (k : Nat) (h : k < classes.length) (h' : k < (ofB chars classes first level sos).length),
  ((∀ p ∈ pairsI chars classes, ¬ Marked first p.1.toNat k ∧ ¬ Marked first p.2.toNat k) → (ofB chars classes first level sos)[k] = classes[k]) ∧
  ((ofB chars classes first level sos)[k] = classes[k] ∨ (ofB chars classes first level sos)[k] = 0 ∨ (ofB chars classes first level sos)[k] = 1) := by
 unfold ofB
 split
 ·exact fold_keeps first (dirL_range level) sos _ classes
 ·exact ⟨rfl, fun k h h' => ⟨fun _ => rfl, .inl rfl⟩⟩
end Go.Proofs.YtcbaahlahohfmaaGreatDoor
namespace Go.Proofs.YtcbaahlahohfmaaGreatDoor
open Go.RowKit
theorem getD_at {l : List Int} {k : Nat} (h : k < l.length) : l.getD k 0 = l[k] := by rw [List.getD_eq_getElem?_getD, List.getElem?_eq_getElem h, Option.getD_some]
def mixL (l l' : List Int) (k : Nat) : List Int := l'.take k ++ l.drop k
theorem mixL_length {l l' : List Int} (hl : l'.length = l.length) {k : Nat} (hk : k ≤ l.length) : (mixL l l' k).length = l.length := by
 simp [mixL]; omega
theorem mixL_get {pre l l' post : List Int} (hl : l'.length = l.length) {k : Nat} (hk : k < l.length) : (pre ++ mixL l l' k ++ post)[pre.length + k]? = some l[k] := by
 have h1 : (l'.take k).length = k := by rw [List.length_take]; omega
 rw [List.getElem?_append_left (by rw [List.length_append, mixL_length hl (by omega)]; omega), List.getElem?_append_right (by omega), Nat.add_sub_cancel_left, mixL,
  List.getElem?_append_right (by omega), h1, Nat.sub_self, List.getElem?_drop, Nat.add_zero, List.getElem?_eq_getElem hk]
theorem mixL_set {pre l l' post : List Int} (hl : l'.length = l.length) {k : Nat} (hk : k < l.length) : (pre ++ mixL l l' k ++ post).set (pre.length + k) (l'.getD k 0) = pre ++ mixL l l' (k + 1) ++ post := by
 have h1 : (l'.take k).length = k := by rw [List.length_take]; omega
 have h2 : l'.getD k 0 = l'[k]'(by omega) := by rw [List.getD_eq_getElem?_getD, List.getElem?_eq_getElem (by omega), Option.getD_some]
 rw [List.set_append_left _ _ (by rw [List.length_append, mixL_length hl (by omega)]; omega), List.set_append_right _ _ (by omega), Nat.add_sub_cancel_left, mixL,
  List.set_append_right _ _ (by omega), h1, Nat.sub_self, mixL, take_snoc l' k (by omega), List.drop_eq_getElem_cons hk, List.set_cons_zero, h2]
 simp only [List.append_assoc, List.singleton_append]
theorem mixL_all {l l' : List Int} (hl : l'.length = l.length) (k : Nat) : (mixL l l' k).length = l.length := by
 simp [mixL]; omega
theorem mixL_zero (l l' : List Int) : mixL l l' 0 = l := by simp [mixL]
theorem mixL_end {l l' : List Int} (hl : l'.length = l.length) {k : Nat} (hk : l.length ≤ k) : mixL l l' k = l' := by
 rw [mixL, List.take_of_length_le (by omega), List.drop_of_length_le hk, List.append_nil]
theorem mixL_skip {l l' : List Int} (hl : l'.length = l.length) {a b : Nat} (hab : a ≤ b) (hb : b ≤ l.length) (h : ∀ i, a ≤ i → i < b → l'[i]? = l[i]?) : mixL l l' a = mixL l l' b := by
 apply List.ext_getElem?
 intro i
 have e1 : (l'.take a).length = a := by rw [List.length_take]; omega
 have e2 : (l'.take b).length = b := by rw [List.length_take]; omega
 rw [mixL, mixL]
 by_cases h1 : i < a
 ·rw [List.getElem?_append_left (by omega), List.getElem?_append_left (by omega), List.getElem?_take_of_lt h1, List.getElem?_take_of_lt (by omega)]
 ·rw [List.getElem?_append_right (by omega), e1, List.getElem?_drop, show a + (i - a) = i by omega]
  by_cases h2 : i < b
  ·rw [List.getElem?_append_left (by omega), List.getElem?_take_of_lt h2, h i (by omega) h2]
  ·rw [List.getElem?_append_right (by omega), e2, List.getElem?_drop, show b + (i - b) = i by omega]
theorem mix_at {l l' : List Int} (hl : l'.length = l.length) {k t : Nat} (hk : k ≤ l.length) (ht : k ≤ t) : (mixL l l' k)[t]? = l[t]? := by
 have e3 : (l'.take k).length = k := by rw [List.length_take]; omega
 rw [mixL, List.getElem?_append_right (by omega), e3, List.getElem?_drop, show k + (t - k) = t by omega]
theorem mix_done {l l' : List Int} (hl : l'.length = l.length) {k t : Nat} (hk : k ≤ l.length) (ht : t < k) : (mixL l l' k)[t]? = some (l'.getD t 0) := by
 rw [mixL, List.getElem?_append_left (by rw [List.length_take]; omega), List.getElem?_take_of_lt ht, getD_at (by omega), List.getElem?_eq_getElem (by omega)]
theorem mix_put {l l' : List Int} (hl : l'.length = l.length) {k : Nat} (hk : k < l.length) : (mixL l l' k).set k (l'.getD k 0) = mixL l l' (k + 1) := by
 have h := mixL_set (pre := []) (post := []) hl hk
 simpa using h
theorem mix_stay {l l' : List Int} (hl : l'.length = l.length) {k : Nat} (hk : k < l.length) (h : l'.getD k 0 = l.getD k 0) : mixL l l' k = mixL l l' (k + 1) :=
 mixL_skip hl (by omega) (by omega) fun i h1 h2 => by
  obtain rfl : i = k := by omega
  rw [getD_at (by omega), getD_at hk] at h
  rw [List.getElem?_eq_getElem (by omega), List.getElem?_eq_getElem hk, h]
end Go.Proofs.YtcbaahlahohfmaaGreatDoor
namespace Go.Proofs.YtcbaahlahohfmaaGreatDoor
open Go.RowKit
def gStep (G : List (Int × Int)) (i : Nat) : List (Int × Int) :=
 if (G.getLast?.map (·.2)) = some (i : Int) then G.dropLast ++ [((G.getLast?.map (·.1)).getD 0, ((i + 1 : Nat) : Int))] else G ++ [((i : Int), ((i + 1 : Nat) : Int))]
def grpN (l : List Int) : Nat → List (Int × Int)
 | 0 => []
 | k + 1 => if isNeutral (l.getD k 0) then gStep (grpN l k) k else grpN l k
def groupsI (l : List Int) : List (Int × Int) := grpN l l.length
def cntN (l : List Int) (k : Nat) : Nat := (l.take k).countP isNeutral
theorem cntN_succ (l : List Int) {k : Nat} (h : k < l.length) : cntN l (k + 1) = cntN l k + if isNeutral (l.getD k 0) then 1 else 0 := by
 rw [cntN, cntN, take_snoc l k h, List.countP_append, getD_at h]
 congr 1
 cases hn : isNeutral l[k] <;> simp [hn]
def sizeG (G : List (Int × Int)) : Nat := (G.map fun p => (p.2 - p.1).toNat).sum
structure GInv (l : List Int) (k : Nat) (G : List (Int × Int)) : Prop where
 each : ∀ p ∈ G, ∃ a b : Nat, p = ((a : Int), (b : Int)) ∧ a < b ∧ b ≤ k ∧ (∀ i, a ≤ i → i < b → isNeutral (l.getD i 0) = true) ∧ (a = 0 ∨ isNeutral (l.getD (a - 1) 0) = false) ∧ (b = k ∨ isNeutral (l.getD b 0) = false)
 apart : G.Pairwise fun p q => p.2 < q.1
 all : ∀ i, i < k → isNeutral (l.getD i 0) = true → ∃ p ∈ G, p.1 ≤ (i : Int) ∧ (i : Int) < p.2
 size : sizeG G = cntN l k
 len : G.length ≤ k
theorem ginv_zero (l : List Int) : GInv l 0 [] := ⟨fun p hp => (by cases hp), List.Pairwise.nil, fun i hi => (by omega), by simp [sizeG, cntN], by simp⟩
theorem sizeG_snoc (G : List (Int × Int)) (p : Int × Int) : sizeG (G ++ [p]) = sizeG G + (p.2 - p.1).toNat := by simp [sizeG]
theorem snoc_of {G : List (Int × Int)} {p : Int × Int} (h : G.getLast? = some p) : G = G.dropLast ++ [p] := by
 have hne : G ≠ [] := by intro e; rw [e] at h; simp at h
 have e : G.getLast hne = p := by
  have := List.getLast?_eq_some_getLast hne
  rw [this] at h
  injection h
 rw [← e]
 exact (List.dropLast_concat_getLast hne).symm
theorem ginv_next {l : List Int} {k : Nat} {G : List (Int × Int)} (h : GInv l k G) (hk : k < l.length) : GInv l (k + 1) (if isNeutral (l.getD k 0) then gStep G k else G) := by
 by_cases hn : isNeutral (l.getD k 0) = true
 ·rw [if_pos hn, gStep]
  by_cases hg : G.getLast?.map (·.2) = some (k : Int)
  ·rw [if_pos hg]
   obtain ⟨p, hp, hp2⟩ := Option.map_eq_some_iff.1 hg
   have hG := snoc_of hp
   obtain ⟨D, hD⟩ : ∃ D, G.dropLast = D := ⟨_, rfl⟩
   rw [hD] at hG ⊢
   have e1 : (G.getLast?.map (·.1)).getD 0 = p.1 := by rw [hp]; rfl
   rw [e1]
   clear e1 hg hp hD
   subst hG
   obtain ⟨a, b, hab, h1, h2, h3, h4, -⟩ := h.each p (by simp)
   subst hab
   simp only at hp2
   have hbk : b = k := by omega
   subst hbk
   have hap := List.pairwise_append.1 h.apart
   refine ⟨fun q hq => ?_, ?_, fun i hi hni => ?_, ?_, ?_⟩
   ·rcases List.mem_append.1 hq with hq | hq
    ·obtain ⟨a', b', hab', g1, g2, g3, g4, g5⟩ := h.each q (List.mem_append_left _ hq)
     have := hap.2.2 q hq ((a : Int), (b : Int)) (by simp)
     rw [hab'] at this
     simp only at this
     exact ⟨a', b', hab', g1, by omega, g3, g4, .inr (by rcases g5 with g5 | g5 <;> first | omega | exact g5)⟩
    ·rw [List.mem_singleton.1 hq]
     refine ⟨a, b + 1, rfl, by omega, by omega, fun i i1 i2 => ?_, h4, .inl rfl⟩
     by_cases hib : i = b
     ·subst hib; exact hn
     ·exact h3 i i1 (by omega)
   ·refine List.pairwise_append.2 ⟨hap.1, List.pairwise_singleton _ _, fun x hx y hy => ?_⟩
    rw [List.mem_singleton.1 hy]
    exact hap.2.2 x hx ((a : Int), (b : Int)) (by simp)
   ·by_cases hib : i = b
    ·subst hib
     exact ⟨_, List.mem_append_right _ (List.mem_singleton.2 rfl), by simp only; omega, by simp only; omega⟩
    ·obtain ⟨q, hq, q1, q2⟩ := h.all i (by omega) hni
     rcases List.mem_append.1 hq with hq | hq
     ·exact ⟨q, List.mem_append_left _ hq, q1, q2⟩
     ·rw [List.mem_singleton.1 hq] at q1 q2
      simp only at q1 q2
      exact ⟨_, List.mem_append_right _ (List.mem_singleton.2 rfl), q1, by simp only; omega⟩
   ·have := h.size
    rw [sizeG_snoc] at this ⊢
    rw [cntN_succ l hk, if_pos hn, ← this]
    simp only
    omega
   ·have := h.len
    simp only [List.length_append, List.length_singleton] at this ⊢
    omega
  ·rw [if_neg hg]
   have hfar : ∀ q ∈ G, q.2 < (k : Int) := by
    intro q hq
    obtain ⟨D, p, hp⟩ : ∃ D p, G = D ++ [p] := ⟨G.dropLast, G.getLast (List.ne_nil_of_mem hq), (List.dropLast_concat_getLast _).symm⟩
    subst hp
    have hl : (D ++ [p]).getLast? = some p := by simp
    rw [hl] at hg
    have hap := List.pairwise_append.1 h.apart
    obtain ⟨a, b, hab, h1, h2, -⟩ := h.each p (by simp)
    rw [hab] at hg
    simp only [Option.map_some, Option.some.injEq] at hg
    rcases List.mem_append.1 hq with hq | hq
    ·have := hap.2.2 q hq p (by simp)
     rw [hab] at this
     simp only at this
     omega
    ·rw [List.mem_singleton.1 hq, hab]
     simp only
     omega
   have hbefore : k = 0 ∨ isNeutral (l.getD (k - 1) 0) = false := by
    rcases Nat.eq_zero_or_pos k with h0 | h0
    ·exact .inl h0
    ·right
     cases hp : isNeutral (l.getD (k - 1) 0) with
     | false => rfl
     | true =>
      obtain ⟨q, hq, q1, q2⟩ := h.all (k - 1) (by omega) hp
      have := hfar q hq
      omega
   refine ⟨fun q hq => ?_, ?_, fun i hi hni => ?_, ?_, ?_⟩
   ·rcases List.mem_append.1 hq with hq | hq
    ·obtain ⟨a', b', hab', g1, g2, g3, g4, g5⟩ := h.each q hq
     have := hfar q hq
     rw [hab'] at this
     simp only at this
     exact ⟨a', b', hab', g1, by omega, g3, g4, .inr (by rcases g5 with g5 | g5 <;> first | omega | exact g5)⟩
    ·rw [List.mem_singleton.1 hq]
     refine ⟨k, k + 1, rfl, by omega, by omega, fun i i1 i2 => ?_, hbefore, .inl rfl⟩
     obtain rfl : i = k := by omega
     exact hn
   ·refine List.pairwise_append.2 ⟨h.apart, List.pairwise_singleton _ _, fun x hx y hy => ?_⟩
    rw [List.mem_singleton.1 hy]
    exact hfar x hx
   ·by_cases hib : i = k
    ·subst hib
     exact ⟨_, List.mem_append_right _ (List.mem_singleton.2 rfl), by simp only; omega, by simp only; omega⟩
    ·obtain ⟨q, hq, q1, q2⟩ := h.all i (by omega) hni
     exact ⟨q, List.mem_append_left _ hq, q1, q2⟩
   ·rw [sizeG_snoc, h.size, cntN_succ l hk, if_pos hn]
    simp only
    omega
   ·have := h.len
    simp only [List.length_append, List.length_singleton]
    omega
 ·have hn' : isNeutral (l.getD k 0) = false := by simpa using hn
  rw [if_neg hn]
  refine ⟨fun q hq => ?_, h.apart, fun i hi hni => ?_, ?_, by have := h.len; omega⟩
  ·obtain ⟨a', b', hab', g1, g2, g3, g4, g5⟩ := h.each q hq
   refine ⟨a', b', hab', g1, by omega, g3, g4, .inr ?_⟩
   rcases g5 with g5 | g5
   ·rw [g5]; exact hn'
   ·exact g5
  ·by_cases hib : i = k
   ·subst hib; rw [hn'] at hni; cases hni
   ·exact h.all i (by omega) hni
  ·rw [h.size, cntN_succ l hk, if_neg hn, Nat.add_zero]
theorem ginv (l : List Int) : ∀ k, k ≤ l.length → GInv l k (grpN l k)
 | 0, _ => ginv_zero l
 | k + 1, hk => ginv_next (ginv l k (by omega)) (by omega)
def endK (s : Int) : Int := if s = 1 then 1 else 0
def nSide (lev k : Int) : Int := if sdB k < 0 then dirL lev else sdB k
def aheadI (l : List Int) (lev sos : Int) (i : Nat) : Int := match (l.take i).reverse.find? (fun k => !isNeutral k) with | some k => nSide lev k | none => endK sos
def behindI (l : List Int) (lev eos : Int) (i : Nat) : Int := match (l.drop i).find? (fun k => !isNeutral k) with | some k => nSide lev k | none => endK eos
def toI (l : List Int) (lev sos eos : Int) (i : Nat) : Int := if aheadI l lev sos i = behindI l lev eos i then aheadI l lev sos i else dirL lev
def outAt (l : List Int) (lev sos eos : Int) (i : Nat) : Int := if isNeutral (l.getD i 0) then toI l lev sos eos i else l.getD i 0
def nofI (l : List Int) (lev sos eos : Int) : List Int := (List.range l.length).map (outAt l lev sos eos)
theorem nofI_length (l : List Int) (lev sos eos : Int) : (nofI l lev sos eos).length = l.length := by simp [nofI]
theorem nofI_at (l : List Int) (lev sos eos : Int) {i : Nat} (h : i < l.length) : (nofI l lev sos eos)[i]? = some (outAt l lev sos eos i) := by
 rw [nofI, List.getElem?_map, List.getElem?_range h]; rfl
theorem nofI_stay (l : List Int) (lev sos eos : Int) {i : Nat} (h : isNeutral (l.getD i 0) = false) : (nofI l lev sos eos)[i]? = l[i]? := by
 by_cases hi : i < l.length
 ·rw [nofI_at l lev sos eos hi, outAt, if_neg (by rw [h]; simp), List.getElem?_eq_getElem hi, getD_at hi]
 ·rw [List.getElem?_eq_none (by rw [nofI_length]; omega), List.getElem?_eq_none (by omega)]
structure Around (l : List Int) (a b : Nat) : Prop where
 lt : a < b
 le : b ≤ l.length
 all : ∀ i, a ≤ i → i < b → isNeutral (l.getD i 0) = true
 first : a = 0 ∨ isNeutral (l.getD (a - 1) 0) = false
 last : b = l.length ∨ isNeutral (l.getD b 0) = false
theorem find_none {l : List Int} {p : Int → Bool} (h : ∀ x ∈ l, p x = false) : l.find? p = none := by
 rw [List.find?_eq_none]
 intro x hx
 simp [h x hx]
theorem ahead_of {l : List Int} {a b : Nat} (h : Around l a b) (lev sos : Int) {i : Nat} (h1 : a ≤ i) (h2 : i < b) : aheadI l lev sos i = if 0 < a then nSide lev (l.getD (a - 1) 0) else endK sos := by
 have hle := h.le
 have e : l.take i = l.take a ++ (l.drop a).take (i - a) := by
  rw [← List.take_add, show a + (i - a) = i by omega]
 have hn : ((l.drop a).take (i - a)).reverse.find? (fun k => !isNeutral k) = none := by
  refine find_none fun x hx => ?_
  obtain ⟨j, hj, rfl⟩ := List.mem_iff_getElem.1 (List.mem_reverse.1 hx)
  rw [List.length_take, List.length_drop] at hj
  have := h.all (a + j) (by omega) (by omega)
  rw [getD_at (by omega)] at this
  simp [this]
 rw [aheadI, e, List.reverse_append, List.find?_append, hn, Option.none_or]
 by_cases ha : 0 < a
 ·rw [if_pos ha]
  have hf : isNeutral (l.getD (a - 1) 0) = false := by
   rcases h.first with h0 | h0
   ·omega
   ·exact h0
  have e2 : l.take a = l.take (a - 1) ++ [l[a - 1]'(by omega)] := by
   have := take_snoc l (a - 1) (by omega)
   rw [show a - 1 + 1 = a by omega] at this
   exact this
  rw [getD_at (by omega)] at hf ⊢
  rw [e2, List.reverse_append, List.reverse_singleton, List.singleton_append, List.find?_cons, hf]
  rfl
 ·obtain rfl : a = 0 := by omega
  rw [if_neg ha]
  rfl
theorem behind_of {l : List Int} {a b : Nat} (h : Around l a b) (lev eos : Int) {i : Nat} (h1 : a ≤ i) (h2 : i < b) : behindI l lev eos i = if b < l.length then nSide lev (l.getD b 0) else endK eos := by
 have hle := h.le
 have e : l.drop i = (l.drop i).take (b - i) ++ l.drop b := by
  have := (List.take_append_drop (b - i) (l.drop i)).symm
  rw [List.drop_drop, show i + (b - i) = b by omega] at this
  exact this
 have hn : ((l.drop i).take (b - i)).find? (fun k => !isNeutral k) = none := by
  refine find_none fun x hx => ?_
  obtain ⟨j, hj, rfl⟩ := List.mem_iff_getElem.1 hx
  rw [List.length_take, List.length_drop] at hj
  have := h.all (i + j) (by omega) (by omega)
  rw [getD_at (by omega)] at this
  simp [this]
 rw [behindI, e, List.find?_append, hn, Option.none_or]
 by_cases hb : b < l.length
 ·rw [if_pos hb]
  have hf : isNeutral (l.getD b 0) = false := by
   rcases h.last with h0 | h0
   ·omega
   ·exact h0
  rw [getD_at hb] at hf ⊢
  rw [List.drop_eq_getElem_cons hb, List.find?_cons, hf]
  rfl
 ·rw [if_neg hb, List.drop_of_length_le (by omega)]
  rfl
theorem sd_three (k : Int) : sdB k = 0 ∨ sdB k = 1 ∨ sdB k = -1 := by
 unfold sdB
 split
 ·simp
 ·split <;> simp
theorem dir_two (s : Int) : dirL s = 0 ∨ dirL s = 1 := by
 unfold dirL
 split
 ·exact .inl rfl
 ·exact .inr rfl
theorem side_two (lev k : Int) : nSide lev k = 0 ∨ nSide lev k = 1 := by
 unfold nSide
 split
 ·exact dir_two _
 ·have := sd_three k
  omega
theorem end_two (s : Int) : endK s = 0 ∨ endK s = 1 := by unfold endK; split <;> simp
theorem ahead_two (l : List Int) (lev sos : Int) (i : Nat) : aheadI l lev sos i = 0 ∨ aheadI l lev sos i = 1 := by
 unfold aheadI
 split
 ·exact side_two _ _
 ·exact end_two _
theorem to_two (l : List Int) (lev sos eos : Int) (i : Nat) : toI l lev sos eos i = 0 ∨ toI l lev sos eos i = 1 := by
 unfold toI
 split
 ·exact ahead_two _ _ _ _
 ·exact dir_two _
def nLevelI (k lev : Int) : Int :=
 if dirL lev = 0 ∧ k = 1 then wrap64 (lev + 1) else if dirL lev = 0 ∧ (k = 6 ∨ k = 3) then wrap64 (lev + 2)
 else if dirL lev = 1 ∧ (k = 0 ∨ k = 6 ∨ k = 3) then wrap64 (lev + 1) else lev
def nLevelsI (l : List Int) (lev : Int) : List Int := l.map fun k => nLevelI k lev
theorem grp_at (l : List Int) {n : Nat} (hn : n < (groupsI l).length) : ∃ a b : Nat, (groupsI l)[n] = ((a : Int), (b : Int)) ∧ Around l a b := by
 obtain ⟨a, b, h1, h2, h3, h4, h5, h6⟩ := (ginv l l.length (Nat.le_refl _)).each _ (List.getElem_mem hn)
 exact ⟨a, b, h1, h2, h3, h4, h5, h6⟩
def endN (l : List Int) (n : Nat) : Nat := if n = 0 then 0 else ((groupsI l).getD (n - 1) (0, 0)).2.toNat
theorem endN_succ (l : List Int) {n : Nat} (hn : n < (groupsI l).length) {a b : Nat} (h : (groupsI l)[n] = ((a : Int), (b : Int))) : endN l (n + 1) = b := by
 rw [endN, if_neg (by omega), Nat.add_sub_cancel, List.getD_eq_getElem?_getD, List.getElem?_eq_getElem hn, h]
 simp
theorem gap_of {l : List Int} {G : List (Int × Int)} (hI : GInv l l.length G) {n e : Nat} (hn : n ≤ G.length) (he : n = 0 ∨ ∃ h : n - 1 < G.length, G[n - 1].2 = (e : Int)) {i : Nat} (h1 : e ≤ i) (hi : i < l.length) (h2 : ∀ h : n < G.length, (i : Int) < G[n].1) : isNeutral (l.getD i 0) = false := by
 cases hx : isNeutral (l.getD i 0) with
 | false => rfl
 | true =>
  obtain ⟨p, hp, p1, p2⟩ := hI.all i hi hx
  obtain ⟨j, hj, rfl⟩ := List.mem_iff_getElem.1 hp
  have hpw := List.pairwise_iff_getElem.1 hI.apart
  have hlt : ∀ (m : Nat) (h : m < G.length), G[m].1 < G[m].2 := fun m h => by
   obtain ⟨a, b, hab, h3, -⟩ := hI.each _ (List.getElem_mem h)
   rw [hab]; simp only; omega
  by_cases hjn : j < n
  ·obtain ⟨h4, h5⟩ : ∃ h : n - 1 < G.length, G[n - 1].2 = (e : Int) := by
    rcases he with he | he
    ·omega
    ·exact he
   by_cases hjj : j = n - 1
   ·subst hjj; omega
   ·have h3 := hpw j (n - 1) hj h4 (by omega)
    have := hlt (n - 1) h4
    omega
  ·have hnl : n < G.length := by omega
   have h3 := h2 hnl
   by_cases hjj : j = n
   ·subst hjj; omega
   ·have h4 := hpw n j hnl hj (by omega)
    have := hlt n hnl
    omega
theorem endN_is (l : List Int) {n : Nat} (hn : n ≤ (groupsI l).length) : n = 0 ∨ ∃ h : n - 1 < (groupsI l).length, (groupsI l)[n - 1].2 = (endN l n : Int) := by
 by_cases h0 : n = 0
 ·exact .inl h0
 ·have hl : n - 1 < (groupsI l).length := by omega
  obtain ⟨a, b, hab, _⟩ := grp_at l hl
  refine .inr ⟨hl, ?_⟩
  have e := endN_succ l hl hab
  rw [show n - 1 + 1 = n by omega] at e
  rw [hab, e]
theorem gap (l : List Int) {n : Nat} (hn : n ≤ (groupsI l).length) {i : Nat} (h1 : endN l n ≤ i) (hi : i < l.length) (h2 : ∀ h : n < (groupsI l).length, (i : Int) < (groupsI l)[n].1) : isNeutral (l.getD i 0) = false :=
 gap_of (ginv l l.length (Nat.le_refl _) : GInv l l.length (groupsI l)) hn (endN_is l hn) h1 hi h2
theorem endN_le (l : List Int) {n : Nat} (hn : n < (groupsI l).length) {a b : Nat} (h : (groupsI l)[n] = ((a : Int), (b : Int))) : endN l n ≤ a := by
 have hI : GInv l l.length (groupsI l) := ginv l l.length (Nat.le_refl _)
 by_cases h0 : n = 0
 ·rw [endN, if_pos h0]; omega
 ·obtain ⟨h3, h4⟩ : ∃ h : n - 1 < (groupsI l).length, (groupsI l)[n - 1].2 = (endN l n : Int) := by
   rcases endN_is l (show n ≤ (groupsI l).length by omega) with h5 | h5
   ·exact absurd h5 h0
   ·exact h5
  have hpw := List.pairwise_iff_getElem.1 hI.apart (n - 1) n h3 hn (by omega)
  rw [h4, h] at hpw
  simp only at hpw
  omega
theorem mix_group (l : List Int) (lev sos eos : Int) {n : Nat} (hn : n < (groupsI l).length) {a b : Nat} (h : (groupsI l)[n] = ((a : Int), (b : Int))) (ha : Around l a b) : mixL l (nofI l lev sos eos) (endN l n) = mixL l (nofI l lev sos eos) a := by
 have h1 := ha.lt
 have h2 := ha.le
 refine mixL_skip (nofI_length _ _ _ _) (endN_le l hn h) (by omega) fun i i1 i2 => nofI_stay _ _ _ _ (gap l (by omega) i1 (by omega) fun hh => ?_)
 rw [h]
 simp only
 omega
theorem mix_last (l : List Int) (lev sos eos : Int) : mixL l (nofI l lev sos eos) (endN l (groupsI l).length) = nofI l lev sos eos := by
 by_cases h : endN l (groupsI l).length ≤ l.length
 ·rw [mixL_skip (nofI_length _ _ _ _) h (Nat.le_refl _) fun i i1 i2 => nofI_stay _ _ _ _ (gap l (Nat.le_refl _) i1 i2 fun hh => absurd hh (by omega)), mixL_end (nofI_length _ _ _ _) (Nat.le_refl _)]
 ·exact mixL_end (nofI_length _ _ _ _) (by omega)
def grpTo (l : List Int) (lev sos eos : Int) (a b : Nat) : Int :=
 if (if 0 < a then nSide lev (l.getD (a - 1) 0) else endK sos) = (if b < l.length then nSide lev (l.getD b 0) else endK eos) then (if 0 < a then nSide lev (l.getD (a - 1) 0) else endK sos) else dirL lev
theorem nofI_group {l : List Int} (lev sos eos : Int) {a b : Nat} (h : Around l a b) {i : Nat} (h1 : a ≤ i) (h2 : i < b) : (nofI l lev sos eos).getD i 0 = grpTo l lev sos eos a b := by
 have hle := h.le
 rw [List.getD_eq_getElem?_getD, nofI_at l lev sos eos (by omega), Option.getD_some, outAt, if_pos (h.all i h1 h2), toI, ahead_of h lev sos h1 h2, behind_of h lev eos h1 h2, grpTo]
end Go.Proofs.YtcbaahlahohfmaaGreatDoor
