/- Shared texts, shaken for one claim. -/
import Derived.Test.YtadfleopbpomfaaZA13
import Derived.Test.YtadfleopbpomfaaZA18
namespace Go.Proofs.Ytadfleopbpomfaa
open Go.RowKit
def cAt (l : List Int) (i : Nat) : Int := l.getD i 0
structure PS where
 out : List (Int × Int)
 waits : List Nat
 ended : Bool
def findW (chars : List Int) (o : Int) : List Nat → Option (Nat × List Nat)
 | [] => none
 | w :: ws => if sameB (cAt chars w) o then some (w, ws) else findW chars o ws
def pStep (chars classes : List Int) (st : PS) (i : Nat) : PS :=
 if st.ended then st
 else if (oth (cAt chars i)).2.2 = false ∨ cAt classes i ≠ 13 then st
 else if (oth (cAt chars i)).2.1 then (if st.waits.length = 63 then { st with ended := true } else { st with waits := i :: st.waits })
 else match findW chars (oth (cAt chars i)).1 st.waits with
  | none => st
  | some (w, ws) => { st with out := putP st.out ((w : Int), (i : Int)), waits := ws }
def pairsN (chars classes : List Int) : Nat → PS
 | 0 => ⟨[], [], false⟩
 | k + 1 => pStep chars classes (pairsN chars classes k) k
def pairsI (chars classes : List Int) : List (Int × Int) := if chars.length = classes.length then (pairsN chars classes chars.length).out else []
theorem findW_some (chars : List Int) (o : Int) : ∀ (W : List Nat) w ws, findW chars o W = some (w, ws) → sameB (cAt chars w) o = true ∧ w ∈ W ∧ (∀ x ∈ ws, x ∈ W) ∧ (W.Pairwise (· > ·) → ws.Pairwise (· > ·) ∧ ∀ x ∈ ws, x < w) := by
 intro W
 induction W with
 | nil => intro w ws h; cases h
 | cons v W ih =>
  intro w ws h
  unfold findW at h
  split at h
  ·rename_i hs
   injection h with h
   injection h with h1 h2
   subst h1 h2
   exact ⟨hs, List.mem_cons_self, fun x hx => List.mem_cons_of_mem _ hx, fun hp => ⟨(List.pairwise_cons.1 hp).2, fun x hx => (List.pairwise_cons.1 hp).1 x hx⟩⟩
  ·obtain ⟨h1, h2, h3, h4⟩ := ih w ws h
   exact ⟨h1, List.mem_cons_of_mem _ h2, fun x hx => List.mem_cons_of_mem _ (h3 x hx), fun hp => h4 (List.pairwise_cons.1 hp).2⟩
def Beside (p q : Int × Int) : Prop := p.1 < q.1 ∧ ¬ (q.1 < p.2 ∧ p.2 < q.2) ∧ p.2 ≠ q.1 ∧ p.2 ≠ q.2
structure PInv (chars classes : List Int) (k : Nat) (st : PS) : Prop where
 falls : st.waits.Pairwise (· > ·)
 wait : ∀ w ∈ st.waits, w < k ∧ cAt classes w = 13 ∧ (oth (cAt chars w)).2.1 = true ∧ (oth (cAt chars w)).2.2 = true
 each : ∀ p ∈ st.out, ∃ a b : Nat, p = ((a : Int), (b : Int)) ∧ a < b ∧ b < k ∧ cAt classes a = 13 ∧ cAt classes b = 13 ∧ (oth (cAt chars a)).2.1 = true ∧ (oth (cAt chars a)).2.2 = true ∧ sameB (oth (cAt chars a)).1 (cAt chars b) = true
 apart : ∀ p ∈ st.out, ∀ w ∈ st.waits, (w : Int) ≠ p.1 ∧ (w : Int) ≠ p.2 ∧ ¬ (p.1 < w ∧ (w : Int) < p.2)
 order : st.out.Pairwise Beside
theorem mem_putP {L : List (Int × Int)} {p q : Int × Int} : q ∈ putP L p ↔ q ∈ L ∨ q = p := by
 unfold putP
 rw [List.mem_append, List.mem_append, List.mem_singleton]
 constructor
 ·rintro ((h | h) | h)
  ·exact .inl (List.mem_of_mem_take h)
  ·exact .inr h
  ·exact .inl (List.mem_of_mem_drop h)
 ·rintro (h | h)
  ·rw [← List.take_append_drop (putK L p.1) L, List.mem_append] at h
   rcases h with h | h
   ·exact .inl (.inl h)
   ·exact .inr h
  ·exact .inl (.inr h)
theorem putK_split (x : Int) : ∀ L : List (Int × Int), L.Pairwise (fun p q => p.1 < q.1) → (∀ q ∈ L.take (putK L x), q.1 < x) ∧ ∀ q ∈ L.drop (putK L x), x ≤ q.1 := by
 intro L
 induction L with
 | nil => intro _; simp
 | cons r L ih =>
  intro h
  obtain ⟨h1, h2⟩ := List.pairwise_cons.1 h
  obtain ⟨i1, i2⟩ := ih h2
  unfold putK at *
  by_cases hr : r.1 < x
  ·rw [List.takeWhile_cons_of_pos (by simpa using hr), List.length_cons, List.take_succ_cons, List.drop_succ_cons]
   refine ⟨fun q hq => ?_, i2⟩
   rcases List.mem_cons.1 hq with rfl | hq
   ·exact hr
   ·exact i1 q hq
  ·rw [List.takeWhile_cons_of_neg (by simpa using hr)]
   refine ⟨fun q hq => by simp at hq, fun q hq => ?_⟩
   simp only [List.length_nil, List.drop_zero] at hq
   rcases List.mem_cons.1 hq with rfl | hq
   ·omega
   ·have := h1 q hq; omega
theorem order_putP {L : List (Int × Int)} {p : Int × Int} (h : L.Pairwise Beside) (h1 : ∀ q ∈ L, q.1 < p.1 → Beside q p) (h2 : ∀ q ∈ L, p.1 ≤ q.1 → Beside p q) : (putP L p).Pairwise Beside := by
 obtain ⟨s1, s2⟩ := putK_split p.1 L (h.imp fun hh => hh.1)
 have hL := h
 rw [← List.take_append_drop (putK L p.1) L, List.pairwise_append] at hL
 obtain ⟨a1, a2, a3⟩ := hL
 unfold putP
 rw [List.append_assoc, List.pairwise_append]
 refine ⟨a1, ?_, ?_⟩
 ·show ([p] ++ _).Pairwise Beside
  rw [List.singleton_append, List.pairwise_cons]
  exact ⟨fun q hq => h2 q (List.mem_of_mem_drop hq) (s2 q hq), a2⟩
 ·intro x hx y hy
  rw [List.singleton_append, List.mem_cons] at hy
  rcases hy with rfl | hy
  ·exact h1 x (List.mem_of_mem_take hx) (s1 x hx)
  ·exact a3 x hx y hy
theorem pinv (chars classes : List Int) : ∀ k, PInv chars classes k (pairsN chars classes k) := by
 intro k
 induction k with
 | zero => exact ⟨List.Pairwise.nil, fun w h => (by cases h), fun p h => (by cases h), fun p h => (by cases h), List.Pairwise.nil⟩
 | succ k ih =>
  rw [pairsN]
  obtain ⟨f1, f2, f3, f4, f5⟩ := ih
  have stay : PInv chars classes (k + 1) (pairsN chars classes k) :=
   ⟨f1, fun w hw => (by obtain ⟨h1, h2⟩ := f2 w hw; exact ⟨by omega, h2⟩), fun p hp => (by obtain ⟨a, b, e, h1, h2, h3⟩ := f3 p hp; exact ⟨a, b, e, h1, by omega, h3⟩), f4, f5⟩
  generalize pairsN chars classes k = st at *
  unfold pStep
  split
  ·exact stay
  ·split
   ·exact stay
   ·rename_i hE hN
    have hok : (oth (cAt chars k)).2.2 = true := by
     cases hh : (oth (cAt chars k)).2.2 with
     | true => rfl
     | false => exact absurd (.inl hh) hN
    have h13 : cAt classes k = 13 := Classical.byContradiction fun hh => hN (.inr hh)
    split
    ·rename_i hop
     split
     ·exact ⟨stay.falls, stay.wait, stay.each, stay.apart, stay.order⟩
     ·refine ⟨List.pairwise_cons.2 ⟨fun w hw => (f2 w hw).1, f1⟩, fun w hw => ?_, stay.each, fun p hp w hw => ?_, f5⟩
      ·rcases List.mem_cons.1 hw with rfl | hw
       ·exact ⟨by omega, h13, hop, hok⟩
       ·exact stay.wait w hw
      ·rcases List.mem_cons.1 hw with rfl | hw
       ·obtain ⟨a, b, rfl, h1, h2, _⟩ := f3 p hp
        simp only; omega
       ·exact f4 p hp w hw
    ·rename_i hop
     split
     ·exact stay
     ·rename_i w ws hf
      obtain ⟨g1, g2, g3, g4⟩ := findW_some chars _ _ w ws hf
      obtain ⟨g5, g6⟩ := g4 f1
      obtain ⟨w1, w2, w3, w4⟩ := f2 w g2
      have hsame : sameB (oth (cAt chars w)).1 (cAt chars k) = true := by
       have hb := oth_facts (cAt chars k) hok
       have := (same_others g1).2
       rwa [hb.2.1] at this
      refine ⟨g5, fun x hx => stay.wait x (g3 x hx), fun p hp => ?_, fun p hp x hx => ?_, ?_⟩
      ·rcases mem_putP.1 hp with hp | rfl
       ·exact stay.each p hp
       ·exact ⟨w, k, rfl, w1, by omega, w2, h13, w3, w4, hsame⟩
      ·rcases mem_putP.1 hp with hp | rfl
       ·exact f4 p hp x (g3 x hx)
       ·have := g6 x hx
        simp only; omega
      ·refine order_putP f5 (fun q hq hlt => ?_) (fun q hq hle => ?_)
       ·obtain ⟨a, b, rfl, h1, h2, _⟩ := f3 q hq
        obtain ⟨c1, c2, c3⟩ := f4 _ hq w g2
        unfold Beside
        simp only at hlt c1 c2 c3 ⊢
        omega
       ·obtain ⟨a, b, rfl, h1, h2, _⟩ := f3 q hq
        obtain ⟨c1, c2, c3⟩ := f4 _ hq w g2
        unfold Beside
        simp only at hle c1 c2 c3 ⊢
        omega
end Go.Proofs.Ytadfleopbpomfaa
namespace Go.Proofs.Ytadfleopbpomfaa
open Go.RowKit
theorem pairs_ended (chars classes : List Int) : ∀ d k, (pairsN chars classes k).ended = true → pairsN chars classes (k + d) = pairsN chars classes k := by
 intro d
 induction d with
 | zero => intro k _; rfl
 | succ d ih =>
  intro k h
  rw [show k + (d + 1) = k + d + 1 by omega, pairsN, ih k h, pStep, if_pos h]
theorem pairs_le (chars classes : List Int) : ∀ k, (pairsN chars classes k).out.length ≤ k ∧ (pairsN chars classes k).waits.length ≤ k := by
 intro k
 induction k with
 | zero => exact ⟨Nat.le_refl _, Nat.le_refl _⟩
 | succ k ih =>
  rw [pairsN]
  obtain ⟨h1, h2⟩ := ih
  generalize pairsN chars classes k = st at *
  unfold pStep
  split
  ·exact ⟨by omega, by omega⟩
  ·split
   ·exact ⟨by omega, by omega⟩
   ·split
    ·split
     ·exact ⟨by show st.out.length ≤ _; omega, by show st.waits.length ≤ _; omega⟩
     ·exact ⟨by show st.out.length ≤ _; omega, by simp; omega⟩
    ·split
     ·exact ⟨by omega, by omega⟩
     ·rename_i w ws hf
      have hp : (putP st.out ((w : Int), (k : Int))).length = st.out.length + 1 := by
       have := putK_le st.out w
       unfold putP; simp; omega
      have hw : ∀ W : List Nat, ∀ w ws, findW chars (oth (cAt chars k)).1 W = some (w, ws) → ws.length ≤ W.length := by
       intro W
       induction W with
       | nil => intro w ws h; cases h
       | cons v W ih =>
        intro w ws h
        unfold findW at h
        split at h
        ·injection h with h; injection h with h3 h4; subst h4; simp
        ·have := ih w ws h; simp; omega
      have := hw _ w ws hf
      exact ⟨by show (putP st.out _).length ≤ _; omega, by show ws.length ≤ _; omega⟩
def waitL (W : List Nat) : List Int := W.reverse.map fun (w : Nat) => (w : Int)
theorem waitL_length (W : List Nat) : (waitL W).length = W.length := by simp [waitL]
theorem waitL_cons (w : Nat) (W : List Nat) : waitL (w :: W) = waitL W ++ [(w : Int)] := by simp [waitL]
theorem waitL_get (W : List Nat) (j : Nat) (h : j < (waitL W).length) (h' : W.length - 1 - j < W.length) : (waitL W)[j] = (W[W.length - 1 - j] : Nat) := by simp [waitL]
theorem waitL_drop (W : List Nat) (j : Nat) (h : j ≤ W.length) : waitL (W.drop (W.length - j)) = (waitL W).take j := by
 unfold waitL
 rw [← List.map_take]
 congr 1
 apply List.ext_getElem
 ·simp; omega
 ·intro i h1 h2
  simp at h1 h2
  simp only [List.getElem_reverse, List.getElem_drop, List.getElem_take, List.length_drop]
  congr 1
  omega
set_option maxRecDepth 20000 in
set_option maxHeartbeats 8000000 in
theorem rpairs_any (A : Option Addr) (chars : List Int) (c : Nat) (A' : Option Addr) (classes : List Int) (c' : Nat) (w : World) (h : Lies w w.heap.size A (ints .i64 chars)) (h' : Lies w w.heap.size A' (ints .i64 classes)) (hl : chars.length ≤ 1000000) (he : chars.length = classes.length) :
 Calls Try.prog 57 #[.slice A chars.length c, .slice A' classes.length c'] w
  fun ed w' => ∃ v, ed = .returned v ∧ OwnN w' w.heap.size 83 2 v (pairsI chars classes).length (prC (pairsI chars classes)) ∧ Below w.heap.size w w' := by
 have H := Lib.hid h
 have H' := Lib.hid h'
 have hP : pairsI chars classes = (pairsN chars classes chars.length).out := by rw [pairsI, if_pos he]
 have HE := Lib.hid he
 have hd : ((chars.length : Int) != (classes.length : Int)) = false := by simp [he]
 rw [hP]
 clear h h' hP he
 go_enter Try.func57, Try.ntmps57
 go_wp2_with fail
 go_loopw [7, 5, 6] (fun iv ov qv wr => ∃ k : Nat, k ≤ chars.length ∧ iv = .int .i64 k ∧ (pairsN chars classes k).ended = false ∧ OwnN wr w.heap.size 83 2 ov (pairsN chars classes k).out.length (prC (pairsN chars classes k).out) ∧ Own wr w.heap.size 3 qv (ints .i64 (waitL (pairsN chars classes k).waits)) ∧ Below w.heap.size w wr) (fun iv _ _ _ => chars.length - (intOf iv).toNat)
 case atStart => exact ⟨0, by omega, rfl, rfl, OwnN.empty _ _ _ _, Own.empty _ _ _, Below.refl _ _⟩
 case round =>
  obtain ⟨k, hk, rfl, hen, ho, hq, hb⟩ := hrel
  have HB := Lib.hid hb
  have HEN := Lib.hid hen
  obtain ⟨st, hst⟩ : ∃ x, pairsN chars classes k = x := ⟨_, rfl⟩
  have HST := Lib.hid hst
  have hle := pairs_le chars classes k
  rw [hst] at ho hq hle HEN
  have HO := Lib.hid ho
  have HQ := Lib.hid hq
  clear hb hen ho hq hst
  by_cases hlt : k < chars.length
  ·obtain ⟨p, hp, _, hc⟩ := (H.out.below HB.out).int hlt
   have hlt' : k < classes.length := by have := HE.out; omega
   obtain ⟨q, hqq, _, hcl⟩ := (H'.out.below HB.out).int hlt'
   subst hp hqq
   obtain ⟨x, hx⟩ : ∃ x, chars[k] = x := ⟨_, rfl⟩
   obtain ⟨y, hy⟩ : ∃ x, classes[k] = x := ⟨_, rfl⟩
   rw [hx] at hc
   rw [hy] at hcl
   have HX : Hid (cAt chars k = x) := Lib.hid (by simp [cAt, hlt, hx])
   have HY : Hid (cAt classes k = y) := Lib.hid (by simp [cAt, hlt', hy])
   have HNX : Hid (pairsN chars classes (k + 1) = pStep chars classes st k) := Lib.hid (by rw [pairsN, HST.out])
   have k0 : (0 : Int) ≤ (k : Int) := by omega
   have k1 : (k : Int) < (chars.length : Int) := by omega
   have k2 : (k : Int) < (classes.length : Int) := by omega
   clear hx hy
   obtain ⟨⟨o, op, ok⟩, hoth⟩ : ∃ z, oth x = z := ⟨_, rfl⟩
   have HOT := Lib.hid hoth
   go_wp2_with fail
   refine (rother_any x wr).mono ?_
   rintro e w1 ⟨rfl, b1⟩
   rw [hoth]
   clear hoth
   have B1 := Lib.hid (HB.out.trans (b1.mono HB.out.size))
   have O1 := Lib.hid (HO.out.below b1 (Nat.le_refl _))
   have Q1 := Lib.hid (HQ.out.below b1 (Nat.le_refl _))
   have hcl1 : w1.cell? (q.add k) = some (.int .i64 y) := by rw [b1.cell (World.block_lt_of_cell? wr _ hcl)]; exact hcl
   clear b1 hc hcl
   rcases ok with _ | _
   ·have HS : Hid (pairsN chars classes (k + 1) = st) := Lib.hid (by rw [HNX.out, pStep, HEN.out, HX.out, HOT.out, if_neg (by simp), if_pos (.inl rfl)])
    go_wp2_with fail
    go_roundw
    case rel => exact ⟨k + 1, by omega, by go_num, by rw [HS.out]; exact HEN.out, by rw [HS.out]; exact O1.out, by rw [HS.out]; exact Q1.out, B1.out⟩
    case measure => simp [intOf]; omega
   ·rcases h13 : (y != 13) with _ | _
    ·have HN : Hid (pairsN chars classes (k + 1) = if op then (if st.waits.length = 63 then { st with ended := true } else { st with waits := k :: st.waits }) else match findW chars o st.waits with
      | none => st
      | some (w, ws) => { st with out := putP st.out ((w : Int), (k : Int)), waits := ws }) := Lib.hid (by
      rw [HNX.out, pStep, HEN.out, HX.out, HY.out, HOT.out, if_neg (by simp), if_neg (by simp at h13; simp [h13])]
      first | done | rfl)
     obtain ⟨AQ, cq, rfl, hqlies, hqc, _⟩ := Q1.out.form
     obtain ⟨m, hm⟩ : ∃ m, st.waits.length = m := ⟨_, rfl⟩
     have HM := Lib.hid hm
     have LQ := Lib.hid hqlies
     simp only [ints, List.length_map, waitL_length, hm] at hqc ⊢
     have hm6 : m ≤ 1000000 := by have := hle.2; omega
     have UQ : Hid (Own w1 w.heap.size 3 (.slice AQ m cq) (ints .i64 (waitL st.waits))) := Lib.hid (by have := Q1.out; simp only [ints, List.length_map, waitL_length, hm] at this; exact this)
     clear hm hqlies
     rcases op with _ | _
     ·have HW := Lib.hid (pinv chars classes k)
      rw [HST.out] at HW
      obtain ⟨AO, co, rfl, hol, hoc, _⟩ := O1.out.form
      have LO := Lib.hid hol
      have hon : st.out.length ≤ 1000000 := by have := hle.1; omega
      have hw1 : IntKind.i64.wrap ((m : Int) - 1) = (m : Int) - 1 := IntWalk.i64_in _ (by omega)
      clear hol
      go_wp2_with fail
      rename World => wx
      go_loopw [11, 5, 6] (fun jv ov qv wr => ∃ j : Nat, j ≤ m ∧ jv = .int .i64 ((j : Int) - 1) ∧ ov = .slice AO st.out.length co ∧ qv = .slice AQ m cq ∧ Hid (findW chars o (st.waits.drop (m - j)) = findW chars o st.waits) ∧ Below wx.heap.size wx wr) (fun jv _ _ _ => ((intOf jv) + 1).toNat)
      case atStart => exact ⟨m, Nat.le_refl _, rfl, rfl, rfl, Lib.hid (by rw [Nat.sub_self, List.drop_zero]), Below.refl _ _⟩
      case round =>
       obtain ⟨j, hj, rfl, rfl, rfl, HJ, hb⟩ := hrel
       have HBy := Lib.hid hb
       clear hb
       rcases j with _ | j
       ·have HS : Hid (pairsN chars classes (k + 1) = st) := Lib.hid (by
         have h1 := HJ.out
         rw [Nat.sub_zero, List.drop_of_length_le (by rw [HM.out]; omega)] at h1
         rw [HN.out, if_neg (by simp), ← h1]; rfl)
        go_wp2_with fail
        go_roundw
        case rel => exact ⟨k + 1, by omega, by go_num, by rw [HS.out]; exact HEN.out, by rw [HS.out]; exact O1.out.below HBy.out (Nat.le_refl _), by rw [HS.out]; have := UQ.out.below HBy.out (Nat.le_refl _); unfold Own at this ⊢; simp only [List.length_map, waitL_length, HM.out] at this ⊢; exact this, B1.out.trans (HBy.out.mono B1.out.size)⟩
        case measure => simp [intOf]; omega
       ·have hjw : j < (waitL st.waits).length := by rw [waitL_length, HM.out]; omega
        have hwl : st.waits.length - 1 - j < st.waits.length := by rw [HM.out]; omega
        obtain ⟨v, hv⟩ : ∃ v, st.waits[st.waits.length - 1 - j] = v := ⟨_, rfl⟩
        have hvm : v ∈ st.waits := by rw [← hv]; exact List.getElem_mem _
        obtain ⟨hvk, _⟩ := HW.out.wait v hvm
        have hdr : st.waits.drop (m - (j + 1)) = v :: st.waits.drop (m - j) := by
         have h1 : m - (j + 1) = st.waits.length - 1 - j := by rw [HM.out]; omega
         have h2 : m - j = st.waits.length - 1 - j + 1 := by rw [HM.out]; omega
         rw [h1, h2, List.drop_eq_getElem_cons hwl, hv]
        have hwj : (waitL st.waits)[j] = (v : Int) := by rw [waitL_get _ _ hjw hwl, hv]
        obtain ⟨pq, hpq, _, hcq⟩ := (LQ.out.below HBy.out).int hjw
        rw [hwj] at hcq
        have hvl : v < chars.length := by omega
        have HBw : Hid (Below w.heap.size w wr) := Lib.hid (B1.out.trans (HBy.out.mono B1.out.size))
        obtain ⟨p', hp', _, hcv⟩ := (H.out.below HBw.out).int hvl
        injection hp' with hp'
        subst hp' hpq
        obtain ⟨xv, hxv⟩ : ∃ z, chars[v] = z := ⟨_, rfl⟩
        rw [hxv] at hcv
        have HXV : Hid (cAt chars v = xv) := Lib.hid (by simp [cAt, hvl, hxv])
        have HDR := Lib.hid hdr
        have hj1 : ((j + 1 : Nat) : Int) - 1 = (j : Int) := by omega
        rw [hj1]
        have j0 : (0 : Int) ≤ (j : Int) := by omega
        have j1 : (j : Int) < (m : Int) := by omega
        have v0 : (0 : Int) ≤ (v : Int) := by omega
        have v1 : (v : Int) < (chars.length : Int) := by omega
        clear hv hdr hwj hxv hj1 hwl hjw
        go_wp2_with fail
        refine (rsame_any xv o wr).mono ?_
        rintro e w3 ⟨rfl, b3⟩
        rw [sameB_both]
        have B3 := Lib.hid (HBy.out.trans (b3.mono HBy.out.size))
        rcases hsm : sameB xv o with _ | _
        ·clear b3
         have HF : Hid (findW chars o (st.waits.drop (m - j)) = findW chars o st.waits) := Lib.hid (by
          rw [← HJ.out, HDR.out, findW, HXV.out, hsm]; rfl)
         go_wp2_with fail
         go_roundw
         case rel => exact ⟨j, by omega, by first | rfl | trivial, by first | rfl | trivial, by first | rfl | trivial, HF.out, B3.out⟩
         case measure => simp [intOf] <;> omega
        ·have HF : Hid (findW chars o st.waits = some (v, st.waits.drop (m - j))) := Lib.hid (by
          rw [← HJ.out, HDR.out, findW, HXV.out, hsm]; rfl)
         have HS : Hid (pairsN chars classes (k + 1) = { st with out := putP st.out ((v : Int), (k : Int)), waits := st.waits.drop (m - j) }) := Lib.hid (by
          rw [HN.out, if_neg (by simp), HF.out])
         have hcq3 : w3.cell? (pq.add j) = some (.int .i64 v) := by rw [b3.cell (World.block_lt_of_cell? wr _ hcq)]; exact hcq
         have LO3 := Lib.hid ((LO.out.below B3.out).wider B3.out.size)
         clear b3 hcq hcv
         go_wp2_with fail
         refine (rput_any AO st.out co (v : Int) (k : Int) w3 LO3.out hoc hon).mono ?_
         rintro e w4 ⟨v4, rfl, o4, b4⟩
         have O4 := Lib.hid o4
         have B4 := Lib.hid (B3.out.trans (b4.mono B3.out.size))
         have U4 := Lib.hid (UQ.out.below B4.out (Nat.le_refl _))
         clear o4 b4 hcq3
         go_wp2_with (first
          | (refine short_own intsT w4 w.heap.size _ _ .i64 (j : Int) (.slice (some pq) m cq) (ints .i64 (waitL st.waits)) rfl rfl rfl rfl j0 U4.out (by simp [waitL_length, HM.out]; omega) ?_; intro v5 o5 _; have O5 := Lib.hid o5; clear o5)
          | fail)
         go_roundw
         case rel =>
          refine ⟨k + 1, by omega, by go_num, by rw [HS.out]; exact HEN.out, by rw [HS.out]; exact O4.out.weaken (by have := B1.out.size; have := B3.out.size; omega), ?_, B1.out.trans (B4.out.mono B1.out.size)⟩
          rw [HS.out]
          show Own w4 _ _ _ (ints .i64 (waitL (st.waits.drop (m - j))))
          have h1 := waitL_drop st.waits j (by rw [HM.out]; omega)
          rw [HM.out] at h1
          rw [h1]
          have h2 := O5.out
          rw [Int.toNat_natCast, ← List.map_take] at h2
          exact h2
         case measure => simp [intOf]; omega
     ·rcases h63 : ((m : Int) == 63) with _ | _
      ·have HS : Hid (pairsN chars classes (k + 1) = { st with waits := k :: st.waits }) := Lib.hid (by
        rw [HN.out, if_pos rfl, if_neg (by rw [HM.out]; simp at h63; omega)])
       go_wp2_with (first
        | (at_builtin; refine app_lit intsT w w1 w.heap.size _ _ #[.int .i64 (k : Int)] 1 (.slice AQ m cq) (ints .i64 (waitL st.waits)) rfl rfl rfl rfl UQ.out (by simp [Value.oneCell']) B1.out B1.out.size (by unfold maxLen; simp [waitL_length, HM.out]; omega) (by simp [waitL_length, HM.out]; omega) ?_; intro v2 w2 o2 b2 g2 _; have O2 := Lib.hid o2; have B2 := Lib.hid b2; have G2 := Lib.hid g2; clear o2 b2 g2)
        | fail)
       go_roundw
       case rel =>
        refine ⟨k + 1, by omega, by go_num, by rw [HS.out]; exact HEN.out, ?_, ?_, B2.out⟩
        ·rw [HS.out]
         exact O1.out.keep G2.out (OwnN.unlike O1.out (show OwnN w1 w.heap.size 3 1 (.slice AQ m cq) _ _ from UQ.out) (by decide))
        ·rw [HS.out]
         show Own w2 _ _ _ (ints .i64 (waitL (k :: st.waits)))
         rw [waitL_cons]
         simpa [ints] using O2.out
       case measure => simp [intOf]; omega
      ·have HS : Hid ((pairsN chars classes chars.length).out = st.out) := Lib.hid (by
        have h1 : pairsN chars classes (k + 1) = { st with ended := true } := by rw [HN.out, if_pos rfl, if_pos (by rw [HM.out]; simp at h63; omega)]
        have h2 := pairs_ended chars classes (chars.length - (k + 1)) (k + 1) (by rw [h1])
        rw [show k + 1 + (chars.length - (k + 1)) = chars.length by omega, h1] at h2
        rw [h2])
       go_wp2_with fail
       go_ret
       exact ⟨_, rfl, by rw [HS.out]; exact O1.out, B1.out⟩
    ·have HS : Hid (pairsN chars classes (k + 1) = st) := Lib.hid (by rw [HNX.out, pStep, HEN.out, HX.out, HY.out, HOT.out, if_neg (by simp), if_pos (.inr (by simpa using h13))])
     go_wp2_with fail
     go_roundw
     case rel => exact ⟨k + 1, by omega, by go_num, by rw [HS.out]; exact HEN.out, by rw [HS.out]; exact O1.out, by rw [HS.out]; exact Q1.out, B1.out⟩
     case measure => simp [intOf]; omega
  ·obtain rfl : k = chars.length := by omega
   go_wp2_with fail
   go_ret
   exact ⟨_, rfl, by rw [HST.out]; exact HO.out, HB.out⟩
end Go.Proofs.Ytadfleopbpomfaa
namespace Go.Proofs.Ytadfleopbpomfaa
open Go.RowKit
def aheadS (l : List Int) (sos : Int) : Nat → Int
 | 0 => if sos = 1 then 1 else 0
 | k + 1 => if 0 ≤ sdB (cAt l k) then sdB (cAt l k) else aheadS l sos k
theorem sdB_range (k : Int) : sdB k = -1 ∨ sdB k = 0 ∨ sdB k = 1 := by
 unfold sdB
 split
 ·exact .inr (.inl rfl)
 ·split
  ·exact .inr (.inr rfl)
  ·exact .inl rfl
theorem aheadS_range (l : List Int) (sos : Int) : ∀ k, aheadS l sos k = 0 ∨ aheadS l sos k = 1 := by
 intro k
 induction k with
 | zero => unfold aheadS; split <;> simp
 | succ k ih =>
  rw [aheadS]
  split
  ·rename_i hh
   rcases sdB_range (cAt l k) with h | h | h
   ·omega
   ·exact .inl h
   ·exact .inr h
  ·exact ih
def sameS (l : List Int) (e : Int) (p : Int × Int) : Bool := if e = 1 then hasR l (p.1 + 1) p.2 else hasL l (p.1 + 1) p.2
def otherS (l : List Int) (e : Int) (p : Int × Int) : Bool := if e = 1 then hasL l (p.1 + 1) p.2 else hasR l (p.1 + 1) p.2
def sideOf (l : List Int) (e sos : Int) (p : Int × Int) : Option Int :=
 match sameS l e p, otherS l e p with
 | true, _ => some e
 | false, true => some (if aheadS l sos p.1.toNat ≠ e then aheadS l sos p.1.toNat else e)
 | false, false => none
def ofStepB (first : List Int) (e sos : Int) (l : List Int) (p : Int × Int) : List Int := match sideOf l e sos p with
 | none => l
 | some s => turnL (turnL l first p.1.toNat s) first p.2.toNat s
def ofB (chars classes first : List Int) (level sos : Int) : List Int :=
 if chars.length = classes.length ∧ first.length = classes.length then (pairsI chars classes).foldl (ofStepB first (dirL level) sos) classes else classes
theorem dirL_range (k : Int) : dirL k = 0 ∨ dirL k = 1 := by unfold dirL; split <;> simp
theorem sideOf_range {l : List Int} {e sos s : Int} {p : Int × Int} (he : e = 0 ∨ e = 1) (h : sideOf l e sos p = some s) : s = 0 ∨ s = 1 := by
 have ha := aheadS_range l sos p.1.toNat
 unfold sideOf at h
 cases h1 : sameS l e p with
 | true => rw [h1] at h; injection h with h; subst h; exact he
 | false =>
  cases h2 : otherS l e p with
  | true =>
   rw [h1, h2] at h
   injection h with h
   by_cases h3 : aheadS l sos p.1.toNat ≠ e
   ·rw [if_pos h3] at h; subst h; exact ha
   ·rw [if_neg h3] at h; subst h; exact he
  | false => rw [h1, h2] at h; cases h
def Marked (first : List Int) (i k : Nat) : Prop := i ≤ k ∧ k < i + 1 + marksB first i
instance (first : List Int) (i k : Nat) : Decidable (Marked first i k) := inferInstanceAs (Decidable (_ ∧ _))
theorem turnL_get (l first : List Int) (i : Nat) (s : Int) {k : Nat} (h : k < l.length) : (turnL l first i s)[k]'(by rw [turnL_length]; exact h) = if Marked first i k then s else l[k] := by
 unfold turnL
 rw [setR_get _ _ _ _ _ h]
 rfl
theorem ofStepB_length (first : List Int) (e sos : Int) (l : List Int) (p : Int × Int) : (ofStepB first e sos l p).length = l.length := by
 unfold ofStepB
 split
 ·rfl
 ·rw [turnL_length, turnL_length]
theorem ofStepB_get (first : List Int) {e : Int} (he : e = 0 ∨ e = 1) (sos : Int) (l : List Int) (p : Int × Int) {k : Nat} (h : k < l.length) :
 (¬ Marked first p.1.toNat k ∧ ¬ Marked first p.2.toNat k → (ofStepB first e sos l p)[k]'(by rw [ofStepB_length]; exact h) = l[k]) ∧
 ((ofStepB first e sos l p)[k]'(by rw [ofStepB_length]; exact h) = l[k] ∨ (ofStepB first e sos l p)[k]'(by rw [ofStepB_length]; exact h) = 0 ∨ (ofStepB first e sos l p)[k]'(by rw [ofStepB_length]; exact h) = 1) := by
 cases hs : sideOf l e sos p with
 | none =>
  have e1 : ofStepB first e sos l p = l := by rw [ofStepB, hs]
  simp only [e1]
  exact ⟨fun _ => trivial, .inl trivial⟩
 | some s =>
  have e1 : ofStepB first e sos l p = turnL (turnL l first p.1.toNat s) first p.2.toNat s := by rw [ofStepB, hs]
  have hr := sideOf_range he hs
  simp only [e1]
  rw [turnL_get _ _ _ _ (by rw [turnL_length]; exact h), turnL_get _ _ _ _ h]
  refine ⟨fun ⟨h1, h2⟩ => by rw [if_neg h2, if_neg h1], ?_⟩
  split
  ·exact .inr hr
  ·split
   ·exact .inr hr
   ·exact .inl rfl
theorem fold_keeps (first : List Int) {e : Int} (he : e = 0 ∨ e = 1) (sos : Int) : ∀ (P : List (Int × Int)) (l : List Int), (P.foldl (ofStepB first e sos) l).length = l.length ∧
 ∀ (k : Nat) (h : k < l.length) (h' : k < (P.foldl (ofStepB first e sos) l).length),
  ((∀ p ∈ P, ¬ Marked first p.1.toNat k ∧ ¬ Marked first p.2.toNat k) → (P.foldl (ofStepB first e sos) l)[k] = l[k]) ∧
  ((P.foldl (ofStepB first e sos) l)[k] = l[k] ∨ (P.foldl (ofStepB first e sos) l)[k] = 0 ∨ (P.foldl (ofStepB first e sos) l)[k] = 1) := by
 intro P
 induction P with
 | nil => intro l; exact ⟨rfl, fun k h h' => ⟨fun _ => rfl, .inl rfl⟩⟩
 | cons p P ih =>
  intro l
  obtain ⟨i1, i2⟩ := ih (ofStepB first e sos l p)
  rw [ofStepB_length] at i1
  simp only [List.foldl_cons]
  refine ⟨i1, fun k h h' => ?_⟩
  obtain ⟨j1, j2⟩ := i2 k (by rw [ofStepB_length]; exact h) h'
  obtain ⟨s1, s2⟩ := ofStepB_get first he sos l p h
  refine ⟨fun hm => ?_, ?_⟩
  ·rw [j1 (fun q hq => hm q (List.mem_cons_of_mem _ hq))]
   exact s1 (hm p List.mem_cons_self)
  ·rcases j2 with j2 | j2
   ·rcases s2 with s2 | s2
    ·exact .inl (j2.trans s2)
    ·exact .inr (by rw [j2]; exact s2)
   ·exact .inr j2
theorem ofB_keeps (chars classes first : List Int) (level sos : Int) : (ofB chars classes first level sos).length = classes.length ∧
 ∀ (k : Nat) (h : k < classes.length) (h' : k < (ofB chars classes first level sos).length),
  ((∀ p ∈ pairsI chars classes, ¬ Marked first p.1.toNat k ∧ ¬ Marked first p.2.toNat k) → (ofB chars classes first level sos)[k] = classes[k]) ∧
  ((ofB chars classes first level sos)[k] = classes[k] ∨ (ofB chars classes first level sos)[k] = 0 ∨ (ofB chars classes first level sos)[k] = 1) := by
 unfold ofB
 split
 ·exact fold_keeps first (dirL_range level) sos _ classes
 ·exact ⟨rfl, fun k h h' => ⟨fun _ => rfl, .inl rfl⟩⟩
end Go.Proofs.Ytadfleopbpomfaa
