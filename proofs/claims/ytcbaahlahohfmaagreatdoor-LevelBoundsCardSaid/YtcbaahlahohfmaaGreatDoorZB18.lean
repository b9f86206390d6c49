/- Shared texts, shaken for one claim. -/
import Derived.Test.YtcbaahlahohfmaaGreatDoorZB4
import Derived.Test.YtcbaahlahohfmaaGreatDoorZB7
import Derived.Test.YtcbaahlahohfmaaGreatDoorZB8
import Derived.Test.YtcbaahlahohfmaaGreatDoorZB11
namespace Go.Proofs.YtcbaahlahohfmaaGreatDoor
open Go.RowKit Reckon
theorem listOf_zero (n : Nat) : List.replicate n (Value.int .i64 0) = ints .i64 (listOf n (fun _ => 0)) := by
 rw [ints, listOf, List.map_map]
 apply List.ext_getElem
 ·simp
 ·intro i h1 h2; simp
abbrev stk (st : List Nat) : List Value := ints .i64 (st.reverse.map fun p : Nat => (p : Int))
theorem mrun_len (l : List Int) : ∀ k, (mrun l k).1.length ≤ k := by
 intro k
 induction k with
 | zero => simp [mrun]
 | succ k ih =>
  simp only [mrun, mStep]
  repeat' split
  all_goals simp_all
  all_goals omega
set_option maxRecDepth 20000 in
set_option maxHeartbeats 4000000 in
theorem match_any (A : Option Addr) (l : List Int) (c : Nat) (w : World) (h : Lies w w.heap.size A (ints .i64 l)) (hl : l.length ≤ 1000000) :
 Calls Tryz.prog 89 #[.slice A l.length c] w (Rowed w w.heap.size 3 (ints .i64 (mt l))) := by
 have H := Lib.hid h
 clear h
 go_enter Tryz.func89, Tryz.ntmps89
 go_wp2_with (first
  | (refine make_row intsT w w w.heap.size _ _ .i64 .i64 l.length rfl rfl rfl rfl rfl (Below.refl _ _) (Nat.le_refl _) (by omega) (by unfold maxLen; omega) ?_; intro w2 r2 b2 g2)
  | fail)
 rw [listOf_zero] at r2
 have R2 := Lib.hid r2
 have B2 := Lib.hid b2
 clear r2 b2 g2
 go_wp2
 go_loopw [4, 13] (fun ov iv wr => ∃ (k : Nat), k ≤ l.length ∧ iv = .int .i64 k ∧ Row wr w.heap.size 3 w.heap.size l.length (ints .i64 (listOf l.length (mrun l k).2)) ∧ Own wr w.heap.size 3 ov (stk (mrun l k).1) ∧ Hid (ov.ownBlock ≠ some w.heap.size) ∧ Below w.heap.size w wr) (fun _ iv _ => l.length - (intOf iv).toNat)
 case atStart => exact ⟨0, by omega, rfl, R2.out, Own.empty _ _ _, Lib.hid (by simp [Value.ownBlock]), B2.out⟩
 case round =>
  obtain ⟨k, hk, rfl, hr, ho, HV, hb⟩ := hrel
  have HR := Lib.hid hr
  have HO := Lib.hid ho
  have HB := Lib.hid hb
  clear hr ho hb
  by_cases hlt : k < l.length
  ·obtain ⟨p, rfl, hpb, hc⟩ := (H.out.below HB.out).int hlt
   have b0 : (0 : Int) ≤ (k : Int) := by omega
   have b1 : (k : Int) < (l.length : Int) := by omega
   have hmr : mrun l (k + 1) = mStep (mrun l k) k l[k] := by rw [mrun, at0_eq hlt]
   have hml := mrun_len l k
   have hall : ∀ q ∈ (mrun l k).1, q < k := fun q hq => ((minv l k hk).open_ q hq).1
   obtain ⟨x, hx⟩ : ∃ x, l[k] = x := ⟨_, rfl⟩
   rw [hx] at hc hmr
   obtain ⟨⟨st, f⟩, hst⟩ : ∃ s, mrun l k = s := ⟨_, rfl⟩
   rw [hst] at HR HO hml hmr hall
   simp only [mStep] at hmr
   simp only at HR HO hml hall
   have HALL := Lib.hid hall
   have HMR := Lib.hid hmr
   clear hx hst hmr hall
   rcases h10 : (x == 10) with _ | _
   ·have n10 : ¬ x = 10 := by simpa using h10
    rcases ho : isOpens x with _ | _
    ·have HO1 := Lib.hid ho
     rcases h22 : (x == 22) with _ | _
     ·have n22 : ¬ x = 22 := by simpa using h22
      have hmr := HMR.out
      rw [if_neg n10, ho, if_neg Bool.false_ne_true, if_neg n22] at hmr
      have HM := Lib.hid hmr
      clear n10 n22 ho HMR hmr
      go_wp2_with (first
       | (refine store_row intsT wr w.heap.size _ _ w.heap.size k l.length .i64 (-1) _ w rfl rfl rfl rfl rfl HR.out (by simpa using hlt) HB.out ?_; intro w5 r5 b5 g5; rw [ints_set, listOf_set] at r5; have R5 := Lib.hid r5; have B5 := Lib.hid b5; have O5 := Lib.hid (HO.out.keepRow g5 HV.out); clear r5 b5 g5)
       | fail)
      go_wp2_with fail
      refine (opens_any x w5).mono ?_
      rintro e w6 ⟨rfl, b6⟩
      rw [HO1.out]
      have B6 := Lib.hid (B5.out.trans (b6.mono B5.out.size))
      have D6 := Lib.hid b6
      clear b6
      go_wp2_with fail
      go_roundw
      case rel => exact ⟨k + 1, by omega, by go_num, by rw [HM.out]; exact R5.out.below D6.out (Nat.le_refl _), by rw [HM.out]; exact O5.out.below D6.out (Nat.le_refl _), HV, B6.out⟩
      case measure => simp [intOf]; omega
     ·have n22 : x = 22 := by simpa using h22
      have hmr := HMR.out
      rw [if_neg n10, ho, if_neg Bool.false_ne_true, if_pos n22] at hmr
      clear n10 n22 ho HMR
      rcases st with _ | ⟨p, st⟩
      ·simp only at hmr
       have HM := Lib.hid hmr
       clear hmr
       obtain ⟨A', c', rfl, _, _, _⟩ := HO.out.form
       go_wp2_with (first
        | (refine store_row intsT wr w.heap.size _ _ w.heap.size k l.length .i64 (-1) _ w rfl rfl rfl rfl rfl HR.out (by simpa using hlt) HB.out ?_; intro w5 r5 b5 g5; rw [ints_set, listOf_set] at r5; have R5 := Lib.hid r5; have B5 := Lib.hid b5; have O5 := Lib.hid (HO.out.keepRow g5 HV.out); clear r5 b5 g5)
        | fail)
       go_wp2_with fail
       refine (opens_any x w5).mono ?_
       rintro e w6 ⟨rfl, b6⟩
       rw [HO1.out]
       have B6 := Lib.hid (B5.out.trans (b6.mono B5.out.size))
       have D6 := Lib.hid b6
       clear b6
       go_wp2_with fail
       go_roundw
       case rel => exact ⟨k + 1, by omega, by go_num, by rw [HM.out]; exact R5.out.below D6.out (Nat.le_refl _), by rw [HM.out]; exact O5.out.below D6.out (Nat.le_refl _), HV, B6.out⟩
       case measure => simp [intOf]; omega
      ·simp only at hmr
       have HM := Lib.hid hmr
       clear hmr
       obtain ⟨g', c', rfl, hrow⟩ := HO.out.inRow (by simp)
       obtain ⟨q, hq⟩ : ∃ q, st.length = q := ⟨_, rfl⟩
       have hs : (stk (p :: st)).length = q + 1 := by simp [hq]
       rw [hs] at HV ⊢
       have hgg : ¬ g' = w.heap.size := fun e => HV.out (by rw [e]; rfl)
       have HQ := Lib.hid hq
       have HRW := Lib.hid hrow
       have hqk : q + 1 ≤ k := by simpa [hq] using hml
       have hw1 : IntKind.i64.wrap (((q + 1 : Nat) : Int) - 1) = (q : Int) := by rw [IntWalk.i64_in _ (by omega)]; omega
       have hgt : decide (((q + 1 : Nat) : Int) > 0) = true := by simp
       clear hs hq hrow hml
       go_wp2_with (first
        | (refine store_row intsT wr w.heap.size _ _ w.heap.size k l.length .i64 (-1) _ w rfl rfl rfl rfl rfl HR.out (by simpa using hlt) HB.out ?_; intro w5 r5 b5 g5; rw [ints_set, listOf_set] at r5; have R5 := Lib.hid r5; have B5 := Lib.hid b5; have O5 := Lib.hid (HRW.out.keep g5 (fun e => hgg (by injection e with e; exact e.symm))); clear r5 b5 g5)
        | fail)
       go_wp2_with fail
       refine (opens_any x w5).mono ?_
       rintro e w6 ⟨rfl, b6⟩
       rw [HO1.out]
       have B6 := Lib.hid (B5.out.trans (b6.mono B5.out.size))
       have D6 := Lib.hid b6
       clear b6
       have R6 := Lib.hid (R5.out.below D6.out (Nat.le_refl _))
       have O6 := Lib.hid (O5.out.below D6.out (Nat.le_refl _))
       have hpk : p < k := HALL.out p (by simp)
       have HC1 : Hid (w6.cell? ⟨g', q, none⟩ = some (.int .i64 p)) := by
        have := O6.out.cell (j := q) (by simp [HQ.out])
        exact Lib.hid (by simpa [HQ.out] using this)
       have hc1 := HC1.out
       obtain ⟨u2, hc2⟩ : ∃ u, w6.cell? ⟨w.heap.size, k, none⟩ = some u := ⟨_, R6.out.cell (j := k) (by simpa using hlt)⟩
       have hf2 := R6.out.free k
       have R7 := Lib.hid (R6.out.set k (.int .i64 p))
       obtain ⟨u3, hc3⟩ : ∃ u, (w6.setCell ⟨w.heap.size, k, none⟩ (.int .i64 p)).cell? ⟨w.heap.size, p, none⟩ = some u := ⟨_, R7.out.cell (j := p) (by simp; omega)⟩
       have hf3 : (w6.setCell ⟨w.heap.size, k, none⟩ (.int .i64 p)).frozen? ⟨w.heap.size, p, none⟩ = false := R7.out.free p
       have b2 : (0 : Int) ≤ (q : Int) := by omega
       have b3 : (q : Int) < ((q + 1 : Nat) : Int) := by omega
       have b4 : (0 : Int) ≤ (p : Int) := by omega
       have b5 : (p : Int) < (l.length : Int) := by omega
       go_wp2_with fail
       go_region
       have R8 := (R7.out.set p (.int .i64 k)).drewN 1
       rw [ints_set, ints_set, listOf_set, listOf_set] at R8
       have O8 := Row.drewN ((O6.out.keep (R6.out.setG k (.int .i64 p)) (fun e => hgg (by injection e with e; exact e.symm))).keep (R7.out.setG p (.int .i64 k)) (fun e => hgg (by injection e with e; exact e.symm))) 1
       have B8 := below_drawn (Row.setB (Row.setB B6.out R6.out k (.int .i64 p)) R7.out p (.int .i64 k)) 1
       have O8' := O8.own (n := q + 1) (by simp [HQ.out])
       clear R7 hc1 hc2 hc3 hf2 hf3 HC1 O8
       change Row ((w6.setCell ⟨w.heap.size, k, none⟩ (.int .i64 p)).setCell ⟨w.heap.size, p, none⟩ (.int .i64 k)).drew _ _ _ _ _ at R8
       change Own ((w6.setCell ⟨w.heap.size, k, none⟩ (.int .i64 p)).setCell ⟨w.heap.size, p, none⟩ (.int .i64 k)).drew _ _ _ _ at O8'
       change Below _ _ ((w6.setCell ⟨w.heap.size, k, none⟩ (.int .i64 p)).setCell ⟨w.heap.size, p, none⟩ (.int .i64 k)).drew at B8
       generalize ((w6.setCell ⟨w.heap.size, k, none⟩ (.int .i64 p)).setCell ⟨w.heap.size, p, none⟩ (.int .i64 k)).drew = w7 at R8 O8' B8 ⊢
       have HR8 := Lib.hid R8
       have HO8 := Lib.hid O8'
       have HB8 := Lib.hid B8
       clear R8 O8' B8
       go_wp2_with (first
        | (refine short_own intsT w7 w.heap.size _ _ .i64 q _ _ rfl rfl rfl rfl (by omega) HO8.out (by simp [HQ.out]) ?_; intro v9 o9 e9; have O9 := Lib.hid o9; have HV9 := Lib.hid (show v9.ownBlock ≠ some w.heap.size by rw [e9]; exact HV.out); clear o9 e9)
        | fail)
       go_roundw
       case rel =>
        refine ⟨k + 1, by omega, by go_num, by rw [HM.out]; exact HR8.out, ?_, HV9, HB8.out⟩
        rw [HM.out]
        have := O9.out
        rw [show ((q : Int)).toNat = q by omega] at this
        have e : (stk (p :: st)).take q = stk st := by
         rw [stk, List.reverse_cons, List.map_append, ints, List.map_append, List.take_left' (by simp [HQ.out])]
        rw [e] at this
        exact this
       case measure => simp [intOf]; omega
    ·have HO1 := Lib.hid ho
     have hmr := HMR.out
     rw [if_neg n10, if_pos ho] at hmr
     have HM := Lib.hid hmr
     clear n10 ho HMR hmr
     go_wp2_with (first
      | (refine store_row intsT wr w.heap.size _ _ w.heap.size k l.length .i64 (-1) _ w rfl rfl rfl rfl rfl HR.out (by simpa using hlt) HB.out ?_; intro w5 r5 b5 g5; rw [ints_set, listOf_set] at r5; have R5 := Lib.hid r5; have B5 := Lib.hid b5; have O5 := Lib.hid (HO.out.keepRow g5 HV.out); clear r5 b5 g5)
      | fail)
     go_wp2_with fail
     refine (opens_any x w5).mono ?_
     rintro e w6 ⟨rfl, b6⟩
     rw [HO1.out]
     have B6 := Lib.hid (B5.out.trans (b6.mono B5.out.size))
     have D6 := Lib.hid b6
     clear b6
     have O6 := Lib.hid (O5.out.below D6.out (Nat.le_refl _))
     have R6 := Lib.hid (R5.out.below D6.out (Nat.le_refl _))
     go_wp2_with (first
      | (at_builtin; refine app_lit intsT w _ w.heap.size _ _ _ _ _ _ rfl rfl rfl rfl O6.out (by simp [Value.oneCell']) B6.out B6.out.size (by unfold maxLen; simp; omega) (by simp; omega) ?_; intro v7 w7 o7 b7 g7 e7)
      | fail)
     go_roundw
     case rel =>
      refine ⟨k + 1, by omega, by go_num, ?_, ?_, Lib.hid (fresh_ne HV.out R6.out.inside.2 e7), b7⟩
      ·rw [HM.out]; exact R6.out.keep g7 HV.out
      ·rw [HM.out]; simpa [stk, ints] using o7
     case measure => simp [intOf]; omega
   ·have hmr := HMR.out
    rw [if_pos (by simpa using h10)] at hmr
    have HM := Lib.hid hmr
    clear hmr HMR
    go_wp2_with (first
     | (refine store_row intsT wr w.heap.size _ _ w.heap.size k l.length .i64 (-1) _ w rfl rfl rfl rfl rfl HR.out (by simpa using hlt) HB.out ?_; intro w5 r5 b5 g5; rw [ints_set, listOf_set] at r5; have R5 := Lib.hid r5; have B5 := Lib.hid b5; have O5 := Lib.hid (HO.out.keepRow g5 HV.out); clear r5 b5 g5)
     | (refine short_own intsT w5 w.heap.size _ _ .i64 0 _ _ rfl rfl rfl rfl (by omega) O5.out (by simp) ?_; intro v6 o6 e6; have O6 := Lib.hid o6; have HV6 := Lib.hid (show v6.ownBlock ≠ some w.heap.size by rw [e6]; exact HV.out); clear o6 e6)
     | fail)
    go_roundw
    case rel => exact ⟨k + 1, by omega, by go_num, by rw [HM.out]; exact R5.out, by rw [HM.out]; simpa using O6.out, HV6, B5.out⟩
    case measure => simp [intOf]; omega
  ·go_wp2
   go_ret
   obtain rfl : k = l.length := by omega
   refine rowed_ret (HR.out.own ?_) HB.out rfl
   simp
end Go.Proofs.YtcbaahlahohfmaaGreatDoor
namespace Go.Proofs.YtcbaahlahohfmaaGreatDoor
open Go.RowKit
theorem seqsT : SliceOfN Tryz.prog 46 49 (.agg #[.slice none 0 0, .int .i64 0, .int .i64 0, .int .i64 0]) 4 48 := ⟨by kernel_rfl, by kernel_rfl, rfl, by decide⟩
def Sq.cells (v : Value) (s : Sq) : List Value := [v, .int .i64 s.lev, .int .i64 s.sos, .int .i64 s.eos]
def sqCells : List Value → List Sq → List Value
 | v :: vs, s :: L => s.cells v ++ sqCells vs L
 | _, _ => []
theorem sqCells_append : ∀ (vs : List Value) (L : List Sq) (v : Value) (s : Sq), vs.length = L.length → sqCells (vs ++ [v]) (L ++ [s]) = sqCells vs L ++ s.cells v
 | [], [], _, _, _ => rfl
 | [], _ :: _, _, _, h => by simp at h
 | _ :: _, [], _, _, h => by simp at h
 | a :: vs, b :: L, v, s, h => by
  have := sqCells_append vs L v s (by simpa using h)
  simp only [List.cons_append, sqCells, this, List.append_assoc]
theorem sqCells_get : ∀ (vs : List Value) (L : List Sq) (h : vs.length = L.length) (j : Nat) (hj : j < L.length) (t : Nat) (_ : t < 4), (sqCells vs L)[j * 4 + t]? = (L[j].cells (vs[j]'(by omega)))[t]?
 | [], [], _, j, hj, _, _ => by simp at hj
 | [], _ :: _, h, _, _, _, _ => by simp at h
 | _ :: _, [], h, _, _, _, _ => by simp at h
 | a :: vs, b :: L, h, 0, _, t, ht => by
  have hl : (b.cells a).length = 4 := rfl
  rw [sqCells, List.getElem?_append_left (by omega)]; simp
 | a :: vs, b :: L, h, j + 1, hj, t, ht => by
  have hl : (b.cells a).length = 4 := rfl
  rw [sqCells, List.getElem?_append_right (by omega), hl, show (j + 1) * 4 + t - 4 = j * 4 + t by omega, sqCells_get vs L (by simpa using h) j (by simpa using hj) t ht]
  rfl
theorem sqCells_length : ∀ (vs : List Value) (L : List Sq), vs.length = L.length → (sqCells vs L).length = L.length * 4
 | [], [], _ => rfl
 | [], _ :: _, h => by simp at h
 | _ :: _, [], h => by simp at h
 | a :: vs, b :: L, h => by
  have hl : (b.cells a).length = 4 := rfl
  rw [sqCells, List.length_append, hl, sqCells_length vs L (by simpa using h), List.length_cons]; omega
structure Seqs (w : World) (B : Nat) (v : Value) (vs : List Value) (L : List Sq) : Prop where
 outer : OwnN w B 49 4 v L.length (sqCells vs L)
 len : vs.length = L.length
 inner : ∀ (j : Nat) (h1 : j < vs.length) (h2 : j < L.length), Own w B 3 vs[j] (ints .i64 L[j].pl)
theorem Seqs.below {w w' : World} {B C : Nat} {v : Value} {vs : List Value} {L : List Sq} (h : Seqs w B v vs L) (hb : Below C w w') (hC : w.heap.size ≤ C) : Seqs w' B v vs L :=
 ⟨h.outer.below hb hC, h.len, fun j h1 h2 => (h.inner j h1 h2).below hb hC⟩
theorem Seqs.weaken {w : World} {B B' : Nat} {v : Value} {vs : List Value} {L : List Sq} (h : Seqs w B v vs L) (hB : B' ≤ B) : Seqs w B' v vs L :=
 ⟨h.outer.weaken hB, h.len, fun j h1 h2 => (h.inner j h1 h2).weaken hB⟩
theorem Seqs.push {w w' : World} {B B2 : Nat} {v v' u : Value} {vs : List Value} {L : List Sq} {s : Sq} (h : Seqs w B v vs L) (hu : Own w B2 3 u (ints .i64 s.pl)) (hB : B ≤ B2) (hg : w.grownBy w' v.ownBlock)
 (ho : OwnN w' B 49 4 v' (L.length + 1) (sqCells vs L ++ s.cells u)) : Seqs w' B v' (vs ++ [u]) (L ++ [s]) := by
 have hl := h.len
 have far : ∀ {x : Value} {xs : List Value} {B' : Nat}, Own w B' 3 x xs → Own w' B' 3 x xs := fun hx => hx.keep hg (OwnN.unlike hx.asN h.outer (by decide))
 refine ⟨by rw [sqCells_append _ _ _ _ hl, List.length_append, List.length_singleton]; exact ho, by simp [hl], fun j h1 h2 => ?_⟩
 by_cases hj : j < vs.length
 ·simp only [List.getElem_append_left hj, List.getElem_append_left (show j < L.length by omega)]
  exact far (h.inner j hj (by omega))
 ·have he : j = L.length := by rw [List.length_append, List.length_singleton] at h2; omega
  subst he
  simp only [List.getElem_append_right (show vs.length ≤ L.length by omega), List.getElem_append_right (Nat.le_refl L.length), Nat.sub_self, show L.length - vs.length = 0 by omega, List.getElem_cons_zero]
  exact (far hu).weaken hB
theorem Lies.bool {w : World} {B : Nat} {A : Option Addr} {l : List Bool} (h : Lies w B A (l.map Value.bool)) {i : Nat} (hi : i < l.length) :
 ∃ p : Addr, A = some p ∧ p.block < B ∧ w.cell? (p.add i) = some (.bool l[i]) := by
 obtain ⟨p, hA, hB, hc⟩ := h.cellAt (i := i) (by simpa using hi)
 exact ⟨p, hA, hB, by simpa using hc⟩
theorem chainI_ne {cl m : List Int} {L : List (List Int)} (h : Onward cl m L) {n : Nat} (hW : Within L n) {k : Nat} (hk : k < L.length) : chainI cl m L k ≠ [] ∧ headI (chainI cl m L k) = headI L[k] := by
 have hne := (hW _ (List.getElem_mem hk)).1
 have hg : L.getD k [] = L[k] := by simp [hk]
 have hp := List.length_pos_iff.2 hne
 rcases chainI_step h hk with ⟨_, e⟩ | ⟨k', _, _, _, e⟩
 ·rw [e, hg]; exact ⟨hne, rfl⟩
 ·rw [e, hg]
  refine ⟨by simp [hne], ?_⟩
  unfold headI
  rw [List.getD_eq_getElem?_getD, List.getElem?_append_left hp, ← List.getD_eq_getElem?_getD]
theorem chainI_in {cl m : List Int} {L : List (List Int)} (h : Onward cl m L) {n : Nat} (hW : Within L n) : ∀ d k, k < L.length → L.length - k ≤ d → ∀ x ∈ chainI cl m L k, ∃ q : Nat, x = (q : Int) ∧ q < n := by
 intro d
 induction d with
 | zero => intro k hk hd; omega
 | succ d ih =>
  intro k hk hd x hx
  have hg : L.getD k [] = L[k] := by simp [hk]
  have h0 : ∀ y ∈ L.getD k [], ∃ q : Nat, y = (q : Int) ∧ q < n := by rw [hg]; exact (hW _ (List.getElem_mem hk)).2.2
  rcases chainI_step h hk with ⟨_, e⟩ | ⟨k', _, hlt, hkl, e⟩
  ·rw [e] at hx; exact h0 x hx
  ·rw [e] at hx
   rcases List.mem_append.1 hx with h1 | h1
   ·exact h0 x h1
   ·exact ih k' hkl (by omega) x h1
end Go.Proofs.YtcbaahlahohfmaaGreatDoor
namespace Go.Proofs.YtcbaahlahohfmaaGreatDoor
open Go.RowKit
structure SeqsR (w : World) (A : Option Addr) (L : List Sq) (vs : List Value) : Prop where
 len : vs.length = L.length
 outer : Lies w w.heap.size A (sqCells vs L)
 inner : ∀ (j : Nat) (h1 : j < vs.length) (h2 : j < L.length), ∃ Aj cj, vs[j] = .slice Aj L[j].pl.length cj ∧ Lies w w.heap.size Aj (ints .i64 L[j].pl)
theorem SeqsR.up {w w' : World} {A : Option Addr} {L : List Sq} {vs : List Value} (h : SeqsR w A L vs) (hb : Below w.heap.size w w') : SeqsR w' A L vs :=
 ⟨h.len, h.outer.up hb, fun j h1 h2 => by
  obtain ⟨Aj, cj, e, hl⟩ := h.inner j h1 h2
  exact ⟨Aj, cj, e, hl.up hb⟩⟩
theorem Seqs.read {w : World} {B : Nat} {v : Value} {vs : List Value} {L : List Sq} (h : Seqs w B v vs L) : ∃ A c, v = .slice A L.length c ∧ SeqsR w A L vs := by
 obtain ⟨A, c, hv, hl, _, _⟩ := h.outer.form
 refine ⟨A, c, hv, h.len, hl, fun j h1 h2 => ?_⟩
 obtain ⟨Aj, cj, e, hj, _, _⟩ := (h.inner j h1 h2).form
 rw [List.length_map] at e
 exact ⟨Aj, cj, e, hj⟩
abbrev SqCell (w : World) (g o : Nat) (v : Value) (s : Sq) : Prop := w.cell? ⟨g, o, none⟩ = some v ∧ w.cell? ⟨g, o + 1, none⟩ = some (.int .i64 s.lev) ∧ w.cell? ⟨g, o + 2, none⟩ = some (.int .i64 s.sos) ∧ w.cell? ⟨g, o + 3, none⟩ = some (.int .i64 s.eos)
theorem SeqsR.at' {w : World} {A : Option Addr} {L : List Sq} {vs : List Value} (h : SeqsR w A L vs) {j : Nat} (hj : j < L.length) :
 ∃ g off Aj cj, A = some ⟨g, off, none⟩ ∧ g < w.heap.size ∧ SqCell w g (off + j * 4) (.slice Aj L[j].pl.length cj) L[j] ∧ Lies w w.heap.size Aj (ints .i64 L[j].pl) := by
 have hl := h.len
 obtain ⟨Aj, cj, e, hi⟩ := h.inner j (by omega) hj
 obtain ⟨g, off, hA, hg, hc⟩ := h.outer.plain (by rw [sqCells_length _ _ hl]; omega)
 have key : ∀ t, t < 4 → w.cell? ⟨g, off + j * 4 + t, none⟩ = (L[j].cells (vs[j]'(by omega)))[t]? := fun t ht => by
  have h1 := hc (j * 4 + t) (by rw [sqCells_length _ _ hl]; omega)
  rw [show off + j * 4 + t = off + (j * 4 + t) by omega, h1, ← List.getElem?_eq_getElem, sqCells_get vs L hl j hj t ht]
 refine ⟨g, off, Aj, cj, hA, hg, ⟨?_, ?_, ?_, ?_⟩, hi⟩
 ·have := key 0 (by omega); rw [e] at this; exact this
 ·exact key 1 (by omega)
 ·exact key 2 (by omega)
 ·exact key 3 (by omega)
theorem SqCell.up {w w' : World} {g o : Nat} {v : Value} {s : Sq} {B : Nat} (h : SqCell w g o v s) (hb : Below B w w') (hg : g < B) : SqCell w' g o v s :=
 ⟨by rw [hb.cell hg]; exact h.1, by rw [hb.cell hg]; exact h.2.1, by rw [hb.cell hg]; exact h.2.2.1, by rw [hb.cell hg]; exact h.2.2.2⟩
end Go.Proofs.YtcbaahlahohfmaaGreatDoor
namespace Go.Proofs.YtcbaahlahohfmaaGreatDoor
open Go.RowKit
def PairsR (w : World) (A : Option Addr) (L : List (List Int)) : Prop := Lies w w.heap.size A (pairsOf L)
theorem pairsOf_length (L : List (List Int)) : (pairsOf L).length = L.length * 2 := by
 induction L with
 | nil => rfl
 | cons r L ih => rw [show pairsOf (r :: L) = [.int .i64 (headI r), .int .i64 (lastI r)] ++ pairsOf L from rfl, List.length_append, ih]; simp; omega
theorem pairsOf_get (L : List (List Int)) : ∀ j (hj : j < L.length), (pairsOf L)[j * 2]? = some (.int .i64 (headI L[j])) ∧ (pairsOf L)[j * 2 + 1]? = some (.int .i64 (lastI L[j])) := by
 induction L with
 | nil => intro j hj; simp at hj
 | cons r L ih =>
  intro j hj
  rw [show pairsOf (r :: L) = [.int .i64 (headI r), .int .i64 (lastI r)] ++ pairsOf L from rfl]
  cases j with
  | zero => exact ⟨rfl, rfl⟩
  | succ j =>
   obtain ⟨h1, h2⟩ := ih j (by simpa using hj)
   rw [List.getElem?_append_right (by simp; omega), List.getElem?_append_right (by simp; omega)]
   simp only [List.length_cons, List.length_nil, List.getElem_cons_succ]
   rw [show (j + 1) * 2 - (0 + 1 + 1) = j * 2 by omega, show (j + 1) * 2 + 1 - (0 + 1 + 1) = j * 2 + 1 by omega]
   exact ⟨h1, h2⟩
theorem PairsR.at' {w : World} {A : Option Addr} {L : List (List Int)} (h : PairsR w A L) {j : Nat} (hj : j < L.length) :
 ∃ g off, A = some ⟨g, off, none⟩ ∧ g < w.heap.size ∧ w.cell? ⟨g, off + j * 2, none⟩ = some (.int .i64 (headI L[j])) ∧ w.cell? ⟨g, off + j * 2 + 1, none⟩ = some (.int .i64 (lastI L[j])) := by
 have hl := pairsOf_length L
 obtain ⟨g, off, hA, hg, hc⟩ := Lies.plain h (by omega)
 obtain ⟨h1, h2⟩ := pairsOf_get L j hj
 have k1 := hc (j * 2) (by omega)
 have k2 := hc (j * 2 + 1) (by omega)
 rw [← Nat.add_assoc] at k2
 refine ⟨g, off, hA, hg, ?_, ?_⟩
 ·rw [k1, ← List.getElem?_eq_getElem, h1]
 ·rw [k2, ← List.getElem?_eq_getElem, h2]
end Go.Proofs.YtcbaahlahohfmaaGreatDoor
namespace Go.Proofs.YtcbaahlahohfmaaGreatDoor
open Go.RowKit
theorem slast_any (b off m : Nat) (t c : Nat) (y : Int) (w : World) (hm : m = t + 1) (hm6 : m ≤ 1000000) (hy : w.cell? ⟨b, off + t, none⟩ = some (.int .i64 y)) :
 Calls Tryz.prog 52 #[.slice (some ⟨b, off, none⟩) m c] w fun e w' => e = .returned (.int .i64 y) ∧ w = w' := by
 have b2 : (0 : Int) ≤ (t : Int) := by omega
 have b3 : (t : Int) < (m : Int) := by omega
 have hw1 : IntKind.i64.wrap ((m : Int) - 1) = (t : Int) := by rw [IntWalk.i64_in _ (by omega)]; omega
 clear hm hm6
 go_enter Tryz.func52, Tryz.ntmps52
 go_wp2
 go_ret
 exact ⟨rfl, rfl⟩
set_option maxRecDepth 20000 in
set_option maxHeartbeats 2000000 in
theorem skept_any (A : Option Addr) (l : List Int) (c : Nat) (w : World) (h : Lies w w.heap.size A (ints .i64 l)) (hl : l.length ≤ 1000000) :
 Calls Tryz.prog 87 #[.slice A l.length c] w fun ed w' => Rowed w w.heap.size 3 (ints .i64 (seenI l)) ed w' := by
 have H := Lib.hid h
 clear h
 go_enter Tryz.func87, Tryz.ntmps87
 go_wp2
 go_loopw [8, 3] (fun iv ov wr => ∃ k : Nat, k ≤ l.length ∧ iv = .int .i64 k ∧ Own wr w.heap.size 3 ov (ints .i64 (seenN l k)) ∧ Below w.heap.size w wr) (fun iv _ _ => l.length - (intOf iv).toNat)
 case atStart => exact ⟨0, by omega, rfl, Own.empty _ _ _, Below.refl _ _⟩
 case round =>
  obtain ⟨k, hk, rfl, ho, hb⟩ := hrel
  have HO := Lib.hid ho
  have HB := Lib.hid hb
  clear ho hb
  by_cases hlt : k < l.length
  ·obtain ⟨p, rfl, _, hcl⟩ := (H.out.below HB.out).int hlt
   obtain ⟨x, hx⟩ : ∃ x, l[k] = x := ⟨_, rfl⟩
   have HS := Lib.hid (seenN_succ l k hlt)
   rw [hx] at hcl HS
   have hle := seenN_le l k
   have b0 : (0 : Int) ≤ (k : Int) := by omega
   have b1 : (k : Int) < (l.length : Int) := by omega
   clear hx
   rcases hoc : isOut x with _ | _
   ·have HOC := Lib.hid hoc
    clear hoc
    go_wp2_with fail
    refine (out_any x _).mono ?_
    rintro e w1 ⟨rfl, b1⟩
    rw [HOC.out]
    have B1 := Lib.hid (HB.out.trans (b1.mono HB.out.size))
    have D1 := Lib.hid b1
    clear b1
    have HO1 := Lib.hid (HO.out.below D1.out (Nat.le_refl _))
    go_wp2_with (first
     | (at_builtin; refine app_lit intsT w w1 w.heap.size _ _ #[.int .i64 (k : Int)] 1 _ _ rfl rfl rfl rfl HO1.out (by simp [Value.oneCell']) B1.out B1.out.size (by unfold maxLen; simp; omega) (by simp; omega) ?_; intro v2 w2 o2 b2 _ _; have O2 := Lib.hid o2; have B2 := Lib.hid b2; clear o2 b2)
     | fail)
    go_roundw
    case rel => exact ⟨k + 1, by omega, by go_num, by rw [HS.out, HOC.out, if_neg (by simp)]; simpa [ints] using O2.out, B2.out⟩
    case measure => simp [intOf]; omega
   ·have HOC := Lib.hid hoc
    clear hoc
    go_wp2_with fail
    refine (out_any x _).mono ?_
    rintro e w1 ⟨rfl, b1⟩
    rw [HOC.out]
    have B1 := Lib.hid (HB.out.trans (b1.mono HB.out.size))
    have D1 := Lib.hid b1
    clear b1
    have HO1 := Lib.hid (HO.out.below D1.out (Nat.le_refl _))
    go_wp2_with fail
    go_roundw
    case rel => exact ⟨k + 1, by omega, by go_num, by rw [HS.out, HOC.out, if_pos rfl]; exact HO1.out, B1.out⟩
    case measure => simp [intOf]; omega
  ·obtain rfl : k = l.length := by omega
   go_wp2
   go_ret
   exact ⟨_, rfl, HO.out, HB.out⟩
set_option maxRecDepth 20000 in
set_option maxHeartbeats 2000000 in
theorem sends_any (A : Option Addr) (cl : List Int) (c : Nat) (A' : Option Addr) (lv : List Int) (c' : Nat) (q q' : Nat) (w : World) (h : Lies w w.heap.size A (ints .i64 cl)) (h' : Lies w w.heap.size A' (ints .i64 lv)) (hq : q < cl.length) (hqv : q < lv.length) (hqv' : q' < lv.length) :
 Calls Tryz.prog 88 #[.slice A cl.length c, .slice A' lv.length c', .int .i64 (q : Int), .int .i64 (q' : Int)] w fun ed w' => ed = .returned (.bool (cl.getD q 0 == 10 || lv.getD q 0 != lv.getD q' 0)) ∧ Below w.heap.size w w' := by
 obtain ⟨pc, rfl, _, hcc⟩ := h.int hq
 obtain ⟨pv, rfl, _, hcv⟩ := h'.int hqv
 obtain ⟨pv', hpv', _, hcv'⟩ := h'.int hqv'
 injection hpv' with hpv'
 subst hpv'
 obtain ⟨z, hz⟩ : ∃ z, cl[q] = z := ⟨_, rfl⟩
 obtain ⟨x, hx⟩ : ∃ z, lv[q] = z := ⟨_, rfl⟩
 obtain ⟨y, hy⟩ : ∃ z, lv[q'] = z := ⟨_, rfl⟩
 rw [show cl.getD q 0 = z by simp [hq, hz], show lv.getD q 0 = x by simp [hqv, hx], show lv.getD q' 0 = y by simp [hqv', hy]]
 rw [hz] at hcc
 rw [hx] at hcv
 rw [hy] at hcv'
 have c0 : (0 : Int) ≤ (q : Int) := by omega
 have c1 : (0 : Int) ≤ (q' : Int) := by omega
 have c2 : (q : Int) < (cl.length : Int) := by omega
 have c3 : (q : Int) < (lv.length : Int) := by omega
 have c4 : (q' : Int) < (lv.length : Int) := by omega
 have hcr : w.drew.cell? (pc.add q) = some (.int .i64 z) ∧ w.drew.cell? (pv.add q) = some (.int .i64 x) ∧ w.drew.cell? (pv.add q') = some (.int .i64 y) := ⟨hcc, hcv, hcv'⟩
 clear h h' hz hx hy hq hqv hqv' hcc hcv hcv'
 rcases hz10 : (z == 10) with _ | _
 ·go_enter Tryz.func88, Tryz.ntmps88
  go_wp2_with fail
  refine wp_region_held_drew (S := fun w' => w'.cell? (pc.add q) = some (.int .i64 z) ∧ w'.cell? (pv.add q) = some (.int .i64 x) ∧ w'.cell? (pv.add q') = some (.int .i64 y)) (by kernel_rfl) (hcr) (fun hHeld => ?_)
  refine' hY 0 ?_
  try simp only [Act.put,ZA,ZB,ZD,ZE,ZF]
  refine' hY 1 ?_
  try simp only [Act.put,ZA,ZB,ZC,ZD,ZE,ZF]
  refine' hY 2 ?_
  try simp only [Act.put,ZA,ZB,ZC,ZD,ZE,ZF]
  refine' hY 3 ?_
  try simp only [Act.put,ZA,ZB,ZC,ZD,ZE,ZF]
  refine' hY 4 ?_
  try simp only [Act.put,ZA,ZB,ZC,ZD,ZE,ZF]
  refine' hY 5 ?_
  try simp only [Act.put,ZA,ZB,ZC,ZD,ZE,ZF]
  refine' hY 6 ?_
  try simp only [Act.put,ZA,ZB,ZC,ZD,ZE,ZF]
  refine' hY 7 ?_
  try simp only [Act.put,ZA,ZB,ZC,ZD,ZE,ZF]
  refine' hY 8 ?_
  try simp only [Act.put,ZA,ZB,ZC,ZD,ZE,ZF]
  refine' hY 9 ?_
  try simp only [Act.put,ZA,ZB,ZC,ZD,ZE,ZF]
  refine' hY 10 ?_
  try simp only [Act.put,ZA,ZB,ZC,ZD,ZE,ZF]
  refine' hY 11 ?_
  try simp only [Act.put,ZA,ZB,ZC,ZD,ZE,ZF]
  refine' hY 12 ?_
  try simp only [Act.put,ZA,ZB,ZC,ZD,ZE,ZF]
  refine' hY 13 ?_
  try simp only [Act.put,ZA,ZB,ZC,ZD,ZE,ZF]
  refine' hY 14 ?_
  try simp only [Act.put,ZA,ZB,ZC,ZD,ZE,ZF]
  refine' hY 15 ?_
  try simp only [Act.put,ZA,ZB,ZC,ZD,ZE,ZF]
  refine' hY 16 ?_
  try simp only [Act.put,ZA,ZB,ZC,ZD,ZE,ZF]
  refine wpAnyH_done (by kernel_rfl) ?_ _
  go_wp2_with fail
  go_ret
  exact ⟨rfl, by exact below_same (Below.refl _ _) rfl rfl rfl rfl⟩
 ·go_enter Tryz.func88, Tryz.ntmps88
  go_wp2_with fail
  refine wp_region_held_drew (S := fun w' => w'.cell? (pc.add q) = some (.int .i64 z) ∧ w'.cell? (pv.add q) = some (.int .i64 x) ∧ w'.cell? (pv.add q') = some (.int .i64 y)) (by kernel_rfl) (hcr) (fun hHeld => ?_)
  refine' hY 0 ?_
  try simp only [Act.put,ZA,ZB,ZD,ZE,ZF]
  refine' hY 1 ?_
  try simp only [Act.put,ZA,ZB,ZC,ZD,ZE,ZF]
  refine' hY 2 ?_
  try simp only [Act.put,ZA,ZB,ZC,ZD,ZE,ZF]
  refine' hY 3 ?_
  try simp only [Act.put,ZA,ZB,ZC,ZD,ZE,ZF]
  refine' hY 4 ?_
  try simp only [Act.put,ZA,ZB,ZC,ZD,ZE,ZF]
  refine' hY 5 ?_
  try simp only [Act.put,ZA,ZB,ZC,ZD,ZE,ZF]
  refine' hN 6 ?_
  try simp only [Act.put,ZA,ZB,ZC,ZD,ZE,ZF]
  refine' hN 7 ?_
  try simp only [Act.put,ZA,ZB,ZC,ZD,ZE,ZF]
  refine' hN 8 ?_
  try simp only [Act.put,ZA,ZB,ZC,ZD,ZE,ZF]
  refine' hN 9 ?_
  try simp only [Act.put,ZA,ZB,ZC,ZD,ZE,ZF]
  refine' hN 10 ?_
  try simp only [Act.put,ZA,ZB,ZC,ZD,ZE,ZF]
  refine' hN 11 ?_
  try simp only [Act.put,ZA,ZB,ZC,ZD,ZE,ZF]
  refine' hN 12 ?_
  try simp only [Act.put,ZA,ZB,ZC,ZD,ZE,ZF]
  refine' hN 13 ?_
  try simp only [Act.put,ZA,ZB,ZC,ZD,ZE,ZF]
  refine' hN 14 ?_
  try simp only [Act.put,ZA,ZB,ZC,ZD,ZE,ZF]
  refine' hY 15 ?_
  try simp only [Act.put,ZA,ZB,ZC,ZD,ZE,ZF]
  refine' hY 16 ?_
  try simp only [Act.put,ZA,ZB,ZC,ZD,ZE,ZF]
  refine wpAnyH_done (by kernel_rfl) ?_ _
  go_wp2_with fail
  go_ret
  exact ⟨rfl, by exact below_same (Below.refl _ _) rfl rfl rfl rfl⟩
section
variable {P : Program} {ops : Array Oper} {rest : List Oper} {o : Oper} {a : Act} {Q : Exit → Act → World → Prop}
theorem cut_plain {t e : TypeId} {z : Value} {bytes : Nat} (T : SliceOf P t e z bytes) (W : World) (x y1 y2 y3 : Operand) (i j g n c : Nat)
 (hgd : Region.wanted o (yielded ops a.tmps) = true) (ho : o.op = .slice t x (some y1) (some y2) (some y3)) (hx : a.eval x = .slice (some ⟨g, 0, none⟩) n c) (h1 : a.eval y1 = .int .i64 (i : Int)) (h2 : a.eval y2 = .int .i64 (j : Int)) (h3 : a.eval y3 = .int .i64 (j : Int)) (hij : i < j) (hj : j ≤ c)
 (h : wpList P ops Q rest (a.put o.dst (.slice (some ⟨g, i, none⟩) (j - i) (j - i))) W) :
 wpList P ops Q (o :: rest) a W := by
 obtain ⟨f, hi, hz0, hz1, hz2⟩ := info_parts T.elem
 have he : P.elem t = e := by simp [Program.elem, T.slice]
 have hrun := run_slice_lhm (P := P) (w := W) t (some ⟨g, 0, none⟩) n c (by rw [T.slice, he]) .i64 .i64 .i64 (i : Int) (j : Int) (j : Int) (by omega) (by omega) (by omega) (by omega)
 refine wpList_step fun K' hK' => ?_
 rw [if_pos hgd]
 unfold Oper.wp
 simp [execOp, ho, hx, h1, h2, h3, run_sliceAt_slice, T.slice, he, hrun, Result.andThen, sizeOf, typeInfo, hi, hz1, sliced]
 refine hK' _ _ ?_
 rw [if_neg (by omega), show ((⟨g, 0, none⟩ : Addr).add i) = ⟨g, i, none⟩ by rw [add_plain]; simp]
 exact h
end
structure Cuts (g : Nat) (s : List Int) (es : List Value) (L : List (List Int)) : Prop where
 len : es.length = L.length
 cut : ∀ (j : Nat) (h1 : j < es.length) (h2 : j < L.length), ∃ o, es[j] = .slice (some ⟨g, o, none⟩) L[j].length L[j].length ∧ o + L[j].length ≤ s.length ∧ ∀ t (ht : t < L[j].length), s[o + t]? = some L[j][t]
theorem Cuts.nil (g : Nat) (s : List Int) : Cuts g s [] [] := ⟨rfl, fun j h1 => by simp at h1⟩
theorem Cuts.push {g : Nat} {s : List Int} {es : List Value} {L : List (List Int)} (h : Cuts g s es L) {i j : Nat} (hij : i < j) (hj : j ≤ s.length) :
 Cuts g s (es ++ [.slice (some ⟨g, i, none⟩) (j - i) (j - i)]) (L ++ [(s.take j).drop i]) := by
 have hl := h.len
 refine ⟨by simp [hl], fun k h1 h2 => ?_⟩
 by_cases hk : k < es.length
 ·simp only [List.getElem_append_left hk, List.getElem_append_left (show k < L.length by omega)]
  exact h.cut k hk (by omega)
 ·have he : k = L.length := by rw [List.length_append, List.length_singleton] at h2; omega
  subst he
  simp only [List.getElem_append_right (show es.length ≤ L.length by omega), List.getElem_append_right (Nat.le_refl L.length), Nat.sub_self, show L.length - es.length = 0 by omega, List.getElem_cons_zero]
  have e : ((s.take j).drop i).length = j - i := by rw [List.length_drop, List.length_take]; omega
  refine ⟨i, by rw [e], by omega, fun t ht => ?_⟩
  rw [List.getElem_drop, List.getElem_take, List.getElem?_eq_getElem]
structure RunsE (w : World) (A : Option Addr) (L : List (List Int)) (es : List Value) : Prop where
 len : es.length = L.length
 outer : Lies w w.heap.size A es
 inner : ∀ (j : Nat) (h1 : j < es.length) (h2 : j < L.length), ∃ Aj, es[j] = .slice Aj L[j].length L[j].length ∧ Lies w w.heap.size Aj (ints .i64 L[j])
def RunsR (w : World) (A : Option Addr) (L : List (List Int)) : Prop := ∃ es, RunsE w A L es
theorem RunsR.up {w w' : World} {A : Option Addr} {L : List (List Int)} (h : RunsR w A L) (hb : Below w.heap.size w w') : RunsR w' A L := by
 obtain ⟨es, h1, h2, h3⟩ := h
 refine ⟨es, h1, h2.up hb, fun j a b => ?_⟩
 obtain ⟨Aj, e, hl⟩ := h3 j a b
 exact ⟨Aj, e, hl.up hb⟩
theorem Cuts.read {g : Nat} {s : List Int} {es : List Value} {L : List (List Int)} {w : World} {A : Option Addr} {c n : Nat} {B : Nat} (h : Cuts g s es L) (hs : Own w B 3 (.slice (some ⟨g, 0, none⟩) n c) (ints .i64 s)) (ho : Lies w w.heap.size A es) : RunsR w A L := by
 refine ⟨es, h.len, ho, fun j h1 h2 => ?_⟩
 obtain ⟨o, e, h3, h4⟩ := h.cut j h1 h2
 refine ⟨_, e, fun hne => ⟨_, rfl, (Own.inside hs g rfl).2, fun i u hu => ?_⟩⟩
 rw [ints, List.getElem?_map] at hu
 obtain ⟨x, hx, rfl⟩ := Option.map_eq_some_iff.1 hu
 obtain ⟨hlt, rfl⟩ := List.getElem?_eq_some_iff.1 hx
 obtain ⟨A1, c1, hv, hl, _, _⟩ := hs.form
 injection hv with hA _ _
 subst hA
 have hs0 : ints .i64 s ≠ [] := fun e => by
  have e2 := congrArg List.length e
  simp only [ints, List.length_map, List.length_nil] at e2
  omega
 obtain ⟨p, hp, _, hc⟩ := hl hs0
 injection hp with hp
 subst hp
 have := hc (o + i) (.int .i64 L[j][i]) (by rw [ints, List.getElem?_map, h4 i hlt]; rfl)
 rw [add_plain] at this ⊢
 simpa using this
def Young (N : Nat) (v : Value) : Prop := ∀ g, v.ownBlock = some g → N ≤ g
theorem young_push {N b off n c : Nat} {vs : List Value} (h : ∀ u ∈ vs, Young N u) (hb : N ≤ b) : ∀ u ∈ vs ++ [Value.slice (some ⟨b, off, none⟩) n c], Young N u := fun u hu => by
 rcases List.mem_append.1 hu with h1 | h1
 ·exact h u h1
 ·obtain rfl := List.mem_singleton.1 h1
  exact fun g hg => (show b = g from Option.some.inj hg) ▸ hb
theorem young_set {N n : Nat} {vs : List Value} {v : Value} (h : ∀ u ∈ vs, Young N u) (hv : Young N v) : ∀ u ∈ vs.set n v, Young N u := fun u hu => by
 rcases List.mem_or_eq_of_mem_set hu with h1 | rfl
 ·exact h u h1
 ·exact hv
def RunsY (w : World) (N : Nat) (A : Option Addr) (n : Nat) : Prop := ∀ p, A = some p → ∀ k, k < n → ∀ u, w.cell? (p.add k) = some u → Young N u
theorem RunsY.up {w w' : World} {N : Nat} {A : Option Addr} {L : List (List Int)} (h : RunsY w N A L.length) (hr : RunsR w A L) (hb : Below w.heap.size w w') : RunsY w' N A L.length := by
 intro p hp k hk u hu
 obtain ⟨es, h1, h2, -⟩ := hr
 obtain ⟨p', hp', hpb, -⟩ := h2.cellAt (i := k) (by omega)
 rw [hp] at hp'
 injection hp' with hp'
 subst hp'
 rw [hb.cell (by rw [add_block]; exact hpb)] at hu
 exact h p hp k hk u hu
theorem Cuts.young {g N : Nat} {s : List Int} {es : List Value} {L : List (List Int)} {w : World} {A : Option Addr} {B : Nat} (h : Cuts g s es L) (ho : Lies w B A es) (hg : N ≤ g) : RunsY w N A L.length := by
 intro p hp k hk u hu
 have hl := h.len
 obtain ⟨p', hp', -, hc⟩ := ho.cellAt (i := k) (by omega)
 rw [hp] at hp'
 injection hp' with hp'
 subst hp'
 rw [hc] at hu
 injection hu with hu
 subst hu
 obtain ⟨o, e, -⟩ := h.cut k (by omega) hk
 intro x hx
 rw [e] at hx
 exact (show g = x from Option.some.inj hx) ▸ hg
theorem RunsR.at' {w : World} {A : Option Addr} {L : List (List Int)} (h : RunsR w A L) {j : Nat} (hj : j < L.length) (hne : L[j] ≠ []) :
 ∃ p b off, A = some p ∧ p.block < w.heap.size ∧ b < w.heap.size ∧ w.cell? (p.add j) = some (.slice (some ⟨b, off, none⟩) L[j].length L[j].length) ∧ w.cell? ⟨b, off, none⟩ = some (.int .i64 (headI L[j])) ∧ w.cell? ⟨b, off + (L[j].length - 1), none⟩ = some (.int .i64 (lastI L[j])) ∧ Lies w w.heap.size (some ⟨b, off, none⟩) (ints .i64 L[j]) := by
 obtain ⟨es, h1, h2, h3⟩ := h
 obtain ⟨p, hA, hp, hc⟩ := h2.cellAt (i := j) (by omega)
 obtain ⟨Aj, e, hl⟩ := h3 j (by omega) hj
 have hpos := List.length_pos_iff.2 hne
 obtain ⟨b, off, hAj, hb, hcs⟩ := hl.plainInts hpos
 subst hAj
 refine ⟨p, b, off, hA, hp, hb, by rw [hc, e], ?_, ?_, hl⟩
 ·have := hcs 0 hpos
  rw [show L[j][0] = headI L[j] by simp [headI, hpos]] at this
  simpa using this
 ·have := hcs (L[j].length - 1) (by omega)
  rw [this]
  simp [lastI, List.getElem?_eq_getElem (show L[j].length - 1 < L[j].length by omega)]
theorem RunsR.later {w w' : World} {A : Option Addr} {L : List (List Int)} (h : RunsR w A L) (hw : Below w.heap.size w w') {j : Nat} (hj : j < L.length) (hne : L[j] ≠ []) :
 ∃ p b off, A = some p ∧ p.block < w.heap.size ∧ b < w.heap.size ∧ w'.cell? (p.add j) = some (.slice (some ⟨b, off, none⟩) L[j].length L[j].length) ∧ w'.cell? ⟨b, off, none⟩ = some (.int .i64 (headI L[j])) ∧ w'.cell? ⟨b, off + (L[j].length - 1), none⟩ = some (.int .i64 (lastI L[j])) ∧ Lies w' w.heap.size (some ⟨b, off, none⟩) (ints .i64 L[j]) := by
 obtain ⟨p, b, off, hA, hp, hb, h1, h2, h3, h4⟩ := h.at' hj hne
 exact ⟨p, b, off, hA, hp, hb, by rw [hw.cell (by rw [add_block]; exact hp)]; exact h1, by rw [hw.cell hb]; exact h2, by rw [hw.cell hb]; exact h3, h4.below hw⟩
theorem listsI_six {cl lv : List Int} (hl : cl.length ≤ 1000000) : (listsI cl lv).length ≤ 1000000 ∧ (∀ j (hj : j < (listsI cl lv).length), (listsI cl lv)[j] ≠ []) ∧ ∀ j (hj : j < (listsI cl lv).length), (listsI cl lv)[j].length ≤ 1000000 :=
 ⟨Nat.le_trans (listsI_le cl lv).1 hl, fun _ _ => listsI_ne cl lv _ (List.getElem_mem _), fun _ _ => Nat.le_trans ((listsI_le cl lv).2 _ (List.getElem_mem _)) hl⟩
end Go.Proofs.YtcbaahlahohfmaaGreatDoor
