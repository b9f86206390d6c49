/- Shared texts, shaken for one claim. -/
import Derived.Test.YtcbaahlahohfmaaGreatDoorZA13
import Derived.Test.YtcbaahlahohfmaaGreatDoorZA17
import Derived.Test.YtcbaahlahohfmaaGreatDoorZA22
import Derived.Test.YtcbaahlahohfmaaGreatDoorZA29
namespace Go.Proofs.YtcbaahlahohfmaaGreatDoor
open Go.RowKit
theorem seqsT : SliceOfN Tryz.prog 46 49 (.agg #[.slice none 0 0, .int .i64 0, .int .i64 0, .int .i64 0]) 4 48 := ⟨by kernel_rfl, by kernel_rfl, rfl, by decide⟩
theorem boolsT : SliceOf Tryz.prog 73 4 (.bool false) 1 := ⟨by kernel_rfl, by kernel_rfl, rfl⟩
def Sq.cells (v : Value) (s : Sq) : List Value := [v, .int .i64 s.lev, .int .i64 s.sos, .int .i64 s.eos]
def sqCells : List Value → List Sq → List Value
 | v :: vs, s :: L => s.cells v ++ sqCells vs L
 | _, _ => []
theorem sqCells_append : ∀ (vs : List Value) (L : List Sq) (v : Value) (s : Sq), vs.length = L.length → sqCells (vs ++ [v]) (L ++ [s]) = sqCells vs L ++ s.cells v
 | [], [], _, _, _ => rfl
 | [], _ :: _, _, _, h => by simp at h
 | _ :: _, [], _, _, h => by simp at h
 | a :: vs, b :: L, v, s, h => by
  have := sqCells_append vs L v s (by simpa using h)
  simp only [List.cons_append, sqCells, this, List.append_assoc]
theorem sqCells_get : ∀ (vs : List Value) (L : List Sq) (h : vs.length = L.length) (j : Nat) (hj : j < L.length) (t : Nat) (_ : t < 4), (sqCells vs L)[j * 4 + t]? = (L[j].cells (vs[j]'(by omega)))[t]?
 | [], [], _, j, hj, _, _ => by simp at hj
 | [], _ :: _, h, _, _, _, _ => by simp at h
 | _ :: _, [], h, _, _, _, _ => by simp at h
 | a :: vs, b :: L, h, 0, _, t, ht => by
  have hl : (b.cells a).length = 4 := rfl
  rw [sqCells, List.getElem?_append_left (by omega)]; simp
 | a :: vs, b :: L, h, j + 1, hj, t, ht => by
  have hl : (b.cells a).length = 4 := rfl
  rw [sqCells, List.getElem?_append_right (by omega), hl, show (j + 1) * 4 + t - 4 = j * 4 + t by omega, sqCells_get vs L (by simpa using h) j (by simpa using hj) t ht]
  rfl
theorem sqCells_length : ∀ (vs : List Value) (L : List Sq), vs.length = L.length → (sqCells vs L).length = L.length * 4
 | [], [], _ => rfl
 | [], _ :: _, h => by simp at h
 | _ :: _, [], h => by simp at h
 | a :: vs, b :: L, h => by
  have hl : (b.cells a).length = 4 := rfl
  rw [sqCells, List.length_append, hl, sqCells_length vs L (by simpa using h), List.length_cons]; omega
structure Seqs (w : World) (B : Nat) (v : Value) (vs : List Value) (L : List Sq) : Prop where
 outer : OwnN w B 49 4 v L.length (sqCells vs L)
 len : vs.length = L.length
 inner : ∀ (j : Nat) (h1 : j < vs.length) (h2 : j < L.length), Own w B 3 vs[j] (ints .i64 L[j].pl)
theorem Seqs.below {w w' : World} {B C : Nat} {v : Value} {vs : List Value} {L : List Sq} (h : Seqs w B v vs L) (hb : Below C w w') (hC : w.heap.size ≤ C) : Seqs w' B v vs L :=
 ⟨h.outer.below hb hC, h.len, fun j h1 h2 => (h.inner j h1 h2).below hb hC⟩
theorem Seqs.weaken {w : World} {B B' : Nat} {v : Value} {vs : List Value} {L : List Sq} (h : Seqs w B v vs L) (hB : B' ≤ B) : Seqs w B' v vs L :=
 ⟨h.outer.weaken hB, h.len, fun j h1 h2 => (h.inner j h1 h2).weaken hB⟩
theorem Seqs.push {w w' : World} {B B2 : Nat} {v v' u : Value} {vs : List Value} {L : List Sq} {s : Sq} (h : Seqs w B v vs L) (hu : Own w B2 3 u (ints .i64 s.pl)) (hB : B ≤ B2) (hg : w.grownBy w' v.ownBlock)
 (ho : OwnN w' B 49 4 v' (L.length + 1) (sqCells vs L ++ s.cells u)) : Seqs w' B v' (vs ++ [u]) (L ++ [s]) := by
 have hl := h.len
 have far : ∀ {x : Value} {xs : List Value} {B' : Nat}, Own w B' 3 x xs → Own w' B' 3 x xs := fun hx => hx.keep hg (OwnN.unlike hx.asN h.outer (by decide))
 refine ⟨by rw [sqCells_append _ _ _ _ hl, List.length_append, List.length_singleton]; exact ho, by simp [hl], fun j h1 h2 => ?_⟩
 by_cases hj : j < vs.length
 ·simp only [List.getElem_append_left hj, List.getElem_append_left (show j < L.length by omega)]
  exact far (h.inner j hj (by omega))
 ·have he : j = L.length := by rw [List.length_append, List.length_singleton] at h2; omega
  subst he
  simp only [List.getElem_append_right (show vs.length ≤ L.length by omega), List.getElem_append_right (Nat.le_refl L.length), Nat.sub_self, show L.length - vs.length = 0 by omega, List.getElem_cons_zero]
  exact (far hu).weaken hB
theorem Row.ofN {w : World} {B g c n : Nat} {e : TypeId} {xs : List Value} (h : OwnN w B e 1 (.slice (some ⟨g, 0, none⟩) n c) n xs) (hn : n = xs.length) : Row w B e g c xs := by
 subst hn; exact h
theorem bools_set (l : List Bool) (i : Nat) (b : Bool) : (l.map Value.bool).set i (.bool b) = (l.set i b).map Value.bool := by rw [List.map_set]
theorem Lies.bool {w : World} {B : Nat} {A : Option Addr} {l : List Bool} (h : Lies w B A (l.map Value.bool)) {i : Nat} (hi : i < l.length) :
 ∃ p : Addr, A = some p ∧ p.block < B ∧ w.cell? (p.add i) = some (.bool l[i]) := by
 obtain ⟨p, hA, hB, hc⟩ := h.cellAt (i := i) (by simpa using hi)
 exact ⟨p, hA, hB, by simpa using hc⟩
theorem gone_start (cl m : List Int) (L : List (List Int)) : (List.range L.length).map (fun j => goneN cl m L 0 j) = List.replicate L.length false := by
 apply List.ext_getElem
 ·simp
 ·intro i h1 h2; simp [goneN]
theorem gone_keep {cl m : List Int} {L : List (List Int)} {k : Nat} (h : nextI cl m L k < 0) : (List.range L.length).map (fun j => goneN cl m L (k + 1) j) = (List.range L.length).map (fun j => goneN cl m L k j) := by
 apply List.map_congr_left
 intro j _
 rw [goneN_succ, show (nextI cl m L k == (j : Int)) = false by simp; omega, Bool.or_false]
theorem gone_set {cl m : List Int} {L : List (List Int)} {k k' : Nat} (h : nextI cl m L k = k') : ((List.range L.length).map (fun j => goneN cl m L k j)).set k' true = (List.range L.length).map (fun j => goneN cl m L (k + 1) j) := by
 apply List.ext_getElem
 ·simp
 ·intro j h1 h2
  rw [List.getElem_set]
  simp only [List.getElem_map, List.getElem_range]
  rw [goneN_succ, h]
  by_cases hj : k' = j
  ·subst hj; simp
  ·rw [if_neg hj, show ((k' : Int) == (j : Int)) = false by simp; omega, Bool.or_false]
theorem Nest.rowAt {w w1 : World} {B : Nat} {eo ei : TypeId} {A : Option Addr} {n c : Nat} {es : List Value} {L : List (List Int)} (h : Nest w B eo ei (.slice A n c) es (L.map (ints .i64))) (hb : Below w.heap.size w w1) {k : Nat} (hk : k < L.length) :
 ∃ p Ai ci, A = some p ∧ p.block < w.heap.size ∧ w1.cell? (p.add k) = some (.slice Ai L[k].length ci) ∧ Lies w1 w.heap.size Ai (ints .i64 L[k]) := by
 obtain ⟨A1, c1, hv, hl, _, _⟩ := h.outer.form
 injection hv with hA _ _
 subst hA
 have hlen := h.len
 rw [List.length_map] at hlen
 obtain ⟨p, rfl, hpb, hcell⟩ := (hl.below hb).cellAt (i := k) (by omega)
 have hin := h.inner k (by omega) (by rw [List.length_map]; exact hk)
 rw [List.getElem_map] at hin
 obtain ⟨Ai, ci, hev, hli, _, _⟩ := hin.form
 rw [hev, List.length_map] at hcell
 exact ⟨p, Ai, ci, rfl, hpb, hcell, hli.below hb⟩
theorem chainI_ne {cl m : List Int} {L : List (List Int)} (h : Onward cl m L) {n : Nat} (hW : Within L n) {k : Nat} (hk : k < L.length) : chainI cl m L k ≠ [] ∧ headI (chainI cl m L k) = headI L[k] := by
 have hne := (hW _ (List.getElem_mem hk)).1
 have hg : L.getD k [] = L[k] := by simp [hk]
 have hp := List.length_pos_iff.2 hne
 rcases chainI_step h hk with ⟨_, e⟩ | ⟨k', _, _, _, e⟩
 ·rw [e, hg]; exact ⟨hne, rfl⟩
 ·rw [e, hg]
  refine ⟨by simp [hne], ?_⟩
  unfold headI
  rw [List.getD_eq_getElem?_getD, List.getElem?_append_left hp, ← List.getD_eq_getElem?_getD]
theorem chainI_in {cl m : List Int} {L : List (List Int)} (h : Onward cl m L) {n : Nat} (hW : Within L n) : ∀ d k, k < L.length → L.length - k ≤ d → ∀ x ∈ chainI cl m L k, ∃ q : Nat, x = (q : Int) ∧ q < n := by
 intro d
 induction d with
 | zero => intro k hk hd; omega
 | succ d ih =>
  intro k hk hd x hx
  have hg : L.getD k [] = L[k] := by simp [hk]
  have h0 : ∀ y ∈ L.getD k [], ∃ q : Nat, y = (q : Int) ∧ q < n := by rw [hg]; exact (hW _ (List.getElem_mem hk)).2.2
  rcases chainI_step h hk with ⟨_, e⟩ | ⟨k', _, hlt, hkl, e⟩
  ·rw [e] at hx; exact h0 x hx
  ·rw [e] at hx
   rcases List.mem_append.1 hx with h1 | h1
   ·exact h0 x h1
   ·exact ih k' hkl (by omega) x h1
set_option maxRecDepth 20000 in
set_option maxHeartbeats 1000000 in
theorem rsof_any (A : Option Addr) (cl : List Int) (c : Nat) (A' : Option Addr) (lv : List Int) (c' : Nat) (base : Int) (w : World) (h : Lies w w.heap.size A (ints .i64 cl)) (h' : Lies w w.heap.size A' (ints .i64 lv)) (hl : cl.length ≤ 1000000) :
 Calls Tryz.prog 36 #[.slice A cl.length c, .slice A' lv.length c', .int .i64 base] w
  fun ed w' => ∃ v vs, ed = .returned v ∧ Seqs w' w.heap.size v vs (seqsI cl lv base) ∧ Below w.heap.size w w' := by
 have H := Lib.hid h
 have H' := Lib.hid h'
 obtain ⟨L, hL⟩ : ∃ L, listsI cl lv = L := ⟨_, rfl⟩
 obtain ⟨m, hm⟩ : ∃ m, mt cl = m := ⟨_, rfl⟩
 have HL := Lib.hid hL
 have HM := Lib.hid hm
 have WW : Hid (Within L cl.length) := Lib.hid (hL ▸ within_I cl lv)
 have ON : Hid (Onward cl m L) := Lib.hid (hm ▸ hL ▸ onward_I cl lv)
 have hml : m.length = cl.length := by rw [← hm, mt_length]
 have HML := Lib.hid hml
 have HEQ : Hid (0 < L.length → cl.length = lv.length) := Lib.hid (fun hp => Classical.byContradiction fun hne => by rw [← hL, lists_none hne] at hp; simp at hp)
 have HSQ : Hid (seqsI cl lv base = seqsN cl lv m base L L.length) := Lib.hid (by rw [seqsI, hL, hm])
 have hL6 : L.length ≤ 1000000 := by have := (listsI_le cl lv).1; rw [hL] at this; omega
 rw [HSQ.out]
 clear h h' hL hm hml
 go_enter Tryz.func36, Tryz.ntmps36
 go_wp2_with fail
 refine (rlists_all A cl c A' lv c' w H.out H'.out hl).mono ?_
 rintro e w1 ⟨v1, es, rfl, n1, b1⟩
 rw [HL.out] at n1
 have hlen := n1.len
 rw [List.length_map] at hlen
 obtain ⟨A1, c1, rfl, _, _, _⟩ := n1.outer.form
 rw [hlen] at n1 ⊢
 have N1 := Lib.hid n1
 have B1 := Lib.hid b1
 clear n1 b1 hlen
 go_wp2_with fail
 refine (rmatch_any A cl c w1 (H.out.up B1.out) hl).mono ?_
 rintro e w2 ⟨v2, rfl, o2, b2⟩
 rw [HM.out] at o2
 obtain ⟨A2, c2, rfl, l2, _, _⟩ := o2.form
 have B2 := Lib.hid (below_then B1.out b2)
 have N2 := Lib.hid (N1.out.below b2 (Nat.le_refl _))
 have L2 := Lib.hid l2
 have HC := Lib.hid (H.out.up B2.out)
 have HV := Lib.hid (H'.out.up B2.out)
 simp only [ints, List.length_map]
 clear o2 b2 l2
 go_wp2_with (first
  | (refine make_row boolsT w2 w2 w2.heap.size _ _ .i64 .i64 L.length rfl rfl rfl rfl rfl (Below.refl _ _) (Nat.le_refl _) (by omega) (by unfold maxLen; omega) ?_; intro w3 r3 b3 g3; have R3 := Lib.hid r3; have B3 := Lib.hid b3; clear r3 b3 g3)
  | fail)
 go_loopw [10] (fun iv wr => ∃ k : Nat, k ≤ L.length ∧ iv = .int .i64 k ∧ Row wr w2.heap.size 4 w2.heap.size L.length (((List.range L.length).map (fun j => goneN cl m L k j)).map Value.bool) ∧ Below w2.heap.size w2 wr) (fun iv _ => L.length - (intOf iv).toNat)
 case atStart => exact ⟨0, by omega, rfl, by rw [gone_start, List.map_replicate]; exact R3.out, B3.out⟩
 case round =>
  obtain ⟨k, hk, rfl, hr, hb⟩ := hrel
  have HR := Lib.hid hr
  have HB := Lib.hid hb
  clear hr hb
  by_cases hlt : k < L.length
  ·have hlt' : (k : Int) < (L.length : Int) := by omega
   go_wp2_with fail
   refine (rnext_any A cl c A1 c1 es L A2 m c2 k _ wr ((HC.out.below HB.out).wider HB.out.size) (N2.out.below HB.out (Nat.le_refl _)) ((L2.out.below HB.out).wider HB.out.size) hl HML.out WW.out hL6 hlt).mono ?_
   rintro e w4 ⟨rfl, b4⟩
   have R4 := Lib.hid (HR.out.below b4 (Nat.le_refl _))
   have B4 := Lib.hid (HB.out.trans (b4.mono HB.out.size))
   clear b4
   rcases ON.out k hlt with h1 | ⟨k', h1, h2, h3⟩
   ·have H1 := Lib.hid h1
    rw [h1]
    clear h1
    go_wp2_with fail
    go_roundw
    case rel => exact ⟨k + 1, by omega, by go_num, by rw [gone_keep (by rw [H1.out]; decide)]; exact R4.out, B4.out⟩
    case measure => simp [intOf]; omega
   ·have H1 := Lib.hid h1
    rw [h1]
    have c0 : (0 : Int) ≤ (k' : Int) := by omega
    have c3 : (k' : Int) < (L.length : Int) := by omega
    clear h1
    go_wp2_with (first
     | (refine store_cell (e := 4) w4 w2.heap.size _ _ w2.heap.size k' L.length (.bool true) (((List.range L.length).map (fun j => goneN cl m L k j)).map Value.bool) w2 rfl rfl rfl (by kernel_rfl) rfl rfl rfl (Own.asN R4.out) (by simpa using h3) B4.out ?_; intro w5 r5 b5 _; have R5 := Lib.hid r5; have B5 := Lib.hid b5; clear r5 b5)
     | fail)
    go_roundw
    case rel => exact ⟨k + 1, by omega, by go_num, by have := R5.out; rw [bools_set, gone_set H1.out] at this; exact Row.ofN this (by simp), B5.out⟩
    case measure => simp [intOf]; omega
  ·obtain rfl : k = L.length := by omega
   rename World => wo
   obtain ⟨gl, hgl⟩ : ∃ gl, (List.range L.length).map (fun j => goneN cl m L L.length j) = gl := ⟨_, rfl⟩
   rw [hgl] at HR
   have GL : Hid (gl.length = L.length ∧ ∀ j (hj : j < gl.length), gl[j] = goneN cl m L L.length j) := Lib.hid ⟨by rw [← hgl]; simp, fun j hj => by simp [← hgl]⟩
   have RG := Lib.hid HR.out
   rw [← GL.out.1] at RG
   have HCr := Lib.hid ((HC.out.below HB.out).wider HB.out.size)
   have HVr := Lib.hid ((HV.out.below HB.out).wider HB.out.size)
   have L2r := Lib.hid ((L2.out.below HB.out).wider HB.out.size)
   have N2r := Lib.hid (N2.out.below HB.out (Nat.le_refl _))
   have BR : Hid (Below w.heap.size w wo) := Lib.hid (B2.out.trans (HB.out.mono B2.out.size))
   clear hgl HR R3
   go_wp2_with fail
   go_loopw [13, 12] (fun iv ov wr => ∃ (k : Nat) (vs : List Value), k ≤ L.length ∧ iv = .int .i64 k ∧ Seqs wr wo.heap.size ov vs (seqsN cl lv m base L k) ∧ Below wo.heap.size wo wr) (fun iv _ _ => L.length - (intOf iv).toNat)
   case atStart => exact ⟨0, [], by omega, rfl, ⟨OwnN.empty _ _ _ _, rfl, fun j h1 => by simp at h1⟩, Below.refl _ _⟩
   case round =>
    obtain ⟨k, vs, hk, rfl, hsq, hb⟩ := hrel
    have HS := Lib.hid hsq
    have HBx := Lib.hid hb
    clear hsq hb
    by_cases hlt : k < L.length
    ·have hgk : wr.cell? ⟨w2.heap.size, k, none⟩ = some (.bool (goneN cl m L L.length k)) := by
      have h1 := RG.out.cell (j := k) (by rw [List.length_map, GL.out.1]; exact hlt)
      rw [HBx.out.cell (show w2.heap.size < wo.heap.size from RG.out.inside.2), h1, List.getElem_map, GL.out.2]
     have d0 : (0 : Int) ≤ (k : Int) := by omega
     have d1 : (k : Int) < (L.length : Int) := by omega
     obtain ⟨gk, hgg⟩ : ∃ b, goneN cl m L L.length k = b := ⟨_, rfl⟩
     rw [hgg] at hgk
     have HG := Lib.hid hgg
     clear hgg
     rcases gk with _ | _
     ·obtain ⟨C, hC⟩ : ∃ C, chainI cl m L k = C := ⟨_, rfl⟩
      have HC0 := Lib.hid hC
      have HCN : Hid (C ≠ [] ∧ headI C = headI (L[k]'hlt)) := Lib.hid (hC ▸ chainI_ne ON.out WW.out hlt)
      have HCI : Hid (∀ x ∈ C, ∃ q : Nat, x = (q : Int) ∧ q < cl.length) := Lib.hid (hC ▸ chainI_in ON.out WW.out (L.length - k) k hlt (Nat.le_refl _))
      have HCL : Hid (C.length ≤ 1000000000000) := Lib.hid (by
       have h1 := chainI_len ON.out (B := 1000000) (fun r hr => Nat.le_trans (WW.out r hr).2.1 hl) (L.length - k) k hlt (Nat.le_refl _)
       rw [hC] at h1
       have h2 : (L.length - k) * 1000000 ≤ 1000000 * 1000000 := Nat.mul_le_mul_right _ (by omega)
       omega)
      clear hC
      go_wp2_with fail
      rename World => wx
      go_loopg [15, 14] (L.length + 1) (fun g jv av wr => ∃ done : List Int, Own wr wx.heap.size 3 av (ints .i64 done) ∧ Below wx.heap.size wx wr ∧ ((jv = .int .i64 (-1) ∧ done = C) ∨ ∃ j : Nat, jv = .int .i64 j ∧ j < L.length ∧ L.length - j ≤ g ∧ Hid (done ++ chainI cl m L j = C)))
      case atStart => exact ⟨[], Own.empty _ _ _, Below.refl _ _, .inr ⟨k, rfl, hlt, by omega, Lib.hid (by rw [List.nil_append]; exact HC0.out)⟩⟩
      case round =>
       obtain ⟨done, ho, hb, hcase⟩ := hrel
       have HO := Lib.hid ho
       have HBy := Lib.hid hb
       clear ho hb
       rcases hcase with ⟨rfl, hdone⟩ | ⟨j, rfl, hjl, hjg, HD⟩
       ·rw [hdone] at HO
        have CP : Hid (0 < C.length) := Lib.hid (List.length_pos_iff.2 HCN.out.1)
        obtain ⟨A3, c3, rfl, l3, _, _⟩ := HO.out.form
        have L3 := Lib.hid l3
        obtain ⟨b, off, hA3, _, hcs⟩ := l3.plainInts CP.out
        subst hA3
        obtain ⟨q, hq1, hq2⟩ := HCI.out _ (List.getElem_mem CP.out)
        have hc0 := hcs 0 CP.out
        rw [hq1] at hc0
        simp only [Nat.add_zero] at hc0
        have hqv : q < lv.length := by have := HEQ.out (by omega); omega
        have BX4 := Lib.hid (HBx.out.trans (HBy.out.mono HBx.out.size))
        obtain ⟨pv, hpv, _, hcv⟩ := (HVr.out.below BX4.out).int hqv
        subst hpv
        obtain ⟨le, hle⟩ : ∃ z, lv[q] = z := ⟨_, rfl⟩
        rw [hle] at hcv
        have HHD : Hid (headI C = (q : Int)) := Lib.hid (by rw [headI, show C.getD 0 0 = C[0]'CP.out by simp [CP.out], hq1])
        have HLE : Hid (lv.getD (headI C).toNat 0 = le) := Lib.hid (by rw [HHD.out, Int.toNat_natCast]; simp [hqv, hle])
        obtain ⟨nC, hnC⟩ : ∃ n, C.length = n := ⟨_, rfl⟩
        have HNC := Lib.hid hnC
        simp only [ints, List.length_map, hnC]
        have x0 : (0 : Int) ≤ (q : Int) := by omega
        have x1 : (q : Int) < (lv.length : Int) := by omega
        have x2 : (0 : Int) < (nC : Int) := by have := CP.out; omega
        obtain ⟨so, hso⟩ : ∃ z, sosI cl lv C le base = z := ⟨_, rfl⟩
        obtain ⟨eo, heo⟩ : ∃ z, eosI cl lv C base = z := ⟨_, rfl⟩
        have hcal := rbounded_any A cl c (some pv) lv c' (some ⟨b, off, none⟩) C c3 le 0 0 base wr ((HCr.out.below BX4.out).wider BX4.out.size) ((HVr.out.below BX4.out).wider BX4.out.size) L3.out hl (HEQ.out (by omega)) HCN.out.1 HCL.out HCI.out
        rw [hnC, hso, heo] at hcal
        have CAL := Lib.hid hcal
        have HSN : Hid (seqsN cl lv m base L (k + 1) = seqsN cl lv m base L k ++ [⟨C, le, so, eo⟩]) := Lib.hid (by rw [seqsN, HG.out, HC0.out, sqOf, HLE.out, hso, heo]; rfl)
        clear l3 hcs hq1 hle hnC hdone hcal hso heo
        go_wp2_with fail
        refine CAL.out.mono ?_
        rintro e w6 ⟨rfl, b6⟩
        have B6 := Lib.hid (HBy.out.trans (b6.mono HBy.out.size))
        have S6 := Lib.hid ((HS.out.below B6.out (Nat.le_refl _)).below (below_alloc w6 (.cells #[.slice (some ⟨b, off, none⟩) nC c3, .int .i64 le, .int .i64 so, .int .i64 eo] 49)) (Nat.le_refl _))
        have OC := Lib.hid (show Own wr wx.heap.size 3 (.slice (some ⟨b, off, none⟩) nC c3) (ints .i64 C) by have := HO.out; simp only [ints, List.length_map, HNC.out] at this; exact this)
        have O6 := Lib.hid ((OC.out.below b6 (Nat.le_refl _)).alloc (.cells #[.slice (some ⟨b, off, none⟩) nC c3, .int .i64 le, .int .i64 so, .int .i64 eo] 49))
        have hk6 := seqsN_le cl lv m base L k
        clear b6
        go_wp2_with (first
         | (at_builtin; refine appN_at seqsT wo _ wo.heap.size _ _ _ _ (seqsN cl lv m base L k).length 1 _ [.slice (some ⟨b, off, none⟩) nC c3, .int .i64 le, .int .i64 so, .int .i64 eo] _ _ rfl rfl rfl rfl S6.out.outer (Lies.lit (w := w6) (e := 49) #[.slice (some ⟨b, off, none⟩) nC c3, .int .i64 le, .int .i64 so, .int .i64 eo]) rfl (by simp [Value.oneCell']) ((HBx.out.trans (B6.out.mono HBx.out.size)).trans ((below_alloc w6 _).mono (by have := HBx.out.size; have := B6.out.size; omega))) (by have := HBx.out.size; have := B6.out.size; simp; omega) (by unfold maxLen; omega) (by omega) ?_; intro v7 w7 o7 b7 g7 _; have S7 := Lib.hid (S6.out.push (s := ⟨C, le, so, eo⟩) O6.out HBx.out.size g7 o7); have B7 := Lib.hid b7; clear o7 b7 g7)
         | fail)
        go_roundw
        case rel => exact ⟨k + 1, _, by omega, by go_num, by rw [HSN.out]; exact S7.out, B7.out⟩
        case measure => simp [intOf]; omega
       ·have HLN : Hid (done.length ≤ 1000000000000 ∧ done.length + (L[j]'hjl).length ≤ 1000000000000) := Lib.hid (by
         have h1 := HD.out
         have h2 := HCL.out
         have h3 : C.length = done.length + (chainI cl m L j).length := by rw [← h1, List.length_append]
         have h4 : (L[j]'hjl).length ≤ (chainI cl m L j).length := by
          rcases chainI_step ON.out hjl with ⟨_, e⟩ | ⟨_, _, _, _, e⟩
          ·rw [e]; simp [hjl]
          ·rw [e, List.length_append]; simp [hjl]
         omega)
        obtain ⟨p, Ai, ci, hpA, hpb, hcell, hrow⟩ := N2r.out.rowAt (HBx.out.trans (HBy.out.mono HBx.out.size)) hjl
        subst hpA
        obtain ⟨rj, hrj⟩ : ∃ r, L[j]'hjl = r := ⟨_, rfl⟩
        rw [hrj] at hcell hrow HLN
        have LR := Lib.hid hrow
        have HRJ := Lib.hid hrj
        have e0 : (0 : Int) ≤ (j : Int) := by omega
        have e1 : (j : Int) < (L.length : Int) := by omega
        clear hrow hrj
        go_wp2_with (first
         | (at_builtin; refine app_src intsT wx _ wx.heap.size wo.heap.size _ _ _ (ints .i64 done) (ints .i64 rj) Ai _ ci rfl rfl rfl rfl (by simp) HO.out LR.out (ints_one _ _) HBy.out HBy.out.size (by have := HLN.out; unfold maxLen; simp; omega) (by have := HLN.out; simp; omega) ?_; intro v4 w4 o4 b4 _ _; have O4 := Lib.hid o4; have B4 := Lib.hid b4; clear o4 b4)
         | fail)
        have BX4 := Lib.hid (HBx.out.trans (B4.out.mono HBx.out.size))
        refine (rnext_any A cl c (some p) c1 es L A2 m c2 j _ w4 ((HCr.out.below BX4.out).wider BX4.out.size) (N2r.out.below BX4.out (Nat.le_refl _)) ((L2r.out.below BX4.out).wider BX4.out.size) hl HML.out WW.out hL6 hjl).mono ?_
        rintro e w5 ⟨rfl, b5⟩
        have O5 := Lib.hid (O4.out.below b5 (Nat.le_refl _))
        have B5 := Lib.hid (B4.out.trans (b5.mono B4.out.size))
        have HGJ : Hid (L.getD j [] = rj) := Lib.hid (by rw [← HRJ.out]; simp [hjl])
        clear b5
        rcases chainI_step ON.out hjl with ⟨h1, e2⟩ | ⟨k', h1, hlk, hkl, e2⟩
        ·have E2 := Lib.hid e2
         rw [h1]
         clear h1 e2
         go_wp2_with fail
         go_roundg 0
         case measure => omega
         case rel => exact ⟨done ++ rj, by simpa [ints] using O5.out, B5.out, .inl ⟨rfl, by rw [← HD.out, E2.out, HGJ.out]⟩⟩
        ·have E2 := Lib.hid e2
         rw [h1]
         clear h1 e2
         go_wp2_with fail
         go_roundg (L.length - k')
         case measure => omega
         case rel => exact ⟨done ++ rj, by simpa [ints] using O5.out, B5.out, .inr ⟨k', rfl, hkl, Nat.le_refl _, Lib.hid (by rw [← HD.out, E2.out, HGJ.out, List.append_assoc])⟩⟩
     ·have HN : Hid (seqsN cl lv m base L (k + 1) = seqsN cl lv m base L k) := Lib.hid (by rw [seqsN, HG.out]; rfl)
      go_wp2_with fail
      go_roundw
      case rel => exact ⟨k + 1, vs, by omega, by go_num, by rw [HN.out]; exact HS.out, HBx.out⟩
      case measure => simp [intOf]; omega
    ·obtain rfl : k = L.length := by omega
     go_wp2_with fail
     go_ret
     exact ⟨_, vs, rfl, HS.out.weaken BR.out.size, BR.out.trans (HBx.out.mono BR.out.size)⟩
end Go.Proofs.YtcbaahlahohfmaaGreatDoor
namespace Go.Proofs.YtcbaahlahohfmaaGreatDoor
open Go.RowKit
structure SeqsR (w : World) (A : Option Addr) (L : List Sq) (vs : List Value) : Prop where
 len : vs.length = L.length
 outer : Lies w w.heap.size A (sqCells vs L)
 inner : ∀ (j : Nat) (h1 : j < vs.length) (h2 : j < L.length), ∃ Aj cj, vs[j] = .slice Aj L[j].pl.length cj ∧ Lies w w.heap.size Aj (ints .i64 L[j].pl)
theorem SeqsR.up {w w' : World} {A : Option Addr} {L : List Sq} {vs : List Value} (h : SeqsR w A L vs) (hb : Below w.heap.size w w') : SeqsR w' A L vs :=
 ⟨h.len, h.outer.up hb, fun j h1 h2 => by
  obtain ⟨Aj, cj, e, hl⟩ := h.inner j h1 h2
  exact ⟨Aj, cj, e, hl.up hb⟩⟩
theorem Seqs.read {w : World} {B : Nat} {v : Value} {vs : List Value} {L : List Sq} (h : Seqs w B v vs L) : ∃ A c, v = .slice A L.length c ∧ SeqsR w A L vs := by
 obtain ⟨A, c, hv, hl, _, _⟩ := h.outer.form
 refine ⟨A, c, hv, h.len, hl, fun j h1 h2 => ?_⟩
 obtain ⟨Aj, cj, e, hj, _, _⟩ := (h.inner j h1 h2).form
 rw [List.length_map] at e
 exact ⟨Aj, cj, e, hj⟩
abbrev SqCell (w : World) (g o : Nat) (v : Value) (s : Sq) : Prop := w.cell? ⟨g, o, none⟩ = some v ∧ w.cell? ⟨g, o + 1, none⟩ = some (.int .i64 s.lev) ∧ w.cell? ⟨g, o + 2, none⟩ = some (.int .i64 s.sos) ∧ w.cell? ⟨g, o + 3, none⟩ = some (.int .i64 s.eos)
theorem SeqsR.at' {w : World} {A : Option Addr} {L : List Sq} {vs : List Value} (h : SeqsR w A L vs) {j : Nat} (hj : j < L.length) :
 ∃ g off Aj cj, A = some ⟨g, off, none⟩ ∧ g < w.heap.size ∧ SqCell w g (off + j * 4) (.slice Aj L[j].pl.length cj) L[j] ∧ Lies w w.heap.size Aj (ints .i64 L[j].pl) := by
 have hl := h.len
 obtain ⟨Aj, cj, e, hi⟩ := h.inner j (by omega) hj
 obtain ⟨g, off, hA, hg, hc⟩ := h.outer.plain (by rw [sqCells_length _ _ hl]; omega)
 have key : ∀ t, t < 4 → w.cell? ⟨g, off + j * 4 + t, none⟩ = (L[j].cells (vs[j]'(by omega)))[t]? := fun t ht => by
  have h1 := hc (j * 4 + t) (by rw [sqCells_length _ _ hl]; omega)
  rw [show off + j * 4 + t = off + (j * 4 + t) by omega, h1, ← List.getElem?_eq_getElem, sqCells_get vs L hl j hj t ht]
 refine ⟨g, off, Aj, cj, hA, hg, ⟨?_, ?_, ?_, ?_⟩, hi⟩
 ·have := key 0 (by omega); rw [e] at this; exact this
 ·exact key 1 (by omega)
 ·exact key 2 (by omega)
 ·exact key 3 (by omega)
theorem SqCell.up {w w' : World} {g o : Nat} {v : Value} {s : Sq} {B : Nat} (h : SqCell w g o v s) (hb : Below B w w') (hg : g < B) : SqCell w' g o v s :=
 ⟨by rw [hb.cell hg]; exact h.1, by rw [hb.cell hg]; exact h.2.1, by rw [hb.cell hg]; exact h.2.2.1, by rw [hb.cell hg]; exact h.2.2.2⟩
end Go.Proofs.YtcbaahlahohfmaaGreatDoor
namespace Go.Proofs.YtcbaahlahohfmaaGreatDoor
open Go.RowKit
def PairsR (w : World) (A : Option Addr) (L : List (List Int)) : Prop := Lies w w.heap.size A (pairsOf L)
theorem pairsOf_length (L : List (List Int)) : (pairsOf L).length = L.length * 2 := by
 induction L with
 | nil => rfl
 | cons r L ih => rw [show pairsOf (r :: L) = [.int .i64 (headI r), .int .i64 (lastI r)] ++ pairsOf L from rfl, List.length_append, ih]; simp; omega
theorem pairsOf_get (L : List (List Int)) : ∀ j (hj : j < L.length), (pairsOf L)[j * 2]? = some (.int .i64 (headI L[j])) ∧ (pairsOf L)[j * 2 + 1]? = some (.int .i64 (lastI L[j])) := by
 induction L with
 | nil => intro j hj; simp at hj
 | cons r L ih =>
  intro j hj
  rw [show pairsOf (r :: L) = [.int .i64 (headI r), .int .i64 (lastI r)] ++ pairsOf L from rfl]
  cases j with
  | zero => exact ⟨rfl, rfl⟩
  | succ j =>
   obtain ⟨h1, h2⟩ := ih j (by simpa using hj)
   rw [List.getElem?_append_right (by simp; omega), List.getElem?_append_right (by simp; omega)]
   simp only [List.length_cons, List.length_nil, List.getElem_cons_succ]
   rw [show (j + 1) * 2 - (0 + 1 + 1) = j * 2 by omega, show (j + 1) * 2 + 1 - (0 + 1 + 1) = j * 2 + 1 by omega]
   exact ⟨h1, h2⟩
theorem PairsR.at' {w : World} {A : Option Addr} {L : List (List Int)} (h : PairsR w A L) {j : Nat} (hj : j < L.length) :
 ∃ g off, A = some ⟨g, off, none⟩ ∧ g < w.heap.size ∧ w.cell? ⟨g, off + j * 2, none⟩ = some (.int .i64 (headI L[j])) ∧ w.cell? ⟨g, off + j * 2 + 1, none⟩ = some (.int .i64 (lastI L[j])) := by
 have hl := pairsOf_length L
 obtain ⟨g, off, hA, hg, hc⟩ := Lies.plain h (by omega)
 obtain ⟨h1, h2⟩ := pairsOf_get L j hj
 have k1 := hc (j * 2) (by omega)
 have k2 := hc (j * 2 + 1) (by omega)
 rw [← Nat.add_assoc] at k2
 refine ⟨g, off, hA, hg, ?_, ?_⟩
 ·rw [k1, ← List.getElem?_eq_getElem, h1]
 ·rw [k2, ← List.getElem?_eq_getElem, h2]
end Go.Proofs.YtcbaahlahohfmaaGreatDoor
namespace Go.Proofs.YtcbaahlahohfmaaGreatDoor
open Go.RowKit
theorem slast_any (b off m : Nat) (t c : Nat) (y : Int) (w : World) (hm : m = t + 1) (hm6 : m ≤ 1000000) (hy : w.cell? ⟨b, off + t, none⟩ = some (.int .i64 y)) :
 Calls Tryz.prog 52 #[.slice (some ⟨b, off, none⟩) m c] w fun e w' => e = .returned (.int .i64 y) ∧ w = w' := by
 have b2 : (0 : Int) ≤ (t : Int) := by omega
 have b3 : (t : Int) < (m : Int) := by omega
 have hw1 : IntKind.i64.wrap ((m : Int) - 1) = (t : Int) := by rw [IntWalk.i64_in _ (by omega)]; omega
 clear hm hm6
 go_enter Tryz.func52, Tryz.ntmps52
 go_wp2
 go_ret
 exact ⟨rfl, rfl⟩
set_option maxRecDepth 20000 in
set_option maxHeartbeats 2000000 in
theorem skept_any (A : Option Addr) (l : List Int) (c : Nat) (w : World) (h : Lies w w.heap.size A (ints .i64 l)) (hl : l.length ≤ 1000000) :
 Calls Tryz.prog 87 #[.slice A l.length c] w fun ed w' => Rowed w w.heap.size 3 (ints .i64 (seenI l)) ed w' := by
 have H := Lib.hid h
 clear h
 go_enter Tryz.func87, Tryz.ntmps87
 go_wp2
 go_loopw [8, 3] (fun iv ov wr => ∃ k : Nat, k ≤ l.length ∧ iv = .int .i64 k ∧ Own wr w.heap.size 3 ov (ints .i64 (seenN l k)) ∧ Below w.heap.size w wr) (fun iv _ _ => l.length - (intOf iv).toNat)
 case atStart => exact ⟨0, by omega, rfl, Own.empty _ _ _, Below.refl _ _⟩
 case round =>
  obtain ⟨k, hk, rfl, ho, hb⟩ := hrel
  have HO := Lib.hid ho
  have HB := Lib.hid hb
  clear ho hb
  by_cases hlt : k < l.length
  ·obtain ⟨p, rfl, _, hcl⟩ := (H.out.below HB.out).int hlt
   obtain ⟨x, hx⟩ : ∃ x, l[k] = x := ⟨_, rfl⟩
   have HS := Lib.hid (seenN_succ l k hlt)
   rw [hx] at hcl HS
   have hle := seenN_le l k
   have b0 : (0 : Int) ≤ (k : Int) := by omega
   have b1 : (k : Int) < (l.length : Int) := by omega
   clear hx
   rcases hoc : isOut x with _ | _
   ·have HOC := Lib.hid hoc
    clear hoc
    go_wp2_with fail
    refine (out_any x _).mono ?_
    rintro e w1 ⟨rfl, b1⟩
    rw [HOC.out]
    have B1 := Lib.hid (HB.out.trans (b1.mono HB.out.size))
    have D1 := Lib.hid b1
    clear b1
    have HO1 := Lib.hid (HO.out.below D1.out (Nat.le_refl _))
    go_wp2_with (first
     | (at_builtin; refine app_lit intsT w w1 w.heap.size _ _ #[.int .i64 (k : Int)] 1 _ _ rfl rfl rfl rfl HO1.out (by simp [Value.oneCell']) B1.out B1.out.size (by unfold maxLen; simp; omega) (by simp; omega) ?_; intro v2 w2 o2 b2 _ _; have O2 := Lib.hid o2; have B2 := Lib.hid b2; clear o2 b2)
     | fail)
    go_roundw
    case rel => exact ⟨k + 1, by omega, by go_num, by rw [HS.out, HOC.out, if_neg (by simp)]; simpa [ints] using O2.out, B2.out⟩
    case measure => simp [intOf]; omega
   ·have HOC := Lib.hid hoc
    clear hoc
    go_wp2_with fail
    refine (out_any x _).mono ?_
    rintro e w1 ⟨rfl, b1⟩
    rw [HOC.out]
    have B1 := Lib.hid (HB.out.trans (b1.mono HB.out.size))
    have D1 := Lib.hid b1
    clear b1
    have HO1 := Lib.hid (HO.out.below D1.out (Nat.le_refl _))
    go_wp2_with fail
    go_roundw
    case rel => exact ⟨k + 1, by omega, by go_num, by rw [HS.out, HOC.out, if_pos rfl]; exact HO1.out, B1.out⟩
    case measure => simp [intOf]; omega
  ·obtain rfl : k = l.length := by omega
   go_wp2
   go_ret
   exact ⟨_, rfl, HO.out, HB.out⟩
set_option maxRecDepth 20000 in
set_option maxHeartbeats 2000000 in
theorem sends_any (A : Option Addr) (cl : List Int) (c : Nat) (A' : Option Addr) (lv : List Int) (c' : Nat) (q q' : Nat) (w : World) (h : Lies w w.heap.size A (ints .i64 cl)) (h' : Lies w w.heap.size A' (ints .i64 lv)) (hq : q < cl.length) (hqv : q < lv.length) (hqv' : q' < lv.length) :
 Calls Tryz.prog 88 #[.slice A cl.length c, .slice A' lv.length c', .int .i64 (q : Int), .int .i64 (q' : Int)] w fun ed w' => ed = .returned (.bool (cl.getD q 0 == 10 || lv.getD q 0 != lv.getD q' 0)) ∧ Below w.heap.size w w' := by
 obtain ⟨pc, rfl, _, hcc⟩ := h.int hq
 obtain ⟨pv, rfl, _, hcv⟩ := h'.int hqv
 obtain ⟨pv', hpv', _, hcv'⟩ := h'.int hqv'
 injection hpv' with hpv'
 subst hpv'
 obtain ⟨z, hz⟩ : ∃ z, cl[q] = z := ⟨_, rfl⟩
 obtain ⟨x, hx⟩ : ∃ z, lv[q] = z := ⟨_, rfl⟩
 obtain ⟨y, hy⟩ : ∃ z, lv[q'] = z := ⟨_, rfl⟩
 rw [show cl.getD q 0 = z by simp [hq, hz], show lv.getD q 0 = x by simp [hqv, hx], show lv.getD q' 0 = y by simp [hqv', hy]]
 rw [hz] at hcc
 rw [hx] at hcv
 rw [hy] at hcv'
 have c0 : (0 : Int) ≤ (q : Int) := by omega
 have c1 : (0 : Int) ≤ (q' : Int) := by omega
 have c2 : (q : Int) < (cl.length : Int) := by omega
 have c3 : (q : Int) < (lv.length : Int) := by omega
 have c4 : (q' : Int) < (lv.length : Int) := by omega
 have hcr : w.drew.cell? (pc.add q) = some (.int .i64 z) ∧ w.drew.cell? (pv.add q) = some (.int .i64 x) ∧ w.drew.cell? (pv.add q') = some (.int .i64 y) := ⟨hcc, hcv, hcv'⟩
 clear h h' hz hx hy hq hqv hqv' hcc hcv hcv'
 rcases hz10 : (z == 10) with _ | _
 ·go_enter Tryz.func88, Tryz.ntmps88
  go_wp2_with fail
  refine wp_region_held_drew (S := fun w' => w'.cell? (pc.add q) = some (.int .i64 z) ∧ w'.cell? (pv.add q) = some (.int .i64 x) ∧ w'.cell? (pv.add q') = some (.int .i64 y)) (by kernel_rfl) (hcr) (fun hHeld => ?_)
  refine' hY 0 ?_
  try simp only [Act.put,ZA,ZB,ZD,ZE,ZF]
  refine' hY 1 ?_
  try simp only [Act.put,ZA,ZB,ZC,ZD,ZE,ZF]
  refine' hY 2 ?_
  try simp only [Act.put,ZA,ZB,ZC,ZD,ZE,ZF]
  refine' hY 3 ?_
  try simp only [Act.put,ZA,ZB,ZC,ZD,ZE,ZF]
  refine' hY 4 ?_
  try simp only [Act.put,ZA,ZB,ZC,ZD,ZE,ZF]
  refine' hY 5 ?_
  try simp only [Act.put,ZA,ZB,ZC,ZD,ZE,ZF]
  refine' hY 6 ?_
  try simp only [Act.put,ZA,ZB,ZC,ZD,ZE,ZF]
  refine' hY 7 ?_
  try simp only [Act.put,ZA,ZB,ZC,ZD,ZE,ZF]
  refine' hY 8 ?_
  try simp only [Act.put,ZA,ZB,ZC,ZD,ZE,ZF]
  refine' hY 9 ?_
  try simp only [Act.put,ZA,ZB,ZC,ZD,ZE,ZF]
  refine' hY 10 ?_
  try simp only [Act.put,ZA,ZB,ZC,ZD,ZE,ZF]
  refine' hY 11 ?_
  try simp only [Act.put,ZA,ZB,ZC,ZD,ZE,ZF]
  refine' hY 12 ?_
  try simp only [Act.put,ZA,ZB,ZC,ZD,ZE,ZF]
  refine' hY 13 ?_
  try simp only [Act.put,ZA,ZB,ZC,ZD,ZE,ZF]
  refine' hY 14 ?_
  try simp only [Act.put,ZA,ZB,ZC,ZD,ZE,ZF]
  refine' hY 15 ?_
  try simp only [Act.put,ZA,ZB,ZC,ZD,ZE,ZF]
  refine' hY 16 ?_
  try simp only [Act.put,ZA,ZB,ZC,ZD,ZE,ZF]
  refine wpAnyH_done (by kernel_rfl) ?_ _
  go_wp2_with fail
  go_ret
  exact ⟨rfl, by exact below_same (Below.refl _ _) rfl rfl rfl rfl⟩
 ·go_enter Tryz.func88, Tryz.ntmps88
  go_wp2_with fail
  refine wp_region_held_drew (S := fun w' => w'.cell? (pc.add q) = some (.int .i64 z) ∧ w'.cell? (pv.add q) = some (.int .i64 x) ∧ w'.cell? (pv.add q') = some (.int .i64 y)) (by kernel_rfl) (hcr) (fun hHeld => ?_)
  refine' hY 0 ?_
  try simp only [Act.put,ZA,ZB,ZD,ZE,ZF]
  refine' hY 1 ?_
  try simp only [Act.put,ZA,ZB,ZC,ZD,ZE,ZF]
  refine' hY 2 ?_
  try simp only [Act.put,ZA,ZB,ZC,ZD,ZE,ZF]
  refine' hY 3 ?_
  try simp only [Act.put,ZA,ZB,ZC,ZD,ZE,ZF]
  refine' hY 4 ?_
  try simp only [Act.put,ZA,ZB,ZC,ZD,ZE,ZF]
  refine' hY 5 ?_
  try simp only [Act.put,ZA,ZB,ZC,ZD,ZE,ZF]
  refine' hN 6 ?_
  try simp only [Act.put,ZA,ZB,ZC,ZD,ZE,ZF]
  refine' hN 7 ?_
  try simp only [Act.put,ZA,ZB,ZC,ZD,ZE,ZF]
  refine' hN 8 ?_
  try simp only [Act.put,ZA,ZB,ZC,ZD,ZE,ZF]
  refine' hN 9 ?_
  try simp only [Act.put,ZA,ZB,ZC,ZD,ZE,ZF]
  refine' hN 10 ?_
  try simp only [Act.put,ZA,ZB,ZC,ZD,ZE,ZF]
  refine' hN 11 ?_
  try simp only [Act.put,ZA,ZB,ZC,ZD,ZE,ZF]
  refine' hN 12 ?_
  try simp only [Act.put,ZA,ZB,ZC,ZD,ZE,ZF]
  refine' hN 13 ?_
  try simp only [Act.put,ZA,ZB,ZC,ZD,ZE,ZF]
  refine' hN 14 ?_
  try simp only [Act.put,ZA,ZB,ZC,ZD,ZE,ZF]
  refine' hY 15 ?_
  try simp only [Act.put,ZA,ZB,ZC,ZD,ZE,ZF]
  refine' hY 16 ?_
  try simp only [Act.put,ZA,ZB,ZC,ZD,ZE,ZF]
  refine wpAnyH_done (by kernel_rfl) ?_ _
  go_wp2_with fail
  go_ret
  exact ⟨rfl, by exact below_same (Below.refl _ _) rfl rfl rfl rfl⟩
section
variable {P : Program} {ops : Array Oper} {rest : List Oper} {o : Oper} {a : Act} {Q : Exit → Act → World → Prop}
theorem cut_plain {t e : TypeId} {z : Value} {bytes : Nat} (T : SliceOf P t e z bytes) (W : World) (x y1 y2 y3 : Operand) (i j g n c : Nat)
 (hgd : Region.wanted o (yielded ops a.tmps) = true) (ho : o.op = .slice t x (some y1) (some y2) (some y3)) (hx : a.eval x = .slice (some ⟨g, 0, none⟩) n c) (h1 : a.eval y1 = .int .i64 (i : Int)) (h2 : a.eval y2 = .int .i64 (j : Int)) (h3 : a.eval y3 = .int .i64 (j : Int)) (hij : i < j) (hj : j ≤ c)
 (h : wpList P ops Q rest (a.put o.dst (.slice (some ⟨g, i, none⟩) (j - i) (j - i))) W) :
 wpList P ops Q (o :: rest) a W := by
 obtain ⟨f, hi, hz0, hz1, hz2⟩ := info_parts T.elem
 have he : P.elem t = e := by simp [Program.elem, T.slice]
 have hrun := run_slice_lhm (P := P) (w := W) t (some ⟨g, 0, none⟩) n c (by rw [T.slice, he]) .i64 .i64 .i64 (i : Int) (j : Int) (j : Int) (by omega) (by omega) (by omega) (by omega)
 refine wpList_step fun K' hK' => ?_
 rw [if_pos hgd]
 unfold Oper.wp
 simp [execOp, ho, hx, h1, h2, h3, run_sliceAt_slice, T.slice, he, hrun, Result.andThen, sizeOf, typeInfo, hi, hz1, sliced]
 refine hK' _ _ ?_
 rw [if_neg (by omega), show ((⟨g, 0, none⟩ : Addr).add i) = ⟨g, i, none⟩ by rw [add_plain]; simp]
 exact h
end
structure Cuts (g : Nat) (s : List Int) (es : List Value) (L : List (List Int)) : Prop where
 len : es.length = L.length
 cut : ∀ (j : Nat) (h1 : j < es.length) (h2 : j < L.length), ∃ o, es[j] = .slice (some ⟨g, o, none⟩) L[j].length L[j].length ∧ o + L[j].length ≤ s.length ∧ ∀ t (ht : t < L[j].length), s[o + t]? = some L[j][t]
theorem Cuts.nil (g : Nat) (s : List Int) : Cuts g s [] [] := ⟨rfl, fun j h1 => by simp at h1⟩
theorem Cuts.push {g : Nat} {s : List Int} {es : List Value} {L : List (List Int)} (h : Cuts g s es L) {i j : Nat} (hij : i < j) (hj : j ≤ s.length) :
 Cuts g s (es ++ [.slice (some ⟨g, i, none⟩) (j - i) (j - i)]) (L ++ [(s.take j).drop i]) := by
 have hl := h.len
 refine ⟨by simp [hl], fun k h1 h2 => ?_⟩
 by_cases hk : k < es.length
 ·simp only [List.getElem_append_left hk, List.getElem_append_left (show k < L.length by omega)]
  exact h.cut k hk (by omega)
 ·have he : k = L.length := by rw [List.length_append, List.length_singleton] at h2; omega
  subst he
  simp only [List.getElem_append_right (show es.length ≤ L.length by omega), List.getElem_append_right (Nat.le_refl L.length), Nat.sub_self, show L.length - es.length = 0 by omega, List.getElem_cons_zero]
  have e : ((s.take j).drop i).length = j - i := by rw [List.length_drop, List.length_take]; omega
  refine ⟨i, by rw [e], by omega, fun t ht => ?_⟩
  rw [List.getElem_drop, List.getElem_take, List.getElem?_eq_getElem]
structure RunsE (w : World) (A : Option Addr) (L : List (List Int)) (es : List Value) : Prop where
 len : es.length = L.length
 outer : Lies w w.heap.size A es
 inner : ∀ (j : Nat) (h1 : j < es.length) (h2 : j < L.length), ∃ Aj, es[j] = .slice Aj L[j].length L[j].length ∧ Lies w w.heap.size Aj (ints .i64 L[j])
def RunsR (w : World) (A : Option Addr) (L : List (List Int)) : Prop := ∃ es, RunsE w A L es
theorem RunsR.up {w w' : World} {A : Option Addr} {L : List (List Int)} (h : RunsR w A L) (hb : Below w.heap.size w w') : RunsR w' A L := by
 obtain ⟨es, h1, h2, h3⟩ := h
 refine ⟨es, h1, h2.up hb, fun j a b => ?_⟩
 obtain ⟨Aj, e, hl⟩ := h3 j a b
 exact ⟨Aj, e, hl.up hb⟩
theorem Cuts.read {g : Nat} {s : List Int} {es : List Value} {L : List (List Int)} {w : World} {A : Option Addr} {c n : Nat} {B : Nat} (h : Cuts g s es L) (hs : Own w B 3 (.slice (some ⟨g, 0, none⟩) n c) (ints .i64 s)) (ho : Lies w w.heap.size A es) : RunsR w A L := by
 refine ⟨es, h.len, ho, fun j h1 h2 => ?_⟩
 obtain ⟨o, e, h3, h4⟩ := h.cut j h1 h2
 refine ⟨_, e, fun hne => ⟨_, rfl, (Own.inside hs g rfl).2, fun i u hu => ?_⟩⟩
 rw [ints, List.getElem?_map] at hu
 obtain ⟨x, hx, rfl⟩ := Option.map_eq_some_iff.1 hu
 obtain ⟨hlt, rfl⟩ := List.getElem?_eq_some_iff.1 hx
 obtain ⟨A1, c1, hv, hl, _, _⟩ := hs.form
 injection hv with hA _ _
 subst hA
 have hs0 : ints .i64 s ≠ [] := fun e => by
  have e2 := congrArg List.length e
  simp only [ints, List.length_map, List.length_nil] at e2
  omega
 obtain ⟨p, hp, _, hc⟩ := hl hs0
 injection hp with hp
 subst hp
 have := hc (o + i) (.int .i64 L[j][i]) (by rw [ints, List.getElem?_map, h4 i hlt]; rfl)
 rw [add_plain] at this ⊢
 simpa using this
def Young (N : Nat) (v : Value) : Prop := ∀ g, v.ownBlock = some g → N ≤ g
theorem young_push {N b off n c : Nat} {vs : List Value} (h : ∀ u ∈ vs, Young N u) (hb : N ≤ b) : ∀ u ∈ vs ++ [Value.slice (some ⟨b, off, none⟩) n c], Young N u := fun u hu => by
 rcases List.mem_append.1 hu with h1 | h1
 ·exact h u h1
 ·obtain rfl := List.mem_singleton.1 h1
  exact fun g hg => (show b = g from Option.some.inj hg) ▸ hb
theorem young_set {N n : Nat} {vs : List Value} {v : Value} (h : ∀ u ∈ vs, Young N u) (hv : Young N v) : ∀ u ∈ vs.set n v, Young N u := fun u hu => by
 rcases List.mem_or_eq_of_mem_set hu with h1 | rfl
 ·exact h u h1
 ·exact hv
def RunsY (w : World) (N : Nat) (A : Option Addr) (n : Nat) : Prop := ∀ p, A = some p → ∀ k, k < n → ∀ u, w.cell? (p.add k) = some u → Young N u
theorem RunsY.up {w w' : World} {N : Nat} {A : Option Addr} {L : List (List Int)} (h : RunsY w N A L.length) (hr : RunsR w A L) (hb : Below w.heap.size w w') : RunsY w' N A L.length := by
 intro p hp k hk u hu
 obtain ⟨es, h1, h2, -⟩ := hr
 obtain ⟨p', hp', hpb, -⟩ := h2.cellAt (i := k) (by omega)
 rw [hp] at hp'
 injection hp' with hp'
 subst hp'
 rw [hb.cell (by rw [add_block]; exact hpb)] at hu
 exact h p hp k hk u hu
theorem Cuts.young {g N : Nat} {s : List Int} {es : List Value} {L : List (List Int)} {w : World} {A : Option Addr} {B : Nat} (h : Cuts g s es L) (ho : Lies w B A es) (hg : N ≤ g) : RunsY w N A L.length := by
 intro p hp k hk u hu
 have hl := h.len
 obtain ⟨p', hp', -, hc⟩ := ho.cellAt (i := k) (by omega)
 rw [hp] at hp'
 injection hp' with hp'
 subst hp'
 rw [hc] at hu
 injection hu with hu
 subst hu
 obtain ⟨o, e, -⟩ := h.cut k (by omega) hk
 intro x hx
 rw [e] at hx
 exact (show g = x from Option.some.inj hx) ▸ hg
theorem RunsR.at' {w : World} {A : Option Addr} {L : List (List Int)} (h : RunsR w A L) {j : Nat} (hj : j < L.length) (hne : L[j] ≠ []) :
 ∃ p b off, A = some p ∧ p.block < w.heap.size ∧ b < w.heap.size ∧ w.cell? (p.add j) = some (.slice (some ⟨b, off, none⟩) L[j].length L[j].length) ∧ w.cell? ⟨b, off, none⟩ = some (.int .i64 (headI L[j])) ∧ w.cell? ⟨b, off + (L[j].length - 1), none⟩ = some (.int .i64 (lastI L[j])) ∧ Lies w w.heap.size (some ⟨b, off, none⟩) (ints .i64 L[j]) := by
 obtain ⟨es, h1, h2, h3⟩ := h
 obtain ⟨p, hA, hp, hc⟩ := h2.cellAt (i := j) (by omega)
 obtain ⟨Aj, e, hl⟩ := h3 j (by omega) hj
 have hpos := List.length_pos_iff.2 hne
 obtain ⟨b, off, hAj, hb, hcs⟩ := hl.plainInts hpos
 subst hAj
 refine ⟨p, b, off, hA, hp, hb, by rw [hc, e], ?_, ?_, hl⟩
 ·have := hcs 0 hpos
  rw [show L[j][0] = headI L[j] by simp [headI, hpos]] at this
  simpa using this
 ·have := hcs (L[j].length - 1) (by omega)
  rw [this]
  simp [lastI, List.getElem?_eq_getElem (show L[j].length - 1 < L[j].length by omega)]
theorem RunsR.later {w w' : World} {A : Option Addr} {L : List (List Int)} (h : RunsR w A L) (hw : Below w.heap.size w w') {j : Nat} (hj : j < L.length) (hne : L[j] ≠ []) :
 ∃ p b off, A = some p ∧ p.block < w.heap.size ∧ b < w.heap.size ∧ w'.cell? (p.add j) = some (.slice (some ⟨b, off, none⟩) L[j].length L[j].length) ∧ w'.cell? ⟨b, off, none⟩ = some (.int .i64 (headI L[j])) ∧ w'.cell? ⟨b, off + (L[j].length - 1), none⟩ = some (.int .i64 (lastI L[j])) ∧ Lies w' w.heap.size (some ⟨b, off, none⟩) (ints .i64 L[j]) := by
 obtain ⟨p, b, off, hA, hp, hb, h1, h2, h3, h4⟩ := h.at' hj hne
 exact ⟨p, b, off, hA, hp, hb, by rw [hw.cell (by rw [add_block]; exact hp)]; exact h1, by rw [hw.cell hb]; exact h2, by rw [hw.cell hb]; exact h3, h4.below hw⟩
theorem listsI_six {cl lv : List Int} (hl : cl.length ≤ 1000000) : (listsI cl lv).length ≤ 1000000 ∧ (∀ j (hj : j < (listsI cl lv).length), (listsI cl lv)[j] ≠ []) ∧ ∀ j (hj : j < (listsI cl lv).length), (listsI cl lv)[j].length ≤ 1000000 :=
 ⟨Nat.le_trans (listsI_le cl lv).1 hl, fun _ _ => listsI_ne cl lv _ (List.getElem_mem _), fun _ _ => Nat.le_trans ((listsI_le cl lv).2 _ (List.getElem_mem _)) hl⟩
end Go.Proofs.YtcbaahlahohfmaaGreatDoor
