/- Shared texts, shaken for one claim. -/
import Derived.Test.YtadfleopbpomfaaZA2
import Derived.Test.YtadfleopbpomfaaZA4
import Derived.Test.YtadfleopbpomfaaZA13
import Derived.Test.YtadfleopbpomfaaZA17
import Derived.Test.YtadfleopbpomfaaZA23
namespace Go.Proofs.Ytadfleopbpomfaa
open Go.RowKit
theorem seqsT : SliceOfN Try.prog 58 61 (.agg #[.slice none 0 0, .int .i64 0, .int .i64 0, .int .i64 0]) 4 48 := ⟨by kernel_rfl, by kernel_rfl, rfl, by decide⟩
theorem boolsT : SliceOf Try.prog 77 4 (.bool false) 1 := ⟨by kernel_rfl, by kernel_rfl, rfl⟩
def Sq.cells (v : Value) (s : Sq) : List Value := [v, .int .i64 s.lev, .int .i64 s.sos, .int .i64 s.eos]
def sqCells : List Value → List Sq → List Value
 | v :: vs, s :: L => s.cells v ++ sqCells vs L
 | _, _ => []
theorem sqCells_append : ∀ (vs : List Value) (L : List Sq) (v : Value) (s : Sq), vs.length = L.length → sqCells (vs ++ [v]) (L ++ [s]) = sqCells vs L ++ s.cells v
 | [], [], _, _, _ => rfl
 | [], _ :: _, _, _, h => by simp at h
 | _ :: _, [], _, _, h => by simp at h
 | a :: vs, b :: L, v, s, h => by
  have := sqCells_append vs L v s (by simpa using h)
  simp only [List.cons_append, sqCells, this, List.append_assoc]
theorem sqCells_get : ∀ (vs : List Value) (L : List Sq) (h : vs.length = L.length) (j : Nat) (hj : j < L.length) (t : Nat) (_ : t < 4), (sqCells vs L)[j * 4 + t]? = (L[j].cells (vs[j]'(by omega)))[t]?
 | [], [], _, j, hj, _, _ => by simp at hj
 | [], _ :: _, h, _, _, _, _ => by simp at h
 | _ :: _, [], h, _, _, _, _ => by simp at h
 | a :: vs, b :: L, h, 0, _, t, ht => by
  have hl : (b.cells a).length = 4 := rfl
  rw [sqCells, List.getElem?_append_left (by omega)]; simp
 | a :: vs, b :: L, h, j + 1, hj, t, ht => by
  have hl : (b.cells a).length = 4 := rfl
  rw [sqCells, List.getElem?_append_right (by omega), hl, show (j + 1) * 4 + t - 4 = j * 4 + t by omega, sqCells_get vs L (by simpa using h) j (by simpa using hj) t ht]
  rfl
theorem sqCells_length : ∀ (vs : List Value) (L : List Sq), vs.length = L.length → (sqCells vs L).length = L.length * 4
 | [], [], _ => rfl
 | [], _ :: _, h => by simp at h
 | _ :: _, [], h => by simp at h
 | a :: vs, b :: L, h => by
  have hl : (b.cells a).length = 4 := rfl
  rw [sqCells, List.length_append, hl, sqCells_length vs L (by simpa using h), List.length_cons]; omega
structure Seqs (w : World) (B : Nat) (v : Value) (vs : List Value) (L : List Sq) : Prop where
 outer : OwnN w B 61 4 v L.length (sqCells vs L)
 len : vs.length = L.length
 inner : ∀ (j : Nat) (h1 : j < vs.length) (h2 : j < L.length), Own w B 3 vs[j] (ints .i64 L[j].pl)
theorem Seqs.below {w w' : World} {B C : Nat} {v : Value} {vs : List Value} {L : List Sq} (h : Seqs w B v vs L) (hb : Below C w w') (hC : w.heap.size ≤ C) : Seqs w' B v vs L :=
 ⟨h.outer.below hb hC, h.len, fun j h1 h2 => (h.inner j h1 h2).below hb hC⟩
theorem Seqs.weaken {w : World} {B B' : Nat} {v : Value} {vs : List Value} {L : List Sq} (h : Seqs w B v vs L) (hB : B' ≤ B) : Seqs w B' v vs L :=
 ⟨h.outer.weaken hB, h.len, fun j h1 h2 => (h.inner j h1 h2).weaken hB⟩
theorem Seqs.push {w w' : World} {B B2 : Nat} {v v' u : Value} {vs : List Value} {L : List Sq} {s : Sq} (h : Seqs w B v vs L) (hu : Own w B2 3 u (ints .i64 s.pl)) (hB : B ≤ B2) (hg : w.grownBy w' v.ownBlock)
 (ho : OwnN w' B 61 4 v' (L.length + 1) (sqCells vs L ++ s.cells u)) : Seqs w' B v' (vs ++ [u]) (L ++ [s]) := by
 have hl := h.len
 have far : ∀ {x : Value} {xs : List Value} {B' : Nat}, Own w B' 3 x xs → Own w' B' 3 x xs := fun hx => hx.keep hg (OwnN.unlike hx.asN h.outer (by decide))
 refine ⟨by rw [sqCells_append _ _ _ _ hl, List.length_append, List.length_singleton]; exact ho, by simp [hl], fun j h1 h2 => ?_⟩
 by_cases hj : j < vs.length
 ·simp only [List.getElem_append_left hj, List.getElem_append_left (show j < L.length by omega)]
  exact far (h.inner j hj (by omega))
 ·have he : j = L.length := by rw [List.length_append, List.length_singleton] at h2; omega
  subst he
  simp only [List.getElem_append_right (show vs.length ≤ L.length by omega), List.getElem_append_right (Nat.le_refl L.length), Nat.sub_self, show L.length - vs.length = 0 by omega, List.getElem_cons_zero]
  exact (far hu).weaken hB
theorem Row.ofN {w : World} {B g c n : Nat} {e : TypeId} {xs : List Value} (h : OwnN w B e 1 (.slice (some ⟨g, 0, none⟩) n c) n xs) (hn : n = xs.length) : Row w B e g c xs := by
 subst hn; exact h
theorem bools_set (l : List Bool) (i : Nat) (b : Bool) : (l.map Value.bool).set i (.bool b) = (l.set i b).map Value.bool := by rw [List.map_set]
theorem Lies.bool {w : World} {B : Nat} {A : Option Addr} {l : List Bool} (h : Lies w B A (l.map Value.bool)) {i : Nat} (hi : i < l.length) :
 ∃ p : Addr, A = some p ∧ p.block < B ∧ w.cell? (p.add i) = some (.bool l[i]) := by
 obtain ⟨p, hA, hB, hc⟩ := h.cellAt (i := i) (by simpa using hi)
 exact ⟨p, hA, hB, by simpa using hc⟩
theorem gone_start (cl m : List Int) (L : List (List Int)) : (List.range L.length).map (fun j => goneN cl m L 0 j) = List.replicate L.length false := by
 apply List.ext_getElem
 ·simp
 ·intro i h1 h2; simp [goneN]
theorem gone_keep {cl m : List Int} {L : List (List Int)} {k : Nat} (h : nextI cl m L k < 0) : (List.range L.length).map (fun j => goneN cl m L (k + 1) j) = (List.range L.length).map (fun j => goneN cl m L k j) := by
 apply List.map_congr_left
 intro j _
 rw [goneN_succ, show (nextI cl m L k == (j : Int)) = false by simp; omega, Bool.or_false]
theorem gone_set {cl m : List Int} {L : List (List Int)} {k k' : Nat} (h : nextI cl m L k = k') : ((List.range L.length).map (fun j => goneN cl m L k j)).set k' true = (List.range L.length).map (fun j => goneN cl m L (k + 1) j) := by
 apply List.ext_getElem
 ·simp
 ·intro j h1 h2
  rw [List.getElem_set]
  simp only [List.getElem_map, List.getElem_range]
  rw [goneN_succ, h]
  by_cases hj : k' = j
  ·subst hj; simp
  ·rw [if_neg hj, show ((k' : Int) == (j : Int)) = false by simp; omega, Bool.or_false]
theorem Nest.rowAt {w w1 : World} {B : Nat} {eo ei : TypeId} {A : Option Addr} {n c : Nat} {es : List Value} {L : List (List Int)} (h : Nest w B eo ei (.slice A n c) es (L.map (ints .i64))) (hb : Below w.heap.size w w1) {k : Nat} (hk : k < L.length) :
 ∃ p Ai ci, A = some p ∧ p.block < w.heap.size ∧ w1.cell? (p.add k) = some (.slice Ai L[k].length ci) ∧ Lies w1 w.heap.size Ai (ints .i64 L[k]) := by
 obtain ⟨A1, c1, hv, hl, _, _⟩ := h.outer.form
 injection hv with hA _ _
 subst hA
 have hlen := h.len
 rw [List.length_map] at hlen
 obtain ⟨p, rfl, hpb, hcell⟩ := (hl.below hb).cellAt (i := k) (by omega)
 have hin := h.inner k (by omega) (by rw [List.length_map]; exact hk)
 rw [List.getElem_map] at hin
 obtain ⟨Ai, ci, hev, hli, _, _⟩ := hin.form
 rw [hev, List.length_map] at hcell
 exact ⟨p, Ai, ci, rfl, hpb, hcell, hli.below hb⟩
theorem chainI_ne {cl m : List Int} {L : List (List Int)} (h : Onward cl m L) {n : Nat} (hW : Within L n) {k : Nat} (hk : k < L.length) : chainI cl m L k ≠ [] ∧ headI (chainI cl m L k) = headI L[k] := by
 have hne := (hW _ (List.getElem_mem hk)).1
 have hg : L.getD k [] = L[k] := by simp [hk]
 have hp := List.length_pos_iff.2 hne
 rcases chainI_step h hk with ⟨_, e⟩ | ⟨k', _, _, _, e⟩
 ·rw [e, hg]; exact ⟨hne, rfl⟩
 ·rw [e, hg]
  refine ⟨by simp [hne], ?_⟩
  unfold headI
  rw [List.getD_eq_getElem?_getD, List.getElem?_append_left hp, ← List.getD_eq_getElem?_getD]
theorem chainI_in {cl m : List Int} {L : List (List Int)} (h : Onward cl m L) {n : Nat} (hW : Within L n) : ∀ d k, k < L.length → L.length - k ≤ d → ∀ x ∈ chainI cl m L k, ∃ q : Nat, x = (q : Int) ∧ q < n := by
 intro d
 induction d with
 | zero => intro k hk hd; omega
 | succ d ih =>
  intro k hk hd x hx
  have hg : L.getD k [] = L[k] := by simp [hk]
  have h0 : ∀ y ∈ L.getD k [], ∃ q : Nat, y = (q : Int) ∧ q < n := by rw [hg]; exact (hW _ (List.getElem_mem hk)).2.2
  rcases chainI_step h hk with ⟨_, e⟩ | ⟨k', _, hlt, hkl, e⟩
  ·rw [e] at hx; exact h0 x hx
  ·rw [e] at hx
   rcases List.mem_append.1 hx with h1 | h1
   ·exact h0 x h1
   ·exact ih k' hkl (by omega) x h1
set_option maxRecDepth 20000 in
set_option maxHeartbeats 1000000 in
theorem rsof_any (A : Option Addr) (cl : List Int) (c : Nat) (A' : Option Addr) (lv : List Int) (c' : Nat) (base : Int) (w : World) (h : Lies w w.heap.size A (ints .i64 cl)) (h' : Lies w w.heap.size A' (ints .i64 lv)) (hl : cl.length ≤ 1000000) :
 Calls Try.prog 41 #[.slice A cl.length c, .slice A' lv.length c', .int .i64 base] w
  fun ed w' => ∃ v vs, ed = .returned v ∧ Seqs w' w.heap.size v vs (seqsI cl lv base) ∧ Below w.heap.size w w' := by
 have H := Lib.hid h
 have H' := Lib.hid h'
 obtain ⟨L, hL⟩ : ∃ L, listsI cl lv = L := ⟨_, rfl⟩
 obtain ⟨m, hm⟩ : ∃ m, mt cl = m := ⟨_, rfl⟩
 have HL := Lib.hid hL
 have HM := Lib.hid hm
 have WW : Hid (Within L cl.length) := Lib.hid (hL ▸ within_I cl lv)
 have ON : Hid (Onward cl m L) := Lib.hid (hm ▸ hL ▸ onward_I cl lv)
 have hml : m.length = cl.length := by rw [← hm, mt_length]
 have HML := Lib.hid hml
 have HEQ : Hid (0 < L.length → cl.length = lv.length) := Lib.hid (fun hp => Classical.byContradiction fun hne => by rw [← hL, lists_none hne] at hp; simp at hp)
 have HSQ : Hid (seqsI cl lv base = seqsN cl lv m base L L.length) := Lib.hid (by rw [seqsI, hL, hm])
 have hL6 : L.length ≤ 1000000 := by have := (listsI_le cl lv).1; rw [hL] at this; omega
 rw [HSQ.out]
 clear h h' hL hm hml
 go_enter Try.func41, Try.ntmps41
 go_wp2_with fail
 refine (rlists_all A cl c A' lv c' w H.out H'.out hl).mono ?_
 rintro e w1 ⟨v1, es, rfl, n1, b1⟩
 rw [HL.out] at n1
 have hlen := n1.len
 rw [List.length_map] at hlen
 obtain ⟨A1, c1, rfl, _, _, _⟩ := n1.outer.form
 rw [hlen] at n1 ⊢
 have N1 := Lib.hid n1
 have B1 := Lib.hid b1
 clear n1 b1 hlen
 go_wp2_with fail
 refine (rmatch_any A cl c w1 (H.out.up B1.out) hl).mono ?_
 rintro e w2 ⟨v2, rfl, o2, b2⟩
 rw [HM.out] at o2
 obtain ⟨A2, c2, rfl, l2, _, _⟩ := o2.form
 have B2 := Lib.hid (below_then B1.out b2)
 have N2 := Lib.hid (N1.out.below b2 (Nat.le_refl _))
 have L2 := Lib.hid l2
 have HC := Lib.hid (H.out.up B2.out)
 have HV := Lib.hid (H'.out.up B2.out)
 simp only [ints, List.length_map]
 clear o2 b2 l2
 go_wp2_with (first
  | (refine make_row boolsT w2 w2 w2.heap.size _ _ .i64 .i64 L.length rfl rfl rfl rfl rfl (Below.refl _ _) (Nat.le_refl _) (by omega) (by unfold maxLen; omega) ?_; intro w3 r3 b3 g3; have R3 := Lib.hid r3; have B3 := Lib.hid b3; clear r3 b3 g3)
  | fail)
 go_loopw [10] (fun iv wr => ∃ k : Nat, k ≤ L.length ∧ iv = .int .i64 k ∧ Row wr w2.heap.size 4 w2.heap.size L.length (((List.range L.length).map (fun j => goneN cl m L k j)).map Value.bool) ∧ Below w2.heap.size w2 wr) (fun iv _ => L.length - (intOf iv).toNat)
 case atStart => exact ⟨0, by omega, rfl, by rw [gone_start, List.map_replicate]; exact R3.out, B3.out⟩
 case round =>
  obtain ⟨k, hk, rfl, hr, hb⟩ := hrel
  have HR := Lib.hid hr
  have HB := Lib.hid hb
  clear hr hb
  by_cases hlt : k < L.length
  ·have hlt' : (k : Int) < (L.length : Int) := by omega
   go_wp2_with fail
   refine (rnext_any A cl c A1 c1 es L A2 m c2 k _ wr ((HC.out.below HB.out).wider HB.out.size) (N2.out.below HB.out (Nat.le_refl _)) ((L2.out.below HB.out).wider HB.out.size) hl HML.out WW.out hL6 hlt).mono ?_
   rintro e w4 ⟨rfl, b4⟩
   have R4 := Lib.hid (HR.out.below b4 (Nat.le_refl _))
   have B4 := Lib.hid (HB.out.trans (b4.mono HB.out.size))
   clear b4
   rcases ON.out k hlt with h1 | ⟨k', h1, h2, h3⟩
   ·have H1 := Lib.hid h1
    rw [h1]
    clear h1
    go_wp2_with fail
    go_roundw
    case rel => exact ⟨k + 1, by omega, by go_num, by rw [gone_keep (by rw [H1.out]; decide)]; exact R4.out, B4.out⟩
    case measure => simp [intOf]; omega
   ·have H1 := Lib.hid h1
    rw [h1]
    have c0 : (0 : Int) ≤ (k' : Int) := by omega
    have c3 : (k' : Int) < (L.length : Int) := by omega
    clear h1
    go_wp2_with (first
     | (refine store_cell (e := 4) w4 w2.heap.size _ _ w2.heap.size k' L.length (.bool true) (((List.range L.length).map (fun j => goneN cl m L k j)).map Value.bool) w2 rfl rfl rfl (by kernel_rfl) rfl rfl rfl (Own.asN R4.out) (by simpa using h3) B4.out ?_; intro w5 r5 b5 _; have R5 := Lib.hid r5; have B5 := Lib.hid b5; clear r5 b5)
     | fail)
    go_roundw
    case rel => exact ⟨k + 1, by omega, by go_num, by have := R5.out; rw [bools_set, gone_set H1.out] at this; exact Row.ofN this (by simp), B5.out⟩
    case measure => simp [intOf]; omega
  ·obtain rfl : k = L.length := by omega
   rename World => wo
   obtain ⟨gl, hgl⟩ : ∃ gl, (List.range L.length).map (fun j => goneN cl m L L.length j) = gl := ⟨_, rfl⟩
   rw [hgl] at HR
   have GL : Hid (gl.length = L.length ∧ ∀ j (hj : j < gl.length), gl[j] = goneN cl m L L.length j) := Lib.hid ⟨by rw [← hgl]; simp, fun j hj => by simp [← hgl]⟩
   have RG := Lib.hid HR.out
   rw [← GL.out.1] at RG
   have HCr := Lib.hid ((HC.out.below HB.out).wider HB.out.size)
   have HVr := Lib.hid ((HV.out.below HB.out).wider HB.out.size)
   have L2r := Lib.hid ((L2.out.below HB.out).wider HB.out.size)
   have N2r := Lib.hid (N2.out.below HB.out (Nat.le_refl _))
   have BR : Hid (Below w.heap.size w wo) := Lib.hid (B2.out.trans (HB.out.mono B2.out.size))
   clear hgl HR R3
   go_wp2_with fail
   go_loopw [13, 12] (fun iv ov wr => ∃ (k : Nat) (vs : List Value), k ≤ L.length ∧ iv = .int .i64 k ∧ Seqs wr wo.heap.size ov vs (seqsN cl lv m base L k) ∧ Below wo.heap.size wo wr) (fun iv _ _ => L.length - (intOf iv).toNat)
   case atStart => exact ⟨0, [], by omega, rfl, ⟨OwnN.empty _ _ _ _, rfl, fun j h1 => by simp at h1⟩, Below.refl _ _⟩
   case round =>
    obtain ⟨k, vs, hk, rfl, hsq, hb⟩ := hrel
    have HS := Lib.hid hsq
    have HBx := Lib.hid hb
    clear hsq hb
    by_cases hlt : k < L.length
    ·have hgk : wr.cell? ⟨w2.heap.size, k, none⟩ = some (.bool (goneN cl m L L.length k)) := by
      have h1 := RG.out.cell (j := k) (by rw [List.length_map, GL.out.1]; exact hlt)
      rw [HBx.out.cell (show w2.heap.size < wo.heap.size from RG.out.inside.2), h1, List.getElem_map, GL.out.2]
     have d0 : (0 : Int) ≤ (k : Int) := by omega
     have d1 : (k : Int) < (L.length : Int) := by omega
     obtain ⟨gk, hgg⟩ : ∃ b, goneN cl m L L.length k = b := ⟨_, rfl⟩
     rw [hgg] at hgk
     have HG := Lib.hid hgg
     clear hgg
     rcases gk with _ | _
     ·obtain ⟨C, hC⟩ : ∃ C, chainI cl m L k = C := ⟨_, rfl⟩
      have HC0 := Lib.hid hC
      have HCN : Hid (C ≠ [] ∧ headI C = headI (L[k]'hlt)) := Lib.hid (hC ▸ chainI_ne ON.out WW.out hlt)
      have HCI : Hid (∀ x ∈ C, ∃ q : Nat, x = (q : Int) ∧ q < cl.length) := Lib.hid (hC ▸ chainI_in ON.out WW.out (L.length - k) k hlt (Nat.le_refl _))
      have HCL : Hid (C.length ≤ 1000000000000) := Lib.hid (by
       have h1 := chainI_len ON.out (B := 1000000) (fun r hr => Nat.le_trans (WW.out r hr).2.1 hl) (L.length - k) k hlt (Nat.le_refl _)
       rw [hC] at h1
       have h2 : (L.length - k) * 1000000 ≤ 1000000 * 1000000 := Nat.mul_le_mul_right _ (by omega)
       omega)
      clear hC
      go_wp2_with fail
      rename World => wx
      go_loopg [15, 14] (L.length + 1) (fun g jv av wr => ∃ done : List Int, Own wr wx.heap.size 3 av (ints .i64 done) ∧ Below wx.heap.size wx wr ∧ ((jv = .int .i64 (-1) ∧ done = C) ∨ ∃ j : Nat, jv = .int .i64 j ∧ j < L.length ∧ L.length - j ≤ g ∧ Hid (done ++ chainI cl m L j = C)))
      case atStart => exact ⟨[], Own.empty _ _ _, Below.refl _ _, .inr ⟨k, rfl, hlt, by omega, Lib.hid (by rw [List.nil_append]; exact HC0.out)⟩⟩
      case round =>
       obtain ⟨done, ho, hb, hcase⟩ := hrel
       have HO := Lib.hid ho
       have HBy := Lib.hid hb
       clear ho hb
       rcases hcase with ⟨rfl, hdone⟩ | ⟨j, rfl, hjl, hjg, HD⟩
       ·rw [hdone] at HO
        have CP : Hid (0 < C.length) := Lib.hid (List.length_pos_iff.2 HCN.out.1)
        obtain ⟨A3, c3, rfl, l3, _, _⟩ := HO.out.form
        have L3 := Lib.hid l3
        obtain ⟨b, off, hA3, _, hcs⟩ := l3.plainInts CP.out
        subst hA3
        obtain ⟨q, hq1, hq2⟩ := HCI.out _ (List.getElem_mem CP.out)
        have hc0 := hcs 0 CP.out
        rw [hq1] at hc0
        simp only [Nat.add_zero] at hc0
        have hqv : q < lv.length := by have := HEQ.out (by omega); omega
        have BX4 := Lib.hid (HBx.out.trans (HBy.out.mono HBx.out.size))
        obtain ⟨pv, hpv, _, hcv⟩ := (HVr.out.below BX4.out).int hqv
        subst hpv
        obtain ⟨le, hle⟩ : ∃ z, lv[q] = z := ⟨_, rfl⟩
        rw [hle] at hcv
        have HHD : Hid (headI C = (q : Int)) := Lib.hid (by rw [headI, show C.getD 0 0 = C[0]'CP.out by simp [CP.out], hq1])
        have HLE : Hid (lv.getD (headI C).toNat 0 = le) := Lib.hid (by rw [HHD.out, Int.toNat_natCast]; simp [hqv, hle])
        obtain ⟨nC, hnC⟩ : ∃ n, C.length = n := ⟨_, rfl⟩
        have HNC := Lib.hid hnC
        simp only [ints, List.length_map, hnC]
        have x0 : (0 : Int) ≤ (q : Int) := by omega
        have x1 : (q : Int) < (lv.length : Int) := by omega
        have x2 : (0 : Int) < (nC : Int) := by have := CP.out; omega
        obtain ⟨so, hso⟩ : ∃ z, sosI cl lv C le base = z := ⟨_, rfl⟩
        obtain ⟨eo, heo⟩ : ∃ z, eosI cl lv C base = z := ⟨_, rfl⟩
        have hcal := rbounded_any A cl c (some pv) lv c' (some ⟨b, off, none⟩) C c3 le 0 0 base wr ((HCr.out.below BX4.out).wider BX4.out.size) ((HVr.out.below BX4.out).wider BX4.out.size) L3.out hl (HEQ.out (by omega)) HCN.out.1 HCL.out HCI.out
        rw [hnC, hso, heo] at hcal
        have CAL := Lib.hid hcal
        have HSN : Hid (seqsN cl lv m base L (k + 1) = seqsN cl lv m base L k ++ [⟨C, le, so, eo⟩]) := Lib.hid (by rw [seqsN, HG.out, HC0.out, sqOf, HLE.out, hso, heo]; rfl)
        clear l3 hcs hq1 hle hnC hdone hcal hso heo
        go_wp2_with fail
        refine CAL.out.mono ?_
        rintro e w6 ⟨rfl, b6⟩
        have B6 := Lib.hid (HBy.out.trans (b6.mono HBy.out.size))
        have S6 := Lib.hid ((HS.out.below B6.out (Nat.le_refl _)).below (below_alloc w6 (.cells #[.slice (some ⟨b, off, none⟩) nC c3, .int .i64 le, .int .i64 so, .int .i64 eo] 61)) (Nat.le_refl _))
        have OC := Lib.hid (show Own wr wx.heap.size 3 (.slice (some ⟨b, off, none⟩) nC c3) (ints .i64 C) by have := HO.out; simp only [ints, List.length_map, HNC.out] at this; exact this)
        have O6 := Lib.hid ((OC.out.below b6 (Nat.le_refl _)).alloc (.cells #[.slice (some ⟨b, off, none⟩) nC c3, .int .i64 le, .int .i64 so, .int .i64 eo] 61))
        have hk6 := seqsN_le cl lv m base L k
        clear b6
        go_wp2_with (first
         | (at_builtin; refine appN_at seqsT wo _ wo.heap.size _ _ _ _ (seqsN cl lv m base L k).length 1 _ [.slice (some ⟨b, off, none⟩) nC c3, .int .i64 le, .int .i64 so, .int .i64 eo] _ _ rfl rfl rfl rfl S6.out.outer (Lies.lit (w := w6) (e := 61) #[.slice (some ⟨b, off, none⟩) nC c3, .int .i64 le, .int .i64 so, .int .i64 eo]) rfl (by simp [Value.oneCell']) ((HBx.out.trans (B6.out.mono HBx.out.size)).trans ((below_alloc w6 _).mono (by have := HBx.out.size; have := B6.out.size; omega))) (by have := HBx.out.size; have := B6.out.size; simp; omega) (by unfold maxLen; omega) (by omega) ?_; intro v7 w7 o7 b7 g7 _; have S7 := Lib.hid (S6.out.push (s := ⟨C, le, so, eo⟩) O6.out HBx.out.size g7 o7); have B7 := Lib.hid b7; clear o7 b7 g7)
         | fail)
        go_roundw
        case rel => exact ⟨k + 1, _, by omega, by go_num, by rw [HSN.out]; exact S7.out, B7.out⟩
        case measure => simp [intOf]; omega
       ·have HLN : Hid (done.length ≤ 1000000000000 ∧ done.length + (L[j]'hjl).length ≤ 1000000000000) := Lib.hid (by
         have h1 := HD.out
         have h2 := HCL.out
         have h3 : C.length = done.length + (chainI cl m L j).length := by rw [← h1, List.length_append]
         have h4 : (L[j]'hjl).length ≤ (chainI cl m L j).length := by
          rcases chainI_step ON.out hjl with ⟨_, e⟩ | ⟨_, _, _, _, e⟩
          ·rw [e]; simp [hjl]
          ·rw [e, List.length_append]; simp [hjl]
         omega)
        obtain ⟨p, Ai, ci, hpA, hpb, hcell, hrow⟩ := N2r.out.rowAt (HBx.out.trans (HBy.out.mono HBx.out.size)) hjl
        subst hpA
        obtain ⟨rj, hrj⟩ : ∃ r, L[j]'hjl = r := ⟨_, rfl⟩
        rw [hrj] at hcell hrow HLN
        have LR := Lib.hid hrow
        have HRJ := Lib.hid hrj
        have e0 : (0 : Int) ≤ (j : Int) := by omega
        have e1 : (j : Int) < (L.length : Int) := by omega
        clear hrow hrj
        go_wp2_with (first
         | (at_builtin; refine app_src intsT wx _ wx.heap.size wo.heap.size _ _ _ (ints .i64 done) (ints .i64 rj) Ai _ ci rfl rfl rfl rfl (by simp) HO.out LR.out (ints_one _ _) HBy.out HBy.out.size (by have := HLN.out; unfold maxLen; simp; omega) (by have := HLN.out; simp; omega) ?_; intro v4 w4 o4 b4 _ _; have O4 := Lib.hid o4; have B4 := Lib.hid b4; clear o4 b4)
         | fail)
        have BX4 := Lib.hid (HBx.out.trans (B4.out.mono HBx.out.size))
        refine (rnext_any A cl c (some p) c1 es L A2 m c2 j _ w4 ((HCr.out.below BX4.out).wider BX4.out.size) (N2r.out.below BX4.out (Nat.le_refl _)) ((L2r.out.below BX4.out).wider BX4.out.size) hl HML.out WW.out hL6 hjl).mono ?_
        rintro e w5 ⟨rfl, b5⟩
        have O5 := Lib.hid (O4.out.below b5 (Nat.le_refl _))
        have B5 := Lib.hid (B4.out.trans (b5.mono B4.out.size))
        have HGJ : Hid (L.getD j [] = rj) := Lib.hid (by rw [← HRJ.out]; simp [hjl])
        clear b5
        rcases chainI_step ON.out hjl with ⟨h1, e2⟩ | ⟨k', h1, hlk, hkl, e2⟩
        ·have E2 := Lib.hid e2
         rw [h1]
         clear h1 e2
         go_wp2_with fail
         go_roundg 0
         case measure => omega
         case rel => exact ⟨done ++ rj, by simpa [ints] using O5.out, B5.out, .inl ⟨rfl, by rw [← HD.out, E2.out, HGJ.out]⟩⟩
        ·have E2 := Lib.hid e2
         rw [h1]
         clear h1 e2
         go_wp2_with fail
         go_roundg (L.length - k')
         case measure => omega
         case rel => exact ⟨done ++ rj, by simpa [ints] using O5.out, B5.out, .inr ⟨k', rfl, hkl, Nat.le_refl _, Lib.hid (by rw [← HD.out, E2.out, HGJ.out, List.append_assoc])⟩⟩
     ·have HN : Hid (seqsN cl lv m base L (k + 1) = seqsN cl lv m base L k) := Lib.hid (by rw [seqsN, HG.out]; rfl)
      go_wp2_with fail
      go_roundw
      case rel => exact ⟨k + 1, vs, by omega, by go_num, by rw [HN.out]; exact HS.out, HBx.out⟩
      case measure => simp [intOf]; omega
    ·obtain rfl : k = L.length := by omega
     go_wp2_with fail
     go_ret
     exact ⟨_, vs, rfl, HS.out.weaken BR.out.size, BR.out.trans (HBx.out.mono BR.out.size)⟩
end Go.Proofs.Ytadfleopbpomfaa
namespace Go.Proofs.Ytadfleopbpomfaa
open Go.RowKit
structure SeqsR (w : World) (A : Option Addr) (L : List Sq) (vs : List Value) : Prop where
 len : vs.length = L.length
 outer : Lies w w.heap.size A (sqCells vs L)
 inner : ∀ (j : Nat) (h1 : j < vs.length) (h2 : j < L.length), ∃ Aj cj, vs[j] = .slice Aj L[j].pl.length cj ∧ Lies w w.heap.size Aj (ints .i64 L[j].pl)
theorem SeqsR.up {w w' : World} {A : Option Addr} {L : List Sq} {vs : List Value} (h : SeqsR w A L vs) (hb : Below w.heap.size w w') : SeqsR w' A L vs :=
 ⟨h.len, h.outer.up hb, fun j h1 h2 => by
  obtain ⟨Aj, cj, e, hl⟩ := h.inner j h1 h2
  exact ⟨Aj, cj, e, hl.up hb⟩⟩
theorem Seqs.read {w : World} {B : Nat} {v : Value} {vs : List Value} {L : List Sq} (h : Seqs w B v vs L) : ∃ A c, v = .slice A L.length c ∧ SeqsR w A L vs := by
 obtain ⟨A, c, hv, hl, _, _⟩ := h.outer.form
 refine ⟨A, c, hv, h.len, hl, fun j h1 h2 => ?_⟩
 obtain ⟨Aj, cj, e, hj, _, _⟩ := (h.inner j h1 h2).form
 rw [List.length_map] at e
 exact ⟨Aj, cj, e, hj⟩
abbrev SqCell (w : World) (g o : Nat) (v : Value) (s : Sq) : Prop := w.cell? ⟨g, o, none⟩ = some v ∧ w.cell? ⟨g, o + 1, none⟩ = some (.int .i64 s.lev) ∧ w.cell? ⟨g, o + 2, none⟩ = some (.int .i64 s.sos) ∧ w.cell? ⟨g, o + 3, none⟩ = some (.int .i64 s.eos)
theorem SqCell.up {w w' : World} {g o : Nat} {v : Value} {s : Sq} {B : Nat} (h : SqCell w g o v s) (hb : Below B w w') (hg : g < B) : SqCell w' g o v s :=
 ⟨by rw [hb.cell hg]; exact h.1, by rw [hb.cell hg]; exact h.2.1, by rw [hb.cell hg]; exact h.2.2.1, by rw [hb.cell hg]; exact h.2.2.2⟩
end Go.Proofs.Ytadfleopbpomfaa
namespace Go.Proofs.Ytadfleopbpomfaa
open Go.RowKit
theorem seqsN_mem (cl lv m : List Int) (base : Int) (L : List (List Int)) : ∀ k, k ≤ L.length → ∀ s ∈ seqsN cl lv m base L k, ∃ i, i < k ∧ goneN cl m L L.length i = false ∧ s = sqOf cl lv base (chainI cl m L i) := by
 intro k
 induction k with
 | zero => intro _ s hs; simp [seqsN] at hs
 | succ k ih =>
  intro hk s hs
  rw [seqsN] at hs
  cases hg : goneN cl m L L.length k with
  | true =>
   rw [hg, if_pos rfl] at hs
   obtain ⟨i, h1, h2⟩ := ih (by omega) s hs
   exact ⟨i, by omega, h2⟩
  | false =>
   rw [hg, if_neg (by simp)] at hs
   rcases List.mem_append.1 hs with h1 | h1
   ·obtain ⟨i, h1, h2⟩ := ih (by omega) s h1
    exact ⟨i, by omega, h2⟩
   ·exact ⟨k, by omega, hg, List.mem_singleton.1 h1⟩
theorem seqs_small (cl lv : List Int) (base : Int) : (seqsI cl lv base).length ≤ cl.length ∧ ∀ s ∈ seqsI cl lv base, s.pl.length ≤ cl.length * cl.length := by
 have h1 := listsI_le cl lv
 refine ⟨Nat.le_trans (seqsN_le _ _ _ _ _ _) h1.1, fun s hs => ?_⟩
 obtain ⟨i, hi, _, rfl⟩ := seqsN_mem _ _ _ _ _ _ (Nat.le_refl _) s hs
 have h2 := chainI_len (onward_I cl lv) (B := cl.length) h1.2 ((listsI cl lv).length - i) i hi (Nat.le_refl _)
 exact Nat.le_trans h2 (Nat.mul_le_mul_right _ (by omega))
end Go.Proofs.Ytadfleopbpomfaa
namespace Go.Proofs.Ytadfleopbpomfaa
open Go.RowKit Reckon
set_option maxHeartbeats 1000000 in
theorem rall_any (A : Option Addr) (l : List Int) (c : Nat) (w : World) (h : Lies w w.heap.size A (ints .i64 l)) (hl : l.length ≤ 1000000) :
 Calls Try.prog 38 #[.slice A l.length c] w (Rowed w w.heap.size 3 (ints .i64 (l.map cls))) := by
 have H := Lib.hid h
 clear h
 go_enter Try.func38, Try.ntmps38
 go_wp2
 go_loopw [4, 3] (fun i v wr => ∃ (k : Nat), k ≤ l.length ∧ i = .int .i64 k ∧ Own wr w.heap.size 3 v (ints .i64 ((l.take k).map cls)) ∧ Below w.heap.size w wr) (fun i _ _ => l.length - (intOf i).toNat)
 case atStart => exact ⟨0, by omega, rfl, Own.empty _ _ _, Below.refl _ _⟩
 case round =>
  obtain ⟨k, hk, rfl, ho, hb⟩ := hrel
  have HO := Lib.hid ho
  have HB := Lib.hid hb
  have hsz := hb.size
  clear ho hb
  by_cases hlt : k < l.length
  ·obtain ⟨p, rfl, hpb, hc⟩ := (H.out.below HB.out).int hlt
   have b0 : (0 : Int) ≤ (k : Int) := by omega
   have b1 : (k : Int) < (l.length : Int) := by omega
   go_wp2_with (first
    | (go_at_call 21; refine (rof_any _ _).mono ?_; rintro e w' ⟨rfl, rfl⟩)
    | (at_builtin; refine app_lit intsT w _ w.heap.size _ _ _ _ _ _ rfl rfl rfl rfl HO.out (by simp [Value.oneCell']) HB.out hsz (by unfold maxLen; simp [ints]; omega) (by simp [ints]; omega) ?_; intro v' w' hown' hb' _ _))
   go_roundw
   case rel =>
    refine ⟨k + 1, by omega, by go_num, ?_, hb'⟩
    rw [List.take_succ_eq_append_getElem hlt]
    simpa only [ints, List.map_append, List.map_cons, List.map_nil] using hown'
   case measure => simp [intOf]; omega
  ·go_wp2
   go_ret
   exact rowed_ret HO.out HB.out (by rw [List.take_of_length_le (by omega)])
end Go.Proofs.Ytadfleopbpomfaa
