/- Shared texts, shaken for one claim. -/
import Derived.Test.YtkojnnjcgcllmaaGreatDoorZB2
import Derived.Test.YtkojnnjcgcllmaaGreatDoorZB14
namespace Go.Proofs.YtkojnnjcgcllmaaGreatDoor
open Go.RowKit
def pairUp : List Int → List (Int × Int)
 | a :: b :: r => (a, b) :: pairUp r
 | _ => []
theorem pairUp_at : ∀ {l : List Int} {i k : Nat} (_ : i = k * 2) (h : i + 1 < l.length), pairUp (l.take (i + 2)) = pairUp (l.take i) ++ [(l[i], l[i + 1])]
 | [], _, _, _, h => by simp at h
 | [a], _, _, _, h => by simp at h
 | a :: b :: r, 0, _, _, _ => by simp [pairUp]
 | a :: b :: r, 1, k, hi, _ => by omega
 | a :: b :: r, i + 2, 0, hi, _ => by omega
 | a :: b :: r, i + 2, k + 1, hi, h => by
  have ih := pairUp_at (l := r) (i := i) (k := k) (by omega) (by simp at h; omega)
  simp only [List.take_succ_cons, pairUp, List.getElem_cons_succ, List.cons_append]
  rw [ih]
theorem pairUp_len : ∀ (l : List Int), (pairUp l).length ≤ l.length
 | [] => by simp [pairUp]
 | [_] => by simp [pairUp]
 | a :: b :: r => by have := pairUp_len r; simp [pairUp]; omega
set_option maxRecDepth 20000 in
set_option maxHeartbeats 4000000 in
theorem ranges_any (w : World) (A : Option Addr) (l : List Int) (c m : Nat) (h : Lies w w.heap.size A (ints .i64 l)) (hm : l.length = m * 2) (hl : m ≤ 1000) :
 Calls Tryz.prog 124 #[.slice A l.length c] w (RowedRg w (pairUp l)) := by
 have HL := Lib.hid h
 have HM := Lib.hid hm
 clear h hm
 go_enter Tryz.func124, Tryz.ntmps124
 go_wp2_with fail
 go_loopw [4, 3] (fun iv ov wr => ∃ k : Nat, k ≤ m ∧ iv = .int .i64 ((k * 2 : Nat) : Int) ∧ Hid (OwnN wr w.heap.size 30 2 ov (pairUp (l.take (k * 2))).length (prC (pairUp (l.take (k * 2))))) ∧ Hid (Below w.heap.size w wr)) (fun iv _ _ => l.length - (intOf iv).toNat)
 case atStart => exact ⟨0, by omega, rfl, Lib.hid (OwnN.empty _ _ _ _), Lib.hid (Below.refl _ _)⟩
 case round =>
  obtain ⟨k, hk, rfl, HO, HB⟩ := hrel
  by_cases hlt : k < m
  ·have h2 : k * 2 + 1 < l.length := by have := HM.out; omega
   have HNX := Lib.hid (pairUp_at rfl h2)
   obtain ⟨b, off, rfl, hb, hcell⟩ := (HL.out.up HB.out).plainInts (by omega)
   have q0 := hcell (k * 2) (by omega)
   have q1 := hcell (k * 2 + 1) h2
   have hpl := pairUp_len (l.take (k * 2))
   rw [List.length_take] at hpl
   obtain ⟨x, hx⟩ : ∃ x, l[k * 2] = x := ⟨_, rfl⟩
   obtain ⟨y, hy⟩ : ∃ y, l[k * 2 + 1] = y := ⟨_, rfl⟩
   rw [hx] at q0 HNX
   rw [hy] at q1 HNX
   obtain ⟨T, hT⟩ : ∃ T, pairUp (l.take (k * 2)) = T := ⟨_, rfl⟩
   rw [hT] at HO HNX hpl
   obtain ⟨n, hn⟩ : ∃ n, T.length = n := ⟨_, rfl⟩
   have HN := Lib.hid hn
   rw [hn] at HO hpl
   obtain ⟨AO, co, rfl, -, -, -⟩ := HO.out.form
   obtain ⟨i, hi⟩ : ∃ i, k * 2 = i := ⟨_, rfl⟩
   rw [hi] at q0 q1 h2 ⊢
   have HI := Lib.hid hi
   have i0 : (0 : Int) ≤ (i : Int) := by omega
   have i1 : (i : Int) < (l.length : Int) := by omega
   have i2 : (0 : Int) ≤ (i : Int) + 1 := by omega
   have i3 : (i : Int) + 1 < (l.length : Int) := by omega
   have hw1 : IntKind.i64.wrap ((i : Int) + 1) = (i : Int) + 1 := IntWalk.i64_in _ (by have := HM.out; omega)
   have hw2 : IntKind.i64.wrap ((i : Int) + 2) = (i : Int) + 2 := IntWalk.i64_in _ (by have := HM.out; omega)
   have hlm : l.length ≤ 2000 := by have := HM.out; omega
   have hbz : w.heap.size ≤ wr.heap.size := HB.out.size
   have HBZ := Lib.hid hbz
   have HK : Hid (∀ u : World, u.heap = wr.heap → u.cell? ⟨b, off + i, none⟩ = some (.int .i64 x) ∧ u.cell? ⟨b, off + (i + 1), none⟩ = some (.int .i64 y)) := Lib.hid fun u hu => by unfold World.cell? at *; rw [hu]; exact ⟨q0, q1⟩
   clear hx hy hT hn hcell hi hb
   go_wp2_with fail
   refine wp_region_E (S := fun u => u.cell? ⟨b, off + i, none⟩ = some (.int .i64 x) ∧ u.cell? ⟨b, off + (i + 1), none⟩ = some (.int .i64 y)) [11, 12, 13] (by kernel_rfl) (HK.out _ rfl) (fun hHeld hZ => ?_)
   refine' eX 0 hZ fun hZ => ?_
   try simp only [Act.put,ZA,ZB,ZD,ZE,ZF]
   refine' eY 1 hHeld hZ fun hZ => ?_
   try simp only [Act.put,ZA,ZB,ZC,ZD,ZE,ZF]
   refine' eY 2 hHeld hZ fun hZ => ?_
   try simp only [Act.put,ZA,ZB,ZC,ZD,ZE,ZF]
   refine' eY 3 hHeld hZ fun hZ => ?_
   try simp only [Act.put,ZA,ZB,ZC,ZD,ZE,ZF]
   refine' eY 4 hHeld hZ fun hZ => ?_
   try simp only [Act.put,ZA,ZB,ZC,ZD,ZE,ZF]
   refine' eY 5 hHeld hZ fun hZ => ?_
   try simp only [Act.put,ZA,ZB,ZC,ZD,ZE,ZF]
   refine' eY 6 hHeld hZ fun hZ => ?_
   try simp only [Act.put,ZA,ZB,ZC,ZD,ZE,ZF]
   refine' eY 7 hHeld hZ fun hZ => ?_
   try simp only [Act.put,ZA,ZB,ZC,ZD,ZE,ZF]
   refine' eY 8 hHeld hZ fun hZ => ?_
   try simp only [Act.put,ZA,ZB,ZC,ZD,ZE,ZF]
   refine' eY 9 hHeld hZ fun hZ => ?_
   try simp only [Act.put,ZA,ZB,ZC,ZD,ZE,ZF]
   refine' eY 10 hHeld hZ fun hZ => ?_
   try simp only [Act.put,ZA,ZB,ZC,ZD,ZE,ZF]
   refine eA 11 fun K hK => ?_
   go_simp
   refine eE hK hZ fun hZ => ?_
   clear hK K
   try simp only [Act.put,ZA,ZB,ZC,ZD,ZE,ZF]
   refine eA 12 fun K hK => ?_
   refine step_appN rgT wr _ w.heap.size _ (.tmp 11) (.tmp 22) (.slice AO n co) n 1 (prC T) (prC [(x, y)]) _ _ rfl rfl rfl rfl (OwnN.same (HO.out.alloc _) rfl) (Lies.sameHeap (rg_lit wr (x, y)) rfl) rfl (prC_one _) (below_same ((Below.refl _ _).alloc HBZ.out _) rfl rfl rfl rfl) (by have := HBZ.out; simp; omega) (by unfold maxLen; omega) (by omega) ?_
   intro v2 w2 o2 b2 _ _
   have O2 : Hid (OwnN w2 w.heap.size 30 2 v2 (T ++ [(x, y)]).length (prC (T ++ [(x, y)]))) := Lib.hid (by rw [prC_append, List.length_append, HN.out]; exact o2)
   have B2 := Lib.hid (HB.out.trans b2)
   clear o2 b2
   refine eE hK hZ fun hZ => ?_
   clear hK K
   try simp only [Act.put,ZA,ZB,ZC,ZD,ZE,ZF]
   refine' eX 13 hZ fun hZ => ?_
   try simp only [Act.put,ZA,ZB,ZC,ZD,ZE,ZF]
   refine wpAnyE_done (by kernel_rfl) ?_ _
   clear hZ
   go_wp2_with fail
   rw [← HNX.out] at O2
   go_roundw
   case rel => exact ⟨k + 1, by omega, by have := HI.out; first | (congr 1; omega) | go_num, by rw [show (k + 1) * 2 = k * 2 + 2 by omega]; exact O2, B2⟩
   case measure => simp [intOf]; omega
  ·obtain rfl : k = m := by omega
   have hd : ((k * 2 : Nat) : Int) = (l.length : Int) := by have := HM.out; omega
   have d1 : decide (((k * 2 : Nat) : Int) < (l.length : Int)) = false := decide_eq_false (by omega)
   have HT : Hid (l.take (k * 2) = l) := Lib.hid (by rw [← HM.out, List.take_length])
   rw [HT.out] at HO
   obtain ⟨i, hi⟩ : ∃ i, k * 2 = i := ⟨_, rfl⟩
   rw [hi] at d1 ⊢
   have d2 : decide (i < l.length) = false := decide_eq_false (by have := HM.out; omega)
   clear hd hi
   go_wp2_with fail
   go_ret
   exact ⟨_, rfl, HO.out, HB.out⟩
end Go.Proofs.YtkojnnjcgcllmaaGreatDoor
namespace Go.Proofs.YtkojnnjcgcllmaaGreatDoor
open Go.RowKit
theorem litI (u : World) (l : List Int) : Lies (u.alloc (.cells (l.map fun x => Value.int .i64 x).toArray 3)) (u.heap.size + 1) (some ⟨u.heap.size, 0, none⟩) (ints .i64 l) := by
 have := Lies.lit (w := u) (e := 3) (l.map fun x => Value.int .i64 x).toArray
 rw [List.toList_toArray] at this
 exact this
set_option maxRecDepth 20000 in
set_option maxHeartbeats 8000000 in
theorem part_any (w : World) (b : Nat) (T : List Tok) (f : Int) (t : Tok) (hT : FoTabs w) (hR : IsT w b T f) (hk : t.k = 1) :
 Calls Tryz.prog 118 #[.pointer (some ⟨b, 0, none⟩), .agg t.arr] w (RowedRg w (behR (flag1 f) (flag2 f) [(t.c, t.c)])) := by
 obtain ⟨Z, hZ⟩ : ∃ Z, behR (flag1 f) (flag2 f) [(t.c, t.c)] = Z := ⟨_, rfl⟩
 rw [hZ]
 have HBH : Hid (∀ (u : World) (A : Option Addr) (c : Nat), Below w.heap.size w u → Lies u u.heap.size A (prC [(t.c, t.c)]) → Calls Tryz.prog 25 #[.slice A 1 c, .int .i64 f] u (RowedRg u Z)) :=
  Lib.hid fun u A c hu hl => hZ ▸ behind_any u (hT.below hu hT.big) A [(t.c, t.c)] c f hl (by simp) (by simp [totW, widW, lowW, highW]; omega)
 have HR := Lib.hid hR
 obtain ⟨k, ch, lo, hi, pos⟩ := t
 simp only at hk HBH
 subst hk
 clear hZ hT hR
 have X0 : Hid (Box (w.alloc (.cells #[.int .i64 1, .int .i64 ch, .int .i64 lo, .int .i64 hi, .int .i64 pos] 66)) w.heap.size (⟨1, ch, lo, hi, pos⟩ : Tok).arr 66) := Lib.hid (Box.new w _ _)
 have HO1 := Lib.hid (isof_any ((w.alloc (.cells #[.int .i64 1, .int .i64 ch, .int .i64 lo, .int .i64 hi, .int .i64 pos] 66)).alloc (.cells #[.int .i64 9] 3)) ⟨1, ch, lo, hi, pos⟩ _ (some ⟨w.heap.size + 1, 0, none⟩) [9] 1 (by have := litI (w.alloc (.cells #[.int .i64 1, .int .i64 ch, .int .i64 lo, .int .i64 hi, .int .i64 pos] 66)) [9]; rw [World.size_alloc] at this; exact this) (by decide) (by simp))
 have HG0 : Hid (w.grownBy ((w.alloc (.cells #[.int .i64 1, .int .i64 ch, .int .i64 lo, .int .i64 hi, .int .i64 pos] 66)).alloc (.cells #[.int .i64 9] 3)) none) := Lib.hid ((grown_new w _ none).trans (grown_new _ _ none))
 go_enter Tryz.func118, Tryz.ntmps118
 go_wp2_with fail
 refine HO1.out.mono ?_
 rintro e w1 ⟨rfl, g1⟩
 have X1 := Lib.hid ((X0.out.kept (grown_new _ _ none) (by simp)).kept g1 (by simp))
 have G1 := Lib.hid (HG0.out.trans g1)
 clear g1
 rw [show ([9] : List Int).contains (1 : Int) = false from rfl]
 go_wp2_with (first
  | (refine load_box _ w.heap.size _ _ rfl rfl rfl X1.out Tryz.underlying66 rfl (tokInfo _) ?_)
  | fail)
 refine (isof_any _ ⟨1, ch, lo, hi, pos⟩ _ (some ⟨w1.heap.size, 0, none⟩) [1] 1 (litI w1 [1]) (by decide) (by simp)).mono ?_
 rintro e w2 ⟨rfl, g2⟩
 have X2 := Lib.hid ((X1.out.kept (grown_new _ _ none) (by simp)).kept g2 (by simp))
 have G2 := Lib.hid (G1.out.trans ((grown_new _ _ none).trans g2))
 clear g2
 rw [show ([1] : List Int).contains (1 : Int) = true from rfl]
 have HR2 := Lib.hid (HR.out.up G2.out)
 obtain ⟨A2, c2, hb2, -, -⟩ := HR2.out.box
 have q0 := (hb2.cell (i := 1) rfl : w2.cell? ⟨b, 1, none⟩ = some (.int .i64 f))
 have q1 := (X2.out.cell (i := 1) rfl : w2.cell? ⟨w.heap.size, 1, none⟩ = some (.int .i64 ch))
 have HK : Hid (∀ u : World, Below w2.heap.size w2 u → u.cell? ⟨w.heap.size, 1, none⟩ = some (.int .i64 ch) ∧ u.cell? ⟨b, 1, none⟩ = some (.int .i64 f)) := Lib.hid fun u hu => by
  rw [hu.cell (p := ⟨w.heap.size, 1, none⟩) X2.out.lt, hu.cell (p := ⟨b, 1, none⟩) hb2.lt]
  exact ⟨q1, q0⟩
 have B2 := Lib.hid (below_row_none G2.out (Nat.le_refl _))
 have HLI : Hid (∀ u : World, u.heap = (w2.alloc (.cells #[.int .i64 ch, .int .i64 ch] 3)).heap → Lies u u.heap.size (some ⟨w2.heap.size, 0, none⟩) (ints .i64 [ch, ch])) := Lib.hid fun u hu => by
  have h1 := (litI w2 [ch, ch]).sameHeap hu
  exact h1.wider (by rw [hu]; simp)
 clear hb2
 go_wp2_with fail
 refine wp_region_E (S := fun u => u.cell? ⟨w.heap.size, 1, none⟩ = some (.int .i64 ch) ∧ u.cell? ⟨b, 1, none⟩ = some (.int .i64 f)) [11] (by kernel_rfl) (HK.out _ (by exact below_same (Below.refl _ w2) rfl rfl rfl rfl)) (fun hHeld hZ => ?_)
 refine' eY 0 hHeld hZ fun hZ => ?_
 try simp only [Act.put,ZA,ZB,ZD,ZE,ZF]
 refine' eY 1 hHeld hZ fun hZ => ?_
 try simp only [Act.put,ZA,ZB,ZC,ZD,ZE,ZF]
 refine' eY 2 hHeld hZ fun hZ => ?_
 try simp only [Act.put,ZA,ZB,ZC,ZD,ZE,ZF]
 refine' eY 3 hHeld hZ fun hZ => ?_
 try simp only [Act.put,ZA,ZB,ZC,ZD,ZE,ZF]
 refine' eY 6 hHeld hZ fun hZ => ?_
 try simp only [Act.put,ZA,ZB,ZC,ZD,ZE,ZF]
 refine' eY 7 hHeld hZ fun hZ => ?_
 try simp only [Act.put,ZA,ZB,ZC,ZD,ZE,ZF]
 refine' eY 8 hHeld hZ fun hZ => ?_
 try simp only [Act.put,ZA,ZB,ZC,ZD,ZE,ZF]
 refine' eY 9 hHeld hZ fun hZ => ?_
 try simp only [Act.put,ZA,ZB,ZC,ZD,ZE,ZF]
 refine eA 4 fun K hK => ?_
 go_simp
 refine eB hK hZ (HK.out _ (by exact below_same (below_alloc w2 _) rfl rfl rfl rfl)) fun hHeld hZ => ?_
 clear hK K
 try simp only [Act.put,ZA,ZB,ZC,ZD,ZE,ZF]
 refine eA 5 fun K hK => ?_
 go_simp
 refine (ranges_any (w2.alloc (.cells #[.int .i64 ch, .int .i64 ch] 3)).drew (some ⟨w2.heap.size, 0, none⟩) [ch, ch] 2 1 (HLI.out _ rfl) rfl (by decide)).mono ?_
 rintro e w3 ⟨v3, rfl, o3, b3⟩
 rw [show pairUp [ch, ch] = [(ch, ch)] from rfl] at o3
 obtain ⟨A3, c3, rfl, l3, -, -⟩ := o3.form
 have B3 : Hid (Below w2.heap.size w2 w3) := Lib.hid (Below.trans (by exact below_same (below_alloc w2 _) rfl rfl rfl rfl) (b3.mono (by simp)))
 have L3 := Lib.hid l3
 clear o3 b3 l3
 refine eB hK hZ (HK.out _ B3.out) fun hHeld hZ => ?_
 clear hK K
 try simp only [Act.put,ZA,ZB,ZC,ZD,ZE,ZF]
 refine eA 10 fun K hK => ?_
 go_simp
 refine (HBH.out w3 A3 c3 (below_then B2.out B3.out) L3.out).mono ?_
 rintro e w4 ⟨v4, rfl, o4, b4⟩
 have O4 := Lib.hid o4
 have B4 := Lib.hid b4
 clear o4 b4
 refine eB hK hZ (HK.out _ (below_then B3.out B4.out)) fun hHeld hZ => ?_
 clear hK K
 try simp only [Act.put,ZA,ZB,ZC,ZD,ZE,ZF]
 refine' eX 11 hZ fun hZ => ?_
 try simp only [Act.put,ZA,ZB,ZC,ZD,ZE,ZF]
 refine wpAnyE_done (by kernel_rfl) ?_ _
 clear hZ
 go_wp2_with fail
 go_ret
 exact ⟨_, rfl, O4.out.weaken (Nat.le_trans B2.out.size B3.out.size), below_then (below_then B2.out B3.out) B4.out⟩
end Go.Proofs.YtkojnnjcgcllmaaGreatDoor
namespace Go.Proofs.YtkojnnjcgcllmaaGreatDoor
open Go.RowKit
theorem FoTabs.grown {w w' : World} {b : Nat} (h : FoTabs w) (hg : w.grownBy w' (some b)) (hb : 0 ≠ b) : FoTabs w' :=
 ⟨Nat.lt_of_lt_of_le h.big hg.size, fun i v hi => (World.cell?_of_block (a := ⟨_, _, none⟩) (hg.block _ h.big (fun e => hb (Option.some.inj e).symm.symm))).trans (h.cells i v hi)⟩
theorem FoTabs.grown0 {w w' : World} (h : FoTabs w) (hg : w.grownBy w' none) : FoTabs w' :=
 ⟨Nat.lt_of_lt_of_le h.big hg.size, fun i v hi => (World.cell?_of_block (a := ⟨_, _, none⟩) (hg.block _ h.big (by simp))).trans (h.cells i v hi)⟩
set_option maxRecDepth 20000 in
set_option maxHeartbeats 2000000 in
theorem trset1_any (w : World) (b : Nat) (T : List Tok) (f : Int) (t : Tok) (hT : FoTabs w) (hR : IsT w b T f) (hk : t.k = 1) :
 Calls Tryz.prog 97 #[.pointer (some ⟨b, 0, none⟩), .agg t.arr] w (RowedRg w (behR (flag1 f) (flag2 f) [(t.c, t.c)])) := by
 obtain ⟨k, ch, lo, hi, pos⟩ := t
 simp only at hk
 subst hk
 have HC := Lib.hid (part_any (w.alloc (.cells #[.int .i64 1, .int .i64 ch, .int .i64 lo, .int .i64 hi, .int .i64 pos] 66)) b T f ⟨1, ch, lo, hi, pos⟩ (hT.grown0 (grown_new w _ none)) (hR.up (grown_new w _ none)) rfl)
 obtain ⟨Z, hZ⟩ : ∃ Z, behR (flag1 f) (flag2 f) [(ch, ch)] = Z := ⟨_, rfl⟩
 simp only at HC ⊢
 rw [hZ] at HC ⊢
 clear hZ hT hR
 go_enter Tryz.func97, Tryz.ntmps97
 go_wp2_with fail
 refine HC.out.mono ?_
 rintro e w1 ⟨v, rfl, o1, b1⟩
 have O1 := Lib.hid o1
 have B1 := Lib.hid b1
 clear o1 b1
 go_wp2_with fail
 go_ret
 exact ⟨_, rfl, O1.out.weaken (by simp), below_then (below_alloc w _) B1.out⟩
def Fresh (w w' : World) (x : Nat) : Prop := w.heap.size ≤ x ∧ x < w'.heap.size
def NdTo (w : World) (b : Nat) (f : Int) (n : Nd) (R : List Tok) (ed : Ending) (w' : World) : Prop :=
 ∃ v, ed = .returned (.agg v) ∧ Treed w' (Fresh w w') n v ∧ IsT w' b R f ∧ w.grownBy w' (some b)
theorem treed_set {w : World} {B : Nat} {v : Value} {rs : List (Int × Int)} (h : OwnN w B 30 2 v rs.length (prC rs)) : ∃ A c, v = .slice A rs.length c ∧ Treed w (fun x => B ≤ x ∧ x < w.heap.size) (.mk 2 0 0 rs []) #[.int .i64 2, .slice A rs.length c, .int .i64 0, .int .i64 0, .slice none 0 0] := by
 obtain ⟨A, c, hv, hc, hl⟩ := LiesP.own (P := fun x => B ≤ x ∧ x < w.heap.size) h (fun x h1 h2 _ => ⟨h1, h2⟩)
 exact ⟨A, c, hv, .mk (ks := []) [] hl hc rfl LiesP.none (by decide) (fun i h1 => by simp at h1)⟩
def PatOk (b : Nat) (f : Int) (pat : List Tok → PR) : Prop :=
 ∀ (u : World) (T : List Tok) (n : Nd) (R : List Tok), FoTabs u → IsT u b T f → pat T = some (n, R) → Calls Tryz.prog 35 #[.pointer (some ⟨b, 0, none⟩)] u (NdTo u b f n R)
theorem dropIs_len (T : List Tok) (l : List Int) : (dropIs T l).length ≤ T.length := by
 unfold dropIs; split
 ·simp
 ·exact Nat.le_refl _
set_option maxRecDepth 20000 in
set_option maxHeartbeats 8000000 in
theorem one_char (w : World) (b : Nat) (f : Int) (t : Tok) (T : List Tok) (hT : FoTabs w) (hgb : 0 < b) (hR : IsT w b (t :: T) f) (hk : t.k = 1) :
 Calls Tryz.prog 73 #[.pointer (some ⟨b, 0, none⟩)] w (NdTo w b f (.mk 2 0 0 (behR (flag1 f) (flag2 f) [(t.c, t.c)]) []) T) := by
 have HT := Lib.hid hT
 have HLT := Lib.hid hR.lt
 obtain ⟨k, ch, lo, hi, pos⟩ := t
 simp only at hk
 subst hk
 obtain ⟨w0, hw0⟩ : ∃ u, w.alloc (.cells #[.int .i64 0, .slice none 0 0, .int .i64 0, .int .i64 0, .slice none 0 0] 35) = u := ⟨_, rfl⟩
 have G0 : Hid (w.grownBy w0 none) := Lib.hid (hw0 ▸ grown_new w _ none)
 have X0 : Hid (Box w0 w.heap.size ndZero 35) := Lib.hid (hw0 ▸ Box.new w _ _)
 have HC := Lib.hid (next_any w0 b ⟨1, ch, lo, hi, pos⟩ T f (hR.up G0.out))
 have HW0 := Lib.hid hw0
 have HSET : Hid (∀ u, FoTabs u → IsT u b T f → Calls Tryz.prog 97 #[.pointer (some ⟨b, 0, none⟩), .agg #[.int .i64 1, .int .i64 ch, .int .i64 lo, .int .i64 hi, .int .i64 pos]] u (RowedRg u (behR (flag1 f) (flag2 f) [(ch, ch)]))) := Lib.hid fun u h1 h2 => trset1_any u b T f ⟨1, ch, lo, hi, pos⟩ h1 h2 rfl
 simp only
 obtain ⟨Z, hZ⟩ : ∃ Z, behR (flag1 f) (flag2 f) [(ch, ch)] = Z := ⟨_, rfl⟩
 rw [hZ] at HSET ⊢
 clear hw0 hT hR hZ
 go_enter Tryz.func73, Tryz.ntmps73
 go_wp2_with fail
 rw [HW0.out]
 refine HC.out.mono ?_
 rintro e w1 ⟨rfl, r1, g1⟩
 have R1 := Lib.hid r1
 have G1 := Lib.hid ((grownBy_none G0.out (some b)).trans g1)
 have X1 := Lib.hid (X0.out.kept g1 (by have := HLT.out; simp; omega))
 clear r1 g1
 have HTB := Lib.hid (HT.out.grown G1.out (by omega))
 have HC2 := Lib.hid (HSET.out (w1.alloc (.cells #[.int .i64 1, .int .i64 ch, .int .i64 lo, .int .i64 hi, .int .i64 pos] 66)) (HTB.out.grown0 (grown_new _ _ none)) (R1.out.up (grown_new _ _ none)))
 go_wp2_with fail
 refine HC2.out.mono ?_
 rintro e w2 ⟨v2, rfl, o2, b2⟩
 have R2 := Lib.hid ((R1.out.up (grown_new _ (.cells #[.int .i64 1, .int .i64 ch, .int .i64 lo, .int .i64 hi, .int .i64 pos] 66) none)).up (grown_of_below b2 none))
 have G2 := Lib.hid (G1.out.trans (grownBy_none ((grown_new w1 (.cells #[.int .i64 1, .int .i64 ch, .int .i64 lo, .int .i64 hi, .int .i64 pos] 66) none).trans (grown_of_below b2 none)) (some b)))
 have X2 := Lib.hid ((X1.out.kept (grown_new w1 (.cells #[.int .i64 1, .int .i64 ch, .int .i64 lo, .int .i64 hi, .int .i64 pos] 66) none) (by simp)).kept (grown_of_below b2 none) (by simp))
 obtain ⟨A2, c2, rfl, t2⟩ := treed_set o2
 have T2 : Hid (Treed w2 (fun x => w.heap.size + 1 ≤ x ∧ x < w2.heap.size) (.mk 2 0 0 Z []) #[.int .i64 2, .slice A2 Z.length c2, .int .i64 0, .int .i64 0, .slice none 0 0]) := Lib.hid (t2.mono fun x hx => by have := X1.out.lt; have := hx.1; have := hx.2; rw [World.size_alloc] at *; omega)
 clear o2 b2 t2
 go_wp2_with (first
  | (refine store_nd w2 _ _ w.heap.size ndZero #[.int .i64 2, .slice A2 Z.length c2, .int .i64 0, .int .i64 0, .slice none 0 0] rfl rfl rfl rfl rfl X2.out rfl rfl (by simp [Value.oneCell']) ?_; intro w3 x3 g3; have X3 := Lib.hid x3; have R3 := Lib.hid (R2.out.grown g3 (fun g e => by injection e with e; have := HLT.out; omega)); have G3 := Lib.hid (grown_two G2.out g3 (Nat.le_refl _)); have T3 := Lib.hid (T2.out.grown g3 (fun x hx e => by injection e with e; omega)); have HSZ := Lib.hid g3.size; clear x3 g3)
  | fail)
 (try simp only [Exit.inBlock, Exit.then])
 exact bodyPost_ret (v := .agg _) (ret_nd rfl _ _ w.heap.size _ rfl rfl X3.out) rfl ⟨_, rfl, T3.out.mono fun x hx => ⟨by omega, Nat.lt_of_lt_of_le hx.2 HSZ.out⟩, R3.out, G3.out⟩
set_option maxRecDepth 20000 in
set_option maxHeartbeats 8000000 in
theorem one_open (w : World) (b : Nat) (f : Int) (t : Tok) (T : List Tok) (pat : List Tok → PR) (HP : PatOk b f pat) (n : Nd) (R : List Tok) (hpat : pat T = some (n, R)) (hT : FoTabs w) (hgb : 0 < b) (hR : IsT w b (t :: T) f) (hk : t.k = 3) :
 Calls Tryz.prog 73 #[.pointer (some ⟨b, 0, none⟩)] w (NdTo w b f n (dropIs R [4])) := by
 have HT := Lib.hid hT
 have HLT := Lib.hid hR.lt
 obtain ⟨k, ch, lo, hi, pos⟩ := t
 simp only at hk
 subst hk
 obtain ⟨w0, hw0⟩ : ∃ u, w.alloc (.cells #[.int .i64 0, .slice none 0 0, .int .i64 0, .int .i64 0, .slice none 0 0] 35) = u := ⟨_, rfl⟩
 have G0 : Hid (w.grownBy w0 none) := Lib.hid (hw0 ▸ grown_new w _ none)
 have X0 : Hid (Box w0 w.heap.size ndZero 35) := Lib.hid (hw0 ▸ Box.new w _ _)
 have HC := Lib.hid (next_any w0 b ⟨3, ch, lo, hi, pos⟩ T f (hR.up G0.out))
 have HW0 := Lib.hid hw0
 have HPH : Hid (∀ u, FoTabs u → IsT u b T f → Calls Tryz.prog 35 #[.pointer (some ⟨b, 0, none⟩)] u (NdTo u b f n R)) := Lib.hid fun u h1 h2 => HP u T n R h1 h2 hpat
 clear hw0 hT hR HP hpat
 go_enter Tryz.func73, Tryz.ntmps73
 go_wp2_with fail
 rw [HW0.out]
 refine HC.out.mono ?_
 rintro e w1 ⟨rfl, r1, g1⟩
 have R1 := Lib.hid r1
 have G1 := Lib.hid ((grownBy_none G0.out (some b)).trans g1)
 have X1 := Lib.hid (X0.out.kept g1 (by have := HLT.out; simp; omega))
 clear r1 g1
 have HTB := Lib.hid (HT.out.grown G1.out (by omega))
 have N1 : w1.grownBy (w1.alloc (.cells #[.int .i64 3, .int .i64 ch, .int .i64 lo, .int .i64 hi, .int .i64 pos] 66)) none := grown_new _ _ none
 have HC2 := Lib.hid (HPH.out (w1.alloc (.cells #[.int .i64 3, .int .i64 ch, .int .i64 lo, .int .i64 hi, .int .i64 pos] 66)) (HTB.out.grown0 N1) (R1.out.up N1))
 have G1b := Lib.hid (G1.out.trans (grownBy_none N1 (some b)))
 have X1b := Lib.hid (X1.out.kept N1 (by simp))
 have HS1 : Hid (w.heap.size < (w1.alloc (.cells #[.int .i64 3, .int .i64 ch, .int .i64 lo, .int .i64 hi, .int .i64 pos] 66)).heap.size) := Lib.hid X1b.out.lt
 clear N1
 go_wp2_with fail
 refine HC2.out.mono ?_
 rintro e w2 ⟨v2, rfl, t2, r2, g2⟩
 have h5 := t2.size
 have h51 := t2.one
 have R2 := Lib.hid r2
 have T2 := Lib.hid t2
 have G2 := Lib.hid (G1b.out.trans g2)
 have X2 := Lib.hid (X1b.out.kept g2 (by have := HLT.out; simp; omega))
 have HG2 := Lib.hid g2.size
 clear t2 r2 g2
 have Y2 : Hid (Box (w2.alloc (.cells #[.int .i64 0, .slice none 0 0, .int .i64 0, .int .i64 0, .slice none 0 0] 35)) w2.heap.size ndZero 35) := Lib.hid (Box.new w2 _ _)
 have HLW : Hid (b < w2.heap.size) := Lib.hid R2.out.lt
 have HWW : Hid (w.heap.size < w2.heap.size) := Lib.hid X2.out.lt
 go_wp2_with (first
  | (refine store_nd _ _ _ w2.heap.size ndZero v2 rfl rfl rfl rfl rfl Y2.out rfl h5 h51 ?_; intro w3 x3 g3; have Y3 := Lib.hid x3; have N3 : Hid (w2.grownBy w3 none) := Lib.hid (grown_two (grown_new w2 _ none) g3 (Nat.le_refl _)); have X3 := Lib.hid (X2.out.kept N3.out (by simp)); have R3 := Lib.hid (R2.out.up N3.out); have T3 := Lib.hid (T2.out.grown N3.out (fun x hx e => by cases e)); have G3 := Lib.hid (G2.out.trans (grownBy_none N3.out (some b))); clear x3 g3)
  | fail)
 have N3b : w3.grownBy (w3.alloc (.cells #[.int .i64 4] 3)) none := grown_new _ _ none
 have HTK := Lib.hid (takes_any (w3.alloc (.cells #[.int .i64 4] 3)) b R f _ (some ⟨w3.heap.size, 0, none⟩) [4] 1 (R3.out.up N3b) (litI w3 [4]) (by decide) (by simp))
 have X3b := Lib.hid (X3.out.kept N3b (by simp))
 have Y3b := Lib.hid (Y3.out.kept N3b (by simp))
 have T3b := Lib.hid (T3.out.grown N3b (fun x hx e => by cases e))
 have G3b := Lib.hid (G3.out.trans (grownBy_none N3b (some b)))
 clear N3b
 refine HTK.out.mono ?_
 rintro e w4 ⟨rfl, r4, g4⟩
 have R4 := Lib.hid r4
 have X4 := Lib.hid (X3b.out.kept g4 (by have := HLT.out; simp; omega))
 have Y4 := Lib.hid (Y3b.out.kept g4 (by have := HLW.out; simp; omega))
 have T4 := Lib.hid (T3b.out.grown g4 (fun x hx e => by injection e with e; have := hx.1; have := HS1.out; have := HLT.out; omega))
 have G4 := Lib.hid (G3b.out.trans g4)
 have HZ4 := Lib.hid (Nat.le_trans N3.out.size (Nat.le_trans (show w3.heap.size ≤ _ by simp) g4.size))
 clear r4 g4
 go_wp2_with (first
  | (refine load_nd _ w2.heap.size v2 rfl rfl rfl Y4.out h5 ?_)
  | (refine store_nd w4 _ _ w.heap.size ndZero v2 rfl rfl rfl rfl rfl X4.out rfl h5 h51 ?_; intro w5 x5 g5; have X5 := Lib.hid x5; have R5 := Lib.hid (R4.out.grown g5 (fun g e => by injection e with e; have := HLT.out; omega)); have G5 := Lib.hid (grown_two G4.out g5 (Nat.le_refl _)); have T5 := Lib.hid (T4.out.grown g5 (fun x hx e => by injection e with e; have := hx.1; have := HS1.out; omega)); have HZ5 := Lib.hid (Nat.le_trans HZ4.out g5.size); clear x5 g5)
  | fail)
 (try simp only [Exit.inBlock, Exit.then])
 exact bodyPost_ret (v := .agg _) (ret_nd rfl _ _ w.heap.size _ h5 rfl X5.out) rfl ⟨_, rfl, T5.out.mono fun x hx => ⟨by have := hx.1; have := HS1.out; omega, Nat.lt_of_lt_of_le hx.2 HZ5.out⟩, R5.out, G5.out⟩
end Go.Proofs.YtkojnnjcgcllmaaGreatDoor
namespace Go.Proofs.YtkojnnjcgcllmaaGreatDoor
open Go.RowKit
section
variable {pat : List Tok → PR} {b : Nat} {f : Int}
theorem one_any (HP : PatOk b f pat) (hgb : 0 < b) (w : World) (T : List Tok) (n : Nd) (R : List Tok) (hT : FoTabs w) (hR : IsT w b T f) (h : oneT pat f T = some (n, R)) :
 Calls Tryz.prog 73 #[.pointer (some ⟨b, 0, none⟩)] w (NdTo w b f n R) := by
 rcases T with _ | ⟨t, T⟩
 ·cases h
 ·unfold oneT at h
  simp only at h
  by_cases h3 : t.k = 3
  ·rw [if_pos h3] at h
   rcases hp : pat T with _ | ⟨n', R'⟩
   ·rw [hp] at h; cases h
   ·rw [hp] at h
    injection h with h
    injection h with h1 h2
    subst h1 h2
    exact one_open w b f t T pat HP n' R' hp hT hgb hR h3
  ·rw [if_neg h3] at h
   by_cases h1 : t.k = 1
   ·rw [if_pos h1] at h
    injection h with h
    injection h with e1 e2
    subst e1 e2
    exact one_char w b f t T hT hgb hR h1
   ·rw [if_neg h1] at h; cases h
theorem rpT_form {T : List Tok} {m : Nd} {S : List Tok} (h : rpT pat f T = some (m, S)) : ∃ n R, oneT pat f T = some (n, R) ∧ ((kindIs R [6] = false ∧ m = n ∧ S = dropIs R [13]) ∨ (∃ t R', R = t :: R' ∧ t.k = 6 ∧ m = .mk 5 t.lo t.hi [] [n] ∧ S = dropIs R' [13])) := by
 unfold rpT at h
 rcases ho : oneT pat f T with _ | ⟨n, R⟩
 ·rw [ho] at h; cases h
 ·rw [ho] at h
  refine ⟨n, R, rfl, ?_⟩
  rcases R with _ | ⟨t, R'⟩
  ·injection h with h
   injection h with e1 e2
   exact .inl ⟨rfl, e1.symm, e2.symm⟩
  ·simp only at h
   by_cases h6 : t.k = 6
   ·rw [if_pos h6] at h
    injection h with h
    injection h with e1 e2
    exact .inr ⟨t, R', rfl, h6, e1.symm, e2.symm⟩
   ·rw [if_neg h6] at h
    injection h with h
    injection h with e1 e2
    exact .inl ⟨by simp [kindIs, h6], e1.symm, e2.symm⟩
end
theorem treed_rep {w : World} {P : Nat → Prop} {n : Nd} {v : Array Value} (lo hi : Int) {g : Nat} (h : Treed w P n v) (hl : Box w g v 35) (hg : P g) :
 Treed w P (.mk 5 lo hi [] [n]) #[.int .i64 5, .slice none 0 0, .int .i64 lo, .int .i64 hi, .slice (some ⟨g, 0, none⟩) 1 1] := by
 refine .mk (rs := []) (ks := [n]) [v] LiesP.none (by decide) rfl (fun _ => ⟨g, 0, rfl, hg, hl.lt, fun i u hu => ?_⟩) (by simp [maxLen]) (fun i h1 h2 => ?_)
 ·rw [Nat.zero_add]
  refine hl.cell ?_
  rw [← hu]
  simp
 ·simp only [List.length_cons, List.length_nil] at h1
  obtain rfl : i = 0 := by omega
  exact h
set_option maxRecDepth 20000 in
set_option maxHeartbeats 8000000 in
theorem rep_any {pat : List Tok → PR} {b : Nat} {f : Int} (HP : PatOk b f pat) (hgb : 0 < b) (w : World) (T : List Tok) (m : Nd) (S : List Tok) (hT : FoTabs w) (hR : IsT w b T f) (h : rpT pat f T = some (m, S)) :
 Calls Tryz.prog 61 #[.pointer (some ⟨b, 0, none⟩)] w (NdTo w b f m S) := by
 obtain ⟨n, R, ho, hform⟩ := rpT_form h
 have HT := Lib.hid hT
 have HLT := Lib.hid hR.lt
 obtain ⟨w0, hw0⟩ : ∃ u, w.alloc (.cells #[.int .i64 0, .slice none 0 0, .int .i64 0, .int .i64 0, .slice none 0 0] 35) = u := ⟨_, rfl⟩
 have G0 : Hid (w.grownBy w0 none) := Lib.hid (hw0 ▸ grown_new w _ none)
 have X0 : Hid (Box w0 w.heap.size ndZero 35) := Lib.hid (hw0 ▸ Box.new w _ _)
 have HC := Lib.hid (one_any HP hgb w0 T n R (HT.out.grown0 G0.out) (hR.up G0.out) ho)
 have HW0 := Lib.hid hw0
 have HZ0 : Hid (w0.heap.size = w.heap.size + 1) := Lib.hid (by rw [← hw0]; simp)
 clear hw0 hT hR HP ho h
 go_enter Tryz.func61, Tryz.ntmps61
 go_wp2_with fail
 rw [HW0.out]
 refine HC.out.mono ?_
 rintro e w1 ⟨v1, rfl, t1, r1, g1⟩
 have h5 := t1.size
 have h51 := t1.one
 have R1 := Lib.hid r1
 have T1 := Lib.hid t1
 have G1 := Lib.hid ((grownBy_none G0.out (some b)).trans g1)
 have X1 := Lib.hid (X0.out.kept g1 (by have := HLT.out; simp; omega))
 have HLW : Hid (b < w1.heap.size) := Lib.hid r1.lt
 have HWW : Hid (w.heap.size < w1.heap.size) := Lib.hid X1.out.lt
 have Y1 : Hid (Box (w1.alloc (.cells #[.int .i64 0, .slice none 0 0, .int .i64 0, .int .i64 0, .slice none 0 0] 35)) w1.heap.size ndZero 35) := Lib.hid (Box.new w1 _ _)
 clear r1 t1 g1
 go_wp2_with (first
  | (refine store_nd _ _ _ w1.heap.size ndZero v1 rfl rfl rfl rfl rfl Y1.out rfl h5 h51 ?_; intro w2 x2 g2; have Y2 := Lib.hid x2; have N2 : Hid (w1.grownBy w2 none) := Lib.hid (grown_two (grown_new w1 _ none) g2 (Nat.le_refl _)); have X2 := Lib.hid (X1.out.kept N2.out (by simp)); have R2 := Lib.hid (R1.out.up N2.out); have T2 := Lib.hid (T1.out.grown N2.out (fun x hx e => by cases e)); have G2 := Lib.hid (G1.out.trans (grownBy_none N2.out (some b))); clear x2 g2)
  | fail)
 have N2b : w2.grownBy (w2.alloc (.cells #[.int .i64 6] 3)) none := grown_new _ _ none
 have HSE := Lib.hid (sees_any (w2.alloc (.cells #[.int .i64 6] 3)) b R f _ (some ⟨w2.heap.size, 0, none⟩) [6] 1 (R2.out.up N2b) (litI w2 [6]) (by decide) (by simp))
 have N2c := Lib.hid N2b
 clear N2b
 refine HSE.out.mono ?_
 rintro e w3 ⟨rfl, g3⟩
 have N3 := Lib.hid (N2c.out.trans g3)
 have X3 := Lib.hid (X2.out.kept N3.out (by simp))
 have Y3 := Lib.hid (Y2.out.kept N3.out (by simp))
 have T3 := Lib.hid (T2.out.grown N3.out (fun x hx e => by cases e))
 have R3 := Lib.hid (R2.out.up N3.out)
 have G3 := Lib.hid (G2.out.trans (grownBy_none N3.out (some b)))
 have HZ3 := Lib.hid (Nat.le_trans N2.out.size N3.out.size)
 clear g3
 rcases hform with ⟨hk, rfl, rfl⟩ | ⟨t, R', rfl, hk, rfl, rfl⟩
 ·rw [hk]
  clear hk
  go_wp2_with fail
  have N3b : w3.grownBy (w3.alloc (.cells #[.int .i64 13] 3)) none := grown_new _ _ none
  have HTK := Lib.hid (takes_any (w3.alloc (.cells #[.int .i64 13] 3)) b R f _ (some ⟨w3.heap.size, 0, none⟩) [13] 1 (R3.out.up N3b) (litI w3 [13]) (by decide) (by simp))
  have X3b := Lib.hid (X3.out.kept N3b (by simp))
  have Y3b := Lib.hid (Y3.out.kept N3b (by simp))
  have T3b := Lib.hid (T3.out.grown N3b (fun x hx e => by cases e))
  have G3b := Lib.hid (G3.out.trans (grownBy_none N3b (some b)))
  have HZ3b := Lib.hid (Nat.le_trans HZ3.out N3b.size)
  clear N3b
  refine HTK.out.mono ?_
  rintro e w4 ⟨rfl, r4, g4⟩
  have R4 := Lib.hid r4
  have X4 := Lib.hid (X3b.out.kept g4 (by have := HLT.out; simp; omega))
  have Y4 := Lib.hid (Y3b.out.kept g4 (by have := HLW.out; simp; omega))
  have T4 := Lib.hid (T3b.out.grown g4 (fun x hx e => by injection e with e; have := hx.1; have := HZ0.out; have := HLT.out; omega))
  have G4 := Lib.hid (G3b.out.trans g4)
  have HZ4 := Lib.hid (Nat.le_trans HZ3b.out g4.size)
  clear r4 g4
  go_wp2_with (first
   | (refine load_nd _ w1.heap.size v1 rfl rfl rfl Y4.out h5 ?_)
   | (refine store_nd w4 _ _ w.heap.size ndZero v1 rfl rfl rfl rfl rfl X4.out rfl h5 h51 ?_; intro w5 x5 g5; have X5 := Lib.hid x5; have R5 := Lib.hid (R4.out.grown g5 (fun g e => by injection e with e; have := HLT.out; omega)); have G5 := Lib.hid (grown_two G4.out g5 (Nat.le_refl _)); have T5 := Lib.hid (T4.out.grown g5 (fun x hx e => by injection e with e; have := hx.1; have := HZ0.out; omega)); have HZ5 := Lib.hid (Nat.le_trans HZ4.out g5.size); clear x5 g5)
   | fail)
  (try simp only [Exit.inBlock, Exit.then])
  exact bodyPost_ret (v := .agg _) (ret_nd rfl _ _ w.heap.size _ h5 rfl X5.out) rfl ⟨_, rfl, T5.out.mono fun x hx => ⟨by have := hx.1; have := HZ0.out; omega, Nat.lt_of_lt_of_le hx.2 HZ5.out⟩, R5.out, G5.out⟩
 ·rw [show kindIs (t :: R') [6] = true by simp [kindIs, hk]]
  obtain ⟨k, ch, lo, hi, pos⟩ := t
  simp only at hk
  subst hk
  have HNX := Lib.hid (next_any w3 b ⟨6, ch, lo, hi, pos⟩ R' f R3.out)
  simp only
  go_wp2_with fail
  refine HNX.out.mono ?_
  rintro e w4 ⟨rfl, r4, g4⟩
  have R4 := Lib.hid r4
  have X4 := Lib.hid (X3.out.kept g4 (by have := HLT.out; simp; omega))
  have Y4 := Lib.hid (Y3.out.kept g4 (by have := HLW.out; simp; omega))
  have T4 := Lib.hid (T3.out.grown g4 (fun x hx e => by injection e with e; have := hx.1; have := HZ0.out; have := HLT.out; omega))
  have G4 := Lib.hid (G3.out.trans g4)
  have HZ4 := Lib.hid (Nat.le_trans HZ3.out g4.size)
  clear r4 g4
  obtain ⟨k1, Ar, nr, cr, lo1, hi1, Ak, nk, ck, rfl⟩ := T4.out.form
  have M4 : w4.grownBy ((w4.alloc (.cells #[.int .i64 6, .int .i64 ch, .int .i64 lo, .int .i64 hi, .int .i64 pos] 66)).alloc (.cells #[.int .i64 k1, .slice Ar nr cr, .int .i64 lo1, .int .i64 hi1, .slice Ak nk ck] 35)) none := (grown_new _ _ none).trans (grown_new _ _ none)
  have Y5 := Lib.hid (Y4.out.kept M4 (by simp))
  have X5 := Lib.hid (X4.out.kept M4 (by simp))
  have R5 := Lib.hid (R4.out.up M4)
  have G5 := Lib.hid (G4.out.trans (grownBy_none M4 (some b)))
  have T5 := Lib.hid (T4.out.grown M4 (fun x hx e => by cases e))
  have HZ5 := Lib.hid (Nat.le_trans HZ4.out M4.size)
  have L5 : Hid (Box ((w4.alloc (.cells #[.int .i64 6, .int .i64 ch, .int .i64 lo, .int .i64 hi, .int .i64 pos] 66)).alloc (.cells #[.int .i64 k1, .slice Ar nr cr, .int .i64 lo1, .int .i64 hi1, .slice Ak nk ck] 35)) (w4.heap.size + 1) #[.int .i64 k1, .slice Ar nr cr, .int .i64 lo1, .int .i64 hi1, .slice Ak nk ck] 35) := Lib.hid (by
   have := Box.new (w4.alloc (.cells #[.int .i64 6, .int .i64 ch, .int .i64 lo, .int .i64 hi, .int .i64 pos] 66)) #[.int .i64 k1, .slice Ar nr cr, .int .i64 lo1, .int .i64 hi1, .slice Ak nk ck] 35
   rw [World.size_alloc] at this
   exact this)
  clear M4
  go_wp2_with (first
   | (refine load_nd _ w1.heap.size _ rfl rfl rfl (Y4.out.kept (grown_new _ _ none) (by simp)) rfl ?_)
   | (refine store_nd _ _ _ w1.heap.size _ #[.int .i64 5, .slice none 0 0, .int .i64 lo, .int .i64 hi, .slice (some ⟨w4.heap.size + 1, 0, none⟩) 1 1] rfl rfl rfl rfl rfl Y5.out rfl rfl (by simp [Value.oneCell']) ?_; intro w6 x6 g6; have Y6 := Lib.hid x6; have X6 := Lib.hid (X5.out.kept g6 (by have := HWW.out; simp; omega)); have R6 := Lib.hid (R5.out.grown g6 (fun g e => by injection e with e; have := HLW.out; omega)); have T6 := Lib.hid (T5.out.grown g6 (fun x hx e => by injection e with e; have := hx.2; omega)); have L6 := Lib.hid (L5.out.kept g6 (by have := HZ4.out; simp; omega)); have G6 := Lib.hid (grown_two G5.out g6 (by have := HWW.out; omega)); have HZ6 := Lib.hid (Nat.le_trans HZ5.out g6.size); clear x6 g6)
   | fail)
  have TR : Hid (Treed w6 (fun x => w0.heap.size ≤ x ∧ x < w6.heap.size ∧ x ≠ w1.heap.size) (.mk 5 lo hi [] [n]) #[.int .i64 5, .slice none 0 0, .int .i64 lo, .int .i64 hi, .slice (some ⟨w4.heap.size + 1, 0, none⟩) 1 1]) := Lib.hid (treed_rep lo hi (T6.out.mono fun x hx => ⟨hx.1, Nat.lt_of_lt_of_le hx.2 HZ6.out, by have := hx.2; omega⟩) L6.out ⟨by have := HZ4.out; have := HZ0.out; have := HWW.out; omega, L6.out.lt, by have := HZ4.out; omega⟩)
  have N6b : w6.grownBy (w6.alloc (.cells #[.int .i64 13] 3)) none := grown_new _ _ none
  have HTK := Lib.hid (takes_any (w6.alloc (.cells #[.int .i64 13] 3)) b R' f _ (some ⟨w6.heap.size, 0, none⟩) [13] 1 (R6.out.up N6b) (litI w6 [13]) (by decide) (by simp))
  have X6b := Lib.hid (X6.out.kept N6b (by simp))
  have Y6b := Lib.hid (Y6.out.kept N6b (by simp))
  have T6b := Lib.hid (TR.out.grown N6b (fun x hx e => by cases e))
  have G6b := Lib.hid (G6.out.trans (grownBy_none N6b (some b)))
  have HZ6b : Hid (w6.heap.size ≤ (w6.alloc (.cells #[.int .i64 13] 3)).heap.size) := Lib.hid N6b.size
  clear N6b
  refine HTK.out.mono ?_
  rintro e w7 ⟨rfl, r7, g7⟩
  have R7 := Lib.hid r7
  have X7 := Lib.hid (X6b.out.kept g7 (by have := HLT.out; simp; omega))
  have Y7 := Lib.hid (Y6b.out.kept g7 (by have := HLW.out; simp; omega))
  have T7 := Lib.hid (T6b.out.grown g7 (fun x hx e => by injection e with e; have := hx.1; have := HZ0.out; have := HLT.out; omega))
  have G7 := Lib.hid (G6b.out.trans g7)
  have HZ7 := Lib.hid (Nat.le_trans HZ6b.out g7.size)
  clear r7 g7
  go_wp2_with (first
   | (refine load_nd _ w1.heap.size _ rfl rfl rfl Y7.out rfl ?_)
   | (refine store_nd w7 _ _ w.heap.size ndZero #[.int .i64 5, .slice none 0 0, .int .i64 lo, .int .i64 hi, .slice (some ⟨w4.heap.size + 1, 0, none⟩) 1 1] rfl rfl rfl rfl rfl X7.out rfl rfl (by simp [Value.oneCell']) ?_; intro w8 x8 g8; have X8 := Lib.hid x8; have R8 := Lib.hid (R7.out.grown g8 (fun g e => by injection e with e; have := HLT.out; omega)); have G8 := Lib.hid (grown_two G7.out g8 (Nat.le_refl _)); have T8 := Lib.hid (T7.out.grown g8 (fun x hx e => by injection e with e; have := hx.1; have := HZ0.out; omega)); have HZ8 := Lib.hid (Nat.le_trans HZ7.out g8.size); clear x8 g8)
   | fail)
  (try simp only [Exit.inBlock, Exit.then])
  exact bodyPost_ret (v := .agg _) (ret_nd rfl _ _ w.heap.size _ rfl rfl X8.out) rfl ⟨_, rfl, T8.out.mono fun x hx => ⟨by have := hx.1; have := HZ0.out; omega, Nat.lt_of_lt_of_le hx.2.1 HZ8.out⟩, R8.out, G8.out⟩
end Go.Proofs.YtkojnnjcgcllmaaGreatDoor
