/- P17.1, ShowWithin: what is shown of a part stands in what is shown of the whole; a part that is an or is in brackets. Any two trees. -/
import Derived.Test.YtoeocodfndbebaaGreatDoorZA10
import Derived.Test.YtoeocodfndbebaaGreatDoorZA23
namespace Go.Proofs.YtoeocodfndbebaaGreatDoor
open Go.ChangeShapes Go.WideShapes Go.ChangeAt Go.RowKit
theorem text_or2 (a b : Nd) : textN (.mk 4 0 0 [] [a, b]) = inBr (kindN a == 4) (textN a) ++ 124 :: inBr (kindN b == 4) (textN b) := by
 rw [textN_form, if_neg (by decide), if_neg (by decide), if_neg (by decide), if_neg (by decide), if_neg (by decide), if_pos rfl, orTx, orTx]
 simp
theorem within_plain (a b : Nd) (h : (patI (.mk 4 0 0 [] [a, b])).2 = 0) : (patI a).2 = 0 ∧ (patI b).2 = 0 ∧ (patI (.mk 4 0 0 [] [a, b])).1 = inBr (kindN a == 4) (patI a).1 ++ 124 :: inBr (kindN b == 4) (patI b).1 ∧ (patI (.mk 4 0 0 [] [a, b])).1.length ≤ 200 := by
 have ht := text_or2 a b
 unfold patI at h
 by_cases hr : rightN (.mk 4 0 0 [] [a, b]) = false
 ·rw [if_pos hr] at h; cases h
 rw [if_neg hr] at h
 by_cases hl : 200 < (textN (.mk 4 0 0 [] [a, b])).length
 ·rw [if_pos hl] at h; cases h
 have hr' : rightN (.mk 4 0 0 [] [a, b]) = true := by simpa using hr
 unfold rightN at hr'
 simp only [Bool.and_eq_true, decide_eq_true_eq] at hr'
 simp only [cntN, cntL, rngN, rngL, deepN, deepL, allN, allL, List.length_nil, Bool.and_eq_true] at hr'
 obtain ⟨⟨⟨h1, h2⟩, h3⟩, h4, h5, h6, -⟩ := hr'
 have ra : rightN a = true := by
  unfold rightN
  simp only [Bool.and_eq_true, decide_eq_true_eq]
  exact ⟨⟨⟨by omega, by omega⟩, by omega⟩, h5⟩
 have rb : rightN b = true := by
  unfold rightN
  simp only [Bool.and_eq_true, decide_eq_true_eq]
  exact ⟨⟨⟨by omega, by omega⟩, by omega⟩, h6⟩
 have hl0 := Nat.le_of_not_lt hl
 have hlen : (textN a).length ≤ 200 ∧ (textN b).length ≤ 200 := by
  rw [ht] at hl
  have i1 : ∀ (b : Bool) (x : List Int), x.length ≤ (inBr b x).length := fun b x => by unfold inBr; split <;> simp <;> omega
  have := i1 (kindN a == 4) (textN a)
  have := i1 (kindN b == 4) (textN b)
  simp only [List.length_append, List.length_cons] at hl
  omega
 have pa : patI a = (textN a, 0) := by unfold patI; rw [ra, if_neg (by simp), if_neg (by omega)]
 have pb : patI b = (textN b, 0) := by unfold patI; rw [rb, if_neg (by simp), if_neg (by omega)]
 have pc : patI (.mk 4 0 0 [] [a, b]) = (textN (.mk 4 0 0 [] [a, b]), 0) := by unfold patI; rw [if_neg hr, if_neg hl]
 rw [pa, pb, pc]
 exact ⟨rfl, rfl, ht, hl0⟩
theorem own_apart {v v' : Value} (h : ∀ x, v.ownBlock = some x → v'.ownBlock ≠ some x) : v.ownBlock = none ∨ v.ownBlock ≠ v'.ownBlock := by
 rcases hx : v.ownBlock with _ | x
 ·exact .inl rfl
 ·exact .inr fun e => h x hx e.symm
theorem treed_two {w : World} {P : Nat → Prop} {a b : Nd} {va vb : Array Value} (ta : Treed w P a va) (tb : Treed w P b vb) (u : World) (hu : Agree w P u) (hw : ∀ x, P x → x < w.heap.size) :
 Treed (u.alloc (.cells (va ++ vb) 25)) (fun x => x < (u.alloc (.cells (va ++ vb) 25)).heap.size) (.mk 4 0 0 [] [a, b]) #[.int .i64 4, .slice none 0 0, .int .i64 0, .int .i64 0, .slice (some ⟨u.heap.size, 0, none⟩) 2 2] := by
 have hk : ∀ {n : Nd} {v : Array Value}, Treed w P n v → Treed (u.alloc (.cells (va ++ vb) 25)) (fun x => x < (u.alloc (.cells (va ++ vb) 25)).heap.size) n v := fun t =>
  (t.keep (fun b hb hl => ((grown_new u _ none).block b (Nat.lt_of_lt_of_le hl hu.2) (by simp)).trans (hu.1 b hb hl)) (Nat.le_trans hu.2 (grown_new u (.cells (va ++ vb) 25) none).size)).mono fun x hx => by
   have := hw x hx
   have := hu.2
   simp; omega
 refine .mk (rs := []) (ks := [a, b]) [va, vb] LiesP.none (by decide) rfl (fun _ => ⟨u.heap.size, 0, rfl, by simp, by simp, fun i x hx => ?_⟩) ⟨Nat.le_refl 2, by unfold maxLen; decide⟩ fun i h1 h2 => ?_
 ·refine (Box.new u (va ++ vb) 25).cell ?_
  rw [Nat.zero_add, ← Array.getElem?_toList]
  simpa using hx
 ·match i, h1 with
  | 0, _ => exact hk ta
  | 1, _ => exact hk tb
end Go.Proofs.YtoeocodfndbebaaGreatDoor
namespace Go.Proofs.YtoeocodfndbebaaGreatDoor.lawWithin
open Go.ChangeShapes Go.WideShapes Go.ChangeAt Go.RowKit
set_option maxRecDepth 20000 in
set_option maxHeartbeats 16000000 in
theorem walk (w : World) (hT : Tabs4 w) (a : Nd) (va : Array Value) (ta : Treed w (fun x => x < w.heap.size) a va) (b : Nd) (vb : Array Value) (tb : Treed w (fun x => x < w.heap.size) b vb) :
 Calls Tryz.prog 5 #[.agg va, .agg vb] w fun e w' => e = .returned (.bool true) ∧ Below w.heap.size w w' := by
 obtain ⟨A1, m1, c1, lo1, hi1, K1, n1, d1, hva⟩ := ta.kind
 obtain ⟨A2, m2, c2, lo2, hi2, K2, n2, d2, hvb⟩ := tb.kind
 obtain ⟨ka, hka⟩ : ∃ x, kindN a = x := ⟨_, rfl⟩
 obtain ⟨kb, hkb⟩ : ∃ x, kindN b = x := ⟨_, rfl⟩
 rw [hka] at hva
 rw [hkb] at hvb
 subst hva hvb
 have B0 : Hid (Below w.heap.size w ((w.alloc (.cells #[.int .i64 ka, .slice A1 m1 c1, .int .i64 lo1, .int .i64 hi1, .slice K1 n1 d1] 25)).alloc (.cells #[.int .i64 kb, .slice A2 m2 c2, .int .i64 lo2, .int .i64 hi2, .slice K2 n2 d2] 25))) := Lib.hid (below_row_none ((grown_new w _ none).trans (grown_new _ _ none)) (Nat.le_refl _))
 have XA0 : Hid (Box ((w.alloc (.cells #[.int .i64 ka, .slice A1 m1 c1, .int .i64 lo1, .int .i64 hi1, .slice K1 n1 d1] 25)).alloc (.cells #[.int .i64 kb, .slice A2 m2 c2, .int .i64 lo2, .int .i64 hi2, .slice K2 n2 d2] 25)) w.heap.size #[.int .i64 ka, .slice A1 m1 c1, .int .i64 lo1, .int .i64 hi1, .slice K1 n1 d1] 25) := Lib.hid ((Box.new w _ _).kept (grown_new _ _ none) (by simp))
 have XB0 : Hid (Box ((w.alloc (.cells #[.int .i64 ka, .slice A1 m1 c1, .int .i64 lo1, .int .i64 hi1, .slice K1 n1 d1] 25)).alloc (.cells #[.int .i64 kb, .slice A2 m2 c2, .int .i64 lo2, .int .i64 hi2, .slice K2 n2 d2] 25)) (w.heap.size + 1) #[.int .i64 kb, .slice A2 m2 c2, .int .i64 lo2, .int .i64 hi2, .slice K2 n2 d2] 25) := Lib.hid (by
  have := Box.new (w.alloc (.cells #[.int .i64 ka, .slice A1 m1 c1, .int .i64 lo1, .int .i64 hi1, .slice K1 n1 d1] 25)) #[.int .i64 kb, .slice A2 m2 c2, .int .i64 lo2, .int .i64 hi2, .slice K2 n2 d2] 25
  rw [World.size_alloc] at this
  exact this)
 have HAG : Hid (∀ u, Below w.heap.size w u → Agree w (fun x => x < w.heap.size) u) := Lib.hid fun u hb => ⟨fun x hx _ => hb.block x hx, hb.size⟩
 have HT := Lib.hid hT
 obtain ⟨pa, hpa⟩ : ∃ x, patI a = x := ⟨_, rfl⟩
 obtain ⟨pb, hpb⟩ : ∃ x, patI b = x := ⟨_, rfl⟩
 obtain ⟨pc, hpc⟩ : ∃ x, patI (.mk 4 0 0 [] [a, b]) = x := ⟨_, rfl⟩
 have HPL := within_plain a b
 rw [hpa, hpb, hpc, hka, hkb] at HPL
 have HWA := Lib.hid (fun u (hb : Below w.heap.size w u) => weight_some ta u 0 (HAG.out u hb).1 (HAG.out u hb).2 (by decide) (by decide))
 have HWB := Lib.hid (fun u (hb : Below w.heap.size w u) => weight_some tb u 0 (HAG.out u hb).1 (HAG.out u hb).2 (by decide) (by decide))
 have HPA := fun u (hb : Below w.heap.size w u) => shpattern_any ta u (HAG.out u hb) (HT.out.below hb).pow
 have HPB := fun u (hb : Below w.heap.size w u) => shpattern_any tb u (HAG.out u hb) (HT.out.below hb).pow
 have HPC := fun u (hb : Below w.heap.size w u) => shpattern_any (treed_two ta tb u (HAG.out u hb) (fun x hx => hx)) (u.alloc (.cells #[.int .i64 ka, .slice A1 m1 c1, .int .i64 lo1, .int .i64 hi1, .slice K1 n1 d1, .int .i64 kb, .slice A2 m2 c2, .int .i64 lo2, .int .i64 hi2, .slice K2 n2 d2] 25)) ⟨fun _ _ _ => rfl, Nat.le_refl _⟩ (HT.out.below (below_then hb (below_alloc u _))).pow
 rw [hpa] at HPA
 rw [hpb] at HPB
 rw [hpc] at HPC
 have QA := Lib.hid HPA
 have QB := Lib.hid HPB
 have QC := Lib.hid HPC
 have QL := Lib.hid HPL
 have HLV := Lib.hid (live_any ((w.alloc (.cells #[.int .i64 ka, .slice A1 m1 c1, .int .i64 lo1, .int .i64 hi1, .slice K1 n1 d1] 25)).alloc (.cells #[.int .i64 kb, .slice A2 m2 c2, .int .i64 lo2, .int .i64 hi2, .slice K2 n2 d2] 25)) (hT.below B0.out))
 clear hT ta tb hka hkb hpa hpb hpc HPA HPB HPC HPL
 obtain ⟨px, pe⟩ := pa
 obtain ⟨py, pf⟩ := pb
 obtain ⟨pz, pg⟩ := pc
 simp only at QA QB QC QL
 go_enter Tryz.func5, Tryz.ntmps5
 go_wp2_with fail
 refine HLV.out.mono ?_
 rintro e w1 ⟨rfl, b1⟩
 have B1 := Lib.hid (below_then B0.out b1)
 have XA1 := Lib.hid (XA0.out.below b1 XA0.out.lt)
 have XB1 := Lib.hid (XB0.out.below b1 XB0.out.lt)
 clear b1
 have a0 : w1.cell? ⟨w.heap.size, 0, none⟩ = some (.int .i64 ka) := XA1.out.cell rfl
 have a1 : w1.cell? ⟨w.heap.size, 1, none⟩ = some (.slice A1 m1 c1) := XA1.out.cell rfl
 have a2 : w1.cell? ⟨w.heap.size, 2, none⟩ = some (.int .i64 lo1) := XA1.out.cell rfl
 have a3 : w1.cell? ⟨w.heap.size, 3, none⟩ = some (.int .i64 hi1) := XA1.out.cell rfl
 have a4 : w1.cell? ⟨w.heap.size, 4, none⟩ = some (.slice K1 n1 d1) := XA1.out.cell rfl
 go_wp2_with fail
 refine (HWA.out _ B1.out).mono ?_
 rintro e w2 ⟨⟨z1, rfl⟩, g2⟩
 have B2 := Lib.hid (below_then B1.out (below_row_none g2 (Nat.le_refl _)))
 have XA2 := Lib.hid (XA1.out.kept g2 (by simp))
 have XB2 := Lib.hid (XB1.out.kept g2 (by simp))
 clear g2 a0 a1 a2 a3 a4
 rcases hz1 : decide (300 < z1) with _ | _
 case true =>
  have hz1' : decide (z1 > 300) = true := hz1
  go_wp2_with fail
  go_ret
  exact ⟨rfl, B2.out⟩
 have hz1' : decide (z1 > 300) = false := hz1
 have b0 : w2.cell? ⟨w.heap.size + 1, 0, none⟩ = some (.int .i64 kb) := XB2.out.cell rfl
 have b1 : w2.cell? ⟨w.heap.size + 1, 1, none⟩ = some (.slice A2 m2 c2) := XB2.out.cell rfl
 have b2 : w2.cell? ⟨w.heap.size + 1, 2, none⟩ = some (.int .i64 lo2) := XB2.out.cell rfl
 have b3 : w2.cell? ⟨w.heap.size + 1, 3, none⟩ = some (.int .i64 hi2) := XB2.out.cell rfl
 have b4 : w2.cell? ⟨w.heap.size + 1, 4, none⟩ = some (.slice K2 n2 d2) := XB2.out.cell rfl
 go_wp2_with fail
 refine (HWB.out _ B2.out).mono ?_
 rintro e w3 ⟨⟨z2, rfl⟩, g3⟩
 have B3 := Lib.hid (below_then B2.out (below_row_none g3 (Nat.le_refl _)))
 have XA3 := Lib.hid (XA2.out.kept g3 (by simp))
 have XB3 := Lib.hid (XB2.out.kept g3 (by simp))
 clear g3 b0 b1 b2 b3 b4
 rcases hz2 : decide (300 < z2) with _ | _
 case true =>
  have hz2' : decide (z2 > 300) = true := hz2
  go_wp2_with fail
  go_ret
  exact ⟨rfl, B3.out⟩
 have hz2' : decide (z2 > 300) = false := hz2
 have a0 : w3.cell? ⟨w.heap.size, 0, none⟩ = some (.int .i64 ka) := XA3.out.cell rfl
 have a1 : w3.cell? ⟨w.heap.size, 1, none⟩ = some (.slice A1 m1 c1) := XA3.out.cell rfl
 have a2 : w3.cell? ⟨w.heap.size, 2, none⟩ = some (.int .i64 lo1) := XA3.out.cell rfl
 have a3 : w3.cell? ⟨w.heap.size, 3, none⟩ = some (.int .i64 hi1) := XA3.out.cell rfl
 have a4 : w3.cell? ⟨w.heap.size, 4, none⟩ = some (.slice K1 n1 d1) := XA3.out.cell rfl
 go_wp2_with fail
 refine (QA.out _ B3.out).mono ?_
 rintro e w4 ⟨v4, rfl, o4, b4⟩
 obtain ⟨X1, x1, rfl, l4, -, -⟩ := o4.form
 have L4 := Lib.hid l4
 have B4 := Lib.hid (below_then B3.out b4)
 have XA4 := Lib.hid (XA3.out.below b4 XA3.out.lt)
 have XB4 := Lib.hid (XB3.out.below b4 XB3.out.lt)
 clear o4 l4 b4 a0 a1 a2 a3 a4
 simp only [ints, List.length_map]
 have b0 : w4.cell? ⟨w.heap.size + 1, 0, none⟩ = some (.int .i64 kb) := XB4.out.cell rfl
 have b1 : w4.cell? ⟨w.heap.size + 1, 1, none⟩ = some (.slice A2 m2 c2) := XB4.out.cell rfl
 have b2 : w4.cell? ⟨w.heap.size + 1, 2, none⟩ = some (.int .i64 lo2) := XB4.out.cell rfl
 have b3 : w4.cell? ⟨w.heap.size + 1, 3, none⟩ = some (.int .i64 hi2) := XB4.out.cell rfl
 have b4 : w4.cell? ⟨w.heap.size + 1, 4, none⟩ = some (.slice K2 n2 d2) := XB4.out.cell rfl
 go_wp2_with fail
 refine (QB.out _ B4.out).mono ?_
 rintro e w5 ⟨v5, rfl, o5, b5⟩
 obtain ⟨X2, x2, rfl, l5, -, -⟩ := o5.form
 have L5 := Lib.hid l5
 have L45 := Lib.hid (L4.out.up b5)
 have B5 := Lib.hid (below_then B4.out b5)
 have XA5 := Lib.hid (XA4.out.below b5 XA4.out.lt)
 have XB5 := Lib.hid (XB4.out.below b5 XB4.out.lt)
 clear o5 l5 b5 b0 b1 b2 b3 b4
 simp only [ints, List.length_map]
 have a0 : w5.cell? ⟨w.heap.size, 0, none⟩ = some (.int .i64 ka) := XA5.out.cell rfl
 have a1 : w5.cell? ⟨w.heap.size, 1, none⟩ = some (.slice A1 m1 c1) := XA5.out.cell rfl
 have a2 : w5.cell? ⟨w.heap.size, 2, none⟩ = some (.int .i64 lo1) := XA5.out.cell rfl
 have a3 : w5.cell? ⟨w.heap.size, 3, none⟩ = some (.int .i64 hi1) := XA5.out.cell rfl
 have a4 : w5.cell? ⟨w.heap.size, 4, none⟩ = some (.slice K1 n1 d1) := XA5.out.cell rfl
 have b0 : w5.cell? ⟨w.heap.size + 1, 0, none⟩ = some (.int .i64 kb) := XB5.out.cell rfl
 have b1 : w5.cell? ⟨w.heap.size + 1, 1, none⟩ = some (.slice A2 m2 c2) := XB5.out.cell rfl
 have b2 : w5.cell? ⟨w.heap.size + 1, 2, none⟩ = some (.int .i64 lo2) := XB5.out.cell rfl
 have b3 : w5.cell? ⟨w.heap.size + 1, 3, none⟩ = some (.int .i64 hi2) := XB5.out.cell rfl
 have b4 : w5.cell? ⟨w.heap.size + 1, 4, none⟩ = some (.slice K2 n2 d2) := XB5.out.cell rfl
 go_wp2_with fail
 refine (QC.out _ B5.out).mono ?_
 rintro e w6 ⟨v6, rfl, o6, b6⟩
 obtain ⟨X3, x3, rfl, l6, -, -⟩ := o6.form
 have L6 := Lib.hid l6
 have b6' := below_then (below_alloc w5 (.cells #[.int .i64 ka, .slice A1 m1 c1, .int .i64 lo1, .int .i64 hi1, .slice K1 n1 d1, .int .i64 kb, .slice A2 m2 c2, .int .i64 lo2, .int .i64 hi2, .slice K2 n2 d2] 25)) b6
 have L46 := Lib.hid (L45.out.up b6')
 have L56 := Lib.hid (L5.out.up b6')
 have B6 := Lib.hid (below_then B5.out b6')
 have XA6 := Lib.hid (XA5.out.below b6' XA5.out.lt)
 have XB6 := Lib.hid (XB5.out.below b6' XB5.out.lt)
 clear o6 l6 b6 b6' a0 a1 a2 a3 a4 b0 b1 b2 b3 b4 hz1 hz2 hz1' hz2'
 simp only [ints, List.length_map]
 by_cases hg : pg = 0
 case neg =>
  have t3 : (pg != 0) = true := by simpa using hg
  rcases t1 : (pe != 0) with _ | _
  ·have t1' : (pe == 0) = true := by simpa using t1
   rcases t2 : (pf != 0) with _ | _
   ·have t2' : (pf == 0) = true := by simpa using t2
    clear hg
    go_wp2_with fail
    go_ret
    exact ⟨rfl, B6.out⟩
   ·have t2' : (pf == 0) = false := by simpa using t2
    clear hg
    go_wp2_with fail
    go_ret
    exact ⟨rfl, B6.out⟩
  ·have t1' : (pe == 0) = false := by simpa using t1
   clear hg
   go_wp2_with fail
   go_ret
   exact ⟨rfl, B6.out⟩
 subst hg
 obtain ⟨he, hf, hpz, hlz⟩ := QL.out rfl
 subst he hf
 have HPZ := Lib.hid hpz
 have HLZ := Lib.hid hlz
 clear hpz hlz
 have HLX : Hid ((inBr (ka == 4) px).length ≤ 200 ∧ (inBr (kb == 4) py).length ≤ 200) := Lib.hid (by have h := HLZ.out; rw [HPZ.out] at h; simp only [List.length_append, List.length_cons] at h; omega)
 go_wp2_with fail
 go_loopw [12, 11] (fun iv ov wr => ∃ i : Nat, i ≤ 2 ∧ iv = .int .i64 i ∧ Hid (Own wr w6.heap.size 3 ov (ints .i64 (if i = 0 then [] else if i = 1 then inBr (ka == 4) px else pz))) ∧ Hid (Below w6.heap.size w6 wr)) (fun iv _ _ => 2 - (intOf iv).toNat)
 case atStart => exact ⟨0, by omega, rfl, Lib.hid (Own.empty _ _ _), Lib.hid (Below.refl _ _)⟩
 case round =>
  obtain ⟨i, hi, rfl, HO, HB⟩ := hrel
  have HNE : Hid (∀ x, u11.ownBlock = some x → x < wr.heap.size) := Lib.hid fun x hx => (HO.out.inside x hx).2
  have e0 : wr.cell? ⟨w.heap.size, 0, none⟩ = some (.int .i64 ka) := (XA6.out.below HB.out XA6.out.lt).cell rfl
  have f0 : wr.cell? ⟨w.heap.size + 1, 0, none⟩ = some (.int .i64 kb) := (XB6.out.below HB.out XB6.out.lt).cell rfl
  have LX := Lib.hid (L46.out.up HB.out)
  have SX : Hid (∀ u, Below w6.heap.size w6 u → Lies u u.heap.size X1 (ints .i64 px)) := Lib.hid fun u hb => L46.out.up hb
  have SY : Hid (∀ u, Below w6.heap.size w6 u → Lies u u.heap.size X2 (ints .i64 py)) := Lib.hid fun u hb => L56.out.up hb
  have LY := Lib.hid (L56.out.up HB.out)
  obtain rfl | rfl | rfl : i = 0 ∨ i = 1 ∨ i = 2 := by omega
  ·rcases hk : (ka == 4) with _ | _
   ·have hbr : Hid (inBr (ka == 4) px = px) := Lib.hid (by rw [hk]; rfl)
    have hlp : px.length ≤ 200 := by have := HLX.out.1; rw [hbr.out] at this; exact this
    have HOD : Hid (Own wr w6.heap.size 3 u11 (ints .i64 [])) := HO
    clear hi
    go_wp2_with (first
     | (at_builtin; refine app_src intsT w6 wr w6.heap.size wr.heap.size _ _ _ _ (ints .i64 px) X1 _ x1 rfl rfl rfl rfl (by simp) HOD.out LX.out (ints_one _ _) HB.out HB.out.size (by unfold maxLen; simp; omega) (by simp; omega) ?_; intro va wa oa ba _ _; have OA := Lib.hid oa; have BA := Lib.hid ba; clear oa ba)
     | fail)
    go_roundw
    case rel => exact ⟨1, by omega, by go_num, by rw [if_neg (by decide), if_pos rfl, show inBr false px = px from rfl]; simpa [ints] using OA, BA⟩
    case measure => simp [intOf]
   ·have hbr : Hid (inBr (ka == 4) px = 40 :: (px ++ [41])) := Lib.hid (by rw [hk]; rfl)
    have hlp : px.length ≤ 200 := by have := HLX.out.1; rw [hbr.out] at this; simp at this; omega
    have HOD : Hid (Own wr w6.heap.size 3 u11 (ints .i64 [])) := HO
    clear hi
    go_wp2_with (first
     | (at_builtin; refine app_src intsT w6 (wr.alloc (.cells #[.int .i64 40] 3)) w6.heap.size (wr.alloc (.cells #[.int .i64 40] 3)).heap.size _ _ _ [.int .i64 40] (ints .i64 px) X1 _ x1 rfl rfl rfl rfl (by simp) (Own.ofLit (w := wr) #[.int .i64 40] HB.out.size (by decide)) (LX.out.up (below_alloc wr _)) (ints_one _ _) (HB.out.alloc HB.out.size _) (Nat.le_trans HB.out.size (by simp)) (by unfold maxLen; simp; omega) (by simp; omega) ?_; intro v8 w8 o8 b8 g8 e8
        have O8 := Lib.hid o8
        have B8 := Lib.hid b8
        have OW8 := Lib.hid ((HOD.out.alloc (.cells #[.int .i64 40] 3)).keep g8 (.inr (fun e => absurd (HNE.out _ e) (Nat.lt_irrefl _))))
        have AP8 : Hid (∀ x, u11.ownBlock = some x → v8.ownBlock ≠ some x) := Lib.hid fun x hx e => by
         have := HNE.out x hx
         rcases e8 with e8 | ⟨q, e8, hq⟩
         ·rw [e8] at e; injection e with e; simp at e; omega
         ·rw [e8] at e; injection e with e; simp at hq; omega
        clear o8 b8 g8 e8)
     | (at_builtin; refine app_lit intsT w6 w8 w6.heap.size _ _ #[.int .i64 41] 1 _ _ rfl rfl rfl rfl O8.out (by simp [Value.oneCell']) B8.out B8.out.size (by unfold maxLen; simp; omega) (by simp; omega) ?_; intro v9 w9 o9 b9 g9 e9
        have OW9 := Lib.hid (OW8.out.keep g9 (own_apart AP8.out))
        have B9 := Lib.hid b9
        obtain ⟨A9, c9, rfl, l9, -, -⟩ := o9.form
        have L9 : Hid (Lies w9 w9.heap.size A9 (ints .i64 (40 :: (px ++ [41])))) := Lib.hid (by simpa [ints] using l9)
        clear o9 b9 g9 e9 l9)
     | (at_builtin; refine app_src intsT w6 w9 w6.heap.size w9.heap.size _ _ _ _ (ints .i64 (40 :: (px ++ [41]))) A9 _ c9 rfl rfl rfl rfl (by simp) OW9.out L9.out (ints_one _ _) B9.out B9.out.size (by unfold maxLen; simp; omega) (by simp; omega) ?_; intro va wa oa ba _ _; have OA := Lib.hid oa; have BA := Lib.hid ba; clear oa ba)
     | fail)
    go_roundw
    case rel => exact ⟨1, by omega, by go_num, by rw [if_neg (by decide), if_pos rfl, show inBr true px = 40 :: (px ++ [41]) from rfl]; simpa [ints] using OA, BA⟩
    case measure => simp [intOf]
  ·rcases hk : (kb == 4) with _ | _
   ·have hbr : Hid (inBr (kb == 4) py = py) := Lib.hid (by rw [hk]; rfl)
    have hlp : py.length ≤ 200 := by have := HLX.out.2; rw [hbr.out] at this; exact this
    have hlq : (inBr (ka == 4) px).length ≤ 200 := HLX.out.1
    obtain ⟨D, hD⟩ : ∃ D, inBr (ka == 4) px = D := ⟨_, rfl⟩
    have HOD : Hid (Own wr w6.heap.size 3 u11 (ints .i64 D)) := Lib.hid (by have := HO.out; rw [if_neg (by decide), if_pos rfl, hD] at this; exact this)
    have HPD : Hid (pz = D ++ 124 :: py) := Lib.hid (by rw [HPZ.out, hD, hbr.out])
    rw [hD] at hlq
    clear hD
    clear hi
    go_wp2_with (first
     | (at_builtin; refine app_lit intsT w6 wr w6.heap.size _ _ #[.int .i64 124] 1 _ _ rfl rfl rfl rfl HOD.out (by simp [Value.oneCell']) HB.out HB.out.size (by unfold maxLen; simp; omega) (by simp; omega) ?_; intro v7 w7 o7 b7 g7 e7
        have O7 := Lib.hid o7
        have B7 := Lib.hid b7
        have L7 := Lib.hid (SY.out w7 B7.out)
        have N7 : Hid (∀ x, v7.ownBlock = some x → x < w7.heap.size) := Lib.hid fun x hx => (O7.out.inside x hx).2
        clear o7 b7 g7 e7 e0 f0)
     | (at_builtin; refine app_src intsT w6 w7 w6.heap.size w7.heap.size _ _ _ _ (ints .i64 py) X2 _ x2 rfl rfl rfl rfl (by simp) O7.out L7.out (ints_one _ _) B7.out B7.out.size (by unfold maxLen; simp; omega) (by simp; omega) ?_; intro va wa oa ba _ _; have OA := Lib.hid oa; have BA := Lib.hid ba; clear oa ba)
     | fail)
    go_roundw
    case rel => exact ⟨2, by omega, by go_num, by rw [if_neg (by decide), if_neg (by decide), HPD.out]; simpa [ints] using OA, BA⟩
    case measure => simp [intOf]
   ·have hbr : Hid (inBr (kb == 4) py = 40 :: (py ++ [41])) := Lib.hid (by rw [hk]; rfl)
    have hlp : py.length ≤ 200 := by have := HLX.out.2; rw [hbr.out] at this; simp at this; omega
    have hlq : (inBr (ka == 4) px).length ≤ 200 := HLX.out.1
    obtain ⟨D, hD⟩ : ∃ D, inBr (ka == 4) px = D := ⟨_, rfl⟩
    have HOD : Hid (Own wr w6.heap.size 3 u11 (ints .i64 D)) := Lib.hid (by have := HO.out; rw [if_neg (by decide), if_pos rfl, hD] at this; exact this)
    have HPD : Hid (pz = D ++ 124 :: (40 :: (py ++ [41]))) := Lib.hid (by rw [HPZ.out, hD, hbr.out])
    rw [hD] at hlq
    clear hD
    clear hi
    go_wp2_with (first
     | (at_builtin; refine app_lit intsT w6 wr w6.heap.size _ _ #[.int .i64 124] 1 _ _ rfl rfl rfl rfl HOD.out (by simp [Value.oneCell']) HB.out HB.out.size (by unfold maxLen; simp; omega) (by simp; omega) ?_; intro v7 w7 o7 b7 g7 e7
        have O7 := Lib.hid o7
        have B7 := Lib.hid b7
        have L7 := Lib.hid (SY.out w7 B7.out)
        have N7 : Hid (∀ x, v7.ownBlock = some x → x < w7.heap.size) := Lib.hid fun x hx => (O7.out.inside x hx).2
        clear o7 b7 g7 e7 e0 f0)
     | (at_builtin; refine app_src intsT w6 (w7.alloc (.cells #[.int .i64 40] 3)) w6.heap.size (w7.alloc (.cells #[.int .i64 40] 3)).heap.size _ _ _ [.int .i64 40] (ints .i64 py) X2 _ x2 rfl rfl rfl rfl (by simp) (Own.ofLit (w := w7) #[.int .i64 40] B7.out.size (by decide)) (L7.out.up (below_alloc w7 _)) (ints_one _ _) (B7.out.alloc B7.out.size _) (Nat.le_trans B7.out.size (by simp)) (by unfold maxLen; simp; omega) (by simp; omega) ?_; intro v8 w8 o8 b8 g8 e8
        have O8 := Lib.hid o8
        have B8 := Lib.hid b8
        have OW8 := Lib.hid ((O7.out.alloc (.cells #[.int .i64 40] 3)).keep g8 (.inr (fun e => absurd (N7.out _ e) (Nat.lt_irrefl _))))
        have AP8 : Hid (∀ x, v7.ownBlock = some x → v8.ownBlock ≠ some x) := Lib.hid fun x hx e => by
         have := N7.out x hx
         rcases e8 with e8 | ⟨q, e8, hq⟩
         ·rw [e8] at e; injection e with e; simp at e; omega
         ·rw [e8] at e; injection e with e; simp at hq; omega
        clear o8 b8 g8 e8)
     | (at_builtin; refine app_lit intsT w6 w8 w6.heap.size _ _ #[.int .i64 41] 1 _ _ rfl rfl rfl rfl O8.out (by simp [Value.oneCell']) B8.out B8.out.size (by unfold maxLen; simp; omega) (by simp; omega) ?_; intro v9 w9 o9 b9 g9 e9
        have OW9 := Lib.hid (OW8.out.keep g9 (own_apart AP8.out))
        have B9 := Lib.hid b9
        obtain ⟨A9, c9, rfl, l9, -, -⟩ := o9.form
        have L9 : Hid (Lies w9 w9.heap.size A9 (ints .i64 (40 :: (py ++ [41])))) := Lib.hid (by simpa [ints] using l9)
        clear o9 b9 g9 e9 l9)
     | (at_builtin; refine app_src intsT w6 w9 w6.heap.size w9.heap.size _ _ _ _ (ints .i64 (40 :: (py ++ [41]))) A9 _ c9 rfl rfl rfl rfl (by simp) OW9.out L9.out (ints_one _ _) B9.out B9.out.size (by unfold maxLen; simp; omega) (by simp; omega) ?_; intro va wa oa ba _ _; have OA := Lib.hid oa; have BA := Lib.hid ba; clear oa ba)
     | fail)
    go_roundw
    case rel => exact ⟨2, by omega, by go_num, by rw [if_neg (by decide), if_neg (by decide), HPD.out]; simpa [ints] using OA, BA⟩
    case measure => simp [intOf]
  ·have HOD : Hid (Own wr w6.heap.size 3 u11 (ints .i64 pz)) := HO
   obtain ⟨A8, c8, hv8, l8, -, -⟩ := HOD.out.form
   subst hv8
   have HI := Lib.hid (ints_ok X3 A8 pz x3 c8 wr (L6.out.up HB.out) l8 (by have := HLZ.out; omega))
   have BW := Lib.hid (below_then B6.out HB.out)
   clear l8 hi HO HOD HNE
   simp only [ints, List.length_map]
   go_wp2_with fail
   refine HI.out.mono ?_
   rintro e w8 ⟨rfl, b8⟩
   have B8 := Lib.hid (below_then BW.out b8)
   clear b8
   go_wp2_with fail
   go_ret
   exact ⟨rfl, B8.out⟩
-- WRAP
theorem spec : LawSpec Rows.showWithinSpec 2 := ⟨rfl, fun H ds h => by
 match ds, h with
 | [d0, d1], _ => rfl⟩
theorem params_ok : ∀ t ∈ Tryz.f5.params.toList, Tryz.prog.readableRec t = true ∧ t < Tryz.prog.types.size := by
 rw [Tryz.params5]
 intro t ht
 simp only [List.mem_cons, List.mem_nil_iff, or_false] at ht
 rcases ht with rfl | rfl
 all_goals exact ⟨by kernel_rfl, of_decide_eq_true (by kernel_rfl)⟩
set_option maxRecDepth 100000 in
theorem contract (H : Type) (enc : TypeId × Value → H) (W : World) (base : Nat) (args : Array Value) (ds gs : List (DataW H)) (before : List MemPlace)
 (hval : ∀ (j : Nat) t v, Tryz.f5.params[j]? = some t → args[j]? = some v → Value.okWide Tryz.prog W .any base t v)
 (hW : DataW.Whole enc Tryz.prog Tryz.f5.params.toList Rows.showWithinSpec.vars false W args.toList ds gs before) (hL : laidMetH Tryz.prog laidList4 W) :
 Calls Tryz.prog 5 args W fun e W' => ∃ v, e = .returned v ∧ Rows.showWithinSpec.post enc Tryz.prog Tryz.f5 false true false false W args v W' := by
 have hW' := hW
 obtain ⟨p, q, hA0, hV, rfl, hfz, hnd⟩ := hW
 have hA : DataW.TrodAll enc Tryz.prog W 0 (fun _ => true) true Tryz.f5.params.toList args.toList ds p := hA0
 rw [Tryz.params5] at hA hval
 obtain ⟨v0, vs0, d0, ds0, p0, q0, hargs, rfl, rfl, h0, r0⟩ := trodAll_cons hA
 obtain ⟨v1, vs1, d1, ds1, p1, q1, rfl, rfl, rfl, h1, r1⟩ := trodAll_cons r0
 obtain ⟨rfl, rfl, rfl⟩ := trodAll_nil r1
 obtain rfl : args = #[v0, v1] := by cases args; simp_all
 obtain ⟨n0, V0, rfl, t0⟩ := open_node (hval 0 25 v0 rfl rfl) h0
 obtain ⟨n1, V1, rfl, t1⟩ := open_node (hval 1 25 v1 rfl rfl) h1
 exact (walk W (tabs_of4 hL) n0 V0 t0 n1 V1 t1).mono fun e W' ⟨he, hg⟩ => ⟨_, he, law_post spec (by rw [Tryz.params5]; rfl) (by kernel_rfl) params_ok (by kernel_rfl) Tryz.underlying4 hW' hg⟩
set_option maxRecDepth 100000 in
theorem laid_met (os : Os) : laidMet Tryz.prog Rows.showWithinRow.laid ((laidWorld4 os #[.agg #[.int .i64 0, .slice none 0 0, .int .i64 0, .int .i64 0, .slice none 0 0], .agg #[.int .i64 0, .slice none 0 0, .int .i64 0, .int .i64 0, .slice none 0 0]]).forCall (fun _ _ => 0) ⟨#[], #[.agg #[.int .i64 0, .slice none 0 0, .int .i64 0, .int .i64 0, .slice none 0 0], .agg #[.int .i64 0, .slice none 0 0, .int .i64 0, .int .i64 0, .slice none 0 0]], []⟩).memory :=
 laidMet_of_run' 8 (by kernel_rfl) (by kernel_rfl)
set_option maxRecDepth 100000 in
theorem reads (os : Os) {H : Type} (enc : TypeId × Value → H) : ∃ places, DataW.whole enc Tryz.prog ((laidWorld4 os #[.agg #[.int .i64 0, .slice none 0 0, .int .i64 0, .int .i64 0, .slice none 0 0], .agg #[.int .i64 0, .slice none 0 0, .int .i64 0, .int .i64 0, .slice none 0 0]]).forCall (fun _ _ => 0) ⟨#[], #[.agg #[.int .i64 0, .slice none 0 0, .int .i64 0, .int .i64 0, .slice none 0 0], .agg #[.int .i64 0, .slice none 0 0, .int .i64 0, .int .i64 0, .slice none 0 0]], []⟩).memory Tryz.f5.params.toList Rows.showWithinSpec.vars false #[.agg #[.int .i64 0, .slice none 0 0, .int .i64 0, .int .i64 0, .slice none 0 0], .agg #[.int .i64 0, .slice none 0 0, .int .i64 0, .int .i64 0, .slice none 0 0]].toList 8 = some ([.agg [.lit (.int .i64 0), .nil, .lit (.int .i64 0), .lit (.int .i64 0), .nil], .agg [.lit (.int .i64 0), .nil, .lit (.int .i64 0), .lit (.int .i64 0), .nil]], [], places) :=
 ⟨[], by kernel_rfl⟩
set_option maxRecDepth 100000 in
theorem lifted (os : Os) (started : os.Started) (H : Type) (enc : TypeId × Value → H) (F : Stop.Interp) :
 ReturnsInHanded {} Tryz.checked os 5 .any ((OpenSpec.ofChange Rows.showWithinSpec).preRow enc Tryz.prog Tryz.f5 Rows.showWithinRow.domain false Rows.showWithinRow.laid) (((OpenSpec.ofChange Rows.showWithinSpec).at F).post enc Tryz.prog Tryz.f5 false true false false) := by
 obtain ⟨places, hx⟩ := reads os enc
 refine returnsInHanded_of_row (C := Tryz.checked) (s := OpenSpec.ofChange Rows.showWithinSpec) own started (by kernel_rfl) Tryz.func5
  (witness_row_at (enc := enc) (C := Tryz.checked) false (laidWorld4 os #[.agg #[.int .i64 0, .slice none 0 0, .int .i64 0, .int .i64 0, .slice none 0 0], .agg #[.int .i64 0, .slice none 0 0, .int .i64 0, .int .i64 0, .slice none 0 0]]) #[.agg #[.int .i64 0, .slice none 0 0, .int .i64 0, .int .i64 0, .slice none 0 0], .agg #[.int .i64 0, .slice none 0 0, .int .i64 0, .int .i64 0, .slice none 0 0]] rfl (by kernel_rfl) (by kernel_rfl) (by kernel_rfl)
   (OpenSpec.preRow_of_cond 8 hx (by kernel_rfl) (fun k hk => by cases hk) (by kernel_rfl) (laid_met os))) ?_
 intro W base args ds gs before hval hW _ _ _ hL _ _
 exact contract H enc W base args ds gs before hval hW hL
set_option maxRecDepth 100000 in
theorem said : Rows.ShowWithinSaid :=
 OpenClaim.holds_of_cond 5 Tryz.f5 rfl rfl rfl rfl rfl rfl rfl ⟨rfl, rfl, rfl, rfl, rfl⟩ rfl rfl rfl rfl rfl (by kernel_rfl) Tryz.func5 (by kernel_rfl)
  (of_decide_eq_true (by kernel_rfl)) (by unfold Func.isWrapper; first | (rw [if_pos (by decide +kernel)]; kernel_rfl) | (rw [if_neg (by decide +kernel)]; exact ⟨rfl, rfl⟩))
  (fun os started H enc _ F => by rw [OpenClaim.pre_eq_preRow]; exact lifted os started H enc F)
set_option maxRecDepth 100000 in
theorem card : Rows.ShowWithinCardSaid :=
 Claim7.holds_tied_plain_at .later [] _ _ _ _ said (fun _ h => by cases h) (by kernel_rfl) (fun _ h => by cases h) showWithin_row_tie rfl ⟨rfl, rfl⟩ (by kernel_rfl) rfl
  (plainOf "ductus/ductuslaw17.ShowWithin" 5 Tryz.f5 (by kernel_rfl) Tryz.func5 (by kernel_rfl) (fun j t ht => by
   rw [Tryz.params5] at ht
   have hm := Array.mem_of_getElem? ht
   simp only [List.mem_toArray, List.mem_cons, List.mem_nil_iff, or_false] at hm
   rcases hm with rfl | rfl
   all_goals (show Tryz.prog.wantsStandIn _ = false; kernel_rfl))) (by kernel_rfl)
end Go.Proofs.YtoeocodfndbebaaGreatDoor.lawWithin
