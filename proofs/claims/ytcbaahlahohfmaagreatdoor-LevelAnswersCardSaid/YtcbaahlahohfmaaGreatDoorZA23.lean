/- Shared texts, shaken for one claim. -/
import Derived.Test.YtcbaahlahohfmaaGreatDoorZA22
namespace Go.Proofs.YtcbaahlahohfmaaGreatDoor
open Go.RowKit
theorem ndir_q (s : Int) (w : World) : Calls Tryz.prog 147 #[.int .i64 s] w fun e w' => e = .returned (.int .i64 (endK s)) ∧ w = w' := by
 rcases h : (s == 1) with _ | _
 ·have hz : endK s = 0 := by rw [endK, if_neg (by simpa using h)]
  rw [hz]
  go_enter Tryz.func147, Tryz.ntmps147
  go_wp2
  go_ret
  exact ⟨rfl, rfl⟩
 ·have hz : endK s = 1 := by rw [endK, if_pos (by simpa using h)]
  rw [hz]
  go_enter Tryz.func147, Tryz.ntmps147
  go_wp2
  go_ret
  exact ⟨rfl, rfl⟩
theorem nside_q (k e lev : Int) (he : dirL lev = e) (w : World) : Calls Tryz.prog 148 #[.int .i64 k, .int .i64 e] w fun ed w' => ed = .returned (.int .i64 (nSide lev k)) ∧ w = w' := by
 obtain ⟨z, hz⟩ : ∃ z, sdB k = z := ⟨_, rfl⟩
 obtain ⟨y, hy⟩ : ∃ y, nSide lev k = y := ⟨_, rfl⟩
 have HZ := Lib.hid hz
 have HR : Hid (z = 0 ∨ z = 1 ∨ z = -1) := Lib.hid (by rw [← hz, sdB]; split <;> first | omega | (split <;> omega))
 rw [hy]
 rcases e0 : (z == 0) with _ | _
 ·rcases e1 : (z == 1) with _ | _
  ·have HF : Hid (y = e) := Lib.hid (by
    have := HR.out
    simp at e0 e1
    rw [← hy, nSide, hz, if_pos (by omega), he])
   clear hz hy he
   go_enter Tryz.func148, Tryz.ntmps148
   go_wp2_with fail
   refine (bside_q k w).mono ?_
   rintro e wq ⟨rfl, rfl⟩
   rw [HZ.out]
   go_wp2
   go_ret
   exact ⟨ret_int HF.out.symm, rfl⟩
  ·have HF : Hid (y = z) := Lib.hid (by
    simp at e1
    rw [← hy, nSide, hz, if_neg (by omega)])
   clear hz hy he
   go_enter Tryz.func148, Tryz.ntmps148
   go_wp2_with fail
   refine (bside_q k w).mono ?_
   rintro e wq ⟨rfl, rfl⟩
   rw [HZ.out]
   go_wp2
   go_ret
   exact ⟨ret_int HF.out.symm, rfl⟩
 ·have HF : Hid (y = z) := Lib.hid (by
   simp at e0
   rw [← hy, nSide, hz, if_neg (by omega)])
  clear hz hy he
  go_enter Tryz.func148, Tryz.ntmps148
  go_wp2_with fail
  refine (bside_q k w).mono ?_
  rintro e wq ⟨rfl, rfl⟩
  rw [HZ.out]
  go_wp2
  go_ret
  exact ⟨ret_int HF.out.symm, rfl⟩
set_option maxHeartbeats 2000000 in
theorem nlevel_q (k lev : Int) (w : World) : Calls Tryz.prog 100 #[.int .i64 k, .int .i64 lev] w fun e w' => e = .returned (.int .i64 (nLevelI k lev)) ∧ w = w' := by
 obtain ⟨z, hz⟩ : ∃ z, nLevelI k lev = z := ⟨_, rfl⟩
 obtain ⟨d, hd⟩ : ∃ d, dirL lev = d := ⟨_, rfl⟩
 have HD := Lib.hid hd
 have HR : Hid (d = 0 ∨ d = 1) := Lib.hid (by rw [← hd, dirL]; split <;> omega)
 rw [hz]
 rw [nLevelI, hd] at hz
 have HZ := Lib.hid hz
 clear hz hd
 rcases ed : (d == 1) with _ | _
 ·rcases e1 : (k == 1) with _ | _
  ·rcases e6 : (k == 6) with _ | _
   ·rcases e3 : (k == 3) with _ | _
    ·go_enter Tryz.func100, Tryz.ntmps100
     go_wp2_with fail
     refine (sdir_q lev w).mono ?_
     rintro e wq ⟨rfl, rfl⟩
     rw [HD.out]
     go_wp2
     go_ret
     refine ⟨ret_int ?_, rfl⟩
     have h1 := HR.out
     have h2 := HZ.out
     simp at ed e1 e6 e3
     rw [← h2]
     (repeat' split) <;> first | rfl | omega
    ·go_enter Tryz.func100, Tryz.ntmps100
     go_wp2_with fail
     refine (sdir_q lev w).mono ?_
     rintro e wq ⟨rfl, rfl⟩
     rw [HD.out]
     go_wp2
     go_ret
     refine ⟨ret_int ?_, rfl⟩
     have h1 := HR.out
     have h2 := HZ.out
     simp at ed e1 e6 e3
     rw [← h2]
     (repeat' split) <;> first | rfl | omega
   ·go_enter Tryz.func100, Tryz.ntmps100
    go_wp2_with fail
    refine (sdir_q lev w).mono ?_
    rintro e wq ⟨rfl, rfl⟩
    rw [HD.out]
    go_wp2
    go_ret
    refine ⟨ret_int ?_, rfl⟩
    have h1 := HR.out
    have h2 := HZ.out
    simp at ed e1 e6
    rw [← h2]
    (repeat' split) <;> first | rfl | omega
  ·go_enter Tryz.func100, Tryz.ntmps100
   go_wp2_with fail
   refine (sdir_q lev w).mono ?_
   rintro e wq ⟨rfl, rfl⟩
   rw [HD.out]
   go_wp2
   go_ret
   refine ⟨ret_int ?_, rfl⟩
   have h1 := HR.out
   have h2 := HZ.out
   simp at ed e1
   rw [← h2]
   (repeat' split) <;> first | rfl | omega
 ·rcases e0 : (k == 0) with _ | _
  ·rcases e6 : (k == 6) with _ | _
   ·rcases e3 : (k == 3) with _ | _
    ·go_enter Tryz.func100, Tryz.ntmps100
     go_wp2_with fail
     refine (sdir_q lev w).mono ?_
     rintro e wq ⟨rfl, rfl⟩
     rw [HD.out]
     go_wp2
     go_ret
     refine ⟨ret_int ?_, rfl⟩
     have h1 := HR.out
     have h2 := HZ.out
     simp at ed e0 e6 e3
     rw [← h2]
     (repeat' split) <;> first | rfl | omega
    ·go_enter Tryz.func100, Tryz.ntmps100
     go_wp2_with fail
     refine (sdir_q lev w).mono ?_
     rintro e wq ⟨rfl, rfl⟩
     rw [HD.out]
     go_wp2
     go_ret
     refine ⟨ret_int ?_, rfl⟩
     have h1 := HR.out
     have h2 := HZ.out
     simp at ed e0 e6 e3
     rw [← h2]
     (repeat' split) <;> first | rfl | omega
   ·go_enter Tryz.func100, Tryz.ntmps100
    go_wp2_with fail
    refine (sdir_q lev w).mono ?_
    rintro e wq ⟨rfl, rfl⟩
    rw [HD.out]
    go_wp2
    go_ret
    refine ⟨ret_int ?_, rfl⟩
    have h1 := HR.out
    have h2 := HZ.out
    simp at ed e0 e6
    rw [← h2]
    (repeat' split) <;> first | rfl | omega
  ·go_enter Tryz.func100, Tryz.ntmps100
   go_wp2_with fail
   refine (sdir_q lev w).mono ?_
   rintro e wq ⟨rfl, rfl⟩
   rw [HD.out]
   go_wp2
   go_ret
   refine ⟨ret_int ?_, rfl⟩
   have h1 := HR.out
   have h2 := HZ.out
   simp at ed e0
   rw [← h2]
   (repeat' split) <;> first | rfl | omega
set_option maxHeartbeats 2000000 in
theorem nlevels_any (A : Option Addr) (l : List Int) (c : Nat) (lev : Int) (w : World) (h : Lies w w.heap.size A (ints .i64 l)) (hl : l.length ≤ 1000) :
 Calls Tryz.prog 58 #[.slice A l.length c, .int .i64 lev] w fun ed w' => Rowed w w.heap.size 3 (ints .i64 (nLevelsI l lev)) ed w' := by
 have H := Lib.hid h
 clear h
 have hmk := run_make_row' (P := Tryz.prog) 22 3 (.int .i64 0) 8 intsT.slice intsT.elem rfl .i64 .i64 l.length (by omega) (by omega)
 go_enter Tryz.func58, Tryz.ntmps58
 go_wp2
 go_loopw [13] (fun i wr => ∃ (k : Nat) (c' : Array Value), k ≤ l.length ∧ i = .int .i64 k ∧ Hid (c'.toList = ints .i64 (nLevelsI (l.take k) lev) ++ List.replicate (l.length - k) (.int .i64 0)) ∧ wr = w.alloc (.cells c' 3)) (fun i _ => l.length - (intOf i).toNat)
 case atStart => exact ⟨0, _, by omega, rfl, fill_start _ _, rfl⟩
 case round =>
  obtain ⟨k, c', hk, rfl, HC, rfl⟩ := hrel
  have HS : Hid (c'.size = l.length) := by
   show c'.size = l.length
   have := congrArg List.length HC.out
   simp [ints, nLevelsI] at this
   omega
  by_cases hlt : k < l.length
  ·obtain ⟨p, rfl, hpb, hc⟩ := H.out.int hlt
   have b0 : (0 : Int) ≤ (k : Int) := by omega
   have b1 : (k : Int) < (l.length : Int) := by omega
   have hcc : (w.alloc (.cells c' 3)).cell? (p.add k) = some (.int .i64 l[k]) := by rw [World.cell?_alloc_lt w _ _ (by rw [add_block]; exact hpb)]; exact hc
   have hks : k < c'.size := by rw [HS.out]; exact hlt
   go_wp2_with (go_at_call 100; refine (nlevel_q _ _ _).mono ?_; rintro e w' ⟨rfl, rfl⟩)
   go_roundw
   case rel =>
    refine ⟨k + 1, _, by omega, by go_num, ?_, rfl⟩
    have := fill_step (v := .int .i64 (nLevelI l[k] lev)) HC.out (by simp [nLevelsI]; omega) hlt
    show Array.toList _ = _
    rw [this, List.take_succ_eq_append_getElem hlt]
    simp only [ints, nLevelsI, List.map_append, List.map_cons, List.map_nil]
   case measure => simp [intOf]; omega
  ·go_wp2
   go_ret
   have hcl : c'.toList = ints .i64 (nLevelsI l lev) := by
    rw [HC.out, List.take_of_length_le (by omega), show l.length - k = 0 by omega]; simp
   refine rowed_ret ?_ (below_alloc _ _) hcl
   have := Own.ofLit (w := w) (B := w.heap.size) (e := 3) c' (Nat.le_refl _) (by rw [HS.out]; unfold maxLen; omega)
   rw [HS.out] at this
   exact this
set_option maxRecDepth 20000 in
set_option maxHeartbeats 4000000 in
theorem nbecomes_any (A : Option Addr) (l : List Int) (c a b : Nat) (lev e sos eos : Int) (w : World) (h : Lies w w.heap.size A (ints .i64 l)) (har : Around l a b) (hl : l.length ≤ 1000000) (he : dirL lev = e) :
 Calls Tryz.prog 99 #[.slice A l.length c, .agg #[.int .i64 a, .int .i64 b], .int .i64 e, .int .i64 sos, .int .i64 eos] w fun ed w' => ed = .returned (.int .i64 (grpTo l lev sos eos a b)) ∧ Below w.heap.size w w' := by
 have HE := Lib.hid he
 obtain ⟨X, hX⟩ : ∃ X, (if 0 < a then nSide lev (l.getD (a - 1) 0) else endK sos) = X := ⟨_, rfl⟩
 obtain ⟨Y, hY⟩ : ∃ Y, (if b < l.length then nSide lev (l.getD b 0) else endK eos) = Y := ⟨_, rfl⟩
 obtain ⟨T, hT⟩ : ∃ T, grpTo l lev sos eos a b = T := ⟨_, rfl⟩
 have HGT : Hid (T = if X = Y then X else e) := Lib.hid (by rw [← hT, grpTo, hX, hY, he])
 rw [hT]
 have HX := Lib.hid hX
 have HY := Lib.hid hY
 have hbl := har.le
 have hal := har.lt
 have hlb := har.le
 have HH := Lib.hid h
 clear hX hY he har h hT
 go_enter Tryz.func99, Tryz.ntmps99
 go_wp2_with fail
 obtain ⟨wa, hwa⟩ : ∃ u, w.alloc (.cells #[.int .i64 (a : Int), .int .i64 (b : Int)] 79) = u := ⟨_, rfl⟩
 rw [hwa]
 have z0 : wa.cell? ⟨w.heap.size, 0, none⟩ = some (.int .i64 (a : Int)) := boxed (w := w) (cs := #[.int .i64 (a : Int), .int .i64 (b : Int)]) (e := 79) (by rw [hwa]; exact Below.refl _ _) rfl
 have z1 : wa.cell? ⟨w.heap.size, 1, none⟩ = some (.int .i64 (b : Int)) := boxed (w := w) (cs := #[.int .i64 (a : Int), .int .i64 (b : Int)]) (e := 79) (by rw [hwa]; exact Below.refl _ _) rfl
 have HB : Hid (Below w.heap.size w wa) := Lib.hid (hwa ▸ below_alloc _ _)
 have H : Hid (Lies wa wa.heap.size A (ints .i64 l)) := Lib.hid (HH.out.up HB.out)
 clear hwa
 refine (ndir_q sos wa).mono ?_
 rintro ed wq ⟨rfl, rfl⟩
 go_wp2_with fail
 refine (ndir_q eos wa).mono ?_
 rintro e wq ⟨rfl, rfl⟩
 go_upto_if 19 with fail
 go_cut [11] (fun v wx => v = .int .i64 X ∧ wa = wx)
 case first =>
  rcases a with _ | m
  ·have hi : Hid (endK sos = X) := Lib.hid (by have := HX.out; rw [if_neg (by omega)] at this; exact this)
   go_wp2_with fail
   go_meet
   exact ⟨by rw [hi.out], rfl⟩
  ·have hml : m < l.length := by omega
   obtain ⟨p, hp, _, hc⟩ := H.out.int hml
   subst hp
   have hi : Hid (nSide lev l[m] = X) := Lib.hid (by have := HX.out; rw [if_pos (by omega), Nat.add_sub_cancel, getD_at hml] at this; exact this)
   obtain ⟨x, hx⟩ : ∃ x, l[m] = x := ⟨_, rfl⟩
   rw [hx] at hc hi
   have m0 : (0 : Int) ≤ (m : Int) := by omega
   have m1 : (m : Int) < (l.length : Int) := by omega
   have m2 : (0 : Int) < (m : Int) + 1 := by omega
   clear hx
   go_wp2_with fail
   refine (nside_q x e lev HE.out wa).mono ?_
   rintro e wq ⟨rfl, rfl⟩
   rw [hi.out]
   go_wp2_with fail
   go_meet
   exact ⟨rfl, rfl⟩
 case rest =>
  obtain ⟨rfl, rfl⟩ := hcut
  go_upto_if 32 with fail
  go_cut [12] (fun v wx => v = .int .i64 Y ∧ wa = wx)
  case first =>
   by_cases hbn : b < l.length
   ·obtain ⟨p, hp, _, hc⟩ := H.out.int hbn
    subst hp
    have hi : Hid (nSide lev l[b] = Y) := Lib.hid (by have := HY.out; rw [if_pos hbn, getD_at hbn] at this; exact this)
    obtain ⟨x, hx⟩ : ∃ x, l[b] = x := ⟨_, rfl⟩
    rw [hx] at hc hi
    have m0 : (0 : Int) ≤ (b : Int) := by omega
    have m1 : (b : Int) < (l.length : Int) := by omega
    clear hx
    go_wp2_with fail
    refine (nside_q x e lev HE.out wa).mono ?_
    rintro e wq ⟨rfl, rfl⟩
    rw [hi.out]
    go_wp2_with fail
    go_meet
    exact ⟨rfl, rfl⟩
   ·have hi : Hid (endK eos = Y) := Lib.hid (by have := HY.out; rw [if_neg hbn] at this; exact this)
    have m1 : ¬ (b : Int) < (l.length : Int) := by omega
    go_wp2_with fail
    go_meet
    exact ⟨by rw [hi.out], rfl⟩
  case rest =>
   obtain ⟨rfl, rfl⟩ := hcut
   rcases hxy : (X == Y) with _ | _
   ·have hi : Hid (e = T) := Lib.hid (by have := HGT.out; rw [if_neg (by simpa using hxy)] at this; exact this.symm)
    go_wp2_with fail
    go_ret
    exact ⟨ret_int hi.out, HB.out⟩
   ·have hi : Hid (X = T) := Lib.hid (by have := HGT.out; rw [if_pos (by simpa using hxy)] at this; exact this.symm)
    go_wp2_with fail
    go_ret
    exact ⟨ret_int hi.out, HB.out⟩
end Go.Proofs.YtcbaahlahohfmaaGreatDoor
namespace Go.Proofs.YtcbaahlahohfmaaGreatDoor
open Go.RowKit
set_option maxRecDepth 20000 in
set_option maxHeartbeats 4000000 in
theorem ngroups_own (A : Option Addr) (l : List Int) (c : Nat) (w : World) (h : Lies w w.heap.size A (ints .i64 l)) (hl : l.length ≤ 1000000) :
 Calls Tryz.prog 98 #[.slice A l.length c] w fun ed w' => ∃ v, ed = .returned v ∧ OwnN w' w.heap.size 79 2 v (groupsI l).length (prC (groupsI l)) ∧ Below w.heap.size w w' := by
 have H := Lib.hid h
 clear h
 go_enter Tryz.func98, Tryz.ntmps98
 go_wp2_with fail
 go_loopw [9, 3] (fun iv ov wr => ∃ k : Nat, k ≤ l.length ∧ iv = .int .i64 k ∧ OwnN wr w.heap.size 79 2 ov (grpN l k).length (prC (grpN l k)) ∧ Below w.heap.size w wr) (fun iv _ _ => l.length - (intOf iv).toNat)
 case atStart => exact ⟨0, by omega, rfl, OwnN.empty _ _ _ _, Below.refl _ _⟩
 case round =>
  obtain ⟨k, hk, rfl, ho, hb⟩ := hrel
  have HLE : Hid ((grpN l k).length ≤ k) := Lib.hid (ginv l k hk).len
  have HB := Lib.hid hb
  clear hb
  by_cases hlt : k < l.length
  ·obtain ⟨p, rfl, _, hcl⟩ := (H.out.below HB.out).int hlt
   obtain ⟨x, hx⟩ : ∃ x, l[k] = x := ⟨_, rfl⟩
   rw [hx] at hcl
   have hnx : grpN l (k + 1) = if isNeutral x then gStep (grpN l k) k else grpN l k := by rw [grpN, getD_at hlt, hx]
   obtain ⟨G, hG⟩ : ∃ G, grpN l k = G := ⟨_, rfl⟩
   rw [hG] at ho hnx HLE
   have HO := Lib.hid ho
   have b0 : (0 : Int) ≤ (k : Int) := by omega
   have b1 : (k : Int) < (l.length : Int) := by omega
   have hw : IntKind.i64.wrap ((k : Int) + 1) = ((k + 1 : Nat) : Int) := by rw [IntWalk.i64_in _ (by omega)]; rfl
   have HNX := Lib.hid hnx
   clear hx hG ho hnx
   rcases hn : isNeutral x with _ | _
   ·have HN := Lib.hid hn
    clear hn hw
    go_wp2_with fail
    refine (neutral_any x wr).mono ?_
    rintro e wq ⟨rfl, bq⟩
    rw [HN.out]
    have OQ := Lib.hid (HO.out.below bq (Nat.le_refl _))
    have BQ := Lib.hid (HB.out.trans (bq.mono HB.out.size))
    clear bq
    go_wp2_with fail
    go_roundw
    case rel => exact ⟨k + 1, by omega, by go_num, by rw [HNX.out, HN.out, if_neg (by simp)]; exact OQ.out, BQ.out⟩
    case measure => simp [intOf]; omega
   ·have HN := Lib.hid hn
    clear hn
    by_cases hg0 : G.length = 0
    ·obtain rfl := List.eq_nil_of_length_eq_zero hg0
     clear hg0
     obtain ⟨Ao, co, rfl, -, -, -⟩ := HO.out.form
     go_wp2_with fail
     refine (neutral_any x wr).mono ?_
     rintro e wq ⟨rfl, bq⟩
     rw [HN.out]
     have OQ := Lib.hid (HO.out.below bq (Nat.le_refl _))
     have BQ := Lib.hid (HB.out.trans (bq.mono HB.out.size))
     clear bq
     go_wp2_with (first
      | (at_builtin; refine appN_at prT w _ w.heap.size _ _ _ _ 0 1 [] [.int .i64 (k : Int), .int .i64 ((k + 1 : Nat) : Int)] _ _ rfl rfl rfl rfl (OQ.out.alloc _) (Lies.lit (w := wq) (e := 79) #[.int .i64 (k : Int), .int .i64 ((k + 1 : Nat) : Int)]) rfl (by simp [Value.oneCell']) (BQ.out.alloc BQ.out.size _) (BQ.out.alloc BQ.out.size _).size (by unfold maxLen; omega) (by omega) ?_; intro v2 w2 o2 b2 _ _; have O2 := Lib.hid o2; have B2 := Lib.hid b2; clear o2 b2)
      | fail)
     go_roundw
     case rel => exact ⟨k + 1, by omega, by go_num, by rw [HNX.out, HN.out, if_pos rfl, gStep_new (fun p hp => by cases hp)]; exact O2.out, B2.out⟩
     case measure => simp [intOf]; omega
    ·obtain ⟨D, ⟨a, b⟩, hD⟩ : ∃ D p, G = D ++ [p] := ⟨G.dropLast, G.getLast (fun e => hg0 (by rw [e]; rfl)), (List.dropLast_concat_getLast _).symm⟩
     subst hD
     obtain ⟨m, hm⟩ : ∃ m, D.length = m := ⟨_, rfl⟩
     have hlen : (D ++ [(a, b)]).length = m + 1 := by rw [List.length_append, hm]; rfl
     rw [hlen] at HO HLE
     have HM := Lib.hid hm
     have hle := HLE.out
     clear hg0 hlen hm
     obtain ⟨g, co, hov, -⟩ := HO.out.block (by omega)
     subst hov
     have c0 : (0 : Int) < (m : Int) + 1 := by omega
     have c1 : (m : Int) < (m : Int) + 1 := by omega
     have c2 : (0 : Int) ≤ (m : Int) := by omega
     go_wp2_with fail
     refine (neutral_any x wr).mono ?_
     rintro e wq ⟨rfl, bq⟩
     rw [HN.out]
     have OQ := Lib.hid (HO.out.below bq (Nat.le_refl _))
     have BQ := Lib.hid (HB.out.trans (bq.mono HB.out.size))
     clear bq
     have hc0 : wq.cell? ⟨g, m * 2 + 1, none⟩ = some (.int .i64 b) := by
      obtain ⟨g', co', hov, -, -, -, hcell⟩ := OQ.out.block (by omega)
      injection hov with hA _ _
      injection hA with hA
      injection hA with hgg _ _
      subst hgg
      rw [hcell (m * 2 + 1) (by omega), prC_append, List.getElem?_append_right (by rw [prC_length]; have := HM.out; omega), prC_length, HM.out, Nat.add_sub_cancel_left]
      rfl
     rcases hbk : (b == (k : Int)) with _ | _
     ·have HNE : Hid (¬ b = (k : Int)) := Lib.hid (by simpa using hbk)
      go_wp2_with (first
       | (at_builtin; refine appN_at prT w _ w.heap.size _ _ _ _ (m + 1) 1 _ [.int .i64 (k : Int), .int .i64 ((k + 1 : Nat) : Int)] _ _ rfl rfl rfl rfl (OQ.out.alloc _) (Lies.lit (w := wq) (e := 79) #[.int .i64 (k : Int), .int .i64 ((k + 1 : Nat) : Int)]) rfl (by simp [Value.oneCell']) (BQ.out.alloc BQ.out.size _) (BQ.out.alloc BQ.out.size _).size (by unfold maxLen; omega) (by omega) ?_; intro v2 w2 o2 b2 _ _; have O2 := Lib.hid o2; have B2 := Lib.hid b2; clear o2 b2)
       | fail)
      go_roundw
      case rel =>
       refine ⟨k + 1, by omega, by go_num, ?_, B2.out⟩
       rw [HNX.out, HN.out, if_pos rfl, gStep_new (fun p hp => by simp at hp; subst hp; exact HNE.out), prC_append, List.length_append, List.length_append, HM.out]
       exact O2.out
      case measure => simp [intOf]; omega
     ·have HEQ : Hid (b = (k : Int)) := Lib.hid (by simpa using hbk)
      go_wp2_with (first
       | (refine store_cellN wq w.heap.size _ _ g (m * 2 + 1) co (m + 1) (.int .i64 ((k + 1 : Nat) : Int)) _ w rfl rfl rfl (by kernel_rfl) rfl rfl rfl OQ.out (by omega) BQ.out ?_; intro w2 o2 b2 g2; have O2 := Lib.hid o2; have B2 := Lib.hid b2; clear o2 b2 g2)
       | fail)
      go_roundw
      case rel =>
       refine ⟨k + 1, by omega, by go_num, ?_, B2.out⟩
       have := O2.out
       rw [← HM.out, prC_last, HM.out] at this
       rw [HNX.out, HN.out, if_pos rfl, gStep_on HEQ.out, List.length_append, HM.out]
       exact this
      case measure => simp [intOf]; omega
  ·obtain rfl : k = l.length := by omega
   go_wp2
   go_ret
   exact ⟨_, rfl, ho, HB.out⟩
end Go.Proofs.YtcbaahlahohfmaaGreatDoor
namespace Go.Proofs.YtcbaahlahohfmaaGreatDoor
open Go.RowKit
set_option maxRecDepth 20000 in
set_option maxHeartbeats 8000000 in
theorem nof_any (A : Option Addr) (l : List Int) (c : Nat) (lev sos eos : Int) (w : World) (h : Lies w w.heap.size A (ints .i64 l)) (hl : l.length ≤ 1000) :
 Calls Tryz.prog 56 #[.slice A l.length c, .int .i64 lev, .int .i64 sos, .int .i64 eos] w fun ed w' => Rowed w w.heap.size 3 (ints .i64 (nofI l lev sos eos)) ed w' := by
 have H := Lib.hid h
 obtain ⟨G, hG⟩ : ∃ G, groupsI l = G := ⟨_, rfl⟩
 have HG := Lib.hid hG
 have HGL : Hid (G.length ≤ l.length) := Lib.hid (by rw [← hG]; exact (ginv l l.length (Nat.le_refl _)).len)
 clear h hG
 go_enter Tryz.func56, Tryz.ntmps56
 go_wp2_with fail
 refine (clone_any A l c w H.out (by omega)).mono ?_
 rintro e w1 ⟨v1, rfl, o1, b1⟩
 have O1 := Lib.hid o1
 have B1 := Lib.hid b1
 have H1 := Lib.hid (H.out.up b1)
 have hs1 : w.heap.size ≤ w1.heap.size := b1.size
 clear o1 b1
 go_wp2_with fail
 refine (ngroups_own A l c w1 H1.out (by omega)).mono ?_
 rintro e w2 ⟨v2, rfl, o2, b2⟩
 rw [HG.out] at o2
 obtain ⟨A2, c2, rfl, -, -, -⟩ := o2.form
 have P2 := Lib.hid o2
 have B2 := Lib.hid (below_then B1.out b2)
 have O2 := Lib.hid (O1.out.below b2 (Nat.le_refl _))
 have hs2 : w1.heap.size ≤ w2.heap.size := b2.size
 clear o2 b2
 obtain ⟨L', hL'⟩ : ∃ L', nofI l lev sos eos = L' := ⟨_, rfl⟩
 have HL' := Lib.hid hL'
 have HLL : Hid (L'.length = l.length) := Lib.hid (by rw [← hL', nofI_length])
 have O0 : Hid (Own w2 w.heap.size 3 v1 (ints .i64 (mixL l L' (endN l 0)))) := Lib.hid (by rw [endN, if_pos rfl, mixL_zero]; exact O2.out)
 have HOV : Hid (∀ n, n = G.length → mixL l L' (endN l n) = L') := Lib.hid fun n hn => by rw [hn, ← HG.out, ← hL', mix_last]
 have HAG : Hid (∀ n (hn : n < G.length), ∃ a b : Nat, G[n] = ((a : Int), (b : Int)) ∧ Around l a b ∧ endN l (n + 1) = b ∧ mixL l L' (endN l n) = mixL l L' a ∧ ∀ i, a ≤ i → i < b → L'.getD i 0 = grpTo l lev sos eos a b) := Lib.hid fun n hn => by
  have hg := HG.out
  subst hg
  obtain ⟨a, b, h1, h2⟩ := grp_at l hn
  exact ⟨a, b, h1, h2, endN_succ l hn h1, by rw [← hL', mix_group l lev sos eos hn h1 h2], fun i i1 i2 => by rw [← hL', nofI_group lev sos eos h2 i1 i2]⟩
 clear hL'
 have hgl := HGL.out
 go_wp2_with fail
 go_loopw [19] (fun nv wr => ∃ n : Nat, n ≤ G.length ∧ nv = .int .i64 n ∧ Hid (Own wr w.heap.size 3 v1 (ints .i64 (mixL l L' (endN l n)))) ∧ Hid (OwnN wr w1.heap.size 79 2 (.slice A2 G.length c2) G.length (prC G)) ∧ Hid (Below w.heap.size w wr) ∧ Hid (w2.heap.size ≤ wr.heap.size)) (fun nv _ => G.length - (intOf nv).toNat)
 case atStart => exact ⟨0, by omega, rfl, O0, P2, B2, Lib.hid (Nat.le_refl _)⟩
 case round =>
  obtain ⟨n, hn, rfl, HO, HP, HB, HSZ⟩ := hrel
  by_cases hlt : n < G.length
  ·obtain ⟨a, b, hab, har, hen, hmx, hto⟩ := HAG.out n hlt
   obtain ⟨A3, c3, hv3, hl3, -, -⟩ := HP.out.form
   injection hv3 with hv3 _ hc3
   subst hv3 hc3
   obtain ⟨g, off, hA, _, p0, p1⟩ := prC_at hl3 hlt
   subst hA
   rw [hab] at p0 p1
   simp only at p0 p1
   have hbl := har.le
   have hal := har.lt
   have HAR := Lib.hid har
   have HEN := Lib.hid hen
   have HTO := Lib.hid hto
   have HMX := Lib.hid hmx
   have n0 : (0 : Int) ≤ (n : Int) := by omega
   have n1 : (n : Int) < (G.length : Int) := by omega
   clear hab har hen hmx hto hl3
   go_wp2_with fail
   obtain ⟨wa, hwa⟩ : ∃ u, wr.alloc (.cells #[.int .i64 (a : Int), .int .i64 (b : Int)] 79) = u := ⟨_, rfl⟩
   have HBa : Hid (Below w.heap.size w wa) := Lib.hid (hwa ▸ HB.out.trans ((below_alloc wr _).mono HB.out.size))
   have SB : Hid (∀ w', Below wa.heap.size wa w' → w'.cell? ⟨wr.heap.size, 0, none⟩ = some (.int .i64 (a : Int)) ∧ w'.cell? ⟨wr.heap.size, 1, none⟩ = some (.int .i64 (b : Int))) := Lib.hid fun w' hb => ⟨boxed (hwa ▸ hb) rfl, boxed (hwa ▸ hb) rfl⟩
   have HOa : Hid (Own wa w.heap.size 3 v1 (ints .i64 (mixL l L' (endN l n)))) := Lib.hid (hwa ▸ HO.out.alloc _)
   have HPa : Hid (OwnN wa w1.heap.size 79 2 (.slice (some ⟨g, off, none⟩) G.length c2) G.length (prC G)) := Lib.hid (hwa ▸ HP.out.alloc _)
   have HSa : Hid (wr.heap.size + 1 = wa.heap.size) := Lib.hid (by rw [← hwa]; simp)
   rw [hwa]
   clear hwa p0 p1
   obtain ⟨T, hT⟩ : ∃ T, grpTo l lev sos eos a b = T := ⟨_, rfl⟩
   rw [hT] at HTO
   have HT := Lib.hid hT
   obtain ⟨e, he⟩ : ∃ e, dirL lev = e := ⟨_, rfl⟩
   have HE := Lib.hid he
   clear hT he
   refine wp_region_held_drew (S := fun w' => w'.cell? ⟨wr.heap.size, 0, none⟩ = some (.int .i64 (a : Int)) ∧ w'.cell? ⟨wr.heap.size, 1, none⟩ = some (.int .i64 (b : Int))) (by kernel_rfl) (SB.out _ (by exact below_same (Below.refl _ wa) rfl rfl rfl rfl)) (fun hHeld => ?_)
   refine' hY 0 ?_
   try simp only [Act.put,ZA,ZB,ZD,ZE,ZF]
   refine' hY 1 ?_
   try simp only [Act.put,ZA,ZB,ZC,ZD,ZE,ZF]
   refine' hY 2 ?_
   try simp only [Act.put,ZA,ZB,ZC,ZD,ZE,ZF]
   refine' hY 4 ?_
   try simp only [Act.put,ZA,ZB,ZC,ZD,ZE,ZF]
   refine' hY 5 ?_
   try simp only [Act.put,ZA,ZB,ZC,ZD,ZE,ZF]
   refine hA 3 fun K hK => ?_
   go_simp
   refine (sdir_q lev _).mono ?_
   rintro ed wq ⟨rfl, rfl⟩
   rw [HE.out]
   go_wp2_with fail
   refine hK.out _ _ (by exact SB.out _ (by exact below_same (Below.refl _ wa) rfl rfl rfl rfl)) (fun hHeld => ?_)
   clear hK K
   try simp only [Act.put,ZA,ZB,ZC,ZD,ZE,ZF]
   refine hA 6 fun K hK => ?_
   go_simp
   refine (nbecomes_any A l c a b lev e sos eos wa.drew (((H.out.up HBa.out).sameHeap rfl)) HAR.out (by omega) HE.out).mono ?_
   rintro ed w3 ⟨rfl, b_⟩
   rw [HT.out]
   have D3 : Hid (Below wa.heap.size wa w3) := Lib.hid ((below_drawn (Below.refl wa.heap.size wa) 1).trans (by exact b_))
   clear b_
   go_wp2_with fail
   refine hK.out _ _ (by exact SB.out _ D3.out) (fun hHeld => ?_)
   clear hK K
   try simp only [Act.put,ZA,ZB,ZC,ZD,ZE,ZF]
   refine' hY 7 ?_
   try simp only [Act.put,ZA,ZB,ZC,ZD,ZE,ZF]
   refine wpAnyH_done (by kernel_rfl) ?_ _
   have HB3 := Lib.hid (HBa.out.trans (D3.out.mono HBa.out.size))
   have HO3 := Lib.hid (HOa.out.below D3.out (Nat.le_refl _))
   have HP3 := Lib.hid (HPa.out.below D3.out (Nat.le_refl _))
   obtain ⟨z0, z1⟩ := SB.out w3 D3.out
   go_wp2_with fail
   have hil : (ints .i64 (mixL l L' (endN l n))).length = l.length := by rw [ints, List.length_map, mixL_all HLL.out]
   obtain ⟨g1, c1, hv1, hR⟩ := HO3.out.inRow (by omega)
   rw [hil] at hv1
   subst hv1
   have hg1 : Hid (g1 ≠ wr.heap.size) := Lib.hid (by have := (Own.inside O2.out g1 rfl).2; have := HSZ.out; omega)
   rw [HMX.out] at hR
   have HR := Lib.hid hR
   clear hil hR z0 z1
   go_loopw [13] (fun iv wx => ∃ i : Nat, a ≤ i ∧ i ≤ b ∧ iv = .int .i64 i ∧ Hid (Row wx w.heap.size 3 g1 c1 (ints .i64 (mixL l L' i))) ∧ Hid (OwnN wx w1.heap.size 79 2 (.slice (some ⟨g, off, none⟩) G.length c2) G.length (prC G)) ∧ Hid (Below w.heap.size w wx) ∧ Hid (w2.heap.size ≤ wx.heap.size) ∧ Hid (wx.cell? ⟨wr.heap.size, 1, none⟩ = some (.int .i64 (b : Int)) ∧ wr.heap.size < wx.heap.size)) (fun iv _ => b - (intOf iv).toNat)
   case atStart => exact ⟨a, by omega, by omega, rfl, HR, HP3, HB3, Lib.hid (by have := D3.out.size; have := HSa.out; have := HSZ.out; omega), Lib.hid ⟨(SB.out w3 D3.out).2, by have := D3.out.size; have := HSa.out; omega⟩⟩
   case round =>
    rename World => wx
    obtain ⟨i, hai, hib, rfl, HRi, HPi, HBi, HSi, HCi⟩ := hrel
    obtain ⟨z1, -⟩ := HCi.out
    by_cases hlt2 : i < b
    ·have i1 : (i : Int) < (b : Int) := by omega
     have hjl : i < (ints .i64 (mixL l L' i)).length := by rw [ints, List.length_map, mixL_all HLL.out]; omega
     have HJL := Lib.hid hjl
     clear hjl
     go_wp2_with (first
      | (refine store_row intsT wx w.heap.size _ _ g1 i c1 .i64 T (ints .i64 (mixL l L' i)) w rfl rfl rfl rfl rfl HRi.out HJL.out HBi.out ?_; intro w5 r5 b5 g5; have R5 := Lib.hid r5; have B5 := Lib.hid b5; have P5 := Lib.hid (HPi.out.keep g5 (OwnN.unlike HPi.out (HRi.out : OwnN _ _ _ 1 _ _ _) (by decide))); have G5 := Lib.hid g5; clear r5 b5 g5)
      | fail)
     go_roundw
     case rel =>
      refine ⟨i + 1, by omega, by omega, by go_num, Lib.hid ?_, P5, B5, Lib.hid (by have := G5.out.size; have := HSi.out; omega), Lib.hid ⟨?_, by have := G5.out.size; have := HCi.out.2; omega⟩⟩
      ·have := R5.out
       have hset := mixL_set (pre := []) (post := []) HLL.out (show i < l.length by omega)
       simp only [List.nil_append, List.append_nil, List.length_nil, Nat.zero_add] at hset
       rw [ints_set, ← HTO.out i hai hlt2, hset] at this
       exact this
      ·rw [World.cell?_of_block (G5.out.block _ HCi.out.2 (fun e => hg1.out (by injection e with e; exact e.symm)))]
       exact HCi.out.1
     case measure => simp [intOf]; omega
    ·obtain rfl : i = b := by omega
     have i1 : ¬ (i : Int) < (i : Int) := by omega
     go_wp2_with fail
     go_roundw
     case rel =>
      refine ⟨n + 1, by omega, by go_num, Lib.hid ?_, HPi, HBi, HSi⟩
      have := HRi.out
      rw [Row, ints, List.length_map, mixL_all HLL.out] at this
      rw [HEN.out]; exact this
     case measure => simp [intOf]; omega
  ·obtain rfl : n = G.length := by omega
   go_wp2
   go_ret
   exact ⟨v1, rfl, by have := HO.out; rw [HOV.out _ rfl, ← HL'.out] at this; exact this, HB.out⟩
end Go.Proofs.YtcbaahlahohfmaaGreatDoor
