/- Shared texts, shaken for one claim. -/
import Derived.Deep.DeepCutAuto
import Derived.Test.YtadfleopbpomfaaZA1
import Derived.Test.YtadfleopbpomfaaZA4
import Derived.Test.YtadfleopbpomfaaZA19
import Derived.Test.YtadfleopbpomfaaZA20
namespace Go.Proofs.Ytadfleopbpomfaa
open Go.RowKit
theorem gStep_new {G : List (Int × Int)} {k : Nat} (h : ∀ p, G.getLast? = some p → p.2 ≠ (k : Int)) : gStep G k = G ++ [((k : Int), ((k + 1 : Nat) : Int))] := by
 rw [gStep, if_neg]
 intro e
 obtain ⟨p, hp, hp2⟩ := Option.map_eq_some_iff.1 e
 exact h p hp hp2
theorem gStep_on {D : List (Int × Int)} {a b : Int} {k : Nat} (h : b = (k : Int)) : gStep (D ++ [(a, b)]) k = D ++ [(a, ((k + 1 : Nat) : Int))] := by
 rw [gStep]
 simp [h]
theorem prC_last (D : List (Int × Int)) (a b y : Int) : (prC (D ++ [(a, b)])).set (D.length * 2 + 1) (.int .i64 y) = prC (D ++ [(a, y)]) := by
 rw [prC_append, prC_append, List.set_append_right _ _ (by rw [prC_length]; omega), prC_length, Nat.add_sub_cancel_left]
 rfl
set_option maxRecDepth 20000 in
set_option maxHeartbeats 4000000 in
theorem rgroups11_any (A : Option Addr) (l : List Int) (c : Nat) (w : World) (h : Lies w w.heap.size A (ints .i64 l)) (hl : l.length ≤ 1000000) :
 Calls Try.prog 62 #[.slice A l.length c] w fun ed w' => ∃ v, ed = .returned v ∧ OwnN w' w.heap.size 83 2 v (groupsI l).length (prC (groupsI l)) ∧ Below w.heap.size w w' := by
 have H := Lib.hid h
 clear h
 go_enter Try.func62, Try.ntmps62
 go_wp2_with fail
 go_loopw [4, 3] (fun iv ov wr => ∃ k : Nat, k ≤ l.length ∧ iv = .int .i64 k ∧ OwnN wr w.heap.size 83 2 ov (grpN l k).length (prC (grpN l k)) ∧ Below w.heap.size w wr) (fun iv _ _ => l.length - (intOf iv).toNat)
 case atStart => exact ⟨0, by omega, rfl, OwnN.empty _ _ _ _, Below.refl _ _⟩
 case round =>
  obtain ⟨k, hk, rfl, ho, hb⟩ := hrel
  have HLE : Hid ((grpN l k).length ≤ k) := Lib.hid (ginv l k hk).len
  have HB := Lib.hid hb
  clear hb
  by_cases hlt : k < l.length
  ·obtain ⟨p, rfl, _, hcl⟩ := (H.out.below HB.out).int hlt
   obtain ⟨x, hx⟩ : ∃ x, l[k] = x := ⟨_, rfl⟩
   rw [hx] at hcl
   have hnx : grpN l (k + 1) = if isNeutral x then gStep (grpN l k) k else grpN l k := by rw [grpN, getD_at hlt, hx]
   obtain ⟨G, hG⟩ : ∃ G, grpN l k = G := ⟨_, rfl⟩
   rw [hG] at ho hnx HLE
   have HO := Lib.hid ho
   have b0 : (0 : Int) ≤ (k : Int) := by omega
   have b1 : (k : Int) < (l.length : Int) := by omega
   have hw : IntKind.i64.wrap ((k : Int) + 1) = ((k + 1 : Nat) : Int) := by rw [IntWalk.i64_in _ (by omega)]; rfl
   have HNX := Lib.hid hnx
   clear hx hG ho hnx
   rcases hn : isNeutral x with _ | _
   ·have HN := Lib.hid hn
    clear hn hw
    go_wp2_with fail
    refine (rneutral_any x wr).mono ?_
    rintro e wq ⟨rfl, rfl⟩
    rw [HN.out]
    go_wp2_with fail
    go_roundw
    case rel => exact ⟨k + 1, by omega, by go_num, by rw [HNX.out, HN.out, if_neg (by simp)]; exact HO.out, HB.out⟩
    case measure => simp [intOf]; omega
   ·have HN := Lib.hid hn
    clear hn
    by_cases hg0 : G.length = 0
    ·obtain rfl := List.eq_nil_of_length_eq_zero hg0
     clear hg0
     obtain ⟨Ao, co, rfl, -, -, -⟩ := HO.out.form
     go_wp2_with fail
     refine (rneutral_any x wr).mono ?_
     rintro e wq ⟨rfl, rfl⟩
     rw [HN.out]
     go_wp2_with (first
      | (at_builtin; refine appN_at prT w _ w.heap.size _ _ _ _ 0 1 [] [.int .i64 (k : Int), .int .i64 ((k + 1 : Nat) : Int)] _ _ rfl rfl rfl rfl (HO.out.alloc _) (Lies.lit (w := wr) (e := 83) #[.int .i64 (k : Int), .int .i64 ((k + 1 : Nat) : Int)]) rfl (by simp [Value.oneCell']) (HB.out.alloc HB.out.size _) (HB.out.alloc HB.out.size _).size (by unfold maxLen; omega) (by omega) ?_; intro v2 w2 o2 b2 _ _; have O2 := Lib.hid o2; have B2 := Lib.hid b2; clear o2 b2)
      | fail)
     go_roundw
     case rel => exact ⟨k + 1, by omega, by go_num, by rw [HNX.out, HN.out, if_pos rfl, gStep_new (fun p hp => by cases hp)]; exact O2.out, B2.out⟩
     case measure => simp [intOf]; omega
    ·obtain ⟨D, ⟨a, b⟩, hD⟩ : ∃ D p, G = D ++ [p] := ⟨G.dropLast, G.getLast (fun e => hg0 (by rw [e]; rfl)), (List.dropLast_concat_getLast _).symm⟩
     subst hD
     obtain ⟨m, hm⟩ : ∃ m, D.length = m := ⟨_, rfl⟩
     have hlen : (D ++ [(a, b)]).length = m + 1 := by rw [List.length_append, hm]; rfl
     rw [hlen] at HO HLE
     obtain ⟨g, co, rfl, -, -, -, hcell⟩ := HO.out.block (by omega)
     have hc0 : wr.cell? ⟨g, m * 2 + 1, none⟩ = some (.int .i64 b) := by
      rw [hcell (m * 2 + 1) (by omega), prC_append, List.getElem?_append_right (by rw [prC_length]; omega), prC_length, hm, Nat.add_sub_cancel_left]
      rfl
     have HM := Lib.hid hm
     have hle := HLE.out
     clear hg0 hlen hcell hm
     have c0 : (0 : Int) < (m : Int) + 1 := by omega
     have c1 : (m : Int) < (m : Int) + 1 := by omega
     have c2 : (0 : Int) ≤ (m : Int) := by omega
     rcases hbk : (b == (k : Int)) with _ | _
     ·have HNE : Hid (¬ b = (k : Int)) := Lib.hid (by simpa using hbk)
      go_wp2_with fail
      refine (rneutral_any x wr).mono ?_
      rintro e wq ⟨rfl, rfl⟩
      rw [HN.out]
      go_wp2_with (first
       | (at_builtin; refine appN_at prT w _ w.heap.size _ _ _ _ (m + 1) 1 _ [.int .i64 (k : Int), .int .i64 ((k + 1 : Nat) : Int)] _ _ rfl rfl rfl rfl (HO.out.alloc _) (Lies.lit (w := wr) (e := 83) #[.int .i64 (k : Int), .int .i64 ((k + 1 : Nat) : Int)]) rfl (by simp [Value.oneCell']) (HB.out.alloc HB.out.size _) (HB.out.alloc HB.out.size _).size (by unfold maxLen; omega) (by omega) ?_; intro v2 w2 o2 b2 _ _; have O2 := Lib.hid o2; have B2 := Lib.hid b2; clear o2 b2)
       | fail)
      go_roundw
      case rel =>
       refine ⟨k + 1, by omega, by go_num, ?_, B2.out⟩
       rw [HNX.out, HN.out, if_pos rfl, gStep_new (fun p hp => by simp at hp; subst hp; exact HNE.out), prC_append, List.length_append, List.length_append, HM.out]
       exact O2.out
      case measure => simp [intOf]; omega
     ·have HEQ : Hid (b = (k : Int)) := Lib.hid (by simpa using hbk)
      go_wp2_with fail
      refine (rneutral_any x wr).mono ?_
      rintro e wq ⟨rfl, rfl⟩
      rw [HN.out]
      go_wp2_with (first
       | (refine store_cellN wr w.heap.size _ _ g (m * 2 + 1) co (m + 1) (.int .i64 ((k + 1 : Nat) : Int)) _ w rfl rfl rfl (by kernel_rfl) rfl rfl rfl HO.out (by omega) HB.out ?_; intro w2 o2 b2 g2; have O2 := Lib.hid o2; have B2 := Lib.hid b2; clear o2 b2 g2)
       | fail)
      go_roundw
      case rel =>
       refine ⟨k + 1, by omega, by go_num, ?_, B2.out⟩
       have := O2.out
       rw [← HM.out, prC_last, HM.out] at this
       rw [HNX.out, HN.out, if_pos rfl, gStep_on HEQ.out, List.length_append, HM.out]
       exact this
      case measure => simp [intOf]; omega
  ·obtain rfl : k = l.length := by omega
   go_wp2
   go_ret
   exact ⟨_, rfl, ho, HB.out⟩
end Go.Proofs.Ytadfleopbpomfaa
namespace Go.Proofs.Ytadfleopbpomfaa
open Go.RowKit
set_option maxRecDepth 20000 in
set_option maxHeartbeats 8000000 in
theorem rof11_any (A : Option Addr) (l : List Int) (c : Nat) (lev sos eos : Int) (w : World) (h : Lies w w.heap.size A (ints .i64 l)) (hl : l.length ≤ 1000000) :
 Calls Try.prog 45 #[.slice A l.length c, .int .i64 lev, .int .i64 sos, .int .i64 eos] w fun ed w' => Rowed w w.heap.size 3 (ints .i64 (nofI l lev sos eos)) ed w' := by
 have H := Lib.hid h
 obtain ⟨G, hG⟩ : ∃ G, groupsI l = G := ⟨_, rfl⟩
 have HG := Lib.hid hG
 have HGL : Hid (G.length ≤ l.length) := Lib.hid (by rw [← hG]; exact (ginv l l.length (Nat.le_refl _)).len)
 clear h hG
 go_enter Try.func45, Try.ntmps45
 go_wp2_with (first
  | (at_builtin; refine app_src intsT w (w.alloc (.cells #[] 3)) w.heap.size w.heap.size _ _ _ [] (ints .i64 l) A l.length c rfl rfl rfl rfl (by simp [ints]) (Own.ofLit #[] (Nat.le_refl _) (by decide)) (H.out.alloc (Nat.le_refl _) _) (ints_one _ _) (below_alloc _ _) (by simp) (by unfold maxLen; simp [ints]; omega) (by simp [ints]; omega) ?_; intro v1 w1 o1 b1 _ _; have O1 := Lib.hid o1; have B1 := Lib.hid b1; clear o1 b1)
  | fail)
 have H1 := Lib.hid (H.out.up B1.out)
 refine (rgroups11_any A l c w1 H1.out hl).mono ?_
 rintro e w2 ⟨v2, rfl, o2, b2⟩
 rw [HG.out] at o2
 obtain ⟨A2, c2, rfl, -, -, -⟩ := o2.form
 have P2 := Lib.hid o2
 have B2 := Lib.hid (below_then B1.out b2)
 have O2 := Lib.hid (O1.out.below b2 (Nat.le_refl _))
 clear o2 b2
 obtain ⟨L', hL'⟩ : ∃ L', nofI l lev sos eos = L' := ⟨_, rfl⟩
 have HL' := Lib.hid hL'
 have HLL : Hid (L'.length = l.length) := Lib.hid (by rw [← hL', nofI_length])
 have O0 : Hid (Own w2 w.heap.size 3 v1 (ints .i64 (mixL l L' (endN l 0)))) := Lib.hid (by rw [endN, if_pos rfl, mixL_zero]; simpa using O2.out)
 have HOV : Hid (∀ n, n = G.length → mixL l L' (endN l n) = L') := Lib.hid fun n hn => by rw [hn, ← HG.out, ← hL', mix_last]
 have HAG : Hid (∀ n (hn : n < G.length), ∃ a b : Nat, G[n] = ((a : Int), (b : Int)) ∧ Around l a b ∧ endN l (n + 1) = b ∧ mixL l L' (endN l n) = mixL l L' a ∧ ∀ i, a ≤ i → i < b → L'.getD i 0 = grpTo l lev sos eos a b) := Lib.hid fun n hn => by
  have hg := HG.out
  subst hg
  obtain ⟨a, b, h1, h2⟩ := grp_at l hn
  exact ⟨a, b, h1, h2, endN_succ l hn h1, by rw [← hL', mix_group l lev sos eos hn h1 h2], fun i i1 i2 => by rw [← hL', nofI_group lev sos eos h2 i1 i2]⟩
 clear hL'
 have hgl := HGL.out
 go_wp2_with fail
 go_loopw [11] (fun nv wr => ∃ n : Nat, n ≤ G.length ∧ nv = .int .i64 n ∧ Hid (Own wr w.heap.size 3 v1 (ints .i64 (mixL l L' (endN l n)))) ∧ Hid (OwnN wr w1.heap.size 83 2 (.slice A2 G.length c2) G.length (prC G)) ∧ Hid (Below w.heap.size w wr)) (fun nv _ => G.length - (intOf nv).toNat)
 case atStart => exact ⟨0, by omega, rfl, O0, P2, B2⟩
 case round =>
  obtain ⟨n, hn, rfl, HO, HP, HB⟩ := hrel
  by_cases hlt : n < G.length
  ·obtain ⟨a, b, hab, har, hen, hmx, hto⟩ := HAG.out n hlt
   obtain ⟨A3, c3, hv3, hl3, -, -⟩ := HP.out.form
   injection hv3 with hv3 _ hc3
   subst hv3 hc3
   obtain ⟨g, off, hA, _, p0, p1⟩ := prC_at hl3 hlt
   subst hA
   rw [hab] at p0 p1
   simp only at p0 p1
   have hbl := har.le
   have hal := har.lt
   have HAR := Lib.hid har
   have HAB := Lib.hid hab
   have HEN := Lib.hid hen
   have HTO := Lib.hid hto
   have HMX := Lib.hid hmx
   obtain ⟨X, hX⟩ : ∃ X, (if 0 < a then nSide lev (l.getD (a - 1) 0) else endK sos) = X := ⟨_, rfl⟩
   obtain ⟨Y, hY⟩ : ∃ Y, (if b < l.length then nSide lev (l.getD b 0) else endK eos) = Y := ⟨_, rfl⟩
   have HGT : Hid (grpTo l lev sos eos a b = if X = Y then X else dirL lev) := Lib.hid (by rw [grpTo, hX, hY])
   have HX := Lib.hid hX
   have HY := Lib.hid hY
   have n0 : (0 : Int) ≤ (n : Int) := by omega
   have n1 : (n : Int) < (G.length : Int) := by omega
   clear hab har hen hmx hto hl3 hX hY
   have hlb := HAR.out.le
   go_upto_if 36 with fail
   refine (rend11_any sos wr).mono ?_
   rintro e wq ⟨rfl, rfl⟩
   go_upto_if 36 with fail
   refine (rend11_any eos wr).mono ?_
   rintro e wq ⟨rfl, rfl⟩
   go_upto_if 36 with fail
   go_cut [12] (fun v wx => v = .int .i64 X ∧ wr = wx)
   case first =>
    rcases a with _ | m
    ·have hi : Hid (endK sos = X) := Lib.hid (by have := HX.out; rw [if_neg (by omega)] at this; exact this)
     go_wp2_with fail
     go_meet
     exact ⟨by rw [hi.out], rfl⟩
    ·have hml : m < l.length := by omega
     obtain ⟨p, hp, _, hc⟩ := (H.out.below HB.out).int hml
     subst hp
     have hi : Hid (nSide lev l[m] = X) := Lib.hid (by have := HX.out; rw [if_pos (by omega), Nat.add_sub_cancel, getD_at hml] at this; exact this)
     obtain ⟨x, hx⟩ : ∃ x, l[m] = x := ⟨_, rfl⟩
     rw [hx] at hc hi
     have m0 : (0 : Int) ≤ (m : Int) := by omega
     have m1 : (m : Int) < (l.length : Int) := by omega
     have m2 : (0 : Int) < (m : Int) + 1 := by omega
     clear hx
     go_wp2_with fail
     refine (rside11_any x lev wr).mono ?_
     rintro e wq ⟨rfl, rfl⟩
     rw [hi.out]
     go_wp2_with fail
     go_meet
     exact ⟨rfl, rfl⟩
   case rest =>
    obtain ⟨rfl, rfl⟩ := hcut
    go_upto_if 55 with fail
    go_cut [13] (fun v wx => v = .int .i64 Y ∧ wr = wx)
    case first =>
     by_cases hbn : b < l.length
     ·obtain ⟨p, hp, _, hc⟩ := (H.out.below HB.out).int hbn
      subst hp
      have hi : Hid (nSide lev l[b] = Y) := Lib.hid (by have := HY.out; rw [if_pos hbn, getD_at hbn] at this; exact this)
      obtain ⟨x, hx⟩ : ∃ x, l[b] = x := ⟨_, rfl⟩
      rw [hx] at hc hi
      have m0 : (0 : Int) ≤ (b : Int) := by omega
      have m1 : (b : Int) < (l.length : Int) := by omega
      clear hx
      go_wp2_with fail
      refine (rside11_any x lev wr).mono ?_
      rintro e wq ⟨rfl, rfl⟩
      rw [hi.out]
      go_wp2_with fail
      go_meet
      exact ⟨rfl, rfl⟩
     ·have hi : Hid (endK eos = Y) := Lib.hid (by have := HY.out; rw [if_neg hbn] at this; exact this)
      have m1 : ¬ (b : Int) < (l.length : Int) := by omega
      go_wp2_with fail
      go_meet
      exact ⟨by rw [hi.out], rfl⟩
    case rest =>
     obtain ⟨rfl, rfl⟩ := hcut
     go_upto_if 70 with fail
     refine (rdir8_any lev wr).mono ?_
     rintro e wq ⟨rfl, rfl⟩
     obtain ⟨T, hT⟩ : ∃ T, grpTo l lev sos eos a b = T := ⟨_, rfl⟩
     rw [hT] at HGT HTO
     go_upto_if 70 with fail
     go_cut [14] (fun v wx => v = .int .i64 T ∧ wr = wx)
     case first =>
      rcases hxy : (X == Y) with _ | _
      ·have hi : Hid (dirL lev = T) := Lib.hid (by have := HGT.out; rw [if_neg (by simpa using hxy)] at this; exact this.symm)
       go_wp2_with fail
       go_meet
       exact ⟨by rw [hi.out], rfl⟩
      ·have hi : Hid (X = T) := Lib.hid (by have := HGT.out; rw [if_pos (by simpa using hxy)] at this; exact this.symm)
       go_wp2_with fail
       go_meet
       exact ⟨by rw [hi.out], rfl⟩
     case rest =>
      obtain ⟨rfl, rfl⟩ := hcut
      clear hT
      have hil : (ints .i64 (mixL l L' (endN l n))).length = l.length := by rw [ints, List.length_map, mixL_all HLL.out]
      obtain ⟨g1, c1, hv1, hR⟩ := HO.out.inRow (by omega)
      rw [hil] at hv1
      subst hv1
      rw [HMX.out] at hR
      have HR := Lib.hid hR
      clear hil hR
      go_wp2_with fail
      go_loopw [15] (fun iv wx => ∃ i : Nat, a ≤ i ∧ i ≤ b ∧ iv = .int .i64 i ∧ Hid (Row wx w.heap.size 3 g1 c1 (ints .i64 (mixL l L' i))) ∧ Hid (OwnN wx w1.heap.size 83 2 (.slice (some ⟨g, off, none⟩) G.length c2) G.length (prC G)) ∧ Hid (Below w.heap.size w wx)) (fun iv _ => b - (intOf iv).toNat)
      case atStart => exact ⟨a, by omega, by omega, rfl, HR, HP, HB⟩
      case round =>
       rename World => wx
       obtain ⟨i, hai, hib, rfl, HRi, HPi, HBi⟩ := hrel
       obtain ⟨A4, c4, hv4, hl4, -, -⟩ := HPi.out.form
       injection hv4 with hv4 _ hc4
       subst hv4 hc4
       obtain ⟨g4, off4, hA4, _, q0, q1⟩ := prC_at hl4 hlt
       injection hA4 with hA4
       injection hA4 with hg4 ho4 _
       subst hg4 ho4
       rw [HAB.out] at q0 q1
       simp only at q0 q1
       clear hl4 p0 p1
       by_cases hlt2 : i < b
       ·have i1 : (i : Int) < (b : Int) := by omega
        have hjl : i < (ints .i64 (mixL l L' i)).length := by rw [ints, List.length_map, mixL_all HLL.out]; omega
        have HJL := Lib.hid hjl
        clear hjl
        go_wp2_with (first
         | (refine store_row intsT wx w.heap.size _ _ g1 i c1 .i64 T (ints .i64 (mixL l L' i)) w rfl rfl rfl rfl rfl HRi.out HJL.out HBi.out ?_; intro w5 r5 b5 g5; have R5 := Lib.hid r5; have B5 := Lib.hid b5; have P5 := Lib.hid (HPi.out.keep g5 (OwnN.unlike HPi.out (HRi.out : OwnN _ _ _ 1 _ _ _) (by decide))); clear r5 b5 g5)
         | fail)
        go_roundw
        case rel =>
         refine ⟨i + 1, by omega, by omega, by go_num, Lib.hid ?_, P5, B5⟩
         have := R5.out
         have hset := mixL_set (pre := []) (post := []) HLL.out (show i < l.length by omega)
         simp only [List.nil_append, List.append_nil, List.length_nil, Nat.zero_add] at hset
         rw [ints_set, ← HTO.out i hai hlt2, hset] at this
         exact this
        case measure => simp [intOf]; omega
       ·obtain rfl : i = b := by omega
        have i1 : ¬ (i : Int) < (i : Int) := by omega
        go_wp2_with fail
        go_roundw
        case rel =>
         refine ⟨n + 1, by omega, by go_num, Lib.hid ?_, HPi, HBi⟩
         have := HRi.out
         rw [Row, ints, List.length_map, mixL_all HLL.out] at this
         rw [HEN.out]; exact this
        case measure => simp [intOf]; omega
  ·obtain rfl : n = G.length := by omega
   go_wp2
   go_ret
   exact ⟨v1, rfl, by have := HO.out; rw [HOV.out _ rfl, ← HL'.out] at this; exact this, HB.out⟩
end Go.Proofs.Ytadfleopbpomfaa
namespace Go.Proofs.Ytadfleopbpomfaa
open Go.RowKit
def foldN (P : List (Int × Int)) (first : List Int) (e sos : Int) (cls : List Int) (n : Nat) : List Int := (P.take n).foldl (ofStepB first e sos) cls
theorem foldN_succ (P : List (Int × Int)) (first : List Int) (e sos : Int) (cls : List Int) (n : Nat) (h : n < P.length) : foldN P first e sos cls (n + 1) = ofStepB first e sos (foldN P first e sos cls n) P[n] := by
 unfold foldN
 rw [List.take_succ_eq_append_getElem h, List.foldl_append]
 rfl
theorem foldN_length (P : List (Int × Int)) (first : List Int) (e sos : Int) (cls : List Int) (n : Nat) : (foldN P first e sos cls n).length = cls.length := by
 unfold foldN
 generalize P.take n = Q
 induction Q generalizing cls with
 | nil => rfl
 | cons p Q ih => rw [List.foldl_cons, ih, ofStepB_length]
set_option maxRecDepth 20000 in
set_option maxHeartbeats 1500000 in
theorem rof10_any (A : Option Addr) (chars : List Int) (c : Nat) (A' : Option Addr) (classes : List Int) (c' : Nat) (A2 : Option Addr) (first : List Int) (c2 : Nat) (level sos : Int) (w : World)
 (h : Lies w w.heap.size A (ints .i64 chars)) (h' : Lies w w.heap.size A' (ints .i64 classes)) (h2 : Lies w w.heap.size A2 (ints .i64 first)) (hl : chars.length ≤ 1000000) (he : chars.length = classes.length) (hf : first.length = classes.length) :
 Calls Try.prog 44 #[.slice A chars.length c, .slice A' classes.length c', .slice A2 first.length c2, .int .i64 level, .int .i64 sos] w
  (Rowed w w.heap.size 3 (ints .i64 (ofB chars classes first level sos))) := by
 have H := Lib.hid h
 have H' := Lib.hid h'
 have H2 := Lib.hid h2
 obtain ⟨P, hP⟩ : ∃ P, pairsI chars classes = P := ⟨_, rfl⟩
 have HPV : Hid (∀ p ∈ P, ∃ a b : Nat, p = ((a : Int), (b : Int)) ∧ a < b ∧ b < classes.length) := Lib.hid (fun p hp => by
  rw [← hP, pairsI, if_pos he] at hp
  obtain ⟨a, b, e1, e2, e3, _⟩ := (pinv chars classes chars.length).each p hp
  exact ⟨a, b, e1, e2, by omega⟩)
 have HP := Lib.hid hP
 obtain ⟨e, hee⟩ : ∃ e, dirL level = e := ⟨_, rfl⟩
 have HD := Lib.hid hee
 have HER := dirL_range level
 rw [hee] at HER
 have HF : Hid (ofB chars classes first level sos = foldN P first e sos classes P.length) := Lib.hid (by rw [ofB, if_pos ⟨he, hf⟩, hP, hee, foldN, List.take_length])
 have hPl : P.length ≤ 1000000 := by
  have := (pairs_le chars classes chars.length).1
  rw [pairsI, if_pos he] at hP
  rw [hP] at this; omega
 have hd1 : ((chars.length : Int) != (classes.length : Int)) = false := by simp [he]
 have hd2 : ((first.length : Int) != (classes.length : Int)) = false := by simp [hf]
 have hcl : classes.length ≤ 1000000 := by omega
 have HE := Lib.hid he
 have HFL := Lib.hid hf
 clear h h' h2 hP hee he hf
 go_enter Try.func44, Try.ntmps44
 go_wp2_with (first
  | (at_builtin; refine app_src intsT w (w.alloc (.cells #[] 3)) w.heap.size w.heap.size _ _ _ [] (ints .i64 classes) A' classes.length c' rfl rfl rfl rfl (by simp) (Own.ofLit #[] (Nat.le_refl _) (by decide)) (H'.out.alloc (Nat.le_refl _) _) (ints_one _ _) (below_alloc _ _) (by simp) (by unfold maxLen; simp; omega) (by simp; omega) ?_; intro v1 w1 o1 b1 _ _; have O1 := Lib.hid (show Own w1 w.heap.size 3 v1 (ints .i64 classes) by simpa using o1); have B1 := Lib.hid b1; clear o1 b1)
  | fail)
 refine (rpairs_any A chars c A' classes c' w1 (H.out.up B1.out) (H'.out.up B1.out) hl HE.out).mono ?_
 rintro ed w2 ⟨v2, rfl, o2, b2⟩
 rw [HP.out] at o2
 obtain ⟨AP, cp, rfl, _, _, _⟩ := o2.form
 have B2 := Lib.hid (below_then B1.out b2)
 have O2 := Lib.hid (O1.out.below b2 (Nat.le_refl _))
 have P2 := Lib.hid (o2.weaken B1.out.size)
 clear o2 b2
 go_wp2_with fail
 refine (rdir8_any level w2).mono ?_
 rintro e wq ⟨rfl, rfl⟩
 rw [HD.out]
 obtain ⟨AL, cL, rfl, _, _, _⟩ := O2.out.form
 simp only [ints, List.length_map]
 have Q2 : Hid (Own w2 w.heap.size 3 (.slice AL classes.length cL) (ints .i64 classes)) := Lib.hid (by have := O2.out; simp only [ints, List.length_map] at this; exact this)
 go_wp2_with fail
 go_loopw [14] (fun nv wr => ∃ n : Nat, n ≤ P.length ∧ nv = .int .i64 n ∧ Own wr w.heap.size 3 (.slice AL classes.length cL) (ints .i64 (foldN P first e sos classes n)) ∧ OwnN wr w.heap.size 83 2 (.slice AP P.length cp) P.length (prC P) ∧ Below w.heap.size w wr) (fun nv _ => P.length - (intOf nv).toNat)
 case atStart => exact ⟨0, by omega, rfl, Q2.out, P2.out, B2.out⟩
 case round =>
  obtain ⟨n, hn, rfl, hq, hp, hb⟩ := hrel
  have HQ := Lib.hid hq
  have HPR := Lib.hid hp
  have HB := Lib.hid hb
  clear hq hp hb
  by_cases hlt : n < P.length
  ·obtain ⟨cur, hcur⟩ : ∃ x, foldN P first e sos classes n = x := ⟨_, rfl⟩
   have hcl2 : cur.length = classes.length := by rw [← hcur, foldN_length]
   have HS := Lib.hid (foldN_succ P first e sos classes n hlt)
   rw [hcur] at HQ HS
   obtain ⟨a, b, hab, ha, hbc⟩ := HPV.out _ (List.getElem_mem hlt)
   rw [hab] at HS
   obtain ⟨g, cg, hv, hrow⟩ := HQ.out.inRow (by simp; omega)
   simp only [List.length_map] at hv
   injection hv with hA hL hC
   subst hA hC
   obtain ⟨AP1, cp1, hv1, hlp, _, _⟩ := HPR.out.form
   injection hv1 with hA1 _ hC1
   subst hA1 hC1
   obtain ⟨gp, op, hAP, hgp, z0, z1⟩ := prC_at hlp hlt
   subst hAP
   rw [hab] at z0 z1
   have RW := Lib.hid hrow
   have HCL := Lib.hid hcl2
   have hk1 : wr.drew.cell? ⟨gp, op + n * 2, none⟩ = some (.int .i64 a) ∧ wr.drew.cell? ⟨gp, op + n * 2 + 1, none⟩ = some (.int .i64 b) := ⟨z0, z1⟩
   have n0 : (0 : Int) ≤ (n : Int) := by omega
   have n1 : (n : Int) < (P.length : Int) := by omega
   have hw1 : IntKind.i64.wrap ((a : Int) + 1) = (a : Int) + 1 := IntWalk.i64_in _ (by omega)
   clear hcur hab hrow hlp z0 z1 hcl2 hL
   go_wp2_with fail
   refine wp_region_E (S := fun w' => w'.cell? ⟨gp, op + n * 2, none⟩ = some (.int .i64 a) ∧ w'.cell? ⟨gp, op + n * 2 + 1, none⟩ = some (.int .i64 b)) [] (by kernel_rfl) (hk1) (fun hHeld hZ => ?_)
   refine' eY 0 hHeld hZ fun hZ => ?_
   try simp only [Act.put,ZA,ZB,ZD,ZE,ZF]
   refine' eY 1 hHeld hZ fun hZ => ?_
   try simp only [Act.put,ZA,ZB,ZC,ZD,ZE,ZF]
   refine' eY 2 hHeld hZ fun hZ => ?_
   try simp only [Act.put,ZA,ZB,ZC,ZD,ZE,ZF]
   refine' eY 3 hHeld hZ fun hZ => ?_
   try simp only [Act.put,ZA,ZB,ZC,ZD,ZE,ZF]
   refine' eY 4 hHeld hZ fun hZ => ?_
   try simp only [Act.put,ZA,ZB,ZC,ZD,ZE,ZF]
   refine' eY 5 hHeld hZ fun hZ => ?_
   try simp only [Act.put,ZA,ZB,ZC,ZD,ZE,ZF]
   refine' eY 6 hHeld hZ fun hZ => ?_
   try simp only [Act.put,ZA,ZB,ZC,ZD,ZE,ZF]
   refine' eY 7 hHeld hZ fun hZ => ?_
   try simp only [Act.put,ZA,ZB,ZC,ZD,ZE,ZF]
   refine' eY 8 hHeld hZ fun hZ => ?_
   try simp only [Act.put,ZA,ZB,ZC,ZD,ZE,ZF]
   refine' eY 9 hHeld hZ fun hZ => ?_
   try simp only [Act.put,ZA,ZB,ZC,ZD,ZE,ZF]
   refine' eY 10 hHeld hZ fun hZ => ?_
   try simp only [Act.put,ZA,ZB,ZC,ZD,ZE,ZF]
   refine' eY 11 hHeld hZ fun hZ => ?_
   try simp only [Act.put,ZA,ZB,ZC,ZD,ZE,ZF]
   refine wpAnyE_done (by kernel_rfl) ?_ _
   clear hZ
   clear hk1 hHeld
   go_wp2_with fail
   obtain ⟨ALr, cLr, hvr, hlr, -, -⟩ := RW.out.form
   injection hvr with hAr _ hCr
   subst hAr hCr
   obtain ⟨wz, hwz⟩ : ∃ u, wr.drew = u := ⟨_, rfl⟩
   have RWz : Hid (Row wz w.heap.size 3 g cL (ints .i64 cur)) := Lib.hid (hwz ▸ Own.same RW.out rfl)
   have HPz : Hid (OwnN wz w.heap.size 83 2 (.slice (some ⟨gp, op, none⟩) P.length cp) P.length (prC P)) := Lib.hid (hwz ▸ HPR.out.same rfl)
   have HBz : Hid (Below w.heap.size w wz) := Lib.hid (by rw [← hwz]; exact below_same HB.out rfl rfl rfl rfl)
   have LZ : Hid (Lies wz wz.heap.size (some ⟨g, 0, none⟩) (ints .i64 cur)) := Lib.hid (hwz ▸ hlr.sameHeap rfl)
   rw [hwz]
   clear hwz hlr
   have hsd := rsides10_any (some ⟨g, 0, none⟩) cur cL ((a : Int) + 1) (b : Int) wz LZ.out (by have := HCL.out; omega) (by omega)
   rw [HCL.out] at hsd
   refine hsd.mono ?_
   clear hsd
   rintro ed wq ⟨rfl, rfl⟩
   obtain ⟨lf, hlf⟩ : ∃ z, hasL cur ((a : Int) + 1) (b : Int) = z := ⟨_, rfl⟩
   obtain ⟨rt, hrt⟩ : ∃ z, hasR cur ((a : Int) + 1) (b : Int) = z := ⟨_, rfl⟩
   have HLF := Lib.hid hlf
   have HRT := Lib.hid hrt
   rw [hlf, hrt]
   clear hlf hrt
   obtain ⟨sm, hsm⟩ : ∃ z, (if e = 1 then rt else lf) = z := ⟨_, rfl⟩
   obtain ⟨ot, hot⟩ : ∃ z, (if e = 1 then lf else rt) = z := ⟨_, rfl⟩
   have HSM : Hid (sameS cur e ((a : Int), (b : Int)) = sm ∧ otherS cur e ((a : Int), (b : Int)) = ot) := Lib.hid ⟨by rw [sameS, ← hsm, ← HLF.out, ← HRT.out], by rw [otherS, ← hot, ← HLF.out, ← HRT.out]⟩
   have HSO := Lib.hid (And.intro hsm hot)
   clear hsm hot
   go_upto_if 72 with fail
   go_cut [19, 20] (fun sv ov wx => sv = .bool sm ∧ ov = .bool ot ∧ wz = wx)
   case first =>
    rcases HER with rfl | rfl
    ·have h1 : Hid (lf = sm ∧ rt = ot) := HSO
     go_wp2_with fail
     go_meet
     exact ⟨by rw [h1.out.1], by rw [h1.out.2], rfl⟩
    ·have h1 : Hid (rt = sm ∧ lf = ot) := HSO
     go_wp2_with fail
     go_meet
     exact ⟨by rw [h1.out.1], by rw [h1.out.2], rfl⟩
   case rest =>
    obtain ⟨rfl, rfl, rfl⟩ := hcut
    go_upto_region 14 with fail
    go_cut [80] (fun v wx => v = .bool (!(sm || ot)) ∧ wz = wx)
    case first =>
     rcases sm with _ | _
     ·rcases ot with _ | _
      ·go_wp2_with fail
       go_meet
       exact ⟨rfl, rfl⟩
      ·go_wp2_with fail
       go_meet
       exact ⟨rfl, rfl⟩
     ·go_wp2_with fail
      go_meet
      exact ⟨rfl, rfl⟩
    case rest =>
     obtain ⟨rfl, rfl⟩ := hcut
     rcases hany : (sm || ot) with _ | _
     ·have HSD : Hid (sideOf cur e sos ((a : Int), (b : Int)) = none) := Lib.hid (by
       rw [Bool.or_eq_false_iff] at hany
       rw [sideOf, HSM.out.1, HSM.out.2, hany.1, hany.2])
      clear hany
      go_wp2_with fail
      go_roundw
      case rel => exact ⟨n + 1, by omega, by go_num, (by rw [HS.out, ofStepB, HSD.out]; have h1 := RWz.out; unfold Row at h1; simp only [ints, List.length_map, HCL.out] at h1; exact h1), HPz.out, HBz.out⟩
      case measure => simp [intOf]; omega
     ·obtain ⟨s, hs⟩ : ∃ s, (if sm then e else if aheadS cur sos a ≠ e then aheadS cur sos a else e) = s := ⟨_, rfl⟩
      have HSD : Hid (sideOf cur e sos ((a : Int), (b : Int)) = some s) := Lib.hid (by
       rw [sideOf, HSM.out.1, HSM.out.2]
       cases sm with
       | true => rw [← hs]; rfl
       | false =>
        rw [Bool.false_or] at hany
        rw [hany, ← hs]
        rfl)
      have HSV := Lib.hid hs
      clear hs hany
      simp only [Bool.not_true]
      go_upto_if 83 with fail
      go_cut [21] (fun v wx => v = .int .i64 s ∧ wz = wx)
      case first =>
       rcases sm with _ | _
       ·have hse : Hid ((if aheadS cur sos a ≠ e then aheadS cur sos a else e) = s) := HSV
        obtain ⟨z0, hz0⟩ : ∃ z, aheadS cur sos 0 = z := ⟨_, rfl⟩
        have HZ0 := Lib.hid hz0
        clear hz0
        go_upto_if 85 with fail
        go_cut [22] (fun v wx => v = .int .i64 z0 ∧ wz = wx)
        case first =>
         rcases hso : (sos == 1) with _ | _
         ·have hi : Hid ((0 : Int) = z0) := Lib.hid (by rw [← HZ0.out, aheadS]; simp at hso; rw [if_neg hso])
          go_wp2_with fail
          go_meet
          exact ⟨by rw [hi.out], rfl⟩
         ·have hi : Hid ((1 : Int) = z0) := Lib.hid (by rw [← HZ0.out, aheadS]; simp at hso; rw [if_pos hso])
          go_wp2_with fail
          go_meet
          exact ⟨by rw [hi.out], rfl⟩
        case rest =>
         obtain ⟨rfl, rfl⟩ := hcut
         go_wp2_with fail
         go_loopw [23, 22] (fun kv av wr => ∃ k : Nat, k ≤ a ∧ kv = .int .i64 k ∧ av = .int .i64 (aheadS cur sos k) ∧ wz = wr) (fun kv _ _ => a - (intOf kv).toNat)
         case atStart => exact ⟨0, by omega, rfl, by rw [HZ0.out], rfl⟩
         case round =>
          obtain ⟨k, hk, rfl, rfl, rfl⟩ := hrel
          obtain ⟨av, hav⟩ : ∃ z, aheadS cur sos k = z := ⟨_, rfl⟩
          rw [hav]
          have HAV := Lib.hid hav
          by_cases hka : k < a
          ·have hkl : k < cur.length := by have := HCL.out; omega
           have hck := RWz.out.cell (j := k) (by simpa using hkl)
           simp only [ints, List.getElem_map] at hck
           obtain ⟨x, hx⟩ : ∃ x, cur[k] = x := ⟨_, rfl⟩
           rw [hx] at hck
           have HAN : Hid (aheadS cur sos (k + 1) = if 0 ≤ sdB x then sdB x else av) := Lib.hid (by rw [aheadS, hav, show cAt cur k = x by simp [cAt, hkl, hx]])
           have k0 : (0 : Int) ≤ (k : Int) := by omega
           have k1 : (k : Int) < (classes.length : Int) := by omega
           have k2 : (k : Int) < (a : Int) := by omega
           clear hx hav
           obtain ⟨sx, hsx⟩ : ∃ z, sdB x = z := ⟨_, rfl⟩
           have HSX := Lib.hid hsx
           rw [hsx] at HAN
           clear hsx
           go_wp2_with fail
           refine (rside10_any x _).mono ?_
           rintro ed wq ⟨rfl, rfl⟩
           rw [HSX.out]
           rcases hps : decide (0 ≤ sx) with _ | _
           ·have HAN2 : Hid (aheadS cur sos (k + 1) = av) := Lib.hid (by rw [HAN.out, if_neg (by simpa using hps)])
            go_wp2_with fail
            go_roundw
            case rel => exact ⟨k + 1, by omega, by go_num, by rw [HAN2.out], by first | rfl | trivial⟩
            case measure => simp [intOf]; omega
           ·have HAN2 : Hid (aheadS cur sos (k + 1) = sx) := Lib.hid (by rw [HAN.out, if_pos (by simpa using hps)])
            go_wp2_with fail
            refine (rside10_any x _).mono ?_
            rintro ed wq ⟨rfl, rfl⟩
            rw [HSX.out]
            go_wp2_with fail
            go_roundw
            case rel => exact ⟨k + 1, by omega, by go_num, by rw [HAN2.out], by first | rfl | trivial⟩
            case measure => simp [intOf]; omega
          ·have hak : k = a := by omega
           rw [hak] at HAV
           have hka2 : ¬ (k : Int) < (a : Int) := by omega
           clear hak hav
           rcases hne : (av != e) with _ | _
           ·have hi : Hid (e = s) := Lib.hid (by rw [← hse.out, HAV.out]; simp at hne; rw [if_neg (by simpa using hne)])
            go_wp2_with fail
            go_meet
            exact ⟨by rw [hi.out], rfl⟩
           ·have hi : Hid (av = s) := Lib.hid (by rw [← hse.out, HAV.out]; simp at hne; rw [if_pos (by simpa using hne)])
            go_wp2_with fail
            go_meet
            exact ⟨by rw [hi.out], rfl⟩
       ·have hse : Hid (e = s) := HSV
        go_wp2_with fail
        go_meet
        exact ⟨by rw [hse.out], rfl⟩
      case rest =>
       obtain ⟨rfl, rfl⟩ := hcut
       go_wp2_with fail
       have ht := rturn_any g cL cur A2 first c2 a s w.heap.size wz RWz.out (H2.out.below HBz.out) (by have := HCL.out; omega) (by rw [HFL.out, HCL.out]) (by rw [HCL.out]; omega)
       rw [HCL.out] at ht
       refine ht.mono ?_
       clear ht
       rintro ed w3 ⟨rfl, r3, b3, g3⟩
       have R3 := Lib.hid r3
       have B3 := Lib.hid b3
       have G3 := Lib.hid g3
       clear r3 b3 g3
       go_wp2_with fail
       have ht := rturn_any g cL (turnL cur first a s) A2 first c2 b s w.heap.size w3 R3.out (H2.out.below (HBz.out.trans B3.out)) (by rw [turnL_length]; have := HCL.out; omega) (by rw [HFL.out, turnL_length, HCL.out]) (by rw [turnL_length, HCL.out]; omega)
       rw [turnL_length, HCL.out] at ht
       refine ht.mono ?_
       clear ht
       rintro ed w4 ⟨rfl, r4, b4, g4⟩
       have R4 := Lib.hid r4
       have B4 := Lib.hid b4
       have G4 := Lib.hid g4
       clear r4 b4 g4
       go_wp2_with fail
       go_roundw
       case rel =>
        have hp3 := HPz.out.keep G3.out (OwnN.unlike HPz.out (show OwnN wz w.heap.size 3 1 (.slice (some ⟨g, 0, none⟩) _ cL) _ _ from RWz.out) (by decide))
        refine ⟨n + 1, by omega, by go_num, ?_, hp3.keep G4.out (OwnN.unlike hp3 (show OwnN w3 w.heap.size 3 1 (.slice (some ⟨g, 0, none⟩) _ cL) _ _ from R3.out) (by decide)), (HBz.out.trans B3.out).trans B4.out⟩
        rw [HS.out, ofStepB, HSD.out]
        have h1 := R4.out
        unfold Row at h1
        simp only [ints, List.length_map, turnL_length, HCL.out] at h1
        exact h1
       case measure => simp [intOf]; omega
  ·obtain rfl : n = P.length := by omega
   go_wp2_with fail
   go_ret
   exact ⟨_, rfl, by rw [HF.out]; exact HQ.out, HB.out⟩
theorem rof10_all (A : Option Addr) (chars : List Int) (c : Nat) (A' : Option Addr) (classes : List Int) (c' : Nat) (A2 : Option Addr) (first : List Int) (c2 : Nat) (level sos : Int) (w : World)
 (h : Lies w w.heap.size A (ints .i64 chars)) (h' : Lies w w.heap.size A' (ints .i64 classes)) (h2 : Lies w w.heap.size A2 (ints .i64 first)) (hl : chars.length ≤ 1000000) (hl' : classes.length ≤ 1000000) :
 Calls Try.prog 44 #[.slice A chars.length c, .slice A' classes.length c', .slice A2 first.length c2, .int .i64 level, .int .i64 sos] w
  (Rowed w w.heap.size 3 (ints .i64 (ofB chars classes first level sos))) := by
 by_cases he : chars.length = classes.length ∧ first.length = classes.length
 ·exact rof10_any A chars c A' classes c' A2 first c2 level sos w h h' h2 hl he.1 he.2
 ·have H' := Lib.hid h'
  have hB : ofB chars classes first level sos = classes := by rw [ofB, if_neg he]
  rw [hB]
  clear h h' h2 hB
  rcases h1 : ((chars.length : Int) != (classes.length : Int)) with _ | _
  ·have h3 : ((first.length : Int) != (classes.length : Int)) = true := by
    simp at h1 ⊢
    omega
   go_enter Try.func44, Try.ntmps44
   go_wp2_with (first
    | (at_builtin; refine app_src intsT w (w.alloc (.cells #[] 3)) w.heap.size w.heap.size _ _ _ [] (ints .i64 classes) A' classes.length c' rfl rfl rfl rfl (by simp) (Own.ofLit #[] (Nat.le_refl _) (by decide)) (H'.out.alloc (Nat.le_refl _) _) (ints_one _ _) (below_alloc _ _) (by simp) (by unfold maxLen; simp; omega) (by simp; omega) ?_; intro v1 w1 o1 b1 _ _; have O1 := Lib.hid (show Own w1 w.heap.size 3 v1 (ints .i64 classes) by simpa using o1); have B1 := Lib.hid b1; clear o1 b1)
    | fail)
   go_ret
   exact ⟨_, rfl, O1.out, B1.out⟩
  ·go_enter Try.func44, Try.ntmps44
   go_wp2_with (first
    | (at_builtin; refine app_src intsT w (w.alloc (.cells #[] 3)) w.heap.size w.heap.size _ _ _ [] (ints .i64 classes) A' classes.length c' rfl rfl rfl rfl (by simp) (Own.ofLit #[] (Nat.le_refl _) (by decide)) (H'.out.alloc (Nat.le_refl _) _) (ints_one _ _) (below_alloc _ _) (by simp) (by unfold maxLen; simp; omega) (by simp; omega) ?_; intro v1 w1 o1 b1 _ _; have O1 := Lib.hid (show Own w1 w.heap.size 3 v1 (ints .i64 classes) by simpa using o1); have B1 := Lib.hid b1; clear o1 b1)
    | fail)
   go_ret
   exact ⟨_, rfl, O1.out, B1.out⟩
end Go.Proofs.Ytadfleopbpomfaa
namespace Go.Proofs.Ytadfleopbpomfaa
open Go.RowKit
def w1K (p k : Int) : Int := if k = 8 then (if isOpens p ∨ p = 22 then 13 else p) else k
theorem w1_at : ∀ (p : Int) (l : List Int) (k : Nat), k < l.length → w1K ((p :: rW1 p l).getD k 0) (l.getD k 0) = (rW1 p l).getD k 0
 | _, [], k, h => by simp at h
 | p, x :: l, 0, _ => rfl
 | p, x :: l, k + 1, h => by
  have := w1_at (w1K p x) l k (by simpa using h)
  exact this
theorem wS_at (a b : Int) : ∀ (s : Int) (l : List Int) (k : Nat), k < l.length → (if l.getD k 0 = 3 ∧ lastStrong s (l.take k) = a then b else l.getD k 0) = (rWS a b s l).getD k 0
 | _, [], k, h => by simp at h
 | s, x :: l, 0, _ => rfl
 | s, x :: l, k + 1, h => by
  have := wS_at a b (if isStrong x then x else s) l k (by simpa using h)
  exact this
theorem map_at (f : Int → Int) {l : List Int} {k : Nat} (h : k < l.length) : f (l.getD k 0) = (l.map f).getD k 0 := by
 rw [getD_at h, getD_at (by simpa using h), List.getElem_map]
def w4K (p k : Int) (nx : Option Int) : Int := if (k = 4 ∧ p = 3 ∧ nx = some 3) ∨ (k = 7 ∧ (p = 3 ∨ p = 6) ∧ nx = some p) then p else k
theorem w4_at : ∀ (p : Int) (l : List Int) (k : Nat), k < l.length → w4K ((p :: rW4 p l).getD k 0) (l.getD k 0) l[k + 1]? = (rW4 p l).getD k 0
 | _, [], k, h => by simp at h
 | p, x :: l, 0, _ => by
  show w4K p x (x :: l)[0 + 1]? = _
  rw [Nat.zero_add, List.getElem?_cons_succ, ← List.head?_eq_getElem?]
  rfl
 | p, x :: l, k + 1, h => by
  have := w4_at (w4K p x l.head?) l k (by simpa using h)
  rw [List.getElem?_cons_succ]
  exact this
def Ruled (f : FuncId) (args : List Value) (R : List Int → List Int) : Prop :=
 ∀ (B c : Nat) (A : Option Addr) (l : List Int) (w : World), l.length ≤ 1000000 → B ≤ w.heap.size → Own w B 3 (.slice A l.length c) (ints .i64 l) →
  Calls Try.prog f (.slice A l.length c :: args).toArray w fun ed w' => ed = .returned (.tuple #[]) ∧ Own w' B 3 (.slice A l.length c) (ints .i64 (R l)) ∧ Below B w w'
theorem row_own {w : World} {B g c n : Nat} {L : List Int} (hL : L.length = n) : Row w B 3 g c (ints .i64 L) = Own w B 3 (.slice (some ⟨g, 0, none⟩) n c) (ints .i64 L) := by
 rw [Row, ints, List.length_map, hL]
theorem row_int {w : World} {B g c j : Nat} {L : List Int} {x : Int} (h : Row w B 3 g c (ints .i64 L)) (hx : L[j]? = some x) : w.cell? ⟨g, j, none⟩ = some (.int .i64 x) := by
 obtain ⟨hj, rfl⟩ := List.getElem?_eq_some_iff.1 hx
 rw [h.cell (j := j) (by simpa [ints] using hj)]
 simp [ints]
theorem row_lies {w : World} {B g c : Nat} {L : List Int} (h : Row w B 3 g c (ints .i64 L)) : Lies w w.heap.size (some ⟨g, 0, none⟩) (ints .i64 L) := by
 obtain ⟨A, c', hv, hl, _⟩ := Own.form h
 injection hv with hA _ _
 subst hA
 exact hl
theorem ruled_of {f : FuncId} {args : List Value} {R : List Int → List Int} (hR : ∀ l, (R l).length = l.length)
 (h0 : ∀ (A : Option Addr) (c : Nat) (w : World), Calls Try.prog f (.slice A 0 c :: args).toArray w fun ed w' => ed = .returned (.tuple #[]) ∧ w = w')
 (h1 : ∀ (B c g : Nat) (l : List Int) (w : World), 0 < l.length → l.length ≤ 1000000 → B ≤ w.heap.size → Row w B 3 g c (ints .i64 l) →
  Calls Try.prog f (.slice (some ⟨g, 0, none⟩) l.length c :: args).toArray w fun ed w' => ed = .returned (.tuple #[]) ∧ Row w' B 3 g c (ints .i64 (R l)) ∧ Below B w w') : Ruled f args R := by
 intro B c A l w hl hB hO
 by_cases hz : l.length = 0
 ·obtain rfl := List.eq_nil_of_length_eq_zero hz
  have e : R [] = [] := List.eq_nil_of_length_eq_zero (hR [])
  exact (h0 A c w).mono fun _ _ ⟨a, b⟩ => by subst b; exact ⟨a, by rw [e]; exact hO, Below.refl _ _⟩
 obtain ⟨g, c', hv, hr⟩ := hO.inRow (by simp [ints]; omega)
 injection hv with hA _ hc
 subst hA hc
 exact (h1 B c g l w (by omega) hl hB hr).mono fun _ _ ⟨a, b, d⟩ => ⟨a, by rw [row_own (hR l)] at b; exact b, d⟩
end Go.Proofs.Ytadfleopbpomfaa
