/- Layer 11: the document's Of. -/
import Derived.Test.YtlibmbocfmjjgaaNeB
import Derived.Test.YtlibmbocfmjjgaaFill
import Derived.Test.YtlibmbocfmjjgaaCells
import Derived.Deep.DeepCutAuto
namespace Go.Proofs.Ytlibmbocfmjjgaa
open Go.RowKit

set_option maxRecDepth 20000 in
set_option maxHeartbeats 8000000 in
theorem rof11_any (A : Option Addr) (l : List Int) (c : Nat) (lev sos eos : Int) (w : World) (h : Lies w w.heap.size A (ints .i64 l)) (hl : l.length ≤ 1000000) :
    Calls Try.prog 10 #[.slice A l.length c, .int .i64 lev, .int .i64 sos, .int .i64 eos] w fun ed w' => Rowed w w.heap.size 3 (ints .i64 (nofI l lev sos eos)) ed w' := by
  have H := Lib.hid h
  obtain ⟨G, hG⟩ : ∃ G, groupsI l = G := ⟨_, rfl⟩
  have HG := Lib.hid hG
  have HGL : Hid (G.length ≤ l.length) := Lib.hid (by rw [← hG]; exact (ginv l l.length (Nat.le_refl _)).len)
  clear h hG
  go_enter Try.func10, Try.ntmps10
  go_wp2_with (first
    | (at_builtin; refine app_src intsT w (w.alloc (.cells #[] 3)) w.heap.size w.heap.size _ _ _ [] (ints .i64 l) A l.length c rfl rfl rfl rfl (by simp [ints]) (Own.ofLit #[] (Nat.le_refl _) (by decide)) (H.out.alloc (Nat.le_refl _) _) (ints_one _ _) (below_alloc _ _) (by simp) (by unfold maxLen; simp [ints]; omega) (by simp [ints]; omega) ?_; intro v1 w1 o1 b1 _ _; have O1 := Lib.hid o1; have B1 := Lib.hid b1; clear o1 b1)
    | fail)
  have H1 := Lib.hid (H.out.up B1.out)
  refine (rgroups11_any A l c w1 H1.out hl).mono ?_
  rintro e w2 ⟨v2, rfl, o2, b2⟩
  rw [HG.out] at o2
  obtain ⟨A2, c2, rfl, -, -, -⟩ := o2.form
  have P2 := Lib.hid o2
  have B2 := Lib.hid (below_then B1.out b2)
  have O2 := Lib.hid (O1.out.below b2 (Nat.le_refl _))
  clear o2 b2
  obtain ⟨L', hL'⟩ : ∃ L', nofI l lev sos eos = L' := ⟨_, rfl⟩
  have HL' := Lib.hid hL'
  have HLL : Hid (L'.length = l.length) := Lib.hid (by rw [← hL', nofI_length])
  have O0 : Hid (Own w2 w.heap.size 3 v1 (ints .i64 (mixL l L' (endN l 0)))) := Lib.hid (by rw [endN, if_pos rfl, mixL_zero]; simpa using O2.out)
  have HOV : Hid (∀ n, n = G.length → mixL l L' (endN l n) = L') := Lib.hid fun n hn => by rw [hn, ← HG.out, ← hL', mix_last]
  have HAG : Hid (∀ n (hn : n < G.length), ∃ a b : Nat, G[n] = ((a : Int), (b : Int)) ∧ Around l a b ∧ endN l (n + 1) = b ∧ mixL l L' (endN l n) = mixL l L' a ∧ ∀ i, a ≤ i → i < b → L'.getD i 0 = grpTo l lev sos eos a b) := Lib.hid fun n hn => by
    have hg := HG.out
    subst hg
    obtain ⟨a, b, h1, h2⟩ := grp_at l hn
    exact ⟨a, b, h1, h2, endN_succ l hn h1, by rw [← hL', mix_group l lev sos eos hn h1 h2], fun i i1 i2 => by rw [← hL', nofI_group lev sos eos h2 i1 i2]⟩
  clear hL'
  have hgl := HGL.out
  go_wp2_with fail
  go_loopw [11] (fun nv wr => ∃ n : Nat, n ≤ G.length ∧ nv = .int .i64 n ∧ Hid (Own wr w.heap.size 3 v1 (ints .i64 (mixL l L' (endN l n)))) ∧ Hid (OwnN wr w1.heap.size 38 2 (.slice A2 G.length c2) G.length (prC G)) ∧ Hid (Below w.heap.size w wr)) (fun nv _ => G.length - (intOf nv).toNat)
  case atStart => exact ⟨0, by omega, rfl, O0, P2, B2⟩
  case round =>
    obtain ⟨n, hn, rfl, HO, HP, HB⟩ := hrel
    by_cases hlt : n < G.length
    · obtain ⟨a, b, hab, har, hen, hmx, hto⟩ := HAG.out n hlt
      obtain ⟨A3, c3, hv3, hl3, -, -⟩ := HP.out.form
      injection hv3 with hv3 _ hc3
      subst hv3 hc3
      obtain ⟨g, off, hA, _, p0, p1⟩ := prC_at hl3 hlt
      subst hA
      rw [hab] at p0 p1
      simp only at p0 p1
      have hbl := har.le
      have hal := har.lt
      have HAR := Lib.hid har
      have HAB := Lib.hid hab
      have HEN := Lib.hid hen
      have HTO := Lib.hid hto
      have HMX := Lib.hid hmx
      obtain ⟨X, hX⟩ : ∃ X, (if 0 < a then nSide lev (l.getD (a - 1) 0) else endK sos) = X := ⟨_, rfl⟩
      obtain ⟨Y, hY⟩ : ∃ Y, (if b < l.length then nSide lev (l.getD b 0) else endK eos) = Y := ⟨_, rfl⟩
      have HGT : Hid (grpTo l lev sos eos a b = if X = Y then X else dirL lev) := Lib.hid (by rw [grpTo, hX, hY])
      have HX := Lib.hid hX
      have HY := Lib.hid hY
      have n0 : (0 : Int) ≤ (n : Int) := by omega
      have n1 : (n : Int) < (G.length : Int) := by omega
      clear hab har hen hmx hto hl3 hX hY
      have hlb := HAR.out.le
      go_upto_if 36 with fail
      refine (rend11_any sos wr).mono ?_
      rintro e wq ⟨rfl, rfl⟩
      go_upto_if 36 with fail
      refine (rend11_any eos wr).mono ?_
      rintro e wq ⟨rfl, rfl⟩
      go_upto_if 36 with fail
      go_cut [12] (fun v wx => v = .int .i64 X ∧ wr = wx)
      case first =>
        rcases a with _ | m
        · have hi : Hid (endK sos = X) := Lib.hid (by have := HX.out; rw [if_neg (by omega)] at this; exact this)
          go_wp2_with fail
          go_meet
          exact ⟨by rw [hi.out], rfl⟩
        · have hml : m < l.length := by omega
          obtain ⟨p, hp, _, hc⟩ := (H.out.below HB.out).int hml
          subst hp
          have hi : Hid (nSide lev l[m] = X) := Lib.hid (by have := HX.out; rw [if_pos (by omega), Nat.add_sub_cancel, getD_at hml] at this; exact this)
          obtain ⟨x, hx⟩ : ∃ x, l[m] = x := ⟨_, rfl⟩
          rw [hx] at hc hi
          have m0 : (0 : Int) ≤ (m : Int) := by omega
          have m1 : (m : Int) < (l.length : Int) := by omega
          have m2 : (0 : Int) < (m : Int) + 1 := by omega
          clear hx
          go_wp2_with fail
          refine (rside11_any x lev wr).mono ?_
          rintro e wq ⟨rfl, rfl⟩
          rw [hi.out]
          go_wp2_with fail
          go_meet
          exact ⟨rfl, rfl⟩
      case rest =>
        obtain ⟨rfl, rfl⟩ := hcut
        go_upto_if 55 with fail
        go_cut [13] (fun v wx => v = .int .i64 Y ∧ wr = wx)
        case first =>
          by_cases hbn : b < l.length
          · obtain ⟨p, hp, _, hc⟩ := (H.out.below HB.out).int hbn
            subst hp
            have hi : Hid (nSide lev l[b] = Y) := Lib.hid (by have := HY.out; rw [if_pos hbn, getD_at hbn] at this; exact this)
            obtain ⟨x, hx⟩ : ∃ x, l[b] = x := ⟨_, rfl⟩
            rw [hx] at hc hi
            have m0 : (0 : Int) ≤ (b : Int) := by omega
            have m1 : (b : Int) < (l.length : Int) := by omega
            clear hx
            go_wp2_with fail
            refine (rside11_any x lev wr).mono ?_
            rintro e wq ⟨rfl, rfl⟩
            rw [hi.out]
            go_wp2_with fail
            go_meet
            exact ⟨rfl, rfl⟩
          · have hi : Hid (endK eos = Y) := Lib.hid (by have := HY.out; rw [if_neg hbn] at this; exact this)
            have m1 : ¬ (b : Int) < (l.length : Int) := by omega
            go_wp2_with fail
            go_meet
            exact ⟨by rw [hi.out], rfl⟩
        case rest =>
          obtain ⟨rfl, rfl⟩ := hcut
          go_upto_if 70 with fail
          refine (rdir8_any lev wr).mono ?_
          rintro e wq ⟨rfl, rfl⟩
          obtain ⟨T, hT⟩ : ∃ T, grpTo l lev sos eos a b = T := ⟨_, rfl⟩
          rw [hT] at HGT HTO
          go_upto_if 70 with fail
          go_cut [14] (fun v wx => v = .int .i64 T ∧ wr = wx)
          case first =>
            rcases hxy : (X == Y) with _ | _
            · have hi : Hid (dirL lev = T) := Lib.hid (by have := HGT.out; rw [if_neg (by simpa using hxy)] at this; exact this.symm)
              go_wp2_with fail
              go_meet
              exact ⟨by rw [hi.out], rfl⟩
            · have hi : Hid (X = T) := Lib.hid (by have := HGT.out; rw [if_pos (by simpa using hxy)] at this; exact this.symm)
              go_wp2_with fail
              go_meet
              exact ⟨by rw [hi.out], rfl⟩
          case rest =>
            obtain ⟨rfl, rfl⟩ := hcut
            clear hT
            have hil : (ints .i64 (mixL l L' (endN l n))).length = l.length := by rw [ints, List.length_map, mixL_all HLL.out]
            obtain ⟨g1, c1, hv1, hR⟩ := HO.out.inRow (by omega)
            rw [hil] at hv1
            subst hv1
            rw [HMX.out] at hR
            have HR := Lib.hid hR
            clear hil hR
            go_wp2_with fail
            go_loopw [15] (fun iv wx => ∃ i : Nat, a ≤ i ∧ i ≤ b ∧ iv = .int .i64 i ∧ Hid (Row wx w.heap.size 3 g1 c1 (ints .i64 (mixL l L' i))) ∧ Hid (OwnN wx w1.heap.size 38 2 (.slice (some ⟨g, off, none⟩) G.length c2) G.length (prC G)) ∧ Hid (Below w.heap.size w wx)) (fun iv _ => b - (intOf iv).toNat)
            case atStart => exact ⟨a, by omega, by omega, rfl, HR, HP, HB⟩
            case round =>
              rename World => wx
              obtain ⟨i, hai, hib, rfl, HRi, HPi, HBi⟩ := hrel
              obtain ⟨A4, c4, hv4, hl4, -, -⟩ := HPi.out.form
              injection hv4 with hv4 _ hc4
              subst hv4 hc4
              obtain ⟨g4, off4, hA4, _, q0, q1⟩ := prC_at hl4 hlt
              injection hA4 with hA4
              injection hA4 with hg4 ho4 _
              subst hg4 ho4
              rw [HAB.out] at q0 q1
              simp only at q0 q1
              clear hl4 p0 p1
              by_cases hlt2 : i < b
              · have i1 : (i : Int) < (b : Int) := by omega
                have hjl : i < (ints .i64 (mixL l L' i)).length := by rw [ints, List.length_map, mixL_all HLL.out]; omega
                have HJL := Lib.hid hjl
                clear hjl
                go_wp2_with (first
                  | (refine store_row intsT wx w.heap.size _ _ g1 i c1 .i64 T (ints .i64 (mixL l L' i)) w rfl rfl rfl rfl rfl HRi.out HJL.out HBi.out ?_; intro w5 r5 b5 g5; have R5 := Lib.hid r5; have B5 := Lib.hid b5; have P5 := Lib.hid (HPi.out.keep g5 (OwnN.unlike HPi.out (HRi.out : OwnN _ _ _ 1 _ _ _) (by decide))); clear r5 b5 g5)
                  | fail)
                go_roundw
                case rel =>
                  refine ⟨i + 1, by omega, by omega, by go_num, Lib.hid ?_, P5, B5⟩
                  have := R5.out
                  have hset := mixL_set (pre := []) (post := []) HLL.out (show i < l.length by omega)
                  simp only [List.nil_append, List.append_nil, List.length_nil, Nat.zero_add] at hset
                  rw [ints_set, ← HTO.out i hai hlt2, hset] at this
                  exact this
                case measure => simp [intOf]; omega
              · obtain rfl : i = b := by omega
                have i1 : ¬ (i : Int) < (i : Int) := by omega
                go_wp2_with fail
                go_roundw
                case rel =>
                  refine ⟨n + 1, by omega, by go_num, Lib.hid ?_, HPi, HBi⟩
                  have := HRi.out
                  rw [Row, ints, List.length_map, mixL_all HLL.out] at this
                  rw [HEN.out]; exact this
                case measure => simp [intOf]; omega
    · obtain rfl : n = G.length := by omega
      go_wp2
      go_ret
      exact ⟨v1, rfl, by have := HO.out; rw [HOV.out _ rfl, ← HL'.out] at this; exact this, HB.out⟩
end Go.Proofs.Ytlibmbocfmjjgaa
