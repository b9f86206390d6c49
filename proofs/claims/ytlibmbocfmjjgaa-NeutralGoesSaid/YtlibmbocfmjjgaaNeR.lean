/- Layer 11: the program's Of. -/
import Derived.Test.YtlibmbocfmjjgaaNeP
namespace Go.Proofs.Ytlibmbocfmjjgaa
open Go.RowKit

set_option maxRecDepth 20000 in
set_option maxHeartbeats 8000000 in
theorem nof_any (A : Option Addr) (l : List Int) (c : Nat) (lev sos eos : Int) (w : World) (h : Lies w w.heap.size A (ints .i64 l)) (hl : l.length ≤ 1000) :
    Calls Try.prog 9 #[.slice A l.length c, .int .i64 lev, .int .i64 sos, .int .i64 eos] w fun ed w' => Rowed w w.heap.size 3 (ints .i64 (nofI l lev sos eos)) ed w' := by
  have H := Lib.hid h
  obtain ⟨G, hG⟩ : ∃ G, groupsI l = G := ⟨_, rfl⟩
  have HG := Lib.hid hG
  have HGL : Hid (G.length ≤ l.length) := Lib.hid (by rw [← hG]; exact (ginv l l.length (Nat.le_refl _)).len)
  clear h hG
  go_enter Try.func9, Try.ntmps9
  go_wp2_with fail
  refine (clone_any A l c w H.out (by omega)).mono ?_
  rintro e w1 ⟨v1, rfl, o1, b1⟩
  have O1 := Lib.hid o1
  have B1 := Lib.hid b1
  have H1 := Lib.hid (H.out.up b1)
  have hs1 : w.heap.size ≤ w1.heap.size := b1.size
  clear o1 b1
  go_wp2_with fail
  refine (ngroups_own A l c w1 H1.out (by omega)).mono ?_
  rintro e w2 ⟨v2, rfl, o2, b2⟩
  rw [HG.out] at o2
  obtain ⟨A2, c2, rfl, -, -, -⟩ := o2.form
  have P2 := Lib.hid o2
  have B2 := Lib.hid (below_then B1.out b2)
  have O2 := Lib.hid (O1.out.below b2 (Nat.le_refl _))
  have hs2 : w1.heap.size ≤ w2.heap.size := b2.size
  clear o2 b2
  obtain ⟨L', hL'⟩ : ∃ L', nofI l lev sos eos = L' := ⟨_, rfl⟩
  have HL' := Lib.hid hL'
  have HLL : Hid (L'.length = l.length) := Lib.hid (by rw [← hL', nofI_length])
  have O0 : Hid (Own w2 w.heap.size 3 v1 (ints .i64 (mixL l L' (endN l 0)))) := Lib.hid (by rw [endN, if_pos rfl, mixL_zero]; exact O2.out)
  have HOV : Hid (∀ n, n = G.length → mixL l L' (endN l n) = L') := Lib.hid fun n hn => by rw [hn, ← HG.out, ← hL', mix_last]
  have HAG : Hid (∀ n (hn : n < G.length), ∃ a b : Nat, G[n] = ((a : Int), (b : Int)) ∧ Around l a b ∧ endN l (n + 1) = b ∧ mixL l L' (endN l n) = mixL l L' a ∧ ∀ i, a ≤ i → i < b → L'.getD i 0 = grpTo l lev sos eos a b) := Lib.hid fun n hn => by
    have hg := HG.out
    subst hg
    obtain ⟨a, b, h1, h2⟩ := grp_at l hn
    exact ⟨a, b, h1, h2, endN_succ l hn h1, by rw [← hL', mix_group l lev sos eos hn h1 h2], fun i i1 i2 => by rw [← hL', nofI_group lev sos eos h2 i1 i2]⟩
  clear hL'
  have hgl := HGL.out
  go_wp2_with fail
  go_loopw [19] (fun nv wr => ∃ n : Nat, n ≤ G.length ∧ nv = .int .i64 n ∧ Hid (Own wr w.heap.size 3 v1 (ints .i64 (mixL l L' (endN l n)))) ∧ Hid (OwnN wr w1.heap.size 38 2 (.slice A2 G.length c2) G.length (prC G)) ∧ Hid (Below w.heap.size w wr) ∧ Hid (w2.heap.size ≤ wr.heap.size)) (fun nv _ => G.length - (intOf nv).toNat)
  case atStart => exact ⟨0, by omega, rfl, O0, P2, B2, Lib.hid (Nat.le_refl _)⟩
  case round =>
    obtain ⟨n, hn, rfl, HO, HP, HB, HSZ⟩ := hrel
    by_cases hlt : n < G.length
    · obtain ⟨a, b, hab, har, hen, hmx, hto⟩ := HAG.out n hlt
      obtain ⟨A3, c3, hv3, hl3, -, -⟩ := HP.out.form
      injection hv3 with hv3 _ hc3
      subst hv3 hc3
      obtain ⟨g, off, hA, _, p0, p1⟩ := prC_at hl3 hlt
      subst hA
      rw [hab] at p0 p1
      simp only at p0 p1
      have hbl := har.le
      have hal := har.lt
      have HAR := Lib.hid har
      have HEN := Lib.hid hen
      have HTO := Lib.hid hto
      have HMX := Lib.hid hmx
      have n0 : (0 : Int) ≤ (n : Int) := by omega
      have n1 : (n : Int) < (G.length : Int) := by omega
      clear hab har hen hmx hto hl3
      go_wp2_with fail
      obtain ⟨wa, hwa⟩ : ∃ u, wr.alloc (.cells #[.int .i64 (a : Int), .int .i64 (b : Int)] 38) = u := ⟨_, rfl⟩
      have HBa : Hid (Below w.heap.size w wa) := Lib.hid (hwa ▸ HB.out.trans ((below_alloc wr _).mono HB.out.size))
      have SB : Hid (∀ w', Below wa.heap.size wa w' → w'.cell? ⟨wr.heap.size, 0, none⟩ = some (.int .i64 (a : Int)) ∧ w'.cell? ⟨wr.heap.size, 1, none⟩ = some (.int .i64 (b : Int))) := Lib.hid fun w' hb => ⟨boxed (hwa ▸ hb) rfl, boxed (hwa ▸ hb) rfl⟩
      have HOa : Hid (Own wa w.heap.size 3 v1 (ints .i64 (mixL l L' (endN l n)))) := Lib.hid (hwa ▸ HO.out.alloc _)
      have HPa : Hid (OwnN wa w1.heap.size 38 2 (.slice (some ⟨g, off, none⟩) G.length c2) G.length (prC G)) := Lib.hid (hwa ▸ HP.out.alloc _)
      have HSa : Hid (wr.heap.size + 1 = wa.heap.size) := Lib.hid (by rw [← hwa]; simp)
      rw [hwa]
      clear hwa p0 p1
      obtain ⟨T, hT⟩ : ∃ T, grpTo l lev sos eos a b = T := ⟨_, rfl⟩
      rw [hT] at HTO
      have HT := Lib.hid hT
      obtain ⟨e, he⟩ : ∃ e, dirL lev = e := ⟨_, rfl⟩
      have HE := Lib.hid he
      clear hT he
      refine wp_region_held_drew (S := fun w' => w'.cell? ⟨wr.heap.size, 0, none⟩ = some (.int .i64 (a : Int)) ∧ w'.cell? ⟨wr.heap.size, 1, none⟩ = some (.int .i64 (b : Int))) (by kernel_rfl) (SB.out _ (by exact below_same (Below.refl _ wa) rfl rfl rfl rfl)) (fun hHeld => ?_)
      refine' eH 0 rfl (fun _ _ _ h => h) (Or.inl ⟨by rfl, fun u hu => ?_⟩) (by assumption) ?_
      rotate_left
      · (try dsimp only at hu); go_simp; try with_reducible rfl
      try simp only [Act.put,ZA,ZB,ZD,ZE,ZF]
      refine' eH 1 rfl (fun _ _ _ h => h) (Or.inl ⟨by rfl, fun u hu => ?_⟩) (by assumption) ?_
      rotate_left
      · (try dsimp only at hu); go_simp; try with_reducible rfl
      try simp only [Act.put,ZA,ZB,ZC,ZD,ZE,ZF]
      refine' eH 2 rfl (fun _ _ _ h => h) (Or.inl ⟨by rfl, fun u hu => ?_⟩) (by assumption) ?_
      rotate_left
      · (try dsimp only at hu); go_simp; try with_reducible rfl
      try simp only [Act.put,ZA,ZB,ZC,ZD,ZE,ZF]
      refine' eH 4 rfl (fun _ _ _ h => h) (Or.inl ⟨by rfl, fun u hu => ?_⟩) (by assumption) ?_
      rotate_left
      · (try dsimp only at hu); go_simp; try with_reducible rfl
      try simp only [Act.put,ZA,ZB,ZC,ZD,ZE,ZF]
      refine' eH 5 rfl (fun _ _ _ h => h) (Or.inl ⟨by rfl, fun u hu => ?_⟩) (by assumption) ?_
      rotate_left
      · (try dsimp only at hu); go_simp; try with_reducible rfl
      try simp only [Act.put,ZA,ZB,ZC,ZD,ZE,ZF]
      refine wpAnyH_ready (rs := [3]) (by kernel_rfl) (by simp) ?_
      refine AllReadyH.cons rfl (fun K hK => ?_) AllReadyH.nil
      simp only [List.getElem_toArray, List.getElem_cons_zero, List.getElem_cons_succ]
      go_simp
      refine (sdir_q lev _).mono ?_
      rintro ed wq ⟨rfl, rfl⟩
      rw [HE.out]
      go_wp2_with fail
      refine hK.out _ _ (by exact SB.out _ (by exact below_same (Below.refl _ wa) rfl rfl rfl rfl)) (fun hHeld => ?_)
      clear hK K
      try simp only [Act.put,ZA,ZB,ZC,ZD,ZE,ZF]
      refine wpAnyH_ready (rs := [6]) (by kernel_rfl) (by simp) ?_
      refine AllReadyH.cons rfl (fun K hK => ?_) AllReadyH.nil
      simp only [List.getElem_toArray, List.getElem_cons_zero, List.getElem_cons_succ]
      go_simp
      refine (nbecomes_any A l c a b lev e sos eos wa.drew (((H.out.up HBa.out).sameHeap rfl)) HAR.out (by omega) HE.out).mono ?_
      rintro ed w3 ⟨rfl, b_⟩
      rw [HT.out]
      have D3 : Hid (Below wa.heap.size wa w3) := Lib.hid ((below_drawn (Below.refl wa.heap.size wa) 1).trans (by exact b_))
      clear b_
      go_wp2_with fail
      refine hK.out _ _ (by exact SB.out _ D3.out) (fun hHeld => ?_)
      clear hK K
      try simp only [Act.put,ZA,ZB,ZC,ZD,ZE,ZF]
      refine' eH 7 rfl (fun _ _ _ h => h) (Or.inl ⟨by rfl, fun u hu => ?_⟩) (by assumption) ?_
      rotate_left
      · (try dsimp only at hu); go_simp; try with_reducible rfl
      try simp only [Act.put,ZA,ZB,ZC,ZD,ZE,ZF]
      refine wpAnyH_done (by kernel_rfl) ?_ _
      have HB3 := Lib.hid (HBa.out.trans (D3.out.mono HBa.out.size))
      have HO3 := Lib.hid (HOa.out.below D3.out (Nat.le_refl _))
      have HP3 := Lib.hid (HPa.out.below D3.out (Nat.le_refl _))
      obtain ⟨z0, z1⟩ := SB.out w3 D3.out
      go_wp2_with fail
      have hil : (ints .i64 (mixL l L' (endN l n))).length = l.length := by rw [ints, List.length_map, mixL_all HLL.out]
      obtain ⟨g1, c1, hv1, hR⟩ := HO3.out.inRow (by omega)
      rw [hil] at hv1
      subst hv1
      have hg1 : Hid (g1 ≠ wr.heap.size) := Lib.hid (by have := (Own.inside O2.out g1 rfl).2; have := HSZ.out; omega)
      rw [HMX.out] at hR
      have HR := Lib.hid hR
      clear hil hR z0 z1
      go_loopw [13] (fun iv wx => ∃ i : Nat, a ≤ i ∧ i ≤ b ∧ iv = .int .i64 i ∧ Hid (Row wx w.heap.size 3 g1 c1 (ints .i64 (mixL l L' i))) ∧ Hid (OwnN wx w1.heap.size 38 2 (.slice (some ⟨g, off, none⟩) G.length c2) G.length (prC G)) ∧ Hid (Below w.heap.size w wx) ∧ Hid (w2.heap.size ≤ wx.heap.size) ∧ Hid (wx.cell? ⟨wr.heap.size, 1, none⟩ = some (.int .i64 (b : Int)) ∧ wr.heap.size < wx.heap.size)) (fun iv _ => b - (intOf iv).toNat)
      case atStart => exact ⟨a, by omega, by omega, rfl, HR, HP3, HB3, Lib.hid (by have := D3.out.size; have := HSa.out; have := HSZ.out; omega), Lib.hid ⟨(SB.out w3 D3.out).2, by have := D3.out.size; have := HSa.out; omega⟩⟩
      case round =>
        rename World => wx
        obtain ⟨i, hai, hib, rfl, HRi, HPi, HBi, HSi, HCi⟩ := hrel
        obtain ⟨z1, -⟩ := HCi.out
        by_cases hlt2 : i < b
        · have i1 : (i : Int) < (b : Int) := by omega
          have hjl : i < (ints .i64 (mixL l L' i)).length := by rw [ints, List.length_map, mixL_all HLL.out]; omega
          have HJL := Lib.hid hjl
          clear hjl
          go_wp2_with (first
            | (refine store_row intsT wx w.heap.size _ _ g1 i c1 .i64 T (ints .i64 (mixL l L' i)) w rfl rfl rfl rfl rfl HRi.out HJL.out HBi.out ?_; intro w5 r5 b5 g5; have R5 := Lib.hid r5; have B5 := Lib.hid b5; have P5 := Lib.hid (HPi.out.keep g5 (OwnN.unlike HPi.out (HRi.out : OwnN _ _ _ 1 _ _ _) (by decide))); have G5 := Lib.hid g5; clear r5 b5 g5)
            | fail)
          go_roundw
          case rel =>
            refine ⟨i + 1, by omega, by omega, by go_num, Lib.hid ?_, P5, B5, Lib.hid (by have := G5.out.size; have := HSi.out; omega), Lib.hid ⟨?_, by have := G5.out.size; have := HCi.out.2; omega⟩⟩
            · have := R5.out
              have hset := mixL_set (pre := []) (post := []) HLL.out (show i < l.length by omega)
              simp only [List.nil_append, List.append_nil, List.length_nil, Nat.zero_add] at hset
              rw [ints_set, ← HTO.out i hai hlt2, hset] at this
              exact this
            · rw [World.cell?_of_block (G5.out.block _ HCi.out.2 (fun e => hg1.out (by injection e with e; exact e.symm)))]
              exact HCi.out.1
          case measure => simp [intOf]; omega
        · obtain rfl : i = b := by omega
          have i1 : ¬ (i : Int) < (i : Int) := by omega
          go_wp2_with fail
          go_roundw
          case rel =>
            refine ⟨n + 1, by omega, by go_num, Lib.hid ?_, HPi, HBi, HSi⟩
            have := HRi.out
            rw [Row, ints, List.length_map, mixL_all HLL.out] at this
            rw [HEN.out]; exact this
          case measure => simp [intOf]; omega
    · obtain rfl : n = G.length := by omega
      go_wp2
      go_ret
      exact ⟨v1, rfl, by have := HO.out; rw [HOV.out _ rfl, ← HL'.out] at this; exact this, HB.out⟩
end Go.Proofs.Ytlibmbocfmjjgaa
