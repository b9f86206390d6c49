/- Layer 10: the program's Of. -/
import Derived.Test.YtoiolgpbecgfkaaBrE
import Derived.Test.YtoiolgpbecgfkaaBrI
import Derived.Test.YtoiolgpbecgfkaaBrJ
import Derived.Test.YtoiolgpbecgfkaaBrQ
import Derived.Test.YtoiolgpbecgfkaaDel
namespace Go.Proofs.Ytoiolgpbecgfkaa
open Go.RowKit

/-- what is read stays while another block changes -/
theorem lies_grown {w w' : World} {g B : Nat} {A : Option Addr} {xs : List Value} (h : Lies w B A xs) (hg : w.grownBy w' (some g)) (hB : B ≤ w.heap.size) (hne : ∀ p, A = some p → p.block ≠ g) : Lies w' B A xs := fun hn => by
  obtain ⟨p, hA, hp, hc⟩ := h hn
  refine ⟨p, hA, hp, fun i u hu => ?_⟩
  rw [World.cell?_of_block (hg.block _ (by rw [add_block]; omega) (by rw [add_block]; exact fun e => hne p hA (Option.some.inj e)))]
  exact hc i u hu

theorem idx0 (a b : Int) (u : World) : (Instr.index 37 (.agg #[.int .i64 a, .int .i64 b]) (.int .i64 0)).run Try.prog u = .ok (.int .i64 a) u := by kernel_rfl
theorem idx1 (a b : Int) (u : World) : (Instr.index 37 (.agg #[.int .i64 a, .int .i64 b]) (.int .i64 1)).run Try.prog u = .ok (.int .i64 b) u := by kernel_rfl

set_option maxRecDepth 20000 in
set_option maxHeartbeats 8000000 in
theorem bof_eq (A : Option Addr) (chars : List Int) (c : Nat) (A' : Option Addr) (classes : List Int) (c' : Nat) (A2 : Option Addr) (first : List Int) (c2 : Nat) (level sos : Int) (w : World)
    (h : Lies w w.heap.size A (ints .i64 chars)) (h' : Lies w w.heap.size A' (ints .i64 classes)) (h2 : Lies w w.heap.size A2 (ints .i64 first)) (hl : chars.length ≤ 1000) (hcl : classes.length ≤ 1000) (he : chars.length = classes.length) (hf : first.length = classes.length) :
    Calls Try.prog 17 #[.slice A chars.length c, .slice A' classes.length c', .slice A2 first.length c2, .int .i64 level, .int .i64 sos] w
      (Rowed w w.heap.size 3 (ints .i64 (ofB chars classes first level sos))) := by
  have H := Lib.hid h
  have H' := Lib.hid h'
  have H2 := Lib.hid h2
  obtain ⟨P, hP⟩ : ∃ P, pairsI chars classes = P := ⟨_, rfl⟩
  have HPV : Hid (∀ p ∈ P, ∃ a b : Nat, p = ((a : Int), (b : Int)) ∧ a < b ∧ b < classes.length) := Lib.hid (fun p hp => by
    rw [← hP, pairsI, if_pos he] at hp
    obtain ⟨a, b, e1, e2, e3, _⟩ := (pinv chars classes chars.length).each p hp
    exact ⟨a, b, e1, e2, by omega⟩)
  have HP := Lib.hid hP
  obtain ⟨e, hee⟩ : ∃ e, dirL level = e := ⟨_, rfl⟩
  have HD := Lib.hid hee
  have HER := dirL_range level
  rw [hee] at HER
  have HF : Hid (ofB chars classes first level sos = foldN P first e sos classes P.length) := Lib.hid (by rw [ofB, if_pos ⟨he, hf⟩, hP, hee, foldN, List.take_length])
  have hPl : P.length ≤ 1000 := by
    have := (pairs_le chars classes chars.length).1
    rw [pairsI, if_pos he] at hP
    rw [hP] at this; omega
  have hd1 : ((chars.length : Int) != (classes.length : Int)) = false := by simp [he]
  have hd2 : ((first.length : Int) != (classes.length : Int)) = false := by simp [hf]
  have HE := Lib.hid he
  have HFL := Lib.hid hf
  have HERH := Lib.hid HER
  clear h h' h2 hP hee he hf HER
  go_enter Try.func17, Try.ntmps17
  go_wp2_with fail
  refine (clone_any A' classes c' w H'.out (by omega)).mono ?_
  rintro ed w1 ⟨v1, rfl, o1, b1⟩
  obtain ⟨AL, cL, rfl, _, hLc, _⟩ := o1.form
  have O1 := Lib.hid o1
  have B1 := Lib.hid b1
  simp only [ints, List.length_map] at hLc ⊢
  have Q1 : Hid (Own w1 w.heap.size 3 (.slice AL classes.length cL) (ints .i64 classes)) := Lib.hid (by have := O1.out; simp only [ints, List.length_map] at this; exact this)
  clear o1 b1 O1
  go_wp2_with fail
  refine (bpairs_new A chars c A' classes c' w1 (H.out.up B1.out) (H'.out.up B1.out) hl).mono ?_
  rintro ed w2 ⟨AP, cp, rfl, l2, b2, hnew⟩
  have HNEW := Lib.hid hnew
  rw [HP.out] at l2
  rw [HP.out]
  have L2 := Lib.hid l2
  have B2 := Lib.hid (below_then B1.out b2)
  have Q2 := Lib.hid (Q1.out.below b2 (Nat.le_refl _))
  have hs12 : w1.heap.size ≤ w2.heap.size := b2.size
  have hs01 : w.heap.size ≤ w1.heap.size := B1.out.size
  clear b2 l2 hnew
  go_wp2_with fail
  go_loopw [36] (fun nv wr => ∃ n : Nat, n ≤ P.length ∧ nv = .int .i64 n ∧ Hid (Own wr w.heap.size 3 (.slice AL classes.length cL) (ints .i64 (foldN P first e sos classes n))) ∧ Hid (Lies wr w2.heap.size AP (prC P)) ∧ Hid (Below w.heap.size w wr) ∧ w2.heap.size ≤ wr.heap.size) (fun nv _ => P.length - (intOf nv).toNat)
  case atStart => exact ⟨0, by omega, rfl, Q2, L2, B2, Nat.le_refl _⟩
  case round =>
    obtain ⟨n, hn, rfl, HQ, HPR, HB, hsz⟩ := hrel
    by_cases hlt : n < P.length
    · obtain ⟨cur, hcur⟩ : ∃ x, foldN P first e sos classes n = x := ⟨_, rfl⟩
      have hcl2 : cur.length = classes.length := by rw [← hcur, foldN_length]
      have HS := Lib.hid (foldN_succ P first e sos classes n hlt)
      rw [hcur] at HQ HS
      obtain ⟨a, b, hab, ha, hbc⟩ := HPV.out _ (List.getElem_mem hlt)
      rw [hab] at HS
      obtain ⟨gp, op, hAP, hgp, z0, z1⟩ := prC_at HPR.out hlt
      subst hAP
      rw [hab] at z0 z1
      have HCL := Lib.hid hcl2
      have n0 : (0 : Int) ≤ (n : Int) := by omega
      have n1 : (n : Int) < (P.length : Int) := by omega
      clear hcur hab hcl2
      go_wp2_with fail
      obtain ⟨wa, hwa⟩ : ∃ u, wr.alloc (.cells #[.int .i64 (a : Int), .int .i64 (b : Int)] 37) = u := ⟨_, rfl⟩
      have HBa : Hid (Below w.heap.size w wa) := Lib.hid (hwa ▸ HB.out.trans ((below_alloc wr _).mono HB.out.size))
      have SB : Hid (∀ w', Below wa.heap.size wa w' → w'.cell? ⟨wr.heap.size, 0, none⟩ = some (.int .i64 (a : Int)) ∧ w'.cell? ⟨wr.heap.size, 1, none⟩ = some (.int .i64 (b : Int))) := Lib.hid fun w' hb => ⟨boxed (hwa ▸ hb) rfl, boxed (hwa ▸ hb) rfl⟩
      have hsza : wa.heap.size = wr.heap.size + 1 := by rw [← hwa]; simp
      have HQa : Hid (Own wa w.heap.size 3 (.slice AL classes.length cL) (ints .i64 cur)) := Lib.hid (hwa ▸ HQ.out.alloc _)
      have HPa : Hid (Lies wa w2.heap.size (some ⟨gp, op, none⟩) (prC P)) := Lib.hid (hwa ▸ HPR.out.alloc (by omega) _)
      rw [hwa]
      obtain ⟨s, hs⟩ : ∃ s, (sideOf cur e sos ((a : Int), (b : Int))).getD (-1) = s := ⟨_, rfl⟩
      have HSV := Lib.hid hs
      obtain ⟨g, cg, hv, hrow⟩ := HQa.out.inRow (by simp; have := HCL.out; omega)
      simp only [List.length_map] at hv
      injection hv with hA hL hC
      subst hA hC
      have RW := Lib.hid hrow
      obtain ⟨ALr, cLr, hvr, hlr, -, -⟩ := hrow.form
      injection hvr with hAr _ hCr
      subst hAr hCr
      have LR := Lib.hid hlr
      clear hwa hs z0 z1 hrow hlr hL
      refine wp_region_held_drew (S := fun w' => w'.cell? ⟨wr.heap.size, 0, none⟩ = some (.int .i64 (a : Int)) ∧ w'.cell? ⟨wr.heap.size, 1, none⟩ = some (.int .i64 (b : Int))) (by kernel_rfl) (SB.out _ (by exact below_same (Below.refl _ wa) rfl rfl rfl rfl)) (fun hHeld => ?_)
      refine' wpAnyH_take (i := 0) (v := _) rfl (by kernel_rfl) (by kernel_rfl) (by kernel_rfl) (fun _ _ _ h => h) (Or.inl ⟨by rfl, fun u hu => ?_⟩) (by assumption) ?_
      rotate_left
      · (try dsimp only at hu)
        go_simp
        try with_reducible rfl
      try simp only [Act.put, List.getElem_toArray, List.getElem_cons_zero, List.setIfInBounds_toArray, List.set_cons_zero, List.set_cons_succ]
      refine' wpAnyH_take (i := 1) (v := _) rfl (by kernel_rfl) (by kernel_rfl) (by kernel_rfl) (fun _ _ _ h => h) (Or.inl ⟨by rfl, fun u hu => ?_⟩) (by assumption) ?_
      rotate_left
      · (try dsimp only at hu)
        go_simp
        try with_reducible rfl
      try simp only [Act.put, List.getElem_toArray, List.getElem_cons_zero, List.getElem_cons_succ, List.setIfInBounds_toArray, List.set_cons_zero, List.set_cons_succ]
      refine' wpAnyH_take (i := 2) (v := _) rfl (by kernel_rfl) (by kernel_rfl) (by kernel_rfl) (fun _ _ _ h => h) (Or.inl ⟨by rfl, fun u hu => ?_⟩) (by assumption) ?_
      rotate_left
      · (try dsimp only at hu)
        go_simp
        try with_reducible rfl
      try simp only [Act.put, List.getElem_toArray, List.getElem_cons_zero, List.getElem_cons_succ, List.setIfInBounds_toArray, List.set_cons_zero, List.set_cons_succ]
      refine' wpAnyH_take (i := 4) (v := _) rfl (by kernel_rfl) (by kernel_rfl) (by kernel_rfl) (fun _ _ _ h => h) (Or.inl ⟨by rfl, fun u hu => ?_⟩) (by assumption) ?_
      rotate_left
      · (try dsimp only at hu)
        go_simp
        try with_reducible rfl
      try simp only [Act.put, List.getElem_toArray, List.getElem_cons_zero, List.getElem_cons_succ, List.setIfInBounds_toArray, List.set_cons_zero, List.set_cons_succ]
      refine wpAnyH_ready (rs := [3]) (by kernel_rfl) (by simp) ?_
      refine AllReadyH.cons rfl (fun K hK => ?_) AllReadyH.nil
      simp only [List.getElem_toArray, List.getElem_cons_zero, List.getElem_cons_succ]
      go_simp
      refine (sdir_q level _).mono ?_
      rintro ed wq ⟨rfl, rfl⟩
      rw [HD.out]
      go_wp2_with fail
      refine hK.out _ _ (by exact SB.out _ (by exact below_same (Below.refl _ wa) rfl rfl rfl rfl)) (fun hHeld => ?_)
      clear hK K
      try simp only [Act.put, List.getElem_toArray, List.getElem_cons_zero, List.getElem_cons_succ, List.setIfInBounds_toArray, List.set_cons_zero, List.set_cons_succ]
      refine wpAnyH_ready (rs := [5]) (by kernel_rfl) (by simp) ?_
      refine AllReadyH.cons rfl (fun K hK => ?_) AllReadyH.nil
      simp only [List.getElem_toArray, List.getElem_cons_zero, List.getElem_cons_succ]
      go_simp
      have hbc1 := become_any (some ⟨g, 0, none⟩) cur cL a b e sos wa.drew (LR.out.sameHeap rfl) (by have := HCL.out; omega) (by have := HCL.out; omega) ha (by have := HCL.out; omega) HERH.out
      rw [HCL.out] at hbc1
      refine hbc1.mono ?_
      clear hbc1
      rintro ed w3 ⟨rfl, b_⟩
      rw [HSV.out]
      have B3 : Hid (Below wa.heap.size wa w3) := Lib.hid (undrew (by exact b_))
      clear b_
      go_wp2_with fail
      refine hK.out _ _ (by exact SB.out _ B3.out) (fun hHeld => ?_)
      clear hK K
      try simp only [Act.put, List.getElem_toArray, List.getElem_cons_zero, List.getElem_cons_succ, List.setIfInBounds_toArray, List.set_cons_zero, List.set_cons_succ]
      refine' wpAnyH_take (i := 6) (v := _) rfl (by kernel_rfl) (by kernel_rfl) (by kernel_rfl) (fun _ _ _ h => h) (Or.inl ⟨by rfl, fun u hu => ?_⟩) (by assumption) ?_
      rotate_left
      · (try dsimp only at hu)
        go_simp
        try with_reducible rfl
      try simp only [Act.put, List.getElem_toArray, List.getElem_cons_zero, List.getElem_cons_succ, List.setIfInBounds_toArray, List.set_cons_zero, List.set_cons_succ]
      refine wpAnyH_done (by kernel_rfl) ?_ _
      have R3 := Lib.hid (RW.out.below B3.out (Nat.le_refl _))
      have HB3 := Lib.hid (HBa.out.trans (B3.out.mono HBa.out.size))
      have HP3 := Lib.hid (HPa.out.below (B3.out.mono (by omega)))
      have hs3 := B3.out.size
      rcases hst : (s == -1) with _ | _
      · have HSD : Hid (sideOf cur e sos ((a : Int), (b : Int)) = some s) := Lib.hid (by
          have h1 := HSV.out
          cases hso : sideOf cur e sos ((a : Int), (b : Int)) with
          | none => rw [hso] at h1; simp at hst; exact absurd h1.symm hst
          | some x => rw [hso] at h1; exact congrArg some h1)
        go_wp2_with fail
        have hi0 := fun u => idx0 (a : Int) (b : Int) u
        have hi1 := fun u => idx1 (a : Int) (b : Int) u
        refine wp_loop_rounds 3 ?_
        rw [rounds_succ]
        go_wp2_with fail
        have ht := mark_any g cL cur A2 first c2 a s w.heap.size w3 R3.out (H2.out.below HB3.out) (by have := HCL.out; omega) (by rw [HFL.out, HCL.out]) (by rw [HCL.out]; omega)
        rw [HCL.out] at ht
        refine ht.mono ?_
        clear ht
        rintro ed w4 ⟨rfl, r4, b4, g4⟩
        have R4 := Lib.hid r4
        have B4 := Lib.hid b4
        have G4 := Lib.hid g4
        clear r4 b4 g4
        go_wp2_with fail
        rw [rounds_succ]
        go_wp2_with fail
        have ht := mark_any g cL (turnL cur first a s) A2 first c2 b s w.heap.size w4 R4.out (H2.out.below (HB3.out.trans B4.out)) (by rw [turnL_length]; have := HCL.out; omega) (by rw [HFL.out, turnL_length, HCL.out]) (by rw [turnL_length, HCL.out]; omega)
        rw [turnL_length, HCL.out] at ht
        refine ht.mono ?_
        clear ht
        rintro ed w5 ⟨rfl, r5, b5, g5⟩
        have R5 := Lib.hid r5
        have B5 := Lib.hid b5
        have G5 := Lib.hid g5
        clear r5 b5 g5
        go_wp2_with fail
        rw [rounds_succ]
        go_wp2_with fail
        go_roundw
        case rel =>
          refine ⟨n + 1, by omega, by go_num, Lib.hid ?_, ?_, Lib.hid ((HB3.out.trans B4.out).trans B5.out), by have := G4.out.size; have := G5.out.size; omega⟩
          · rw [HS.out, ofStepB, HSD.out]
            have h1 := R5.out
            unfold Row at h1
            simp only [ints, List.length_map, turnL_length, HCL.out] at h1
            exact h1
          · have hg1 := (Own.inside Q1.out g rfl).2
            have hne : ∀ p : Addr, some (⟨gp, op, none⟩ : Addr) = some p → p.block ≠ g := fun p hp e => by have := HNEW.out p hp; omega
            have hs4 := G4.out.size
            exact Lib.hid (lies_grown (lies_grown HP3.out G4.out (by omega) hne) G5.out (by omega) hne)
        case measure => simp [intOf]; omega
      · have HSD : Hid (sideOf cur e sos ((a : Int), (b : Int)) = none) := Lib.hid (by
          have h1 := HSV.out
          cases hso : sideOf cur e sos ((a : Int), (b : Int)) with
          | none => rfl
          | some x =>
            have h2 := sideOf_range HERH.out hso
            rw [hso] at h1
            simp at hst h1
            omega)
        go_wp2_with fail
        go_roundw
        case rel => exact ⟨n + 1, by omega, by go_num, (by rw [HS.out, ofStepB, HSD.out]; have h1 := R3.out; unfold Row at h1; simp only [ints, List.length_map, HCL.out] at h1; exact Lib.hid h1), HP3, HB3, by omega⟩
        case measure => simp [intOf]; omega
    · obtain rfl : n = P.length := by omega
      go_wp2_with fail
      go_ret
      exact ⟨_, rfl, by rw [HF.out]; exact HQ.out, HB.out⟩
theorem bof_any (A : Option Addr) (chars : List Int) (c : Nat) (A' : Option Addr) (classes : List Int) (c' : Nat) (A2 : Option Addr) (first : List Int) (c2 : Nat) (level sos : Int) (w : World)
    (h : Lies w w.heap.size A (ints .i64 chars)) (h' : Lies w w.heap.size A' (ints .i64 classes)) (h2 : Lies w w.heap.size A2 (ints .i64 first)) (hl : chars.length ≤ 1000) (hl' : classes.length ≤ 1000) (_ : first.length ≤ 1000) :
    Calls Try.prog 17 #[.slice A chars.length c, .slice A' classes.length c', .slice A2 first.length c2, .int .i64 level, .int .i64 sos] w
      (Rowed w w.heap.size 3 (ints .i64 (ofB chars classes first level sos))) := by
  by_cases he : chars.length = classes.length ∧ first.length = classes.length
  · exact bof_eq A chars c A' classes c' A2 first c2 level sos w h h' h2 hl hl' he.1 he.2
  · have H' := Lib.hid h'
    have hB : ofB chars classes first level sos = classes := by rw [ofB, if_neg he]
    rw [hB]
    clear h h' h2 hB
    rcases h1 : ((chars.length : Int) != (classes.length : Int)) with _ | _
    · have h3 : ((first.length : Int) != (classes.length : Int)) = true := by
        simp at h1 ⊢
        omega
      go_enter Try.func17, Try.ntmps17
      go_wp2_with fail
      refine (clone_any A' classes c' w H'.out (by omega)).mono ?_
      rintro ed w1 ⟨v1, rfl, o1, b1⟩
      have O1 := Lib.hid o1
      have B1 := Lib.hid b1
      clear o1 b1
      go_wp2_with fail
      go_ret
      exact ⟨_, rfl, O1.out, B1.out⟩
    · go_enter Try.func17, Try.ntmps17
      go_wp2_with fail
      refine (clone_any A' classes c' w H'.out (by omega)).mono ?_
      rintro ed w1 ⟨v1, rfl, o1, b1⟩
      have O1 := Lib.hid o1
      have B1 := Lib.hid b1
      clear o1 b1
      go_wp2_with fail
      go_ret
      exact ⟨_, rfl, O1.out, B1.out⟩
end Go.Proofs.Ytoiolgpbecgfkaa
