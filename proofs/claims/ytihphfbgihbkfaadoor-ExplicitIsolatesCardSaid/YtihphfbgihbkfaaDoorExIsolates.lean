/- ExplicitIsolates: for all two lists of numbers and either base, what stands in an isolate changes nothing behind it. Conditions: none (the names' cells are tied to the program's text). -/
import Derived.Test.YtihphfbgihbkfaaDoorEpF
import Derived.Test.YtihphfbgihbkfaaDoorExO
import Derived.Test.YtihphfbgihbkfaaDoorClL
import Derived.Test.YtihphfbgihbkfaaDoorLaw
import Derived.Test.YtihphfbgihbkfaaDoorSame
import Derived.Test.YtihphfbgihbkfaaDoorReg
import Derived.Test.YtihphfbgihbkfaaDoorSlc
namespace Go.Proofs.YtihphfbgihbkfaaDoor.lawIsolates
open Go.ChangeShapes Go.WideShapes Go.ChangeAt Go.RowKit

theorem ints_iso (v l : List Int) : ([Value.int .i64 19] ++ ints .i64 v) ++ ([Value.int .i64 22] ++ ints .i64 l) = ints .i64 (isoL v l) := by simp [ints, isoL]

set_option maxRecDepth 20000 in
set_option maxHeartbeats 16000000 in
theorem walk_ok (w : World) (hT : ClsTabs w) (A : Option Addr) (l : List Int) (c : Nat) (hl : l.length ≤ 200) (_ : l.length ≤ c) (h : Lies w w.heap.size A (ints .i64 l))
    (A' : Option Addr) (v : List Int) (c' : Nat) (hx : v.length ≤ 200) (_ : v.length ≤ c') (h' : Lies w w.heap.size A' (ints .i64 v)) (b : Bool) :
    Calls Tryd.prog 5 #[.slice A l.length c, .slice A' v.length c', .bool b] w fun e w' => e = .returned (.bool true) ∧ Below w.heap.size w w' := by
  have HT := Lib.hid hT
  have hbig := hT.big
  have HL := Lib.hid h
  have HX := Lib.hid h'
  obtain ⟨n, hn⟩ : ∃ n : Int, (if b = true then (1 : Int) else 0) = n := ⟨_, rfl⟩
  have HB := Lib.hid hn
  clear hT h h' hn
  go_enter Tryd.func5, Tryd.ntmps5
  go_wp2_with fail
  refine (ealive_any w HT.out).mono ?_
  rintro e w1 ⟨rfl, b1⟩
  have B1 := Lib.hid b1
  have D1 := Lib.hid b1
  clear b1
  go_upto_if 25 with fail
  go_cut [2, 7] (fun v1 v wx => v1 = .bool b ∧ v = .int .i64 n ∧ wx = w1)
  case first =>
    rcases hb : b with _ | _
    · have HN : Hid ((0 : Int) = n) := Lib.hid (by rw [← HB.out, hb]; rfl)
      have HBV := Lib.hid hb
      clear hb
      go_wp2_with fail
      go_meet
      exact ⟨by rw [HBV.out], by rw [HN.out], rfl⟩
    · have HN : Hid ((1 : Int) = n) := Lib.hid (by rw [← HB.out, hb]; rfl)
      have HBV := Lib.hid hb
      clear hb
      go_wp2_with fail
      go_meet
      exact ⟨by rw [HBV.out], by rw [HN.out], rfl⟩
  case rest =>
    obtain ⟨rfl, rfl, rfl⟩ := hcut
    have LX := Lib.hid (HX.out.up B1.out)
    go_wp2_with fail
    go_loopw [8, 9] (fun dv iv wr => ∃ (d i : Nat), i ≤ v.length ∧ d ≤ i ∧ dv = .int .i64 d ∧ iv = .int .i64 i ∧ Hid (dsum (v.take i) = d ∧ ∀ j, j < i → at0 v j ≠ 10 ∧ 0 ≤ dsum (v.take (j + 1))) ∧ wr = wc) (fun _ iv _ => v.length - (intOf iv).toNat)
    case atStart => exact ⟨0, 0, by omega, by omega, rfl, rfl, Lib.hid ⟨rfl, fun j hj => absurd hj (by omega)⟩, rfl⟩
    case round =>
      obtain ⟨d, i, hi, hdi, rfl, rfl, HB2, rfl⟩ := hrel
      by_cases hlt : i < v.length
      · obtain ⟨p, rfl, _, hcl⟩ := LX.out.int hlt
        obtain ⟨x, hxx⟩ : ∃ x, v[i] = x := ⟨_, rfl⟩
        rw [hxx] at hcl
        have HS : Hid (dsum (v.take (i + 1)) = (d : Int) + weigh x) := Lib.hid (by rw [take_snoc v i hlt, dsum_snoc, hxx, HB2.out.1])
        have HA : Hid (at0 v i = x) := Lib.hid (by rw [at0_eq hlt]; exact hxx)
        have b0 : (0 : Int) ≤ (i : Int) := by omega
        have b1 : (i : Int) < (v.length : Int) := by omega
        have HNX : Hid (∀ d' : Nat, x ≠ 10 → (d : Int) + weigh x = d' → dsum (v.take (i + 1)) = d' ∧ ∀ j, j < i + 1 → at0 v j ≠ 10 ∧ 0 ≤ dsum (v.take (j + 1))) := Lib.hid fun d' h10 hw => by
          refine ⟨by rw [HS.out]; exact hw, fun j hj => ?_⟩
          by_cases e : j = i
          · subst e
            exact ⟨by rw [HA.out]; exact h10, by rw [HS.out, hw]; omega⟩
          · exact HB2.out.2 j (by omega)
        clear hxx
        rcases h10 : (x == 10) with _ | _
        · have h10' : Hid (x ≠ 10) := Lib.hid (by simpa using h10)
          rcases ho : isOpens x with _ | _
          · have HO := Lib.hid ho
            rcases h22 : (x == 22) with _ | _
            · have HW : Hid (weigh x = 0) := Lib.hid (by unfold weigh; rw [ho, if_neg (show ¬ x = 22 by simpa using h22)]; rfl)
              have hlt0 : decide ((d : Int) < 0) = false := by simp
              clear ho
              go_wp2_with fail
              refine (ropens_any x _).mono ?_
              rintro e wq ⟨rfl, rfl⟩
              rw [HO.out]
              go_wp2_with fail
              go_roundw
              case rel => exact ⟨d, i + 1, by omega, by omega, rfl, by go_num, Lib.hid (HNX.out d h10'.out (by rw [HW.out]; omega)), by first | rfl | trivial⟩
              case measure => simp [intOf]; omega
            · have HW : Hid (weigh x = -1) := Lib.hid (by unfold weigh; rw [ho, if_pos (show x = 22 by simpa using h22)]; rfl)
              clear ho
              by_cases hd0 : d = 0
              · subst hd0
                go_wp2_with fail
                refine (ropens_any x _).mono ?_
                rintro e wq ⟨rfl, rfl⟩
                rw [HO.out]
                go_wp2_with fail
                go_ret
                exact ⟨rfl, B1.out⟩
              · have hw1 : IntKind.i64.wrap ((d : Int) - 1) = ((d - 1 : Nat) : Int) := by rw [IntWalk.i64_in _ (by omega)]; omega
                have hlt0 : decide (((d - 1 : Nat) : Int) < 0) = false := by simp
                have HDD : Hid ((d : Int) + -1 = ((d - 1 : Nat) : Int)) := Lib.hid (by omega)
                clear hd0
                go_wp2_with fail
                refine (ropens_any x _).mono ?_
                rintro e wq ⟨rfl, rfl⟩
                rw [HO.out]
                go_wp2_with fail
                go_roundw
                case rel => exact ⟨d - 1, i + 1, by omega, by omega, by first | rfl | go_num, by go_num, Lib.hid (HNX.out (d - 1) h10'.out (by rw [HW.out]; exact HDD.out)), by first | rfl | trivial⟩
                case measure => simp [intOf]; omega
          · have h22 : (x == 22) = false := by rw [beq_eq_false_iff_ne]; intro e; subst e; revert ho; decide
            have HO := Lib.hid ho
            have HW : Hid (weigh x = 1) := Lib.hid (by unfold weigh; rw [ho, if_neg (show ¬ x = 22 by simpa using h22)]; rfl)
            have hlt0 : decide ((d : Int) + 1 < 0) = false := by simp; omega
            clear ho
            go_wp2_with fail
            refine (ropens_any x _).mono ?_
            rintro e wq ⟨rfl, rfl⟩
            rw [HO.out]
            go_wp2_with fail
            go_roundw
            case rel => exact ⟨d + 1, i + 1, by omega, by omega, by go_num, by go_num, Lib.hid (HNX.out (d + 1) h10'.out (by rw [HW.out]; rfl)), by first | rfl | trivial⟩
            case measure => simp [intOf]; omega
        · rcases ho : isOpens x with _ | _
          · have HO := Lib.hid ho
            have h22 : (x == 22) = false := by simp at h10; subst h10; decide
            have hlt0 : decide ((d : Int) < 0) = false := by simp
            clear ho
            go_wp2_with fail
            refine (ropens_any x _).mono ?_
            rintro e wq ⟨rfl, rfl⟩
            rw [HO.out]
            go_wp2_with fail
            go_ret
            exact ⟨rfl, B1.out⟩
          · simp at h10; subst h10; exact absurd ho (by decide)
      · rcases hd0 : ((d : Int) != 0) with _ | _
        · obtain rfl : d = 0 := by simpa using hd0
          obtain rfl : i = v.length := by omega
          have HBAL : Hid (Balanced v) := Lib.hid ⟨fun j hj => HB2.out.2 j hj, by have := HB2.out.1; rw [List.take_length] at this; exact this⟩
          obtain ⟨ya, hya⟩ : ∃ y, isoL v l = y := ⟨_, rfl⟩
          obtain ⟨yb, hyb⟩ : ∃ y, isoL [] l = y := ⟨_, rfl⟩
          have hyal : ya.length = v.length + 2 + l.length := by rw [← hya]; exact isoL_length v l
          have hybl : yb.length = 2 + l.length := by rw [← hyb]; simp; omega
          have HYA : Hid (([] ++ [Value.int .i64 19] ++ ints .i64 v) ++ ([Value.int .i64 22] ++ ints .i64 l) = ints .i64 ya) := Lib.hid (by rw [← hya, ← ints_iso]; rfl)
          have HYB : Hid ([Value.int .i64 19, .int .i64 22] ++ ints .i64 l = ints .i64 yb) := Lib.hid (by rw [← hyb]; simp [ints])
          have hf := iso_facts n v l HBAL.out
          rw [hya, hyb] at hf
          obtain ⟨ma, hma⟩ : ∃ y, lvs ya n = y := ⟨_, rfl⟩
          obtain ⟨mb, hmb⟩ : ∃ y, lvs yb n = y := ⟨_, rfl⟩
          obtain ⟨na, hna⟩ : ∃ y, cls ya n = y := ⟨_, rfl⟩
          obtain ⟨nb, hnb⟩ : ∃ y, cls yb n = y := ⟨_, rfl⟩
          rw [hma, hmb, hna, hnb] at hf
          have HF := Lib.hid hf
          have hmal : ma.length = v.length + 2 + l.length := by rw [← hma, lvs_length]; exact hyal
          have hmbl : mb.length = 2 + l.length := by rw [← hmb, lvs_length]; exact hybl
          have hnal : na.length = v.length + 2 + l.length := by rw [← hna, cls_length]; exact hyal
          have hnbl : nb.length = 2 + l.length := by rw [← hnb, cls_length]; exact hybl
          have HMA := Lib.hid hma
          have HMB := Lib.hid hmb
          have HNA := Lib.hid hna
          have HNB := Lib.hid hnb
          have HLN := Lib.hid (And.intro hmal (And.intro hmbl (And.intro hnal hnbl)))
          have HX1 := Lib.hid (HX.out.up B1.out)
          have HL1 := Lib.hid (HL.out.up B1.out)
          have H22 : Hid (∀ u ∈ [Value.int .i64 22] ++ ints .i64 l, u.oneCell' = true) := Lib.hid fun u hu => by
            rcases List.mem_append.1 hu with hu | hu
            · simp at hu; subst hu; rfl
            · exact ints_one _ _ u hu
          have OA : Hid (Own (wr.alloc (.cells #[] 3)) wr.heap.size 3 (.slice (some ⟨wr.heap.size, 0, none⟩) 0 0) []) := Lib.hid (Own.ofLit #[] (Nat.le_refl _) (by simp [maxLen]))
          have BA := Lib.hid (below_alloc wr (.cells #[] 3))
          have hle : wr.heap.size ≤ (wr.alloc (.cells #[] 3)).heap.size := by simp
          have hya6 : ya.length ≤ 1000000 := by omega
          have hyb6 : yb.length ≤ 1000000 := by omega
          clear hya hyb hma hmb hna hnb hf HB2 hyal hybl hmal hmbl hnal hnbl
          go_wp2_with (first
            | (at_builtin; refine app_lit intsT wr (wr.alloc (.cells #[] 3)) wr.heap.size _ _ #[.int .i64 19] 1 _ [] rfl rfl rfl (by rw [World.size_alloc]; rfl) OA.out (by simp [Value.oneCell']) BA.out hle (by unfold maxLen; simp) (by simp) ?_; intro v1 w2 o2 b2 _ _; have O2 := Lib.hid o2; have B2 := Lib.hid b2; clear o2 b2)
            | (at_builtin; refine app_src intsT wr w2 wr.heap.size _ _ _ v1 _ (ints .i64 v) _ _ _ rfl rfl rfl rfl (by simp) O2.out (HX1.out.below B2.out) (ints_one _ _) B2.out B2.out.size (by unfold maxLen; simp; omega) (by simp; omega) ?_; intro v2 w3 o3 b3 _ _; have O3 := Lib.hid o3; have B3 := Lib.hid b3; have OZ := Lib.hid (Own.ofLit (w := w3) (e := 3) (B := wr.heap.size) #[.int .i64 22] b3.size (by simp [maxLen])); have BZ := Lib.hid ((b3.alloc b3.size (.cells #[.int .i64 22] 3))); clear o3 b3)
            | (at_builtin; (refine app_src intsT wr _ wr.heap.size _ _ _ _ _ (ints .i64 l) _ _ _ rfl rfl rfl rfl (by simp) OZ.out (HL1.out.below BZ.out) (ints_one _ _) BZ.out BZ.out.size (by unfold maxLen; simp; omega) (by simp; omega) ?_; intro v3 w4 o4 b4 g4 _; have O3b := Lib.hid ((O3.out.alloc _).keep g4 (.inr (fun e => absurd (O3.out.inside w3.heap.size e).2 (Nat.lt_irrefl _)))); obtain ⟨A4, c4, rfl, l4, _, _⟩ := o4.form; have L4 := Lib.hid l4; have B4 := Lib.hid b4; clear o4 l4 b4 g4))
            | (at_builtin; (refine app_src intsT wr w4 wr.heap.size _ _ _ v2 _ ([Value.int .i64 22] ++ ints .i64 l) A4 _ c4 rfl rfl rfl rfl (by simp) O3b.out L4.out H22.out B4.out B4.out.size (by unfold maxLen; simp; omega) (by simp; omega) ?_; intro v5 w5 o5 b5 _ _; rw [show (([] ++ (#[Value.int .i64 19] : Array Value).toList) ++ ints .i64 v) ++ ([Value.int .i64 22] ++ ints .i64 l) = ints .i64 ya from HYA.out] at o5; obtain ⟨A5, c5, rfl, l5, hc5, _⟩ := o5.form; simp only [ints, List.length_map] at o5 hc5 ⊢; have L5 := Lib.hid l5; have B5 : Hid (Below w.heap.size w w5) := Lib.hid (below_then B1.out b5); clear o5 l5 b5))
            | fail)
          refine (of_any A5 ya c5 n w5 (HT.out.below B5.out hbig) L5.out hya6 hc5).mono ?_
          rintro e w6 ⟨v6, v7, rfl, o1, o2, b6⟩
          rw [HMA.out] at o1
          rw [HNA.out] at o2
          obtain ⟨A6, c6, rfl, l6, hc6, _⟩ := o1.form
          obtain ⟨A7, c7, rfl, l7, hc7, _⟩ := o2.form
          simp only [ints, List.length_map] at hc6 hc7 ⊢
          have B6 := Lib.hid (below_then B5.out b6)
          have L6 := Lib.hid l6
          have L7 := Lib.hid l7
          have HL6 := Lib.hid (HL.out.up B6.out)
          have OY : Hid (Own (w6.alloc (.cells #[.int .i64 19, .int .i64 22] 3)) w6.heap.size 3 (.slice (some ⟨w6.heap.size, 0, none⟩) 2 2) [.int .i64 19, .int .i64 22]) := Lib.hid (Own.ofLit #[.int .i64 19, .int .i64 22] (Nat.le_refl _) (by simp [maxLen]))
          have BY := Lib.hid (below_alloc w6 (.cells #[.int .i64 19, .int .i64 22] 3))
          clear o1 o2 l6 l7 b6 hc5
          go_wp2_with (first
            | (at_builtin; refine app_src intsT w6 _ w6.heap.size _ _ _ _ _ (ints .i64 l) _ _ _ rfl rfl rfl rfl (by simp) OY.out (HL6.out.below BY.out) (ints_one _ _) BY.out BY.out.size (by unfold maxLen; simp; omega) (by simp; omega) ?_; intro v8 w8 o8 b8 _ _; rw [HYB.out] at o8; obtain ⟨A8, c8, rfl, l8, hc8, _⟩ := o8.form; simp only [ints, List.length_map] at o8 hc8 ⊢; have L8 := Lib.hid l8; have D8 := Lib.hid b8; clear o8 l8 b8)
            | fail)
          have B8 := Lib.hid (below_then B6.out D8.out)
          have L6b := Lib.hid (L6.out.up D8.out)
          have L7b := Lib.hid (L7.out.up D8.out)
          refine (of_any A8 yb c8 n w8 (HT.out.below B8.out hbig) L8.out hyb6 hc8).mono ?_
          rintro e w9 ⟨v9, v10, rfl, o1, o2, b9⟩
          rw [HMB.out] at o1
          rw [HNB.out] at o2
          obtain ⟨A9, c9, rfl, l9, hc9, _⟩ := o1.form
          obtain ⟨A10, c10, rfl, l10, hc10, _⟩ := o2.form
          simp only [ints, List.length_map] at hc9 hc10 ⊢
          have B9 := Lib.hid (below_then B8.out b9)
          have L6c := Lib.hid (L6b.out.up b9)
          have L7c := Lib.hid (L7b.out.up b9)
          have L9 := Lib.hid l9
          have L10 := Lib.hid l10
          clear o1 o2 l9 l10 b9 hc8
          have g1 : IntKind.i64.wrap ((v.length : Int) + 2) = (v.length : Int) + 2 := IntWalk.i64_in _ (by omega)
          have g2 : IntKind.i64.wrap ((v.length : Int) + 2 + (l.length : Int)) = (v.length : Int) + 2 + (l.length : Int) := IntWalk.i64_in _ (by omega)
          have g3 : ((ma.length : Int) == (v.length : Int) + 2 + (l.length : Int)) = true := by have := HLN.out.1; simp; omega
          have g4 : IntKind.i64.wrap (2 + (l.length : Int)) = 2 + (l.length : Int) := IntWalk.i64_in _ (by omega)
          have g5 : ((mb.length : Int) == 2 + (l.length : Int)) = true := by have := HLN.out.2.1; simp; omega
          have g6 : IntKind.i64.wrap ((v.length : Int) + 1) = (v.length : Int) + 1 := IntWalk.i64_in _ (by omega)
          have s0 : (0 : Int) ≤ (v.length : Int) + 1 := by omega
          have s1 : (v.length : Int) + 1 ≤ (ma.length : Int) := by have := HLN.out.1; omega
          have s2 : (v.length : Int) + 1 ≤ (na.length : Int) := by have := HLN.out.2.2.1; omega
          have s3 : (1 : Int) ≤ (mb.length : Int) := by have := HLN.out.2.1; omega
          have s4 : (1 : Int) ≤ (nb.length : Int) := by have := HLN.out.2.2.2; omega
          have s5 : (ma.length : Int) ≤ (c6 : Int) := by omega
          have s6 : (na.length : Int) ≤ (c7 : Int) := by omega
          have s7 : (mb.length : Int) ≤ (c9 : Int) := by omega
          have s8 : (nb.length : Int) ≤ (c10 : Int) := by omega
          obtain ⟨da, hda⟩ : ∃ d, mb.drop 1 = d := ⟨_, rfl⟩
          obtain ⟨db, hdb⟩ : ∃ d, nb.drop 1 = d := ⟨_, rfl⟩
          have hda1 : da.length = ma.length - (v.length + 1) := by rw [← hda, ← HF.out.1]; simp
          have hda2 : da.length = mb.length - 1 := by rw [← hda]; simp
          have hdb1 : db.length = na.length - (v.length + 1) := by rw [← hdb, ← HF.out.2]; simp
          have hdb2 : db.length = nb.length - 1 := by rw [← hdb]; simp
          have HDL : Hid (da.length ≤ 9223372036854775807 ∧ db.length ≤ 9223372036854775807) := Lib.hid ⟨by have := HLN.out.2.1; omega, by have := HLN.out.2.2.2; omega⟩
          obtain ⟨X1, hX1⟩ : ∃ X : Option Addr, (if c6 = v.length + 1 then A6 else Option.map (fun x => { block := x.block, off := x.off + (v.length + 1) }) A6) = X := ⟨_, rfl⟩
          obtain ⟨X2, hX2⟩ : ∃ X : Option Addr, (if c9 = 1 then A9 else Option.map (fun x => { block := x.block, off := x.off + 1 }) A9) = X := ⟨_, rfl⟩
          obtain ⟨X3, hX3⟩ : ∃ X : Option Addr, (if c7 = v.length + 1 then A7 else Option.map (fun x => { block := x.block, off := x.off + (v.length + 1) }) A7) = X := ⟨_, rfl⟩
          obtain ⟨X4, hX4⟩ : ∃ X : Option Addr, (if c10 = 1 then A10 else Option.map (fun x => { block := x.block, off := x.off + 1 }) A10) = X := ⟨_, rfl⟩
          have M1 : Hid (Lies w9.drew w9.drew.heap.size X1 (ints .i64 da)) := Lib.hid (by
            have := L6c.out.dropIf (v.length + 1) c6 hc6
            rw [HF.out.1, hda, hX1] at this; exact this)
          have M2 : Hid (Lies w9.drew w9.drew.heap.size X2 (ints .i64 da)) := Lib.hid (by
            have := L9.out.dropIf 1 c9 hc9
            rw [hda, hX2] at this; exact this)
          have M3 : Hid (Lies w9.drew w9.drew.heap.size X3 (ints .i64 db)) := Lib.hid (by
            have := L7c.out.dropIf (v.length + 1) c7 hc7
            rw [HF.out.2, hdb, hX3] at this; exact this)
          have M4 : Hid (Lies w9.drew w9.drew.heap.size X4 (ints .i64 db)) := Lib.hid (by
            have := L10.out.dropIf 1 c10 hc10
            rw [hdb, hX4] at this; exact this)
          have B9d : Hid (Below w.heap.size w w9.drew) := Lib.hid (below_drawn B9.out 1)
          have I1 : Hid (Calls Tryd.prog 11 #[.slice X1 (ma.length - (v.length + 1)) (c6 - (v.length + 1)), .slice X2 (mb.length - 1) (c9 - 1)] w9.drew fun e w' => e = .returned (.bool true) ∧ Below w9.drew.heap.size w9.drew w') := Lib.hid (by
            rw [← hda1, ← hda2]
            exact ints_ok _ _ da _ _ w9.drew M1.out M2.out HDL.out.1)
          have I2 : Hid (∀ u, Below w9.drew.heap.size w9.drew u → Calls Tryd.prog 11 #[.slice X3 (na.length - (v.length + 1)) (c7 - (v.length + 1)), .slice X4 (nb.length - 1) (c10 - 1)] u fun e w' => e = .returned (.bool true) ∧ Below u.heap.size u w') := Lib.hid (by
            intro u hu
            rw [← hdb1, ← hdb2]
            exact ints_ok _ _ db _ _ u (M3.out.up hu) (M4.out.up hu) HDL.out.2)
          have HXX := Lib.hid (And.intro hX1 (And.intro hX2 (And.intro hX3 hX4)))
          clear hda hdb hda1 hda2 hdb1 hdb2 hX1 hX2 hX3 hX4
          go_wp2_with fail
          refine wp_region_held_drew (S := fun _ => True) (by kernel_rfl) (trivial) (fun hHeld => ?_)
          refine' wpAnyH_take (i := 0) (v := _) rfl (by kernel_rfl) (by kernel_rfl) (by kernel_rfl) (fun _ _ _ h => h) (Or.inl ⟨by rfl, fun u hu => ?_⟩) (by assumption) ?_
          rotate_left
          · (try dsimp only at hu)
            go_simp
            try with_reducible rfl
          try simp only [Act.put, List.getElem_toArray, List.getElem_cons_zero, List.setIfInBounds_toArray, List.set_cons_zero, List.set_cons_succ]
          refine' wpAnyH_take (i := 1) (v := _) rfl (by kernel_rfl) (by kernel_rfl) (by kernel_rfl) (fun _ _ _ h => h) (Or.inl ⟨by rfl, fun u hu => ?_⟩) (by assumption) ?_
          rotate_left
          · (try dsimp only at hu)
            go_simp
            try with_reducible rfl
          try simp only [Act.put, List.getElem_toArray, List.getElem_cons_zero, List.getElem_cons_succ, List.setIfInBounds_toArray, List.set_cons_zero, List.set_cons_succ]
          refine' wpAnyH_take (i := 2) (v := _) rfl (by kernel_rfl) (by kernel_rfl) (by kernel_rfl) (fun _ _ _ h => h) (Or.inl ⟨by rfl, fun u hu => ?_⟩) (by assumption) ?_
          rotate_left
          · (try dsimp only at hu)
            go_simp
            try with_reducible rfl
          try simp only [Act.put, List.getElem_toArray, List.getElem_cons_zero, List.getElem_cons_succ, List.setIfInBounds_toArray, List.set_cons_zero, List.set_cons_succ]
          refine' wpAnyH_take (i := 3) (v := _) rfl (by kernel_rfl) (by kernel_rfl) (by kernel_rfl) (fun _ _ _ h => h) (Or.inl ⟨by rfl, fun u hu => ?_⟩) (by assumption) ?_
          rotate_left
          · (try dsimp only at hu)
            go_simp
            try with_reducible rfl
          try simp only [Act.put, List.getElem_toArray, List.getElem_cons_zero, List.getElem_cons_succ, List.setIfInBounds_toArray, List.set_cons_zero, List.set_cons_succ]
          refine' wpAnyH_take (i := 4) (v := _) rfl (by kernel_rfl) (by kernel_rfl) (by kernel_rfl) (fun _ _ _ h => h) (Or.inl ⟨by rfl, fun u hu => ?_⟩) (by assumption) ?_
          rotate_left
          · (try dsimp only at hu)
            go_simp
            try with_reducible rfl
          try simp only [Act.put, List.getElem_toArray, List.getElem_cons_zero, List.getElem_cons_succ, List.setIfInBounds_toArray, List.set_cons_zero, List.set_cons_succ]
          refine' wpAnyH_take (i := 5) (v := _) rfl (by kernel_rfl) (by kernel_rfl) (by kernel_rfl) (fun _ _ _ h => h) (Or.inl ⟨by rfl, fun u hu => ?_⟩) (by assumption) ?_
          rotate_left
          · (try dsimp only at hu)
            go_simp
            try with_reducible rfl
          try simp only [Act.put, List.getElem_toArray, List.getElem_cons_zero, List.getElem_cons_succ, List.setIfInBounds_toArray, List.set_cons_zero, List.set_cons_succ]
          refine' wpAnyH_take (i := 6) (v := _) rfl (by kernel_rfl) (by kernel_rfl) (by kernel_rfl) (fun _ _ _ h => h) (Or.inl ⟨by rfl, fun u hu => ?_⟩) (by assumption) ?_
          rotate_left
          · (try dsimp only at hu)
            go_simp
            try with_reducible rfl
          try simp only [Act.put, List.getElem_toArray, List.getElem_cons_zero, List.getElem_cons_succ, List.setIfInBounds_toArray, List.set_cons_zero, List.set_cons_succ]
          refine' wpAnyH_take (i := 7) (v := _) rfl (by kernel_rfl) (by kernel_rfl) (by kernel_rfl) (fun _ _ _ h => h) (Or.inl ⟨by rfl, fun u hu => ?_⟩) (by assumption) ?_
          rotate_left
          · (try dsimp only at hu)
            go_simp
            try with_reducible rfl
          try simp only [Act.put, List.getElem_toArray, List.getElem_cons_zero, List.getElem_cons_succ, List.setIfInBounds_toArray, List.set_cons_zero, List.set_cons_succ]
          refine' wpAnyH_take (i := 8) (v := _) rfl (by kernel_rfl) (by kernel_rfl) (by kernel_rfl) (fun _ _ _ h => h) (Or.inl ⟨by rfl, fun u hu => ?_⟩) (by assumption) ?_
          rotate_left
          · (try dsimp only at hu)
            go_simp
            try with_reducible rfl
          try simp only [Act.put, List.getElem_toArray, List.getElem_cons_zero, List.getElem_cons_succ, List.setIfInBounds_toArray, List.set_cons_zero, List.set_cons_succ]
          refine' wpAnyH_take (i := 9) (v := _) rfl (by kernel_rfl) (by kernel_rfl) (by kernel_rfl) (fun _ _ _ h => h) (Or.inl ⟨by rfl, fun u hu => ?_⟩) (by assumption) ?_
          rotate_left
          · (try dsimp only at hu)
            go_simp
            try with_reducible rfl
          try simp only [Act.put, List.getElem_toArray, List.getElem_cons_zero, List.getElem_cons_succ, List.setIfInBounds_toArray, List.set_cons_zero, List.set_cons_succ]
          refine' wpAnyH_take (i := 10) (v := _) rfl (by kernel_rfl) (by kernel_rfl) (by kernel_rfl) (fun _ _ _ h => h) (Or.inl ⟨by rfl, fun u hu => ?_⟩) (by assumption) ?_
          rotate_left
          · (try dsimp only at hu)
            go_simp
            try with_reducible rfl
          try simp only [Act.put, List.getElem_toArray, List.getElem_cons_zero, List.getElem_cons_succ, List.setIfInBounds_toArray, List.set_cons_zero, List.set_cons_succ]
          refine' wpAnyH_take (i := 11) (v := _) rfl (by kernel_rfl) (by kernel_rfl) (by kernel_rfl) (fun _ _ _ h => h) (Or.inl ⟨by rfl, fun u hu => ?_⟩) (by assumption) ?_
          rotate_left
          · (try dsimp only at hu)
            go_simp
            try with_reducible rfl
          try simp only [Act.put, List.getElem_toArray, List.getElem_cons_zero, List.getElem_cons_succ, List.setIfInBounds_toArray, List.set_cons_zero, List.set_cons_succ]
          refine' wpAnyH_take (i := 12) (v := _) rfl (by kernel_rfl) (by kernel_rfl) (by kernel_rfl) (fun _ _ _ h => h) (Or.inl ⟨by rfl, fun u hu => ?_⟩) (by assumption) ?_
          rotate_left
          · (try dsimp only at hu)
            go_simp
            try with_reducible rfl
          try simp only [Act.put, List.getElem_toArray, List.getElem_cons_zero, List.getElem_cons_succ, List.setIfInBounds_toArray, List.set_cons_zero, List.set_cons_succ]
          refine' wpAnyH_take (i := 13) (v := _) rfl (by kernel_rfl) (by kernel_rfl) (by kernel_rfl) (fun _ _ _ h => h) (Or.inl ⟨by rfl, fun u hu => ?_⟩) (by assumption) ?_
          rotate_left
          · (try dsimp only at hu)
            go_simp
            try with_reducible rfl
          try simp only [Act.put, List.getElem_toArray, List.getElem_cons_zero, List.getElem_cons_succ, List.setIfInBounds_toArray, List.set_cons_zero, List.set_cons_succ]
          refine' wpAnyH_take (i := 14) (v := _) rfl (by kernel_rfl) (by kernel_rfl) (by kernel_rfl) (fun _ _ _ h => h) (Or.inl ⟨by rfl, fun u hu => ?_⟩) (by assumption) ?_
          rotate_left
          · (try dsimp only at hu)
            go_simp
            try with_reducible rfl
          try simp only [Act.put, List.getElem_toArray, List.getElem_cons_zero, List.getElem_cons_succ, List.setIfInBounds_toArray, List.set_cons_zero, List.set_cons_succ]
          refine' wpAnyH_take (i := 15) (v := _) rfl (by kernel_rfl) (by kernel_rfl) (by kernel_rfl) (fun _ _ _ h => h) (Or.inl ⟨by rfl, fun u hu => ?_⟩) (by assumption) ?_
          rotate_left
          · (try dsimp only at hu)
            go_simp
            try with_reducible rfl
          try simp only [Act.put, List.getElem_toArray, List.getElem_cons_zero, List.getElem_cons_succ, List.setIfInBounds_toArray, List.set_cons_zero, List.set_cons_succ]
          refine' wpAnyH_take (i := 16) (v := _) rfl (by kernel_rfl) (by kernel_rfl) (by kernel_rfl) (fun _ _ _ h => h) (Or.inl ⟨by rfl, fun u hu => ?_⟩) (by assumption) ?_
          rotate_left
          · (try dsimp only at hu)
            go_simp
            try with_reducible rfl
          try simp only [Act.put, List.getElem_toArray, List.getElem_cons_zero, List.getElem_cons_succ, List.setIfInBounds_toArray, List.set_cons_zero, List.set_cons_succ]
          refine' wpAnyH_take (i := 17) (v := _) rfl (by kernel_rfl) (by kernel_rfl) (by kernel_rfl) (fun _ _ _ h => h) (Or.inl ⟨by rfl, fun u hu => ?_⟩) (by assumption) ?_
          rotate_left
          · (try dsimp only at hu)
            go_simp
            try with_reducible rfl
          try simp only [Act.put, List.getElem_toArray, List.getElem_cons_zero, List.getElem_cons_succ, List.setIfInBounds_toArray, List.set_cons_zero, List.set_cons_succ]
          refine' wpAnyH_take (i := 18) (v := _) rfl (by kernel_rfl) (by kernel_rfl) (by kernel_rfl) (fun _ _ _ h => h) (Or.inl ⟨by rfl, fun u hu => ?_⟩) (by assumption) ?_
          rotate_left
          · (try dsimp only at hu)
            go_simp
            try with_reducible rfl
          try simp only [Act.put, List.getElem_toArray, List.getElem_cons_zero, List.getElem_cons_succ, List.setIfInBounds_toArray, List.set_cons_zero, List.set_cons_succ]
          refine' wpAnyH_take (i := 19) (v := _) rfl (by kernel_rfl) (by kernel_rfl) (by kernel_rfl) (fun _ _ _ h => h) (Or.inl ⟨by rfl, fun u hu => ?_⟩) (by assumption) ?_
          rotate_left
          · (try dsimp only at hu)
            go_simp
            try with_reducible rfl
          try simp only [Act.put, List.getElem_toArray, List.getElem_cons_zero, List.getElem_cons_succ, List.setIfInBounds_toArray, List.set_cons_zero, List.set_cons_succ]
          refine' wpAnyH_take (i := 20) (v := _) rfl (by kernel_rfl) (by kernel_rfl) (by kernel_rfl) (fun _ _ _ h => h) (Or.inl ⟨by rfl, fun u hu => ?_⟩) (by assumption) ?_
          rotate_left
          · (try dsimp only at hu)
            go_simp
            try with_reducible rfl
          try simp only [Act.put, List.getElem_toArray, List.getElem_cons_zero, List.getElem_cons_succ, List.setIfInBounds_toArray, List.set_cons_zero, List.set_cons_succ]
          refine' wpAnyH_take (i := 21) (v := _) rfl (by kernel_rfl) (by kernel_rfl) (by kernel_rfl) (fun _ _ _ h => h) (Or.inl ⟨by rfl, fun u hu => ?_⟩) (by assumption) ?_
          rotate_left
          · (try dsimp only at hu)
            go_simp
            try with_reducible rfl
          try simp only [Act.put, List.getElem_toArray, List.getElem_cons_zero, List.getElem_cons_succ, List.setIfInBounds_toArray, List.set_cons_zero, List.set_cons_succ]
          refine' wpAnyH_take (i := 22) (v := _) rfl (by kernel_rfl) (by kernel_rfl) (by kernel_rfl) (fun _ _ _ h => h) (Or.inl ⟨by rfl, fun u hu => ?_⟩) (by assumption) ?_
          rotate_left
          · (try dsimp only at hu)
            go_simp
            try with_reducible rfl
          try simp only [Act.put, List.getElem_toArray, List.getElem_cons_zero, List.getElem_cons_succ, List.setIfInBounds_toArray, List.set_cons_zero, List.set_cons_succ]
          rw [HXX.out.1, HXX.out.2.1]
          refine wpAnyH_ready (rs := [23]) (by kernel_rfl) (by simp) ?_
          refine AllReadyH.cons rfl (fun K hK => ?_) AllReadyH.nil
          simp only [List.getElem_toArray, List.getElem_cons_zero, List.getElem_cons_succ]
          go_simp
          refine I1.out.mono ?_
          rintro e w10 ⟨rfl, b10⟩
          have D10 := Lib.hid b10
          have B10 := Lib.hid (below_then B9d.out b10)
          clear b10
          go_wp2_with fail
          refine hK.out _ _ (trivial) (fun hHeld => ?_)
          clear hK K
          try simp only [Act.put, List.getElem_toArray, List.getElem_cons_zero, List.getElem_cons_succ, List.setIfInBounds_toArray, List.set_cons_zero, List.set_cons_succ]
          refine' wpAnyH_take (i := 24) (v := _) rfl (by kernel_rfl) (by kernel_rfl) (by kernel_rfl) (fun _ _ _ h => h) (Or.inl ⟨by rfl, fun u hu => ?_⟩) (by assumption) ?_
          rotate_left
          · (try dsimp only at hu)
            go_simp
            try with_reducible rfl
          try simp only [Act.put, List.getElem_toArray, List.getElem_cons_zero, List.getElem_cons_succ, List.setIfInBounds_toArray, List.set_cons_zero, List.set_cons_succ]
          refine' wpAnyH_take (i := 25) (v := _) rfl (by kernel_rfl) (by kernel_rfl) (by kernel_rfl) (fun _ _ _ h => h) (Or.inl ⟨by rfl, fun u hu => ?_⟩) (by assumption) ?_
          rotate_left
          · (try dsimp only at hu)
            go_simp
            try with_reducible rfl
          try simp only [Act.put, List.getElem_toArray, List.getElem_cons_zero, List.getElem_cons_succ, List.setIfInBounds_toArray, List.set_cons_zero, List.set_cons_succ]
          refine' wpAnyH_take (i := 26) (v := _) rfl (by kernel_rfl) (by kernel_rfl) (by kernel_rfl) (fun _ _ _ h => h) (Or.inl ⟨by rfl, fun u hu => ?_⟩) (by assumption) ?_
          rotate_left
          · (try dsimp only at hu)
            go_simp
            try with_reducible rfl
          try simp only [Act.put, List.getElem_toArray, List.getElem_cons_zero, List.getElem_cons_succ, List.setIfInBounds_toArray, List.set_cons_zero, List.set_cons_succ]
          refine' wpAnyH_take (i := 27) (v := _) rfl (by kernel_rfl) (by kernel_rfl) (by kernel_rfl) (fun _ _ _ h => h) (Or.inl ⟨by rfl, fun u hu => ?_⟩) (by assumption) ?_
          rotate_left
          · (try dsimp only at hu)
            go_simp
            try with_reducible rfl
          try simp only [Act.put, List.getElem_toArray, List.getElem_cons_zero, List.getElem_cons_succ, List.setIfInBounds_toArray, List.set_cons_zero, List.set_cons_succ]
          refine' wpAnyH_take (i := 28) (v := _) rfl (by kernel_rfl) (by kernel_rfl) (by kernel_rfl) (fun _ _ _ h => h) (Or.inl ⟨by rfl, fun u hu => ?_⟩) (by assumption) ?_
          rotate_left
          · (try dsimp only at hu)
            go_simp
            try with_reducible rfl
          try simp only [Act.put, List.getElem_toArray, List.getElem_cons_zero, List.getElem_cons_succ, List.setIfInBounds_toArray, List.set_cons_zero, List.set_cons_succ]
          refine' wpAnyH_take (i := 29) (v := _) rfl (by kernel_rfl) (by kernel_rfl) (by kernel_rfl) (fun _ _ _ h => h) (Or.inl ⟨by rfl, fun u hu => ?_⟩) (by assumption) ?_
          rotate_left
          · (try dsimp only at hu)
            go_simp
            try with_reducible rfl
          try simp only [Act.put, List.getElem_toArray, List.getElem_cons_zero, List.getElem_cons_succ, List.setIfInBounds_toArray, List.set_cons_zero, List.set_cons_succ]
          refine' wpAnyH_take (i := 30) (v := _) rfl (by kernel_rfl) (by kernel_rfl) (by kernel_rfl) (fun _ _ _ h => h) (Or.inl ⟨by rfl, fun u hu => ?_⟩) (by assumption) ?_
          rotate_left
          · (try dsimp only at hu)
            go_simp
            try with_reducible rfl
          try simp only [Act.put, List.getElem_toArray, List.getElem_cons_zero, List.getElem_cons_succ, List.setIfInBounds_toArray, List.set_cons_zero, List.set_cons_succ]
          refine' wpAnyH_take (i := 31) (v := _) rfl (by kernel_rfl) (by kernel_rfl) (by kernel_rfl) (fun _ _ _ h => h) (Or.inl ⟨by rfl, fun u hu => ?_⟩) (by assumption) ?_
          rotate_left
          · (try dsimp only at hu)
            go_simp
            try with_reducible rfl
          try simp only [Act.put, List.getElem_toArray, List.getElem_cons_zero, List.getElem_cons_succ, List.setIfInBounds_toArray, List.set_cons_zero, List.set_cons_succ]
          rw [HXX.out.2.2.1, HXX.out.2.2.2]
          refine wpAnyH_ready (rs := [32]) (by kernel_rfl) (by simp) ?_
          refine AllReadyH.cons rfl (fun K hK => ?_) AllReadyH.nil
          simp only [List.getElem_toArray, List.getElem_cons_zero, List.getElem_cons_succ]
          go_simp
          refine (I2.out w10 D10.out).mono ?_
          rintro e w11 ⟨rfl, b11⟩
          have B11 := Lib.hid (below_then B10.out b11)
          clear b11
          go_wp2_with fail
          refine hK.out _ _ (trivial) (fun hHeld => ?_)
          clear hK K
          try simp only [Act.put, List.getElem_toArray, List.getElem_cons_zero, List.getElem_cons_succ, List.setIfInBounds_toArray, List.set_cons_zero, List.set_cons_succ]
          refine' wpAnyH_take (i := 33) (v := _) rfl (by kernel_rfl) (by kernel_rfl) (by kernel_rfl) (fun _ _ _ h => h) (Or.inl ⟨by rfl, fun u hu => ?_⟩) (by assumption) ?_
          rotate_left
          · (try dsimp only at hu)
            go_simp
            try with_reducible rfl
          try simp only [Act.put, List.getElem_toArray, List.getElem_cons_zero, List.getElem_cons_succ, List.setIfInBounds_toArray, List.set_cons_zero, List.set_cons_succ]
          refine' wpAnyH_take (i := 34) (v := _) rfl (by kernel_rfl) (by kernel_rfl) (by kernel_rfl) (fun _ _ _ h => h) (Or.inl ⟨by rfl, fun u hu => ?_⟩) (by assumption) ?_
          rotate_left
          · (try dsimp only at hu)
            go_simp
            try with_reducible rfl
          try simp only [Act.put, List.getElem_toArray, List.getElem_cons_zero, List.getElem_cons_succ, List.setIfInBounds_toArray, List.set_cons_zero, List.set_cons_succ]
          refine wpAnyH_done (by kernel_rfl) ?_ _
          go_wp2_with fail
          go_ret
          exact ⟨rfl, B11.out⟩
        · go_wp2
          go_ret
          exact ⟨rfl, B1.out⟩

set_option maxHeartbeats 1000000 in
theorem walk_long (w : World) (hT : ClsTabs w) (A : Option Addr) (l : List Int) (c : Nat) (A' : Option Addr) (xs : List Int) (c' : Nat) (hl : l.length ≤ 9223372036854775807) (hx : xs.length ≤ 9223372036854775807) (hh : 200 < l.length ∨ 200 < xs.length) (b : Bool) :
    Calls Tryd.prog 5 #[.slice A l.length c, .slice A' xs.length c', .bool b] w fun e w' => e = .returned (.bool true) ∧ Below w.heap.size w w' := by
  by_cases h1 : 200 < l.length
  · clear hh
    go_enter Tryd.func5, Tryd.ntmps5
    go_wp2_with fail
    refine (ealive_any w hT).mono ?_
    rintro e w1 ⟨rfl, b1⟩
    have B1 := Lib.hid b1
    have D1 := Lib.hid b1
    clear b1
    go_wp2
    go_ret
    exact ⟨rfl, B1.out⟩
  · have h2 : 200 < xs.length := by omega
    clear hh
    go_enter Tryd.func5, Tryd.ntmps5
    go_wp2_with fail
    refine (ealive_any w hT).mono ?_
    rintro e w1 ⟨rfl, b1⟩
    have B1 := Lib.hid b1
    have D1 := Lib.hid b1
    clear b1
    go_wp2
    go_ret
    exact ⟨rfl, B1.out⟩

theorem walk (w : World) (hT : ClsTabs w) (A : Option Addr) (l : List Int) (c : Nat) (hc : l.length ≤ c) (hm : c ≤ maxLen) (h : Lies w w.heap.size A (ints .i64 l)) (_ : ∀ n ∈ l, (Lit.int .i64 n).wf = true)
    (A' : Option Addr) (xs : List Int) (c' : Nat) (hc' : xs.length ≤ c') (hm' : c' ≤ maxLen) (h' : Lies w w.heap.size A' (ints .i64 xs)) (_ : ∀ n ∈ xs, (Lit.int .i64 n).wf = true) (b : Bool) :
    Calls Tryd.prog 5 #[.slice A l.length c, .slice A' xs.length c', .bool b] w fun e w' => e = .returned (.bool true) ∧ Below w.heap.size w w' := by
  unfold maxLen at hm hm'
  by_cases hh : 200 < l.length ∨ 200 < xs.length
  · exact walk_long w hT A l c A' xs c' (by omega) (by omega) hh b
  · exact walk_ok w hT A l c (by omega) hc h A' xs c' (by omega) hc' h' b
-- WRAP
theorem spec : LawSpec Rows.explicitIsolatesSpec 3 := ⟨rfl, fun H ds h => by
  match ds, h with
  | [d0, d1, d2], _ => rfl⟩
theorem params_ok : ∀ t ∈ Tryd.f5.params.toList, Tryd.prog.readableRec t = true ∧ t < Tryd.prog.types.size := by
  rw [Tryd.params5]
  intro t ht
  simp only [List.mem_cons, List.mem_nil_iff, or_false] at ht
  rcases ht with rfl | rfl | rfl
  all_goals exact ⟨by kernel_rfl, of_decide_eq_true (by kernel_rfl)⟩

theorem contract (H : Type) (enc : TypeId × Value → H) (W : World) (base : Nat) (args : Array Value) (ds gs : List (DataW H)) (before : List MemPlace)
    (hval : ∀ (j : Nat) t v, Tryd.f5.params[j]? = some t → args[j]? = some v → Value.okWide Tryd.prog W .any base t v)
    (hW : DataW.Whole enc Tryd.prog Tryd.f5.params.toList Rows.explicitIsolatesSpec.vars false W args.toList ds gs before) (hL : laidMetH Tryd.prog laidList W) :
    Calls Tryd.prog 5 args W fun e W' => ∃ v, e = .returned v ∧ Rows.explicitIsolatesSpec.post enc Tryd.prog Tryd.f5 false true false false W args v W' := by
  have hW' := hW
  obtain ⟨p, q, hA0, hV, rfl, hfz, hnd⟩ := hW
  have hA : DataW.TrodAll enc Tryd.prog W 0 (fun _ => true) true Tryd.f5.params.toList args.toList ds p := hA0
  rw [Tryd.params5] at hA hval
  obtain ⟨v0, vs0, d0, ds0, p0, q0, hargs, rfl, rfl, h0, r0⟩ := trodAll_cons hA
  obtain ⟨v1, vs1, d1, ds1, p1, q1, rfl, rfl, rfl, h1, r1⟩ := trodAll_cons r0
  obtain ⟨v2, vs2, d2, ds2, p2, q2, rfl, rfl, rfl, h2, r2⟩ := trodAll_cons r1
  obtain ⟨rfl, rfl, rfl⟩ := trodAll_nil r2
  obtain rfl : args = #[v0, v1, v2] := by cases args; simp_all
  obtain ⟨A0, l0, c0, rfl, hc0, hm0, hl0, wf0⟩ := open_list Tryd.underlying22 Tryd.underlying3 (by kernel_rfl) (hval 0 22 v0 rfl rfl) h0
  obtain ⟨A1, l1, c1, rfl, hc1, hm1, hl1, wf1⟩ := open_list Tryd.underlying22 Tryd.underlying3 (by kernel_rfl) (hval 1 22 v1 rfl rfl) h1
  obtain ⟨a2, rfl, rfl, rfl⟩ := open_bool Tryd.underlying4 (hval 2 4 v2 rfl rfl) h2
  exact (walk W (tabs_of hL) A0 l0 c0 hc0 hm0 hl0 wf0 A1 l1 c1 hc1 hm1 hl1 wf1 a2).mono fun e W' ⟨he, hg⟩ => ⟨_, he, law_post spec (by rw [Tryd.params5]; rfl) (by kernel_rfl) params_ok (by kernel_rfl) Tryd.underlying4 hW' hg⟩

theorem laid_met (os : Os) : laidMet Tryd.prog Rows.explicitIsolatesRow.laid ((laidWorld os #[.slice none 0 0, .slice none 0 0, .bool false]).forCall (fun _ _ => 0) ⟨#[], #[.slice none 0 0, .slice none 0 0, .bool false], []⟩).memory :=
  laidMet_of_run' 8 (by kernel_rfl) (by kernel_rfl)
theorem reads (os : Os) {H : Type} (enc : TypeId × Value → H) : ∃ places, DataW.whole enc Tryd.prog ((laidWorld os #[.slice none 0 0, .slice none 0 0, .bool false]).forCall (fun _ _ => 0) ⟨#[], #[.slice none 0 0, .slice none 0 0, .bool false], []⟩).memory Tryd.f5.params.toList Rows.explicitIsolatesSpec.vars false #[.slice none 0 0, .slice none 0 0, .bool false].toList 8 = some ([.nil, .nil, .lit (.bool false)], [], places) :=
  ⟨[], by kernel_rfl⟩
set_option maxRecDepth 100000 in
theorem lifted (os : Os) (started : os.Started) (H : Type) (enc : TypeId × Value → H) (F : Stop.Interp) :
    ReturnsInHanded {} Tryd.checked os 5 .any ((OpenSpec.ofChange Rows.explicitIsolatesSpec).preRow enc Tryd.prog Tryd.f5 Rows.explicitIsolatesRow.domain false Rows.explicitIsolatesRow.laid) (((OpenSpec.ofChange Rows.explicitIsolatesSpec).at F).post enc Tryd.prog Tryd.f5 false true false false) := by
  obtain ⟨places, hx⟩ := reads os enc
  refine returnsInHanded_of_row (C := Tryd.checked) (s := OpenSpec.ofChange Rows.explicitIsolatesSpec) own started (by kernel_rfl) Tryd.func5
    (witness_row_at (enc := enc) (C := Tryd.checked) false (laidWorld os #[.slice none 0 0, .slice none 0 0, .bool false]) #[.slice none 0 0, .slice none 0 0, .bool false] rfl (by kernel_rfl) (by kernel_rfl) (by kernel_rfl)
      (OpenSpec.preRow_of_cond 8 hx (by kernel_rfl) (fun k hk => by cases hk) (by kernel_rfl) (laid_met os))) ?_
  intro W base args ds gs before hval hW _ _ _ hL _ _
  exact contract H enc W base args ds gs before hval hW hL
theorem said : Rows.ExplicitIsolatesSaid :=
  OpenClaim.holds_of_cond 5 Tryd.f5 rfl rfl rfl rfl rfl rfl rfl ⟨rfl, rfl, rfl, rfl, rfl⟩ rfl rfl rfl rfl rfl (by kernel_rfl) Tryd.func5 (by kernel_rfl)
    (of_decide_eq_true (by kernel_rfl)) (by unfold Func.isWrapper; first | (rw [if_pos (by decide +kernel)]; kernel_rfl) | (rw [if_neg (by decide +kernel)]; exact ⟨rfl, rfl⟩))
    (fun os started H enc _ F => by rw [OpenClaim.pre_eq_preRow]; exact lifted os started H enc F)
theorem card : Rows.ExplicitIsolatesCardSaid :=
  Claim7.holds_tied_plain_at .later [] _ _ _ _ said (fun _ h => by cases h) (by kernel_rfl) (fun _ h => by cases h) explicitIsolates_row_tie rfl ⟨rfl, rfl⟩ (by kernel_rfl) rfl
    (plainOf "ductus/ductuslaw06.ExplicitIsolates" 5 Tryd.f5 (by kernel_rfl) Tryd.func5 (by kernel_rfl) (fun j t ht => by
      rw [Tryd.params5] at ht
      have hm := Array.mem_of_getElem? ht
      simp only [List.mem_toArray, List.mem_cons, List.mem_nil_iff, or_false] at hm
      rcases hm with rfl | rfl | rfl
      all_goals (show Tryd.prog.wantsStandIn _ = false; kernel_rfl))) (by kernel_rfl)
end Go.Proofs.YtihphfbgihbkfaaDoor.lawIsolates
