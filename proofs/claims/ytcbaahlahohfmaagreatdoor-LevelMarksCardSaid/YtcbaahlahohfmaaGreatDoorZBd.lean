/- LevelMarks: for every list of numbers, of bytes, and every number, with marks that are nothing to direction between them all others have the levels that they had. Conditions: none. -/
import Derived.Test.YtcbaahlahohfmaaGreatDoorRows
import Derived.Test.YtcbaahlahohfmaaGreatDoorZB1
import Derived.Test.YtcbaahlahohfmaaGreatDoorZB2
import Derived.Test.YtcbaahlahohfmaaGreatDoorZB9
import Derived.Test.YtcbaahlahohfmaaGreatDoorZB22
import Derived.Test.YtcbaahlahohfmaaGreatDoorZB23
import Derived.Test.YtcbaahlahohfmaaGreatDoorZB24
namespace Go.Proofs.YtcbaahlahohfmaaGreatDoor.lawMarks
open Go.ChangeShapes Go.WideShapes Go.ChangeAt Go.RowKit Reckon
theorem lies_dropAdd {w : World} {B : Nat} {A : Option Addr} {l : List Int} (h : Lies w B A (ints .i64 l)) (k c : Nat) (hc : l.length ≤ c) : Lies w B (if c = k then A else Option.map (fun x => x.add k) A) (ints .i64 (l.drop k)) := by
 by_cases hk : k < l.length
 ·have h1 := h.dropIf k c hc
  obtain ⟨b, off, rfl, _, _⟩ := h.plainInts (by omega)
  rw [if_neg (by omega)] at h1 ⊢
  show Lies w B (some ((⟨b, off, none⟩ : Addr).add k)) _
  rw [add_plain]
  exact h1
 ·rw [List.drop_of_length_le (by omega)]
  exact Lies.empty
theorem kept_is (l : List Int) : keptI l = seenI (clsL l) := by
 unfold keptI keptN seenI seenN
 rw [clsL_length]
 congr 1
 refine List.filter_congr fun i hi => ?_
 have hi' := List.mem_range.1 hi
 rw [getD_at hi', getD_at (show i < (clsL l).length by rw [clsL_length]; exact hi'), outC]
 simp [clsL]
theorem kept_at {l : List Int} {i : Nat} (h : i < (keptI l).length) : ∃ q : Nat, (keptI l)[i] = (q : Int) ∧ q < l.length := by
 have h1 : (keptI l)[i] ∈ seenI (clsL l) := kept_is l ▸ List.getElem_mem h
 rw [seenI_eq] at h1
 obtain ⟨q, hq, he⟩ := List.mem_map.1 h1
 have := ((seenQ_mem _ q).1 hq).1
 rw [clsL_length] at this
 exact ⟨q, he.symm, this⟩
theorem keptL_length (l : List Int) (dir : Int) : (keptL l dir).length = (keptI l).length := by rw [keptL, List.length_map, kept_is]
theorem keptL_at {l : List Int} {dir : Int} {i q : Nat} (h : i < (keptI l).length) (hq : (keptI l)[i] = (q : Int)) : (keptL l dir).getD i 0 = (levI l dir).getD q 0 := by
 have h' : i < (keptL l dir).length := by rw [keptL_length]; exact h
 rw [getD_at h']
 simp only [keptL, List.getElem_map]
 have e : (seenI (clsL l))[i]'(by rw [← kept_is]; exact h) = (q : Int) := by simp only [← kept_is]; exact hq
 rw [e, Int.toNat_natCast]
theorem kept_le (l : List Int) : (keptI l).length ≤ l.length := by
 rw [kept_is, seenI]
 have := seenN_le (clsL l) (clsL l).length
 rw [clsL_length] at this ⊢
 exact this
set_option maxRecDepth 20000 in
set_option maxHeartbeats 16000000 in
theorem walk_ok (w : World) (hT : ClsTabs w) (A : Option Addr) (l : List Int) (c : Nat) (hl : l.length ≤ 100) (h : Lies w w.heap.size A (ints .i64 l)) (A' : Option Addr) (bs : List Int) (c' : Nat) (hb : bs.length ≤ 20) (h' : Lies w w.heap.size A' (ints .u8 bs)) (wf : ∀ n ∈ bs, (Lit.int .u8 n).wf = true) (dir : Int) :
 Calls Tryz.prog 5 #[.slice A l.length c, .slice A' bs.length c', .int .i64 dir] w fun e w' => e = .returned (.bool true) ∧ Below w.heap.size w w' := by
 have HT := Lib.hid hT
 clear hT
 have H := Lib.hid h
 have HB' := Lib.hid h'
 have HWF := Lib.hid wf
 clear h h' wf
 go_enter Tryz.func5, Tryz.ntmps5
 go_wp2_with fail
 refine (lalive_any w HT.out).mono ?_
 rintro e w1 ⟨rfl, b1⟩
 have B1 := Lib.hid b1
 have D1 := Lib.hid b1
 clear b1
 have H1 := Lib.hid (H.out.up B1.out)
 have Q1 := Lib.hid (HB'.out.up B1.out)
 go_wp2_with (first
  | (at_builtin; refine app_src intsT w1 (w1.alloc (.cells #[] 3)) w1.heap.size w1.heap.size _ _ _ [] (ints .i64 l) A l.length c rfl rfl rfl rfl (by simp [ints]) (Own.ofLit #[] (Nat.le_refl _) (by decide)) (H1.out.alloc (Nat.le_refl _) _) (ints_one _ _) (below_alloc _ _) (by simp) (by unfold maxLen; simp [ints]; omega) (by simp [ints]; omega) ?_; intro v2 w2 o2 b2 _ _; have O2 := Lib.hid (show Own w2 w1.heap.size 3 v2 (ints .i64 l) by simpa using o2); have D2 := Lib.hid b2; clear o2 b2)
  | fail)
 go_loopw [8, 7] (fun iv mv wr => ∃ (i : Nat) (more : List Int), i ≤ bs.length ∧ iv = .int .i64 i ∧ Hid (Own wr w1.heap.size 3 mv (ints .i64 more)) ∧ Hid (keptL more dir = keptL l dir ∧ baseI more dir = baseI l dir) ∧ Hid (more.length = l.length + i) ∧ Hid (Below w1.heap.size w1 wr)) (fun iv _ _ => bs.length - (intOf iv).toNat)
 case atStart => exact ⟨0, l, by omega, rfl, O2, Lib.hid ⟨rfl, rfl⟩, Lib.hid rfl, D2⟩
 case round =>
  obtain ⟨i, more, hi, rfl, HO, HK, HM, HB⟩ := hrel
  obtain ⟨AM, cM, rfl, hlies, hcM, _⟩ := HO.out.form
  obtain ⟨n, hn⟩ : ∃ n, more.length = n := ⟨_, rfl⟩
  have HN := Lib.hid hn
  have LM := Lib.hid hlies
  have hn120 : n ≤ 120 := by have := HM.out; omega
  simp only [ints, List.length_map, hn] at hcM ⊢
  clear hlies hn
  by_cases hlt : i < bs.length
  ·obtain ⟨p, rfl, _, hc⟩ := (Q1.out.up HB.out).int hlt
   obtain ⟨x, hx⟩ : ∃ x, bs[i] = x := ⟨_, rfl⟩
   have hxb := bounds_u8 (HWF.out _ (List.getElem_mem hlt))
   rw [hx] at hc hxb
   have i0 : (0 : Int) ≤ (i : Int) := by omega
   have i1 : (i : Int) < (bs.length : Int) := by omega
   obtain ⟨y, rfl⟩ : ∃ y : Nat, x = y := ⟨x.toNat, by omega⟩
   obtain ⟨k, hk⟩ : ∃ k : Nat, (y : Int) % ((n : Int) + 1) = (k : Int) := ⟨((y : Int) % ((n : Int) + 1)).toNat, by have := Int.emod_nonneg (y : Int) (show (n : Int) + 1 ≠ 0 by omega); omega⟩
   have hkn : k ≤ n := by have := Int.emod_lt_of_pos (y : Int) (show (0 : Int) < (n : Int) + 1 by omega); omega
   have hw0 : IntKind.i64.wrap (y : Int) = (y : Int) := IntWalk.i64_in _ (by omega)
   have hw1 : IntKind.i64.wrap ((n : Int) + 1) = (n : Int) + 1 := IntWalk.i64_in _ (by omega)
   have hn1 : ((n : Int) + 1 == 0) = false := by simp; omega
   have hn2 : ¬ ((n : Int) + 1 = 0) := by omega
   clear hx
   go_wp2_with fail
   rw [hk]
   have k0 : (0 : Int) ≤ (k : Int) := by omega
   have k1 : (k : Int) ≤ (n : Int) := by omega
   have k2 : (k : Int) ≤ (cM : Int) := by omega
   have k3 : k ≤ cM := by omega
   have k4 : k ≤ n := hkn
   have T0 : Hid (Lies wr wr.heap.size AM (ints .i64 (more.take k))) := Lib.hid (LM.out.short k)
   have HTK : Hid ((more.take k).length = k) := Lib.hid (by rw [List.length_take, HN.out]; omega)
   have HDK : Hid ((more.drop k).length = n - k) := Lib.hid (by rw [List.length_drop, HN.out])
   have BR : Hid (Below wr.heap.size wr wr.drew) := Lib.hid (by exact below_same (Below.refl _ wr) rfl rfl rfl rfl)
   clear hk
   refine wp_region_E (S := fun _ => True) [] (by kernel_rfl) (trivial) (fun hHeld hZ => ?_)
   refine' eX 1 hZ fun hZ => ?_
   try simp only [Act.put,ZA,ZB,ZC,ZD,ZE,ZF]
   refine' eX 2 hZ fun hZ => ?_
   try simp only [Act.put,ZA,ZB,ZC,ZD,ZE,ZF]
   refine' eX 3 hZ fun hZ => ?_
   try simp only [Act.put,ZA,ZB,ZC,ZD,ZE,ZF]
   refine' eX 7 hZ fun hZ => ?_
   try simp only [Act.put,ZA,ZB,ZC,ZD,ZE,ZF]
   refine' eX 8 hZ fun hZ => ?_
   try simp only [Act.put,ZA,ZB,ZC,ZD,ZE,ZF]
   refine' eX 9 hZ fun hZ => ?_
   try simp only [Act.put,ZA,ZB,ZC,ZD,ZE,ZF]
   obtain ⟨AD, hAD⟩ : ∃ x, (if cM = k then AM else Option.map (fun x => x.add k) AM) = x := ⟨_, rfl⟩
   have E0 : Hid (Lies wr wr.heap.size AD (ints .i64 (more.drop k))) := Lib.hid (hAD ▸ lies_dropAdd LM.out k cM (by rw [HN.out]; exact hcM))
   rw [hAD]
   clear hAD
   refine wpAnyE_ready (rs := [0, 5]) (by kernel_rfl) (by simp) ?_
   refine AllReadyE.cons rfl (fun K hK => ?_) (AllReadyE.cons rfl (fun K hK => ?_) AllReadyE.nil)
   all_goals simp only [List.getElem_toArray, List.getElem_cons_zero, List.getElem_cons_succ]
   all_goals go_simp
   ·have TT := trivial
    refine eB hK hZ (trivial) fun hHeld hZ => ?_
    clear hK K
    try simp only [Act.put,ZA,ZB,ZC,ZD,ZE,ZF]
    have ON := Lib.hid (OwnN.ofLit (w := wr.drew) (B := wr.heap.size) (e := 3) (size := 1) (n := 0) #[] (Nat.le_refl _) (by decide) rfl)
    have BN : Hid (Below wr.heap.size wr (wr.drew.alloc (.cells #[] 3))) := Lib.hid (BR.out.alloc BR.out.size _)
    refine wpAnyE_ready (rs := [4, 5]) (by kernel_rfl) (by simp) ?_
    refine AllReadyE.cons rfl (fun K hK => ?_) (AllReadyE.cons rfl (fun K hK => ?_) AllReadyE.nil)
    ·have TT := trivial
     refine step_appN intsT.wide wr _ wr.heap.size _ (.tmp 45) (.tmp 48) (.slice (some ⟨wr.heap.size, 0, none⟩) 0 0) 0 k [] (ints .i64 (more.take k)) _ _ rfl rfl rfl rfl ON.out (T0.out.below BN.out) (by rw [ints, List.length_map, HTK.out]; omega) (ints_one _ _) BN.out BN.out.size (by unfold maxLen; omega) (by omega) ?_
     intro v4 w14 o_ b_ g_ e_
     have O4 := Lib.hid o_
     have C4 := Lib.hid b_
     have G4 := Lib.hid g_
     clear o_ b_ g_ e_
     refine eB hK hZ (trivial) fun hHeld hZ => ?_
     clear hK K
     try simp only [Act.put,ZA,ZB,ZC,ZD,ZE,ZF]
     refine eA 5 fun K hK => ?_
     go_simp
     refine eB hK hZ (trivial) fun hHeld hZ => ?_
     clear hK K
     try simp only [Act.put,ZA,ZB,ZC,ZD,ZE,ZF]
     refine eA 6 fun K hK => ?_
     refine step_appN intsT.wide wr _ wr.heap.size _ (.tmp 49) (.tmp 50) _ (0 + k) 1 ([] ++ ints .i64 (more.take k)) [.int .i64 65279] _ _ rfl rfl rfl rfl (O4.out.alloc _) (Lies.lit (w := w14) (e := 3) #[.int .i64 65279]) rfl (by simp [Value.oneCell']) (C4.out.alloc C4.out.size _) (C4.out.alloc C4.out.size _).size (by unfold maxLen; omega) (by omega) ?_
     intro v5 w15 o_ b_ g_ e_
     have O5 := Lib.hid o_
     have C5 := Lib.hid b_
     have G5 := Lib.hid g_
     clear o_ b_ g_ e_
     refine eB hK hZ (trivial) fun hHeld hZ => ?_
     clear hK K
     try simp only [Act.put,ZA,ZB,ZC,ZD,ZE,ZF]
     refine eA 10 fun K hK => ?_
     refine step_appN intsT.wide wr _ wr.heap.size _ (.tmp 51) (.tmp 54) _ (0 + k + 1) (n - k) ([] ++ ints .i64 (more.take k) ++ [Value.int .i64 65279]) (ints .i64 (more.drop k)) _ _ rfl rfl rfl rfl O5.out (E0.out.below C5.out) (by rw [ints, List.length_map, HDK.out]; omega) (ints_one _ _) C5.out C5.out.size (by unfold maxLen; omega) (by omega) ?_
     intro v6 w16 o_ b_ g_ e_
     have O6 := Lib.hid o_
     have C6 := Lib.hid b_
     have G6 := Lib.hid g_
     clear o_ b_ g_ e_
     refine eB hK hZ (trivial) fun hHeld hZ => ?_
     clear hK K
     try simp only [Act.put,ZA,ZB,ZC,ZD,ZE,ZF]
     refine' eX 11 hZ fun hZ => ?_
     try simp only [Act.put,ZA,ZB,ZC,ZD,ZE,ZF]
     refine wpAnyE_done (by kernel_rfl) ?_ _
     clear hZ
     go_wp2_with fail
     go_roundw
     case rel =>
      have hkm : k ≤ more.length := by rw [HN.out]; omega
      have hil := ins_length hkm 65279
      refine ⟨i + 1, ins more k 65279, by omega, by go_num, Lib.hid ?_, Lib.hid ⟨by rw [kept_ins hkm]; exact HK.out.1, by rw [base_ins]; exact HK.out.2⟩, Lib.hid (by rw [hil, HM.out]; omega), Lib.hid (HB.out.trans (C6.out.mono HB.out.size))⟩
      have e1 : 0 + k + 1 + (n - k) = (ints .i64 (ins more k 65279)).length := by rw [ints, List.length_map, hil, HN.out]; omega
      have e2 : [] ++ ints .i64 (more.take k) ++ [Value.int .i64 65279] ++ ints .i64 (more.drop k) = ints .i64 (ins more k 65279) := by simp [ints, ins]
      have h6 := O6.out.weaken HB.out.size
      rw [e1, e2] at h6
      exact h6
     case measure => simp [intOf]; omega
    ·have TT := trivial
     simp only [List.getElem_toArray, List.getElem_cons_zero, List.getElem_cons_succ]
     go_simp
     refine eB hK hZ (trivial) fun hHeld hZ => ?_
     clear hK K
     try simp only [Act.put,ZA,ZB,ZC,ZD,ZE,ZF]
     have BM := Lib.hid (BN.out.alloc BN.out.size (.cells #[.int .i64 65279] 3))
     refine eA 4 fun K hK => ?_
     refine step_appN intsT.wide wr _ wr.heap.size _ (.tmp 45) (.tmp 48) (.slice (some ⟨wr.heap.size, 0, none⟩) 0 0) 0 k [] (ints .i64 (more.take k)) _ _ rfl rfl rfl rfl (ON.out.alloc _) (T0.out.below BM.out) (by rw [ints, List.length_map, HTK.out]; omega) (ints_one _ _) BM.out BM.out.size (by unfold maxLen; omega) (by omega) ?_
     intro v4 w14 o_ b_ g_ e_
     have O4 := Lib.hid o_
     have C4 := Lib.hid b_
     have G4 := Lib.hid g_
     clear o_ b_ g_ e_
     refine eB hK hZ (trivial) fun hHeld hZ => ?_
     clear hK K
     try simp only [Act.put,ZA,ZB,ZC,ZD,ZE,ZF]
     refine eA 6 fun K hK => ?_
     refine step_appN intsT.wide wr _ wr.heap.size _ (.tmp 49) (.tmp 50) _ (0 + k) 1 ([] ++ ints .i64 (more.take k)) [.int .i64 65279] _ _ rfl rfl rfl rfl O4.out (lies_kept2 (g := wr.heap.size + 1) G4.out (by have h_ := Lies.lit (w := wr.drew.alloc (.cells #[] 3)) (e := 3) #[.int .i64 65279]; rw [show (wr.drew.alloc (.cells #[] 3)).heap.size = wr.heap.size + 1 by simp] at h_; exact h_) rfl (by simp <;> omega) (by simp [Value.ownBlock])) rfl (by simp [Value.oneCell']) C4.out C4.out.size (by unfold maxLen; omega) (by omega) ?_
     intro v5 w15 o_ b_ g_ e_
     have O5 := Lib.hid o_
     have C5 := Lib.hid b_
     have G5 := Lib.hid g_
     clear o_ b_ g_ e_
     refine eB hK hZ (trivial) fun hHeld hZ => ?_
     clear hK K
     try simp only [Act.put,ZA,ZB,ZC,ZD,ZE,ZF]
     refine eA 10 fun K hK => ?_
     refine step_appN intsT.wide wr _ wr.heap.size _ (.tmp 51) (.tmp 54) _ (0 + k + 1) (n - k) ([] ++ ints .i64 (more.take k) ++ [Value.int .i64 65279]) (ints .i64 (more.drop k)) _ _ rfl rfl rfl rfl O5.out (E0.out.below C5.out) (by rw [ints, List.length_map, HDK.out]; omega) (ints_one _ _) C5.out C5.out.size (by unfold maxLen; omega) (by omega) ?_
     intro v6 w16 o_ b_ g_ e_
     have O6 := Lib.hid o_
     have C6 := Lib.hid b_
     have G6 := Lib.hid g_
     clear o_ b_ g_ e_
     refine eB hK hZ (trivial) fun hHeld hZ => ?_
     clear hK K
     try simp only [Act.put,ZA,ZB,ZC,ZD,ZE,ZF]
     refine' eX 11 hZ fun hZ => ?_
     try simp only [Act.put,ZA,ZB,ZC,ZD,ZE,ZF]
     refine wpAnyE_done (by kernel_rfl) ?_ _
     clear hZ
     go_wp2_with fail
     go_roundw
     case rel =>
      have hkm : k ≤ more.length := by rw [HN.out]; omega
      have hil := ins_length hkm 65279
      refine ⟨i + 1, ins more k 65279, by omega, by go_num, Lib.hid ?_, Lib.hid ⟨by rw [kept_ins hkm]; exact HK.out.1, by rw [base_ins]; exact HK.out.2⟩, Lib.hid (by rw [hil, HM.out]; omega), Lib.hid (HB.out.trans (C6.out.mono HB.out.size))⟩
      have e1 : 0 + k + 1 + (n - k) = (ints .i64 (ins more k 65279)).length := by rw [ints, List.length_map, hil, HN.out]; omega
      have e2 : [] ++ ints .i64 (more.take k) ++ [Value.int .i64 65279] ++ ints .i64 (more.drop k) = ints .i64 (ins more k 65279) := by simp [ints, ins]
      have h6 := O6.out.weaken HB.out.size
      rw [e1, e2] at h6
      exact h6
     case measure => simp [intOf]; omega
   ·have TT := trivial
    refine eB hK hZ (trivial) fun hHeld hZ => ?_
    clear hK K
    try simp only [Act.put,ZA,ZB,ZC,ZD,ZE,ZF]
    have BN : Hid (Below wr.heap.size wr (wr.drew.alloc (.cells #[.int .i64 65279] 3))) := Lib.hid (BR.out.alloc BR.out.size _)
    have BM := Lib.hid (BN.out.alloc BN.out.size (.cells #[] 3))
    have ON : Hid (OwnN ((wr.drew.alloc (.cells #[.int .i64 65279] 3)).alloc (.cells #[] 3)) wr.heap.size 3 1 (.slice (some ⟨wr.heap.size + 1, 0, none⟩) 0 0) 0 []) := Lib.hid (by
     have h_ := OwnN.ofLit (w := wr.drew.alloc (.cells #[.int .i64 65279] 3)) (B := wr.heap.size) (e := 3) (size := 1) (n := 0) #[] (by simp) (by decide) rfl
     simpa using h_)
    refine eA 0 fun K hK => ?_
    go_simp
    refine eB hK hZ (trivial) fun hHeld hZ => ?_
    clear hK K
    try simp only [Act.put,ZA,ZB,ZC,ZD,ZE,ZF]
    refine eA 4 fun K hK => ?_
    refine step_appN intsT.wide wr _ wr.heap.size _ (.tmp 45) (.tmp 48) (.slice (some ⟨wr.heap.size + 1, 0, none⟩) 0 0) 0 k [] (ints .i64 (more.take k)) _ _ rfl rfl rfl rfl ON.out (T0.out.below BM.out) (by rw [ints, List.length_map, HTK.out]; omega) (ints_one _ _) BM.out BM.out.size (by unfold maxLen; omega) (by omega) ?_
    intro v4 w14 o_ b_ g_ e_
    have O4 := Lib.hid o_
    have C4 := Lib.hid b_
    have G4 := Lib.hid g_
    clear o_ b_ g_ e_
    refine eB hK hZ (trivial) fun hHeld hZ => ?_
    clear hK K
    try simp only [Act.put,ZA,ZB,ZC,ZD,ZE,ZF]
    refine eA 6 fun K hK => ?_
    refine step_appN intsT.wide wr _ wr.heap.size _ (.tmp 49) (.tmp 50) _ (0 + k) 1 ([] ++ ints .i64 (more.take k)) [.int .i64 65279] _ _ rfl rfl rfl rfl O4.out (lies_kept2 (g := wr.heap.size) G4.out ((Lies.lit (w := wr.drew) (e := 3) #[.int .i64 65279]).alloc (by simp) (.cells #[] 3)) rfl (by simp <;> omega) (by simp [Value.ownBlock])) rfl (by simp [Value.oneCell']) C4.out C4.out.size (by unfold maxLen; omega) (by omega) ?_
    intro v5 w15 o_ b_ g_ e_
    have O5 := Lib.hid o_
    have C5 := Lib.hid b_
    have G5 := Lib.hid g_
    clear o_ b_ g_ e_
    refine eB hK hZ (trivial) fun hHeld hZ => ?_
    clear hK K
    try simp only [Act.put,ZA,ZB,ZC,ZD,ZE,ZF]
    refine eA 10 fun K hK => ?_
    refine step_appN intsT.wide wr _ wr.heap.size _ (.tmp 51) (.tmp 54) _ (0 + k + 1) (n - k) ([] ++ ints .i64 (more.take k) ++ [Value.int .i64 65279]) (ints .i64 (more.drop k)) _ _ rfl rfl rfl rfl O5.out (E0.out.below C5.out) (by rw [ints, List.length_map, HDK.out]; omega) (ints_one _ _) C5.out C5.out.size (by unfold maxLen; omega) (by omega) ?_
    intro v6 w16 o_ b_ g_ e_
    have O6 := Lib.hid o_
    have C6 := Lib.hid b_
    have G6 := Lib.hid g_
    clear o_ b_ g_ e_
    refine eB hK hZ (trivial) fun hHeld hZ => ?_
    clear hK K
    try simp only [Act.put,ZA,ZB,ZC,ZD,ZE,ZF]
    refine' eX 11 hZ fun hZ => ?_
    try simp only [Act.put,ZA,ZB,ZC,ZD,ZE,ZF]
    refine wpAnyE_done (by kernel_rfl) ?_ _
    clear hZ
    go_wp2_with fail
    go_roundw
    case rel =>
     have hkm : k ≤ more.length := by rw [HN.out]; omega
     have hil := ins_length hkm 65279
     refine ⟨i + 1, ins more k 65279, by omega, by go_num, Lib.hid ?_, Lib.hid ⟨by rw [kept_ins hkm]; exact HK.out.1, by rw [base_ins]; exact HK.out.2⟩, Lib.hid (by rw [hil, HM.out]; omega), Lib.hid (HB.out.trans (C6.out.mono HB.out.size))⟩
     have e1 : 0 + k + 1 + (n - k) = (ints .i64 (ins more k 65279)).length := by rw [ints, List.length_map, hil, HN.out]; omega
     have e2 : [] ++ ints .i64 (more.take k) ++ [Value.int .i64 65279] ++ ints .i64 (more.drop k) = ints .i64 (ins more k 65279) := by simp [ints, ins]
     have h6 := O6.out.weaken HB.out.size
     rw [e1, e2] at h6
     exact h6
    case measure => simp [intOf]; omega
  ·have h1 := H1.out.up HB.out
   obtain ⟨La, hLa⟩ : ∃ x, levI l dir = x := ⟨_, rfl⟩
   obtain ⟨Lm, hLm⟩ : ∃ x, levI more dir = x := ⟨_, rfl⟩
   obtain ⟨ba, hba⟩ : ∃ x, baseI l dir = x := ⟨_, rfl⟩
   have HLA := Lib.hid hLa
   have HLM := Lib.hid hLm
   have HBA := Lib.hid hba
   have HBM : Hid (baseI more dir = ba) := Lib.hid (HK.out.2.trans hba)
   have HLAL : Hid (La.length = l.length) := Lib.hid (by rw [← hLa, levI_length])
   have HLML : Hid (Lm.length = n) := Lib.hid (by rw [← hLm, levI_length, HN.out])
   obtain ⟨Ka, hKa⟩ : ∃ x, keptI l = x := ⟨_, rfl⟩
   obtain ⟨Km, hKm⟩ : ∃ x, keptI more = x := ⟨_, rfl⟩
   have HKA := Lib.hid hKa
   have HKM := Lib.hid hKm
   have HKL : Hid (Km.length = Ka.length) := Lib.hid (by rw [← hKa, ← hKm, ← keptL_length more dir, ← keptL_length l dir, HK.out.1])
   have HKB : Hid (Ka.length ≤ 100) := Lib.hid (by rw [← hKa]; have := kept_le l; omega)
   have eb : (ba != ba) = false := by simp
   have hge : ¬ (i : Int) < (bs.length : Int) := by omega
   have HH := Lib.hid h1
   clear hLa hLm hba hKa hKm h1
   go_wp2_with fail
   refine (lof_any A l c dir wr (HT.out.below (below_then B1.out HB.out) HT.out.big) HH.out (by omega)).mono ?_
   rintro e w3 ⟨v3, rfl, o3, b3⟩
   rw [HLA.out] at o3
   rw [HBA.out]
   obtain ⟨A3, c3, hv3, l3, -, -⟩ := o3.form
   rw [ints, List.length_map, HLAL.out] at hv3
   subst hv3
   have D3 := Lib.hid b3
   have L3 := Lib.hid l3
   have M3 := Lib.hid (LM.out.up b3)
   have H3 := Lib.hid (HH.out.up b3)
   clear o3 l3 b3
   have hcon := lof_any AM more cM dir w3 (HT.out.below (below_then (below_then B1.out HB.out) D3.out) HT.out.big) M3.out (by rw [HN.out]; omega)
   rw [HN.out] at hcon
   have HCON := Lib.hid hcon
   clear hcon
   go_wp2_with fail
   refine HCON.out.mono ?_
   rintro e w4 ⟨v4, rfl, o4, b4⟩
   rw [HLM.out] at o4
   rw [HBM.out]
   obtain ⟨A4, c4, hv4, l4, -, -⟩ := o4.form
   rw [ints, List.length_map, HLML.out] at hv4
   subst hv4
   have D4 := Lib.hid (below_then D3.out b4)
   have L4 := Lib.hid l4
   have L34 := Lib.hid (L3.out.up b4)
   have M4 := Lib.hid (M3.out.up b4)
   have H4 := Lib.hid (H3.out.up b4)
   clear o4 l4 b4 HCON
   go_wp2_with fail
   refine (rkept_any A l c w4 H4.out (by omega)).mono ?_
   rintro e w5 ⟨v5, rfl, o5, b5⟩
   rw [HKA.out] at o5
   obtain ⟨A5, c5, hv5, l5, -, -⟩ := o5.form
   rw [ints, List.length_map] at hv5
   subst hv5
   have D5 := Lib.hid (below_then D4.out b5)
   have P5 := Lib.hid l5
   have L35 := Lib.hid (L34.out.up b5)
   have L45 := Lib.hid (L4.out.up b5)
   have M5 := Lib.hid (M4.out.up b5)
   clear o5 l5 b5
   have hcon := rkept_any AM more cM w5 M5.out (by rw [HN.out]; omega)
   rw [HN.out] at hcon
   have HCON := Lib.hid hcon
   clear hcon
   go_wp2_with fail
   refine HCON.out.mono ?_
   rintro e w6 ⟨v6, rfl, o6, b6⟩
   rw [HKM.out] at o6
   obtain ⟨A6, c6, hv6, l6, -, -⟩ := o6.form
   rw [ints, List.length_map, HKL.out] at hv6
   subst hv6
   have D6 := Lib.hid (below_then D5.out b6)
   have P6 := Lib.hid (P5.out.up b6)
   have Q6 := Lib.hid l6
   have L36 := Lib.hid (L35.out.up b6)
   have L46 := Lib.hid (L45.out.up b6)
   clear o6 l6 b6 HCON
   go_wp2_with fail
   go_loopw [16] (fun jv wr2 => ∃ j : Nat, j ≤ Ka.length ∧ jv = .int .i64 j ∧ Hid (Below w6.heap.size w6 wr2)) (fun jv _ => Ka.length - (intOf jv).toNat)
   case atStart => exact ⟨0, by omega, rfl, Lib.hid (Below.refl _ _)⟩
   case round =>
    obtain ⟨j, hj, rfl, HB6⟩ := hrel
    by_cases hlt2 : j < Ka.length
    ·have hja : j < (keptI l).length := by rw [HKA.out]; exact hlt2
     have hjm : j < (keptI more).length := by rw [HKM.out, HKL.out]; exact hlt2
     have hlm : j < Km.length := by rw [HKL.out]; exact hlt2
     obtain ⟨qa, hqa, hqal⟩ := kept_at hja
     obtain ⟨qm, hqm, hqml⟩ := kept_at hjm
     have e1 := keptL_at (dir := dir) hja hqa
     have e2 := keptL_at (dir := dir) hjm hqm
     rw [HLA.out] at e1
     rw [HLM.out, HK.out.1, e1] at e2
     simp only [HKA.out] at hqa
     simp only [HKM.out] at hqm
     rw [HN.out] at hqml
     have ha3 : qa < La.length := by rw [HLAL.out]; exact hqal
     have ha4 : qm < Lm.length := by rw [HLML.out]; exact hqml
     obtain ⟨p5, rfl, _, c5'⟩ := (P6.out.up HB6.out).int hlt2
     obtain ⟨p6, rfl, _, c6'⟩ := (Q6.out.up HB6.out).int hlm
     obtain ⟨p3, rfl, _, c3'⟩ := (L36.out.up HB6.out).int ha3
     obtain ⟨p4, rfl, _, c4'⟩ := (L46.out.up HB6.out).int ha4
     rw [hqa] at c5'
     rw [hqm] at c6'
     obtain ⟨z, hz⟩ : ∃ z, La.getD qa 0 = z := ⟨_, rfl⟩
     rw [← getD_at ha3, hz] at c3'
     rw [← getD_at ha4, ← e2, hz] at c4'
     have hcc : wr.drew.cell? (p5.add j) = some (.int .i64 (qa : Int)) ∧ wr.drew.cell? (p6.add j) = some (.int .i64 (qm : Int)) ∧ wr.drew.cell? (p3.add qa) = some (.int .i64 z) ∧ wr.drew.cell? (p4.add qm) = some (.int .i64 z) := ⟨c5', c6', c3', c4'⟩
     have hkb := HKB.out
     have j0 : (0 : Int) ≤ (j : Int) := by omega
     have j1 : (j : Int) < (Ka.length : Int) := by omega
     have a0 : (0 : Int) ≤ (qa : Int) := by omega
     have a1 : (qa : Int) < (l.length : Int) := by omega
     have m0 : (0 : Int) ≤ (qm : Int) := by omega
     have m1 : (qm : Int) < (n : Int) := by omega
     have ez : (z != z) = false := by simp
     clear hz e1 e2 hqa hqm c5' c6' c3' c4' hja hjm hlm ha3 ha4 hqal hqml
     go_wp2_with fail
     refine wp_region_held_drew (S := fun w' => w'.cell? (p5.add j) = some (.int .i64 (qa : Int)) ∧ w'.cell? (p6.add j) = some (.int .i64 (qm : Int)) ∧ w'.cell? (p3.add qa) = some (.int .i64 z) ∧ w'.cell? (p4.add qm) = some (.int .i64 z)) (by kernel_rfl) (hcc) (fun hHeld => ?_)
     refine' hY 0 ?_
     try simp only [Act.put,ZA,ZB,ZD,ZE,ZF]
     refine' hY 1 ?_
     try simp only [Act.put,ZA,ZB,ZC,ZD,ZE,ZF]
     refine' hY 2 ?_
     try simp only [Act.put,ZA,ZB,ZC,ZD,ZE,ZF]
     refine' hY 3 ?_
     try simp only [Act.put,ZA,ZB,ZC,ZD,ZE,ZF]
     refine' hY 4 ?_
     try simp only [Act.put,ZA,ZB,ZC,ZD,ZE,ZF]
     refine' hY 5 ?_
     try simp only [Act.put,ZA,ZB,ZC,ZD,ZE,ZF]
     refine' hY 6 ?_
     try simp only [Act.put,ZA,ZB,ZC,ZD,ZE,ZF]
     refine' hY 7 ?_
     try simp only [Act.put,ZA,ZB,ZC,ZD,ZE,ZF]
     refine' hY 8 ?_
     try simp only [Act.put,ZA,ZB,ZC,ZD,ZE,ZF]
     refine' hY 9 ?_
     try simp only [Act.put,ZA,ZB,ZC,ZD,ZE,ZF]
     refine' hY 10 ?_
     try simp only [Act.put,ZA,ZB,ZC,ZD,ZE,ZF]
     refine' hY 11 ?_
     try simp only [Act.put,ZA,ZB,ZC,ZD,ZE,ZF]
     refine' hY 12 ?_
     try simp only [Act.put,ZA,ZB,ZC,ZD,ZE,ZF]
     refine' hY 13 ?_
     try simp only [Act.put,ZA,ZB,ZC,ZD,ZE,ZF]
     refine' hY 14 ?_
     try simp only [Act.put,ZA,ZB,ZC,ZD,ZE,ZF]
     refine wpAnyH_done (by kernel_rfl) ?_ _
     go_wp2_with fail
     go_roundw
     case rel => exact ⟨j + 1, by omega, by go_num, Lib.hid (by exact below_same HB6.out rfl rfl rfl rfl)⟩
     case measure => simp [intOf]; omega
    ·have hgj : ¬ (j : Int) < (Ka.length : Int) := by omega
     go_wp2_with fail
     go_ret
     exact ⟨by first | rfl | simp, B1.out.trans ((HB.out.trans ((D6.out.trans (HB6.out.mono D6.out.size)).mono HB.out.size)).mono B1.out.size)⟩
set_option maxRecDepth 20000 in
set_option maxHeartbeats 1000000 in
theorem walk_long (w : World) (hT : ClsTabs w) (A : Option Addr) (l : List Int) (c : Nat) (hl : l.length ≤ 9223372036854775807) (hh : 100 < l.length) (A' : Option Addr) (q : List Int) (c' : Nat) (x : Int) :
 Calls Tryz.prog 5 #[.slice A l.length c, .slice A' q.length c', .int .i64 x] w fun e w' => e = .returned (.bool true) ∧ Below w.heap.size w w' := by
 have HT := Lib.hid hT
 clear hT
 go_enter Tryz.func5, Tryz.ntmps5
 go_wp2_with fail
 refine (lalive_any w HT.out).mono ?_
 rintro e w1 ⟨rfl, b1⟩
 have B1 := Lib.hid b1
 have D1 := Lib.hid b1
 clear b1
 go_wp2
 go_ret
 exact ⟨rfl, B1.out⟩
set_option maxRecDepth 20000 in
set_option maxHeartbeats 1000000 in
theorem walk_long2 (w : World) (hT : ClsTabs w) (A : Option Addr) (l : List Int) (c : Nat) (hl : l.length ≤ 100) (A' : Option Addr) (q : List Int) (c' : Nat) (hq : q.length ≤ 9223372036854775807) (hh : 20 < q.length) (x : Int) :
 Calls Tryz.prog 5 #[.slice A l.length c, .slice A' q.length c', .int .i64 x] w fun e w' => e = .returned (.bool true) ∧ Below w.heap.size w w' := by
 have HT := Lib.hid hT
 clear hT
 go_enter Tryz.func5, Tryz.ntmps5
 go_wp2_with fail
 refine (lalive_any w HT.out).mono ?_
 rintro e w1 ⟨rfl, b1⟩
 have B1 := Lib.hid b1
 have D1 := Lib.hid b1
 clear b1
 go_wp2
 go_ret
 exact ⟨rfl, B1.out⟩
theorem walk (w : World) (hT : ClsTabs w) (A : Option Addr) (l : List Int) (c : Nat) (hc : l.length ≤ c) (hm : c ≤ maxLen) (h : Lies w w.heap.size A (ints .i64 l)) (_ : ∀ n ∈ l, (Lit.int .i64 n).wf = true) (A' : Option Addr) (q : List Int) (c' : Nat) (hc' : q.length ≤ c') (hm' : c' ≤ maxLen) (h' : Lies w w.heap.size A' (ints .u8 q)) (wf : ∀ n ∈ q, (Lit.int .u8 n).wf = true) (x : Int) (_ : (Lit.int .i64 x).wf = true) :
 Calls Tryz.prog 5 #[.slice A l.length c, .slice A' q.length c', .int .i64 x] w fun e w' => e = .returned (.bool true) ∧ Below w.heap.size w w' := by
 unfold maxLen at hm hm'
 by_cases hh : 100 < l.length
 ·exact walk_long w hT A l c (by omega) hh A' q c' x
 ·by_cases hh' : 20 < q.length
  ·exact walk_long2 w hT A l c (by omega) A' q c' (by omega) hh' x
  ·exact walk_ok w hT A l c (by omega) h A' q c' (by omega) h' wf x
-- WRAP
theorem spec : LawSpec Rows.levelMarksSpec 3 := ⟨rfl, fun H ds h => by
 match ds, h with
 | [d0, d1, d2], _ => rfl⟩
theorem params_ok : ∀ t ∈ Tryz.f5.params.toList, Tryz.prog.readableRec t = true ∧ t < Tryz.prog.types.size := by
 rw [Tryz.params5]
 intro t ht
 simp only [List.mem_cons, List.mem_nil_iff, or_false] at ht
 rcases ht with rfl | rfl | rfl
 all_goals exact ⟨by kernel_rfl, of_decide_eq_true (by kernel_rfl)⟩
set_option maxRecDepth 100000 in
theorem contract (H : Type) (enc : TypeId × Value → H) (W : World) (base : Nat) (args : Array Value) (ds gs : List (DataW H)) (before : List MemPlace)
 (hval : ∀ (j : Nat) t v, Tryz.f5.params[j]? = some t → args[j]? = some v → Value.okWide Tryz.prog W .any base t v)
 (hW : DataW.Whole enc Tryz.prog Tryz.f5.params.toList Rows.levelMarksSpec.vars false W args.toList ds gs before) (hL : laidMetH Tryz.prog laidList W) :
 Calls Tryz.prog 5 args W fun e W' => ∃ v, e = .returned v ∧ Rows.levelMarksSpec.post enc Tryz.prog Tryz.f5 false true false false W args v W' := by
 have hW' := hW
 obtain ⟨p, q, hA0, hV, rfl, hfz, hnd⟩ := hW
 have hA : DataW.TrodAll enc Tryz.prog W 0 (fun _ => true) true Tryz.f5.params.toList args.toList ds p := hA0
 rw [Tryz.params5] at hA hval
 obtain ⟨v0, vs0, d0, ds0, p0, q0, hargs, rfl, rfl, h0, r0⟩ := trodAll_cons hA
 obtain ⟨v1, vs1, d1, ds1, p1, q1, rfl, rfl, rfl, h1, r1⟩ := trodAll_cons r0
 obtain ⟨v2, vs2, d2, ds2, p2, q2, rfl, rfl, rfl, h2, r2⟩ := trodAll_cons r1
 obtain ⟨rfl, rfl, rfl⟩ := trodAll_nil r2
 obtain rfl : args = #[v0, v1, v2] := by cases args; simp_all
 obtain ⟨A0, l0, c0, rfl, hc0, hm0, hl0, wf0⟩ := open_list Tryz.underlying22 Tryz.underlying3 (by kernel_rfl) (hval 0 22 v0 rfl rfl) h0
 obtain ⟨A1, l1, c1, rfl, hc1, hm1, hl1, wf1⟩ := open_list Tryz.underlying33 Tryz.underlying5 (by kernel_rfl) (hval 1 33 v1 rfl rfl) h1
 obtain ⟨a2, rfl, rfl, rfl, w2⟩ := open_int Tryz.underlying3 (hval 2 3 v2 rfl rfl) h2
 exact (walk W (tabs_of hL) A0 l0 c0 hc0 hm0 hl0 wf0 A1 l1 c1 hc1 hm1 hl1 wf1 a2 w2).mono fun e W' ⟨he, hg⟩ => ⟨_, he, law_post spec (by rw [Tryz.params5]; rfl) (by kernel_rfl) params_ok (by kernel_rfl) Tryz.underlying4 hW' hg⟩
set_option maxRecDepth 100000 in
theorem laid_met (os : Os) : laidMet Tryz.prog Rows.levelMarksRow.laid ((laidWorld os #[.slice none 0 0, .slice none 0 0, .int .i64 0]).forCall (fun _ _ => 0) ⟨#[], #[.slice none 0 0, .slice none 0 0, .int .i64 0], []⟩).memory :=
 laidMet_of_run' 8 (by kernel_rfl) (by kernel_rfl)
set_option maxRecDepth 100000 in
theorem reads (os : Os) {H : Type} (enc : TypeId × Value → H) : ∃ places, DataW.whole enc Tryz.prog ((laidWorld os #[.slice none 0 0, .slice none 0 0, .int .i64 0]).forCall (fun _ _ => 0) ⟨#[], #[.slice none 0 0, .slice none 0 0, .int .i64 0], []⟩).memory Tryz.f5.params.toList Rows.levelMarksSpec.vars false #[.slice none 0 0, .slice none 0 0, .int .i64 0].toList 8 = some ([.nil, .nil, .lit (.int .i64 0)], [], places) :=
 ⟨[], by kernel_rfl⟩
set_option maxRecDepth 100000 in
theorem lifted (os : Os) (started : os.Started) (H : Type) (enc : TypeId × Value → H) (F : Stop.Interp) :
 ReturnsInHanded {} Tryz.checked os 5 .any ((OpenSpec.ofChange Rows.levelMarksSpec).preRow enc Tryz.prog Tryz.f5 Rows.levelMarksRow.domain false Rows.levelMarksRow.laid) (((OpenSpec.ofChange Rows.levelMarksSpec).at F).post enc Tryz.prog Tryz.f5 false true false false) := by
 obtain ⟨places, hx⟩ := reads os enc
 refine returnsInHanded_of_row (C := Tryz.checked) (s := OpenSpec.ofChange Rows.levelMarksSpec) own started (by kernel_rfl) Tryz.func5
  (witness_row_at (enc := enc) (C := Tryz.checked) false (laidWorld os #[.slice none 0 0, .slice none 0 0, .int .i64 0]) #[.slice none 0 0, .slice none 0 0, .int .i64 0] rfl (by kernel_rfl) (by kernel_rfl) (by kernel_rfl)
   (OpenSpec.preRow_of_cond 8 hx (by kernel_rfl) (fun k hk => by cases hk) (by kernel_rfl) (laid_met os))) ?_
 intro W base args ds gs before hval hW _ _ _ hL _ _
 exact contract H enc W base args ds gs before hval hW hL
set_option maxRecDepth 100000 in
theorem said : Rows.LevelMarksSaid :=
 OpenClaim.holds_of_cond 5 Tryz.f5 rfl rfl rfl rfl rfl rfl rfl ⟨rfl, rfl, rfl, rfl, rfl⟩ rfl rfl rfl rfl rfl (by kernel_rfl) Tryz.func5 (by kernel_rfl)
  (of_decide_eq_true (by kernel_rfl)) (by unfold Func.isWrapper; first | (rw [if_pos (by decide +kernel)]; kernel_rfl) | (rw [if_neg (by decide +kernel)]; exact ⟨rfl, rfl⟩))
  (fun os started H enc _ F => by rw [OpenClaim.pre_eq_preRow]; exact lifted os started H enc F)
set_option maxRecDepth 100000 in
theorem card : Rows.LevelMarksCardSaid :=
 Claim7.holds_tied_plain_at .later [] _ _ _ _ said (fun _ h => by cases h) (by kernel_rfl) (fun _ h => by cases h) levelMarks_row_tie rfl ⟨rfl, rfl⟩ (by kernel_rfl) rfl
  (plainOf "ductus/ductuslaw12.LevelMarks" 5 Tryz.f5 (by kernel_rfl) Tryz.func5 (by kernel_rfl) (fun j t ht => by
   rw [Tryz.params5] at ht
   have hm := Array.mem_of_getElem? ht
   simp only [List.mem_toArray, List.mem_cons, List.mem_nil_iff, or_false] at hm
   rcases hm with rfl | rfl | rfl
   all_goals (show Tryz.prog.wantsStandIn _ = false; kernel_rfl))) (by kernel_rfl)
end Go.Proofs.YtcbaahlahohfmaaGreatDoor.lawMarks
