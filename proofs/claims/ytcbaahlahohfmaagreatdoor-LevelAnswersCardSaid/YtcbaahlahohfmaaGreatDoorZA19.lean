/- Shared texts, shaken for one claim. -/
import Derived.Test.YtcbaahlahohfmaaGreatDoorZA1
import Derived.Test.YtcbaahlahohfmaaGreatDoorZA18
namespace Go.Proofs.YtcbaahlahohfmaaGreatDoor
open Go.RowKit
def putK (L : List (Int × Int)) (x : Int) : Nat := (L.takeWhile fun p => decide (p.1 < x)).length
def putP (L : List (Int × Int)) (p : Int × Int) : List (Int × Int) := L.take (putK L p.1) ++ [p] ++ L.drop (putK L p.1)
theorem putK_le (L : List (Int × Int)) (x : Int) : putK L x ≤ L.length := (List.takeWhile_prefix _).length_le
theorem putK_is (x : Int) : ∀ (L : List (Int × Int)) (k : Nat) (hk : k ≤ L.length), (∀ j (hj : j < k), (L[j]'(by omega)).1 < x) → (k = L.length ∨ ∃ h : k < L.length, ¬ L[k].1 < x) → putK L x = k := by
 intro L
 induction L with
 | nil => intro k hk _ _; simp at hk; subst hk; rfl
 | cons r L ih =>
  intro k hk h1 h2
  cases k with
  | zero =>
   rcases h2 with h2 | ⟨_, h2⟩
   ·simp at h2
   ·unfold putK; simp at h2; simp [h2]
  | succ k =>
   have h0 := h1 0 (by omega)
   simp at h0
   unfold putK
   rw [List.takeWhile_cons_of_pos (by simpa using h0), List.length_cons]
   congr 1
   refine ih k (by simpa using hk) (fun j hj => by simpa using h1 (j + 1) (by omega)) ?_
   rcases h2 with h2 | ⟨h3, h2⟩
   ·exact .inl (by simpa using h2)
   ·exact .inr ⟨by simpa using h3, by simpa using h2⟩
set_option maxRecDepth 20000 in
set_option maxHeartbeats 8000000 in
theorem rput_any (A : Option Addr) (L : List (Int × Int)) (c : Nat) (a b : Int) (w : World) (h : Lies w w.heap.size A (prC L)) (hc : L.length ≤ c) (hl : L.length ≤ 1000000) :
 Calls Tryz.prog 120 #[.slice A L.length c, .agg #[.int .i64 a, .int .i64 b]] w
  fun ed w' => ∃ v, ed = .returned v ∧ OwnN w' w.heap.size 79 2 v (putP L (a, b)).length (prC (putP L (a, b))) ∧ Below w.heap.size w w' := by
 have H := Lib.hid h
 obtain ⟨w0, hw0⟩ : ∃ u, w.alloc (.cells #[.int .i64 a, .int .i64 b] 79) = u := ⟨_, rfl⟩
 have B0 : Hid (Below w.heap.size w w0) := Lib.hid (hw0 ▸ below_alloc w _)
 have SB : Hid (∀ w', Below w0.heap.size w0 w' → w'.cell? ⟨w.heap.size, 0, none⟩ = some (.int .i64 a) ∧ w'.cell? ⟨w.heap.size, 1, none⟩ = some (.int .i64 b)) := Lib.hid fun w' hb => ⟨boxed (hw0 ▸ hb) rfl, boxed (hw0 ▸ hb) rfl⟩
 have HW := Lib.hid hw0
 have H0 := Lib.hid (h.up B0.out)
 clear h hw0
 go_enter Tryz.func120, Tryz.ntmps120
 go_wp2_with fail
 rw [HW.out]
 go_loopw [5] (fun kv wr => ∃ k : Nat, k ≤ L.length ∧ kv = .int .i64 k ∧ Hid (∀ j (_ : j < k) (hl : j < L.length), L[j].1 < a) ∧ Below w0.heap.size w0 wr) (fun kv _ => L.length - (intOf kv).toNat)
 case atStart => exact ⟨0, by omega, rfl, Lib.hid (fun j h => absurd h (by omega)), Below.refl _ _⟩
 case round =>
  obtain ⟨k, hk, rfl, HJ, hb⟩ := hrel
  have HB := Lib.hid hb
  clear hb
  have k0 : (0 : Int) ≤ (k : Int) := by omega
  obtain ⟨s0, s1⟩ := SB.out wr HB.out
  by_cases hlt : k < L.length
  ·have k1 : (k : Int) < (L.length : Int) := by omega
   have k2 : decide (k < L.length) = true := by simpa using hlt
   obtain ⟨g, off, hA, hg, p0, _⟩ := prC_at (Lies.up H0.out HB.out) hlt
   subst hA
   obtain ⟨x, hx⟩ : ∃ x, L[k].1 = x := ⟨_, rfl⟩
   rw [hx] at p0
   have HX := Lib.hid hx
   clear hx
   have hk1 : wr.drew.cell? ⟨g, off + k * 2, none⟩ = some (.int .i64 x) ∧ wr.drew.cell? ⟨w.heap.size, 0, none⟩ = some (.int .i64 a) := ⟨p0, s0⟩
   rcases hxa : decide (x < a) with _ | _
   ·have HK : Hid (putK L a = k) := Lib.hid (putK_is a L k hk (fun j hj => HJ.out j hj (by omega)) (.inr ⟨hlt, by rw [HX.out]; simpa using hxa⟩))
    have SBX0 := And.intro s0 s1
    have hkc : k ≤ c := by omega
    have hkl : k ≤ L.length := by omega
    have hck : ¬ c = k := by omega
    clear s0 s1 p0
    go_wp2_with fail
    refine wp_region_E (S := fun w' => w'.cell? ⟨g, off + k * 2, none⟩ = some (.int .i64 x) ∧ w'.cell? ⟨w.heap.size, 0, none⟩ = some (.int .i64 a)) [] (by kernel_rfl) (hk1) (fun hHeld hZ => ?_)
    refine' eY 0 hHeld hZ fun hZ => ?_
    try simp only [Act.put,ZA,ZB,ZD,ZE,ZF]
    refine' eY 1 hHeld hZ fun hZ => ?_
    try simp only [Act.put,ZA,ZB,ZC,ZD,ZE,ZF]
    refine' eY 2 hHeld hZ fun hZ => ?_
    try simp only [Act.put,ZA,ZB,ZC,ZD,ZE,ZF]
    refine' eY 3 hHeld hZ fun hZ => ?_
    try simp only [Act.put,ZA,ZB,ZC,ZD,ZE,ZF]
    refine' eY 4 hHeld hZ fun hZ => ?_
    try simp only [Act.put,ZA,ZB,ZC,ZD,ZE,ZF]
    refine' eY 5 hHeld hZ fun hZ => ?_
    try simp only [Act.put,ZA,ZB,ZC,ZD,ZE,ZF]
    refine' eY 6 hHeld hZ fun hZ => ?_
    try simp only [Act.put,ZA,ZB,ZC,ZD,ZE,ZF]
    refine' eY 7 hHeld hZ fun hZ => ?_
    try simp only [Act.put,ZA,ZB,ZC,ZD,ZE,ZF]
    refine' eY 8 hHeld hZ fun hZ => ?_
    try simp only [Act.put,ZA,ZB,ZC,ZD,ZE,ZF]
    refine' eY 9 hHeld hZ fun hZ => ?_
    try simp only [Act.put,ZA,ZB,ZC,ZD,ZE,ZF]
    refine' eY 10 hHeld hZ fun hZ => ?_
    try simp only [Act.put,ZA,ZB,ZC,ZD,ZE,ZF]
    refine' eY 11 hHeld hZ fun hZ => ?_
    try simp only [Act.put,ZA,ZB,ZC,ZD,ZE,ZF]
    refine' eY 12 hHeld hZ fun hZ => ?_
    try simp only [Act.put,ZA,ZB,ZC,ZD,ZE,ZF]
    refine' eY 13 hHeld hZ fun hZ => ?_
    try simp only [Act.put,ZA,ZB,ZC,ZD,ZE,ZF]
    refine wpAnyE_done (by kernel_rfl) ?_ _
    clear hZ
    go_wp2_with fail
    obtain ⟨wy, hwy⟩ : ∃ u, wr.drew = u := ⟨_, rfl⟩
    have BY : Hid (Below w0.heap.size w0 wy) := Lib.hid (by rw [← hwy]; exact below_same HB.out rfl rfl rfl rfl)
    have BYw : Hid (Below w.heap.size w wy) := Lib.hid (B0.out.trans (BY.out.mono B0.out.size))
    rw [hwy]
    have SBX := SB.out wy.drew (by exact below_same BY.out rfl rfl rfl rfl)
    have HLy := Lib.hid (Lies.up H0.out BY.out)
    have T0 : Hid (Lies wy wy.heap.size _ (prC (L.take k))) := Lib.hid (by rw [prC_take]; exact lies_takeN HLy.out _)
    have D0 : Hid (Lies wy wy.heap.size (some ⟨g, off + k * 2, none⟩) (prC (L.drop k))) := Lib.hid (by have := lies_dropN HLy.out k c hc; rwa [if_neg hck] at this)
    clear hwy
    refine wp_region_E (S := fun w' => w'.cell? ⟨w.heap.size, 0, none⟩ = some (.int .i64 a) ∧ w'.cell? ⟨w.heap.size, 1, none⟩ = some (.int .i64 b)) [6, 7, 11, 12] (by kernel_rfl) (SBX) (fun hHeld hZ => ?_)
    refine' eX 1 hZ fun hZ => ?_
    try simp only [Act.put,ZA,ZB,ZC,ZD,ZE,ZF]
    refine' eX 2 hZ fun hZ => ?_
    try simp only [Act.put,ZA,ZB,ZC,ZD,ZE,ZF]
    refine' eX 3 hZ fun hZ => ?_
    try simp only [Act.put,ZA,ZB,ZC,ZD,ZE,ZF]
    refine' eX 8 hZ fun hZ => ?_
    try simp only [Act.put,ZA,ZB,ZC,ZD,ZE,ZF]
    refine' eX 9 hZ fun hZ => ?_
    try simp only [Act.put,ZA,ZB,ZC,ZD,ZE,ZF]
    refine' eX 10 hZ fun hZ => ?_
    try simp only [Act.put,ZA,ZB,ZC,ZD,ZE,ZF]
    refine' eY 5 hHeld hZ fun hZ => ?_
    try simp only [Act.put,ZA,ZB,ZC,ZD,ZE,ZF]
    refine wpAnyE_ready (rs := [0, 6]) (by kernel_rfl) (by simp) ?_
    refine AllReadyE.cons rfl (fun K hK => ?_) (AllReadyE.cons rfl (fun K hK => ?_) AllReadyE.nil)
    all_goals simp only [List.getElem_toArray, List.getElem_cons_zero, List.getElem_cons_succ]
    all_goals go_simp
    ·have TT := trivial
     refine eB hK hZ (SB.out _ (BY.out.trans ((by exact below_same (below_alloc wy (.cells #[] 79)) rfl rfl rfl rfl : Below wy.heap.size wy (wy.drew.alloc (.cells #[] 79))).mono BY.out.size))) fun hHeld hZ => ?_
     clear hK K
     try simp only [Act.put,ZA,ZB,ZC,ZD,ZE,ZF]
     have ON := Lib.hid (OwnN.ofLit (w := wy.drew) (B := wy.heap.size) (e := 79) (size := 2) (n := 0) #[] (Nat.le_refl _) (by decide) rfl)
     have BN : Hid (Below wy.heap.size wy (wy.drew.alloc (.cells #[] 79))) := Lib.hid (by exact below_same (below_alloc wy (.cells #[] 79)) rfl rfl rfl rfl)
     refine wpAnyE_ready (rs := [4, 6]) (by kernel_rfl) (by simp) ?_
     refine AllReadyE.cons rfl (fun K hK => ?_) (AllReadyE.cons rfl (fun K hK => ?_) AllReadyE.nil)
     ·have TT := trivial
      refine step_appN prT wy _ wy.heap.size _ (.tmp 22) (.tmp 25) (.slice (some ⟨wy.heap.size, 0, none⟩) 0 0) 0 k [] (prC (L.take k)) _ _ rfl rfl rfl rfl ON.out (T0.out.below BN.out) (by simp [prC_length]; try omega) (by first | exact prC_one _ | simp [Value.oneCell']) BN.out BN.out.size (by unfold maxLen; omega) (by omega) ?_
      intro v1 w1 o_ b_ g_ e_
      have O1 := Lib.hid o_
      have B1 := Lib.hid b_
      have G1 := Lib.hid g_
      clear o_ b_ g_ e_
      refine eB hK hZ (SB.out _ (BY.out.trans (B1.out.mono BY.out.size))) fun hHeld hZ => ?_
      clear hK K
      try simp only [Act.put,ZA,ZB,ZC,ZD,ZE,ZF]
      refine eA 6 fun K hK => ?_
      go_simp
      refine eE hK hZ fun hZ => ?_
      clear hK K
      try simp only [Act.put,ZA,ZB,ZC,ZD,ZE,ZF]
      refine eA 7 fun K hK => ?_
      refine step_appN prT wy _ wy.heap.size _ (.tmp 26) (.tmp 28) _ (0 + k) 1 ([] ++ prC (L.take k)) [.int .i64 a, .int .i64 b] _ _ rfl rfl rfl rfl (O1.out.alloc _) (Lies.lit (w := w1) (e := 79) #[.int .i64 a, .int .i64 b]) rfl (by first | exact prC_one _ | simp [Value.oneCell']) (B1.out.alloc B1.out.size _) (B1.out.alloc B1.out.size _).size (by unfold maxLen; omega) (by omega) ?_
      intro v2 w2 o_ b_ g_ e_
      have O2 := Lib.hid o_
      have B2 := Lib.hid b_
      have G2 := Lib.hid g_
      clear o_ b_ g_ e_
      refine eE hK hZ fun hZ => ?_
      clear hK K
      try simp only [Act.put,ZA,ZB,ZC,ZD,ZE,ZF]
      refine eA 11 fun K hK => ?_
      refine step_appN prT wy _ wy.heap.size _ (.tmp 29) (.tmp 32) _ (0 + k + 1) (L.length - k) ([] ++ prC (L.take k) ++ [Value.int .i64 a, Value.int .i64 b]) (prC (L.drop k)) _ _ rfl rfl rfl rfl O2.out (D0.out.below B2.out) (by simp [prC_length]; try omega) (by first | exact prC_one _ | simp [Value.oneCell']) B2.out B2.out.size (by unfold maxLen; omega) (by omega) ?_
      intro v3 w3 o_ b_ g_ e_
      have O3 := Lib.hid o_
      have B3 := Lib.hid b_
      have G3 := Lib.hid g_
      clear o_ b_ g_ e_
      refine eE hK hZ fun hZ => ?_
      clear hK K
      try simp only [Act.put,ZA,ZB,ZC,ZD,ZE,ZF]
      refine' eX 12 hZ fun hZ => ?_
      try simp only [Act.put,ZA,ZB,ZC,ZD,ZE,ZF]
      refine wpAnyE_done (by kernel_rfl) ?_ _
      clear hZ
      go_wp2_with fail
      go_ret
      refine ⟨_, rfl, ?_, BYw.out.trans (B3.out.mono BYw.out.size)⟩
      have hp : putP L (a, b) = L.take k ++ [(a, b)] ++ L.drop k := by rw [putP, show putK L (a, b).1 = k from HK.out]
      rw [hp, prC_append, prC_append]
      have hlen : (L.take k ++ [(a, b)] ++ L.drop k).length = 0 + k + 1 + (L.length - k) := by simp <;> omega
      rw [hlen]
      exact O3.out.weaken BYw.out.size
     ·have TT := trivial
      simp only [List.getElem_toArray, List.getElem_cons_zero, List.getElem_cons_succ]
      go_simp
      refine eE hK hZ fun hZ => ?_
      clear hK K
      try simp only [Act.put,ZA,ZB,ZC,ZD,ZE,ZF]
      have BM := Lib.hid (BN.out.alloc BN.out.size (.cells #[.int .i64 a, .int .i64 b] 79))
      refine eA 4 fun K hK => ?_
      refine step_appN prT wy _ wy.heap.size _ (.tmp 22) (.tmp 25) (.slice (some ⟨wy.heap.size, 0, none⟩) 0 0) 0 k [] (prC (L.take k)) _ _ rfl rfl rfl rfl (ON.out.alloc _) (T0.out.below BM.out) (by simp [prC_length]; try omega) (by first | exact prC_one _ | simp [Value.oneCell']) BM.out BM.out.size (by unfold maxLen; omega) (by omega) ?_
      intro v1 w1 o_ b_ g_ e_
      have O1 := Lib.hid o_
      have B1 := Lib.hid b_
      have G1 := Lib.hid g_
      clear o_ b_ g_ e_
      refine eB hK hZ (SB.out _ (BY.out.trans (B1.out.mono BY.out.size))) fun hHeld hZ => ?_
      clear hK K
      try simp only [Act.put,ZA,ZB,ZC,ZD,ZE,ZF]
      refine eA 7 fun K hK => ?_
      refine step_appN prT wy _ wy.heap.size _ (.tmp 26) (.tmp 28) _ (0 + k) 1 ([] ++ prC (L.take k)) [.int .i64 a, .int .i64 b] _ _ rfl rfl rfl rfl O1.out (lies_kept2 (g := wy.heap.size + 1) G1.out (by have h_ := Lies.lit (w := wy.drew.alloc (.cells #[] 79)) (e := 79) #[.int .i64 a, .int .i64 b]; rw [show (wy.drew.alloc (.cells #[] 79)).heap.size = wy.heap.size + 1 by simp] at h_; exact h_) rfl (by simp <;> omega) (by simp [Value.ownBlock])) rfl (by first | exact prC_one _ | simp [Value.oneCell']) B1.out B1.out.size (by unfold maxLen; omega) (by omega) ?_
      intro v2 w2 o_ b_ g_ e_
      have O2 := Lib.hid o_
      have B2 := Lib.hid b_
      have G2 := Lib.hid g_
      clear o_ b_ g_ e_
      refine eE hK hZ fun hZ => ?_
      clear hK K
      try simp only [Act.put,ZA,ZB,ZC,ZD,ZE,ZF]
      refine eA 11 fun K hK => ?_
      refine step_appN prT wy _ wy.heap.size _ (.tmp 29) (.tmp 32) _ (0 + k + 1) (L.length - k) ([] ++ prC (L.take k) ++ [Value.int .i64 a, Value.int .i64 b]) (prC (L.drop k)) _ _ rfl rfl rfl rfl O2.out (D0.out.below B2.out) (by simp [prC_length]; try omega) (by first | exact prC_one _ | simp [Value.oneCell']) B2.out B2.out.size (by unfold maxLen; omega) (by omega) ?_
      intro v3 w3 o_ b_ g_ e_
      have O3 := Lib.hid o_
      have B3 := Lib.hid b_
      have G3 := Lib.hid g_
      clear o_ b_ g_ e_
      refine eE hK hZ fun hZ => ?_
      clear hK K
      try simp only [Act.put,ZA,ZB,ZC,ZD,ZE,ZF]
      refine' eX 12 hZ fun hZ => ?_
      try simp only [Act.put,ZA,ZB,ZC,ZD,ZE,ZF]
      refine wpAnyE_done (by kernel_rfl) ?_ _
      clear hZ
      go_wp2_with fail
      go_ret
      refine ⟨_, rfl, ?_, BYw.out.trans (B3.out.mono BYw.out.size)⟩
      have hp : putP L (a, b) = L.take k ++ [(a, b)] ++ L.drop k := by rw [putP, show putK L (a, b).1 = k from HK.out]
      rw [hp, prC_append, prC_append]
      have hlen : (L.take k ++ [(a, b)] ++ L.drop k).length = 0 + k + 1 + (L.length - k) := by simp <;> omega
      rw [hlen]
      exact O3.out.weaken BYw.out.size
    ·have TT := trivial
     refine eE hK hZ fun hZ => ?_
     clear hK K
     try simp only [Act.put,ZA,ZB,ZC,ZD,ZE,ZF]
     have BN : Hid (Below wy.heap.size wy (wy.drew.alloc (.cells #[.int .i64 a, .int .i64 b] 79))) := Lib.hid (by exact below_same (below_alloc wy (.cells #[.int .i64 a, .int .i64 b] 79)) rfl rfl rfl rfl)
     have BM := Lib.hid (BN.out.alloc BN.out.size (.cells #[] 79))
     have ON : Hid (OwnN ((wy.drew.alloc (.cells #[.int .i64 a, .int .i64 b] 79)).alloc (.cells #[] 79)) wy.heap.size 79 2 (.slice (some ⟨wy.heap.size + 1, 0, none⟩) 0 0) 0 []) := Lib.hid (by
      have h_ := OwnN.ofLit (w := wy.drew.alloc (.cells #[.int .i64 a, .int .i64 b] 79)) (B := wy.heap.size) (e := 79) (size := 2) (n := 0) #[] (by simp) (by decide) rfl
      simpa using h_)
     refine eA 0 fun K hK => ?_
     go_simp
     refine eB hK hZ (SB.out _ (BY.out.trans (BM.out.mono BY.out.size))) fun hHeld hZ => ?_
     clear hK K
     try simp only [Act.put,ZA,ZB,ZC,ZD,ZE,ZF]
     refine eA 4 fun K hK => ?_
     refine step_appN prT wy _ wy.heap.size _ (.tmp 22) (.tmp 25) (.slice (some ⟨wy.heap.size + 1, 0, none⟩) 0 0) 0 k [] (prC (L.take k)) _ _ rfl rfl rfl rfl ON.out (T0.out.below BM.out) (by simp [prC_length]; try omega) (by first | exact prC_one _ | simp [Value.oneCell']) BM.out BM.out.size (by unfold maxLen; omega) (by omega) ?_
     intro v1 w1 o_ b_ g_ e_
     have O1 := Lib.hid o_
     have B1 := Lib.hid b_
     have G1 := Lib.hid g_
     clear o_ b_ g_ e_
     refine eB hK hZ (SB.out _ (BY.out.trans (B1.out.mono BY.out.size))) fun hHeld hZ => ?_
     clear hK K
     try simp only [Act.put,ZA,ZB,ZC,ZD,ZE,ZF]
     refine eA 7 fun K hK => ?_
     refine step_appN prT wy _ wy.heap.size _ (.tmp 26) (.tmp 28) _ (0 + k) 1 ([] ++ prC (L.take k)) [.int .i64 a, .int .i64 b] _ _ rfl rfl rfl rfl O1.out (lies_kept2 (g := wy.heap.size) G1.out ((Lies.lit (w := wy.drew) (e := 79) #[.int .i64 a, .int .i64 b]).alloc (by simp) (.cells #[] 79)) rfl (by simp <;> omega) (by simp [Value.ownBlock])) rfl (by first | exact prC_one _ | simp [Value.oneCell']) B1.out B1.out.size (by unfold maxLen; omega) (by omega) ?_
     intro v2 w2 o_ b_ g_ e_
     have O2 := Lib.hid o_
     have B2 := Lib.hid b_
     have G2 := Lib.hid g_
     clear o_ b_ g_ e_
     refine eE hK hZ fun hZ => ?_
     clear hK K
     try simp only [Act.put,ZA,ZB,ZC,ZD,ZE,ZF]
     refine eA 11 fun K hK => ?_
     refine step_appN prT wy _ wy.heap.size _ (.tmp 29) (.tmp 32) _ (0 + k + 1) (L.length - k) ([] ++ prC (L.take k) ++ [Value.int .i64 a, Value.int .i64 b]) (prC (L.drop k)) _ _ rfl rfl rfl rfl O2.out (D0.out.below B2.out) (by simp [prC_length]; try omega) (by first | exact prC_one _ | simp [Value.oneCell']) B2.out B2.out.size (by unfold maxLen; omega) (by omega) ?_
     intro v3 w3 o_ b_ g_ e_
     have O3 := Lib.hid o_
     have B3 := Lib.hid b_
     have G3 := Lib.hid g_
     clear o_ b_ g_ e_
     refine eE hK hZ fun hZ => ?_
     clear hK K
     try simp only [Act.put,ZA,ZB,ZC,ZD,ZE,ZF]
     refine' eX 12 hZ fun hZ => ?_
     try simp only [Act.put,ZA,ZB,ZC,ZD,ZE,ZF]
     refine wpAnyE_done (by kernel_rfl) ?_ _
     clear hZ
     go_wp2_with fail
     go_ret
     refine ⟨_, rfl, ?_, BYw.out.trans (B3.out.mono BYw.out.size)⟩
     have hp : putP L (a, b) = L.take k ++ [(a, b)] ++ L.drop k := by rw [putP, show putK L (a, b).1 = k from HK.out]
     rw [hp, prC_append, prC_append]
     have hlen : (L.take k ++ [(a, b)] ++ L.drop k).length = 0 + k + 1 + (L.length - k) := by simp <;> omega
     rw [hlen]
     exact O3.out.weaken BYw.out.size
   ·clear s0 s1 p0
    go_wp2_with fail
    refine wp_region_E (S := fun w' => w'.cell? ⟨g, off + k * 2, none⟩ = some (.int .i64 x) ∧ w'.cell? ⟨w.heap.size, 0, none⟩ = some (.int .i64 a)) [] (by kernel_rfl) (hk1) (fun hHeld hZ => ?_)
    refine' eY 0 hHeld hZ fun hZ => ?_
    try simp only [Act.put,ZA,ZB,ZD,ZE,ZF]
    refine' eY 1 hHeld hZ fun hZ => ?_
    try simp only [Act.put,ZA,ZB,ZC,ZD,ZE,ZF]
    refine' eY 2 hHeld hZ fun hZ => ?_
    try simp only [Act.put,ZA,ZB,ZC,ZD,ZE,ZF]
    refine' eY 3 hHeld hZ fun hZ => ?_
    try simp only [Act.put,ZA,ZB,ZC,ZD,ZE,ZF]
    refine' eY 4 hHeld hZ fun hZ => ?_
    try simp only [Act.put,ZA,ZB,ZC,ZD,ZE,ZF]
    refine' eY 5 hHeld hZ fun hZ => ?_
    try simp only [Act.put,ZA,ZB,ZC,ZD,ZE,ZF]
    refine' eY 6 hHeld hZ fun hZ => ?_
    try simp only [Act.put,ZA,ZB,ZC,ZD,ZE,ZF]
    refine' eY 7 hHeld hZ fun hZ => ?_
    try simp only [Act.put,ZA,ZB,ZC,ZD,ZE,ZF]
    refine' eY 8 hHeld hZ fun hZ => ?_
    try simp only [Act.put,ZA,ZB,ZC,ZD,ZE,ZF]
    refine' eY 9 hHeld hZ fun hZ => ?_
    try simp only [Act.put,ZA,ZB,ZC,ZD,ZE,ZF]
    refine' eY 10 hHeld hZ fun hZ => ?_
    try simp only [Act.put,ZA,ZB,ZC,ZD,ZE,ZF]
    refine' eY 11 hHeld hZ fun hZ => ?_
    try simp only [Act.put,ZA,ZB,ZC,ZD,ZE,ZF]
    refine' eY 12 hHeld hZ fun hZ => ?_
    try simp only [Act.put,ZA,ZB,ZC,ZD,ZE,ZF]
    refine' eY 13 hHeld hZ fun hZ => ?_
    try simp only [Act.put,ZA,ZB,ZC,ZD,ZE,ZF]
    refine wpAnyE_done (by kernel_rfl) ?_ _
    clear hZ
    go_wp2_with fail
    go_roundw
    case rel =>
     refine ⟨k + 1, by omega, by go_num, Lib.hid (fun j hj hl => ?_), by exact below_same HB.out rfl rfl rfl rfl⟩
     by_cases hjk : j = k
     ·subst hjk; rw [HX.out]; simpa using hxa
     ·exact HJ.out j (by omega) hl
    case measure => simp [intOf]; omega
  ·have k2 : decide (k < L.length) = false := by simp <;> omega
   obtain rfl : k = L.length := by omega
   have HK : Hid (putK L a = L.length) := Lib.hid (putK_is a L L.length hk (fun j hj => HJ.out j hj hj) (.inl rfl))
   have SBX0 := And.intro s0 s1
   have hkc : L.length ≤ c := by omega
   clear s0 s1
   go_wp2_with fail
   refine wp_region_E (S := fun _ => True) [] (by kernel_rfl) (trivial) (fun hHeld hZ => ?_)
   refine' eY 0 hHeld hZ fun hZ => ?_
   try simp only [Act.put,ZA,ZB,ZD,ZE,ZF]
   refine' eY 1 hHeld hZ fun hZ => ?_
   try simp only [Act.put,ZA,ZB,ZC,ZD,ZE,ZF]
   refine' eY 2 hHeld hZ fun hZ => ?_
   try simp only [Act.put,ZA,ZB,ZC,ZD,ZE,ZF]
   refine' eY 3 hHeld hZ fun hZ => ?_
   try simp only [Act.put,ZA,ZB,ZC,ZD,ZE,ZF]
   refine' eY 4 hHeld hZ fun hZ => ?_
   try simp only [Act.put,ZA,ZB,ZC,ZD,ZE,ZF]
   refine' eN 5 hZ fun hZ => ?_
   try simp only [Act.put,ZA,ZB,ZC,ZD,ZE,ZF]
   refine' eN 6 hZ fun hZ => ?_
   try simp only [Act.put,ZA,ZB,ZC,ZD,ZE,ZF]
   refine' eN 7 hZ fun hZ => ?_
   try simp only [Act.put,ZA,ZB,ZC,ZD,ZE,ZF]
   refine' eN 8 hZ fun hZ => ?_
   try simp only [Act.put,ZA,ZB,ZC,ZD,ZE,ZF]
   refine' eN 9 hZ fun hZ => ?_
   try simp only [Act.put,ZA,ZB,ZC,ZD,ZE,ZF]
   refine' eN 10 hZ fun hZ => ?_
   try simp only [Act.put,ZA,ZB,ZC,ZD,ZE,ZF]
   refine' eN 11 hZ fun hZ => ?_
   try simp only [Act.put,ZA,ZB,ZC,ZD,ZE,ZF]
   refine' eN 12 hZ fun hZ => ?_
   try simp only [Act.put,ZA,ZB,ZC,ZD,ZE,ZF]
   refine' eY 13 hHeld hZ fun hZ => ?_
   try simp only [Act.put,ZA,ZB,ZC,ZD,ZE,ZF]
   refine wpAnyE_done (by kernel_rfl) ?_ _
   clear hZ
   go_wp2_with fail
   obtain ⟨wy, hwy⟩ : ∃ u, wr.drew = u := ⟨_, rfl⟩
   have BY : Hid (Below w0.heap.size w0 wy) := Lib.hid (by rw [← hwy]; exact below_same HB.out rfl rfl rfl rfl)
   have BYw : Hid (Below w.heap.size w wy) := Lib.hid (B0.out.trans (BY.out.mono B0.out.size))
   rw [hwy]
   have SBX := SB.out wy.drew (by exact below_same BY.out rfl rfl rfl rfl)
   have HLy := Lib.hid (Lies.up H0.out BY.out)
   have T0 : Hid (Lies wy wy.heap.size _ (prC (L.take L.length))) := Lib.hid (by rw [prC_take]; exact lies_takeN HLy.out _)
   have D0 : Hid (Lies wy wy.heap.size (if c = L.length then A else Option.map (fun x => x.add (L.length * 2)) A) (prC (L.drop L.length))) := Lib.hid (by rw [List.drop_length]; exact Lies.empty)
   clear hwy
   refine wp_region_E (S := fun w' => w'.cell? ⟨w.heap.size, 0, none⟩ = some (.int .i64 a) ∧ w'.cell? ⟨w.heap.size, 1, none⟩ = some (.int .i64 b)) [6, 7, 11, 12] (by kernel_rfl) (SBX) (fun hHeld hZ => ?_)
   refine' eX 1 hZ fun hZ => ?_
   try simp only [Act.put,ZA,ZB,ZC,ZD,ZE,ZF]
   refine' eX 2 hZ fun hZ => ?_
   try simp only [Act.put,ZA,ZB,ZC,ZD,ZE,ZF]
   refine' eX 3 hZ fun hZ => ?_
   try simp only [Act.put,ZA,ZB,ZC,ZD,ZE,ZF]
   refine' eX 8 hZ fun hZ => ?_
   try simp only [Act.put,ZA,ZB,ZC,ZD,ZE,ZF]
   refine' eX 9 hZ fun hZ => ?_
   try simp only [Act.put,ZA,ZB,ZC,ZD,ZE,ZF]
   refine' eX 10 hZ fun hZ => ?_
   try simp only [Act.put,ZA,ZB,ZC,ZD,ZE,ZF]
   refine' eY 5 hHeld hZ fun hZ => ?_
   try simp only [Act.put,ZA,ZB,ZC,ZD,ZE,ZF]
   obtain ⟨AD, hAD⟩ : ∃ x, (if c = L.length then A else Option.map (fun x => x.add (L.length * 2)) A) = x := ⟨_, rfl⟩
   rw [hAD] at D0 ⊢
   clear hAD
   refine wpAnyE_ready (rs := [0, 6]) (by kernel_rfl) (by simp) ?_
   refine AllReadyE.cons rfl (fun K hK => ?_) (AllReadyE.cons rfl (fun K hK => ?_) AllReadyE.nil)
   all_goals simp only [List.getElem_toArray, List.getElem_cons_zero, List.getElem_cons_succ]
   all_goals go_simp
   ·have TT := trivial
    refine eB hK hZ (SB.out _ (BY.out.trans ((by exact below_same (below_alloc wy (.cells #[] 79)) rfl rfl rfl rfl : Below wy.heap.size wy (wy.drew.alloc (.cells #[] 79))).mono BY.out.size))) fun hHeld hZ => ?_
    clear hK K
    try simp only [Act.put,ZA,ZB,ZC,ZD,ZE,ZF]
    have ON := Lib.hid (OwnN.ofLit (w := wy.drew) (B := wy.heap.size) (e := 79) (size := 2) (n := 0) #[] (Nat.le_refl _) (by decide) rfl)
    have BN : Hid (Below wy.heap.size wy (wy.drew.alloc (.cells #[] 79))) := Lib.hid (by exact below_same (below_alloc wy (.cells #[] 79)) rfl rfl rfl rfl)
    refine wpAnyE_ready (rs := [4, 6]) (by kernel_rfl) (by simp) ?_
    refine AllReadyE.cons rfl (fun K hK => ?_) (AllReadyE.cons rfl (fun K hK => ?_) AllReadyE.nil)
    ·have TT := trivial
     refine step_appN prT wy _ wy.heap.size _ (.tmp 22) (.tmp 25) (.slice (some ⟨wy.heap.size, 0, none⟩) 0 0) 0 L.length [] (prC (L.take L.length)) _ _ rfl rfl rfl rfl ON.out (T0.out.below BN.out) (by simp [prC_length]; try omega) (by first | exact prC_one _ | simp [Value.oneCell']) BN.out BN.out.size (by unfold maxLen; omega) (by omega) ?_
     intro v1 w1 o_ b_ g_ e_
     have O1 := Lib.hid o_
     have B1 := Lib.hid b_
     have G1 := Lib.hid g_
     clear o_ b_ g_ e_
     refine eB hK hZ (SB.out _ (BY.out.trans (B1.out.mono BY.out.size))) fun hHeld hZ => ?_
     clear hK K
     try simp only [Act.put,ZA,ZB,ZC,ZD,ZE,ZF]
     refine eA 6 fun K hK => ?_
     go_simp
     refine eE hK hZ fun hZ => ?_
     clear hK K
     try simp only [Act.put,ZA,ZB,ZC,ZD,ZE,ZF]
     refine eA 7 fun K hK => ?_
     refine step_appN prT wy _ wy.heap.size _ (.tmp 26) (.tmp 28) _ (0 + L.length) 1 ([] ++ prC (L.take L.length)) [.int .i64 a, .int .i64 b] _ _ rfl rfl rfl rfl (O1.out.alloc _) (Lies.lit (w := w1) (e := 79) #[.int .i64 a, .int .i64 b]) rfl (by first | exact prC_one _ | simp [Value.oneCell']) (B1.out.alloc B1.out.size _) (B1.out.alloc B1.out.size _).size (by unfold maxLen; omega) (by omega) ?_
     intro v2 w2 o_ b_ g_ e_
     have O2 := Lib.hid o_
     have B2 := Lib.hid b_
     have G2 := Lib.hid g_
     clear o_ b_ g_ e_
     refine eE hK hZ fun hZ => ?_
     clear hK K
     try simp only [Act.put,ZA,ZB,ZC,ZD,ZE,ZF]
     refine eA 11 fun K hK => ?_
     refine step_appN prT wy _ wy.heap.size _ (.tmp 29) (.tmp 32) _ (0 + L.length + 1) 0 ([] ++ prC (L.take L.length) ++ [Value.int .i64 a, Value.int .i64 b]) (prC (L.drop L.length)) _ _ rfl rfl rfl rfl O2.out (D0.out.below B2.out) (by simp [prC_length]; try omega) (by first | exact prC_one _ | simp [Value.oneCell']) B2.out B2.out.size (by unfold maxLen; omega) (by omega) ?_
     intro v3 w3 o_ b_ g_ e_
     have O3 := Lib.hid o_
     have B3 := Lib.hid b_
     have G3 := Lib.hid g_
     clear o_ b_ g_ e_
     refine eE hK hZ fun hZ => ?_
     clear hK K
     try simp only [Act.put,ZA,ZB,ZC,ZD,ZE,ZF]
     refine' eX 12 hZ fun hZ => ?_
     try simp only [Act.put,ZA,ZB,ZC,ZD,ZE,ZF]
     refine wpAnyE_done (by kernel_rfl) ?_ _
     clear hZ
     go_wp2_with fail
     go_ret
     refine ⟨_, rfl, ?_, BYw.out.trans (B3.out.mono BYw.out.size)⟩
     have hp : putP L (a, b) = L.take L.length ++ [(a, b)] ++ L.drop L.length := by rw [putP, show putK L (a, b).1 = L.length from HK.out]
     rw [hp, prC_append, prC_append]
     have hlen : (L.take L.length ++ [(a, b)] ++ L.drop L.length).length = 0 + L.length + 1 + 0 := by simp <;> omega
     rw [hlen]
     exact O3.out.weaken BYw.out.size
    ·have TT := trivial
     simp only [List.getElem_toArray, List.getElem_cons_zero, List.getElem_cons_succ]
     go_simp
     refine eE hK hZ fun hZ => ?_
     clear hK K
     try simp only [Act.put,ZA,ZB,ZC,ZD,ZE,ZF]
     have BM := Lib.hid (BN.out.alloc BN.out.size (.cells #[.int .i64 a, .int .i64 b] 79))
     refine eA 4 fun K hK => ?_
     refine step_appN prT wy _ wy.heap.size _ (.tmp 22) (.tmp 25) (.slice (some ⟨wy.heap.size, 0, none⟩) 0 0) 0 L.length [] (prC (L.take L.length)) _ _ rfl rfl rfl rfl (ON.out.alloc _) (T0.out.below BM.out) (by simp [prC_length]; try omega) (by first | exact prC_one _ | simp [Value.oneCell']) BM.out BM.out.size (by unfold maxLen; omega) (by omega) ?_
     intro v1 w1 o_ b_ g_ e_
     have O1 := Lib.hid o_
     have B1 := Lib.hid b_
     have G1 := Lib.hid g_
     clear o_ b_ g_ e_
     refine eB hK hZ (SB.out _ (BY.out.trans (B1.out.mono BY.out.size))) fun hHeld hZ => ?_
     clear hK K
     try simp only [Act.put,ZA,ZB,ZC,ZD,ZE,ZF]
     refine eA 7 fun K hK => ?_
     refine step_appN prT wy _ wy.heap.size _ (.tmp 26) (.tmp 28) _ (0 + L.length) 1 ([] ++ prC (L.take L.length)) [.int .i64 a, .int .i64 b] _ _ rfl rfl rfl rfl O1.out (lies_kept2 (g := wy.heap.size + 1) G1.out (by have h_ := Lies.lit (w := wy.drew.alloc (.cells #[] 79)) (e := 79) #[.int .i64 a, .int .i64 b]; rw [show (wy.drew.alloc (.cells #[] 79)).heap.size = wy.heap.size + 1 by simp] at h_; exact h_) rfl (by simp <;> omega) (by simp [Value.ownBlock])) rfl (by first | exact prC_one _ | simp [Value.oneCell']) B1.out B1.out.size (by unfold maxLen; omega) (by omega) ?_
     intro v2 w2 o_ b_ g_ e_
     have O2 := Lib.hid o_
     have B2 := Lib.hid b_
     have G2 := Lib.hid g_
     clear o_ b_ g_ e_
     refine eE hK hZ fun hZ => ?_
     clear hK K
     try simp only [Act.put,ZA,ZB,ZC,ZD,ZE,ZF]
     refine eA 11 fun K hK => ?_
     refine step_appN prT wy _ wy.heap.size _ (.tmp 29) (.tmp 32) _ (0 + L.length + 1) 0 ([] ++ prC (L.take L.length) ++ [Value.int .i64 a, Value.int .i64 b]) (prC (L.drop L.length)) _ _ rfl rfl rfl rfl O2.out (D0.out.below B2.out) (by simp [prC_length]; try omega) (by first | exact prC_one _ | simp [Value.oneCell']) B2.out B2.out.size (by unfold maxLen; omega) (by omega) ?_
     intro v3 w3 o_ b_ g_ e_
     have O3 := Lib.hid o_
     have B3 := Lib.hid b_
     have G3 := Lib.hid g_
     clear o_ b_ g_ e_
     refine eE hK hZ fun hZ => ?_
     clear hK K
     try simp only [Act.put,ZA,ZB,ZC,ZD,ZE,ZF]
     refine' eX 12 hZ fun hZ => ?_
     try simp only [Act.put,ZA,ZB,ZC,ZD,ZE,ZF]
     refine wpAnyE_done (by kernel_rfl) ?_ _
     clear hZ
     go_wp2_with fail
     go_ret
     refine ⟨_, rfl, ?_, BYw.out.trans (B3.out.mono BYw.out.size)⟩
     have hp : putP L (a, b) = L.take L.length ++ [(a, b)] ++ L.drop L.length := by rw [putP, show putK L (a, b).1 = L.length from HK.out]
     rw [hp, prC_append, prC_append]
     have hlen : (L.take L.length ++ [(a, b)] ++ L.drop L.length).length = 0 + L.length + 1 + 0 := by simp <;> omega
     rw [hlen]
     exact O3.out.weaken BYw.out.size
   ·have TT := trivial
    refine eE hK hZ fun hZ => ?_
    clear hK K
    try simp only [Act.put,ZA,ZB,ZC,ZD,ZE,ZF]
    have BN : Hid (Below wy.heap.size wy (wy.drew.alloc (.cells #[.int .i64 a, .int .i64 b] 79))) := Lib.hid (by exact below_same (below_alloc wy (.cells #[.int .i64 a, .int .i64 b] 79)) rfl rfl rfl rfl)
    have BM := Lib.hid (BN.out.alloc BN.out.size (.cells #[] 79))
    have ON : Hid (OwnN ((wy.drew.alloc (.cells #[.int .i64 a, .int .i64 b] 79)).alloc (.cells #[] 79)) wy.heap.size 79 2 (.slice (some ⟨wy.heap.size + 1, 0, none⟩) 0 0) 0 []) := Lib.hid (by
     have h_ := OwnN.ofLit (w := wy.drew.alloc (.cells #[.int .i64 a, .int .i64 b] 79)) (B := wy.heap.size) (e := 79) (size := 2) (n := 0) #[] (by simp) (by decide) rfl
     simpa using h_)
    refine eA 0 fun K hK => ?_
    go_simp
    refine eB hK hZ (SB.out _ (BY.out.trans (BM.out.mono BY.out.size))) fun hHeld hZ => ?_
    clear hK K
    try simp only [Act.put,ZA,ZB,ZC,ZD,ZE,ZF]
    refine eA 4 fun K hK => ?_
    refine step_appN prT wy _ wy.heap.size _ (.tmp 22) (.tmp 25) (.slice (some ⟨wy.heap.size + 1, 0, none⟩) 0 0) 0 L.length [] (prC (L.take L.length)) _ _ rfl rfl rfl rfl ON.out (T0.out.below BM.out) (by simp [prC_length]; try omega) (by first | exact prC_one _ | simp [Value.oneCell']) BM.out BM.out.size (by unfold maxLen; omega) (by omega) ?_
    intro v1 w1 o_ b_ g_ e_
    have O1 := Lib.hid o_
    have B1 := Lib.hid b_
    have G1 := Lib.hid g_
    clear o_ b_ g_ e_
    refine eB hK hZ (SB.out _ (BY.out.trans (B1.out.mono BY.out.size))) fun hHeld hZ => ?_
    clear hK K
    try simp only [Act.put,ZA,ZB,ZC,ZD,ZE,ZF]
    refine eA 7 fun K hK => ?_
    refine step_appN prT wy _ wy.heap.size _ (.tmp 26) (.tmp 28) _ (0 + L.length) 1 ([] ++ prC (L.take L.length)) [.int .i64 a, .int .i64 b] _ _ rfl rfl rfl rfl O1.out (lies_kept2 (g := wy.heap.size) G1.out ((Lies.lit (w := wy.drew) (e := 79) #[.int .i64 a, .int .i64 b]).alloc (by simp) (.cells #[] 79)) rfl (by simp <;> omega) (by simp [Value.ownBlock])) rfl (by first | exact prC_one _ | simp [Value.oneCell']) B1.out B1.out.size (by unfold maxLen; omega) (by omega) ?_
    intro v2 w2 o_ b_ g_ e_
    have O2 := Lib.hid o_
    have B2 := Lib.hid b_
    have G2 := Lib.hid g_
    clear o_ b_ g_ e_
    refine eE hK hZ fun hZ => ?_
    clear hK K
    try simp only [Act.put,ZA,ZB,ZC,ZD,ZE,ZF]
    refine eA 11 fun K hK => ?_
    refine step_appN prT wy _ wy.heap.size _ (.tmp 29) (.tmp 32) _ (0 + L.length + 1) 0 ([] ++ prC (L.take L.length) ++ [Value.int .i64 a, Value.int .i64 b]) (prC (L.drop L.length)) _ _ rfl rfl rfl rfl O2.out (D0.out.below B2.out) (by simp [prC_length]; try omega) (by first | exact prC_one _ | simp [Value.oneCell']) B2.out B2.out.size (by unfold maxLen; omega) (by omega) ?_
    intro v3 w3 o_ b_ g_ e_
    have O3 := Lib.hid o_
    have B3 := Lib.hid b_
    have G3 := Lib.hid g_
    clear o_ b_ g_ e_
    refine eE hK hZ fun hZ => ?_
    clear hK K
    try simp only [Act.put,ZA,ZB,ZC,ZD,ZE,ZF]
    refine' eX 12 hZ fun hZ => ?_
    try simp only [Act.put,ZA,ZB,ZC,ZD,ZE,ZF]
    refine wpAnyE_done (by kernel_rfl) ?_ _
    clear hZ
    go_wp2_with fail
    go_ret
    refine ⟨_, rfl, ?_, BYw.out.trans (B3.out.mono BYw.out.size)⟩
    have hp : putP L (a, b) = L.take L.length ++ [(a, b)] ++ L.drop L.length := by rw [putP, show putK L (a, b).1 = L.length from HK.out]
    rw [hp, prC_append, prC_append]
    have hlen : (L.take L.length ++ [(a, b)] ++ L.drop L.length).length = 0 + L.length + 1 + 0 := by simp <;> omega
    rw [hlen]
    exact O3.out.weaken BYw.out.size
end Go.Proofs.YtcbaahlahohfmaaGreatDoor
namespace Go.Proofs.YtcbaahlahohfmaaGreatDoor
open Go.RowKit
def cAt (l : List Int) (i : Nat) : Int := l.getD i 0
structure PS where
 out : List (Int × Int)
 waits : List Nat
 ended : Bool
def findW (chars : List Int) (o : Int) : List Nat → Option (Nat × List Nat)
 | [] => none
 | w :: ws => if sameB (cAt chars w) o then some (w, ws) else findW chars o ws
def pStep (chars classes : List Int) (st : PS) (i : Nat) : PS :=
 if st.ended then st
 else if (oth (cAt chars i)).2.2 = false ∨ cAt classes i ≠ 13 then st
 else if (oth (cAt chars i)).2.1 then (if st.waits.length = 63 then { st with ended := true } else { st with waits := i :: st.waits })
 else match findW chars (oth (cAt chars i)).1 st.waits with
  | none => st
  | some (w, ws) => { st with out := putP st.out ((w : Int), (i : Int)), waits := ws }
def pairsN (chars classes : List Int) : Nat → PS
 | 0 => ⟨[], [], false⟩
 | k + 1 => pStep chars classes (pairsN chars classes k) k
def pairsI (chars classes : List Int) : List (Int × Int) := if chars.length = classes.length then (pairsN chars classes chars.length).out else []
theorem findW_some (chars : List Int) (o : Int) : ∀ (W : List Nat) w ws, findW chars o W = some (w, ws) → sameB (cAt chars w) o = true ∧ w ∈ W ∧ (∀ x ∈ ws, x ∈ W) ∧ (W.Pairwise (· > ·) → ws.Pairwise (· > ·) ∧ ∀ x ∈ ws, x < w) := by
 intro W
 induction W with
 | nil => intro w ws h; cases h
 | cons v W ih =>
  intro w ws h
  unfold findW at h
  split at h
  ·rename_i hs
   injection h with h
   injection h with h1 h2
   subst h1 h2
   exact ⟨hs, List.mem_cons_self, fun x hx => List.mem_cons_of_mem _ hx, fun hp => ⟨(List.pairwise_cons.1 hp).2, fun x hx => (List.pairwise_cons.1 hp).1 x hx⟩⟩
  ·obtain ⟨h1, h2, h3, h4⟩ := ih w ws h
   exact ⟨h1, List.mem_cons_of_mem _ h2, fun x hx => List.mem_cons_of_mem _ (h3 x hx), fun hp => h4 (List.pairwise_cons.1 hp).2⟩
def Beside (p q : Int × Int) : Prop := p.1 < q.1 ∧ ¬ (q.1 < p.2 ∧ p.2 < q.2) ∧ p.2 ≠ q.1 ∧ p.2 ≠ q.2
structure PInv (chars classes : List Int) (k : Nat) (st : PS) : Prop where
 falls : st.waits.Pairwise (· > ·)
 wait : ∀ w ∈ st.waits, w < k ∧ cAt classes w = 13 ∧ (oth (cAt chars w)).2.1 = true ∧ (oth (cAt chars w)).2.2 = true
 each : ∀ p ∈ st.out, ∃ a b : Nat, p = ((a : Int), (b : Int)) ∧ a < b ∧ b < k ∧ cAt classes a = 13 ∧ cAt classes b = 13 ∧ (oth (cAt chars a)).2.1 = true ∧ (oth (cAt chars a)).2.2 = true ∧ sameB (oth (cAt chars a)).1 (cAt chars b) = true
 apart : ∀ p ∈ st.out, ∀ w ∈ st.waits, (w : Int) ≠ p.1 ∧ (w : Int) ≠ p.2 ∧ ¬ (p.1 < w ∧ (w : Int) < p.2)
 order : st.out.Pairwise Beside
theorem mem_putP {L : List (Int × Int)} {p q : Int × Int} : q ∈ putP L p ↔ q ∈ L ∨ q = p := by
 unfold putP
 rw [List.mem_append, List.mem_append, List.mem_singleton]
 constructor
 ·rintro ((h | h) | h)
  ·exact .inl (List.mem_of_mem_take h)
  ·exact .inr h
  ·exact .inl (List.mem_of_mem_drop h)
 ·rintro (h | h)
  ·rw [← List.take_append_drop (putK L p.1) L, List.mem_append] at h
   rcases h with h | h
   ·exact .inl (.inl h)
   ·exact .inr h
  ·exact .inl (.inr h)
theorem putK_split (x : Int) : ∀ L : List (Int × Int), L.Pairwise (fun p q => p.1 < q.1) → (∀ q ∈ L.take (putK L x), q.1 < x) ∧ ∀ q ∈ L.drop (putK L x), x ≤ q.1 := by
 intro L
 induction L with
 | nil => intro _; simp
 | cons r L ih =>
  intro h
  obtain ⟨h1, h2⟩ := List.pairwise_cons.1 h
  obtain ⟨i1, i2⟩ := ih h2
  unfold putK at *
  by_cases hr : r.1 < x
  ·rw [List.takeWhile_cons_of_pos (by simpa using hr), List.length_cons, List.take_succ_cons, List.drop_succ_cons]
   refine ⟨fun q hq => ?_, i2⟩
   rcases List.mem_cons.1 hq with rfl | hq
   ·exact hr
   ·exact i1 q hq
  ·rw [List.takeWhile_cons_of_neg (by simpa using hr)]
   refine ⟨fun q hq => by simp at hq, fun q hq => ?_⟩
   simp only [List.length_nil, List.drop_zero] at hq
   rcases List.mem_cons.1 hq with rfl | hq
   ·omega
   ·have := h1 q hq; omega
theorem order_putP {L : List (Int × Int)} {p : Int × Int} (h : L.Pairwise Beside) (h1 : ∀ q ∈ L, q.1 < p.1 → Beside q p) (h2 : ∀ q ∈ L, p.1 ≤ q.1 → Beside p q) : (putP L p).Pairwise Beside := by
 obtain ⟨s1, s2⟩ := putK_split p.1 L (h.imp fun hh => hh.1)
 have hL := h
 rw [← List.take_append_drop (putK L p.1) L, List.pairwise_append] at hL
 obtain ⟨a1, a2, a3⟩ := hL
 unfold putP
 rw [List.append_assoc, List.pairwise_append]
 refine ⟨a1, ?_, ?_⟩
 ·show ([p] ++ _).Pairwise Beside
  rw [List.singleton_append, List.pairwise_cons]
  exact ⟨fun q hq => h2 q (List.mem_of_mem_drop hq) (s2 q hq), a2⟩
 ·intro x hx y hy
  rw [List.singleton_append, List.mem_cons] at hy
  rcases hy with rfl | hy
  ·exact h1 x (List.mem_of_mem_take hx) (s1 x hx)
  ·exact a3 x hx y hy
theorem pinv (chars classes : List Int) : ∀ k, PInv chars classes k (pairsN chars classes k) := by
 intro k
 induction k with
 | zero => exact ⟨List.Pairwise.nil, fun w h => (by cases h), fun p h => (by cases h), fun p h => (by cases h), List.Pairwise.nil⟩
 | succ k ih =>
  rw [pairsN]
  obtain ⟨f1, f2, f3, f4, f5⟩ := ih
  have stay : PInv chars classes (k + 1) (pairsN chars classes k) :=
   ⟨f1, fun w hw => (by obtain ⟨h1, h2⟩ := f2 w hw; exact ⟨by omega, h2⟩), fun p hp => (by obtain ⟨a, b, e, h1, h2, h3⟩ := f3 p hp; exact ⟨a, b, e, h1, by omega, h3⟩), f4, f5⟩
  generalize pairsN chars classes k = st at *
  unfold pStep
  split
  ·exact stay
  ·split
   ·exact stay
   ·rename_i hE hN
    have hok : (oth (cAt chars k)).2.2 = true := by
     cases hh : (oth (cAt chars k)).2.2 with
     | true => rfl
     | false => exact absurd (.inl hh) hN
    have h13 : cAt classes k = 13 := Classical.byContradiction fun hh => hN (.inr hh)
    split
    ·rename_i hop
     split
     ·exact ⟨stay.falls, stay.wait, stay.each, stay.apart, stay.order⟩
     ·refine ⟨List.pairwise_cons.2 ⟨fun w hw => (f2 w hw).1, f1⟩, fun w hw => ?_, stay.each, fun p hp w hw => ?_, f5⟩
      ·rcases List.mem_cons.1 hw with rfl | hw
       ·exact ⟨by omega, h13, hop, hok⟩
       ·exact stay.wait w hw
      ·rcases List.mem_cons.1 hw with rfl | hw
       ·obtain ⟨a, b, rfl, h1, h2, _⟩ := f3 p hp
        simp only; omega
       ·exact f4 p hp w hw
    ·rename_i hop
     split
     ·exact stay
     ·rename_i w ws hf
      obtain ⟨g1, g2, g3, g4⟩ := findW_some chars _ _ w ws hf
      obtain ⟨g5, g6⟩ := g4 f1
      obtain ⟨w1, w2, w3, w4⟩ := f2 w g2
      have hsame : sameB (oth (cAt chars w)).1 (cAt chars k) = true := by
       have hb := oth_facts (cAt chars k) hok
       have := (same_others g1).2
       rwa [hb.2.1] at this
      refine ⟨g5, fun x hx => stay.wait x (g3 x hx), fun p hp => ?_, fun p hp x hx => ?_, ?_⟩
      ·rcases mem_putP.1 hp with hp | rfl
       ·exact stay.each p hp
       ·exact ⟨w, k, rfl, w1, by omega, w2, h13, w3, w4, hsame⟩
      ·rcases mem_putP.1 hp with hp | rfl
       ·exact f4 p hp x (g3 x hx)
       ·have := g6 x hx
        simp only; omega
      ·refine order_putP f5 (fun q hq hlt => ?_) (fun q hq hle => ?_)
       ·obtain ⟨a, b, rfl, h1, h2, _⟩ := f3 q hq
        obtain ⟨c1, c2, c3⟩ := f4 _ hq w g2
        unfold Beside
        simp only at hlt c1 c2 c3 ⊢
        omega
       ·obtain ⟨a, b, rfl, h1, h2, _⟩ := f3 q hq
        obtain ⟨c1, c2, c3⟩ := f4 _ hq w g2
        unfold Beside
        simp only at hle c1 c2 c3 ⊢
        omega
end Go.Proofs.YtcbaahlahohfmaaGreatDoor
