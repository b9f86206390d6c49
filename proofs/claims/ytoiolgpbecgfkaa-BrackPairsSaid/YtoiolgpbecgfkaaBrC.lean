/- Layer 10: the document's put: a pair among others, by their first places. -/
import Derived.Test.YtoiolgpbecgfkaaBrB
import Derived.Test.YtoiolgpbecgfkaaPC
import Derived.Test.YtoiolgpbecgfkaaWide
namespace Go.Proofs.Ytoiolgpbecgfkaa
open Go.RowKit

/-- how many begin ahead of a place -/
def putK (L : List (Int × Int)) (x : Int) : Nat := (L.takeWhile fun p => decide (p.1 < x)).length
def putP (L : List (Int × Int)) (p : Int × Int) : List (Int × Int) := L.take (putK L p.1) ++ [p] ++ L.drop (putK L p.1)
theorem putK_le (L : List (Int × Int)) (x : Int) : putK L x ≤ L.length := (List.takeWhile_prefix _).length_le
theorem putK_is (x : Int) : ∀ (L : List (Int × Int)) (k : Nat) (hk : k ≤ L.length), (∀ j (hj : j < k), (L[j]'(by omega)).1 < x) → (k = L.length ∨ ∃ h : k < L.length, ¬ L[k].1 < x) → putK L x = k := by
  intro L
  induction L with
  | nil => intro k hk _ _; simp at hk; subst hk; rfl
  | cons r L ih =>
    intro k hk h1 h2
    cases k with
    | zero =>
      rcases h2 with h2 | ⟨_, h2⟩
      · simp at h2
      · unfold putK; simp at h2; simp [h2]
    | succ k =>
      have h0 := h1 0 (by omega)
      simp at h0
      unfold putK
      rw [List.takeWhile_cons_of_pos (by simpa using h0), List.length_cons]
      congr 1
      refine ih k (by simpa using hk) (fun j hj => by simpa using h1 (j + 1) (by omega)) ?_
      rcases h2 with h2 | ⟨h3, h2⟩
      · exact .inl (by simpa using h2)
      · exact .inr ⟨by simpa using h3, by simpa using h2⟩

set_option maxRecDepth 20000 in
set_option maxHeartbeats 8000000 in
theorem rput_any (A : Option Addr) (L : List (Int × Int)) (c : Nat) (a b : Int) (w : World) (h : Lies w w.heap.size A (prC L)) (hc : L.length ≤ c) (hl : L.length ≤ 1000000) :
    Calls Try.prog 26 #[.slice A L.length c, .agg #[.int .i64 a, .int .i64 b]] w
      fun ed w' => ∃ v, ed = .returned v ∧ OwnN w' w.heap.size 37 2 v (putP L (a, b)).length (prC (putP L (a, b))) ∧ Below w.heap.size w w' := by
  have H := Lib.hid h
  obtain ⟨w0, hw0⟩ : ∃ u, w.alloc (.cells #[.int .i64 a, .int .i64 b] 37) = u := ⟨_, rfl⟩
  have B0 : Hid (Below w.heap.size w w0) := Lib.hid (hw0 ▸ below_alloc w _)
  have SB : Hid (∀ w', Below w0.heap.size w0 w' → w'.cell? ⟨w.heap.size, 0, none⟩ = some (.int .i64 a) ∧ w'.cell? ⟨w.heap.size, 1, none⟩ = some (.int .i64 b)) := Lib.hid fun w' hb => ⟨boxed (hw0 ▸ hb) rfl, boxed (hw0 ▸ hb) rfl⟩
  have HW := Lib.hid hw0
  have H0 := Lib.hid (h.up B0.out)
  clear h hw0
  go_enter Try.func26, Try.ntmps26
  go_wp2_with fail
  rw [HW.out]
  go_loopw [5] (fun kv wr => ∃ k : Nat, k ≤ L.length ∧ kv = .int .i64 k ∧ Hid (∀ j (_ : j < k) (hl : j < L.length), L[j].1 < a) ∧ Below w0.heap.size w0 wr) (fun kv _ => L.length - (intOf kv).toNat)
  case atStart => exact ⟨0, by omega, rfl, Lib.hid (fun j h => absurd h (by omega)), Below.refl _ _⟩
  case round =>
    obtain ⟨k, hk, rfl, HJ, hb⟩ := hrel
    have HB := Lib.hid hb
    clear hb
    have k0 : (0 : Int) ≤ (k : Int) := by omega
    obtain ⟨s0, s1⟩ := SB.out wr HB.out
    by_cases hlt : k < L.length
    · have k1 : (k : Int) < (L.length : Int) := by omega
      have k2 : decide (k < L.length) = true := by simpa using hlt
      obtain ⟨g, off, hA, hg, p0, _⟩ := prC_at (Lies.up H0.out HB.out) hlt
      subst hA
      obtain ⟨x, hx⟩ : ∃ x, L[k].1 = x := ⟨_, rfl⟩
      rw [hx] at p0
      have HX := Lib.hid hx
      clear hx
      have hk1 : wr.drew.cell? ⟨g, off + k * 2, none⟩ = some (.int .i64 x) ∧ wr.drew.cell? ⟨w.heap.size, 0, none⟩ = some (.int .i64 a) := ⟨p0, s0⟩
      rcases hxa : decide (x < a) with _ | _
      · have HK : Hid (putK L a = k) := Lib.hid (putK_is a L k hk (fun j hj => HJ.out j hj (by omega)) (.inr ⟨hlt, by rw [HX.out]; simpa using hxa⟩))
        have SBX0 := And.intro s0 s1
        have hkc : k ≤ c := by omega
        have hkl : k ≤ L.length := by omega
        have hck : ¬ c = k := by omega
        clear s0 s1 p0
        go_wp2_with fail
        refine wp_region_E (S := fun w' => w'.cell? ⟨g, off + k * 2, none⟩ = some (.int .i64 x) ∧ w'.cell? ⟨w.heap.size, 0, none⟩ = some (.int .i64 a)) [] (by kernel_rfl) (hk1) (fun hHeld hClosed => ?_)
        refine' wpAnyE_take (i := 0) (v := _) rfl (by kernel_rfl) (by kernel_rfl) (by kernel_rfl) (by kernel_rfl) (fun _ _ _ h => h) (Or.inl ⟨by rfl, fun u hu => ?_⟩) hHeld hClosed (fun hNext => ?_)
        rotate_left
        · (try dsimp only at hu)
          go_simp
          try with_reducible rfl
        clear hClosed
        have hClosed := hNext
        clear hNext
        try simp only [Act.put, List.getElem_toArray, List.getElem_cons_zero, List.setIfInBounds_toArray, List.set_cons_zero, List.set_cons_succ]
        refine' wpAnyE_take (i := 1) (v := _) rfl (by kernel_rfl) (by kernel_rfl) (by kernel_rfl) (by kernel_rfl) (fun _ _ _ h => h) (Or.inl ⟨by rfl, fun u hu => ?_⟩) hHeld hClosed (fun hNext => ?_)
        rotate_left
        · (try dsimp only at hu)
          go_simp
          try with_reducible rfl
        clear hClosed
        have hClosed := hNext
        clear hNext
        try simp only [Act.put, List.getElem_toArray, List.getElem_cons_zero, List.getElem_cons_succ, List.setIfInBounds_toArray, List.set_cons_zero, List.set_cons_succ]
        refine' wpAnyE_take (i := 2) (v := _) rfl (by kernel_rfl) (by kernel_rfl) (by kernel_rfl) (by kernel_rfl) (fun _ _ _ h => h) (Or.inl ⟨by rfl, fun u hu => ?_⟩) hHeld hClosed (fun hNext => ?_)
        rotate_left
        · (try dsimp only at hu)
          go_simp
          try with_reducible rfl
        clear hClosed
        have hClosed := hNext
        clear hNext
        try simp only [Act.put, List.getElem_toArray, List.getElem_cons_zero, List.getElem_cons_succ, List.setIfInBounds_toArray, List.set_cons_zero, List.set_cons_succ]
        refine' wpAnyE_take (i := 3) (v := _) rfl (by kernel_rfl) (by kernel_rfl) (by kernel_rfl) (by kernel_rfl) (fun _ _ _ h => h) (Or.inl ⟨by rfl, fun u hu => ?_⟩) hHeld hClosed (fun hNext => ?_)
        rotate_left
        · (try dsimp only at hu)
          go_simp
          try with_reducible rfl
        clear hClosed
        have hClosed := hNext
        clear hNext
        try simp only [Act.put, List.getElem_toArray, List.getElem_cons_zero, List.getElem_cons_succ, List.setIfInBounds_toArray, List.set_cons_zero, List.set_cons_succ]
        refine' wpAnyE_take (i := 4) (v := _) rfl (by kernel_rfl) (by kernel_rfl) (by kernel_rfl) (by kernel_rfl) (fun _ _ _ h => h) (Or.inl ⟨by rfl, fun u hu => ?_⟩) hHeld hClosed (fun hNext => ?_)
        rotate_left
        · (try dsimp only at hu)
          go_simp
          try with_reducible rfl
        clear hClosed
        have hClosed := hNext
        clear hNext
        try simp only [Act.put, List.getElem_toArray, List.getElem_cons_zero, List.getElem_cons_succ, List.setIfInBounds_toArray, List.set_cons_zero, List.set_cons_succ]
        refine' wpAnyE_take (i := 5) (v := _) rfl (by kernel_rfl) (by kernel_rfl) (by kernel_rfl) (by kernel_rfl) (fun _ _ _ h => h) (Or.inl ⟨by rfl, fun u hu => ?_⟩) hHeld hClosed (fun hNext => ?_)
        rotate_left
        · (try dsimp only at hu)
          go_simp
          try with_reducible rfl
        clear hClosed
        have hClosed := hNext
        clear hNext
        try simp only [Act.put, List.getElem_toArray, List.getElem_cons_zero, List.getElem_cons_succ, List.setIfInBounds_toArray, List.set_cons_zero, List.set_cons_succ]
        refine' wpAnyE_take (i := 6) (v := _) rfl (by kernel_rfl) (by kernel_rfl) (by kernel_rfl) (by kernel_rfl) (fun _ _ _ h => h) (Or.inl ⟨by rfl, fun u hu => ?_⟩) hHeld hClosed (fun hNext => ?_)
        rotate_left
        · (try dsimp only at hu)
          go_simp
          try with_reducible rfl
        clear hClosed
        have hClosed := hNext
        clear hNext
        try simp only [Act.put, List.getElem_toArray, List.getElem_cons_zero, List.getElem_cons_succ, List.setIfInBounds_toArray, List.set_cons_zero, List.set_cons_succ]
        refine' wpAnyE_take (i := 7) (v := _) rfl (by kernel_rfl) (by kernel_rfl) (by kernel_rfl) (by kernel_rfl) (fun _ _ _ h => h) (Or.inl ⟨by rfl, fun u hu => ?_⟩) hHeld hClosed (fun hNext => ?_)
        rotate_left
        · (try dsimp only at hu)
          go_simp
          try with_reducible rfl
        clear hClosed
        have hClosed := hNext
        clear hNext
        try simp only [Act.put, List.getElem_toArray, List.getElem_cons_zero, List.getElem_cons_succ, List.setIfInBounds_toArray, List.set_cons_zero, List.set_cons_succ]
        refine' wpAnyE_take (i := 8) (v := _) rfl (by kernel_rfl) (by kernel_rfl) (by kernel_rfl) (by kernel_rfl) (fun _ _ _ h => h) (Or.inl ⟨by rfl, fun u hu => ?_⟩) hHeld hClosed (fun hNext => ?_)
        rotate_left
        · (try dsimp only at hu)
          go_simp
          try with_reducible rfl
        clear hClosed
        have hClosed := hNext
        clear hNext
        try simp only [Act.put, List.getElem_toArray, List.getElem_cons_zero, List.getElem_cons_succ, List.setIfInBounds_toArray, List.set_cons_zero, List.set_cons_succ]
        refine' wpAnyE_take (i := 9) (v := _) rfl (by kernel_rfl) (by kernel_rfl) (by kernel_rfl) (by kernel_rfl) (fun _ _ _ h => h) (Or.inl ⟨by rfl, fun u hu => ?_⟩) hHeld hClosed (fun hNext => ?_)
        rotate_left
        · (try dsimp only at hu)
          go_simp
          try with_reducible rfl
        clear hClosed
        have hClosed := hNext
        clear hNext
        try simp only [Act.put, List.getElem_toArray, List.getElem_cons_zero, List.getElem_cons_succ, List.setIfInBounds_toArray, List.set_cons_zero, List.set_cons_succ]
        refine' wpAnyE_take (i := 10) (v := _) rfl (by kernel_rfl) (by kernel_rfl) (by kernel_rfl) (by kernel_rfl) (fun _ _ _ h => h) (Or.inl ⟨by rfl, fun u hu => ?_⟩) hHeld hClosed (fun hNext => ?_)
        rotate_left
        · (try dsimp only at hu)
          go_simp
          try with_reducible rfl
        clear hClosed
        have hClosed := hNext
        clear hNext
        try simp only [Act.put, List.getElem_toArray, List.getElem_cons_zero, List.getElem_cons_succ, List.setIfInBounds_toArray, List.set_cons_zero, List.set_cons_succ]
        refine' wpAnyE_take (i := 11) (v := _) rfl (by kernel_rfl) (by kernel_rfl) (by kernel_rfl) (by kernel_rfl) (fun _ _ _ h => h) (Or.inl ⟨by rfl, fun u hu => ?_⟩) hHeld hClosed (fun hNext => ?_)
        rotate_left
        · (try dsimp only at hu)
          go_simp
          try with_reducible rfl
        clear hClosed
        have hClosed := hNext
        clear hNext
        try simp only [Act.put, List.getElem_toArray, List.getElem_cons_zero, List.getElem_cons_succ, List.setIfInBounds_toArray, List.set_cons_zero, List.set_cons_succ]
        refine' wpAnyE_take (i := 12) (v := _) rfl (by kernel_rfl) (by kernel_rfl) (by kernel_rfl) (by kernel_rfl) (fun _ _ _ h => h) (Or.inl ⟨by rfl, fun u hu => ?_⟩) hHeld hClosed (fun hNext => ?_)
        rotate_left
        · (try dsimp only at hu)
          go_simp
          try with_reducible rfl
        clear hClosed
        have hClosed := hNext
        clear hNext
        try simp only [Act.put, List.getElem_toArray, List.getElem_cons_zero, List.getElem_cons_succ, List.setIfInBounds_toArray, List.set_cons_zero, List.set_cons_succ]
        refine' wpAnyE_take (i := 13) (v := _) rfl (by kernel_rfl) (by kernel_rfl) (by kernel_rfl) (by kernel_rfl) (fun _ _ _ h => h) (Or.inl ⟨by rfl, fun u hu => ?_⟩) hHeld hClosed (fun hNext => ?_)
        rotate_left
        · (try dsimp only at hu)
          go_simp
          try with_reducible rfl
        clear hClosed
        have hClosed := hNext
        clear hNext
        try simp only [Act.put, List.getElem_toArray, List.getElem_cons_zero, List.getElem_cons_succ, List.setIfInBounds_toArray, List.set_cons_zero, List.set_cons_succ]
        refine wpAnyE_done (by kernel_rfl) ?_ _
        clear hClosed
        go_wp2_with fail
        obtain ⟨wy, hwy⟩ : ∃ u, wr.drew = u := ⟨_, rfl⟩
        have BY : Hid (Below w0.heap.size w0 wy) := Lib.hid (by rw [← hwy]; exact below_same HB.out rfl rfl rfl rfl)
        have BYw : Hid (Below w.heap.size w wy) := Lib.hid (B0.out.trans (BY.out.mono B0.out.size))
        rw [hwy]
        have SBX := SB.out wy.drew (by exact below_same BY.out rfl rfl rfl rfl)
        have HLy := Lib.hid (Lies.up H0.out BY.out)
        have T0 : Hid (Lies wy wy.heap.size _ (prC (L.take k))) := Lib.hid (by rw [prC_take]; exact lies_takeN HLy.out _)
        have D0 : Hid (Lies wy wy.heap.size (some ⟨g, off + k * 2, none⟩) (prC (L.drop k))) := Lib.hid (by have := lies_dropN HLy.out k c hc; rwa [if_neg hck] at this)
        clear hwy
        refine wp_region_E (S := fun w' => w'.cell? ⟨w.heap.size, 0, none⟩ = some (.int .i64 a) ∧ w'.cell? ⟨w.heap.size, 1, none⟩ = some (.int .i64 b)) [6, 7, 11, 12] (by kernel_rfl) (SBX) (fun hHeld hClosed => ?_)
        refine' wpAnyE_free (i := 1) (v := _) rfl (by kernel_rfl) (by kernel_rfl) (by kernel_rfl) (fun _ _ _ h => h) (Or.inl ⟨by rfl, fun u _ => ?_⟩) hClosed (fun hNext => ?_)
        rotate_left
        · go_simp
          try with_reducible rfl
        clear hClosed
        have hClosed := hNext
        clear hNext
        try simp only [Act.put, List.getElem_toArray, List.getElem_cons_zero, List.getElem_cons_succ, List.setIfInBounds_toArray, List.set_cons_zero, List.set_cons_succ]
        refine' wpAnyE_free (i := 2) (v := _) rfl (by kernel_rfl) (by kernel_rfl) (by kernel_rfl) (fun _ _ _ h => h) (Or.inl ⟨by rfl, fun u _ => ?_⟩) hClosed (fun hNext => ?_)
        rotate_left
        · go_simp
          try with_reducible rfl
        clear hClosed
        have hClosed := hNext
        clear hNext
        try simp only [Act.put, List.getElem_toArray, List.getElem_cons_zero, List.getElem_cons_succ, List.setIfInBounds_toArray, List.set_cons_zero, List.set_cons_succ]
        refine' wpAnyE_free (i := 3) (v := _) rfl (by kernel_rfl) (by kernel_rfl) (by kernel_rfl) (fun _ _ _ h => h) (Or.inl ⟨by rfl, fun u _ => ?_⟩) hClosed (fun hNext => ?_)
        rotate_left
        · go_simp
          try with_reducible rfl
        clear hClosed
        have hClosed := hNext
        clear hNext
        try simp only [Act.put, List.getElem_toArray, List.getElem_cons_zero, List.getElem_cons_succ, List.setIfInBounds_toArray, List.set_cons_zero, List.set_cons_succ]
        refine' wpAnyE_free (i := 8) (v := _) rfl (by kernel_rfl) (by kernel_rfl) (by kernel_rfl) (fun _ _ _ h => h) (Or.inl ⟨by rfl, fun u _ => ?_⟩) hClosed (fun hNext => ?_)
        rotate_left
        · go_simp
          try with_reducible rfl
        clear hClosed
        have hClosed := hNext
        clear hNext
        try simp only [Act.put, List.getElem_toArray, List.getElem_cons_zero, List.getElem_cons_succ, List.setIfInBounds_toArray, List.set_cons_zero, List.set_cons_succ]
        refine' wpAnyE_free (i := 9) (v := _) rfl (by kernel_rfl) (by kernel_rfl) (by kernel_rfl) (fun _ _ _ h => h) (Or.inl ⟨by rfl, fun u _ => ?_⟩) hClosed (fun hNext => ?_)
        rotate_left
        · go_simp
          try with_reducible rfl
        clear hClosed
        have hClosed := hNext
        clear hNext
        try simp only [Act.put, List.getElem_toArray, List.getElem_cons_zero, List.getElem_cons_succ, List.setIfInBounds_toArray, List.set_cons_zero, List.set_cons_succ]
        refine' wpAnyE_free (i := 10) (v := _) rfl (by kernel_rfl) (by kernel_rfl) (by kernel_rfl) (fun _ _ _ h => h) (Or.inl ⟨by rfl, fun u _ => ?_⟩) hClosed (fun hNext => ?_)
        rotate_left
        · go_simp
          try with_reducible rfl
        clear hClosed
        have hClosed := hNext
        clear hNext
        try simp only [Act.put, List.getElem_toArray, List.getElem_cons_zero, List.getElem_cons_succ, List.setIfInBounds_toArray, List.set_cons_zero, List.set_cons_succ]
        refine' wpAnyE_take (i := 5) (v := _) rfl (by kernel_rfl) (by kernel_rfl) (by kernel_rfl) (by kernel_rfl) (fun _ _ _ h => h) (Or.inl ⟨by rfl, fun u hu => ?_⟩) hHeld hClosed (fun hNext => ?_)
        rotate_left
        · (try dsimp only at hu)
          go_simp
          try with_reducible rfl
        clear hClosed
        have hClosed := hNext
        clear hNext
        try simp only [Act.put, List.getElem_toArray, List.getElem_cons_zero, List.getElem_cons_succ, List.setIfInBounds_toArray, List.set_cons_zero, List.set_cons_succ]
        refine wpAnyE_ready (rs := [0, 6]) (by kernel_rfl) (by simp) ?_
        refine AllReadyE.cons rfl (fun K hK => ?_) (AllReadyE.cons rfl (fun K hK => ?_) AllReadyE.nil)
        all_goals simp only [List.getElem_toArray, List.getElem_cons_zero, List.getElem_cons_succ]
        all_goals go_simp
        · have TT := trivial
          refine hK.out _ _ (fun _ => SB.out _ (BY.out.trans ((by exact below_same (below_alloc wy (.cells #[] 37)) rfl rfl rfl rfl : Below wy.heap.size wy (wy.drew.alloc (.cells #[] 37))).mono BY.out.size))) (fun hHeld => ?_) (fun hX => (by first | cases hX | simp at hX))
          replace hClosed := hClosed.step 0 (by kernel_rfl)
          clear hK K
          try simp only [Act.put, List.getElem_toArray, List.getElem_cons_zero, List.getElem_cons_succ, List.setIfInBounds_toArray, List.set_cons_zero, List.set_cons_succ]
          have ON := Lib.hid (OwnN.ofLit (w := wy.drew) (B := wy.heap.size) (e := 37) (size := 2) (n := 0) #[] (Nat.le_refl _) (by decide) rfl)
          have BN : Hid (Below wy.heap.size wy (wy.drew.alloc (.cells #[] 37))) := Lib.hid (by exact below_same (below_alloc wy (.cells #[] 37)) rfl rfl rfl rfl)
          refine wpAnyE_ready (rs := [4, 6]) (by kernel_rfl) (by simp) ?_
          refine AllReadyE.cons rfl (fun K hK => ?_) (AllReadyE.cons rfl (fun K hK => ?_) AllReadyE.nil)
          · have TT := trivial
            refine step_appN prT wy _ wy.heap.size _ (.tmp 22) (.tmp 25) (.slice (some ⟨wy.heap.size, 0, none⟩) 0 0) 0 k [] (prC (L.take k)) _ _ rfl rfl rfl rfl ON.out (T0.out.below BN.out) (by simp [prC_length]; try omega) (by first | exact prC_one _ | simp [Value.oneCell']) BN.out BN.out.size (by unfold maxLen; omega) (by omega) ?_
            intro v1 w1 o_ b_ g_ e_
            have O1 := Lib.hid o_
            have B1 := Lib.hid b_
            have G1 := Lib.hid g_
            clear o_ b_ g_ e_
            refine hK.out _ _ (fun _ => SB.out _ (BY.out.trans (B1.out.mono BY.out.size))) (fun hHeld => ?_) (fun hX => (by first | cases hX | simp at hX))
            replace hClosed := hClosed.step 4 (by kernel_rfl)
            clear hK K
            try simp only [Act.put, List.getElem_toArray, List.getElem_cons_zero, List.getElem_cons_succ, List.setIfInBounds_toArray, List.set_cons_zero, List.set_cons_succ]
            refine wpAnyE_ready (rs := [6]) (by kernel_rfl) (by simp) ?_
            refine AllReadyE.cons rfl (fun K hK => ?_) AllReadyE.nil
            all_goals simp only [List.getElem_toArray, List.getElem_cons_zero, List.getElem_cons_succ]
            all_goals go_simp
            refine (fun hrest => hK.out _ _ (fun hX => (by first | cases hX | simp at hX)) (fun _ => hrest) (fun _ => hrest)) ?_
            replace hClosed := hClosed.step 6 (by kernel_rfl)
            clear hK K
            try simp only [Act.put, List.getElem_toArray, List.getElem_cons_zero, List.getElem_cons_succ, List.setIfInBounds_toArray, List.set_cons_zero, List.set_cons_succ]
            refine wpAnyE_ready (rs := [7]) (by kernel_rfl) (by simp) ?_
            refine AllReadyE.cons rfl (fun K hK => ?_) AllReadyE.nil
            refine step_appN prT wy _ wy.heap.size _ (.tmp 26) (.tmp 28) _ (0 + k) 1 ([] ++ prC (L.take k)) [.int .i64 a, .int .i64 b] _ _ rfl rfl rfl rfl (O1.out.alloc _) (Lies.lit (w := w1) (e := 37) #[.int .i64 a, .int .i64 b]) rfl (by first | exact prC_one _ | simp [Value.oneCell']) (B1.out.alloc B1.out.size _) (B1.out.alloc B1.out.size _).size (by unfold maxLen; omega) (by omega) ?_
            intro v2 w2 o_ b_ g_ e_
            have O2 := Lib.hid o_
            have B2 := Lib.hid b_
            have G2 := Lib.hid g_
            clear o_ b_ g_ e_
            refine (fun hrest => hK.out _ _ (fun hX => (by first | cases hX | simp at hX)) (fun _ => hrest) (fun _ => hrest)) ?_
            replace hClosed := hClosed.step 7 (by kernel_rfl)
            clear hK K
            try simp only [Act.put, List.getElem_toArray, List.getElem_cons_zero, List.getElem_cons_succ, List.setIfInBounds_toArray, List.set_cons_zero, List.set_cons_succ]
            refine wpAnyE_ready (rs := [11]) (by kernel_rfl) (by simp) ?_
            refine AllReadyE.cons rfl (fun K hK => ?_) AllReadyE.nil
            refine step_appN prT wy _ wy.heap.size _ (.tmp 29) (.tmp 32) _ (0 + k + 1) (L.length - k) ([] ++ prC (L.take k) ++ [Value.int .i64 a, Value.int .i64 b]) (prC (L.drop k)) _ _ rfl rfl rfl rfl O2.out (D0.out.below B2.out) (by simp [prC_length]; try omega) (by first | exact prC_one _ | simp [Value.oneCell']) B2.out B2.out.size (by unfold maxLen; omega) (by omega) ?_
            intro v3 w3 o_ b_ g_ e_
            have O3 := Lib.hid o_
            have B3 := Lib.hid b_
            have G3 := Lib.hid g_
            clear o_ b_ g_ e_
            refine (fun hrest => hK.out _ _ (fun hX => (by first | cases hX | simp at hX)) (fun _ => hrest) (fun _ => hrest)) ?_
            replace hClosed := hClosed.step 11 (by kernel_rfl)
            clear hK K
            try simp only [Act.put, List.getElem_toArray, List.getElem_cons_zero, List.getElem_cons_succ, List.setIfInBounds_toArray, List.set_cons_zero, List.set_cons_succ]
            refine' wpAnyE_free (i := 12) (v := _) rfl (by kernel_rfl) (by kernel_rfl) (by kernel_rfl) (fun _ _ _ h => h) (Or.inl ⟨by rfl, fun u _ => ?_⟩) hClosed (fun hNext => ?_)
            rotate_left
            · go_simp
              try with_reducible rfl
            clear hClosed
            have hClosed := hNext
            clear hNext
            try simp only [Act.put, List.getElem_toArray, List.getElem_cons_zero, List.getElem_cons_succ, List.setIfInBounds_toArray, List.set_cons_zero, List.set_cons_succ]
            refine wpAnyE_done (by kernel_rfl) ?_ _
            clear hClosed
            go_wp2_with fail
            go_ret
            refine ⟨_, rfl, ?_, BYw.out.trans (B3.out.mono BYw.out.size)⟩
            have hp : putP L (a, b) = L.take k ++ [(a, b)] ++ L.drop k := by rw [putP, show putK L (a, b).1 = k from HK.out]
            rw [hp, prC_append, prC_append]
            have hlen : (L.take k ++ [(a, b)] ++ L.drop k).length = 0 + k + 1 + (L.length - k) := by simp <;> omega
            rw [hlen]
            exact O3.out.weaken BYw.out.size
          · have TT := trivial
            simp only [List.getElem_toArray, List.getElem_cons_zero, List.getElem_cons_succ]
            go_simp
            refine (fun hrest => hK.out _ _ (fun hX => (by first | cases hX | simp at hX)) (fun _ => hrest) (fun _ => hrest)) ?_
            replace hClosed := hClosed.step 6 (by kernel_rfl)
            clear hK K
            try simp only [Act.put, List.getElem_toArray, List.getElem_cons_zero, List.getElem_cons_succ, List.setIfInBounds_toArray, List.set_cons_zero, List.set_cons_succ]
            have BM := Lib.hid (BN.out.alloc BN.out.size (.cells #[.int .i64 a, .int .i64 b] 37))
            refine wpAnyE_ready (rs := [4]) (by kernel_rfl) (by simp) ?_
            refine AllReadyE.cons rfl (fun K hK => ?_) AllReadyE.nil
            refine step_appN prT wy _ wy.heap.size _ (.tmp 22) (.tmp 25) (.slice (some ⟨wy.heap.size, 0, none⟩) 0 0) 0 k [] (prC (L.take k)) _ _ rfl rfl rfl rfl (ON.out.alloc _) (T0.out.below BM.out) (by simp [prC_length]; try omega) (by first | exact prC_one _ | simp [Value.oneCell']) BM.out BM.out.size (by unfold maxLen; omega) (by omega) ?_
            intro v1 w1 o_ b_ g_ e_
            have O1 := Lib.hid o_
            have B1 := Lib.hid b_
            have G1 := Lib.hid g_
            clear o_ b_ g_ e_
            refine hK.out _ _ (fun _ => SB.out _ (BY.out.trans (B1.out.mono BY.out.size))) (fun hHeld => ?_) (fun hX => (by first | cases hX | simp at hX))
            replace hClosed := hClosed.step 4 (by kernel_rfl)
            clear hK K
            try simp only [Act.put, List.getElem_toArray, List.getElem_cons_zero, List.getElem_cons_succ, List.setIfInBounds_toArray, List.set_cons_zero, List.set_cons_succ]
            refine wpAnyE_ready (rs := [7]) (by kernel_rfl) (by simp) ?_
            refine AllReadyE.cons rfl (fun K hK => ?_) AllReadyE.nil
            refine step_appN prT wy _ wy.heap.size _ (.tmp 26) (.tmp 28) _ (0 + k) 1 ([] ++ prC (L.take k)) [.int .i64 a, .int .i64 b] _ _ rfl rfl rfl rfl O1.out (lies_kept2 (g := wy.heap.size + 1) G1.out (by have h_ := Lies.lit (w := wy.drew.alloc (.cells #[] 37)) (e := 37) #[.int .i64 a, .int .i64 b]; rw [show (wy.drew.alloc (.cells #[] 37)).heap.size = wy.heap.size + 1 by simp] at h_; exact h_) rfl (by simp <;> omega) (by simp [Value.ownBlock])) rfl (by first | exact prC_one _ | simp [Value.oneCell']) B1.out B1.out.size (by unfold maxLen; omega) (by omega) ?_
            intro v2 w2 o_ b_ g_ e_
            have O2 := Lib.hid o_
            have B2 := Lib.hid b_
            have G2 := Lib.hid g_
            clear o_ b_ g_ e_
            refine (fun hrest => hK.out _ _ (fun hX => (by first | cases hX | simp at hX)) (fun _ => hrest) (fun _ => hrest)) ?_
            replace hClosed := hClosed.step 7 (by kernel_rfl)
            clear hK K
            try simp only [Act.put, List.getElem_toArray, List.getElem_cons_zero, List.getElem_cons_succ, List.setIfInBounds_toArray, List.set_cons_zero, List.set_cons_succ]
            refine wpAnyE_ready (rs := [11]) (by kernel_rfl) (by simp) ?_
            refine AllReadyE.cons rfl (fun K hK => ?_) AllReadyE.nil
            refine step_appN prT wy _ wy.heap.size _ (.tmp 29) (.tmp 32) _ (0 + k + 1) (L.length - k) ([] ++ prC (L.take k) ++ [Value.int .i64 a, Value.int .i64 b]) (prC (L.drop k)) _ _ rfl rfl rfl rfl O2.out (D0.out.below B2.out) (by simp [prC_length]; try omega) (by first | exact prC_one _ | simp [Value.oneCell']) B2.out B2.out.size (by unfold maxLen; omega) (by omega) ?_
            intro v3 w3 o_ b_ g_ e_
            have O3 := Lib.hid o_
            have B3 := Lib.hid b_
            have G3 := Lib.hid g_
            clear o_ b_ g_ e_
            refine (fun hrest => hK.out _ _ (fun hX => (by first | cases hX | simp at hX)) (fun _ => hrest) (fun _ => hrest)) ?_
            replace hClosed := hClosed.step 11 (by kernel_rfl)
            clear hK K
            try simp only [Act.put, List.getElem_toArray, List.getElem_cons_zero, List.getElem_cons_succ, List.setIfInBounds_toArray, List.set_cons_zero, List.set_cons_succ]
            refine' wpAnyE_free (i := 12) (v := _) rfl (by kernel_rfl) (by kernel_rfl) (by kernel_rfl) (fun _ _ _ h => h) (Or.inl ⟨by rfl, fun u _ => ?_⟩) hClosed (fun hNext => ?_)
            rotate_left
            · go_simp
              try with_reducible rfl
            clear hClosed
            have hClosed := hNext
            clear hNext
            try simp only [Act.put, List.getElem_toArray, List.getElem_cons_zero, List.getElem_cons_succ, List.setIfInBounds_toArray, List.set_cons_zero, List.set_cons_succ]
            refine wpAnyE_done (by kernel_rfl) ?_ _
            clear hClosed
            go_wp2_with fail
            go_ret
            refine ⟨_, rfl, ?_, BYw.out.trans (B3.out.mono BYw.out.size)⟩
            have hp : putP L (a, b) = L.take k ++ [(a, b)] ++ L.drop k := by rw [putP, show putK L (a, b).1 = k from HK.out]
            rw [hp, prC_append, prC_append]
            have hlen : (L.take k ++ [(a, b)] ++ L.drop k).length = 0 + k + 1 + (L.length - k) := by simp <;> omega
            rw [hlen]
            exact O3.out.weaken BYw.out.size
        · have TT := trivial
          refine (fun hrest => hK.out _ _ (fun hX => (by first | cases hX | simp at hX)) (fun _ => hrest) (fun _ => hrest)) ?_
          replace hClosed := hClosed.step 6 (by kernel_rfl)
          clear hK K
          try simp only [Act.put, List.getElem_toArray, List.getElem_cons_zero, List.getElem_cons_succ, List.setIfInBounds_toArray, List.set_cons_zero, List.set_cons_succ]
          have BN : Hid (Below wy.heap.size wy (wy.drew.alloc (.cells #[.int .i64 a, .int .i64 b] 37))) := Lib.hid (by exact below_same (below_alloc wy (.cells #[.int .i64 a, .int .i64 b] 37)) rfl rfl rfl rfl)
          have BM := Lib.hid (BN.out.alloc BN.out.size (.cells #[] 37))
          have ON : Hid (OwnN ((wy.drew.alloc (.cells #[.int .i64 a, .int .i64 b] 37)).alloc (.cells #[] 37)) wy.heap.size 37 2 (.slice (some ⟨wy.heap.size + 1, 0, none⟩) 0 0) 0 []) := Lib.hid (by
            have h_ := OwnN.ofLit (w := wy.drew.alloc (.cells #[.int .i64 a, .int .i64 b] 37)) (B := wy.heap.size) (e := 37) (size := 2) (n := 0) #[] (by simp) (by decide) rfl
            simpa using h_)
          refine wpAnyE_ready (rs := [0]) (by kernel_rfl) (by simp) ?_
          refine AllReadyE.cons rfl (fun K hK => ?_) AllReadyE.nil
          all_goals simp only [List.getElem_toArray, List.getElem_cons_zero]
          all_goals go_simp
          refine hK.out _ _ (fun _ => SB.out _ (BY.out.trans (BM.out.mono BY.out.size))) (fun hHeld => ?_) (fun hX => (by first | cases hX | simp at hX))
          replace hClosed := hClosed.step 0 (by kernel_rfl)
          clear hK K
          try simp only [Act.put, List.getElem_toArray, List.getElem_cons_zero, List.getElem_cons_succ, List.setIfInBounds_toArray, List.set_cons_zero, List.set_cons_succ]
          refine wpAnyE_ready (rs := [4]) (by kernel_rfl) (by simp) ?_
          refine AllReadyE.cons rfl (fun K hK => ?_) AllReadyE.nil
          refine step_appN prT wy _ wy.heap.size _ (.tmp 22) (.tmp 25) (.slice (some ⟨wy.heap.size + 1, 0, none⟩) 0 0) 0 k [] (prC (L.take k)) _ _ rfl rfl rfl rfl ON.out (T0.out.below BM.out) (by simp [prC_length]; try omega) (by first | exact prC_one _ | simp [Value.oneCell']) BM.out BM.out.size (by unfold maxLen; omega) (by omega) ?_
          intro v1 w1 o_ b_ g_ e_
          have O1 := Lib.hid o_
          have B1 := Lib.hid b_
          have G1 := Lib.hid g_
          clear o_ b_ g_ e_
          refine hK.out _ _ (fun _ => SB.out _ (BY.out.trans (B1.out.mono BY.out.size))) (fun hHeld => ?_) (fun hX => (by first | cases hX | simp at hX))
          replace hClosed := hClosed.step 4 (by kernel_rfl)
          clear hK K
          try simp only [Act.put, List.getElem_toArray, List.getElem_cons_zero, List.getElem_cons_succ, List.setIfInBounds_toArray, List.set_cons_zero, List.set_cons_succ]
          refine wpAnyE_ready (rs := [7]) (by kernel_rfl) (by simp) ?_
          refine AllReadyE.cons rfl (fun K hK => ?_) AllReadyE.nil
          refine step_appN prT wy _ wy.heap.size _ (.tmp 26) (.tmp 28) _ (0 + k) 1 ([] ++ prC (L.take k)) [.int .i64 a, .int .i64 b] _ _ rfl rfl rfl rfl O1.out (lies_kept2 (g := wy.heap.size) G1.out ((Lies.lit (w := wy.drew) (e := 37) #[.int .i64 a, .int .i64 b]).alloc (by simp) (.cells #[] 37)) rfl (by simp <;> omega) (by simp [Value.ownBlock])) rfl (by first | exact prC_one _ | simp [Value.oneCell']) B1.out B1.out.size (by unfold maxLen; omega) (by omega) ?_
          intro v2 w2 o_ b_ g_ e_
          have O2 := Lib.hid o_
          have B2 := Lib.hid b_
          have G2 := Lib.hid g_
          clear o_ b_ g_ e_
          refine (fun hrest => hK.out _ _ (fun hX => (by first | cases hX | simp at hX)) (fun _ => hrest) (fun _ => hrest)) ?_
          replace hClosed := hClosed.step 7 (by kernel_rfl)
          clear hK K
          try simp only [Act.put, List.getElem_toArray, List.getElem_cons_zero, List.getElem_cons_succ, List.setIfInBounds_toArray, List.set_cons_zero, List.set_cons_succ]
          refine wpAnyE_ready (rs := [11]) (by kernel_rfl) (by simp) ?_
          refine AllReadyE.cons rfl (fun K hK => ?_) AllReadyE.nil
          refine step_appN prT wy _ wy.heap.size _ (.tmp 29) (.tmp 32) _ (0 + k + 1) (L.length - k) ([] ++ prC (L.take k) ++ [Value.int .i64 a, Value.int .i64 b]) (prC (L.drop k)) _ _ rfl rfl rfl rfl O2.out (D0.out.below B2.out) (by simp [prC_length]; try omega) (by first | exact prC_one _ | simp [Value.oneCell']) B2.out B2.out.size (by unfold maxLen; omega) (by omega) ?_
          intro v3 w3 o_ b_ g_ e_
          have O3 := Lib.hid o_
          have B3 := Lib.hid b_
          have G3 := Lib.hid g_
          clear o_ b_ g_ e_
          refine (fun hrest => hK.out _ _ (fun hX => (by first | cases hX | simp at hX)) (fun _ => hrest) (fun _ => hrest)) ?_
          replace hClosed := hClosed.step 11 (by kernel_rfl)
          clear hK K
          try simp only [Act.put, List.getElem_toArray, List.getElem_cons_zero, List.getElem_cons_succ, List.setIfInBounds_toArray, List.set_cons_zero, List.set_cons_succ]
          refine' wpAnyE_free (i := 12) (v := _) rfl (by kernel_rfl) (by kernel_rfl) (by kernel_rfl) (fun _ _ _ h => h) (Or.inl ⟨by rfl, fun u _ => ?_⟩) hClosed (fun hNext => ?_)
          rotate_left
          · go_simp
            try with_reducible rfl
          clear hClosed
          have hClosed := hNext
          clear hNext
          try simp only [Act.put, List.getElem_toArray, List.getElem_cons_zero, List.getElem_cons_succ, List.setIfInBounds_toArray, List.set_cons_zero, List.set_cons_succ]
          refine wpAnyE_done (by kernel_rfl) ?_ _
          clear hClosed
          go_wp2_with fail
          go_ret
          refine ⟨_, rfl, ?_, BYw.out.trans (B3.out.mono BYw.out.size)⟩
          have hp : putP L (a, b) = L.take k ++ [(a, b)] ++ L.drop k := by rw [putP, show putK L (a, b).1 = k from HK.out]
          rw [hp, prC_append, prC_append]
          have hlen : (L.take k ++ [(a, b)] ++ L.drop k).length = 0 + k + 1 + (L.length - k) := by simp <;> omega
          rw [hlen]
          exact O3.out.weaken BYw.out.size
      · clear s0 s1 p0
        go_wp2_with fail
        refine wp_region_E (S := fun w' => w'.cell? ⟨g, off + k * 2, none⟩ = some (.int .i64 x) ∧ w'.cell? ⟨w.heap.size, 0, none⟩ = some (.int .i64 a)) [] (by kernel_rfl) (hk1) (fun hHeld hClosed => ?_)
        refine' wpAnyE_take (i := 0) (v := _) rfl (by kernel_rfl) (by kernel_rfl) (by kernel_rfl) (by kernel_rfl) (fun _ _ _ h => h) (Or.inl ⟨by rfl, fun u hu => ?_⟩) hHeld hClosed (fun hNext => ?_)
        rotate_left
        · (try dsimp only at hu)
          go_simp
          try with_reducible rfl
        clear hClosed
        have hClosed := hNext
        clear hNext
        try simp only [Act.put, List.getElem_toArray, List.getElem_cons_zero, List.setIfInBounds_toArray, List.set_cons_zero, List.set_cons_succ]
        refine' wpAnyE_take (i := 1) (v := _) rfl (by kernel_rfl) (by kernel_rfl) (by kernel_rfl) (by kernel_rfl) (fun _ _ _ h => h) (Or.inl ⟨by rfl, fun u hu => ?_⟩) hHeld hClosed (fun hNext => ?_)
        rotate_left
        · (try dsimp only at hu)
          go_simp
          try with_reducible rfl
        clear hClosed
        have hClosed := hNext
        clear hNext
        try simp only [Act.put, List.getElem_toArray, List.getElem_cons_zero, List.getElem_cons_succ, List.setIfInBounds_toArray, List.set_cons_zero, List.set_cons_succ]
        refine' wpAnyE_take (i := 2) (v := _) rfl (by kernel_rfl) (by kernel_rfl) (by kernel_rfl) (by kernel_rfl) (fun _ _ _ h => h) (Or.inl ⟨by rfl, fun u hu => ?_⟩) hHeld hClosed (fun hNext => ?_)
        rotate_left
        · (try dsimp only at hu)
          go_simp
          try with_reducible rfl
        clear hClosed
        have hClosed := hNext
        clear hNext
        try simp only [Act.put, List.getElem_toArray, List.getElem_cons_zero, List.getElem_cons_succ, List.setIfInBounds_toArray, List.set_cons_zero, List.set_cons_succ]
        refine' wpAnyE_take (i := 3) (v := _) rfl (by kernel_rfl) (by kernel_rfl) (by kernel_rfl) (by kernel_rfl) (fun _ _ _ h => h) (Or.inl ⟨by rfl, fun u hu => ?_⟩) hHeld hClosed (fun hNext => ?_)
        rotate_left
        · (try dsimp only at hu)
          go_simp
          try with_reducible rfl
        clear hClosed
        have hClosed := hNext
        clear hNext
        try simp only [Act.put, List.getElem_toArray, List.getElem_cons_zero, List.getElem_cons_succ, List.setIfInBounds_toArray, List.set_cons_zero, List.set_cons_succ]
        refine' wpAnyE_take (i := 4) (v := _) rfl (by kernel_rfl) (by kernel_rfl) (by kernel_rfl) (by kernel_rfl) (fun _ _ _ h => h) (Or.inl ⟨by rfl, fun u hu => ?_⟩) hHeld hClosed (fun hNext => ?_)
        rotate_left
        · (try dsimp only at hu)
          go_simp
          try with_reducible rfl
        clear hClosed
        have hClosed := hNext
        clear hNext
        try simp only [Act.put, List.getElem_toArray, List.getElem_cons_zero, List.getElem_cons_succ, List.setIfInBounds_toArray, List.set_cons_zero, List.set_cons_succ]
        refine' wpAnyE_take (i := 5) (v := _) rfl (by kernel_rfl) (by kernel_rfl) (by kernel_rfl) (by kernel_rfl) (fun _ _ _ h => h) (Or.inl ⟨by rfl, fun u hu => ?_⟩) hHeld hClosed (fun hNext => ?_)
        rotate_left
        · (try dsimp only at hu)
          go_simp
          try with_reducible rfl
        clear hClosed
        have hClosed := hNext
        clear hNext
        try simp only [Act.put, List.getElem_toArray, List.getElem_cons_zero, List.getElem_cons_succ, List.setIfInBounds_toArray, List.set_cons_zero, List.set_cons_succ]
        refine' wpAnyE_take (i := 6) (v := _) rfl (by kernel_rfl) (by kernel_rfl) (by kernel_rfl) (by kernel_rfl) (fun _ _ _ h => h) (Or.inl ⟨by rfl, fun u hu => ?_⟩) hHeld hClosed (fun hNext => ?_)
        rotate_left
        · (try dsimp only at hu)
          go_simp
          try with_reducible rfl
        clear hClosed
        have hClosed := hNext
        clear hNext
        try simp only [Act.put, List.getElem_toArray, List.getElem_cons_zero, List.getElem_cons_succ, List.setIfInBounds_toArray, List.set_cons_zero, List.set_cons_succ]
        refine' wpAnyE_take (i := 7) (v := _) rfl (by kernel_rfl) (by kernel_rfl) (by kernel_rfl) (by kernel_rfl) (fun _ _ _ h => h) (Or.inl ⟨by rfl, fun u hu => ?_⟩) hHeld hClosed (fun hNext => ?_)
        rotate_left
        · (try dsimp only at hu)
          go_simp
          try with_reducible rfl
        clear hClosed
        have hClosed := hNext
        clear hNext
        try simp only [Act.put, List.getElem_toArray, List.getElem_cons_zero, List.getElem_cons_succ, List.setIfInBounds_toArray, List.set_cons_zero, List.set_cons_succ]
        refine' wpAnyE_take (i := 8) (v := _) rfl (by kernel_rfl) (by kernel_rfl) (by kernel_rfl) (by kernel_rfl) (fun _ _ _ h => h) (Or.inl ⟨by rfl, fun u hu => ?_⟩) hHeld hClosed (fun hNext => ?_)
        rotate_left
        · (try dsimp only at hu)
          go_simp
          try with_reducible rfl
        clear hClosed
        have hClosed := hNext
        clear hNext
        try simp only [Act.put, List.getElem_toArray, List.getElem_cons_zero, List.getElem_cons_succ, List.setIfInBounds_toArray, List.set_cons_zero, List.set_cons_succ]
        refine' wpAnyE_take (i := 9) (v := _) rfl (by kernel_rfl) (by kernel_rfl) (by kernel_rfl) (by kernel_rfl) (fun _ _ _ h => h) (Or.inl ⟨by rfl, fun u hu => ?_⟩) hHeld hClosed (fun hNext => ?_)
        rotate_left
        · (try dsimp only at hu)
          go_simp
          try with_reducible rfl
        clear hClosed
        have hClosed := hNext
        clear hNext
        try simp only [Act.put, List.getElem_toArray, List.getElem_cons_zero, List.getElem_cons_succ, List.setIfInBounds_toArray, List.set_cons_zero, List.set_cons_succ]
        refine' wpAnyE_take (i := 10) (v := _) rfl (by kernel_rfl) (by kernel_rfl) (by kernel_rfl) (by kernel_rfl) (fun _ _ _ h => h) (Or.inl ⟨by rfl, fun u hu => ?_⟩) hHeld hClosed (fun hNext => ?_)
        rotate_left
        · (try dsimp only at hu)
          go_simp
          try with_reducible rfl
        clear hClosed
        have hClosed := hNext
        clear hNext
        try simp only [Act.put, List.getElem_toArray, List.getElem_cons_zero, List.getElem_cons_succ, List.setIfInBounds_toArray, List.set_cons_zero, List.set_cons_succ]
        refine' wpAnyE_take (i := 11) (v := _) rfl (by kernel_rfl) (by kernel_rfl) (by kernel_rfl) (by kernel_rfl) (fun _ _ _ h => h) (Or.inl ⟨by rfl, fun u hu => ?_⟩) hHeld hClosed (fun hNext => ?_)
        rotate_left
        · (try dsimp only at hu)
          go_simp
          try with_reducible rfl
        clear hClosed
        have hClosed := hNext
        clear hNext
        try simp only [Act.put, List.getElem_toArray, List.getElem_cons_zero, List.getElem_cons_succ, List.setIfInBounds_toArray, List.set_cons_zero, List.set_cons_succ]
        refine' wpAnyE_take (i := 12) (v := _) rfl (by kernel_rfl) (by kernel_rfl) (by kernel_rfl) (by kernel_rfl) (fun _ _ _ h => h) (Or.inl ⟨by rfl, fun u hu => ?_⟩) hHeld hClosed (fun hNext => ?_)
        rotate_left
        · (try dsimp only at hu)
          go_simp
          try with_reducible rfl
        clear hClosed
        have hClosed := hNext
        clear hNext
        try simp only [Act.put, List.getElem_toArray, List.getElem_cons_zero, List.getElem_cons_succ, List.setIfInBounds_toArray, List.set_cons_zero, List.set_cons_succ]
        refine' wpAnyE_take (i := 13) (v := _) rfl (by kernel_rfl) (by kernel_rfl) (by kernel_rfl) (by kernel_rfl) (fun _ _ _ h => h) (Or.inl ⟨by rfl, fun u hu => ?_⟩) hHeld hClosed (fun hNext => ?_)
        rotate_left
        · (try dsimp only at hu)
          go_simp
          try with_reducible rfl
        clear hClosed
        have hClosed := hNext
        clear hNext
        try simp only [Act.put, List.getElem_toArray, List.getElem_cons_zero, List.getElem_cons_succ, List.setIfInBounds_toArray, List.set_cons_zero, List.set_cons_succ]
        refine wpAnyE_done (by kernel_rfl) ?_ _
        clear hClosed
        go_wp2_with fail
        go_roundw
        case rel =>
          refine ⟨k + 1, by omega, by go_num, Lib.hid (fun j hj hl => ?_), by exact below_same HB.out rfl rfl rfl rfl⟩
          by_cases hjk : j = k
          · subst hjk; rw [HX.out]; simpa using hxa
          · exact HJ.out j (by omega) hl
        case measure => simp [intOf]; omega
    · have k2 : decide (k < L.length) = false := by simp <;> omega
      obtain rfl : k = L.length := by omega
      have HK : Hid (putK L a = L.length) := Lib.hid (putK_is a L L.length hk (fun j hj => HJ.out j hj hj) (.inl rfl))
      have SBX0 := And.intro s0 s1
      have hkc : L.length ≤ c := by omega
      clear s0 s1
      go_wp2_with fail
      refine wp_region_E (S := fun _ => True) [] (by kernel_rfl) (trivial) (fun hHeld hClosed => ?_)
      refine' wpAnyE_take (i := 0) (v := _) rfl (by kernel_rfl) (by kernel_rfl) (by kernel_rfl) (by kernel_rfl) (fun _ _ _ h => h) (Or.inl ⟨by rfl, fun u hu => ?_⟩) hHeld hClosed (fun hNext => ?_)
      rotate_left
      · (try dsimp only at hu)
        go_simp
        try with_reducible rfl
      clear hClosed
      have hClosed := hNext
      clear hNext
      try simp only [Act.put, List.getElem_toArray, List.getElem_cons_zero, List.setIfInBounds_toArray, List.set_cons_zero, List.set_cons_succ]
      refine' wpAnyE_take (i := 1) (v := _) rfl (by kernel_rfl) (by kernel_rfl) (by kernel_rfl) (by kernel_rfl) (fun _ _ _ h => h) (Or.inl ⟨by rfl, fun u hu => ?_⟩) hHeld hClosed (fun hNext => ?_)
      rotate_left
      · (try dsimp only at hu)
        go_simp
        try with_reducible rfl
      clear hClosed
      have hClosed := hNext
      clear hNext
      try simp only [Act.put, List.getElem_toArray, List.getElem_cons_zero, List.getElem_cons_succ, List.setIfInBounds_toArray, List.set_cons_zero, List.set_cons_succ]
      refine' wpAnyE_take (i := 2) (v := _) rfl (by kernel_rfl) (by kernel_rfl) (by kernel_rfl) (by kernel_rfl) (fun _ _ _ h => h) (Or.inl ⟨by rfl, fun u hu => ?_⟩) hHeld hClosed (fun hNext => ?_)
      rotate_left
      · (try dsimp only at hu)
        go_simp
        try with_reducible rfl
      clear hClosed
      have hClosed := hNext
      clear hNext
      try simp only [Act.put, List.getElem_toArray, List.getElem_cons_zero, List.getElem_cons_succ, List.setIfInBounds_toArray, List.set_cons_zero, List.set_cons_succ]
      refine' wpAnyE_take (i := 3) (v := _) rfl (by kernel_rfl) (by kernel_rfl) (by kernel_rfl) (by kernel_rfl) (fun _ _ _ h => h) (Or.inl ⟨by rfl, fun u hu => ?_⟩) hHeld hClosed (fun hNext => ?_)
      rotate_left
      · (try dsimp only at hu)
        go_simp
        try with_reducible rfl
      clear hClosed
      have hClosed := hNext
      clear hNext
      try simp only [Act.put, List.getElem_toArray, List.getElem_cons_zero, List.getElem_cons_succ, List.setIfInBounds_toArray, List.set_cons_zero, List.set_cons_succ]
      refine' wpAnyE_take (i := 4) (v := _) rfl (by kernel_rfl) (by kernel_rfl) (by kernel_rfl) (by kernel_rfl) (fun _ _ _ h => h) (Or.inl ⟨by rfl, fun u hu => ?_⟩) hHeld hClosed (fun hNext => ?_)
      rotate_left
      · (try dsimp only at hu)
        go_simp
        try with_reducible rfl
      clear hClosed
      have hClosed := hNext
      clear hNext
      try simp only [Act.put, List.getElem_toArray, List.getElem_cons_zero, List.getElem_cons_succ, List.setIfInBounds_toArray, List.set_cons_zero, List.set_cons_succ]
      refine' wpAnyE_take (i := 5) (v := _) rfl (by kernel_rfl) (by kernel_rfl) (by kernel_rfl) (by kernel_rfl) (fun _ _ _ h => h) (Or.inr ⟨by rfl, rfl⟩) hHeld hClosed (fun hNext => ?_)
      clear hClosed
      have hClosed := hNext
      clear hNext
      try simp only [Act.put, List.getElem_toArray, List.getElem_cons_zero, List.getElem_cons_succ, List.setIfInBounds_toArray, List.set_cons_zero, List.set_cons_succ]
      refine' wpAnyE_take (i := 6) (v := _) rfl (by kernel_rfl) (by kernel_rfl) (by kernel_rfl) (by kernel_rfl) (fun _ _ _ h => h) (Or.inr ⟨by rfl, rfl⟩) hHeld hClosed (fun hNext => ?_)
      clear hClosed
      have hClosed := hNext
      clear hNext
      try simp only [Act.put, List.getElem_toArray, List.getElem_cons_zero, List.getElem_cons_succ, List.setIfInBounds_toArray, List.set_cons_zero, List.set_cons_succ]
      refine' wpAnyE_take (i := 7) (v := _) rfl (by kernel_rfl) (by kernel_rfl) (by kernel_rfl) (by kernel_rfl) (fun _ _ _ h => h) (Or.inr ⟨by rfl, rfl⟩) hHeld hClosed (fun hNext => ?_)
      clear hClosed
      have hClosed := hNext
      clear hNext
      try simp only [Act.put, List.getElem_toArray, List.getElem_cons_zero, List.getElem_cons_succ, List.setIfInBounds_toArray, List.set_cons_zero, List.set_cons_succ]
      refine' wpAnyE_take (i := 8) (v := _) rfl (by kernel_rfl) (by kernel_rfl) (by kernel_rfl) (by kernel_rfl) (fun _ _ _ h => h) (Or.inr ⟨by rfl, rfl⟩) hHeld hClosed (fun hNext => ?_)
      clear hClosed
      have hClosed := hNext
      clear hNext
      try simp only [Act.put, List.getElem_toArray, List.getElem_cons_zero, List.getElem_cons_succ, List.setIfInBounds_toArray, List.set_cons_zero, List.set_cons_succ]
      refine' wpAnyE_take (i := 9) (v := _) rfl (by kernel_rfl) (by kernel_rfl) (by kernel_rfl) (by kernel_rfl) (fun _ _ _ h => h) (Or.inr ⟨by rfl, rfl⟩) hHeld hClosed (fun hNext => ?_)
      clear hClosed
      have hClosed := hNext
      clear hNext
      try simp only [Act.put, List.getElem_toArray, List.getElem_cons_zero, List.getElem_cons_succ, List.setIfInBounds_toArray, List.set_cons_zero, List.set_cons_succ]
      refine' wpAnyE_take (i := 10) (v := _) rfl (by kernel_rfl) (by kernel_rfl) (by kernel_rfl) (by kernel_rfl) (fun _ _ _ h => h) (Or.inr ⟨by rfl, rfl⟩) hHeld hClosed (fun hNext => ?_)
      clear hClosed
      have hClosed := hNext
      clear hNext
      try simp only [Act.put, List.getElem_toArray, List.getElem_cons_zero, List.getElem_cons_succ, List.setIfInBounds_toArray, List.set_cons_zero, List.set_cons_succ]
      refine' wpAnyE_take (i := 11) (v := _) rfl (by kernel_rfl) (by kernel_rfl) (by kernel_rfl) (by kernel_rfl) (fun _ _ _ h => h) (Or.inr ⟨by rfl, rfl⟩) hHeld hClosed (fun hNext => ?_)
      clear hClosed
      have hClosed := hNext
      clear hNext
      try simp only [Act.put, List.getElem_toArray, List.getElem_cons_zero, List.getElem_cons_succ, List.setIfInBounds_toArray, List.set_cons_zero, List.set_cons_succ]
      refine' wpAnyE_take (i := 12) (v := _) rfl (by kernel_rfl) (by kernel_rfl) (by kernel_rfl) (by kernel_rfl) (fun _ _ _ h => h) (Or.inr ⟨by rfl, rfl⟩) hHeld hClosed (fun hNext => ?_)
      clear hClosed
      have hClosed := hNext
      clear hNext
      try simp only [Act.put, List.getElem_toArray, List.getElem_cons_zero, List.getElem_cons_succ, List.setIfInBounds_toArray, List.set_cons_zero, List.set_cons_succ]
      refine' wpAnyE_take (i := 13) (v := _) rfl (by kernel_rfl) (by kernel_rfl) (by kernel_rfl) (by kernel_rfl) (fun _ _ _ h => h) (Or.inl ⟨by rfl, fun u hu => ?_⟩) hHeld hClosed (fun hNext => ?_)
      rotate_left
      · (try dsimp only at hu)
        go_simp
        try with_reducible rfl
      clear hClosed
      have hClosed := hNext
      clear hNext
      try simp only [Act.put, List.getElem_toArray, List.getElem_cons_zero, List.getElem_cons_succ, List.setIfInBounds_toArray, List.set_cons_zero, List.set_cons_succ]
      refine wpAnyE_done (by kernel_rfl) ?_ _
      clear hClosed
      go_wp2_with fail
      obtain ⟨wy, hwy⟩ : ∃ u, wr.drew = u := ⟨_, rfl⟩
      have BY : Hid (Below w0.heap.size w0 wy) := Lib.hid (by rw [← hwy]; exact below_same HB.out rfl rfl rfl rfl)
      have BYw : Hid (Below w.heap.size w wy) := Lib.hid (B0.out.trans (BY.out.mono B0.out.size))
      rw [hwy]
      have SBX := SB.out wy.drew (by exact below_same BY.out rfl rfl rfl rfl)
      have HLy := Lib.hid (Lies.up H0.out BY.out)
      have T0 : Hid (Lies wy wy.heap.size _ (prC (L.take L.length))) := Lib.hid (by rw [prC_take]; exact lies_takeN HLy.out _)
      have D0 : Hid (Lies wy wy.heap.size (if c = L.length then A else Option.map (fun x => x.add (L.length * 2)) A) (prC (L.drop L.length))) := Lib.hid (by rw [List.drop_length]; exact Lies.empty)
      clear hwy
      refine wp_region_E (S := fun w' => w'.cell? ⟨w.heap.size, 0, none⟩ = some (.int .i64 a) ∧ w'.cell? ⟨w.heap.size, 1, none⟩ = some (.int .i64 b)) [6, 7, 11, 12] (by kernel_rfl) (SBX) (fun hHeld hClosed => ?_)
      refine' wpAnyE_free (i := 1) (v := _) rfl (by kernel_rfl) (by kernel_rfl) (by kernel_rfl) (fun _ _ _ h => h) (Or.inl ⟨by rfl, fun u _ => ?_⟩) hClosed (fun hNext => ?_)
      rotate_left
      · go_simp
        try with_reducible rfl
      clear hClosed
      have hClosed := hNext
      clear hNext
      try simp only [Act.put, List.getElem_toArray, List.getElem_cons_zero, List.getElem_cons_succ, List.setIfInBounds_toArray, List.set_cons_zero, List.set_cons_succ]
      refine' wpAnyE_free (i := 2) (v := _) rfl (by kernel_rfl) (by kernel_rfl) (by kernel_rfl) (fun _ _ _ h => h) (Or.inl ⟨by rfl, fun u _ => ?_⟩) hClosed (fun hNext => ?_)
      rotate_left
      · go_simp
        try with_reducible rfl
      clear hClosed
      have hClosed := hNext
      clear hNext
      try simp only [Act.put, List.getElem_toArray, List.getElem_cons_zero, List.getElem_cons_succ, List.setIfInBounds_toArray, List.set_cons_zero, List.set_cons_succ]
      refine' wpAnyE_free (i := 3) (v := _) rfl (by kernel_rfl) (by kernel_rfl) (by kernel_rfl) (fun _ _ _ h => h) (Or.inl ⟨by rfl, fun u _ => ?_⟩) hClosed (fun hNext => ?_)
      rotate_left
      · go_simp
        try with_reducible rfl
      clear hClosed
      have hClosed := hNext
      clear hNext
      try simp only [Act.put, List.getElem_toArray, List.getElem_cons_zero, List.getElem_cons_succ, List.setIfInBounds_toArray, List.set_cons_zero, List.set_cons_succ]
      refine' wpAnyE_free (i := 8) (v := _) rfl (by kernel_rfl) (by kernel_rfl) (by kernel_rfl) (fun _ _ _ h => h) (Or.inl ⟨by rfl, fun u _ => ?_⟩) hClosed (fun hNext => ?_)
      rotate_left
      · go_simp
        try with_reducible rfl
      clear hClosed
      have hClosed := hNext
      clear hNext
      try simp only [Act.put, List.getElem_toArray, List.getElem_cons_zero, List.getElem_cons_succ, List.setIfInBounds_toArray, List.set_cons_zero, List.set_cons_succ]
      refine' wpAnyE_free (i := 9) (v := _) rfl (by kernel_rfl) (by kernel_rfl) (by kernel_rfl) (fun _ _ _ h => h) (Or.inl ⟨by rfl, fun u _ => ?_⟩) hClosed (fun hNext => ?_)
      rotate_left
      · go_simp
        try with_reducible rfl
      clear hClosed
      have hClosed := hNext
      clear hNext
      try simp only [Act.put, List.getElem_toArray, List.getElem_cons_zero, List.getElem_cons_succ, List.setIfInBounds_toArray, List.set_cons_zero, List.set_cons_succ]
      refine' wpAnyE_free (i := 10) (v := _) rfl (by kernel_rfl) (by kernel_rfl) (by kernel_rfl) (fun _ _ _ h => h) (Or.inl ⟨by rfl, fun u _ => ?_⟩) hClosed (fun hNext => ?_)
      rotate_left
      · go_simp
        try with_reducible rfl
      clear hClosed
      have hClosed := hNext
      clear hNext
      try simp only [Act.put, List.getElem_toArray, List.getElem_cons_zero, List.getElem_cons_succ, List.setIfInBounds_toArray, List.set_cons_zero, List.set_cons_succ]
      refine' wpAnyE_take (i := 5) (v := _) rfl (by kernel_rfl) (by kernel_rfl) (by kernel_rfl) (by kernel_rfl) (fun _ _ _ h => h) (Or.inl ⟨by rfl, fun u hu => ?_⟩) hHeld hClosed (fun hNext => ?_)
      rotate_left
      · (try dsimp only at hu)
        go_simp
        try with_reducible rfl
      clear hClosed
      have hClosed := hNext
      clear hNext
      try simp only [Act.put, List.getElem_toArray, List.getElem_cons_zero, List.getElem_cons_succ, List.setIfInBounds_toArray, List.set_cons_zero, List.set_cons_succ]
      obtain ⟨AD, hAD⟩ : ∃ x, (if c = L.length then A else Option.map (fun x => x.add (L.length * 2)) A) = x := ⟨_, rfl⟩
      rw [hAD] at D0 ⊢
      clear hAD
      refine wpAnyE_ready (rs := [0, 6]) (by kernel_rfl) (by simp) ?_
      refine AllReadyE.cons rfl (fun K hK => ?_) (AllReadyE.cons rfl (fun K hK => ?_) AllReadyE.nil)
      all_goals simp only [List.getElem_toArray, List.getElem_cons_zero, List.getElem_cons_succ]
      all_goals go_simp
      · have TT := trivial
        refine hK.out _ _ (fun _ => SB.out _ (BY.out.trans ((by exact below_same (below_alloc wy (.cells #[] 37)) rfl rfl rfl rfl : Below wy.heap.size wy (wy.drew.alloc (.cells #[] 37))).mono BY.out.size))) (fun hHeld => ?_) (fun hX => (by first | cases hX | simp at hX))
        replace hClosed := hClosed.step 0 (by kernel_rfl)
        clear hK K
        try simp only [Act.put, List.getElem_toArray, List.getElem_cons_zero, List.getElem_cons_succ, List.setIfInBounds_toArray, List.set_cons_zero, List.set_cons_succ]
        have ON := Lib.hid (OwnN.ofLit (w := wy.drew) (B := wy.heap.size) (e := 37) (size := 2) (n := 0) #[] (Nat.le_refl _) (by decide) rfl)
        have BN : Hid (Below wy.heap.size wy (wy.drew.alloc (.cells #[] 37))) := Lib.hid (by exact below_same (below_alloc wy (.cells #[] 37)) rfl rfl rfl rfl)
        refine wpAnyE_ready (rs := [4, 6]) (by kernel_rfl) (by simp) ?_
        refine AllReadyE.cons rfl (fun K hK => ?_) (AllReadyE.cons rfl (fun K hK => ?_) AllReadyE.nil)
        · have TT := trivial
          refine step_appN prT wy _ wy.heap.size _ (.tmp 22) (.tmp 25) (.slice (some ⟨wy.heap.size, 0, none⟩) 0 0) 0 L.length [] (prC (L.take L.length)) _ _ rfl rfl rfl rfl ON.out (T0.out.below BN.out) (by simp [prC_length]; try omega) (by first | exact prC_one _ | simp [Value.oneCell']) BN.out BN.out.size (by unfold maxLen; omega) (by omega) ?_
          intro v1 w1 o_ b_ g_ e_
          have O1 := Lib.hid o_
          have B1 := Lib.hid b_
          have G1 := Lib.hid g_
          clear o_ b_ g_ e_
          refine hK.out _ _ (fun _ => SB.out _ (BY.out.trans (B1.out.mono BY.out.size))) (fun hHeld => ?_) (fun hX => (by first | cases hX | simp at hX))
          replace hClosed := hClosed.step 4 (by kernel_rfl)
          clear hK K
          try simp only [Act.put, List.getElem_toArray, List.getElem_cons_zero, List.getElem_cons_succ, List.setIfInBounds_toArray, List.set_cons_zero, List.set_cons_succ]
          refine wpAnyE_ready (rs := [6]) (by kernel_rfl) (by simp) ?_
          refine AllReadyE.cons rfl (fun K hK => ?_) AllReadyE.nil
          all_goals simp only [List.getElem_toArray, List.getElem_cons_zero, List.getElem_cons_succ]
          all_goals go_simp
          refine (fun hrest => hK.out _ _ (fun hX => (by first | cases hX | simp at hX)) (fun _ => hrest) (fun _ => hrest)) ?_
          replace hClosed := hClosed.step 6 (by kernel_rfl)
          clear hK K
          try simp only [Act.put, List.getElem_toArray, List.getElem_cons_zero, List.getElem_cons_succ, List.setIfInBounds_toArray, List.set_cons_zero, List.set_cons_succ]
          refine wpAnyE_ready (rs := [7]) (by kernel_rfl) (by simp) ?_
          refine AllReadyE.cons rfl (fun K hK => ?_) AllReadyE.nil
          refine step_appN prT wy _ wy.heap.size _ (.tmp 26) (.tmp 28) _ (0 + L.length) 1 ([] ++ prC (L.take L.length)) [.int .i64 a, .int .i64 b] _ _ rfl rfl rfl rfl (O1.out.alloc _) (Lies.lit (w := w1) (e := 37) #[.int .i64 a, .int .i64 b]) rfl (by first | exact prC_one _ | simp [Value.oneCell']) (B1.out.alloc B1.out.size _) (B1.out.alloc B1.out.size _).size (by unfold maxLen; omega) (by omega) ?_
          intro v2 w2 o_ b_ g_ e_
          have O2 := Lib.hid o_
          have B2 := Lib.hid b_
          have G2 := Lib.hid g_
          clear o_ b_ g_ e_
          refine (fun hrest => hK.out _ _ (fun hX => (by first | cases hX | simp at hX)) (fun _ => hrest) (fun _ => hrest)) ?_
          replace hClosed := hClosed.step 7 (by kernel_rfl)
          clear hK K
          try simp only [Act.put, List.getElem_toArray, List.getElem_cons_zero, List.getElem_cons_succ, List.setIfInBounds_toArray, List.set_cons_zero, List.set_cons_succ]
          refine wpAnyE_ready (rs := [11]) (by kernel_rfl) (by simp) ?_
          refine AllReadyE.cons rfl (fun K hK => ?_) AllReadyE.nil
          refine step_appN prT wy _ wy.heap.size _ (.tmp 29) (.tmp 32) _ (0 + L.length + 1) 0 ([] ++ prC (L.take L.length) ++ [Value.int .i64 a, Value.int .i64 b]) (prC (L.drop L.length)) _ _ rfl rfl rfl rfl O2.out (D0.out.below B2.out) (by simp [prC_length]; try omega) (by first | exact prC_one _ | simp [Value.oneCell']) B2.out B2.out.size (by unfold maxLen; omega) (by omega) ?_
          intro v3 w3 o_ b_ g_ e_
          have O3 := Lib.hid o_
          have B3 := Lib.hid b_
          have G3 := Lib.hid g_
          clear o_ b_ g_ e_
          refine (fun hrest => hK.out _ _ (fun hX => (by first | cases hX | simp at hX)) (fun _ => hrest) (fun _ => hrest)) ?_
          replace hClosed := hClosed.step 11 (by kernel_rfl)
          clear hK K
          try simp only [Act.put, List.getElem_toArray, List.getElem_cons_zero, List.getElem_cons_succ, List.setIfInBounds_toArray, List.set_cons_zero, List.set_cons_succ]
          refine' wpAnyE_free (i := 12) (v := _) rfl (by kernel_rfl) (by kernel_rfl) (by kernel_rfl) (fun _ _ _ h => h) (Or.inl ⟨by rfl, fun u _ => ?_⟩) hClosed (fun hNext => ?_)
          rotate_left
          · go_simp
            try with_reducible rfl
          clear hClosed
          have hClosed := hNext
          clear hNext
          try simp only [Act.put, List.getElem_toArray, List.getElem_cons_zero, List.getElem_cons_succ, List.setIfInBounds_toArray, List.set_cons_zero, List.set_cons_succ]
          refine wpAnyE_done (by kernel_rfl) ?_ _
          clear hClosed
          go_wp2_with fail
          go_ret
          refine ⟨_, rfl, ?_, BYw.out.trans (B3.out.mono BYw.out.size)⟩
          have hp : putP L (a, b) = L.take L.length ++ [(a, b)] ++ L.drop L.length := by rw [putP, show putK L (a, b).1 = L.length from HK.out]
          rw [hp, prC_append, prC_append]
          have hlen : (L.take L.length ++ [(a, b)] ++ L.drop L.length).length = 0 + L.length + 1 + 0 := by simp <;> omega
          rw [hlen]
          exact O3.out.weaken BYw.out.size
        · have TT := trivial
          simp only [List.getElem_toArray, List.getElem_cons_zero, List.getElem_cons_succ]
          go_simp
          refine (fun hrest => hK.out _ _ (fun hX => (by first | cases hX | simp at hX)) (fun _ => hrest) (fun _ => hrest)) ?_
          replace hClosed := hClosed.step 6 (by kernel_rfl)
          clear hK K
          try simp only [Act.put, List.getElem_toArray, List.getElem_cons_zero, List.getElem_cons_succ, List.setIfInBounds_toArray, List.set_cons_zero, List.set_cons_succ]
          have BM := Lib.hid (BN.out.alloc BN.out.size (.cells #[.int .i64 a, .int .i64 b] 37))
          refine wpAnyE_ready (rs := [4]) (by kernel_rfl) (by simp) ?_
          refine AllReadyE.cons rfl (fun K hK => ?_) AllReadyE.nil
          refine step_appN prT wy _ wy.heap.size _ (.tmp 22) (.tmp 25) (.slice (some ⟨wy.heap.size, 0, none⟩) 0 0) 0 L.length [] (prC (L.take L.length)) _ _ rfl rfl rfl rfl (ON.out.alloc _) (T0.out.below BM.out) (by simp [prC_length]; try omega) (by first | exact prC_one _ | simp [Value.oneCell']) BM.out BM.out.size (by unfold maxLen; omega) (by omega) ?_
          intro v1 w1 o_ b_ g_ e_
          have O1 := Lib.hid o_
          have B1 := Lib.hid b_
          have G1 := Lib.hid g_
          clear o_ b_ g_ e_
          refine hK.out _ _ (fun _ => SB.out _ (BY.out.trans (B1.out.mono BY.out.size))) (fun hHeld => ?_) (fun hX => (by first | cases hX | simp at hX))
          replace hClosed := hClosed.step 4 (by kernel_rfl)
          clear hK K
          try simp only [Act.put, List.getElem_toArray, List.getElem_cons_zero, List.getElem_cons_succ, List.setIfInBounds_toArray, List.set_cons_zero, List.set_cons_succ]
          refine wpAnyE_ready (rs := [7]) (by kernel_rfl) (by simp) ?_
          refine AllReadyE.cons rfl (fun K hK => ?_) AllReadyE.nil
          refine step_appN prT wy _ wy.heap.size _ (.tmp 26) (.tmp 28) _ (0 + L.length) 1 ([] ++ prC (L.take L.length)) [.int .i64 a, .int .i64 b] _ _ rfl rfl rfl rfl O1.out (lies_kept2 (g := wy.heap.size + 1) G1.out (by have h_ := Lies.lit (w := wy.drew.alloc (.cells #[] 37)) (e := 37) #[.int .i64 a, .int .i64 b]; rw [show (wy.drew.alloc (.cells #[] 37)).heap.size = wy.heap.size + 1 by simp] at h_; exact h_) rfl (by simp <;> omega) (by simp [Value.ownBlock])) rfl (by first | exact prC_one _ | simp [Value.oneCell']) B1.out B1.out.size (by unfold maxLen; omega) (by omega) ?_
          intro v2 w2 o_ b_ g_ e_
          have O2 := Lib.hid o_
          have B2 := Lib.hid b_
          have G2 := Lib.hid g_
          clear o_ b_ g_ e_
          refine (fun hrest => hK.out _ _ (fun hX => (by first | cases hX | simp at hX)) (fun _ => hrest) (fun _ => hrest)) ?_
          replace hClosed := hClosed.step 7 (by kernel_rfl)
          clear hK K
          try simp only [Act.put, List.getElem_toArray, List.getElem_cons_zero, List.getElem_cons_succ, List.setIfInBounds_toArray, List.set_cons_zero, List.set_cons_succ]
          refine wpAnyE_ready (rs := [11]) (by kernel_rfl) (by simp) ?_
          refine AllReadyE.cons rfl (fun K hK => ?_) AllReadyE.nil
          refine step_appN prT wy _ wy.heap.size _ (.tmp 29) (.tmp 32) _ (0 + L.length + 1) 0 ([] ++ prC (L.take L.length) ++ [Value.int .i64 a, Value.int .i64 b]) (prC (L.drop L.length)) _ _ rfl rfl rfl rfl O2.out (D0.out.below B2.out) (by simp [prC_length]; try omega) (by first | exact prC_one _ | simp [Value.oneCell']) B2.out B2.out.size (by unfold maxLen; omega) (by omega) ?_
          intro v3 w3 o_ b_ g_ e_
          have O3 := Lib.hid o_
          have B3 := Lib.hid b_
          have G3 := Lib.hid g_
          clear o_ b_ g_ e_
          refine (fun hrest => hK.out _ _ (fun hX => (by first | cases hX | simp at hX)) (fun _ => hrest) (fun _ => hrest)) ?_
          replace hClosed := hClosed.step 11 (by kernel_rfl)
          clear hK K
          try simp only [Act.put, List.getElem_toArray, List.getElem_cons_zero, List.getElem_cons_succ, List.setIfInBounds_toArray, List.set_cons_zero, List.set_cons_succ]
          refine' wpAnyE_free (i := 12) (v := _) rfl (by kernel_rfl) (by kernel_rfl) (by kernel_rfl) (fun _ _ _ h => h) (Or.inl ⟨by rfl, fun u _ => ?_⟩) hClosed (fun hNext => ?_)
          rotate_left
          · go_simp
            try with_reducible rfl
          clear hClosed
          have hClosed := hNext
          clear hNext
          try simp only [Act.put, List.getElem_toArray, List.getElem_cons_zero, List.getElem_cons_succ, List.setIfInBounds_toArray, List.set_cons_zero, List.set_cons_succ]
          refine wpAnyE_done (by kernel_rfl) ?_ _
          clear hClosed
          go_wp2_with fail
          go_ret
          refine ⟨_, rfl, ?_, BYw.out.trans (B3.out.mono BYw.out.size)⟩
          have hp : putP L (a, b) = L.take L.length ++ [(a, b)] ++ L.drop L.length := by rw [putP, show putK L (a, b).1 = L.length from HK.out]
          rw [hp, prC_append, prC_append]
          have hlen : (L.take L.length ++ [(a, b)] ++ L.drop L.length).length = 0 + L.length + 1 + 0 := by simp <;> omega
          rw [hlen]
          exact O3.out.weaken BYw.out.size
      · have TT := trivial
        refine (fun hrest => hK.out _ _ (fun hX => (by first | cases hX | simp at hX)) (fun _ => hrest) (fun _ => hrest)) ?_
        replace hClosed := hClosed.step 6 (by kernel_rfl)
        clear hK K
        try simp only [Act.put, List.getElem_toArray, List.getElem_cons_zero, List.getElem_cons_succ, List.setIfInBounds_toArray, List.set_cons_zero, List.set_cons_succ]
        have BN : Hid (Below wy.heap.size wy (wy.drew.alloc (.cells #[.int .i64 a, .int .i64 b] 37))) := Lib.hid (by exact below_same (below_alloc wy (.cells #[.int .i64 a, .int .i64 b] 37)) rfl rfl rfl rfl)
        have BM := Lib.hid (BN.out.alloc BN.out.size (.cells #[] 37))
        have ON : Hid (OwnN ((wy.drew.alloc (.cells #[.int .i64 a, .int .i64 b] 37)).alloc (.cells #[] 37)) wy.heap.size 37 2 (.slice (some ⟨wy.heap.size + 1, 0, none⟩) 0 0) 0 []) := Lib.hid (by
          have h_ := OwnN.ofLit (w := wy.drew.alloc (.cells #[.int .i64 a, .int .i64 b] 37)) (B := wy.heap.size) (e := 37) (size := 2) (n := 0) #[] (by simp) (by decide) rfl
          simpa using h_)
        refine wpAnyE_ready (rs := [0]) (by kernel_rfl) (by simp) ?_
        refine AllReadyE.cons rfl (fun K hK => ?_) AllReadyE.nil
        all_goals simp only [List.getElem_toArray, List.getElem_cons_zero]
        all_goals go_simp
        refine hK.out _ _ (fun _ => SB.out _ (BY.out.trans (BM.out.mono BY.out.size))) (fun hHeld => ?_) (fun hX => (by first | cases hX | simp at hX))
        replace hClosed := hClosed.step 0 (by kernel_rfl)
        clear hK K
        try simp only [Act.put, List.getElem_toArray, List.getElem_cons_zero, List.getElem_cons_succ, List.setIfInBounds_toArray, List.set_cons_zero, List.set_cons_succ]
        refine wpAnyE_ready (rs := [4]) (by kernel_rfl) (by simp) ?_
        refine AllReadyE.cons rfl (fun K hK => ?_) AllReadyE.nil
        refine step_appN prT wy _ wy.heap.size _ (.tmp 22) (.tmp 25) (.slice (some ⟨wy.heap.size + 1, 0, none⟩) 0 0) 0 L.length [] (prC (L.take L.length)) _ _ rfl rfl rfl rfl ON.out (T0.out.below BM.out) (by simp [prC_length]; try omega) (by first | exact prC_one _ | simp [Value.oneCell']) BM.out BM.out.size (by unfold maxLen; omega) (by omega) ?_
        intro v1 w1 o_ b_ g_ e_
        have O1 := Lib.hid o_
        have B1 := Lib.hid b_
        have G1 := Lib.hid g_
        clear o_ b_ g_ e_
        refine hK.out _ _ (fun _ => SB.out _ (BY.out.trans (B1.out.mono BY.out.size))) (fun hHeld => ?_) (fun hX => (by first | cases hX | simp at hX))
        replace hClosed := hClosed.step 4 (by kernel_rfl)
        clear hK K
        try simp only [Act.put, List.getElem_toArray, List.getElem_cons_zero, List.getElem_cons_succ, List.setIfInBounds_toArray, List.set_cons_zero, List.set_cons_succ]
        refine wpAnyE_ready (rs := [7]) (by kernel_rfl) (by simp) ?_
        refine AllReadyE.cons rfl (fun K hK => ?_) AllReadyE.nil
        refine step_appN prT wy _ wy.heap.size _ (.tmp 26) (.tmp 28) _ (0 + L.length) 1 ([] ++ prC (L.take L.length)) [.int .i64 a, .int .i64 b] _ _ rfl rfl rfl rfl O1.out (lies_kept2 (g := wy.heap.size) G1.out ((Lies.lit (w := wy.drew) (e := 37) #[.int .i64 a, .int .i64 b]).alloc (by simp) (.cells #[] 37)) rfl (by simp <;> omega) (by simp [Value.ownBlock])) rfl (by first | exact prC_one _ | simp [Value.oneCell']) B1.out B1.out.size (by unfold maxLen; omega) (by omega) ?_
        intro v2 w2 o_ b_ g_ e_
        have O2 := Lib.hid o_
        have B2 := Lib.hid b_
        have G2 := Lib.hid g_
        clear o_ b_ g_ e_
        refine (fun hrest => hK.out _ _ (fun hX => (by first | cases hX | simp at hX)) (fun _ => hrest) (fun _ => hrest)) ?_
        replace hClosed := hClosed.step 7 (by kernel_rfl)
        clear hK K
        try simp only [Act.put, List.getElem_toArray, List.getElem_cons_zero, List.getElem_cons_succ, List.setIfInBounds_toArray, List.set_cons_zero, List.set_cons_succ]
        refine wpAnyE_ready (rs := [11]) (by kernel_rfl) (by simp) ?_
        refine AllReadyE.cons rfl (fun K hK => ?_) AllReadyE.nil
        refine step_appN prT wy _ wy.heap.size _ (.tmp 29) (.tmp 32) _ (0 + L.length + 1) 0 ([] ++ prC (L.take L.length) ++ [Value.int .i64 a, Value.int .i64 b]) (prC (L.drop L.length)) _ _ rfl rfl rfl rfl O2.out (D0.out.below B2.out) (by simp [prC_length]; try omega) (by first | exact prC_one _ | simp [Value.oneCell']) B2.out B2.out.size (by unfold maxLen; omega) (by omega) ?_
        intro v3 w3 o_ b_ g_ e_
        have O3 := Lib.hid o_
        have B3 := Lib.hid b_
        have G3 := Lib.hid g_
        clear o_ b_ g_ e_
        refine (fun hrest => hK.out _ _ (fun hX => (by first | cases hX | simp at hX)) (fun _ => hrest) (fun _ => hrest)) ?_
        replace hClosed := hClosed.step 11 (by kernel_rfl)
        clear hK K
        try simp only [Act.put, List.getElem_toArray, List.getElem_cons_zero, List.getElem_cons_succ, List.setIfInBounds_toArray, List.set_cons_zero, List.set_cons_succ]
        refine' wpAnyE_free (i := 12) (v := _) rfl (by kernel_rfl) (by kernel_rfl) (by kernel_rfl) (fun _ _ _ h => h) (Or.inl ⟨by rfl, fun u _ => ?_⟩) hClosed (fun hNext => ?_)
        rotate_left
        · go_simp
          try with_reducible rfl
        clear hClosed
        have hClosed := hNext
        clear hNext
        try simp only [Act.put, List.getElem_toArray, List.getElem_cons_zero, List.getElem_cons_succ, List.setIfInBounds_toArray, List.set_cons_zero, List.set_cons_succ]
        refine wpAnyE_done (by kernel_rfl) ?_ _
        clear hClosed
        go_wp2_with fail
        go_ret
        refine ⟨_, rfl, ?_, BYw.out.trans (B3.out.mono BYw.out.size)⟩
        have hp : putP L (a, b) = L.take L.length ++ [(a, b)] ++ L.drop L.length := by rw [putP, show putK L (a, b).1 = L.length from HK.out]
        rw [hp, prC_append, prC_append]
        have hlen : (L.take L.length ++ [(a, b)] ++ L.drop L.length).length = 0 + L.length + 1 + 0 := by simp <;> omega
        rw [hlen]
        exact O3.out.weaken BYw.out.size
end Go.Proofs.Ytoiolgpbecgfkaa
