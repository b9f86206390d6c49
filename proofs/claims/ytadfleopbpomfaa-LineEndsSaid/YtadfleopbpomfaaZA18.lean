/- Shared texts, shaken for one claim. -/
import Derived.Test.YtadfleopbpomfaaZA4
import Derived.Test.YtadfleopbpomfaaZA17
namespace Go.Proofs.Ytadfleopbpomfaa
open Go.RowKit
def setR (l : List Int) (a b : Nat) (s : Int) : List Int := (List.range l.length).map fun k => if a ≤ k ∧ k < b then s else l.getD k 0
theorem setR_length (l : List Int) (a b : Nat) (s : Int) : (setR l a b s).length = l.length := by simp [setR]
theorem setR_get (l : List Int) (a b : Nat) (s : Int) {k : Nat} (h : k < (setR l a b s).length) (h' : k < l.length) : (setR l a b s)[k] = if a ≤ k ∧ k < b then s else l[k] := by
 simp [setR, h']
theorem setR_none (l : List Int) (a : Nat) (s : Int) : setR l a a s = l := by
 apply List.ext_getElem
 ·rw [setR_length]
 ·intro i h1 h2
  rw [setR_get _ _ _ _ h1 h2, if_neg (by omega)]
theorem setR_next (l : List Int) (a b : Nat) (s : Int) (h : a ≤ b) : (setR l a b s).set b s = setR l a (b + 1) s := by
 apply List.ext_getElem
 ·rw [List.length_set, setR_length, setR_length]
 ·intro i h1 h2
  have hl : i < l.length := by rw [setR_length] at h2; exact h2
  rw [List.getElem_set, setR_get _ _ _ _ h2 hl]
  split
  ·rw [if_pos (by omega)]
  ·rw [setR_get _ _ _ _ (by rw [setR_length]; exact hl) hl]
   by_cases hh : a ≤ i ∧ i < b
   ·rw [if_pos hh, if_pos (by omega)]
   ·rw [if_neg hh, if_neg (by omega)]
def marksB (first : List Int) (i : Nat) : Nat := ((first.drop (i + 1)).takeWhile fun c => c == 8).length
theorem marksB_stop (first : List Int) (i m : Nat) (hm : i + 1 + m ≤ first.length) (h : ∀ j (_ : j < m), first.getD (i + 1 + j) 0 = 8) (hs : i + 1 + m = first.length ∨ first.getD (i + 1 + m) 0 ≠ 8) : marksB first i = m := by
 unfold marksB
 obtain ⟨r, hr⟩ : ∃ r, first.drop (i + 1) = r := ⟨_, rfl⟩
 have hg : ∀ j, r.getD j 0 = first.getD (i + 1 + j) 0 := fun j => by
  rw [← hr, List.getD_eq_getElem?_getD, List.getElem?_drop, List.getD_eq_getElem?_getD]
 have hl : r.length = first.length - (i + 1) := by rw [← hr, List.length_drop]
 have h1 : ∀ j, j < m → r.getD j 0 = 8 := fun j hj => by rw [hg]; exact h j hj
 have h2 : m = r.length ∨ r.getD m 0 ≠ 8 := by
  rcases hs with hs | hs
  ·exact .inl (by omega)
  ·exact .inr (by rw [hg]; exact hs)
 have h3 : m ≤ r.length := by omega
 rw [hr]
 clear hr hg hl h hs hm
 induction r generalizing m with
 | nil => simp at h3 ⊢; omega
 | cons x r ih =>
  cases m with
  | zero =>
   rcases h2 with h2 | h2
   ·simp at h2
   ·simp at h2; simp [h2]
  | succ m =>
   have hx : x = 8 := by simpa using h1 0 (by omega)
   subst hx
   rw [List.takeWhile_cons_of_pos (by decide), List.length_cons, ih m (fun j hj => by simpa using h1 (j + 1) (by omega)) ?_ (by simpa using h3)]
   rcases h2 with h2 | h2
   ·exact .inl (by simpa using h2)
   ·exact .inr (by simpa using h2)
def turnL (l first : List Int) (i : Nat) (s : Int) : List Int := setR l i (i + 1 + marksB first i) s
theorem turnL_length (l first : List Int) (i : Nat) (s : Int) : (turnL l first i s).length = l.length := setR_length _ _ _ _
set_option maxRecDepth 20000 in
set_option maxHeartbeats 4000000 in
theorem rturn_any (g c : Nat) (l : List Int) (A' : Option Addr) (first : List Int) (c' : Nat) (i : Nat) (s : Int) (B : Nat) (w : World) (h : Row w B 3 g c (ints .i64 l)) (h' : Lies w B A' (ints .i64 first)) (hl : l.length ≤ 1000000) (he : first.length = l.length) (hi : i < l.length) :
 Calls Try.prog 61 #[.slice (some ⟨g, 0, none⟩) l.length c, .slice A' first.length c', .int .i64 (i : Int), .int .i64 s] w
  fun ed w' => ed = .returned (.tuple #[]) ∧ Row w' B 3 g c (ints .i64 (turnL l first i s)) ∧ Below B w w' ∧ w.grownBy w' (some g) := by
 have H := Lib.hid h
 have H' := Lib.hid h'
 have HE := Lib.hid he
 have hin := h.inside
 obtain ⟨u0, hc0⟩ : ∃ u, w.cell? ⟨g, i, none⟩ = some u := ⟨_, h.cell (by simpa using hi)⟩
 have hf0 := h.free i
 have b0 : (0 : Int) ≤ (i : Int) := by omega
 have b1 : (i : Int) < (l.length : Int) := by omega
 clear h h' he
 go_enter Try.func61, Try.ntmps61
 go_wp2_with (first
  | (refine store_row intsT w B _ _ g i c .i64 s (ints .i64 l) w rfl rfl rfl rfl rfl H.out (by simpa using hi) (Below.refl _ _) ?_; intro w1 r1 b1' g1; rw [ints_set, ← setR_none l i s, setR_next l i i s (Nat.le_refl _)] at r1; have R1 := Lib.hid r1; have B1 := Lib.hid b1'; have G1 := Lib.hid g1; clear r1 b1' g1)
  | fail)
 go_loopw [8] (fun kv wr => ∃ m : Nat, i + 1 + m ≤ l.length ∧ kv = .int .i64 ((i + 1 + m : Nat) : Int) ∧ Hid (∀ j (h : j < m), first.getD (i + 1 + j) 0 = 8) ∧ Row wr B 3 g c (ints .i64 (setR l i (i + 1 + m) s)) ∧ Below B w wr ∧ w.grownBy wr (some g)) (fun kv _ => l.length - (intOf kv).toNat)
 case atStart => exact ⟨0, by omega, by go_num, Lib.hid (fun j h => absurd h (by omega)), R1.out, B1.out, G1.out⟩
 case round =>
  obtain ⟨m, hm, rfl, HM, hr, hb, hg⟩ := hrel
  have HR := Lib.hid hr
  have HB := Lib.hid hb
  have HG := Lib.hid hg
  obtain ⟨k, hk⟩ : ∃ k, i + 1 + m = k := ⟨_, rfl⟩
  have hki : i < k := by omega
  rw [hk] at hm HR ⊢
  have HK := Lib.hid hk
  clear hr hb hg hk
  by_cases hlt : k < l.length
  ·have hlf : k < first.length := by have := HE.out; omega
   obtain ⟨p, hp, _, hc⟩ := (H'.out.below HB.out).int hlf
   subst hp
   obtain ⟨x, hx⟩ : ∃ x, first[k] = x := ⟨_, rfl⟩
   rw [hx] at hc
   have HX : Hid (first.getD k 0 = x) := Lib.hid (by simp [hlf, hx])
   have d0 : (0 : Int) ≤ (k : Int) := by omega
   have d1 : (k : Int) < (l.length : Int) := by omega
   have d2 : (k : Int) < (first.length : Int) := by omega
   clear hx
   rcases h8 : (x == 8) with _ | _
   ·have HS : Hid (turnL l first i s = setR l i k s) := Lib.hid (by
     have h9 := HK.out
     rw [turnL, marksB_stop first i m (by omega) HM.out (.inr (by rw [h9, HX.out]; simpa using h8)), h9])
    go_wp2_with fail
    (try simp only [Exit.inBlock, Exit.then])
    exact bodyPost_end (results_none rfl _ _ _) rfl ⟨rfl, by rw [HS.out]; exact HR.out, HB.out, HG.out⟩
   ·obtain ⟨u1, hc1⟩ : ∃ u, wr.cell? ⟨g, k, none⟩ = some u := ⟨_, HR.out.cell (by simp [setR_length]; omega)⟩
    have hf1 := HR.out.free k
    go_wp2_with (first
     | (refine store_row intsT wr B _ _ g k c .i64 s (ints .i64 (setR l i k s)) w rfl rfl rfl rfl rfl HR.out (by simp [setR_length]; omega) HB.out ?_; intro w2 r2 b2' g2; rw [ints_set, setR_next l i k s (by omega)] at r2; have R2 := Lib.hid r2; have B2 := Lib.hid b2'; have G2 := Lib.hid g2; clear r2 b2' g2)
     | fail)
    go_roundw
    case rel =>
     have h9 := HK.out
     refine ⟨m + 1, by omega, by rw [show i + 1 + (m + 1) = k + 1 by omega]; go_num, Lib.hid (fun j hj => ?_), by rw [show i + 1 + (m + 1) = k + 1 by omega]; exact R2.out, B2.out, HG.out.trans G2.out⟩
     by_cases hjm : j = m
     ·subst hjm; rw [h9, HX.out]; simpa using h8
     ·exact HM.out j (by omega)
    case measure => simp [intOf]; omega
  ·have HS : Hid (turnL l first i s = setR l i k s) := Lib.hid (by
    have h9 := HK.out
    have h10 := HE.out
    rw [turnL, marksB_stop first i m (by omega) HM.out (.inl (by omega)), h9])
   go_wp2_with fail
   (try simp only [Exit.inBlock, Exit.then])
   exact bodyPost_end (results_none rfl _ _ _) rfl ⟨rfl, by rw [HS.out]; exact HR.out, HB.out, HG.out⟩
end Go.Proofs.Ytadfleopbpomfaa
namespace Go.Proofs.Ytadfleopbpomfaa
open Go.RowKit
def putK (L : List (Int × Int)) (x : Int) : Nat := (L.takeWhile fun p => decide (p.1 < x)).length
def putP (L : List (Int × Int)) (p : Int × Int) : List (Int × Int) := L.take (putK L p.1) ++ [p] ++ L.drop (putK L p.1)
theorem putK_le (L : List (Int × Int)) (x : Int) : putK L x ≤ L.length := (List.takeWhile_prefix _).length_le
theorem putK_is (x : Int) : ∀ (L : List (Int × Int)) (k : Nat) (hk : k ≤ L.length), (∀ j (hj : j < k), (L[j]'(by omega)).1 < x) → (k = L.length ∨ ∃ h : k < L.length, ¬ L[k].1 < x) → putK L x = k := by
 intro L
 induction L with
 | nil => intro k hk _ _; simp at hk; subst hk; rfl
 | cons r L ih =>
  intro k hk h1 h2
  cases k with
  | zero =>
   rcases h2 with h2 | ⟨_, h2⟩
   ·simp at h2
   ·unfold putK; simp at h2; simp [h2]
  | succ k =>
   have h0 := h1 0 (by omega)
   simp at h0
   unfold putK
   rw [List.takeWhile_cons_of_pos (by simpa using h0), List.length_cons]
   congr 1
   refine ih k (by simpa using hk) (fun j hj => by simpa using h1 (j + 1) (by omega)) ?_
   rcases h2 with h2 | ⟨h3, h2⟩
   ·exact .inl (by simpa using h2)
   ·exact .inr ⟨by simpa using h3, by simpa using h2⟩
set_option maxRecDepth 20000 in
set_option maxHeartbeats 8000000 in
theorem rput_any (A : Option Addr) (L : List (Int × Int)) (c : Nat) (a b : Int) (w : World) (h : Lies w w.heap.size A (prC L)) (hc : L.length ≤ c) (hl : L.length ≤ 1000000) :
 Calls Try.prog 83 #[.slice A L.length c, .agg #[.int .i64 a, .int .i64 b]] w
  fun ed w' => ∃ v, ed = .returned v ∧ OwnN w' w.heap.size 83 2 v (putP L (a, b)).length (prC (putP L (a, b))) ∧ Below w.heap.size w w' := by
 have H := Lib.hid h
 obtain ⟨w0, hw0⟩ : ∃ u, w.alloc (.cells #[.int .i64 a, .int .i64 b] 83) = u := ⟨_, rfl⟩
 have B0 : Hid (Below w.heap.size w w0) := Lib.hid (hw0 ▸ below_alloc w _)
 have SB : Hid (∀ w', Below w0.heap.size w0 w' → w'.cell? ⟨w.heap.size, 0, none⟩ = some (.int .i64 a) ∧ w'.cell? ⟨w.heap.size, 1, none⟩ = some (.int .i64 b)) := Lib.hid fun w' hb => ⟨boxed (hw0 ▸ hb) rfl, boxed (hw0 ▸ hb) rfl⟩
 have HW := Lib.hid hw0
 have H0 := Lib.hid (h.up B0.out)
 clear h hw0
 go_enter Try.func83, Try.ntmps83
 go_wp2_with fail
 rw [HW.out]
 go_loopw [5] (fun kv wr => ∃ k : Nat, k ≤ L.length ∧ kv = .int .i64 k ∧ Hid (∀ j (_ : j < k) (hl : j < L.length), L[j].1 < a) ∧ Below w0.heap.size w0 wr) (fun kv _ => L.length - (intOf kv).toNat)
 case atStart => exact ⟨0, by omega, rfl, Lib.hid (fun j h => absurd h (by omega)), Below.refl _ _⟩
 case round =>
  obtain ⟨k, hk, rfl, HJ, hb⟩ := hrel
  have HB := Lib.hid hb
  clear hb
  have k0 : (0 : Int) ≤ (k : Int) := by omega
  obtain ⟨s0, s1⟩ := SB.out wr HB.out
  by_cases hlt : k < L.length
  ·have k1 : (k : Int) < (L.length : Int) := by omega
   have k2 : decide (k < L.length) = true := by simpa using hlt
   obtain ⟨g, off, hA, hg, p0, _⟩ := prC_at (Lies.up H0.out HB.out) hlt
   subst hA
   obtain ⟨x, hx⟩ : ∃ x, L[k].1 = x := ⟨_, rfl⟩
   rw [hx] at p0
   have HX := Lib.hid hx
   clear hx
   have hk1 : wr.drew.cell? ⟨g, off + k * 2, none⟩ = some (.int .i64 x) ∧ wr.drew.cell? ⟨w.heap.size, 0, none⟩ = some (.int .i64 a) := ⟨p0, s0⟩
   rcases hxa : decide (x < a) with _ | _
   ·have HK : Hid (putK L a = k) := Lib.hid (putK_is a L k hk (fun j hj => HJ.out j hj (by omega)) (.inr ⟨hlt, by rw [HX.out]; simpa using hxa⟩))
    have SBX0 := And.intro s0 s1
    have hkc : k ≤ c := by omega
    have hkl : k ≤ L.length := by omega
    have hck : ¬ c = k := by omega
    clear s0 s1 p0
    go_wp2_with fail
    refine wp_region_E (S := fun w' => w'.cell? ⟨g, off + k * 2, none⟩ = some (.int .i64 x) ∧ w'.cell? ⟨w.heap.size, 0, none⟩ = some (.int .i64 a)) [] (by kernel_rfl) (hk1) (fun hHeld hZ => ?_)
    refine' eY 0 hHeld hZ fun hZ => ?_
    try simp only [Act.put,ZA,ZB,ZD,ZE,ZF]
    refine' eY 1 hHeld hZ fun hZ => ?_
    try simp only [Act.put,ZA,ZB,ZC,ZD,ZE,ZF]
    refine' eY 2 hHeld hZ fun hZ => ?_
    try simp only [Act.put,ZA,ZB,ZC,ZD,ZE,ZF]
    refine' eY 3 hHeld hZ fun hZ => ?_
    try simp only [Act.put,ZA,ZB,ZC,ZD,ZE,ZF]
    refine' eY 4 hHeld hZ fun hZ => ?_
    try simp only [Act.put,ZA,ZB,ZC,ZD,ZE,ZF]
    refine' eY 5 hHeld hZ fun hZ => ?_
    try simp only [Act.put,ZA,ZB,ZC,ZD,ZE,ZF]
    refine' eY 6 hHeld hZ fun hZ => ?_
    try simp only [Act.put,ZA,ZB,ZC,ZD,ZE,ZF]
    refine' eY 7 hHeld hZ fun hZ => ?_
    try simp only [Act.put,ZA,ZB,ZC,ZD,ZE,ZF]
    refine' eY 8 hHeld hZ fun hZ => ?_
    try simp only [Act.put,ZA,ZB,ZC,ZD,ZE,ZF]
    refine' eY 9 hHeld hZ fun hZ => ?_
    try simp only [Act.put,ZA,ZB,ZC,ZD,ZE,ZF]
    refine' eY 10 hHeld hZ fun hZ => ?_
    try simp only [Act.put,ZA,ZB,ZC,ZD,ZE,ZF]
    refine' eY 11 hHeld hZ fun hZ => ?_
    try simp only [Act.put,ZA,ZB,ZC,ZD,ZE,ZF]
    refine' eY 12 hHeld hZ fun hZ => ?_
    try simp only [Act.put,ZA,ZB,ZC,ZD,ZE,ZF]
    refine' eY 13 hHeld hZ fun hZ => ?_
    try simp only [Act.put,ZA,ZB,ZC,ZD,ZE,ZF]
    refine wpAnyE_done (by kernel_rfl) ?_ _
    clear hZ
    go_wp2_with fail
    obtain ⟨wy, hwy⟩ : ∃ u, wr.drew = u := ⟨_, rfl⟩
    have BY : Hid (Below w0.heap.size w0 wy) := Lib.hid (by rw [← hwy]; exact below_same HB.out rfl rfl rfl rfl)
    have BYw : Hid (Below w.heap.size w wy) := Lib.hid (B0.out.trans (BY.out.mono B0.out.size))
    rw [hwy]
    have SBX := SB.out wy.drew (by exact below_same BY.out rfl rfl rfl rfl)
    have HLy := Lib.hid (Lies.up H0.out BY.out)
    have T0 : Hid (Lies wy wy.heap.size _ (prC (L.take k))) := Lib.hid (by rw [prC_take]; exact lies_takeN HLy.out _)
    have D0 : Hid (Lies wy wy.heap.size (some ⟨g, off + k * 2, none⟩) (prC (L.drop k))) := Lib.hid (by have := lies_dropN HLy.out k c hc; rwa [if_neg hck] at this)
    clear hwy
    refine wp_region_E (S := fun w' => w'.cell? ⟨w.heap.size, 0, none⟩ = some (.int .i64 a) ∧ w'.cell? ⟨w.heap.size, 1, none⟩ = some (.int .i64 b)) [6, 7, 11, 12] (by kernel_rfl) (SBX) (fun hHeld hZ => ?_)
    refine' eX 1 hZ fun hZ => ?_
    try simp only [Act.put,ZA,ZB,ZC,ZD,ZE,ZF]
    refine' eX 2 hZ fun hZ => ?_
    try simp only [Act.put,ZA,ZB,ZC,ZD,ZE,ZF]
    refine' eX 3 hZ fun hZ => ?_
    try simp only [Act.put,ZA,ZB,ZC,ZD,ZE,ZF]
    refine' eX 8 hZ fun hZ => ?_
    try simp only [Act.put,ZA,ZB,ZC,ZD,ZE,ZF]
    refine' eX 9 hZ fun hZ => ?_
    try simp only [Act.put,ZA,ZB,ZC,ZD,ZE,ZF]
    refine' eX 10 hZ fun hZ => ?_
    try simp only [Act.put,ZA,ZB,ZC,ZD,ZE,ZF]
    refine' eY 5 hHeld hZ fun hZ => ?_
    try simp only [Act.put,ZA,ZB,ZC,ZD,ZE,ZF]
    refine wpAnyE_ready (rs := [0, 6]) (by kernel_rfl) (by simp) ?_
    refine AllReadyE.cons rfl (fun K hK => ?_) (AllReadyE.cons rfl (fun K hK => ?_) AllReadyE.nil)
    all_goals simp only [List.getElem_toArray, List.getElem_cons_zero, List.getElem_cons_succ]
    all_goals go_simp
    ·have TT := trivial
     refine eB hK hZ (SB.out _ (BY.out.trans ((by exact below_same (below_alloc wy (.cells #[] 83)) rfl rfl rfl rfl : Below wy.heap.size wy (wy.drew.alloc (.cells #[] 83))).mono BY.out.size))) fun hHeld hZ => ?_
     clear hK K
     try simp only [Act.put,ZA,ZB,ZC,ZD,ZE,ZF]
     have ON := Lib.hid (OwnN.ofLit (w := wy.drew) (B := wy.heap.size) (e := 83) (size := 2) (n := 0) #[] (Nat.le_refl _) (by decide) rfl)
     have BN : Hid (Below wy.heap.size wy (wy.drew.alloc (.cells #[] 83))) := Lib.hid (by exact below_same (below_alloc wy (.cells #[] 83)) rfl rfl rfl rfl)
     refine wpAnyE_ready (rs := [4, 6]) (by kernel_rfl) (by simp) ?_
     refine AllReadyE.cons rfl (fun K hK => ?_) (AllReadyE.cons rfl (fun K hK => ?_) AllReadyE.nil)
     ·have TT := trivial
      refine step_appN prT wy _ wy.heap.size _ (.tmp 22) (.tmp 25) (.slice (some ⟨wy.heap.size, 0, none⟩) 0 0) 0 k [] (prC (L.take k)) _ _ rfl rfl rfl rfl ON.out (T0.out.below BN.out) (by simp [prC_length]; try omega) (by first | exact prC_one _ | simp [Value.oneCell']) BN.out BN.out.size (by unfold maxLen; omega) (by omega) ?_
      intro v1 w1 o_ b_ g_ e_
      have O1 := Lib.hid o_
      have B1 := Lib.hid b_
      have G1 := Lib.hid g_
      clear o_ b_ g_ e_
      refine eB hK hZ (SB.out _ (BY.out.trans (B1.out.mono BY.out.size))) fun hHeld hZ => ?_
      clear hK K
      try simp only [Act.put,ZA,ZB,ZC,ZD,ZE,ZF]
      refine eA 6 fun K hK => ?_
      go_simp
      refine eE hK hZ fun hZ => ?_
      clear hK K
      try simp only [Act.put,ZA,ZB,ZC,ZD,ZE,ZF]
      refine eA 7 fun K hK => ?_
      refine step_appN prT wy _ wy.heap.size _ (.tmp 26) (.tmp 28) _ (0 + k) 1 ([] ++ prC (L.take k)) [.int .i64 a, .int .i64 b] _ _ rfl rfl rfl rfl (O1.out.alloc _) (Lies.lit (w := w1) (e := 83) #[.int .i64 a, .int .i64 b]) rfl (by first | exact prC_one _ | simp [Value.oneCell']) (B1.out.alloc B1.out.size _) (B1.out.alloc B1.out.size _).size (by unfold maxLen; omega) (by omega) ?_
      intro v2 w2 o_ b_ g_ e_
      have O2 := Lib.hid o_
      have B2 := Lib.hid b_
      have G2 := Lib.hid g_
      clear o_ b_ g_ e_
      refine eE hK hZ fun hZ => ?_
      clear hK K
      try simp only [Act.put,ZA,ZB,ZC,ZD,ZE,ZF]
      refine eA 11 fun K hK => ?_
      refine step_appN prT wy _ wy.heap.size _ (.tmp 29) (.tmp 32) _ (0 + k + 1) (L.length - k) ([] ++ prC (L.take k) ++ [Value.int .i64 a, Value.int .i64 b]) (prC (L.drop k)) _ _ rfl rfl rfl rfl O2.out (D0.out.below B2.out) (by simp [prC_length]; try omega) (by first | exact prC_one _ | simp [Value.oneCell']) B2.out B2.out.size (by unfold maxLen; omega) (by omega) ?_
      intro v3 w3 o_ b_ g_ e_
      have O3 := Lib.hid o_
      have B3 := Lib.hid b_
      have G3 := Lib.hid g_
      clear o_ b_ g_ e_
      refine eE hK hZ fun hZ => ?_
      clear hK K
      try simp only [Act.put,ZA,ZB,ZC,ZD,ZE,ZF]
      refine' eX 12 hZ fun hZ => ?_
      try simp only [Act.put,ZA,ZB,ZC,ZD,ZE,ZF]
      refine wpAnyE_done (by kernel_rfl) ?_ _
      clear hZ
      go_wp2_with fail
      go_ret
      refine ⟨_, rfl, ?_, BYw.out.trans (B3.out.mono BYw.out.size)⟩
      have hp : putP L (a, b) = L.take k ++ [(a, b)] ++ L.drop k := by rw [putP, show putK L (a, b).1 = k from HK.out]
      rw [hp, prC_append, prC_append]
      have hlen : (L.take k ++ [(a, b)] ++ L.drop k).length = 0 + k + 1 + (L.length - k) := by simp <;> omega
      rw [hlen]
      exact O3.out.weaken BYw.out.size
     ·have TT := trivial
      simp only [List.getElem_toArray, List.getElem_cons_zero, List.getElem_cons_succ]
      go_simp
      refine eE hK hZ fun hZ => ?_
      clear hK K
      try simp only [Act.put,ZA,ZB,ZC,ZD,ZE,ZF]
      have BM := Lib.hid (BN.out.alloc BN.out.size (.cells #[.int .i64 a, .int .i64 b] 83))
      refine eA 4 fun K hK => ?_
      refine step_appN prT wy _ wy.heap.size _ (.tmp 22) (.tmp 25) (.slice (some ⟨wy.heap.size, 0, none⟩) 0 0) 0 k [] (prC (L.take k)) _ _ rfl rfl rfl rfl (ON.out.alloc _) (T0.out.below BM.out) (by simp [prC_length]; try omega) (by first | exact prC_one _ | simp [Value.oneCell']) BM.out BM.out.size (by unfold maxLen; omega) (by omega) ?_
      intro v1 w1 o_ b_ g_ e_
      have O1 := Lib.hid o_
      have B1 := Lib.hid b_
      have G1 := Lib.hid g_
      clear o_ b_ g_ e_
      refine eB hK hZ (SB.out _ (BY.out.trans (B1.out.mono BY.out.size))) fun hHeld hZ => ?_
      clear hK K
      try simp only [Act.put,ZA,ZB,ZC,ZD,ZE,ZF]
      refine eA 7 fun K hK => ?_
      refine step_appN prT wy _ wy.heap.size _ (.tmp 26) (.tmp 28) _ (0 + k) 1 ([] ++ prC (L.take k)) [.int .i64 a, .int .i64 b] _ _ rfl rfl rfl rfl O1.out (lies_kept2 (g := wy.heap.size + 1) G1.out (by have h_ := Lies.lit (w := wy.drew.alloc (.cells #[] 83)) (e := 83) #[.int .i64 a, .int .i64 b]; rw [show (wy.drew.alloc (.cells #[] 83)).heap.size = wy.heap.size + 1 by simp] at h_; exact h_) rfl (by simp <;> omega) (by simp [Value.ownBlock])) rfl (by first | exact prC_one _ | simp [Value.oneCell']) B1.out B1.out.size (by unfold maxLen; omega) (by omega) ?_
      intro v2 w2 o_ b_ g_ e_
      have O2 := Lib.hid o_
      have B2 := Lib.hid b_
      have G2 := Lib.hid g_
      clear o_ b_ g_ e_
      refine eE hK hZ fun hZ => ?_
      clear hK K
      try simp only [Act.put,ZA,ZB,ZC,ZD,ZE,ZF]
      refine eA 11 fun K hK => ?_
      refine step_appN prT wy _ wy.heap.size _ (.tmp 29) (.tmp 32) _ (0 + k + 1) (L.length - k) ([] ++ prC (L.take k) ++ [Value.int .i64 a, Value.int .i64 b]) (prC (L.drop k)) _ _ rfl rfl rfl rfl O2.out (D0.out.below B2.out) (by simp [prC_length]; try omega) (by first | exact prC_one _ | simp [Value.oneCell']) B2.out B2.out.size (by unfold maxLen; omega) (by omega) ?_
      intro v3 w3 o_ b_ g_ e_
      have O3 := Lib.hid o_
      have B3 := Lib.hid b_
      have G3 := Lib.hid g_
      clear o_ b_ g_ e_
      refine eE hK hZ fun hZ => ?_
      clear hK K
      try simp only [Act.put,ZA,ZB,ZC,ZD,ZE,ZF]
      refine' eX 12 hZ fun hZ => ?_
      try simp only [Act.put,ZA,ZB,ZC,ZD,ZE,ZF]
      refine wpAnyE_done (by kernel_rfl) ?_ _
      clear hZ
      go_wp2_with fail
      go_ret
      refine ⟨_, rfl, ?_, BYw.out.trans (B3.out.mono BYw.out.size)⟩
      have hp : putP L (a, b) = L.take k ++ [(a, b)] ++ L.drop k := by rw [putP, show putK L (a, b).1 = k from HK.out]
      rw [hp, prC_append, prC_append]
      have hlen : (L.take k ++ [(a, b)] ++ L.drop k).length = 0 + k + 1 + (L.length - k) := by simp <;> omega
      rw [hlen]
      exact O3.out.weaken BYw.out.size
    ·have TT := trivial
     refine eE hK hZ fun hZ => ?_
     clear hK K
     try simp only [Act.put,ZA,ZB,ZC,ZD,ZE,ZF]
     have BN : Hid (Below wy.heap.size wy (wy.drew.alloc (.cells #[.int .i64 a, .int .i64 b] 83))) := Lib.hid (by exact below_same (below_alloc wy (.cells #[.int .i64 a, .int .i64 b] 83)) rfl rfl rfl rfl)
     have BM := Lib.hid (BN.out.alloc BN.out.size (.cells #[] 83))
     have ON : Hid (OwnN ((wy.drew.alloc (.cells #[.int .i64 a, .int .i64 b] 83)).alloc (.cells #[] 83)) wy.heap.size 83 2 (.slice (some ⟨wy.heap.size + 1, 0, none⟩) 0 0) 0 []) := Lib.hid (by
      have h_ := OwnN.ofLit (w := wy.drew.alloc (.cells #[.int .i64 a, .int .i64 b] 83)) (B := wy.heap.size) (e := 83) (size := 2) (n := 0) #[] (by simp) (by decide) rfl
      simpa using h_)
     refine eA 0 fun K hK => ?_
     go_simp
     refine eB hK hZ (SB.out _ (BY.out.trans (BM.out.mono BY.out.size))) fun hHeld hZ => ?_
     clear hK K
     try simp only [Act.put,ZA,ZB,ZC,ZD,ZE,ZF]
     refine eA 4 fun K hK => ?_
     refine step_appN prT wy _ wy.heap.size _ (.tmp 22) (.tmp 25) (.slice (some ⟨wy.heap.size + 1, 0, none⟩) 0 0) 0 k [] (prC (L.take k)) _ _ rfl rfl rfl rfl ON.out (T0.out.below BM.out) (by simp [prC_length]; try omega) (by first | exact prC_one _ | simp [Value.oneCell']) BM.out BM.out.size (by unfold maxLen; omega) (by omega) ?_
     intro v1 w1 o_ b_ g_ e_
     have O1 := Lib.hid o_
     have B1 := Lib.hid b_
     have G1 := Lib.hid g_
     clear o_ b_ g_ e_
     refine eB hK hZ (SB.out _ (BY.out.trans (B1.out.mono BY.out.size))) fun hHeld hZ => ?_
     clear hK K
     try simp only [Act.put,ZA,ZB,ZC,ZD,ZE,ZF]
     refine eA 7 fun K hK => ?_
     refine step_appN prT wy _ wy.heap.size _ (.tmp 26) (.tmp 28) _ (0 + k) 1 ([] ++ prC (L.take k)) [.int .i64 a, .int .i64 b] _ _ rfl rfl rfl rfl O1.out (lies_kept2 (g := wy.heap.size) G1.out ((Lies.lit (w := wy.drew) (e := 83) #[.int .i64 a, .int .i64 b]).alloc (by simp) (.cells #[] 83)) rfl (by simp <;> omega) (by simp [Value.ownBlock])) rfl (by first | exact prC_one _ | simp [Value.oneCell']) B1.out B1.out.size (by unfold maxLen; omega) (by omega) ?_
     intro v2 w2 o_ b_ g_ e_
     have O2 := Lib.hid o_
     have B2 := Lib.hid b_
     have G2 := Lib.hid g_
     clear o_ b_ g_ e_
     refine eE hK hZ fun hZ => ?_
     clear hK K
     try simp only [Act.put,ZA,ZB,ZC,ZD,ZE,ZF]
     refine eA 11 fun K hK => ?_
     refine step_appN prT wy _ wy.heap.size _ (.tmp 29) (.tmp 32) _ (0 + k + 1) (L.length - k) ([] ++ prC (L.take k) ++ [Value.int .i64 a, Value.int .i64 b]) (prC (L.drop k)) _ _ rfl rfl rfl rfl O2.out (D0.out.below B2.out) (by simp [prC_length]; try omega) (by first | exact prC_one _ | simp [Value.oneCell']) B2.out B2.out.size (by unfold maxLen; omega) (by omega) ?_
     intro v3 w3 o_ b_ g_ e_
     have O3 := Lib.hid o_
     have B3 := Lib.hid b_
     have G3 := Lib.hid g_
     clear o_ b_ g_ e_
     refine eE hK hZ fun hZ => ?_
     clear hK K
     try simp only [Act.put,ZA,ZB,ZC,ZD,ZE,ZF]
     refine' eX 12 hZ fun hZ => ?_
     try simp only [Act.put,ZA,ZB,ZC,ZD,ZE,ZF]
     refine wpAnyE_done (by kernel_rfl) ?_ _
     clear hZ
     go_wp2_with fail
     go_ret
     refine ⟨_, rfl, ?_, BYw.out.trans (B3.out.mono BYw.out.size)⟩
     have hp : putP L (a, b) = L.take k ++ [(a, b)] ++ L.drop k := by rw [putP, show putK L (a, b).1 = k from HK.out]
     rw [hp, prC_append, prC_append]
     have hlen : (L.take k ++ [(a, b)] ++ L.drop k).length = 0 + k + 1 + (L.length - k) := by simp <;> omega
     rw [hlen]
     exact O3.out.weaken BYw.out.size
   ·clear s0 s1 p0
    go_wp2_with fail
    refine wp_region_E (S := fun w' => w'.cell? ⟨g, off + k * 2, none⟩ = some (.int .i64 x) ∧ w'.cell? ⟨w.heap.size, 0, none⟩ = some (.int .i64 a)) [] (by kernel_rfl) (hk1) (fun hHeld hZ => ?_)
    refine' eY 0 hHeld hZ fun hZ => ?_
    try simp only [Act.put,ZA,ZB,ZD,ZE,ZF]
    refine' eY 1 hHeld hZ fun hZ => ?_
    try simp only [Act.put,ZA,ZB,ZC,ZD,ZE,ZF]
    refine' eY 2 hHeld hZ fun hZ => ?_
    try simp only [Act.put,ZA,ZB,ZC,ZD,ZE,ZF]
    refine' eY 3 hHeld hZ fun hZ => ?_
    try simp only [Act.put,ZA,ZB,ZC,ZD,ZE,ZF]
    refine' eY 4 hHeld hZ fun hZ => ?_
    try simp only [Act.put,ZA,ZB,ZC,ZD,ZE,ZF]
    refine' eY 5 hHeld hZ fun hZ => ?_
    try simp only [Act.put,ZA,ZB,ZC,ZD,ZE,ZF]
    refine' eY 6 hHeld hZ fun hZ => ?_
    try simp only [Act.put,ZA,ZB,ZC,ZD,ZE,ZF]
    refine' eY 7 hHeld hZ fun hZ => ?_
    try simp only [Act.put,ZA,ZB,ZC,ZD,ZE,ZF]
    refine' eY 8 hHeld hZ fun hZ => ?_
    try simp only [Act.put,ZA,ZB,ZC,ZD,ZE,ZF]
    refine' eY 9 hHeld hZ fun hZ => ?_
    try simp only [Act.put,ZA,ZB,ZC,ZD,ZE,ZF]
    refine' eY 10 hHeld hZ fun hZ => ?_
    try simp only [Act.put,ZA,ZB,ZC,ZD,ZE,ZF]
    refine' eY 11 hHeld hZ fun hZ => ?_
    try simp only [Act.put,ZA,ZB,ZC,ZD,ZE,ZF]
    refine' eY 12 hHeld hZ fun hZ => ?_
    try simp only [Act.put,ZA,ZB,ZC,ZD,ZE,ZF]
    refine' eY 13 hHeld hZ fun hZ => ?_
    try simp only [Act.put,ZA,ZB,ZC,ZD,ZE,ZF]
    refine wpAnyE_done (by kernel_rfl) ?_ _
    clear hZ
    go_wp2_with fail
    go_roundw
    case rel =>
     refine ⟨k + 1, by omega, by go_num, Lib.hid (fun j hj hl => ?_), by exact below_same HB.out rfl rfl rfl rfl⟩
     by_cases hjk : j = k
     ·subst hjk; rw [HX.out]; simpa using hxa
     ·exact HJ.out j (by omega) hl
    case measure => simp [intOf]; omega
  ·have k2 : decide (k < L.length) = false := by simp <;> omega
   obtain rfl : k = L.length := by omega
   have HK : Hid (putK L a = L.length) := Lib.hid (putK_is a L L.length hk (fun j hj => HJ.out j hj hj) (.inl rfl))
   have SBX0 := And.intro s0 s1
   have hkc : L.length ≤ c := by omega
   clear s0 s1
   go_wp2_with fail
   refine wp_region_E (S := fun _ => True) [] (by kernel_rfl) (trivial) (fun hHeld hZ => ?_)
   refine' eY 0 hHeld hZ fun hZ => ?_
   try simp only [Act.put,ZA,ZB,ZD,ZE,ZF]
   refine' eY 1 hHeld hZ fun hZ => ?_
   try simp only [Act.put,ZA,ZB,ZC,ZD,ZE,ZF]
   refine' eY 2 hHeld hZ fun hZ => ?_
   try simp only [Act.put,ZA,ZB,ZC,ZD,ZE,ZF]
   refine' eY 3 hHeld hZ fun hZ => ?_
   try simp only [Act.put,ZA,ZB,ZC,ZD,ZE,ZF]
   refine' eY 4 hHeld hZ fun hZ => ?_
   try simp only [Act.put,ZA,ZB,ZC,ZD,ZE,ZF]
   refine' eN 5 hZ fun hZ => ?_
   try simp only [Act.put,ZA,ZB,ZC,ZD,ZE,ZF]
   refine' eN 6 hZ fun hZ => ?_
   try simp only [Act.put,ZA,ZB,ZC,ZD,ZE,ZF]
   refine' eN 7 hZ fun hZ => ?_
   try simp only [Act.put,ZA,ZB,ZC,ZD,ZE,ZF]
   refine' eN 8 hZ fun hZ => ?_
   try simp only [Act.put,ZA,ZB,ZC,ZD,ZE,ZF]
   refine' eN 9 hZ fun hZ => ?_
   try simp only [Act.put,ZA,ZB,ZC,ZD,ZE,ZF]
   refine' eN 10 hZ fun hZ => ?_
   try simp only [Act.put,ZA,ZB,ZC,ZD,ZE,ZF]
   refine' eN 11 hZ fun hZ => ?_
   try simp only [Act.put,ZA,ZB,ZC,ZD,ZE,ZF]
   refine' eN 12 hZ fun hZ => ?_
   try simp only [Act.put,ZA,ZB,ZC,ZD,ZE,ZF]
   refine' eY 13 hHeld hZ fun hZ => ?_
   try simp only [Act.put,ZA,ZB,ZC,ZD,ZE,ZF]
   refine wpAnyE_done (by kernel_rfl) ?_ _
   clear hZ
   go_wp2_with fail
   obtain ⟨wy, hwy⟩ : ∃ u, wr.drew = u := ⟨_, rfl⟩
   have BY : Hid (Below w0.heap.size w0 wy) := Lib.hid (by rw [← hwy]; exact below_same HB.out rfl rfl rfl rfl)
   have BYw : Hid (Below w.heap.size w wy) := Lib.hid (B0.out.trans (BY.out.mono B0.out.size))
   rw [hwy]
   have SBX := SB.out wy.drew (by exact below_same BY.out rfl rfl rfl rfl)
   have HLy := Lib.hid (Lies.up H0.out BY.out)
   have T0 : Hid (Lies wy wy.heap.size _ (prC (L.take L.length))) := Lib.hid (by rw [prC_take]; exact lies_takeN HLy.out _)
   have D0 : Hid (Lies wy wy.heap.size (if c = L.length then A else Option.map (fun x => x.add (L.length * 2)) A) (prC (L.drop L.length))) := Lib.hid (by rw [List.drop_length]; exact Lies.empty)
   clear hwy
   refine wp_region_E (S := fun w' => w'.cell? ⟨w.heap.size, 0, none⟩ = some (.int .i64 a) ∧ w'.cell? ⟨w.heap.size, 1, none⟩ = some (.int .i64 b)) [6, 7, 11, 12] (by kernel_rfl) (SBX) (fun hHeld hZ => ?_)
   refine' eX 1 hZ fun hZ => ?_
   try simp only [Act.put,ZA,ZB,ZC,ZD,ZE,ZF]
   refine' eX 2 hZ fun hZ => ?_
   try simp only [Act.put,ZA,ZB,ZC,ZD,ZE,ZF]
   refine' eX 3 hZ fun hZ => ?_
   try simp only [Act.put,ZA,ZB,ZC,ZD,ZE,ZF]
   refine' eX 8 hZ fun hZ => ?_
   try simp only [Act.put,ZA,ZB,ZC,ZD,ZE,ZF]
   refine' eX 9 hZ fun hZ => ?_
   try simp only [Act.put,ZA,ZB,ZC,ZD,ZE,ZF]
   refine' eX 10 hZ fun hZ => ?_
   try simp only [Act.put,ZA,ZB,ZC,ZD,ZE,ZF]
   refine' eY 5 hHeld hZ fun hZ => ?_
   try simp only [Act.put,ZA,ZB,ZC,ZD,ZE,ZF]
   obtain ⟨AD, hAD⟩ : ∃ x, (if c = L.length then A else Option.map (fun x => x.add (L.length * 2)) A) = x := ⟨_, rfl⟩
   rw [hAD] at D0 ⊢
   clear hAD
   refine wpAnyE_ready (rs := [0, 6]) (by kernel_rfl) (by simp) ?_
   refine AllReadyE.cons rfl (fun K hK => ?_) (AllReadyE.cons rfl (fun K hK => ?_) AllReadyE.nil)
   all_goals simp only [List.getElem_toArray, List.getElem_cons_zero, List.getElem_cons_succ]
   all_goals go_simp
   ·have TT := trivial
    refine eB hK hZ (SB.out _ (BY.out.trans ((by exact below_same (below_alloc wy (.cells #[] 83)) rfl rfl rfl rfl : Below wy.heap.size wy (wy.drew.alloc (.cells #[] 83))).mono BY.out.size))) fun hHeld hZ => ?_
    clear hK K
    try simp only [Act.put,ZA,ZB,ZC,ZD,ZE,ZF]
    have ON := Lib.hid (OwnN.ofLit (w := wy.drew) (B := wy.heap.size) (e := 83) (size := 2) (n := 0) #[] (Nat.le_refl _) (by decide) rfl)
    have BN : Hid (Below wy.heap.size wy (wy.drew.alloc (.cells #[] 83))) := Lib.hid (by exact below_same (below_alloc wy (.cells #[] 83)) rfl rfl rfl rfl)
    refine wpAnyE_ready (rs := [4, 6]) (by kernel_rfl) (by simp) ?_
    refine AllReadyE.cons rfl (fun K hK => ?_) (AllReadyE.cons rfl (fun K hK => ?_) AllReadyE.nil)
    ·have TT := trivial
     refine step_appN prT wy _ wy.heap.size _ (.tmp 22) (.tmp 25) (.slice (some ⟨wy.heap.size, 0, none⟩) 0 0) 0 L.length [] (prC (L.take L.length)) _ _ rfl rfl rfl rfl ON.out (T0.out.below BN.out) (by simp [prC_length]; try omega) (by first | exact prC_one _ | simp [Value.oneCell']) BN.out BN.out.size (by unfold maxLen; omega) (by omega) ?_
     intro v1 w1 o_ b_ g_ e_
     have O1 := Lib.hid o_
     have B1 := Lib.hid b_
     have G1 := Lib.hid g_
     clear o_ b_ g_ e_
     refine eB hK hZ (SB.out _ (BY.out.trans (B1.out.mono BY.out.size))) fun hHeld hZ => ?_
     clear hK K
     try simp only [Act.put,ZA,ZB,ZC,ZD,ZE,ZF]
     refine eA 6 fun K hK => ?_
     go_simp
     refine eE hK hZ fun hZ => ?_
     clear hK K
     try simp only [Act.put,ZA,ZB,ZC,ZD,ZE,ZF]
     refine eA 7 fun K hK => ?_
     refine step_appN prT wy _ wy.heap.size _ (.tmp 26) (.tmp 28) _ (0 + L.length) 1 ([] ++ prC (L.take L.length)) [.int .i64 a, .int .i64 b] _ _ rfl rfl rfl rfl (O1.out.alloc _) (Lies.lit (w := w1) (e := 83) #[.int .i64 a, .int .i64 b]) rfl (by first | exact prC_one _ | simp [Value.oneCell']) (B1.out.alloc B1.out.size _) (B1.out.alloc B1.out.size _).size (by unfold maxLen; omega) (by omega) ?_
     intro v2 w2 o_ b_ g_ e_
     have O2 := Lib.hid o_
     have B2 := Lib.hid b_
     have G2 := Lib.hid g_
     clear o_ b_ g_ e_
     refine eE hK hZ fun hZ => ?_
     clear hK K
     try simp only [Act.put,ZA,ZB,ZC,ZD,ZE,ZF]
     refine eA 11 fun K hK => ?_
     refine step_appN prT wy _ wy.heap.size _ (.tmp 29) (.tmp 32) _ (0 + L.length + 1) 0 ([] ++ prC (L.take L.length) ++ [Value.int .i64 a, Value.int .i64 b]) (prC (L.drop L.length)) _ _ rfl rfl rfl rfl O2.out (D0.out.below B2.out) (by simp [prC_length]; try omega) (by first | exact prC_one _ | simp [Value.oneCell']) B2.out B2.out.size (by unfold maxLen; omega) (by omega) ?_
     intro v3 w3 o_ b_ g_ e_
     have O3 := Lib.hid o_
     have B3 := Lib.hid b_
     have G3 := Lib.hid g_
     clear o_ b_ g_ e_
     refine eE hK hZ fun hZ => ?_
     clear hK K
     try simp only [Act.put,ZA,ZB,ZC,ZD,ZE,ZF]
     refine' eX 12 hZ fun hZ => ?_
     try simp only [Act.put,ZA,ZB,ZC,ZD,ZE,ZF]
     refine wpAnyE_done (by kernel_rfl) ?_ _
     clear hZ
     go_wp2_with fail
     go_ret
     refine ⟨_, rfl, ?_, BYw.out.trans (B3.out.mono BYw.out.size)⟩
     have hp : putP L (a, b) = L.take L.length ++ [(a, b)] ++ L.drop L.length := by rw [putP, show putK L (a, b).1 = L.length from HK.out]
     rw [hp, prC_append, prC_append]
     have hlen : (L.take L.length ++ [(a, b)] ++ L.drop L.length).length = 0 + L.length + 1 + 0 := by simp <;> omega
     rw [hlen]
     exact O3.out.weaken BYw.out.size
    ·have TT := trivial
     simp only [List.getElem_toArray, List.getElem_cons_zero, List.getElem_cons_succ]
     go_simp
     refine eE hK hZ fun hZ => ?_
     clear hK K
     try simp only [Act.put,ZA,ZB,ZC,ZD,ZE,ZF]
     have BM := Lib.hid (BN.out.alloc BN.out.size (.cells #[.int .i64 a, .int .i64 b] 83))
     refine eA 4 fun K hK => ?_
     refine step_appN prT wy _ wy.heap.size _ (.tmp 22) (.tmp 25) (.slice (some ⟨wy.heap.size, 0, none⟩) 0 0) 0 L.length [] (prC (L.take L.length)) _ _ rfl rfl rfl rfl (ON.out.alloc _) (T0.out.below BM.out) (by simp [prC_length]; try omega) (by first | exact prC_one _ | simp [Value.oneCell']) BM.out BM.out.size (by unfold maxLen; omega) (by omega) ?_
     intro v1 w1 o_ b_ g_ e_
     have O1 := Lib.hid o_
     have B1 := Lib.hid b_
     have G1 := Lib.hid g_
     clear o_ b_ g_ e_
     refine eB hK hZ (SB.out _ (BY.out.trans (B1.out.mono BY.out.size))) fun hHeld hZ => ?_
     clear hK K
     try simp only [Act.put,ZA,ZB,ZC,ZD,ZE,ZF]
     refine eA 7 fun K hK => ?_
     refine step_appN prT wy _ wy.heap.size _ (.tmp 26) (.tmp 28) _ (0 + L.length) 1 ([] ++ prC (L.take L.length)) [.int .i64 a, .int .i64 b] _ _ rfl rfl rfl rfl O1.out (lies_kept2 (g := wy.heap.size + 1) G1.out (by have h_ := Lies.lit (w := wy.drew.alloc (.cells #[] 83)) (e := 83) #[.int .i64 a, .int .i64 b]; rw [show (wy.drew.alloc (.cells #[] 83)).heap.size = wy.heap.size + 1 by simp] at h_; exact h_) rfl (by simp <;> omega) (by simp [Value.ownBlock])) rfl (by first | exact prC_one _ | simp [Value.oneCell']) B1.out B1.out.size (by unfold maxLen; omega) (by omega) ?_
     intro v2 w2 o_ b_ g_ e_
     have O2 := Lib.hid o_
     have B2 := Lib.hid b_
     have G2 := Lib.hid g_
     clear o_ b_ g_ e_
     refine eE hK hZ fun hZ => ?_
     clear hK K
     try simp only [Act.put,ZA,ZB,ZC,ZD,ZE,ZF]
     refine eA 11 fun K hK => ?_
     refine step_appN prT wy _ wy.heap.size _ (.tmp 29) (.tmp 32) _ (0 + L.length + 1) 0 ([] ++ prC (L.take L.length) ++ [Value.int .i64 a, Value.int .i64 b]) (prC (L.drop L.length)) _ _ rfl rfl rfl rfl O2.out (D0.out.below B2.out) (by simp [prC_length]; try omega) (by first | exact prC_one _ | simp [Value.oneCell']) B2.out B2.out.size (by unfold maxLen; omega) (by omega) ?_
     intro v3 w3 o_ b_ g_ e_
     have O3 := Lib.hid o_
     have B3 := Lib.hid b_
     have G3 := Lib.hid g_
     clear o_ b_ g_ e_
     refine eE hK hZ fun hZ => ?_
     clear hK K
     try simp only [Act.put,ZA,ZB,ZC,ZD,ZE,ZF]
     refine' eX 12 hZ fun hZ => ?_
     try simp only [Act.put,ZA,ZB,ZC,ZD,ZE,ZF]
     refine wpAnyE_done (by kernel_rfl) ?_ _
     clear hZ
     go_wp2_with fail
     go_ret
     refine ⟨_, rfl, ?_, BYw.out.trans (B3.out.mono BYw.out.size)⟩
     have hp : putP L (a, b) = L.take L.length ++ [(a, b)] ++ L.drop L.length := by rw [putP, show putK L (a, b).1 = L.length from HK.out]
     rw [hp, prC_append, prC_append]
     have hlen : (L.take L.length ++ [(a, b)] ++ L.drop L.length).length = 0 + L.length + 1 + 0 := by simp <;> omega
     rw [hlen]
     exact O3.out.weaken BYw.out.size
   ·have TT := trivial
    refine eE hK hZ fun hZ => ?_
    clear hK K
    try simp only [Act.put,ZA,ZB,ZC,ZD,ZE,ZF]
    have BN : Hid (Below wy.heap.size wy (wy.drew.alloc (.cells #[.int .i64 a, .int .i64 b] 83))) := Lib.hid (by exact below_same (below_alloc wy (.cells #[.int .i64 a, .int .i64 b] 83)) rfl rfl rfl rfl)
    have BM := Lib.hid (BN.out.alloc BN.out.size (.cells #[] 83))
    have ON : Hid (OwnN ((wy.drew.alloc (.cells #[.int .i64 a, .int .i64 b] 83)).alloc (.cells #[] 83)) wy.heap.size 83 2 (.slice (some ⟨wy.heap.size + 1, 0, none⟩) 0 0) 0 []) := Lib.hid (by
     have h_ := OwnN.ofLit (w := wy.drew.alloc (.cells #[.int .i64 a, .int .i64 b] 83)) (B := wy.heap.size) (e := 83) (size := 2) (n := 0) #[] (by simp) (by decide) rfl
     simpa using h_)
    refine eA 0 fun K hK => ?_
    go_simp
    refine eB hK hZ (SB.out _ (BY.out.trans (BM.out.mono BY.out.size))) fun hHeld hZ => ?_
    clear hK K
    try simp only [Act.put,ZA,ZB,ZC,ZD,ZE,ZF]
    refine eA 4 fun K hK => ?_
    refine step_appN prT wy _ wy.heap.size _ (.tmp 22) (.tmp 25) (.slice (some ⟨wy.heap.size + 1, 0, none⟩) 0 0) 0 L.length [] (prC (L.take L.length)) _ _ rfl rfl rfl rfl ON.out (T0.out.below BM.out) (by simp [prC_length]; try omega) (by first | exact prC_one _ | simp [Value.oneCell']) BM.out BM.out.size (by unfold maxLen; omega) (by omega) ?_
    intro v1 w1 o_ b_ g_ e_
    have O1 := Lib.hid o_
    have B1 := Lib.hid b_
    have G1 := Lib.hid g_
    clear o_ b_ g_ e_
    refine eB hK hZ (SB.out _ (BY.out.trans (B1.out.mono BY.out.size))) fun hHeld hZ => ?_
    clear hK K
    try simp only [Act.put,ZA,ZB,ZC,ZD,ZE,ZF]
    refine eA 7 fun K hK => ?_
    refine step_appN prT wy _ wy.heap.size _ (.tmp 26) (.tmp 28) _ (0 + L.length) 1 ([] ++ prC (L.take L.length)) [.int .i64 a, .int .i64 b] _ _ rfl rfl rfl rfl O1.out (lies_kept2 (g := wy.heap.size) G1.out ((Lies.lit (w := wy.drew) (e := 83) #[.int .i64 a, .int .i64 b]).alloc (by simp) (.cells #[] 83)) rfl (by simp <;> omega) (by simp [Value.ownBlock])) rfl (by first | exact prC_one _ | simp [Value.oneCell']) B1.out B1.out.size (by unfold maxLen; omega) (by omega) ?_
    intro v2 w2 o_ b_ g_ e_
    have O2 := Lib.hid o_
    have B2 := Lib.hid b_
    have G2 := Lib.hid g_
    clear o_ b_ g_ e_
    refine eE hK hZ fun hZ => ?_
    clear hK K
    try simp only [Act.put,ZA,ZB,ZC,ZD,ZE,ZF]
    refine eA 11 fun K hK => ?_
    refine step_appN prT wy _ wy.heap.size _ (.tmp 29) (.tmp 32) _ (0 + L.length + 1) 0 ([] ++ prC (L.take L.length) ++ [Value.int .i64 a, Value.int .i64 b]) (prC (L.drop L.length)) _ _ rfl rfl rfl rfl O2.out (D0.out.below B2.out) (by simp [prC_length]; try omega) (by first | exact prC_one _ | simp [Value.oneCell']) B2.out B2.out.size (by unfold maxLen; omega) (by omega) ?_
    intro v3 w3 o_ b_ g_ e_
    have O3 := Lib.hid o_
    have B3 := Lib.hid b_
    have G3 := Lib.hid g_
    clear o_ b_ g_ e_
    refine eE hK hZ fun hZ => ?_
    clear hK K
    try simp only [Act.put,ZA,ZB,ZC,ZD,ZE,ZF]
    refine' eX 12 hZ fun hZ => ?_
    try simp only [Act.put,ZA,ZB,ZC,ZD,ZE,ZF]
    refine wpAnyE_done (by kernel_rfl) ?_ _
    clear hZ
    go_wp2_with fail
    go_ret
    refine ⟨_, rfl, ?_, BYw.out.trans (B3.out.mono BYw.out.size)⟩
    have hp : putP L (a, b) = L.take L.length ++ [(a, b)] ++ L.drop L.length := by rw [putP, show putK L (a, b).1 = L.length from HK.out]
    rw [hp, prC_append, prC_append]
    have hlen : (L.take L.length ++ [(a, b)] ++ L.drop L.length).length = 0 + L.length + 1 + 0 := by simp <;> omega
    rw [hlen]
    exact O3.out.weaken BYw.out.size
end Go.Proofs.Ytadfleopbpomfaa
