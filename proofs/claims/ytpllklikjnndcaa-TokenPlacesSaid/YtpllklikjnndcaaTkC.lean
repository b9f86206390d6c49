/- Layer 15: the reader's escape, item, upTo. -/
import Derived.Test.YtpllklikjnndcaaTkB
namespace Go.Proofs.Ytpllklikjnndcaa
open Go.RowKit

set_option maxHeartbeats 1000000 in
theorem tkesc_any (w : World) (b c k : Nat) (A : Option Addr) (l : List Int) (tv : Value) (T : List Tok) (h : IsR w b A l c k tv T) (hl : l.length ≤ 1000) (fr : Nat) :
    Calls Try.prog 24 #[.pointer (some ⟨b, 0, none⟩), .int .i64 fr] w (Told w b A l c tv T (fun t : Tok => .agg t.arr) (escT l fr k)) := by
  obtain ⟨w0, hw0⟩ : ∃ u, w.alloc (.cells #[.int .i64 0, .int .i64 0, .int .i64 0, .int .i64 0, .int .i64 0] 30) = u := ⟨_, rfl⟩
  have X0 : Hid (Box w0 w.heap.size noTok.arr 30) := Lib.hid (hw0 ▸ Box.new w _ _)
  have G0 : Hid (w.grownBy w0 none) := Lib.hid (hw0 ▸ grown_new w _ _)
  have H0 : Hid (IsR w0 b A l c k tv T) := Lib.hid (h.grown G0.out)
  have hbw := h.lt
  have HO : Hid (∀ g, w.heap.size ≤ g → tv.ownBlock ≠ some g) := Lib.hid fun g hg => h.old hg
  have HW0 := Lib.hid hw0
  have hc := tknext_any w0 b c k A l tv T H0.out hl
  unfold escT
  clear h hw0
  rcases hn : nxT l k with ⟨n, x⟩ | ⟨x, k'⟩
  · rw [hn] at hc
    have HC := Lib.hid hc
    clear hc hn
    go_enter Try.func24, Try.ntmps24
    go_wp2_with fail
    rw [HW0.out]
    refine HC.out.mono ?_
    rintro e w1 ⟨rfl, g1⟩
    have G1 := Lib.hid ((grown_any G0.out (some b)).trans g1)
    clear g1
    go_wp2_with fail
    exact ⟨rfl, rfl, G1.out⟩
  · rw [hn] at hc
    have HC := Lib.hid hc
    clear hc hn
    simp only
    rcases he : escI x with _ | ⟨z, g⟩
    · have HV : Hid (escV x = .tuple #[.int .i64 0, .bool false, .bool false]) := Lib.hid (by unfold escV; rw [he])
      clear he
      go_enter Try.func24, Try.ntmps24
      go_wp2_with fail
      rw [HW0.out]
      refine HC.out.mono ?_
      rintro e w1 ⟨rfl, h1, g1⟩
      have G1 := Lib.hid ((grown_any G0.out (some b)).trans g1)
      clear g1 h1
      go_wp2_with fail
      refine (tkescape_any x w1).mono ?_
      rintro e wq ⟨rfl, rfl⟩
      rw [HV.out]
      go_wp2_with fail
      exact ⟨rfl, rfl, G1.out⟩
    · have HV : Hid (escV x = .tuple #[.int .i64 z, .bool g, .bool true]) := Lib.hid (by unfold escV; rw [he])
      clear he
      cases g
      · go_enter Try.func24, Try.ntmps24
        go_wp2_with fail
        rw [HW0.out]
        refine HC.out.mono ?_
        rintro e w1 ⟨rfl, h1, g1⟩
        have G1 := Lib.hid ((grown_any G0.out (some b)).trans g1)
        have H1 := Lib.hid h1
        have X1 := Lib.hid (X0.out.kept g1 (by simp; omega))
        clear g1 h1
        go_wp2_with fail
        refine (tkescape_any x w1).mono ?_
        rintro e wq ⟨rfl, rfl⟩
        rw [HV.out]
        go_wp2_with fail
        refine (tkchar_any z w1).mono ?_
        rintro e w2 ⟨rfl, g2⟩
        have G2 := Lib.hid (G1.out.trans (grown_any g2 _))
        have H2 := Lib.hid (H1.out.grown g2)
        have X2 := Lib.hid (X1.out.kept g2 (by simp))
        clear g2
        go_wp2_with (first
          | (refine store_tok w2 _ _ w.heap.size noTok (chT z) rfl rfl rfl rfl rfl X2.out ?_; intro w3 x3 g3; have X3 := Lib.hid x3; have G3 := Lib.hid g3; clear x3 g3)
          | fail)
        (try simp only [Exit.inBlock, Exit.then])
        exact bodyPost_ret (v := .agg (chT z).arr) (ret_tok rfl _ _ w.heap.size _ rfl X3.out) rfl ⟨rfl, H2.out.new G3.out hbw (HO.out _ (Nat.le_refl _)), grown_two G2.out G3.out (Nat.le_refl _)⟩
      · go_enter Try.func24, Try.ntmps24
        go_wp2_with fail
        rw [HW0.out]
        refine HC.out.mono ?_
        rintro e w1 ⟨rfl, h1, g1⟩
        have G1 := Lib.hid ((grown_any G0.out (some b)).trans g1)
        have H1 := Lib.hid h1
        have X1 := Lib.hid (X0.out.kept g1 (by simp; omega))
        clear g1 h1
        go_wp2_with fail
        refine (tkescape_any x w1).mono ?_
        rintro e wq ⟨rfl, rfl⟩
        rw [HV.out]
        go_wp2_with (first
          | (refine store_tok w1 _ _ w.heap.size noTok ⟨12, z, 0, 0, 0⟩ rfl rfl rfl rfl rfl X1.out ?_; intro w3 x3 g3; have X3 := Lib.hid x3; have G3 := Lib.hid g3; clear x3 g3)
          | fail)
        (try simp only [Exit.inBlock, Exit.then])
        exact bodyPost_ret (v := .agg (⟨12, z, 0, 0, 0⟩ : Tok).arr) (ret_tok rfl _ _ w.heap.size _ rfl X3.out) rfl ⟨rfl, H1.out.new G3.out hbw (HO.out _ (Nat.le_refl _)), grown_two G1.out G3.out (Nat.le_refl _)⟩

set_option maxHeartbeats 1000000 in
theorem tkitem_any (w : World) (b c k : Nat) (A : Option Addr) (l : List Int) (tv : Value) (T : List Tok) (h : IsR w b A l c k tv T) (hl : l.length ≤ 1000) :
    Calls Try.prog 27 #[.pointer (some ⟨b, 0, none⟩)] w (Told w b A l c tv T (fun t : Tok => .agg t.arr) (itemT l k)) := by
  obtain ⟨w0, hw0⟩ : ∃ u, w.alloc (.cells #[.int .i64 0, .int .i64 0, .int .i64 0, .int .i64 0, .int .i64 0] 30) = u := ⟨_, rfl⟩
  have X0 : Hid (Box w0 w.heap.size noTok.arr 30) := Lib.hid (hw0 ▸ Box.new w _ _)
  have G0 : Hid (w.grownBy w0 none) := Lib.hid (hw0 ▸ grown_new w _ _)
  have H0 : Hid (IsR w0 b A l c k tv T) := Lib.hid (h.grown G0.out)
  have hbw := h.lt
  have HO : Hid (∀ g, w.heap.size ≤ g → tv.ownBlock ≠ some g) := Lib.hid fun g hg => h.old hg
  have HW0 := Lib.hid hw0
  have hc := tknext_any w0 b c k A l tv T H0.out hl
  obtain ⟨c0, c1, c2⟩ := h.cells
  unfold itemT
  clear h hw0
  rcases hn : nxT l k with ⟨n, x⟩ | ⟨x, k'⟩
  · rw [hn] at hc
    have HC := Lib.hid hc
    clear hc hn
    go_enter Try.func27, Try.ntmps27
    go_wp2_with fail
    rw [HW0.out]
    refine HC.out.mono ?_
    rintro e w1 ⟨rfl, g1⟩
    have G1 := Lib.hid ((grown_any G0.out (some b)).trans g1)
    clear g1
    go_wp2_with fail
    exact ⟨rfl, rfl, G1.out⟩
  · rw [hn] at hc
    have HC := Lib.hid hc
    clear hc hn
    simp only
    by_cases h92 : x = 92
    · rw [if_pos h92]
      have d92 : (x != 92) = false := by simpa using h92
      clear h92
      go_enter Try.func27, Try.ntmps27
      go_wp2_with fail
      rw [HW0.out]
      refine HC.out.mono ?_
      rintro e w1 ⟨rfl, h1, g1⟩
      have G1 := Lib.hid ((grown_any G0.out (some b)).trans g1)
      have X1 := Lib.hid (X0.out.kept g1 (by simp; omega))
      have he := tkesc_any w1 b c k' A l tv T h1 hl k
      have Z1 : Hid (w.heap.size ≤ w1.heap.size) := Lib.hid G1.out.size
      clear g1 h1
      rcases hr : escT l k k' with ⟨n, y⟩ | ⟨t, k2⟩
      · rw [hr] at he
        have HE := Lib.hid he
        have HR := Lib.hid hr
        clear he hr
        go_wp2_with fail
        refine HE.out.mono ?_
        rintro e w2 ⟨rfl, g2⟩
        have G2 := Lib.hid (G1.out.trans g2)
        clear g2
        go_wp2_with fail
        exact ⟨rfl, by rw [HR.out]; exact ⟨rfl, G2.out⟩⟩
      · rw [hr] at he
        have HE := Lib.hid he
        have HR := Lib.hid hr
        clear he hr
        go_wp2_with fail
        refine HE.out.mono ?_
        rintro e w2 ⟨rfl, h2, g2⟩
        have G2 := Lib.hid (G1.out.trans g2)
        have H2 := Lib.hid h2
        have X2 := Lib.hid (X1.out.kept g2 (by simp; omega))
        clear g2 h2
        go_wp2_with (first
          | (refine store_tok w2 _ _ w.heap.size noTok t rfl rfl rfl rfl rfl X2.out ?_; intro w3 x3 g3; have X3 := Lib.hid x3; have G3 := Lib.hid g3; clear x3 g3)
          | fail)
        (try simp only [Exit.inBlock, Exit.then])
        exact bodyPost_ret (v := .agg t.arr) (ret_tok rfl _ _ w.heap.size _ rfl X3.out) rfl (by rw [HR.out]; exact ⟨rfl, H2.out.new G3.out hbw (HO.out _ (Nat.le_refl _)), grown_two G2.out G3.out (Nat.le_refl _)⟩)
    · rw [if_neg h92]
      have d92 : (x != 92) = true := by simpa using h92
      clear h92
      go_enter Try.func27, Try.ntmps27
      go_wp2_with fail
      rw [HW0.out]
      refine HC.out.mono ?_
      rintro e w1 ⟨rfl, h1, g1⟩
      have G1 := Lib.hid ((grown_any G0.out (some b)).trans g1)
      have H1 := Lib.hid h1
      have X1 := Lib.hid (X0.out.kept g1 (by simp; omega))
      clear g1 h1
      go_wp2_with fail
      refine (tkchar_any x w1).mono ?_
      rintro e w2 ⟨rfl, g2⟩
      have G2 := Lib.hid (G1.out.trans (grown_any g2 _))
      have H2 := Lib.hid (H1.out.grown g2)
      have X2 := Lib.hid (X1.out.kept g2 (by simp))
      clear g2
      go_wp2_with (first
        | (refine store_tok w2 _ _ w.heap.size noTok (chT x) rfl rfl rfl rfl rfl X2.out ?_; intro w3 x3 g3; have X3 := Lib.hid x3; have G3 := Lib.hid g3; clear x3 g3)
        | fail)
      (try simp only [Exit.inBlock, Exit.then])
      exact bodyPost_ret (v := .agg (chT x).arr) (ret_tok rfl _ _ w.heap.size _ rfl X3.out) rfl ⟨rfl, H2.out.new G3.out hbw (HO.out _ (Nat.le_refl _)), grown_two G2.out G3.out (Nat.le_refl _)⟩

theorem Box.field {w : World} {g : Nat} {t : Tok} {e : TypeId} (h : Box w g t.arr e) : w.cell? ⟨g, 0, none⟩ = some (.int .i64 t.k) ∧ w.cell? ⟨g, 1, none⟩ = some (.int .i64 t.c) := ⟨h.cell rfl, h.cell rfl⟩
set_option maxHeartbeats 1000000 in
theorem tkup_any (w : World) (b c k : Nat) (A : Option Addr) (l : List Int) (tv : Value) (T : List Tok) (h : IsR w b A l c k tv T) (hl : l.length ≤ 1000) (low : Int) (fr : Nat) :
    Calls Try.prog 28 #[.pointer (some ⟨b, 0, none⟩), .int .i64 low, .int .i64 fr] w (Told w b A l c tv T (fun t : Tok => .agg t.arr) (upT l low fr k)) := by
  obtain ⟨w0, hw0⟩ : ∃ u, w.alloc (.cells #[.int .i64 0, .int .i64 0, .int .i64 0, .int .i64 0, .int .i64 0] 30) = u := ⟨_, rfl⟩
  have X0 : Hid (Box w0 w.heap.size noTok.arr 30) := Lib.hid (hw0 ▸ Box.new w _ _)
  have G0 : Hid (w.grownBy w0 none) := Lib.hid (hw0 ▸ grown_new w _ _)
  have H0 : Hid (IsR w0 b A l c k tv T) := Lib.hid (h.grown G0.out)
  have hbw := h.lt
  have HO : Hid (∀ g, w.heap.size ≤ g → tv.ownBlock ≠ some g) := Lib.hid fun g hg => h.old hg
  have HW0 := Lib.hid hw0
  have hc := tkitem_any w0 b c k A l tv T H0.out hl
  obtain ⟨c0, c1, c2⟩ := h.cells
  unfold upT
  clear h hw0
  rcases hn : itemT l k with ⟨n, x⟩ | ⟨t, k'⟩
  · rw [hn] at hc
    have HC := Lib.hid hc
    clear hc hn
    go_enter Try.func28, Try.ntmps28
    go_wp2_with fail
    rw [HW0.out]
    refine HC.out.mono ?_
    rintro e w1 ⟨rfl, g1⟩
    have G1 := Lib.hid ((grown_any G0.out (some b)).trans g1)
    clear g1
    go_wp2_with fail
    exact ⟨rfl, rfl, G1.out⟩
  · rw [hn] at hc
    have HC := Lib.hid hc
    clear hc hn
    simp only
    by_cases h12 : t.k = 12
    · rw [if_pos h12]
      have d12 : (t.k == 12) = true := by simpa using h12
      have D12 := Lib.hid d12
      clear h12 d12
      go_enter Try.func28, Try.ntmps28
      go_wp2_with fail
      rw [HW0.out]
      refine HC.out.mono ?_
      rintro e w1 ⟨rfl, h1, g1⟩
      have G1 := Lib.hid ((grown_any G0.out (some b)).trans g1)
      clear g1 h1
      have d12 := D12.out
      go_wp2_with fail
      exact ⟨rfl, rfl, G1.out.trans (grown_new w1 _ _)⟩
    · rw [if_neg h12]
      have d12 : (t.k == 12) = false := by simpa using h12
      clear h12
      by_cases hlt : t.c < low
      · rw [if_pos hlt]
        have dlt : decide (t.c < low) = true := by simpa using hlt
        clear hlt
        go_enter Try.func28, Try.ntmps28
        go_wp2_with fail
        rw [HW0.out]
        refine HC.out.mono ?_
        rintro e w1 ⟨rfl, h1, g1⟩
        have G1 := Lib.hid ((grown_any G0.out (some b)).trans g1)
        clear g1 h1
        go_wp2_with fail
        exact ⟨rfl, rfl, G1.out.trans (grown_new w1 _ _)⟩
      · rw [if_neg hlt]
        have dlt : decide (t.c < low) = false := by simpa using hlt
        clear hlt
        go_enter Try.func28, Try.ntmps28
        go_wp2_with fail
        rw [HW0.out]
        refine HC.out.mono ?_
        rintro e w1 ⟨rfl, h1, g1⟩
        have G1 := Lib.hid ((grown_any G0.out (some b)).trans g1)
        have H1 := Lib.hid h1
        have X1 := Lib.hid (X0.out.kept g1 (by simp; omega))
        clear g1 h1
        go_wp2_with (first
          | (refine store_tok _ _ _ w.heap.size noTok ⟨9, 0, low, t.c, 0⟩ rfl rfl rfl rfl rfl (X1.out.kept (grown_new w1 _ none) (by simp)) ?_; intro w3 x3 g3; have X3 := Lib.hid x3; have G3 := Lib.hid g3; clear x3 g3)
          | fail)
        (try simp only [Exit.inBlock, Exit.then])
        exact bodyPost_ret (v := .agg (⟨9, 0, low, t.c, 0⟩ : Tok).arr) (ret_tok rfl _ _ w.heap.size _ rfl X3.out) rfl ⟨rfl, (H1.out.grown (grown_new w1 _ none)).new G3.out hbw (HO.out _ (Nat.le_refl _)), grown_two (G1.out.trans (grown_new w1 _ _)) G3.out (Nat.le_refl _)⟩
end Go.Proofs.Ytpllklikjnndcaa
