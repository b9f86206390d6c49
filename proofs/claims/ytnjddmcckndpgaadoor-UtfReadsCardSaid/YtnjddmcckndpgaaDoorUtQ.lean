/- The document's own Decode and Valid. -/
import Derived.Test.YtnjddmcckndpgaaDoorUtP
import Derived.Test.YtnjddmcckndpgaaDoorUtI
namespace Go.Proofs.YtnjddmcckndpgaaDoor
open Go.RowKit

theorem byt_width (l : List UInt8) (hn : ¬ ((Lib.decodeL l).1 = 65533 ∧ (Lib.decodeL l).2 = 1)) : (bytL ((Lib.decodeL l).1 : Int)).length = (Lib.decodeL l).2 := by
  obtain ⟨h1, h2⟩ := dec_ok l
  have h3 : ((Lib.decodeL l).2 : Int) = szCh ((Lib.decodeL l).1 : Int) := by
    rcases h2 with h2 | h2
    · exact h2
    · exact absurd h2 hn
  rw [szCh_len _ h1] at h3
  simp only [bytL, h1, if_true]
  omega

set_option maxHeartbeats 400000 in
theorem rdecode_long (A : Option Addr) (l : List UInt8) (c : Nat) (w : World) (hl : 4000 < l.length) (hm : l.length ≤ 9223372036854775807) :
    Calls Tryd.prog 10 #[.slice A l.length c] w (Rowed3 w w.heap.size 3 [] [] 2) := by
  go_enter Tryd.func10, Tryd.ntmps10
  go_wp2
  go_ret3
  exact ⟨_, _, rfl, Own.empty _ _ _, Own.empty _ _ _, Below.refl _ _⟩

set_option maxHeartbeats 3000000 in
theorem rdecode_any (A : Option Addr) (l : List UInt8) (c : Nat) (w : World) (h : Lies w w.heap.size A (ints .u8 (u8s l))) (hc : l.length ≤ c) (hl : l.length ≤ 4000) :
    Calls Tryd.prog 10 #[.slice A l.length c] w (Rowed3 w w.heap.size 3 (ints .i64 (decC l)) (ints .i64 (decA l)) 0) := by
  have H := Lib.hid h
  clear h
  go_enter Tryd.func10, Tryd.ntmps10
  go_wp2
  go_loopw [5, 6, 7] (fun v1 v2 i wr => ∃ (pos : Nat) (done : List (Int × Int)), i = .int .i64 pos ∧ Own wr w.heap.size 3 v1 (ints .i64 (done.map (·.1))) ∧ Own wr w.heap.size 3 v2 (ints .i64 (done.map (·.2))) ∧ Apart v1 v2 ∧ Below w.heap.size w wr ∧ Hid (done ++ decAt pos (l.drop pos) = decAt 0 l) ∧ pos ≤ l.length ∧ done.length ≤ pos) (fun _ _ i _ => l.length - (intOf i).toNat)
  case atStart => exact ⟨0, [], rfl, Own.empty _ _ _, Own.empty _ _ _, Apart.nil_left, Below.refl _ _, rfl, by omega, by simp⟩
  case round =>
    obtain ⟨pos, done, rfl, ho1, ho2, hap, hb, HS, hp, hd⟩ := hrel
    have hB := hb.size
    by_cases hps : pos < l.length
    · obtain ⟨b, off, rfl, hbl, _⟩ := H.out.plainInts (by simp; omega)
      have hne : l.drop pos ≠ [] := by
        intro e
        have := congrArg List.length e
        rw [List.length_drop] at this
        simp at this; omega
      have LF := Lib.hid ((Lies.from (H.out.below hb) pos).wider hB)
      have HF := Lib.hid (firstL_dec _ hne)
      have hle := width_le_len _ hne
      rw [List.length_drop] at hle
      have hw1 := Lib.decodeL_width (l.drop pos)
      have hrn := Lib.decodeL_rune (l.drop pos)
      have HBW := Lib.hid (byt_width (l.drop pos))
      have HN : Hid ((done ++ [(((Lib.decodeL (l.drop pos)).1 : Int), (pos : Int))]) ++ decAt (pos + (Lib.decodeL (l.drop pos)).2) (l.drop (pos + (Lib.decodeL (l.drop pos)).2)) = decAt 0 l) := by
        show _ = _
        rw [← HS.out, decAt_step pos _ hne, List.append_assoc, List.singleton_append, List.drop_drop]
      obtain ⟨r, hr⟩ : ∃ r, (Lib.decodeL (l.drop pos)).1 = r := ⟨_, rfl⟩
      obtain ⟨k, hk⟩ : ∃ k, (Lib.decodeL (l.drop pos)).2 = k := ⟨_, rfl⟩
      rw [hr, hk] at HF HN HBW
      rw [hk] at hle hw1
      rw [hr] at hrn
      have Q1 := Lib.hid ho1
      have Q2 := Lib.hid ho2
      have QB := Lib.hid hb
      have ldl : (l.drop pos).length = l.length - pos := by rw [List.length_drop]
      have LDL := Lib.hid ldl
      have hdl : (ints .i64 (done.map (·.1))).length ≤ 4000 := by simp; omega
      have hdl2 : (ints .i64 (done.map (·.2))).length ≤ 4000 := by simp; omega
      clear hr hk ho1 ho2 hb hne ldl
      have i0 : (0 : Int) ≤ (pos : Int) := by omega
      have i1 : (pos : Int) < (l.length : Int) := by omega
      have i2 : (pos : Int) ≤ (l.length : Int) := by omega
      have i3 : ¬ c = pos := by omega
      have i4 : pos ≤ l.length := by omega
      by_cases herr : r = 65533 ∧ k = 1
      · obtain ⟨rfl, rfl⟩ := herr
        have HC : Hid (firstL (l.drop pos) = -1) := by show _ = _; rw [HF.out, if_pos ⟨rfl, rfl⟩]
        have fst : ∀ W, Lies W W.heap.size (some ⟨b, off + pos, none⟩) (ints .u8 (u8s (l.drop pos))) → Calls Tryd.prog 22 #[.slice (some ⟨b, off + pos, none⟩) (l.length - pos) (c - pos)] W fun e w' => e = .returned (.int .i64 (-1)) ∧ Below W.heap.size W w' := fun W hW => by
          have := first_any (some ⟨b, off + pos, none⟩) (l.drop pos) (c - pos) W hW (by rw [LDL.out]; omega) (by rw [LDL.out]; omega) (by intro e; have := congrArg List.length e; rw [LDL.out] at this; simp at this; omega)
          rw [LDL.out, HC.out] at this; exact this
        have FST := Lib.hid fst
        clear fst
        go_wp2_with (first
          | (go_at_call 22; refine (FST.out _ LF.out).mono ?_; rintro e w1 ⟨rfl, b1⟩
             have q1 := Lib.hid (Q1.out.below b1 (Nat.le_refl _))
             have q2 := Lib.hid (Q2.out.below b1 (Nat.le_refl _))
             have b1' := Lib.hid (QB.out.trans (b1.mono hB))
             have s1 := Nat.le_trans hB b1.size
             clear b1 Q1 Q2)
          | (at_builtin; refine app_lit intsT w _ w.heap.size _ _ _ _ _ _ rfl rfl rfl rfl q2.out (by simp [Value.oneCell']) b1'.out s1 (by unfold maxLen; simp only [List.size_toArray, List.length_cons, List.length_nil]; omega) (by simp only [List.size_toArray, List.length_cons, List.length_nil]; omega) ?_; intro v2' w2 o2 b2 g2 l2
             have p1 := Lib.hid (Own.keep q1.out g2 hap)
             have ap2 := (hap.symm.grow q1.out l2)
             have p2 := Lib.hid o2
             have B2 := Lib.hid b2
             have s2 := b2.size
             clear o2 g2 l2 b2 q2)
          | (at_builtin; refine app_lit intsT w _ w.heap.size _ _ _ _ _ _ rfl rfl rfl rfl p1.out (by simp [Value.oneCell']) B2.out s2 (by unfold maxLen; simp only [List.size_toArray, List.length_cons, List.length_nil]; omega) (by simp only [List.size_toArray, List.length_cons, List.length_nil]; omega) ?_; intro v1' w3 o3 b3 g3 l3))
        have p2' := Own.keep p2.out g3 ap2
        have ap3 := (ap2.symm.grow p2.out l3)
        go_roundw
        case rel => exact ⟨pos + 1, _, by go_num, by simpa [ints] using o3, by simpa [ints] using p2', ap3, b3, HN, by omega, by simp; omega⟩
        case measure => simp [intOf]; omega
      · have HC : Hid (firstL (l.drop pos) = (r : Int)) := by show _ = _; rw [HF.out, if_neg herr]
        have HK : Hid ((bytL (r : Int)).length = k) := HBW.out herr
        have fst : ∀ W, Lies W W.heap.size (some ⟨b, off + pos, none⟩) (ints .u8 (u8s (l.drop pos))) → Calls Tryd.prog 22 #[.slice (some ⟨b, off + pos, none⟩) (l.length - pos) (c - pos)] W fun e w' => e = .returned (.int .i64 (r : Int)) ∧ Below W.heap.size W w' := fun W hW => by
          have := first_any (some ⟨b, off + pos, none⟩) (l.drop pos) (c - pos) W hW (by rw [LDL.out]; omega) (by rw [LDL.out]; omega) (by intro e; have := congrArg List.length e; rw [LDL.out] at this; simp at this; omega)
          rw [LDL.out, HC.out] at this; exact this
        have FST := Lib.hid fst
        have r0 : (0 : Int) ≤ (r : Int) := by omega
        have r1 : (r : Int) ≤ 1114111 := by omega
        clear fst
        go_wp2_with (first
          | (go_at_call 22; refine (FST.out _ LF.out).mono ?_; rintro e w1 ⟨rfl, b1⟩
             have q1 := Lib.hid (Q1.out.below b1 (Nat.le_refl _))
             have q2 := Lib.hid (Q2.out.below b1 (Nat.le_refl _))
             have b1' := Lib.hid (QB.out.trans (b1.mono hB))
             have s1 := Nat.le_trans hB b1.size
             clear b1 Q1 Q2)
          | (at_builtin; refine app_lit intsT w _ w.heap.size _ _ _ _ _ _ rfl rfl rfl rfl q2.out (by simp [Value.oneCell']) b1'.out s1 (by unfold maxLen; simp only [List.size_toArray, List.length_cons, List.length_nil]; omega) (by simp only [List.size_toArray, List.length_cons, List.length_nil]; omega) ?_; intro v2' w2 o2 b2 g2 l2
             have p1 := Lib.hid (Own.keep q1.out g2 hap)
             have ap2 := (hap.symm.grow q1.out l2)
             have p2 := Lib.hid o2
             have B2 := Lib.hid b2
             have s2 := b2.size
             clear o2 g2 l2 b2 q2)
          | (at_builtin; refine app_lit intsT w _ w.heap.size _ _ _ _ _ _ rfl rfl rfl rfl p1.out (by simp [Value.oneCell']) B2.out s2 (by unfold maxLen; simp only [List.size_toArray, List.length_cons, List.length_nil]; omega) (by simp only [List.size_toArray, List.length_cons, List.length_nil]; omega) ?_; intro v1' w3 o3 b3 g3 l3
             have p2' := Lib.hid (Own.keep p2.out g3 ap2)
             have ap3 := (ap2.symm.grow p2.out l3)
             have p1' := Lib.hid o3
             have B3 := Lib.hid b3
             have s3 := b3.size
             clear o3 g3 l3 b3 p1 p2)
          | (go_at_call 21; refine (rsize_any (r : Int) _).mono ?_; rintro e w4 ⟨rfl, b4⟩
             rw [HK.out]
             have u1 := p1'.out.below b4 (Nat.le_refl _)
             have u2 := p2'.out.below b4 (Nat.le_refl _)
             have B4 := B3.out.trans (b4.mono s3)
             clear b4))
        go_roundw
        case rel => exact ⟨pos + k, _, by go_num, by simpa [ints] using u1, by simpa [ints] using u2, ap3, B4, HN, by omega, by simp; omega⟩
        case measure => simp [intOf]; omega
    · obtain rfl : pos = l.length := by omega
      have HE : Hid (done = decAt 0 l) := by
        show _ = _
        rw [← HS.out, List.drop_length, decAt_nil, List.append_nil]
      have Q1 := Lib.hid ho1
      have Q2 := Lib.hid ho2
      have hdl2 : (ints .i64 (done.map (·.2))).length ≤ 4000 := by simp; omega
      clear ho1 ho2
      go_wp2_with (at_builtin; refine app_lit intsT w _ w.heap.size _ _ _ _ _ _ rfl rfl rfl rfl Q2.out (by simp [Value.oneCell']) hb hB (by unfold maxLen; simp only [List.size_toArray, List.length_cons, List.length_nil]; omega) (by simp only [List.size_toArray, List.length_cons, List.length_nil]; omega) ?_; intro v2' w3 o2 b2 g2 l2)
      have q1 := Own.keep Q1.out g2 hap
      go_ret3
      refine ⟨_, _, rfl, ?_, ?_, b2⟩
      · rw [decC, ← HE.out]; exact q1
      · rw [decA, ← HE.out]; simpa [ints] using o2
end Go.Proofs.YtnjddmcckndpgaaDoor
