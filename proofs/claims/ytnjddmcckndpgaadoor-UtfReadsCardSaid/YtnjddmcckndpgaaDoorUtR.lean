/- The document's own Valid. -/
import Derived.Test.YtnjddmcckndpgaaDoorUtQ
namespace Go.Proofs.YtnjddmcckndpgaaDoor
open Go.RowKit

set_option maxHeartbeats 1500000 in
theorem rvalid_any (A : Option Addr) (l : List UInt8) (c : Nat) (w : World) (h : Lies w w.heap.size A (ints .u8 (u8s l))) (hc : l.length ≤ c) (hm : l.length ≤ 9223372036854775807) :
    Calls Tryd.prog 13 #[.slice A l.length c] w fun e w' => e = .returned (.bool (valL l)) ∧ Below w.heap.size w w' := by
  by_cases hl : l.length ≤ 4000
  · have HV : Hid (valL l = Lib.validD l) := by show _ = _; simp [valL, hl]
    have H := Lib.hid h
    clear h
    go_enter Tryd.func13, Tryd.ntmps13
    go_wp2
    go_loopw [0] (fun v wr => ∃ (A' : Option Addr) (t : List UInt8) (n cc : Nat), v = .slice A' n cc ∧ Hid (t.length = n) ∧ n ≤ cc ∧ Lies wr w.heap.size A' (ints .u8 (u8s t)) ∧ Hid (Lib.validD t = Lib.validD l) ∧ n ≤ 4000 ∧ Below w.heap.size w wr) (fun v _ => lenOf v)
    case atStart => exact ⟨A, l, l.length, c, rfl, rfl, hc, H.out, rfl, hl, Below.refl _ _⟩
    case round =>
      obtain ⟨A', t, n, cc, rfl, HL, hcc, ht, HT, hn, hb⟩ := hrel
      have hB := hb.size
      by_cases h0 : 0 < n
      · have hne : t ≠ [] := by intro e; have := HL.out; subst e; simp at this; omega
        obtain ⟨b, off, rfl, hbl, _⟩ := ht.plainInts (by rw [u8s_length, HL.out]; exact h0)
        have LH := Lib.hid (ht.wider hB)
        have FROM := Lib.hid (fun k => Lies.from ht k)
        have HF := Lib.hid (firstL_dec _ hne)
        have hle := width_le_len _ hne
        rw [HL.out] at hle
        have hw1 := Lib.decodeL_width t
        have hrn := Lib.decodeL_rune t
        have HBW := Lib.hid (byt_width t)
        have HS := Lib.hid (Lib.validD_step t hne)
        obtain ⟨r, hr⟩ : ∃ r, (Lib.decodeL t).1 = r := ⟨_, rfl⟩
        obtain ⟨k, hk⟩ : ∃ k, (Lib.decodeL t).2 = k := ⟨_, rfl⟩
        rw [hr, hk] at HF HBW HS
        rw [hk] at hle hw1
        rw [hr] at hrn
        have fst : ∀ z, firstL t = z → Calls Tryd.prog 22 #[.slice (some ⟨b, off, none⟩) n cc] wr fun e w' => e = .returned (.int .i64 z) ∧ Below wr.heap.size wr w' := fun z hz => by
          have := first_any (some ⟨b, off, none⟩) t cc wr LH.out (by rw [HL.out]; exact hcc) (by rw [HL.out]; omega) hne
          rw [HL.out, hz] at this; exact this
        have FST := Lib.hid fst
        have HBB := Lib.hid hb
        clear fst hr hk ht hb
        by_cases herr : r = 65533 ∧ k = 1
        · have HC : Hid (firstL t = -1) := by show _ = _; rw [HF.out, if_pos herr]
          have HR : Hid (valL l = false) := by show _ = _; rw [HV.out, ← HT.out, HS.out, if_pos herr]
          go_wp2_with (go_at_call 22; refine (FST.out _ HC.out).mono ?_; rintro e w1 ⟨rfl, b1⟩)
          go_ret
          exact ⟨ret_bool HR.out.symm, HBB.out.trans (b1.mono hB)⟩
        · have HC : Hid (firstL t = (r : Int)) := by show _ = _; rw [HF.out, if_neg herr]
          have HK : Hid ((bytL (r : Int)).length = k) := HBW.out herr
          have HN : Hid (Lib.validD (t.drop k) = Lib.validD l) := by show _ = _; rw [← HT.out, HS.out, if_neg herr]
          have r0 : (0 : Int) ≤ (r : Int) := by omega
          have k0 : (0 : Int) ≤ (k : Int) := by omega
          have k1 : (k : Int) ≤ (n : Int) := by omega
          have k2 : k ≤ n := by omega
          have k3 : (k : Int) ≤ (cc : Int) := by omega
          go_wp2_with (first
            | (go_at_call 22; refine (FST.out _ HC.out).mono ?_; rintro e w1 ⟨rfl, b1⟩
               have B1 := Lib.hid (HBB.out.trans (b1.mono hB))
               have s1 := Nat.le_trans hB b1.size
               have P1 := Lib.hid (b1.mono (show w.heap.size ≤ wr.heap.size from hB))
               clear b1)
            | (go_at_call 21; refine (rsize_any (r : Int) _).mono ?_; rintro e w4 ⟨rfl, b4⟩
               rw [HK.out]
               have B4 := Lib.hid (B1.out.trans (b4.mono s1))
               have P4 := Lib.hid (P1.out.trans (b4.mono s1))
               clear b4))
          go_roundw
          case rel => exact ⟨_, t.drop k, n - k, cc - k, rfl, by show _ = _; rw [List.length_drop, HL.out], by omega, Lies.ofIf ((FROM.out k).below P4.out) (fun e => by rw [List.drop_of_length_le (by rw [HL.out]; omega)]; rfl), HN.out, by omega, B4.out⟩
          case measure => simp [lenOf]; omega
      · obtain rfl : n = 0 := by omega
        have HR : Hid (valL l = true) := by
          show _ = _
          rw [HV.out, ← HT.out, List.eq_nil_of_length_eq_zero HL.out]; rfl
        go_wp2
        go_ret
        exact ⟨ret_bool HR.out.symm, hb⟩
  · have HR : Hid (valL l = false) := by show _ = _; simp [valL, hl]
    go_enter Tryd.func13, Tryd.ntmps13
    go_wp2
    go_ret
    exact ⟨ret_bool HR.out.symm, Below.refl _ _⟩
end Go.Proofs.YtnjddmcckndpgaaDoor
