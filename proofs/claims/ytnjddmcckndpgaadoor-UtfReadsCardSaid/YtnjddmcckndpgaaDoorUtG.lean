/- Valid: are these just the bytes of characters? -/
import Derived.Test.YtnjddmcckndpgaaDoorUtF
namespace Go.Proofs.YtnjddmcckndpgaaDoor
open Go.RowKit

/-- Go's two tables lie where they lie -/
structure Tabs (w : World) : Prop where
  big : 1 < w.heap.size
  first : ∀ b, b < 256 → w.cell? ⟨0, b, none⟩ = some (.int .u8 (Lib.firstT b : Nat))
  lo : ∀ i, i < 16 → w.cell? ⟨1, i * 2, none⟩ = some (.int .u8 (Lib.accLo i : Nat))
  hi : ∀ i, i < 16 → w.cell? ⟨1, i * 2 + 1, none⟩ = some (.int .u8 (Lib.accHi i : Nat))
theorem Tabs.below {w w' : World} {B : Nat} (h : Tabs w) (hb : Below B w w') (hB : 1 < B) : Tabs w' :=
  ⟨Nat.lt_of_lt_of_le h.big hb.size, fun b hh => (hb.cell (p := ⟨_, b, none⟩) (by show 0 < B; omega)).trans (h.first b hh), fun i hh => (hb.cell (p := ⟨_, i * 2, none⟩) (by show 1 < B; omega)).trans (h.lo i hh), fun i hh => (hb.cell (p := ⟨_, i * 2 + 1, none⟩) (by show 1 < B; omega)).trans (h.hi i hh)⟩

def lenOf : Value → Nat | .slice _ n _ => n | _ => 0

theorem Lies.cut {w : World} {B : Nat} {A : Option Addr} {t : List UInt8} (h : Lies w B A (ints .u8 (u8s t))) (k : Nat) (_ : k ≤ t.length) :
    Lies w B (if t.length = k then A else A.map (·.add k)) (ints .u8 (u8s (t.drop k))) := by
  split
  · rename_i e; rw [← e, List.drop_length]; exact Lies.empty
  · have := h.part k (t.length - k)
    simp only [ints, u8s, ← List.map_drop, ← List.map_take] at this ⊢
    rwa [List.take_of_length_le (by simp)] at this

theorem below_drawn {B : Nat} {a w : World} (h : Below B a w) (n : Nat) : Below B a (w.drewN n) := ⟨h.os, h.tape, h.output, h.size, h.block⟩

set_option maxHeartbeats 8000000 in
set_option maxRecDepth 100000 in
theorem u8valid_any (A : Option Addr) (l : List UInt8) (c : Nat) (w : World) (h : Lies w w.heap.size A (ints .u8 (u8s l))) (hT : Tabs w) (hl : l.length ≤ 4000) (hlc : l.length ≤ c) :
    Calls Tryd.prog 23 #[.slice A l.length c] w fun e w' => e = .returned (.bool (Lib.validD l)) ∧ Below w.heap.size w w' := by
  obtain ⟨ans, hans⟩ : ∃ ans, Lib.validD l = ans := ⟨_, rfl⟩
  rw [hans]
  have HT := Lib.hid hT
  have hbig := hT.big
  have H := Lib.hid h
  have HN := Lib.hid hans
  clear hT h hans
  go_enter Tryd.func23, Tryd.ntmps23
  go_wp2
  go_loopw [0] (fun v wr => ∃ (A' : Option Addr) (t : List UInt8) (n : Nat), v = .slice A' n n ∧ Hid (t.length = n) ∧ Lies wr w.heap.size A' (ints .u8 (u8s t)) ∧ Hid (Lib.validD t = ans) ∧ n ≤ 4000 ∧ Below w.heap.size w wr) (fun v _ => lenOf v)
  case atStart => exact ⟨A, l, l.length, rfl, rfl, H.out, HN.out, hl, Below.refl _ _⟩
  case round =>
    obtain ⟨A', t, n, rfl, HL, ht, HV, htl, hb⟩ := hrel
    by_cases h0n : 0 < n
    · have h0 : 0 < t.length := by rw [HL.out]; exact h0n
      obtain ⟨b, off, rfl, hbl, hc⟩ := ht.plainInts (by simpa using h0)
      have hne : t ≠ [] := by intro e; subst e; simp at h0
      obtain ⟨x0, hx0⟩ : ∃ x0, t.getD 0 0 = x0 := ⟨_, rfl⟩
      have c0 : wr.cell? ⟨b, off, none⟩ = some (.int .u8 (x0.toNat : Int)) := by
        have := hc 0 (by simpa using h0)
        rw [u8s_get] at this
        rw [← hx0]; simpa [h0] using this
      have hxl := x0.toNat_lt
      have hz : (0 : Int) < (n : Int) := by omega
      by_cases ha : x0.toNat < 128
      · as_aux_lemma =>
        have haz : (x0.toNat : Int) < 128 := by omega
        have hbw : b < wr.heap.size := Nat.lt_of_lt_of_le hbl hb.size
        obtain ⟨m, rfl⟩ : ∃ m, n = m + 1 := ⟨n - 1, by omega⟩
        have V1 : Hid (Lib.validD (t.drop 1) = ans) := by
          show _ = _
          rw [← HV.out, Lib.validD_ascii 1 t]
          intro y hy
          cases t with
          | nil => simp at hy
          | cons y0 r => simp at hy hx0; subst hy; rw [hx0]; exact ha
        have hfrom := fun k => Lies.from ht k
        have FROM := Lib.hid hfrom
        have L1 : Hid ((t.drop 1).length = m) := by show _ = _; rw [List.length_drop, HL.out]; omega
        clear hc ht hfrom hx0
        by_cases k8 : m ≤ 8
        · go_wp2
          go_roundw
          case rel => exact ⟨_, t.drop 1, m, rfl, L1.out, Lies.ofIf (FROM.out 1) (fun e => by rw [List.eq_nil_of_length_eq_zero (L1.out.trans e)]; rfl), V1.out, by omega, hb⟩
          case measure => simp [lenOf]
        obtain ⟨q, rfl⟩ : ∃ q, m = q + 8 := ⟨m - 8, by omega⟩
        obtain ⟨W1, lW1, kW1, cW1⟩ := word_at (FROM.out 1) L1.out (by omega)
        obtain ⟨Z1, hand1, kZ1⟩ := and_u64 W1 lW1
        have K1 : Hid (Z1 = 0 → Lib.validD (t.drop 9) = ans) := fun hz => by
          rw [← V1.out, ← kW1 (kZ1 hz), List.drop_drop]
        have CW1 := Lib.hid cW1
        clear kW1 cW1 kZ1
        have k8z : (8 : Int) < ((q : Int) + 8) := by omega
        have q0 : ¬ q = 0 := by omega
        by_cases z1 : Z1 = 0
        · have z1b : ((Z1 : Int) == 0) = true := by simp; omega
          have V2 : Hid (Lib.validD (t.drop 9) = ans) := K1.out z1
          have L2 : Hid ((t.drop 9).length = q) := by show _ = _; rw [List.length_drop, HL.out]; omega
          by_cases k16 : q ≤ 16
          · have k16b : decide ((16 : Int) < (q : Int)) = false := by simp; omega
            go_wp2_with (go_at_call 28; refine (CW1.out 0).mono ?_; rintro e w1 ⟨rfl, j, rfl⟩)
            go_quiet (fail)
            go_wp2
            go_roundw
            case rel => exact ⟨_, t.drop 9, q, rfl, L2.out, Lies.drawn (Lies.drawn (FROM.out 9) _) _, V2.out, by omega, below_drawn (below_drawn hb _) _⟩
            case measure => simp [lenOf]; omega
          · obtain ⟨r, rfl⟩ : ∃ r, q = r + 16 := ⟨q - 16, by omega⟩
            have L3 : Hid ((t.drop 17).length = r + 8) := by show _ = _; rw [List.length_drop, HL.out]; omega
            have L4 : Hid ((t.drop 25).length = r) := by show _ = _; rw [List.length_drop, HL.out]; omega
            obtain ⟨W2, lW2, kW2, cW2⟩ := word_at (FROM.out 9) L2.out (by omega)
            obtain ⟨W3, lW3, kW3, cW3⟩ := word_at (FROM.out 17) L3.out (by omega)
            obtain ⟨O2, lO2, hor2, kO2⟩ := or_u64 W2 W3 lW2 lW3
            obtain ⟨Z2, hand2, kZ2⟩ := and_u64 O2 lO2
            have K2 : Hid (Z2 = 0 → Lib.validD (t.drop 25) = ans) := fun hz => by
              obtain ⟨a2, a3⟩ := kO2 (kZ2 hz)
              have e2 := kW2 a2; have e3 := kW3 a3
              rw [List.drop_drop] at e2 e3
              rw [← V2.out, ← e2]; exact e3
            have CW2 := Lib.hid cW2
            have CW3 := Lib.hid cW3
            clear kW2 kW3 cW2 cW3 kO2 kZ2
            have k16z : (16 : Int) < ((r : Int) + 16) := by omega
            have k16b : decide ((16 : Int) < ((r : Int) + 16)) = true := by simp; omega
            have r0 : ¬ r = 0 := by omega
            have k8q : (8 : Int) ≤ ((r : Int) + 16) := by omega
            by_cases z2 : Z2 = 0
            · have z2b : ((Z2 : Int) == 0) = true := by simp; omega
              go_wp2_with (go_at_call 28; refine (CW1.out 0).mono ?_; rintro e w1 ⟨rfl, j, rfl⟩)
              go_quiet ((first | (go_at_call 28; with_reducible exact quiet_more (CW2.out _)) | (go_at_call 28; with_reducible exact quiet_more (CW3.out _))))
              go_wp2
              go_loopw [0] (fun v wi => ∃ (A2 : Option Addr) (u : List UInt8) (k : Nat), v = .slice A2 k k ∧ Hid (u.length = k) ∧ Lies wi w.heap.size A2 (ints .u8 (u8s u)) ∧ Hid (Lib.validD u = ans) ∧ k ≤ r + 16 ∧ Below w.heap.size w wi) (fun v _ => lenOf v)
              case atStart => exact ⟨_, t.drop 25, r, rfl, L4.out, Lies.drawn (FROM.out 25) _, K2.out z2, by omega, below_drawn hb _⟩
              case round =>
                obtain ⟨A2, u, k, rfl, HU, hu, VU, hk, hbi⟩ := hrel
                by_cases k32 : k ≤ 32
                · have k32b : decide ((32 : Int) < (k : Int)) = false := by simp; omega
                  go_wp2
                  go_quiet (fail)
                  go_wp2
                  go_roundw
                  case rel => exact ⟨A2, u, k, rfl, HU.out, Lies.drawn hu _, VU.out, by omega, below_drawn hbi _⟩
                  case measure => simp [lenOf]; omega
                · obtain ⟨y, rfl⟩ : ∃ y, k = y + 32 := ⟨k - 32, by omega⟩
                  obtain ⟨b2, off2, rfl, _, _⟩ := hu.plainInts (by rw [u8s_length, HU.out]; omega)
                  have hfrom2 := fun k => Lies.from hu k
                  have FROM2 := Lib.hid hfrom2
                  have M1 : Hid ((u.drop 8).length = y + 24) := by show _ = _; rw [List.length_drop, HU.out]; omega
                  have M2 : Hid ((u.drop 16).length = y + 16) := by show _ = _; rw [List.length_drop, HU.out]; omega
                  have M3 : Hid ((u.drop 24).length = y + 8) := by show _ = _; rw [List.length_drop, HU.out]; omega
                  have M4 : Hid ((u.drop 32).length = y) := by show _ = _; rw [List.length_drop, HU.out]; omega
                  obtain ⟨X1, lX1, kX1, cX1⟩ := word_at hu HU.out (by omega)
                  obtain ⟨X2, lX2, kX2, cX2⟩ := word_at (FROM2.out 8) M1.out (by omega)
                  obtain ⟨X3, lX3, kX3, cX3⟩ := word_at (FROM2.out 16) M2.out (by omega)
                  obtain ⟨X4, lX4, kX4, cX4⟩ := word_at (FROM2.out 24) M3.out (by omega)
                  obtain ⟨P1, lP1, hP1, kP1⟩ := or_u64 X1 X2 lX1 lX2
                  obtain ⟨P2, lP2, hP2, kP2⟩ := or_u64 X3 X4 lX3 lX4
                  obtain ⟨P3, lP3, hP3, kP3⟩ := or_u64 P1 P2 lP1 lP2
                  obtain ⟨Z3, hand3, kZ3⟩ := and_u64 P3 lP3
                  have K3 : Hid (Z3 = 0 → Lib.validD (u.drop 32) = ans) := fun hz => by
                    obtain ⟨a1, a2⟩ := kP3 (kZ3 hz)
                    obtain ⟨b1, b2⟩ := kP1 a1
                    obtain ⟨b3, b4⟩ := kP2 a2
                    have e1 := kX1 b1; have e2 := kX2 b2; have e3 := kX3 b3; have e4 := kX4 b4
                    rw [List.drop_drop] at e2 e3 e4
                    rw [← VU.out, ← e1, ← e2, ← e3]; exact e4
                  have CX1 := Lib.hid cX1
                  have CX2 := Lib.hid cX2
                  have CX3 := Lib.hid cX3
                  have CX4 := Lib.hid cX4
                  have HUU := Lib.hid hu
                  clear kX1 kX2 kX3 kX4 cX1 cX2 cX3 cX4 kP1 kP2 kP3 kZ3 hfrom2 hu
                  have k32z : (32 : Int) < ((y : Int) + 32) := by omega
                  have k32b : decide ((32 : Int) < ((y : Int) + 32)) = true := by simp; omega
                  have j8 : (8 : Int) ≤ ((y : Int) + 32) := by omega
                  have j16 : (16 : Int) ≤ ((y : Int) + 32) := by omega
                  have j24 : (24 : Int) ≤ ((y : Int) + 32) := by omega
                  have y0 : ¬ y = 0 := by omega
                  by_cases z3 : Z3 = 0
                  · have z3b : ((Z3 : Int) == 0) = true := by simp; omega
                    go_wp2
                    go_quiet ((first | (go_at_call 28; with_reducible exact Calls.quiet_of (CX1.out _)) | (go_at_call 28; with_reducible exact Calls.quiet_of (CX2.out _)) | (go_at_call 28; with_reducible exact Calls.quiet_of (CX3.out _)) | (go_at_call 28; with_reducible exact Calls.quiet_of (CX4.out _))))
                    go_wp2
                    go_roundw
                    case rel => exact ⟨_, u.drop 32, y, rfl, M4.out, Lies.drawn (FROM2.out 32) _, K3.out z3, by omega, below_drawn hbi _⟩
                    case measure => simp [lenOf]
                  · have z3b : ((Z3 : Int) == 0) = false := by simp; omega
                    go_wp2
                    go_quiet ((first | (go_at_call 28; with_reducible exact Calls.quiet_of (CX1.out _)) | (go_at_call 28; with_reducible exact Calls.quiet_of (CX2.out _)) | (go_at_call 28; with_reducible exact Calls.quiet_of (CX3.out _)) | (go_at_call 28; with_reducible exact Calls.quiet_of (CX4.out _))))
                    go_wp2
                    go_roundw
                    case rel => exact ⟨_, u, y + 32, rfl, HU.out, Lies.drawn HUU.out _, VU.out, by omega, below_drawn hbi _⟩
                    case measure => simp [lenOf]; omega
            · have z2b : ((Z2 : Int) == 0) = false := by simp; omega
              go_wp2_with (go_at_call 28; refine (CW1.out 0).mono ?_; rintro e w1 ⟨rfl, j, rfl⟩)
              go_quiet ((first | (go_at_call 28; with_reducible exact quiet_more (CW2.out _)) | (go_at_call 28; with_reducible exact quiet_more (CW3.out _))))
              go_wp2
              go_roundw
              case rel => exact ⟨_, t.drop 9, r + 16, rfl, L2.out, Lies.drawn (Lies.drawn (FROM.out 9) _) _, V2.out, by omega, below_drawn (below_drawn hb _) _⟩
              case measure => simp [lenOf]
        · have z1b : ((Z1 : Int) == 0) = false := by simp; omega
          go_wp2_with (go_at_call 28; refine (CW1.out 0).mono ?_; rintro e w1 ⟨rfl, j, rfl⟩)
          go_roundw
          case rel => exact ⟨_, t.drop 1, q + 8, rfl, L1.out, Lies.drawn (FROM.out 1) _, V1.out, by omega, below_drawn hb _⟩
          case measure => simp [lenOf]
      · have haz : ¬ ((x0.toNat : Int) < 128) := by omega
        obtain rfl := HL.out
        obtain ⟨X, hX⟩ : ∃ X, Lib.firstT x0.toNat = X := ⟨_, rfl⟩
        have hXl : X < 256 := by rw [← hX]; unfold Lib.firstT; (repeat' split) <;> omega
        have f0 := (HT.out.below hb (by have := hbig; omega)).first x0.toNat hxl
        rw [hX] at f0
        have f1 := (HT.out.below hb (by have := hbig; omega)).lo (X / 16) (by omega)
        have f2 := (HT.out.below hb (by have := hbig; omega)).hi (X / 16) (by omega)
        have lead := Lib.validD_lead t hne (by rw [hx0]; omega)
        rw [hx0, hX] at lead
        have LD := Lib.hid lead
        have HX := Lib.hid hX
        have HX0 := Lib.hid hx0
        obtain ⟨LO, hLO⟩ : ∃ LO, Lib.accLo (X / 16) = LO := ⟨_, rfl⟩
        obtain ⟨HI, hHI⟩ : ∃ HI, Lib.accHi (X / 16) = HI := ⟨_, rfl⟩
        rw [hLO] at f1
        rw [hHI] at f2
        have HLO := Lib.hid hLO
        have HHI := Lib.hid hHI
        clear lead hX hx0 hLO hHI
        have g : ∀ i (hi : i < t.length), wr.cell? ⟨b, off + i, none⟩ = some (.int .u8 ((t.getD i 0).toNat : Int)) := fun i hi => by
          have := hc i (by simpa using hi)
          rw [u8s_get] at this
          rw [this]; simp [hi]
        have cut := fun k hk => Lies.cut ht k hk
        have CUT := Lib.hid cut
        clear hc ht cut
        have hbw : b < wr.heap.size := Nat.lt_of_lt_of_le hbl hb.size
        have hbelow : ∀ W n, Below wr.heap.size wr W → Below w.heap.size w (World.drewN W n) := fun W n hW => below_drawn (hb.trans (hW.mono hb.size)) n
        by_cases s2 : X % 8 = 2
        · as_aux_lemma =>
          go_wp2
          by_cases k0 : t.length < 2
          · have q0 : decide ((t.length : Int) < (2 : Int)) = true := by simp; omega
            have HR : Hid (ans = false) := by
              show _ = _
              rw [← HV.out, LD.out, Lib.checkN, if_pos s2, if_pos (by omega)]
            clear g
            go_quiet (fail)
            go_wp2
            go_ret
            exact ⟨ret_bool HR.out.symm, hbelow _ _ ((Below.refl _ _).alloc (Nat.le_refl _) _)⟩
          have q0 : decide ((t.length : Int) < (2 : Int)) = false := by simp; omega
          obtain ⟨y1, hy1⟩ : ∃ y, (t.getD 1 0).toNat = y := ⟨_, rfl⟩
          have d1 := g 1 (by omega)
          rw [hy1] at d1
          have e1 : y1 < 256 := by rw [← hy1]; exact UInt8.toNat_lt _
          have z1 : (1 : Int) < (t.length : Int) := by omega
          rw [hy1] at LD
          clear hy1
          rw [HLO.out, HHI.out] at LD
          clear g
          by_cases k1 : y1 < LO
          · have q1 : decide (y1 < LO) = true := by simp; omega
            have HR : Hid (ans = false) := by
              show _ = _
              rw [← HV.out, LD.out, Lib.checkN, if_pos s2, if_pos (by omega)]
            skip
            go_quiet (fail)
            go_wp2
            go_ret
            exact ⟨ret_bool HR.out.symm, hbelow _ _ ((Below.refl _ _).alloc (Nat.le_refl _) _)⟩
          have q1 : decide (y1 < LO) = false := by simp; omega
          by_cases k2 : HI < y1
          · have q2 : decide (HI < y1) = true := by simp; omega
            have HR : Hid (ans = false) := by
              show _ = _
              rw [← HV.out, LD.out, Lib.checkN, if_pos s2, if_pos (by omega)]
            skip
            go_quiet (fail)
            go_wp2
            go_ret
            exact ⟨ret_bool HR.out.symm, hbelow _ _ ((Below.refl _ _).alloc (Nat.le_refl _) _)⟩
          have q2 : decide (HI < y1) = false := by simp; omega
          have HR : Hid (Lib.validD (t.drop 2) = ans) := by
            show _ = _
            rw [← HV.out, LD.out, Lib.checkN, if_pos s2, if_neg (by omega)]
          have HC := Lib.hid (CUT.out 2 (by omega))
          have zz : (2 : Int) ≤ (t.length : Int) := by omega
          go_quiet (fail)
          go_wp2
          go_roundw
          case rel => exact ⟨_, t.drop 2, t.length - 2, rfl, by show _ = _; simp, Lies.below (by have := HC.out; simpa [Addr.add] using this) (below_drawn ((Below.refl _ _).alloc hb.size _) _), HR.out, by omega, hbelow _ _ ((Below.refl _ _).alloc (Nat.le_refl _) _)⟩
          case measure => simp [lenOf]; omega
        by_cases s3 : X % 8 = 3
        · as_aux_lemma =>
          go_wp2
          by_cases k0 : t.length < 3
          · have q0 : decide ((t.length : Int) < (3 : Int)) = true := by simp; omega
            have HR : Hid (ans = false) := by
              show _ = _
              rw [← HV.out, LD.out, Lib.checkN, if_neg s2, if_pos s3, if_pos (by omega)]
            clear g
            go_quiet (fail)
            go_wp2
            go_ret
            exact ⟨ret_bool HR.out.symm, hbelow _ _ ((Below.refl _ _).alloc (Nat.le_refl _) _)⟩
          have q0 : decide ((t.length : Int) < (3 : Int)) = false := by simp; omega
          obtain ⟨y1, hy1⟩ : ∃ y, (t.getD 1 0).toNat = y := ⟨_, rfl⟩
          have d1 := g 1 (by omega)
          rw [hy1] at d1
          have e1 : y1 < 256 := by rw [← hy1]; exact UInt8.toNat_lt _
          have z1 : (1 : Int) < (t.length : Int) := by omega
          rw [hy1] at LD
          clear hy1
          obtain ⟨y2, hy2⟩ : ∃ y, (t.getD 2 0).toNat = y := ⟨_, rfl⟩
          have d2 := g 2 (by omega)
          rw [hy2] at d2
          have e2 : y2 < 256 := by rw [← hy2]; exact UInt8.toNat_lt _
          have z2 : (2 : Int) < (t.length : Int) := by omega
          rw [hy2] at LD
          clear hy2
          rw [HLO.out, HHI.out] at LD
          clear g
          by_cases k1 : y1 < LO
          · have q1 : decide (y1 < LO) = true := by simp; omega
            have HR : Hid (ans = false) := by
              show _ = _
              rw [← HV.out, LD.out, Lib.checkN, if_neg s2, if_pos s3, if_pos (by omega)]
            skip
            go_quiet (fail)
            go_wp2
            go_ret
            exact ⟨ret_bool HR.out.symm, hbelow _ _ ((Below.refl _ _).alloc (Nat.le_refl _) _)⟩
          have q1 : decide (y1 < LO) = false := by simp; omega
          by_cases k2 : HI < y1
          · have q2 : decide (HI < y1) = true := by simp; omega
            have HR : Hid (ans = false) := by
              show _ = _
              rw [← HV.out, LD.out, Lib.checkN, if_neg s2, if_pos s3, if_pos (by omega)]
            skip
            go_quiet (fail)
            go_wp2
            go_ret
            exact ⟨ret_bool HR.out.symm, hbelow _ _ ((Below.refl _ _).alloc (Nat.le_refl _) _)⟩
          have q2 : decide (HI < y1) = false := by simp; omega
          by_cases k3 : y2 < 128
          · have q3 : decide ((y2 : Int) < (128 : Int)) = true := by simp; omega
            have HR : Hid (ans = false) := by
              show _ = _
              rw [← HV.out, LD.out, Lib.checkN, if_neg s2, if_pos s3, if_pos (by omega)]
            skip
            go_quiet (fail)
            go_wp2
            go_ret
            exact ⟨ret_bool HR.out.symm, hbelow _ _ ((Below.refl _ _).alloc (Nat.le_refl _) _)⟩
          have q3 : decide ((y2 : Int) < (128 : Int)) = false := by simp; omega
          by_cases k4 : 191 < y2
          · have q4 : decide ((191 : Int) < (y2 : Int)) = true := by simp; omega
            have HR : Hid (ans = false) := by
              show _ = _
              rw [← HV.out, LD.out, Lib.checkN, if_neg s2, if_pos s3, if_pos (by omega)]
            skip
            go_quiet (fail)
            go_wp2
            go_ret
            exact ⟨ret_bool HR.out.symm, hbelow _ _ ((Below.refl _ _).alloc (Nat.le_refl _) _)⟩
          have q4 : decide ((191 : Int) < (y2 : Int)) = false := by simp; omega
          have HR : Hid (Lib.validD (t.drop 3) = ans) := by
            show _ = _
            rw [← HV.out, LD.out, Lib.checkN, if_neg s2, if_pos s3, if_neg (by omega)]
          have HC := Lib.hid (CUT.out 3 (by omega))
          have zz : (3 : Int) ≤ (t.length : Int) := by omega
          go_quiet (fail)
          go_wp2
          go_roundw
          case rel => exact ⟨_, t.drop 3, t.length - 3, rfl, by show _ = _; simp, Lies.below (by have := HC.out; simpa [Addr.add] using this) (below_drawn ((Below.refl _ _).alloc hb.size _) _), HR.out, by omega, hbelow _ _ ((Below.refl _ _).alloc (Nat.le_refl _) _)⟩
          case measure => simp [lenOf]; omega
        by_cases s4 : X % 8 = 4
        · as_aux_lemma =>
          go_wp2
          by_cases k0 : t.length < 4
          · have q0 : decide ((t.length : Int) < (4 : Int)) = true := by simp; omega
            have HR : Hid (ans = false) := by
              show _ = _
              rw [← HV.out, LD.out, Lib.checkN, if_neg s2, if_neg s3, if_pos s4, if_pos (by omega)]
            clear g
            go_quiet (fail)
            go_wp2
            go_ret
            exact ⟨ret_bool HR.out.symm, hbelow _ _ ((Below.refl _ _).alloc (Nat.le_refl _) _)⟩
          have q0 : decide ((t.length : Int) < (4 : Int)) = false := by simp; omega
          obtain ⟨y1, hy1⟩ : ∃ y, (t.getD 1 0).toNat = y := ⟨_, rfl⟩
          have d1 := g 1 (by omega)
          rw [hy1] at d1
          have e1 : y1 < 256 := by rw [← hy1]; exact UInt8.toNat_lt _
          have z1 : (1 : Int) < (t.length : Int) := by omega
          rw [hy1] at LD
          clear hy1
          obtain ⟨y2, hy2⟩ : ∃ y, (t.getD 2 0).toNat = y := ⟨_, rfl⟩
          have d2 := g 2 (by omega)
          rw [hy2] at d2
          have e2 : y2 < 256 := by rw [← hy2]; exact UInt8.toNat_lt _
          have z2 : (2 : Int) < (t.length : Int) := by omega
          rw [hy2] at LD
          clear hy2
          obtain ⟨y3, hy3⟩ : ∃ y, (t.getD 3 0).toNat = y := ⟨_, rfl⟩
          have d3 := g 3 (by omega)
          rw [hy3] at d3
          have e3 : y3 < 256 := by rw [← hy3]; exact UInt8.toNat_lt _
          have z3 : (3 : Int) < (t.length : Int) := by omega
          rw [hy3] at LD
          clear hy3
          rw [HLO.out, HHI.out] at LD
          clear g
          by_cases k1 : y1 < LO
          · have q1 : decide (y1 < LO) = true := by simp; omega
            have HR : Hid (ans = false) := by
              show _ = _
              rw [← HV.out, LD.out, Lib.checkN, if_neg s2, if_neg s3, if_pos s4, if_pos (by omega)]
            skip
            go_quiet (fail)
            go_wp2
            go_ret
            exact ⟨ret_bool HR.out.symm, hbelow _ _ ((Below.refl _ _).alloc (Nat.le_refl _) _)⟩
          have q1 : decide (y1 < LO) = false := by simp; omega
          by_cases k2 : HI < y1
          · have q2 : decide (HI < y1) = true := by simp; omega
            have HR : Hid (ans = false) := by
              show _ = _
              rw [← HV.out, LD.out, Lib.checkN, if_neg s2, if_neg s3, if_pos s4, if_pos (by omega)]
            skip
            go_quiet (fail)
            go_wp2
            go_ret
            exact ⟨ret_bool HR.out.symm, hbelow _ _ ((Below.refl _ _).alloc (Nat.le_refl _) _)⟩
          have q2 : decide (HI < y1) = false := by simp; omega
          by_cases k3 : y2 < 128
          · have q3 : decide ((y2 : Int) < (128 : Int)) = true := by simp; omega
            have HR : Hid (ans = false) := by
              show _ = _
              rw [← HV.out, LD.out, Lib.checkN, if_neg s2, if_neg s3, if_pos s4, if_pos (by omega)]
            skip
            go_quiet (fail)
            go_wp2
            go_ret
            exact ⟨ret_bool HR.out.symm, hbelow _ _ ((Below.refl _ _).alloc (Nat.le_refl _) _)⟩
          have q3 : decide ((y2 : Int) < (128 : Int)) = false := by simp; omega
          by_cases k4 : 191 < y2
          · have q4 : decide ((191 : Int) < (y2 : Int)) = true := by simp; omega
            have HR : Hid (ans = false) := by
              show _ = _
              rw [← HV.out, LD.out, Lib.checkN, if_neg s2, if_neg s3, if_pos s4, if_pos (by omega)]
            skip
            go_quiet (fail)
            go_wp2
            go_ret
            exact ⟨ret_bool HR.out.symm, hbelow _ _ ((Below.refl _ _).alloc (Nat.le_refl _) _)⟩
          have q4 : decide ((191 : Int) < (y2 : Int)) = false := by simp; omega
          by_cases k5 : y3 < 128
          · have q5 : decide ((y3 : Int) < (128 : Int)) = true := by simp; omega
            have HR : Hid (ans = false) := by
              show _ = _
              rw [← HV.out, LD.out, Lib.checkN, if_neg s2, if_neg s3, if_pos s4, if_pos (by omega)]
            skip
            go_quiet (fail)
            go_wp2
            go_ret
            exact ⟨ret_bool HR.out.symm, hbelow _ _ ((Below.refl _ _).alloc (Nat.le_refl _) _)⟩
          have q5 : decide ((y3 : Int) < (128 : Int)) = false := by simp; omega
          by_cases k6 : 191 < y3
          · have q6 : decide ((191 : Int) < (y3 : Int)) = true := by simp; omega
            have HR : Hid (ans = false) := by
              show _ = _
              rw [← HV.out, LD.out, Lib.checkN, if_neg s2, if_neg s3, if_pos s4, if_pos (by omega)]
            skip
            go_quiet (fail)
            go_wp2
            go_ret
            exact ⟨ret_bool HR.out.symm, hbelow _ _ ((Below.refl _ _).alloc (Nat.le_refl _) _)⟩
          have q6 : decide ((191 : Int) < (y3 : Int)) = false := by simp; omega
          have HR : Hid (Lib.validD (t.drop 4) = ans) := by
            show _ = _
            rw [← HV.out, LD.out, Lib.checkN, if_neg s2, if_neg s3, if_pos s4, if_neg (by omega)]
          have HC := Lib.hid (CUT.out 4 (by omega))
          have zz : (4 : Int) ≤ (t.length : Int) := by omega
          go_quiet (fail)
          go_wp2
          go_roundw
          case rel => exact ⟨_, t.drop 4, t.length - 4, rfl, by show _ = _; simp, Lies.below (by have := HC.out; simpa [Addr.add] using this) (below_drawn ((Below.refl _ _).alloc hb.size _) _), HR.out, by omega, hbelow _ _ ((Below.refl _ _).alloc (Nat.le_refl _) _)⟩
          case measure => simp [lenOf]; omega
        · have HR : Hid (ans = false) := by
            show _ = _
            rw [← HV.out, LD.out, Lib.checkN, if_neg s2, if_neg s3, if_neg s4]
          go_wp2
          go_ret
          exact ⟨ret_bool HR.out.symm, hbelow _ 0 ((Below.refl _ _).alloc (Nat.le_refl _) _)⟩
    · obtain rfl : n = 0 := by omega
      have HR : Hid (ans = true) := by
        show _ = _
        rw [← HV.out, List.eq_nil_of_length_eq_zero HL.out]; rfl
      go_wp2 -- END
      go_ret
      exact ⟨ret_bool HR.out.symm, hb⟩
end Go.Proofs.YtnjddmcckndpgaaDoor
