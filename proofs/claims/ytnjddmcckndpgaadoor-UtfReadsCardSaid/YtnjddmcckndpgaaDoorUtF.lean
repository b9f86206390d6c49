/- Valid's fast road: eight bytes as a word. -/
import Derived.Test.YtnjddmcckndpgaaDoorUtE
import Derived.Lib.ValidLaws
import Derived.Laws.BitsAllLaws
import Derived.Shelf.Unicode.WordAny
namespace Go.Proofs.YtnjddmcckndpgaaDoor
open Go.RowKit

theorem u8s_get (l : List UInt8) (i : Nat) (h : i < (u8s l).length) : (u8s l)[i] = ((l[i]'(by simpa using h)).toNat : Int) := by simp [u8s]

set_option maxHeartbeats 4000000 in
set_option maxRecDepth 100000 in
theorem word_any (A : Option Addr) (l : List UInt8) (n c B : Nat) (w : World) (h : Lies w B A (ints .u8 (u8s l))) (hl : 8 ≤ l.length) (hn : n = l.length) :
    Calls Tryd.prog 28 #[.slice A n c] w fun e w' => e = .returned (.int .u64 (Lib.leNat (l.take 8) : Nat)) ∧ ∃ m, w' = w.drewN m := by
  obtain ⟨b, off, rfl, _, hc⟩ := h.plainInts (by simp; omega)
  have g : ∀ i (hi : i < l.length), w.cell? ⟨b, off + i, none⟩ = some (.int .u8 ((l[i]'hi).toNat : Int)) := fun i hi => by rw [hc i (by simpa using hi), u8s_get]
  clear hc h
  match l, hl with
  | x0 :: x1 :: x2 :: x3 :: x4 :: x5 :: x6 :: x7 :: r, _ =>
    have c0 : w.cell? ⟨b, off, none⟩ = _ := g 0 (by simp)
    have c1 := g 1 (by simp); have c2 := g 2 (by simp); have c3 := g 3 (by simp); have c4 := g 4 (by simp); have c5 := g 5 (by simp); have c6 := g 6 (by simp); have c7 := g 7 (by simp)
    simp only [List.getElem_cons_succ, List.getElem_cons_zero] at c0 c1 c2 c3 c4 c5 c6 c7
    have hv : ((Lib.leNat [x0, x1, x2, x3, x4, x5, x6, x7] : Nat) : Int) = (x0.toNat : Int) + (x1.toNat : Int) * 256 + (x2.toNat : Int) * 65536 + (x3.toNat : Int) * 16777216 + (x4.toNat : Int) * 4294967296 + (x5.toNat : Int) * 1099511627776 + (x6.toNat : Int) * 281474976710656 + (x7.toNat : Int) * 72057594037927936 := by
      simp only [Lib.leNat]
      push_cast
      omega
    have h0 := x0.toNat_lt; have h1 := x1.toNat_lt; have h2 := x2.toNat_lt; have h3 := x3.toNat_lt; have h4 := x4.toNat_lt; have h5 := x5.toNat_lt; have h6 := x6.toNat_lt; have h7 := x7.toNat_lt
    have HV := Lib.hid hv
    have n8 : 8 ≤ n := by rw [hn]; simp
    have q0 : (0 : Int) < (n : Int) := by omega
    have q1 : (1 : Int) < (n : Int) := by omega
    have q2 : (2 : Int) < (n : Int) := by omega
    have q3 : (3 : Int) < (n : Int) := by omega
    have q4 : (4 : Int) < (n : Int) := by omega
    have q5 : (5 : Int) < (n : Int) := by omega
    have q6 : (6 : Int) < (n : Int) := by omega
    have q7 : (7 : Int) < (n : Int) := by omega
    clear hv g hn
    go_enter Tryd.func28, Tryd.ntmps28
    go_wp2
    go_quiet (fail)
    go_wp2
    go_ret
    refine ⟨?_, _, rfl⟩
    show Ending.returned (Value.int .u64 _) = Ending.returned (.int .u64 ((Lib.leNat [x0, x1, x2, x3, x4, x5, x6, x7] : Nat) : Int))
    simp (disch := omega) only [u64_or8, u64_or16, u64_or24, u64_or32, u64_or40, u64_or48, u64_or56]
    rw [HV.out]

theorem Lies.from {w : World} {B b off : Nat} {t : List UInt8} (h : Lies w B (some ⟨b, off, none⟩) (ints .u8 (u8s t))) (k : Nat) : Lies w B (some ⟨b, off + k, none⟩) (ints .u8 (u8s (t.drop k))) := by
  have := h.part k (t.length - k)
  simp only [ints, u8s, ← List.map_drop, ← List.map_take, Option.map_some] at this ⊢
  rw [List.take_of_length_le (by simp)] at this
  have e : (⟨b, off, none⟩ : Addr).add k = ⟨b, off + k, none⟩ := by unfold Addr.add; split <;> simp_all
  rwa [e] at this
theorem Lies.ofIf {w : World} {B : Nat} {X Y : Option Addr} {xs : List Value} {c : Prop} [Decidable c] (h : Lies w B X xs) (hc : c → xs = []) : Lies w B (if c then Y else X) xs := by
  split
  · rename_i hh; rw [hc hh]; exact Lies.empty
  · exact h
theorem quiet_more {P : Program} {f : FuncId} {args : Array Value} {w : World} {a n : Nat} {v : Value}
    (h : Calls P f args (w.drewN (a + n)) fun e w' => e = .returned v ∧ ∃ j, w' = (w.drewN (a + n)).drewN j) :
    Calls P f args (w.drewN (a + n)) fun e w'' => e = .returned v ∧ ∃ m, w'' = w.drewN (a + m) :=
  h.mono fun _ _ ⟨he, m, hm⟩ => ⟨he, n + m, by rw [hm, World.drewN_drewN, Nat.add_assoc]⟩

/-- eight bytes as a word: where its mask is nothing, all eight are below 128 -/
theorem word_at {w : World} {B b off : Nat} {u : List UInt8} {n : Nat} (h : Lies w B (some ⟨b, off, none⟩) (ints .u8 (u8s u))) (hn : u.length = n) (h8 : 8 ≤ n) :
    ∃ W : Nat, W < 18446744073709551616 ∧ (W &&& 9259542123273814144 = 0 → Lib.validD (u.drop 8) = Lib.validD u) ∧
      ∀ k, Calls Tryd.prog 28 #[.slice (some ⟨b, off, none⟩) n n] (w.drewN k) fun e w' => e = .returned (.int .u64 (W : Nat)) ∧ ∃ j, w' = (w.drewN k).drewN j := by
  have l8 : (u.take 8).length = 8 := by rw [List.length_take]; omega
  refine ⟨Lib.leNat (u.take 8), ?_, fun hz => ?_, fun k => word_any _ u n n B _ (Lies.drawn h k) (by omega) hn.symm⟩
  · have := Lib.leNat_lt (u.take 8)
    rw [l8] at this
    simpa using this
  · have := Lib.leNat_mask (u.take 8)
    rw [l8, Lib.maskN8] at this
    exact (Lib.validD_ascii 8 u (this.1 hz)).symm
theorem and_u64 (W : Nat) (h : W < 18446744073709551616) : ∃ Z : Nat, bits .and .u64 (W : Int) 9259542123273814144 = (Z : Int) ∧ (Z = 0 → W &&& 9259542123273814144 = 0) :=
  ⟨W &&& 9259542123273814144, u64_and_nat W 9259542123273814144 h (by omega), id⟩
theorem or_u64 (V W : Nat) (hv : V < 18446744073709551616) (hw : W < 18446744073709551616) :
    ∃ O : Nat, O < 18446744073709551616 ∧ bits .or .u64 (V : Int) (W : Int) = (O : Int) ∧ (O &&& 9259542123273814144 = 0 → V &&& 9259542123273814144 = 0 ∧ W &&& 9259542123273814144 = 0) :=
  ⟨V ||| W, Nat.or_lt_two_pow (n := 64) hv hw, u64_or_nat V W hv hw, (Lib.or_mask V W _).1⟩
end Go.Proofs.YtnjddmcckndpgaaDoor
