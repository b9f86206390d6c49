/- slices.Backward over []int, ranged over by a body that stores into what was made ahead of the loop: what the body keeps is what lay below n₁ and the closure's own box. -/
import Derived.Test.YtadfleopbpomfaaBw
namespace Go.Proofs.Ytadfleopbpomfaa
open Go.RowKit

attribute [local go_sem] Oper.semAt_some

/-- what lay below n₁ stays, and block b -/
def KB (n₁ b : Nat) (u u' : World) : Prop := Below n₁ u u' ∧ u'.heap[b]? = u.heap[b]?
theorem KB.refl (n₁ b : Nat) (u : World) : KB n₁ b u u := ⟨Below.refl _ _, rfl⟩
theorem KB.trans {n₁ b : Nat} {u v z : World} (h : KB n₁ b u v) (k : KB n₁ b v z) : KB n₁ b u z := ⟨h.1.trans k.1, k.2.trans h.2⟩
theorem kb_t {n₁ b : Nat} {u v z : World} (h : KB n₁ b u v) (k : KB n₁ b v z) : KB n₁ b u z := h.trans k
theorem kb_b {n₁ b : Nat} {w : World} (hn : n₁ ≤ w.heap.size) (hb : b < w.heap.size) (W : World) (l : Nat) (o o' : Obj) (hl : w.heap.size ≤ l) (h : W.heap[l]? = some o) (h1 : o.isCells = false) (h2 : o.isWalk = false) : KB n₁ b W (W.putObj l o') :=
  ⟨belowK_b hn W l o o' hl h h1 h2, World.putObj_heap_other (by omega)⟩

set_option maxRecDepth 100000 in
set_option maxHeartbeats 2000000 in
/-- slices.Backward's closure: whatever body keeps what lay below n₁, and the box that the closure reads -/
theorem bw1K_in (F : Fence) (n : Nat) (hF : F.fn 34) (hro : F.round = none) (hn : 1 ≤ n) (l0 Bs n₁ cap : Nat) (A : Option Addr) (l : List Int) (hl : l.length ≤ 1000000) (J Jx : List (Nat × Int) → World → Prop)
    (hY : ∀ k W, k < l.length → J (bwTo l k) W → YieldAt F (n - 1) Try.prog l0 #[.int .i64 ((bwAt l k).1 : Int), .int .i64 (bwAt l k).2] W fun e W' =>
      (e = .returned (.bool true) ∧ J (bwTo l (k + 1)) W' ∧ KB n₁ Bs W W') ∨ (e = .returned (.bool false) ∧ Jx (bwTo l (k + 1)) W'))
    (W : World) (hBs : W.cell? ⟨Bs, 0, none⟩ = some (.slice A l.length cap)) (hL : Lies W n₁ A (ints .i64 l)) (h0 : J [] W) :
    CallsIn F n Try.prog 34 #[.func (.yield l0) #[] #[], .pointer (some ⟨Bs, 0, none⟩)] W fun e W' => (∃ v, e = .returned v) ∧
      ((∃ ys, ys = bwTo l l.length ∧ J ys W') ∨ (∃ pre, (∃ k, k ≤ l.length ∧ pre = bwTo l k) ∧ Jx pre W')) := by
  have HY := Lib.hid hY
  have HL := Lib.hid hL
  have HB := Lib.hid hBs
  have H0 := Lib.hid h0
  clear hY hL h0
  refine callsIn_of_wp Try.func34 rfl hF ?_ hro
  simp only [Try.ntmps34, List.size_toArray, List.length_cons, List.length_nil, Nat.reduceAdd, Nat.reduceSub, Array.replicate_succ, Array.replicate_zero, List.push_toArray, List.append_toArray, List.nil_append, List.cons_append]
  have hw0 : IntKind.i64.wrap ((l.length : Int) - 1) = (l.length : Int) - 1 := IntWalk.i64_in _ (by omega)
  gi_wp2
  gi_loopw [3] (fun i wr => ∃ k : Nat, k ≤ l.length ∧ i = .int .i64 ((l.length : Int) - 1 - (k : Int)) ∧ Hid (J (bwTo l k) wr) ∧ Hid (KB n₁ Bs W wr))
    (fun i _ => (intOf i + 1).toNat)
  case atStart => exact ⟨0, Nat.zero_le _, by simp, H0, Lib.hid (KB.refl _ _ _)⟩
  case round =>
    obtain ⟨k, hk, rfl, HJ, HBr⟩ := hrel
    by_cases hlt : k < l.length
    · obtain ⟨m, hm⟩ : ∃ m, l.length - 1 - k = m := ⟨_, rfl⟩
      have hmz : (l.length : Int) - 1 - (k : Int) = (m : Int) := by omega
      rw [hmz]
      have hml : m < l.length := by omega
      obtain ⟨p, rfl, _, hc⟩ := (HL.out.below HBr.out.1).int hml
      have hc' : wr.cell? (p.add m) = some (.int .i64 (l.getD m 0)) := by rw [getD_at hml]; exact hc
      have hbc := (World.cell?_of_block (a := ⟨Bs, 0, none⟩) HBr.out.2).trans HB.out
      have b0 : (0 : Int) ≤ (m : Int) := by omega
      have b1 : (m : Int) < (l.length : Int) := by omega
      have hq := HY.out k wr hlt HJ.out
      rw [show bwAt l k = (m, l.getD m 0) by rw [bwAt, hm]] at hq
      obtain ⟨fn, tmps, assign, body, hy, hR⟩ := hq
      dsimp only at hy
      have hw1 : IntKind.i64.wrap ((m : Int) - 1) = (l.length : Int) - 1 - ((k + 1 : Nat) : Int) := by rw [IntWalk.i64_in _ (by omega)]; omega
      obtain ⟨x, hx⟩ : ∃ x, l.getD m 0 = x := ⟨_, rfl⟩
      rw [hx] at hc' hy
      have HM := Lib.hid hm
      clear hc hmz hm hBs hx
      have HR := Lib.hid hR
      clear hR
      gi_wp2
      refine HR.out.mono ?_
      rintro e W3 (⟨rfl, j3, k3⟩ | ⟨rfl, j3⟩)
      · have HJ3 := Lib.hid j3
        have HK3 := Lib.hid (HBr.out.trans k3)
        clear j3 k3
        gi_wp2
        go_roundw
        case rel => exact ⟨k + 1, by omega, by first | rfl | trivial, HJ3, HK3⟩
        case measure => have := HM.out; simp [intOf]; omega
      · have HJ3 := Lib.hid j3
        clear j3
        gi_wp2
        refine bodyPost_ret (results_none rfl _ _ _) rfl ?_
        exact ⟨⟨_, rfl⟩, .inr ⟨_, ⟨k + 1, by omega, rfl⟩, HJ3.out⟩⟩
    · obtain rfl : k = l.length := by omega
      have hmz : (l.length : Int) - 1 - (l.length : Int) = -1 := by omega
      rw [hmz]
      clear hBs hmz
      gi_wp2
      go_end0
      exact ⟨⟨_, rfl⟩, .inl ⟨_, rfl, HJ.out⟩⟩

/-- .. where what comes has p -/
theorem bwK_stops (p : Nat × Int → Prop) (F : Fence) (n : Nat) (hF : F.fn 34) (hro : F.round = none) (hn : 1 ≤ n) (Bs n₁ cap : Nat) (A : Option Addr) (l : List Int) (hl : l.length ≤ 1000000) (w : World) (hBl : Bs < w.heap.size) (hn₁ : n₁ ≤ w.heap.size)
    (hc : w.cell? ⟨Bs, 0, none⟩ = some (.slice A l.length cap)) (hL : Lies w n₁ A (ints .i64 l)) (hp : ∀ k, k < l.length → p (bwAt l k)) :
    SeqStopsK F n Try.prog 34 #[.pointer (some ⟨Bs, 0, none⟩)] (fun x : {x : Nat × Int // p x} => #[Value.int .i64 (x.1.1 : Int), Value.int .i64 x.1.2]) (KB n₁ Bs) (fun ys => ys.map Subtype.val = bwTo l l.length)
      (fun pre => ∃ k, k ≤ l.length ∧ pre.map Subtype.val = bwTo l k) l.length w := fun l0 J Jx W hW _ _ hY h0 => by
  refine (bw1K_in F n hF hro hn l0 Bs n₁ cap A l hl (fun ys u => ∃ xs : List {x : Nat × Int // p x}, xs.map Subtype.val = ys ∧ J xs u) (fun ys u => ∃ xs : List {x : Nat × Int // p x}, xs.map Subtype.val = ys ∧ Jx xs u)
    (fun k u hk hj => ?_) W ((hW.cell (p := ⟨Bs, 0, none⟩) (by show Bs < _; omega)).trans hc) (hL.below (hW.mono hn₁)) (by exact ⟨[], rfl, h0⟩)).mono ?_
  · obtain ⟨xs, e1, hj⟩ := hj
    obtain ⟨fn, tmps, assign, body, hy, hR⟩ := hY xs ⟨bwAt l k, hp k hk⟩ u hj (by rw [← List.length_map (f := Subtype.val), e1, bwTo_length]; exact hk)
    have e2 : (xs ++ [(⟨bwAt l k, hp k hk⟩ : {x : Nat × Int // p x})]).map Subtype.val = bwTo l (k + 1) := by rw [List.map_append, e1, bwTo_succ]; rfl
    refine ⟨fn, tmps, assign, body, hy, RoundIn.mono hR ?_⟩
    rintro e W3 (⟨rfl, j3, k3⟩ | ⟨rfl, j3⟩)
    · exact .inl ⟨rfl, ⟨_, e2, j3⟩, k3⟩
    · exact .inr ⟨rfl, ⟨_, e2, j3⟩⟩
  · rintro e W3 ⟨hv, ⟨ys, e1, xs, e2, hj⟩ | ⟨pre, ⟨k, hk, e1⟩, xs, e2, hj⟩⟩
    · exact ⟨hv, .inl ⟨xs, e2.trans e1, hj⟩⟩
    · exact ⟨hv, .inr ⟨xs, ⟨k, hk, e2.trans e1⟩, hj⟩⟩
end Go.Proofs.Ytadfleopbpomfaa
