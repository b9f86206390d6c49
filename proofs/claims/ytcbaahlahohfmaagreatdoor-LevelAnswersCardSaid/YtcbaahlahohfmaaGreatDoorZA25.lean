/- Shared texts, shaken for one claim. -/
import Derived.RangeFuncNested
import Derived.RangeFuncBound
import Derived.RangeFuncCalls
import Derived.RangeFuncLeaves
import Derived.Shelf.Abstract
import Derived.Shelf.RegionOpen
import Derived.OwnWalkIn
import Derived.TacticsInMore
import Derived.LoopNIn
import Derived.LoopIn
import Derived.Stop.RegionWithIn
import Derived.Test.YtcbaahlahohfmaaGreatDoorZA14
import Derived.Test.YtcbaahlahohfmaaGreatDoorZA20
import Derived.Test.YtcbaahlahohfmaaGreatDoorZA21
import Derived.Test.YtcbaahlahohfmaaGreatDoorZA22
import Derived.Test.YtcbaahlahohfmaaGreatDoorZA24
namespace Go.Proofs.YtcbaahlahohfmaaGreatDoor
open Go.RowKit
attribute [local go_sem] Oper.semAt_some
def bwAt (l : List Int) (j : Nat) : Nat × Int := (l.length - 1 - j, l.getD (l.length - 1 - j) 0)
def bwTo (l : List Int) (k : Nat) : List (Nat × Int) := (List.range k).map (bwAt l)
theorem bwTo_succ (l : List Int) (k : Nat) : bwTo l (k + 1) = bwTo l k ++ [bwAt l k] := by simp [bwTo, List.range_succ]
theorem bwTo_length (l : List Int) (k : Nat) : (bwTo l k).length = k := by simp [bwTo]
set_option maxRecDepth 100000 in
set_option maxHeartbeats 2000000 in
theorem bw1_in (F : Fence) (n : Nat) (hF : F.fn 178) (hro : F.round = none) (hn : 1 ≤ n) (l0 Bs n₀ cap : Nat) (A : Option Addr) (l : List Int) (hl : l.length ≤ 1000000) (J Jx : List (Nat × Int) → World → Prop)
 (hY : ∀ k W, k < l.length → J (bwTo l k) W → YieldAt F (n - 1) Tryz.prog l0 #[.int .i64 ((bwAt l k).1 : Int), .int .i64 (bwAt l k).2] W fun e W' =>
  (e = .returned (.bool true) ∧ J (bwTo l (k + 1)) W' ∧ Below n₀ W W') ∨ (e = .returned (.bool false) ∧ Jx (bwTo l (k + 1)) W'))
 (W : World) (hBl : Bs < n₀) (hBs : W.cell? ⟨Bs, 0, none⟩ = some (.slice A l.length cap)) (hL : Lies W n₀ A (ints .i64 l)) (h0 : J [] W) :
 CallsIn F n Tryz.prog 178 #[.func (.yield l0) #[] #[], .pointer (some ⟨Bs, 0, none⟩)] W fun e W' => (∃ v, e = .returned v) ∧
  ((∃ ys, ys = bwTo l l.length ∧ J ys W') ∨ (∃ pre, (∃ k, k ≤ l.length ∧ pre = bwTo l k) ∧ Jx pre W')) := by
 have HY := Lib.hid hY
 have HL := Lib.hid hL
 have HB := Lib.hid hBs
 have H0 := Lib.hid h0
 clear hY hL h0
 refine callsIn_of_wp Tryz.func178 rfl hF ?_ hro
 simp only [Tryz.ntmps178, List.size_toArray, List.length_cons, List.length_nil, Nat.reduceAdd, Nat.reduceSub, Array.replicate_succ, Array.replicate_zero, List.push_toArray, List.append_toArray, List.nil_append, List.cons_append]
 have hw0 : IntKind.i64.wrap ((l.length : Int) - 1) = (l.length : Int) - 1 := IntWalk.i64_in _ (by omega)
 gi_wp2
 gi_loopw [3] (fun i wr => ∃ k : Nat, k ≤ l.length ∧ i = .int .i64 ((l.length : Int) - 1 - (k : Int)) ∧ Hid (J (bwTo l k) wr) ∧ Hid (Below n₀ W wr))
  (fun i _ => (intOf i + 1).toNat)
 case atStart => exact ⟨0, Nat.zero_le _, by simp, H0, Lib.hid (Below.refl _ _)⟩
 case round =>
  obtain ⟨k, hk, rfl, HJ, HBr⟩ := hrel
  by_cases hlt : k < l.length
  ·obtain ⟨m, hm⟩ : ∃ m, l.length - 1 - k = m := ⟨_, rfl⟩
   have hmz : (l.length : Int) - 1 - (k : Int) = (m : Int) := by omega
   rw [hmz]
   have hml : m < l.length := by omega
   obtain ⟨p, rfl, _, hc⟩ := (HL.out.below HBr.out).int hml
   have hc' : wr.cell? (p.add m) = some (.int .i64 (l.getD m 0)) := by rw [getD_at hml]; exact hc
   have hbc := (HBr.out.cell (p := ⟨Bs, 0, none⟩) hBl).trans HB.out
   have b0 : (0 : Int) ≤ (m : Int) := by omega
   have b1 : (m : Int) < (l.length : Int) := by omega
   have hq := HY.out k wr hlt HJ.out
   rw [show bwAt l k = (m, l.getD m 0) by rw [bwAt, hm]] at hq
   obtain ⟨fn, tmps, assign, body, hy, hR⟩ := hq
   dsimp only at hy
   have hw1 : IntKind.i64.wrap ((m : Int) - 1) = (l.length : Int) - 1 - ((k + 1 : Nat) : Int) := by rw [IntWalk.i64_in _ (by omega)]; omega
   obtain ⟨x, hx⟩ : ∃ x, l.getD m 0 = x := ⟨_, rfl⟩
   rw [hx] at hc' hy
   have HM := Lib.hid hm
   clear hc hmz hm hBs hx
   have HR := Lib.hid hR
   clear hR
   gi_wp2
   refine HR.out.mono ?_
   rintro e W3 (⟨rfl, j3, k3⟩ | ⟨rfl, j3⟩)
   ·have HJ3 := Lib.hid j3
    have HK3 := Lib.hid (HBr.out.trans k3)
    clear j3 k3
    gi_wp2
    go_roundw
    case rel => exact ⟨k + 1, by omega, by first | rfl | trivial, HJ3, HK3⟩
    case measure => have := HM.out; simp [intOf]; omega
   ·have HJ3 := Lib.hid j3
    clear j3
    gi_wp2
    refine bodyPost_ret (results_none rfl _ _ _) rfl ?_
    exact ⟨⟨_, rfl⟩, .inr ⟨_, ⟨k + 1, by omega, rfl⟩, HJ3.out⟩⟩
  ·obtain rfl : k = l.length := by omega
   have hmz : (l.length : Int) - 1 - (l.length : Int) = -1 := by omega
   rw [hmz]
   clear hBs hmz
   gi_wp2
   go_end0
   exact ⟨⟨_, rfl⟩, .inl ⟨_, rfl, HJ.out⟩⟩
set_option maxHeartbeats 1000000 in
theorem bw_in (F : Fence) (n : Nat) (hF : F.fn 169) (hro : F.round = none) (A : Option Addr) (len cap : Nat) (w : World) :
 CallsIn F n Tryz.prog 169 #[.slice A len cap] w fun e w' => e = .returned (.func (.func 178) #[] #[.pointer (some ⟨w.heap.size, 0, none⟩)]) ∧ w' = w.alloc (.cells #[.slice A len cap] 22) := by
 refine callsIn_of_wp Tryz.func169 rfl hF ?_ hro
 simp only [Tryz.ntmps169, List.size_toArray, List.length_cons, List.length_nil, Nat.reduceAdd, Nat.reduceSub, Array.replicate_succ, Array.replicate_zero, List.push_toArray, List.append_toArray, List.nil_append, List.cons_append]
 gi_wp2
 go_ret
 exact ⟨rfl, rfl⟩
theorem bw_stops (F : Fence) (n : Nat) (hF : F.fn 178) (hro : F.round = none) (hn : 1 ≤ n) (Bs n₀ cap : Nat) (A : Option Addr) (l : List Int) (hl : l.length ≤ 1000000) (w : World) (hBl : Bs < n₀) (hn₀ : n₀ ≤ w.heap.size)
 (hc : w.cell? ⟨Bs, 0, none⟩ = some (.slice A l.length cap)) (hL : Lies w n₀ A (ints .i64 l)) :
 SeqStopsK F n Tryz.prog 178 #[.pointer (some ⟨Bs, 0, none⟩)] (fun x : Nat × Int => #[Value.int .i64 (x.1 : Int), Value.int .i64 x.2]) (Below n₀) (fun ys => ys = bwTo l l.length)
  (fun pre => ∃ k, k ≤ l.length ∧ pre = bwTo l k) l.length w := fun l0 J Jx W hW _ _ hY h0 =>
 bw1_in F n hF hro hn l0 Bs n₀ cap A l hl J Jx (fun k u hk hj => by rw [bwTo_succ]; exact hY (bwTo l k) (bwAt l k) u hj (by rw [bwTo_length]; exact hk)) W hBl ((hW.cell (p := ⟨Bs, 0, none⟩) (by show Bs < _; omega)).trans hc) (hL.below (hW.mono hn₀)) h0
theorem bw_stopsP (p : Nat × Int → Prop) (F : Fence) (n : Nat) (hF : F.fn 178) (hro : F.round = none) (hn : 1 ≤ n) (Bs n₀ cap : Nat) (A : Option Addr) (l : List Int) (hl : l.length ≤ 1000000) (w : World) (hBl : Bs < n₀) (hn₀ : n₀ ≤ w.heap.size)
 (hc : w.cell? ⟨Bs, 0, none⟩ = some (.slice A l.length cap)) (hL : Lies w n₀ A (ints .i64 l)) (hp : ∀ k, k < l.length → p (bwAt l k)) :
 SeqStopsK F n Tryz.prog 178 #[.pointer (some ⟨Bs, 0, none⟩)] (fun x : {x : Nat × Int // p x} => #[Value.int .i64 (x.1.1 : Int), Value.int .i64 x.1.2]) (Below n₀) (fun ys => ys.map Subtype.val = bwTo l l.length)
  (fun pre => ∃ k, k ≤ l.length ∧ pre.map Subtype.val = bwTo l k) l.length w := fun l0 J Jx W hW _ _ hY h0 => by
 refine (bw1_in F n hF hro hn l0 Bs n₀ cap A l hl (fun ys u => ∃ xs : List {x : Nat × Int // p x}, xs.map Subtype.val = ys ∧ J xs u) (fun ys u => ∃ xs : List {x : Nat × Int // p x}, xs.map Subtype.val = ys ∧ Jx xs u)
  (fun k u hk hj => ?_) W hBl ((hW.cell (p := ⟨Bs, 0, none⟩) (by show Bs < _; omega)).trans hc) (hL.below (hW.mono hn₀)) (by exact ⟨[], rfl, h0⟩)).mono ?_
 ·obtain ⟨xs, e1, hj⟩ := hj
  obtain ⟨fn, tmps, assign, body, hy, hR⟩ := hY xs ⟨bwAt l k, hp k hk⟩ u hj (by rw [← List.length_map (f := Subtype.val), e1, bwTo_length]; exact hk)
  have e2 : (xs ++ [(⟨bwAt l k, hp k hk⟩ : {x : Nat × Int // p x})]).map Subtype.val = bwTo l (k + 1) := by rw [List.map_append, e1, bwTo_succ]; rfl
  refine ⟨fn, tmps, assign, body, hy, RoundIn.mono hR ?_⟩
  rintro e W3 (⟨rfl, j3, k3⟩ | ⟨rfl, j3⟩)
  ·exact .inl ⟨rfl, ⟨_, e2, j3⟩, k3⟩
  ·exact .inr ⟨rfl, ⟨_, e2, j3⟩⟩
 ·rintro e W3 ⟨hv, ⟨ys, e1, xs, e2, hj⟩ | ⟨pre, ⟨k, hk, e1⟩, xs, e2, hj⟩⟩
  ·exact ⟨hv, .inl ⟨xs, e2.trans e1, hj⟩⟩
  ·exact ⟨hv, .inr ⟨xs, ⟨k, hk, e2.trans e1⟩, hj⟩⟩
end Go.Proofs.YtcbaahlahohfmaaGreatDoor
namespace Go.Proofs.YtcbaahlahohfmaaGreatDoor
open Go.RowKit
attribute [local go_sem] Oper.semAt_some
def lastN (chars : List Int) (o : Int) (W : List Nat) : Int := match findW chars o W with
 | none => -1
 | some (_, ws) => (ws.length : Int)
theorem findW_none (chars : List Int) (o : Int) : ∀ W : List Nat, (∀ x ∈ W, sameB (cAt chars x) o = false) → findW chars o W = none
 | [], _ => rfl
 | x :: W, h => by
  rw [findW, h x List.mem_cons_self]
  exact findW_none chars o W fun y hy => h y (List.mem_cons_of_mem _ hy)
theorem findW_at (chars : List Int) (o : Int) : ∀ (W : List Nat) (j : Nat) (hj : j < W.length), (∀ i (hi : i < j), sameB (cAt chars (W[i]'(by omega))) o = false) → sameB (cAt chars W[j]) o = true →
 findW chars o W = some (W[j], W.drop (j + 1))
 | [], j, hj, _, _ => by simp at hj
 | x :: W, 0, hj, _, h => by
  rw [List.getElem_cons_zero] at h
  rw [findW, if_pos h]; rfl
 | x :: W, j + 1, hj, hb, h => by
  have h0 := hb 0 (by omega)
  rw [List.getElem_cons_zero] at h0
  rw [findW, h0]
  rw [List.getElem_cons_succ] at h
  have := findW_at chars o W j (by simpa using hj) (fun i hi => by have := hb (i + 1) (by omega); rwa [List.getElem_cons_succ] at this) h
  rw [List.getElem_cons_succ, List.drop_succ_cons]
  exact this
theorem bw_wait (W : List Nat) (j : Nat) (hj : j < W.length) : bwAt (waitL W) j = (W.length - 1 - j, ((W[j] : Nat) : Int)) := by
 have h1 : W.length - 1 - j < (waitL W).length := by rw [waitL_length]; omega
 have h2 := waitL_get W (W.length - 1 - j) h1 (by omega)
 rw [bwAt, waitL_length, getD_at h1, h2]
 simp only [show W.length - 1 - (W.length - 1 - j) = j by omega]
def IsAt (n : Nat) (x : Nat × Int) : Prop := ∃ v : Nat, x.2 = (v : Int) ∧ v < n
def NoSame (chars : List Int) (o : Int) (pre : List (Nat × Int)) : Prop := ∀ p ∈ pre, sameB (cAt chars p.2.toNat) o = false
theorem lastN_none {chars : List Int} {o : Int} {W : List Nat} (h : NoSame chars o (bwTo (waitL W) W.length)) : lastN chars o W = -1 := by
 rw [lastN, findW_none]
 intro x hx
 obtain ⟨i, hi, rfl⟩ := List.mem_iff_getElem.1 hx
 have := h (bwAt (waitL W) i) (by simp only [bwTo, List.mem_map, List.mem_range]; exact ⟨_, hi, rfl⟩)
 rw [bw_wait W i hi] at this
 simpa using this
theorem lastN_at {chars : List Int} {o : Int} {W : List Nat} {j : Nat} (hj : j < W.length) (h : NoSame chars o (bwTo (waitL W) j)) (hs : sameB (cAt chars (bwAt (waitL W) j).2.toNat) o = true) : lastN chars o W = ((bwAt (waitL W) j).1 : Int) := by
 rw [bw_wait W j hj] at hs ⊢
 have hs' : sameB (cAt chars W[j]) o = true := by simpa using hs
 rw [lastN, findW_at chars o W j hj (fun i hi => ?_) hs']
 ·simp only [List.length_drop]
  omega
 ·have := h (bwAt (waitL W) i) (by simp only [bwTo, List.mem_map, List.mem_range]; exact ⟨_, hi, rfl⟩)
  rw [bw_wait W i (by omega)] at this
  simpa using this
theorem undrew {u w1 : World} (b : Below u.drew.heap.size u.drew w1) : Below u.heap.size u w1 := (below_drawn (Below.refl u.heap.size u) 1).trans b
set_option maxRecDepth 100000 in
set_option maxHeartbeats 4000000 in
theorem lastSame_any (A : Option Addr) (chars : List Int) (c : Nat) (A' : Option Addr) (W : List Nat) (c' : Nat) (o : Int) (w : World) (h : Lies w w.heap.size A (ints .i64 chars)) (h' : Lies w w.heap.size A' (ints .i64 (waitL W)))
 (hW : ∀ x ∈ W, x < chars.length) (hl : W.length ≤ 1000) (_ : chars.length ≤ 1000) :
 Calls Tryz.prog 140 #[.slice A chars.length c, .slice A' W.length c', .int .i64 o] w fun ed w' => ed = .returned (.int .i64 (lastN chars o W)) ∧ Below w.heap.size w w' := by
 refine (callsIn_wide (n := 3)).1 ?_
 refine callsIn_of_wp_marks Tryz.func140 rfl trivial ?_ rfl
 simp only [Tryz.ntmps140, List.size_toArray, List.length_cons, List.length_nil, Nat.reduceAdd, Nat.reduceSub, Array.replicate_succ, Array.replicate_zero, List.push_toArray, List.append_toArray, List.nil_append, List.cons_append]
 have H := Lib.hid h
 have H' := Lib.hid h'
 have HW := Lib.hid hW
 clear h h' hW
 gi_wp2_with (refine ⟨trivial, ?_⟩; gi_at_call 169; refine (bw_in Fence.wide _ trivial rfl _ _ _ _).mono ?_; rintro e w' ⟨rfl, rfl⟩)
 have bC := Boxed.new w 22 (.slice A chars.length c)
 have bO := Boxed.new (w.alloc (.cells #[.slice A chars.length c] 22)) 3 (.int .i64 o)
 rw [World.size_alloc] at bO
 have bR := Boxed.new ((w.alloc (.cells #[.slice A chars.length c] 22)).alloc (.cells #[.int .i64 o] 3)) 3 (.int .i64 0)
 rw [World.size_alloc, World.size_alloc] at bR
 have bN := Boxed.new (((w.alloc (.cells #[.slice A chars.length c] 22)).alloc (.cells #[.int .i64 o] 3)).alloc (.cells #[.int .i64 0] 3)) 22 (.slice A' W.length c')
 rw [World.size_alloc, World.size_alloc, World.size_alloc] at bN
 obtain ⟨wz, hwz⟩ : ∃ z, (((w.alloc (.cells #[.slice A chars.length c] 22)).alloc (.cells #[.int .i64 o] 3)).alloc (.cells #[.int .i64 0] 3)).alloc (.cells #[.slice A' W.length c'] 22) = z := ⟨_, rfl⟩
 have hsz : wz.heap.size = w.heap.size + 4 := by rw [← hwz]; simp
 have hB0 : Below w.heap.size w wz := by rw [← hwz]; exact ((((Below.refl _ w).alloc (Nat.le_refl _) _).alloc (by simp) _).alloc (by simp; omega) _).alloc (by simp; omega) _
 have hS : SeqStopsK Fence.wide 2 Tryz.prog 178 #[.pointer (some ⟨w.heap.size + 3, 0, none⟩)] (fun x : {x : Nat × Int // IsAt chars.length x} => #[Value.int .i64 (x.1.1 : Int), Value.int .i64 x.1.2]) (Below (w.heap.size + 4)) (fun ys => ys.map Subtype.val = bwTo (waitL W) W.length)
  (fun pre => ∃ j, j ≤ W.length ∧ pre.map Subtype.val = bwTo (waitL W) j) W.length wz := by
  have hwl : (waitL W).length = W.length := waitL_length W
  have := bw_stopsP (IsAt chars.length) Fence.wide 2 trivial rfl (by omega) (w.heap.size + 3) (w.heap.size + 4) c' A' (waitL W) (by rw [hwl]; omega) wz (by omega) (by omega) (by rw [hwl, ← hwz]; exact bN.cell) ((H'.out.below hB0).wider (by omega)) (fun k hk => ⟨W[k]'(by omega), by rw [bw_wait W k (by omega)], HW.out _ (List.getElem_mem _)⟩)
  rw [hwl] at this
  exact this
 rw [hwz]
 have hbC : wz.cell? ⟨w.heap.size, 0, none⟩ = some (.slice A chars.length c) := by rw [← hwz]; exact (((bC.alloc _).alloc _).alloc _).cell
 have hbO : wz.cell? ⟨w.heap.size + 1, 0, none⟩ = some (.int .i64 o) := by rw [← hwz]; exact ((bO.alloc _).alloc _).cell
 have hbR : wz.cell? ⟨w.heap.size + 2, 0, none⟩ = some (.int .i64 0) := by rw [← hwz]; exact (bR.alloc _).cell
 have hbF : wz.frozen? ⟨w.heap.size + 2, 0, none⟩ = false := by rw [← hwz]; exact (bR.alloc _).frozen
 refine wpIn_rangeFunc_ownG rfl (by omega) (gf := 178) (lb := #[.pointer (some ⟨w.heap.size + 3, 0, none⟩)]) rfl trivial (enters_of Tryz.func178 (by kernel_rfl) rfl)
  hS belowK_t (belowK_b (by omega)) (Below.refl _ _) (fun _ => rfl)
  (fun pre u => (w.heap.size + 4 ≤ u.heap.size ∧ NoSame chars o (pre.map Subtype.val) ∧ u.cell? ⟨w.heap.size, 0, none⟩ = some (.slice A chars.length c) ∧ u.cell? ⟨w.heap.size + 1, 0, none⟩ = some (.int .i64 o) ∧ u.cell? ⟨w.heap.size + 2, 0, none⟩ = some (.int .i64 0) ∧ u.frozen? ⟨w.heap.size + 2, 0, none⟩ = false) ∧ Below w.heap.size w u)
  (fun c pre u => (c = .ret ∧ ∃ ini last, pre.map Subtype.val = ini ++ [last] ∧ NoSame chars o ini ∧ sameB (cAt chars last.2.toNat) o = true ∧ u.cell? ⟨w.heap.size + 2, 0, none⟩ = some (.int .i64 (last.1 : Int))) ∧ Below w.heap.size w u)
  (OwnFrom.and (Own.from (fun s A B row hs hg hr => ⟨Nat.le_trans hs.1 hg.size, hs.2.1, cell_kept hs.2.2.1 hg hr, cell_kept hs.2.2.2.1 hg hr, cell_kept hs.2.2.2.2.1 hg hr, (frozen_kept hs.2.2.2.2.1 hg hr).trans hs.2.2.2.2.2⟩) _) (ownFrom_below (Nat.le_refl _) (by omega)))
  (fun c => OwnFrom.and (Own.from (fun s A B row hs hg hr => by obtain ⟨hc, ini, last, e1, e2, e3, e4⟩ := hs; exact ⟨hc, ini, last, e1, e2, e3, cell_kept e4 hg hr⟩) _) (ownFrom_below (Nat.le_refl _) (by omega)))
  ⟨⟨by omega, fun p hp => (by simp at hp), hbC, hbO, hbR, hbF⟩, hB0⟩
  (fun x => { tmps := #[.slice A chars.length c, .slice A' W.length c', .int .i64 o, .pointer (some ⟨w.heap.size, 0, none⟩), undef, .pointer (some ⟨w.heap.size + 1, 0, none⟩), .pointer (some ⟨w.heap.size + 2, 0, none⟩), .int .i64 (x.1.1 : Int), .int .i64 x.1.2, .slice A' W.length c', .func (.func 178) #[] #[.pointer (some ⟨w.heap.size + 3, 0, none⟩)], .int .i64 (x.1.1 : Int), .int .i64 x.1.2, undef, undef, undef, undef, undef, undef, undef], defers := [] }) ?assign ?body ?done ?stop
 case assign =>
  intro l x u K hK
  gi_wp2
  exact hK
 case body =>
  rintro l0 pre ⟨⟨n, y⟩, hx⟩ u ⟨⟨hsz, hp, hcc, hco, hcr, hfr⟩, hB⟩ _
  obtain ⟨v, hyv, hv⟩ : ∃ v : Nat, y = (v : Int) ∧ v < chars.length := hx
  subst hyv
  dsimp only
  have HP := Lib.hid hp
  have HB := Lib.hid hB
  obtain ⟨p, hpA, _, hcv⟩ := (H.out.below hB).int hv
  subst hpA
  obtain ⟨xv, hxv⟩ : ∃ z, chars[v] = z := ⟨_, rfl⟩
  rw [hxv] at hcv
  have HXV : Hid (cAt chars v = xv) := Lib.hid (by simp [cAt, hv, hxv])
  have v0 : (0 : Int) ≤ (v : Int) := by omega
  have v1 : (v : Int) < (chars.length : Int) := by omega
  have BC := Lib.hid bC
  have BO := Lib.hid bO
  have BR := Lib.hid bR
  have BN := Lib.hid bN
  have HS := Lib.hid hS
  clear hp hB hxv bC bO bR bN hwz hbC hbO hbR hbF hS hB0
  rcases hs : sameB xv o with _ | _
  ·have HSX : Hid (sameB (cAt chars v) o = false) := Lib.hid (by rw [HXV.out]; exact hs)
   gi_wp2
   gi_region_with (refine ⟨trivial, ?_⟩; gi_at_call 170; refine (CallsIn.inRound l0 (callsIn_wide.2 (same_any xv o _))).mono ?_; rintro e w1 ⟨rfl, b1⟩; rw [hs])
   all_goals
    have b2 := undrew b1
    clear b1
    have hcc1 := (b2.cell (p := ⟨w.heap.size, 0, none⟩) (by show w.heap.size < _; omega)).trans hcc
    have hco1 := (b2.cell (p := ⟨w.heap.size + 1, 0, none⟩) (by show w.heap.size + 1 < _; omega)).trans hco
    have hcr1 := (b2.cell (p := ⟨w.heap.size + 2, 0, none⟩) (by show w.heap.size + 2 < _; omega)).trans hcr
    have hfr1 := (World.frozen?_of_block (b2.block _ (by show w.heap.size + 2 < _; omega))).trans hfr
    have B2 := Lib.hid b2
    clear b2
    gi_wp2
    refine ⟨KeepsFrom.of_grownBy (grown_of_below B2.out none) (by simp), B2.out.mono hsz, ⟨Nat.le_trans hsz B2.out.size, fun p hp' => ?_, hcc1, hco1, hcr1, hfr1⟩, HB.out.trans (B2.out.mono HB.out.size)⟩
    rw [List.map_append] at hp'
    rcases List.mem_append.1 hp' with hp' | hp'
    ·exact HP.out p hp'
    ·obtain rfl : p = (n, (v : Int)) := by simpa using hp'
     exact HSX.out
  ·have HSX : Hid (sameB (cAt chars v) o = true) := Lib.hid (by rw [HXV.out]; exact hs)
   gi_wp2
   gi_region_with (refine ⟨trivial, ?_⟩; gi_at_call 170; refine (CallsIn.inRound l0 (callsIn_wide.2 (same_any xv o _))).mono ?_; rintro e w1 ⟨rfl, b1⟩; rw [hs])
   all_goals
    have b2 := undrew b1
    clear b1
    have hcr1 := (b2.cell (p := ⟨w.heap.size + 2, 0, none⟩) (by show w.heap.size + 2 < _; omega)).trans hcr
    have hfr1 := (World.frozen?_of_block (b2.block _ (by show w.heap.size + 2 < _; omega))).trans hfr
    have B2 := Lib.hid b2
    clear b2 hcr hfr
    gi_wp2
    refine ⟨(KeepsFrom.of_grownBy (grown_of_below B2.out none) (by simp)).trans ((KeepsOthers.setCell _ _ _).from _), ⟨rfl, pre.map Subtype.val, (n, (v : Int)), by simp, HP.out, HSX.out, ?_⟩, (HB.out.trans (B2.out.mono HB.out.size)).setCell (p := ⟨w.heap.size + 2, 0, none⟩) (Nat.le_add_right _ _) _⟩
    exact World.cell?_setCell_same' _ _ _ (by rw [hcr1]; rfl)
 case done =>
  rintro D ys u hD hys ⟨⟨hsz, hne, hcc, hco, hcr, hfr⟩, hB⟩ hK
  rw [hys] at hne
  have HNE := Lib.hid hne
  have HB := Lib.hid hB
  have HK := Lib.hid hK
  have HD := Lib.hid hD
  clear hne hB hK hD hcc hco hwz hbC hbO hbR hbF hS hB0 bC bO bR bN hys
  gi_wp2
  have hK' := (KeepsOthers.setCell u ⟨w.heap.size + 2, 0, none⟩ (.int .i64 (-1))).same D _ HK.out rfl
  refine ⟨by simp, .inl ⟨_, _, rfl, run_takeDeferred hK', ?_⟩⟩
  have hc5 := cell_kept (World.cell?_setCell_same' u ⟨w.heap.size + 2, 0, none⟩ (.int .i64 (-1)) (by rw [hcr]; rfl)) (grownBy_putObj' _ D (.deferred none)) (fun r e => by cases e; exact ⟨_, hK', rfl⟩)
  refine ⟨.int .i64 (-1), ?_, by rw [lastN_none HNE.out], (HB.out.setCell (p := ⟨w.heap.size + 2, 0, none⟩) (Nat.le_add_right _ _) _).trans (belowK_b (w := w) (Nat.le_refl _) _ D _ _ (by have := HD.out; omega) hK' rfl rfl)⟩
  simp [results, Tryz.f140, go_sem, hc5]
 case stop =>
  rintro D c0 pre u hD ⟨j, hj, hpre⟩ ⟨⟨rfl, ini, last, e1, e2, e3, hcr⟩, hB⟩ hK
  gi_wp2
  refine ⟨by simp, .inl ⟨_, _, rfl, run_takeDeferred hK, ?_⟩⟩
  have hc5 := cell_kept hcr (grownBy_putObj' _ D (.deferred none)) (fun r e => by cases e; exact ⟨_, hK, rfl⟩)
  rw [hpre] at e1
  obtain ⟨j', rfl⟩ : ∃ j', j = j' + 1 := by
   cases j with
   | zero => simp [bwTo] at e1
   | succ j' => exact ⟨j', rfl⟩
  rw [bwTo_succ] at e1
  obtain ⟨rfl, e5⟩ := List.append_inj' e1 rfl
  obtain rfl : bwAt (waitL W) j' = last := by simpa using e5
  refine ⟨.int .i64 ((bwAt (waitL W) j').1 : Int), ?_, by rw [lastN_at (by omega) e2 e3], hB.trans (belowK_b (w := w) (Nat.le_refl _) u D _ _ (by omega) hK rfl rfl)⟩
  simp [results, Tryz.f140, go_sem, hc5]
def NoSide (pre : List (Nat × Int)) : Prop := ∀ p ∈ pre, sdB p.2 = -1
theorem aheadS_none (l : List Int) (sos : Int) : ∀ k, (∀ i, i < k → sdB (cAt l i) = -1) → aheadS l sos k = if sos = 1 then 1 else 0
 | 0, _ => rfl
 | k + 1, h => by
  rw [aheadS, h k (by omega), if_neg (by omega)]
  exact aheadS_none l sos k fun i hi => h i (by omega)
theorem aheadS_at (l : List Int) (sos : Int) (j : Nat) (hj : sdB (cAt l j) ≠ -1) : ∀ k, j < k → (∀ i, j < i → i < k → sdB (cAt l i) = -1) → aheadS l sos k = sdB (cAt l j)
 | 0, h, _ => by omega
 | k + 1, h, hs => by
  rw [aheadS]
  by_cases e : j = k
  ·subst e
   have := sdB_range (cAt l j)
   rw [if_pos (by omega)]
  ·rw [hs k (by omega) (by omega), if_neg (by omega)]
   exact aheadS_at l sos j hj k (by omega) fun i h1 h2 => hs i h1 (by omega)
theorem bw_cAt (l : List Int) (j : Nat) : (bwAt l j).2 = cAt l (l.length - 1 - j) := rfl
theorem side_none {l : List Int} (sos : Int) (h : NoSide (bwTo l l.length)) : aheadS l sos l.length = if sos = 1 then 1 else 0 := by
 refine aheadS_none l sos _ fun i hi => ?_
 have := h (bwAt l (l.length - 1 - i)) (by simp only [bwTo, List.mem_map, List.mem_range]; exact ⟨_, by omega, rfl⟩)
 rw [bw_cAt, show l.length - 1 - (l.length - 1 - i) = i by omega] at this
 exact this
theorem side_at {l : List Int} (sos : Int) {j : Nat} (hj : j < l.length) (h : NoSide (bwTo l j)) (hs : sdB (bwAt l j).2 ≠ -1) : aheadS l sos l.length = sdB (bwAt l j).2 := by
 rw [bw_cAt] at hs ⊢
 refine aheadS_at l sos _ hs _ (by omega) fun i h1 h2 => ?_
 have := h (bwAt l (l.length - 1 - i)) (by simp only [bwTo, List.mem_map, List.mem_range]; exact ⟨_, by omega, rfl⟩)
 rw [bw_cAt, show l.length - 1 - (l.length - 1 - i) = i by omega] at this
 exact this
theorem ahead_take (l : List Int) (sos : Int) : ∀ k m, k ≤ m → aheadS (l.take m) sos k = aheadS l sos k
 | 0, _, _ => rfl
 | k + 1, m, h => by
  have e : cAt (l.take m) k = cAt l k := by
   unfold cAt
   rw [List.getD_eq_getElem?_getD, List.getD_eq_getElem?_getD, List.getElem?_take_of_lt (by omega)]
  rw [aheadS, aheadS, e, ahead_take l sos k m (by omega)]
set_option maxRecDepth 100000 in
set_option maxHeartbeats 4000000 in
theorem ahead_any (A : Option Addr) (l : List Int) (c : Nat) (sos : Int) (w : World) (h : Lies w w.heap.size A (ints .i64 l)) (hl : l.length ≤ 1000) :
 Calls Tryz.prog 145 #[.slice A l.length c, .int .i64 sos] w fun ed w' => ed = .returned (.int .i64 (aheadS l sos l.length)) ∧ Below w.heap.size w w' := by
 refine (callsIn_wide (n := 3)).1 ?_
 refine callsIn_of_wp_marks Tryz.func145 rfl trivial ?_ rfl
 simp only [Tryz.ntmps145, List.size_toArray, List.length_cons, List.length_nil, Nat.reduceAdd, Nat.reduceSub, Array.replicate_succ, Array.replicate_zero, List.push_toArray, List.append_toArray, List.nil_append, List.cons_append]
 have H := Lib.hid h
 clear h
 gi_wp2_with (refine ⟨trivial, ?_⟩; gi_at_call 169; refine (bw_in Fence.wide _ trivial rfl _ _ _ _).mono ?_; rintro e w' ⟨rfl, rfl⟩)
 have bR := Boxed.new w 3 (.int .i64 0)
 have bN := Boxed.new (w.alloc (.cells #[.int .i64 0] 3)) 22 (.slice A l.length c)
 rw [World.size_alloc] at bN
 obtain ⟨wz, hwz⟩ : ∃ z, (w.alloc (.cells #[.int .i64 0] 3)).alloc (.cells #[.slice A l.length c] 22) = z := ⟨_, rfl⟩
 have hsz : wz.heap.size = w.heap.size + 2 := by rw [← hwz]; simp
 have hB0 : Below w.heap.size w wz := by rw [← hwz]; exact ((Below.refl _ w).alloc (Nat.le_refl _) _).alloc (by simp) _
 have hS : SeqStopsK Fence.wide 2 Tryz.prog 178 #[.pointer (some ⟨w.heap.size + 1, 0, none⟩)] (fun x : Nat × Int => #[Value.int .i64 (x.1 : Int), Value.int .i64 x.2]) (Below (w.heap.size + 2)) (fun ys => ys = bwTo l l.length)
  (fun pre => ∃ j, j ≤ l.length ∧ pre = bwTo l j) l.length wz :=
  bw_stops Fence.wide 2 trivial rfl (by omega) (w.heap.size + 1) (w.heap.size + 2) c A l (by omega) wz (by omega) (by omega) (by rw [← hwz]; exact bN.cell) ((H.out.below hB0).wider (by omega))
 rw [hwz]
 have hbR : wz.cell? ⟨w.heap.size, 0, none⟩ = some (.int .i64 0) := by rw [← hwz]; exact (bR.alloc _).cell
 have hbF : wz.frozen? ⟨w.heap.size, 0, none⟩ = false := by rw [← hwz]; exact (bR.alloc _).frozen
 refine wpIn_rangeFunc_ownG rfl (by omega) (gf := 178) (lb := #[.pointer (some ⟨w.heap.size + 1, 0, none⟩)]) rfl trivial (enters_of Tryz.func178 (by kernel_rfl) rfl)
  hS belowK_t (belowK_b (by omega)) (Below.refl _ _) (fun _ => rfl)
  (fun pre u => (w.heap.size + 2 ≤ u.heap.size ∧ NoSide pre ∧ u.cell? ⟨w.heap.size, 0, none⟩ = some (.int .i64 0) ∧ u.frozen? ⟨w.heap.size, 0, none⟩ = false) ∧ Below w.heap.size w u)
  (fun c pre u => (c = .ret ∧ ∃ ini last, pre = ini ++ [last] ∧ NoSide ini ∧ sdB last.2 ≠ -1 ∧ u.cell? ⟨w.heap.size, 0, none⟩ = some (.int .i64 (sdB last.2))) ∧ Below w.heap.size w u)
  (OwnFrom.and (Own.from (fun s A B row hs hg hr => ⟨Nat.le_trans hs.1 hg.size, hs.2.1, cell_kept hs.2.2.1 hg hr, (frozen_kept hs.2.2.1 hg hr).trans hs.2.2.2⟩) _) (ownFrom_below (Nat.le_refl _) (by omega)))
  (fun c => OwnFrom.and (Own.from (fun s A B row hs hg hr => by obtain ⟨hc, ini, last, e1, e2, e3, e4⟩ := hs; exact ⟨hc, ini, last, e1, e2, e3, cell_kept e4 hg hr⟩) _) (ownFrom_below (Nat.le_refl _) (by omega)))
  ⟨⟨by omega, fun p hp => (by simp at hp), hbR, hbF⟩, hB0⟩
  (fun x => { tmps := #[.slice A l.length c, .int .i64 sos, undef, undef, .pointer (some ⟨w.heap.size, 0, none⟩), undef, .int .i64 x.2, undef, .slice A l.length c, .func (.func 178) #[] #[.pointer (some ⟨w.heap.size + 1, 0, none⟩)], .int .i64 (x.1 : Int), .int .i64 x.2, undef, undef, undef, undef, undef, undef, undef], defers := [] }) ?assign ?body ?done ?stop
 case assign =>
  intro l x u K hK
  gi_wp2
  exact hK
 case body =>
  rintro l0 pre x u ⟨⟨hsz, hp, hcr, hfr⟩, hB⟩ _
  have HP := Lib.hid hp
  have HB := Lib.hid hB
  obtain ⟨y, hy⟩ : ∃ y, sdB x.2 = y := ⟨_, rfl⟩
  have HY := Lib.hid hy
  clear hp hB hwz hbR hbF hS hB0 bR bN hy
  rcases hs : (y != -1) with _ | _
  ·have HS : Hid (y = -1) := Lib.hid (by simpa using hs)
   gi_wp2_with (refine ⟨trivial, ?_⟩; gi_at_call 174; refine (CallsIn.inRound l0 (callsIn_wide.2 (bside_q x.2 u))).mono ?_; rintro e w' ⟨rfl, rfl⟩; rw [HY.out])
   refine ⟨KeepsFrom.refl _ _, Below.refl _ _, ⟨hsz, fun p hp' => ?_, hcr, hfr⟩, HB.out⟩
   rcases List.mem_append.1 hp' with hp' | hp'
   ·exact HP.out p hp'
   ·rw [List.mem_singleton.1 hp', HY.out]; exact HS.out
  ·have HS : Hid (y ≠ -1) := Lib.hid (by simpa using hs)
   gi_wp2_with (refine ⟨trivial, ?_⟩; gi_at_call 174; refine (CallsIn.inRound l0 (callsIn_wide.2 (bside_q x.2 u))).mono ?_; rintro e w' ⟨rfl, rfl⟩; rw [HY.out])
   refine ⟨(KeepsOthers.setCell _ _ _).from _, ⟨rfl, pre, x, rfl, HP.out, by rw [HY.out]; exact HS.out, ?_⟩, HB.out.setCell (p := ⟨w.heap.size, 0, none⟩) (Nat.le_refl _) _⟩
   rw [HY.out]
   exact World.cell?_setCell_same' _ _ _ (by rw [hcr]; rfl)
 case done =>
  rintro D ys u hD rfl ⟨⟨hsz, hne, hcr, hfr⟩, hB⟩ hK
  have HNE := Lib.hid hne
  have HB := Lib.hid hB
  have HK := Lib.hid hK
  have HD := Lib.hid hD
  clear hne hB hK hD hwz hbR hbF hS hB0 bR bN
  rcases h1 : (sos == 1) with _ | _
  ·have HF : Hid (aheadS l sos l.length = 0) := Lib.hid (by rw [side_none sos HNE.out, if_neg (by simpa using h1)])
   gi_wp2
   have hK' := (KeepsOthers.setCell u ⟨w.heap.size, 0, none⟩ (.int .i64 0)).same D _ HK.out rfl
   refine ⟨by simp, .inl ⟨_, _, rfl, run_takeDeferred hK', ?_⟩⟩
   have hc5 := cell_kept (World.cell?_setCell_same' u ⟨w.heap.size, 0, none⟩ (.int .i64 0) (by rw [hcr]; rfl)) (grownBy_putObj' _ D (.deferred none)) (fun r e => by cases e; exact ⟨_, hK', rfl⟩)
   refine ⟨.int .i64 0, ?_, by rw [HF.out], (HB.out.setCell (p := ⟨w.heap.size, 0, none⟩) (Nat.le_refl _) _).trans (belowK_b (w := w) (Nat.le_refl _) _ D _ _ (by have := HD.out; omega) hK' rfl rfl)⟩
   simp [results, Tryz.f145, go_sem, hc5]
  ·have HF : Hid (aheadS l sos l.length = 1) := Lib.hid (by rw [side_none sos HNE.out, if_pos (by simpa using h1)])
   gi_wp2
   have hK' := (KeepsOthers.setCell u ⟨w.heap.size, 0, none⟩ (.int .i64 1)).same D _ HK.out rfl
   refine ⟨by simp, .inl ⟨_, _, rfl, run_takeDeferred hK', ?_⟩⟩
   have hc5 := cell_kept (World.cell?_setCell_same' u ⟨w.heap.size, 0, none⟩ (.int .i64 1) (by rw [hcr]; rfl)) (grownBy_putObj' _ D (.deferred none)) (fun r e => by cases e; exact ⟨_, hK', rfl⟩)
   refine ⟨.int .i64 1, ?_, by rw [HF.out], (HB.out.setCell (p := ⟨w.heap.size, 0, none⟩) (Nat.le_refl _) _).trans (belowK_b (w := w) (Nat.le_refl _) _ D _ _ (by have := HD.out; omega) hK' rfl rfl)⟩
   simp [results, Tryz.f145, go_sem, hc5]
 case stop =>
  rintro D c0 pre u hD ⟨j, hj, rfl⟩ ⟨⟨rfl, ini, last, e1, e2, e3, hcr⟩, hB⟩ hK
  gi_wp2
  refine ⟨by simp, .inl ⟨_, _, rfl, run_takeDeferred hK, ?_⟩⟩
  have hc5 := cell_kept hcr (grownBy_putObj' _ D (.deferred none)) (fun r e => by cases e; exact ⟨_, hK, rfl⟩)
  obtain ⟨j', rfl⟩ : ∃ j', j = j' + 1 := by
   cases j with
   | zero => simp [bwTo] at e1
   | succ j' => exact ⟨j', rfl⟩
  rw [bwTo_succ] at e1
  obtain ⟨rfl, e5⟩ := List.append_inj' e1 rfl
  obtain rfl : bwAt l j' = last := by simpa using e5
  refine ⟨.int .i64 (sdB (bwAt l j').2), ?_, by rw [side_at sos (by omega) e2 e3], hB.trans (belowK_b (w := w) (Nat.le_refl _) u D _ _ (by omega) hK rfl rfl)⟩
  simp [results, Tryz.f145, go_sem, hc5]
end Go.Proofs.YtcbaahlahohfmaaGreatDoor
namespace Go.Proofs.YtcbaahlahohfmaaGreatDoor
open Go.RowKit
theorem side_ahead {l : List Int} {e sos : Int} {p : Int × Int} (h1 : sameS l e p = false) (h2 : otherS l e p = true) : sideOf l e sos p = some (aheadS l sos p.1.toNat) := by
 rw [sideOf, h1, h2]
 by_cases h : aheadS l sos p.1.toNat ≠ e
 ·simp only [if_pos h]
 ·simp only [if_neg h]
  rw [Classical.not_not.1 h]
set_option maxRecDepth 20000 in
set_option maxHeartbeats 4000000 in
theorem become_any (A : Option Addr) (l : List Int) (c : Nat) (a b : Nat) (e sos : Int) (w : World) (h : Lies w w.heap.size A (ints .i64 l)) (hl : l.length ≤ 1000) (hc : l.length ≤ c) (hab : a < b) (hb : b < l.length) (he : e = 0 ∨ e = 1) :
 Calls Tryz.prog 96 #[.slice A l.length c, .agg #[.int .i64 (a : Int), .int .i64 (b : Int)], .int .i64 e, .int .i64 sos] w fun ed w' => ed = .returned (.int .i64 ((sideOf l e sos ((a : Int), (b : Int))).getD (-1))) ∧ Below w.heap.size w w' := by
 have H := Lib.hid h
 obtain ⟨w0, hw0⟩ : ∃ u, w.alloc (.cells #[.int .i64 (a : Int), .int .i64 (b : Int)] 79) = u := ⟨_, rfl⟩
 have B0 : Hid (Below w.heap.size w w0) := Lib.hid (hw0 ▸ below_alloc w _)
 have SB : Hid (∀ w', Below w0.heap.size w0 w' → w'.cell? ⟨w.heap.size, 0, none⟩ = some (.int .i64 (a : Int)) ∧ w'.cell? ⟨w.heap.size, 1, none⟩ = some (.int .i64 (b : Int))) := Lib.hid fun w' hb => ⟨boxed (hw0 ▸ hb) rfl, boxed (hw0 ▸ hb) rfl⟩
 have HW := Lib.hid hw0
 have H0 := Lib.hid (h.up B0.out)
 have hw1 : IntKind.i64.wrap ((a : Int) + 1) = (a : Int) + 1 := IntWalk.i64_in _ (by omega)
 obtain ⟨lf, hlf⟩ : ∃ z, hasL l ((a : Int) + 1) (b : Int) = z := ⟨_, rfl⟩
 obtain ⟨rt, hrt⟩ : ∃ z, hasR l ((a : Int) + 1) (b : Int) = z := ⟨_, rfl⟩
 have HLF := Lib.hid hlf
 have HRT := Lib.hid hrt
 obtain ⟨s, hs⟩ : ∃ s, (sideOf l e sos ((a : Int), (b : Int))).getD (-1) = s := ⟨_, rfl⟩
 have HS := Lib.hid hs
 rw [hs]
 have hta : (l.take a).length = a := by rw [List.length_take]; omega
 have hcon : Hid (∀ u, Below w0.heap.size w0 u → Calls Tryz.prog 145 #[.slice A a c, .int .i64 sos] u fun ed w' => ed = .returned (.int .i64 (aheadS l sos a)) ∧ Below u.heap.size u w') := Lib.hid fun u hu => by
  have := ahead_any A (l.take a) c sos u ((H0.out.up hu).short a) (by omega)
  rw [hta, ahead_take l sos a a (Nat.le_refl _)] at this
  exact this
 have a0 : (0 : Int) ≤ (a : Int) := by omega
 have a1 : (a : Int) ≤ (c : Int) := by omega
 clear h hw0 hlf hrt hs hta
 have hsd := Lib.hid (bsides_any A l c ((a : Int) + 1) (b : Int) w0 H0.out hl (by omega) (by omega))
 have SB0 := SB.out w0 (Below.refl _ _)
 rcases he with rfl | rfl
 ·rcases hl2 : lf with _ | _
  ·rcases hr2 : rt with _ | _
   ·have HSM : Hid (sameS l 0 ((a : Int), (b : Int)) = false ∧ otherS l 0 ((a : Int), (b : Int)) = false) := Lib.hid ⟨by rw [sameS]; exact HLF.out.trans hl2, by rw [otherS]; exact HRT.out.trans hr2⟩
    have HV : Hid (s = -1) := Lib.hid (by rw [← HS.out, sideOf, HSM.out.1, HSM.out.2]; rfl)
    subst hl2 hr2
    go_enter Tryz.func96, Tryz.ntmps96
    go_wp2_with fail
    rw [HW.out]
    go_wp2_with fail
    refine hsd.out.mono ?_
    rintro ed w1 ⟨rfl, b1⟩
    rw [HLF.out, HRT.out]
    have B1 := Lib.hid b1
    have SB1 := SB.out w1 b1
    clear b1
    go_wp2_with fail
    go_ret
    exact ⟨ret_int HV.out.symm, B0.out.trans (B1.out.mono B0.out.size)⟩
   ·have HSM : Hid (sameS l 0 ((a : Int), (b : Int)) = false ∧ otherS l 0 ((a : Int), (b : Int)) = true) := Lib.hid ⟨by rw [sameS]; exact HLF.out.trans hl2, by rw [otherS]; exact HRT.out.trans hr2⟩
    have HV : Hid (s = aheadS l sos a) := Lib.hid (by rw [← HS.out, side_ahead HSM.out.1 HSM.out.2]; rfl)
    subst hl2 hr2
    go_enter Tryz.func96, Tryz.ntmps96
    go_wp2_with fail
    rw [HW.out]
    go_wp2_with fail
    refine hsd.out.mono ?_
    rintro ed w1 ⟨rfl, b1⟩
    rw [HLF.out, HRT.out]
    have B1 := Lib.hid b1
    have SB1 := SB.out w1 b1
    clear b1
    go_wp2_with fail
    refine (hcon.out w1 B1.out).mono ?_
    rintro ed w2 ⟨rfl, b2⟩
    rw [← HV.out]
    have B2 := Lib.hid b2
    clear b2
    go_wp2_with fail
    go_ret
    exact ⟨rfl, B0.out.trans ((B1.out.trans (B2.out.mono B1.out.size)).mono B0.out.size)⟩
  ·rcases hr2 : rt with _ | _
   ·have HSM : Hid (sameS l 0 ((a : Int), (b : Int)) = true ∧ otherS l 0 ((a : Int), (b : Int)) = false) := Lib.hid ⟨by rw [sameS]; exact HLF.out.trans hl2, by rw [otherS]; exact HRT.out.trans hr2⟩
    have HV : Hid (s = 0) := Lib.hid (by rw [← HS.out, sideOf, HSM.out.1]; rfl)
    subst hl2 hr2
    go_enter Tryz.func96, Tryz.ntmps96
    go_wp2_with fail
    rw [HW.out]
    go_wp2_with fail
    refine hsd.out.mono ?_
    rintro ed w1 ⟨rfl, b1⟩
    rw [HLF.out, HRT.out]
    have B1 := Lib.hid b1
    have SB1 := SB.out w1 b1
    clear b1
    go_wp2_with fail
    go_ret
    exact ⟨ret_int HV.out.symm, B0.out.trans (B1.out.mono B0.out.size)⟩
   ·have HSM : Hid (sameS l 0 ((a : Int), (b : Int)) = true ∧ otherS l 0 ((a : Int), (b : Int)) = true) := Lib.hid ⟨by rw [sameS]; exact HLF.out.trans hl2, by rw [otherS]; exact HRT.out.trans hr2⟩
    have HV : Hid (s = 0) := Lib.hid (by rw [← HS.out, sideOf, HSM.out.1]; rfl)
    subst hl2 hr2
    go_enter Tryz.func96, Tryz.ntmps96
    go_wp2_with fail
    rw [HW.out]
    go_wp2_with fail
    refine hsd.out.mono ?_
    rintro ed w1 ⟨rfl, b1⟩
    rw [HLF.out, HRT.out]
    have B1 := Lib.hid b1
    have SB1 := SB.out w1 b1
    clear b1
    go_wp2_with fail
    go_ret
    exact ⟨ret_int HV.out.symm, B0.out.trans (B1.out.mono B0.out.size)⟩
 ·rcases hl2 : lf with _ | _
  ·rcases hr2 : rt with _ | _
   ·have HSM : Hid (sameS l 1 ((a : Int), (b : Int)) = false ∧ otherS l 1 ((a : Int), (b : Int)) = false) := Lib.hid ⟨by rw [sameS]; exact HRT.out.trans hr2, by rw [otherS]; exact HLF.out.trans hl2⟩
    have HV : Hid (s = -1) := Lib.hid (by rw [← HS.out, sideOf, HSM.out.1, HSM.out.2]; rfl)
    subst hl2 hr2
    go_enter Tryz.func96, Tryz.ntmps96
    go_wp2_with fail
    rw [HW.out]
    go_wp2_with fail
    refine hsd.out.mono ?_
    rintro ed w1 ⟨rfl, b1⟩
    rw [HLF.out, HRT.out]
    have B1 := Lib.hid b1
    have SB1 := SB.out w1 b1
    clear b1
    go_wp2_with fail
    go_ret
    exact ⟨ret_int HV.out.symm, B0.out.trans (B1.out.mono B0.out.size)⟩
   ·have HSM : Hid (sameS l 1 ((a : Int), (b : Int)) = true ∧ otherS l 1 ((a : Int), (b : Int)) = false) := Lib.hid ⟨by rw [sameS]; exact HRT.out.trans hr2, by rw [otherS]; exact HLF.out.trans hl2⟩
    have HV : Hid (s = 1) := Lib.hid (by rw [← HS.out, sideOf, HSM.out.1]; rfl)
    subst hl2 hr2
    go_enter Tryz.func96, Tryz.ntmps96
    go_wp2_with fail
    rw [HW.out]
    go_wp2_with fail
    refine hsd.out.mono ?_
    rintro ed w1 ⟨rfl, b1⟩
    rw [HLF.out, HRT.out]
    have B1 := Lib.hid b1
    have SB1 := SB.out w1 b1
    clear b1
    go_wp2_with fail
    go_ret
    exact ⟨ret_int HV.out.symm, B0.out.trans (B1.out.mono B0.out.size)⟩
  ·rcases hr2 : rt with _ | _
   ·have HSM : Hid (sameS l 1 ((a : Int), (b : Int)) = false ∧ otherS l 1 ((a : Int), (b : Int)) = true) := Lib.hid ⟨by rw [sameS]; exact HRT.out.trans hr2, by rw [otherS]; exact HLF.out.trans hl2⟩
    have HV : Hid (s = aheadS l sos a) := Lib.hid (by rw [← HS.out, side_ahead HSM.out.1 HSM.out.2]; rfl)
    subst hl2 hr2
    go_enter Tryz.func96, Tryz.ntmps96
    go_wp2_with fail
    rw [HW.out]
    go_wp2_with fail
    refine hsd.out.mono ?_
    rintro ed w1 ⟨rfl, b1⟩
    rw [HLF.out, HRT.out]
    have B1 := Lib.hid b1
    have SB1 := SB.out w1 b1
    clear b1
    go_wp2_with fail
    refine (hcon.out w1 B1.out).mono ?_
    rintro ed w2 ⟨rfl, b2⟩
    rw [← HV.out]
    have B2 := Lib.hid b2
    clear b2
    go_wp2_with fail
    go_ret
    exact ⟨rfl, B0.out.trans ((B1.out.trans (B2.out.mono B1.out.size)).mono B0.out.size)⟩
   ·have HSM : Hid (sameS l 1 ((a : Int), (b : Int)) = true ∧ otherS l 1 ((a : Int), (b : Int)) = true) := Lib.hid ⟨by rw [sameS]; exact HRT.out.trans hr2, by rw [otherS]; exact HLF.out.trans hl2⟩
    have HV : Hid (s = 1) := Lib.hid (by rw [← HS.out, sideOf, HSM.out.1]; rfl)
    subst hl2 hr2
    go_enter Tryz.func96, Tryz.ntmps96
    go_wp2_with fail
    rw [HW.out]
    go_wp2_with fail
    refine hsd.out.mono ?_
    rintro ed w1 ⟨rfl, b1⟩
    rw [HLF.out, HRT.out]
    have B1 := Lib.hid b1
    have SB1 := SB.out w1 b1
    clear b1
    go_wp2_with fail
    go_ret
    exact ⟨ret_int HV.out.symm, B0.out.trans (B1.out.mono B0.out.size)⟩
end Go.Proofs.YtcbaahlahohfmaaGreatDoor
namespace Go.Proofs.YtcbaahlahohfmaaGreatDoor
open Go.RowKit
def rawS (chars classes : List Int) (st : PS) (i : Nat) : PS :=
 if st.ended then st
 else if (oth (cAt chars i)).2.2 = false ∨ cAt classes i ≠ 13 then st
 else if (oth (cAt chars i)).2.1 then (if st.waits.length = 63 then { st with ended := true } else { st with waits := i :: st.waits })
 else match findW chars (oth (cAt chars i)).1 st.waits with
  | none => st
  | some (w, ws) => { st with out := st.out ++ [((w : Int), (i : Int))], waits := ws }
def rawN (chars classes : List Int) : Nat → PS
 | 0 => ⟨[], [], false⟩
 | k + 1 => rawS chars classes (rawN chars classes k) k
theorem putP_perm (L : List (Int × Int)) (p : Int × Int) : (putP L p).Perm (L ++ [p]) := by
 unfold putP
 rw [List.append_assoc]
 refine (List.perm_append_comm.append_left _).trans ?_
 rw [← List.append_assoc, List.take_append_drop]
theorem raw_like (chars classes : List Int) : ∀ k, (rawN chars classes k).waits = (pairsN chars classes k).waits ∧ (rawN chars classes k).ended = (pairsN chars classes k).ended ∧ (rawN chars classes k).out.Perm (pairsN chars classes k).out := by
 intro k
 induction k with
 | zero => exact ⟨rfl, rfl, List.Perm.refl _⟩
 | succ k ih =>
  rw [rawN, pairsN]
  generalize rawN chars classes k = a at *
  generalize pairsN chars classes k = b at *
  obtain ⟨o1, w1, e1⟩ := a
  obtain ⟨o2, w2, e2⟩ := b
  obtain ⟨rfl, rfl, h3⟩ := ih
  unfold rawS pStep
  dsimp only
  split
  ·exact ⟨rfl, rfl, h3⟩
  ·split
   ·exact ⟨rfl, rfl, h3⟩
   ·split
    ·split
     ·exact ⟨rfl, rfl, h3⟩
     ·exact ⟨rfl, rfl, h3⟩
    ·cases findW chars (oth (cAt chars k)).1 w1 with
     | none => exact ⟨rfl, rfl, h3⟩
     | some q => exact ⟨rfl, rfl, (h3.append_right _).trans (putP_perm _ _).symm⟩
theorem raw_ended (chars classes : List Int) : ∀ d k, (rawN chars classes k).ended = true → rawN chars classes (k + d) = rawN chars classes k := by
 intro d
 induction d with
 | zero => intro k _; rfl
 | succ d ih =>
  intro k h
  rw [show k + (d + 1) = k + d + 1 by omega, rawN, ih k h, rawS, if_pos h]
theorem rises_of (chars classes : List Int) (k : Nat) : (pairsN chars classes k).out.Pairwise (fun p q => p.1 < q.1) := (pinv chars classes k).order.imp fun h => h.1
theorem same_first {L : List (Int × Int)} (h : L.Pairwise (fun p q => p.1 < q.1)) {a b : Int × Int} (ha : a ∈ L) (hb : b ∈ L) (he : a.1 = b.1) : a = b := by
 obtain ⟨i, hi, rfl⟩ := List.mem_iff_getElem.1 ha
 obtain ⟨j, hj, rfl⟩ := List.mem_iff_getElem.1 hb
 have hp := List.pairwise_iff_getElem.1 h
 rcases Nat.lt_trichotomy i j with hij | hij | hij
 ·have := hp i j hi hj hij; omega
 ·subst hij; rfl
 ·have := hp j i hj hi hij; omega
theorem sorted_is (chars classes : List Int) (k : Nat) (L : List (Int × Int)) (hp : L.Perm (rawN chars classes k).out) (hs : L.Pairwise (fun p q => p.1 ≤ q.1)) : L = (pairsN chars classes k).out := by
 have h1 := hp.trans (raw_like chars classes k).2.2
 have hr := rises_of chars classes k
 refine List.Perm.eq_of_pairwise (le := fun p q : Int × Int => p.1 ≤ q.1) (fun a b ha hb hab hba => ?_) hs (hr.imp fun h => Int.le_of_lt h) h1
 exact same_first hr (h1.mem_iff.1 ha) hb (by omega)
theorem raw_le (chars classes : List Int) (k : Nat) : (rawN chars classes k).out.length ≤ k ∧ (rawN chars classes k).waits.length ≤ k := by
 obtain ⟨h1, _, h3⟩ := raw_like chars classes k
 have := pairs_le chars classes k
 rw [h1, h3.length_eq]
 exact this
theorem raw_waits (chars classes : List Int) : ∀ k, (rawN chars classes k).waits.length ≤ 63 := by
 intro k
 induction k with
 | zero => exact Nat.zero_le _
 | succ k ih =>
  rw [rawN]
  generalize rawN chars classes k = st at *
  unfold rawS
  split
  ·exact ih
  ·split
   ·exact ih
   ·split
    ·split
     ·exact ih
     ·simp only [List.length_cons]; omega
    ·split
     ·exact ih
     ·rename_i w ws hf
      have hw : ∀ W : List Nat, ∀ w ws, findW chars (oth (cAt chars k)).1 W = some (w, ws) → ws.length ≤ W.length := by
       intro W
       induction W with
       | nil => intro w ws h; cases h
       | cons v W ih =>
        intro w ws h
        unfold findW at h
        split at h
        ·injection h with h; injection h with h3 h4; subst h4; simp
        ·have := ih w ws h; simp; omega
      have := hw _ w ws hf
      show ws.length ≤ 63
      omega
end Go.Proofs.YtcbaahlahohfmaaGreatDoor
