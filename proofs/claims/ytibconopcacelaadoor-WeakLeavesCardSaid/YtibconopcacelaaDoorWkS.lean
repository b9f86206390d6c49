/- Layer 9: the program's Strong: a range over slices.Backward. -/
import Derived.Test.YtibconopcacelaaDoorWkQ
import Derived.RangeFuncNested
import Derived.RangeFuncBound
import Derived.RangeFuncCalls
import Derived.RangeFuncLeaves
import Derived.Shelf.Abstract
import Derived.Shelf.RegionOpen
import Derived.OwnWalkIn
import Derived.TacticsInMore
import Derived.LoopNIn
import Derived.LoopIn
namespace Go.Proofs.YtibconopcacelaaDoor
open Go.RowKit

attribute [local go_sem] Oper.semAt_some

/-- what comes, from the last place to the first -/
def bwAt (l : List Int) (j : Nat) : Nat × Int := (l.length - 1 - j, l.getD (l.length - 1 - j) 0)
def bwTo (l : List Int) (k : Nat) : List (Nat × Int) := (List.range k).map (bwAt l)
theorem bwTo_succ (l : List Int) (k : Nat) : bwTo l (k + 1) = bwTo l k ++ [bwAt l k] := by simp [bwTo, List.range_succ]
theorem bwTo_length (l : List Int) (k : Nat) : (bwTo l k).length = k := by simp [bwTo]

set_option maxRecDepth 100000 in
set_option maxHeartbeats 2000000 in
/-- slices.Backward's closure: whatever body keeps what lay below n₀ -/
theorem bw1_in (F : Fence) (n : Nat) (hF : F.fn 26) (hro : F.round = none) (hn : 1 ≤ n) (l0 Bs n₀ cap : Nat) (A : Option Addr) (l : List Int) (hl : l.length ≤ 1000000) (J Jx : List (Nat × Int) → World → Prop)
    (hY : ∀ pre x W, J pre W → pre.length < l.length → YieldAt F (n - 1) Tryd.prog l0 #[.int .i64 (x.1 : Int), .int .i64 x.2] W fun e W' =>
      (e = .returned (.bool true) ∧ J (pre ++ [x]) W' ∧ Below n₀ W W') ∨ (e = .returned (.bool false) ∧ Jx (pre ++ [x]) W'))
    (W : World) (hBl : Bs < n₀) (hBs : W.cell? ⟨Bs, 0, none⟩ = some (.slice A l.length cap)) (hL : Lies W n₀ A (ints .i64 l)) (h0 : J [] W) :
    CallsIn F n Tryd.prog 26 #[.func (.yield l0) #[] #[], .pointer (some ⟨Bs, 0, none⟩)] W fun e W' => (∃ v, e = .returned v) ∧
      ((∃ ys, ys = bwTo l l.length ∧ J ys W') ∨ (∃ pre, (∃ k, k ≤ l.length ∧ pre = bwTo l k) ∧ Jx pre W')) := by
  have HY := Lib.hid hY
  have HL := Lib.hid hL
  have HB := Lib.hid hBs
  have H0 := Lib.hid h0
  clear hY hL h0
  refine callsIn_of_wp Tryd.func26 rfl hF ?_ hro
  simp only [Tryd.ntmps26, List.size_toArray, List.length_cons, List.length_nil, Nat.reduceAdd, Nat.reduceSub, Array.replicate_succ, Array.replicate_zero, List.push_toArray, List.append_toArray, List.nil_append, List.cons_append]
  have hw0 : IntKind.i64.wrap ((l.length : Int) - 1) = (l.length : Int) - 1 := IntWalk.i64_in _ (by omega)
  gi_wp2
  gi_loopw [3] (fun i wr => ∃ k : Nat, k ≤ l.length ∧ i = .int .i64 ((l.length : Int) - 1 - (k : Int)) ∧ Hid (J (bwTo l k) wr) ∧ Hid (Below n₀ W wr))
    (fun i _ => (intOf i + 1).toNat)
  case atStart => exact ⟨0, Nat.zero_le _, by simp, H0, Lib.hid (Below.refl _ _)⟩
  case round =>
    obtain ⟨k, hk, rfl, HJ, HBr⟩ := hrel
    by_cases hlt : k < l.length
    · obtain ⟨m, hm⟩ : ∃ m, l.length - 1 - k = m := ⟨_, rfl⟩
      have hmz : (l.length : Int) - 1 - (k : Int) = (m : Int) := by omega
      rw [hmz]
      have hml : m < l.length := by omega
      obtain ⟨p, rfl, _, hc⟩ := (HL.out.below HBr.out).int hml
      have hc' : wr.cell? (p.add m) = some (.int .i64 (l.getD m 0)) := by rw [getD_at hml]; exact hc
      have hbc := (HBr.out.cell (p := ⟨Bs, 0, none⟩) hBl).trans HB.out
      have b0 : (0 : Int) ≤ (m : Int) := by omega
      have b1 : (m : Int) < (l.length : Int) := by omega
      obtain ⟨fn, tmps, assign, body, hy, hR⟩ := HY.out _ (m, l.getD m 0) wr HJ.out (by rw [bwTo_length]; exact hlt)
      dsimp only at hy
      have hw1 : IntKind.i64.wrap ((m : Int) - 1) = (l.length : Int) - 1 - ((k + 1 : Nat) : Int) := by rw [IntWalk.i64_in _ (by omega)]; omega
      obtain ⟨x, hx⟩ : ∃ x, l.getD m 0 = x := ⟨_, rfl⟩
      rw [hx] at hc' hy hR
      have HM := Lib.hid hm
      have HX := Lib.hid hx
      clear hc hmz hm hBs hx
      have HR := Lib.hid hR
      clear hR
      gi_wp2
      refine HR.out.mono ?_
      rintro e W3 (⟨rfl, j3, k3⟩ | ⟨rfl, j3⟩)
      · have HJ3 := Lib.hid j3
        have HK3 := Lib.hid (HBr.out.trans k3)
        clear j3 k3
        gi_wp2
        go_roundw
        case rel => exact ⟨k + 1, by omega, by first | rfl | trivial, Lib.hid (by rw [bwTo_succ, bwAt, HM.out, HX.out]; exact HJ3.out), HK3⟩
        case measure => have := HM.out; simp [intOf]; omega
      · have HJ3 := Lib.hid j3
        clear j3
        gi_wp2
        refine bodyPost_ret (results_none rfl _ _ _) rfl ?_
        exact ⟨⟨_, rfl⟩, .inr ⟨_, ⟨k + 1, by omega, by rw [bwTo_succ, bwAt, HM.out, HX.out]⟩, HJ3.out⟩⟩
    · obtain rfl : k = l.length := by omega
      have hmz : (l.length : Int) - 1 - (l.length : Int) = -1 := by omega
      rw [hmz]
      clear hBs hmz
      gi_wp2
      go_end0
      exact ⟨⟨_, rfl⟩, .inl ⟨_, rfl, HJ.out⟩⟩

set_option maxHeartbeats 1000000 in
theorem bw_in (F : Fence) (n : Nat) (hF : F.fn 15) (hro : F.round = none) (A : Option Addr) (len cap : Nat) (w : World) :
    CallsIn F n Tryd.prog 15 #[.slice A len cap] w fun e w' => e = .returned (.func (.func 26) #[] #[.pointer (some ⟨w.heap.size, 0, none⟩)]) ∧ w' = w.alloc (.cells #[.slice A len cap] 22) := by
  refine callsIn_of_wp Tryd.func15 rfl hF ?_ hro
  simp only [Tryd.ntmps15, List.size_toArray, List.length_cons, List.length_nil, Nat.reduceAdd, Nat.reduceSub, Array.replicate_succ, Array.replicate_zero, List.push_toArray, List.append_toArray, List.nil_append, List.cons_append]
  gi_wp2
  go_ret
  exact ⟨rfl, rfl⟩

theorem bw_stops (F : Fence) (n : Nat) (hF : F.fn 26) (hro : F.round = none) (hn : 1 ≤ n) (Bs n₀ cap : Nat) (A : Option Addr) (l : List Int) (hl : l.length ≤ 1000000) (w : World) (hBl : Bs < n₀) (hn₀ : n₀ ≤ w.heap.size)
    (hc : w.cell? ⟨Bs, 0, none⟩ = some (.slice A l.length cap)) (hL : Lies w n₀ A (ints .i64 l)) :
    SeqStopsK F n Tryd.prog 26 #[.pointer (some ⟨Bs, 0, none⟩)] (fun x : Nat × Int => #[Value.int .i64 (x.1 : Int), Value.int .i64 x.2]) (Below n₀) (fun ys => ys = bwTo l l.length)
      (fun pre => ∃ k, k ≤ l.length ∧ pre = bwTo l k) l.length w := fun l0 J Jx W hW _ _ hY h0 =>
  bw1_in F n hF hro hn l0 Bs n₀ cap A l hl J Jx hY W hBl ((hW.cell (p := ⟨Bs, 0, none⟩) (by show Bs < _; omega)).trans hc) (hL.below (hW.mono hn₀)) h0

/-- the last strong one, looked for from the end -/
theorem strong_none (s : Int) : ∀ l : List Int, (∀ k ∈ l, isStrong k = false) → lastStrong s l = s
  | [], _ => rfl
  | k :: l, h => by
    rw [lastStrong_cons, h k (by simp)]
    exact strong_none s l (fun x hx => h x (by simp [hx]))
theorem strong_app (s : Int) (l : List Int) (k : Int) (r : List Int) (hk : isStrong k = true) (hr : ∀ x ∈ r, isStrong x = false) : lastStrong s (l ++ k :: r) = k := by
  have e : lastStrong s (l ++ k :: r) = lastStrong (lastStrong s l) (k :: r) := by simp [lastStrong, List.foldl_append]
  rw [e, lastStrong_cons, hk, if_pos rfl, strong_none k r hr]
/-- of what has come, none was strong -/
def NoneYet (pre : List (Nat × Int)) : Prop := ∀ p ∈ pre, isStrong (plainK p.2) = false
theorem none_all {l : List Int} (s : Int) (h : NoneYet (bwTo l l.length)) : lastStrong s (plainL l) = s := by
  refine strong_none s _ fun k hk => ?_
  obtain ⟨x, hx, rfl⟩ := List.mem_map.1 hk
  obtain ⟨i, hi, rfl⟩ := List.mem_iff_getElem.1 hx
  have := h (bwAt l (l.length - 1 - i)) (by simp only [bwTo, List.mem_map, List.mem_range]; exact ⟨_, by omega, rfl⟩)
  rw [bwAt, show l.length - 1 - (l.length - 1 - i) = i by omega, getD_at hi] at this
  exact this
theorem none_till {l : List Int} (s : Int) {k : Nat} (hk : k < l.length) (h : NoneYet (bwTo l k)) (hs : isStrong (plainK (bwAt l k).2) = true) : lastStrong s (plainL l) = plainK (bwAt l k).2 := by
  have hm : l.length - 1 - k < l.length := by omega
  have e : l = l.take (l.length - 1 - k) ++ l[l.length - 1 - k] :: l.drop (l.length - 1 - k + 1) := by
    rw [← List.drop_eq_getElem_cons hm, List.take_append_drop]
  have e2 : (bwAt l k).2 = l[l.length - 1 - k] := by rw [bwAt, getD_at hm]
  rw [e2] at hs ⊢
  have e3 : plainL l = plainL (l.take (l.length - 1 - k)) ++ plainK l[l.length - 1 - k] :: plainL (l.drop (l.length - 1 - k + 1)) := by
    have := congrArg plainL e
    rw [plainL, plainL, List.map_append, List.map_cons] at this
    exact this
  rw [e3]
  refine strong_app _ _ _ _ hs fun x hx => ?_
  obtain ⟨y, hy, rfl⟩ := List.mem_map.1 hx
  obtain ⟨i, hi, rfl⟩ := List.mem_iff_getElem.1 hy
  rw [List.length_drop] at hi
  have := h (bwAt l (k - 1 - i)) (by simp only [bwTo, List.mem_map, List.mem_range]; exact ⟨_, by omega, rfl⟩)
  rw [bwAt, show l.length - 1 - (k - 1 - i) = l.length - 1 - k + 1 + i by omega, getD_at (by omega)] at this
  rw [List.getElem_drop]
  exact this

set_option maxRecDepth 100000 in
set_option maxHeartbeats 4000000 in
theorem wstrong_in (A : Option Addr) (l : List Int) (c : Nat) (sos : Int) (k : Nat) (hk : k ≤ l.length) (hc : l.length ≤ c) (w : World) (hT : ClsTabs w) (h : Lies w w.heap.size A (ints .i64 l)) (hl : l.length ≤ 1000) :
    Calls Tryd.prog 9 #[.slice A l.length c, .int .i64 (k : Int), .int .i64 sos] w fun ed w' => ed = .returned (.int .i64 (lastStrong (sideK sos) (plainL (l.take k)))) ∧ Below w.heap.size w w' := by
  refine (callsIn_wide (n := 3)).1 ?_
  refine callsIn_of_wp_marks Tryd.func9 rfl trivial ?_ rfl
  simp only [Tryd.ntmps9, List.size_toArray, List.length_cons, List.length_nil, Nat.reduceAdd, Nat.reduceSub, Array.replicate_succ, Array.replicate_zero, List.push_toArray, List.append_toArray, List.nil_append, List.cons_append]
  have d0 : decide ((k : Int) < 0) = false := by simp
  have d1 : decide ((k : Int) > (l.length : Int)) = false := by simp; omega
  have d2 : (k : Int) ≤ (c : Int) := by omega
  have hlt : (l.take k).length = k := by rw [List.length_take]; omega
  have d3 : decide (l.length < k) = false := by simp; omega
  have HT := Lib.hid hT
  have H := Lib.hid h
  have HLT := Lib.hid hlt
  clear hT h hlt
  gi_wp2_with (refine ⟨trivial, ?_⟩; gi_at_call 15; refine (bw_in Fence.wide _ trivial rfl _ _ _ _).mono ?_; rintro e w' ⟨rfl, rfl⟩)
  have bR := Boxed.new w 3 (.int .i64 0)
  have bN := Boxed.new (w.alloc (.cells #[.int .i64 0] 3)) 22 (.slice A k c)
  rw [World.size_alloc] at bN
  have hB0 : Below w.heap.size w ((w.alloc (.cells #[.int .i64 0] 3)).alloc (.cells #[.slice A k c] 22)) := ((Below.refl _ w).alloc (Nat.le_refl _) _).alloc (by simp) _
  have hS : SeqStopsK Fence.wide 2 Tryd.prog 26 #[.pointer (some ⟨w.heap.size + 1, 0, none⟩)] (fun x : Nat × Int => #[Value.int .i64 (x.1 : Int), Value.int .i64 x.2]) (Below (w.heap.size + 2)) (fun ys => ys = bwTo (l.take k) k)
      (fun pre => ∃ j, j ≤ k ∧ pre = bwTo (l.take k) j) k ((w.alloc (.cells #[.int .i64 0] 3)).alloc (.cells #[.slice A k c] 22)) := by
    have := bw_stops Fence.wide 2 trivial rfl (by omega) (w.heap.size + 1) (w.heap.size + 2) c A (l.take k) (by rw [HLT.out]; omega) ((w.alloc (.cells #[.int .i64 0] 3)).alloc (.cells #[.slice A k c] 22)) (by omega) (by simp) (by rw [HLT.out]; exact bN.cell) (((H.out.short k).below hB0).wider (by omega))
    rw [HLT.out] at this
    exact this
  refine wpIn_rangeFunc_ownG rfl (by omega) (gf := 26) (lb := #[.pointer (some ⟨w.heap.size + 1, 0, none⟩)]) rfl trivial (enters_of Tryd.func26 (by kernel_rfl) rfl)
    hS belowK_t (belowK_b (by simp)) (Below.refl _ _) (fun _ => rfl)
    (fun pre W => (w.heap.size + 2 ≤ W.heap.size ∧ NoneYet pre ∧ W.cell? ⟨w.heap.size, 0, none⟩ = some (.int .i64 0) ∧ W.frozen? ⟨w.heap.size, 0, none⟩ = false) ∧ Below w.heap.size w W)
    (fun c pre W => (c = .ret ∧ ∃ ini last, pre = ini ++ [last] ∧ NoneYet ini ∧ isStrong (plainK last.2) = true ∧ W.cell? ⟨w.heap.size, 0, none⟩ = some (.int .i64 (plainK last.2))) ∧ Below w.heap.size w W)
    (OwnFrom.and (Own.from (fun s A B row hs hg hr => ⟨Nat.le_trans hs.1 hg.size, hs.2.1, cell_kept hs.2.2.1 hg hr, (frozen_kept hs.2.2.1 hg hr).trans hs.2.2.2⟩) _) (ownFrom_below (Nat.le_refl _) (by simp; omega)))
    (fun c => OwnFrom.and (Own.from (fun s A B row hs hg hr => by obtain ⟨hc, ini, last, e1, e2, e3, e4⟩ := hs; exact ⟨hc, ini, last, e1, e2, e3, cell_kept e4 hg hr⟩) _) (ownFrom_below (Nat.le_refl _) (by simp; omega)))
    ⟨⟨by simp, fun p hp => (by cases hp), (bR.alloc _).cell, (bR.alloc _).frozen⟩, hB0⟩
    (fun x => { tmps := #[.slice A l.length c, .int .i64 (k : Int), .int .i64 sos, undef, undef, undef, .pointer (some ⟨w.heap.size, 0, none⟩), undef, .int .i64 x.2, .int .i64 (k : Int), .bool false, .bool false, .int .i64 (k : Int), .slice A l.length c, .int .i64 (l.length : Int), .bool false, .bool false, undef, undef, .slice A l.length c, .int .i64 (k : Int), .slice A k c, .func (.func 26) #[] #[.pointer (some ⟨w.heap.size + 1, 0, none⟩)], .int .i64 (x.1 : Int), .int .i64 x.2, undef, undef, undef, undef, undef, undef, undef], defers := [] }) ?assign ?body ?done ?stop
  case assign =>
    intro l x W K hK
    gi_wp2
    exact hK
  case body =>
    rintro l0 pre x W ⟨⟨hsz, hp, hcr, hfr⟩, hB⟩ _
    have HP := Lib.hid hp
    have HB := Lib.hid hB
    have HTW := Lib.hid (HT.out.below hB HT.out.big)
    obtain ⟨y, hy⟩ : ∃ y, plainK x.2 = y := ⟨_, rfl⟩
    have HY := Lib.hid hy
    clear hp hB
    rcases hs : isStrong y with _ | _
    · have HS := Lib.hid hs
      clear hs hy
      gi_wp2_with (refine ⟨trivial, ?_⟩; gi_at_call 16; refine (CallsIn.inRound l0 (callsIn_wide.2 (wcounted_any x.2 W HTW.out))).mono ?_; rintro e w' ⟨rfl, rfl⟩; rw [HY.out])
      gi_wp2_with (refine ⟨trivial, ?_⟩; gi_at_call 17; refine (CallsIn.inRound l0 (callsIn_wide.2 (strong_any y W))).mono ?_; rintro e w1 ⟨rfl, b1⟩; rw [HS.out])
      refine ⟨KeepsFrom.of_grownBy (grown_of_below b1 none) (by simp), b1.mono hsz, ⟨Nat.le_trans hsz b1.size, fun p hp' => ?_, (b1.cell (p := ⟨w.heap.size, 0, none⟩) (by show w.heap.size < _; omega)).trans hcr,
        (World.frozen?_of_block (b1.block _ (by show w.heap.size < _; omega))).trans hfr⟩, HB.out.trans (b1.mono HB.out.size)⟩
      rcases List.mem_append.1 hp' with hp' | hp'
      · exact HP.out p hp'
      · rw [List.mem_singleton.1 hp', HY.out]; exact HS.out
    · have HS := Lib.hid hs
      clear hs hy
      gi_wp2_with (refine ⟨trivial, ?_⟩; gi_at_call 16; refine (CallsIn.inRound l0 (callsIn_wide.2 (wcounted_any x.2 W HTW.out))).mono ?_; rintro e w' ⟨rfl, rfl⟩; rw [HY.out])
      gi_wp2_with (refine ⟨trivial, ?_⟩; gi_at_call 17; refine (CallsIn.inRound l0 (callsIn_wide.2 (strong_any y W))).mono ?_; rintro e w1 ⟨rfl, b1⟩; rw [HS.out]; have hcr1 := (b1.cell (p := ⟨w.heap.size, 0, none⟩) (by show w.heap.size < _; omega)).trans hcr; have hfr1 := (World.frozen?_of_block (b1.block _ (by show w.heap.size < _; omega))).trans hfr; have B1 := Lib.hid b1; clear b1)
      refine ⟨(KeepsFrom.of_grownBy (grown_of_below B1.out none) (by simp)).trans ((KeepsOthers.setCell _ _ _).from _), ⟨rfl, pre, x, rfl, HP.out, by rw [HY.out]; exact HS.out, ?_⟩, (HB.out.trans (B1.out.mono HB.out.size)).setCell (p := ⟨w.heap.size, 0, none⟩) (Nat.le_refl _) _⟩
      rw [HY.out]
      exact World.cell?_setCell_same' _ _ _ (by rw [hcr1]; rfl)
  case done =>
    rintro D ys W hD rfl ⟨⟨hsz, hne, hcr, hfr⟩, hB⟩ hK
    have HNE := Lib.hid hne
    have HB := Lib.hid hB
    have HK := Lib.hid hK
    have HD := Lib.hid hD
    clear hne hB hK hD
    gi_wp2_with (refine ⟨trivial, ?_⟩; gi_at_call 14; refine (callsIn_wide.2 (wside_any sos W)).mono ?_; rintro e w' ⟨rfl, rfl⟩)
    have hK' := (KeepsOthers.setCell W ⟨w.heap.size, 0, none⟩ (.int .i64 (sideK sos))).same D _ HK.out rfl
    refine ⟨by simp, .inl ⟨_, _, rfl, run_takeDeferred hK', ?_⟩⟩
    have hc5 := cell_kept (World.cell?_setCell_same' W ⟨w.heap.size, 0, none⟩ (.int .i64 (sideK sos)) (by rw [hcr]; rfl)) (grownBy_putObj' _ D (.deferred none)) (fun r e => by cases e; exact ⟨_, hK', rfl⟩)
    have hne := HNE.out
    rw [show bwTo (l.take k) k = bwTo (l.take k) (l.take k).length by rw [HLT.out]] at hne
    refine ⟨.int .i64 (sideK sos), ?_, by rw [none_all (sideK sos) hne], (HB.out.setCell (p := ⟨w.heap.size, 0, none⟩) (Nat.le_refl _) _).trans (belowK_b (w := w) (Nat.le_refl _) _ D _ _ (by have := HD.out; simp at this; omega) hK' rfl rfl)⟩
    simp [results, Tryd.f9, go_sem, hc5]
  case stop =>
    rintro D c0 pre W hD ⟨j, hj, rfl⟩ ⟨⟨rfl, ini, last, e1, e2, e3, hcr⟩, hB⟩ hK
    gi_wp2
    refine ⟨by simp, .inl ⟨_, _, rfl, run_takeDeferred hK, ?_⟩⟩
    have hc5 := cell_kept hcr (grownBy_putObj' _ D (.deferred none)) (fun r e => by cases e; exact ⟨_, hK, rfl⟩)
    obtain ⟨j', rfl⟩ : ∃ j', j = j' + 1 := by
      cases j with
      | zero => simp [bwTo] at e1
      | succ j' => exact ⟨j', rfl⟩
    rw [bwTo_succ] at e1
    obtain ⟨rfl, e5⟩ := List.append_inj' e1 rfl
    obtain rfl : bwAt (l.take k) j' = last := by simpa using e5
    refine ⟨.int .i64 (plainK (bwAt (l.take k) j').2), ?_, by rw [none_till (sideK sos) (by rw [HLT.out]; omega) e2 e3], hB.trans (belowK_b (w := w) (Nat.le_refl _) W D _ _ (by simp at hD; omega) hK rfl rfl)⟩
    simp [results, Tryd.f9, go_sem, hc5]

theorem wstrong_any (A : Option Addr) (l : List Int) (c : Nat) (i : Nat) (sos : Int) (w : World) (hT : ClsTabs w) (h : Lies w w.heap.size A (ints .i64 l)) (hl : l.length ≤ 1000) (hc : l.length ≤ c) (hi : i ≤ l.length) :
    Calls Tryd.prog 9 #[.slice A l.length c, .int .i64 (i : Int), .int .i64 sos] w fun ed w' => ed = .returned (.int .i64 (strongI l i sos)) ∧ Below w.heap.size w w' := by
  have e : strongI l i sos = lastStrong (sideK sos) (plainL (l.take i)) := by
    rw [strongI, if_neg (by omega), Int.toNat_natCast, plainL, plainL, List.map_take]
  rw [e]
  exact wstrong_in A l c sos i hi hc w hT h hl
end Go.Proofs.YtibconopcacelaaDoor
