/- Layer 10: the program's lastSame, ahead: ranges over slices.Backward. -/
import Derived.Test.YtoiolgpbecgfkaaBrF
import Derived.Test.YtoiolgpbecgfkaaBrD
import Derived.Test.YtoiolgpbecgfkaaBrN
import Derived.Test.YtoiolgpbecgfkaaBw
import Derived.Stop.RegionWithIn
namespace Go.Proofs.Ytoiolgpbecgfkaa
open Go.RowKit

attribute [local go_sem] Oper.semAt_some

/-- the place among those that wait; -1: none -/
def lastN (chars : List Int) (o : Int) (W : List Nat) : Int := match findW chars o W with
  | none => -1
  | some (_, ws) => (ws.length : Int)
theorem findW_none (chars : List Int) (o : Int) : ∀ W : List Nat, (∀ x ∈ W, sameB (cAt chars x) o = false) → findW chars o W = none
  | [], _ => rfl
  | x :: W, h => by
    rw [findW, h x List.mem_cons_self]
    exact findW_none chars o W fun y hy => h y (List.mem_cons_of_mem _ hy)
theorem findW_at (chars : List Int) (o : Int) : ∀ (W : List Nat) (j : Nat) (hj : j < W.length), (∀ i (hi : i < j), sameB (cAt chars (W[i]'(by omega))) o = false) → sameB (cAt chars W[j]) o = true →
    findW chars o W = some (W[j], W.drop (j + 1))
  | [], j, hj, _, _ => by simp at hj
  | x :: W, 0, hj, _, h => by
    rw [List.getElem_cons_zero] at h
    rw [findW, if_pos h]; rfl
  | x :: W, j + 1, hj, hb, h => by
    have h0 := hb 0 (by omega)
    rw [List.getElem_cons_zero] at h0
    rw [findW, h0]
    rw [List.getElem_cons_succ] at h
    have := findW_at chars o W j (by simpa using hj) (fun i hi => by have := hb (i + 1) (by omega); rwa [List.getElem_cons_succ] at this) h
    rw [List.getElem_cons_succ, List.drop_succ_cons]
    exact this
theorem bw_wait (W : List Nat) (j : Nat) (hj : j < W.length) : bwAt (waitL W) j = (W.length - 1 - j, ((W[j] : Nat) : Int)) := by
  have h1 : W.length - 1 - j < (waitL W).length := by rw [waitL_length]; omega
  have h2 := waitL_get W (W.length - 1 - j) h1 (by omega)
  rw [bwAt, waitL_length, getD_at h1, h2]
  simp only [show W.length - 1 - (W.length - 1 - j) = j by omega]
/-- it says a place -/
def IsAt (n : Nat) (x : Nat × Int) : Prop := ∃ v : Nat, x.2 = (v : Int) ∧ v < n
/-- of what has come, none is the same -/
def NoSame (chars : List Int) (o : Int) (pre : List (Nat × Int)) : Prop := ∀ p ∈ pre, sameB (cAt chars p.2.toNat) o = false
theorem lastN_none {chars : List Int} {o : Int} {W : List Nat} (h : NoSame chars o (bwTo (waitL W) W.length)) : lastN chars o W = -1 := by
  rw [lastN, findW_none]
  intro x hx
  obtain ⟨i, hi, rfl⟩ := List.mem_iff_getElem.1 hx
  have := h (bwAt (waitL W) i) (by simp only [bwTo, List.mem_map, List.mem_range]; exact ⟨_, hi, rfl⟩)
  rw [bw_wait W i hi] at this
  simpa using this
theorem lastN_at {chars : List Int} {o : Int} {W : List Nat} {j : Nat} (hj : j < W.length) (h : NoSame chars o (bwTo (waitL W) j)) (hs : sameB (cAt chars (bwAt (waitL W) j).2.toNat) o = true) : lastN chars o W = ((bwAt (waitL W) j).1 : Int) := by
  rw [bw_wait W j hj] at hs ⊢
  have hs' : sameB (cAt chars W[j]) o = true := by simpa using hs
  rw [lastN, findW_at chars o W j hj (fun i hi => ?_) hs']
  · simp only [List.length_drop]
    omega
  · have := h (bwAt (waitL W) i) (by simp only [bwTo, List.mem_map, List.mem_range]; exact ⟨_, hi, rfl⟩)
    rw [bw_wait W i (by omega)] at this
    simpa using this

theorem grown_of_below {w w' : World} (h : Below w.heap.size w w') (row : Option Nat) : w.grownBy w' row := ⟨h.os, h.tape, h.output, h.size, fun k hk _ => h.block k hk⟩
theorem undrew {u w1 : World} (b : Below u.drew.heap.size u.drew w1) : Below u.heap.size u w1 := (below_drawn (Below.refl u.heap.size u) 1).trans b

set_option maxRecDepth 100000 in
set_option maxHeartbeats 4000000 in
theorem lastSame_any (A : Option Addr) (chars : List Int) (c : Nat) (A' : Option Addr) (W : List Nat) (c' : Nat) (o : Int) (w : World) (h : Lies w w.heap.size A (ints .i64 chars)) (h' : Lies w w.heap.size A' (ints .i64 (waitL W)))
    (hW : ∀ x ∈ W, x < chars.length) (hl : W.length ≤ 1000) (_ : chars.length ≤ 1000) :
    Calls Try.prog 22 #[.slice A chars.length c, .slice A' W.length c', .int .i64 o] w fun ed w' => ed = .returned (.int .i64 (lastN chars o W)) ∧ Below w.heap.size w w' := by
  refine (callsIn_wide (n := 3)).1 ?_
  refine callsIn_of_wp_marks Try.func22 rfl trivial ?_ rfl
  simp only [Try.ntmps22, List.size_toArray, List.length_cons, List.length_nil, Nat.reduceAdd, Nat.reduceSub, Array.replicate_succ, Array.replicate_zero, List.push_toArray, List.append_toArray, List.nil_append, List.cons_append]
  have H := Lib.hid h
  have H' := Lib.hid h'
  have HW := Lib.hid hW
  clear h h' hW
  gi_wp2_with (refine ⟨trivial, ?_⟩; gi_at_call 36; refine (bw_in Fence.wide _ trivial rfl _ _ _ _).mono ?_; rintro e w' ⟨rfl, rfl⟩)
  have bC := Boxed.new w 22 (.slice A chars.length c)
  have bO := Boxed.new (w.alloc (.cells #[.slice A chars.length c] 22)) 3 (.int .i64 o)
  rw [World.size_alloc] at bO
  have bR := Boxed.new ((w.alloc (.cells #[.slice A chars.length c] 22)).alloc (.cells #[.int .i64 o] 3)) 3 (.int .i64 0)
  rw [World.size_alloc, World.size_alloc] at bR
  have bN := Boxed.new (((w.alloc (.cells #[.slice A chars.length c] 22)).alloc (.cells #[.int .i64 o] 3)).alloc (.cells #[.int .i64 0] 3)) 22 (.slice A' W.length c')
  rw [World.size_alloc, World.size_alloc, World.size_alloc] at bN
  obtain ⟨wz, hwz⟩ : ∃ z, (((w.alloc (.cells #[.slice A chars.length c] 22)).alloc (.cells #[.int .i64 o] 3)).alloc (.cells #[.int .i64 0] 3)).alloc (.cells #[.slice A' W.length c'] 22) = z := ⟨_, rfl⟩
  have hsz : wz.heap.size = w.heap.size + 4 := by rw [← hwz]; simp
  have hB0 : Below w.heap.size w wz := by rw [← hwz]; exact ((((Below.refl _ w).alloc (Nat.le_refl _) _).alloc (by simp) _).alloc (by simp; omega) _).alloc (by simp; omega) _
  have hS : SeqStopsK Fence.wide 2 Try.prog 44 #[.pointer (some ⟨w.heap.size + 3, 0, none⟩)] (fun x : {x : Nat × Int // IsAt chars.length x} => #[Value.int .i64 (x.1.1 : Int), Value.int .i64 x.1.2]) (Below (w.heap.size + 4)) (fun ys => ys.map Subtype.val = bwTo (waitL W) W.length)
      (fun pre => ∃ j, j ≤ W.length ∧ pre.map Subtype.val = bwTo (waitL W) j) W.length wz := by
    have hwl : (waitL W).length = W.length := waitL_length W
    have := bw_stopsP (IsAt chars.length) Fence.wide 2 trivial rfl (by omega) (w.heap.size + 3) (w.heap.size + 4) c' A' (waitL W) (by rw [hwl]; omega) wz (by omega) (by omega) (by rw [hwl, ← hwz]; exact bN.cell) ((H'.out.below hB0).wider (by omega)) (fun k hk => ⟨W[k]'(by omega), by rw [bw_wait W k (by omega)], HW.out _ (List.getElem_mem _)⟩)
    rw [hwl] at this
    exact this
  rw [hwz]
  have hbC : wz.cell? ⟨w.heap.size, 0, none⟩ = some (.slice A chars.length c) := by rw [← hwz]; exact (((bC.alloc _).alloc _).alloc _).cell
  have hbO : wz.cell? ⟨w.heap.size + 1, 0, none⟩ = some (.int .i64 o) := by rw [← hwz]; exact ((bO.alloc _).alloc _).cell
  have hbR : wz.cell? ⟨w.heap.size + 2, 0, none⟩ = some (.int .i64 0) := by rw [← hwz]; exact (bR.alloc _).cell
  have hbF : wz.frozen? ⟨w.heap.size + 2, 0, none⟩ = false := by rw [← hwz]; exact (bR.alloc _).frozen
  refine wpIn_rangeFunc_ownG rfl (by omega) (gf := 44) (lb := #[.pointer (some ⟨w.heap.size + 3, 0, none⟩)]) rfl trivial (enters_of Try.func44 (by kernel_rfl) rfl)
    hS belowK_t (belowK_b (by omega)) (Below.refl _ _) (fun _ => rfl)
    (fun pre u => (w.heap.size + 4 ≤ u.heap.size ∧ NoSame chars o (pre.map Subtype.val) ∧ u.cell? ⟨w.heap.size, 0, none⟩ = some (.slice A chars.length c) ∧ u.cell? ⟨w.heap.size + 1, 0, none⟩ = some (.int .i64 o) ∧ u.cell? ⟨w.heap.size + 2, 0, none⟩ = some (.int .i64 0) ∧ u.frozen? ⟨w.heap.size + 2, 0, none⟩ = false) ∧ Below w.heap.size w u)
    (fun c pre u => (c = .ret ∧ ∃ ini last, pre.map Subtype.val = ini ++ [last] ∧ NoSame chars o ini ∧ sameB (cAt chars last.2.toNat) o = true ∧ u.cell? ⟨w.heap.size + 2, 0, none⟩ = some (.int .i64 (last.1 : Int))) ∧ Below w.heap.size w u)
    (OwnFrom.and (Own.from (fun s A B row hs hg hr => ⟨Nat.le_trans hs.1 hg.size, hs.2.1, cell_kept hs.2.2.1 hg hr, cell_kept hs.2.2.2.1 hg hr, cell_kept hs.2.2.2.2.1 hg hr, (frozen_kept hs.2.2.2.2.1 hg hr).trans hs.2.2.2.2.2⟩) _) (ownFrom_below (Nat.le_refl _) (by omega)))
    (fun c => OwnFrom.and (Own.from (fun s A B row hs hg hr => by obtain ⟨hc, ini, last, e1, e2, e3, e4⟩ := hs; exact ⟨hc, ini, last, e1, e2, e3, cell_kept e4 hg hr⟩) _) (ownFrom_below (Nat.le_refl _) (by omega)))
    ⟨⟨by omega, fun p hp => (by simp at hp), hbC, hbO, hbR, hbF⟩, hB0⟩
    (fun x => { tmps := #[.slice A chars.length c, .slice A' W.length c', .int .i64 o, .pointer (some ⟨w.heap.size, 0, none⟩), undef, .pointer (some ⟨w.heap.size + 1, 0, none⟩), .pointer (some ⟨w.heap.size + 2, 0, none⟩), .int .i64 (x.1.1 : Int), .int .i64 x.1.2, .slice A' W.length c', .func (.func 44) #[] #[.pointer (some ⟨w.heap.size + 3, 0, none⟩)], .int .i64 (x.1.1 : Int), .int .i64 x.1.2, undef, undef, undef, undef, undef, undef, undef], defers := [] }) ?assign ?body ?done ?stop
  case assign =>
    intro l x u K hK
    gi_wp2
    exact hK
  case body =>
    rintro l0 pre ⟨⟨n, y⟩, hx⟩ u ⟨⟨hsz, hp, hcc, hco, hcr, hfr⟩, hB⟩ _
    obtain ⟨v, hyv, hv⟩ : ∃ v : Nat, y = (v : Int) ∧ v < chars.length := hx
    subst hyv
    dsimp only
    have HP := Lib.hid hp
    have HB := Lib.hid hB
    obtain ⟨p, hpA, _, hcv⟩ := (H.out.below hB).int hv
    subst hpA
    obtain ⟨xv, hxv⟩ : ∃ z, chars[v] = z := ⟨_, rfl⟩
    rw [hxv] at hcv
    have HXV : Hid (cAt chars v = xv) := Lib.hid (by simp [cAt, hv, hxv])
    have v0 : (0 : Int) ≤ (v : Int) := by omega
    have v1 : (v : Int) < (chars.length : Int) := by omega
    have BC := Lib.hid bC
    have BO := Lib.hid bO
    have BR := Lib.hid bR
    have BN := Lib.hid bN
    have HS := Lib.hid hS
    clear hp hB hxv bC bO bR bN hwz hbC hbO hbR hbF hS hB0
    rcases hs : sameB xv o with _ | _
    · have HSX : Hid (sameB (cAt chars v) o = false) := Lib.hid (by rw [HXV.out]; exact hs)
      gi_wp2
      gi_region_with (refine ⟨trivial, ?_⟩; gi_at_call 37; refine (CallsIn.inRound l0 (callsIn_wide.2 (same_any xv o _))).mono ?_; rintro e w1 ⟨rfl, b1⟩; rw [hs])
      all_goals
        have b2 := undrew b1
        clear b1
        have hcc1 := (b2.cell (p := ⟨w.heap.size, 0, none⟩) (by show w.heap.size < _; omega)).trans hcc
        have hco1 := (b2.cell (p := ⟨w.heap.size + 1, 0, none⟩) (by show w.heap.size + 1 < _; omega)).trans hco
        have hcr1 := (b2.cell (p := ⟨w.heap.size + 2, 0, none⟩) (by show w.heap.size + 2 < _; omega)).trans hcr
        have hfr1 := (World.frozen?_of_block (b2.block _ (by show w.heap.size + 2 < _; omega))).trans hfr
        have B2 := Lib.hid b2
        clear b2
        gi_wp2
        refine ⟨KeepsFrom.of_grownBy (grown_of_below B2.out none) (by simp), B2.out.mono hsz, ⟨Nat.le_trans hsz B2.out.size, fun p hp' => ?_, hcc1, hco1, hcr1, hfr1⟩, HB.out.trans (B2.out.mono HB.out.size)⟩
        rw [List.map_append] at hp'
        rcases List.mem_append.1 hp' with hp' | hp'
        · exact HP.out p hp'
        · obtain rfl : p = (n, (v : Int)) := by simpa using hp'
          exact HSX.out
    · have HSX : Hid (sameB (cAt chars v) o = true) := Lib.hid (by rw [HXV.out]; exact hs)
      gi_wp2
      gi_region_with (refine ⟨trivial, ?_⟩; gi_at_call 37; refine (CallsIn.inRound l0 (callsIn_wide.2 (same_any xv o _))).mono ?_; rintro e w1 ⟨rfl, b1⟩; rw [hs])
      all_goals
        have b2 := undrew b1
        clear b1
        have hcr1 := (b2.cell (p := ⟨w.heap.size + 2, 0, none⟩) (by show w.heap.size + 2 < _; omega)).trans hcr
        have hfr1 := (World.frozen?_of_block (b2.block _ (by show w.heap.size + 2 < _; omega))).trans hfr
        have B2 := Lib.hid b2
        clear b2 hcr hfr
        gi_wp2
        refine ⟨(KeepsFrom.of_grownBy (grown_of_below B2.out none) (by simp)).trans ((KeepsOthers.setCell _ _ _).from _), ⟨rfl, pre.map Subtype.val, (n, (v : Int)), by simp, HP.out, HSX.out, ?_⟩, (HB.out.trans (B2.out.mono HB.out.size)).setCell (p := ⟨w.heap.size + 2, 0, none⟩) (Nat.le_add_right _ _) _⟩
        exact World.cell?_setCell_same' _ _ _ (by rw [hcr1]; rfl)
  case done =>
    rintro D ys u hD hys ⟨⟨hsz, hne, hcc, hco, hcr, hfr⟩, hB⟩ hK
    rw [hys] at hne
    have HNE := Lib.hid hne
    have HB := Lib.hid hB
    have HK := Lib.hid hK
    have HD := Lib.hid hD
    clear hne hB hK hD hcc hco hwz hbC hbO hbR hbF hS hB0 bC bO bR bN hys
    gi_wp2
    have hK' := (KeepsOthers.setCell u ⟨w.heap.size + 2, 0, none⟩ (.int .i64 (-1))).same D _ HK.out rfl
    refine ⟨by simp, .inl ⟨_, _, rfl, run_takeDeferred hK', ?_⟩⟩
    have hc5 := cell_kept (World.cell?_setCell_same' u ⟨w.heap.size + 2, 0, none⟩ (.int .i64 (-1)) (by rw [hcr]; rfl)) (grownBy_putObj' _ D (.deferred none)) (fun r e => by cases e; exact ⟨_, hK', rfl⟩)
    refine ⟨.int .i64 (-1), ?_, by rw [lastN_none HNE.out], (HB.out.setCell (p := ⟨w.heap.size + 2, 0, none⟩) (Nat.le_add_right _ _) _).trans (belowK_b (w := w) (Nat.le_refl _) _ D _ _ (by have := HD.out; omega) hK' rfl rfl)⟩
    simp [results, Try.f22, go_sem, hc5]
  case stop =>
    rintro D c0 pre u hD ⟨j, hj, hpre⟩ ⟨⟨rfl, ini, last, e1, e2, e3, hcr⟩, hB⟩ hK
    gi_wp2
    refine ⟨by simp, .inl ⟨_, _, rfl, run_takeDeferred hK, ?_⟩⟩
    have hc5 := cell_kept hcr (grownBy_putObj' _ D (.deferred none)) (fun r e => by cases e; exact ⟨_, hK, rfl⟩)
    rw [hpre] at e1
    obtain ⟨j', rfl⟩ : ∃ j', j = j' + 1 := by
      cases j with
      | zero => simp [bwTo] at e1
      | succ j' => exact ⟨j', rfl⟩
    rw [bwTo_succ] at e1
    obtain ⟨rfl, e5⟩ := List.append_inj' e1 rfl
    obtain rfl : bwAt (waitL W) j' = last := by simpa using e5
    refine ⟨.int .i64 ((bwAt (waitL W) j').1 : Int), ?_, by rw [lastN_at (by omega) e2 e3], hB.trans (belowK_b (w := w) (Nat.le_refl _) u D _ _ (by omega) hK rfl rfl)⟩
    simp [results, Try.f22, go_sem, hc5]

/-- no side has come -/
def NoSide (pre : List (Nat × Int)) : Prop := ∀ p ∈ pre, sdB p.2 = -1
theorem aheadS_none (l : List Int) (sos : Int) : ∀ k, (∀ i, i < k → sdB (cAt l i) = -1) → aheadS l sos k = if sos = 1 then 1 else 0
  | 0, _ => rfl
  | k + 1, h => by
    rw [aheadS, h k (by omega), if_neg (by omega)]
    exact aheadS_none l sos k fun i hi => h i (by omega)
theorem aheadS_at (l : List Int) (sos : Int) (j : Nat) (hj : sdB (cAt l j) ≠ -1) : ∀ k, j < k → (∀ i, j < i → i < k → sdB (cAt l i) = -1) → aheadS l sos k = sdB (cAt l j)
  | 0, h, _ => by omega
  | k + 1, h, hs => by
    rw [aheadS]
    by_cases e : j = k
    · subst e
      have := sdB_range (cAt l j)
      rw [if_pos (by omega)]
    · rw [hs k (by omega) (by omega), if_neg (by omega)]
      exact aheadS_at l sos j hj k (by omega) fun i h1 h2 => hs i h1 (by omega)
theorem bw_cAt (l : List Int) (j : Nat) : (bwAt l j).2 = cAt l (l.length - 1 - j) := rfl
theorem side_none {l : List Int} (sos : Int) (h : NoSide (bwTo l l.length)) : aheadS l sos l.length = if sos = 1 then 1 else 0 := by
  refine aheadS_none l sos _ fun i hi => ?_
  have := h (bwAt l (l.length - 1 - i)) (by simp only [bwTo, List.mem_map, List.mem_range]; exact ⟨_, by omega, rfl⟩)
  rw [bw_cAt, show l.length - 1 - (l.length - 1 - i) = i by omega] at this
  exact this
theorem side_at {l : List Int} (sos : Int) {j : Nat} (hj : j < l.length) (h : NoSide (bwTo l j)) (hs : sdB (bwAt l j).2 ≠ -1) : aheadS l sos l.length = sdB (bwAt l j).2 := by
  rw [bw_cAt] at hs ⊢
  refine aheadS_at l sos _ hs _ (by omega) fun i h1 h2 => ?_
  have := h (bwAt l (l.length - 1 - i)) (by simp only [bwTo, List.mem_map, List.mem_range]; exact ⟨_, by omega, rfl⟩)
  rw [bw_cAt, show l.length - 1 - (l.length - 1 - i) = i by omega] at this
  exact this
theorem ahead_take (l : List Int) (sos : Int) : ∀ k m, k ≤ m → aheadS (l.take m) sos k = aheadS l sos k
  | 0, _, _ => rfl
  | k + 1, m, h => by
    have e : cAt (l.take m) k = cAt l k := by
      unfold cAt
      rw [List.getD_eq_getElem?_getD, List.getD_eq_getElem?_getD, List.getElem?_take_of_lt (by omega)]
    rw [aheadS, aheadS, e, ahead_take l sos k m (by omega)]

set_option maxRecDepth 100000 in
set_option maxHeartbeats 4000000 in
theorem ahead_any (A : Option Addr) (l : List Int) (c : Nat) (sos : Int) (w : World) (h : Lies w w.heap.size A (ints .i64 l)) (hl : l.length ≤ 1000) :
    Calls Try.prog 41 #[.slice A l.length c, .int .i64 sos] w fun ed w' => ed = .returned (.int .i64 (aheadS l sos l.length)) ∧ Below w.heap.size w w' := by
  refine (callsIn_wide (n := 3)).1 ?_
  refine callsIn_of_wp_marks Try.func41 rfl trivial ?_ rfl
  simp only [Try.ntmps41, List.size_toArray, List.length_cons, List.length_nil, Nat.reduceAdd, Nat.reduceSub, Array.replicate_succ, Array.replicate_zero, List.push_toArray, List.append_toArray, List.nil_append, List.cons_append]
  have H := Lib.hid h
  clear h
  gi_wp2_with (refine ⟨trivial, ?_⟩; gi_at_call 36; refine (bw_in Fence.wide _ trivial rfl _ _ _ _).mono ?_; rintro e w' ⟨rfl, rfl⟩)
  have bR := Boxed.new w 3 (.int .i64 0)
  have bN := Boxed.new (w.alloc (.cells #[.int .i64 0] 3)) 22 (.slice A l.length c)
  rw [World.size_alloc] at bN
  obtain ⟨wz, hwz⟩ : ∃ z, (w.alloc (.cells #[.int .i64 0] 3)).alloc (.cells #[.slice A l.length c] 22) = z := ⟨_, rfl⟩
  have hsz : wz.heap.size = w.heap.size + 2 := by rw [← hwz]; simp
  have hB0 : Below w.heap.size w wz := by rw [← hwz]; exact ((Below.refl _ w).alloc (Nat.le_refl _) _).alloc (by simp) _
  have hS : SeqStopsK Fence.wide 2 Try.prog 44 #[.pointer (some ⟨w.heap.size + 1, 0, none⟩)] (fun x : Nat × Int => #[Value.int .i64 (x.1 : Int), Value.int .i64 x.2]) (Below (w.heap.size + 2)) (fun ys => ys = bwTo l l.length)
      (fun pre => ∃ j, j ≤ l.length ∧ pre = bwTo l j) l.length wz :=
    bw_stops Fence.wide 2 trivial rfl (by omega) (w.heap.size + 1) (w.heap.size + 2) c A l (by omega) wz (by omega) (by omega) (by rw [← hwz]; exact bN.cell) ((H.out.below hB0).wider (by omega))
  rw [hwz]
  have hbR : wz.cell? ⟨w.heap.size, 0, none⟩ = some (.int .i64 0) := by rw [← hwz]; exact (bR.alloc _).cell
  have hbF : wz.frozen? ⟨w.heap.size, 0, none⟩ = false := by rw [← hwz]; exact (bR.alloc _).frozen
  refine wpIn_rangeFunc_ownG rfl (by omega) (gf := 44) (lb := #[.pointer (some ⟨w.heap.size + 1, 0, none⟩)]) rfl trivial (enters_of Try.func44 (by kernel_rfl) rfl)
    hS belowK_t (belowK_b (by omega)) (Below.refl _ _) (fun _ => rfl)
    (fun pre u => (w.heap.size + 2 ≤ u.heap.size ∧ NoSide pre ∧ u.cell? ⟨w.heap.size, 0, none⟩ = some (.int .i64 0) ∧ u.frozen? ⟨w.heap.size, 0, none⟩ = false) ∧ Below w.heap.size w u)
    (fun c pre u => (c = .ret ∧ ∃ ini last, pre = ini ++ [last] ∧ NoSide ini ∧ sdB last.2 ≠ -1 ∧ u.cell? ⟨w.heap.size, 0, none⟩ = some (.int .i64 (sdB last.2))) ∧ Below w.heap.size w u)
    (OwnFrom.and (Own.from (fun s A B row hs hg hr => ⟨Nat.le_trans hs.1 hg.size, hs.2.1, cell_kept hs.2.2.1 hg hr, (frozen_kept hs.2.2.1 hg hr).trans hs.2.2.2⟩) _) (ownFrom_below (Nat.le_refl _) (by omega)))
    (fun c => OwnFrom.and (Own.from (fun s A B row hs hg hr => by obtain ⟨hc, ini, last, e1, e2, e3, e4⟩ := hs; exact ⟨hc, ini, last, e1, e2, e3, cell_kept e4 hg hr⟩) _) (ownFrom_below (Nat.le_refl _) (by omega)))
    ⟨⟨by omega, fun p hp => (by simp at hp), hbR, hbF⟩, hB0⟩
    (fun x => { tmps := #[.slice A l.length c, .int .i64 sos, undef, undef, .pointer (some ⟨w.heap.size, 0, none⟩), undef, .int .i64 x.2, undef, .slice A l.length c, .func (.func 44) #[] #[.pointer (some ⟨w.heap.size + 1, 0, none⟩)], .int .i64 (x.1 : Int), .int .i64 x.2, undef, undef, undef, undef, undef, undef, undef], defers := [] }) ?assign ?body ?done ?stop
  case assign =>
    intro l x u K hK
    gi_wp2
    exact hK
  case body =>
    rintro l0 pre x u ⟨⟨hsz, hp, hcr, hfr⟩, hB⟩ _
    have HP := Lib.hid hp
    have HB := Lib.hid hB
    obtain ⟨y, hy⟩ : ∃ y, sdB x.2 = y := ⟨_, rfl⟩
    have HY := Lib.hid hy
    clear hp hB hwz hbR hbF hS hB0 bR bN hy
    rcases hs : (y != -1) with _ | _
    · have HS : Hid (y = -1) := Lib.hid (by simpa using hs)
      gi_wp2_with (refine ⟨trivial, ?_⟩; gi_at_call 14; refine (CallsIn.inRound l0 (callsIn_wide.2 (bside_q x.2 u))).mono ?_; rintro e w' ⟨rfl, rfl⟩; rw [HY.out])
      refine ⟨KeepsFrom.refl _ _, Below.refl _ _, ⟨hsz, fun p hp' => ?_, hcr, hfr⟩, HB.out⟩
      rcases List.mem_append.1 hp' with hp' | hp'
      · exact HP.out p hp'
      · rw [List.mem_singleton.1 hp', HY.out]; exact HS.out
    · have HS : Hid (y ≠ -1) := Lib.hid (by simpa using hs)
      gi_wp2_with (refine ⟨trivial, ?_⟩; gi_at_call 14; refine (CallsIn.inRound l0 (callsIn_wide.2 (bside_q x.2 u))).mono ?_; rintro e w' ⟨rfl, rfl⟩; rw [HY.out])
      refine ⟨(KeepsOthers.setCell _ _ _).from _, ⟨rfl, pre, x, rfl, HP.out, by rw [HY.out]; exact HS.out, ?_⟩, HB.out.setCell (p := ⟨w.heap.size, 0, none⟩) (Nat.le_refl _) _⟩
      rw [HY.out]
      exact World.cell?_setCell_same' _ _ _ (by rw [hcr]; rfl)
  case done =>
    rintro D ys u hD rfl ⟨⟨hsz, hne, hcr, hfr⟩, hB⟩ hK
    have HNE := Lib.hid hne
    have HB := Lib.hid hB
    have HK := Lib.hid hK
    have HD := Lib.hid hD
    clear hne hB hK hD hwz hbR hbF hS hB0 bR bN
    rcases h1 : (sos == 1) with _ | _
    · have HF : Hid (aheadS l sos l.length = 0) := Lib.hid (by rw [side_none sos HNE.out, if_neg (by simpa using h1)])
      gi_wp2
      have hK' := (KeepsOthers.setCell u ⟨w.heap.size, 0, none⟩ (.int .i64 0)).same D _ HK.out rfl
      refine ⟨by simp, .inl ⟨_, _, rfl, run_takeDeferred hK', ?_⟩⟩
      have hc5 := cell_kept (World.cell?_setCell_same' u ⟨w.heap.size, 0, none⟩ (.int .i64 0) (by rw [hcr]; rfl)) (grownBy_putObj' _ D (.deferred none)) (fun r e => by cases e; exact ⟨_, hK', rfl⟩)
      refine ⟨.int .i64 0, ?_, by rw [HF.out], (HB.out.setCell (p := ⟨w.heap.size, 0, none⟩) (Nat.le_refl _) _).trans (belowK_b (w := w) (Nat.le_refl _) _ D _ _ (by have := HD.out; omega) hK' rfl rfl)⟩
      simp [results, Try.f41, go_sem, hc5]
    · have HF : Hid (aheadS l sos l.length = 1) := Lib.hid (by rw [side_none sos HNE.out, if_pos (by simpa using h1)])
      gi_wp2
      have hK' := (KeepsOthers.setCell u ⟨w.heap.size, 0, none⟩ (.int .i64 1)).same D _ HK.out rfl
      refine ⟨by simp, .inl ⟨_, _, rfl, run_takeDeferred hK', ?_⟩⟩
      have hc5 := cell_kept (World.cell?_setCell_same' u ⟨w.heap.size, 0, none⟩ (.int .i64 1) (by rw [hcr]; rfl)) (grownBy_putObj' _ D (.deferred none)) (fun r e => by cases e; exact ⟨_, hK', rfl⟩)
      refine ⟨.int .i64 1, ?_, by rw [HF.out], (HB.out.setCell (p := ⟨w.heap.size, 0, none⟩) (Nat.le_refl _) _).trans (belowK_b (w := w) (Nat.le_refl _) _ D _ _ (by have := HD.out; omega) hK' rfl rfl)⟩
      simp [results, Try.f41, go_sem, hc5]
  case stop =>
    rintro D c0 pre u hD ⟨j, hj, rfl⟩ ⟨⟨rfl, ini, last, e1, e2, e3, hcr⟩, hB⟩ hK
    gi_wp2
    refine ⟨by simp, .inl ⟨_, _, rfl, run_takeDeferred hK, ?_⟩⟩
    have hc5 := cell_kept hcr (grownBy_putObj' _ D (.deferred none)) (fun r e => by cases e; exact ⟨_, hK, rfl⟩)
    obtain ⟨j', rfl⟩ : ∃ j', j = j' + 1 := by
      cases j with
      | zero => simp [bwTo] at e1
      | succ j' => exact ⟨j', rfl⟩
    rw [bwTo_succ] at e1
    obtain ⟨rfl, e5⟩ := List.append_inj' e1 rfl
    obtain rfl : bwAt l j' = last := by simpa using e5
    refine ⟨.int .i64 (sdB (bwAt l j').2), ?_, by rw [side_at sos (by omega) e2 e3], hB.trans (belowK_b (w := w) (Nat.le_refl _) u D _ _ (by omega) hK rfl rfl)⟩
    simp [results, Try.f41, go_sem, hc5]
end Go.Proofs.Ytoiolgpbecgfkaa
