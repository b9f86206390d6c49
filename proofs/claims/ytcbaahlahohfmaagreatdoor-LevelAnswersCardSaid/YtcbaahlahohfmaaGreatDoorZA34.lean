/- Shared texts, shaken for one claim. -/
import Derived.Deep.DeepCutAuto
import Derived.BigQuiet
import Derived.Test.YtcbaahlahohfmaaGreatDoorZA6
import Derived.Test.YtcbaahlahohfmaaGreatDoorZA7
import Derived.Test.YtcbaahlahohfmaaGreatDoorZA8
import Derived.Test.YtcbaahlahohfmaaGreatDoorZA13
import Derived.Test.YtcbaahlahohfmaaGreatDoorZA21
import Derived.Test.YtcbaahlahohfmaaGreatDoorZA27
import Derived.Test.YtcbaahlahohfmaaGreatDoorZA29
import Derived.Test.YtcbaahlahohfmaaGreatDoorZA33
namespace Go.Proofs.YtcbaahlahohfmaaGreatDoor
open Go.RowKit
theorem seenI_at {cl : List Int} {a : Nat} (h : a < (seenQ cl).length) : (seenI cl).getD a 0 = ((seenQ cl)[a] : Nat) := by
 rw [seenI_getD]; congr 1; simp [h]
theorem seenI_ne {cl : List Int} {a b : Nat} (ha : a < (seenQ cl).length) (hb : b < (seenQ cl).length) (hab : a ≠ b) : ((seenI cl).getD a 0 == (seenI cl).getD b 0) = false := by
 rw [seenI_at ha, seenI_at hb]
 simp only [beq_eq_false_iff_ne, ne_eq, Int.natCast_inj]
 exact fun e => hab (seenQ_inj cl ha hb e)
theorem ahead_at (cl lv : List Int) (base : Int) {a : Nat} (ha : a < (seenQ cl).length) : ∀ k, a < k → k ≤ (seenQ cl).length → aheadN lv (seenI cl) base ((seenI cl).getD a 0) k = if 0 < a then lv.getD ((seenI cl).getD (a - 1) 0).toNat 0 else base := by
 intro k
 induction k with
 | zero => intro h; omega
 | succ k ih =>
  intro h1 h2
  rw [aheadN]
  by_cases hk : k = a
  ·subst hk
   rw [beq_self_eq_true, Bool.true_and]
   by_cases h0 : 0 < k
   ·rw [if_pos (by simpa using h0), if_pos h0]
   ·rw [if_neg (by simpa using h0), if_neg h0]
    obtain rfl : k = 0 := by omega
    rfl
  ·rw [seenI_ne (by omega) ha hk, Bool.false_and, if_neg (by simp)]
   exact ih (by omega) (by omega)
theorem behind_none (cl lv : List Int) (base : Int) {b : Nat} (hb : b < (seenQ cl).length) : ∀ k, k ≤ b → behindN cl lv (seenI cl) base ((seenI cl).getD b 0) k = base := by
 intro k
 induction k with
 | zero => intro _; rfl
 | succ k ih =>
  intro h1
  rw [behindN, seenI_ne (by omega) hb (by omega), Bool.false_and, if_neg (by simp)]
  exact ih (by omega)
theorem behind_at (cl lv : List Int) (base : Int) {b : Nat} (hb : b < (seenQ cl).length) : ∀ k, b < k → k ≤ (seenQ cl).length → behindN cl lv (seenI cl) base ((seenI cl).getD b 0) k =
 if (decide (b + 1 < (seenI cl).length) && (cl.getD ((seenI cl).getD b 0).toNat 0 != 10 && !isOpens (cl.getD ((seenI cl).getD b 0).toNat 0))) then lv.getD ((seenI cl).getD (b + 1) 0).toNat 0 else base := by
 intro k
 induction k with
 | zero => intro h; omega
 | succ k ih =>
  intro h1 h2
  rw [behindN]
  by_cases hk : k = b
  ·subst hk
   rw [beq_self_eq_true, Bool.true_and]
   split
   ·rfl
   ·exact behind_none cl lv base hb k (Nat.le_refl _)
  ·rw [seenI_ne (by omega) hb hk, Bool.false_and, if_neg (by simp)]
   exact ih (by omega) (by omega)
theorem lastI_append (xs : List Int) {r : List Int} (h : r ≠ []) : lastI (xs ++ r) = lastI r := by
 have hp := List.length_pos_iff.2 h
 unfold lastI
 rw [List.length_append, List.getD_eq_getElem?_getD, List.getElem?_append_right (by omega), List.getD_eq_getElem?_getD]
 congr 2
 omega
section
variable {cl lv : List Int} {u : Nat → Nat} {L : List (List Int)}
theorem last_level (h : Split cl lv (seenI cl) (seenQ cl).length L u) {j : Nat} (hj : j < L.length) : lv.getD (lastI L[j]).toNat 0 = lv.getD (headI L[j]).toNat 0 := by
 obtain ⟨ha, e1⟩ := h.head hj
 obtain ⟨hb, e2⟩ := h.last hj
 have hlt := h.lt (i := j) (j := j + 1) (by omega) (by omega)
 rw [e1, e2, Int.toNat_natCast, Int.toNat_natCast]
 have := run_level h hj (u (j + 1) - 1 - u j) (by omega) (by omega) ha
 simp only [show u j + (u (j + 1) - 1 - u j) = u (j + 1) - 1 by omega] at this
 exact this
theorem sos_eq (h : Split cl lv (seenI cl) (seenQ cl).length L u) {i : Nat} (hi : i < L.length) (base : Int) {pl : List Int} (hp : headI pl = headI L[i]) : sosI cl lv pl (levW lv base L i) base = sosW lv base L i := by
 obtain ⟨ha, e1⟩ := h.head hi
 rw [sosI, sosW, hp, e1, ← seenI_at ha, seenI_length, ahead_at cl lv base ha _ ha (Nat.le_refl _)]
 congr 2
 by_cases h0 : 0 < i
 ·have hu := h.lt (i := 0) (j := i) h0 (by omega)
  obtain ⟨hb, e2⟩ := h.last (j := i - 1) (by omega)
  simp only [show i - 1 + 1 = i by omega] at hb e2
  rw [if_pos (by omega), seenI_at hb, ← e2, last_level h (by omega), show ((i : Int) - 1) = ((i - 1 : Nat) : Int) by omega, levW_in (by omega)]
 ·obtain rfl : i = 0 := by omega
  rw [h.zero, if_neg (by omega), levW_out (.inl (by omega))]
theorem eos_eq (h : Split cl lv (seenI cl) (seenQ cl).length L u) {j : Nat} (hj : j < L.length) (base : Int) {pl : List Int} (hp : lastI pl = lastI L[j]) : eosI cl lv pl base = eosW cl lv base L j := by
 obtain ⟨hb, e2⟩ := h.last hj
 have hlt := h.lt (i := j) (j := j + 1) (by omega) (by omega)
 have hg : L.getD j [] = L[j] := by simp [hj]
 rw [eosI, eosW, hg, hp, last_level h hj, levW_in hj]
 congr 2
 rw [e2, ← seenI_at hb, seenI_length, behind_at cl lv base hb _ hb (Nat.le_refl _), behW]
 obtain ⟨k, hk⟩ : ∃ k, cl.getD ((seenI cl).getD (u (j + 1) - 1) 0).toNat 0 = k := ⟨_, rfl⟩
 rw [hk, show u (j + 1) - 1 + 1 = u (j + 1) by omega, seenI_length]
 rcases h10 : (k == 10) with _ | _
 ·rcases hop : isOpens k with _ | _
  ·have hne : (k != 10) = true := by simpa using h10
   rw [hne]
   simp only [Bool.not_false, Bool.and_true, Bool.or_self]
   by_cases hn : j + 1 < L.length
   ·obtain ⟨hx, e3⟩ := h.head hn
    rw [if_pos (by simpa using hx), seenI_at hx, ← e3, if_neg (by simp), show ((j : Int) + 1) = ((j + 1 : Nat) : Int) by omega, levW_in hn]
   ·have he : j + 1 = L.length := by omega
    rw [he, h.top, if_neg (by simp), if_neg (by simp), levW_out (.inr (by omega))]
  ·simp
 ·have hne : (k != 10) = false := by simpa using h10
  rw [hne]
  simp
end
theorem part_all {cl lv : List Int} {u : Nat → Nat} {L : List (List Int)} (h : Split cl lv (seenI cl) (seenQ cl).length L u) (hW : Onward cl (mt cl) L) (hN : Within L cl.length) (base : Int) {i : Nat} (hi : i < L.length) :
 prt cl lv (mt cl) base L L.length i = sqOf cl lv base (chainI cl (mt cl) L i) := by
 have hm := idx_mem hW (L.length - i) i hi (Nat.le_refl _)
 have e : idxP cl (mt cl) L L.length i = idxI cl (mt cl) L i := List.filter_eq_self.2 fun x hx => by have := (hm.2 x hx).2.1; simpa using this
 have hc : chainI cl (mt cl) L i = (idxI cl (mt cl) L i).flatMap fun j => L.getD j [] := by rw [chainI, idxN_chain]; rfl
 have hne := chainI_ne hW hN hi
 rw [prt, e, ← hc, sqOf, hne.2, ← levW_in hi (lv := lv) (base := base), sos_eq h hi base hne.2]
 congr 1
 rcases List.eq_nil_or_concat (idxI cl (mt cl) L i) with e0 | ⟨l', j, e0⟩
 ·have := idx_self hW hi
  rw [e0] at this; simp at this
 ·rw [List.concat_eq_append] at e0
  have hjm : j ∈ idxI cl (mt cl) L i := by rw [e0]; simp
  have hjl := (hm.2 j hjm).2.1
  have hg : L.getD j [] = L[j] := by simp [hjl]
  have hl : lastI (chainI cl (mt cl) L i) = lastI L[j] := by
   rw [hc, e0, List.flatMap_append, List.flatMap_cons, List.flatMap_nil, List.append_nil, hg]
   exact lastI_append _ (hN _ (List.getElem_mem hjl)).1
  rw [e0, List.getLastD_concat]
  exact (eos_eq h hjl base hl).symm
theorem pst_seqs (cl lv : List Int) (base : Int) : (pst cl lv (mt cl) base (listsI cl lv) (listsI cl lv).length).2 = seqsI cl lv base := by
 by_cases he : cl.length = lv.length
 ·obtain ⟨u, h⟩ := split_I he
  rw [seqsI, seqsN_eq, (half h (onward_I cl lv) base _ (Nat.le_refl _)).seqs]
  apply List.map_congr_left
  intro i hi
  exact part_all h (onward_I cl lv) (within_I cl lv) base (starts_mem.1 hi).1
 ·rw [seqsI, lists_none he]; rfl
end Go.Proofs.YtcbaahlahohfmaaGreatDoor
namespace Go.Proofs.YtcbaahlahohfmaaGreatDoor
open Go.RowKit
theorem sof_anyY (A : Option Addr) (cl : List Int) (c : Nat) (A' : Option Addr) (lv : List Int) (c' : Nat) (base : Int) (w : World) (h : Lies w w.heap.size A (ints .i64 cl)) (h' : Lies w w.heap.size A' (ints .i64 lv)) (hl : cl.length ≤ 1000000) :
 Calls Tryz.prog 30 #[.slice A cl.length c, .slice A' lv.length c', .int .i64 base] w (RowedSY w (seqsI cl lv base)) := by
 rw [← pst_seqs]
 exact sofp_anyY A cl c A' lv c' base w h h' hl
end Go.Proofs.YtcbaahlahohfmaaGreatDoor
namespace Go.Proofs.YtcbaahlahohfmaaGreatDoor
open Go.RowKit Reckon
set_option maxHeartbeats 1000000 in
theorem all_any (A : Option Addr) (l : List Int) (c : Nat) (w : World) (h : Lies w w.heap.size A (ints .i64 l)) (hl : l.length ≤ 1000000) :
 Calls Tryz.prog 27 #[.slice A l.length c] w (Rowed w w.heap.size 3 (ints .i64 (l.map cls))) := by
 have H := Lib.hid h
 clear h
 have hmk := run_make_row' (P := Tryz.prog) 22 3 (.int .i64 0) 8 intsT.slice intsT.elem rfl .i64 .i64 l.length (by omega) (by omega)
 go_enter Tryz.func27, Tryz.ntmps27
 go_wp2
 go_loopw [11] (fun i wr => ∃ (k : Nat) (c' : Array Value), k ≤ l.length ∧ i = .int .i64 k ∧ Hid (c'.toList = ints .i64 ((l.take k).map cls) ++ List.replicate (l.length - k) (.int .i64 0)) ∧ wr = w.alloc (.cells c' 3)) (fun i _ => l.length - (intOf i).toNat)
 case atStart => exact ⟨0, _, by omega, rfl, fill_start _ _, rfl⟩
 case round =>
  obtain ⟨k, c', hk, rfl, HC, rfl⟩ := hrel
  have HS : Hid (c'.size = l.length) := by
   show c'.size = l.length
   have := congrArg List.length HC.out
   simp [ints] at this
   omega
  by_cases hlt : k < l.length
  ·obtain ⟨p, rfl, hpb, hc⟩ := H.out.int hlt
   have b0 : (0 : Int) ≤ (k : Int) := by omega
   have b1 : (k : Int) < (l.length : Int) := by omega
   have hcc : (w.alloc (.cells c' 3)).cell? (p.add k) = some (.int .i64 l[k]) := by rw [World.cell?_alloc_lt w _ _ (by rw [add_block]; exact hpb)]; exact hc
   have hks : k < c'.size := by rw [HS.out]; exact hlt
   go_wp2_with (go_at_call 43; refine (of_any _ _).mono ?_; rintro e w' ⟨rfl, rfl⟩)
   go_roundw
   case rel =>
    refine ⟨k + 1, _, by omega, by go_num, ?_, rfl⟩
    have := fill_step (v := .int .i64 (cls l[k])) HC.out (by simp; omega) hlt
    show Array.toList _ = _
    rw [this, List.take_succ_eq_append_getElem hlt]
    simp only [ints, List.map_append, List.map_cons, List.map_nil]
   case measure => simp [intOf]; omega
  ·go_wp2
   go_ret
   have hcl : c'.toList = ints .i64 (l.map cls) := by
    rw [HC.out, List.take_of_length_le (by omega), show l.length - k = 0 by omega]; simp
   refine rowed_ret ?_ (below_alloc _ _) hcl
   have := Own.ofLit (w := w) (B := w.heap.size) (e := 3) c' (Nat.le_refl _) (by rw [HS.out]; unfold maxLen; omega)
   rw [HS.out] at this
   exact this
set_option maxHeartbeats 1000000 in
theorem rall_any (A : Option Addr) (l : List Int) (c : Nat) (w : World) (h : Lies w w.heap.size A (ints .i64 l)) (hl : l.length ≤ 1000000) :
 Calls Tryz.prog 33 #[.slice A l.length c] w (Rowed w w.heap.size 3 (ints .i64 (l.map cls))) := by
 have H := Lib.hid h
 clear h
 go_enter Tryz.func33, Tryz.ntmps33
 go_wp2
 go_loopw [4, 3] (fun i v wr => ∃ (k : Nat), k ≤ l.length ∧ i = .int .i64 k ∧ Own wr w.heap.size 3 v (ints .i64 ((l.take k).map cls)) ∧ Below w.heap.size w wr) (fun i _ _ => l.length - (intOf i).toNat)
 case atStart => exact ⟨0, by omega, rfl, Own.empty _ _ _, Below.refl _ _⟩
 case round =>
  obtain ⟨k, hk, rfl, ho, hb⟩ := hrel
  have HO := Lib.hid ho
  have HB := Lib.hid hb
  have hsz := hb.size
  clear ho hb
  by_cases hlt : k < l.length
  ·obtain ⟨p, rfl, hpb, hc⟩ := (H.out.below HB.out).int hlt
   have b0 : (0 : Int) ≤ (k : Int) := by omega
   have b1 : (k : Int) < (l.length : Int) := by omega
   go_wp2_with (first
    | (go_at_call 18; refine (rof_any _ _).mono ?_; rintro e w' ⟨rfl, rfl⟩)
    | (at_builtin; refine app_lit intsT w _ w.heap.size _ _ _ _ _ _ rfl rfl rfl rfl HO.out (by simp [Value.oneCell']) HB.out hsz (by unfold maxLen; simp [ints]; omega) (by simp [ints]; omega) ?_; intro v' w' hown' hb' _ _))
   go_roundw
   case rel =>
    refine ⟨k + 1, by omega, by go_num, ?_, hb'⟩
    rw [List.take_succ_eq_append_getElem hlt]
    simpa only [ints, List.map_append, List.map_cons, List.map_nil] using hown'
   case measure => simp [intOf]; omega
  ·go_wp2
   go_ret
   exact rowed_ret HO.out HB.out (by rw [List.take_of_length_le (by omega)])
end Go.Proofs.YtcbaahlahohfmaaGreatDoor
namespace Go.Proofs.YtcbaahlahohfmaaGreatDoor
open Go.RowKit
theorem box_block {w : World} {B g n : Nat} {e : TypeId} {xs : List Value} (h : OwnN w B e 1 (.slice (some ⟨g, 0, none⟩) n n) n xs) : w.heap[g]? = some (.cells xs.toArray e) := by
 rcases h.2 with ⟨hv, _⟩ | ⟨g', cap, cur, hv, hbg, hh, hc, hm, hs, ht⟩
 ·cases hv
 ·injection hv with h1 _ h3
  injection h1 with h1
  injection h1 with h1
  subst h1 h3
  rw [hh]
  congr 2
  have h4 : cur.toList = xs := by rw [← ht, List.take_of_length_le (by simp; omega)]
  rw [← h4]
theorem three_stored {w : World} {B g : Nat} {e : TypeId} {a0 a1 a2 : Value} (h : OwnN w B e 1 (.slice (some ⟨g, 0, none⟩) 3 3) 3 [a0, a1, a2]) (b0 b1 b2 : Value) :
 (((w.setCell ⟨g, 0, none⟩ b0).setCell ⟨g, 1, none⟩ b1).setCell ⟨g, 2, none⟩ b2).heap[g]? = some (.cells #[b0, b1, b2] e) ∧ w.grownBy (((w.setCell ⟨g, 0, none⟩ b0).setCell ⟨g, 1, none⟩ b1).setCell ⟨g, 2, none⟩ b2) (some g) := by
 obtain ⟨h0, k0⟩ := World.ownsRow.stored h 0 b0
 obtain ⟨h1, k1⟩ := World.ownsRow.stored h0 1 b1
 obtain ⟨h2, k2⟩ := World.ownsRow.stored h1 2 b2
 exact ⟨box_block h2, (k0.trans k1).trans k2⟩
theorem three_cells {w : World} {B g c : Nat} {e : TypeId} {u0 u1 u2 : Value} (h : OwnN w B e 1 (.slice (some ⟨g, 0, none⟩) 3 c) 3 [u0, u1, u2]) :
 w.cell? ⟨g, 0, none⟩ = some u0 ∧ w.cell? ⟨g, 1, none⟩ = some u1 ∧ w.cell? ⟨g, 2, none⟩ = some u2 :=
 ⟨World.ownsRow.cellAt h 0 (by omega), World.ownsRow.cellAt h 1 (by omega), World.ownsRow.cellAt h 2 (by omega)⟩
theorem OwnN.two {w w' : World} {B : Nat} {e : TypeId} {size n : Nat} {v : Value} {xs : List Value} {g1 g2 : Nat} (h : OwnN w B e size v n xs) (ht : Two w w' g1 g2) (h1 : v.ownBlock ≠ some g1) (h2 : v.ownBlock ≠ some g2) : OwnN w' B e size v n xs := by
 have hin := h.inside
 refine ⟨h.1, ?_⟩
 rcases h.2 with h3 | ⟨g, cap, cur, hv, hbg, hh, r⟩
 ·exact .inl h3
 ·refine .inr ⟨g, cap, cur, hv, hbg, ?_, r⟩
  rw [ht.2 g (hin g (by rw [hv]; rfl)).2 (fun e => h1 (by rw [hv, ← e]; rfl)) (fun e => h2 (by rw [hv, ← e]; rfl))]
  exact hh
theorem SeqsR.two {w w' : World} {A : Option Addr} {L : List Sq} {vs : List Value} {N g1 g2 : Nat} (h : SeqsR w A L vs) (ht : Two w w' g1 g2) (hA : ∀ p, A = some p → N ≤ p.block) (hv : ∀ u ∈ vs, Young N u) (h1 : g1 < N) (h2 : g2 < N) : SeqsR w' A L vs :=
 ⟨h.len, (h.outer.two ht (Nat.le_refl _) (fun p hp => by have := hA p hp; omega) (fun p hp => by have := hA p hp; omega)).wider ht.1, fun j a b => by
  obtain ⟨Aj, cj, e, hl⟩ := h.inner j a b
  have hy : ∀ p, Aj = some p → N ≤ p.block := fun p hp => hv _ (List.getElem_mem a) p.block (by rw [e, hp]; rfl)
  exact ⟨Aj, cj, e, (hl.two ht (Nat.le_refl _) (fun p hp => by have := hy p hp; omega) (fun p hp => by have := hy p hp; omega)).wider ht.1⟩⟩
theorem SeqsR.at3 {w : World} {A : Option Addr} {L : List Sq} {vs : List Value} {N : Nat} (h : SeqsR w A L vs) (hv : ∀ u ∈ vs, Young N u) {j : Nat} (hj : j < L.length) :
 ∃ g off Aj cj, A = some ⟨g, off, none⟩ ∧ g < w.heap.size ∧ SqCell w g (off + j * 4) (.slice Aj L[j].pl.length cj) L[j] ∧ Lies w w.heap.size Aj (ints .i64 L[j].pl) ∧ ∀ p, Aj = some p → N ≤ p.block := by
 have hl := h.len
 have hjv : j < vs.length := by omega
 obtain ⟨Aj, cj, e, hi⟩ := h.inner j hjv hj
 obtain ⟨g, off, hA, hg, hc⟩ := h.outer.plain (by rw [sqCells_length _ _ hl]; omega)
 have key : ∀ t, t < 4 → w.cell? ⟨g, off + j * 4 + t, none⟩ = (L[j].cells (vs[j]'hjv))[t]? := fun t ht => by
  have h1 := hc (j * 4 + t) (by rw [sqCells_length _ _ hl]; omega)
  rw [show off + j * 4 + t = off + (j * 4 + t) by omega, h1, ← List.getElem?_eq_getElem, sqCells_get vs L hl j hj t ht]
 refine ⟨g, off, Aj, cj, hA, hg, ⟨?_, ?_, ?_, ?_⟩, hi, fun p hp => hv _ (List.getElem_mem hjv) p.block (by rw [e, hp]; rfl)⟩
 ·have := key 0 (by omega); rw [e] at this; exact this
 ·exact key 1 (by omega)
 ·exact key 2 (by omega)
 ·exact key 3 (by omega)
def RowedPg (w : World) (chars : List Int) (dir : Int) (ed : Ending) (w' : World) : Prop :=
 ∃ g1 g2 n, ed = .returned (.agg #[.slice (some ⟨g1, 0, none⟩) n n, .slice (some ⟨g2, 0, none⟩) n n, .int .i64 (baseI chars dir)]) ∧ n = chars.length ∧ Row w' w.heap.size 3 g1 n (ints .i64 (levI chars dir)) ∧ Row w' w.heap.size 3 g2 n (ints .i64 (lclsI chars dir)) ∧ Below w.heap.size w w'
set_option maxRecDepth 20000 in
set_option maxHeartbeats 8000000 in
theorem lresolve_any (A : Option Addr) (chars : List Int) (c : Nat) (dir : Int) (w : World) (hT : ClsTabs w) (h : Lies w w.heap.size A (ints .i64 chars)) (hl : chars.length ≤ 1000) :
 Calls Tryz.prog 21 #[.slice A chars.length c, .int .i64 dir] w (RowedPg w chars dir) := by
 have H := Lib.hid h
 have HT := Lib.hid hT
 obtain ⟨F, hF⟩ : ∃ F, clsL chars = F := ⟨_, rfl⟩
 obtain ⟨b, hb⟩ : ∃ b, level F dir = b := ⟨_, rfl⟩
 obtain ⟨LV, hLV⟩ : ∃ L, lvs F b = L := ⟨_, rfl⟩
 obtain ⟨XC, hXC⟩ : ∃ L, xcls F b = L := ⟨_, rfl⟩
 obtain ⟨SQ, hSQ⟩ : ∃ L, seqsI F LV b = L := ⟨_, rfl⟩
 have HFM : Hid (chars.map cls = F) := Lib.hid hF
 have HB := Lib.hid hb
 have HLV := Lib.hid hLV
 have HXC := Lib.hid hXC
 have HSQ := Lib.hid hSQ
 have HFL : Hid (F.length = chars.length) := Lib.hid (by rw [← hF]; simp [clsL])
 have HLL : Hid (LV.length = F.length) := Lib.hid (by rw [← hLV, lvs_length])
 have HXL : Hid (XC.length = F.length) := Lib.hid (by rw [← hXC, xcls_length])
 have HLA : Hid (laidI chars dir = layN chars XC SQ (LV, XC) SQ.length) := Lib.hid (by rw [laidI, baseI, hF, hb, hLV, hXC, hSQ])
 have HBS : Hid (baseI chars dir = b) := Lib.hid (by rw [baseI, hF, hb])
 have HIN : Hid (∀ s ∈ SQ, ∀ x ∈ s.pl, 0 ≤ x ∧ x < (chars.length : Int)) := Lib.hid (by
  rw [← hSQ]
  intro s hs x hx
  obtain ⟨k, hk, rfl⟩ := List.mem_iff_getElem.1 hx
  obtain ⟨q, h1, h2, -⟩ := place_in HLL.out.symm b hs hk
  rw [getD_at hk] at h1
  have h3 := HFL.out
  omega)
 have HSL : Hid (∀ s ∈ SQ, s.pl.length ≤ 1000) := Lib.hid (by
  rw [← hSQ]
  intro s hs
  have h1 := seq_le HLL.out.symm b s hs
  have h2 := HFL.out
  omega)
 have hsn : SQ.length ≤ 1000 := by rw [← hSQ]; have h1 := seqs_count F LV b; have h2 := HFL.out; omega
 have HPK : Hid (∀ n (h : n < SQ.length), pickL (layN chars XC SQ (LV, XC) n).2 SQ[n].pl = pickL XC SQ[n].pl) := Lib.hid (by subst hSQ; exact fun n h => pick_later HLL.out.symm b chars XC LV h)
 have HNL : Hid (∀ n, (layN chars XC SQ (LV, XC) n).1.length = F.length ∧ (layN chars XC SQ (LV, XC) n).2.length = F.length) := Lib.hid fun n => by
  have h1 := layN_length chars XC SQ (LV, XC) n
  rw [h1.1, h1.2]
  exact ⟨HLL.out, HXL.out⟩
 have HEND : Hid (levI chars dir = fillN (laidI chars dir).2 b (laidI chars dir).1 F.length ∧ lclsI chars dir = (laidI chars dir).2) := Lib.hid ⟨by
  rw [levI, HBS.out, ← HFL.out]
  refine fillN_congr _ _ _ _ _ fun q hq => ?_
  have h1 := (level_bounds chars dir (q := q) (by have := HFL.out; omega)).2.1
  rw [lclsI] at h1
  exact h1.symm, rfl⟩
 obtain ⟨w0, hw0⟩ : ∃ u, w.alloc (.cells #[.slice none 0 0, .slice none 0 0, .int .i64 0] 38) = u := ⟨_, rfl⟩
 have B0 : Hid (Below w.heap.size w w0) := Lib.hid (hw0 ▸ below_alloc w _)
 have T0 : Hid (OwnN w0 w.heap.size 38 1 (.slice (some ⟨w.heap.size, 0, none⟩) 3 3) 3 [.slice none 0 0, .slice none 0 0, .int .i64 0]) :=
  Lib.hid (hw0 ▸ OwnN.ofLit (n := 3) (size := 1) #[.slice none 0 0, .slice none 0 0, .int .i64 0] (Nat.le_refl _) (by unfold maxLen; omega) rfl)
 clear h hT hF hb hLV hXC hSQ
 go_enter Tryz.func21, Tryz.ntmps21
 go_upto_region 1 with fail
 clear hw0
 go_wp2_with fail
 refine (all_any A chars c w0 (H.out.up B0.out) (by omega)).mono ?_
 rintro e w1 ⟨v1, rfl, o1, b1⟩
 rw [HFM.out] at o1
 obtain ⟨A1, c1, hv1, l1, k1, -⟩ := o1.form
 rw [ints, List.length_map] at hv1 k1
 subst hv1
 have B1 := Lib.hid (below_then B0.out b1)
 have F1 := Lib.hid l1
 have K1 := Lib.hid k1
 have T1 := Lib.hid (T0.out.below b1 (Nat.le_refl _))
 clear o1 b1 l1 k1
 go_wp2_with fail
 refine (level_any A1 F c1 dir w1 (HT.out.below B1.out HT.out.big) F1.out (by rw [HFL.out]; omega) K1.out).mono ?_
 rintro e w2 ⟨rfl, b2⟩
 rw [HB.out]
 have B2 := Lib.hid (below_then B1.out b2)
 have F2 := Lib.hid (F1.out.up b2)
 have T2 := Lib.hid (T1.out.below b2 (Nat.le_refl _))
 clear b2
 go_upto_region 3 with fail
 obtain ⟨wp, hwp⟩ : ∃ u, w2.alloc (.cells #[.slice none 0 0, .slice none 0 0, .int .i64 b] 38) = u := ⟨_, rfl⟩
 obtain ⟨q1, hq1⟩ : ∃ q, w2.heap.size = q := ⟨_, rfl⟩
 have Bp : Hid (Below w2.heap.size w2 wp) := Lib.hid (hwp ▸ below_alloc w2 _)
 have Pp : Hid (OwnN wp w.heap.size 38 1 (.slice (some ⟨q1, 0, none⟩) 3 3) 3 [.slice none 0 0, .slice none 0 0, .int .i64 b]) :=
  Lib.hid (by subst hwp hq1; exact (OwnN.ofLit (n := 3) (size := 1) #[.slice none 0 0, .slice none 0 0, .int .i64 b] (Nat.le_refl _) (by unfold maxLen; omega) rfl).weaken B2.out.size)
 have HQ1 : Hid (w.heap.size < q1 ∧ q1 < wp.heap.size) := Lib.hid ⟨by have h1 := (OwnN.inside T2.out w.heap.size rfl).2; omega, (OwnN.inside Pp.out q1 rfl).2⟩
 have B3 : Hid (Below w.heap.size w wp) := Lib.hid (below_then B2.out Bp.out)
 have F3 := Lib.hid (F2.out.up Bp.out)
 have T3 := Lib.hid (T2.out.below Bp.out (Nat.le_refl _))
 have FQ3 : Hid (Lies wp q1 A1 (ints .i64 F)) := Lib.hid (by subst hq1; exact F2.out.below Bp.out)
 rw [hwp, hq1]
 clear hwp hq1
 obtain ⟨-, -, s2⟩ := three_cells Pp.out
 go_wp2_with fail
 clear s2
 refine (xof_anyA A1 F c1 b wp (HT.out.below B3.out HT.out.big) F3.out (by rw [HFL.out]; omega) K1.out).mono ?_
 rintro e w3 ⟨g1, g2, rfl, r1, r2, hne, b3⟩
 rw [HLV.out] at r1
 rw [HXC.out] at r2
 have HNE := Lib.hid hne
 have HG : Hid (q1 < g1 ∧ q1 < g2 ∧ g1 < w3.heap.size ∧ g2 < w3.heap.size) := Lib.hid (by have h1 := r1.inside; have h2 := r2.inside; have h3 := HQ1.out.2; omega)
 have hsz : w.heap.size ≤ wp.heap.size := B3.out.size
 have R1 : Hid (Row w3 w.heap.size 3 g1 F.length (ints .i64 LV)) := Lib.hid (OwnN.weaken (show OwnN _ _ _ 1 _ _ _ from r1) hsz)
 have R2 : Hid (Row w3 w.heap.size 3 g2 F.length (ints .i64 XC)) := Lib.hid (OwnN.weaken (show OwnN _ _ _ 1 _ _ _ from r2) hsz)
 have B4 := Lib.hid (below_then B3.out b3)
 have T4 := Lib.hid (T3.out.below b3 (Nat.le_refl _))
 have P4 := Lib.hid (Pp.out.below b3 (Nat.le_refl _))
 have FQ4 : Hid (Lies w3 q1 A1 (ints .i64 F)) := Lib.hid (FQ3.out.below (b3.mono (by have := HQ1.out.2; omega)))
 clear r1 r2 hne b3 hsz
 go_upto_region 4 with (first
  | (refine store_cell (e := 38) w3 w.heap.size _ _ q1 0 3 (.slice (some ⟨g1, 0, none⟩) F.length F.length) _ w rfl rfl rfl (by kernel_rfl) rfl rfl rfl P4.out (by simp) B4.out ?_
     intro w4 r4 b4 g4
     have P5 : Hid (OwnN w4 w.heap.size 38 1 (.slice (some ⟨q1, 0, none⟩) 3 3) 3 [.slice (some ⟨g1, 0, none⟩) F.length F.length, .slice none 0 0, .int .i64 b]) := Lib.hid r4
     have B5 := Lib.hid b4
     have G4 := Lib.hid g4
     clear r4 b4 g4)
  | (refine store_cell (e := 38) w4 w.heap.size _ _ q1 1 3 (.slice (some ⟨g2, 0, none⟩) F.length F.length) _ w rfl rfl rfl (by kernel_rfl) rfl rfl rfl P5.out (by simp) B5.out ?_
     intro w5 r5 b5 g5
     have P6 : Hid (OwnN w5 w.heap.size 38 1 (.slice (some ⟨q1, 0, none⟩) 3 3) 3 [.slice (some ⟨g1, 0, none⟩) F.length F.length, .slice (some ⟨g2, 0, none⟩) F.length F.length, .int .i64 b]) := Lib.hid r5
     have B6 := Lib.hid b5
     have G5 := Lib.hid (G4.out.trans g5)
     clear r5 b5 g5)
  | fail)
 have HQG : Hid (some q1 ≠ some g1 ∧ some q1 ≠ some g2) := Lib.hid ⟨fun e => by have := HG.out; injection e; omega, fun e => by have := HG.out; injection e; omega⟩
 have H0G : Hid (some w.heap.size ≠ some g1 ∧ some w.heap.size ≠ some g2) := Lib.hid ⟨fun e => by have := HG.out; have := HQ1.out; injection e; omega, fun e => by have := HG.out; have := HQ1.out; injection e; omega⟩
 have R16 := Lib.hid (R1.out.keep G5.out HQG.out.1)
 have R26 := Lib.hid (R2.out.keep G5.out HQG.out.2)
 have T6 := Lib.hid (T4.out.keep G5.out (.inr (fun e => by have := HQ1.out; have e2 : w.heap.size = q1 := Option.some.inj e; omega)))
 have F6 : Hid (Lies w5 w5.heap.size A1 (ints .i64 F)) := Lib.hid ((FQ4.out.grown G5.out (by have := HG.out; omega) (fun g e => by injection e; omega)).wider (by have := HG.out; have := G5.out.size; omega))
 have HGN : Hid (g1 < w5.heap.size ∧ g2 < w5.heap.size) := Lib.hid ⟨R16.out.inside.2, R26.out.inside.2⟩
 have hsof := sof_anyY A1 F c1 (some ⟨g1, 0, none⟩) LV F.length b w5 F6.out (Lies.ofRow R16.out) (by rw [HFL.out]; omega)
 rw [HLL.out, HSQ.out] at hsof
 have HSOF := Lib.hid hsof
 clear hsof
 obtain ⟨s0, -, s2⟩ := three_cells P6.out
 go_wp2_with fail
 clear s0 s2
 refine HSOF.out.mono ?_
 rintro e w6 ⟨A6, c6, vs, rfl, sr, y1, y2, b6⟩
 have SR := Lib.hid sr
 have Y1 := Lib.hid y1
 have Y2 := Lib.hid y2
 have B7 := Lib.hid (below_then B6.out b6)
 have R17 := Lib.hid (R16.out.below b6 (Nat.le_refl _))
 have R27 := Lib.hid (R26.out.below b6 (Nat.le_refl _))
 have T7 := Lib.hid (T6.out.below b6 (Nat.le_refl _))
 have P7 := Lib.hid (P6.out.below b6 (Nat.le_refl _))
 clear sr y1 y2 b6 HSOF
 go_wp2_with fail
 go_loopw [31] (fun nv wr => ∃ n : Nat, n ≤ SQ.length ∧ nv = .int .i64 n ∧ Hid (Row wr w.heap.size 3 g1 F.length (ints .i64 (layN chars XC SQ (LV, XC) n).1)) ∧ Hid (Row wr w.heap.size 3 g2 F.length (ints .i64 (layN chars XC SQ (LV, XC) n).2)) ∧ Hid (Two w6 wr g1 g2) ∧ Hid (Below w.heap.size w wr)) (fun nv _ => SQ.length - (intOf nv).toNat)
 case atStart => exact ⟨0, by omega, rfl, R17, R27, Lib.hid (Two.refl _ _ _), B7⟩
 case round =>
  obtain ⟨n, hn, rfl, HR1, HR2, HTW, HBr⟩ := hrel
  have SRr := Lib.hid (SR.out.two HTW.out Y1.out Y2.out HGN.out.1 HGN.out.2)
  have Pr := Lib.hid (P7.out.two HTW.out HQG.out.1 HQG.out.2)
  by_cases hlt : n < SQ.length
  ·obtain ⟨g, off, Aj, cj, hA, hg, hsc, hlj, hyj⟩ := SRr.out.at3 Y2.out hlt
   subst hA
   obtain ⟨k1, k2, k3, k4⟩ := hsc
   obtain ⟨S, hS⟩ : ∃ S, SQ[n] = S := ⟨_, rfl⟩
   rw [hS] at k1 k2 k3 k4 hlj
   have HS := Lib.hid hS
   have HSM : Hid (S ∈ SQ) := Lib.hid (hS ▸ List.getElem_mem hlt)
   have HLJ := Lib.hid hlj
   have HYJ := Lib.hid hyj
   obtain ⟨st, hst⟩ : ∃ st, layN chars XC SQ (LV, XC) n = st := ⟨_, rfl⟩
   have HST := Lib.hid hst
   have HSTL : Hid (st.1.length = F.length ∧ st.2.length = F.length) := Lib.hid (by rw [← hst]; exact HNL.out n)
   have HPN : Hid (pickL st.2 S.pl = pickL XC S.pl) := Lib.hid (by have h1 := HPK.out n hlt; rw [hst, hS] at h1; exact h1)
   have HNX : Hid (layN chars XC SQ (LV, XC) (n + 1) = (putN st.1 S.pl (nLevelsI (seqE chars XC S) S.lev) S.pl.length, putN st.2 S.pl (seqE chars XC S) S.pl.length)) := Lib.hid (by
    rw [layN_next chars XC (LV, XC) hlt, hS, hst, layK_put _ _ _ _ _ (by rw [seqE_length]; exact Nat.le_refl _)])
   rw [hst] at HR1 HR2
   have n0 : (0 : Int) ≤ (n : Int) := by omega
   have n1 : (n : Int) < (SQ.length : Int) := by omega
   clear hS hlj hyj hst
   go_upto_region 7 with fail
   obtain ⟨ws, hws⟩ : ∃ u, wr.alloc (.cells #[.slice Aj S.pl.length cj, .int .i64 S.lev, .int .i64 S.sos, .int .i64 S.eos] 49) = u := ⟨_, rfl⟩
   have SW : Hid (Below wr.heap.size wr ws) := Lib.hid (hws ▸ below_alloc _ _)
   have hbx : ws.cell? ⟨wr.heap.size, 0, none⟩ = some (.slice Aj S.pl.length cj) ∧ ws.cell? ⟨wr.heap.size, 1, none⟩ = some (.int .i64 S.lev) ∧ ws.cell? ⟨wr.heap.size, 2, none⟩ = some (.int .i64 S.sos) ∧ ws.cell? ⟨wr.heap.size, 3, none⟩ = some (.int .i64 S.eos) := by
    subst hws
    exact ⟨boxed (Below.refl _ _) rfl, boxed (Below.refl _ _) rfl, boxed (Below.refl _ _) rfl, boxed (Below.refl _ _) rfl⟩
   have Bs : Hid (Below w.heap.size w ws) := Lib.hid (below_then HBr.out SW.out)
   have hset := lsettle_any g1 F.length g2 F.length st.1 st.2 b A chars c Aj cj S w.heap.size ws (HT.out.below Bs.out HT.out.big)
    (HR1.out.below SW.out (Nat.le_refl _)) (HR2.out.below SW.out (Nat.le_refl _)) HNE.out (H.out.below Bs.out) (HLJ.out.up SW.out)
    (fun p hp => by have h1 := HYJ.out p hp; have h2 := HGN.out; omega) (fun p hp => by have h1 := HYJ.out p hp; have h2 := HGN.out; omega)
    (HIN.out S HSM.out) (by rw [HSTL.out.1, HFL.out]) (by rw [HSTL.out.2, HFL.out]) hl (HSL.out S HSM.out) Bs.out.size (seqE chars XC S) (by rw [HPN.out]; rfl)
   rw [HSTL.out.1, HSTL.out.2] at hset
   have HSET := Lib.hid hset
   obtain ⟨s0, s1, s2⟩ := three_cells (Pr.out.below SW.out (Nat.le_refl _))
   rw [hws]
   obtain ⟨x0, x1, x2, x3⟩ := hbx
   clear hws hset k1 k2 k3 k4
   go_wp2_with fail
   clear s0 s1 s2 x0 x1 x2 x3
   refine HSET.out.mono ?_
   rintro e wz ⟨rfl, rz1, rz2, bz, tz⟩
   have Z1 := Lib.hid rz1
   have Z2 := Lib.hid rz2
   have BZ := Lib.hid (Bs.out.trans bz)
   have TZ := Lib.hid ((HTW.out.trans (Two.ofBelow SW.out)).trans tz)
   clear rz1 rz2 bz tz HSET
   go_wp2_with fail
   go_roundw
   case rel => exact ⟨n + 1, by omega, by go_num, by rw [HNX.out]; exact Z1, by rw [HNX.out]; exact Z2, TZ, BZ⟩
   case measure => simp [intOf]; omega
  ·obtain rfl : n = SQ.length := Nat.le_antisymm hn (Nat.le_of_not_lt hlt)
   have hfol := lfollow_any g1 F.length (layN chars XC SQ (LV, XC) SQ.length).1 (some ⟨g2, 0, none⟩) (layN chars XC SQ (LV, XC) SQ.length).2 F.length b w.heap.size wr HR1.out (Lies.ofRow HR2.out)
    (fun p hp => by injection hp with hp; subst hp; exact fun e => HNE.out e.symm) (by rw [(HNL.out _).1, (HNL.out _).2]) (by rw [(HNL.out _).2, HFL.out]; omega) HBr.out.size
   rw [(HNL.out _).1, (HNL.out _).2, ← HLA.out, ← HEND.out.1] at hfol
   have HFOL := Lib.hid hfol
   obtain ⟨s0, s1, s2⟩ := three_cells Pr.out
   have Tr := Lib.hid (T7.out.two HTW.out H0G.out.1 H0G.out.2)
   have HR2' : Hid (Row wr w.heap.size 3 g2 F.length (ints .i64 (lclsI chars dir))) := Lib.hid (by rw [HEND.out.2, HLA.out]; exact HR2.out)
   clear hfol
   go_wp2_with fail
   clear s0 s1 s2
   refine HFOL.out.mono ?_
   rintro e wz ⟨rfl, rz, bz, gz⟩
   have RZ := Lib.hid rz
   have RZ2 := Lib.hid (HR2'.out.keep gz (fun e => HNE.out (Option.some.inj e)))
   have BZ := Lib.hid (HBr.out.trans bz)
   have Pz := Lib.hid (Pr.out.keep gz (.inr HQG.out.1))
   have Tz := Lib.hid (Tr.out.keep gz (.inr H0G.out.1))
   clear rz bz gz HFOL
   obtain ⟨s0, s1, s2⟩ := three_cells Pz.out
   obtain ⟨t0, t1, t2⟩ := three_cells Tz.out
   have f8 := fun j => World.ownsRow.frozenAt Tz.out j
   obtain ⟨f0, f1, f2⟩ := And.intro (f8 0) (And.intro (f8 1) (f8 2))
   clear f8
   go_wp2_with fail
   (try simp only [Exit.inBlock, Exit.then])
   refine bodyPost_ret (v := .agg #[.slice (some ⟨g1, 0, none⟩) F.length F.length, .slice (some ⟨g2, 0, none⟩) F.length F.length, .int .i64 b]) ?_ rfl ⟨g1, g2, F.length, by rw [HBS.out], HFL.out, RZ.out.keep (three_stored Tz.out _ _ _).2 H0G.out.1, RZ2.out.keep (three_stored Tz.out _ _ _).2 H0G.out.2, ((BZ.out.setCell (Nat.le_refl _) _).setCell (Nat.le_refl _) _).setCell (Nat.le_refl _) _⟩
   exact results_cell_row rfl _ _ w.heap.size 38 _ (0, 0) _ rfl (three_stored Tz.out _ _ _).1 Tryz.underlying38 rfl (by kernel_rfl)
end Go.Proofs.YtcbaahlahohfmaaGreatDoor
namespace Go.Proofs.YtcbaahlahohfmaaGreatDoor
open Go.RowKit
set_option maxRecDepth 20000 in
set_option maxHeartbeats 2000000 in
theorem lof_any (A : Option Addr) (chars : List Int) (c : Nat) (dir : Int) (w : World) (hT : ClsTabs w) (h : Lies w w.heap.size A (ints .i64 chars)) (hl : chars.length ≤ 1000) :
 Calls Tryz.prog 9 #[.slice A chars.length c, .int .i64 dir] w fun ed w' => Rowed2 w w.heap.size 3 (ints .i64 (levI chars dir)) (baseI chars dir) ed w' := by
 have HR := Lib.hid (lresolve_any A chars c dir w hT h hl)
 clear h hT
 go_enter Tryz.func9, Tryz.ntmps9
 go_wp2_with fail
 refine HR.out.mono ?_
 rintro e w1 ⟨g1, g2, n, rfl, hn, r1, -, b1⟩
 have R1 := Lib.hid r1
 have B1 := Lib.hid b1
 have HN := Lib.hid hn
 clear r1 b1 hn HR
 go_wp2_with fail
 go_region
 go_wp2
 go_ret2
 refine ⟨_, rfl, ?_, ?_⟩
 ·exact Own.same (Own.alloc (R1.out.own (by rw [ints, List.length_map, levI_length, HN.out])) _) rfl
 ·exact below_same (below_then B1.out (below_alloc _ _)) rfl rfl rfl rfl
set_option maxRecDepth 20000 in
set_option maxHeartbeats 2000000 in
theorem lcls_any (A : Option Addr) (chars : List Int) (c : Nat) (dir : Int) (w : World) (hT : ClsTabs w) (h : Lies w w.heap.size A (ints .i64 chars)) (hl : chars.length ≤ 1000) :
 Calls Tryz.prog 12 #[.slice A chars.length c, .int .i64 dir] w fun ed w' => Rowed w w.heap.size 3 (ints .i64 (lclsI chars dir)) ed w' := by
 have HR := Lib.hid (lresolve_any A chars c dir w hT h hl)
 clear h hT
 go_enter Tryz.func12, Tryz.ntmps12
 go_wp2_with fail
 refine HR.out.mono ?_
 rintro e w1 ⟨g1, g2, n, rfl, hn, -, r2, b1⟩
 have hf : ∀ u, (Instr.field 38 (.agg #[.slice (some ⟨g1, 0, none⟩) n n, .slice (some ⟨g2, 0, none⟩) n n, .int .i64 (baseI chars dir)]) 1).run Tryz.prog u = .ok (.slice (some ⟨g2, 0, none⟩) n n) u := fun u => by kernel_rfl
 have R2 := Lib.hid r2
 have B1 := Lib.hid b1
 have HN := Lib.hid hn
 clear r2 b1 hn HR
 go_wp2
 go_ret
 exact ⟨_, rfl, R2.out.own (by rw [ints, List.length_map, lclsI_length, HN.out]), B1.out⟩
set_option maxRecDepth 20000 in
set_option maxHeartbeats 2000000 in
theorem smax_any (A : Option Addr) (l : List Int) (c : Nat) (w : World) (h : Lies w w.heap.size A (ints .i64 l)) (hl : l.length ≤ 1000) (hp : 0 < l.length) :
 Calls Tryz.prog 23 #[.slice A l.length c] w fun ed w' => ed = .returned (.int .i64 (mostI l)) ∧ w = w' := by
 have H := Lib.hid h
 clear h
 obtain ⟨p, rfl, _, hc⟩ := H.out.int hp
 have hcz : w.cell? p = some (.int .i64 l[0]) := by simpa [Addr.add] using hc
 obtain ⟨x0, hx0⟩ : ∃ x, l[0] = x := ⟨_, rfl⟩
 have HX0 : Hid (mostI (l.take 1) = x0) := Lib.hid (by
  cases l with
  | nil => simp at hp
  | cons a l => rw [← hx0]; rfl)
 rw [hx0] at hc hcz
 have hd : decide ((l.length : Int) < 1) = false := by simp; omega
 have hp1 : (0 : Int) < (l.length : Int) := by omega
 clear hx0
 go_enter Tryz.func23, Tryz.ntmps23
 go_wp2
 go_loopw [4, 3] (fun iv nv wr => ∃ k : Nat, 0 < k ∧ k ≤ l.length ∧ iv = .int .i64 k ∧ nv = .int .i64 (mostI (l.take k)) ∧ w = wr) (fun iv _ _ => l.length - (intOf iv).toNat)
 case atStart => exact ⟨1, by omega, hp, by go_num, by rw [HX0.out], rfl⟩
 case round =>
  obtain ⟨k, hk0, hk, rfl, rfl, rfl⟩ := hrel
  obtain ⟨m, hm⟩ : ∃ m, mostI (l.take k) = m := ⟨_, rfl⟩
  rw [hm]
  by_cases hlt : k < l.length
  ·have HN := Lib.hid (most_succ l hk0 hlt)
   obtain ⟨p', hp', _, hck⟩ := H.out.int hlt
   injection hp' with hp'
   subst hp'
   obtain ⟨x, hx⟩ : ∃ x, l[k] = x := ⟨_, rfl⟩
   rw [hx] at hck HN
   rw [hm] at HN
   have k0 : (0 : Int) ≤ (k : Int) := by omega
   have k1 : (k : Int) < (l.length : Int) := by omega
   clear hx hm
   obtain ⟨z, hz⟩ : ∃ z, max m x = z := ⟨_, rfl⟩
   rw [hz] at HN
   go_wp2
   go_roundw
   case rel => exact ⟨k + 1, by omega, by omega, by go_num, by rw [HN.out], by first | rfl | trivial⟩
   case measure => simp [intOf]; omega
  ·have hk' : k = l.length := by omega
   have HV : Hid (mostI l = m) := Lib.hid (by rw [← hm, hk', List.take_length])
   have hge : ¬ (k : Int) < (l.length : Int) := by omega
   clear hm hk'
   go_wp2
   go_ret
   exact ⟨ret_int HV.out.symm, rfl⟩
set_option maxRecDepth 20000 in
set_option maxHeartbeats 2000000 in
theorem lmost_any (A : Option Addr) (l : List Int) (c : Nat) (w : World) (h : Lies w w.heap.size A (ints .i64 l)) (hl : l.length ≤ 1000) :
 Calls Tryz.prog 14 #[.slice A l.length c] w fun ed w' => ed = .returned (.int .i64 (mostI l)) ∧ Below w.heap.size w w' := by
 by_cases h0 : l = []
 ·subst h0
  go_enter Tryz.func14, Tryz.ntmps14
  go_wp2
  go_ret
  exact ⟨rfl, Below.refl _ _⟩
 ·have hp : 0 < l.length := List.length_pos_iff.2 h0
  have HM := Lib.hid (smax_any A l c w h hl hp)
  have hd : ((l.length : Int) == 0) = false := by simp; omega
  clear h h0
  go_enter Tryz.func14, Tryz.ntmps14
  go_wp2_with fail
  refine HM.out.mono ?_
  rintro e wq ⟨rfl, rfl⟩
  go_wp2
  go_ret
  exact ⟨rfl, Below.refl _ _⟩
set_option maxRecDepth 20000 in
set_option maxHeartbeats 2000000 in
theorem whole1_any (g : Nat) (A3 : Option Addr) (L : List Int) (c3 : Nat) (x : Int) (w : World) (hb : w.cell? ⟨g, 0, none⟩ = some (.slice A3 L.length c3)) (h : Lies w w.heap.size A3 (ints .i64 L)) (hp : 0 < L.length) :
 Calls Tryz.prog 25 #[.int .i64 x, .pointer (some ⟨g, 0, none⟩)] w fun ed w' => ed = .returned (.bool (x != L.headD 0)) ∧ w = w' := by
 obtain ⟨p, rfl, _, hc⟩ := h.int hp
 have hcz : w.cell? p = some (.int .i64 (L.headD 0)) := by
  have e : L[0] = L.headD 0 := by cases L with
   | nil => simp at hp
   | cons a r => rfl
  rw [← e]; simpa [Addr.add] using hc
 obtain ⟨f, hf⟩ : ∃ f, L.headD 0 = f := ⟨_, rfl⟩
 rw [hf] at hcz ⊢
 have hp1 : (0 : Int) < (L.length : Int) := by omega
 clear h hc hf hp
 go_enter Tryz.func25, Tryz.ntmps25
 go_wp2
 go_ret
 exact ⟨rfl, rfl⟩
set_option maxRecDepth 20000 in
set_option maxHeartbeats 2000000 in
theorem wcontains_any (g : Nat) (A : Option Addr) (L : List Int) (c : Nat) (w : World) (hb : w.cell? ⟨g, 0, none⟩ = some (.slice A L.length c)) (h : Lies w w.heap.size A (ints .i64 L)) (hl : L.length ≤ 1000) :
 Calls Tryz.prog 24 #[.slice A L.length c, .func (.func 25) #[] #[.pointer (some ⟨g, 0, none⟩)]] w fun ed w' => ed = .returned (.bool (!wholeI L)) ∧ w = w' := by
 have HI : Hid (Calls Tryz.prog 42 #[.slice A L.length c, .func (.func 25) #[] #[.pointer (some ⟨g, 0, none⟩)]] w fun ed w' => (∃ z : Int, ed = .returned (.int .i64 z) ∧ decide (z ≥ 0) = !wholeI L) ∧ w = w') := Lib.hid (by
  have H := Lib.hid h
  have HB := Lib.hid hb
  have hN : ∀ xs u, Sem.run Tryz.prog (callFunc 25 xs) u = .ok (.enter 25 xs) u := fun xs u => call_ok Tryz.func25 (by kernel_rfl) (by kernel_rfl) xs u
  clear h hb
  go_enter Tryz.func42, Tryz.ntmps42
  go_wp2_with fail
  go_loopw [8] (fun iv wr => ∃ k : Nat, k ≤ L.length ∧ iv = .int .i64 k ∧ Hid (∀ j (hj : j < L.length), j < k → L[j] = L[0]'(by omega)) ∧ w = wr) (fun iv _ => L.length - (intOf iv).toNat)
  case atStart => exact ⟨0, by omega, rfl, Lib.hid (fun j hj h => absurd h (by omega)), rfl⟩
  case round =>
   obtain ⟨k, hk, rfl, HJ, rfl⟩ := hrel
   by_cases hlt : k < L.length
   ·have hp : 0 < L.length := by omega
    obtain ⟨p, hp', _, hck⟩ := H.out.int hlt
    obtain ⟨x, hx⟩ : ∃ x, L[k] = x := ⟨_, rfl⟩
    rw [hx] at hck
    have HW := Lib.hid (whole1_any g A L c x w HB.out H.out hp)
    have HX := Lib.hid hx
    have h0f : L[0] = L.headD 0 := by cases L with
     | nil => simp at hp
     | cons a r => rfl
    have H0 := Lib.hid h0f
    subst hp'
    have k0 : (0 : Int) ≤ (k : Int) := by omega
    have k1 : (k : Int) < (L.length : Int) := by omega
    clear hx h0f
    go_wp2_with fail
    refine HW.out.mono ?_
    rintro e wq ⟨rfl, rfl⟩
    rcases hne : (x != L.headD 0) with _ | _
    ·have HE : Hid (x = L.headD 0) := Lib.hid (by simpa using hne)
     go_wp2_with fail
     go_roundw
     case rel => exact ⟨k + 1, by omega, by go_num, Lib.hid (fun j hj h => by
      by_cases hjk : j = k
      ·subst hjk; rw [HX.out, HE.out, ← H0.out]
      ·exact HJ.out j hj (by omega)), by first | rfl | trivial⟩
     case measure => simp [intOf]; omega
    ·have HE : Hid (wholeI L = false) := Lib.hid (whole_not L hlt (by rw [HX.out, H0.out]; simpa using hne))
     go_wp2_with fail
     go_ret
     exact ⟨⟨k, rfl, by rw [HE.out]; simp⟩, rfl⟩
   ·have HE : Hid (wholeI L = true) := Lib.hid (whole_take L fun j hj => HJ.out j hj (by omega))
    have hge : ¬ (k : Int) < (L.length : Int) := by omega
    go_wp2_with fail
    go_ret
    exact ⟨⟨-1, rfl, by rw [HE.out]; rfl⟩, rfl⟩)
 clear h hb
 go_enter Tryz.func24, Tryz.ntmps24
 go_wp2_with fail
 refine HI.out.mono ?_
 rintro e wq ⟨⟨z, rfl, hz⟩, rfl⟩
 obtain ⟨o, ho⟩ : ∃ o, (!wholeI L) = o := ⟨_, rfl⟩
 rw [ho] at hz
 have HO := Lib.hid ho
 clear ho HI
 go_wp2
 go_ret
 exact ⟨ret_bool HO.out.symm, rfl⟩
set_option maxRecDepth 20000 in
set_option maxHeartbeats 2000000 in
theorem lwhole_any (A : Option Addr) (chars : List Int) (c : Nat) (dir : Int) (w : World) (hT : ClsTabs w) (h : Lies w w.heap.size A (ints .i64 chars)) (hl : chars.length ≤ 1000) :
 Calls Tryz.prog 16 #[.slice A chars.length c, .int .i64 dir] w fun ed w' => ed = .returned (.bool (wholeI (levI chars dir))) ∧ Below w.heap.size w w' := by
 have HR := Lib.hid (lresolve_any A chars c dir w hT h hl)
 clear h hT
 go_enter Tryz.func16, Tryz.ntmps16
 go_wp2_with fail
 refine HR.out.mono ?_
 rintro e w1 ⟨g1, g2, n, rfl, hn, r1, -, b1⟩
 have hf : ∀ u, (Instr.field 38 (.agg #[.slice (some ⟨g1, 0, none⟩) n n, .slice (some ⟨g2, 0, none⟩) n n, .int .i64 (baseI chars dir)]) 0).run Tryz.prog u = .ok (.slice (some ⟨g1, 0, none⟩) n n) u := fun u => by kernel_rfl
 obtain ⟨L, hL⟩ : ∃ L, levI chars dir = L := ⟨_, rfl⟩
 have hLn : L.length = n := by rw [← hL, levI_length, hn]
 rw [hL] at r1
 have HL := Lib.hid hL
 have hc := wcontains_any w1.heap.size (some ⟨g1, 0, none⟩) L n (w1.alloc (.cells #[.slice (some ⟨g1, 0, none⟩) L.length n] 22)) (boxed (Below.refl _ _) rfl) ((Lies.ofRow r1).up (below_alloc _ _)) (by rw [hLn, hn]; exact hl)
 rw [hLn] at hc
 have HC := Lib.hid hc
 have B1 := Lib.hid b1
 clear r1 b1 hn HR hL hLn hc
 go_wp2_with fail
 refine HC.out.mono ?_
 rintro e wq ⟨rfl, rfl⟩
 obtain ⟨o, ho⟩ : ∃ o, wholeI L = o := ⟨_, rfl⟩
 rw [ho]
 have HO := Lib.hid ho
 clear ho HC
 cases o
 ·go_wp2
  go_ret
  exact ⟨ret_bool (a := false) (by rw [HL.out, HO.out]), below_then B1.out (below_alloc _ _)⟩
 ·go_wp2
  go_ret
  exact ⟨ret_bool (a := true) (by rw [HL.out, HO.out]), below_then B1.out (below_alloc _ _)⟩
end Go.Proofs.YtcbaahlahohfmaaGreatDoor
