/- The classes of a list: All. -/
import Derived.Test.YtlnpfamngpjkoaaDoorClB
import Derived.Deep.OwnRows
import Derived.Laws.OwnMore
namespace Go.Proofs.YtlnpfamngpjkoaaDoor
open Go.RowKit Reckon

/-- one more cell of a row that was made whole is filled -/
theorem fill_step {c : Array Value} {xs : List Value} {z v : Value} {n k : Nat} (h : c.toList = xs ++ List.replicate (n - k) z) (hk : xs.length = k) (hn : k < n) :
    (c.setIfInBounds k v).toList = (xs ++ [v]) ++ List.replicate (n - (k + 1)) z := by
  rw [Array.toList_setIfInBounds, h, List.set_append_right _ _ (by omega), hk, Nat.sub_self, show n - k = (n - (k + 1)) + 1 by omega, List.replicate_succ, List.set_cons_zero, List.append_assoc]
  rfl
theorem fill_start (z : Value) (n : Nat) : (madeCells #[z] n).toList = [] ++ List.replicate (n - 0) z := by
  rw [toList_madeCells_one]; simp

set_option maxHeartbeats 1000000 in
theorem all_any (A : Option Addr) (l : List Int) (c : Nat) (w : World) (h : Lies w w.heap.size A (ints .i64 l)) (hl : l.length ≤ 1000000) :
    Calls Tryd.prog 11 #[.slice A l.length c] w (Rowed w w.heap.size 3 (ints .i64 (l.map cls))) := by
  have H := Lib.hid h
  clear h
  have hmk := run_make_row' (P := Tryd.prog) 22 3 (.int .i64 0) 8 intsT.slice intsT.elem rfl .i64 .i64 l.length (by omega) (by omega)
  go_enter Tryd.func11, Tryd.ntmps11
  go_wp2
  go_loopw [11] (fun i wr => ∃ (k : Nat) (c' : Array Value), k ≤ l.length ∧ i = .int .i64 k ∧ Hid (c'.toList = ints .i64 ((l.take k).map cls) ++ List.replicate (l.length - k) (.int .i64 0)) ∧ wr = w.alloc (.cells c' 3)) (fun i _ => l.length - (intOf i).toNat)
  case atStart => exact ⟨0, _, by omega, rfl, fill_start _ _, rfl⟩
  case round =>
    obtain ⟨k, c', hk, rfl, HC, rfl⟩ := hrel
    have HS : Hid (c'.size = l.length) := by
      show c'.size = l.length
      have := congrArg List.length HC.out
      simp [ints] at this
      omega
    by_cases hlt : k < l.length
    · obtain ⟨p, rfl, hpb, hc⟩ := H.out.int hlt
      have b0 : (0 : Int) ≤ (k : Int) := by omega
      have b1 : (k : Int) < (l.length : Int) := by omega
      have hcc : (w.alloc (.cells c' 3)).cell? (p.add k) = some (.int .i64 l[k]) := by rw [World.cell?_alloc_lt w _ _ (by rw [add_block]; exact hpb)]; exact hc
      have hks : k < c'.size := by rw [HS.out]; exact hlt
      go_wp2_with (go_at_call 8; refine (of_any _ _).mono ?_; rintro e w' ⟨rfl, rfl⟩)
      go_roundw
      case rel =>
        refine ⟨k + 1, _, by omega, by go_num, ?_, rfl⟩
        have := fill_step (v := .int .i64 (cls l[k])) HC.out (by simp; omega) hlt
        show Array.toList _ = _
        rw [this, List.take_succ_eq_append_getElem hlt]
        simp only [ints, List.map_append, List.map_cons, List.map_nil]
      case measure => simp [intOf]; omega
    · go_wp2
      go_ret
      have hcl : c'.toList = ints .i64 (l.map cls) := by
        rw [HC.out, List.take_of_length_le (by omega), show l.length - k = 0 by omega]; simp
      refine rowed_ret ?_ (below_alloc _ _) hcl
      have := Own.ofLit (w := w) (B := w.heap.size) (e := 3) c' (Nat.le_refl _) (by rw [HS.out]; unfold maxLen; omega)
      rw [HS.out] at this
      exact this

set_option maxHeartbeats 1000000 in
theorem rall_any (A : Option Addr) (l : List Int) (c : Nat) (w : World) (h : Lies w w.heap.size A (ints .i64 l)) (hl : l.length ≤ 1000000) :
    Calls Tryd.prog 12 #[.slice A l.length c] w (Rowed w w.heap.size 3 (ints .i64 (l.map cls))) := by
  have H := Lib.hid h
  clear h
  go_enter Tryd.func12, Tryd.ntmps12
  go_wp2
  go_loopw [4, 3] (fun i v wr => ∃ (k : Nat), k ≤ l.length ∧ i = .int .i64 k ∧ Own wr w.heap.size 3 v (ints .i64 ((l.take k).map cls)) ∧ Below w.heap.size w wr) (fun i _ _ => l.length - (intOf i).toNat)
  case atStart => exact ⟨0, by omega, rfl, Own.empty _ _ _, Below.refl _ _⟩
  case round =>
    obtain ⟨k, hk, rfl, ho, hb⟩ := hrel
    have HO := Lib.hid ho
    have HB := Lib.hid hb
    have hsz := hb.size
    clear ho hb
    by_cases hlt : k < l.length
    · obtain ⟨p, rfl, hpb, hc⟩ := (H.out.below HB.out).int hlt
      have b0 : (0 : Int) ≤ (k : Int) := by omega
      have b1 : (k : Int) < (l.length : Int) := by omega
      go_wp2_with (first
        | (go_at_call 9; refine (rof_any _ _).mono ?_; rintro e w' ⟨rfl, rfl⟩)
        | (at_builtin; refine app_lit intsT w _ w.heap.size _ _ _ _ _ _ rfl rfl rfl rfl HO.out (by simp [Value.oneCell']) HB.out hsz (by unfold maxLen; simp [ints]; omega) (by simp [ints]; omega) ?_; intro v' w' hown' hb' _ _))
      go_roundw
      case rel =>
        refine ⟨k + 1, by omega, by go_num, ?_, hb'⟩
        rw [List.take_succ_eq_append_getElem hlt]
        simpa only [ints, List.map_append, List.map_cons, List.map_nil] using hown'
      case measure => simp [intOf]; omega
    · go_wp2
      go_ret
      exact rowed_ret HO.out HB.out (by rw [List.take_of_length_le (by omega)])
end Go.Proofs.YtlnpfamngpjkoaaDoor
