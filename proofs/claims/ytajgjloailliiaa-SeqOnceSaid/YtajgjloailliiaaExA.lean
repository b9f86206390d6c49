/- Layer 6: the document's walk in memory; its plain model; top, Next, fits. -/
import Derived.Test.YtajgjloailliiaaWide
import Derived.Test.YtajgjloailliiaaInts
import Derived.BigRegion
namespace Go.Proofs.Ytajgjloailliiaa
open Go.RowKit

/-- one of a stack -/
structure Ent where
  lev : Int
  over : Int
  iso : Bool
/-- the walk; the stack's top first -/
structure X6 where
  base : Int
  st : List Ent
  isos : Nat
  embeds : Nat
  valid : Nat
  most : Nat
  levels : List Int
  classes : List Int
def Ent.cells (e : Ent) : List Value := [.int .i64 e.lev, .int .i64 e.over, .bool e.iso]
def ents (es : List Ent) : List Value := es.flatMap Ent.cells
@[simp] theorem ents_length (es : List Ent) : (ents es).length = es.length * 3 := by
  induction es with
  | nil => rfl
  | cons e es ih => simp only [ents, List.flatMap_cons, List.length_append] at ih ⊢; rw [ih]; simp [Ent.cells]; omega
theorem ents_append (a b : List Ent) : ents (a ++ b) = ents a ++ ents b := by simp [ents]
theorem ents_one (es : List Ent) : ∀ u ∈ ents es, u.oneCell' = true := by
  intro u hu
  obtain ⟨e, _, h⟩ := List.mem_flatMap.1 hu
  simp only [Ent.cells, List.mem_cons, List.mem_nil_iff, or_false] at h
  rcases h with rfl | rfl | rfl <;> rfl
def X6.cells (x : X6) (sv lv cv lsl : Value) : List Value := [.int .i64 x.base, sv, .int .i64 x.isos, .int .i64 x.embeds, .int .i64 x.valid, .int .i64 x.most, lv, cv, lsl]

/-- the walk x lies behind ⟨g, 0⟩ -/
structure IsX (w : World) (B g : Nat) (x : X6) (lsl sv lv cv : Value) : Prop where
  row : OwnN w B 56 1 (.slice (some ⟨g, 0, none⟩) 9 9) 9 (x.cells sv lv cv lsl)
  stack : OwnN w B 65 3 sv x.st.length (ents x.st.reverse)
  levels : OwnN w B 3 1 lv x.levels.length (ints .i64 x.levels)
  classes : OwnN w B 3 1 cv x.classes.length (ints .i64 x.classes)
  apart : Apart lv cv
section
variable {w w' : World} {B g : Nat} {x : X6} {lsl sv lv cv : Value}
theorem IsX.below (h : IsX w B g x lsl sv lv cv) {C : Nat} (hb : Below C w w') (hC : w.heap.size ≤ C) : IsX w' B g x lsl sv lv cv :=
  ⟨h.row.below hb hC, h.stack.below hb hC, h.levels.below hb hC, h.classes.below hb hC, h.apart⟩
theorem IsX.field (h : IsX w B g x lsl sv lv cv) (j : Nat) (hj : j < 9) : w.cell? ⟨g, j, none⟩ = (x.cells sv lv cv lsl)[j]? := World.ownsRow.cellAt h.row j (by omega)
theorem IsX.inside (h : IsX w B g x lsl sv lv cv) : B ≤ g ∧ g < w.heap.size := h.row.inside g rfl
end
theorem intsN : SliceOfN Try.prog 22 3 (.int .i64 0) 1 8 := intsT.wide
theorem entsT : SliceOfN Try.prog 54 65 (.agg #[.int .i64 0, .int .i64 0, .bool false]) 3 24 := ⟨by kernel_rfl, by kernel_rfl, rfl, by decide⟩

set_option maxHeartbeats 1000000 in
theorem top_any (w : World) (B g : Nat) (x : X6) (lsl sv lv cv : Value) (e : Ent) (st : List Ent) (hst : x.st = e :: st) (h : IsX w B g x lsl sv lv cv) (hsm : x.st.length ≤ 1000000) :
    Calls Try.prog 42 #[.pointer (some ⟨g, 0, none⟩)] w fun ed w' => ed = .returned (.agg #[.int .i64 e.lev, .int .i64 e.over, .bool e.iso]) ∧ Below w.heap.size w w' := by
  have hin := h.inside
  obtain ⟨gs, c, rfl, hnc, hgs, hgl, hcells⟩ := h.stack.block (by rw [hst]; simp)
  have h1 := h.field 1 (by omega)
  simp only [X6.cells, List.getElem?_cons_succ, List.getElem?_cons_zero] at h1
  obtain ⟨n, hn⟩ : ∃ n, st.length = n := ⟨_, rfl⟩
  have hxl : x.st.length = n + 1 := by rw [hst]; simp [hn]
  rw [hxl] at h1 hcells
  have hrev : ents x.st.reverse = ents st.reverse ++ e.cells := by rw [hst, List.reverse_cons, ents_append]; simp [ents]
  have hel : (ents st.reverse).length = n * 3 := by simp [hn]
  have hc0 := hcells (n * 3) (by omega)
  have hc1 := hcells (n * 3 + 1) (by omega)
  have hc2 := hcells (n * 3 + 2) (by omega)
  rw [hrev, List.getElem?_append_right (by omega), hel] at hc0 hc1 hc2
  simp only [Nat.sub_self, Nat.add_sub_cancel_left, Ent.cells, List.getElem?_cons_zero, List.getElem?_cons_succ] at hc0 hc1 hc2
  have hw1 : IntKind.i64.wrap (((n + 1 : Nat) : Int) - 1) = (n : Int) := by rw [IntWalk.i64_in _ (by omega)]; omega
  have hw2 : IntKind.i64.wrap (n : Int) = (n : Int) := IntWalk.i64_in _ (by omega)
  have b0 : (0 : Int) ≤ (n : Int) := by omega
  have b1 : (n : Int) < ((n + 1 : Nat) : Int) := by omega
  have hne : ¬ w.heap.size = g := by omega
  have hne' : ¬ w.heap.size = gs := by omega
  clear hrev hel hcells hxl hn hst
  go_enter Try.func42, Try.ntmps42
  go_wp2
  go_region
  go_wp2
  (try simp only [Exit.inBlock, Exit.then])
  refine bodyPost_ret (v := .agg #[.int .i64 e.lev, .int .i64 e.over, .bool e.iso]) ?_ rfl ⟨rfl, below_drawn (below_alloc _ _) 1⟩
  exact results_cell_row rfl _ _ w.heap.size 65 _ (0, 0) _ rfl (Go.heap_alloc_new w _) Try.underlying65 rfl (by kernel_rfl)

/-- the next level of a direction -/
def nextL (level dir : Int) : Int := if level < 0 ∨ 125 < level then -1 else if dir = 1 then (if level % 2 = 0 then level + 1 else level + 2) else (if level % 2 = 1 then level + 1 else level + 2)
set_option maxHeartbeats 1000000 in
theorem next_any (k dir : Int) (w : World) : Calls Try.prog 48 #[.int .i64 k, .int .i64 dir] w fun e w' => e = .returned (.int .i64 (nextL k dir)) ∧ w = w' := by
  obtain ⟨z, hz⟩ : ∃ z, nextL k dir = z := ⟨_, rfl⟩
  rw [hz]
  rcases h0 : decide (k < 0) with _ | _
  · rcases h1 : decide (k > 125) with _ | _
    · obtain ⟨n, rfl⟩ : ∃ n : Nat, k = n := ⟨k.toNat, by simp at h0; omega⟩
      have hn : n ≤ 125 := by simp at h1; omega
      obtain ⟨o, ho⟩ : ∃ o : Int, (if dir = 1 then (1 : Int) else 0) = o := ⟨_, rfl⟩
      have ho01 : o = 0 ∨ o = 1 := by split at ho <;> omega
      have hz' : z = if ((n : Int) + 1) % 2 = o then (n : Int) + 1 else (n : Int) + 2 := by
        rw [← hz, nextL, if_neg (by omega)]
        split at ho
        · rw [if_pos (by assumption)]; split <;> split <;> omega
        · rw [if_neg (by assumption)]; split <;> split <;> omega
      rcases hd : (dir == 1) with _ | _
      · have HZ : Hid (z = if ((n : Int) + 1) % 2 = 0 then (n : Int) + 1 else (n : Int) + 2) := by
          have : o = 0 := by rw [← ho, if_neg (by simpa using hd)]
          rw [this] at hz'; exact hz'
        clear ho ho01 hz hz'
        go_enter Try.func48, Try.ntmps48
        go_wp2
        go_loopw [5] (fun v wr => ∃ j : Nat, j ≤ 1 ∧ v = .int .i64 ((n : Int) + 1 + j) ∧ Hid (j = 0 ∨ z = (n : Int) + 2) ∧ wr = w) (fun v _ => n + 3 - (intOf v).toNat)
        case atStart => exact ⟨0, by omega, by go_num, Lib.hid (.inl rfl), rfl⟩
        case round =>
          obtain ⟨j, hj, rfl, HJ, rfl⟩ := hrel
          have hwr : IntKind.i64.wrap ((n : Int) + 1 + j + 1) = (n : Int) + 1 + (j + 1 : Nat) := by rw [IntWalk.i64_in _ (by omega)]; omega
          rcases ht : (((n : Int) + 1 + j) % 2 != 0) with _ | _
          · have he : ((n : Int) + 1 + j) % 2 = 0 := by simpa using ht
            have hzz : z = (n : Int) + 1 + j := by
              have h1 := HZ.out
              have h2 := HJ.out
              split at h1 <;> omega
            subst hzz
            clear he
            go_wp2
            go_ret
            exact ⟨rfl, rfl⟩
          · have he : ¬ ((n : Int) + 1 + j) % 2 = 0 := by simpa using ht
            have hj0 : j = 0 ∧ z = (n : Int) + 2 := by
              have h1 := HZ.out
              have h2 := HJ.out
              split at h1 <;> omega
            have HZ2 := Lib.hid hj0
            clear he hj0
            go_wp2
            go_roundw
            case rel => exact ⟨j + 1, by have := HZ2.out; omega, by first | rfl | go_num, Lib.hid (.inr HZ2.out.2), by first | rfl | trivial⟩
            case measure => simp [intOf]; omega
      · have HZ : Hid (z = if ((n : Int) + 1) % 2 = 1 then (n : Int) + 1 else (n : Int) + 2) := by
          have : o = 1 := by rw [← ho, if_pos (by simpa using hd)]
          rw [this] at hz'; exact hz'
        clear ho ho01 hz hz'
        go_enter Try.func48, Try.ntmps48
        go_wp2
        go_loopw [5] (fun v wr => ∃ j : Nat, j ≤ 1 ∧ v = .int .i64 ((n : Int) + 1 + j) ∧ Hid (j = 0 ∨ z = (n : Int) + 2) ∧ wr = w) (fun v _ => n + 3 - (intOf v).toNat)
        case atStart => exact ⟨0, by omega, by go_num, Lib.hid (.inl rfl), rfl⟩
        case round =>
          obtain ⟨j, hj, rfl, HJ, rfl⟩ := hrel
          have hwr : IntKind.i64.wrap ((n : Int) + 1 + j + 1) = (n : Int) + 1 + (j + 1 : Nat) := by rw [IntWalk.i64_in _ (by omega)]; omega
          rcases ht : (((n : Int) + 1 + j) % 2 != 1) with _ | _
          · have he : ((n : Int) + 1 + j) % 2 = 1 := by simpa using ht
            have hzz : z = (n : Int) + 1 + j := by
              have h1 := HZ.out
              have h2 := HJ.out
              split at h1 <;> omega
            subst hzz
            clear he
            go_wp2
            go_ret
            exact ⟨rfl, rfl⟩
          · have he : ¬ ((n : Int) + 1 + j) % 2 = 1 := by simpa using ht
            have hj0 : j = 0 ∧ z = (n : Int) + 2 := by
              have h1 := HZ.out
              have h2 := HJ.out
              split at h1 <;> omega
            have HZ2 := Lib.hid hj0
            clear he hj0
            go_wp2
            go_roundw
            case rel => exact ⟨j + 1, by have := HZ2.out; omega, by first | rfl | go_num, Lib.hid (.inr HZ2.out.2), by first | rfl | trivial⟩
            case measure => simp [intOf]; omega
    · have : z = -1 := by rw [← hz, nextL, if_pos (by simp at h1; omega)]
      subst this
      clear hz
      go_enter Try.func48, Try.ntmps48
      go_wp2
      go_ret
      exact ⟨rfl, rfl⟩
  · have : z = -1 := by rw [← hz, nextL, if_pos (by simp at h0; omega)]
    subst this
    clear hz
    go_enter Try.func48, Try.ntmps48
    go_wp2
    go_ret
    exact ⟨rfl, rfl⟩

theorem field0 (a b : Int) (i : Bool) (u : World) : (Instr.field 65 (.agg #[.int .i64 a, .int .i64 b, .bool i]) 0).run Try.prog u = .ok (.int .i64 a) u := by kernel_rfl
theorem field1 (a b : Int) (i : Bool) (u : World) : (Instr.field 65 (.agg #[.int .i64 a, .int .i64 b, .bool i]) 1).run Try.prog u = .ok (.int .i64 b) u := by kernel_rfl
theorem field2 (a b : Int) (i : Bool) (u : World) : (Instr.field 65 (.agg #[.int .i64 a, .int .i64 b, .bool i]) 2).run Try.prog u = .ok (.bool i) u := by kernel_rfl
end Go.Proofs.Ytajgjloailliiaa
