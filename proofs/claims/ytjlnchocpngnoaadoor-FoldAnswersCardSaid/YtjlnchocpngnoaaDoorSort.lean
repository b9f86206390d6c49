/- slices.Sort over []int: the library's own contract at this program, and in the words of XMem. -/
import Derived.Test.YtjlnchocpngnoaaDoorFill
import Derived.Shelf.Sort.Plain
import Derived.Lib.SortBridge
namespace Go.Proofs.YtjlnchocpngnoaaDoor
open Go.RowKit Go.Shelf Go.Sort

def sort_ren : Go.Shelf.Ren := ⟨fun | 189 => 18 | 125 => 21 | 257 => 20 | 128 => 31 | 129 => 32 | 294 => 22 | 295 => 23 | 296 => 24 | 297 => 25 | 298 => 26 | 299 => 27 | 216 => 28 | 300 => 29 | 301 => 30 | 328 => 33 | 329 => 34 | 330 => 35 | 331 => 36 | 332 => 37 | 215 => 38 | 343 => 39 | n => n, fun | 28 => 22 | 3 => 3 | 46 => 37 | 0 => 0 | 51 => 47 | 53 => 49 | 4 => 4 | 183 => 40 | 182 => 39 | 131 => 44 | 5 => 5 | 9 => 9 | 218 => 50 | 222 => 54 | 228 => 57 | 229 => 58 | n => n, fun | n => n⟩
theorem sort_laid : Go.Proofs.Lays.n189 Tryd.prog sort_ren := {
  mixed := by kernel_rfl
  f125 := Tryd.func21.trans (congrArg some (by kernel_rfl))
  f128 := Tryd.func31.trans (congrArg some (by kernel_rfl))
  f129 := Tryd.func32.trans (congrArg some (by kernel_rfl))
  f189 := Tryd.func18.trans (congrArg some (by kernel_rfl))
  f215 := Tryd.func38.trans (congrArg some (by kernel_rfl))
  f216 := Tryd.func28.trans (congrArg some (by kernel_rfl))
  f257 := Tryd.func20.trans (congrArg some (by kernel_rfl))
  f294 := Tryd.func22.trans (congrArg some (by kernel_rfl))
  f295 := Tryd.func23.trans (congrArg some (by kernel_rfl))
  f296 := Tryd.func24.trans (congrArg some (by kernel_rfl))
  f297 := Tryd.func25.trans (congrArg some (by kernel_rfl))
  f298 := Tryd.func26.trans (congrArg some (by kernel_rfl))
  f299 := Tryd.func27.trans (congrArg some (by kernel_rfl))
  f300 := Tryd.func29.trans (congrArg some (by kernel_rfl))
  f301 := Tryd.func30.trans (congrArg some (by kernel_rfl))
  f328 := Tryd.func33.trans (congrArg some (by kernel_rfl))
  f329 := Tryd.func34.trans (congrArg some (by kernel_rfl))
  f330 := Tryd.func35.trans (congrArg some (by kernel_rfl))
  f331 := Tryd.func36.trans (congrArg some (by kernel_rfl))
  f332 := Tryd.func37.trans (congrArg some (by kernel_rfl))
  f343 := Tryd.func39.trans (congrArg some (by kernel_rfl))
  t0 := Tryd.underlying0
  a0 := Tryd.isAgg0
  z0 := Tryd.sizeOf0
  v0 := Tryd.zeroValue0
  t3 := Tryd.underlying3
  a3 := Tryd.isAgg3
  z3 := Tryd.sizeOf3
  v3 := Tryd.zeroValue3
  t4 := Tryd.underlying4
  a4 := Tryd.isAgg4
  z4 := Tryd.sizeOf4
  v4 := Tryd.zeroValue4
  t5 := Tryd.underlying5
  a5 := Tryd.isAgg5
  z5 := Tryd.sizeOf5
  v5 := Tryd.zeroValue5
  t9 := Tryd.underlying9
  a9 := Tryd.isAgg9
  z9 := Tryd.sizeOf9
  v9 := Tryd.zeroValue9
  t28 := Tryd.underlying22
  a28 := Tryd.isAgg22
  z28 := Tryd.sizeOf22
  v28 := Tryd.zeroValue22
  t46 := Tryd.underlying37
  a46 := Tryd.isAgg37
  z46 := Tryd.sizeOf37
  v46 := Tryd.zeroValue37
  t51 := Tryd.underlying47
  a51 := Tryd.isAgg47
  z51 := Tryd.sizeOf47
  v51 := Tryd.zeroValue47
  t53 := Tryd.underlying49
  a53 := Tryd.isAgg49
  z53 := Tryd.sizeOf49
  v53 := Tryd.zeroValue49
  t131 := Tryd.underlying44
  a131 := Tryd.isAgg44
  z131 := Tryd.sizeOf44
  v131 := Tryd.zeroValue44
  t182 := Tryd.underlying39
  a182 := Tryd.isAgg39
  z182 := Tryd.sizeOf39
  v182 := Tryd.zeroValue39
  t183 := Tryd.underlying40
  a183 := Tryd.isAgg40
  z183 := Tryd.sizeOf40
  v183 := Tryd.zeroValue40
  t218 := Tryd.underlying50
  a218 := Tryd.isAgg50
  z218 := Tryd.sizeOf50
  v218 := Tryd.zeroValue50
  t222 := Tryd.underlying54
  a222 := Tryd.isAgg54
  z222 := Tryd.sizeOf54
  v222 := Tryd.zeroValue54
  t228 := Tryd.underlying57
  a228 := Tryd.isAgg57
  z228 := Tryd.sizeOf57
  v228 := Tryd.zeroValue57
  t229 := Tryd.underlying58
  a229 := Tryd.isAgg58
  z229 := Tryd.sizeOf58
  v229 := Tryd.zeroValue58 }

theorem below_grow (w : World) (os : Array Obj) : Below w.heap.size w (Sort.grow w os) :=
  ⟨rfl, rfl, rfl, by simp [Sort.grow], fun _ hk => heap_grow_old w os hk⟩
/-- cells of one's own row, one after the other, are written over -/
theorem Row.sets {B : Nat} {e : TypeId} {g c : Nat} : ∀ (vs old pre : List Value) (w w0 : World), old.length = vs.length → Row w B e g c (pre ++ old) → Below B w0 w →
    Row (w.setCells g pre.length vs) B e g c (pre ++ vs) ∧ Below B w0 (w.setCells g pre.length vs)
  | [], old, pre, w, w0, hl, h, hb => by
    have : old = [] := List.eq_nil_of_length_eq_zero hl
    subst this
    exact ⟨h, hb⟩
  | v :: vs, [], pre, w, w0, hl, h, hb => by simp at hl
  | v :: vs, o :: old, pre, w, w0, hl, h, hb => by
    have h1 := h.set pre.length v
    rw [List.set_append_right _ _ (Nat.le_refl _), Nat.sub_self, List.set_cons_zero] at h1
    have h2 := Row.sets vs old (pre ++ [v]) _ w0 (by simpa using hl) (by rw [List.append_assoc]; exact h1) (Row.setB hb h pre.length v)
    rw [List.append_assoc, List.length_append] at h2
    exact h2

/-- slices.Sort of a row of one's own -/
theorem sort_any (B : Nat) (e : TypeId) (g c : Nat) (l : List Int) (w : World) (h : Row w B e g c (ints .i64 l)) (hl : l.length < 4611686018427387904) :
    Calls Tryd.prog 18 #[.slice (some ⟨g, 0, none⟩) l.length c] w fun ed w' => ed = .returned (.tuple #[]) ∧ Row w' B e g c (ints .i64 (l.mergeSort fun x y => decide (x ≤ y))) ∧ Below B w w' := by
  have hH : Holds (Value.int .i64) w g 0 l.toArray := by
    intro j hj
    have hj' : j < l.length := by simpa using hj
    refine ⟨?_, h.free _⟩
    rw [Nat.zero_add, h.cell (j := j) (by simpa using hj')]
    simp [getElem!_pos, hj']
  refine (Any.slices_Sort_int sort_laid g 0 c l w hH h.inside.2 hl).mono ?_
  rintro ed w' ⟨rfl, n, os, rfl⟩
  rw [Lib.sorted_world _ w g 0 n _ _ os hH (by simp)]
  have h1 := Row.sets (ints .i64 (l.mergeSort fun x y => decide (x ≤ y))) (ints .i64 l) [] (w.drewN n) w (by simp) h (below_drawn (Below.refl B w) n)
  have h2 := below_grow ((w.drewN n).setCells g 0 (ints .i64 (l.mergeSort fun x y => decide (x ≤ y)))) os
  have hsz := h1.2.size
  exact ⟨rfl, h1.1.below h2 (Nat.le_refl _), h1.2.trans (h2.mono (Nat.le_trans (by have := h.inside; omega : B ≤ w.heap.size) hsz))⟩
end Go.Proofs.YtjlnchocpngnoaaDoor
