/- Shared texts, shaken for one claim. -/
import Derived.Laws.Slices
import Derived.Laws.OwnMore
import Derived.Deep.OwnRows
import Derived.Test.YtadfleopbpomfaaChecked
import Derived.Deep.DeepCutAuto
import Derived.Test.YtadfleopbpomfaaZA1
import Derived.Test.YtadfleopbpomfaaZA2
import Derived.Test.YtadfleopbpomfaaZA3
namespace Go.Proofs.Ytadfleopbpomfaa
open Go.RowKit
structure SliceOfN (P : Program) (t e : TypeId) (z : Value) (size bytes : Nat) : Prop where
 slice : P.underlying t = some (.slice e)
 elem : (P.info? e).map (fun i => (i.zero, i.size, i.bytes)) = some (some z, size, bytes)
 wide : z.cells.size = size
 pos : 0 < size
theorem SliceOf.wide {P : Program} {t e : TypeId} {z : Value} {bytes : Nat} (T : SliceOf P t e z bytes) : SliceOfN P t e z 1 bytes := ⟨T.slice, T.elem, T.one, by omega⟩
def OwnN (w : World) (B : Nat) (e : TypeId) (size : Nat) (v : Value) (n : Nat) (xs : List Value) : Prop := w.ownsRow B e size v n xs
section
variable {w w' : World} {B : Nat} {e : TypeId} {size n : Nat} {v : Value} {xs : List Value}
theorem OwnN.empty (w : World) (B : Nat) (e : TypeId) (size : Nat) : OwnN w B e size (.slice none 0 0) 0 [] := World.ownsRow_nil w B e size
theorem OwnN.same (h : OwnN w B e size v n xs) (hh : w'.heap = w.heap) : OwnN w' B e size v n xs := by
 refine ⟨h.1, ?_⟩
 rcases h.2 with h2 | ⟨g, cap, cur, hv, hg, h3, r⟩
 ·exact .inl h2
 ·exact .inr ⟨g, cap, cur, hv, hg, by rw [hh]; exact h3, r⟩
theorem OwnN.alloc (h : OwnN w B e size v n xs) (o : Obj) : OwnN (w.alloc o) B e size v n xs := World.ownsRow.alloc h o
theorem OwnN.keep (h : OwnN w B e size v n xs) {row : Option Nat} (hg : w.grownBy w' row) (hr : v.ownBlock = none ∨ v.ownBlock ≠ row) : OwnN w' B e size v n xs := World.ownsRow.kept h hg hr
theorem OwnN.below (h : OwnN w B e size v n xs) {C : Nat} (hb : Below C w w') (hC : w.heap.size ≤ C) : OwnN w' B e size v n xs := by
 refine World.ownsRow.kept (row := none) h ⟨hb.os, hb.tape, hb.output, hb.size, fun k hk _ => hb.block k (by omega)⟩ ?_
 cases v.ownBlock <;> simp
theorem OwnN.inside (h : OwnN w B e size v n xs) : ∀ g, v.ownBlock = some g → B ≤ g ∧ g < w.heap.size := World.ownsRow.lt h
theorem OwnN.form (h : OwnN w B e size v n xs) : ∃ A c, v = .slice A n c ∧ Lies w w.heap.size A xs ∧ n ≤ c ∧ c ≤ maxLen := by
 rcases h.2 with ⟨rfl, hn⟩ | ⟨g, cap, cur, rfl, hbg, hh, hc, hm, hs, ht⟩
 ·refine ⟨none, 0, by rw [hn], ?_, by omega, by unfold maxLen; omega⟩
  have := h.1
  rw [hn, Nat.zero_mul] at this
  rw [List.eq_nil_of_length_eq_zero this]; exact Lies.empty
 ·exact ⟨_, cap, rfl, fun hn => ⟨_, rfl, (Array.getElem?_eq_some_iff.1 hh).1, World.ownsRow.cells h (g := g) rfl⟩, hc, hm⟩
theorem OwnN.block (h : OwnN w B e size v n xs) (hn : 0 < n) : ∃ g c, v = .slice (some ⟨g, 0, none⟩) n c ∧ n ≤ c ∧ B ≤ g ∧ g < w.heap.size ∧ ∀ j, j < n * size → w.cell? ⟨g, j, none⟩ = xs[j]? := by
 rcases h.2 with ⟨_, h0⟩ | ⟨g, cap, cur, rfl, hbg, hh, hc, hm, hs, ht⟩
 ·omega
 ·exact ⟨g, cap, rfl, hc, hbg, (Array.getElem?_eq_some_iff.1 hh).1, fun j hj => World.ownsRow.cellAt h j hj⟩
theorem OwnN.short (h : OwnN w B e size v n xs) {j : Nat} (hj : j ≤ n) : ∃ A c, v = .slice A n c ∧ n ≤ c ∧ OwnN w B e size (.slice A j c) j (xs.take (j * size)) := by
 rcases h.2 with ⟨rfl, hn⟩ | ⟨g, cap, cur, rfl, hg, hh, hc, hm, hs, ht⟩
 ·refine ⟨none, 0, by rw [hn], by omega, ?_⟩
  obtain rfl : j = 0 := by omega
  rw [Nat.zero_mul, List.take_zero]
  exact OwnN.empty _ _ _ _
 ·refine ⟨_, cap, rfl, hc, ?_, .inr ⟨g, cap, cur, rfl, hg, hh, by omega, hm, hs, ?_⟩⟩
  ·rw [List.length_take, h.1, Nat.min_eq_left (Nat.mul_le_mul_right _ hj)]
  ·rw [← ht, List.take_take, Nat.min_eq_left (Nat.mul_le_mul_right _ hj)]
theorem OwnN.ofLit (cs : Array Value) (hB : B ≤ w.heap.size) (hm : n ≤ maxLen) (hs : cs.size = n * size) : OwnN (w.alloc (.cells cs e)) B e size (.slice (some ⟨w.heap.size, 0, none⟩) n n) n cs.toList :=
 World.ownsRow_lit w cs n hB hm hs
end
section
variable {P : Program}
theorem run_appN {t e : TypeId} {z : Value} {size bytes : Nat} (T : SliceOfN P t e z size bytes) (ty : TypeId) (W : World) (B B' : Nat) (v : Value) (n m : Nat) (xs ys : List Value) (A : Option Addr) (c : Nat)
 (hown : OwnN W B e size v n xs) (hsrc : Lies W B' A ys) (hm : ys.length = m * size) (h1 : ∀ u ∈ ys, u.oneCell' = true) (hB : B ≤ W.heap.size)
 (hlen : n + m ≤ maxLen) (hby : (n + m) * bytes ≤ 140737488355328) :
 ∃ v' w', (Builtin.append_ #[t, t] ty #[v, .slice A m c]).run P W = .ok v' w' ∧ OwnN w' B e size v' (n + m) (xs ++ ys) ∧ W.grownBy w' v.ownBlock ∧ (v'.ownBlock = v.ownBlock ∨ v'.ownBlock = some W.heap.size) := by
 obtain ⟨i, hi, hz0, hz1, hz2⟩ := info_parts T.elem
 rcases A with _ | p
 ·have hy : ys = [] := by
   rcases ys with _ | ⟨y, ys⟩
   ·rfl
   ·obtain ⟨q, hq, _⟩ := hsrc (by simp)
    cases hq
  subst hy
  obtain rfl : m = 0 := by
   have := T.pos
   rcases Nat.eq_zero_or_pos m with h | h
   ·exact h
   ·have := Nat.mul_pos h T.pos; simp at hm; omega
  refine ⟨v, W, ?_, by simpa using hown, World.grownBy.refl W _, .inl rfl⟩
  rcases hown.2 with ⟨rfl, _⟩ | ⟨g, cap, cur, rfl, _, _, hnc, _⟩
  ·simp [Builtin.append_, run_underlying T.slice, sizeOf, typeInfo, hi, Builtin.lenOf, Builtin.firstCells]
  ·simp [Builtin.append_, run_underlying T.slice, sizeOf, typeInfo, hi, Builtin.lenOf, Builtin.firstCells, hnc, storeCells]
 ·have hcells : ∀ j u, ys[j]? = some u → W.cell? (p.add j) = some u := by
   intro j u hu
   obtain ⟨q, hq, _, hc⟩ := hsrc (by intro e; subst e; simp at hu)
   injection hq with hq
   subst hq
   exact hc j u hu
  obtain ⟨v', w', hr, h2, h3, _, h5⟩ := run_append_own_at (P := P) W B t ty e i z size bytes T.slice hi hz0 hz1 hz2 T.wide T.pos v n xs hown p m c ys hm hcells h1 hlen hby hB
  exact ⟨v', w', hr, h2, h3, h5⟩
variable {ops : Array Oper} {o : Oper} {a : Act} {K : Act → World → Prop} {Q : Exit → Act → World → Prop} {E : Prop}
theorem step_appN {t e : TypeId} {z : Value} {size bytes : Nat} (T : SliceOfN P t e z size bytes) (w0 W : World) (B B' : Nat) (s x : Operand) (v : Value) (n m : Nat) (xs ys : List Value) (A : Option Addr) (c : Nat)
 (hgd : o.guard = none) (ho : o.op = .call { callee := .builtin .append, args := #[s, x], argTypes := #[t, t] })
 (hs : a.eval s = v) (hx : a.eval x = .slice A m c)
 (hown : OwnN W B e size v n xs) (hsrc : Lies W B' A ys) (hm : ys.length = m * size) (h1 : ∀ u ∈ ys, u.oneCell' = true) (hb : Below B w0 W) (hB : B ≤ W.heap.size)
 (hlen : n + m ≤ maxLen) (hby : (n + m) * bytes ≤ 140737488355328)
 (h : ∀ v' w', OwnN w' B e size v' (n + m) (xs ++ ys) → Below B w0 w' → W.grownBy w' v.ownBlock → (v'.ownBlock = v.ownBlock ∨ ∃ g, v'.ownBlock = some g ∧ W.heap.size ≤ g) → K (a.put o.dst v') w') :
 if Region.wanted o (yielded ops a.tmps) = true then Oper.wp P o a W K Q else E := by
 have hw : Region.wanted o (yielded ops a.tmps) = true := by simp [Region.wanted, hgd]
 rw [if_pos hw]
 obtain ⟨v', w', hr, h2, h3, h4⟩ := run_appN T o.type W B B' v n m xs ys A c hown hsrc hm h1 hB hlen hby
 unfold Oper.wp execOp
 simp only [ho, resolve, invoke, builtin, Sem.run_bind, Sem.run_pure, Result.andThen_ok, List.map_toArray, List.map_cons, List.map_nil, hs, hx, hr]
 refine h v' w' h2 (hb.grown h3 hB (fun k hk => (OwnN.inside hown k hk).1)) h3 ?_
 rcases h4 with h4 | h4
 ·exact .inl h4
 ·exact .inr ⟨_, h4, Nat.le_refl _⟩
end
theorem OwnN.weaken {w : World} {B B' : Nat} {e : TypeId} {size n : Nat} {v : Value} {xs : List Value} (h : OwnN w B e size v n xs) (hB : B' ≤ B) : OwnN w B' e size v n xs := by
 refine ⟨h.1, ?_⟩
 rcases h.2 with h2 | ⟨g, cap, cur, hv, hg, r⟩
 ·exact .inl h2
 ·exact .inr ⟨g, cap, cur, hv, by omega, r⟩
theorem OwnN.unlike {w : World} {B B' : Nat} {e e' : TypeId} {s s' n n' : Nat} {v v' : Value} {xs xs' : List Value} (h : OwnN w B e s v n xs) (h' : OwnN w B' e' s' v' n' xs') (he : e ≠ e') : v.ownBlock = none ∨ v.ownBlock ≠ v'.ownBlock := by
 rcases h.2 with ⟨rfl, _⟩ | ⟨g, cap, cur, rfl, _, hh, _⟩
 ·exact .inl rfl
 ·rcases h'.2 with ⟨rfl, _⟩ | ⟨g', cap', cur', rfl, _, hh', _⟩
  ·exact .inr (by simp [Value.ownBlock])
  ·refine .inr fun e1 => ?_
   have : g = g' := by simpa [Value.ownBlock] using e1
   subst this
   rw [hh] at hh'
   injection hh' with h1
   injection h1 with _ h2 _
   exact he h2
section
variable {P : Program} {ops : Array Oper} {rest : List Oper} {o : Oper} {a : Act} {K : Act → World → Prop} {Q : Exit → Act → World → Prop} {E : Prop}
theorem wp_store_cell {t e : TypeId} (W : World) (B : Nat) (x y : Operand) (g j c : Nat) (u : Value) (xs : List Value) (w0 : World)
 (hd : o.dst = none) (ho : o.op = .store t x y) (ht : (P.info? t).map (·.size) = some 1) (hu : u.oneCell' = true) (hx : a.eval x = .pointer (some ⟨g, j, none⟩)) (hy : a.eval y = u) (hr : OwnN W B e 1 (.slice (some ⟨g, 0, none⟩) xs.length c) xs.length xs) (hj : j < xs.length) (hb : Below B w0 W)
 (h : ∀ w', OwnN w' B e 1 (.slice (some ⟨g, 0, none⟩) xs.length c) xs.length (xs.set j u) → Below B w0 w' → W.grownBy w' (some g) → K a w') : Oper.wp P o a W K Q := by
 have hcell : W.cell? ⟨g, j, none⟩ = some xs[j] := by
  have := World.ownsRow.cellAt hr j (by omega)
  rw [this, List.getElem?_eq_getElem hj]
 have hfree : W.frozen? ⟨g, j, none⟩ = false := World.ownsRow.frozenAt hr j
 have hst := World.ownsRow.stored hr j u
 have hin := (OwnN.inside hr) g rfl
 obtain ⟨i, hi, hz1⟩ : ∃ i, P.info? t = some i ∧ i.size = 1 := by
  cases hh : P.info? t with
  | none => rw [hh] at ht; cases ht
  | some i => rw [hh] at ht; exact ⟨i, rfl, by simpa using ht⟩
 unfold Oper.wp
 obtain ⟨dst, op, ty, pos, after, guard⟩ := o
 obtain rfl : dst = none := hd
 obtain rfl : op = .store t x y := ho
 simp [execOp, hx, hy, Instr.storeAt, Instr.sureAddr]
 cases u with
 | agg cs => cases hu
 | tuple cs => cases hu
 | _ =>
  all_goals
   go_simp
   simp only [sizeOf, typeInfo, Sem.run_bind, Sem.run_pure]
   go_simp
   first
    | exact h _ hst.1 (hb.setCell hin.1 _) hst.2
    | (rw [run_store P W _ _ _ rfl]; simp only [hcell, hfree]; exact h _ hst.1 (hb.setCell hin.1 _) hst.2)
theorem store_cell {t e : TypeId} (W : World) (B : Nat) (x y : Operand) (g j c : Nat) (u : Value) (xs : List Value) (w0 : World)
 (hgd : o.guard = none) (hd : o.dst = none) (ho : o.op = .store t x y) (ht : (P.info? t).map (·.size) = some 1) (hu : u.oneCell' = true) (hx : a.eval x = .pointer (some ⟨g, j, none⟩)) (hy : a.eval y = u) (hr : OwnN W B e 1 (.slice (some ⟨g, 0, none⟩) xs.length c) xs.length xs) (hj : j < xs.length) (hb : Below B w0 W)
 (h : ∀ w', OwnN w' B e 1 (.slice (some ⟨g, 0, none⟩) xs.length c) xs.length (xs.set j u) → Below B w0 w' → W.grownBy w' (some g) → wpList P ops Q rest a w') : wpList P ops Q (o :: rest) a W :=
 wpList_plain hgd fun _ hK' => wp_store_cell W B x y g j c u xs w0 hd ho ht hu hx hy hr hj hb (fun w' h1 h2 h3 => hK' _ _ (h w' h1 h2 h3))
theorem step_store {t e : TypeId} (W : World) (B : Nat) (x y : Operand) (g j c : Nat) (u : Value) (xs : List Value) (w0 : World)
 (hgd : o.guard = none) (hd : o.dst = none) (ho : o.op = .store t x y) (ht : (P.info? t).map (·.size) = some 1) (hu : u.oneCell' = true) (hx : a.eval x = .pointer (some ⟨g, j, none⟩)) (hy : a.eval y = u) (hr : OwnN W B e 1 (.slice (some ⟨g, 0, none⟩) xs.length c) xs.length xs) (hj : j < xs.length) (hb : Below B w0 W)
 (h : ∀ w', OwnN w' B e 1 (.slice (some ⟨g, 0, none⟩) xs.length c) xs.length (xs.set j u) → Below B w0 w' → W.grownBy w' (some g) → K a w') :
 if Region.wanted o (yielded ops a.tmps) = true then Oper.wp P o a W K Q else E := by
 have hw : Region.wanted o (yielded ops a.tmps) = true := by simp [Region.wanted, hgd]
 rw [if_pos hw]
 exact wp_store_cell W B x y g j c u xs w0 hd ho ht hu hx hy hr hj hb h
end
section
variable {P : Program} {ops : Array Oper} {rest : List Oper} {o : Oper} {a : Act} {Q : Exit → Act → World → Prop}
theorem appN_at {t e : TypeId} {z : Value} {size bytes : Nat} (T : SliceOfN P t e z size bytes) (w0 W : World) (B B' : Nat) (s x : Operand) (v : Value) (n m : Nat) (xs ys : List Value) (A : Option Addr) (c : Nat)
 (hgd : o.guard = none) (ho : o.op = .call { callee := .builtin .append, args := #[s, x], argTypes := #[t, t] })
 (hs : a.eval s = v) (hx : a.eval x = .slice A m c)
 (hown : OwnN W B e size v n xs) (hsrc : Lies W B' A ys) (hm : ys.length = m * size) (h1 : ∀ u ∈ ys, u.oneCell' = true) (hb : Below B w0 W) (hB : B ≤ W.heap.size)
 (hlen : n + m ≤ maxLen) (hby : (n + m) * bytes ≤ 140737488355328)
 (h : ∀ v' w', OwnN w' B e size v' (n + m) (xs ++ ys) → Below B w0 w' → W.grownBy w' v.ownBlock → (v'.ownBlock = v.ownBlock ∨ ∃ g, v'.ownBlock = some g ∧ W.heap.size ≤ g) → wpList P ops Q rest (a.put o.dst v') w') : wpList P ops Q (o :: rest) a W :=
 wpList_step fun _ hK => step_appN T w0 W B B' s x v n m xs ys A c hgd ho hs hx hown hsrc hm h1 hb hB hlen hby (fun v' w' h2 h3 h4 h5 => hK _ _ (h v' w' h2 h3 h4 h5))
theorem store_cellN {t e : TypeId} {size : Nat} (W : World) (B : Nat) (x y : Operand) (g j c n : Nat) (u : Value) (xs : List Value) (w0 : World)
 (hgd : o.guard = none) (hd : o.dst = none) (ho : o.op = .store t x y) (ht : (P.info? t).map (·.size) = some 1) (hu : u.oneCell' = true) (hx : a.eval x = .pointer (some ⟨g, j, none⟩)) (hy : a.eval y = u) (hr : OwnN W B e size (.slice (some ⟨g, 0, none⟩) n c) n xs) (hj : j < n * size) (hb : Below B w0 W)
 (h : ∀ w', OwnN w' B e size (.slice (some ⟨g, 0, none⟩) n c) n (xs.set j u) → Below B w0 w' → W.grownBy w' (some g) → wpList P ops Q rest a w') : wpList P ops Q (o :: rest) a W := by
 refine wpList_plain hgd fun K hK => ?_
 have hjl : j < xs.length := by rw [hr.1]; exact hj
 have hcell : W.cell? ⟨g, j, none⟩ = some xs[j] := by
  have := World.ownsRow.cellAt hr j hj
  rw [this, List.getElem?_eq_getElem hjl]
 have hfree : W.frozen? ⟨g, j, none⟩ = false := World.ownsRow.frozenAt hr j
 have hst := World.ownsRow.stored hr j u
 have hin := (OwnN.inside hr) g rfl
 obtain ⟨i, hi, hz1⟩ : ∃ i, P.info? t = some i ∧ i.size = 1 := by
  cases hh : P.info? t with
  | none => rw [hh] at ht; cases ht
  | some i => rw [hh] at ht; exact ⟨i, rfl, by simpa using ht⟩
 unfold Oper.wp
 obtain ⟨dst, op, ty, pos, after, guard⟩ := o
 obtain rfl : dst = none := hd
 obtain rfl : op = .store t x y := ho
 simp [execOp, hx, hy, Instr.storeAt, Instr.sureAddr]
 cases u with
 | agg cs => cases hu
 | tuple cs => cases hu
 | _ =>
  all_goals
   go_simp
   simp only [sizeOf, typeInfo, Sem.run_bind, Sem.run_pure]
   go_simp
   first
    | exact hK _ _ (h _ hst.1 (hb.setCell hin.1 _) hst.2)
    | (rw [run_store P W _ _ _ rfl]; simp only [hcell, hfree]; exact hK _ _ (h _ hst.1 (hb.setCell hin.1 _) hst.2))
end
end Go.Proofs.Ytadfleopbpomfaa
namespace Go.Proofs.Ytadfleopbpomfaa
open Go.RowKit
def Row (w : World) (B : Nat) (e : TypeId) (g c : Nat) (xs : List Value) : Prop := Own w B e (.slice (some ⟨g, 0, none⟩) xs.length c) xs
section
variable {w w' : World} {B : Nat} {e : TypeId} {g c : Nat} {xs : List Value}
theorem Row.own (h : Row w B e g c xs) {n : Nat} (hn : n = xs.length) : Own w B e (.slice (some ⟨g, 0, none⟩) n c) xs := hn ▸ h
theorem Row.cell (h : Row w B e g c xs) {j : Nat} (hj : j < xs.length) : w.cell? ⟨g, j, none⟩ = some xs[j] := by
 have := World.ownsRow.cellAt (h : w.ownsRow B e 1 _ _ xs) j (by omega)
 rw [this, List.getElem?_eq_getElem hj]
theorem Row.free (h : Row w B e g c xs) (j : Nat) : w.frozen? ⟨g, j, none⟩ = false := World.ownsRow.frozenAt (h : w.ownsRow B e 1 _ _ xs) j
theorem Row.set (h : Row w B e g c xs) (j : Nat) (u : Value) : Row (w.setCell ⟨g, j, none⟩ u) B e g c (xs.set j u) := by
 have := (World.ownsRow.stored (h : w.ownsRow B e 1 _ _ xs) j u).1
 unfold Row Own
 rw [List.length_set]
 exact this
theorem Row.inside (h : Row w B e g c xs) : B ≤ g ∧ g < w.heap.size := Own.inside h g rfl
theorem Row.below (h : Row w B e g c xs) {C : Nat} (hb : Below C w w') (hC : w.heap.size ≤ C) : Row w' B e g c xs := Own.below h hb hC
theorem Row.alloc (h : Row w B e g c xs) (o : Obj) : Row (w.alloc o) B e g c xs := Own.alloc h o
theorem Row.setG (h : Row w B e g c xs) (j : Nat) (u : Value) : w.grownBy (w.setCell ⟨g, j, none⟩ u) (some g) := (World.ownsRow.stored (h : w.ownsRow B e 1 _ _ xs) j u).2
theorem Row.setB {w0 : World} (hb : Below B w0 w) (h : Row w B e g c xs) (j : Nat) (u : Value) : Below B w0 (w.setCell ⟨g, j, none⟩ u) := hb.setCell h.inside.1 u
variable {P : Program} {ops : Array Oper} {rest : List Oper} {o : Oper} {a : Act} {Q : Exit → Act → World → Prop}
theorem make_row {t e : TypeId} {z : Value} {bytes : Nat} (T : SliceOf P t e z bytes) (w0 W : World) (B : Nat) (x y : Operand) (kl kc : IntKind) (n : Nat)
 (hgd : o.guard = none) (ho : o.op = .makeSlice t x y) (hx : a.eval x = .int kl (n : Int)) (hy : a.eval y = .int kc (n : Int)) (hz : z.cells = #[z]) (hb : Below B w0 W) (hB : B ≤ W.heap.size) (hn : bytes * n ≤ 281474976710656) (hm : n ≤ maxLen)
 (h : ∀ w', Row w' B e W.heap.size n (List.replicate n z) → Below B w0 w' → W.grownBy w' none → wpList P ops Q rest (a.put o.dst (.slice (some ⟨W.heap.size, 0, none⟩) n n)) w') :
 wpList P ops Q (o :: rest) a W := by
 obtain ⟨i, hi, hz0, hz1, hz2⟩ := info_parts T.elem
 obtain ⟨w', hrun, r1, r2⟩ := run_make_full (P := P) W B t e i z 1 T.slice hi hz0 hz1 kl kc n (by rw [hz2]; exact hn) hm hB
 refine wpList_plain hgd fun K' hK' => ?_
 unfold Oper.wp
 simp [execOp, ho, hx, hy, hrun, Result.andThen]
 refine hK' _ _ (h w' ?_ (hb.grown r2 hB (fun k hk => by cases hk)) r2)
 rw [hz, Nat.mul_one, toList_madeCells_one] at r1
 unfold Row Own
 simpa using r1
end
end Go.Proofs.Ytadfleopbpomfaa
namespace Go.Proofs.Ytadfleopbpomfaa
open Go.RowKit
section
variable {w w' W : World} {B : Nat} {e : TypeId} {v : Value} {xs : List Value}
theorem Own.short (h : Own w B e v xs) {j : Nat} (hj : j ≤ xs.length) : ∃ A c, v = .slice A xs.length c ∧ xs.length ≤ c ∧ Own w B e (.slice A j c) (xs.take j) := by
 rcases h.2 with ⟨rfl, hn⟩ | ⟨g, cap, cur, rfl, hg, hh, hc, hm, hs, ht⟩
 ·refine ⟨none, 0, by rw [hn], by omega, ?_⟩
  obtain rfl : j = 0 := by omega
  exact Own.empty _ _ _
 ·refine ⟨_, cap, rfl, hc, ?_⟩
  unfold Own
  rw [List.length_take, Nat.min_eq_left hj]
  refine ⟨by simp; omega, .inr ⟨g, cap, cur, rfl, hg, hh, by omega, hm, hs, ?_⟩⟩
  rw [← ht, List.take_take, Nat.min_eq_left (by omega), Nat.mul_one]
variable {P : Program} {ops : Array Oper} {rest : List Oper} {o : Oper} {a : Act} {Q : Exit → Act → World → Prop}
theorem short_own {t : TypeId} {z : Value} {bytes : Nat} (T : SliceOf P t e z bytes) (W : World) (B : Nat) (x y : Operand) (k : IntKind) (j : Int) (v : Value) (xs : List Value)
 (hgd : o.guard = none) (ho : o.op = .slice t x none (some y) none) (hx : a.eval x = v) (hy : a.eval y = .int k j) (h0 : 0 ≤ j) (hown : Own W B e v xs) (hj : j.toNat ≤ xs.length)
 (h : ∀ v', Own W B e v' (xs.take j.toNat) → v'.ownBlock = v.ownBlock → wpList P ops Q rest (a.put o.dst v') W) :
 wpList P ops Q (o :: rest) a W := by
 obtain ⟨i, hi, hz0, hz1, hz2⟩ := info_parts T.elem
 obtain ⟨A, c, rfl, hlc, hown'⟩ := hown.short hj
 have he : P.elem t = e := by simp [Program.elem, T.slice]
 have hrun := run_slice_h (P := P) (w := W) t A xs.length c (by rw [T.slice, he]) k j h0 (by omega)
 refine wpList_plain hgd fun K' hK' => ?_
 unfold Oper.wp
 simp [execOp, ho, hx, hy, run_sliceAt_slice, T.slice, he, hrun, Result.andThen, sizeOf, typeInfo, hi, hz1, sliced]
 refine hK' _ _ ?_
 have e0 : (if c = 0 then A else Option.map (fun x : Addr => x.add 0) A) = A := by cases A <;> simp [Addr.add]
 rw [e0]
 exact h _ hown' (by cases A <;> rfl)
theorem store_row {t : TypeId} {z : Value} {bytes : Nat} (T : SliceOf P t e z bytes) (W : World) (B : Nat) (x y : Operand) (g j c : Nat) (k : IntKind) (n : Int) (xs : List Value) (w0 : World)
 (hgd : o.guard = none) (hd : o.dst = none) (ho : o.op = .store e x y) (hx : a.eval x = .pointer (some ⟨g, j, none⟩)) (hy : a.eval y = .int k n) (hr : Row W B e g c xs) (hj : j < xs.length) (hb : Below B w0 W)
 (h : ∀ w', Row w' B e g c (xs.set j (.int k n)) → Below B w0 w' → W.grownBy w' (some g) → wpList P ops Q rest a w') :
 wpList P ops Q (o :: rest) a W := by
 have hcell := hr.cell hj
 have hfree := hr.free j
 refine wpList_plain hgd fun K' hK' => ?_
 unfold Oper.wp
 obtain ⟨i, hi, hz0, hz1, hz2⟩ := info_parts T.elem
 simp [execOp, ho, hx, hy, Instr.storeAt, Instr.sureAddr]
 go_simp
 simp only [sizeOf, typeInfo, Sem.run_bind, Sem.run_pure]
 go_simp
 obtain ⟨dst, op, ty, pos, after, guard⟩ := o
 obtain rfl : dst = none := hd
 exact hK' _ _ (h _ (hr.set j _) (Row.setB hb hr j _) (hr.setG j _))
end
theorem Own.inRow {w : World} {B : Nat} {e : TypeId} {v : Value} {xs : List Value} (h : Own w B e v xs) (hn : 0 < xs.length) : ∃ g c, v = .slice (some ⟨g, 0, none⟩) xs.length c ∧ Row w B e g c xs := by
 obtain ⟨g, c, hv, _, _⟩ := World.ownsRow.form h hn
 subst hv
 exact ⟨g, c, rfl, h⟩
theorem Row.drewN {w : World} {B : Nat} {e : TypeId} {g c : Nat} {xs : List Value} (h : Row w B e g c xs) (n : Nat) : Row (w.drewN n) B e g c xs := h
theorem Row.keep {w w' : World} {B : Nat} {e : TypeId} {g c : Nat} {xs : List Value} {row : Option Nat} (h : Row w B e g c xs) (hg : w.grownBy w' row) (hr : row ≠ some g) : Row w' B e g c xs :=
 Own.keep h hg (.inr fun e => hr e.symm)
theorem Own.keepRow {w w' : World} {B : Nat} {e : TypeId} {v : Value} {xs : List Value} {g : Nat} (h : Own w B e v xs) (hg : w.grownBy w' (some g)) (hr : v.ownBlock ≠ some g) : Own w' B e v xs :=
 Own.keep h hg (.inr hr)
theorem ints_set (k : IntKind) (l : List Int) (i : Nat) (n : Int) : (ints k l).set i (.int k n) = ints k (l.set i n) := by
 rw [ints, ints, List.map_set]
section
variable {P : Program}
variable {ops : Array Oper} {rest : List Oper} {o : Oper} {a : Act} {Q : Exit → Act → World → Prop}
end
end Go.Proofs.Ytadfleopbpomfaa
namespace Go.Proofs.Ytadfleopbpomfaa
open Go.RowKit
theorem Lies.short {w : World} {B : Nat} {A : Option Addr} {l : List Int} (h : Lies w B A (ints .i64 l)) (k : Nat) : Lies w B A (ints .i64 (l.take k)) := by
 intro hne
 have hl : ints .i64 l ≠ [] := by
  intro e
  apply hne
  have : l = [] := by simpa [ints] using e
  subst this; simp [ints]
 obtain ⟨p, hA, hp, hc⟩ := h hl
 refine ⟨p, hA, hp, fun i u hu => hc i u ?_⟩
 rw [ints, List.map_take] at hu
 rw [List.getElem?_take] at hu
 split at hu
 ·exact hu
 ·cases hu
theorem Lies.dropIf {w : World} {B : Nat} {A : Option Addr} {l : List Int} (h : Lies w B A (ints .i64 l)) (k c : Nat) (hc : l.length ≤ c) :
 Lies w B (if c = k then A else Option.map (fun x => { block := x.block, off := x.off + k }) A) (ints .i64 (l.drop k)) := by
 intro hne
 have hk : k < l.length := by
  apply Classical.byContradiction
  intro hk
  apply hne
  rw [List.drop_of_length_le (by omega)]; rfl
 obtain ⟨b, off, rfl, hb, hcell⟩ := h.plainInts (by omega)
 rw [if_neg (by omega)]
 refine ⟨_, rfl, hb, fun i u hu => ?_⟩
 rw [add_plain]
 rw [ints, List.map_drop, List.getElem?_drop, List.getElem?_map] at hu
 obtain ⟨x, hx, rfl⟩ := Option.map_eq_some_iff.1 hu
 obtain ⟨hlt, rfl⟩ := List.getElem?_eq_some_iff.1 hx
 have := hcell (k + i) hlt
 rw [show off + k + i = off + (k + i) by omega]
 exact this
section
variable {P : Program} {ops : Array Oper} {rest : List Oper} {o : Oper} {a : Act} {Q : Exit → Act → World → Prop}
end
end Go.Proofs.Ytadfleopbpomfaa
namespace Go.Proofs.Ytadfleopbpomfaa
open Go.RowKit
theorem prT : SliceOfN Try.prog 81 83 (.agg #[.int .i64 0, .int .i64 0]) 2 16 := ⟨by kernel_rfl, by kernel_rfl, rfl, by decide⟩
def prC (L : List (Int × Int)) : List Value := L.flatMap fun p => [.int .i64 p.1, .int .i64 p.2]
theorem prC_append (a b : List (Int × Int)) : prC (a ++ b) = prC a ++ prC b := by simp [prC]
theorem prC_one (L : List (Int × Int)) : ∀ u ∈ prC L, u.oneCell' = true := by
 intro u hu
 unfold prC at hu
 obtain ⟨r, _, hu⟩ := List.mem_flatMap.1 hu
 simp at hu
 rcases hu with rfl | rfl <;> rfl
theorem prC_length (L : List (Int × Int)) : (prC L).length = L.length * 2 := by
 induction L with
 | nil => rfl
 | cons r L ih => rw [show prC (r :: L) = [.int .i64 r.1, .int .i64 r.2] ++ prC L from rfl, List.length_append, ih]; simp; omega
theorem prC_take (L : List (Int × Int)) : ∀ k, prC (L.take k) = (prC L).take (k * 2) := by
 induction L with
 | nil => intro k; simp [prC]
 | cons r L ih =>
  intro k
  cases k with
  | zero => simp [prC]
  | succ k =>
   rw [List.take_succ_cons, show prC (r :: L.take k) = [.int .i64 r.1, .int .i64 r.2] ++ prC (L.take k) from rfl, show prC (r :: L) = [.int .i64 r.1, .int .i64 r.2] ++ prC L from rfl, ih, show (k + 1) * 2 = k * 2 + 2 by omega]
   rfl
theorem prC_drop (L : List (Int × Int)) : ∀ k, prC (L.drop k) = (prC L).drop (k * 2) := by
 induction L with
 | nil => intro k; simp [prC]
 | cons r L ih =>
  intro k
  cases k with
  | zero => simp
  | succ k =>
   rw [List.drop_succ_cons, show prC (r :: L) = [.int .i64 r.1, .int .i64 r.2] ++ prC L from rfl, ih, show (k + 1) * 2 = k * 2 + 2 by omega]
   rfl
theorem prC_get (L : List (Int × Int)) : ∀ j (hj : j < L.length), (prC L)[j * 2]? = some (.int .i64 L[j].1) ∧ (prC L)[j * 2 + 1]? = some (.int .i64 L[j].2) := by
 induction L with
 | nil => intro j hj; simp at hj
 | cons r L ih =>
  intro j hj
  rw [show prC (r :: L) = [.int .i64 r.1, .int .i64 r.2] ++ prC L from rfl]
  cases j with
  | zero => exact ⟨rfl, rfl⟩
  | succ j =>
   obtain ⟨h1, h2⟩ := ih j (by simpa using hj)
   rw [List.getElem?_append_right (by simp; omega), List.getElem?_append_right (by simp; omega)]
   simp only [List.length_cons, List.length_nil, List.getElem_cons_succ]
   rw [show (j + 1) * 2 - (0 + 1 + 1) = j * 2 by omega, show (j + 1) * 2 + 1 - (0 + 1 + 1) = j * 2 + 1 by omega]
   exact ⟨h1, h2⟩
theorem prC_at {w : World} {B : Nat} {A : Option Addr} {L : List (Int × Int)} (h : Lies w B A (prC L)) {j : Nat} (hj : j < L.length) :
 ∃ g off, A = some ⟨g, off, none⟩ ∧ g < B ∧ w.cell? ⟨g, off + j * 2, none⟩ = some (.int .i64 L[j].1) ∧ w.cell? ⟨g, off + j * 2 + 1, none⟩ = some (.int .i64 L[j].2) := by
 have hl := prC_length L
 obtain ⟨g, off, hA, hg, hc⟩ := Lies.plain h (by omega)
 obtain ⟨h1, h2⟩ := prC_get L j hj
 have k1 := hc (j * 2) (by omega)
 have k2 := hc (j * 2 + 1) (by omega)
 rw [← Nat.add_assoc] at k2
 refine ⟨g, off, hA, hg, ?_, ?_⟩
 ·rw [k1, ← List.getElem?_eq_getElem, h1]
 ·rw [k2, ← List.getElem?_eq_getElem, h2]
theorem lies_takeN {w : World} {B : Nat} {A : Option Addr} {xs : List Value} (h : Lies w B A xs) (n : Nat) : Lies w B A (xs.take n) := fun hne => by
 obtain ⟨p, hA, hp, hc⟩ := h (by intro e; subst e; simp at hne)
 refine ⟨p, hA, hp, fun i u hu => hc i u ?_⟩
 rw [List.getElem?_take] at hu
 split at hu
 ·exact hu
 ·cases hu
theorem lies_dropN {w : World} {B : Nat} {A : Option Addr} {L : List (Int × Int)} (h : Lies w B A (prC L)) (k c : Nat) (hc : L.length ≤ c) :
 Lies w B (if c = k then A else Option.map (fun x => { block := x.block, off := x.off + k * 2 }) A) (prC (L.drop k)) := fun hne => by
 have hk : k < L.length := by
  apply Classical.byContradiction
  intro hk
  apply hne
  rw [List.drop_of_length_le (by omega)]; rfl
 have hl := prC_length L
 obtain ⟨g, off, rfl, hg, hcell⟩ := Lies.plain h (by omega)
 rw [if_neg (by omega)]
 refine ⟨_, rfl, hg, fun i u hu => ?_⟩
 rw [add_plain]
 rw [prC_drop, List.getElem?_drop] at hu
 obtain ⟨hlt, rfl⟩ := List.getElem?_eq_some_iff.1 hu
 have := hcell (k * 2 + i) hlt
 rw [show off + k * 2 + i = off + (k * 2 + i) by omega]
 exact this
theorem lies_kept2 {w0 w w' : World} {g : Nat} {cs : List Value} {row : Option Nat} (hg : w.grownBy w' row) (h : Lies w0 (g + 1) (some ⟨g, 0, none⟩) cs) (hh : w.heap = w0.heap) (hlt : g < w0.heap.size) (hr : row ≠ some g) : Lies w' (g + 1) (some ⟨g, 0, none⟩) cs := fun hn => by
 obtain ⟨p, hA, hp, hc⟩ := (h.sameHeap hh) hn
 rw [← hh] at hlt
 injection hA with hA
 subst hA
 refine ⟨_, rfl, by simp, fun i u hu => ?_⟩
 rw [World.cell?_of_block (hg.block _ (by rw [add_block]; exact hlt) (by rw [add_block]; exact fun e => hr e.symm))]
 exact hc i u hu
end Go.Proofs.Ytadfleopbpomfaa
namespace Go.Proofs.Ytadfleopbpomfaa
open Go.RowKit
theorem spT : SliceOfN Try.prog 24 29 (.agg #[.int .i64 0, .int .i64 0]) 2 16 := ⟨by kernel_rfl, by kernel_rfl, rfl, by decide⟩
def RowedL (w : World) (P : List (Int × Int)) (e : Int) (ed : Ending) (w' : World) : Prop := ∃ v, ed = .returned (.tuple #[v, .int .i64 e]) ∧ OwnN w' w.heap.size 29 2 v P.length (prC P) ∧ Below w.heap.size w w'
def linesE (l : List Int) (n : Int) : List (Int × Int) := if rightI l n then linesI l else []
def linesR (l : List Int) (n : Int) : Int := if rightI l n then 0 else 3
end Go.Proofs.Ytadfleopbpomfaa
namespace Go.Proofs.Ytadfleopbpomfaa
open Go.RowKit Reckon
def clsSteps : List (Int × AV) := [(0, .num .i64 9), (9, .num .i64 11), (10, .num .i64 10), (11, .num .i64 11), (12, .num .i64 12), (13, .num .i64 10), (14, .num .i64 9), (28, .num .i64 10), (31, .num .i64 11), (32, .num .i64 12),
 (33, .num .i64 13), (35, .num .i64 5), (38, .num .i64 13), (43, .num .i64 4), (44, .num .i64 7), (45, .num .i64 4), (46, .num .i64 7), (48, .num .i64 3), (58, .num .i64 7), (59, .num .i64 13),
 (65, .num .i64 0), (91, .num .i64 13), (97, .num .i64 0), (123, .num .i64 13), (127, .num .i64 9), (133, .num .i64 10), (134, .num .i64 9), (160, .num .i64 7), (161, .num .i64 13), (162, .num .i64 5),
 (166, .num .i64 13), (170, .num .i64 0), (171, .num .i64 13), (173, .num .i64 9), (174, .num .i64 13), (176, .num .i64 5), (178, .num .i64 3), (180, .num .i64 13), (181, .num .i64 0), (182, .num .i64 13),
 (185, .num .i64 3), (186, .num .i64 0), (187, .num .i64 13), (192, .num .i64 0), (215, .num .i64 13), (216, .num .i64 0), (247, .num .i64 13), (248, .num .i64 0), (768, .num .i64 8), (880, .num .i64 0),
 (1425, .num .i64 8), (1470, .num .i64 1), (1471, .num .i64 8), (1472, .num .i64 1), (1473, .num .i64 8), (1475, .num .i64 0), (1488, .num .i64 1), (1525, .num .i64 0), (1536, .num .i64 6), (1542, .num .i64 13),
 (1544, .num .i64 2), (1545, .num .i64 5), (1547, .num .i64 2), (1548, .num .i64 7), (1549, .num .i64 2), (1550, .num .i64 0), (1552, .num .i64 8), (1563, .num .i64 2), (1611, .num .i64 8), (1632, .num .i64 6),
 (1642, .num .i64 5), (1643, .num .i64 6), (1645, .num .i64 2), (1648, .num .i64 8), (1649, .num .i64 2), (1750, .num .i64 0), (8203, .num .i64 9), (8206, .num .i64 0), (8207, .num .i64 1), (8208, .num .i64 13),
 (8232, .num .i64 12), (8233, .num .i64 10), (8234, .num .i64 14), (8235, .num .i64 16), (8236, .num .i64 18), (8237, .num .i64 15), (8238, .num .i64 17), (8239, .num .i64 7), (8240, .num .i64 5), (8245, .num .i64 13),
 (8260, .num .i64 0), (8294, .num .i64 19), (8295, .num .i64 20), (8296, .num .i64 21), (8297, .num .i64 22), (8298, .num .i64 0), (8304, .num .i64 3), (8305, .num .i64 0), (8308, .num .i64 3), (8314, .num .i64 0),
 (8352, .num .i64 5), (8385, .num .i64 0), (8592, .num .i64 13), (8722, .num .i64 4), (8723, .num .i64 5), (8724, .num .i64 13), (9014, .num .i64 0), (12296, .num .i64 13), (12306, .num .i64 0), (65279, .num .i64 9),
 (65280, .num .i64 0), (128512, .num .i64 13), (128592, .num .i64 0)]
def AV.int : AV → Int
 | .num _ n => n
 | .arg n => n
 | .boo _ => 0
def cls (c : Int) : Int := AV.int (stepF c (.num .i64 0) clsSteps)
theorem cls_val (c : Int) : (stepF c (.num .i64 0) clsSteps).val c = .int .i64 (cls c) := by
 have h := stepF_all (c := c) (p := fun v => v = .num .i64 (AV.int v)) clsSteps (.num .i64 0) rfl (by decide)
 unfold cls
 rw [h]
 rfl
theorem cls_all {p : Int → Prop} (c : Int) (h0 : p 0) (h : ∀ x ∈ clsSteps, p (AV.int x.2)) : p (cls c) :=
 stepF_all (c := c) (p := fun v => p (AV.int v)) clsSteps (.num .i64 0) h0 h
theorem cls_range (c : Int) : 0 ≤ cls c ∧ cls c ≤ 22 := cls_all (p := fun n => 0 ≤ n ∧ n ≤ 22) c (by decide) (by decide)
noncomputable def clsTab : List (Nat × Func) := [(29, Try.f29), (35, Try.f35), (47, Try.f47)]
theorem clsTab_ok : TabOk Try.prog clsTab := .cons Try.func29 (by kernel_rfl) (.cons Try.func35 (by kernel_rfl) (.cons Try.func47 (by kernel_rfl) (.nil)))
theorem of_any (c : Int) (w : World) : Calls Try.prog 29 #[.int .i64 c] w fun e w' => e = .returned (.int .i64 (cls c)) ∧ w = w' := by
 have h := calls_step clsTab_ok (keep := 40) (m := 3) (f := 29) (v0 := .num .i64 0) (l := clsSteps) (by kernel_rfl) c w
 rw [cls_val] at h
 exact h
noncomputable def rclsTab : List (Nat × Func) := [(21, Try.f21)]
theorem rclsTab_ok : TabOk Try.prog rclsTab := .cons Try.func21 (by kernel_rfl) (.nil)
theorem rof_any (c : Int) (w : World) : Calls Try.prog 21 #[.int .i64 c] w fun e w' => e = .returned (.int .i64 (cls c)) ∧ w = w' := by
 have h := calls_step rclsTab_ok (keep := 14) (m := 1) (f := 21) (v0 := .num .i64 0) (l := clsSteps) (by kernel_rfl) c w
 rw [cls_val] at h
 exact h
end Go.Proofs.Ytadfleopbpomfaa
namespace Go.Proofs.Ytadfleopbpomfaa
open Go.RowKit
def stopL (chars : List Int) (t k : Nat) : Nat := k + (((chars.take t).drop k).takeWhile fun c => lightK (cls c)).length
theorem stopL_step {chars : List Int} {t k : Nat} (ht : t ≤ chars.length) (hk : k < t) (h : lightK (cls (chars.getD k 0)) = true) : stopL chars t k = stopL chars t (k + 1) := by
 have hkt : k < (chars.take t).length := by rw [List.length_take]; omega
 have e : (chars.take t)[k] = chars.getD k 0 := by rw [List.getElem_take, getD_at (by omega)]
 unfold stopL
 rw [List.drop_eq_getElem_cons hkt, e, List.takeWhile_cons_of_pos (p := fun c => lightK (cls c)) h, List.length_cons]
 omega
theorem stopL_at {chars : List Int} {t k : Nat} (ht : t ≤ chars.length) (h : t ≤ k ∨ lightK (cls (chars.getD k 0)) = false) : stopL chars t k = k := by
 unfold stopL
 by_cases hk : t ≤ k
 ·rw [List.drop_of_length_le (by rw [List.length_take]; omega)]; rfl
 ·have h' : lightK (cls (chars.getD k 0)) = false := by
   rcases h with h | h
   ·omega
   ·exact h
  have hkt : k < (chars.take t).length := by rw [List.length_take]; omega
  have e : (chars.take t)[k] = chars.getD k 0 := by rw [List.getElem_take, getD_at (by omega)]
  rw [List.drop_eq_getElem_cons hkt, e, List.takeWhile_cons_of_neg (p := fun c => lightK (cls c)) (by rw [h']; simp)]
  rfl
def baseAt (chars : List Int) (t k : Nat) : Bool := stopL chars t k == t || (cls (chars.getD (stopL chars t k) 0) == 11 || cls (chars.getD (stopL chars t k) 0) == 10)
def lineL (chars levels : List Int) (base : Int) (f t : Nat) : List Int := (List.range (t - f)).map fun i => if baseAt chars t (f + i) then base else levels.getD (f + i) 0
theorem lineL_length (chars levels : List Int) (base : Int) (f t : Nat) : (lineL chars levels base f t).length = t - f := by simp [lineL]
theorem cut_length {levels : List Int} {f t : Nat} (ht : t ≤ levels.length) : ((levels.drop f).take (t - f)).length = t - f := by rw [List.length_take, List.length_drop]; omega
theorem lineL_at (chars levels : List Int) (base : Int) {f t i : Nat} (hi : i < t - f) : (lineL chars levels base f t).getD i 0 = if baseAt chars t (f + i) then base else levels.getD (f + i) 0 := by
 rw [getD_at (by rw [lineL_length]; exact hi)]
 simp [lineL]
theorem cut_at {levels : List Int} {f t i : Nat} (ht : t ≤ levels.length) (hi : i < t - f) : ((levels.drop f).take (t - f)).getD i 0 = levels.getD (f + i) 0 := by
 rw [getD_at (by rw [cut_length ht]; exact hi), getD_at (by omega)]
 simp
def levelsL (chars levels : List Int) (base F T : Int) : List Int := if chars.length = levels.length ∧ 0 ≤ F ∧ F ≤ T ∧ T ≤ (chars.length : Int) then lineL chars levels base F.toNat T.toNat else []
end Go.Proofs.Ytadfleopbpomfaa
namespace Go.Proofs.Ytadfleopbpomfaa
open Go.RowKit
set_option maxHeartbeats 1000000 in
theorem nright13_ok (A : Option Addr) (l : List Int) (c : Nat) (n : Int) (w : World) (h : Lies w w.heap.size A (ints .i64 l)) (hl : l.length ≤ 1000000) :
 Calls Try.prog 12 #[.slice A l.length c, .int .i64 n] w fun ed w' => ed = .returned (.bool (rightI l n)) ∧ w = w' := by
 have H := Lib.hid h
 clear h
 go_enter Try.func12, Try.ntmps12
 go_wp2
 go_loopw [10, 5] (fun iv lv wr => ∃ k : Nat, k ≤ l.length ∧ iv = .int .i64 k ∧ lv = .int .i64 (lastB (l.take k) 0) ∧ Hid (risesFrom 0 (l.take k) = true) ∧ w = wr) (fun iv _ _ => l.length - (intOf iv).toNat)
 case atStart => exact ⟨0, by omega, rfl, rfl, Lib.hid rfl, rfl⟩
 case round =>
  obtain ⟨k, hk, rfl, rfl, HR, rfl⟩ := hrel
  obtain ⟨a, ha⟩ : ∃ a, lastB (l.take k) 0 = a := ⟨_, rfl⟩
  rw [ha]
  by_cases hlt : k < l.length
  ·obtain ⟨p, rfl, _, hc⟩ := H.out.int hlt
   have HN := Lib.hid (rises_next l hlt)
   have HLN := Lib.hid (last_next l hlt)
   obtain ⟨x, hx⟩ : ∃ x, l[k] = x := ⟨_, rfl⟩
   rw [hx] at hc HN HLN
   rw [HR.out, ha, Bool.true_and] at HN
   have k0 : (0 : Int) ≤ (k : Int) := by omega
   have k1 : (k : Int) < (l.length : Int) := by omega
   clear hx ha
   rcases hxa : decide (x ≤ a) with _ | _
   ·have HT : Hid (risesFrom 0 (l.take (k + 1)) = true) := Lib.hid (by rw [HN.out]; simp at hxa ⊢; omega)
    go_wp2
    go_roundw
    case rel => exact ⟨k + 1, by omega, by go_num, by rw [HLN.out], HT, by first | rfl | trivial⟩
    case measure => simp [intOf]; omega
   ·have HF : Hid (rightI l n = false) := Lib.hid (by
     cases hr : risesFrom 0 l with
     | false => rw [rightI, hr]; rfl
     | true =>
      have := rises_take l 0 (k + 1) hr
      rw [HN.out] at this
      simp at hxa this
      omega)
    go_wp2
    go_ret
    exact ⟨ret_bool HF.out.symm, rfl⟩
  ·obtain rfl : k = l.length := by omega
   rw [List.take_length] at HR ha
   have HF : Hid (rightI l n = (a == n)) := Lib.hid (by rw [rightI, HR.out, ha, Bool.true_and])
   clear ha
   go_wp2
   go_ret
   exact ⟨ret_bool HF.out.symm, rfl⟩
theorem nright13_any (A : Option Addr) (l : List Int) (c : Nat) (n : Int) (w : World) (h : Lies w w.heap.size A (ints .i64 l)) (hl : l.length ≤ 10000) :
 Calls Try.prog 12 #[.slice A l.length c, .int .i64 n] w fun ed w' => ed = .returned (.bool (rightI l n)) ∧ Below w.heap.size w w' :=
 (nright13_ok A l c n w h (by omega)).mono fun _ _ ⟨a, b⟩ => ⟨a, b ▸ Below.refl _ _⟩
theorem nseparates_any (k : Int) (w : World) : Calls Try.prog 30 #[.int .i64 k] w fun ed w' => ed = .returned (.bool (k == 11 || k == 10)) ∧ w = w' := by
 rcases h1 : (k == 11) with _ | _
 ·rcases h2 : (k == 10) with _ | _
  ·go_enter Try.func30, Try.ntmps30
   go_wp2
   go_ret
   exact ⟨rfl, rfl⟩
  ·go_enter Try.func30, Try.ntmps30
   go_wp2
   go_ret
   exact ⟨rfl, rfl⟩
 ·go_enter Try.func30, Try.ntmps30
  go_wp2
  go_ret
  exact ⟨rfl, rfl⟩
theorem nwhite_any (k : Int) (w : World) : Calls Try.prog 31 #[.int .i64 k] w fun ed w' => ed = .returned (.bool (lightK k)) ∧ Below w.heap.size w w' := by
 obtain ⟨z, hz⟩ : ∃ z, lightK k = z := ⟨_, rfl⟩
 have HZ := Lib.hid hz
 rw [hz]
 obtain ⟨p, hp⟩ : ∃ p, isOpens k = p := ⟨_, rfl⟩
 obtain ⟨o, ho⟩ : ∃ o, isOut k = o := ⟨_, rfl⟩
 have HP := Lib.hid hp
 have HO := Lib.hid ho
 clear hz hp ho
 rcases h12 : (k == 12) with _ | _
 ·rcases h22 : (k == 22) with _ | _
  ·cases p
   ·have HF : Hid (o = z) := Lib.hid (by rw [← HZ.out, lightK, h12, HP.out, h22, HO.out]; rfl)
    go_enter Try.func31, Try.ntmps31
    go_wp2_with fail
    refine (opens_any k w).mono ?_
    rintro e w1 ⟨rfl, b1⟩
    have B1 := Lib.hid b1
    rw [HP.out]
    clear b1
    go_wp2_with fail
    refine (out_any k w1).mono ?_
    rintro e w2 ⟨rfl, b2⟩
    have B2 := Lib.hid (below_then B1.out b2)
    rw [HO.out]
    clear b2
    go_wp2
    go_ret
    exact ⟨ret_bool HF.out, B2.out⟩
   ·have HF : Hid (true = z) := Lib.hid (by rw [← HZ.out, lightK, h12, HP.out, h22]; rfl)
    go_enter Try.func31, Try.ntmps31
    go_wp2_with fail
    refine (opens_any k w).mono ?_
    rintro e w1 ⟨rfl, b1⟩
    have B1 := Lib.hid b1
    rw [HP.out]
    clear b1
    go_wp2
    go_ret
    exact ⟨ret_bool HF.out, B1.out⟩
  ·have HF : Hid (true = z) := Lib.hid (by rw [← HZ.out, lightK, h12, HP.out, h22]; cases p <;> rfl)
   go_enter Try.func31, Try.ntmps31
   go_wp2
   go_ret
   exact ⟨ret_bool HF.out, Below.refl _ _⟩
 ·have HF : Hid (true = z) := Lib.hid (by rw [← HZ.out, lightK, h12]; rfl)
  go_enter Try.func31, Try.ntmps31
  go_wp2
  go_ret
  exact ⟨ret_bool HF.out, Below.refl _ _⟩
def withinL (F T n : Int) : Bool := decide (0 ≤ F) && (decide (F ≤ T) && decide (T ≤ n))
theorem nwithin_any (F T n : Int) (w : World) : Calls Try.prog 26 #[.agg #[.int .i64 F, .int .i64 T], .int .i64 n] w fun ed w' => ed = .returned (.bool (withinL F T n)) ∧ Below w.heap.size w w' := by
 obtain ⟨w0, hw0⟩ : ∃ u, w.alloc (.cells #[.int .i64 F, .int .i64 T] 29) = u := ⟨_, rfl⟩
 have B0 : Hid (Below w.heap.size w w0) := Lib.hid (hw0 ▸ below_alloc w _)
 have s0 : w0.cell? ⟨w.heap.size, 0, none⟩ = some (.int .i64 F) := hw0 ▸ boxed (Below.refl _ _) rfl
 have s1 : w0.cell? ⟨w.heap.size, 1, none⟩ = some (.int .i64 T) := hw0 ▸ boxed (Below.refl _ _) rfl
 have HW := Lib.hid hw0
 clear hw0
 have HV : Hid (withinL F T n = (decide (0 ≤ F) && (decide (F ≤ T) && decide (T ≤ n)))) := Lib.hid rfl
 go_enter Try.func26, Try.ntmps26
 go_upto_region 1 with fail
 rw [HW.out]
 rcases h1 : decide (0 ≤ F) with _ | _
 ·go_wp2
  go_ret
  exact ⟨by rw [HV.out, h1]; rfl, B0.out⟩
 ·rcases h2 : decide (F ≤ T) with _ | _
  ·go_wp2
   go_ret
   exact ⟨by rw [HV.out, h1, h2]; rfl, B0.out⟩
  ·rcases h3 : decide (T ≤ n) with _ | _
   ·go_wp2
    go_ret
    exact ⟨by rw [HV.out, h1, h2, h3]; rfl, B0.out⟩
   ·go_wp2
    go_ret
    exact ⟨by rw [HV.out, h1, h2, h3]; rfl, B0.out⟩
end Go.Proofs.Ytadfleopbpomfaa
