/- Rows whose elements have several cells (slices of structs): append, cut short, laid out. -/
import Derived.Test.YtpllklikjnndcaaMem2
import Derived.Test.YtpllklikjnndcaaKit
import Derived.Test.YtpllklikjnndcaaSame
import Derived.Laws.Slices
import Derived.Laws.OwnMore
namespace Go.Proofs.Ytpllklikjnndcaa
open Go.RowKit

/-- a slice type, its element's type, zero, cells and bytes -/
structure SliceOfN (P : Program) (t e : TypeId) (z : Value) (size bytes : Nat) : Prop where
  slice : P.underlying t = some (.slice e)
  elem : (P.info? e).map (fun i => (i.zero, i.size, i.bytes)) = some (some z, size, bytes)
  wide : z.cells.size = size
  pos : 0 < size
theorem SliceOf.wide {P : Program} {t e : TypeId} {z : Value} {bytes : Nat} (T : SliceOf P t e z bytes) : SliceOfN P t e z 1 bytes := ⟨T.slice, T.elem, T.one, by omega⟩

/-- the slice value v, of n elements of `size` cells, is the call's own and holds the cells xs -/
def OwnN (w : World) (B : Nat) (e : TypeId) (size : Nat) (v : Value) (n : Nat) (xs : List Value) : Prop := w.ownsRow B e size v n xs
section
variable {w w' : World} {B : Nat} {e : TypeId} {size n : Nat} {v : Value} {xs : List Value}
theorem OwnN.empty (w : World) (B : Nat) (e : TypeId) (size : Nat) : OwnN w B e size (.slice none 0 0) 0 [] := World.ownsRow_nil w B e size
theorem OwnN.same (h : OwnN w B e size v n xs) (hh : w'.heap = w.heap) : OwnN w' B e size v n xs := by
  refine ⟨h.1, ?_⟩
  rcases h.2 with h2 | ⟨g, cap, cur, hv, hg, h3, r⟩
  · exact .inl h2
  · exact .inr ⟨g, cap, cur, hv, hg, by rw [hh]; exact h3, r⟩
theorem OwnN.alloc (h : OwnN w B e size v n xs) (o : Obj) : OwnN (w.alloc o) B e size v n xs := World.ownsRow.alloc h o
theorem OwnN.keep (h : OwnN w B e size v n xs) {row : Option Nat} (hg : w.grownBy w' row) (hr : v.ownBlock = none ∨ v.ownBlock ≠ row) : OwnN w' B e size v n xs := World.ownsRow.kept h hg hr
theorem OwnN.below (h : OwnN w B e size v n xs) {C : Nat} (hb : Below C w w') (hC : w.heap.size ≤ C) : OwnN w' B e size v n xs := by
  refine World.ownsRow.kept (row := none) h ⟨hb.os, hb.tape, hb.output, hb.size, fun k hk _ => hb.block k (by omega)⟩ ?_
  cases v.ownBlock <;> simp
theorem OwnN.inside (h : OwnN w B e size v n xs) : ∀ g, v.ownBlock = some g → B ≤ g ∧ g < w.heap.size := World.ownsRow.lt h
/-- its form, and what lies there -/
theorem OwnN.form (h : OwnN w B e size v n xs) : ∃ A c, v = .slice A n c ∧ Lies w w.heap.size A xs ∧ n ≤ c ∧ c ≤ maxLen := by
  rcases h.2 with ⟨rfl, hn⟩ | ⟨g, cap, cur, rfl, hbg, hh, hc, hm, hs, ht⟩
  · refine ⟨none, 0, by rw [hn], ?_, by omega, by unfold maxLen; omega⟩
    have := h.1
    rw [hn, Nat.zero_mul] at this
    rw [List.eq_nil_of_length_eq_zero this]; exact Lies.empty
  · exact ⟨_, cap, rfl, fun hn => ⟨_, rfl, (Array.getElem?_eq_some_iff.1 hh).1, World.ownsRow.cells h (g := g) rfl⟩, hc, hm⟩
/-- a row that is not empty lies in a block of its own -/
theorem OwnN.block (h : OwnN w B e size v n xs) (hn : 0 < n) : ∃ g c, v = .slice (some ⟨g, 0, none⟩) n c ∧ n ≤ c ∧ B ≤ g ∧ g < w.heap.size ∧ ∀ j, j < n * size → w.cell? ⟨g, j, none⟩ = xs[j]? := by
  rcases h.2 with ⟨_, h0⟩ | ⟨g, cap, cur, rfl, hbg, hh, hc, hm, hs, ht⟩
  · omega
  · exact ⟨g, cap, rfl, hc, hbg, (Array.getElem?_eq_some_iff.1 hh).1, fun j hj => World.ownsRow.cellAt h j hj⟩
theorem OwnN.short (h : OwnN w B e size v n xs) {j : Nat} (hj : j ≤ n) : ∃ A c, v = .slice A n c ∧ n ≤ c ∧ OwnN w B e size (.slice A j c) j (xs.take (j * size)) := by
  rcases h.2 with ⟨rfl, hn⟩ | ⟨g, cap, cur, rfl, hg, hh, hc, hm, hs, ht⟩
  · refine ⟨none, 0, by rw [hn], by omega, ?_⟩
    obtain rfl : j = 0 := by omega
    rw [Nat.zero_mul, List.take_zero]
    exact OwnN.empty _ _ _ _
  · refine ⟨_, cap, rfl, hc, ?_, .inr ⟨g, cap, cur, rfl, hg, hh, by omega, hm, hs, ?_⟩⟩
    · rw [List.length_take, h.1, Nat.min_eq_left (Nat.mul_le_mul_right _ hj)]
    · rw [← ht, List.take_take, Nat.min_eq_left (Nat.mul_le_mul_right _ hj)]
theorem OwnN.ofLit (cs : Array Value) (hB : B ≤ w.heap.size) (hm : n ≤ maxLen) (hs : cs.size = n * size) : OwnN (w.alloc (.cells cs e)) B e size (.slice (some ⟨w.heap.size, 0, none⟩) n n) n cs.toList :=
  World.ownsRow_lit w cs n hB hm hs
end

section
variable {P : Program}
theorem run_appN {t e : TypeId} {z : Value} {size bytes : Nat} (T : SliceOfN P t e z size bytes) (ty : TypeId) (W : World) (B B' : Nat) (v : Value) (n m : Nat) (xs ys : List Value) (A : Option Addr) (c : Nat)
    (hown : OwnN W B e size v n xs) (hsrc : Lies W B' A ys) (hm : ys.length = m * size) (h1 : ∀ u ∈ ys, u.oneCell' = true) (hB : B ≤ W.heap.size)
    (hlen : n + m ≤ maxLen) (hby : (n + m) * bytes ≤ 140737488355328) :
    ∃ v' w', (Builtin.append_ #[t, t] ty #[v, .slice A m c]).run P W = .ok v' w' ∧ OwnN w' B e size v' (n + m) (xs ++ ys) ∧ W.grownBy w' v.ownBlock ∧ (v'.ownBlock = v.ownBlock ∨ v'.ownBlock = some W.heap.size) := by
  obtain ⟨i, hi, hz0, hz1, hz2⟩ := info_parts T.elem
  rcases A with _ | p
  · have hy : ys = [] := by
      rcases ys with _ | ⟨y, ys⟩
      · rfl
      · obtain ⟨q, hq, _⟩ := hsrc (by simp)
        cases hq
    subst hy
    obtain rfl : m = 0 := by
      have := T.pos
      rcases Nat.eq_zero_or_pos m with h | h
      · exact h
      · have := Nat.mul_pos h T.pos; simp at hm; omega
    refine ⟨v, W, ?_, by simpa using hown, World.grownBy.refl W _, .inl rfl⟩
    rcases hown.2 with ⟨rfl, _⟩ | ⟨g, cap, cur, rfl, _, _, hnc, _⟩
    · simp [Builtin.append_, run_underlying T.slice, sizeOf, typeInfo, hi, Builtin.lenOf, Builtin.firstCells]
    · simp [Builtin.append_, run_underlying T.slice, sizeOf, typeInfo, hi, Builtin.lenOf, Builtin.firstCells, hnc, storeCells]
  · have hcells : ∀ j u, ys[j]? = some u → W.cell? (p.add j) = some u := by
      intro j u hu
      obtain ⟨q, hq, _, hc⟩ := hsrc (by intro e; subst e; simp at hu)
      injection hq with hq
      subst hq
      exact hc j u hu
    obtain ⟨v', w', hr, h2, h3, _, h5⟩ := run_append_own_at (P := P) W B t ty e i z size bytes T.slice hi hz0 hz1 hz2 T.wide T.pos v n xs hown p m c ys hm hcells h1 hlen hby hB
    exact ⟨v', w', hr, h2, h3, h5⟩

variable {ops : Array Oper} {o : Oper} {a : Act} {K : Act → World → Prop} {Q : Exit → Act → World → Prop} {E : Prop}
/-- at a step of a region: append -/
theorem step_appN {t e : TypeId} {z : Value} {size bytes : Nat} (T : SliceOfN P t e z size bytes) (w0 W : World) (B B' : Nat) (s x : Operand) (v : Value) (n m : Nat) (xs ys : List Value) (A : Option Addr) (c : Nat)
    (hgd : o.guard = none) (ho : o.op = .call { callee := .builtin .append, args := #[s, x], argTypes := #[t, t] })
    (hs : a.eval s = v) (hx : a.eval x = .slice A m c)
    (hown : OwnN W B e size v n xs) (hsrc : Lies W B' A ys) (hm : ys.length = m * size) (h1 : ∀ u ∈ ys, u.oneCell' = true) (hb : Below B w0 W) (hB : B ≤ W.heap.size)
    (hlen : n + m ≤ maxLen) (hby : (n + m) * bytes ≤ 140737488355328)
    (h : ∀ v' w', OwnN w' B e size v' (n + m) (xs ++ ys) → Below B w0 w' → W.grownBy w' v.ownBlock → (v'.ownBlock = v.ownBlock ∨ ∃ g, v'.ownBlock = some g ∧ W.heap.size ≤ g) → K (a.put o.dst v') w') :
    if Region.wanted o (yielded ops a.tmps) = true then Oper.wp P o a W K Q else E := by
  have hw : Region.wanted o (yielded ops a.tmps) = true := by simp [Region.wanted, hgd]
  rw [if_pos hw]
  obtain ⟨v', w', hr, h2, h3, h4⟩ := run_appN T o.type W B B' v n m xs ys A c hown hsrc hm h1 hB hlen hby
  unfold Oper.wp execOp
  simp only [ho, resolve, invoke, builtin, Sem.run_bind, Sem.run_pure, Result.andThen_ok, List.map_toArray, List.map_cons, List.map_nil, hs, hx, hr]
  refine h v' w' h2 (hb.grown h3 hB (fun k hk => (OwnN.inside hown k hk).1)) h3 ?_
  rcases h4 with h4 | h4
  · exact .inl h4
  · exact .inr ⟨_, h4, Nat.le_refl _⟩
end

theorem OwnN.weaken {w : World} {B B' : Nat} {e : TypeId} {size n : Nat} {v : Value} {xs : List Value} (h : OwnN w B e size v n xs) (hB : B' ≤ B) : OwnN w B' e size v n xs := by
  refine ⟨h.1, ?_⟩
  rcases h.2 with h2 | ⟨g, cap, cur, hv, hg, r⟩
  · exact .inl h2
  · exact .inr ⟨g, cap, cur, hv, by omega, r⟩
/-- rows of unlike elements share no block -/
theorem OwnN.unlike {w : World} {B B' : Nat} {e e' : TypeId} {s s' n n' : Nat} {v v' : Value} {xs xs' : List Value} (h : OwnN w B e s v n xs) (h' : OwnN w B' e' s' v' n' xs') (he : e ≠ e') : v.ownBlock = none ∨ v.ownBlock ≠ v'.ownBlock := by
  rcases h.2 with ⟨rfl, _⟩ | ⟨g, cap, cur, rfl, _, hh, _⟩
  · exact .inl rfl
  · rcases h'.2 with ⟨rfl, _⟩ | ⟨g', cap', cur', rfl, _, hh', _⟩
    · exact .inr (by simp [Value.ownBlock])
    · refine .inr fun e1 => ?_
      have : g = g' := by simpa [Value.ownBlock] using e1
      subst this
      rw [hh] at hh'
      injection hh' with h1
      injection h1 with _ h2 _
      exact he h2
section
variable {P : Program} {ops : Array Oper} {rest : List Oper} {o : Oper} {a : Act} {K : Act → World → Prop} {Q : Exit → Act → World → Prop} {E : Prop}
theorem wp_store_cell {t e : TypeId} (W : World) (B : Nat) (x y : Operand) (g j c : Nat) (u : Value) (xs : List Value) (w0 : World)
    (hd : o.dst = none) (ho : o.op = .store t x y) (ht : (P.info? t).map (·.size) = some 1) (hu : u.oneCell' = true) (hx : a.eval x = .pointer (some ⟨g, j, none⟩)) (hy : a.eval y = u) (hr : OwnN W B e 1 (.slice (some ⟨g, 0, none⟩) xs.length c) xs.length xs) (hj : j < xs.length) (hb : Below B w0 W)
    (h : ∀ w', OwnN w' B e 1 (.slice (some ⟨g, 0, none⟩) xs.length c) xs.length (xs.set j u) → Below B w0 w' → W.grownBy w' (some g) → K a w') : Oper.wp P o a W K Q := by
  have hcell : W.cell? ⟨g, j, none⟩ = some xs[j] := by
    have := World.ownsRow.cellAt hr j (by omega)
    rw [this, List.getElem?_eq_getElem hj]
  have hfree : W.frozen? ⟨g, j, none⟩ = false := World.ownsRow.frozenAt hr j
  have hst := World.ownsRow.stored hr j u
  have hin := (OwnN.inside hr) g rfl
  obtain ⟨i, hi, hz1⟩ : ∃ i, P.info? t = some i ∧ i.size = 1 := by
    cases hh : P.info? t with
    | none => rw [hh] at ht; cases ht
    | some i => rw [hh] at ht; exact ⟨i, rfl, by simpa using ht⟩
  unfold Oper.wp
  obtain ⟨dst, op, ty, pos, after, guard⟩ := o
  obtain rfl : dst = none := hd
  obtain rfl : op = .store t x y := ho
  simp [execOp, hx, hy, Instr.storeAt, Instr.sureAddr]
  cases u with
  | agg cs => cases hu
  | tuple cs => cases hu
  | _ =>
    all_goals
      go_simp
      simp only [sizeOf, typeInfo, Sem.run_bind, Sem.run_pure]
      go_simp
      first
        | exact h _ hst.1 (hb.setCell hin.1 _) hst.2
        | (rw [run_store P W _ _ _ rfl]; simp only [hcell, hfree]; exact h _ hst.1 (hb.setCell hin.1 _) hst.2)
/-- .. at an operation of a walk -/
theorem store_cell {t e : TypeId} (W : World) (B : Nat) (x y : Operand) (g j c : Nat) (u : Value) (xs : List Value) (w0 : World)
    (hgd : o.guard = none) (hd : o.dst = none) (ho : o.op = .store t x y) (ht : (P.info? t).map (·.size) = some 1) (hu : u.oneCell' = true) (hx : a.eval x = .pointer (some ⟨g, j, none⟩)) (hy : a.eval y = u) (hr : OwnN W B e 1 (.slice (some ⟨g, 0, none⟩) xs.length c) xs.length xs) (hj : j < xs.length) (hb : Below B w0 W)
    (h : ∀ w', OwnN w' B e 1 (.slice (some ⟨g, 0, none⟩) xs.length c) xs.length (xs.set j u) → Below B w0 w' → W.grownBy w' (some g) → wpList P ops Q rest a w') : wpList P ops Q (o :: rest) a W :=
  wpList_plain hgd fun _ hK' => wp_store_cell W B x y g j c u xs w0 hd ho ht hu hx hy hr hj hb (fun w' h1 h2 h3 => hK' _ _ (h w' h1 h2 h3))
/-- .. at a step of a region -/
theorem step_store {t e : TypeId} (W : World) (B : Nat) (x y : Operand) (g j c : Nat) (u : Value) (xs : List Value) (w0 : World)
    (hgd : o.guard = none) (hd : o.dst = none) (ho : o.op = .store t x y) (ht : (P.info? t).map (·.size) = some 1) (hu : u.oneCell' = true) (hx : a.eval x = .pointer (some ⟨g, j, none⟩)) (hy : a.eval y = u) (hr : OwnN W B e 1 (.slice (some ⟨g, 0, none⟩) xs.length c) xs.length xs) (hj : j < xs.length) (hb : Below B w0 W)
    (h : ∀ w', OwnN w' B e 1 (.slice (some ⟨g, 0, none⟩) xs.length c) xs.length (xs.set j u) → Below B w0 w' → W.grownBy w' (some g) → K a w') :
    if Region.wanted o (yielded ops a.tmps) = true then Oper.wp P o a W K Q else E := by
  have hw : Region.wanted o (yielded ops a.tmps) = true := by simp [Region.wanted, hgd]
  rw [if_pos hw]
  exact wp_store_cell W B x y g j c u xs w0 hd ho ht hu hx hy hr hj hb h
end
section
variable {P : Program} {ops : Array Oper} {rest : List Oper} {o : Oper} {a : Act} {Q : Exit → Act → World → Prop}
/-- append at an operation of a walk, elements of several cells -/
theorem appN_at {t e : TypeId} {z : Value} {size bytes : Nat} (T : SliceOfN P t e z size bytes) (w0 W : World) (B B' : Nat) (s x : Operand) (v : Value) (n m : Nat) (xs ys : List Value) (A : Option Addr) (c : Nat)
    (hgd : o.guard = none) (ho : o.op = .call { callee := .builtin .append, args := #[s, x], argTypes := #[t, t] })
    (hs : a.eval s = v) (hx : a.eval x = .slice A m c)
    (hown : OwnN W B e size v n xs) (hsrc : Lies W B' A ys) (hm : ys.length = m * size) (h1 : ∀ u ∈ ys, u.oneCell' = true) (hb : Below B w0 W) (hB : B ≤ W.heap.size)
    (hlen : n + m ≤ maxLen) (hby : (n + m) * bytes ≤ 140737488355328)
    (h : ∀ v' w', OwnN w' B e size v' (n + m) (xs ++ ys) → Below B w0 w' → W.grownBy w' v.ownBlock → (v'.ownBlock = v.ownBlock ∨ ∃ g, v'.ownBlock = some g ∧ W.heap.size ≤ g) → wpList P ops Q rest (a.put o.dst v') w') : wpList P ops Q (o :: rest) a W :=
  wpList_step fun _ hK => step_appN T w0 W B B' s x v n m xs ys A c hgd ho hs hx hown hsrc hm h1 hb hB hlen hby (fun v' w' h2 h3 h4 h5 => hK _ _ (h v' w' h2 h3 h4 h5))
/-- a store of one cell into a row whose elements have several -/
theorem store_cellN {t e : TypeId} {size : Nat} (W : World) (B : Nat) (x y : Operand) (g j c n : Nat) (u : Value) (xs : List Value) (w0 : World)
    (hgd : o.guard = none) (hd : o.dst = none) (ho : o.op = .store t x y) (ht : (P.info? t).map (·.size) = some 1) (hu : u.oneCell' = true) (hx : a.eval x = .pointer (some ⟨g, j, none⟩)) (hy : a.eval y = u) (hr : OwnN W B e size (.slice (some ⟨g, 0, none⟩) n c) n xs) (hj : j < n * size) (hb : Below B w0 W)
    (h : ∀ w', OwnN w' B e size (.slice (some ⟨g, 0, none⟩) n c) n (xs.set j u) → Below B w0 w' → W.grownBy w' (some g) → wpList P ops Q rest a w') : wpList P ops Q (o :: rest) a W := by
  refine wpList_plain hgd fun K hK => ?_
  have hjl : j < xs.length := by rw [hr.1]; exact hj
  have hcell : W.cell? ⟨g, j, none⟩ = some xs[j] := by
    have := World.ownsRow.cellAt hr j hj
    rw [this, List.getElem?_eq_getElem hjl]
  have hfree : W.frozen? ⟨g, j, none⟩ = false := World.ownsRow.frozenAt hr j
  have hst := World.ownsRow.stored hr j u
  have hin := (OwnN.inside hr) g rfl
  obtain ⟨i, hi, hz1⟩ : ∃ i, P.info? t = some i ∧ i.size = 1 := by
    cases hh : P.info? t with
    | none => rw [hh] at ht; cases ht
    | some i => rw [hh] at ht; exact ⟨i, rfl, by simpa using ht⟩
  unfold Oper.wp
  obtain ⟨dst, op, ty, pos, after, guard⟩ := o
  obtain rfl : dst = none := hd
  obtain rfl : op = .store t x y := ho
  simp [execOp, hx, hy, Instr.storeAt, Instr.sureAddr]
  cases u with
  | agg cs => cases hu
  | tuple cs => cases hu
  | _ =>
    all_goals
      go_simp
      simp only [sizeOf, typeInfo, Sem.run_bind, Sem.run_pure]
      go_simp
      first
        | exact hK _ _ (h _ hst.1 (hb.setCell hin.1 _) hst.2)
        | (rw [run_store P W _ _ _ rfl]; simp only [hcell, hfree]; exact hK _ _ (h _ hst.1 (hb.setCell hin.1 _) hst.2))
end
end Go.Proofs.Ytpllklikjnndcaa
