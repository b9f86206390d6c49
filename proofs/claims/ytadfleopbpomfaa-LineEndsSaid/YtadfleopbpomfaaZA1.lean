/- Shared texts, shaken for one claim. -/
import Derived.WalkKit
import Derived.Deep.Draws
import Derived.Deep.AppendLies
import Derived.Deep.QuietTactic
import Derived.BigQuiet
import Derived.Lib.Hide
import Derived.Maps.AppendAt
import Derived.Laws.BytesArg
import Derived.Lib.OthersKept
import Derived.Test.YtadfleopbpomfaaChecked
import Derived.OrdersHeld
import Derived.Deep.RegionHeld
namespace Go.Proofs.Ytadfleopbpomfaa
open Go.RowKit
def Lies (w : World) (B : Nat) (A : Option Addr) (xs : List Value) : Prop :=
 xs ≠ [] → ∃ p : Addr, A = some p ∧ p.block < B ∧ ∀ i u, xs[i]? = some u → w.cell? (p.add i) = some u
theorem add_block (p : Addr) (n : Nat) : (p.add n).block = p.block := by
 unfold Addr.add; split <;> rfl
section
variable {w w' : World} {B B' : Nat} {A : Option Addr} {xs : List Value}
theorem Lies.empty : Lies w B A [] := fun h => absurd rfl h
theorem Lies.cellAt (h : Lies w B A xs) {i : Nat} (hi : i < xs.length) : ∃ p : Addr, A = some p ∧ p.block < B ∧ w.cell? (p.add i) = some xs[i] := by
 obtain ⟨p, hA, hB, hc⟩ := h (by intro e; subst e; simp at hi)
 exact ⟨p, hA, hB, hc i _ (List.getElem?_eq_getElem hi)⟩
theorem Lies.wider (h : Lies w B A xs) (hB : B ≤ B') : Lies w B' A xs := fun hn => by
 obtain ⟨p, hA, hp, hc⟩ := h hn
 exact ⟨p, hA, Nat.lt_of_lt_of_le hp hB, hc⟩
theorem Lies.same (h : Lies w B A xs) (hw : ∀ q : Addr, q.block < B → w'.cell? q = w.cell? q) : Lies w' B A xs := fun hn => by
 obtain ⟨p, hA, hp, hc⟩ := h hn
 exact ⟨p, hA, hp, fun i u hu => by rw [hw _ (by rw [add_block]; exact hp)]; exact hc i u hu⟩
theorem Lies.below (h : Lies w B A xs) (hb : Below B w w') : Lies w' B A xs := h.same fun _ hq => hb.cell hq
theorem Lies.drawn (h : Lies w B A xs) (n : Nat) : Lies (w.drewN n) B A xs := h
theorem Lies.alloc (h : Lies w B A xs) (hB : B ≤ w.heap.size) (o : Obj) : Lies (w.alloc o) B A xs :=
 h.same fun _ hq => World.cell?_alloc_lt w o _ (by omega)
theorem Lies.grown (h : Lies w B A xs) {row : Option Nat} (hg : w.grownBy w' row) (hB : B ≤ w.heap.size) (hr : ∀ g, row = some g → B ≤ g) : Lies w' B A xs :=
 h.same fun q hq => World.cell?_of_block (hg.block q.block (by omega) (fun e => by have := hr _ e.symm; omega))
theorem Lies.ofRow {base : Nat} {e : TypeId} {c n : Nat} (h : w.ownsRow base e 1 (.slice A n c) n xs) : Lies w w.heap.size A xs := fun hn => by
 have hl : 0 < n := by
  have := h.1
  rcases Nat.eq_zero_or_pos n with h0 | h0
  ·subst h0; exact absurd (List.eq_nil_of_length_eq_zero (by simpa using this)) hn
  ·exact h0
 obtain ⟨g, cap, hv, _, hlt⟩ := h.form hl
 obtain rfl : A = some ⟨g, 0, none⟩ := by injection hv
 exact ⟨_, rfl, hlt, h.cells (g := g) rfl⟩
end
abbrev ints (k : IntKind) (l : List Int) : List Value := l.map (Value.int k)
theorem Lies.int {w : World} {B : Nat} {A : Option Addr} {k : IntKind} {l : List Int} (h : Lies w B A (ints k l)) {i : Nat} (hi : i < l.length) :
 ∃ p : Addr, A = some p ∧ p.block < B ∧ w.cell? (p.add i) = some (.int k l[i]) := by
 obtain ⟨p, hA, hB, hc⟩ := h.cellAt (i := i) (by simpa using hi)
 exact ⟨p, hA, hB, by simpa using hc⟩
structure SliceOf (P : Program) (t e : TypeId) (z : Value) (bytes : Nat) : Prop where
 slice : P.underlying t = some (.slice e)
 elem : (P.info? e).map (fun i => (i.zero, i.size, i.bytes)) = some (some z, 1, bytes)
 one : z.cells.size = 1
def Own (w : World) (B : Nat) (e : TypeId) (v : Value) (xs : List Value) : Prop := w.ownsRow B e 1 v xs.length xs
section
variable {w w' : World} {B : Nat} {e : TypeId} {v v' : Value} {xs ys : List Value}
theorem Own.empty (w : World) (B : Nat) (e : TypeId) : Own w B e (.slice none 0 0) [] := World.ownsRow_nil w B e 1
theorem Own.form (h : Own w B e v xs) : ∃ A c, v = .slice A xs.length c ∧ Lies w w.heap.size A xs ∧ xs.length ≤ c ∧ c ≤ maxLen := by
 rcases h.2 with ⟨rfl, hn⟩ | ⟨g, cap, cur, rfl, _, _, hc, hm, _⟩
 ·refine ⟨none, 0, by rw [hn], ?_, by omega, by unfold maxLen; omega⟩
  rw [List.eq_nil_of_length_eq_zero hn]; exact Lies.empty
 ·exact ⟨_, cap, rfl, Lies.ofRow h, hc, hm⟩
theorem Own.drawn (h : Own w B e v xs) (n : Nat) : Own (w.drewN n) B e v xs := h
theorem Own.alloc (h : Own w B e v xs) (o : Obj) : Own (w.alloc o) B e v xs := World.ownsRow.alloc h o
theorem Own.keep (h : Own w B e v xs) {row : Option Nat} (hg : w.grownBy w' row) (hr : v.ownBlock = none ∨ v.ownBlock ≠ row) : Own w' B e v xs := World.ownsRow.kept h hg hr
theorem Own.below (h : Own w B e v xs) {C : Nat} (hb : Below C w w') (hC : w.heap.size ≤ C) : Own w' B e v xs := by
 refine World.ownsRow.kept (row := none) h ⟨hb.os, hb.tape, hb.output, hb.size, fun k hk _ => hb.block k (by omega)⟩ ?_
 cases v.ownBlock <;> simp
theorem Own.inside (h : Own w B e v xs) : ∀ g, v.ownBlock = some g → B ≤ g ∧ g < w.heap.size := World.ownsRow.lt h
def Apart (v v' : Value) : Prop := v.ownBlock = none ∨ v.ownBlock ≠ v'.ownBlock
theorem Apart.nil_left : Apart (.slice none 0 0) v := .inl rfl
theorem Apart.nil_right : Apart v (.slice none 0 0) := by
 cases h : v.ownBlock with
 | none => exact .inl h
 | some g => exact .inr (by rw [h]; simp [Value.ownBlock])
theorem Apart.symm (h : Apart v v') : Apart v' v := by
 unfold Apart at *
 cases h1 : v.ownBlock <;> cases h2 : v'.ownBlock <;> simp_all
 exact fun e => h e.symm
theorem Apart.grow {v1 : Value} (h : Apart v v') (h' : Own w B e v' ys) (hl : v1.ownBlock = v.ownBlock ∨ ∃ g, v1.ownBlock = some g ∧ w.heap.size ≤ g) : Apart v1 v' := by
 rcases hl with hl | ⟨g, hl, hg⟩
 ·unfold Apart at *; rw [hl]; exact h
 ·refine .inr fun hh => ?_
  have := (h'.inside g (by rw [← hh, hl])).2
  omega
end
section
variable {P : Program} {ops : Array Oper} {rest : List Oper} {o : Oper} {a : Act} {Q : Exit → Act → World → Prop}
theorem app_lit {t e : TypeId} {z : Value} {bytes : Nat} (T : SliceOf P t e z bytes) (w0 W : World) (B : Nat) (s x : Operand) (cs : Array Value) (c : Nat) (v : Value) (xs : List Value)
 (hgd : o.guard = none) (ho : o.op = .call { callee := .builtin .append, args := #[s, x], argTypes := #[t, t] })
 (hs : a.eval s = v) (hx : a.eval x = .slice (some ⟨W.heap.size, 0, none⟩) cs.size c)
 (hown : Own W B e v xs) (h1 : ∀ u ∈ cs.toList, u.oneCell' = true) (hb : Below B w0 W) (hB : B ≤ W.heap.size)
 (hlen : xs.length + cs.size ≤ maxLen) (hby : (xs.length + cs.size) * bytes ≤ 140737488355328)
 (h : ∀ v' w', Own w' B e v' (xs ++ cs.toList) → Below B w0 w' → (W.grownBy w' v.ownBlock) → (v'.ownBlock = v.ownBlock ∨ ∃ g, v'.ownBlock = some g ∧ W.heap.size ≤ g) → wpList P ops Q rest (a.put o.dst v') w') :
 wpList P ops Q (o :: rest) a (W.alloc (.cells cs e)) := by
 obtain ⟨i, hi, hz0, hz1, hz2⟩ := info_parts T.elem
 have hc : ∀ j u, cs.toList[j]? = some u → (W.alloc (.cells cs e)).cell? ((⟨W.heap.size, 0, none⟩ : Addr).add j) = some u :=
  World.news_of_block (heap_alloc_new W _)
 refine wpList_append_own_at (W.alloc (.cells cs e)) hgd s x t ho B e i z 1 bytes T.slice hi hz0 hz1 hz2 T.one (by omega) v xs.length xs hs (World.ownsRow.alloc hown _) ⟨W.heap.size, 0, none⟩ cs.size c cs.toList hx (by simp) hc h1 hlen hby (by simp; omega) ?_
 intro v' w' hown' hg _ hl
 refine h v' w' ?_ ?_ ?_ ?_
 ·unfold Own; rw [List.length_append, Array.length_toList]; exact hown'
 ·exact (hb.alloc hB _).grown hg (by simp; omega) (fun k hk => ((Own.inside hown) k hk).1)
 ·exact (World.grownBy_alloc W _ _).trans hg
 ·rcases hl with hl | hl
  ·exact .inl hl
  ·exact .inr ⟨_, hl, by simp⟩
end
theorem Own.weaken {w : World} {B B' : Nat} {e : TypeId} {v : Value} {xs : List Value} (h : Own w B e v xs) (hB : B' ≤ B) : Own w B' e v xs := by
 refine ⟨h.1, ?_⟩
 rcases h.2 with h2 | ⟨g, cap, cur, hv, hg, r⟩
 ·exact .inl h2
 ·exact .inr ⟨g, cap, cur, hv, by omega, r⟩
theorem plain_of_cell {w : World} {p : Addr} {u : Value} (h : w.cell? p = some u) : p.spot = none := by
 unfold World.cell? at h
 split at h
 ·split at h
  ·cases h
  ·rename_i hs; simpa using hs
 ·cases h
theorem Lies.plain {w : World} {B : Nat} {A : Option Addr} {xs : List Value} (h : Lies w B A xs) (hn : 0 < xs.length) :
 ∃ b off, A = some ⟨b, off, none⟩ ∧ b < B ∧ ∀ i (hi : i < xs.length), w.cell? ⟨b, off + i, none⟩ = some xs[i] := by
 obtain ⟨p, rfl, hb, hc⟩ := h (by intro e; subst e; simp at hn)
 have hs := plain_of_cell (hc 0 _ (List.getElem?_eq_getElem hn))
 obtain ⟨b, off, spot⟩ := p
 have hp : spot = none := by
  unfold Addr.add at hs; simpa using hs
 subst hp
 refine ⟨b, off, rfl, hb, fun i hi => ?_⟩
 rw [← hc i _ (List.getElem?_eq_getElem hi)]
 unfold Addr.add
 split
 ·rename_i h0; simp [h0]
 ·rfl
theorem Lies.plainInts {w : World} {B : Nat} {A : Option Addr} {k : IntKind} {l : List Int} (h : Lies w B A (ints k l)) (hn : 0 < l.length) :
 ∃ b off, A = some ⟨b, off, none⟩ ∧ b < B ∧ ∀ i (hi : i < l.length), w.cell? ⟨b, off + i, none⟩ = some (.int k l[i]) := by
 obtain ⟨b, off, hA, hb, hc⟩ := h.plain (by simpa using hn)
 exact ⟨b, off, hA, hb, fun i hi => by rw [hc i (by simpa using hi)]; simp⟩
end Go.Proofs.Ytadfleopbpomfaa
namespace Go.Proofs.Ytadfleopbpomfaa
open Go.RowKit
theorem Own.ofLit {w : World} {B : Nat} {e : TypeId} (cs : Array Value) (hB : B ≤ w.heap.size) (hm : cs.size ≤ maxLen) :
 Own (w.alloc (.cells cs e)) B e (.slice (some ⟨w.heap.size, 0, none⟩) cs.size cs.size) cs.toList := by
 have := World.ownsRow_lit (base := B) (e := e) (size := 1) w cs cs.size hB hm (by simp)
 unfold Own
 rw [Array.length_toList]
 exact this
section
variable {P : Program}
theorem run_app_src {t e : TypeId} {z : Value} {bytes : Nat} (T : SliceOf P t e z bytes) (ty : TypeId) (W : World) (B B' : Nat) (v : Value) (xs ys : List Value) (A : Option Addr) (c : Nat)
 (hown : Own W B e v xs) (hsrc : Lies W B' A ys) (h1 : ∀ u ∈ ys, u.oneCell' = true) (hB : B ≤ W.heap.size)
 (hlen : xs.length + ys.length ≤ maxLen) (hby : (xs.length + ys.length) * bytes ≤ 140737488355328) :
 ∃ v' w', (Builtin.append_ #[t, t] ty #[v, .slice A ys.length c]).run P W = .ok v' w' ∧ Own w' B e v' (xs ++ ys) ∧ W.grownBy w' v.ownBlock ∧ (v'.ownBlock = v.ownBlock ∨ v'.ownBlock = some W.heap.size) := by
 obtain ⟨i, hi, hz0, hz1, hz2⟩ := info_parts T.elem
 rcases A with _ | p
 ·have hy : ys = [] := by
   rcases ys with _ | ⟨y, ys⟩
   ·rfl
   ·obtain ⟨q, hq, _⟩ := hsrc (by simp)
    cases hq
  subst hy
  refine ⟨v, W, ?_, by simpa using hown, World.grownBy.refl W _, .inl rfl⟩
  rcases hown.2 with ⟨rfl, _⟩ | ⟨g, cap, cur, rfl, _, _, hnc, _⟩
  ·simp [Builtin.append_, run_underlying T.slice, sizeOf, typeInfo, hi, Builtin.lenOf, Builtin.firstCells]
  ·simp [Builtin.append_, run_underlying T.slice, sizeOf, typeInfo, hi, Builtin.lenOf, Builtin.firstCells, hnc, storeCells]
 ·have hcells : ∀ j u, ys[j]? = some u → W.cell? (p.add j) = some u := by
   intro j u hu
   obtain ⟨q, hq, _, hc⟩ := hsrc (by intro e; subst e; simp at hu)
   injection hq with hq
   subst hq
   exact hc j u hu
  obtain ⟨v', w', hr, h2, h3, _, h5⟩ := run_append_own_at (P := P) W B t ty e i z 1 bytes T.slice hi hz0 hz1 hz2 T.one (by omega) v xs.length xs hown p ys.length c ys (by simp) hcells h1 hlen hby hB
  exact ⟨v', w', hr, by unfold Own; rw [List.length_append]; exact h2, h3, h5⟩
variable {ops : Array Oper} {rest : List Oper} {o : Oper} {a : Act} {Q : Exit → Act → World → Prop}
theorem app_src {t e : TypeId} {z : Value} {bytes : Nat} (T : SliceOf P t e z bytes) (w0 W : World) (B B' : Nat) (s x : Operand) (v : Value) (xs ys : List Value) (A : Option Addr) (n c : Nat)
 (hw : Region.wanted o (yielded ops a.tmps) = true) (ho : o.op = .call { callee := .builtin .append, args := #[s, x], argTypes := #[t, t] })
 (hs : a.eval s = v) (hx : a.eval x = .slice A n c) (hn : n = ys.length)
 (hown : Own W B e v xs) (hsrc : Lies W B' A ys) (h1 : ∀ u ∈ ys, u.oneCell' = true) (hb : Below B w0 W) (hB : B ≤ W.heap.size)
 (hlen : xs.length + ys.length ≤ maxLen) (hby : (xs.length + ys.length) * bytes ≤ 140737488355328)
 (h : ∀ v' w', Own w' B e v' (xs ++ ys) → Below B w0 w' → W.grownBy w' v.ownBlock → (v'.ownBlock = v.ownBlock ∨ ∃ g, v'.ownBlock = some g ∧ W.heap.size ≤ g) → wpList P ops Q rest (a.put o.dst v') w') :
 wpList P ops Q (o :: rest) a W := by
 subst hn
 refine wpList_step fun K hK => ?_
 rw [if_pos hw]
 obtain ⟨v', w', hr, h2, h3, h4⟩ := run_app_src T o.type W B B' v xs ys A c hown hsrc h1 hB hlen hby
 unfold Oper.wp execOp
 simp only [ho, resolve, invoke, builtin, Sem.run_bind, Sem.run_pure, Result.andThen_ok, List.map_toArray, List.map_cons, List.map_nil, hs, hx, hr]
 refine hK _ _ (h v' w' h2 (hb.grown h3 hB (fun k hk => (Own.inside hown k hk).1)) h3 ?_)
 rcases h4 with h4 | h4
 ·exact .inl h4
 ·exact .inr ⟨_, h4, Nat.le_refl _⟩
end
theorem ints_one (k : IntKind) (l : List Int) : ∀ u ∈ ints k l, u.oneCell' = true := by
 intro u hu
 obtain ⟨n, _, rfl⟩ := List.mem_map.1 hu
 rfl
end Go.Proofs.Ytadfleopbpomfaa
namespace Go.Proofs.Ytadfleopbpomfaa
open Go.RowKit
section
variable {α : Type _}
theorem ZA {xs : List α} {i : Nat} (h : i < xs.toArray.size) : xs.toArray[i] = xs[i]'(by simpa using h) := List.getElem_toArray h
theorem ZB (a : α) (l : List α) (h : 0 < (a :: l).length) : (a :: l)[0] = a := rfl
theorem ZC (a : α) (l : List α) (i : Nat) (h : i + 1 < (a :: l).length) : (a :: l)[i + 1] = l[i]'(Nat.lt_of_succ_lt_succ h) := rfl
theorem ZD (l : List α) (i : Nat) (a : α) : l.toArray.setIfInBounds i a = (l.set i a).toArray := List.setIfInBounds_toArray l i a
theorem ZE {x a : α} {xs : List α} : (x :: xs).set 0 a = a :: xs := rfl
theorem ZF {x a : α} {xs : List α} {i : Nat} : (x :: xs).set (i + 1) a = x :: xs.set i a := rfl
end
section
variable {P : Program} {ops : Array Oper} {Q : Exit → Act → World → Prop} {md : Region.Mode} {S : World → Prop}
theorem hY (i : Nat) {oi : Oper} {v : Value} {fuel : Nat} {listed : Array Bool} {a : Act} {w : World}
 (h : wpAnyH P md ops Q S fuel (listed.setIfInBounds i true) (a.put oi.dst v) w) (hS : S w := by assumption)
 (hi : ops[i]? = some oi := by rfl) (hQ : ∀ c a w, Q (.panic c) (a.put oi.dst v) w → Q (.panic c) a w := by exact fun _ _ _ h => h)
 (hw : Region.wanted oi (yielded ops a.tmps) = true := by rfl) (hy : ∀ u, S u → (execOp a.eval oi).run P u = .ok (.value v) u := by (intro u hu; (try dsimp only at hu); go_simp; try with_reducible rfl))
 (hs : Region.noSelect ops = true := by kernel_rfl) (hf : Region.free md ops listed i = true := by kernel_rfl) (hr : (Region.ready md ops listed).contains i = true := by kernel_rfl) : wpAnyH P md ops Q S (fuel + 1) listed a w := wpAnyH_take hi hs hf hr hQ (.inl ⟨hw, hy⟩) hS h
theorem hN (i : Nat) {oi : Oper} {fuel : Nat} {listed : Array Bool} {a : Act} {w : World}
 (h : wpAnyH P md ops Q S fuel (listed.setIfInBounds i true) (a.put oi.dst undef) w) (hS : S w := by assumption)
 (hi : ops[i]? = some oi := by rfl) (hQ : ∀ c a w, Q (.panic c) (a.put oi.dst undef) w → Q (.panic c) a w := by exact fun _ _ _ h => h)
 (hw : Region.wanted oi (yielded ops a.tmps) = false := by rfl)
 (hs : Region.noSelect ops = true := by kernel_rfl) (hf : Region.free md ops listed i = true := by kernel_rfl) (hr : (Region.ready md ops listed).contains i = true := by kernel_rfl) : wpAnyH P md ops Q S (fuel + 1) listed a w := wpAnyH_take hi hs hf hr hQ (.inr ⟨hw, rfl⟩) hS h
theorem hA (i : Nat) {fuel : Nat} {listed : Array Bool} {a : Act} {w : World} {o : Oper}
 (h : ∀ K' : Act → World → Prop, Shut (∀ a w, S w → (S w → wpAnyH P md ops Q S fuel (listed.setIfInBounds i true) a w) → K' a w) → if Region.wanted o (yielded ops a.tmps) = true then Oper.wp P o a w K' Q else K' (a.put o.dst undef) w)
 (ho : ops[i]? = some o := by rfl) (hr : Region.ready md ops listed = [i] := by kernel_rfl) : wpAnyH P md ops Q S (fuel + 1) listed a w :=
 wpAnyH_ready hr (List.cons_ne_nil _ _) (AllReadyH.cons ho h AllReadyH.nil)
end
theorem ret_int {k : IntKind} {a b : Int} (h : a = b) : Ending.returned (.int k a) = .returned (.int k b) := by rw [h]
theorem ret_bool {a b : Bool} (h : a = b) : Ending.returned (.bool a) = .returned (.bool b) := by rw [h]
def Rowed (w : World) (B : Nat) (e : TypeId) (xs : List Value) (ed : Ending) (w' : World) : Prop :=
 ∃ v, ed = .returned v ∧ Own w' B e v xs ∧ Below B w w'
theorem rowed_ret {w0 w : World} {B : Nat} {e : TypeId} {xs ys : List Value} {v : Value} (h : Own w B e v ys) (hb : Below B w0 w) (he : ys = xs) : Rowed w0 B e xs (.returned v) w :=
 ⟨v, rfl, he ▸ h, hb⟩
def Rowed2 (w : World) (B : Nat) (e : TypeId) (xs : List Value) (n : Int) (ed : Ending) (w' : World) : Prop :=
 ∃ v, ed = .returned (.tuple #[v, .int .i64 n]) ∧ Own w' B e v xs ∧ Below B w w'
def Rowed3 (w : World) (B : Nat) (e : TypeId) (xs ys : List Value) (n : Int) (ed : Ending) (w' : World) : Prop :=
 ∃ v1 v2, ed = .returned (.tuple #[v1, v2, .int .i64 n]) ∧ Own w' B e v1 xs ∧ Own w' B e v2 ys ∧ Below B w w'
theorem take_snoc (l : List Int) (k : Nat) (h : k < l.length) : l.take (k + 1) = l.take k ++ [l[k]] := by
 rw [List.take_succ_eq_append_getElem h]
def lenOf : Value → Nat | .slice _ n _ => n | _ => 0
theorem below_drawn {B : Nat} {a w : World} (h : Below B a w) (n : Nat) : Below B a (w.drewN n) := ⟨h.os, h.tape, h.output, h.size, h.block⟩
theorem Lies.lit {w : World} {e : TypeId} (cs : Array Value) : Lies (w.alloc (.cells cs e)) (w.heap.size + 1) (some ⟨w.heap.size, 0, none⟩) cs.toList := fun _ =>
 ⟨_, rfl, by simp, World.news_of_block (heap_alloc_new w _)⟩
theorem Lies.up {w w' : World} {A : Option Addr} {xs : List Value} (h : Lies w w.heap.size A xs) (hb : Below w.heap.size w w') : Lies w' w'.heap.size A xs := (h.below hb).wider hb.size
theorem below_alloc (w : World) (o : Obj) : Below w.heap.size w (w.alloc o) := (Below.refl _ _).alloc (Nat.le_refl _) o
theorem below_then {a b c : World} (h : Below a.heap.size a b) (k : Below b.heap.size b c) : Below a.heap.size a c := h.trans (k.mono h.size)
theorem Lies.litUp {w : World} {e : TypeId} (cs : Array Value) : Lies (w.alloc (.cells cs e)) (w.alloc (.cells cs e)).heap.size (some ⟨w.heap.size, 0, none⟩) cs.toList := by
 have := Lies.lit (w := w) (e := e) cs; simpa using this
theorem add_plain (b off i : Nat) : (⟨b, off, none⟩ : Addr).add i = ⟨b, off + i, none⟩ := by
 unfold Addr.add; split
 ·simp
 ·rfl
end Go.Proofs.Ytadfleopbpomfaa
namespace Go.Proofs.Ytadfleopbpomfaa
open Go.RowKit
theorem intsT : SliceOf Try.prog 22 3 (.int .i64 0) 8 := ⟨by kernel_rfl, by kernel_rfl, rfl⟩
set_option maxHeartbeats 400000 in
theorem ints_yes (A A' : Option Addr) (l : List Int) (c c' : Nat) (B : Nat) (w : World) (h : Lies w B A (ints .i64 l)) (h' : Lies w B A' (ints .i64 l)) (hl : l.length ≤ 9223372036854775807) :
 Calls Try.prog 15 #[.slice A l.length c, .slice A' l.length c'] w fun e w' => e = .returned (.bool true) ∧ ∃ n, w' = w.drewN n := by
 have H := Lib.hid h
 have H' := Lib.hid h'
 clear h h'
 go_enter Try.func15, Try.ntmps15
 go_wp2
 go_loopw [5] (fun i wr => ∃ k n : Nat, k ≤ l.length ∧ i = .int .i64 k ∧ wr = w.drewN n) (fun i _ => l.length - (intOf i).toNat)
 case atStart => exact ⟨0, 0, by omega, rfl, rfl⟩
 case round =>
  obtain ⟨k, n, hk, rfl, rfl⟩ := hrel
  by_cases hlt : k < l.length
  ·obtain ⟨p, rfl, _, hc⟩ := H.out.int hlt
   obtain ⟨q, rfl, _, hd⟩ := H'.out.int hlt
   have b0 : (0 : Int) ≤ (k : Int) := by omega
   have b1 : (k : Int) < (l.length : Int) := by omega
   go_wp2
   go_quiet (fail)
   go_wp2
   go_roundw
   case rel => exact ⟨k + 1, _, by omega, by go_num, rfl⟩
   case measure => simp [intOf]; omega
  ·go_wp2
   go_ret
   exact ⟨rfl, _, rfl⟩
theorem ints_ok (A A' : Option Addr) (l : List Int) (c c' : Nat) (w : World) (h : Lies w w.heap.size A (ints .i64 l)) (h' : Lies w w.heap.size A' (ints .i64 l)) (hl : l.length ≤ 9223372036854775807) :
 Calls Try.prog 15 #[.slice A l.length c, .slice A' l.length c'] w fun e w' => e = .returned (.bool true) ∧ Below w.heap.size w w' :=
 (ints_yes A A' l c c' _ w h h' hl).mono fun _ _ ⟨he, n, hn⟩ => ⟨he, hn ▸ below_drawn (Below.refl _ _) n⟩
end Go.Proofs.Ytadfleopbpomfaa
namespace Go.Proofs.Ytadfleopbpomfaa
open Go.RowKit
theorem getD_at {l : List Int} {k : Nat} (h : k < l.length) : l.getD k 0 = l[k] := by rw [List.getD_eq_getElem?_getD, List.getElem?_eq_getElem h, Option.getD_some]
def mixL (l l' : List Int) (k : Nat) : List Int := l'.take k ++ l.drop k
theorem mixL_length {l l' : List Int} (hl : l'.length = l.length) {k : Nat} (hk : k ≤ l.length) : (mixL l l' k).length = l.length := by
 simp [mixL]; omega
theorem mixL_set {pre l l' post : List Int} (hl : l'.length = l.length) {k : Nat} (hk : k < l.length) : (pre ++ mixL l l' k ++ post).set (pre.length + k) (l'.getD k 0) = pre ++ mixL l l' (k + 1) ++ post := by
 have h1 : (l'.take k).length = k := by rw [List.length_take]; omega
 have h2 : l'.getD k 0 = l'[k]'(by omega) := by rw [List.getD_eq_getElem?_getD, List.getElem?_eq_getElem (by omega), Option.getD_some]
 rw [List.set_append_left _ _ (by rw [List.length_append, mixL_length hl (by omega)]; omega), List.set_append_right _ _ (by omega), Nat.add_sub_cancel_left, mixL,
  List.set_append_right _ _ (by omega), h1, Nat.sub_self, mixL, take_snoc l' k (by omega), List.drop_eq_getElem_cons hk, List.set_cons_zero, h2]
 simp only [List.append_assoc, List.singleton_append]
theorem mixL_all {l l' : List Int} (hl : l'.length = l.length) (k : Nat) : (mixL l l' k).length = l.length := by
 simp [mixL]; omega
theorem mixL_zero (l l' : List Int) : mixL l l' 0 = l := by simp [mixL]
theorem mixL_end {l l' : List Int} (hl : l'.length = l.length) {k : Nat} (hk : l.length ≤ k) : mixL l l' k = l' := by
 rw [mixL, List.take_of_length_le (by omega), List.drop_of_length_le hk, List.append_nil]
theorem mixL_skip {l l' : List Int} (hl : l'.length = l.length) {a b : Nat} (hab : a ≤ b) (hb : b ≤ l.length) (h : ∀ i, a ≤ i → i < b → l'[i]? = l[i]?) : mixL l l' a = mixL l l' b := by
 apply List.ext_getElem?
 intro i
 have e1 : (l'.take a).length = a := by rw [List.length_take]; omega
 have e2 : (l'.take b).length = b := by rw [List.length_take]; omega
 rw [mixL, mixL]
 by_cases h1 : i < a
 ·rw [List.getElem?_append_left (by omega), List.getElem?_append_left (by omega), List.getElem?_take_of_lt h1, List.getElem?_take_of_lt (by omega)]
 ·rw [List.getElem?_append_right (by omega), e1, List.getElem?_drop, show a + (i - a) = i by omega]
  by_cases h2 : i < b
  ·rw [List.getElem?_append_left (by omega), List.getElem?_take_of_lt h2, h i (by omega) h2]
  ·rw [List.getElem?_append_right (by omega), e2, List.getElem?_drop, show b + (i - b) = i by omega]
theorem mix_at {l l' : List Int} (hl : l'.length = l.length) {k t : Nat} (hk : k ≤ l.length) (ht : k ≤ t) : (mixL l l' k)[t]? = l[t]? := by
 have e3 : (l'.take k).length = k := by rw [List.length_take]; omega
 rw [mixL, List.getElem?_append_right (by omega), e3, List.getElem?_drop, show k + (t - k) = t by omega]
theorem mix_done {l l' : List Int} (hl : l'.length = l.length) {k t : Nat} (hk : k ≤ l.length) (ht : t < k) : (mixL l l' k)[t]? = some (l'.getD t 0) := by
 rw [mixL, List.getElem?_append_left (by rw [List.length_take]; omega), List.getElem?_take_of_lt ht, getD_at (by omega), List.getElem?_eq_getElem (by omega)]
theorem mix_put {l l' : List Int} (hl : l'.length = l.length) {k : Nat} (hk : k < l.length) : (mixL l l' k).set k (l'.getD k 0) = mixL l l' (k + 1) := by
 have h := mixL_set (pre := []) (post := []) hl hk
 simpa using h
theorem mix_stay {l l' : List Int} (hl : l'.length = l.length) {k : Nat} (hk : k < l.length) (h : l'.getD k 0 = l.getD k 0) : mixL l l' k = mixL l l' (k + 1) :=
 mixL_skip hl (by omega) (by omega) fun i h1 h2 => by
  obtain rfl : i = k := by omega
  rw [getD_at (by omega), getD_at hk] at h
  rw [List.getElem?_eq_getElem (by omega), List.getElem?_eq_getElem hk, h]
end Go.Proofs.Ytadfleopbpomfaa
