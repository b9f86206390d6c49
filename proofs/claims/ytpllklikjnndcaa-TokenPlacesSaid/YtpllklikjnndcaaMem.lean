/- Words for memory: what a slice value leads to, as a plain list. -/
import Derived.WalkKit
import Derived.Deep.Draws
import Derived.Deep.AppendLies
import Derived.Deep.QuietTactic
import Derived.BigQuiet
import Derived.Lib.Hide
import Derived.Maps.AppendAt
import Derived.Laws.BytesArg
import Derived.Lib.OthersKept
namespace Go.Proofs.Ytpllklikjnndcaa
open Go.RowKit

/-- The cells behind the address A, below block B, are those of xs. -/
def Lies (w : World) (B : Nat) (A : Option Addr) (xs : List Value) : Prop :=
  xs ≠ [] → ∃ p : Addr, A = some p ∧ p.block < B ∧ ∀ i u, xs[i]? = some u → w.cell? (p.add i) = some u

theorem add_block (p : Addr) (n : Nat) : (p.add n).block = p.block := by
  unfold Addr.add; split <;> rfl
theorem add_add (p : Addr) (n m : Nat) : (p.add n).add m = p.add (n + m) := by
  by_cases hn : n = 0
  · subst hn; simp [Addr.add]
  · by_cases hm : m = 0
    · subst hm; simp [Addr.add, hn]
    · simp [Addr.add, hn, hm, Nat.add_assoc]

section
variable {w w' : World} {B B' : Nat} {A : Option Addr} {xs : List Value}
theorem Lies.empty : Lies w B A [] := fun h => absurd rfl h
theorem Lies.cellAt (h : Lies w B A xs) {i : Nat} (hi : i < xs.length) : ∃ p : Addr, A = some p ∧ p.block < B ∧ w.cell? (p.add i) = some xs[i] := by
  obtain ⟨p, hA, hB, hc⟩ := h (by intro e; subst e; simp at hi)
  exact ⟨p, hA, hB, hc i _ (List.getElem?_eq_getElem hi)⟩
theorem Lies.wider (h : Lies w B A xs) (hB : B ≤ B') : Lies w B' A xs := fun hn => by
  obtain ⟨p, hA, hp, hc⟩ := h hn
  exact ⟨p, hA, Nat.lt_of_lt_of_le hp hB, hc⟩
theorem Lies.same (h : Lies w B A xs) (hw : ∀ q : Addr, q.block < B → w'.cell? q = w.cell? q) : Lies w' B A xs := fun hn => by
  obtain ⟨p, hA, hp, hc⟩ := h hn
  exact ⟨p, hA, hp, fun i u hu => by rw [hw _ (by rw [add_block]; exact hp)]; exact hc i u hu⟩
theorem Lies.below (h : Lies w B A xs) (hb : Below B w w') : Lies w' B A xs := h.same fun _ hq => hb.cell hq
theorem Lies.drawn (h : Lies w B A xs) (n : Nat) : Lies (w.drewN n) B A xs := h
theorem Lies.alloc (h : Lies w B A xs) (hB : B ≤ w.heap.size) (o : Obj) : Lies (w.alloc o) B A xs :=
  h.same fun _ hq => World.cell?_alloc_lt w o _ (by omega)
theorem Lies.grown (h : Lies w B A xs) {row : Option Nat} (hg : w.grownBy w' row) (hB : B ≤ w.heap.size) (hr : ∀ g, row = some g → B ≤ g) : Lies w' B A xs :=
  h.same fun q hq => World.cell?_of_block (hg.block q.block (by omega) (fun e => by have := hr _ e.symm; omega))
theorem Lies.part (h : Lies w B A xs) (i j : Nat) : Lies w B (A.map (·.add i)) ((xs.drop i).take j) := fun hn => by
  obtain ⟨p, rfl, hp, hc⟩ := h (by intro e; subst e; simp at hn)
  refine ⟨p.add i, rfl, by rw [add_block]; exact hp, fun k u hu => ?_⟩
  rw [add_add]
  refine hc _ u ?_
  rw [List.getElem?_take] at hu
  split at hu
  · rw [List.getElem?_drop] at hu; exact hu
  · cases hu
theorem Lies.ofRow {base : Nat} {e : TypeId} {c n : Nat} (h : w.ownsRow base e 1 (.slice A n c) n xs) : Lies w w.heap.size A xs := fun hn => by
  have hl : 0 < n := by
    have := h.1
    rcases Nat.eq_zero_or_pos n with h0 | h0
    · subst h0; exact absurd (List.eq_nil_of_length_eq_zero (by simpa using this)) hn
    · exact h0
  obtain ⟨g, cap, hv, _, hlt⟩ := h.form hl
  obtain rfl : A = some ⟨g, 0, none⟩ := by injection hv
  exact ⟨_, rfl, hlt, h.cells (g := g) rfl⟩
end

/-- whole numbers of kind k as cells -/
abbrev ints (k : IntKind) (l : List Int) : List Value := l.map (Value.int k)

theorem Lies.int {w : World} {B : Nat} {A : Option Addr} {k : IntKind} {l : List Int} (h : Lies w B A (ints k l)) {i : Nat} (hi : i < l.length) :
    ∃ p : Addr, A = some p ∧ p.block < B ∧ w.cell? (p.add i) = some (.int k l[i]) := by
  obtain ⟨p, hA, hB, hc⟩ := h.cellAt (i := i) (by simpa using hi)
  exact ⟨p, hA, hB, by simpa using hc⟩

/-- a slice type, its element's type, zero and bytes: all that an append asks of the program's table -/
structure SliceOf (P : Program) (t e : TypeId) (z : Value) (bytes : Nat) : Prop where
  slice : P.underlying t = some (.slice e)
  elem : (P.info? e).map (fun i => (i.zero, i.size, i.bytes)) = some (some z, 1, bytes)
  one : z.cells.size = 1

/-- the slice value v is the call's own, in a block from B on (or nil), and holds xs -/
def Own (w : World) (B : Nat) (e : TypeId) (v : Value) (xs : List Value) : Prop := w.ownsRow B e 1 v xs.length xs

section
variable {w w' : World} {B : Nat} {e : TypeId} {v v' : Value} {xs ys : List Value}
theorem Own.empty (w : World) (B : Nat) (e : TypeId) : Own w B e (.slice none 0 0) [] := World.ownsRow_nil w B e 1
theorem Own.form (h : Own w B e v xs) : ∃ A c, v = .slice A xs.length c ∧ Lies w w.heap.size A xs ∧ xs.length ≤ c ∧ c ≤ maxLen := by
  rcases h.2 with ⟨rfl, hn⟩ | ⟨g, cap, cur, rfl, _, _, hc, hm, _⟩
  · refine ⟨none, 0, by rw [hn], ?_, by omega, by unfold maxLen; omega⟩
    rw [List.eq_nil_of_length_eq_zero hn]; exact Lies.empty
  · exact ⟨_, cap, rfl, Lies.ofRow h, hc, hm⟩
theorem Own.drawn (h : Own w B e v xs) (n : Nat) : Own (w.drewN n) B e v xs := h
theorem Own.alloc (h : Own w B e v xs) (o : Obj) : Own (w.alloc o) B e v xs := World.ownsRow.alloc h o
theorem Own.keep (h : Own w B e v xs) {row : Option Nat} (hg : w.grownBy w' row) (hr : v.ownBlock = none ∨ v.ownBlock ≠ row) : Own w' B e v xs := World.ownsRow.kept h hg hr
theorem Own.below (h : Own w B e v xs) {C : Nat} (hb : Below C w w') (hC : w.heap.size ≤ C) : Own w' B e v xs := by
  refine World.ownsRow.kept (row := none) h ⟨hb.os, hb.tape, hb.output, hb.size, fun k hk _ => hb.block k (by omega)⟩ ?_
  cases v.ownBlock <;> simp
theorem Own.inside (h : Own w B e v xs) : ∀ g, v.ownBlock = some g → B ≤ g ∧ g < w.heap.size := World.ownsRow.lt h
/-- two rows that share no block -/
def Apart (v v' : Value) : Prop := v.ownBlock = none ∨ v.ownBlock ≠ v'.ownBlock
theorem Apart.nil_left : Apart (.slice none 0 0) v := .inl rfl
theorem Apart.nil_right : Apart v (.slice none 0 0) := by
  cases h : v.ownBlock with
  | none => exact .inl h
  | some g => exact .inr (by rw [h]; simp [Value.ownBlock])
theorem Apart.symm (h : Apart v v') : Apart v' v := by
  unfold Apart at *
  cases h1 : v.ownBlock <;> cases h2 : v'.ownBlock <;> simp_all
  exact fun e => h e.symm
/-- behind an append onto v: the other row is as it was, and they are apart -/
theorem Apart.grow {v1 : Value} (h : Apart v v') (h' : Own w B e v' ys) (hl : v1.ownBlock = v.ownBlock ∨ ∃ g, v1.ownBlock = some g ∧ w.heap.size ≤ g) : Apart v1 v' := by
  rcases hl with hl | ⟨g, hl, hg⟩
  · unfold Apart at *; rw [hl]; exact h
  · refine .inr fun hh => ?_
    have := (h'.inside g (by rw [← hh, hl])).2
    omega
end

section
variable {P : Program} {ops : Array Oper} {rest : List Oper} {o : Oper} {a : Act} {Q : Exit → Act → World → Prop}
/-- append of elements that were written out -/
theorem app_lit {t e : TypeId} {z : Value} {bytes : Nat} (T : SliceOf P t e z bytes) (w0 W : World) (B : Nat) (s x : Operand) (cs : Array Value) (c : Nat) (v : Value) (xs : List Value)
    (hgd : o.guard = none) (ho : o.op = .call { callee := .builtin .append, args := #[s, x], argTypes := #[t, t] })
    (hs : a.eval s = v) (hx : a.eval x = .slice (some ⟨W.heap.size, 0, none⟩) cs.size c)
    (hown : Own W B e v xs) (h1 : ∀ u ∈ cs.toList, u.oneCell' = true) (hb : Below B w0 W) (hB : B ≤ W.heap.size)
    (hlen : xs.length + cs.size ≤ maxLen) (hby : (xs.length + cs.size) * bytes ≤ 140737488355328)
    (h : ∀ v' w', Own w' B e v' (xs ++ cs.toList) → Below B w0 w' → (W.grownBy w' v.ownBlock) → (v'.ownBlock = v.ownBlock ∨ ∃ g, v'.ownBlock = some g ∧ W.heap.size ≤ g) → wpList P ops Q rest (a.put o.dst v') w') :
    wpList P ops Q (o :: rest) a (W.alloc (.cells cs e)) := by
  obtain ⟨i, hi, hz0, hz1, hz2⟩ := info_parts T.elem
  have hc : ∀ j u, cs.toList[j]? = some u → (W.alloc (.cells cs e)).cell? ((⟨W.heap.size, 0, none⟩ : Addr).add j) = some u :=
    World.news_of_block (heap_alloc_new W _)
  refine wpList_append_own_at (W.alloc (.cells cs e)) hgd s x t ho B e i z 1 bytes T.slice hi hz0 hz1 hz2 T.one (by omega) v xs.length xs hs (World.ownsRow.alloc hown _) ⟨W.heap.size, 0, none⟩ cs.size c cs.toList hx (by simp) hc h1 hlen hby (by simp; omega) ?_
  intro v' w' hown' hg _ hl
  refine h v' w' ?_ ?_ ?_ ?_
  · unfold Own; rw [List.length_append, Array.length_toList]; exact hown'
  · exact (hb.alloc hB _).grown hg (by simp; omega) (fun k hk => ((Own.inside hown) k hk).1)
  · exact (World.grownBy_alloc W _ _).trans hg
  · rcases hl with hl | hl
    · exact .inl hl
    · exact .inr ⟨_, hl, by simp⟩
/-- make([]T, 0, n) -/
theorem make_none {t e : TypeId} {z : Value} {bytes : Nat} (T : SliceOf P t e z bytes) (w0 W : World) (B : Nat) (x y : Operand) (kl kc : IntKind) (n : Nat)
    (hgd : o.guard = none) (ho : o.op = .makeSlice t x y) (hx : a.eval x = .int kl 0) (hy : a.eval y = .int kc (n : Int)) (hb : Below B w0 W) (hB : B ≤ W.heap.size) (hn : bytes * n ≤ 281474976710656) (hm : n ≤ maxLen)
    (h : ∀ w', Own w' B e (.slice (some ⟨W.heap.size, 0, none⟩) 0 n) [] → Below B w0 w' → wpList P ops Q rest (a.put o.dst (.slice (some ⟨W.heap.size, 0, none⟩) 0 n)) w') :
    wpList P ops Q (o :: rest) a W := by
  obtain ⟨i, hi, hz0, hz1, hz2⟩ := info_parts T.elem
  refine wpList_make_own W hgd x y t ho B e i z 1 T.slice hi hz0 hz1 kl kc n n hx hy rfl (by rw [hz2]; exact hn) hm hB ?_
  intro w' hown hg
  exact h w' hown (hb.grown hg hB (fun k hk => by cases hk))
end

theorem Own.weaken {w : World} {B B' : Nat} {e : TypeId} {v : Value} {xs : List Value} (h : Own w B e v xs) (hB : B' ≤ B) : Own w B' e v xs := by
  refine ⟨h.1, ?_⟩
  rcases h.2 with h2 | ⟨g, cap, cur, hv, hg, r⟩
  · exact .inl h2
  · exact .inr ⟨g, cap, cur, hv, by omega, r⟩
/-- the other blocks stay while a string's iterator goes on -/
theorem Own.iterAt {w : World} {B k : Nat} {e : TypeId} {v : Value} {xs : List Value} (h : Own w B e v xs) (hk : k < B) (s : ByteArray) (p : Nat) : Own (w.iterAt k s p) B e v xs := by
  refine ⟨h.1, ?_⟩
  rcases h.2 with h2 | ⟨g, cap, cur, hv, hg, hh, r⟩
  · exact .inl h2
  · exact .inr ⟨g, cap, cur, hv, hg, by rw [Lib.iterAt_other _ _ _ _ _ (by omega)]; exact hh, r⟩
theorem iterPos_eq {w : World} {k : Nat} {s : ByteArray} {p : Nat} (h : w.heap[k]? = some (.stringIter s p)) : w.iterPos k = p := by
  simp [World.iterPos, h]
theorem heap_lt {w : World} {k : Nat} {o : Obj} (h : w.heap[k]? = some o) : k < w.heap.size := (Array.getElem?_eq_some_iff.1 h).1

/-- an address that leads to a cell is plain -/
theorem plain_of_cell {w : World} {p : Addr} {u : Value} (h : w.cell? p = some u) : p.spot = none := by
  unfold World.cell? at h
  split at h
  · split at h
    · cases h
    · rename_i hs; simpa using hs
  · cases h
/-- string(b) -/
theorem conv_string {P : Program} {w : World} {B : Nat} {A : Option Addr} {xs : List Int} (src e dst : TypeId) (c : Nat) (hs : P.underlying src = some (.slice e)) (he : P.underlying e = some (.int .u8)) (hd : P.underlying dst = some .string)
    (h : Lies w B A (ints .u8 xs)) : (convert src dst (.slice A xs.length c)).run P w = .ok (.string (strOfNums xs)) w := by
  rcases A with _ | p
  · have : xs = [] := by
      cases xs with
      | nil => rfl
      | cons x xs =>
        obtain ⟨q, hq, _⟩ := h.int (i := 0) (by simp)
        cases hq
    subst this
    rw [run_convert_bytes_nil w src e hs he _ _ dst hd]
    simp [strOfNums]
    rfl
  · rw [run_convert_bytes_string w src dst e _ _ c hs he hd, run_bytesToString w _ _ c xs ?_, foldl_push_bytes]
    · simp [strOfNums, ByteArray.empty, ByteArray.emptyWithCapacity]; rfl
    · have := run_loadCells_list (P := P) w p (xs.map (Value.int .u8)) (fun j v hj => by
        have hj' : j < xs.length := by simpa using (List.getElem?_eq_some_iff.1 hj).1
        obtain ⟨q, hq, _, hc⟩ := h.int hj'
        injection hq with hq
        subst hq
        rw [hc]
        simp [hj'] at hj
        rw [hj])
      simpa using this

theorem Lies.plain {w : World} {B : Nat} {A : Option Addr} {xs : List Value} (h : Lies w B A xs) (hn : 0 < xs.length) :
    ∃ b off, A = some ⟨b, off, none⟩ ∧ b < B ∧ ∀ i (hi : i < xs.length), w.cell? ⟨b, off + i, none⟩ = some xs[i] := by
  obtain ⟨p, rfl, hb, hc⟩ := h (by intro e; subst e; simp at hn)
  have hs := plain_of_cell (hc 0 _ (List.getElem?_eq_getElem hn))
  obtain ⟨b, off, spot⟩ := p
  have hp : spot = none := by
    unfold Addr.add at hs; simpa using hs
  subst hp
  refine ⟨b, off, rfl, hb, fun i hi => ?_⟩
  rw [← hc i _ (List.getElem?_eq_getElem hi)]
  unfold Addr.add
  split
  · rename_i h0; simp [h0]
  · rfl
theorem Lies.plainInts {w : World} {B : Nat} {A : Option Addr} {k : IntKind} {l : List Int} (h : Lies w B A (ints k l)) (hn : 0 < l.length) :
    ∃ b off, A = some ⟨b, off, none⟩ ∧ b < B ∧ ∀ i (hi : i < l.length), w.cell? ⟨b, off + i, none⟩ = some (.int k l[i]) := by
  obtain ⟨b, off, hA, hb, hc⟩ := h.plain (by simpa using hn)
  exact ⟨b, off, hA, hb, fun i hi => by rw [hc i (by simpa using hi)]; simp⟩
end Go.Proofs.Ytpllklikjnndcaa
