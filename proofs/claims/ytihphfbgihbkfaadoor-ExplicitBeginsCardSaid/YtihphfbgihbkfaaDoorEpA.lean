/- Layer 6: the program's walk in memory; last, overflows, Next, push, pop, reset. -/
import Derived.Test.YtihphfbgihbkfaaDoorExC
namespace Go.Proofs.YtihphfbgihbkfaaDoor
open Go.RowKit

section
variable {P : Program} {ops : Array Oper} {rest : List Oper} {o : Oper} {a : Act} {Q : Exit → Act → World → Prop}
/-- append at an operation of a walk, elements of several cells -/
theorem appN_at {t e : TypeId} {z : Value} {size bytes : Nat} (T : SliceOfN P t e z size bytes) (w0 W : World) (B B' : Nat) (s x : Operand) (v : Value) (n m : Nat) (xs ys : List Value) (A : Option Addr) (c : Nat)
    (hgd : o.guard = none) (ho : o.op = .call { callee := .builtin .append, args := #[s, x], argTypes := #[t, t] })
    (hs : a.eval s = v) (hx : a.eval x = .slice A m c)
    (hown : OwnN W B e size v n xs) (hsrc : Lies W B' A ys) (hm : ys.length = m * size) (h1 : ∀ u ∈ ys, u.oneCell' = true) (hb : Below B w0 W) (hB : B ≤ W.heap.size)
    (hlen : n + m ≤ maxLen) (hby : (n + m) * bytes ≤ 140737488355328)
    (h : ∀ v' w', OwnN w' B e size v' (n + m) (xs ++ ys) → Below B w0 w' → W.grownBy w' v.ownBlock → (v'.ownBlock = v.ownBlock ∨ ∃ g, v'.ownBlock = some g ∧ W.heap.size ≤ g) → wpList P ops Q rest (a.put o.dst v') w') : wpList P ops Q (o :: rest) a W :=
  wpList_step fun _ hK => step_appN T w0 W B B' s x v n m xs ys A c hgd ho hs hx hown hsrc hm h1 hb hB hlen hby (fun v' w' h2 h3 h4 h5 => hK _ _ (h v' w' h2 h3 h4 h5))
end
/-- a row behind an append is none of the older ones -/
theorem grown_ne {w : World} {u v : Value} {k : Nat} (he : v.ownBlock = u.ownBlock ∨ ∃ q, v.ownBlock = some q ∧ w.heap.size ≤ q) (hu : u.ownBlock ≠ some k) (hk : k < w.heap.size) : v.ownBlock ≠ some k := by
  rcases he with he | ⟨q, he, hq⟩
  · rw [he]; exact hu
  · rw [he]; intro e; injection e with e; omega
/-- all blocks stay but the walk's own two; a new stack's block is new -/
structure Frame (w w' : World) (g : Nat) (sv sv' : Value) : Prop where
  size : w.heap.size ≤ w'.heap.size
  keep : ∀ k, k < w.heap.size → k ≠ g → sv.ownBlock ≠ some k → w'.heap[k]? = w.heap[k]?
  new : ∀ k, sv'.ownBlock = some k → sv.ownBlock = some k ∨ w.heap.size ≤ k
section
variable {w w' w'' : World} {g : Nat} {sv sv' sv'' : Value}
theorem Frame.below (hb : Below w.heap.size w w') : Frame w w' g sv sv := ⟨hb.size, fun k hk _ _ => hb.block k hk, fun _ h => .inl h⟩
theorem Frame.refl (w : World) (g : Nat) (sv : Value) : Frame w w g sv sv := Frame.below (Below.refl _ _)
theorem Frame.same (hh : w'.heap = w.heap) : Frame w w' g sv sv := ⟨by rw [hh]; exact Nat.le_refl _, fun k _ _ _ => by rw [hh], fun _ h => .inl h⟩
theorem Frame.store (hg : w.grownBy w' (some g)) : Frame w w' g sv sv := ⟨hg.size, fun k hk h1 _ => hg.block k hk (fun e => h1 (Option.some.inj e)), fun _ h => .inl h⟩
theorem Frame.app (hg : w.grownBy w' sv.ownBlock) (he : sv'.ownBlock = sv.ownBlock ∨ ∃ q, sv'.ownBlock = some q ∧ w.heap.size ≤ q) : Frame w w' g sv sv' :=
  ⟨hg.size, fun k hk _ h2 => hg.block k hk (fun e => h2 e.symm), fun k hk => by
    rcases he with he | ⟨q, he, hq⟩
    · exact .inl (he ▸ hk)
    · rw [he] at hk; injection hk with hk; subst hk; exact .inr hq⟩
theorem Frame.trans (h1 : Frame w w' g sv sv') (h2 : Frame w' w'' g sv' sv'') : Frame w w'' g sv sv'' :=
  ⟨Nat.le_trans h1.size h2.size, fun k hk hg hs => (h2.keep k (Nat.lt_of_lt_of_le hk h1.size) hg (fun e => by
      rcases h1.new k e with h | h
      · exact hs h
      · omega)).trans (h1.keep k hk hg hs), fun k hk => by
    rcases h2.new k hk with h | h
    · exact h1.new k h
    · exact .inr (Nat.le_trans h1.size h)⟩
theorem Frame.cell (h : Frame w w' g sv sv') {a j : Nat} (ha : a < w.heap.size) (hg : a ≠ g) (hs : sv.ownBlock ≠ some a) : w'.cell? ⟨a, j, none⟩ = w.cell? ⟨a, j, none⟩ := World.cell?_of_block (h.keep a ha hg hs)
end
/-- the walk's stack and counts -/
structure P6 where
  base : Int
  st : List Ent
  isos : Nat
  embeds : Nat
  valid : Nat
def P6.cells (p : P6) (lsl sv : Value) : List Value := [lsl, .int .i64 p.base, sv, .int .i64 p.isos, .int .i64 p.embeds, .int .i64 p.valid]
/-- the walk p lies behind ⟨g, 0⟩ -/
structure IsP (w : World) (B g : Nat) (p : P6) (lsl sv : Value) : Prop where
  row : OwnN w B 49 1 (.slice (some ⟨g, 0, none⟩) 6 6) 6 (p.cells lsl sv)
  stack : OwnN w B 52 3 sv p.st.length (ents p.st.reverse)
section
variable {w w' : World} {B g : Nat} {p p' : P6} {lsl sv : Value}
theorem IsP.below (h : IsP w B g p lsl sv) {C : Nat} (hb : Below C w w') (hC : w.heap.size ≤ C) : IsP w' B g p lsl sv := ⟨h.row.below hb hC, h.stack.below hb hC⟩
theorem IsP.field (h : IsP w B g p lsl sv) (j : Nat) (hj : j < 6) : w.cell? ⟨g, j, none⟩ = (p.cells lsl sv)[j]? := World.ownsRow.cellAt h.row j (by omega)
theorem IsP.inside (h : IsP w B g p lsl sv) : B ≤ g ∧ g < w.heap.size := h.row.inside g rfl
theorem IsP.le (h : IsP w B g p lsl sv) : B ≤ w.heap.size := by have := h.inside; omega
theorem IsP.far (h : IsP w B g p lsl sv) : sv.ownBlock ≠ some g := fun e1 => by
  rcases h.stack.unlike h.row (by decide) with h2 | h2
  · rw [h2] at e1; cases e1
  · exact h2 e1
theorem IsP.same (h : IsP w B g p lsl sv) (hh : w'.heap = w.heap) : IsP w' B g p lsl sv := ⟨h.row.same hh, h.stack.same hh⟩
theorem IsP.alloc (h : IsP w B g p lsl sv) (o : Obj) : IsP (w.alloc o) B g p lsl sv := ⟨h.row.alloc o, h.stack.alloc o⟩
/-- one field is stored -/
theorem IsP.stored (h : IsP w B g p lsl sv) {j : Nat} {u : Value} (r : OwnN w' B 49 1 (.slice (some ⟨g, 0, none⟩) 6 6) 6 ((p.cells lsl sv).set j u)) (hg : w.grownBy w' (some g))
    (hx : p'.cells lsl sv = (p.cells lsl sv).set j u) (h1 : p'.st = p.st) : IsP w' B g p' lsl sv :=
  ⟨hx ▸ r, by rw [h1]; exact h.stack.keep hg (.inr h.far)⟩
/-- the stack is stored anew -/
theorem IsP.storedStack (_h : IsP w B g p lsl sv) {u : Value} (r : OwnN w' B 49 1 (.slice (some ⟨g, 0, none⟩) 6 6) 6 ((p.cells lsl sv).set 2 u)) (hg : w.grownBy w' (some g))
    (st : List Ent) (ho : OwnN w B 52 3 u st.length (ents st.reverse)) (hu : u.ownBlock ≠ some g) : IsP w' B g { p with st := st } lsl u :=
  ⟨r, ho.keep hg (.inr hu)⟩
end
theorem pentsT : SliceOfN Tryd.prog 47 52 (.agg #[.int .i64 0, .int .i64 0, .bool false]) 3 24 := ⟨by kernel_rfl, by kernel_rfl, rfl, by decide⟩
/-- the walk lies somewhere -/
def HasP (w : World) (B g : Nat) (p : P6) (lsl : Value) : Prop := ∃ sv, IsP w B g p lsl sv
/-- .. and all else stays -/
def Went (w w' : World) (B g : Nat) (p : P6) (lsl sv : Value) : Prop := ∃ sv', IsP w' B g p lsl sv' ∧ Frame w w' g sv sv'
theorem Went.has {w w' : World} {B g : Nat} {p : P6} {lsl sv : Value} (h : Went w w' B g p lsl sv) : HasP w' B g p lsl := by obtain ⟨sv', h, _⟩ := h; exact ⟨sv', h⟩
structure P6.Small (p : P6) : Prop where
  st : p.st.length ≤ 100000
  isos : p.isos ≤ 1000000
  embeds : p.embeds ≤ 1000000
  valid : p.valid ≤ 1000000
theorem pfield0 (a b : Int) (i : Bool) (u : World) : (Instr.field 52 (.agg #[.int .i64 a, .int .i64 b, .bool i]) 0).run Tryd.prog u = .ok (.int .i64 a) u := by kernel_rfl
theorem pfield2 (a b : Int) (i : Bool) (u : World) : (Instr.field 52 (.agg #[.int .i64 a, .int .i64 b, .bool i]) 2).run Tryd.prog u = .ok (.bool i) u := by kernel_rfl

set_option maxHeartbeats 1000000 in
theorem plast_any (w : World) (B g : Nat) (p : P6) (lsl : Value) (e : Ent) (st : List Ent) (hst : p.st = e :: st) (hp : HasP w B g p lsl) (hsm : p.st.length ≤ 1000000) :
    Calls Tryd.prog 23 #[.pointer (some ⟨g, 0, none⟩)] w fun ed w' => ed = .returned (.agg #[.int .i64 e.lev, .int .i64 e.over, .bool e.iso]) ∧ Below w.heap.size w w' := by
  obtain ⟨sv, h⟩ := hp
  have hin := h.inside
  obtain ⟨gs, c, rfl, hnc, hgs, hgl, hcells⟩ := h.stack.block (by rw [hst]; simp)
  have h1 := h.field 2 (by omega)
  simp only [P6.cells, List.getElem?_cons_succ, List.getElem?_cons_zero] at h1
  obtain ⟨n, hn⟩ : ∃ n, st.length = n := ⟨_, rfl⟩
  have hxl : p.st.length = n + 1 := by rw [hst]; simp [hn]
  rw [hxl] at h1 hcells
  have hrev : ents p.st.reverse = ents st.reverse ++ e.cells := by rw [hst, List.reverse_cons, ents_append]; simp [ents]
  have hel : (ents st.reverse).length = n * 3 := by simp [hn]
  have hc0 := hcells (n * 3) (by omega)
  have hc1 := hcells (n * 3 + 1) (by omega)
  have hc2 := hcells (n * 3 + 2) (by omega)
  rw [hrev, List.getElem?_append_right (by omega), hel] at hc0 hc1 hc2
  simp only [Nat.sub_self, Nat.add_sub_cancel_left, Ent.cells, List.getElem?_cons_zero, List.getElem?_cons_succ] at hc0 hc1 hc2
  have hw1 : IntKind.i64.wrap (((n + 1 : Nat) : Int) - 1) = (n : Int) := by rw [IntWalk.i64_in _ (by omega)]; omega
  have hw2 : IntKind.i64.wrap (n : Int) = (n : Int) := IntWalk.i64_in _ (by omega)
  have b0 : (0 : Int) ≤ (n : Int) := by omega
  have b1 : (n : Int) < ((n + 1 : Nat) : Int) := by omega
  have hne : ¬ w.heap.size = g := by omega
  have hne' : ¬ w.heap.size = gs := by omega
  clear hrev hel hcells hxl hn hst
  go_enter Tryd.func23, Tryd.ntmps23
  go_wp2
  go_region
  go_wp2
  (try simp only [Exit.inBlock, Exit.then])
  refine bodyPost_ret (v := .agg #[.int .i64 e.lev, .int .i64 e.over, .bool e.iso]) ?_ rfl ⟨rfl, below_drawn (below_alloc _ _) 1⟩
  exact results_cell_row rfl _ _ w.heap.size 52 _ (0, 0) _ rfl (Go.heap_alloc_new w _) Tryd.underlying52 rfl (by kernel_rfl)

/-- do isolates or embeddings overflow? -/
def overP (p : P6) : Bool := decide (0 < p.isos) || decide (0 < p.embeds)
set_option maxHeartbeats 1000000 in
theorem overflows_any (w : World) (B g : Nat) (p : P6) (lsl : Value) (hp : HasP w B g p lsl) :
    Calls Tryd.prog 41 #[.pointer (some ⟨g, 0, none⟩)] w fun e w' => e = .returned (.bool (overP p)) ∧ w = w' := by
  obtain ⟨sv, h⟩ := hp
  have h2 := h.field 3 (by omega)
  have h3 := h.field 4 (by omega)
  simp only [P6.cells, List.getElem?_cons_succ, List.getElem?_cons_zero] at h2 h3
  clear h
  rcases hA : decide (0 < p.isos) with _ | _
  · rcases hB : decide (0 < p.embeds) with _ | _
    · have hf : overP p = false := by simp [overP, hA, hB]
      rw [hf]
      clear hf
      go_enter Tryd.func41, Tryd.ntmps41
      go_wp2
      go_ret
      exact ⟨rfl, rfl⟩
    · have hf : overP p = true := by simp [overP, hB]
      rw [hf]
      clear hf
      go_enter Tryd.func41, Tryd.ntmps41
      go_wp2
      go_ret
      exact ⟨rfl, rfl⟩
  · have hf : overP p = true := by simp [overP, hA]
    rw [hf]
    clear hf
    go_enter Tryd.func41, Tryd.ntmps41
    go_wp2
    go_ret
    exact ⟨rfl, rfl⟩

set_option maxHeartbeats 1000000 in
theorem pnext_any (k dir : Int) (w : World) : Calls Tryd.prog 14 #[.int .i64 k, .int .i64 dir] w fun e w' => e = .returned (.int .i64 (nextL k dir)) ∧ w = w' := by
  obtain ⟨z, hz⟩ : ∃ z, nextL k dir = z := ⟨_, rfl⟩
  rw [hz]
  rcases h0 : decide (k < 0) with _ | _
  · rcases h1 : decide (k > 125) with _ | _
    · obtain ⟨n, rfl⟩ : ∃ n : Nat, k = n := ⟨k.toNat, by simp at h0; omega⟩
      have hn : n ≤ 125 := by simp at h1; omega
      rcases hd : (dir == 1) with _ | _
      · have hzz : IntKind.i64.wrap (IntKind.i64.wrap ((n : Int) + 2) - (n : Int) % 2) = z := by
          rw [IntWalk.i64_in ((n : Int) + 2) (by omega), IntWalk.i64_in _ (by omega), ← hz, nextL, if_neg (by omega), if_neg (by simpa using hd)]
          split <;> omega
        have hw1 : IntKind.i64.wrap ((n : Int) + 2) = (n : Int) + 2 := IntWalk.i64_in _ (by omega)
        rw [hw1] at hzz
        clear hz
        go_enter Tryd.func14, Tryd.ntmps14
        go_wp2
        go_ret
        exact ⟨rfl, rfl⟩
      · have hzz : IntKind.i64.wrap (IntKind.i64.wrap ((n : Int) + 1) + (n : Int) % 2) = z := by
          rw [IntWalk.i64_in ((n : Int) + 1) (by omega), IntWalk.i64_in _ (by omega), ← hz, nextL, if_neg (by omega), if_pos (by simpa using hd)]
          split <;> omega
        have hw1 : IntKind.i64.wrap ((n : Int) + 1) = (n : Int) + 1 := IntWalk.i64_in _ (by omega)
        rw [hw1] at hzz
        clear hz
        go_enter Tryd.func14, Tryd.ntmps14
        go_wp2
        go_ret
        exact ⟨rfl, rfl⟩
    · have : z = -1 := by rw [← hz, nextL, if_pos (by simp at h1; omega)]
      subst this
      clear hz
      go_enter Tryd.func14, Tryd.ntmps14
      go_wp2
      go_ret
      exact ⟨rfl, rfl⟩
  · have : z = -1 := by rw [← hz, nextL, if_pos (by simp at h0; omega)]
    subst this
    clear hz
    go_enter Tryd.func14, Tryd.ntmps14
    go_wp2
    go_ret
    exact ⟨rfl, rfl⟩

set_option maxHeartbeats 1000000 in
theorem ppop_any (w : World) (B g : Nat) (p : P6) (lsl sv : Value) (e : Ent) (st : List Ent) (hst : p.st = e :: st) (h : IsP w B g p lsl sv) (hsm : p.st.length ≤ 1000000) :
    Calls Tryd.prog 44 #[.pointer (some ⟨g, 0, none⟩)] w fun ed w' => ed = .returned (.tuple #[]) ∧ Went w w' B g { p with st := st } lsl sv ∧ Below B w w' := by
  have hin := h.inside
  obtain ⟨n, hn⟩ : ∃ n, st.length = n := ⟨_, rfl⟩
  have hxl : p.st.length = n + 1 := by rw [hst]; simp [hn]
  obtain ⟨A, c, rfl, hnc, hsh⟩ := h.stack.short (j := n) (by omega)
  have f1 := h.far
  have h1 := h.field 2 (by omega)
  simp only [P6.cells, List.getElem?_cons_succ, List.getElem?_cons_zero] at h1
  have hsv : OwnN w B 52 3 (.slice A n c) st.length (ents st.reverse) := by
    have hr : (ents p.st.reverse).take (n * 3) = ents st.reverse := by
      rw [hst, List.reverse_cons, ents_append, List.take_left' (by simp [hn])]
    rw [hr] at hsh
    rw [hn]; exact hsh
  obtain ⟨gs, hA⟩ : ∃ gs, A = some ⟨gs, 0, none⟩ := by
    obtain ⟨gs, c', hv, _⟩ := h.stack.block (by omega)
    injection hv with hv
    exact ⟨gs, hv⟩
  subst hA
  rw [hxl] at h1 hnc
  have hw1 : IntKind.i64.wrap (((n + 1 : Nat) : Int) - 1) = (n : Int) := by rw [IntWalk.i64_in _ (by omega)]; omega
  have hw2 : IntKind.i64.wrap (n : Int) = (n : Int) := IntWalk.i64_in _ (by omega)
  have b0 : (0 : Int) ≤ (n : Int) := by omega
  have b1 : (n : Int) ≤ (c : Int) := by omega
  have H := Lib.hid h
  have HS := Lib.hid hsv
  have HX := Lib.hid hxl
  have F1 : Hid ((Value.slice (some ⟨gs, 0, none⟩) n c).ownBlock ≠ some g) := Lib.hid f1
  have hcc : ¬ c = 0 := by omega
  clear h hsv hsh f1 hxl hn hst hsm
  go_enter Tryd.func44, Tryd.ntmps44
  go_wp2
  refine wp_region_E (S := fun w' => w'.cell? ⟨g, 2, none⟩ = some (.slice (some ⟨gs, 0, none⟩) (n + 1) c)) [14] (by kernel_rfl) (h1) (fun hHeld hClosed => ?_)
  refine' wpAnyE_take (i := 0) (v := _) rfl (by kernel_rfl) (by kernel_rfl) (by kernel_rfl) (by kernel_rfl) (fun _ _ _ h => h) (Or.inl ⟨by rfl, fun u hu => ?_⟩) hHeld hClosed (fun hNext => ?_)
  rotate_left
  · (try dsimp only at hu)
    go_simp
    try with_reducible rfl
  clear hClosed
  have hClosed := hNext
  clear hNext
  try simp only [Act.put, List.getElem_toArray, List.getElem_cons_zero, List.setIfInBounds_toArray, List.set_cons_zero, List.set_cons_succ]
  refine' wpAnyE_take (i := 1) (v := _) rfl (by kernel_rfl) (by kernel_rfl) (by kernel_rfl) (by kernel_rfl) (fun _ _ _ h => h) (Or.inl ⟨by rfl, fun u hu => ?_⟩) hHeld hClosed (fun hNext => ?_)
  rotate_left
  · (try dsimp only at hu)
    go_simp
    try with_reducible rfl
  clear hClosed
  have hClosed := hNext
  clear hNext
  try simp only [Act.put, List.getElem_toArray, List.getElem_cons_zero, List.getElem_cons_succ, List.setIfInBounds_toArray, List.set_cons_zero, List.set_cons_succ]
  refine' wpAnyE_take (i := 2) (v := _) rfl (by kernel_rfl) (by kernel_rfl) (by kernel_rfl) (by kernel_rfl) (fun _ _ _ h => h) (Or.inl ⟨by rfl, fun u hu => ?_⟩) hHeld hClosed (fun hNext => ?_)
  rotate_left
  · (try dsimp only at hu)
    go_simp
    try with_reducible rfl
  clear hClosed
  have hClosed := hNext
  clear hNext
  try simp only [Act.put, List.getElem_toArray, List.getElem_cons_zero, List.getElem_cons_succ, List.setIfInBounds_toArray, List.set_cons_zero, List.set_cons_succ]
  refine' wpAnyE_take (i := 3) (v := _) rfl (by kernel_rfl) (by kernel_rfl) (by kernel_rfl) (by kernel_rfl) (fun _ _ _ h => h) (Or.inl ⟨by rfl, fun u hu => ?_⟩) hHeld hClosed (fun hNext => ?_)
  rotate_left
  · (try dsimp only at hu)
    go_simp
    try with_reducible rfl
  clear hClosed
  have hClosed := hNext
  clear hNext
  try simp only [Act.put, List.getElem_toArray, List.getElem_cons_zero, List.getElem_cons_succ, List.setIfInBounds_toArray, List.set_cons_zero, List.set_cons_succ]
  refine' wpAnyE_take (i := 4) (v := _) rfl (by kernel_rfl) (by kernel_rfl) (by kernel_rfl) (by kernel_rfl) (fun _ _ _ h => h) (Or.inl ⟨by rfl, fun u hu => ?_⟩) hHeld hClosed (fun hNext => ?_)
  rotate_left
  · (try dsimp only at hu)
    go_simp
    try with_reducible rfl
  clear hClosed
  have hClosed := hNext
  clear hNext
  try simp only [Act.put, List.getElem_toArray, List.getElem_cons_zero, List.getElem_cons_succ, List.setIfInBounds_toArray, List.set_cons_zero, List.set_cons_succ]
  refine' wpAnyE_take (i := 5) (v := _) rfl (by kernel_rfl) (by kernel_rfl) (by kernel_rfl) (by kernel_rfl) (fun _ _ _ h => h) (Or.inl ⟨by rfl, fun u hu => ?_⟩) hHeld hClosed (fun hNext => ?_)
  rotate_left
  · (try dsimp only at hu)
    go_simp
    try with_reducible rfl
  clear hClosed
  have hClosed := hNext
  clear hNext
  try simp only [Act.put, List.getElem_toArray, List.getElem_cons_zero, List.getElem_cons_succ, List.setIfInBounds_toArray, List.set_cons_zero, List.set_cons_succ]
  refine' wpAnyE_take (i := 6) (v := _) rfl (by kernel_rfl) (by kernel_rfl) (by kernel_rfl) (by kernel_rfl) (fun _ _ _ h => h) (Or.inl ⟨by rfl, fun u hu => ?_⟩) hHeld hClosed (fun hNext => ?_)
  rotate_left
  · (try dsimp only at hu)
    go_simp
    try with_reducible rfl
  clear hClosed
  have hClosed := hNext
  clear hNext
  try simp only [Act.put, List.getElem_toArray, List.getElem_cons_zero, List.getElem_cons_succ, List.setIfInBounds_toArray, List.set_cons_zero, List.set_cons_succ]
  refine' wpAnyE_take (i := 7) (v := _) rfl (by kernel_rfl) (by kernel_rfl) (by kernel_rfl) (by kernel_rfl) (fun _ _ _ h => h) (Or.inl ⟨by rfl, fun u hu => ?_⟩) hHeld hClosed (fun hNext => ?_)
  rotate_left
  · (try dsimp only at hu)
    go_simp
    try with_reducible rfl
  clear hClosed
  have hClosed := hNext
  clear hNext
  try simp only [Act.put, List.getElem_toArray, List.getElem_cons_zero, List.getElem_cons_succ, List.setIfInBounds_toArray, List.set_cons_zero, List.set_cons_succ]
  refine' wpAnyE_take (i := 8) (v := _) rfl (by kernel_rfl) (by kernel_rfl) (by kernel_rfl) (by kernel_rfl) (fun _ _ _ h => h) (Or.inl ⟨by rfl, fun u hu => ?_⟩) hHeld hClosed (fun hNext => ?_)
  rotate_left
  · (try dsimp only at hu)
    go_simp
    try with_reducible rfl
  clear hClosed
  have hClosed := hNext
  clear hNext
  try simp only [Act.put, List.getElem_toArray, List.getElem_cons_zero, List.getElem_cons_succ, List.setIfInBounds_toArray, List.set_cons_zero, List.set_cons_succ]
  refine' wpAnyE_take (i := 9) (v := _) rfl (by kernel_rfl) (by kernel_rfl) (by kernel_rfl) (by kernel_rfl) (fun _ _ _ h => h) (Or.inl ⟨by rfl, fun u hu => ?_⟩) hHeld hClosed (fun hNext => ?_)
  rotate_left
  · (try dsimp only at hu)
    go_simp
    try with_reducible rfl
  clear hClosed
  have hClosed := hNext
  clear hNext
  try simp only [Act.put, List.getElem_toArray, List.getElem_cons_zero, List.getElem_cons_succ, List.setIfInBounds_toArray, List.set_cons_zero, List.set_cons_succ]
  refine' wpAnyE_take (i := 10) (v := _) rfl (by kernel_rfl) (by kernel_rfl) (by kernel_rfl) (by kernel_rfl) (fun _ _ _ h => h) (Or.inl ⟨by rfl, fun u hu => ?_⟩) hHeld hClosed (fun hNext => ?_)
  rotate_left
  · (try dsimp only at hu)
    go_simp
    try with_reducible rfl
  clear hClosed
  have hClosed := hNext
  clear hNext
  try simp only [Act.put, List.getElem_toArray, List.getElem_cons_zero, List.getElem_cons_succ, List.setIfInBounds_toArray, List.set_cons_zero, List.set_cons_succ]
  refine' wpAnyE_take (i := 11) (v := _) rfl (by kernel_rfl) (by kernel_rfl) (by kernel_rfl) (by kernel_rfl) (fun _ _ _ h => h) (Or.inl ⟨by rfl, fun u hu => ?_⟩) hHeld hClosed (fun hNext => ?_)
  rotate_left
  · (try dsimp only at hu)
    go_simp
    try with_reducible rfl
  clear hClosed
  have hClosed := hNext
  clear hNext
  try simp only [Act.put, List.getElem_toArray, List.getElem_cons_zero, List.getElem_cons_succ, List.setIfInBounds_toArray, List.set_cons_zero, List.set_cons_succ]
  refine' wpAnyE_take (i := 12) (v := _) rfl (by kernel_rfl) (by kernel_rfl) (by kernel_rfl) (by kernel_rfl) (fun _ _ _ h => h) (Or.inl ⟨by rfl, fun u hu => ?_⟩) hHeld hClosed (fun hNext => ?_)
  rotate_left
  · (try dsimp only at hu)
    go_simp
    try with_reducible rfl
  clear hClosed
  have hClosed := hNext
  clear hNext
  try simp only [Act.put, List.getElem_toArray, List.getElem_cons_zero, List.getElem_cons_succ, List.setIfInBounds_toArray, List.set_cons_zero, List.set_cons_succ]
  refine' wpAnyE_take (i := 13) (v := _) rfl (by kernel_rfl) (by kernel_rfl) (by kernel_rfl) (by kernel_rfl) (fun _ _ _ h => h) (Or.inl ⟨by rfl, fun u hu => ?_⟩) hHeld hClosed (fun hNext => ?_)
  rotate_left
  · (try dsimp only at hu)
    go_simp
    try with_reducible rfl
  clear hClosed
  have hClosed := hNext
  clear hNext
  try simp only [Act.put, List.getElem_toArray, List.getElem_cons_zero, List.getElem_cons_succ, List.setIfInBounds_toArray, List.set_cons_zero, List.set_cons_succ]
  refine wpAnyE_ready (rs := [14]) (by kernel_rfl) (by simp) ?_
  refine AllReadyE.cons rfl (fun K hK => ?_) AllReadyE.nil
  refine step_store w.drew B (.tmp 15) (.tmp 13) g 2 6 (.slice (some ⟨gs, 0, none⟩) n c) _ w.drew rfl rfl rfl (by kernel_rfl) rfl rfl rfl (H.out.row.same rfl) (by simp [P6.cells]) (Below.refl _ _) ?_
  intro w8 r8 b8 g8
  have R8 := Lib.hid r8
  have G8 := Lib.hid g8
  have B8 := Lib.hid b8
  clear r8 g8 b8
  refine (fun hrest => hK.out _ _ (fun hX => (by first | cases hX | simp at hX)) (fun _ => hrest) (fun _ => hrest)) ?_
  replace hClosed := hClosed.step 14 (by kernel_rfl)
  clear hK K
  try simp only [Act.put, List.getElem_toArray, List.getElem_cons_zero, List.getElem_cons_succ, List.setIfInBounds_toArray, List.set_cons_zero, List.set_cons_succ]
  refine wpAnyE_done (by kernel_rfl) ?_ _
  clear hClosed
  go_wp2
  (try simp only [Exit.inBlock, Exit.then])
  refine bodyPost_end (results_none rfl _ _ _) rfl ⟨rfl, ⟨.slice (some ⟨gs, 0, none⟩) n c, ?_, ((Frame.same (w := w) (w' := w.drew) (sv := .slice (some ⟨gs, 0, none⟩) p.st.length c) rfl).trans (Frame.store G8.out)).trans ⟨Nat.le_refl _, fun _ _ _ _ => rfl, fun _ h => .inl h⟩⟩, below_then_drew B8.out⟩
  exact (H.out.same (w' := w.drew) rfl).storedStack R8.out G8.out st (HS.out.same rfl) F1.out

/-- a literal of an entry, its cells -/
theorem ent_lies (u : World) (e : Ent) : Lies (u.alloc (.cells #[.int .i64 e.lev, .int .i64 e.over, .bool e.iso] 52)) (u.heap.size + 1) (some ⟨u.heap.size, 0, none⟩) e.cells :=
  Lies.lit (w := u) (e := 52) #[.int .i64 e.lev, .int .i64 e.over, .bool e.iso]
theorem ents_push (e : Ent) (st : List Ent) : ents (e :: st).reverse = ents st.reverse ++ e.cells := by
  rw [List.reverse_cons, ents_append]; simp [ents]
theorem cells_one (e : Ent) : ∀ u ∈ e.cells, u.oneCell' = true := by simp [Ent.cells, Value.oneCell']

/-- one more, where its level may be -/
def fitP (p : P6) (d : Int) : Bool := match p.st with | [] => false | e :: _ => decide (nextL e.lev d ≤ 125)
def pushP (p : P6) (d o : Int) (i : Bool) : P6 := match p.st with | [] => p | e :: _ => if nextL e.lev d ≤ 125 then { p with st := ⟨nextL e.lev d, o, i⟩ :: p.st } else p
set_option maxRecDepth 20000 in
set_option maxHeartbeats 4000000 in
theorem ppush_any (w : World) (B g : Nat) (p : P6) (lsl sv : Value) (d o : Int) (i : Bool) (e : Ent) (st : List Ent) (hst : p.st = e :: st) (hp : IsP w B g p lsl sv) (hsm : p.st.length ≤ 1000000) :
    Calls Tryd.prog 42 #[.pointer (some ⟨g, 0, none⟩), .int .i64 d, .int .i64 o, .bool i] w fun ed w' => ed = .returned (.bool (fitP p d)) ∧ Went w w' B g (pushP p d o i) lsl sv ∧ Below B w w' := by
  have HP := Lib.hid hp
  have HST := Lib.hid hst
  obtain ⟨n, hn⟩ : ∃ n, nextL e.lev d = n := ⟨_, rfl⟩
  have HN := Lib.hid hn
  have hB : B ≤ w.heap.size := hp.le
  have hf0 := pfield0 e.lev e.over e.iso
  rcases hfit : decide (n > 125) with _ | _
  · have hle : n ≤ 125 := by simp at hfit; omega
    have HF : Hid (fitP p d = true) := Lib.hid (by rw [fitP, hst]; simp [hn, hle])
    have HU : Hid (pushP p d o i = { p with st := ⟨n, o, i⟩ :: p.st }) := Lib.hid (by unfold pushP; rw [hst]; simp only [hn]; rw [if_pos hle])
    rw [HF.out, HU.out]
    clear hp hst hn hle
    go_enter Tryd.func42, Tryd.ntmps42
    go_wp2_with fail
    refine (plast_any w B g p lsl e st HST.out ⟨_, HP.out⟩ hsm).mono ?_
    rintro ed w1 ⟨rfl, b1⟩
    have B1 := Lib.hid (b1.mono hB)
    have X1 : Hid (IsP w1 B g p lsl sv) := Lib.hid (HP.out.below b1 (Nat.le_refl _))
    have FR1 : Hid (Frame w w1 g sv sv) := Lib.hid (Frame.below b1)
    clear b1
    go_wp2_with fail
    refine (pnext_any e.lev d w1).mono ?_
    rintro e wq ⟨rfl, rfl⟩
    rw [HN.out]
    have h := X1.out
    obtain ⟨A, c, rfl, hl, hnc, _⟩ := h.stack.form
    have h1 := h.field 2 (by omega)
    simp only [P6.cells, List.getElem?_cons_succ, List.getElem?_cons_zero] at h1
    have hB1 := h.le
    have H := Lib.hid h
    have HSL : Hid (p.st.length ≤ 1000000) := Lib.hid hsm
    have hin := h.inside
    have h1' : (w1.alloc (.cells #[.int .i64 n, .int .i64 o, .bool i] 52)).cell? ⟨g, 2, none⟩ = some (.slice A p.st.length c) := by
      rw [(below_alloc w1 _).cell (show g < w1.heap.size by omega)]; exact h1
    have HL := Lib.hid (ent_lies w1 ⟨n, o, i⟩)
    have HO := Lib.hid (h.alloc (.cells #[.int .i64 n, .int .i64 o, .bool i] 52))
    have HBA := Lib.hid ((below_alloc w1 (.cells #[.int .i64 n, .int .i64 o, .bool i] 52)).mono hB1)
    clear h hl
    go_wp2_with (first
      | (at_builtin; refine appN_at pentsT _ _ B _ _ _ _ p.st.length 1 (ents p.st.reverse) (Ent.cells ⟨n, o, i⟩) _ _ rfl rfl rfl rfl HO.out.stack HL.out rfl (cells_one _) (Below.refl _ _) HO.out.le (by have := HSL.out; unfold maxLen; omega) (by have := HSL.out; omega) ?_; intro v2 w2 o2 b2 g2 e2; have O2 := Lib.hid o2; obtain ⟨A2, c2, rfl, _, _, _⟩ := o2.form; have B2 := Lib.hid b2; have G2 := Lib.hid g2; have E2 := Lib.hid e2; clear o2 b2 g2 e2)
      | (refine store_cell w2 B _ _ g 2 6 (.slice A2 (p.st.length + 1) c2) _ w2 rfl rfl rfl (by kernel_rfl) rfl rfl rfl (HO.out.row.keep G2.out (.inr (fun e => HO.out.far e.symm))) (by simp [P6.cells]) (Below.refl _ _) ?_; intro w3 r3 b3 g3; have R3 := Lib.hid r3; have G3 := Lib.hid g3; have B3 : Hid (Below B w w3) := Lib.hid (B1.out.trans (HBA.out.trans (B2.out.trans b3))); clear r3 b3 g3)
      | fail)
    go_ret
    refine ⟨rfl, ⟨_, ⟨R3.out, ?_⟩, ((FR1.out.trans (Frame.below (below_alloc w1 _))).trans (Frame.app G2.out E2.out)).trans (Frame.store G3.out)⟩, B3.out⟩
    have := O2.out.keep G3.out (.inr (grown_ne E2.out HO.out.far (by have := HO.out.inside; omega)))
    rw [ents_push]
    exact this
  · have hgt : ¬ n ≤ 125 := by simp at hfit; omega
    have HF : Hid (fitP p d = false) := Lib.hid (by rw [fitP, hst]; simp [hn]; omega)
    have HU : Hid (pushP p d o i = p) := Lib.hid (by unfold pushP; rw [hst]; simp only [hn]; rw [if_neg hgt])
    rw [HF.out, HU.out]
    clear hp hst hn hgt
    go_enter Tryd.func42, Tryd.ntmps42
    go_wp2_with fail
    refine (plast_any w B g p lsl e st HST.out ⟨_, HP.out⟩ hsm).mono ?_
    rintro ed w1 ⟨rfl, b1⟩
    have B1 := Lib.hid (b1.mono hB)
    have X1 : Hid (IsP w1 B g p lsl sv) := Lib.hid (HP.out.below b1 (Nat.le_refl _))
    have FR1 : Hid (Frame w w1 g sv sv) := Lib.hid (Frame.below b1)
    clear b1
    go_wp2_with fail
    refine (pnext_any e.lev d w1).mono ?_
    rintro e wq ⟨rfl, rfl⟩
    rw [HN.out]
    go_wp2_with fail
    go_ret
    exact ⟨rfl, ⟨_, X1.out, FR1.out⟩, B1.out⟩
end Go.Proofs.YtihphfbgihbkfaaDoor
