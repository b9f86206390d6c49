/- Shared texts, shaken for one claim. -/
import Derived.Test.YtcbaahlahohfmaaGreatDoorZA3
namespace Go.Proofs.YtcbaahlahohfmaaGreatDoor
open Go.RowKit
theorem grown_ne {w : World} {u v : Value} {k : Nat} (he : v.ownBlock = u.ownBlock ∨ ∃ q, v.ownBlock = some q ∧ w.heap.size ≤ q) (hu : u.ownBlock ≠ some k) (hk : k < w.heap.size) : v.ownBlock ≠ some k := by
 rcases he with he | ⟨q, he, hq⟩
 ·rw [he]; exact hu
 ·rw [he]; intro e; injection e with e; omega
structure Frame (w w' : World) (g : Nat) (sv sv' : Value) : Prop where
 size : w.heap.size ≤ w'.heap.size
 keep : ∀ k, k < w.heap.size → k ≠ g → sv.ownBlock ≠ some k → w'.heap[k]? = w.heap[k]?
 new : ∀ k, sv'.ownBlock = some k → sv.ownBlock = some k ∨ w.heap.size ≤ k
section
variable {w w' w'' : World} {g : Nat} {sv sv' sv'' : Value}
theorem Frame.below (hb : Below w.heap.size w w') : Frame w w' g sv sv := ⟨hb.size, fun k hk _ _ => hb.block k hk, fun _ h => .inl h⟩
theorem Frame.refl (w : World) (g : Nat) (sv : Value) : Frame w w g sv sv := Frame.below (Below.refl _ _)
theorem Frame.same (hh : w'.heap = w.heap) : Frame w w' g sv sv := ⟨by rw [hh]; exact Nat.le_refl _, fun k _ _ _ => by rw [hh], fun _ h => .inl h⟩
theorem Frame.store (hg : w.grownBy w' (some g)) : Frame w w' g sv sv := ⟨hg.size, fun k hk h1 _ => hg.block k hk (fun e => h1 (Option.some.inj e)), fun _ h => .inl h⟩
theorem Frame.app (hg : w.grownBy w' sv.ownBlock) (he : sv'.ownBlock = sv.ownBlock ∨ ∃ q, sv'.ownBlock = some q ∧ w.heap.size ≤ q) : Frame w w' g sv sv' :=
 ⟨hg.size, fun k hk _ h2 => hg.block k hk (fun e => h2 e.symm), fun k hk => by
  rcases he with he | ⟨q, he, hq⟩
  ·exact .inl (he ▸ hk)
  ·rw [he] at hk; injection hk with hk; subst hk; exact .inr hq⟩
theorem Frame.trans (h1 : Frame w w' g sv sv') (h2 : Frame w' w'' g sv' sv'') : Frame w w'' g sv sv'' :=
 ⟨Nat.le_trans h1.size h2.size, fun k hk hg hs => (h2.keep k (Nat.lt_of_lt_of_le hk h1.size) hg (fun e => by
  rcases h1.new k e with h | h
  ·exact hs h
  ·omega)).trans (h1.keep k hk hg hs), fun k hk => by
  rcases h2.new k hk with h | h
  ·exact h1.new k h
  ·exact .inr (Nat.le_trans h1.size h)⟩
theorem Frame.cell (h : Frame w w' g sv sv') {a j : Nat} (ha : a < w.heap.size) (hg : a ≠ g) (hs : sv.ownBlock ≠ some a) : w'.cell? ⟨a, j, none⟩ = w.cell? ⟨a, j, none⟩ := World.cell?_of_block (h.keep a ha hg hs)
end
structure P6 where
 base : Int
 st : List Ent
 isos : Nat
 embeds : Nat
 valid : Nat
def P6.cells (p : P6) (lsl sv : Value) : List Value := [lsl, .int .i64 p.base, sv, .int .i64 p.isos, .int .i64 p.embeds, .int .i64 p.valid]
structure IsP (w : World) (B g : Nat) (p : P6) (lsl sv : Value) : Prop where
 row : OwnN w B 86 1 (.slice (some ⟨g, 0, none⟩) 6 6) 6 (p.cells lsl sv)
 stack : OwnN w B 88 3 sv p.st.length (ents p.st.reverse)
section
variable {w w' : World} {B g : Nat} {p p' : P6} {lsl sv : Value}
theorem IsP.below (h : IsP w B g p lsl sv) {C : Nat} (hb : Below C w w') (hC : w.heap.size ≤ C) : IsP w' B g p lsl sv := ⟨h.row.below hb hC, h.stack.below hb hC⟩
theorem IsP.field (h : IsP w B g p lsl sv) (j : Nat) (hj : j < 6) : w.cell? ⟨g, j, none⟩ = (p.cells lsl sv)[j]? := World.ownsRow.cellAt h.row j (by omega)
theorem IsP.inside (h : IsP w B g p lsl sv) : B ≤ g ∧ g < w.heap.size := h.row.inside g rfl
theorem IsP.le (h : IsP w B g p lsl sv) : B ≤ w.heap.size := by have := h.inside; omega
theorem IsP.far (h : IsP w B g p lsl sv) : sv.ownBlock ≠ some g := fun e1 => by
 rcases h.stack.unlike h.row (by decide) with h2 | h2
 ·rw [h2] at e1; cases e1
 ·exact h2 e1
theorem IsP.same (h : IsP w B g p lsl sv) (hh : w'.heap = w.heap) : IsP w' B g p lsl sv := ⟨h.row.same hh, h.stack.same hh⟩
theorem IsP.alloc (h : IsP w B g p lsl sv) (o : Obj) : IsP (w.alloc o) B g p lsl sv := ⟨h.row.alloc o, h.stack.alloc o⟩
theorem IsP.stored (h : IsP w B g p lsl sv) {j : Nat} {u : Value} (r : OwnN w' B 86 1 (.slice (some ⟨g, 0, none⟩) 6 6) 6 ((p.cells lsl sv).set j u)) (hg : w.grownBy w' (some g))
 (hx : p'.cells lsl sv = (p.cells lsl sv).set j u) (h1 : p'.st = p.st) : IsP w' B g p' lsl sv :=
 ⟨hx ▸ r, by rw [h1]; exact h.stack.keep hg (.inr h.far)⟩
theorem IsP.storedStack (_h : IsP w B g p lsl sv) {u : Value} (r : OwnN w' B 86 1 (.slice (some ⟨g, 0, none⟩) 6 6) 6 ((p.cells lsl sv).set 2 u)) (hg : w.grownBy w' (some g))
 (st : List Ent) (ho : OwnN w B 88 3 u st.length (ents st.reverse)) (hu : u.ownBlock ≠ some g) : IsP w' B g { p with st := st } lsl u :=
 ⟨r, ho.keep hg (.inr hu)⟩
end
theorem pentsT : SliceOfN Tryz.prog 84 88 (.agg #[.int .i64 0, .int .i64 0, .bool false]) 3 24 := ⟨by kernel_rfl, by kernel_rfl, rfl, by decide⟩
def HasP (w : World) (B g : Nat) (p : P6) (lsl : Value) : Prop := ∃ sv, IsP w B g p lsl sv
def Went (w w' : World) (B g : Nat) (p : P6) (lsl sv : Value) : Prop := ∃ sv', IsP w' B g p lsl sv' ∧ Frame w w' g sv sv'
theorem Went.has {w w' : World} {B g : Nat} {p : P6} {lsl sv : Value} (h : Went w w' B g p lsl sv) : HasP w' B g p lsl := by obtain ⟨sv', h, _⟩ := h; exact ⟨sv', h⟩
structure P6.Small (p : P6) : Prop where
 st : p.st.length ≤ 100000
 isos : p.isos ≤ 1000000
 embeds : p.embeds ≤ 1000000
 valid : p.valid ≤ 1000000
theorem pfield0 (a b : Int) (i : Bool) (u : World) : (Instr.field 88 (.agg #[.int .i64 a, .int .i64 b, .bool i]) 0).run Tryz.prog u = .ok (.int .i64 a) u := by kernel_rfl
theorem pfield2 (a b : Int) (i : Bool) (u : World) : (Instr.field 88 (.agg #[.int .i64 a, .int .i64 b, .bool i]) 2).run Tryz.prog u = .ok (.bool i) u := by kernel_rfl
set_option maxRecDepth 20000 in
set_option maxHeartbeats 1000000 in
theorem plast_any (w : World) (B g : Nat) (p : P6) (lsl : Value) (e : Ent) (st : List Ent) (hst : p.st = e :: st) (hp : HasP w B g p lsl) (hsm : p.st.length ≤ 1000000) :
 Calls Tryz.prog 81 #[.pointer (some ⟨g, 0, none⟩)] w fun ed w' => ed = .returned (.agg #[.int .i64 e.lev, .int .i64 e.over, .bool e.iso]) ∧ Below w.heap.size w w' := by
 obtain ⟨sv, h⟩ := hp
 have hin := h.inside
 obtain ⟨gs, c, rfl, hnc, hgs, hgl, hcells⟩ := h.stack.block (by rw [hst]; simp)
 have h1 := h.field 2 (by omega)
 simp only [P6.cells, List.getElem?_cons_succ, List.getElem?_cons_zero] at h1
 obtain ⟨n, hn⟩ : ∃ n, st.length = n := ⟨_, rfl⟩
 have hxl : p.st.length = n + 1 := by rw [hst]; simp [hn]
 rw [hxl] at h1 hcells
 have hrev : ents p.st.reverse = ents st.reverse ++ e.cells := by rw [hst, List.reverse_cons, ents_append]; simp [ents]
 have hel : (ents st.reverse).length = n * 3 := by simp [hn]
 have hc0 := hcells (n * 3) (by omega)
 have hc1 := hcells (n * 3 + 1) (by omega)
 have hc2 := hcells (n * 3 + 2) (by omega)
 rw [hrev, List.getElem?_append_right (by omega), hel] at hc0 hc1 hc2
 simp only [Nat.sub_self, Nat.add_sub_cancel_left, Ent.cells, List.getElem?_cons_zero, List.getElem?_cons_succ] at hc0 hc1 hc2
 have hw1 : IntKind.i64.wrap (((n + 1 : Nat) : Int) - 1) = (n : Int) := by rw [IntWalk.i64_in _ (by omega)]; omega
 have hw2 : IntKind.i64.wrap (n : Int) = (n : Int) := IntWalk.i64_in _ (by omega)
 have b0 : (0 : Int) ≤ (n : Int) := by omega
 have b1 : (n : Int) < ((n + 1 : Nat) : Int) := by omega
 have hne : ¬ w.heap.size = g := by omega
 have hne' : ¬ w.heap.size = gs := by omega
 clear hrev hel hcells hxl hn hst
 go_enter Tryz.func81, Tryz.ntmps81
 go_wp2
 go_region
 go_wp2
 (try simp only [Exit.inBlock, Exit.then])
 refine bodyPost_ret (v := .agg #[.int .i64 e.lev, .int .i64 e.over, .bool e.iso]) ?_ rfl ⟨rfl, below_drawn (below_alloc _ _) 1⟩
 exact results_cell_row rfl _ _ w.heap.size 88 _ (0, 0) _ rfl (Go.heap_alloc_new w _) Tryz.underlying88 rfl (by kernel_rfl)
def overP (p : P6) : Bool := decide (0 < p.isos) || decide (0 < p.embeds)
set_option maxRecDepth 20000 in
set_option maxHeartbeats 1000000 in
theorem overflows_any (w : World) (B g : Nat) (p : P6) (lsl : Value) (hp : HasP w B g p lsl) :
 Calls Tryz.prog 127 #[.pointer (some ⟨g, 0, none⟩)] w fun e w' => e = .returned (.bool (overP p)) ∧ w = w' := by
 obtain ⟨sv, h⟩ := hp
 have h2 := h.field 3 (by omega)
 have h3 := h.field 4 (by omega)
 simp only [P6.cells, List.getElem?_cons_succ, List.getElem?_cons_zero] at h2 h3
 clear h
 rcases hA : decide (0 < p.isos) with _ | _
 ·rcases hB : decide (0 < p.embeds) with _ | _
  ·have hf : overP p = false := by simp [overP, hA, hB]
   rw [hf]
   clear hf
   go_enter Tryz.func127, Tryz.ntmps127
   go_wp2
   go_ret
   exact ⟨rfl, rfl⟩
  ·have hf : overP p = true := by simp [overP, hB]
   rw [hf]
   clear hf
   go_enter Tryz.func127, Tryz.ntmps127
   go_wp2
   go_ret
   exact ⟨rfl, rfl⟩
 ·have hf : overP p = true := by simp [overP, hA]
  rw [hf]
  clear hf
  go_enter Tryz.func127, Tryz.ntmps127
  go_wp2
  go_ret
  exact ⟨rfl, rfl⟩
set_option maxRecDepth 20000 in
set_option maxHeartbeats 1000000 in
theorem pnext_any (k dir : Int) (w : World) : Calls Tryz.prog 159 #[.int .i64 k, .int .i64 dir] w fun e w' => e = .returned (.int .i64 (nextL k dir)) ∧ w = w' := by
 obtain ⟨z, hz⟩ : ∃ z, nextL k dir = z := ⟨_, rfl⟩
 rw [hz]
 rcases h0 : decide (k < 0) with _ | _
 ·rcases h1 : decide (k > 125) with _ | _
  ·obtain ⟨n, rfl⟩ : ∃ n : Nat, k = n := ⟨k.toNat, by simp at h0; omega⟩
   have hn : n ≤ 125 := by simp at h1; omega
   rcases hd : (dir == 1) with _ | _
   ·have hzz : IntKind.i64.wrap (IntKind.i64.wrap ((n : Int) + 2) - (n : Int) % 2) = z := by
     rw [IntWalk.i64_in ((n : Int) + 2) (by omega), IntWalk.i64_in _ (by omega), ← hz, nextL, if_neg (by omega), if_neg (by simpa using hd)]
     split <;> omega
    have hw1 : IntKind.i64.wrap ((n : Int) + 2) = (n : Int) + 2 := IntWalk.i64_in _ (by omega)
    rw [hw1] at hzz
    clear hz
    go_enter Tryz.func159, Tryz.ntmps159
    go_wp2
    go_ret
    exact ⟨rfl, rfl⟩
   ·have hzz : IntKind.i64.wrap (IntKind.i64.wrap ((n : Int) + 1) + (n : Int) % 2) = z := by
     rw [IntWalk.i64_in ((n : Int) + 1) (by omega), IntWalk.i64_in _ (by omega), ← hz, nextL, if_neg (by omega), if_pos (by simpa using hd)]
     split <;> omega
    have hw1 : IntKind.i64.wrap ((n : Int) + 1) = (n : Int) + 1 := IntWalk.i64_in _ (by omega)
    rw [hw1] at hzz
    clear hz
    go_enter Tryz.func159, Tryz.ntmps159
    go_wp2
    go_ret
    exact ⟨rfl, rfl⟩
  ·have : z = -1 := by rw [← hz, nextL, if_pos (by simp at h1; omega)]
   subst this
   clear hz
   go_enter Tryz.func159, Tryz.ntmps159
   go_wp2
   go_ret
   exact ⟨rfl, rfl⟩
 ·have : z = -1 := by rw [← hz, nextL, if_pos (by simp at h0; omega)]
  subst this
  clear hz
  go_enter Tryz.func159, Tryz.ntmps159
  go_wp2
  go_ret
  exact ⟨rfl, rfl⟩
set_option maxRecDepth 20000 in
set_option maxHeartbeats 1000000 in
theorem ppop_any (w : World) (B g : Nat) (p : P6) (lsl sv : Value) (e : Ent) (st : List Ent) (hst : p.st = e :: st) (h : IsP w B g p lsl sv) (hsm : p.st.length ≤ 1000000) :
 Calls Tryz.prog 130 #[.pointer (some ⟨g, 0, none⟩)] w fun ed w' => ed = .returned (.tuple #[]) ∧ Went w w' B g { p with st := st } lsl sv ∧ Below B w w' := by
 have hin := h.inside
 obtain ⟨n, hn⟩ : ∃ n, st.length = n := ⟨_, rfl⟩
 have hxl : p.st.length = n + 1 := by rw [hst]; simp [hn]
 obtain ⟨A, c, rfl, hnc, hsh⟩ := h.stack.short (j := n) (by omega)
 have f1 := h.far
 have h1 := h.field 2 (by omega)
 simp only [P6.cells, List.getElem?_cons_succ, List.getElem?_cons_zero] at h1
 have hsv : OwnN w B 88 3 (.slice A n c) st.length (ents st.reverse) := by
  have hr : (ents p.st.reverse).take (n * 3) = ents st.reverse := by
   rw [hst, List.reverse_cons, ents_append, List.take_left' (by simp [hn])]
  rw [hr] at hsh
  rw [hn]; exact hsh
 obtain ⟨gs, hA⟩ : ∃ gs, A = some ⟨gs, 0, none⟩ := by
  obtain ⟨gs, c', hv, _⟩ := h.stack.block (by omega)
  injection hv with hv
  exact ⟨gs, hv⟩
 subst hA
 rw [hxl] at h1 hnc
 have hw1 : IntKind.i64.wrap (((n + 1 : Nat) : Int) - 1) = (n : Int) := by rw [IntWalk.i64_in _ (by omega)]; omega
 have hw2 : IntKind.i64.wrap (n : Int) = (n : Int) := IntWalk.i64_in _ (by omega)
 have b0 : (0 : Int) ≤ (n : Int) := by omega
 have b1 : (n : Int) ≤ (c : Int) := by omega
 have H := Lib.hid h
 have HS := Lib.hid hsv
 have HX := Lib.hid hxl
 have F1 : Hid ((Value.slice (some ⟨gs, 0, none⟩) n c).ownBlock ≠ some g) := Lib.hid f1
 have hcc : ¬ c = 0 := by omega
 clear h hsv hsh f1 hxl hn hst hsm
 go_enter Tryz.func130, Tryz.ntmps130
 go_wp2
 refine wp_region_E (S := fun w' => w'.cell? ⟨g, 2, none⟩ = some (.slice (some ⟨gs, 0, none⟩) (n + 1) c)) [14] (by kernel_rfl) (h1) (fun hHeld hZ => ?_)
 refine' eY 0 hHeld hZ fun hZ => ?_
 try simp only [Act.put,ZA,ZB,ZD,ZE,ZF]
 refine' eY 1 hHeld hZ fun hZ => ?_
 try simp only [Act.put,ZA,ZB,ZC,ZD,ZE,ZF]
 refine' eY 2 hHeld hZ fun hZ => ?_
 try simp only [Act.put,ZA,ZB,ZC,ZD,ZE,ZF]
 refine' eY 3 hHeld hZ fun hZ => ?_
 try simp only [Act.put,ZA,ZB,ZC,ZD,ZE,ZF]
 refine' eY 4 hHeld hZ fun hZ => ?_
 try simp only [Act.put,ZA,ZB,ZC,ZD,ZE,ZF]
 refine' eY 5 hHeld hZ fun hZ => ?_
 try simp only [Act.put,ZA,ZB,ZC,ZD,ZE,ZF]
 refine' eY 6 hHeld hZ fun hZ => ?_
 try simp only [Act.put,ZA,ZB,ZC,ZD,ZE,ZF]
 refine' eY 7 hHeld hZ fun hZ => ?_
 try simp only [Act.put,ZA,ZB,ZC,ZD,ZE,ZF]
 refine' eY 8 hHeld hZ fun hZ => ?_
 try simp only [Act.put,ZA,ZB,ZC,ZD,ZE,ZF]
 refine' eY 9 hHeld hZ fun hZ => ?_
 try simp only [Act.put,ZA,ZB,ZC,ZD,ZE,ZF]
 refine' eY 10 hHeld hZ fun hZ => ?_
 try simp only [Act.put,ZA,ZB,ZC,ZD,ZE,ZF]
 refine' eY 11 hHeld hZ fun hZ => ?_
 try simp only [Act.put,ZA,ZB,ZC,ZD,ZE,ZF]
 refine' eY 12 hHeld hZ fun hZ => ?_
 try simp only [Act.put,ZA,ZB,ZC,ZD,ZE,ZF]
 refine' eY 13 hHeld hZ fun hZ => ?_
 try simp only [Act.put,ZA,ZB,ZC,ZD,ZE,ZF]
 refine eA 14 fun K hK => ?_
 refine step_store w.drew B (.tmp 15) (.tmp 13) g 2 6 (.slice (some ⟨gs, 0, none⟩) n c) _ w.drew rfl rfl rfl (by kernel_rfl) rfl rfl rfl (H.out.row.same rfl) (by simp [P6.cells]) (Below.refl _ _) ?_
 intro w8 r8 b8 g8
 have R8 := Lib.hid r8
 have G8 := Lib.hid g8
 have B8 := Lib.hid b8
 clear r8 g8 b8
 refine eE hK hZ fun hZ => ?_
 clear hK K
 try simp only [Act.put,ZA,ZB,ZC,ZD,ZE,ZF]
 refine wpAnyE_done (by kernel_rfl) ?_ _
 clear hZ
 go_wp2
 (try simp only [Exit.inBlock, Exit.then])
 refine bodyPost_end (results_none rfl _ _ _) rfl ⟨rfl, ⟨.slice (some ⟨gs, 0, none⟩) n c, ?_, ((Frame.same (w := w) (w' := w.drew) (sv := .slice (some ⟨gs, 0, none⟩) p.st.length c) rfl).trans (Frame.store G8.out)).trans ⟨Nat.le_refl _, fun _ _ _ _ => rfl, fun _ h => .inl h⟩⟩, below_then_drew B8.out⟩
 exact (H.out.same (w' := w.drew) rfl).storedStack R8.out G8.out st (HS.out.same rfl) F1.out
theorem ent_lies (u : World) (e : Ent) : Lies (u.alloc (.cells #[.int .i64 e.lev, .int .i64 e.over, .bool e.iso] 88)) (u.heap.size + 1) (some ⟨u.heap.size, 0, none⟩) e.cells :=
 Lies.lit (w := u) (e := 88) #[.int .i64 e.lev, .int .i64 e.over, .bool e.iso]
theorem ents_push (e : Ent) (st : List Ent) : ents (e :: st).reverse = ents st.reverse ++ e.cells := by
 rw [List.reverse_cons, ents_append]; simp [ents]
theorem cells_one (e : Ent) : ∀ u ∈ e.cells, u.oneCell' = true := by simp [Ent.cells, Value.oneCell']
def fitP (p : P6) (d : Int) : Bool := match p.st with | [] => false | e :: _ => decide (nextL e.lev d ≤ 125)
def pushP (p : P6) (d o : Int) (i : Bool) : P6 := match p.st with | [] => p | e :: _ => if nextL e.lev d ≤ 125 then { p with st := ⟨nextL e.lev d, o, i⟩ :: p.st } else p
set_option maxRecDepth 20000 in
set_option maxHeartbeats 4000000 in
theorem ppush_any (w : World) (B g : Nat) (p : P6) (lsl sv : Value) (d o : Int) (i : Bool) (e : Ent) (st : List Ent) (hst : p.st = e :: st) (hp : IsP w B g p lsl sv) (hsm : p.st.length ≤ 1000000) :
 Calls Tryz.prog 128 #[.pointer (some ⟨g, 0, none⟩), .int .i64 d, .int .i64 o, .bool i] w fun ed w' => ed = .returned (.bool (fitP p d)) ∧ Went w w' B g (pushP p d o i) lsl sv ∧ Below B w w' := by
 have HP := Lib.hid hp
 have HST := Lib.hid hst
 obtain ⟨n, hn⟩ : ∃ n, nextL e.lev d = n := ⟨_, rfl⟩
 have HN := Lib.hid hn
 have hB : B ≤ w.heap.size := hp.le
 have hf0 := pfield0 e.lev e.over e.iso
 rcases hfit : decide (n > 125) with _ | _
 ·have hle : n ≤ 125 := by simp at hfit; omega
  have HF : Hid (fitP p d = true) := Lib.hid (by rw [fitP, hst]; simp [hn, hle])
  have HU : Hid (pushP p d o i = { p with st := ⟨n, o, i⟩ :: p.st }) := Lib.hid (by unfold pushP; rw [hst]; simp only [hn]; rw [if_pos hle])
  rw [HF.out, HU.out]
  clear hp hst hn hle
  go_enter Tryz.func128, Tryz.ntmps128
  go_wp2_with fail
  refine (plast_any w B g p lsl e st HST.out ⟨_, HP.out⟩ hsm).mono ?_
  rintro ed w1 ⟨rfl, b1⟩
  have B1 := Lib.hid (b1.mono hB)
  have X1 : Hid (IsP w1 B g p lsl sv) := Lib.hid (HP.out.below b1 (Nat.le_refl _))
  have FR1 : Hid (Frame w w1 g sv sv) := Lib.hid (Frame.below b1)
  clear b1
  go_wp2_with fail
  refine (pnext_any e.lev d w1).mono ?_
  rintro e wq ⟨rfl, rfl⟩
  rw [HN.out]
  have h := X1.out
  obtain ⟨A, c, rfl, hl, hnc, _⟩ := h.stack.form
  have h1 := h.field 2 (by omega)
  simp only [P6.cells, List.getElem?_cons_succ, List.getElem?_cons_zero] at h1
  have hB1 := h.le
  have H := Lib.hid h
  have HSL : Hid (p.st.length ≤ 1000000) := Lib.hid hsm
  have hin := h.inside
  have h1' : (w1.alloc (.cells #[.int .i64 n, .int .i64 o, .bool i] 88)).cell? ⟨g, 2, none⟩ = some (.slice A p.st.length c) := by
   rw [(below_alloc w1 _).cell (show g < w1.heap.size by omega)]; exact h1
  have HL := Lib.hid (ent_lies w1 ⟨n, o, i⟩)
  have HO := Lib.hid (h.alloc (.cells #[.int .i64 n, .int .i64 o, .bool i] 88))
  have HBA := Lib.hid ((below_alloc w1 (.cells #[.int .i64 n, .int .i64 o, .bool i] 88)).mono hB1)
  clear h hl
  go_wp2_with (first
   | (at_builtin; refine appN_at pentsT _ _ B _ _ _ _ p.st.length 1 (ents p.st.reverse) (Ent.cells ⟨n, o, i⟩) _ _ rfl rfl rfl rfl HO.out.stack HL.out rfl (cells_one _) (Below.refl _ _) HO.out.le (by have := HSL.out; unfold maxLen; omega) (by have := HSL.out; omega) ?_; intro v2 w2 o2 b2 g2 e2; have O2 := Lib.hid o2; obtain ⟨A2, c2, rfl, _, _, _⟩ := o2.form; have B2 := Lib.hid b2; have G2 := Lib.hid g2; have E2 := Lib.hid e2; clear o2 b2 g2 e2)
   | (refine store_cell w2 B _ _ g 2 6 (.slice A2 (p.st.length + 1) c2) _ w2 rfl rfl rfl (by kernel_rfl) rfl rfl rfl (HO.out.row.keep G2.out (.inr (fun e => HO.out.far e.symm))) (by simp [P6.cells]) (Below.refl _ _) ?_; intro w3 r3 b3 g3; have R3 := Lib.hid r3; have G3 := Lib.hid g3; have B3 : Hid (Below B w w3) := Lib.hid (B1.out.trans (HBA.out.trans (B2.out.trans b3))); clear r3 b3 g3)
   | fail)
  go_ret
  refine ⟨rfl, ⟨_, ⟨R3.out, ?_⟩, ((FR1.out.trans (Frame.below (below_alloc w1 _))).trans (Frame.app G2.out E2.out)).trans (Frame.store G3.out)⟩, B3.out⟩
  have := O2.out.keep G3.out (.inr (grown_ne E2.out HO.out.far (by have := HO.out.inside; omega)))
  rw [ents_push]
  exact this
 ·have hgt : ¬ n ≤ 125 := by simp at hfit; omega
  have HF : Hid (fitP p d = false) := Lib.hid (by rw [fitP, hst]; simp [hn]; omega)
  have HU : Hid (pushP p d o i = p) := Lib.hid (by unfold pushP; rw [hst]; simp only [hn]; rw [if_neg hgt])
  rw [HF.out, HU.out]
  clear hp hst hn hgt
  go_enter Tryz.func128, Tryz.ntmps128
  go_wp2_with fail
  refine (plast_any w B g p lsl e st HST.out ⟨_, HP.out⟩ hsm).mono ?_
  rintro ed w1 ⟨rfl, b1⟩
  have B1 := Lib.hid (b1.mono hB)
  have X1 : Hid (IsP w1 B g p lsl sv) := Lib.hid (HP.out.below b1 (Nat.le_refl _))
  have FR1 : Hid (Frame w w1 g sv sv) := Lib.hid (Frame.below b1)
  clear b1
  go_wp2_with fail
  refine (pnext_any e.lev d w1).mono ?_
  rintro e wq ⟨rfl, rfl⟩
  rw [HN.out]
  go_wp2_with fail
  go_ret
  exact ⟨rfl, ⟨_, X1.out, FR1.out⟩, B1.out⟩
end Go.Proofs.YtcbaahlahohfmaaGreatDoor
namespace Go.Proofs.YtcbaahlahohfmaaGreatDoor
open Go.RowKit
section
variable {w w' w'' : World} {B g : Nat} {x : X6} {lsl sv lv cv v : Value} {z : Int}
theorem IsX.rowL (h : IsX w B g x lsl sv lv cv) (hg : w.grownBy w' lv.ownBlock) : OwnN w' B 72 1 (.slice (some ⟨g, 0, none⟩) 9 9) 9 (x.cells sv lv cv lsl) := h.row.keep hg (.inr fun e => h.far.2.1 e.symm)
theorem IsX.rowC (h : IsX w B g x lsl sv lv cv) (hg : w.grownBy w' cv.ownBlock) : OwnN w' B 72 1 (.slice (some ⟨g, 0, none⟩) 9 9) 9 (x.cells sv lv cv lsl) := h.row.keep hg (.inr fun e => h.far.2.2 e.symm)
theorem grow_ne {u : Value} {k : Nat} (he : v.ownBlock = u.ownBlock ∨ ∃ q, v.ownBlock = some q ∧ w.heap.size ≤ q) (hu : u.ownBlock ≠ some k) (hk : k < w.heap.size) : v.ownBlock ≠ some k := by
 rcases he with he | ⟨q, he, hq⟩
 ·rw [he]; exact hu
 ·rw [he]; intro e; injection e with e; omega
theorem grow_apart {e : TypeId} {s n : Nat} {u t : Value} {xs : List Value} (he : v.ownBlock = u.ownBlock ∨ ∃ q, v.ownBlock = some q ∧ w.heap.size ≤ q) (hu : Apart u t) (ht : OwnN w B e s t n xs) : Apart v t := by
 rcases he with he | ⟨q, he, hq⟩
 ·unfold Apart at *; rw [he]; exact hu
 ·refine .inr fun e1 => ?_
  have := (ht.inside q (by rw [← e1, he])).2
  omega
theorem IsX.pushL (h : IsX w B g x lsl sv lv cv) (o : OwnN w' B 3 1 v (x.levels.length + 1) (ints .i64 x.levels ++ [.int .i64 z])) (hg : w.grownBy w' lv.ownBlock) (he : v.ownBlock = lv.ownBlock ∨ ∃ q, v.ownBlock = some q ∧ w.heap.size ≤ q)
 (r : OwnN w'' B 72 1 (.slice (some ⟨g, 0, none⟩) 9 9) 9 ((x.cells sv lv cv lsl).set 6 v)) (hg2 : w'.grownBy w'' (some g)) : IsX w'' B g { x with levels := x.levels ++ [z] } lsl sv v cv := by
 obtain ⟨f1, f2, f3⟩ := h.far
 have hin := h.inside
 refine ⟨r, (h.stack.keep hg (h.stack.unlike h.levels (by decide))).keep hg2 (.inr f1), ?_, (h.classes.keep hg ?_).keep hg2 (.inr f3), grow_apart he h.apart h.classes⟩
 ·have := o.keep hg2 (.inr (grow_ne he f2 hin.2))
  simpa [ints] using this
 ·have := h.apart.symm
  exact this
theorem IsX.pushC (h : IsX w B g x lsl sv lv cv) (o : OwnN w' B 3 1 v (x.classes.length + 1) (ints .i64 x.classes ++ [.int .i64 z])) (hg : w.grownBy w' cv.ownBlock) (he : v.ownBlock = cv.ownBlock ∨ ∃ q, v.ownBlock = some q ∧ w.heap.size ≤ q)
 (r : OwnN w'' B 72 1 (.slice (some ⟨g, 0, none⟩) 9 9) 9 ((x.cells sv lv cv lsl).set 7 v)) (hg2 : w'.grownBy w'' (some g)) : IsX w'' B g { x with classes := x.classes ++ [z] } lsl sv lv v := by
 obtain ⟨f1, f2, f3⟩ := h.far
 have hin := h.inside
 refine ⟨r, (h.stack.keep hg (h.stack.unlike h.classes (by decide))).keep hg2 (.inr f1), (h.levels.keep hg h.apart).keep hg2 (.inr f2), ?_, (grow_apart he h.apart.symm h.levels).symm⟩
 have := o.keep hg2 (.inr (grow_ne he f3 hin.2))
 simpa [ints] using this
end
theorem Own.ofN {w : World} {B n : Nat} {e : TypeId} {v : Value} {xs : List Value} (h : OwnN w B e 1 v n xs) : Own w B e v xs := by
 have hn : xs.length = n := by have := h.1; omega
 unfold Own; rw [hn]; exact h
theorem Own.toN {w : World} {B n : Nat} {e : TypeId} {v : Value} {xs : List Value} (h : Own w B e v xs) (hn : xs.length = n) : OwnN w B e 1 v n xs := by
 unfold Own at h; rw [hn] at h; exact h
def putX (x : X6) (c : Int) : X6 := match x.st with
 | [] => x
 | e :: _ => { x with levels := x.levels ++ [e.lev], classes := x.classes ++ [if 0 ≤ e.over then e.over else c] }
def HasX (w : World) (B g : Nat) (x : X6) (lsl : Value) : Prop := ∃ sv lv cv, IsX w B g x lsl sv lv cv
structure X6.Small (x : X6) : Prop where
 st : x.st.length ≤ 100000
 lev : x.levels.length ≤ 1000000
 cls : x.classes.length ≤ 1000000
 isos : x.isos ≤ 1000000
 embeds : x.embeds ≤ 1000000
 valid : x.valid ≤ 1000000
set_option maxRecDepth 20000 in
set_option maxHeartbeats 4000000 in
theorem put_any (w : World) (B g : Nat) (x : X6) (lsl : Value) (c : Int) (e : Ent) (st : List Ent) (hst : x.st = e :: st) (hx : HasX w B g x lsl) (hs : x.Small) :
 Calls Tryz.prog 111 #[.pointer (some ⟨g, 0, none⟩), .int .i64 c] w fun ed w' => ed = .returned (.tuple #[]) ∧ HasX w' B g (putX x c) lsl ∧ Below B w w' := by
 obtain ⟨sv, lv, cv, h⟩ := hx
 have hsm : x.st.length ≤ 1000000 := by have := hs.st; omega
 obtain ⟨Al, cl, rfl, _, _, _⟩ := h.levels.form
 obtain ⟨Ac, cc, rfl, _, _, _⟩ := h.classes.form
 have h6 := h.field 6 (by omega)
 simp only [X6.cells, List.getElem?_cons_succ, List.getElem?_cons_zero] at h6
 have H := Lib.hid h
 have HST := Lib.hid hst
 have HS := Lib.hid hs
 have hin := h.inside
 have hll := hs.lev
 have hcl := hs.cls
 have HPX : Hid (putX x c = { x with levels := x.levels ++ [e.lev], classes := x.classes ++ [if 0 ≤ e.over then e.over else c] }) := Lib.hid (by rw [putX, hst])
 clear h hst hs
 have hf0 := field0 e.lev e.over e.iso
 have hf1 := field1 e.lev e.over e.iso
 go_enter Tryz.func111, Tryz.ntmps111
 go_wp2
 refine wp_region_E (S := fun w' => w'.cell? ⟨g, 6, none⟩ = some (.slice Al x.levels.length cl)) [12] (by kernel_rfl) (h6) (fun hHeld hZ => ?_)
 refine' eY 0 hHeld hZ fun hZ => ?_
 try simp only [Act.put,ZA,ZB,ZD,ZE,ZF]
 refine' eY 1 hHeld hZ fun hZ => ?_
 try simp only [Act.put,ZA,ZB,ZC,ZD,ZE,ZF]
 refine' eY 2 hHeld hZ fun hZ => ?_
 try simp only [Act.put,ZA,ZB,ZC,ZD,ZE,ZF]
 refine' eY 3 hHeld hZ fun hZ => ?_
 try simp only [Act.put,ZA,ZB,ZC,ZD,ZE,ZF]
 refine' eY 4 hHeld hZ fun hZ => ?_
 try simp only [Act.put,ZA,ZB,ZC,ZD,ZE,ZF]
 refine' eY 5 hHeld hZ fun hZ => ?_
 try simp only [Act.put,ZA,ZB,ZC,ZD,ZE,ZF]
 refine eA 6 fun K hK => ?_
 go_simp
 refine (top_any w.drew B g x lsl sv _ _ e st HST.out (H.out.same rfl) hsm).mono ?_
 rintro ed w1 ⟨rfl, b1⟩
 have X1 := Lib.hid ((H.out.same (w' := w.drew) rfl).below b1 (Nat.le_refl _))
 have B1 := Lib.hid (below_then_drew (b1.mono (show B ≤ w.drew.heap.size from by show B ≤ w.heap.size; omega)))
 clear b1
 refine eB hK hZ (X1.out.field 6 (by omega)) fun hHeld hZ => ?_
 clear hK K
 try simp only [Act.put,ZA,ZB,ZC,ZD,ZE,ZF]
 refine' eY 7 hHeld hZ fun hZ => ?_
 try simp only [Act.put,ZA,ZB,ZC,ZD,ZE,ZF]
 refine eA 8 fun K hK => ?_
 go_simp
 have X2 := Lib.hid (X1.out.below (below_alloc w1 (.cells #[.int .i64 e.lev] 3)) (Nat.le_refl _))
 refine eB hK hZ (X2.out.field 6 (by omega)) fun hHeld hZ => ?_
 clear hK K
 try simp only [Act.put,ZA,ZB,ZC,ZD,ZE,ZF]
 refine eA 9 fun K hK => ?_
 refine step_appN intsN (w1.alloc (.cells #[.int .i64 e.lev] 3)) _ B _ (.tmp 8) (.tmp 12) _ x.levels.length 1 (ints .i64 x.levels) [.int .i64 e.lev] _ _ rfl rfl rfl rfl X2.out.levels (Lies.lit #[.int .i64 e.lev]) rfl (by simp [Value.oneCell']) (Below.refl _ _) (by have := X2.out.inside; omega) (by unfold maxLen; omega) (by omega) ?_
 intro v9 w9 o9 b9 g9 e9
 obtain ⟨A9, c9, rfl, _, _, _⟩ := o9.form
 have O9 := Lib.hid o9
 have B9 := Lib.hid b9
 have G9 := Lib.hid g9
 have E9 := Lib.hid e9
 have RW := Lib.hid (X2.out.rowL g9)
 clear o9 b9 g9 e9
 refine eB hK hZ ((by have := World.ownsRow.cellAt RW.out 6 (by omega); rw [this]; rfl)) fun hHeld hZ => ?_
 clear hK K
 try simp only [Act.put,ZA,ZB,ZC,ZD,ZE,ZF]
 refine' eY 10 hHeld hZ fun hZ => ?_
 try simp only [Act.put,ZA,ZB,ZC,ZD,ZE,ZF]
 refine' eY 11 hHeld hZ fun hZ => ?_
 try simp only [Act.put,ZA,ZB,ZC,ZD,ZE,ZF]
 refine eA 12 fun K hK => ?_
 refine step_store w9 B (.tmp 15) (.tmp 13) g 6 9 (.slice A9 (x.levels.length + 1) c9) _ w9 rfl rfl rfl (by kernel_rfl) rfl rfl rfl RW.out (by simp [X6.cells]) (Below.refl _ _) ?_
 intro w10 r10 b10 g10
 have X3 := Lib.hid (X2.out.pushL O9.out G9.out E9.out r10 g10)
 have B3 : Hid (Below B w w10) := Lib.hid ((B1.out.trans ((below_alloc w1 _).mono (by have := X1.out.inside; omega))).trans (B9.out.trans b10))
 clear r10 b10 g10
 refine eE hK hZ fun hZ => ?_
 clear hK K
 try simp only [Act.put,ZA,ZB,ZC,ZD,ZE,ZF]
 refine wpAnyE_done (by kernel_rfl) ?_ _
 clear hZ
 obtain ⟨z, hz⟩ : ∃ z, (if 0 ≤ e.over then e.over else c) = z := ⟨_, rfl⟩
 have HZ := Lib.hid hz
 rcases hov : decide (e.over ≥ 0) with _ | _
 ·have ez : c = z := by rw [← hz, if_neg (by simpa using hov)]
  subst ez
  clear hz h6
  go_wp2_with fail
  refine (top_any w10 B g { x with levels := x.levels ++ [e.lev] } lsl sv _ _ e st HST.out X3.out hsm).mono ?_
  rintro ed w11 ⟨rfl, b11⟩
  have X4 := Lib.hid (X3.out.below b11 (Nat.le_refl _))
  have B4 : Hid (Below B w w11) := Lib.hid (B3.out.trans (b11.mono (by have := X3.out.inside; omega)))
  clear b11
  have h7 := X4.out.field 7 (by omega)
  simp only [X6.cells, List.getElem?_cons_succ, List.getElem?_cons_zero] at h7
  have hB := X4.out.inside
  go_wp2_with (first
   | (at_builtin; refine app_lit intsT w11 w11 B _ _ #[.int .i64 c] 1 _ (ints .i64 x.classes) rfl rfl rfl rfl (Own.ofN X4.out.classes) (by simp [Value.oneCell']) (Below.refl _ _) (by omega) (by unfold maxLen; simp; omega) (by simp; omega) ?_; intro v13 w13 o13 b13 g13 e13; have O13 := Lib.hid (Own.toN (n := x.classes.length + 1) o13 (by simp)); obtain ⟨A13, c13, rfl, _, _, _⟩ := O13.out.form; have B13 := Lib.hid b13; have G13 := Lib.hid g13; have E13 := Lib.hid e13; have RW13 := Lib.hid (X4.out.rowC g13); clear o13 b13 g13 e13)
   | (refine store_cell w13 B _ _ g 7 9 (.slice A13 (x.classes.length + 1) c13) _ w13 rfl rfl rfl (by kernel_rfl) rfl rfl rfl RW13.out (by simp [X6.cells]) (Below.refl _ _) ?_; intro w14 r14 b14 g14; have X9 := Lib.hid (X4.out.pushC O13.out G13.out E13.out r14 g14); have B9 : Hid (Below B w w14) := Lib.hid (B4.out.trans (B13.out.trans b14)); clear r14 b14 g14)
   | fail)
  (try simp only [Exit.inBlock, Exit.then])
  refine bodyPost_end (results_none rfl _ _ _) rfl ⟨rfl, ?_, B9.out⟩
  have := X9.out
  rw [HPX.out, HZ.out]
  first | exact ⟨_, _, _, this⟩ | (rw [← EZ.out]; exact ⟨_, _, _, this⟩)
 ·have ez : e.over = z := by rw [← hz, if_pos (by simpa using hov)]
  have EZ := Lib.hid ez
  clear hz h6 ez
  go_wp2_with fail
  refine (top_any w10 B g { x with levels := x.levels ++ [e.lev] } lsl sv _ _ e st HST.out X3.out hsm).mono ?_
  rintro ed w11 ⟨rfl, b11⟩
  have X4 := Lib.hid (X3.out.below b11 (Nat.le_refl _))
  have B4 : Hid (Below B w w11) := Lib.hid (B3.out.trans (b11.mono (by have := X3.out.inside; omega)))
  clear b11
  go_wp2_with fail
  refine (top_any w11 B g { x with levels := x.levels ++ [e.lev] } lsl sv _ _ e st HST.out X4.out hsm).mono ?_
  rintro ed w12 ⟨rfl, b12⟩
  have X5 := Lib.hid (X4.out.below b12 (Nat.le_refl _))
  have B5 : Hid (Below B w w12) := Lib.hid (B4.out.trans (b12.mono (by have := X4.out.inside; omega)))
  clear b12
  have h7 := X5.out.field 7 (by omega)
  simp only [X6.cells, List.getElem?_cons_succ, List.getElem?_cons_zero] at h7
  have hB := X5.out.inside
  go_wp2_with (first
   | (at_builtin; refine app_lit intsT w12 w12 B _ _ #[.int .i64 e.over] 1 _ (ints .i64 x.classes) rfl rfl rfl rfl (Own.ofN X5.out.classes) (by simp [Value.oneCell']) (Below.refl _ _) (by omega) (by unfold maxLen; simp; omega) (by simp; omega) ?_; intro v13 w13 o13 b13 g13 e13; have O13 := Lib.hid (Own.toN (n := x.classes.length + 1) o13 (by simp)); obtain ⟨A13, c13, rfl, _, _, _⟩ := O13.out.form; have B13 := Lib.hid b13; have G13 := Lib.hid g13; have E13 := Lib.hid e13; have RW13 := Lib.hid (X5.out.rowC g13); clear o13 b13 g13 e13)
   | (refine store_cell w13 B _ _ g 7 9 (.slice A13 (x.classes.length + 1) c13) _ w13 rfl rfl rfl (by kernel_rfl) rfl rfl rfl RW13.out (by simp [X6.cells]) (Below.refl _ _) ?_; intro w14 r14 b14 g14; have X9 := Lib.hid (X5.out.pushC O13.out G13.out E13.out r14 g14); have B9 : Hid (Below B w w14) := Lib.hid (B5.out.trans (B13.out.trans b14)); clear r14 b14 g14)
   | fail)
  (try simp only [Exit.inBlock, Exit.then])
  refine bodyPost_end (results_none rfl _ _ _) rfl ⟨rfl, ?_, B9.out⟩
  have := X9.out
  rw [HPX.out, HZ.out]
  first | exact ⟨_, _, _, this⟩ | (rw [← EZ.out]; exact ⟨_, _, _, this⟩)
end Go.Proofs.YtcbaahlahohfmaaGreatDoor
