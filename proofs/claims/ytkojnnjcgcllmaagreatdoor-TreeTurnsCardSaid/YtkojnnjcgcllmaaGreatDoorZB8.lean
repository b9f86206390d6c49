/- Shared texts, shaken for one claim. -/
import Derived.Test.YtkojnnjcgcllmaaGreatDoorChecked
import Derived.Deep.MidRow
import Derived.BigQuiet
import Derived.Test.YtkojnnjcgcllmaaGreatDoorZB1
import Derived.Test.YtkojnnjcgcllmaaGreatDoorZB2
import Derived.Test.YtkojnnjcgcllmaaGreatDoorZB4
import Derived.Test.YtkojnnjcgcllmaaGreatDoorZB7
namespace Go.Proofs.YtkojnnjcgcllmaaGreatDoor
open Go.RowKit Reckon
def Box (w : World) (g : Nat) (cs : Array Value) (e : TypeId) : Prop := w.heap[g]? = some (.cells cs e)
section
variable {w w' : World} {g : Nat} {cs : Array Value} {e : TypeId}
theorem Box.lt (h : Box w g cs e) : g < w.heap.size := (Array.getElem?_eq_some_iff.1 h).1
theorem Box.new (w : World) (cs : Array Value) (e : TypeId) : Box (w.alloc (.cells cs e)) w.heap.size cs e := heap_alloc_new w _
theorem Box.cell (h : Box w g cs e) {i : Nat} {u : Value} (hi : cs[i]? = some u) : w.cell? ⟨g, i, none⟩ = some u := by simp [World.cell?, show w.heap[g]? = _ from h, hi]
theorem Box.frozen (h : Box w g cs e) (i : Nat) : w.frozen? ⟨g, i, none⟩ = false := by simp [World.frozen?, show w.heap[g]? = _ from h]
theorem Box.kept (h : Box w g cs e) {row : Option Nat} (hg : w.grownBy w' row) (hne : row ≠ some g) : Box w' g cs e := (hg.block g h.lt (fun e => hne e.symm)).trans h
theorem Box.below (h : Box w g cs e) {B : Nat} (hb : Below B w w') (hB : g < B) : Box w' g cs e := (hb.block g hB).trans h
theorem Box.same (h : Box w g cs e) (hh : w'.heap = w.heap) : Box w' g cs e := by unfold Box; rw [hh]; exact h
theorem Box.set (h : Box w g cs e) (i : Nat) (u : Value) : Box (w.setCell ⟨g, i, none⟩ u) g (cs.setIfInBounds i u) e := by
 show (w.setCell ⟨g, i, none⟩ u).heap[g]? = _
 simp [World.setCell, Array.getElem?_modify, show w.heap[g]? = _ from h]
end
theorem grown_set (w : World) (g i : Nat) (u : Value) : w.grownBy (w.setCell ⟨g, i, none⟩ u) (some g) :=
 ⟨rfl, rfl, rfl, by simp [World.setCell], fun k hk hne => Below.heap_setCell _ _ _ _ (fun e => hne (by rw [e]))⟩
theorem grown_new (w : World) (o : Obj) (row : Option Nat) : w.grownBy (w.alloc o) row := World.grownBy_alloc w o row
theorem grown_draw {a w : World} {row : Option Nat} (h : a.grownBy w row) : a.grownBy w.drew row := ⟨h.os, h.tape, h.output, h.size, h.block⟩
theorem grown_draws {a w : World} {row : Option Nat} (h : a.grownBy w row) (n : Nat) : a.grownBy (w.drewN n) row := ⟨h.os, h.tape, h.output, h.size, h.block⟩
theorem grown_refl (w : World) (row : Option Nat) : w.grownBy w row := World.grownBy.refl w row
theorem below_row {B b : Nat} {w w' : World} (h : w.grownBy w' (some b)) (hB : B ≤ b) (hw : B ≤ w.heap.size) : Below B w w' := (Below.refl B w).grown h hw (fun k hk => by injection hk with hk; omega)
theorem below_row_none {B : Nat} {w w' : World} (h : w.grownBy w' none) (hw : B ≤ w.heap.size) : Below B w w' := (Below.refl B w).grown h hw (fun k hk => by cases hk)
theorem setCells_box (b : Nat) : ∀ (vs : List Value) (o : Nat) (w : World) (cs : Array Value) (e : TypeId), Box w b cs e → o + vs.length = cs.size → Box (w.setCells b o vs) b (cs.toList.take o ++ vs).toArray e ∧ w.grownBy (w.setCells b o vs) (some b)
 | [], o, w, cs, e, h, hn => ⟨by rw [List.append_nil, List.take_of_length_le (by simp at hn ⊢; omega)]; exact h, grown_refl _ _⟩
 | v :: r, o, w, cs, e, h, hn => by
  rw [World.setCells]
  have ho : o < cs.size := by simp at hn; omega
  obtain ⟨h1, h2⟩ := setCells_box b r (o + 1) _ _ e (h.set o v) (by simp at hn ⊢; omega)
  refine ⟨?_, (grown_set w b o v).trans h2⟩
  have e1 : (cs.setIfInBounds o v).toList.take (o + 1) = cs.toList.take o ++ [v] := by
   rw [Array.toList_setIfInBounds, List.take_succ_eq_append_getElem (by simpa using ho), List.getElem_set_self, List.take_set_of_le (Nat.le_refl _)]
  rw [e1, List.append_assoc, List.singleton_append] at h1
  exact h1
section
variable {P : Program} {ops : Array Oper} {rest : List Oper} {o : Oper} {a : Act} {Q : Exit → Act → World → Prop}
theorem store_box {ty e : TypeId} (W : World) (x y : Operand) (g : Nat) (cs vs : Array Value)
 (hgd : o.guard = none) (hd : o.dst = none) (ho : o.op = .store ty x y) (hx : a.eval x = .pointer (some ⟨g, 0, none⟩)) (hy : a.eval y = .agg vs) (hb : Box W g cs e) (hs : vs.size = cs.size)
 (hi : (P.info? ty).map (·.size) = some vs.size) (h1 : vs.all (·.oneCell') = true)
 (h : ∀ w', Box w' g vs e → W.grownBy w' (some g) → wpList P ops Q rest a w') : wpList P ops Q (o :: rest) a W := by
 refine wpList_store_mid hgd ty x y ho g 0 vs hx hy (fun j hj => ?_) hi h1 ?_
 ·rw [Nat.zero_add]
  exact ⟨by rw [hb.cell (Array.getElem?_eq_getElem (show j < cs.size by omega))]; rfl, hb.frozen j⟩
 ·obtain ⟨h2, h3⟩ := setCells_box g vs.toList 0 W cs e hb (by simp [hs])
  simp only [List.take_zero, List.nil_append, Array.toArray_toList] at h2
  have ha : a.put o.dst undef = a := by rw [hd]; rfl
  rw [ha]
  exact h _ h2 h3
theorem load_box {ty e : TypeId} {W : World} (x : Operand) (g : Nat) (cs : Array Value) (d : TypeDesc)
 (hgd : o.guard = none) (ho : o.op = .load ty x) (hx : a.eval x = .pointer (some ⟨g, 0, none⟩)) (hb : Box W g cs e)
 (hu : P.underlying ty = some d) (hd : (match d with | .struct _ | .array _ _ => true | _ => false) = true) (hi : (P.info? ty).map (·.size) = some cs.size)
 (h : wpList P ops Q rest (a.put o.dst (.agg cs)) W) : wpList P ops Q (o :: rest) a W :=
 wpList_load_row hgd ty x ho g hx e cs _ d hb hu hd hi h
end
/-! the reader -/
structure IsR (w : World) (b : Nat) (A : Option Addr) (l : List Int) (c k : Nat) (tv : Value) (T : List Tok) : Prop where
 box : Box w b #[.slice A l.length c, .int .i64 k, tv] 90
 toks : OwnN w b 66 5 tv T.length (tokCells T)
 lies : Lies w b A (ints .i64 l)
 le : k ≤ l.length
 cap : l.length ≤ c
section
variable {w w' : World} {b c k : Nat} {A : Option Addr} {l : List Int} {tv : Value} {T : List Tok}
theorem IsR.far (h : IsR w b A l c k tv T) : tv.ownBlock ≠ some b := fun e => by
 rcases h.toks.2 with ⟨rfl, _⟩ | ⟨g, cap, cur, rfl, _, hh, _⟩
 ·cases e
 ·have : g = b := by simpa [Value.ownBlock] using e
  subst this
  have hb := h.box
  unfold Box at hb
  rw [hb] at hh
  injection hh with h1
  injection h1 with _ h2 _
  exact absurd h2 (by decide)
theorem IsR.lt (h : IsR w b A l c k tv T) : b < w.heap.size := h.box.lt
theorem IsR.kept (h : IsR w b A l c k tv T) {row : Option Nat} (hg : w.grownBy w' row) (h1 : row ≠ some b) (h2 : ∀ g, row = some g → b ≤ g) (h3 : tv.ownBlock = none ∨ tv.ownBlock ≠ row) : IsR w' b A l c k tv T :=
 ⟨h.box.kept hg h1, h.toks.keep hg h3, h.lies.same (fun q hq => World.cell?_of_block (hg.block q.block (by have := h.lt; omega) (fun e => by have := h2 _ e.symm; omega))), h.le, h.cap⟩
theorem IsR.grown (h : IsR w b A l c k tv T) (hg : w.grownBy w' none) : IsR w' b A l c k tv T := h.kept hg (by simp) (fun g e => by cases e) (by cases tv.ownBlock <;> simp)
theorem IsR.alloc (h : IsR w b A l c k tv T) (o : Obj) : IsR (w.alloc o) b A l c k tv T := h.grown (grown_new w o none)
theorem IsR.drew (h : IsR w b A l c k tv T) : IsR w.drew b A l c k tv T := h.grown (grown_draw (grown_refl w none))
theorem IsR.drewN (h : IsR w b A l c k tv T) (n : Nat) : IsR (w.drewN n) b A l c k tv T := h.grown (grown_draws (grown_refl w none) n)
theorem IsR.cells (h : IsR w b A l c k tv T) : w.cell? ⟨b, 0, none⟩ = some (.slice A l.length c) ∧ w.cell? ⟨b, 1, none⟩ = some (.int .i64 k) ∧ w.cell? ⟨b, 2, none⟩ = some tv :=
 ⟨h.box.cell rfl, h.box.cell rfl, h.box.cell rfl⟩
theorem IsR.frozen (h : IsR w b A l c k tv T) (i : Nat) : w.frozen? ⟨b, i, none⟩ = false := h.box.frozen i
theorem IsR.goes (h : IsR w b A l c k tv T) (k' : Nat) (hk : k' ≤ l.length) : IsR (w.setCell ⟨b, 1, none⟩ (.int .i64 k')) b A l c k' tv T :=
 ⟨h.box.set 1 _, h.toks.keep (grown_set w b 1 _) (.inr h.far), h.lies.same (fun q hq => World.cell?_of_block ((grown_set w b 1 _).block q.block (by have := h.lt; omega) (fun e => by injection e with e; omega))), hk, h.cap⟩
theorem IsR.char (h : IsR w b A l c k tv T) {i : Nat} (hi : i < l.length) : ∃ p : Addr, A = some p ∧ p.block < b ∧ w.cell? (p.add i) = some (.int .i64 l[i]) := h.lies.int hi
end
def Told (w : World) (b : Nat) (A : Option Addr) (l : List Int) (c : Nat) (tv : Value) (T : List Tok) {α : Type} (f : α → Value) (r : Wr (α × Nat)) (ed : Ending) (w' : World) : Prop := match r with
 | .ok (v, k') => ed = .returned (f v) ∧ IsR w' b A l c k' tv T ∧ w.grownBy w' (some b)
 | .error (n, x) => ed = .panicked [{ v := .iface 62 (.agg #[.int .i64 n, .int .i64 x]), recovered := false }] ∧ w.grownBy w' (some b)
theorem tok_one (t : Tok) : t.arr.all (·.oneCell') = true := by simp [Tok.arr, Value.oneCell']
theorem tokInfo (t : Tok) : (Tryz.prog.info? 66).map (·.size) = some t.arr.size := by kernel_rfl
theorem store_tok {ops : Array Oper} {rest : List Oper} {o : Oper} {a : Act} {Q : Exit → Act → World → Prop} (W : World) (x y : Operand) (g : Nat) (s t : Tok)
 (hgd : o.guard = none) (hd : o.dst = none) (ho : o.op = .store 66 x y) (hx : a.eval x = .pointer (some ⟨g, 0, none⟩)) (hy : a.eval y = .agg t.arr) (hb : Box W g s.arr 66)
 (h : ∀ w', Box w' g t.arr 66 → W.grownBy w' (some g) → wpList Tryz.prog ops Q rest a w') : wpList Tryz.prog ops Q (o :: rest) a W :=
 store_box W x y g s.arr t.arr hgd hd ho hx hy hb rfl (tokInfo t) (tok_one t) h
def noTok : Tok := ⟨0, 0, 0, 0, 0⟩
theorem ret_tok {fn : Func} {p : Nat} (h : fn.results = #[.cell p 66]) (tmps : Array Value) (w : World) (g : Nat) (t : Tok) (hp : tmps.getD p undef = .pointer (some ⟨g, 0, none⟩)) (hg : Box w g t.arr 66) :
 (results fn tmps).run Tryz.prog w = .ok (.agg t.arr) w :=
 results_cell_row h tmps w g 66 t.arr (0, 0) _ hp hg Tryz.underlying66 rfl (tokInfo t)
theorem grown_two {a b c : World} {g : Nat} {row : Option Nat} (h : a.grownBy b row) (k : b.grownBy c (some g)) (hg : a.heap.size ≤ g) : a.grownBy c row :=
 ⟨k.os.trans h.os, k.tape.trans h.tape, k.output.trans h.output, Nat.le_trans h.size k.size, fun i hi hr => (k.block i (by have := h.size; omega) (fun e => by injection e with e; omega)).trans (h.block i hi hr)⟩
/-! what only reckons -/
theorem tkchar_any (x : Int) (w : World) : Calls Tryz.prog 115 #[.int .i64 x] w fun e w' => e = .returned (.agg (chT x).arr) ∧ w.grownBy w' none := by
 go_enter Tryz.func115, Tryz.ntmps115
 go_wp2
 (try simp only [Exit.inBlock, Exit.then])
 refine bodyPost_ret (v := .agg (chT x).arr) ?_ rfl ⟨rfl, grown_new w _ none⟩
 exact results_cell_row rfl _ _ w.heap.size 66 _ (0, 0) _ rfl (Go.heap_alloc_new w _) Tryz.underlying66 rfl (by kernel_rfl)
theorem tkstep {c : Int} {a : AV} {l : List (Int × AV)} {b : Bool} (h : stepF c a l = .boo b) : (stepF c a l).val c = .bool b := by rw [h]; rfl
noncomputable def signTab : List (Nat × Func) := [(123, Tryz.f123)]
theorem signTab_ok : TabOk Tryz.prog signTab := .cons Tryz.func123 (by kernel_rfl) .nil
def signSteps : List (Int × AV) := [(36, .boo true), (37, .boo false), (40, .boo true), (41, .boo true), (42, .boo true), (43, .boo true), (44, .boo false), (45, .boo true), (46, .boo true), (47, .boo true), (48, .boo false), (63, .boo true), (64, .boo false), (91, .boo true), (92, .boo true), (93, .boo true), (94, .boo true), (95, .boo false), (123, .boo true), (124, .boo true), (125, .boo true), (126, .boo false)]
theorem sign_steps (x : Int) : stepF x (.boo false) signSteps = .boo (signI x) := by
 simp only [stepF, signSteps]
 by_cases h36 : x < 36
 ·rw [if_pos h36]; congr 1; symm; simp [signI]; omega
 rw [if_neg h36]
 by_cases h37 : x < 37
 ·rw [if_pos h37]; congr 1; symm; simp [signI]; omega
 rw [if_neg h37]
 by_cases h40 : x < 40
 ·rw [if_pos h40]; congr 1; symm; simp [signI]; omega
 rw [if_neg h40]
 by_cases h41 : x < 41
 ·rw [if_pos h41]; congr 1; symm; simp [signI]; omega
 rw [if_neg h41]
 by_cases h42 : x < 42
 ·rw [if_pos h42]; congr 1; symm; simp [signI]; omega
 rw [if_neg h42]
 by_cases h43 : x < 43
 ·rw [if_pos h43]; congr 1; symm; simp [signI]; omega
 rw [if_neg h43]
 by_cases h44 : x < 44
 ·rw [if_pos h44]; congr 1; symm; simp [signI]; omega
 rw [if_neg h44]
 by_cases h45 : x < 45
 ·rw [if_pos h45]; congr 1; symm; simp [signI]; omega
 rw [if_neg h45]
 by_cases h46 : x < 46
 ·rw [if_pos h46]; congr 1; symm; simp [signI]; omega
 rw [if_neg h46]
 by_cases h47 : x < 47
 ·rw [if_pos h47]; congr 1; symm; simp [signI]; omega
 rw [if_neg h47]
 by_cases h48 : x < 48
 ·rw [if_pos h48]; congr 1; symm; simp [signI]; omega
 rw [if_neg h48]
 by_cases h63 : x < 63
 ·rw [if_pos h63]; congr 1; symm; simp [signI]; omega
 rw [if_neg h63]
 by_cases h64 : x < 64
 ·rw [if_pos h64]; congr 1; symm; simp [signI]; omega
 rw [if_neg h64]
 by_cases h91 : x < 91
 ·rw [if_pos h91]; congr 1; symm; simp [signI]; omega
 rw [if_neg h91]
 by_cases h92 : x < 92
 ·rw [if_pos h92]; congr 1; symm; simp [signI]; omega
 rw [if_neg h92]
 by_cases h93 : x < 93
 ·rw [if_pos h93]; congr 1; symm; simp [signI]; omega
 rw [if_neg h93]
 by_cases h94 : x < 94
 ·rw [if_pos h94]; congr 1; symm; simp [signI]; omega
 rw [if_neg h94]
 by_cases h95 : x < 95
 ·rw [if_pos h95]; congr 1; symm; simp [signI]; omega
 rw [if_neg h95]
 by_cases h123 : x < 123
 ·rw [if_pos h123]; congr 1; symm; simp [signI]; omega
 rw [if_neg h123]
 by_cases h124 : x < 124
 ·rw [if_pos h124]; congr 1; symm; simp [signI]; omega
 rw [if_neg h124]
 by_cases h125 : x < 125
 ·rw [if_pos h125]; congr 1; symm; simp [signI]; omega
 rw [if_neg h125]
 by_cases h126 : x < 126
 ·rw [if_pos h126]; congr 1; symm; simp [signI]; omega
 rw [if_neg h126]
 congr 1; symm; simp [signI]; omega
theorem tksign_any (x : Int) (w : World) : Calls Tryz.prog 123 #[.int .i64 x] w fun e w' => e = .returned (.bool (signI x)) ∧ w = w' := by
 have h := calls_step signTab_ok (keep := 60) (m := 1) (f := 123) (v0 := .boo false) (l := signSteps) (by kernel_rfl) x w
 rw [tkstep (sign_steps x)] at h
 exact h
def escV (x : Int) : Value := match escI x with
 | some (z, g) => .tuple #[.int .i64 z, .bool g, .bool true]
 | none => .tuple #[.int .i64 0, .bool false, .bool false]
set_option maxHeartbeats 1000000 in
theorem tkescape_any (x : Int) (w : World) : Calls Tryz.prog 114 #[.int .i64 x] w fun e w' => e = .returned (escV x) ∧ w = w' := by
 by_cases h110 : x = 110
 ·subst h110
  have he : escV 110 = .tuple #[.int .i64 10, .bool false, .bool true] := rfl
  rw [he]
  go_enter Tryz.func114, Tryz.ntmps114
  go_wp2
  go_ret3
  exact ⟨rfl, rfl⟩
 by_cases h116 : x = 116
 ·subst h116
  have he : escV 116 = .tuple #[.int .i64 9, .bool false, .bool true] := rfl
  rw [he]
  go_enter Tryz.func114, Tryz.ntmps114
  go_wp2
  go_ret3
  exact ⟨rfl, rfl⟩
 by_cases h100 : x = 100
 ·subst h100
  have he : escV 100 = .tuple #[.int .i64 100, .bool true, .bool true] := rfl
  rw [he]
  go_enter Tryz.func114, Tryz.ntmps114
  go_wp2
  go_ret3
  exact ⟨rfl, rfl⟩
 by_cases h119 : x = 119
 ·subst h119
  have he : escV 119 = .tuple #[.int .i64 119, .bool true, .bool true] := rfl
  rw [he]
  go_enter Tryz.func114, Tryz.ntmps114
  go_wp2
  go_ret3
  exact ⟨rfl, rfl⟩
 by_cases h115 : x = 115
 ·subst h115
  have he : escV 115 = .tuple #[.int .i64 115, .bool true, .bool true] := rfl
  rw [he]
  go_enter Tryz.func114, Tryz.ntmps114
  go_wp2
  go_ret3
  exact ⟨rfl, rfl⟩
 by_cases h68 : x = 68
 ·subst h68
  have he : escV 68 = .tuple #[.int .i64 68, .bool true, .bool true] := rfl
  rw [he]
  go_enter Tryz.func114, Tryz.ntmps114
  go_wp2
  go_ret3
  exact ⟨rfl, rfl⟩
 by_cases h87 : x = 87
 ·subst h87
  have he : escV 87 = .tuple #[.int .i64 87, .bool true, .bool true] := rfl
  rw [he]
  go_enter Tryz.func114, Tryz.ntmps114
  go_wp2
  go_ret3
  exact ⟨rfl, rfl⟩
 by_cases h83 : x = 83
 ·subst h83
  have he : escV 83 = .tuple #[.int .i64 83, .bool true, .bool true] := rfl
  rw [he]
  go_enter Tryz.func114, Tryz.ntmps114
  go_wp2
  go_ret3
  exact ⟨rfl, rfl⟩
 have he : escV x = if signI x = true then .tuple #[.int .i64 x, .bool false, .bool true] else .tuple #[.int .i64 0, .bool false, .bool false] := by
  unfold escV escI
  rw [if_neg h110, if_neg h116, if_neg (by omega)]
  by_cases hs : signI x = true
  ·rw [if_pos hs, if_pos hs]
  ·rw [if_neg hs, if_neg hs]
 rw [he]
 have d110 : (x == 110) = false := by simpa using h110
 have d116 : (x == 116) = false := by simpa using h116
 have d100 : (x == 100) = false := by simpa using h100
 have d119 : (x == 119) = false := by simpa using h119
 have d115 : (x == 115) = false := by simpa using h115
 have d68 : (x == 68) = false := by simpa using h68
 have d87 : (x == 87) = false := by simpa using h87
 have d83 : (x == 83) = false := by simpa using h83
 clear he h110 h116 h100 h119 h115 h68 h87 h83
 rcases hs : signI x with _ | _
 ·rw [if_neg (by simp)]
  have HS := Lib.hid hs
  clear hs
  go_enter Tryz.func114, Tryz.ntmps114
  go_wp2_with fail
  refine (tksign_any x w).mono ?_
  rintro e wq ⟨rfl, rfl⟩
  rw [HS.out]
  go_wp2
  go_ret3
  exact ⟨rfl, rfl⟩
 ·rw [if_pos rfl]
  have HS := Lib.hid hs
  clear hs
  go_enter Tryz.func114, Tryz.ntmps114
  go_wp2_with fail
  refine (tksign_any x w).mono ?_
  rintro e wq ⟨rfl, rfl⟩
  rw [HS.out]
  go_wp2
  go_ret3
  exact ⟨rfl, rfl⟩
set_option maxHeartbeats 1000000 in
theorem tkalone_any (x : Int) (w : World) : Calls Tryz.prog 93 #[.int .i64 x] w fun e w' => e = .returned (.agg (aloT x).arr) ∧ w.grownBy w' none := by
 by_cases h46 : x = 46
 ·subst h46
  go_enter Tryz.func93, Tryz.ntmps93
  go_wp2
  (try simp only [Exit.inBlock, Exit.then])
  refine bodyPost_ret (v := .agg (aloT 46).arr) ?_ rfl ⟨rfl, grown_new w _ none⟩
  exact results_cell_row rfl _ _ w.heap.size 66 _ (0, 0) _ rfl (Go.heap_alloc_new w _) Tryz.underlying66 rfl (by kernel_rfl)
 by_cases h40 : x = 40
 ·subst h40
  go_enter Tryz.func93, Tryz.ntmps93
  go_wp2
  (try simp only [Exit.inBlock, Exit.then])
  refine bodyPost_ret (v := .agg (aloT 40).arr) ?_ rfl ⟨rfl, grown_new w _ none⟩
  exact results_cell_row rfl _ _ w.heap.size 66 _ (0, 0) _ rfl (Go.heap_alloc_new w _) Tryz.underlying66 rfl (by kernel_rfl)
 by_cases h41 : x = 41
 ·subst h41
  go_enter Tryz.func93, Tryz.ntmps93
  go_wp2
  (try simp only [Exit.inBlock, Exit.then])
  refine bodyPost_ret (v := .agg (aloT 41).arr) ?_ rfl ⟨rfl, grown_new w _ none⟩
  exact results_cell_row rfl _ _ w.heap.size 66 _ (0, 0) _ rfl (Go.heap_alloc_new w _) Tryz.underlying66 rfl (by kernel_rfl)
 by_cases h124 : x = 124
 ·subst h124
  go_enter Tryz.func93, Tryz.ntmps93
  go_wp2
  (try simp only [Exit.inBlock, Exit.then])
  refine bodyPost_ret (v := .agg (aloT 124).arr) ?_ rfl ⟨rfl, grown_new w _ none⟩
  exact results_cell_row rfl _ _ w.heap.size 66 _ (0, 0) _ rfl (Go.heap_alloc_new w _) Tryz.underlying66 rfl (by kernel_rfl)
 by_cases h94 : x = 94
 ·subst h94
  go_enter Tryz.func93, Tryz.ntmps93
  go_wp2
  (try simp only [Exit.inBlock, Exit.then])
  refine bodyPost_ret (v := .agg (aloT 94).arr) ?_ rfl ⟨rfl, grown_new w _ none⟩
  exact results_cell_row rfl _ _ w.heap.size 66 _ (0, 0) _ rfl (Go.heap_alloc_new w _) Tryz.underlying66 rfl (by kernel_rfl)
 by_cases h36 : x = 36
 ·subst h36
  go_enter Tryz.func93, Tryz.ntmps93
  go_wp2
  (try simp only [Exit.inBlock, Exit.then])
  refine bodyPost_ret (v := .agg (aloT 36).arr) ?_ rfl ⟨rfl, grown_new w _ none⟩
  exact results_cell_row rfl _ _ w.heap.size 66 _ (0, 0) _ rfl (Go.heap_alloc_new w _) Tryz.underlying66 rfl (by kernel_rfl)
 have he : aloT x = chT x := by unfold aloT; rw [if_neg h46, if_neg h40, if_neg h41, if_neg h124, if_neg h94, if_neg h36]
 rw [he]
 have d46 : (x == 46) = false := by simpa using h46
 have d40 : (x == 40) = false := by simpa using h40
 have d41 : (x == 41) = false := by simpa using h41
 have d124 : (x == 124) = false := by simpa using h124
 have d94 : (x == 94) = false := by simpa using h94
 have d36 : (x == 36) = false := by simpa using h36
 clear he h46 h40 h41 h124 h94 h36
 go_enter Tryz.func93, Tryz.ntmps93
 go_wp2_with fail
 refine (tkchar_any x _).mono ?_
 rintro e w1 ⟨rfl, g1⟩
 have X1 := (Box.new w _ _).kept g1 (by simp)
 have G1 := Lib.hid ((grown_new w _ none).trans g1)
 have X1 := Lib.hid X1
 clear g1
 go_wp2_with (first
  | (refine store_tok w1 _ _ w.heap.size noTok (chT x) rfl rfl rfl rfl rfl X1.out ?_; intro w2 x2 g2; have X2 := Lib.hid x2; have G2 := Lib.hid g2; clear x2 g2)
  | fail)
 (try simp only [Exit.inBlock, Exit.then])
 exact bodyPost_ret (v := .agg (chT x).arr) (ret_tok rfl _ _ w.heap.size (chT x) rfl X2.out) rfl ⟨rfl, grown_two G1.out G2.out (Nat.le_refl _)⟩
end Go.Proofs.YtkojnnjcgcllmaaGreatDoor
namespace Go.Proofs.YtkojnnjcgcllmaaGreatDoor
open Go.RowKit
theorem tkwrap {k : Nat} (h : k ≤ 1000) : IntKind.i64.wrap ((k : Int) + 1) = ((k + 1 : Nat) : Int) := by rw [IntWalk.i64_in _ (by omega)]; omega
theorem OwnN.ofBox {w : World} {g : Nat} {cs : Array Value} {e : TypeId} (h : Box w g cs e) (hm : cs.size ≤ maxLen) : OwnN w g e 1 (.slice (some ⟨g, 0, none⟩) cs.toList.length cs.size) cs.toList.length cs.toList :=
 ⟨by simp, .inr ⟨g, cs.size, cs, rfl, Nat.le_refl _, h, by simp, hm, by simp, List.take_of_length_le (by simp)⟩⟩
theorem Box.ofOwn {w : World} {B g n m : Nat} {e : TypeId} {xs : List Value} (h : OwnN w B e 1 (.slice (some ⟨g, 0, none⟩) m n) m xs) (hn : m = n) : Box w g xs.toArray e := by
 subst hn
 rcases h.2 with ⟨hv, _⟩ | ⟨g', cap, cur, hv, hbg, hh, hc, hm, hs, ht⟩
 ·cases hv
 ·injection hv with h1 _ h3
  injection h1 with h1
  injection h1 with h1
  subst h1 h3
  unfold Box
  rw [hh]
  congr 2
  have h4 : cur.toList = xs := by rw [← ht, List.take_of_length_le (by simp; omega)]
  rw [← h4]
section
variable {P : Program} {ops : Array Oper} {rest : List Oper} {o : Oper} {a : Act} {Q : Exit → Act → World → Prop}
theorem store_in {t e : TypeId} (W : World) (x y : Operand) (g j : Nat) (u : Value) (cs : Array Value)
 (hgd : o.guard = none) (hd : o.dst = none) (ho : o.op = .store t x y) (ht : (P.info? t).map (·.size) = some 1) (hu : u.oneCell' = true) (hx : a.eval x = .pointer (some ⟨g, j, none⟩)) (hy : a.eval y = u) (hb : Box W g cs e) (hj : j < cs.size) (hm : cs.size ≤ maxLen)
 (h : ∀ w', Box w' g (cs.setIfInBounds j u) e → W.grownBy w' (some g) → wpList P ops Q rest a w') : wpList P ops Q (o :: rest) a W := by
 refine store_cell W g x y g j cs.size u cs.toList W hgd hd ho ht hu hx hy (OwnN.ofBox hb hm) (by simpa using hj) (Below.refl _ _) fun w' h1 _ h3 => h w' ?_ h3
 have h4 : OwnN w' g e 1 (.slice (some ⟨g, 0, none⟩) (cs.toList.set j u).length cs.size) (cs.toList.set j u).length (cs.toList.set j u) := by simpa using h1
 have h5 := Box.ofOwn h4 (by simp)
 rw [← Array.toList_setIfInBounds, Array.toArray_toList] at h5
 exact h5
end
section
variable {P : Program} {ops : Array Oper} {o : Oper} {a : Act} {K : Act → World → Prop} {Q : Exit → Act → World → Prop} {E : Prop}
theorem step_in {t e : TypeId} (W : World) (x y : Operand) (g j : Nat) (u : Value) (cs : Array Value)
 (hgd : o.guard = none) (hd : o.dst = none) (ho : o.op = .store t x y) (ht : (P.info? t).map (·.size) = some 1) (hu : u.oneCell' = true) (hx : a.eval x = .pointer (some ⟨g, j, none⟩)) (hy : a.eval y = u) (hb : Box W g cs e) (hj : j < cs.size) (hm : cs.size ≤ maxLen)
 (h : ∀ w', Box w' g (cs.setIfInBounds j u) e → W.grownBy w' (some g) → K a w') : if Region.wanted o (yielded ops a.tmps) = true then Oper.wp P o a W K Q else E := by
 refine step_store W g x y g j cs.size u cs.toList W hgd hd ho ht hu hx hy (OwnN.ofBox hb hm) (by simpa using hj) (Below.refl _ _) fun w' h1 _ h3 => h w' ?_ h3
 have h4 : OwnN w' g e 1 (.slice (some ⟨g, 0, none⟩) (cs.toList.set j u).length cs.size) (cs.toList.set j u).length (cs.toList.set j u) := by simpa using h1
 have h5 := Box.ofOwn h4 (by simp)
 rw [← Array.toList_setIfInBounds, Array.toArray_toList] at h5
 exact h5
end
theorem IsR.went {w w' : World} {b c k k' : Nat} {A : Option Addr} {l : List Int} {tv : Value} {T : List Tok} (h : IsR w b A l c k tv T) (hb : Box w' b #[.slice A l.length c, .int .i64 k', tv] 90) (hg : w.grownBy w' (some b)) (hk : k' ≤ l.length) : IsR w' b A l c k' tv T :=
 ⟨hb, h.toks.keep hg (.inr h.far), h.lies.same (fun q hq => World.cell?_of_block (hg.block q.block (by have := h.lt; omega) (fun e => by injection e with e; omega))), hk, h.cap⟩
set_option maxHeartbeats 1000000 in
theorem tknext_any (w : World) (b c k : Nat) (A : Option Addr) (l : List Int) (tv : Value) (T : List Tok) (h : IsR w b A l c k tv T) (hl : l.length ≤ 1000) :
 Calls Tryz.prog 87 #[.pointer (some ⟨b, 0, none⟩)] w (Told w b A l c tv T (Value.int .i64) (nxT l k)) := by
 obtain ⟨h0, h1, h2⟩ := h.cells
 have hf := h.frozen 1
 have H := Lib.hid h
 by_cases hk : k < l.length
 ·rw [nxT_at hk]
  obtain ⟨p, rfl, -, hc⟩ := h.char hk
  have d1 : ((k : Int) == (l.length : Int)) = false := by simp; omega
  have k0 : (0 : Int) ≤ (k : Int) := by omega
  have k1 : (k : Int) < (l.length : Int) := by omega
  have hw := tkwrap (k := k) (by omega)
  obtain ⟨x, hx⟩ : ∃ x, l[k] = x := ⟨_, rfl⟩
  rw [hx] at hc ⊢
  clear h
  go_enter Tryz.func87, Tryz.ntmps87
  go_wp2
  go_quiet (fail)
  go_wp2
  go_quiet (fail)
  go_wp2
  go_ret
  exact ⟨rfl, (H.out.drewN _).goes (k + 1) (by omega), (grown_draws (grown_refl _ _) _).trans (grown_set _ _ _ _)⟩
 ·have hkl : k = l.length := by have := h.le; omega
  rw [nxT_end (by omega)]
  have d1 : ((k : Int) == (l.length : Int)) = true := by simp; omega
  clear h
  go_enter Tryz.func87, Tryz.ntmps87
  go_wp2
  go_quiet (fail)
  go_wp2
  exact ⟨rfl, rfl, grown_draws (grown_refl _ _) _⟩
theorem beq_eq_decide' (a b : Int) : decide (some a = some b) = (a == b) := by
 by_cases h : a = b <;> simp [h]
theorem IsR.new {w w' : World} {b c k g : Nat} {A : Option Addr} {l : List Int} {tv : Value} {T : List Tok} (h : IsR w b A l c k tv T) (hg : w.grownBy w' (some g)) (hb : b < g) (hv : tv.ownBlock ≠ some g) : IsR w' b A l c k tv T :=
 h.kept hg (by simp; omega) (fun x e => by injection e with e; omega) (.inr hv)
theorem grown_any {w w' : World} (h : w.grownBy w' none) (row : Option Nat) : w.grownBy w' row := ⟨h.os, h.tape, h.output, h.size, fun k hk _ => h.block k hk (by simp)⟩
theorem IsR.old {w : World} {b c k g : Nat} {A : Option Addr} {l : List Int} {tv : Value} {T : List Tok} (h : IsR w b A l c k tv T) (hg : w.heap.size ≤ g) : tv.ownBlock ≠ some g := fun e => by
 have := (h.toks.inside g e).2; omega
theorem intInfo : (Tryz.prog.info? 3).map (·.size) = some 1 := by kernel_rfl
section
variable {ops : Array Oper} {rest : List Oper} {o : Oper} {a : Act} {Q : Exit → Act → World → Prop}
theorem store_at (W : World) (x y : Operand) {b c k : Nat} {A : Option Addr} {l : List Int} {tv : Value} {T : List Tok} (k' : Nat)
 (hgd : o.guard = none) (hd : o.dst = none) (ho : o.op = .store 3 x y) (hx : a.eval x = .pointer (some ⟨b, 1, none⟩)) (hy : a.eval y = .int .i64 (k' : Int)) (h : IsR W b A l c k tv T) (hk : k' ≤ l.length)
 (hn : ∀ w', IsR w' b A l c k' tv T → W.grownBy w' (some b) → wpList Tryz.prog ops Q rest a w') : wpList Tryz.prog ops Q (o :: rest) a W :=
 store_in W x y b 1 (.int .i64 (k' : Int)) _ hgd hd ho intInfo rfl hx hy h.box (by simp) (by simp [maxLen]) fun w' h1 h2 => hn w' (h.went h1 h2 hk) h2
theorem store_char (W : World) (x y : Operand) (g : Nat) (t : Tok) (n : Int)
 (hgd : o.guard = none) (hd : o.dst = none) (ho : o.op = .store 3 x y) (hx : a.eval x = .pointer (some ⟨g, 1, none⟩)) (hy : a.eval y = .int .i64 n) (hb : Box W g t.arr 66)
 (h : ∀ w', Box w' g (⟨t.k, n, t.lo, t.hi, t.pos⟩ : Tok).arr 66 → W.grownBy w' (some g) → wpList Tryz.prog ops Q rest a w') : wpList Tryz.prog ops Q (o :: rest) a W :=
 store_in W x y g 1 (.int .i64 n) _ hgd hd ho intInfo rfl hx hy hb (by simp) (by simp [maxLen]) fun w' h1 h2 => h w' h1 h2
end
def seesB (l : List Int) (i : Nat) (x : Int) : Bool := decide (l[i]? = some x)
set_option maxHeartbeats 1000000 in
theorem tksees_any (w : World) (b c k : Nat) (A : Option Addr) (l : List Int) (tv : Value) (T : List Tok) (h : IsR w b A l c k tv T) (hl : l.length ≤ 1000) (n : Nat) (y x : Int) (hy : y = (n : Int)) (hn : n ≤ 1000) :
 Calls Tryz.prog 94 #[.pointer (some ⟨b, 0, none⟩), .int .i64 y, .int .i64 x] w fun e w' => e = .returned (.bool (seesB l (k + n) x)) ∧ w = w' := by
 subst hy
 obtain ⟨h0, h1, h2⟩ := h.cells
 have hkl := h.le
 obtain ⟨i, hi⟩ : ∃ i, k + n = i := ⟨_, rfl⟩
 have hw : IntKind.i64.wrap ((k : Int) + (n : Int)) = (i : Int) := by rw [IntWalk.i64_in _ (by omega)]; omega
 rw [hi]
 by_cases hk : i < l.length
 ·obtain ⟨p, rfl, -, hc⟩ := h.char hk
  have k0 : (0 : Int) ≤ (i : Int) := by omega
  have k1 : (i : Int) < (l.length : Int) := by omega
  have d1 : decide ((i : Int) < (l.length : Int)) = true := by simpa using hk
  have e1 : seesB l i x = (l[i] == x) := by rw [seesB, List.getElem?_eq_getElem hk]; rw [beq_eq_decide']
  rw [e1]
  obtain ⟨z, hz⟩ : ∃ z, l[i] = z := ⟨_, rfl⟩
  rw [hz] at hc ⊢
  clear h e1 hz hi
  go_enter Tryz.func94, Tryz.ntmps94
  go_wp2
  go_ret
  exact ⟨rfl, rfl⟩
 ·have e1 : seesB l i x = false := by rw [seesB, List.getElem?_eq_none (by omega)]; simp
  have d1 : decide ((i : Int) < (l.length : Int)) = false := by simp; omega
  rw [e1]
  clear h e1 hi
  go_enter Tryz.func94, Tryz.ntmps94
  go_wp2
  go_ret
  exact ⟨rfl, rfl⟩
set_option maxRecDepth 20000 in
set_option maxHeartbeats 1000000 in
theorem tkclass_any (w : World) (b c k : Nat) (A : Option Addr) (l : List Int) (tv : Value) (T : List Tok) (h : IsR w b A l c k tv T) (hl : l.length ≤ 1000) :
 Calls Tryz.prog 91 #[.pointer (some ⟨b, 0, none⟩)] w fun e w' => e = .returned (.agg (claT l k).1.arr) ∧ IsR w' b A l c (claT l k).2 tv T ∧ w.grownBy w' (some b) := by
 obtain ⟨w0, hw0⟩ : ∃ u, w.alloc (.cells #[.int .i64 0, .int .i64 0, .int .i64 0, .int .i64 0, .int .i64 0] 66) = u := ⟨_, rfl⟩
 have X0 : Hid (Box w0 w.heap.size noTok.arr 66) := Lib.hid (hw0 ▸ Box.new w _ _)
 have G0 : Hid (w.grownBy w0 none) := Lib.hid (hw0 ▸ grown_new w _ _)
 have H0 : Hid (IsR w0 b A l c k tv T) := Lib.hid (h.grown G0.out)
 have hbw := h.lt
 have HO : Hid (∀ g, w.heap.size ≤ g → tv.ownBlock ≠ some g) := Lib.hid fun g hg => h.old hg
 have Z0 : Hid (w0.heap.size = w.heap.size + 1) := Lib.hid (by rw [← hw0]; simp)
 have HW0 := Lib.hid hw0
 clear h hw0
 obtain ⟨w1, hw1⟩ : ∃ u, w0.alloc (.cells #[.int .i64 7, .int .i64 0, .int .i64 0, .int .i64 0, .int .i64 0] 66) = u := ⟨_, rfl⟩
 have HW1 := Lib.hid hw1
 have X1 : Hid (Box w1 (w.heap.size + 1) (⟨7, 0, 0, 0, 0⟩ : Tok).arr 66) := Lib.hid (by rw [← Z0.out, ← hw1]; exact Box.new w0 _ _)
 have Y1 : Hid (Box w1 w.heap.size noTok.arr 66) := Lib.hid (X0.out.kept (hw1 ▸ grown_new w0 _ none) (by simp))
 have G1 : Hid (w.grownBy w1 none) := Lib.hid (G0.out.trans (hw1 ▸ grown_new w0 _ _))
 have H1 : Hid (IsR w1 b A l c k tv T) := Lib.hid (H0.out.grown (hw1 ▸ grown_new w0 _ _))
 clear hw1
 rcases hs : seesB l (k + 0) 94 with _ | _
 ·have HC : Hid (claT l k = (⟨7, 0, 0, 0, 0⟩, k)) := Lib.hid (by unfold claT; rw [if_neg (by simpa [seesB] using hs)])
  rw [HC.out]
  have HS := Lib.hid hs
  clear hs
  go_enter Tryz.func91, Tryz.ntmps91
  go_wp2_with fail
  rw [HW0.out, HW1.out]
  refine (tksees_any w1 b c k A l tv T H1.out hl 0 0 94 rfl (by omega)).mono ?_
  rintro e wq ⟨rfl, rfl⟩
  rw [HS.out]
  go_wp2_with (first
   | (refine load_box _ (w.heap.size + 1) _ _ rfl rfl rfl X1.out Tryz.underlying66 rfl (tokInfo _) ?_)
   | (refine store_tok w1 _ _ w.heap.size noTok ⟨7, 0, 0, 0, 0⟩ rfl rfl rfl rfl rfl Y1.out ?_; intro w2 x2 g2; have X2 := Lib.hid x2; have G2 := Lib.hid g2; clear x2 g2)
   | fail)
  (try simp only [Exit.inBlock, Exit.then])
  exact bodyPost_ret (v := .agg (⟨7, 0, 0, 0, 0⟩ : Tok).arr) (ret_tok rfl _ _ w.heap.size _ rfl X2.out) rfl ⟨rfl, H1.out.new G2.out hbw (HO.out _ (Nat.le_refl _)), grown_two (grown_any G1.out _) G2.out (Nat.le_refl _)⟩
 ·have hk : k < l.length := by
   rw [seesB, Nat.add_zero] at hs
   exact (List.getElem?_eq_some_iff.1 (of_decide_eq_true hs)).1
  have HC : Hid (claT l k = (⟨7, 1, 0, 0, 0⟩, k + 1)) := Lib.hid (by unfold claT; rw [if_pos (by simpa [seesB] using hs)])
  rw [HC.out]
  have HS := Lib.hid hs
  have hw := tkwrap (k := k) (by omega)
  obtain ⟨h0, h1, h2⟩ := H1.out.cells
  clear hs
  go_enter Tryz.func91, Tryz.ntmps91
  go_wp2_with fail
  rw [HW0.out, HW1.out]
  refine (tksees_any w1 b c k A l tv T H1.out hl 0 0 94 rfl (by omega)).mono ?_
  rintro e wq ⟨rfl, rfl⟩
  rw [HS.out]
  go_wp2_with (first
   | (refine store_at w1 _ _ (k + 1) rfl rfl rfl rfl rfl H1.out hk ?_; intro w2 h2 g2; have H2 := Lib.hid h2; have X2 := Lib.hid (X1.out.kept g2 (by simp; omega)); have Y2 := Lib.hid (Y1.out.kept g2 (by simp; omega)); have G2 := Lib.hid ((grown_any G1.out (some b)).trans g2); clear h2 g2)
   | (refine store_char w2 _ _ (w.heap.size + 1) ⟨7, 0, 0, 0, 0⟩ 1 rfl rfl rfl rfl rfl X2.out ?_; intro w3 x3 g3; have H3 := Lib.hid (H2.out.new g3 (by omega) (HO.out _ (by omega))); have X3 : Hid (Box w3 (w.heap.size + 1) (⟨7, 1, 0, 0, 0⟩ : Tok).arr 66) := Lib.hid x3; have Y3 := Lib.hid (Y2.out.kept g3 (by simp)); have G3 := Lib.hid (grown_two G2.out g3 (by omega)); clear x3 g3)
   | (refine load_box _ (w.heap.size + 1) _ _ rfl rfl rfl X3.out Tryz.underlying66 rfl (tokInfo _) ?_)
   | (refine store_tok w3 _ _ w.heap.size noTok ⟨7, 1, 0, 0, 0⟩ rfl rfl rfl rfl rfl Y3.out ?_; intro w4 x4 g4; have X4 := Lib.hid x4; have G4 := Lib.hid g4; clear x4 g4)
   | fail)
  (try simp only [Exit.inBlock, Exit.then])
  exact bodyPost_ret (v := .agg (⟨7, 1, 0, 0, 0⟩ : Tok).arr) (ret_tok rfl _ _ w.heap.size _ rfl X4.out) rfl ⟨rfl, H3.out.new G4.out hbw (HO.out _ (Nat.le_refl _)), grown_two G3.out G4.out (Nat.le_refl _)⟩
end Go.Proofs.YtkojnnjcgcllmaaGreatDoor
