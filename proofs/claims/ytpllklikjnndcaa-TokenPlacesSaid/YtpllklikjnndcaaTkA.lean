/- Layer 15: in memory: boxes, the reader; char, Sign, Escape, alone. -/
import Derived.Test.YtpllklikjnndcaaTkM
import Derived.Test.YtpllklikjnndcaaWide
import Derived.Test.YtpllklikjnndcaaGrn
import Derived.Test.YtpllklikjnndcaaPure
import Derived.Test.YtpllklikjnndcaaChecked
import Derived.Deep.MidRow
namespace Go.Proofs.Ytpllklikjnndcaa
open Go.RowKit Reckon

/-- a block of cells, all of it -/
def Box (w : World) (g : Nat) (cs : Array Value) (e : TypeId) : Prop := w.heap[g]? = some (.cells cs e)
section
variable {w w' : World} {g : Nat} {cs : Array Value} {e : TypeId}
theorem Box.lt (h : Box w g cs e) : g < w.heap.size := (Array.getElem?_eq_some_iff.1 h).1
theorem Box.new (w : World) (cs : Array Value) (e : TypeId) : Box (w.alloc (.cells cs e)) w.heap.size cs e := heap_alloc_new w _
theorem Box.cell (h : Box w g cs e) {i : Nat} {u : Value} (hi : cs[i]? = some u) : w.cell? ⟨g, i, none⟩ = some u := by simp [World.cell?, show w.heap[g]? = _ from h, hi]
theorem Box.frozen (h : Box w g cs e) (i : Nat) : w.frozen? ⟨g, i, none⟩ = false := by simp [World.frozen?, show w.heap[g]? = _ from h]
theorem Box.kept (h : Box w g cs e) {row : Option Nat} (hg : w.grownBy w' row) (hne : row ≠ some g) : Box w' g cs e := (hg.block g h.lt (fun e => hne e.symm)).trans h
theorem Box.below (h : Box w g cs e) {B : Nat} (hb : Below B w w') (hB : g < B) : Box w' g cs e := (hb.block g hB).trans h
theorem Box.same (h : Box w g cs e) (hh : w'.heap = w.heap) : Box w' g cs e := by unfold Box; rw [hh]; exact h
theorem Box.set (h : Box w g cs e) (i : Nat) (u : Value) : Box (w.setCell ⟨g, i, none⟩ u) g (cs.setIfInBounds i u) e := by
  show (w.setCell ⟨g, i, none⟩ u).heap[g]? = _
  simp [World.setCell, Array.getElem?_modify, show w.heap[g]? = _ from h]
end
theorem grown_set (w : World) (g i : Nat) (u : Value) : w.grownBy (w.setCell ⟨g, i, none⟩ u) (some g) :=
  ⟨rfl, rfl, rfl, by simp [World.setCell], fun k hk hne => Below.heap_setCell _ _ _ _ (fun e => hne (by rw [e]))⟩
theorem grown_new (w : World) (o : Obj) (row : Option Nat) : w.grownBy (w.alloc o) row := World.grownBy_alloc w o row
theorem grown_draw {a w : World} {row : Option Nat} (h : a.grownBy w row) : a.grownBy w.drew row := ⟨h.os, h.tape, h.output, h.size, h.block⟩
theorem grown_draws {a w : World} {row : Option Nat} (h : a.grownBy w row) (n : Nat) : a.grownBy (w.drewN n) row := ⟨h.os, h.tape, h.output, h.size, h.block⟩
theorem grown_refl (w : World) (row : Option Nat) : w.grownBy w row := World.grownBy.refl w row
theorem below_row {B b : Nat} {w w' : World} (h : w.grownBy w' (some b)) (hB : B ≤ b) (hw : B ≤ w.heap.size) : Below B w w' := (Below.refl B w).grown h hw (fun k hk => by injection hk with hk; omega)


theorem below_row_none {B : Nat} {w w' : World} (h : w.grownBy w' none) (hw : B ≤ w.heap.size) : Below B w w' := (Below.refl B w).grown h hw (fun k hk => by cases hk)
/-- a whole box is stored anew, in the text's order -/
theorem setCells_box (b : Nat) : ∀ (vs : List Value) (o : Nat) (w : World) (cs : Array Value) (e : TypeId), Box w b cs e → o + vs.length = cs.size → Box (w.setCells b o vs) b (cs.toList.take o ++ vs).toArray e ∧ w.grownBy (w.setCells b o vs) (some b)
  | [], o, w, cs, e, h, hn => ⟨by rw [List.append_nil, List.take_of_length_le (by simp at hn ⊢; omega)]; exact h, grown_refl _ _⟩
  | v :: r, o, w, cs, e, h, hn => by
    rw [World.setCells]
    have ho : o < cs.size := by simp at hn; omega
    obtain ⟨h1, h2⟩ := setCells_box b r (o + 1) _ _ e (h.set o v) (by simp at hn ⊢; omega)
    refine ⟨?_, (grown_set w b o v).trans h2⟩
    have e1 : (cs.setIfInBounds o v).toList.take (o + 1) = cs.toList.take o ++ [v] := by
      rw [Array.toList_setIfInBounds, List.take_succ_eq_append_getElem (by simpa using ho), List.getElem_set_self, List.take_set_of_le (Nat.le_refl _)]
    rw [e1, List.append_assoc, List.singleton_append] at h1
    exact h1
section
variable {P : Program} {ops : Array Oper} {rest : List Oper} {o : Oper} {a : Act} {Q : Exit → Act → World → Prop}
/-- at a store of a whole struct into its box -/
theorem store_box {ty e : TypeId} (W : World) (x y : Operand) (g : Nat) (cs vs : Array Value)
    (hgd : o.guard = none) (hd : o.dst = none) (ho : o.op = .store ty x y) (hx : a.eval x = .pointer (some ⟨g, 0, none⟩)) (hy : a.eval y = .agg vs) (hb : Box W g cs e) (hs : vs.size = cs.size)
    (hi : (P.info? ty).map (·.size) = some vs.size) (h1 : vs.all (·.oneCell') = true)
    (h : ∀ w', Box w' g vs e → W.grownBy w' (some g) → wpList P ops Q rest a w') : wpList P ops Q (o :: rest) a W := by
  refine wpList_store_mid hgd ty x y ho g 0 vs hx hy (fun j hj => ?_) hi h1 ?_
  · rw [Nat.zero_add]
    exact ⟨by rw [hb.cell (Array.getElem?_eq_getElem (show j < cs.size by omega))]; rfl, hb.frozen j⟩
  · obtain ⟨h2, h3⟩ := setCells_box g vs.toList 0 W cs e hb (by simp [hs])
    simp only [List.take_zero, List.nil_append, Array.toArray_toList] at h2
    have ha : a.put o.dst undef = a := by rw [hd]; rfl
    rw [ha]
    exact h _ h2 h3
/-- at a load of a whole struct out of its box -/
theorem load_box {ty e : TypeId} {W : World} (x : Operand) (g : Nat) (cs : Array Value) (d : TypeDesc)
    (hgd : o.guard = none) (ho : o.op = .load ty x) (hx : a.eval x = .pointer (some ⟨g, 0, none⟩)) (hb : Box W g cs e)
    (hu : P.underlying ty = some d) (hd : (match d with | .struct _ | .array _ _ => true | _ => false) = true) (hi : (P.info? ty).map (·.size) = some cs.size)
    (h : wpList P ops Q rest (a.put o.dst (.agg cs)) W) : wpList P ops Q (o :: rest) a W :=
  wpList_load_row hgd ty x ho g hx e cs _ d hb hu hd hi h
end

/-! the reader -/
/-- it lies in block b: the pattern, where it goes on, the tokens that are read -/
structure IsR (w : World) (b : Nat) (A : Option Addr) (l : List Int) (c k : Nat) (tv : Value) (T : List Tok) : Prop where
  box : Box w b #[.slice A l.length c, .int .i64 k, tv] 44
  toks : OwnN w b 30 5 tv T.length (tokCells T)
  lies : Lies w b A (ints .i64 l)
  le : k ≤ l.length
  cap : l.length ≤ c
section
variable {w w' : World} {b c k : Nat} {A : Option Addr} {l : List Int} {tv : Value} {T : List Tok}
theorem IsR.far (h : IsR w b A l c k tv T) : tv.ownBlock ≠ some b := fun e => by
  rcases h.toks.2 with ⟨rfl, _⟩ | ⟨g, cap, cur, rfl, _, hh, _⟩
  · cases e
  · have : g = b := by simpa [Value.ownBlock] using e
    subst this
    have hb := h.box
    unfold Box at hb
    rw [hb] at hh
    injection hh with h1
    injection h1 with _ h2 _
    exact absurd h2 (by decide)
theorem IsR.lt (h : IsR w b A l c k tv T) : b < w.heap.size := h.box.lt
/-- all else stays, but maybe a block that is not the reader's -/
theorem IsR.kept (h : IsR w b A l c k tv T) {row : Option Nat} (hg : w.grownBy w' row) (h1 : row ≠ some b) (h2 : ∀ g, row = some g → b ≤ g) (h3 : tv.ownBlock = none ∨ tv.ownBlock ≠ row) : IsR w' b A l c k tv T :=
  ⟨h.box.kept hg h1, h.toks.keep hg h3, h.lies.same (fun q hq => World.cell?_of_block (hg.block q.block (by have := h.lt; omega) (fun e => by have := h2 _ e.symm; omega))), h.le, h.cap⟩
theorem IsR.grown (h : IsR w b A l c k tv T) (hg : w.grownBy w' none) : IsR w' b A l c k tv T := h.kept hg (by simp) (fun g e => by cases e) (by cases tv.ownBlock <;> simp)
theorem IsR.alloc (h : IsR w b A l c k tv T) (o : Obj) : IsR (w.alloc o) b A l c k tv T := h.grown (grown_new w o none)
theorem IsR.drew (h : IsR w b A l c k tv T) : IsR w.drew b A l c k tv T := h.grown (grown_draw (grown_refl w none))
theorem IsR.drewN (h : IsR w b A l c k tv T) (n : Nat) : IsR (w.drewN n) b A l c k tv T := h.grown (grown_draws (grown_refl w none) n)
theorem IsR.cells (h : IsR w b A l c k tv T) : w.cell? ⟨b, 0, none⟩ = some (.slice A l.length c) ∧ w.cell? ⟨b, 1, none⟩ = some (.int .i64 k) ∧ w.cell? ⟨b, 2, none⟩ = some tv :=
  ⟨h.box.cell rfl, h.box.cell rfl, h.box.cell rfl⟩
theorem IsR.frozen (h : IsR w b A l c k tv T) (i : Nat) : w.frozen? ⟨b, i, none⟩ = false := h.box.frozen i
/-- it goes on from elsewhere -/
theorem IsR.goes (h : IsR w b A l c k tv T) (k' : Nat) (hk : k' ≤ l.length) : IsR (w.setCell ⟨b, 1, none⟩ (.int .i64 k')) b A l c k' tv T :=
  ⟨h.box.set 1 _, h.toks.keep (grown_set w b 1 _) (.inr h.far), h.lies.same (fun q hq => World.cell?_of_block ((grown_set w b 1 _).block q.block (by have := h.lt; omega) (fun e => by injection e with e; omega))), hk, h.cap⟩
/-- the pattern's character there -/
theorem IsR.char (h : IsR w b A l c k tv T) {i : Nat} (hi : i < l.length) : ∃ p : Addr, A = some p ∧ p.block < b ∧ w.cell? (p.add i) = some (.int .i64 l[i]) := h.lies.int hi
end
/-- what a call of the reader's answers: read, and it goes on behind it; or wrong -/
def Told (w : World) (b : Nat) (A : Option Addr) (l : List Int) (c : Nat) (tv : Value) (T : List Tok) {α : Type} (f : α → Value) (r : Wr (α × Nat)) (ed : Ending) (w' : World) : Prop := match r with
  | .ok (v, k') => ed = .returned (f v) ∧ IsR w' b A l c k' tv T ∧ w.grownBy w' (some b)
  | .error (n, x) => ed = .panicked [{ v := .iface 38 (.agg #[.int .i64 n, .int .i64 x]), recovered := false }] ∧ w.grownBy w' (some b)
theorem tok_one (t : Tok) : t.arr.all (·.oneCell') = true := by simp [Tok.arr, Value.oneCell']
theorem tokInfo (t : Tok) : (Try.prog.info? 30).map (·.size) = some t.arr.size := by kernel_rfl
/-- at a store of a token into its box -/
theorem store_tok {ops : Array Oper} {rest : List Oper} {o : Oper} {a : Act} {Q : Exit → Act → World → Prop} (W : World) (x y : Operand) (g : Nat) (s t : Tok)
    (hgd : o.guard = none) (hd : o.dst = none) (ho : o.op = .store 30 x y) (hx : a.eval x = .pointer (some ⟨g, 0, none⟩)) (hy : a.eval y = .agg t.arr) (hb : Box W g s.arr 30)
    (h : ∀ w', Box w' g t.arr 30 → W.grownBy w' (some g) → wpList Try.prog ops Q rest a w') : wpList Try.prog ops Q (o :: rest) a W :=
  store_box W x y g s.arr t.arr hgd hd ho hx hy hb rfl (tokInfo t) (tok_one t) h
def noTok : Tok := ⟨0, 0, 0, 0, 0⟩
/-- a token's result cell -/
theorem ret_tok {fn : Func} {p : Nat} (h : fn.results = #[.cell p 30]) (tmps : Array Value) (w : World) (g : Nat) (t : Tok) (hp : tmps.getD p undef = .pointer (some ⟨g, 0, none⟩)) (hg : Box w g t.arr 30) :
    (results fn tmps).run Try.prog w = .ok (.agg t.arr) w :=
  results_cell_row h tmps w g 30 t.arr (0, 0) _ hp hg Try.underlying30 rfl (tokInfo t)
/-- what stays while a new block is written -/
theorem grown_two {a b c : World} {g : Nat} {row : Option Nat} (h : a.grownBy b row) (k : b.grownBy c (some g)) (hg : a.heap.size ≤ g) : a.grownBy c row :=
  ⟨k.os.trans h.os, k.tape.trans h.tape, k.output.trans h.output, Nat.le_trans h.size k.size, fun i hi hr => (k.block i (by have := h.size; omega) (fun e => by injection e with e; omega)).trans (h.block i hi hr)⟩

/-! what only reckons -/
theorem tkchar_any (x : Int) (w : World) : Calls Try.prog 31 #[.int .i64 x] w fun e w' => e = .returned (.agg (chT x).arr) ∧ w.grownBy w' none := by
  go_enter Try.func31, Try.ntmps31
  go_wp2
  (try simp only [Exit.inBlock, Exit.then])
  refine bodyPost_ret (v := .agg (chT x).arr) ?_ rfl ⟨rfl, grown_new w _ none⟩
  exact results_cell_row rfl _ _ w.heap.size 30 _ (0, 0) _ rfl (Go.heap_alloc_new w _) Try.underlying30 rfl (by kernel_rfl)

theorem tkstep {c : Int} {a : AV} {l : List (Int × AV)} {b : Bool} (h : stepF c a l = .boo b) : (stepF c a l).val c = .bool b := by rw [h]; rfl
noncomputable def signTab : List (Nat × Func) := [(12, Try.f12)]
theorem signTab_ok : TabOk Try.prog signTab := .cons Try.func12 (by kernel_rfl) .nil
def signSteps : List (Int × AV) := [(36, .boo true), (37, .boo false), (40, .boo true), (41, .boo true), (42, .boo true), (43, .boo true), (44, .boo false), (45, .boo true), (46, .boo true), (47, .boo true), (48, .boo false), (63, .boo true), (64, .boo false), (91, .boo true), (92, .boo true), (93, .boo true), (94, .boo true), (95, .boo false), (123, .boo true), (124, .boo true), (125, .boo true), (126, .boo false)]
theorem sign_steps (x : Int) : stepF x (.boo false) signSteps = .boo (signI x) := by
  simp only [stepF, signSteps]
  by_cases h36 : x < 36
  · rw [if_pos h36]; congr 1; symm; simp [signI]; omega
  rw [if_neg h36]
  by_cases h37 : x < 37
  · rw [if_pos h37]; congr 1; symm; simp [signI]; omega
  rw [if_neg h37]
  by_cases h40 : x < 40
  · rw [if_pos h40]; congr 1; symm; simp [signI]; omega
  rw [if_neg h40]
  by_cases h41 : x < 41
  · rw [if_pos h41]; congr 1; symm; simp [signI]; omega
  rw [if_neg h41]
  by_cases h42 : x < 42
  · rw [if_pos h42]; congr 1; symm; simp [signI]; omega
  rw [if_neg h42]
  by_cases h43 : x < 43
  · rw [if_pos h43]; congr 1; symm; simp [signI]; omega
  rw [if_neg h43]
  by_cases h44 : x < 44
  · rw [if_pos h44]; congr 1; symm; simp [signI]; omega
  rw [if_neg h44]
  by_cases h45 : x < 45
  · rw [if_pos h45]; congr 1; symm; simp [signI]; omega
  rw [if_neg h45]
  by_cases h46 : x < 46
  · rw [if_pos h46]; congr 1; symm; simp [signI]; omega
  rw [if_neg h46]
  by_cases h47 : x < 47
  · rw [if_pos h47]; congr 1; symm; simp [signI]; omega
  rw [if_neg h47]
  by_cases h48 : x < 48
  · rw [if_pos h48]; congr 1; symm; simp [signI]; omega
  rw [if_neg h48]
  by_cases h63 : x < 63
  · rw [if_pos h63]; congr 1; symm; simp [signI]; omega
  rw [if_neg h63]
  by_cases h64 : x < 64
  · rw [if_pos h64]; congr 1; symm; simp [signI]; omega
  rw [if_neg h64]
  by_cases h91 : x < 91
  · rw [if_pos h91]; congr 1; symm; simp [signI]; omega
  rw [if_neg h91]
  by_cases h92 : x < 92
  · rw [if_pos h92]; congr 1; symm; simp [signI]; omega
  rw [if_neg h92]
  by_cases h93 : x < 93
  · rw [if_pos h93]; congr 1; symm; simp [signI]; omega
  rw [if_neg h93]
  by_cases h94 : x < 94
  · rw [if_pos h94]; congr 1; symm; simp [signI]; omega
  rw [if_neg h94]
  by_cases h95 : x < 95
  · rw [if_pos h95]; congr 1; symm; simp [signI]; omega
  rw [if_neg h95]
  by_cases h123 : x < 123
  · rw [if_pos h123]; congr 1; symm; simp [signI]; omega
  rw [if_neg h123]
  by_cases h124 : x < 124
  · rw [if_pos h124]; congr 1; symm; simp [signI]; omega
  rw [if_neg h124]
  by_cases h125 : x < 125
  · rw [if_pos h125]; congr 1; symm; simp [signI]; omega
  rw [if_neg h125]
  by_cases h126 : x < 126
  · rw [if_pos h126]; congr 1; symm; simp [signI]; omega
  rw [if_neg h126]
  congr 1; symm; simp [signI]; omega
theorem tksign_any (x : Int) (w : World) : Calls Try.prog 12 #[.int .i64 x] w fun e w' => e = .returned (.bool (signI x)) ∧ w = w' := by
  have h := calls_step signTab_ok (keep := 60) (m := 1) (f := 12) (v0 := .boo false) (l := signSteps) (by kernel_rfl) x w
  rw [tkstep (sign_steps x)] at h
  exact h

/-- what an escape's call answers -/
def escV (x : Int) : Value := match escI x with
  | some (z, g) => .tuple #[.int .i64 z, .bool g, .bool true]
  | none => .tuple #[.int .i64 0, .bool false, .bool false]
set_option maxHeartbeats 1000000 in
theorem tkescape_any (x : Int) (w : World) : Calls Try.prog 11 #[.int .i64 x] w fun e w' => e = .returned (escV x) ∧ w = w' := by
  by_cases h110 : x = 110
  · subst h110
    have he : escV 110 = .tuple #[.int .i64 10, .bool false, .bool true] := rfl
    rw [he]
    go_enter Try.func11, Try.ntmps11
    go_wp2
    go_ret3
    exact ⟨rfl, rfl⟩
  by_cases h116 : x = 116
  · subst h116
    have he : escV 116 = .tuple #[.int .i64 9, .bool false, .bool true] := rfl
    rw [he]
    go_enter Try.func11, Try.ntmps11
    go_wp2
    go_ret3
    exact ⟨rfl, rfl⟩
  by_cases h100 : x = 100
  · subst h100
    have he : escV 100 = .tuple #[.int .i64 100, .bool true, .bool true] := rfl
    rw [he]
    go_enter Try.func11, Try.ntmps11
    go_wp2
    go_ret3
    exact ⟨rfl, rfl⟩
  by_cases h119 : x = 119
  · subst h119
    have he : escV 119 = .tuple #[.int .i64 119, .bool true, .bool true] := rfl
    rw [he]
    go_enter Try.func11, Try.ntmps11
    go_wp2
    go_ret3
    exact ⟨rfl, rfl⟩
  by_cases h115 : x = 115
  · subst h115
    have he : escV 115 = .tuple #[.int .i64 115, .bool true, .bool true] := rfl
    rw [he]
    go_enter Try.func11, Try.ntmps11
    go_wp2
    go_ret3
    exact ⟨rfl, rfl⟩
  by_cases h68 : x = 68
  · subst h68
    have he : escV 68 = .tuple #[.int .i64 68, .bool true, .bool true] := rfl
    rw [he]
    go_enter Try.func11, Try.ntmps11
    go_wp2
    go_ret3
    exact ⟨rfl, rfl⟩
  by_cases h87 : x = 87
  · subst h87
    have he : escV 87 = .tuple #[.int .i64 87, .bool true, .bool true] := rfl
    rw [he]
    go_enter Try.func11, Try.ntmps11
    go_wp2
    go_ret3
    exact ⟨rfl, rfl⟩
  by_cases h83 : x = 83
  · subst h83
    have he : escV 83 = .tuple #[.int .i64 83, .bool true, .bool true] := rfl
    rw [he]
    go_enter Try.func11, Try.ntmps11
    go_wp2
    go_ret3
    exact ⟨rfl, rfl⟩
  have he : escV x = if signI x = true then .tuple #[.int .i64 x, .bool false, .bool true] else .tuple #[.int .i64 0, .bool false, .bool false] := by
    unfold escV escI
    rw [if_neg h110, if_neg h116, if_neg (by omega)]
    by_cases hs : signI x = true
    · rw [if_pos hs, if_pos hs]
    · rw [if_neg hs, if_neg hs]
  rw [he]
  have d110 : (x == 110) = false := by simpa using h110
  have d116 : (x == 116) = false := by simpa using h116
  have d100 : (x == 100) = false := by simpa using h100
  have d119 : (x == 119) = false := by simpa using h119
  have d115 : (x == 115) = false := by simpa using h115
  have d68 : (x == 68) = false := by simpa using h68
  have d87 : (x == 87) = false := by simpa using h87
  have d83 : (x == 83) = false := by simpa using h83
  clear he h110 h116 h100 h119 h115 h68 h87 h83
  rcases hs : signI x with _ | _
  · rw [if_neg (by simp)]
    have HS := Lib.hid hs
    clear hs
    go_enter Try.func11, Try.ntmps11
    go_wp2_with fail
    refine (tksign_any x w).mono ?_
    rintro e wq ⟨rfl, rfl⟩
    rw [HS.out]
    go_wp2
    go_ret3
    exact ⟨rfl, rfl⟩
  · rw [if_pos rfl]
    have HS := Lib.hid hs
    clear hs
    go_enter Try.func11, Try.ntmps11
    go_wp2_with fail
    refine (tksign_any x w).mono ?_
    rintro e wq ⟨rfl, rfl⟩
    rw [HS.out]
    go_wp2
    go_ret3
    exact ⟨rfl, rfl⟩

set_option maxHeartbeats 1000000 in
theorem tkalone_any (x : Int) (w : World) : Calls Try.prog 25 #[.int .i64 x] w fun e w' => e = .returned (.agg (aloT x).arr) ∧ w.grownBy w' none := by
  by_cases h46 : x = 46
  · subst h46
    go_enter Try.func25, Try.ntmps25
    go_wp2
    (try simp only [Exit.inBlock, Exit.then])
    refine bodyPost_ret (v := .agg (aloT 46).arr) ?_ rfl ⟨rfl, grown_new w _ none⟩
    exact results_cell_row rfl _ _ w.heap.size 30 _ (0, 0) _ rfl (Go.heap_alloc_new w _) Try.underlying30 rfl (by kernel_rfl)
  by_cases h40 : x = 40
  · subst h40
    go_enter Try.func25, Try.ntmps25
    go_wp2
    (try simp only [Exit.inBlock, Exit.then])
    refine bodyPost_ret (v := .agg (aloT 40).arr) ?_ rfl ⟨rfl, grown_new w _ none⟩
    exact results_cell_row rfl _ _ w.heap.size 30 _ (0, 0) _ rfl (Go.heap_alloc_new w _) Try.underlying30 rfl (by kernel_rfl)
  by_cases h41 : x = 41
  · subst h41
    go_enter Try.func25, Try.ntmps25
    go_wp2
    (try simp only [Exit.inBlock, Exit.then])
    refine bodyPost_ret (v := .agg (aloT 41).arr) ?_ rfl ⟨rfl, grown_new w _ none⟩
    exact results_cell_row rfl _ _ w.heap.size 30 _ (0, 0) _ rfl (Go.heap_alloc_new w _) Try.underlying30 rfl (by kernel_rfl)
  by_cases h124 : x = 124
  · subst h124
    go_enter Try.func25, Try.ntmps25
    go_wp2
    (try simp only [Exit.inBlock, Exit.then])
    refine bodyPost_ret (v := .agg (aloT 124).arr) ?_ rfl ⟨rfl, grown_new w _ none⟩
    exact results_cell_row rfl _ _ w.heap.size 30 _ (0, 0) _ rfl (Go.heap_alloc_new w _) Try.underlying30 rfl (by kernel_rfl)
  by_cases h94 : x = 94
  · subst h94
    go_enter Try.func25, Try.ntmps25
    go_wp2
    (try simp only [Exit.inBlock, Exit.then])
    refine bodyPost_ret (v := .agg (aloT 94).arr) ?_ rfl ⟨rfl, grown_new w _ none⟩
    exact results_cell_row rfl _ _ w.heap.size 30 _ (0, 0) _ rfl (Go.heap_alloc_new w _) Try.underlying30 rfl (by kernel_rfl)
  by_cases h36 : x = 36
  · subst h36
    go_enter Try.func25, Try.ntmps25
    go_wp2
    (try simp only [Exit.inBlock, Exit.then])
    refine bodyPost_ret (v := .agg (aloT 36).arr) ?_ rfl ⟨rfl, grown_new w _ none⟩
    exact results_cell_row rfl _ _ w.heap.size 30 _ (0, 0) _ rfl (Go.heap_alloc_new w _) Try.underlying30 rfl (by kernel_rfl)
  have he : aloT x = chT x := by unfold aloT; rw [if_neg h46, if_neg h40, if_neg h41, if_neg h124, if_neg h94, if_neg h36]
  rw [he]
  have d46 : (x == 46) = false := by simpa using h46
  have d40 : (x == 40) = false := by simpa using h40
  have d41 : (x == 41) = false := by simpa using h41
  have d124 : (x == 124) = false := by simpa using h124
  have d94 : (x == 94) = false := by simpa using h94
  have d36 : (x == 36) = false := by simpa using h36
  clear he h46 h40 h41 h124 h94 h36
  go_enter Try.func25, Try.ntmps25
  go_wp2_with fail
  refine (tkchar_any x _).mono ?_
  rintro e w1 ⟨rfl, g1⟩
  have X1 := (Box.new w _ _).kept g1 (by simp)
  have G1 := Lib.hid ((grown_new w _ none).trans g1)
  have X1 := Lib.hid X1
  clear g1
  go_wp2_with (first
    | (refine store_tok w1 _ _ w.heap.size noTok (chT x) rfl rfl rfl rfl rfl X1.out ?_; intro w2 x2 g2; have X2 := Lib.hid x2; have G2 := Lib.hid g2; clear x2 g2)
    | fail)
  (try simp only [Exit.inBlock, Exit.then])
  exact bodyPost_ret (v := .agg (chT x).arr) (ret_tok rfl _ _ w.heap.size (chT x) rfl X2.out) rfl ⟨rfl, grown_two G1.out G2.out (Nat.le_refl _)⟩
end Go.Proofs.Ytpllklikjnndcaa
