/- Shared texts, shaken for one claim. -/
import Derived.Deep.DeepCutAuto
import Derived.Test.YtadfleopbpomfaaZA3
import Derived.Test.YtadfleopbpomfaaZA4
import Derived.Test.YtadfleopbpomfaaZA8
namespace Go.Proofs.Ytadfleopbpomfaa
open Go.RowKit
section
variable {w w' w'' : World} {B g : Nat} {x : X6} {lsl sv lv cv v : Value} {z : Int}
theorem IsX.rowL (h : IsX w B g x lsl sv lv cv) (hg : w.grownBy w' lv.ownBlock) : OwnN w' B 74 1 (.slice (some ⟨g, 0, none⟩) 9 9) 9 (x.cells sv lv cv lsl) := h.row.keep hg (.inr fun e => h.far.2.1 e.symm)
theorem IsX.rowC (h : IsX w B g x lsl sv lv cv) (hg : w.grownBy w' cv.ownBlock) : OwnN w' B 74 1 (.slice (some ⟨g, 0, none⟩) 9 9) 9 (x.cells sv lv cv lsl) := h.row.keep hg (.inr fun e => h.far.2.2 e.symm)
theorem grow_ne {u : Value} {k : Nat} (he : v.ownBlock = u.ownBlock ∨ ∃ q, v.ownBlock = some q ∧ w.heap.size ≤ q) (hu : u.ownBlock ≠ some k) (hk : k < w.heap.size) : v.ownBlock ≠ some k := by
 rcases he with he | ⟨q, he, hq⟩
 ·rw [he]; exact hu
 ·rw [he]; intro e; injection e with e; omega
theorem grow_apart {e : TypeId} {s n : Nat} {u t : Value} {xs : List Value} (he : v.ownBlock = u.ownBlock ∨ ∃ q, v.ownBlock = some q ∧ w.heap.size ≤ q) (hu : Apart u t) (ht : OwnN w B e s t n xs) : Apart v t := by
 rcases he with he | ⟨q, he, hq⟩
 ·unfold Apart at *; rw [he]; exact hu
 ·refine .inr fun e1 => ?_
  have := (ht.inside q (by rw [← e1, he])).2
  omega
theorem IsX.pushL (h : IsX w B g x lsl sv lv cv) (o : OwnN w' B 3 1 v (x.levels.length + 1) (ints .i64 x.levels ++ [.int .i64 z])) (hg : w.grownBy w' lv.ownBlock) (he : v.ownBlock = lv.ownBlock ∨ ∃ q, v.ownBlock = some q ∧ w.heap.size ≤ q)
 (r : OwnN w'' B 74 1 (.slice (some ⟨g, 0, none⟩) 9 9) 9 ((x.cells sv lv cv lsl).set 6 v)) (hg2 : w'.grownBy w'' (some g)) : IsX w'' B g { x with levels := x.levels ++ [z] } lsl sv v cv := by
 obtain ⟨f1, f2, f3⟩ := h.far
 have hin := h.inside
 refine ⟨r, (h.stack.keep hg (h.stack.unlike h.levels (by decide))).keep hg2 (.inr f1), ?_, (h.classes.keep hg ?_).keep hg2 (.inr f3), grow_apart he h.apart h.classes⟩
 ·have := o.keep hg2 (.inr (grow_ne he f2 hin.2))
  simpa [ints] using this
 ·have := h.apart.symm
  exact this
theorem IsX.pushC (h : IsX w B g x lsl sv lv cv) (o : OwnN w' B 3 1 v (x.classes.length + 1) (ints .i64 x.classes ++ [.int .i64 z])) (hg : w.grownBy w' cv.ownBlock) (he : v.ownBlock = cv.ownBlock ∨ ∃ q, v.ownBlock = some q ∧ w.heap.size ≤ q)
 (r : OwnN w'' B 74 1 (.slice (some ⟨g, 0, none⟩) 9 9) 9 ((x.cells sv lv cv lsl).set 7 v)) (hg2 : w'.grownBy w'' (some g)) : IsX w'' B g { x with classes := x.classes ++ [z] } lsl sv lv v := by
 obtain ⟨f1, f2, f3⟩ := h.far
 have hin := h.inside
 refine ⟨r, (h.stack.keep hg (h.stack.unlike h.classes (by decide))).keep hg2 (.inr f1), (h.levels.keep hg h.apart).keep hg2 (.inr f2), ?_, (grow_apart he h.apart.symm h.levels).symm⟩
 have := o.keep hg2 (.inr (grow_ne he f3 hin.2))
 simpa [ints] using this
end
theorem Own.ofN {w : World} {B n : Nat} {e : TypeId} {v : Value} {xs : List Value} (h : OwnN w B e 1 v n xs) : Own w B e v xs := by
 have hn : xs.length = n := by have := h.1; omega
 unfold Own; rw [hn]; exact h
theorem Own.toN {w : World} {B n : Nat} {e : TypeId} {v : Value} {xs : List Value} (h : Own w B e v xs) (hn : xs.length = n) : OwnN w B e 1 v n xs := by
 unfold Own at h; rw [hn] at h; exact h
def putX (x : X6) (c : Int) : X6 := match x.st with
 | [] => x
 | e :: _ => { x with levels := x.levels ++ [e.lev], classes := x.classes ++ [if 0 ≤ e.over then e.over else c] }
def HasX (w : World) (B g : Nat) (x : X6) (lsl : Value) : Prop := ∃ sv lv cv, IsX w B g x lsl sv lv cv
structure X6.Small (x : X6) : Prop where
 st : x.st.length ≤ 100000
 lev : x.levels.length ≤ 1000000
 cls : x.classes.length ≤ 1000000
 isos : x.isos ≤ 1000000
 embeds : x.embeds ≤ 1000000
 valid : x.valid ≤ 1000000
set_option maxRecDepth 20000 in
set_option maxHeartbeats 4000000 in
theorem put_any (w : World) (B g : Nat) (x : X6) (lsl : Value) (c : Int) (e : Ent) (st : List Ent) (hst : x.st = e :: st) (hx : HasX w B g x lsl) (hs : x.Small) :
 Calls Try.prog 74 #[.pointer (some ⟨g, 0, none⟩), .int .i64 c] w fun ed w' => ed = .returned (.tuple #[]) ∧ HasX w' B g (putX x c) lsl ∧ Below B w w' := by
 obtain ⟨sv, lv, cv, h⟩ := hx
 have hsm : x.st.length ≤ 1000000 := by have := hs.st; omega
 obtain ⟨Al, cl, rfl, _, _, _⟩ := h.levels.form
 obtain ⟨Ac, cc, rfl, _, _, _⟩ := h.classes.form
 have h6 := h.field 6 (by omega)
 simp only [X6.cells, List.getElem?_cons_succ, List.getElem?_cons_zero] at h6
 have H := Lib.hid h
 have HST := Lib.hid hst
 have HS := Lib.hid hs
 have hin := h.inside
 have hll := hs.lev
 have hcl := hs.cls
 have HPX : Hid (putX x c = { x with levels := x.levels ++ [e.lev], classes := x.classes ++ [if 0 ≤ e.over then e.over else c] }) := Lib.hid (by rw [putX, hst])
 clear h hst hs
 have hf0 := field0 e.lev e.over e.iso
 have hf1 := field1 e.lev e.over e.iso
 go_enter Try.func74, Try.ntmps74
 go_wp2
 refine wp_region_E (S := fun w' => w'.cell? ⟨g, 6, none⟩ = some (.slice Al x.levels.length cl)) [12] (by kernel_rfl) (h6) (fun hHeld hZ => ?_)
 refine' eY 0 hHeld hZ fun hZ => ?_
 try simp only [Act.put,ZA,ZB,ZD,ZE,ZF]
 refine' eY 1 hHeld hZ fun hZ => ?_
 try simp only [Act.put,ZA,ZB,ZC,ZD,ZE,ZF]
 refine' eY 2 hHeld hZ fun hZ => ?_
 try simp only [Act.put,ZA,ZB,ZC,ZD,ZE,ZF]
 refine' eY 3 hHeld hZ fun hZ => ?_
 try simp only [Act.put,ZA,ZB,ZC,ZD,ZE,ZF]
 refine' eY 4 hHeld hZ fun hZ => ?_
 try simp only [Act.put,ZA,ZB,ZC,ZD,ZE,ZF]
 refine' eY 5 hHeld hZ fun hZ => ?_
 try simp only [Act.put,ZA,ZB,ZC,ZD,ZE,ZF]
 refine eA 6 fun K hK => ?_
 go_simp
 refine (top_any w.drew B g x lsl sv _ _ e st HST.out (H.out.same rfl) hsm).mono ?_
 rintro ed w1 ⟨rfl, b1⟩
 have X1 := Lib.hid ((H.out.same (w' := w.drew) rfl).below b1 (Nat.le_refl _))
 have B1 := Lib.hid (below_then_drew (b1.mono (show B ≤ w.drew.heap.size from by show B ≤ w.heap.size; omega)))
 clear b1
 refine eB hK hZ (X1.out.field 6 (by omega)) fun hHeld hZ => ?_
 clear hK K
 try simp only [Act.put,ZA,ZB,ZC,ZD,ZE,ZF]
 refine' eY 7 hHeld hZ fun hZ => ?_
 try simp only [Act.put,ZA,ZB,ZC,ZD,ZE,ZF]
 refine eA 8 fun K hK => ?_
 go_simp
 have X2 := Lib.hid (X1.out.below (below_alloc w1 (.cells #[.int .i64 e.lev] 3)) (Nat.le_refl _))
 refine eB hK hZ (X2.out.field 6 (by omega)) fun hHeld hZ => ?_
 clear hK K
 try simp only [Act.put,ZA,ZB,ZC,ZD,ZE,ZF]
 refine eA 9 fun K hK => ?_
 refine step_appN intsN (w1.alloc (.cells #[.int .i64 e.lev] 3)) _ B _ (.tmp 8) (.tmp 12) _ x.levels.length 1 (ints .i64 x.levels) [.int .i64 e.lev] _ _ rfl rfl rfl rfl X2.out.levels (Lies.lit #[.int .i64 e.lev]) rfl (by simp [Value.oneCell']) (Below.refl _ _) (by have := X2.out.inside; omega) (by unfold maxLen; omega) (by omega) ?_
 intro v9 w9 o9 b9 g9 e9
 obtain ⟨A9, c9, rfl, _, _, _⟩ := o9.form
 have O9 := Lib.hid o9
 have B9 := Lib.hid b9
 have G9 := Lib.hid g9
 have E9 := Lib.hid e9
 have RW := Lib.hid (X2.out.rowL g9)
 clear o9 b9 g9 e9
 refine eB hK hZ ((by have := World.ownsRow.cellAt RW.out 6 (by omega); rw [this]; rfl)) fun hHeld hZ => ?_
 clear hK K
 try simp only [Act.put,ZA,ZB,ZC,ZD,ZE,ZF]
 refine' eY 10 hHeld hZ fun hZ => ?_
 try simp only [Act.put,ZA,ZB,ZC,ZD,ZE,ZF]
 refine' eY 11 hHeld hZ fun hZ => ?_
 try simp only [Act.put,ZA,ZB,ZC,ZD,ZE,ZF]
 refine eA 12 fun K hK => ?_
 refine step_store w9 B (.tmp 15) (.tmp 13) g 6 9 (.slice A9 (x.levels.length + 1) c9) _ w9 rfl rfl rfl (by kernel_rfl) rfl rfl rfl RW.out (by simp [X6.cells]) (Below.refl _ _) ?_
 intro w10 r10 b10 g10
 have X3 := Lib.hid (X2.out.pushL O9.out G9.out E9.out r10 g10)
 have B3 : Hid (Below B w w10) := Lib.hid ((B1.out.trans ((below_alloc w1 _).mono (by have := X1.out.inside; omega))).trans (B9.out.trans b10))
 clear r10 b10 g10
 refine eE hK hZ fun hZ => ?_
 clear hK K
 try simp only [Act.put,ZA,ZB,ZC,ZD,ZE,ZF]
 refine wpAnyE_done (by kernel_rfl) ?_ _
 clear hZ
 obtain ⟨z, hz⟩ : ∃ z, (if 0 ≤ e.over then e.over else c) = z := ⟨_, rfl⟩
 have HZ := Lib.hid hz
 rcases hov : decide (e.over ≥ 0) with _ | _
 ·have ez : c = z := by rw [← hz, if_neg (by simpa using hov)]
  subst ez
  clear hz h6
  go_wp2_with fail
  refine (top_any w10 B g { x with levels := x.levels ++ [e.lev] } lsl sv _ _ e st HST.out X3.out hsm).mono ?_
  rintro ed w11 ⟨rfl, b11⟩
  have X4 := Lib.hid (X3.out.below b11 (Nat.le_refl _))
  have B4 : Hid (Below B w w11) := Lib.hid (B3.out.trans (b11.mono (by have := X3.out.inside; omega)))
  clear b11
  have h7 := X4.out.field 7 (by omega)
  simp only [X6.cells, List.getElem?_cons_succ, List.getElem?_cons_zero] at h7
  have hB := X4.out.inside
  go_wp2_with (first
   | (at_builtin; refine app_lit intsT w11 w11 B _ _ #[.int .i64 c] 1 _ (ints .i64 x.classes) rfl rfl rfl rfl (Own.ofN X4.out.classes) (by simp [Value.oneCell']) (Below.refl _ _) (by omega) (by unfold maxLen; simp; omega) (by simp; omega) ?_; intro v13 w13 o13 b13 g13 e13; have O13 := Lib.hid (Own.toN (n := x.classes.length + 1) o13 (by simp)); obtain ⟨A13, c13, rfl, _, _, _⟩ := O13.out.form; have B13 := Lib.hid b13; have G13 := Lib.hid g13; have E13 := Lib.hid e13; have RW13 := Lib.hid (X4.out.rowC g13); clear o13 b13 g13 e13)
   | (refine store_cell w13 B _ _ g 7 9 (.slice A13 (x.classes.length + 1) c13) _ w13 rfl rfl rfl (by kernel_rfl) rfl rfl rfl RW13.out (by simp [X6.cells]) (Below.refl _ _) ?_; intro w14 r14 b14 g14; have X9 := Lib.hid (X4.out.pushC O13.out G13.out E13.out r14 g14); have B9 : Hid (Below B w w14) := Lib.hid (B4.out.trans (B13.out.trans b14)); clear r14 b14 g14)
   | fail)
  (try simp only [Exit.inBlock, Exit.then])
  refine bodyPost_end (results_none rfl _ _ _) rfl ⟨rfl, ?_, B9.out⟩
  have := X9.out
  rw [HPX.out, HZ.out]
  first | exact ⟨_, _, _, this⟩ | (rw [← EZ.out]; exact ⟨_, _, _, this⟩)
 ·have ez : e.over = z := by rw [← hz, if_pos (by simpa using hov)]
  have EZ := Lib.hid ez
  clear hz h6 ez
  go_wp2_with fail
  refine (top_any w10 B g { x with levels := x.levels ++ [e.lev] } lsl sv _ _ e st HST.out X3.out hsm).mono ?_
  rintro ed w11 ⟨rfl, b11⟩
  have X4 := Lib.hid (X3.out.below b11 (Nat.le_refl _))
  have B4 : Hid (Below B w w11) := Lib.hid (B3.out.trans (b11.mono (by have := X3.out.inside; omega)))
  clear b11
  go_wp2_with fail
  refine (top_any w11 B g { x with levels := x.levels ++ [e.lev] } lsl sv _ _ e st HST.out X4.out hsm).mono ?_
  rintro ed w12 ⟨rfl, b12⟩
  have X5 := Lib.hid (X4.out.below b12 (Nat.le_refl _))
  have B5 : Hid (Below B w w12) := Lib.hid (B4.out.trans (b12.mono (by have := X4.out.inside; omega)))
  clear b12
  have h7 := X5.out.field 7 (by omega)
  simp only [X6.cells, List.getElem?_cons_succ, List.getElem?_cons_zero] at h7
  have hB := X5.out.inside
  go_wp2_with (first
   | (at_builtin; refine app_lit intsT w12 w12 B _ _ #[.int .i64 e.over] 1 _ (ints .i64 x.classes) rfl rfl rfl rfl (Own.ofN X5.out.classes) (by simp [Value.oneCell']) (Below.refl _ _) (by omega) (by unfold maxLen; simp; omega) (by simp; omega) ?_; intro v13 w13 o13 b13 g13 e13; have O13 := Lib.hid (Own.toN (n := x.classes.length + 1) o13 (by simp)); obtain ⟨A13, c13, rfl, _, _, _⟩ := O13.out.form; have B13 := Lib.hid b13; have G13 := Lib.hid g13; have E13 := Lib.hid e13; have RW13 := Lib.hid (X5.out.rowC g13); clear o13 b13 g13 e13)
   | (refine store_cell w13 B _ _ g 7 9 (.slice A13 (x.classes.length + 1) c13) _ w13 rfl rfl rfl (by kernel_rfl) rfl rfl rfl RW13.out (by simp [X6.cells]) (Below.refl _ _) ?_; intro w14 r14 b14 g14; have X9 := Lib.hid (X5.out.pushC O13.out G13.out E13.out r14 g14); have B9 : Hid (Below B w w14) := Lib.hid (B5.out.trans (B13.out.trans b14)); clear r14 b14 g14)
   | fail)
  (try simp only [Exit.inBlock, Exit.then])
  refine bodyPost_end (results_none rfl _ _ _) rfl ⟨rfl, ?_, B9.out⟩
  have := X9.out
  rw [HPX.out, HZ.out]
  first | exact ⟨_, _, _, this⟩ | (rw [← EZ.out]; exact ⟨_, _, _, this⟩)
end Go.Proofs.Ytadfleopbpomfaa
namespace Go.Proofs.Ytadfleopbpomfaa
open Go.RowKit
structure LitAt (w : World) (k : Nat) (cs : List Value) : Prop where
 lt : k < w.heap.size
 cells : ∀ i u, cs[i]? = some u → w.cell? ⟨k, i, none⟩ = some u
section
variable {w w' : World} {k : Nat} {cs : List Value}
theorem LitAt.new (w : World) (e : TypeId) (c : Array Value) : LitAt (w.alloc (.cells c e)) w.heap.size c.toList := ⟨by simp, fun i u hu => by simpa using hu⟩
theorem LitAt.lies (h : LitAt w k cs) : Lies w w.heap.size (some ⟨k, 0, none⟩) cs := fun _ => ⟨_, rfl, h.lt, fun i u hu => by rw [add_plain, Nat.zero_add]; exact h.cells i u hu⟩
theorem LitAt.below (h : LitAt w k cs) (hb : Below w.heap.size w w') : LitAt w' k cs := ⟨Nat.lt_of_lt_of_le h.lt hb.size, fun i u hu => (hb.cell (p := ⟨k, i, none⟩) h.lt).trans (h.cells i u hu)⟩
theorem LitAt.alloc (h : LitAt w k cs) (o : Obj) : LitAt (w.alloc o) k cs := h.below (below_alloc w o)
theorem LitAt.grown (h : LitAt w k cs) {row : Option Nat} (hg : w.grownBy w' row) (hr : row ≠ some k) : LitAt w' k cs :=
 ⟨Nat.lt_of_lt_of_le h.lt hg.size, fun i u hu => (World.cell?_of_block (hg.block k h.lt (fun e => hr e.symm))).trans (h.cells i u hu)⟩
end
abbrev fieldsAt (w : World) (g : Nat) (x : X6) (lv cv : Value) : Prop := w.cell? ⟨g, 6, none⟩ = some lv ∧ w.cell? ⟨g, 7, none⟩ = some cv ∧ w.cell? ⟨g, 0, none⟩ = some (.int .i64 x.base)
structure IsY (w : World) (B g : Nat) (x : X6) (lsl sv lv cv v : Value) (z : Int) : Prop where
 row : OwnN w B 74 1 (.slice (some ⟨g, 0, none⟩) 9 9) 9 (x.cells sv lv cv lsl)
 stack : OwnN w B 92 3 sv x.st.length (ents x.st.reverse)
 new : OwnN w B 3 1 v (x.levels.length + 1) (ints .i64 x.levels ++ [.int .i64 z])
 classes : OwnN w B 3 1 cv x.classes.length (ints .i64 x.classes)
 apart : Apart v cv
structure IsZ (w : World) (B g : Nat) (x : X6) (lsl sv lv cv v v2 : Value) (z z2 : Int) : Prop where
 row : OwnN w B 74 1 (.slice (some ⟨g, 0, none⟩) 9 9) 9 (x.cells sv lv cv lsl)
 stack : OwnN w B 92 3 sv x.st.length (ents x.st.reverse)
 new : OwnN w B 3 1 v (x.levels.length + 1) (ints .i64 x.levels ++ [.int .i64 z])
 new2 : OwnN w B 3 1 v2 (x.classes.length + 1) (ints .i64 x.classes ++ [.int .i64 z2])
 apart : Apart v v2
section
variable {w w' w'' : World} {B g : Nat} {x : X6} {lsl sv lv cv v v2 : Value} {z z2 : Int}
theorem fields_of (row : OwnN w B 74 1 (.slice (some ⟨g, 0, none⟩) 9 9) 9 (x.cells sv lv cv lsl)) : fieldsAt w g x lv cv :=
 ⟨(World.ownsRow.cellAt row 6 (by omega)).trans rfl, (World.ownsRow.cellAt row 7 (by omega)).trans rfl, (World.ownsRow.cellAt row 0 (by omega)).trans rfl⟩
theorem far_of {e' : TypeId} {s m : Nat} {u : Value} {xs : List Value} (row : OwnN w B 74 1 (.slice (some ⟨g, 0, none⟩) 9 9) 9 (x.cells sv lv cv lsl)) (ho : OwnN w B e' s u m xs) (he : e' ≠ 74) : u.ownBlock ≠ some g := fun e1 => by
 rcases ho.unlike row he with h2 | h2
 ·rw [h2] at e1; cases e1
 ·exact h2 e1
theorem IsX.seen (h : IsX w B g x lsl sv lv cv) : fieldsAt w g x lv cv := fields_of h.row
theorem IsY.seen (h : IsY w B g x lsl sv lv cv v z) : fieldsAt w g x lv cv := fields_of h.row
theorem IsZ.seen (h : IsZ w B g x lsl sv lv cv v v2 z z2) : fieldsAt w g x lv cv := fields_of h.row
theorem IsX.le (h : IsX w B g x lsl sv lv cv) : B ≤ w.heap.size := by have := h.inside; omega
theorem IsY.le (h : IsY w B g x lsl sv lv cv v z) : B ≤ w.heap.size := by have := h.row.inside g rfl; omega
theorem IsX.alloc (h : IsX w B g x lsl sv lv cv) (o : Obj) : IsX (w.alloc o) B g x lsl sv lv cv := h.below (below_alloc w o) (Nat.le_refl _)
theorem IsY.alloc (h : IsY w B g x lsl sv lv cv v z) (o : Obj) : IsY (w.alloc o) B g x lsl sv lv cv v z := ⟨h.row.alloc o, h.stack.alloc o, h.new.alloc o, h.classes.alloc o, h.apart⟩
theorem IsX.newL (h : IsX w B g x lsl sv lv cv) : lv.ownBlock ≠ some w.heap.size := fun e => by have := (h.levels.inside _ e).2; omega
theorem IsX.appL (h : IsX w B g x lsl sv lv cv) (o : OwnN w' B 3 1 v (x.levels.length + 1) (ints .i64 x.levels ++ [.int .i64 z])) (hg : w.grownBy w' lv.ownBlock) (he : v.ownBlock = lv.ownBlock ∨ ∃ q, v.ownBlock = some q ∧ w.heap.size ≤ q) :
 IsY w' B g x lsl sv lv cv v z :=
 ⟨h.rowL hg, h.stack.keep hg (h.stack.unlike h.levels (by decide)), o, h.classes.keep hg h.apart.symm, grow_apart he h.apart h.classes⟩
theorem IsY.appC (h : IsY w B g x lsl sv lv cv v z) (o : OwnN w' B 3 1 v2 (x.classes.length + 1) (ints .i64 x.classes ++ [.int .i64 z2])) (hg : w.grownBy w' cv.ownBlock) (he : v2.ownBlock = cv.ownBlock ∨ ∃ q, v2.ownBlock = some q ∧ w.heap.size ≤ q) :
 IsZ w' B g x lsl sv lv cv v v2 z z2 :=
 ⟨h.row.keep hg (.inr fun e => far_of h.row h.classes (by decide) e.symm), h.stack.keep hg (h.stack.unlike h.classes (by decide)), h.new.keep hg h.apart, o, (grow_apart he h.apart.symm h.new).symm⟩
theorem IsZ.done (h : IsZ w B g x lsl sv lv cv v v2 z z2) (_ : OwnN w' B 74 1 (.slice (some ⟨g, 0, none⟩) 9 9) 9 ((x.cells sv lv cv lsl).set 6 v)) (g1 : w.grownBy w' (some g))
 (r2 : OwnN w'' B 74 1 (.slice (some ⟨g, 0, none⟩) 9 9) 9 (((x.cells sv lv cv lsl).set 6 v).set 7 v2)) (g2 : w'.grownBy w'' (some g)) :
 IsX w'' B g { x with levels := x.levels ++ [z], classes := x.classes ++ [z2] } lsl sv v v2 := by
 have k : ∀ {e' : TypeId} {s m : Nat} {u : Value} {xs : List Value}, OwnN w B e' s u m xs → e' ≠ 74 → OwnN w'' B e' s u m xs := fun ho he =>
  (ho.keep g1 (.inr (far_of h.row ho he))).keep g2 (.inr (far_of h.row ho he))
 refine ⟨r2, k h.stack (by decide), ?_, ?_, h.apart⟩
 ·have := k h.new (by decide); simpa [ints] using this
 ·have := k h.new2 (by decide); simpa [ints] using this
end
def dirOf (c : Int) : Int := if c = 16 ∨ c = 17 then 1 else 0
def overOf (c : Int) : Int := if c = 15 then 0 else if c = 17 then 1 else -1
def embedX (x : X6) (c : Int) : X6 := match x.st with
 | [] => x
 | e :: _ =>
  let y : X6 := { x with levels := x.levels ++ [e.lev], classes := x.classes ++ [c] }
  let n := nextL e.lev (dirOf c)
  if fitsX y n then pushX y ⟨n, overOf c, false⟩ else if x.isos = 0 then { y with embeds := y.embeds + 1 } else y
set_option maxRecDepth 20000 in
set_option maxHeartbeats 8000000 in
theorem embed_any (w : World) (B g : Nat) (x : X6) (lsl : Value) (c : Int) (e : Ent) (st : List Ent) (hst : x.st = e :: st) (hx : HasX w B g x lsl) (hs : x.Small) :
 Calls Try.prog 69 #[.pointer (some ⟨g, 0, none⟩), .int .i64 c] w fun ed w' => ed = .returned (.tuple #[]) ∧ HasX w' B g (embedX x c) lsl ∧ Below B w w' := by
 obtain ⟨sv, lv, cv, h⟩ := hx
 have hsm : x.st.length ≤ 1000000 := by have := hs.st; omega
 obtain ⟨Al, cl, rfl, _, _, _⟩ := h.levels.form
 obtain ⟨Ac, cc, rfl, _, _, _⟩ := h.classes.form
 have H := Lib.hid h
 have HST := Lib.hid hst
 have HS := Lib.hid hs
 have BW : Hid (Below B w w) := Lib.hid (Below.refl _ _)
 have hin := h.inside
 have hll := hs.lev
 have hcl := hs.cls
 clear h hst hs
 have hf0 := field0 e.lev e.over e.iso
 go_enter Try.func69, Try.ntmps69
 go_upto_region 0 with fail
 go_cut [] (fun wx => (∃ lv' cv', IsX wx B g { x with levels := x.levels ++ [e.lev], classes := x.classes ++ [c] } lsl sv lv' cv') ∧ Below B w wx)
 case first =>
  refine wp_region_E (S := fun w' => fieldsAt w' g x (.slice Al x.levels.length cl) (.slice Ac x.classes.length cc)) [20, 23] (by kernel_rfl) (H.out.seen) (fun hHeld hZ => ?_)
  refine' eX 0 hZ fun hZ => ?_
  try simp only [Act.put,ZA,ZB,ZD,ZE,ZF]
  refine' eX 1 hZ fun hZ => ?_
  try simp only [Act.put,ZA,ZB,ZC,ZD,ZE,ZF]
  refine' eX 2 hZ fun hZ => ?_
  try simp only [Act.put,ZA,ZB,ZC,ZD,ZE,ZF]
  refine' eX 3 hZ fun hZ => ?_
  try simp only [Act.put,ZA,ZB,ZC,ZD,ZE,ZF]
  refine' eX 4 hZ fun hZ => ?_
  try simp only [Act.put,ZA,ZB,ZC,ZD,ZE,ZF]
  refine' eX 6 hZ fun hZ => ?_
  try simp only [Act.put,ZA,ZB,ZC,ZD,ZE,ZF]
  refine' eX 11 hZ fun hZ => ?_
  try simp only [Act.put,ZA,ZB,ZC,ZD,ZE,ZF]
  refine' eX 12 hZ fun hZ => ?_
  try simp only [Act.put,ZA,ZB,ZC,ZD,ZE,ZF]
  refine' eX 13 hZ fun hZ => ?_
  try simp only [Act.put,ZA,ZB,ZC,ZD,ZE,ZF]
  refine' eX 15 hZ fun hZ => ?_
  try simp only [Act.put,ZA,ZB,ZC,ZD,ZE,ZF]
  refine' eY 5 hHeld hZ fun hZ => ?_
  try simp only [Act.put,ZA,ZB,ZC,ZD,ZE,ZF]
  refine' eY 14 hHeld hZ fun hZ => ?_
  try simp only [Act.put,ZA,ZB,ZC,ZD,ZE,ZF]
  have X0 := Lib.hid (H.out.same (w' := w.drew) rfl)
  have B0 : Hid (Below B w w.drew) := Lib.hid (below_drawn BW.out 1)
  generalize w.drew = u0 at X0 B0 hHeld ⊢
  refine wpAnyE_ready (rs := [7, 16]) (by kernel_rfl) (by simp) ?_
  refine AllReadyE.cons rfl (fun K hK => ?_) (AllReadyE.cons rfl (fun K hK => ?_) AllReadyE.nil)
  ·go_simp
   refine (top_any u0 B g _ lsl sv _ _ e st HST.out X0.out hsm).mono ?_
   rintro ed u1 ⟨rfl, b_⟩
   have X1 := Lib.hid (X0.out.below b_ (Nat.le_refl _))
   have B1 := Lib.hid (B0.out.trans (b_.mono X0.out.le))
   clear b_
   refine eB hK hZ (X1.out.seen) fun hHeld hZ => ?_
   clear hK K
   try simp only [Act.put,ZA,ZB,ZC,ZD,ZE,ZF]
   refine' eX 8 hZ fun hZ => ?_
   try simp only [Act.put,ZA,ZB,ZC,ZD,ZE,ZF]
   refine wpAnyE_ready (rs := [9, 16]) (by kernel_rfl) (by simp) ?_
   refine AllReadyE.cons rfl (fun K hK => ?_) (AllReadyE.cons rfl (fun K hK => ?_) AllReadyE.nil)
   ·go_simp
    have X2 := Lib.hid (X1.out.alloc (.cells #[.int .i64 e.lev] 3))
    have T2 := Lib.hid (LitAt.new u1 3 #[.int .i64 e.lev])
    have B2 := Lib.hid (B1.out.trans ((below_alloc u1 (.cells #[.int .i64 e.lev] 3)).mono X1.out.le))
    refine eB hK hZ (X2.out.seen) fun hHeld hZ => ?_
    clear hK K
    try simp only [Act.put,ZA,ZB,ZC,ZD,ZE,ZF]
    generalize u1.alloc (.cells #[.int .i64 e.lev] 3) = u2 at X2 T2 B2 hHeld ⊢
    refine wpAnyE_ready (rs := [10, 16]) (by kernel_rfl) (by simp) ?_
    refine AllReadyE.cons rfl (fun K hK => ?_) (AllReadyE.cons rfl (fun K hK => ?_) AllReadyE.nil)
    ·refine step_appN intsN u2 u2 B _ (.tmp 12) (.tmp 16) _ x.levels.length 1 (ints .i64 x.levels) [.int .i64 e.lev] _ _ rfl rfl rfl rfl X2.out.levels T2.out.lies rfl (by simp [Value.oneCell']) (Below.refl _ _) X2.out.le (by unfold maxLen; omega) (by omega) ?_
     intro v3 u3 o_ b_ g_ e_
     obtain ⟨A3, c3, rfl, _, _, _⟩ := o_.form
     have X3 := Lib.hid (X2.out.appL o_ g_ e_)
     have B3 := Lib.hid (B2.out.trans b_)
     clear o_ b_ g_ e_
     refine eB hK hZ (X3.out.seen) fun hHeld hZ => ?_
     clear hK K
     try simp only [Act.put,ZA,ZB,ZC,ZD,ZE,ZF]
     refine eA 16 fun K hK => ?_
     go_simp
     have X4 := Lib.hid (X3.out.alloc (.cells #[.int .i64 c] 3))
     have T4 := Lib.hid (LitAt.new u3 3 #[.int .i64 c])
     have B4 := Lib.hid (B3.out.trans ((below_alloc u3 (.cells #[.int .i64 c] 3)).mono X3.out.le))
     refine eB hK hZ (X4.out.seen) fun hHeld hZ => ?_
     clear hK K
     try simp only [Act.put,ZA,ZB,ZC,ZD,ZE,ZF]
     generalize u3.alloc (.cells #[.int .i64 c] 3) = u4 at X4 T4 B4 hHeld ⊢
     refine eA 17 fun K hK => ?_
     refine step_appN intsN u4 u4 B _ (.tmp 21) (.tmp 23) _ x.classes.length 1 (ints .i64 x.classes) [.int .i64 c] _ _ rfl rfl rfl rfl X4.out.classes T4.out.lies rfl (by simp [Value.oneCell']) (Below.refl _ _) X4.out.le (by unfold maxLen; omega) (by omega) ?_
     intro v5 u5 o_ b_ g_ e_
     obtain ⟨A5, c5, rfl, _, _, _⟩ := o_.form
     have X5 := Lib.hid (X4.out.appC o_ g_ e_)
     have B5 := Lib.hid (B4.out.trans b_)
     clear o_ b_ g_ e_
     refine eB hK hZ (X5.out.seen) fun hHeld hZ => ?_
     clear hK K
     try simp only [Act.put,ZA,ZB,ZC,ZD,ZE,ZF]
     refine' eX 18 hZ fun hZ => ?_
     try simp only [Act.put,ZA,ZB,ZC,ZD,ZE,ZF]
     refine' eX 19 hZ fun hZ => ?_
     try simp only [Act.put,ZA,ZB,ZC,ZD,ZE,ZF]
     refine eA 20 fun K hK => ?_
     refine step_store u5 B (.tmp 26) (.tmp 17) g 6 9 _ _ u5 rfl rfl rfl (by kernel_rfl) rfl rfl rfl X5.out.row (by simp [X6.cells]) (Below.refl _ _) ?_
     intro u6 r_ b_ g_
     have R6 := Lib.hid r_
     have G6 := Lib.hid g_
     have B6 := Lib.hid (B5.out.trans b_)
     clear r_ b_ g_
     refine eE hK hZ fun hZ => ?_
     clear hK K
     try simp only [Act.put,ZA,ZB,ZC,ZD,ZE,ZF]
     refine' eX 21 hZ fun hZ => ?_
     try simp only [Act.put,ZA,ZB,ZC,ZD,ZE,ZF]
     refine' eX 22 hZ fun hZ => ?_
     try simp only [Act.put,ZA,ZB,ZC,ZD,ZE,ZF]
     refine eA 23 fun K hK => ?_
     refine step_store u6 B (.tmp 28) (.tmp 24) g 7 9 _ _ u6 rfl rfl rfl (by kernel_rfl) rfl rfl rfl R6.out (by simp [X6.cells]) (Below.refl _ _) ?_
     intro u7 r_ b_ g_
     have XF := Lib.hid (X5.out.done R6.out G6.out r_ g_)
     have BF := Lib.hid (B6.out.trans b_)
     clear r_ b_ g_
     refine eE hK hZ fun hZ => ?_
     clear hK K
     try simp only [Act.put,ZA,ZB,ZC,ZD,ZE,ZF]
     refine wpAnyE_done (by kernel_rfl) ?_ _
     clear hZ
     go_wp2_with fail
     go_meet
     exact ⟨⟨_, _, XF.out⟩, BF.out⟩
    ·have N3 := Lib.hid (X2.out.newL)
     go_simp
     have X3 := Lib.hid (X2.out.alloc (.cells #[.int .i64 c] 3))
     have T3 := Lib.hid (LitAt.new u2 3 #[.int .i64 c])
     have B3 := Lib.hid (B2.out.trans ((below_alloc u2 (.cells #[.int .i64 c] 3)).mono X2.out.le))
     have T2_3 := Lib.hid (T2.out.alloc (.cells #[.int .i64 c] 3))
     refine eB hK hZ (X3.out.seen) fun hHeld hZ => ?_
     clear hK K
     try simp only [Act.put,ZA,ZB,ZC,ZD,ZE,ZF]
     generalize u2.alloc (.cells #[.int .i64 c] 3) = u3 at X3 T3 B3 T2_3 hHeld ⊢
     refine eA 10 fun K hK => ?_
     refine step_appN intsN u3 u3 B _ (.tmp 12) (.tmp 16) _ x.levels.length 1 (ints .i64 x.levels) [.int .i64 e.lev] _ _ rfl rfl rfl rfl X3.out.levels T2_3.out.lies rfl (by simp [Value.oneCell']) (Below.refl _ _) X3.out.le (by unfold maxLen; omega) (by omega) ?_
     intro v4 u4 o_ b_ g_ e_
     obtain ⟨A4, c4, rfl, _, _, _⟩ := o_.form
     have X4 := Lib.hid (X3.out.appL o_ g_ e_)
     have B4 := Lib.hid (B3.out.trans b_)
     have T3_4 := Lib.hid (T3.out.grown g_ N3.out)
     clear o_ b_ g_ e_
     refine eB hK hZ (X4.out.seen) fun hHeld hZ => ?_
     clear hK K
     try simp only [Act.put,ZA,ZB,ZC,ZD,ZE,ZF]
     refine eA 17 fun K hK => ?_
     refine step_appN intsN u4 u4 B _ (.tmp 21) (.tmp 23) _ x.classes.length 1 (ints .i64 x.classes) [.int .i64 c] _ _ rfl rfl rfl rfl X4.out.classes T3_4.out.lies rfl (by simp [Value.oneCell']) (Below.refl _ _) X4.out.le (by unfold maxLen; omega) (by omega) ?_
     intro v5 u5 o_ b_ g_ e_
     obtain ⟨A5, c5, rfl, _, _, _⟩ := o_.form
     have X5 := Lib.hid (X4.out.appC o_ g_ e_)
     have B5 := Lib.hid (B4.out.trans b_)
     clear o_ b_ g_ e_
     refine eB hK hZ (X5.out.seen) fun hHeld hZ => ?_
     clear hK K
     try simp only [Act.put,ZA,ZB,ZC,ZD,ZE,ZF]
     refine' eX 18 hZ fun hZ => ?_
     try simp only [Act.put,ZA,ZB,ZC,ZD,ZE,ZF]
     refine' eX 19 hZ fun hZ => ?_
     try simp only [Act.put,ZA,ZB,ZC,ZD,ZE,ZF]
     refine eA 20 fun K hK => ?_
     refine step_store u5 B (.tmp 26) (.tmp 17) g 6 9 _ _ u5 rfl rfl rfl (by kernel_rfl) rfl rfl rfl X5.out.row (by simp [X6.cells]) (Below.refl _ _) ?_
     intro u6 r_ b_ g_
     have R6 := Lib.hid r_
     have G6 := Lib.hid g_
     have B6 := Lib.hid (B5.out.trans b_)
     clear r_ b_ g_
     refine eE hK hZ fun hZ => ?_
     clear hK K
     try simp only [Act.put,ZA,ZB,ZC,ZD,ZE,ZF]
     refine' eX 21 hZ fun hZ => ?_
     try simp only [Act.put,ZA,ZB,ZC,ZD,ZE,ZF]
     refine' eX 22 hZ fun hZ => ?_
     try simp only [Act.put,ZA,ZB,ZC,ZD,ZE,ZF]
     refine eA 23 fun K hK => ?_
     refine step_store u6 B (.tmp 28) (.tmp 24) g 7 9 _ _ u6 rfl rfl rfl (by kernel_rfl) rfl rfl rfl R6.out (by simp [X6.cells]) (Below.refl _ _) ?_
     intro u7 r_ b_ g_
     have XF := Lib.hid (X5.out.done R6.out G6.out r_ g_)
     have BF := Lib.hid (B6.out.trans b_)
     clear r_ b_ g_
     refine eE hK hZ fun hZ => ?_
     clear hK K
     try simp only [Act.put,ZA,ZB,ZC,ZD,ZE,ZF]
     refine wpAnyE_done (by kernel_rfl) ?_ _
     clear hZ
     go_wp2_with fail
     go_meet
     exact ⟨⟨_, _, XF.out⟩, BF.out⟩
   ·have N2 := Lib.hid (X1.out.newL)
    go_simp
    have X2 := Lib.hid (X1.out.alloc (.cells #[.int .i64 c] 3))
    have T2 := Lib.hid (LitAt.new u1 3 #[.int .i64 c])
    have B2 := Lib.hid (B1.out.trans ((below_alloc u1 (.cells #[.int .i64 c] 3)).mono X1.out.le))
    refine eB hK hZ (X2.out.seen) fun hHeld hZ => ?_
    clear hK K
    try simp only [Act.put,ZA,ZB,ZC,ZD,ZE,ZF]
    generalize u1.alloc (.cells #[.int .i64 c] 3) = u2 at X2 T2 B2 hHeld ⊢
    refine eA 9 fun K hK => ?_
    go_simp
    have X3 := Lib.hid (X2.out.alloc (.cells #[.int .i64 e.lev] 3))
    have T3 := Lib.hid (LitAt.new u2 3 #[.int .i64 e.lev])
    have B3 := Lib.hid (B2.out.trans ((below_alloc u2 (.cells #[.int .i64 e.lev] 3)).mono X2.out.le))
    have T2_3 := Lib.hid (T2.out.alloc (.cells #[.int .i64 e.lev] 3))
    refine eB hK hZ (X3.out.seen) fun hHeld hZ => ?_
    clear hK K
    try simp only [Act.put,ZA,ZB,ZC,ZD,ZE,ZF]
    generalize u2.alloc (.cells #[.int .i64 e.lev] 3) = u3 at X3 T3 B3 T2_3 hHeld ⊢
    refine eA 10 fun K hK => ?_
    refine step_appN intsN u3 u3 B _ (.tmp 12) (.tmp 16) _ x.levels.length 1 (ints .i64 x.levels) [.int .i64 e.lev] _ _ rfl rfl rfl rfl X3.out.levels T3.out.lies rfl (by simp [Value.oneCell']) (Below.refl _ _) X3.out.le (by unfold maxLen; omega) (by omega) ?_
    intro v4 u4 o_ b_ g_ e_
    obtain ⟨A4, c4, rfl, _, _, _⟩ := o_.form
    have X4 := Lib.hid (X3.out.appL o_ g_ e_)
    have B4 := Lib.hid (B3.out.trans b_)
    have T2_3_4 := Lib.hid (T2_3.out.grown g_ N2.out)
    clear o_ b_ g_ e_
    refine eB hK hZ (X4.out.seen) fun hHeld hZ => ?_
    clear hK K
    try simp only [Act.put,ZA,ZB,ZC,ZD,ZE,ZF]
    refine eA 17 fun K hK => ?_
    refine step_appN intsN u4 u4 B _ (.tmp 21) (.tmp 23) _ x.classes.length 1 (ints .i64 x.classes) [.int .i64 c] _ _ rfl rfl rfl rfl X4.out.classes T2_3_4.out.lies rfl (by simp [Value.oneCell']) (Below.refl _ _) X4.out.le (by unfold maxLen; omega) (by omega) ?_
    intro v5 u5 o_ b_ g_ e_
    obtain ⟨A5, c5, rfl, _, _, _⟩ := o_.form
    have X5 := Lib.hid (X4.out.appC o_ g_ e_)
    have B5 := Lib.hid (B4.out.trans b_)
    clear o_ b_ g_ e_
    refine eB hK hZ (X5.out.seen) fun hHeld hZ => ?_
    clear hK K
    try simp only [Act.put,ZA,ZB,ZC,ZD,ZE,ZF]
    refine' eX 18 hZ fun hZ => ?_
    try simp only [Act.put,ZA,ZB,ZC,ZD,ZE,ZF]
    refine' eX 19 hZ fun hZ => ?_
    try simp only [Act.put,ZA,ZB,ZC,ZD,ZE,ZF]
    refine eA 20 fun K hK => ?_
    refine step_store u5 B (.tmp 26) (.tmp 17) g 6 9 _ _ u5 rfl rfl rfl (by kernel_rfl) rfl rfl rfl X5.out.row (by simp [X6.cells]) (Below.refl _ _) ?_
    intro u6 r_ b_ g_
    have R6 := Lib.hid r_
    have G6 := Lib.hid g_
    have B6 := Lib.hid (B5.out.trans b_)
    clear r_ b_ g_
    refine eE hK hZ fun hZ => ?_
    clear hK K
    try simp only [Act.put,ZA,ZB,ZC,ZD,ZE,ZF]
    refine' eX 21 hZ fun hZ => ?_
    try simp only [Act.put,ZA,ZB,ZC,ZD,ZE,ZF]
    refine' eX 22 hZ fun hZ => ?_
    try simp only [Act.put,ZA,ZB,ZC,ZD,ZE,ZF]
    refine eA 23 fun K hK => ?_
    refine step_store u6 B (.tmp 28) (.tmp 24) g 7 9 _ _ u6 rfl rfl rfl (by kernel_rfl) rfl rfl rfl R6.out (by simp [X6.cells]) (Below.refl _ _) ?_
    intro u7 r_ b_ g_
    have XF := Lib.hid (X5.out.done R6.out G6.out r_ g_)
    have BF := Lib.hid (B6.out.trans b_)
    clear r_ b_ g_
    refine eE hK hZ fun hZ => ?_
    clear hK K
    try simp only [Act.put,ZA,ZB,ZC,ZD,ZE,ZF]
    refine wpAnyE_done (by kernel_rfl) ?_ _
    clear hZ
    go_wp2_with fail
    go_meet
    exact ⟨⟨_, _, XF.out⟩, BF.out⟩
  ·have N1 := Lib.hid (X0.out.newL)
   go_simp
   have X1 := Lib.hid (X0.out.alloc (.cells #[.int .i64 c] 3))
   have T1 := Lib.hid (LitAt.new u0 3 #[.int .i64 c])
   have B1 := Lib.hid (B0.out.trans ((below_alloc u0 (.cells #[.int .i64 c] 3)).mono X0.out.le))
   refine eB hK hZ (X1.out.seen) fun hHeld hZ => ?_
   clear hK K
   try simp only [Act.put,ZA,ZB,ZC,ZD,ZE,ZF]
   generalize u0.alloc (.cells #[.int .i64 c] 3) = u1 at X1 T1 B1 hHeld ⊢
   refine eA 7 fun K hK => ?_
   go_simp
   refine (top_any u1 B g _ lsl sv _ _ e st HST.out X1.out hsm).mono ?_
   rintro ed u2 ⟨rfl, b_⟩
   have X2 := Lib.hid (X1.out.below b_ (Nat.le_refl _))
   have B2 := Lib.hid (B1.out.trans (b_.mono X1.out.le))
   have T1_2 := Lib.hid (T1.out.below b_)
   clear b_
   refine eB hK hZ (X2.out.seen) fun hHeld hZ => ?_
   clear hK K
   try simp only [Act.put,ZA,ZB,ZC,ZD,ZE,ZF]
   refine' eX 8 hZ fun hZ => ?_
   try simp only [Act.put,ZA,ZB,ZC,ZD,ZE,ZF]
   refine eA 9 fun K hK => ?_
   go_simp
   have X3 := Lib.hid (X2.out.alloc (.cells #[.int .i64 e.lev] 3))
   have T3 := Lib.hid (LitAt.new u2 3 #[.int .i64 e.lev])
   have B3 := Lib.hid (B2.out.trans ((below_alloc u2 (.cells #[.int .i64 e.lev] 3)).mono X2.out.le))
   have T1_2_3 := Lib.hid (T1_2.out.alloc (.cells #[.int .i64 e.lev] 3))
   refine eB hK hZ (X3.out.seen) fun hHeld hZ => ?_
   clear hK K
   try simp only [Act.put,ZA,ZB,ZC,ZD,ZE,ZF]
   generalize u2.alloc (.cells #[.int .i64 e.lev] 3) = u3 at X3 T3 B3 T1_2_3 hHeld ⊢
   refine eA 10 fun K hK => ?_
   refine step_appN intsN u3 u3 B _ (.tmp 12) (.tmp 16) _ x.levels.length 1 (ints .i64 x.levels) [.int .i64 e.lev] _ _ rfl rfl rfl rfl X3.out.levels T3.out.lies rfl (by simp [Value.oneCell']) (Below.refl _ _) X3.out.le (by unfold maxLen; omega) (by omega) ?_
   intro v4 u4 o_ b_ g_ e_
   obtain ⟨A4, c4, rfl, _, _, _⟩ := o_.form
   have X4 := Lib.hid (X3.out.appL o_ g_ e_)
   have B4 := Lib.hid (B3.out.trans b_)
   have T1_2_3_4 := Lib.hid (T1_2_3.out.grown g_ N1.out)
   clear o_ b_ g_ e_
   refine eB hK hZ (X4.out.seen) fun hHeld hZ => ?_
   clear hK K
   try simp only [Act.put,ZA,ZB,ZC,ZD,ZE,ZF]
   refine eA 17 fun K hK => ?_
   refine step_appN intsN u4 u4 B _ (.tmp 21) (.tmp 23) _ x.classes.length 1 (ints .i64 x.classes) [.int .i64 c] _ _ rfl rfl rfl rfl X4.out.classes T1_2_3_4.out.lies rfl (by simp [Value.oneCell']) (Below.refl _ _) X4.out.le (by unfold maxLen; omega) (by omega) ?_
   intro v5 u5 o_ b_ g_ e_
   obtain ⟨A5, c5, rfl, _, _, _⟩ := o_.form
   have X5 := Lib.hid (X4.out.appC o_ g_ e_)
   have B5 := Lib.hid (B4.out.trans b_)
   clear o_ b_ g_ e_
   refine eB hK hZ (X5.out.seen) fun hHeld hZ => ?_
   clear hK K
   try simp only [Act.put,ZA,ZB,ZC,ZD,ZE,ZF]
   refine' eX 18 hZ fun hZ => ?_
   try simp only [Act.put,ZA,ZB,ZC,ZD,ZE,ZF]
   refine' eX 19 hZ fun hZ => ?_
   try simp only [Act.put,ZA,ZB,ZC,ZD,ZE,ZF]
   refine eA 20 fun K hK => ?_
   refine step_store u5 B (.tmp 26) (.tmp 17) g 6 9 _ _ u5 rfl rfl rfl (by kernel_rfl) rfl rfl rfl X5.out.row (by simp [X6.cells]) (Below.refl _ _) ?_
   intro u6 r_ b_ g_
   have R6 := Lib.hid r_
   have G6 := Lib.hid g_
   have B6 := Lib.hid (B5.out.trans b_)
   clear r_ b_ g_
   refine eE hK hZ fun hZ => ?_
   clear hK K
   try simp only [Act.put,ZA,ZB,ZC,ZD,ZE,ZF]
   refine' eX 21 hZ fun hZ => ?_
   try simp only [Act.put,ZA,ZB,ZC,ZD,ZE,ZF]
   refine' eX 22 hZ fun hZ => ?_
   try simp only [Act.put,ZA,ZB,ZC,ZD,ZE,ZF]
   refine eA 23 fun K hK => ?_
   refine step_store u6 B (.tmp 28) (.tmp 24) g 7 9 _ _ u6 rfl rfl rfl (by kernel_rfl) rfl rfl rfl R6.out (by simp [X6.cells]) (Below.refl _ _) ?_
   intro u7 r_ b_ g_
   have XF := Lib.hid (X5.out.done R6.out G6.out r_ g_)
   have BF := Lib.hid (B6.out.trans b_)
   clear r_ b_ g_
   refine eE hK hZ fun hZ => ?_
   clear hK K
   try simp only [Act.put,ZA,ZB,ZC,ZD,ZE,ZF]
   refine wpAnyE_done (by kernel_rfl) ?_ _
   clear hZ
   go_wp2_with fail
   go_meet
   exact ⟨⟨_, _, XF.out⟩, BF.out⟩
 case rest =>
  obtain ⟨⟨lv1, cv1, x1⟩, b1⟩ := hcut
  obtain ⟨y, hy⟩ : ∃ y : X6, { x with levels := x.levels ++ [e.lev], classes := x.classes ++ [c] } = y := ⟨_, rfl⟩
  rw [hy] at x1
  have hyst : y.st = e :: st := by rw [← hy]; exact HST.out
  have hye : y.embeds ≤ 1000000 := by rw [← hy]; exact HS.out.embeds
  have hyl : y.st.length ≤ 1000000 := by rw [← hy]; exact hsm
  obtain ⟨n, hn⟩ : ∃ n, nextL e.lev (dirOf c) = n := ⟨_, rfl⟩
  have HEX : Hid (embedX x c = if fitsX y n then pushX y ⟨n, overOf c, false⟩ else if y.isos = 0 then { y with embeds := y.embeds + 1 } else y) := Lib.hid (by
   have hi : y.isos = x.isos := by rw [← hy]
   unfold embedX
   split
   ·rename_i h; rw [HST.out] at h; cases h
   ·rename_i e' st' h
    rw [HST.out] at h
    injection h with h1 h2
    subst h1
    simp only [hy, hn, hi]
    rw [← hy])
  have HY := Lib.hid hyst
  have X1 := Lib.hid x1
  have B1 := Lib.hid b1
  have hcase : ((c == 16) = true ∧ (c == 17) = false ∧ (c == 15) = false ∧ dirOf c = 1 ∧ overOf c = -1) ∨ ((c == 16) = false ∧ (c == 17) = true ∧ (c == 15) = false ∧ dirOf c = 1 ∧ overOf c = 1) ∨
   ((c == 16) = false ∧ (c == 17) = false ∧ (c == 15) = true ∧ dirOf c = 0 ∧ overOf c = 0) ∨ ((c == 16) = false ∧ (c == 17) = false ∧ (c == 15) = false ∧ dirOf c = 0 ∧ overOf c = -1) := by
   by_cases h16 : c = 16
   ·subst h16; exact .inl (by decide)
   ·by_cases h17 : c = 17
    ·subst h17; exact .inr (.inl (by decide))
    ·by_cases h15 : c = 15
     ·subst h15; exact .inr (.inr (.inl (by decide)))
     ·exact .inr (.inr (.inr ⟨by simpa using h16, by simpa using h17, by simpa using h15, by simp [dirOf, h16, h17], by simp [overOf, h15, h17]⟩))
  clear hy hyst x1 b1 hf0
  have hf0 := field0 e.lev e.over e.iso
  rcases hcase with ⟨h16, h17, h15, hd, ho⟩ | ⟨h16, h17, h15, hd, ho⟩ | ⟨h16, h17, h15, hd, ho⟩ | ⟨h16, h17, h15, hd, ho⟩
  all_goals
   rw [hd] at hn
   rw [ho] at HEX
   have HN := Lib.hid hn
   clear hn hd ho
   go_wp2_with fail
   refine (top_any wc B g y lsl sv lv1 cv1 e st HY.out X1.out hyl).mono ?_
   rintro ed w2 ⟨rfl, b2⟩
   have X2 := Lib.hid (X1.out.below b2 (Nat.le_refl _))
   have B2 := Lib.hid (B1.out.trans (b2.mono X1.out.le))
   clear b2
   go_wp2_with fail
   refine (next_any e.lev _ _).mono ?_
   rintro e wq ⟨rfl, rfl⟩
   rw [HN.out]
   go_wp2_with fail
   refine (fits_any _ B g y lsl sv lv1 cv1 n X2.out).mono ?_
   rintro e wq ⟨rfl, rfl⟩
   rcases hfit : fitsX y n with _ | _
   ·have HF := Lib.hid hfit
    clear hfit
    have h2 := X2.out.field 2 (by omega)
    have h3 := X2.out.field 3 (by omega)
    simp only [X6.cells, List.getElem?_cons_succ, List.getElem?_cons_zero] at h2 h3
    rcases h0 : ((y.isos : Int) == 0) with _ | _
    ·have HZ : Hid (embedX x c = y) := Lib.hid (by rw [HEX.out, HF.out, if_neg (by simp), if_neg (by simp at h0; omega)])
     go_wp2_with fail
     (try simp only [Exit.inBlock, Exit.then])
     exact bodyPost_end (results_none rfl _ _ _) rfl ⟨rfl, by rw [HZ.out]; exact ⟨_, _, _, X2.out⟩, B2.out⟩
    ·have HZ : Hid (embedX x c = { y with embeds := y.embeds + 1 }) := Lib.hid (by rw [HEX.out, HF.out, if_neg (by simp), if_pos (by simpa using h0)])
     have hw1 : IntKind.i64.wrap ((y.embeds : Int) + 1) = ((y.embeds + 1 : Nat) : Int) := by rw [IntWalk.i64_in _ (by omega)]; omega
     go_wp2_with (first
      | (refine store_cell w2 B _ _ g 3 9 (.int .i64 ((y.embeds + 1 : Nat) : Int)) _ w2 rfl rfl rfl (by kernel_rfl) rfl rfl rfl X2.out.row (by simp [X6.cells]) (Below.refl _ _) ?_; intro w3 r3 b3 g3; have X3 := Lib.hid (X2.out.stored (x' := { y with embeds := y.embeds + 1 }) r3 g3 rfl rfl rfl rfl); have B3 := Lib.hid (B2.out.trans b3); clear r3 b3 g3)
      | fail)
     (try simp only [Exit.inBlock, Exit.then])
     exact bodyPost_end (results_none rfl _ _ _) rfl ⟨rfl, by rw [HZ.out]; exact ⟨_, _, _, X3.out⟩, B3.out⟩
   ·have HF := Lib.hid hfit
    clear hfit
    have HZ := Lib.hid (HEX.out.trans (if_pos HF.out))
    go_wp2_with fail
    refine (push_any w2 B g y lsl sv lv1 cv1 ⟨n, _, false⟩ X2.out hyl).mono ?_
    rintro ed w3 ⟨rfl, ⟨sv3, x3⟩, b3⟩
    have X3 := Lib.hid x3
    have B3 := Lib.hid (B2.out.trans b3)
    clear x3 b3
    go_wp2_with fail
    (try simp only [Exit.inBlock, Exit.then])
    exact bodyPost_end (results_none rfl _ _ _) rfl ⟨rfl, by rw [HZ.out]; exact ⟨_, _, _, X3.out⟩, B3.out⟩
end Go.Proofs.Ytadfleopbpomfaa
namespace Go.Proofs.Ytadfleopbpomfaa
open Go.RowKit Reckon
set_option maxHeartbeats 1000000 in
theorem rend_any (A : Option Addr) (l : List Int) (c : Nat) (i : Nat) (w : World) (h : Lies w w.heap.size A (ints .i64 l)) (hl : l.length ≤ 1000000) (hi : i < l.length) :
 Calls Try.prog 66 #[.slice A l.length c, .int .i64 i] w fun e w' => e = .returned (.int .i64 (endOf l i)) ∧ Below w.heap.size w w' := by
 obtain ⟨z, hz⟩ : ∃ z, look (l.drop (i + 1)) 1 (i + 1) = z := ⟨_, rfl⟩
 have hz' : endOf l i = z.int := by rw [endOf, hz]
 rw [hz']
 have HZ := Lib.hid hz
 have H := Lib.hid h
 clear h hz hz'
 go_enter Try.func66, Try.ntmps66
 go_wp2
 go_loopw [5, 6] (fun dv iv wr => ∃ (k d n : Nat), k ≤ l.length ∧ dv = .int .i64 d ∧ iv = .int .i64 k ∧ 1 ≤ d ∧ d ≤ k ∧ Hid (look (l.drop k) d k = z) ∧ wr = w.drewN n) (fun _ iv _ => l.length - (intOf iv).toNat)
 case atStart => exact ⟨i + 1, 1, 0, by omega, rfl, by go_num, by omega, by omega, HZ, rfl⟩
 case round =>
  obtain ⟨k, d, n, hk, rfl, rfl, hd, hdk, HL, rfl⟩ := hrel
  by_cases hlt : k < l.length
  ·obtain ⟨p, rfl, hpb, hc⟩ := H.out.int hlt
   have b0 : (0 : Int) ≤ (k : Int) := by omega
   have b1 : (k : Int) < (l.length : Int) := by omega
   have hdrop : l.drop k = l[k] :: l.drop (k + 1) := List.drop_eq_getElem_cons hlt
   obtain ⟨x, hx⟩ : ∃ x, l[k] = x := ⟨_, rfl⟩
   rw [hx] at hc hdrop
   have hl2 := HL.out
   rw [hdrop, look, lookStep] at hl2
   have HL2 := Lib.hid hl2
   clear hx hdrop hl2 HL
   rcases h10 : (x == 10) with _ | _
   ·have n10 : ¬ x = 10 := by simpa using h10
    have hl2 := HL2.out
    rw [if_neg n10] at hl2
    rcases ho : isOpens x with _ | _
    ·rw [ho] at hl2
     simp only [Bool.false_eq_true, if_false] at hl2
     have HO := Lib.hid ho
     clear ho
     rcases h22 : (x == 22) with _ | _
     ·have n22 : ¬ x = 22 := by simpa using h22
      rw [if_neg n22] at hl2
      have HL3 := Lib.hid hl2
      clear hl2 n10 n22 HL2
      go_wp2_with fail
      refine (ropens_any x _).mono ?_
      rintro e wq ⟨rfl, rfl⟩
      rw [HO.out]
      go_wp2
      go_roundw
      case rel => exact ⟨k + 1, d, _, by omega, rfl, by go_num, hd, by omega, HL3, rfl⟩
      case measure => simp [intOf]; omega
     ·have n22 : x = 22 := by simpa using h22
      rw [if_pos n22] at hl2
      by_cases hd1 : d ≤ 1
      ·rw [if_pos hd1] at hl2
       simp only at hl2
       obtain rfl : d = 1 := by omega
       subst hl2
       clear n10 n22 HL2
       go_wp2_with fail
       refine (ropens_any x _).mono ?_
       rintro e wq ⟨rfl, rfl⟩
       rw [HO.out]
       go_wp2
       go_ret
       exact ⟨rfl, below_drawn (Below.refl _ _) _⟩
      ·rw [if_neg hd1] at hl2
       have HL3 := Lib.hid hl2
       clear hl2 n10 n22 HL2
       have hz0 : (((d - 1 : Nat) : Int) == 0) = false := by simp; omega
       have hz1 : IntKind.i64.wrap ((d : Int) - 1) = ((d - 1 : Nat) : Int) := by rw [IntWalk.i64_in _ (by omega)]; omega
       go_wp2_with fail
       refine (ropens_any x _).mono ?_
       rintro e wq ⟨rfl, rfl⟩
       rw [HO.out]
       go_wp2
       go_roundw
       case rel => exact ⟨k + 1, d - 1, _, by omega, by first | rfl | go_num, by go_num, by omega, by omega, HL3, rfl⟩
       case measure => simp [intOf]; omega
    ·rw [ho, if_pos rfl] at hl2
     have HL3 := Lib.hid hl2
     have h22 : (x == 22) = false := by
      rw [beq_eq_false_iff_ne]; intro e; subst e; revert ho; decide
     have HO := Lib.hid ho
     clear hl2 n10 HL2 ho
     go_wp2_with fail
     refine (ropens_any x _).mono ?_
     rintro e wq ⟨rfl, rfl⟩
     rw [HO.out]
     go_wp2
     go_roundw
     case rel => exact ⟨k + 1, d + 1, _, by omega, by go_num, by go_num, by omega, by omega, HL3, rfl⟩
     case measure => simp [intOf]; omega
   ·have hl2 := HL2.out
    rw [if_pos (by simpa using h10)] at hl2
    simp only at hl2
    subst hl2
    clear HL2
    go_wp2
    go_ret
    exact ⟨rfl, below_drawn (Below.refl _ _) _⟩
  ·have hl2 := HL.out
   rw [List.drop_of_length_le (by omega), look] at hl2
   subst hl2
   go_wp2
   go_ret
   exact ⟨rfl, below_drawn (Below.refl _ _) _⟩
end Go.Proofs.Ytadfleopbpomfaa
