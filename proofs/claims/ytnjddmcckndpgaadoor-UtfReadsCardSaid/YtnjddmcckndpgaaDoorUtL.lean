/- From what a row lists of Go's two tables to what the walks ask; a world for the witness. -/
import Derived.Test.YtnjddmcckndpgaaDoorUtI
import Derived.Test.YtnjddmcckndpgaaDoorCards
import Derived.Test.YtnjddmcckndpgaaDoorTie
import Derived.ProofKit
import Derived.OpenShut
import Derived.Deep.DeepHandedRow
import Derived.Lib.LaidTab
import Derived.Lib.LaidU8
namespace Go.Proofs.YtnjddmcckndpgaaDoor
open Go.ChangeShapes Go.WideShapes Go.ChangeAt Go.RowKit

theorem own : ownKnob Tryd.prog.godebug = none := by kernel_rfl
theorem gFirst : Tryd.prog.globalNamed "unicode/utf8.first" = some 0 := by kernel_rfl
theorem gFirstT : (Tryd.prog.globals[0]?).map (·.type) = some 45 := by kernel_rfl
theorem gAcc : Tryd.prog.globalNamed "unicode/utf8.acceptRanges" = some 1 := by kernel_rfl
theorem gAccT : (Tryd.prog.globals[1]?).map (·.type) = some 48 := by kernel_rfl
theorem cBytes : Tryd.prog.cellsOf 5 = 1 := by kernel_rfl
theorem cFirst : Tryd.prog.cellsOf 45 = 256 := by kernel_rfl
theorem cAcc : Tryd.prog.cellsOf 47 = 2 := by kernel_rfl
theorem cInt : Tryd.prog.cellsOf 3 = 1 := by kernel_rfl

set_option maxRecDepth 100000 in
theorem first_data : (Rows.laid_unicode_utf8_first : DataW Unit) = Lib.tabData .u8 ((List.range 256).map fun c => (Lib.firstT c : Int)) := by kernel_rfl
theorem acc_data : (Rows.laid_unicode_utf8_acceptRanges : DataW Unit) = .agg ((List.range 16).map fun i => .agg ([(Lib.accLo i : Int), (Lib.accHi i : Int)].map fun z => .lit (.int .u8 z))) := by kernel_rfl

/-- the rows' list -/
abbrev laidList : List (String × DataW Unit) := [("unicode/utf8.acceptRanges", Rows.laid_unicode_utf8_acceptRanges), ("unicode/utf8.first", Rows.laid_unicode_utf8_first)]

theorem tabs_of {W : World} (h : laidMetH Tryd.prog laidList W) : Tabs W := by
  have hm : laidMet Tryd.prog laidList W := h
  have h3 : Lib.VarReads Tryd.prog W "unicode/utf8.first" _ := Lib.laidMet.reads hm (d := Rows.laid_unicode_utf8_first) (by simp [laidList])
  have h4 : Lib.VarReads Tryd.prog W "unicode/utf8.acceptRanges" _ := Lib.laidMet.reads hm (d := Rows.laid_unicode_utf8_acceptRanges) (by simp [laidList])
  rw [first_data] at h3
  rw [acc_data] at h4
  obtain ⟨g, t, cs, fuel, p, hg, hty, hvar, hd⟩ := h3
  obtain rfl := Option.some.inj (gFirst.symm.trans hg)
  obtain rfl := Option.some.inj (gFirstT.symm.trans hty)
  have hcs := Lib.cells_of_tab Tryd.underlying45 Tryd.underlying5 cBytes cFirst hd
  have c3 : ∀ b, b < 256 → W.cell? ⟨0, b, none⟩ = some (.int .u8 (Lib.firstT b : Nat)) := fun b hb => by
    rw [World.var?_cell hg hvar b, ← Array.getElem?_toList, hcs]
    simp [hb]
  obtain ⟨g, t, cs, fuel, p, hg, hty, hvar, hd⟩ := h4
  obtain rfl := Option.some.inj (gAcc.symm.trans hg)
  obtain rfl := Option.some.inj (gAccT.symm.trans hty)
  have c4 : ∀ i, i < 16 → W.cell? ⟨1, i * 2, none⟩ = some (.int .u8 (Lib.accLo i : Nat)) ∧ W.cell? ⟨1, i * 2 + 1, none⟩ = some (.int .u8 (Lib.accHi i : Nat)) := fun i hi => by
    obtain ⟨fuel', d, q, hdi, he⟩ := Lib.array_elem Tryd.underlying48 hd i hi
    simp only [List.getElem?_map, List.getElem?_range hi, Option.map_some, Option.some.injEq] at hdi
    subst hdi
    rw [cAcc] at he
    have hcs := Lib.ints_of_struct Tryd.underlying47 (fun j f hj => by
      match j, hj with
      | 0, hj => simp at hj; subst hj; exact ⟨Tryd.underlying5, rfl, cBytes⟩
      | 1, hj => simp at hj; subst hj; exact ⟨Tryd.underlying5, rfl, cBytes⟩
      | j + 2, hj => simp at hj) (by rw [cAcc]; rfl) he
    have e0 := congrArg (·[0]?) hcs
    have e1 := congrArg (·[1]?) hcs
    simp only [List.getElem?_take, List.getElem?_drop] at e0 e1
    exact ⟨by rw [World.var?_cell hg hvar, ← Array.getElem?_toList]; simpa using e0, by rw [World.var?_cell hg hvar, ← Array.getElem?_toList]; simpa using e1⟩
  have hb : ∀ g, g = 0 ∨ g = 1 → g < W.heap.size := fun g hg => by
    rcases hg with rfl | rfl
    · exact World.block_lt_of_cell? W ⟨0, 0, none⟩ (c3 0 (by omega))
    · exact World.block_lt_of_cell? W ⟨1, 0 * 2, none⟩ (c4 0 (by omega)).1
  refine ⟨?_, c3, fun i hi => (c4 i hi).1, fun i hi => (c4 i hi).2⟩
  have h0 := hb 0 (.inl rfl)
  have h1 := hb 1 (.inr rfl)
  omega

/-- a block with other cells -/
def withCells (cs : List Value) : Obj → Obj
  | .cells _ t frozen => .cells cs.toArray t frozen
  | o => o
def firstCells : List Value := Go.Pinned.utf8FirstZ.map fun (n : Nat) => Value.int .u8 (n : Int)
def accCells : List Value := (List.range 16).flatMap fun i => [Value.int .u8 (Lib.accLo i : Int), Value.int .u8 (Lib.accHi i : Int)]
/-- a world for the witness: the settled one, both tables laid -/
noncomputable def laidWorld (os : Os) (args : Array Value) : World :=
  { World.holding Tryd.prog os ⟨#[], args, []⟩ with heap := ((World.holding Tryd.prog os ⟨#[], args, []⟩).heap.modify 0 (withCells firstCells)).modify 1 (withCells accCells) }

/-- No parameter wants a stand-in; the program's own looks are off: what each card asks. -/
theorem plainOf (name : String) (k : FuncId) (kf : Func) (hk : Tryd.prog.funcNamed name = some k) (hkf : Tryd.prog.funcs[k]? = some kf)
    (hl : false = Tryd.pinned.checked.prog.looks []) (hp : ∀ (j : Nat) t, kf.params[j]? = some t → Tryd.prog.wantsStandIn t = false)
    (f : FuncId) (fn : Func) (hf : Tryd.pinned.checked.prog.funcNamed name = some f) (hfn : Tryd.pinned.checked.prog.funcs[f]? = some fn) :
    false = Tryd.pinned.checked.prog.looks [] ∧ ∀ (j : Nat) t, fn.params[j]? = some t → Tryd.pinned.checked.prog.wantsStandIn t = false := by
  obtain rfl : f = k := (Option.some.inj (hk.symm.trans hf)).symm
  obtain rfl : fn = kf := (Option.some.inj (hkf.symm.trans hfn)).symm
  exact ⟨hl, hp⟩
end Go.Proofs.YtnjddmcckndpgaaDoor
