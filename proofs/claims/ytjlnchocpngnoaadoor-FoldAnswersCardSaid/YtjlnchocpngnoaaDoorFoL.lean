/- From what a row lists of folding's table to what the walks ask; a world for the witness. -/
import Derived.Test.YtjlnchocpngnoaaDoorFoF
import Derived.Test.YtjlnchocpngnoaaDoorCards
import Derived.Test.YtjlnchocpngnoaaDoorTie
import Derived.ProofKit
import Derived.OpenShut
import Derived.Deep.DeepHandedRow
import Derived.Lib.LaidTab
import Derived.Lib.LaidU8
namespace Go.Proofs.YtjlnchocpngnoaaDoor
open Go.ChangeShapes Go.WideShapes Go.ChangeAt Go.RowKit

theorem own : ownKnob Tryd.prog.godebug = none := by kernel_rfl
theorem gFold : Tryd.prog.globalNamed "ductus/fold.folded" = some 0 := by kernel_rfl
theorem gFoldT : (Tryd.prog.globals[0]?).map (·.type) = some 31 := by kernel_rfl
theorem cRow : Tryd.prog.cellsOf 30 = 3 := by kernel_rfl
theorem cInt : Tryd.prog.cellsOf 3 = 1 := by kernel_rfl

theorem fold_data : (Rows.laid_ductus_fold_folded : DataW Unit) = .agg (rws.map fun r => .agg [.lit (.int .i64 r.1), .lit (.int .i64 r.2.1), .lit (.int .i64 r.2.2)]) := by kernel_rfl

/-- the rows' list -/
abbrev laidList : List (String × DataW Unit) := [("ductus/fold.folded", Rows.laid_ductus_fold_folded)]

theorem tabs_of {W : World} (h : laidMetH Tryd.prog laidList W) : FoTabs W := by
  have hm : laidMet Tryd.prog laidList W := h
  have h3 : Lib.VarReads Tryd.prog W "ductus/fold.folded" _ := Lib.laidMet.reads hm (d := Rows.laid_ductus_fold_folded) (by simp [laidList])
  rw [fold_data] at h3
  obtain ⟨g, t, cs, fuel, p, hg, hty, hvar, hd⟩ := h3
  obtain rfl := Option.some.inj (gFold.symm.trans hg)
  obtain rfl := Option.some.inj (gFoldT.symm.trans hty)
  have c : ∀ i (hi : i < rws.length), (cs.toList.drop (i * 3)).take 3 = [.int .i64 rws[i].1, .int .i64 rws[i].2.1, .int .i64 rws[i].2.2] := fun i hi => by
    obtain ⟨fuel', d, q, hdi, he⟩ := Lib.array_elem Tryd.underlying31 hd i hi
    simp only [List.getElem?_map, List.getElem?_eq_getElem hi, Option.map_some, Option.some.injEq] at hdi
    subst hdi
    rw [cRow] at he
    have hcs := Lib.ints_of_struct (zs := [rws[i].1, rws[i].2.1, rws[i].2.2]) Tryd.underlying30 (fun j f hj => by
      match j, hj with
      | 0, hj => simp at hj; subst hj; exact ⟨Tryd.underlying3, rfl, cInt⟩
      | 1, hj => simp at hj; subst hj; exact ⟨Tryd.underlying3, rfl, cInt⟩
      | 2, hj => simp at hj; subst hj; exact ⟨Tryd.underlying3, rfl, cInt⟩
      | j + 3, hj => simp at hj) (by rw [cRow]; rfl) he
    exact hcs
  have at_ : ∀ i (hi : i < rws.length) r, r < 3 → cs.toList[i * 3 + r]? = ([.int .i64 rws[i].1, .int .i64 rws[i].2.1, .int .i64 rws[i].2.2] : List Value)[r]? := fun i hi r hr => by
    have := congrArg (·[r]?) (c i hi)
    simpa [List.getElem?_take, List.getElem?_drop, hr] using this
  have cell : ∀ i (hi : i < rws.length) r, r < 3 → W.cell? ⟨0, i * 3 + r, none⟩ = ([.int .i64 rws[i].1, .int .i64 rws[i].2.1, .int .i64 rws[i].2.2] : List Value)[r]? := fun i hi r hr => by
    rw [World.var?_cell hg hvar (i * 3 + r), ← Array.getElem?_toList]
    exact at_ i hi r hr
  have hr : W.rangeAt 0 0 rowCells := by
    intro j v hj
    have hlt : j < 30 := (List.getElem?_eq_some_iff.1 hj).1
    rw [Nat.zero_add]
    have h30 : j = 0 ∨ j = 1 ∨ j = 2 ∨ j = 3 ∨ j = 4 ∨ j = 5 ∨ j = 6 ∨ j = 7 ∨ j = 8 ∨ j = 9 ∨ j = 10 ∨ j = 11 ∨ j = 12 ∨ j = 13 ∨ j = 14 ∨ j = 15 ∨ j = 16 ∨ j = 17 ∨ j = 18 ∨ j = 19 ∨ j = 20 ∨ j = 21 ∨ j = 22 ∨ j = 23 ∨ j = 24 ∨ j = 25 ∨ j = 26 ∨ j = 27 ∨ j = 28 ∨ j = 29 := by omega
    rcases h30 with rfl | rfl | rfl | rfl | rfl | rfl | rfl | rfl | rfl | rfl | rfl | rfl | rfl | rfl | rfl | rfl | rfl | rfl | rfl | rfl | rfl | rfl | rfl | rfl | rfl | rfl | rfl | rfl | rfl | rfl
    · exact (cell 0 (by decide) 0 (by decide)).trans hj
    · exact (cell 0 (by decide) 1 (by decide)).trans hj
    · exact (cell 0 (by decide) 2 (by decide)).trans hj
    · exact (cell 1 (by decide) 0 (by decide)).trans hj
    · exact (cell 1 (by decide) 1 (by decide)).trans hj
    · exact (cell 1 (by decide) 2 (by decide)).trans hj
    · exact (cell 2 (by decide) 0 (by decide)).trans hj
    · exact (cell 2 (by decide) 1 (by decide)).trans hj
    · exact (cell 2 (by decide) 2 (by decide)).trans hj
    · exact (cell 3 (by decide) 0 (by decide)).trans hj
    · exact (cell 3 (by decide) 1 (by decide)).trans hj
    · exact (cell 3 (by decide) 2 (by decide)).trans hj
    · exact (cell 4 (by decide) 0 (by decide)).trans hj
    · exact (cell 4 (by decide) 1 (by decide)).trans hj
    · exact (cell 4 (by decide) 2 (by decide)).trans hj
    · exact (cell 5 (by decide) 0 (by decide)).trans hj
    · exact (cell 5 (by decide) 1 (by decide)).trans hj
    · exact (cell 5 (by decide) 2 (by decide)).trans hj
    · exact (cell 6 (by decide) 0 (by decide)).trans hj
    · exact (cell 6 (by decide) 1 (by decide)).trans hj
    · exact (cell 6 (by decide) 2 (by decide)).trans hj
    · exact (cell 7 (by decide) 0 (by decide)).trans hj
    · exact (cell 7 (by decide) 1 (by decide)).trans hj
    · exact (cell 7 (by decide) 2 (by decide)).trans hj
    · exact (cell 8 (by decide) 0 (by decide)).trans hj
    · exact (cell 8 (by decide) 1 (by decide)).trans hj
    · exact (cell 8 (by decide) 2 (by decide)).trans hj
    · exact (cell 9 (by decide) 0 (by decide)).trans hj
    · exact (cell 9 (by decide) 1 (by decide)).trans hj
    · exact (cell 9 (by decide) 2 (by decide)).trans hj
  exact ⟨World.block_lt_of_cell? W ⟨0, 0, none⟩ (hr 0 _ rfl), hr⟩

/-- a block with other cells -/
def withCells (cs : List Value) : Obj → Obj
  | .cells _ t frozen => .cells cs.toArray t frozen
  | o => o
/-- a world for the witness: the settled one, the table laid -/
noncomputable def laidWorld (os : Os) (args : Array Value) : World :=
  { World.holding Tryd.prog os ⟨#[], args, []⟩ with heap := (World.holding Tryd.prog os ⟨#[], args, []⟩).heap.modify 0 (withCells rowCells) }

/-- No parameter wants a stand-in; the program's own looks are off: what each card asks. -/
theorem plainOf (name : String) (k : FuncId) (kf : Func) (hk : Tryd.prog.funcNamed name = some k) (hkf : Tryd.prog.funcs[k]? = some kf)
    (hl : false = Tryd.pinned.checked.prog.looks []) (hp : ∀ (j : Nat) t, kf.params[j]? = some t → Tryd.prog.wantsStandIn t = false)
    (f : FuncId) (fn : Func) (hf : Tryd.pinned.checked.prog.funcNamed name = some f) (hfn : Tryd.pinned.checked.prog.funcs[f]? = some fn) :
    false = Tryd.pinned.checked.prog.looks [] ∧ ∀ (j : Nat) t, fn.params[j]? = some t → Tryd.pinned.checked.prog.wantsStandIn t = false := by
  obtain rfl : f = k := (Option.some.inj (hk.symm.trans hf)).symm
  obtain rfl : fn = kf := (Option.some.inj (hkf.symm.trans hfn)).symm
  exact ⟨hl, hp⟩
end Go.Proofs.YtjlnchocpngnoaaDoor
