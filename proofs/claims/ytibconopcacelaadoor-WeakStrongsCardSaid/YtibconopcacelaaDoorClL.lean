/- From what a row lists of the classes' names to what the walks ask; a world for the witness. -/
import Derived.Test.YtibconopcacelaaDoorClD
import Derived.Test.YtibconopcacelaaDoorCards
import Derived.Test.YtibconopcacelaaDoorTie
import Derived.ProofKit
import Derived.OpenShut
import Derived.Deep.DeepHandedRow
import Derived.Lib.LaidTab
import Derived.Lib.LaidU8
namespace Go.Proofs.YtibconopcacelaaDoor
open Go.ChangeShapes Go.WideShapes Go.ChangeAt Go.RowKit

theorem own : ownKnob Tryd.prog.godebug = none := by kernel_rfl
theorem gNames : Tryd.prog.globalNamed "ductus/class.names" = some 0 := by kernel_rfl
theorem gNamesT : (Tryd.prog.globals[0]?).map (·.type) = some 50 := by kernel_rfl
theorem cStr : Tryd.prog.cellsOf 9 = 1 := by kernel_rfl

theorem names_data : (Rows.laid_ductus_class_names : DataW Unit) = .agg (clsWords.map fun s => .lit (.string s.data.toList)) := by kernel_rfl

/-- the rows' list -/
abbrev laidList : List (String × DataW Unit) := [("ductus/class.names", Rows.laid_ductus_class_names)]

theorem tabs_of {W : World} (h : laidMetH Tryd.prog laidList W) : ClsTabs W := by
  have hm : laidMet Tryd.prog laidList W := h
  have h3 : Lib.VarReads Tryd.prog W "ductus/class.names" _ := Lib.laidMet.reads hm (d := Rows.laid_ductus_class_names) (by simp [laidList])
  rw [names_data] at h3
  obtain ⟨g, t, cs, fuel, p, hg, hty, hvar, hd⟩ := h3
  obtain rfl := Option.some.inj (gNames.symm.trans hg)
  obtain rfl := Option.some.inj (gNamesT.symm.trans hty)
  have c : ∀ i, i < 23 → W.cell? ⟨0, i, none⟩ = some (.string (wordOf i)) := fun i hi => by
    obtain ⟨fuel', d, q, hdi, he⟩ := Lib.array_elem Tryd.underlying50 hd i hi
    rw [cStr, Nat.mul_one] at he
    obtain ⟨s, hcs, hx, _⟩ := DataW.trod_string Tryd.underlying9 he
    have hn : i < clsWords.length := hi
    simp only [List.getElem?_map, List.getElem?_eq_getElem hn, Option.map_some, Option.some.injEq] at hdi
    simp only [Prod.mk.injEq] at hx
    have e : s = clsWords[i] := by
      have h1 := hdi.trans hx.1
      simp only [DataW.lit.injEq, Lit.string.injEq] at h1
      have h2 := Array.toList_inj.1 h1
      rcases hc : clsWords[i] with ⟨x⟩
      cases s
      rw [hc] at h2
      simp_all
    have h0 := congrArg (·[0]?) hcs
    simp only [List.getElem?_take, List.getElem?_drop] at h0
    rw [World.var?_cell hg hvar, ← Array.getElem?_toList, wordOf, if_pos (by omega)]
    simp [hn, ← e]
    simpa using h0
  exact ⟨World.block_lt_of_cell? W ⟨0, 0, none⟩ (c 0 (by omega)), c⟩

/-- a block with other cells -/
def withCells (cs : List Value) : Obj → Obj
  | .cells _ t frozen => .cells cs.toArray t frozen
  | o => o
/-- a world for the witness: the settled one, the names laid -/
noncomputable def laidWorld (os : Os) (args : Array Value) : World :=
  { World.holding Tryd.prog os ⟨#[], args, []⟩ with heap := (World.holding Tryd.prog os ⟨#[], args, []⟩).heap.modify 0 (withCells (clsWords.map .string)) }

/-- No parameter wants a stand-in; the program's own looks are off: what each card asks. -/
theorem plainOf (name : String) (k : FuncId) (kf : Func) (hk : Tryd.prog.funcNamed name = some k) (hkf : Tryd.prog.funcs[k]? = some kf)
    (hl : false = Tryd.pinned.checked.prog.looks []) (hp : ∀ (j : Nat) t, kf.params[j]? = some t → Tryd.prog.wantsStandIn t = false)
    (f : FuncId) (fn : Func) (hf : Tryd.pinned.checked.prog.funcNamed name = some f) (hfn : Tryd.pinned.checked.prog.funcs[f]? = some fn) :
    false = Tryd.pinned.checked.prog.looks [] ∧ ∀ (j : Nat) t, fn.params[j]? = some t → Tryd.pinned.checked.prog.wantsStandIn t = false := by
  obtain rfl : f = k := (Option.some.inj (hk.symm.trans hf)).symm
  obtain rfl : fn = kf := (Option.some.inj (hkf.symm.trans hfn)).symm
  exact ⟨hl, hp⟩
end Go.Proofs.YtibconopcacelaaDoor
