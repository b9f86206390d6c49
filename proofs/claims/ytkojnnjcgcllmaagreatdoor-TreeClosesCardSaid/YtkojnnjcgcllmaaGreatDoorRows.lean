/-
  NARROWER THAN 'FOR EVERY INPUT', by the rows' own cells (each row's printed sentence says how): TreeSets: laid · TreeTurns: laid · TreeCloses: laid · TreeQuotes: laid · TreeUnions: laid.
  DERIVED. THE GIVEN ROWS OF THIS SEAT. 5 by the template 'for every input the law returns true; each argument reads behind the call as it read before'; 0 by the template 'total and deterministic' (their statements: YtkojnnjcgcllmaaGreatDoorTotals.lean).
  GIVEN WITH THE SEED: the statements are not yours to turn. If you find one false, say at which input.
  Laid BY PROGRAM, IN A SANDBOX (cutbox-rows.mjs): the forced cells as the released guide's own fill.sh prints them over the translation 4e1a8a8b14a33019… (all of the seat's roots in one cut). By AI agents, Wed Nov 11 2026. No macro, syntax, notation, axiom, sorry.
-/
import Derived.Test.YtkojnnjcgcllmaaGreatDoorChecked
import GoSem.Claim
import GoSem.ClaimJoined
import GoSem.ClaimMapViews
import Derived.JoinedTies
import Derived.KernelRfl
namespace Go.Proofs.YtkojnnjcgcllmaaGreatDoor
/- THE CELL 'sum', in the pinned program and in every row, IS THE sha256 OF THE DUMP (.gsa) THAT YtkojnnjcgcllmaaGreatDoorProg.lean LOADS. Nothing in Lean hashes anything: it is a label: what it is worth is what the hold of that sum in a sandbox is worth. -/
noncomputable def Tryz.pinned : Pinned := { name := "ytkojnnjcgcllmaagreatdoor", sum := "4e1a8a8b14a3301963d66a66d039a80990ccf7f614d0aa297c8ed2ab7e369e31", checked := Tryz.checked }
namespace Rows
def none {H : Type} : Left H := { results := [], args := [] }

/- WHAT THE LISTED PACKAGE-LEVEL VARIABLES READ AS WHEN THE CALL BEGINS. Each datum BY PROGRAM (the guide's laid-datum.mjs) off the statement by which the dump's own 'gosem.cut.vars' lays the variable. In a bare row this is a premise. The card (YtkojnnjcgcllmaaGreatDoorCards.lean) ties it to the program's text. -/
def laid_ductus_fold_folded {H : Type} : DataW H := .agg [.agg [.lit (.int .i64 65), .lit (.int .i64 90), .lit (.int .i64 32)], .agg [.lit (.int .i64 181), .lit (.int .i64 181), .lit (.int .i64 775)], .agg [.lit (.int .i64 192), .lit (.int .i64 214), .lit (.int .i64 32)], .agg [.lit (.int .i64 216), .lit (.int .i64 222), .lit (.int .i64 32)], .agg [.lit (.int .i64 913), .lit (.int .i64 929), .lit (.int .i64 32)], .agg [.lit (.int .i64 931), .lit (.int .i64 937), .lit (.int .i64 32)], .agg [.lit (.int .i64 962), .lit (.int .i64 962), .lit (.int .i64 1)], .agg [.lit (.int .i64 1024), .lit (.int .i64 1039), .lit (.int .i64 80)], .agg [.lit (.int .i64 1040), .lit (.int .i64 1071), .lit (.int .i64 32)], .agg [.lit (.int .i64 7838), .lit (.int .i64 7838), .lit (.int .i64 (-7615))]]

/-- 'ductuslaw16.TreeSets': WHATEVER THE INPUT: true; the input reads as it did. -/
def treeSetsSpec : ChangeSpec := { name := "treeSets", fn := fun _ => fun
  | [d1, d2, d3] => { results := [.lit (.bool true)], args := [d1, d2, d3] }
  | _ => none }
def treeSetsRow : OpenClaim := { program := "ytkojnnjcgcllmaagreatdoor", sum := "4e1a8a8b14a3301963d66a66d039a80990ccf7f614d0aa297c8ed2ab7e369e31", func := "ductus/ductuslaw16.TreeSets", spec := "treeSets", unfollowed := true, recurses := true, named := ["ductus/fold.folded"], apart := false, laid := [("ductus/fold.folded", laid_ductus_fold_folded)] }
def TreeSetsSaid : Prop := treeSetsRow.holds Tryz.pinned (OpenSpec.ofChange treeSetsSpec)

/-- ITS FALSE NEIGHBOUR: 'it returns false'. Refute it at one input. -/
def treeSetsWrong : ChangeSpec := { name := "treeSets", fn := fun _ => fun
  | [d1, d2, d3] => { results := [.lit (.bool false)], args := [d1, d2, d3] }
  | _ => none }
def TreeSetsWrongFalsely : Prop := treeSetsRow.holds Tryz.pinned (OpenSpec.ofChange treeSetsWrong)

/-- 'ductuslaw16.TreeTurns': WHATEVER THE INPUT: true; the input reads as it did. -/
def treeTurnsSpec : ChangeSpec := { name := "treeTurns", fn := fun _ => fun
  | [d1, d2] => { results := [.lit (.bool true)], args := [d1, d2] }
  | _ => none }
def treeTurnsRow : OpenClaim := { program := "ytkojnnjcgcllmaagreatdoor", sum := "4e1a8a8b14a3301963d66a66d039a80990ccf7f614d0aa297c8ed2ab7e369e31", func := "ductus/ductuslaw16.TreeTurns", spec := "treeTurns", unfollowed := true, recurses := true, named := ["ductus/fold.folded"], apart := false, laid := [("ductus/fold.folded", laid_ductus_fold_folded)] }
def TreeTurnsSaid : Prop := treeTurnsRow.holds Tryz.pinned (OpenSpec.ofChange treeTurnsSpec)

/-- ITS FALSE NEIGHBOUR: 'it returns false'. Refute it at one input. -/
def treeTurnsWrong : ChangeSpec := { name := "treeTurns", fn := fun _ => fun
  | [d1, d2] => { results := [.lit (.bool false)], args := [d1, d2] }
  | _ => none }
def TreeTurnsWrongFalsely : Prop := treeTurnsRow.holds Tryz.pinned (OpenSpec.ofChange treeTurnsWrong)

/-- 'ductuslaw16.TreeCloses': WHATEVER THE INPUT: true; the input reads as it did. -/
def treeClosesSpec : ChangeSpec := { name := "treeCloses", fn := fun _ => fun
  | [d1, d2] => { results := [.lit (.bool true)], args := [d1, d2] }
  | _ => none }
def treeClosesRow : OpenClaim := { program := "ytkojnnjcgcllmaagreatdoor", sum := "4e1a8a8b14a3301963d66a66d039a80990ccf7f614d0aa297c8ed2ab7e369e31", func := "ductus/ductuslaw16.TreeCloses", spec := "treeCloses", unfollowed := true, recurses := true, named := ["ductus/fold.folded"], apart := false, laid := [("ductus/fold.folded", laid_ductus_fold_folded)] }
def TreeClosesSaid : Prop := treeClosesRow.holds Tryz.pinned (OpenSpec.ofChange treeClosesSpec)

/-- ITS FALSE NEIGHBOUR: 'it returns false'. Refute it at one input. -/
def treeClosesWrong : ChangeSpec := { name := "treeCloses", fn := fun _ => fun
  | [d1, d2] => { results := [.lit (.bool false)], args := [d1, d2] }
  | _ => none }
def TreeClosesWrongFalsely : Prop := treeClosesRow.holds Tryz.pinned (OpenSpec.ofChange treeClosesWrong)

/-- 'ductuslaw16.TreeQuotes': WHATEVER THE INPUT: true; the input reads as it did. -/
def treeQuotesSpec : ChangeSpec := { name := "treeQuotes", fn := fun _ => fun
  | [d] => { results := [.lit (.bool true)], args := [d] }
  | _ => none }
def treeQuotesRow : OpenClaim := { program := "ytkojnnjcgcllmaagreatdoor", sum := "4e1a8a8b14a3301963d66a66d039a80990ccf7f614d0aa297c8ed2ab7e369e31", func := "ductus/ductuslaw16.TreeQuotes", spec := "treeQuotes", unfollowed := true, recurses := true, named := ["ductus/fold.folded"], apart := false, laid := [("ductus/fold.folded", laid_ductus_fold_folded)] }
def TreeQuotesSaid : Prop := treeQuotesRow.holds Tryz.pinned (OpenSpec.ofChange treeQuotesSpec)

/-- ITS FALSE NEIGHBOUR: 'it returns false'. Refute it at one input. -/
def treeQuotesWrong : ChangeSpec := { name := "treeQuotes", fn := fun _ => fun
  | [d] => { results := [.lit (.bool false)], args := [d] }
  | _ => none }
def TreeQuotesWrongFalsely : Prop := treeQuotesRow.holds Tryz.pinned (OpenSpec.ofChange treeQuotesWrong)

/-- 'ductuslaw16.TreeUnions': WHATEVER THE INPUT: true; the input reads as it did. -/
def treeUnionsSpec : ChangeSpec := { name := "treeUnions", fn := fun _ => fun
  | [d1, d2, d3] => { results := [.lit (.bool true)], args := [d1, d2, d3] }
  | _ => none }
def treeUnionsRow : OpenClaim := { program := "ytkojnnjcgcllmaagreatdoor", sum := "4e1a8a8b14a3301963d66a66d039a80990ccf7f614d0aa297c8ed2ab7e369e31", func := "ductus/ductuslaw16.TreeUnions", spec := "treeUnions", unfollowed := true, recurses := true, named := ["ductus/fold.folded"], apart := false, laid := [("ductus/fold.folded", laid_ductus_fold_folded)] }
def TreeUnionsSaid : Prop := treeUnionsRow.holds Tryz.pinned (OpenSpec.ofChange treeUnionsSpec)

/-- ITS FALSE NEIGHBOUR: 'it returns false'. Refute it at one input. -/
def treeUnionsWrong : ChangeSpec := { name := "treeUnions", fn := fun _ => fun
  | [d1, d2, d3] => { results := [.lit (.bool false)], args := [d1, d2, d3] }
  | _ => none }
def TreeUnionsWrongFalsely : Prop := treeUnionsRow.holds Tryz.pinned (OpenSpec.ofChange treeUnionsWrong)

/- THE SECOND FORM. 'bulk': how many values and letters a reading holds, each counted each time it is reached (what is shared counts as often as it is met; a slice's spare places count too). A statement '..UptoSaid' is the law's where the arguments, and the package variables that the reading takes, are together of bulk at most 1048576: NARROWER than '..Said'. Prove '..Said' where nothing that the law and all that it calls make is longer than what came in: it says more and counts as full. Else prove '..UptoSaid'. A law counts once. -/
mutual
def uptoBulk {H : Type} : DataW H → Nat
  | .lit (.string bytes) => bytes.length + 1
  | .lit _ => 1
  | .nil => 1
  | .ptr d => uptoBulk d + 1
  | .slice elems spare => uptoBulkAll elems + uptoBulkAll spare + 1
  | .agg parts => uptoBulkAll parts + 1
  | .iface _ d => uptoBulk d + 1
  | .map entries => uptoBulkEntries entries + 1
  | .held _ => 1
def uptoBulkAll {H : Type} : List (DataW H) → Nat
  | [] => 0
  | d :: r => uptoBulk d + uptoBulkAll r
def uptoBulkEntries {H : Type} : List (Lit × DataW H) → Nat
  | [] => 0
  | x :: r => uptoBulkEntry x + uptoBulkEntries r
def uptoBulkEntry {H : Type} : Lit × DataW H → Nat
  | (.string bytes, d) => bytes.length + uptoBulk d + 1
  | (_, d) => uptoBulk d + 1
 end
def uptoSmall : (H : Type) → List (DataW H) → Bool := fun _ ds => decide (uptoBulkAll ds ≤ 1048576)
def OpenSpec.upto (s : _root_.Go.ChangeSpec) : _root_.Go.OpenSpec := { _root_.Go.OpenSpec.ofChange s with cond := some uptoSmall }

/-- 'ductuslaw16.TreeSets', WHERE WHAT IT READS IS OF BULK AT MOST 1048576: true; the input reads as it did. -/
def treeSetsUptoRow : OpenClaim := { program := "ytkojnnjcgcllmaagreatdoor", sum := "4e1a8a8b14a3301963d66a66d039a80990ccf7f614d0aa297c8ed2ab7e369e31", func := "ductus/ductuslaw16.TreeSets", spec := "treeSets", unfollowed := true, recurses := true, named := ["ductus/fold.folded"], apart := false, laid := [("ductus/fold.folded", laid_ductus_fold_folded)], narrowed := true }
def TreeSetsUptoSaid : Prop := treeSetsUptoRow.holds Tryz.pinned (OpenSpec.upto treeSetsSpec)

/-- 'ductuslaw16.TreeTurns', WHERE WHAT IT READS IS OF BULK AT MOST 1048576: true; the input reads as it did. -/
def treeTurnsUptoRow : OpenClaim := { program := "ytkojnnjcgcllmaagreatdoor", sum := "4e1a8a8b14a3301963d66a66d039a80990ccf7f614d0aa297c8ed2ab7e369e31", func := "ductus/ductuslaw16.TreeTurns", spec := "treeTurns", unfollowed := true, recurses := true, named := ["ductus/fold.folded"], apart := false, laid := [("ductus/fold.folded", laid_ductus_fold_folded)], narrowed := true }
def TreeTurnsUptoSaid : Prop := treeTurnsUptoRow.holds Tryz.pinned (OpenSpec.upto treeTurnsSpec)

/-- 'ductuslaw16.TreeCloses', WHERE WHAT IT READS IS OF BULK AT MOST 1048576: true; the input reads as it did. -/
def treeClosesUptoRow : OpenClaim := { program := "ytkojnnjcgcllmaagreatdoor", sum := "4e1a8a8b14a3301963d66a66d039a80990ccf7f614d0aa297c8ed2ab7e369e31", func := "ductus/ductuslaw16.TreeCloses", spec := "treeCloses", unfollowed := true, recurses := true, named := ["ductus/fold.folded"], apart := false, laid := [("ductus/fold.folded", laid_ductus_fold_folded)], narrowed := true }
def TreeClosesUptoSaid : Prop := treeClosesUptoRow.holds Tryz.pinned (OpenSpec.upto treeClosesSpec)

/-- 'ductuslaw16.TreeQuotes', WHERE WHAT IT READS IS OF BULK AT MOST 1048576: true; the input reads as it did. -/
def treeQuotesUptoRow : OpenClaim := { program := "ytkojnnjcgcllmaagreatdoor", sum := "4e1a8a8b14a3301963d66a66d039a80990ccf7f614d0aa297c8ed2ab7e369e31", func := "ductus/ductuslaw16.TreeQuotes", spec := "treeQuotes", unfollowed := true, recurses := true, named := ["ductus/fold.folded"], apart := false, laid := [("ductus/fold.folded", laid_ductus_fold_folded)], narrowed := true }
def TreeQuotesUptoSaid : Prop := treeQuotesUptoRow.holds Tryz.pinned (OpenSpec.upto treeQuotesSpec)

/-- 'ductuslaw16.TreeUnions', WHERE WHAT IT READS IS OF BULK AT MOST 1048576: true; the input reads as it did. -/
def treeUnionsUptoRow : OpenClaim := { program := "ytkojnnjcgcllmaagreatdoor", sum := "4e1a8a8b14a3301963d66a66d039a80990ccf7f614d0aa297c8ed2ab7e369e31", func := "ductus/ductuslaw16.TreeUnions", spec := "treeUnions", unfollowed := true, recurses := true, named := ["ductus/fold.folded"], apart := false, laid := [("ductus/fold.folded", laid_ductus_fold_folded)], narrowed := true }
def TreeUnionsUptoSaid : Prop := treeUnionsUptoRow.holds Tryz.pinned (OpenSpec.upto treeUnionsSpec)

end Rows
end Go.Proofs.YtkojnnjcgcllmaaGreatDoor
