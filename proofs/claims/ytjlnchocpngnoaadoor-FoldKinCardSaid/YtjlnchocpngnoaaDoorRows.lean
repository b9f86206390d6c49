/-
  NARROWER THAN 'FOR EVERY INPUT', by the rows' own cells (each row's printed sentence says how): FoldAnswers: laid · FoldKin: laid · FoldSames: laid.
  DERIVED. THE GIVEN ROWS OF THIS SEAT. 3 by the template 'for every input the law returns true; each argument reads behind the call as it read before'; 0 by the template 'total and deterministic' (their statements: YtjlnchocpngnoaaDoorTotals.lean).
  GIVEN WITH THE SEED: the statements are not yours to turn. If you find one false, say at which input.
  Laid BY PROGRAM, IN A SANDBOX (cutbox-rows.mjs): the forced cells as the released guide's own fill.sh prints them over the translation 83f17d27035db527… (all of the seat's roots in one cut). By AI agents, Wed Nov 11 2026. No macro, syntax, notation, axiom, sorry.
-/
import Derived.Test.YtjlnchocpngnoaaDoorChecked
import GoSem.Claim
import GoSem.ClaimJoined
import GoSem.ClaimMapViews
import Derived.JoinedTies
import Derived.KernelRfl
namespace Go.Proofs.YtjlnchocpngnoaaDoor
/- THE CELL 'sum', in the pinned program and in every row, IS THE sha256 OF THE DUMP (.gsa) THAT YtjlnchocpngnoaaDoorProg.lean LOADS. Nothing in Lean hashes anything: it is a label: what it is worth is what the hold of that sum in a sandbox is worth. -/
noncomputable def Tryd.pinned : Pinned := { name := "ytjlnchocpngnoaadoor", sum := "83f17d27035db52709a0df8b96686aec03b34b5d35b20c90604fd65173673e3d", checked := Tryd.checked }
namespace Rows
def none {H : Type} : Left H := { results := [], args := [] }

/- WHAT THE LISTED PACKAGE-LEVEL VARIABLES READ AS WHEN THE CALL BEGINS. Each datum BY PROGRAM (the guide's laid-datum.mjs) off the statement by which the dump's own 'gosem.cut.vars' lays the variable. In a bare row this is a premise. The card (YtjlnchocpngnoaaDoorCards.lean) ties it to the program's text. -/
def laid_ductus_fold_folded {H : Type} : DataW H := .agg [.agg [.lit (.int .i64 65), .lit (.int .i64 90), .lit (.int .i64 32)], .agg [.lit (.int .i64 181), .lit (.int .i64 181), .lit (.int .i64 775)], .agg [.lit (.int .i64 192), .lit (.int .i64 214), .lit (.int .i64 32)], .agg [.lit (.int .i64 216), .lit (.int .i64 222), .lit (.int .i64 32)], .agg [.lit (.int .i64 913), .lit (.int .i64 929), .lit (.int .i64 32)], .agg [.lit (.int .i64 931), .lit (.int .i64 937), .lit (.int .i64 32)], .agg [.lit (.int .i64 962), .lit (.int .i64 962), .lit (.int .i64 1)], .agg [.lit (.int .i64 1024), .lit (.int .i64 1039), .lit (.int .i64 80)], .agg [.lit (.int .i64 1040), .lit (.int .i64 1071), .lit (.int .i64 32)], .agg [.lit (.int .i64 7838), .lit (.int .i64 7838), .lit (.int .i64 (-7615))]]

/-- 'ductuslaw04.FoldAnswers': WHATEVER THE INPUT: true; the input reads as it did. -/
def foldAnswersSpec : ChangeSpec := { name := "foldAnswers", fn := fun _ => fun
  | [d1, d2, d3] => { results := [.lit (.bool true)], args := [d1, d2, d3] }
  | _ => none }
def foldAnswersRow : OpenClaim := { program := "ytjlnchocpngnoaadoor", sum := "83f17d27035db52709a0df8b96686aec03b34b5d35b20c90604fd65173673e3d", func := "ductus/ductuslaw04.FoldAnswers", spec := "foldAnswers", unfollowed := true, recurses := true, named := ["ductus/fold.folded"], apart := false, laid := [("ductus/fold.folded", laid_ductus_fold_folded)] }
def FoldAnswersSaid : Prop := foldAnswersRow.holds Tryd.pinned (OpenSpec.ofChange foldAnswersSpec)

/-- ITS FALSE NEIGHBOUR: 'it returns false'. Refute it at one input. -/
def foldAnswersWrong : ChangeSpec := { name := "foldAnswers", fn := fun _ => fun
  | [d1, d2, d3] => { results := [.lit (.bool false)], args := [d1, d2, d3] }
  | _ => none }
def FoldAnswersWrongFalsely : Prop := foldAnswersRow.holds Tryd.pinned (OpenSpec.ofChange foldAnswersWrong)

/-- 'ductuslaw04.FoldKin': WHATEVER THE INPUT: true; the input reads as it did. -/
def foldKinSpec : ChangeSpec := { name := "foldKin", fn := fun _ => fun
  | [d1, d2] => { results := [.lit (.bool true)], args := [d1, d2] }
  | _ => none }
def foldKinRow : OpenClaim := { program := "ytjlnchocpngnoaadoor", sum := "83f17d27035db52709a0df8b96686aec03b34b5d35b20c90604fd65173673e3d", func := "ductus/ductuslaw04.FoldKin", spec := "foldKin", unfollowed := true, recurses := true, named := ["ductus/fold.folded"], apart := false, laid := [("ductus/fold.folded", laid_ductus_fold_folded)] }
def FoldKinSaid : Prop := foldKinRow.holds Tryd.pinned (OpenSpec.ofChange foldKinSpec)

/-- ITS FALSE NEIGHBOUR: 'it returns false'. Refute it at one input. -/
def foldKinWrong : ChangeSpec := { name := "foldKin", fn := fun _ => fun
  | [d1, d2] => { results := [.lit (.bool false)], args := [d1, d2] }
  | _ => none }
def FoldKinWrongFalsely : Prop := foldKinRow.holds Tryd.pinned (OpenSpec.ofChange foldKinWrong)

/-- 'ductuslaw04.FoldSames': WHATEVER THE INPUT: true; the input reads as it did. -/
def foldSamesSpec : ChangeSpec := { name := "foldSames", fn := fun _ => fun
  | [d1, d2] => { results := [.lit (.bool true)], args := [d1, d2] }
  | _ => none }
def foldSamesRow : OpenClaim := { program := "ytjlnchocpngnoaadoor", sum := "83f17d27035db52709a0df8b96686aec03b34b5d35b20c90604fd65173673e3d", func := "ductus/ductuslaw04.FoldSames", spec := "foldSames", unfollowed := true, recurses := true, named := ["ductus/fold.folded"], apart := false, laid := [("ductus/fold.folded", laid_ductus_fold_folded)] }
def FoldSamesSaid : Prop := foldSamesRow.holds Tryd.pinned (OpenSpec.ofChange foldSamesSpec)

/-- ITS FALSE NEIGHBOUR: 'it returns false'. Refute it at one input. -/
def foldSamesWrong : ChangeSpec := { name := "foldSames", fn := fun _ => fun
  | [d1, d2] => { results := [.lit (.bool false)], args := [d1, d2] }
  | _ => none }
def FoldSamesWrongFalsely : Prop := foldSamesRow.holds Tryd.pinned (OpenSpec.ofChange foldSamesWrong)

/- THE SECOND FORM. 'bulk': how many values and letters a reading holds, each counted each time it is reached (what is shared counts as often as it is met; a slice's spare places count too). A statement '..UptoSaid' is the law's where the arguments, and the package variables that the reading takes, are together of bulk at most 1048576: NARROWER than '..Said'. Prove '..Said' where nothing that the law and all that it calls make is longer than what came in: it says more and counts as full. Else prove '..UptoSaid'. A law counts once. -/
mutual
def uptoBulk {H : Type} : DataW H → Nat
  | .lit (.string bytes) => bytes.length + 1
  | .lit _ => 1
  | .nil => 1
  | .ptr d => uptoBulk d + 1
  | .slice elems spare => uptoBulkAll elems + uptoBulkAll spare + 1
  | .agg parts => uptoBulkAll parts + 1
  | .iface _ d => uptoBulk d + 1
  | .map entries => uptoBulkEntries entries + 1
  | .held _ => 1
def uptoBulkAll {H : Type} : List (DataW H) → Nat
  | [] => 0
  | d :: r => uptoBulk d + uptoBulkAll r
def uptoBulkEntries {H : Type} : List (Lit × DataW H) → Nat
  | [] => 0
  | x :: r => uptoBulkEntry x + uptoBulkEntries r
def uptoBulkEntry {H : Type} : Lit × DataW H → Nat
  | (.string bytes, d) => bytes.length + uptoBulk d + 1
  | (_, d) => uptoBulk d + 1
 end
def uptoSmall : (H : Type) → List (DataW H) → Bool := fun _ ds => decide (uptoBulkAll ds ≤ 1048576)
def OpenSpec.upto (s : _root_.Go.ChangeSpec) : _root_.Go.OpenSpec := { _root_.Go.OpenSpec.ofChange s with cond := some uptoSmall }

/-- 'ductuslaw04.FoldAnswers', WHERE WHAT IT READS IS OF BULK AT MOST 1048576: true; the input reads as it did. -/
def foldAnswersUptoRow : OpenClaim := { program := "ytjlnchocpngnoaadoor", sum := "83f17d27035db52709a0df8b96686aec03b34b5d35b20c90604fd65173673e3d", func := "ductus/ductuslaw04.FoldAnswers", spec := "foldAnswers", unfollowed := true, recurses := true, named := ["ductus/fold.folded"], apart := false, laid := [("ductus/fold.folded", laid_ductus_fold_folded)], narrowed := true }
def FoldAnswersUptoSaid : Prop := foldAnswersUptoRow.holds Tryd.pinned (OpenSpec.upto foldAnswersSpec)

/-- 'ductuslaw04.FoldKin', WHERE WHAT IT READS IS OF BULK AT MOST 1048576: true; the input reads as it did. -/
def foldKinUptoRow : OpenClaim := { program := "ytjlnchocpngnoaadoor", sum := "83f17d27035db52709a0df8b96686aec03b34b5d35b20c90604fd65173673e3d", func := "ductus/ductuslaw04.FoldKin", spec := "foldKin", unfollowed := true, recurses := true, named := ["ductus/fold.folded"], apart := false, laid := [("ductus/fold.folded", laid_ductus_fold_folded)], narrowed := true }
def FoldKinUptoSaid : Prop := foldKinUptoRow.holds Tryd.pinned (OpenSpec.upto foldKinSpec)

/-- 'ductuslaw04.FoldSames', WHERE WHAT IT READS IS OF BULK AT MOST 1048576: true; the input reads as it did. -/
def foldSamesUptoRow : OpenClaim := { program := "ytjlnchocpngnoaadoor", sum := "83f17d27035db52709a0df8b96686aec03b34b5d35b20c90604fd65173673e3d", func := "ductus/ductuslaw04.FoldSames", spec := "foldSames", unfollowed := true, recurses := true, named := ["ductus/fold.folded"], apart := false, laid := [("ductus/fold.folded", laid_ductus_fold_folded)], narrowed := true }
def FoldSamesUptoSaid : Prop := foldSamesUptoRow.holds Tryd.pinned (OpenSpec.upto foldSamesSpec)

end Rows
end Go.Proofs.YtjlnchocpngnoaaDoor
