/-
  DERIVED. GIVEN WITH THE SEED: THE CARDS: each row of YtjlnchocpngnoaaDoorRows.lean that lists a variable, with what it lists TIED to the program's text (the seventh form; the later family's looks); each row that meets fmt, with fmt's text TOLD by the authors' own Lean function (tested against real Go, not proved from fmt's source: count such statements apart). THE CARD IS WHAT COUNTS. Prove the row's statement (the work); the ties are given (YtjlnchocpngnoaaDoorTie.lean); close each card by the builder's one call (the guide's Derived/Test/ToyasCard.lean, 'card_holds'). Laid BY PROGRAM, IN A SANDBOX (cutbox-door.mjs). By AI agents, Wed Nov 11 2026. No macro, syntax, notation, axiom, sorry.
-/
import Derived.Test.YtjlnchocpngnoaaDoorRows
import GoSem.ClaimSeven
namespace Go.Proofs.YtjlnchocpngnoaaDoor
namespace Rows

/-- THE TIED CARD OF 'ductuslaw04.FoldAnswers'. -/
def foldAnswersCard : Claim7 := { stood := { row := foldAnswersRow, standIns := [], harness := (true, "add495ba422e2f4ef440f857ce4ce415ae403fb292dded84371aa2c47a390c92"), looks := false }, kinds := [], alts := [], laidByText := true, laidKinds := [.data], laidTests := true, laidLooks := .later }
def FoldAnswersCardSaid : Prop := Claim7.holds Tryd.pinned (.plain (OpenSpec.ofChange foldAnswersSpec)) foldAnswersCard

/-- THE TIED CARD OF 'ductuslaw04.FoldKin'. -/
def foldKinCard : Claim7 := { stood := { row := foldKinRow, standIns := [], harness := (true, "add495ba422e2f4ef440f857ce4ce415ae403fb292dded84371aa2c47a390c92"), looks := false }, kinds := [], alts := [], laidByText := true, laidKinds := [.data], laidTests := true, laidLooks := .later }
def FoldKinCardSaid : Prop := Claim7.holds Tryd.pinned (.plain (OpenSpec.ofChange foldKinSpec)) foldKinCard

/-- THE TIED CARD OF 'ductuslaw04.FoldSames'. -/
def foldSamesCard : Claim7 := { stood := { row := foldSamesRow, standIns := [], harness := (true, "add495ba422e2f4ef440f857ce4ce415ae403fb292dded84371aa2c47a390c92"), looks := false }, kinds := [], alts := [], laidByText := true, laidKinds := [.data], laidTests := true, laidLooks := .later }
def FoldSamesCardSaid : Prop := Claim7.holds Tryd.pinned (.plain (OpenSpec.ofChange foldSamesSpec)) foldSamesCard

/-- THE SECOND FORM's CARD OF 'ductuslaw04.FoldAnswers'. -/
def foldAnswersUptoCard : Claim7 := { stood := { row := foldAnswersUptoRow, standIns := [], harness := (true, "add495ba422e2f4ef440f857ce4ce415ae403fb292dded84371aa2c47a390c92"), looks := false }, kinds := [], alts := [], laidByText := true, laidKinds := [.data], laidTests := true, laidLooks := .later }
def FoldAnswersUptoCardSaid : Prop := Claim7.holds Tryd.pinned (.plain (OpenSpec.upto foldAnswersSpec)) foldAnswersUptoCard

/-- THE SECOND FORM's CARD OF 'ductuslaw04.FoldKin'. -/
def foldKinUptoCard : Claim7 := { stood := { row := foldKinUptoRow, standIns := [], harness := (true, "add495ba422e2f4ef440f857ce4ce415ae403fb292dded84371aa2c47a390c92"), looks := false }, kinds := [], alts := [], laidByText := true, laidKinds := [.data], laidTests := true, laidLooks := .later }
def FoldKinUptoCardSaid : Prop := Claim7.holds Tryd.pinned (.plain (OpenSpec.upto foldKinSpec)) foldKinUptoCard

/-- THE SECOND FORM's CARD OF 'ductuslaw04.FoldSames'. -/
def foldSamesUptoCard : Claim7 := { stood := { row := foldSamesUptoRow, standIns := [], harness := (true, "add495ba422e2f4ef440f857ce4ce415ae403fb292dded84371aa2c47a390c92"), looks := false }, kinds := [], alts := [], laidByText := true, laidKinds := [.data], laidTests := true, laidLooks := .later }
def FoldSamesUptoCardSaid : Prop := Claim7.holds Tryd.pinned (.plain (OpenSpec.upto foldSamesSpec)) foldSamesUptoCard
end Rows
end Go.Proofs.YtjlnchocpngnoaaDoor
