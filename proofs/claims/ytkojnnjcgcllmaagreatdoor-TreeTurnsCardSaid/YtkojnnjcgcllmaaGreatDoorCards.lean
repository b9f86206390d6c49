/-
  DERIVED. GIVEN WITH THE SEED: THE CARDS: each row of YtkojnnjcgcllmaaGreatDoorRows.lean that lists a variable, with what it lists TIED to the program's text (the seventh form; the later family's looks); each row that meets fmt, with fmt's text TOLD by the authors' own Lean function (tested against real Go, not proved from fmt's source: count such statements apart). THE CARD IS WHAT COUNTS. Prove the row's statement (the work); the ties are given (YtkojnnjcgcllmaaGreatDoorTie.lean); close each card by the builder's one call (the guide's Derived/Test/ToyasCard.lean, 'card_holds'). Laid BY PROGRAM, IN A SANDBOX (cutbox-door.mjs). By AI agents, Wed Nov 11 2026. No macro, syntax, notation, axiom, sorry.
-/
import Derived.Test.YtkojnnjcgcllmaaGreatDoorRows
import GoSem.ClaimSeven
namespace Go.Proofs.YtkojnnjcgcllmaaGreatDoor
namespace Rows

/-- THE TIED CARD OF 'ductuslaw16.TreeSets'. -/
def treeSetsCard : Claim7 := { stood := { row := treeSetsRow, standIns := [], harness := (true, "be344fd4227407019f70b526505c17d723b806023e3521d2cd9ea7fdbc03cf58"), looks := true }, kinds := [], alts := [], laidByText := true, laidKinds := [.data], laidTests := true, laidLooks := .later }
def TreeSetsCardSaid : Prop := Claim7.holds Tryz.pinned (.plain (OpenSpec.ofChange treeSetsSpec)) treeSetsCard

/-- THE TIED CARD OF 'ductuslaw16.TreeTurns'. -/
def treeTurnsCard : Claim7 := { stood := { row := treeTurnsRow, standIns := [], harness := (true, "be344fd4227407019f70b526505c17d723b806023e3521d2cd9ea7fdbc03cf58"), looks := true }, kinds := [], alts := [], laidByText := true, laidKinds := [.data], laidTests := true, laidLooks := .later }
def TreeTurnsCardSaid : Prop := Claim7.holds Tryz.pinned (.plain (OpenSpec.ofChange treeTurnsSpec)) treeTurnsCard

/-- THE TIED CARD OF 'ductuslaw16.TreeCloses'. -/
def treeClosesCard : Claim7 := { stood := { row := treeClosesRow, standIns := [], harness := (true, "be344fd4227407019f70b526505c17d723b806023e3521d2cd9ea7fdbc03cf58"), looks := true }, kinds := [], alts := [], laidByText := true, laidKinds := [.data], laidTests := true, laidLooks := .later }
def TreeClosesCardSaid : Prop := Claim7.holds Tryz.pinned (.plain (OpenSpec.ofChange treeClosesSpec)) treeClosesCard

/-- THE TIED CARD OF 'ductuslaw16.TreeQuotes'. -/
def treeQuotesCard : Claim7 := { stood := { row := treeQuotesRow, standIns := [], harness := (true, "be344fd4227407019f70b526505c17d723b806023e3521d2cd9ea7fdbc03cf58"), looks := true }, kinds := [], alts := [], laidByText := true, laidKinds := [.data], laidTests := true, laidLooks := .later }
def TreeQuotesCardSaid : Prop := Claim7.holds Tryz.pinned (.plain (OpenSpec.ofChange treeQuotesSpec)) treeQuotesCard

/-- THE TIED CARD OF 'ductuslaw16.TreeUnions'. -/
def treeUnionsCard : Claim7 := { stood := { row := treeUnionsRow, standIns := [], harness := (true, "be344fd4227407019f70b526505c17d723b806023e3521d2cd9ea7fdbc03cf58"), looks := true }, kinds := [], alts := [], laidByText := true, laidKinds := [.data], laidTests := true, laidLooks := .later }
def TreeUnionsCardSaid : Prop := Claim7.holds Tryz.pinned (.plain (OpenSpec.ofChange treeUnionsSpec)) treeUnionsCard

/-- THE SECOND FORM's CARD OF 'ductuslaw16.TreeSets'. -/
def treeSetsUptoCard : Claim7 := { stood := { row := treeSetsUptoRow, standIns := [], harness := (true, "be344fd4227407019f70b526505c17d723b806023e3521d2cd9ea7fdbc03cf58"), looks := true }, kinds := [], alts := [], laidByText := true, laidKinds := [.data], laidTests := true, laidLooks := .later }
def TreeSetsUptoCardSaid : Prop := Claim7.holds Tryz.pinned (.plain (OpenSpec.upto treeSetsSpec)) treeSetsUptoCard

/-- THE SECOND FORM's CARD OF 'ductuslaw16.TreeTurns'. -/
def treeTurnsUptoCard : Claim7 := { stood := { row := treeTurnsUptoRow, standIns := [], harness := (true, "be344fd4227407019f70b526505c17d723b806023e3521d2cd9ea7fdbc03cf58"), looks := true }, kinds := [], alts := [], laidByText := true, laidKinds := [.data], laidTests := true, laidLooks := .later }
def TreeTurnsUptoCardSaid : Prop := Claim7.holds Tryz.pinned (.plain (OpenSpec.upto treeTurnsSpec)) treeTurnsUptoCard

/-- THE SECOND FORM's CARD OF 'ductuslaw16.TreeCloses'. -/
def treeClosesUptoCard : Claim7 := { stood := { row := treeClosesUptoRow, standIns := [], harness := (true, "be344fd4227407019f70b526505c17d723b806023e3521d2cd9ea7fdbc03cf58"), looks := true }, kinds := [], alts := [], laidByText := true, laidKinds := [.data], laidTests := true, laidLooks := .later }
def TreeClosesUptoCardSaid : Prop := Claim7.holds Tryz.pinned (.plain (OpenSpec.upto treeClosesSpec)) treeClosesUptoCard

/-- THE SECOND FORM's CARD OF 'ductuslaw16.TreeQuotes'. -/
def treeQuotesUptoCard : Claim7 := { stood := { row := treeQuotesUptoRow, standIns := [], harness := (true, "be344fd4227407019f70b526505c17d723b806023e3521d2cd9ea7fdbc03cf58"), looks := true }, kinds := [], alts := [], laidByText := true, laidKinds := [.data], laidTests := true, laidLooks := .later }
def TreeQuotesUptoCardSaid : Prop := Claim7.holds Tryz.pinned (.plain (OpenSpec.upto treeQuotesSpec)) treeQuotesUptoCard

/-- THE SECOND FORM's CARD OF 'ductuslaw16.TreeUnions'. -/
def treeUnionsUptoCard : Claim7 := { stood := { row := treeUnionsUptoRow, standIns := [], harness := (true, "be344fd4227407019f70b526505c17d723b806023e3521d2cd9ea7fdbc03cf58"), looks := true }, kinds := [], alts := [], laidByText := true, laidKinds := [.data], laidTests := true, laidLooks := .later }
def TreeUnionsUptoCardSaid : Prop := Claim7.holds Tryz.pinned (.plain (OpenSpec.upto treeUnionsSpec)) treeUnionsUptoCard
end Rows
end Go.Proofs.YtkojnnjcgcllmaaGreatDoor
