/-
  DERIVED. GIVEN WITH THE SEED: THE CARDS: each row of YtoeocodfndbebaaGreatDoorRows.lean that lists a variable, with what it lists TIED to the program's text (the seventh form; the later family's looks); each row that meets fmt, with fmt's text TOLD by the authors' own Lean function (tested against real Go, not proved from fmt's source: count such statements apart). THE CARD IS WHAT COUNTS. Prove the row's statement (the work); the ties are given (YtoeocodfndbebaaGreatDoorTie.lean); close each card by the builder's one call (the guide's Derived/Test/ToyasCard.lean, 'card_holds'). Laid BY PROGRAM, IN A SANDBOX (cutbox-door.mjs). By AI agents, Wed Nov 11 2026. No macro, syntax, notation, axiom, sorry.
-/
import Derived.Test.YtoeocodfndbebaaGreatDoorRows
import GoSem.ClaimSeven
namespace Go.Proofs.YtoeocodfndbebaaGreatDoor
namespace Rows

/-- THE TIED CARD OF 'ductuslaw17.ShowAnswers'. -/
def showAnswersCard : Claim7 := { stood := { row := showAnswersRow, standIns := [], harness := (true, "a73c932e1413e1928362f9b1549f54a22b2948a1a7c49c1941648d039afb6d39"), looks := true }, kinds := [], alts := [], laidByText := true, laidKinds := [.data, .data, .data, .data], laidTests := true, laidLooks := .later }
def ShowAnswersCardSaid : Prop := Claim7.holds Tryz.pinned (.plain (OpenSpec.ofChange showAnswersSpec)) showAnswersCard

/-- THE TIED CARD OF 'ductuslaw17.ShowBack'. -/
def showBackCard : Claim7 := { stood := { row := showBackRow, standIns := [], harness := (true, "a73c932e1413e1928362f9b1549f54a22b2948a1a7c49c1941648d039afb6d39"), looks := true }, kinds := [], alts := [], laidByText := true, laidKinds := [.data, .data, .data, .data], laidTests := true, laidLooks := .later }
def ShowBackCardSaid : Prop := Claim7.holds Tryz.pinned (.plain (OpenSpec.ofChange showBackSpec)) showBackCard

/-- THE TIED CARD OF 'ductuslaw17.ShowWithin'. -/
def showWithinCard : Claim7 := { stood := { row := showWithinRow, standIns := [], harness := (true, "a73c932e1413e1928362f9b1549f54a22b2948a1a7c49c1941648d039afb6d39"), looks := true }, kinds := [], alts := [], laidByText := true, laidKinds := [.data, .data, .data, .data], laidTests := true, laidLooks := .later }
def ShowWithinCardSaid : Prop := Claim7.holds Tryz.pinned (.plain (OpenSpec.ofChange showWithinSpec)) showWithinCard

/-- THE TIED CARD OF 'ductuslaw17.ShowFlags'. -/
def showFlagsCard : Claim7 := { stood := { row := showFlagsRow, standIns := [], harness := (true, "a73c932e1413e1928362f9b1549f54a22b2948a1a7c49c1941648d039afb6d39"), looks := true }, kinds := [], alts := [], laidByText := true, laidKinds := [.data, .data, .data, .data], laidTests := true, laidLooks := .later }
def ShowFlagsCardSaid : Prop := Claim7.holds Tryz.pinned (.plain (OpenSpec.ofChange showFlagsSpec)) showFlagsCard

/-- THE SECOND FORM's CARD OF 'ductuslaw17.ShowAnswers'. -/
def showAnswersUptoCard : Claim7 := { stood := { row := showAnswersUptoRow, standIns := [], harness := (true, "a73c932e1413e1928362f9b1549f54a22b2948a1a7c49c1941648d039afb6d39"), looks := true }, kinds := [], alts := [], laidByText := true, laidKinds := [.data, .data, .data, .data], laidTests := true, laidLooks := .later }
def ShowAnswersUptoCardSaid : Prop := Claim7.holds Tryz.pinned (.plain (OpenSpec.upto showAnswersSpec)) showAnswersUptoCard

/-- THE SECOND FORM's CARD OF 'ductuslaw17.ShowBack'. -/
def showBackUptoCard : Claim7 := { stood := { row := showBackUptoRow, standIns := [], harness := (true, "a73c932e1413e1928362f9b1549f54a22b2948a1a7c49c1941648d039afb6d39"), looks := true }, kinds := [], alts := [], laidByText := true, laidKinds := [.data, .data, .data, .data], laidTests := true, laidLooks := .later }
def ShowBackUptoCardSaid : Prop := Claim7.holds Tryz.pinned (.plain (OpenSpec.upto showBackSpec)) showBackUptoCard

/-- THE SECOND FORM's CARD OF 'ductuslaw17.ShowWithin'. -/
def showWithinUptoCard : Claim7 := { stood := { row := showWithinUptoRow, standIns := [], harness := (true, "a73c932e1413e1928362f9b1549f54a22b2948a1a7c49c1941648d039afb6d39"), looks := true }, kinds := [], alts := [], laidByText := true, laidKinds := [.data, .data, .data, .data], laidTests := true, laidLooks := .later }
def ShowWithinUptoCardSaid : Prop := Claim7.holds Tryz.pinned (.plain (OpenSpec.upto showWithinSpec)) showWithinUptoCard

/-- THE SECOND FORM's CARD OF 'ductuslaw17.ShowFlags'. -/
def showFlagsUptoCard : Claim7 := { stood := { row := showFlagsUptoRow, standIns := [], harness := (true, "a73c932e1413e1928362f9b1549f54a22b2948a1a7c49c1941648d039afb6d39"), looks := true }, kinds := [], alts := [], laidByText := true, laidKinds := [.data, .data, .data, .data], laidTests := true, laidLooks := .later }
def ShowFlagsUptoCardSaid : Prop := Claim7.holds Tryz.pinned (.plain (OpenSpec.upto showFlagsSpec)) showFlagsUptoCard
end Rows
end Go.Proofs.YtoeocodfndbebaaGreatDoor
