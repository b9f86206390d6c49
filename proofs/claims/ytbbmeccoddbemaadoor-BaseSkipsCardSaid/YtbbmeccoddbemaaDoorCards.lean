/-
  DERIVED. GIVEN WITH THE SEED: THE CARDS: each row of YtbbmeccoddbemaaDoorRows.lean that lists a variable, with what it lists TIED to the program's text (the seventh form; the later family's looks); each row that meets fmt, with fmt's text TOLD by the authors' own Lean function (tested against real Go, not proved from fmt's source: count such statements apart). THE CARD IS WHAT COUNTS. Prove the row's statement (the work); the ties are given (YtbbmeccoddbemaaDoorTie.lean); close each card by the builder's one call (the guide's Derived/Test/ToyasCard.lean, 'card_holds'). Laid BY PROGRAM, IN A SANDBOX (cutbox-door.mjs). By AI agents, Wed Nov 11 2026. No macro, syntax, notation, axiom, sorry.
-/
import Derived.Test.YtbbmeccoddbemaaDoorRows
import GoSem.ClaimSeven
namespace Go.Proofs.YtbbmeccoddbemaaDoor
namespace Rows

/-- THE TIED CARD OF 'ductuslaw05.BaseAnswers'. -/
def baseAnswersCard : Claim7 := { stood := { row := baseAnswersRow, standIns := [], harness := (true, "495659d641ff357fec5e54a0255950dd2fd5a2ecfbc7d607831e775e93ecc292"), looks := false }, kinds := [], alts := [], laidByText := true, laidKinds := [.data], laidTests := true, laidLooks := .later }
def BaseAnswersCardSaid : Prop := Claim7.holds Tryd.pinned (.plain (OpenSpec.ofChange baseAnswersSpec)) baseAnswersCard

/-- THE TIED CARD OF 'ductuslaw05.BasePairs'. -/
def basePairsCard : Claim7 := { stood := { row := basePairsRow, standIns := [], harness := (true, "495659d641ff357fec5e54a0255950dd2fd5a2ecfbc7d607831e775e93ecc292"), looks := false }, kinds := [], alts := [], laidByText := true, laidKinds := [.data], laidTests := true, laidLooks := .later }
def BasePairsCardSaid : Prop := Claim7.holds Tryd.pinned (.plain (OpenSpec.ofChange basePairsSpec)) basePairsCard

/-- THE TIED CARD OF 'ductuslaw05.BaseSkips'. -/
def baseSkipsCard : Claim7 := { stood := { row := baseSkipsRow, standIns := [], harness := (true, "495659d641ff357fec5e54a0255950dd2fd5a2ecfbc7d607831e775e93ecc292"), looks := false }, kinds := [], alts := [], laidByText := true, laidKinds := [.data], laidTests := true, laidLooks := .later }
def BaseSkipsCardSaid : Prop := Claim7.holds Tryd.pinned (.plain (OpenSpec.ofChange baseSkipsSpec)) baseSkipsCard

/-- THE TIED CARD OF 'ductuslaw05.BaseFirsts'. -/
def baseFirstsCard : Claim7 := { stood := { row := baseFirstsRow, standIns := [], harness := (true, "495659d641ff357fec5e54a0255950dd2fd5a2ecfbc7d607831e775e93ecc292"), looks := false }, kinds := [], alts := [], laidByText := true, laidKinds := [.data], laidTests := true, laidLooks := .later }
def BaseFirstsCardSaid : Prop := Claim7.holds Tryd.pinned (.plain (OpenSpec.ofChange baseFirstsSpec)) baseFirstsCard

/-- THE SECOND FORM's CARD OF 'ductuslaw05.BaseAnswers'. -/
def baseAnswersUptoCard : Claim7 := { stood := { row := baseAnswersUptoRow, standIns := [], harness := (true, "495659d641ff357fec5e54a0255950dd2fd5a2ecfbc7d607831e775e93ecc292"), looks := false }, kinds := [], alts := [], laidByText := true, laidKinds := [.data], laidTests := true, laidLooks := .later }
def BaseAnswersUptoCardSaid : Prop := Claim7.holds Tryd.pinned (.plain (OpenSpec.upto baseAnswersSpec)) baseAnswersUptoCard

/-- THE SECOND FORM's CARD OF 'ductuslaw05.BasePairs'. -/
def basePairsUptoCard : Claim7 := { stood := { row := basePairsUptoRow, standIns := [], harness := (true, "495659d641ff357fec5e54a0255950dd2fd5a2ecfbc7d607831e775e93ecc292"), looks := false }, kinds := [], alts := [], laidByText := true, laidKinds := [.data], laidTests := true, laidLooks := .later }
def BasePairsUptoCardSaid : Prop := Claim7.holds Tryd.pinned (.plain (OpenSpec.upto basePairsSpec)) basePairsUptoCard

/-- THE SECOND FORM's CARD OF 'ductuslaw05.BaseSkips'. -/
def baseSkipsUptoCard : Claim7 := { stood := { row := baseSkipsUptoRow, standIns := [], harness := (true, "495659d641ff357fec5e54a0255950dd2fd5a2ecfbc7d607831e775e93ecc292"), looks := false }, kinds := [], alts := [], laidByText := true, laidKinds := [.data], laidTests := true, laidLooks := .later }
def BaseSkipsUptoCardSaid : Prop := Claim7.holds Tryd.pinned (.plain (OpenSpec.upto baseSkipsSpec)) baseSkipsUptoCard

/-- THE SECOND FORM's CARD OF 'ductuslaw05.BaseFirsts'. -/
def baseFirstsUptoCard : Claim7 := { stood := { row := baseFirstsUptoRow, standIns := [], harness := (true, "495659d641ff357fec5e54a0255950dd2fd5a2ecfbc7d607831e775e93ecc292"), looks := false }, kinds := [], alts := [], laidByText := true, laidKinds := [.data], laidTests := true, laidLooks := .later }
def BaseFirstsUptoCardSaid : Prop := Claim7.holds Tryd.pinned (.plain (OpenSpec.upto baseFirstsSpec)) baseFirstsUptoCard
end Rows
end Go.Proofs.YtbbmeccoddbemaaDoor
