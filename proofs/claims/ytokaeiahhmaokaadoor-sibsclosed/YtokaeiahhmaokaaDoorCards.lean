import Derived.Test.YtokaeiahhmaokaaDoorRows
import GoSem.ClaimSeven
/-
  DERIVED. GIVEN WITH THE SEED: THE CARDS: each row of YtokaeiahhmaokaaDoorRows.lean that lists a variable, with what it lists TIED to the program's text (the seventh form; the later family's looks); each row that meets fmt, with fmt's text TOLD by the authors' own Lean function (tested against real Go, not proved from fmt's source: count such statements apart). THE CARD IS WHAT COUNTS. Prove the row's statement (the work); the ties are given (YtokaeiahhmaokaaDoorTie.lean); close each card by the builder's one call (the guide's Derived/Test/ToyasCard.lean, 'card_holds'). Laid BY PROGRAM, IN A SANDBOX (cutbox-door.mjs). By AI agents, Wed Nov 11 2026. No macro, syntax, notation, axiom, sorry.
-/
namespace Go.Proofs.YtokaeiahhmaokaaDoor
namespace Rows

/-- THE TIED CARD OF 'rookerylaw5.SibsPairs'. -/
def sibsPairsCard : Claim7 := { stood := { row := sibsPairsRow, standIns := [], harness := (true, "15f52fb4ec4d0fcce94f1b594da8c0f172b623a124dded2c9a5c0dd963d0e16f"), looks := false }, kinds := [], alts := [], laidByText := true, laidKinds := [.data], laidTests := true, laidLooks := .later }
def SibsPairsCardSaid : Prop := Claim7.holds Tryd.pinned (.plain (OpenSpec.ofChange sibsPairsSpec)) sibsPairsCard

/-- THE TIED CARD OF 'rookerylaw5.SibsGathers'. -/
def sibsGathersCard : Claim7 := { stood := { row := sibsGathersRow, standIns := [], harness := (true, "15f52fb4ec4d0fcce94f1b594da8c0f172b623a124dded2c9a5c0dd963d0e16f"), looks := false }, kinds := [], alts := [], laidByText := true, laidKinds := [.data], laidTests := true, laidLooks := .later }
def SibsGathersCardSaid : Prop := Claim7.holds Tryd.pinned (.plain (OpenSpec.ofChange sibsGathersSpec)) sibsGathersCard

/-- THE TIED CARD OF 'rookerylaw5.SibsClosed'. -/
def sibsClosedCard : Claim7 := { stood := { row := sibsClosedRow, standIns := [], harness := (true, "15f52fb4ec4d0fcce94f1b594da8c0f172b623a124dded2c9a5c0dd963d0e16f"), looks := false }, kinds := [], alts := [], laidByText := true, laidKinds := [.data], laidTests := true, laidLooks := .later }
def SibsClosedCardSaid : Prop := Claim7.holds Tryd.pinned (.plain (OpenSpec.ofChange sibsClosedSpec)) sibsClosedCard

/-- THE TIED CARD OF 'rookerylaw5.SibsOrder'. -/
def sibsOrderCard : Claim7 := { stood := { row := sibsOrderRow, standIns := [], harness := (true, "15f52fb4ec4d0fcce94f1b594da8c0f172b623a124dded2c9a5c0dd963d0e16f"), looks := false }, kinds := [], alts := [], laidByText := true, laidKinds := [.data], laidTests := true, laidLooks := .later }
def SibsOrderCardSaid : Prop := Claim7.holds Tryd.pinned (.plain (OpenSpec.ofChange sibsOrderSpec)) sibsOrderCard

/-- THE TIED CARD OF 'rookerylaw5.SibsWorld'. -/
def sibsWorldCard : Claim7 := { stood := { row := sibsWorldRow, standIns := [], harness := (true, "15f52fb4ec4d0fcce94f1b594da8c0f172b623a124dded2c9a5c0dd963d0e16f"), looks := false }, kinds := [], alts := [], laidByText := true, laidKinds := [.data], laidTests := true, laidLooks := .later }
def SibsWorldCardSaid : Prop := Claim7.holds Tryd.pinned (.plain (OpenSpec.ofChange sibsWorldSpec)) sibsWorldCard

/-- THE TIED CARD OF 'rookerylaw5.SibsFits'. -/
def sibsFitsCard : Claim7 := { stood := { row := sibsFitsRow, standIns := [], harness := (true, "15f52fb4ec4d0fcce94f1b594da8c0f172b623a124dded2c9a5c0dd963d0e16f"), looks := false }, kinds := [], alts := [], laidByText := true, laidKinds := [.data], laidTests := true, laidLooks := .later }
def SibsFitsCardSaid : Prop := Claim7.holds Tryd.pinned (.plain (OpenSpec.ofChange sibsFitsSpec)) sibsFitsCard

/-- THE TIED CARD OF 'rookerylaw5.SibsTokens'. -/
def sibsTokensCard : Claim7 := { stood := { row := sibsTokensRow, standIns := [], harness := (true, "15f52fb4ec4d0fcce94f1b594da8c0f172b623a124dded2c9a5c0dd963d0e16f"), looks := false }, kinds := [], alts := [], laidByText := true, laidKinds := [.data], laidTests := true, laidLooks := .later }
def SibsTokensCardSaid : Prop := Claim7.holds Tryd.pinned (.plain (OpenSpec.ofChange sibsTokensSpec)) sibsTokensCard

/-- THE TIED CARD OF 'rookerylaw5.SibsOwn'. -/
def sibsOwnCard : Claim7 := { stood := { row := sibsOwnRow, standIns := [], harness := (true, "15f52fb4ec4d0fcce94f1b594da8c0f172b623a124dded2c9a5c0dd963d0e16f"), looks := false }, kinds := [], alts := [], laidByText := true, laidKinds := [.data], laidTests := true, laidLooks := .later }
def SibsOwnCardSaid : Prop := Claim7.holds Tryd.pinned (.plain (OpenSpec.ofChange sibsOwnSpec)) sibsOwnCard

/-- THE SECOND FORM's CARD OF 'rookerylaw5.SibsPairs'. -/
def sibsPairsUptoCard : Claim7 := { stood := { row := sibsPairsUptoRow, standIns := [], harness := (true, "15f52fb4ec4d0fcce94f1b594da8c0f172b623a124dded2c9a5c0dd963d0e16f"), looks := false }, kinds := [], alts := [], laidByText := true, laidKinds := [.data], laidTests := true, laidLooks := .later }
def SibsPairsUptoCardSaid : Prop := Claim7.holds Tryd.pinned (.plain (OpenSpec.upto sibsPairsSpec)) sibsPairsUptoCard

/-- THE SECOND FORM's CARD OF 'rookerylaw5.SibsGathers'. -/
def sibsGathersUptoCard : Claim7 := { stood := { row := sibsGathersUptoRow, standIns := [], harness := (true, "15f52fb4ec4d0fcce94f1b594da8c0f172b623a124dded2c9a5c0dd963d0e16f"), looks := false }, kinds := [], alts := [], laidByText := true, laidKinds := [.data], laidTests := true, laidLooks := .later }
def SibsGathersUptoCardSaid : Prop := Claim7.holds Tryd.pinned (.plain (OpenSpec.upto sibsGathersSpec)) sibsGathersUptoCard

/-- THE SECOND FORM's CARD OF 'rookerylaw5.SibsClosed'. -/
def sibsClosedUptoCard : Claim7 := { stood := { row := sibsClosedUptoRow, standIns := [], harness := (true, "15f52fb4ec4d0fcce94f1b594da8c0f172b623a124dded2c9a5c0dd963d0e16f"), looks := false }, kinds := [], alts := [], laidByText := true, laidKinds := [.data], laidTests := true, laidLooks := .later }
def SibsClosedUptoCardSaid : Prop := Claim7.holds Tryd.pinned (.plain (OpenSpec.upto sibsClosedSpec)) sibsClosedUptoCard

/-- THE SECOND FORM's CARD OF 'rookerylaw5.SibsOrder'. -/
def sibsOrderUptoCard : Claim7 := { stood := { row := sibsOrderUptoRow, standIns := [], harness := (true, "15f52fb4ec4d0fcce94f1b594da8c0f172b623a124dded2c9a5c0dd963d0e16f"), looks := false }, kinds := [], alts := [], laidByText := true, laidKinds := [.data], laidTests := true, laidLooks := .later }
def SibsOrderUptoCardSaid : Prop := Claim7.holds Tryd.pinned (.plain (OpenSpec.upto sibsOrderSpec)) sibsOrderUptoCard

/-- THE SECOND FORM's CARD OF 'rookerylaw5.SibsWorld'. -/
def sibsWorldUptoCard : Claim7 := { stood := { row := sibsWorldUptoRow, standIns := [], harness := (true, "15f52fb4ec4d0fcce94f1b594da8c0f172b623a124dded2c9a5c0dd963d0e16f"), looks := false }, kinds := [], alts := [], laidByText := true, laidKinds := [.data], laidTests := true, laidLooks := .later }
def SibsWorldUptoCardSaid : Prop := Claim7.holds Tryd.pinned (.plain (OpenSpec.upto sibsWorldSpec)) sibsWorldUptoCard

/-- THE SECOND FORM's CARD OF 'rookerylaw5.SibsFits'. -/
def sibsFitsUptoCard : Claim7 := { stood := { row := sibsFitsUptoRow, standIns := [], harness := (true, "15f52fb4ec4d0fcce94f1b594da8c0f172b623a124dded2c9a5c0dd963d0e16f"), looks := false }, kinds := [], alts := [], laidByText := true, laidKinds := [.data], laidTests := true, laidLooks := .later }
def SibsFitsUptoCardSaid : Prop := Claim7.holds Tryd.pinned (.plain (OpenSpec.upto sibsFitsSpec)) sibsFitsUptoCard

/-- THE SECOND FORM's CARD OF 'rookerylaw5.SibsTokens'. -/
def sibsTokensUptoCard : Claim7 := { stood := { row := sibsTokensUptoRow, standIns := [], harness := (true, "15f52fb4ec4d0fcce94f1b594da8c0f172b623a124dded2c9a5c0dd963d0e16f"), looks := false }, kinds := [], alts := [], laidByText := true, laidKinds := [.data], laidTests := true, laidLooks := .later }
def SibsTokensUptoCardSaid : Prop := Claim7.holds Tryd.pinned (.plain (OpenSpec.upto sibsTokensSpec)) sibsTokensUptoCard

/-- THE SECOND FORM's CARD OF 'rookerylaw5.SibsOwn'. -/
def sibsOwnUptoCard : Claim7 := { stood := { row := sibsOwnUptoRow, standIns := [], harness := (true, "15f52fb4ec4d0fcce94f1b594da8c0f172b623a124dded2c9a5c0dd963d0e16f"), looks := false }, kinds := [], alts := [], laidByText := true, laidKinds := [.data], laidTests := true, laidLooks := .later }
def SibsOwnUptoCardSaid : Prop := Claim7.holds Tryd.pinned (.plain (OpenSpec.upto sibsOwnSpec)) sibsOwnUptoCard
end Rows
end Go.Proofs.YtokaeiahhmaokaaDoor
