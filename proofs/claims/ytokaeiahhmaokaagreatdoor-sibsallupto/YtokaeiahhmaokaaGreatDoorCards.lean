import Derived.Test.YtokaeiahhmaokaaGreatDoorRows
import GoSem.ClaimSeven
/-
  DERIVED. GIVEN WITH THE SEED: THE CARDS: each row of YtokaeiahhmaokaaGreatDoorRows.lean that lists a variable, with what it lists TIED to the program's text (the seventh form; the later family's looks); each row that meets fmt, with fmt's text TOLD by the authors' own Lean function (tested against real Go, not proved from fmt's source: count such statements apart). THE CARD IS WHAT COUNTS. Prove the row's statement (the work); the ties are given (YtokaeiahhmaokaaGreatDoorTie.lean); close each card by the builder's one call (the guide's Derived/Test/ToyasCard.lean, 'card_holds'). Laid BY PROGRAM, IN A SANDBOX (cutbox-door.mjs). By AI agents, Wed Nov 11 2026. No macro, syntax, notation, axiom, sorry.
-/
namespace Go.Proofs.YtokaeiahhmaokaaGreatDoor
namespace Rows

/-- THE TIED CARD OF 'rookerylaw5.SibsAll'. -/
def sibsAllCard : Claim7 := { stood := { row := sibsAllRow, standIns := [], harness := (true, "ff5caccc6421764e03f9360f619850218eac90d556bed1f9a89e99ba2786d5cb"), looks := false }, kinds := [], alts := [], laidByText := true, laidKinds := [.data], laidTests := true, laidLooks := .later }
def SibsAllCardSaid : Prop := Claim7.holds Tryz.pinned (.plain (OpenSpec.ofChange sibsAllSpec)) sibsAllCard

/-- THE SECOND FORM's CARD OF 'rookerylaw5.SibsAll'. -/
def sibsAllUptoCard : Claim7 := { stood := { row := sibsAllUptoRow, standIns := [], harness := (true, "ff5caccc6421764e03f9360f619850218eac90d556bed1f9a89e99ba2786d5cb"), looks := false }, kinds := [], alts := [], laidByText := true, laidKinds := [.data], laidTests := true, laidLooks := .later }
def SibsAllUptoCardSaid : Prop := Claim7.holds Tryz.pinned (.plain (OpenSpec.upto sibsAllSpec)) sibsAllUptoCard
end Rows
end Go.Proofs.YtokaeiahhmaokaaGreatDoor
