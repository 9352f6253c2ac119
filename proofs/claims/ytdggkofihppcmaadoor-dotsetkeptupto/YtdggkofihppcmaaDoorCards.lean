/-
  DERIVED. GIVEN WITH THE SEED: THE CARDS: each row of YtdggkofihppcmaaDoorRows.lean that lists a variable, with what it lists TIED to the program's text (the seventh form; the later family's looks); each row that meets fmt, with fmt's text TOLD by the authors' own Lean function (tested against real Go, not proved from fmt's source: count such statements apart). THE CARD IS WHAT COUNTS. Prove the row's statement (the work); the ties are given (YtdggkofihppcmaaDoorTie.lean); close each card by the builder's one call (the guide's Derived/Test/ToyasCard.lean, 'card_holds'). Laid BY PROGRAM, IN A SANDBOX (cutbox-door.mjs). By AI agents, Wed Nov 11 2026. No macro, syntax, notation, axiom, sorry.
-/
import Derived.Test.YtdggkofihppcmaaDoorRows
import GoSem.ClaimSeven
namespace Go.Proofs.YtdggkofihppcmaaDoor
namespace Rows

/-- THE TIED CARD OF 'rookerylaw3.DotsetOne'. -/
def dotsetOneCard : Claim7 := { stood := { row := dotsetOneRow, standIns := [], harness := (true, "d1f6aa8258987bfd7a36b61d02a283b5f89adc35d21a5aec71906f91ccc68ef0"), looks := false }, kinds := [], alts := [], laidByText := true, laidKinds := [.data], laidTests := true, laidLooks := .later }
def DotsetOneCardSaid : Prop := Claim7.holds Tryd.pinned (.plain (OpenSpec.ofChange dotsetOneSpec)) dotsetOneCard

/-- THE TIED CARD OF 'rookerylaw3.DotsetLaws'. -/
def dotsetLawsCard : Claim7 := { stood := { row := dotsetLawsRow, standIns := [], harness := (true, "d1f6aa8258987bfd7a36b61d02a283b5f89adc35d21a5aec71906f91ccc68ef0"), looks := false }, kinds := [], alts := [], laidByText := true, laidKinds := [.data], laidTests := true, laidLooks := .later }
def DotsetLawsCardSaid : Prop := Claim7.holds Tryd.pinned (.plain (OpenSpec.ofChange dotsetLawsSpec)) dotsetLawsCard

/-- THE TIED CARD OF 'rookerylaw3.DotsetGrown'. -/
def dotsetGrownCard : Claim7 := { stood := { row := dotsetGrownRow, standIns := [], harness := (true, "d1f6aa8258987bfd7a36b61d02a283b5f89adc35d21a5aec71906f91ccc68ef0"), looks := false }, kinds := [], alts := [], laidByText := true, laidKinds := [.data], laidTests := true, laidLooks := .later }
def DotsetGrownCardSaid : Prop := Claim7.holds Tryd.pinned (.plain (OpenSpec.ofChange dotsetGrownSpec)) dotsetGrownCard

/-- THE TIED CARD OF 'rookerylaw3.DotsetChecks'. -/
def dotsetChecksCard : Claim7 := { stood := { row := dotsetChecksRow, standIns := [], harness := (true, "d1f6aa8258987bfd7a36b61d02a283b5f89adc35d21a5aec71906f91ccc68ef0"), looks := false }, kinds := [], alts := [], laidByText := true, laidKinds := [.data], laidTests := true, laidLooks := .later }
def DotsetChecksCardSaid : Prop := Claim7.holds Tryd.pinned (.plain (OpenSpec.ofChange dotsetChecksSpec)) dotsetChecksCard

/-- THE TIED CARD OF 'rookerylaw3.DotsetHas'. -/
def dotsetHasCard : Claim7 := { stood := { row := dotsetHasRow, standIns := [], harness := (true, "d1f6aa8258987bfd7a36b61d02a283b5f89adc35d21a5aec71906f91ccc68ef0"), looks := false }, kinds := [], alts := [], laidByText := true, laidKinds := [.data], laidTests := true, laidLooks := .later }
def DotsetHasCardSaid : Prop := Claim7.holds Tryd.pinned (.plain (OpenSpec.ofChange dotsetHasSpec)) dotsetHasCard

/-- THE TIED CARD OF 'rookerylaw3.DotsetAdds'. -/
def dotsetAddsCard : Claim7 := { stood := { row := dotsetAddsRow, standIns := [], harness := (true, "d1f6aa8258987bfd7a36b61d02a283b5f89adc35d21a5aec71906f91ccc68ef0"), looks := false }, kinds := [], alts := [], laidByText := true, laidKinds := [.data], laidTests := true, laidLooks := .later }
def DotsetAddsCardSaid : Prop := Claim7.holds Tryd.pinned (.plain (OpenSpec.ofChange dotsetAddsSpec)) dotsetAddsCard

/-- THE TIED CARD OF 'rookerylaw3.DotsetUnions'. -/
def dotsetUnionsCard : Claim7 := { stood := { row := dotsetUnionsRow, standIns := [], harness := (true, "d1f6aa8258987bfd7a36b61d02a283b5f89adc35d21a5aec71906f91ccc68ef0"), looks := false }, kinds := [], alts := [], laidByText := true, laidKinds := [.data], laidTests := true, laidLooks := .later }
def DotsetUnionsCardSaid : Prop := Claim7.holds Tryd.pinned (.plain (OpenSpec.ofChange dotsetUnionsSpec)) dotsetUnionsCard

/-- THE TIED CARD OF 'rookerylaw3.DotsetNumbers'. -/
def dotsetNumbersCard : Claim7 := { stood := { row := dotsetNumbersRow, standIns := [], harness := (true, "d1f6aa8258987bfd7a36b61d02a283b5f89adc35d21a5aec71906f91ccc68ef0"), looks := false }, kinds := [], alts := [], laidByText := true, laidKinds := [.data], laidTests := true, laidLooks := .later }
def DotsetNumbersCardSaid : Prop := Claim7.holds Tryd.pinned (.plain (OpenSpec.ofChange dotsetNumbersSpec)) dotsetNumbersCard

/-- THE TIED CARD OF 'rookerylaw3.DotsetKept'. -/
def dotsetKeptCard : Claim7 := { stood := { row := dotsetKeptRow, standIns := [], harness := (true, "d1f6aa8258987bfd7a36b61d02a283b5f89adc35d21a5aec71906f91ccc68ef0"), looks := false }, kinds := [], alts := [], laidByText := true, laidKinds := [.data], laidTests := true, laidLooks := .later }
def DotsetKeptCardSaid : Prop := Claim7.holds Tryd.pinned (.plain (OpenSpec.ofChange dotsetKeptSpec)) dotsetKeptCard

/-- THE TIED CARD OF 'rookerylaw3.DotsetMended'. -/
def dotsetMendedCard : Claim7 := { stood := { row := dotsetMendedRow, standIns := [], harness := (true, "d1f6aa8258987bfd7a36b61d02a283b5f89adc35d21a5aec71906f91ccc68ef0"), looks := false }, kinds := [], alts := [], laidByText := true, laidKinds := [.data], laidTests := true, laidLooks := .later }
def DotsetMendedCardSaid : Prop := Claim7.holds Tryd.pinned (.plain (OpenSpec.ofChange dotsetMendedSpec)) dotsetMendedCard

/-- THE TIED CARD OF 'rookerylaw3.DotsetMissing'. -/
def dotsetMissingCard : Claim7 := { stood := { row := dotsetMissingRow, standIns := [], harness := (true, "d1f6aa8258987bfd7a36b61d02a283b5f89adc35d21a5aec71906f91ccc68ef0"), looks := false }, kinds := [], alts := [], laidByText := true, laidKinds := [.data], laidTests := true, laidLooks := .later }
def DotsetMissingCardSaid : Prop := Claim7.holds Tryd.pinned (.plain (OpenSpec.ofChange dotsetMissingSpec)) dotsetMissingCard

/-- THE TIED CARD OF 'rookerylaw3.DotsetAll'. -/
def dotsetAllCard : Claim7 := { stood := { row := dotsetAllRow, standIns := [], harness := (true, "d1f6aa8258987bfd7a36b61d02a283b5f89adc35d21a5aec71906f91ccc68ef0"), looks := false }, kinds := [], alts := [], laidByText := true, laidKinds := [.data], laidTests := true, laidLooks := .later }
def DotsetAllCardSaid : Prop := Claim7.holds Tryd.pinned (.plain (OpenSpec.ofChange dotsetAllSpec)) dotsetAllCard

/-- THE SECOND FORM's CARD OF 'rookerylaw3.DotsetOne'. -/
def dotsetOneUptoCard : Claim7 := { stood := { row := dotsetOneUptoRow, standIns := [], harness := (true, "d1f6aa8258987bfd7a36b61d02a283b5f89adc35d21a5aec71906f91ccc68ef0"), looks := false }, kinds := [], alts := [], laidByText := true, laidKinds := [.data], laidTests := true, laidLooks := .later }
def DotsetOneUptoCardSaid : Prop := Claim7.holds Tryd.pinned (.plain (OpenSpec.upto dotsetOneSpec)) dotsetOneUptoCard

/-- THE SECOND FORM's CARD OF 'rookerylaw3.DotsetLaws'. -/
def dotsetLawsUptoCard : Claim7 := { stood := { row := dotsetLawsUptoRow, standIns := [], harness := (true, "d1f6aa8258987bfd7a36b61d02a283b5f89adc35d21a5aec71906f91ccc68ef0"), looks := false }, kinds := [], alts := [], laidByText := true, laidKinds := [.data], laidTests := true, laidLooks := .later }
def DotsetLawsUptoCardSaid : Prop := Claim7.holds Tryd.pinned (.plain (OpenSpec.upto dotsetLawsSpec)) dotsetLawsUptoCard

/-- THE SECOND FORM's CARD OF 'rookerylaw3.DotsetGrown'. -/
def dotsetGrownUptoCard : Claim7 := { stood := { row := dotsetGrownUptoRow, standIns := [], harness := (true, "d1f6aa8258987bfd7a36b61d02a283b5f89adc35d21a5aec71906f91ccc68ef0"), looks := false }, kinds := [], alts := [], laidByText := true, laidKinds := [.data], laidTests := true, laidLooks := .later }
def DotsetGrownUptoCardSaid : Prop := Claim7.holds Tryd.pinned (.plain (OpenSpec.upto dotsetGrownSpec)) dotsetGrownUptoCard

/-- THE SECOND FORM's CARD OF 'rookerylaw3.DotsetChecks'. -/
def dotsetChecksUptoCard : Claim7 := { stood := { row := dotsetChecksUptoRow, standIns := [], harness := (true, "d1f6aa8258987bfd7a36b61d02a283b5f89adc35d21a5aec71906f91ccc68ef0"), looks := false }, kinds := [], alts := [], laidByText := true, laidKinds := [.data], laidTests := true, laidLooks := .later }
def DotsetChecksUptoCardSaid : Prop := Claim7.holds Tryd.pinned (.plain (OpenSpec.upto dotsetChecksSpec)) dotsetChecksUptoCard

/-- THE SECOND FORM's CARD OF 'rookerylaw3.DotsetHas'. -/
def dotsetHasUptoCard : Claim7 := { stood := { row := dotsetHasUptoRow, standIns := [], harness := (true, "d1f6aa8258987bfd7a36b61d02a283b5f89adc35d21a5aec71906f91ccc68ef0"), looks := false }, kinds := [], alts := [], laidByText := true, laidKinds := [.data], laidTests := true, laidLooks := .later }
def DotsetHasUptoCardSaid : Prop := Claim7.holds Tryd.pinned (.plain (OpenSpec.upto dotsetHasSpec)) dotsetHasUptoCard

/-- THE SECOND FORM's CARD OF 'rookerylaw3.DotsetAdds'. -/
def dotsetAddsUptoCard : Claim7 := { stood := { row := dotsetAddsUptoRow, standIns := [], harness := (true, "d1f6aa8258987bfd7a36b61d02a283b5f89adc35d21a5aec71906f91ccc68ef0"), looks := false }, kinds := [], alts := [], laidByText := true, laidKinds := [.data], laidTests := true, laidLooks := .later }
def DotsetAddsUptoCardSaid : Prop := Claim7.holds Tryd.pinned (.plain (OpenSpec.upto dotsetAddsSpec)) dotsetAddsUptoCard

/-- THE SECOND FORM's CARD OF 'rookerylaw3.DotsetUnions'. -/
def dotsetUnionsUptoCard : Claim7 := { stood := { row := dotsetUnionsUptoRow, standIns := [], harness := (true, "d1f6aa8258987bfd7a36b61d02a283b5f89adc35d21a5aec71906f91ccc68ef0"), looks := false }, kinds := [], alts := [], laidByText := true, laidKinds := [.data], laidTests := true, laidLooks := .later }
def DotsetUnionsUptoCardSaid : Prop := Claim7.holds Tryd.pinned (.plain (OpenSpec.upto dotsetUnionsSpec)) dotsetUnionsUptoCard

/-- THE SECOND FORM's CARD OF 'rookerylaw3.DotsetNumbers'. -/
def dotsetNumbersUptoCard : Claim7 := { stood := { row := dotsetNumbersUptoRow, standIns := [], harness := (true, "d1f6aa8258987bfd7a36b61d02a283b5f89adc35d21a5aec71906f91ccc68ef0"), looks := false }, kinds := [], alts := [], laidByText := true, laidKinds := [.data], laidTests := true, laidLooks := .later }
def DotsetNumbersUptoCardSaid : Prop := Claim7.holds Tryd.pinned (.plain (OpenSpec.upto dotsetNumbersSpec)) dotsetNumbersUptoCard

/-- THE SECOND FORM's CARD OF 'rookerylaw3.DotsetKept'. -/
def dotsetKeptUptoCard : Claim7 := { stood := { row := dotsetKeptUptoRow, standIns := [], harness := (true, "d1f6aa8258987bfd7a36b61d02a283b5f89adc35d21a5aec71906f91ccc68ef0"), looks := false }, kinds := [], alts := [], laidByText := true, laidKinds := [.data], laidTests := true, laidLooks := .later }
def DotsetKeptUptoCardSaid : Prop := Claim7.holds Tryd.pinned (.plain (OpenSpec.upto dotsetKeptSpec)) dotsetKeptUptoCard

/-- THE SECOND FORM's CARD OF 'rookerylaw3.DotsetMended'. -/
def dotsetMendedUptoCard : Claim7 := { stood := { row := dotsetMendedUptoRow, standIns := [], harness := (true, "d1f6aa8258987bfd7a36b61d02a283b5f89adc35d21a5aec71906f91ccc68ef0"), looks := false }, kinds := [], alts := [], laidByText := true, laidKinds := [.data], laidTests := true, laidLooks := .later }
def DotsetMendedUptoCardSaid : Prop := Claim7.holds Tryd.pinned (.plain (OpenSpec.upto dotsetMendedSpec)) dotsetMendedUptoCard

/-- THE SECOND FORM's CARD OF 'rookerylaw3.DotsetMissing'. -/
def dotsetMissingUptoCard : Claim7 := { stood := { row := dotsetMissingUptoRow, standIns := [], harness := (true, "d1f6aa8258987bfd7a36b61d02a283b5f89adc35d21a5aec71906f91ccc68ef0"), looks := false }, kinds := [], alts := [], laidByText := true, laidKinds := [.data], laidTests := true, laidLooks := .later }
def DotsetMissingUptoCardSaid : Prop := Claim7.holds Tryd.pinned (.plain (OpenSpec.upto dotsetMissingSpec)) dotsetMissingUptoCard

/-- THE SECOND FORM's CARD OF 'rookerylaw3.DotsetAll'. -/
def dotsetAllUptoCard : Claim7 := { stood := { row := dotsetAllUptoRow, standIns := [], harness := (true, "d1f6aa8258987bfd7a36b61d02a283b5f89adc35d21a5aec71906f91ccc68ef0"), looks := false }, kinds := [], alts := [], laidByText := true, laidKinds := [.data], laidTests := true, laidLooks := .later }
def DotsetAllUptoCardSaid : Prop := Claim7.holds Tryd.pinned (.plain (OpenSpec.upto dotsetAllSpec)) dotsetAllUptoCard
end Rows
end Go.Proofs.YtdggkofihppcmaaDoor
