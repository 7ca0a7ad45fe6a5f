/-
  DERIVED. GIVEN WITH THE SEED: THE CARDS: each row of YtbcaigpdckencaaGreatDoorRows.lean that lists a variable, with what it lists TIED to the program's text (the seventh form; the later family's looks); each row that meets fmt, with fmt's text TOLD by the authors' own Lean function (tested against real Go, not proved from fmt's source: count such statements apart). THE CARD IS WHAT COUNTS. Prove the row's statement (the work); the ties are given (YtbcaigpdckencaaGreatDoorTie.lean); close each card by the builder's one call (the guide's Derived/Test/ToyasCard.lean, 'card_holds'). Laid BY PROGRAM, IN A SANDBOX (cutbox-door.mjs). By AI agents, Wed Nov 11 2026. No macro, syntax, notation, axiom, sorry.
-/
import Derived.Test.YtbcaigpdckencaaGreatDoorRows
import GoSem.ClaimSeven
namespace Go.Proofs.YtbcaigpdckencaaGreatDoor
namespace Rows

/-- THE TIED CARD OF 'dspcompilerlaw02.IntegerActs'. -/
def integerActsCard : Claim7 := { stood := { row := integerActsRow, standIns := [], harness := (true, "6026666c98c61903afa827568b40c34bc34c7a078f69fe9004b95370abfee3c5"), looks := false }, kinds := [], alts := [], laidByText := true, laidKinds := [.data, .data, .pinned], laidTests := true, laidLooks := .later }
def IntegerActsCardSaid : Prop := Claim7.holds Tryz.pinned (.plain (OpenSpec.ofChange integerActsSpec)) integerActsCard

/-- THE TIED CARD OF 'dspcompilerlaw03.RationalActs'. -/
def rationalActsCard : Claim7 := { stood := { row := rationalActsRow, standIns := [], harness := (true, "6026666c98c61903afa827568b40c34bc34c7a078f69fe9004b95370abfee3c5"), looks := false }, kinds := [], alts := [], laidByText := true, laidKinds := [.data, .data, .pinned], laidTests := true, laidLooks := .later }
def RationalActsCardSaid : Prop := Claim7.holds Tryz.pinned (.plain (OpenSpec.ofChange rationalActsSpec)) rationalActsCard

/-- THE TIED CARD OF 'dspcompilerlaw03.RationalMakes'. -/
def rationalMakesCard : Claim7 := { stood := { row := rationalMakesRow, standIns := [], harness := (true, "6026666c98c61903afa827568b40c34bc34c7a078f69fe9004b95370abfee3c5"), looks := false }, kinds := [], alts := [], laidByText := true, laidKinds := [.data, .data, .pinned], laidTests := true, laidLooks := .later }
def RationalMakesCardSaid : Prop := Claim7.holds Tryz.pinned (.plain (OpenSpec.ofChange rationalMakesSpec)) rationalMakesCard

/-- THE TIED CARD OF 'dspcompilerlaw03.RationalRounds'. -/
def rationalRoundsCard : Claim7 := { stood := { row := rationalRoundsRow, standIns := [], harness := (true, "6026666c98c61903afa827568b40c34bc34c7a078f69fe9004b95370abfee3c5"), looks := false }, kinds := [], alts := [], laidByText := true, laidKinds := [.data, .data, .pinned], laidTests := true, laidLooks := .later }
def RationalRoundsCardSaid : Prop := Claim7.holds Tryz.pinned (.plain (OpenSpec.ofChange rationalRoundsSpec)) rationalRoundsCard

/-- THE TIED CARD OF 'dspcompilerlaw03.RationalTexts'. -/
def rationalTextsCard : Claim7 := { stood := { row := rationalTextsRow, standIns := [], harness := (true, "6026666c98c61903afa827568b40c34bc34c7a078f69fe9004b95370abfee3c5"), looks := false }, kinds := [], alts := [], laidByText := true, laidKinds := [.data, .data, .pinned], laidTests := true, laidLooks := .later }
def RationalTextsCardSaid : Prop := Claim7.holds Tryz.pinned (.plain (OpenSpec.ofChange rationalTextsSpec)) rationalTextsCard

/-- THE SECOND FORM's CARD OF 'dspcompilerlaw02.IntegerActs'. -/
def integerActsUptoCard : Claim7 := { stood := { row := integerActsUptoRow, standIns := [], harness := (true, "6026666c98c61903afa827568b40c34bc34c7a078f69fe9004b95370abfee3c5"), looks := false }, kinds := [], alts := [], laidByText := true, laidKinds := [.data, .data, .pinned], laidTests := true, laidLooks := .later }
def IntegerActsUptoCardSaid : Prop := Claim7.holds Tryz.pinned (.plain (OpenSpec.upto integerActsSpec)) integerActsUptoCard

/-- THE SECOND FORM's CARD OF 'dspcompilerlaw03.RationalActs'. -/
def rationalActsUptoCard : Claim7 := { stood := { row := rationalActsUptoRow, standIns := [], harness := (true, "6026666c98c61903afa827568b40c34bc34c7a078f69fe9004b95370abfee3c5"), looks := false }, kinds := [], alts := [], laidByText := true, laidKinds := [.data, .data, .pinned], laidTests := true, laidLooks := .later }
def RationalActsUptoCardSaid : Prop := Claim7.holds Tryz.pinned (.plain (OpenSpec.upto rationalActsSpec)) rationalActsUptoCard

/-- THE SECOND FORM's CARD OF 'dspcompilerlaw03.RationalMakes'. -/
def rationalMakesUptoCard : Claim7 := { stood := { row := rationalMakesUptoRow, standIns := [], harness := (true, "6026666c98c61903afa827568b40c34bc34c7a078f69fe9004b95370abfee3c5"), looks := false }, kinds := [], alts := [], laidByText := true, laidKinds := [.data, .data, .pinned], laidTests := true, laidLooks := .later }
def RationalMakesUptoCardSaid : Prop := Claim7.holds Tryz.pinned (.plain (OpenSpec.upto rationalMakesSpec)) rationalMakesUptoCard

/-- THE SECOND FORM's CARD OF 'dspcompilerlaw03.RationalRounds'. -/
def rationalRoundsUptoCard : Claim7 := { stood := { row := rationalRoundsUptoRow, standIns := [], harness := (true, "6026666c98c61903afa827568b40c34bc34c7a078f69fe9004b95370abfee3c5"), looks := false }, kinds := [], alts := [], laidByText := true, laidKinds := [.data, .data, .pinned], laidTests := true, laidLooks := .later }
def RationalRoundsUptoCardSaid : Prop := Claim7.holds Tryz.pinned (.plain (OpenSpec.upto rationalRoundsSpec)) rationalRoundsUptoCard

/-- THE SECOND FORM's CARD OF 'dspcompilerlaw03.RationalTexts'. -/
def rationalTextsUptoCard : Claim7 := { stood := { row := rationalTextsUptoRow, standIns := [], harness := (true, "6026666c98c61903afa827568b40c34bc34c7a078f69fe9004b95370abfee3c5"), looks := false }, kinds := [], alts := [], laidByText := true, laidKinds := [.data, .data, .pinned], laidTests := true, laidLooks := .later }
def RationalTextsUptoCardSaid : Prop := Claim7.holds Tryz.pinned (.plain (OpenSpec.upto rationalTextsSpec)) rationalTextsUptoCard
end Rows
end Go.Proofs.YtbcaigpdckencaaGreatDoor
