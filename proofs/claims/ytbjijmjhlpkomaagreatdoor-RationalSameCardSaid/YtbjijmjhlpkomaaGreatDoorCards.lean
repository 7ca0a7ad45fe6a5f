/-
  DERIVED. GIVEN WITH THE SEED: THE CARDS: each row of YtbjijmjhlpkomaaGreatDoorRows.lean that lists a variable, with what it lists TIED to the program's text (the seventh form; the later family's looks); each row that meets fmt, with fmt's text TOLD by the authors' own Lean function (tested against real Go, not proved from fmt's source: count such statements apart). THE CARD IS WHAT COUNTS. Prove the row's statement (the work); the ties are given (YtbjijmjhlpkomaaGreatDoorTie.lean); close each card by the builder's one call (the guide's Derived/Test/ToyasCard.lean, 'card_holds'). Laid BY PROGRAM, IN A SANDBOX (cutbox-door.mjs). By AI agents, Wed Nov 11 2026. No macro, syntax, notation, axiom, sorry.
-/
import Derived.Test.YtbjijmjhlpkomaaGreatDoorRows
import GoSem.ClaimSeven
namespace Go.Proofs.YtbjijmjhlpkomaaGreatDoor
namespace Rows

/-- THE TIED CARD OF 'dspcompilerlaw03.RationalTexts'. -/
def rationalTextsCard : Claim7 := { stood := { row := rationalTextsRow, standIns := [], harness := (true, "9b2df25ea666153a480e618089a73859c05c7eeee287ee25ab9b8f0079ff8255"), looks := false }, kinds := [], alts := [], laidByText := true, laidKinds := [.data, .data, .pinned], laidTests := true, laidLooks := .later }
def RationalTextsCardSaid : Prop := Claim7.holds Tryz.pinned (.plain (OpenSpec.ofChange rationalTextsSpec)) rationalTextsCard

/-- THE TIED CARD OF 'dspcompilerlaw03.RationalSame'. -/
def rationalSameCard : Claim7 := { stood := { row := rationalSameRow, standIns := [], harness := (true, "9b2df25ea666153a480e618089a73859c05c7eeee287ee25ab9b8f0079ff8255"), looks := false }, kinds := [], alts := [], laidByText := true, laidKinds := [.data, .data, .pinned], laidTests := true, laidLooks := .later }
def RationalSameCardSaid : Prop := Claim7.holds Tryz.pinned (.plain (OpenSpec.ofChange rationalSameSpec)) rationalSameCard

/-- THE TIED CARD OF 'dspcompilerlaw04.IntervalActs'. -/
def intervalActsCard : Claim7 := { stood := { row := intervalActsRow, standIns := [], harness := (true, "9b2df25ea666153a480e618089a73859c05c7eeee287ee25ab9b8f0079ff8255"), looks := false }, kinds := [], alts := [], laidByText := true, laidKinds := [.data], laidTests := true, laidLooks := .later }
def IntervalActsCardSaid : Prop := Claim7.holds Tryz.pinned (.plain (OpenSpec.ofChange intervalActsSpec)) intervalActsCard

/-- THE TIED CARD OF 'dspcompilerlaw04.IntervalEncloses'. -/
def intervalEnclosesCard : Claim7 := { stood := { row := intervalEnclosesRow, standIns := [], harness := (true, "9b2df25ea666153a480e618089a73859c05c7eeee287ee25ab9b8f0079ff8255"), looks := false }, kinds := [], alts := [], laidByText := true, laidKinds := [.data], laidTests := true, laidLooks := .later }
def IntervalEnclosesCardSaid : Prop := Claim7.holds Tryz.pinned (.plain (OpenSpec.ofChange intervalEnclosesSpec)) intervalEnclosesCard

/-- THE TIED CARD OF 'dspcompilerlaw04.IntervalGrows'. -/
def intervalGrowsCard : Claim7 := { stood := { row := intervalGrowsRow, standIns := [], harness := (true, "9b2df25ea666153a480e618089a73859c05c7eeee287ee25ab9b8f0079ff8255"), looks := false }, kinds := [], alts := [], laidByText := true, laidKinds := [.data], laidTests := true, laidLooks := .later }
def IntervalGrowsCardSaid : Prop := Claim7.holds Tryz.pinned (.plain (OpenSpec.ofChange intervalGrowsSpec)) intervalGrowsCard

/-- THE TIED CARD OF 'dspcompilerlaw04.IntervalMeets'. -/
def intervalMeetsCard : Claim7 := { stood := { row := intervalMeetsRow, standIns := [], harness := (true, "9b2df25ea666153a480e618089a73859c05c7eeee287ee25ab9b8f0079ff8255"), looks := false }, kinds := [], alts := [], laidByText := true, laidKinds := [.data], laidTests := true, laidLooks := .later }
def IntervalMeetsCardSaid : Prop := Claim7.holds Tryz.pinned (.plain (OpenSpec.ofChange intervalMeetsSpec)) intervalMeetsCard

/-- THE SECOND FORM's CARD OF 'dspcompilerlaw03.RationalTexts'. -/
def rationalTextsUptoCard : Claim7 := { stood := { row := rationalTextsUptoRow, standIns := [], harness := (true, "9b2df25ea666153a480e618089a73859c05c7eeee287ee25ab9b8f0079ff8255"), looks := false }, kinds := [], alts := [], laidByText := true, laidKinds := [.data, .data, .pinned], laidTests := true, laidLooks := .later }
def RationalTextsUptoCardSaid : Prop := Claim7.holds Tryz.pinned (.plain (OpenSpec.upto rationalTextsSpec)) rationalTextsUptoCard

/-- THE SECOND FORM's CARD OF 'dspcompilerlaw03.RationalSame'. -/
def rationalSameUptoCard : Claim7 := { stood := { row := rationalSameUptoRow, standIns := [], harness := (true, "9b2df25ea666153a480e618089a73859c05c7eeee287ee25ab9b8f0079ff8255"), looks := false }, kinds := [], alts := [], laidByText := true, laidKinds := [.data, .data, .pinned], laidTests := true, laidLooks := .later }
def RationalSameUptoCardSaid : Prop := Claim7.holds Tryz.pinned (.plain (OpenSpec.upto rationalSameSpec)) rationalSameUptoCard

/-- THE SECOND FORM's CARD OF 'dspcompilerlaw04.IntervalActs'. -/
def intervalActsUptoCard : Claim7 := { stood := { row := intervalActsUptoRow, standIns := [], harness := (true, "9b2df25ea666153a480e618089a73859c05c7eeee287ee25ab9b8f0079ff8255"), looks := false }, kinds := [], alts := [], laidByText := true, laidKinds := [.data], laidTests := true, laidLooks := .later }
def IntervalActsUptoCardSaid : Prop := Claim7.holds Tryz.pinned (.plain (OpenSpec.upto intervalActsSpec)) intervalActsUptoCard

/-- THE SECOND FORM's CARD OF 'dspcompilerlaw04.IntervalEncloses'. -/
def intervalEnclosesUptoCard : Claim7 := { stood := { row := intervalEnclosesUptoRow, standIns := [], harness := (true, "9b2df25ea666153a480e618089a73859c05c7eeee287ee25ab9b8f0079ff8255"), looks := false }, kinds := [], alts := [], laidByText := true, laidKinds := [.data], laidTests := true, laidLooks := .later }
def IntervalEnclosesUptoCardSaid : Prop := Claim7.holds Tryz.pinned (.plain (OpenSpec.upto intervalEnclosesSpec)) intervalEnclosesUptoCard

/-- THE SECOND FORM's CARD OF 'dspcompilerlaw04.IntervalGrows'. -/
def intervalGrowsUptoCard : Claim7 := { stood := { row := intervalGrowsUptoRow, standIns := [], harness := (true, "9b2df25ea666153a480e618089a73859c05c7eeee287ee25ab9b8f0079ff8255"), looks := false }, kinds := [], alts := [], laidByText := true, laidKinds := [.data], laidTests := true, laidLooks := .later }
def IntervalGrowsUptoCardSaid : Prop := Claim7.holds Tryz.pinned (.plain (OpenSpec.upto intervalGrowsSpec)) intervalGrowsUptoCard

/-- THE SECOND FORM's CARD OF 'dspcompilerlaw04.IntervalMeets'. -/
def intervalMeetsUptoCard : Claim7 := { stood := { row := intervalMeetsUptoRow, standIns := [], harness := (true, "9b2df25ea666153a480e618089a73859c05c7eeee287ee25ab9b8f0079ff8255"), looks := false }, kinds := [], alts := [], laidByText := true, laidKinds := [.data], laidTests := true, laidLooks := .later }
def IntervalMeetsUptoCardSaid : Prop := Claim7.holds Tryz.pinned (.plain (OpenSpec.upto intervalMeetsSpec)) intervalMeetsUptoCard
end Rows
end Go.Proofs.YtbjijmjhlpkomaaGreatDoor
