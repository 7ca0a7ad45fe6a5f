/-
  DERIVED. GIVEN WITH THE SEED: THE CARDS: each row of YtcankknlbljicaaGreatDoorRows.lean that lists a variable, with what it lists TIED to the program's text (the seventh form; the later family's looks); each row that meets fmt, with fmt's text TOLD by the authors' own Lean function (tested against real Go, not proved from fmt's source: count such statements apart). THE CARD IS WHAT COUNTS. Prove the row's statement (the work); the ties are given (YtcankknlbljicaaGreatDoorTie.lean); close each card by the builder's one call (the guide's Derived/Test/ToyasCard.lean, 'card_holds'). Laid BY PROGRAM, IN A SANDBOX (cutbox-door.mjs). By AI agents, Wed Nov 11 2026. No macro, syntax, notation, axiom, sorry.
-/
import Derived.Test.YtcankknlbljicaaGreatDoorRows
import GoSem.ClaimSeven
namespace Go.Proofs.YtcankknlbljicaaGreatDoor
namespace Rows

/-- THE TIED CARD OF 'dspcompilerlaw03.RationalTexts'. -/
def rationalTextsCard : Claim7 := { stood := { row := rationalTextsRow, standIns := [], harness := (true, "1d47be4009aad6e41937944a38ed5ec4d3f52d2d7cf27aec79665707a8bc05d4"), looks := false }, kinds := [], alts := [], laidByText := true, laidKinds := [.data, .data, .pinned], laidTests := true, laidLooks := .later }
def RationalTextsCardSaid : Prop := Claim7.holds Tryz.pinned (.plain (OpenSpec.ofChange rationalTextsSpec)) rationalTextsCard

/-- THE TIED CARD OF 'dspcompilerlaw05.PolyActs'. -/
def polyActsCard : Claim7 := { stood := { row := polyActsRow, standIns := [], harness := (true, "1d47be4009aad6e41937944a38ed5ec4d3f52d2d7cf27aec79665707a8bc05d4"), looks := false }, kinds := [], alts := [], laidByText := true, laidKinds := [.data], laidTests := true, laidLooks := .later }
def PolyActsCardSaid : Prop := Claim7.holds Tryz.pinned (.plain (OpenSpec.ofChange polyActsSpec)) polyActsCard

/-- THE TIED CARD OF 'dspcompilerlaw05.PolyDivisions'. -/
def polyDivisionsCard : Claim7 := { stood := { row := polyDivisionsRow, standIns := [], harness := (true, "1d47be4009aad6e41937944a38ed5ec4d3f52d2d7cf27aec79665707a8bc05d4"), looks := false }, kinds := [], alts := [], laidByText := true, laidKinds := [.data], laidTests := true, laidLooks := .later }
def PolyDivisionsCardSaid : Prop := Claim7.holds Tryz.pinned (.plain (OpenSpec.ofChange polyDivisionsSpec)) polyDivisionsCard

/-- THE TIED CARD OF 'dspcompilerlaw05.PolyValues'. -/
def polyValuesCard : Claim7 := { stood := { row := polyValuesRow, standIns := [], harness := (true, "1d47be4009aad6e41937944a38ed5ec4d3f52d2d7cf27aec79665707a8bc05d4"), looks := false }, kinds := [], alts := [], laidByText := true, laidKinds := [.data], laidTests := true, laidLooks := .later }
def PolyValuesCardSaid : Prop := Claim7.holds Tryz.pinned (.plain (OpenSpec.ofChange polyValuesSpec)) polyValuesCard

/-- THE TIED CARD OF 'dspcompilerlaw05.PolyDivides'. -/
def polyDividesCard : Claim7 := { stood := { row := polyDividesRow, standIns := [], harness := (true, "1d47be4009aad6e41937944a38ed5ec4d3f52d2d7cf27aec79665707a8bc05d4"), looks := false }, kinds := [], alts := [], laidByText := true, laidKinds := [.data], laidTests := true, laidLooks := .later }
def PolyDividesCardSaid : Prop := Claim7.holds Tryz.pinned (.plain (OpenSpec.ofChange polyDividesSpec)) polyDividesCard

/-- THE TIED CARD OF 'dspcompilerlaw05.PolyGcds'. -/
def polyGcdsCard : Claim7 := { stood := { row := polyGcdsRow, standIns := [], harness := (true, "1d47be4009aad6e41937944a38ed5ec4d3f52d2d7cf27aec79665707a8bc05d4"), looks := false }, kinds := [], alts := [], laidByText := true, laidKinds := [.data], laidTests := true, laidLooks := .later }
def PolyGcdsCardSaid : Prop := Claim7.holds Tryz.pinned (.plain (OpenSpec.ofChange polyGcdsSpec)) polyGcdsCard

/-- THE TIED CARD OF 'dspcompilerlaw05.PolyCalculus'. -/
def polyCalculusCard : Claim7 := { stood := { row := polyCalculusRow, standIns := [], harness := (true, "1d47be4009aad6e41937944a38ed5ec4d3f52d2d7cf27aec79665707a8bc05d4"), looks := false }, kinds := [], alts := [], laidByText := true, laidKinds := [.data], laidTests := true, laidLooks := .later }
def PolyCalculusCardSaid : Prop := Claim7.holds Tryz.pinned (.plain (OpenSpec.ofChange polyCalculusSpec)) polyCalculusCard

/-- THE TIED CARD OF 'dspcompilerlaw05.PolyEncloses'. -/
def polyEnclosesCard : Claim7 := { stood := { row := polyEnclosesRow, standIns := [], harness := (true, "1d47be4009aad6e41937944a38ed5ec4d3f52d2d7cf27aec79665707a8bc05d4"), looks := false }, kinds := [], alts := [], laidByText := true, laidKinds := [.data], laidTests := true, laidLooks := .later }
def PolyEnclosesCardSaid : Prop := Claim7.holds Tryz.pinned (.plain (OpenSpec.ofChange polyEnclosesSpec)) polyEnclosesCard

/-- THE TIED CARD OF 'dspcompilerlaw05.PolySquarefrees'. -/
def polySquarefreesCard : Claim7 := { stood := { row := polySquarefreesRow, standIns := [], harness := (true, "1d47be4009aad6e41937944a38ed5ec4d3f52d2d7cf27aec79665707a8bc05d4"), looks := false }, kinds := [], alts := [], laidByText := true, laidKinds := [.data], laidTests := true, laidLooks := .later }
def PolySquarefreesCardSaid : Prop := Claim7.holds Tryz.pinned (.plain (OpenSpec.ofChange polySquarefreesSpec)) polySquarefreesCard

/-- THE SECOND FORM's CARD OF 'dspcompilerlaw03.RationalTexts'. -/
def rationalTextsUptoCard : Claim7 := { stood := { row := rationalTextsUptoRow, standIns := [], harness := (true, "1d47be4009aad6e41937944a38ed5ec4d3f52d2d7cf27aec79665707a8bc05d4"), looks := false }, kinds := [], alts := [], laidByText := true, laidKinds := [.data, .data, .pinned], laidTests := true, laidLooks := .later }
def RationalTextsUptoCardSaid : Prop := Claim7.holds Tryz.pinned (.plain (OpenSpec.upto rationalTextsSpec)) rationalTextsUptoCard

/-- THE SECOND FORM's CARD OF 'dspcompilerlaw05.PolyActs'. -/
def polyActsUptoCard : Claim7 := { stood := { row := polyActsUptoRow, standIns := [], harness := (true, "1d47be4009aad6e41937944a38ed5ec4d3f52d2d7cf27aec79665707a8bc05d4"), looks := false }, kinds := [], alts := [], laidByText := true, laidKinds := [.data], laidTests := true, laidLooks := .later }
def PolyActsUptoCardSaid : Prop := Claim7.holds Tryz.pinned (.plain (OpenSpec.upto polyActsSpec)) polyActsUptoCard

/-- THE SECOND FORM's CARD OF 'dspcompilerlaw05.PolyDivisions'. -/
def polyDivisionsUptoCard : Claim7 := { stood := { row := polyDivisionsUptoRow, standIns := [], harness := (true, "1d47be4009aad6e41937944a38ed5ec4d3f52d2d7cf27aec79665707a8bc05d4"), looks := false }, kinds := [], alts := [], laidByText := true, laidKinds := [.data], laidTests := true, laidLooks := .later }
def PolyDivisionsUptoCardSaid : Prop := Claim7.holds Tryz.pinned (.plain (OpenSpec.upto polyDivisionsSpec)) polyDivisionsUptoCard

/-- THE SECOND FORM's CARD OF 'dspcompilerlaw05.PolyValues'. -/
def polyValuesUptoCard : Claim7 := { stood := { row := polyValuesUptoRow, standIns := [], harness := (true, "1d47be4009aad6e41937944a38ed5ec4d3f52d2d7cf27aec79665707a8bc05d4"), looks := false }, kinds := [], alts := [], laidByText := true, laidKinds := [.data], laidTests := true, laidLooks := .later }
def PolyValuesUptoCardSaid : Prop := Claim7.holds Tryz.pinned (.plain (OpenSpec.upto polyValuesSpec)) polyValuesUptoCard

/-- THE SECOND FORM's CARD OF 'dspcompilerlaw05.PolyDivides'. -/
def polyDividesUptoCard : Claim7 := { stood := { row := polyDividesUptoRow, standIns := [], harness := (true, "1d47be4009aad6e41937944a38ed5ec4d3f52d2d7cf27aec79665707a8bc05d4"), looks := false }, kinds := [], alts := [], laidByText := true, laidKinds := [.data], laidTests := true, laidLooks := .later }
def PolyDividesUptoCardSaid : Prop := Claim7.holds Tryz.pinned (.plain (OpenSpec.upto polyDividesSpec)) polyDividesUptoCard

/-- THE SECOND FORM's CARD OF 'dspcompilerlaw05.PolyGcds'. -/
def polyGcdsUptoCard : Claim7 := { stood := { row := polyGcdsUptoRow, standIns := [], harness := (true, "1d47be4009aad6e41937944a38ed5ec4d3f52d2d7cf27aec79665707a8bc05d4"), looks := false }, kinds := [], alts := [], laidByText := true, laidKinds := [.data], laidTests := true, laidLooks := .later }
def PolyGcdsUptoCardSaid : Prop := Claim7.holds Tryz.pinned (.plain (OpenSpec.upto polyGcdsSpec)) polyGcdsUptoCard

/-- THE SECOND FORM's CARD OF 'dspcompilerlaw05.PolyCalculus'. -/
def polyCalculusUptoCard : Claim7 := { stood := { row := polyCalculusUptoRow, standIns := [], harness := (true, "1d47be4009aad6e41937944a38ed5ec4d3f52d2d7cf27aec79665707a8bc05d4"), looks := false }, kinds := [], alts := [], laidByText := true, laidKinds := [.data], laidTests := true, laidLooks := .later }
def PolyCalculusUptoCardSaid : Prop := Claim7.holds Tryz.pinned (.plain (OpenSpec.upto polyCalculusSpec)) polyCalculusUptoCard

/-- THE SECOND FORM's CARD OF 'dspcompilerlaw05.PolyEncloses'. -/
def polyEnclosesUptoCard : Claim7 := { stood := { row := polyEnclosesUptoRow, standIns := [], harness := (true, "1d47be4009aad6e41937944a38ed5ec4d3f52d2d7cf27aec79665707a8bc05d4"), looks := false }, kinds := [], alts := [], laidByText := true, laidKinds := [.data], laidTests := true, laidLooks := .later }
def PolyEnclosesUptoCardSaid : Prop := Claim7.holds Tryz.pinned (.plain (OpenSpec.upto polyEnclosesSpec)) polyEnclosesUptoCard

/-- THE SECOND FORM's CARD OF 'dspcompilerlaw05.PolySquarefrees'. -/
def polySquarefreesUptoCard : Claim7 := { stood := { row := polySquarefreesUptoRow, standIns := [], harness := (true, "1d47be4009aad6e41937944a38ed5ec4d3f52d2d7cf27aec79665707a8bc05d4"), looks := false }, kinds := [], alts := [], laidByText := true, laidKinds := [.data], laidTests := true, laidLooks := .later }
def PolySquarefreesUptoCardSaid : Prop := Claim7.holds Tryz.pinned (.plain (OpenSpec.upto polySquarefreesSpec)) polySquarefreesUptoCard
end Rows
end Go.Proofs.YtcankknlbljicaaGreatDoor
