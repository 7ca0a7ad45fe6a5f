/-
  DERIVED. GIVEN WITH THE SEED: THE CARDS: each row of YtjejpccjdlmfnaaDoorRows.lean that lists a variable, with what it lists TIED to the program's text (the seventh form; the later family's looks); each row that meets fmt, with fmt's text TOLD by the authors' own Lean function (tested against real Go, not proved from fmt's source: count such statements apart). THE CARD IS WHAT COUNTS. Prove the row's statement (the work); the ties are given (YtjejpccjdlmfnaaDoorTie.lean); close each card by the builder's one call (the guide's Derived/Test/ToyasCard.lean, 'card_holds'). Laid BY PROGRAM, IN A SANDBOX (cutbox-door.mjs). By AI agents, Wed Nov 11 2026. No macro, syntax, notation, axiom, sorry.
-/
import Derived.Test.YtjejpccjdlmfnaaDoorRows
import GoSem.ClaimSeven
namespace Go.Proofs.YtjejpccjdlmfnaaDoor
namespace Rows

/-- THE TIED CARD OF 'dspcompilerlaw01.NatActs'. -/
def natActsCard : Claim7 := { stood := { row := natActsRow, standIns := [], harness := (true, "30129b4c48d263d6922afb3aa322847639cc21524c3fd4cc816692c43301975d"), looks := false }, kinds := [], alts := [], laidByText := true, laidKinds := [.data, .pinned], laidTests := true, laidLooks := .later }
def NatActsCardSaid : Prop := Claim7.holds Tryd.pinned (.plain (OpenSpec.ofChange natActsSpec)) natActsCard

/-- THE TIED CARD OF 'dspcompilerlaw01.NatPowers'. -/
def natPowersCard : Claim7 := { stood := { row := natPowersRow, standIns := [], harness := (true, "30129b4c48d263d6922afb3aa322847639cc21524c3fd4cc816692c43301975d"), looks := false }, kinds := [], alts := [], laidByText := true, laidKinds := [.data, .data, .pinned], laidTests := true, laidLooks := .later }
def NatPowersCardSaid : Prop := Claim7.holds Tryd.pinned (.plain (OpenSpec.ofChange natPowersSpec)) natPowersCard

/-- THE TIED CARD OF 'dspcompilerlaw01.NatTexts'. -/
def natTextsCard : Claim7 := { stood := { row := natTextsRow, standIns := [], harness := (true, "30129b4c48d263d6922afb3aa322847639cc21524c3fd4cc816692c43301975d"), looks := false }, kinds := [], alts := [], laidByText := true, laidKinds := [.data, .pinned], laidTests := true, laidLooks := .later }
def NatTextsCardSaid : Prop := Claim7.holds Tryd.pinned (.plain (OpenSpec.ofChange natTextsSpec)) natTextsCard

/-- THE TIED CARD OF 'dspcompilerlaw01.NatRing'. -/
def natRingCard : Claim7 := { stood := { row := natRingRow, standIns := [], harness := (true, "30129b4c48d263d6922afb3aa322847639cc21524c3fd4cc816692c43301975d"), looks := false }, kinds := [], alts := [], laidByText := true, laidKinds := [.data, .pinned], laidTests := true, laidLooks := .later }
def NatRingCardSaid : Prop := Claim7.holds Tryd.pinned (.plain (OpenSpec.ofChange natRingSpec)) natRingCard

/-- THE TIED CARD OF 'dspcompilerlaw01.NatDivides'. -/
def natDividesCard : Claim7 := { stood := { row := natDividesRow, standIns := [], harness := (true, "30129b4c48d263d6922afb3aa322847639cc21524c3fd4cc816692c43301975d"), looks := false }, kinds := [], alts := [], laidByText := true, laidKinds := [.data, .pinned], laidTests := true, laidLooks := .later }
def NatDividesCardSaid : Prop := Claim7.holds Tryd.pinned (.plain (OpenSpec.ofChange natDividesSpec)) natDividesCard

/-- THE TIED CARD OF 'dspcompilerlaw01.NatGcds'. -/
def natGcdsCard : Claim7 := { stood := { row := natGcdsRow, standIns := [], harness := (true, "30129b4c48d263d6922afb3aa322847639cc21524c3fd4cc816692c43301975d"), looks := false }, kinds := [], alts := [], laidByText := true, laidKinds := [.data, .data, .pinned], laidTests := true, laidLooks := .later }
def NatGcdsCardSaid : Prop := Claim7.holds Tryd.pinned (.plain (OpenSpec.ofChange natGcdsSpec)) natGcdsCard

/-- THE TIED CARD OF 'dspcompilerlaw01.NatRoots'. -/
def natRootsCard : Claim7 := { stood := { row := natRootsRow, standIns := [], harness := (true, "30129b4c48d263d6922afb3aa322847639cc21524c3fd4cc816692c43301975d"), looks := false }, kinds := [], alts := [], laidByText := true, laidKinds := [.data, .pinned], laidTests := true, laidLooks := .later }
def NatRootsCardSaid : Prop := Claim7.holds Tryd.pinned (.plain (OpenSpec.ofChange natRootsSpec)) natRootsCard

/-- THE TIED CARD OF 'dspcompilerlaw01.NatFresh'. -/
def natFreshCard : Claim7 := { stood := { row := natFreshRow, standIns := [], harness := (true, "30129b4c48d263d6922afb3aa322847639cc21524c3fd4cc816692c43301975d"), looks := false }, kinds := [], alts := [], laidByText := true, laidKinds := [.data, .pinned], laidTests := true, laidLooks := .later }
def NatFreshCardSaid : Prop := Claim7.holds Tryd.pinned (.plain (OpenSpec.ofChange natFreshSpec)) natFreshCard

/-- THE SECOND FORM's CARD OF 'dspcompilerlaw01.NatActs'. -/
def natActsUptoCard : Claim7 := { stood := { row := natActsUptoRow, standIns := [], harness := (true, "30129b4c48d263d6922afb3aa322847639cc21524c3fd4cc816692c43301975d"), looks := false }, kinds := [], alts := [], laidByText := true, laidKinds := [.data, .pinned], laidTests := true, laidLooks := .later }
def NatActsUptoCardSaid : Prop := Claim7.holds Tryd.pinned (.plain (OpenSpec.upto natActsSpec)) natActsUptoCard

/-- THE SECOND FORM's CARD OF 'dspcompilerlaw01.NatPowers'. -/
def natPowersUptoCard : Claim7 := { stood := { row := natPowersUptoRow, standIns := [], harness := (true, "30129b4c48d263d6922afb3aa322847639cc21524c3fd4cc816692c43301975d"), looks := false }, kinds := [], alts := [], laidByText := true, laidKinds := [.data, .data, .pinned], laidTests := true, laidLooks := .later }
def NatPowersUptoCardSaid : Prop := Claim7.holds Tryd.pinned (.plain (OpenSpec.upto natPowersSpec)) natPowersUptoCard

/-- THE SECOND FORM's CARD OF 'dspcompilerlaw01.NatTexts'. -/
def natTextsUptoCard : Claim7 := { stood := { row := natTextsUptoRow, standIns := [], harness := (true, "30129b4c48d263d6922afb3aa322847639cc21524c3fd4cc816692c43301975d"), looks := false }, kinds := [], alts := [], laidByText := true, laidKinds := [.data, .pinned], laidTests := true, laidLooks := .later }
def NatTextsUptoCardSaid : Prop := Claim7.holds Tryd.pinned (.plain (OpenSpec.upto natTextsSpec)) natTextsUptoCard

/-- THE SECOND FORM's CARD OF 'dspcompilerlaw01.NatRing'. -/
def natRingUptoCard : Claim7 := { stood := { row := natRingUptoRow, standIns := [], harness := (true, "30129b4c48d263d6922afb3aa322847639cc21524c3fd4cc816692c43301975d"), looks := false }, kinds := [], alts := [], laidByText := true, laidKinds := [.data, .pinned], laidTests := true, laidLooks := .later }
def NatRingUptoCardSaid : Prop := Claim7.holds Tryd.pinned (.plain (OpenSpec.upto natRingSpec)) natRingUptoCard

/-- THE SECOND FORM's CARD OF 'dspcompilerlaw01.NatDivides'. -/
def natDividesUptoCard : Claim7 := { stood := { row := natDividesUptoRow, standIns := [], harness := (true, "30129b4c48d263d6922afb3aa322847639cc21524c3fd4cc816692c43301975d"), looks := false }, kinds := [], alts := [], laidByText := true, laidKinds := [.data, .pinned], laidTests := true, laidLooks := .later }
def NatDividesUptoCardSaid : Prop := Claim7.holds Tryd.pinned (.plain (OpenSpec.upto natDividesSpec)) natDividesUptoCard

/-- THE SECOND FORM's CARD OF 'dspcompilerlaw01.NatGcds'. -/
def natGcdsUptoCard : Claim7 := { stood := { row := natGcdsUptoRow, standIns := [], harness := (true, "30129b4c48d263d6922afb3aa322847639cc21524c3fd4cc816692c43301975d"), looks := false }, kinds := [], alts := [], laidByText := true, laidKinds := [.data, .data, .pinned], laidTests := true, laidLooks := .later }
def NatGcdsUptoCardSaid : Prop := Claim7.holds Tryd.pinned (.plain (OpenSpec.upto natGcdsSpec)) natGcdsUptoCard

/-- THE SECOND FORM's CARD OF 'dspcompilerlaw01.NatRoots'. -/
def natRootsUptoCard : Claim7 := { stood := { row := natRootsUptoRow, standIns := [], harness := (true, "30129b4c48d263d6922afb3aa322847639cc21524c3fd4cc816692c43301975d"), looks := false }, kinds := [], alts := [], laidByText := true, laidKinds := [.data, .pinned], laidTests := true, laidLooks := .later }
def NatRootsUptoCardSaid : Prop := Claim7.holds Tryd.pinned (.plain (OpenSpec.upto natRootsSpec)) natRootsUptoCard

/-- THE SECOND FORM's CARD OF 'dspcompilerlaw01.NatFresh'. -/
def natFreshUptoCard : Claim7 := { stood := { row := natFreshUptoRow, standIns := [], harness := (true, "30129b4c48d263d6922afb3aa322847639cc21524c3fd4cc816692c43301975d"), looks := false }, kinds := [], alts := [], laidByText := true, laidKinds := [.data, .pinned], laidTests := true, laidLooks := .later }
def NatFreshUptoCardSaid : Prop := Claim7.holds Tryd.pinned (.plain (OpenSpec.upto natFreshSpec)) natFreshUptoCard
end Rows
end Go.Proofs.YtjejpccjdlmfnaaDoor
