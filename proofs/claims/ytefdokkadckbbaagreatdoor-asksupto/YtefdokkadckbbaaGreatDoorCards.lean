/-
  DERIVED. GIVEN WITH THE SEED: THE CARDS: each row of YtefdokkadckbbaaGreatDoorRows.lean that lists a variable, with what it lists TIED to the program's text (the seventh form; the later family's looks); each row that meets fmt, with fmt's text TOLD by the authors' own Lean function (tested against real Go, not proved from fmt's source: count such statements apart). THE CARD IS WHAT COUNTS. Prove the row's statement (the work); the ties are given (YtefdokkadckbbaaGreatDoorTie.lean); close each card by the builder's one call (the guide's Derived/Test/ToyasCard.lean, 'card_holds'). Laid BY PROGRAM, IN A SANDBOX (cutbox-door.mjs). By AI agents, Wed Nov 11 2026. No macro, syntax, notation, axiom, sorry.
-/
import Derived.Test.YtefdokkadckbbaaGreatDoorRows
import GoSem.ClaimSeven
namespace Go.Proofs.YtefdokkadckbbaaGreatDoor
namespace Rows

/-- THE TIED CARD OF 'signpostlaw.Encodes'. -/
def encodesCard : Claim7 := { stood := { row := encodesRow, standIns := [], harness := (true, "45c6362b36e0c89a92d3d4eb0fe943b87f1960717d94fc82dac40a772abeb6a7"), looks := false }, kinds := [], alts := [], goes := true, laidByText := true, laidKinds := [.data, .pinned], laidTests := true, laidLooks := .later }
def EncodesCardSaid : Prop := Claim7.holds Tryz.pinned (.plain (OpenSpec.ofChange encodesSpec)) encodesCard

/-- THE TIED CARD OF 'signpostlaw.Decodes'. -/
def decodesCard : Claim7 := { stood := { row := decodesRow, standIns := [], harness := (true, "45c6362b36e0c89a92d3d4eb0fe943b87f1960717d94fc82dac40a772abeb6a7"), looks := false }, kinds := [], alts := [], goes := true, laidByText := true, laidKinds := [.data, .pinned], laidTests := true, laidLooks := .later }
def DecodesCardSaid : Prop := Claim7.holds Tryz.pinned (.plain (OpenSpec.ofChange decodesSpec)) decodesCard

/-- THE TIED CARD OF 'signpostlaw.Asks'. -/
def asksCard : Claim7 := { stood := { row := asksRow, standIns := [], harness := (true, "45c6362b36e0c89a92d3d4eb0fe943b87f1960717d94fc82dac40a772abeb6a7"), looks := false }, kinds := [], alts := [], goes := true, laidByText := true, laidKinds := [.data, .pinned], laidTests := true, laidLooks := .later }
def AsksCardSaid : Prop := Claim7.holds Tryz.pinned (.plain (OpenSpec.ofChange asksSpec)) asksCard

/-- THE TIED CARD OF 'signpostlaw.Resolves'. -/
def resolvesCard : Claim7 := { stood := { row := resolvesRow, standIns := [], harness := (true, "45c6362b36e0c89a92d3d4eb0fe943b87f1960717d94fc82dac40a772abeb6a7"), looks := false }, kinds := [], alts := [], goes := true, laidByText := true, laidKinds := [.data, .pinned], laidTests := true, laidLooks := .later }
def ResolvesCardSaid : Prop := Claim7.holds Tryz.pinned (.plain (OpenSpec.ofChange resolvesSpec)) resolvesCard

/-- THE TIED CARD OF 'signpostkeep.Fresh'. -/
def freshCard : Claim7 := { stood := { row := freshRow, standIns := [], harness := (true, "45c6362b36e0c89a92d3d4eb0fe943b87f1960717d94fc82dac40a772abeb6a7"), looks := false }, kinds := [], alts := [], goes := true, laidByText := true, laidKinds := [.data, .pinned], laidTests := true, laidLooks := .later }
def FreshCardSaid : Prop := Claim7.holds Tryz.pinned (.plain (OpenSpec.ofChange freshSpec)) freshCard

/-- THE TIED CARD OF 'signpostkeep.Found'. -/
def foundCard : Claim7 := { stood := { row := foundRow, standIns := [], harness := (true, "45c6362b36e0c89a92d3d4eb0fe943b87f1960717d94fc82dac40a772abeb6a7"), looks := false }, kinds := [], alts := [], goes := true, laidByText := true, laidKinds := [.data, .pinned], laidTests := true, laidLooks := .later }
def FoundCardSaid : Prop := Claim7.holds Tryz.pinned (.plain (OpenSpec.ofChange foundSpec)) foundCard

/-- THE TIED CARD OF 'signpostkeep.Remembered'. -/
def rememberedCard : Claim7 := { stood := { row := rememberedRow, standIns := [], harness := (true, "45c6362b36e0c89a92d3d4eb0fe943b87f1960717d94fc82dac40a772abeb6a7"), looks := false }, kinds := [], alts := [], goes := true, laidByText := true, laidKinds := [.data, .pinned], laidTests := true, laidLooks := .later }
def RememberedCardSaid : Prop := Claim7.holds Tryz.pinned (.plain (OpenSpec.ofChange rememberedSpec)) rememberedCard

/-- THE TIED CARD OF 'signpostkeep.Unbelieved'. -/
def unbelievedCard : Claim7 := { stood := { row := unbelievedRow, standIns := [], harness := (true, "45c6362b36e0c89a92d3d4eb0fe943b87f1960717d94fc82dac40a772abeb6a7"), looks := false }, kinds := [], alts := [], goes := true, laidByText := true, laidKinds := [.data, .pinned], laidTests := true, laidLooks := .later }
def UnbelievedCardSaid : Prop := Claim7.holds Tryz.pinned (.plain (OpenSpec.ofChange unbelievedSpec)) unbelievedCard

/-- THE TIED CARD OF 'signpostkeep.Ended'. -/
def endedCard : Claim7 := { stood := { row := endedRow, standIns := [], harness := (true, "45c6362b36e0c89a92d3d4eb0fe943b87f1960717d94fc82dac40a772abeb6a7"), looks := false }, kinds := [], alts := [], goes := true, laidByText := true, laidKinds := [.data, .pinned], laidTests := true, laidLooks := .later }
def EndedCardSaid : Prop := Claim7.holds Tryz.pinned (.plain (OpenSpec.ofChange endedSpec)) endedCard

/-- THE TIED CARD OF 'signpostlaw.All'. -/
def allCard : Claim7 := { stood := { row := allRow, standIns := [], harness := (true, "45c6362b36e0c89a92d3d4eb0fe943b87f1960717d94fc82dac40a772abeb6a7"), looks := false }, kinds := [], alts := [], goes := true, laidByText := true, laidKinds := [.data, .pinned], laidTests := true, laidLooks := .later }
def AllCardSaid : Prop := Claim7.holds Tryz.pinned (.plain (OpenSpec.ofChange allSpec)) allCard

/-- THE SECOND FORM's CARD OF 'signpostlaw.Encodes'. -/
def encodesUptoCard : Claim7 := { stood := { row := encodesUptoRow, standIns := [], harness := (true, "45c6362b36e0c89a92d3d4eb0fe943b87f1960717d94fc82dac40a772abeb6a7"), looks := false }, kinds := [], alts := [], goes := true, laidByText := true, laidKinds := [.data, .pinned], laidTests := true, laidLooks := .later }
def EncodesUptoCardSaid : Prop := Claim7.holds Tryz.pinned (.plain (OpenSpec.upto encodesSpec)) encodesUptoCard

/-- THE SECOND FORM's CARD OF 'signpostlaw.Decodes'. -/
def decodesUptoCard : Claim7 := { stood := { row := decodesUptoRow, standIns := [], harness := (true, "45c6362b36e0c89a92d3d4eb0fe943b87f1960717d94fc82dac40a772abeb6a7"), looks := false }, kinds := [], alts := [], goes := true, laidByText := true, laidKinds := [.data, .pinned], laidTests := true, laidLooks := .later }
def DecodesUptoCardSaid : Prop := Claim7.holds Tryz.pinned (.plain (OpenSpec.upto decodesSpec)) decodesUptoCard

/-- THE SECOND FORM's CARD OF 'signpostlaw.Asks'. -/
def asksUptoCard : Claim7 := { stood := { row := asksUptoRow, standIns := [], harness := (true, "45c6362b36e0c89a92d3d4eb0fe943b87f1960717d94fc82dac40a772abeb6a7"), looks := false }, kinds := [], alts := [], goes := true, laidByText := true, laidKinds := [.data, .pinned], laidTests := true, laidLooks := .later }
def AsksUptoCardSaid : Prop := Claim7.holds Tryz.pinned (.plain (OpenSpec.upto asksSpec)) asksUptoCard

/-- THE SECOND FORM's CARD OF 'signpostlaw.Resolves'. -/
def resolvesUptoCard : Claim7 := { stood := { row := resolvesUptoRow, standIns := [], harness := (true, "45c6362b36e0c89a92d3d4eb0fe943b87f1960717d94fc82dac40a772abeb6a7"), looks := false }, kinds := [], alts := [], goes := true, laidByText := true, laidKinds := [.data, .pinned], laidTests := true, laidLooks := .later }
def ResolvesUptoCardSaid : Prop := Claim7.holds Tryz.pinned (.plain (OpenSpec.upto resolvesSpec)) resolvesUptoCard

/-- THE SECOND FORM's CARD OF 'signpostkeep.Fresh'. -/
def freshUptoCard : Claim7 := { stood := { row := freshUptoRow, standIns := [], harness := (true, "45c6362b36e0c89a92d3d4eb0fe943b87f1960717d94fc82dac40a772abeb6a7"), looks := false }, kinds := [], alts := [], goes := true, laidByText := true, laidKinds := [.data, .pinned], laidTests := true, laidLooks := .later }
def FreshUptoCardSaid : Prop := Claim7.holds Tryz.pinned (.plain (OpenSpec.upto freshSpec)) freshUptoCard

/-- THE SECOND FORM's CARD OF 'signpostkeep.Found'. -/
def foundUptoCard : Claim7 := { stood := { row := foundUptoRow, standIns := [], harness := (true, "45c6362b36e0c89a92d3d4eb0fe943b87f1960717d94fc82dac40a772abeb6a7"), looks := false }, kinds := [], alts := [], goes := true, laidByText := true, laidKinds := [.data, .pinned], laidTests := true, laidLooks := .later }
def FoundUptoCardSaid : Prop := Claim7.holds Tryz.pinned (.plain (OpenSpec.upto foundSpec)) foundUptoCard

/-- THE SECOND FORM's CARD OF 'signpostkeep.Remembered'. -/
def rememberedUptoCard : Claim7 := { stood := { row := rememberedUptoRow, standIns := [], harness := (true, "45c6362b36e0c89a92d3d4eb0fe943b87f1960717d94fc82dac40a772abeb6a7"), looks := false }, kinds := [], alts := [], goes := true, laidByText := true, laidKinds := [.data, .pinned], laidTests := true, laidLooks := .later }
def RememberedUptoCardSaid : Prop := Claim7.holds Tryz.pinned (.plain (OpenSpec.upto rememberedSpec)) rememberedUptoCard

/-- THE SECOND FORM's CARD OF 'signpostkeep.Unbelieved'. -/
def unbelievedUptoCard : Claim7 := { stood := { row := unbelievedUptoRow, standIns := [], harness := (true, "45c6362b36e0c89a92d3d4eb0fe943b87f1960717d94fc82dac40a772abeb6a7"), looks := false }, kinds := [], alts := [], goes := true, laidByText := true, laidKinds := [.data, .pinned], laidTests := true, laidLooks := .later }
def UnbelievedUptoCardSaid : Prop := Claim7.holds Tryz.pinned (.plain (OpenSpec.upto unbelievedSpec)) unbelievedUptoCard

/-- THE SECOND FORM's CARD OF 'signpostkeep.Ended'. -/
def endedUptoCard : Claim7 := { stood := { row := endedUptoRow, standIns := [], harness := (true, "45c6362b36e0c89a92d3d4eb0fe943b87f1960717d94fc82dac40a772abeb6a7"), looks := false }, kinds := [], alts := [], goes := true, laidByText := true, laidKinds := [.data, .pinned], laidTests := true, laidLooks := .later }
def EndedUptoCardSaid : Prop := Claim7.holds Tryz.pinned (.plain (OpenSpec.upto endedSpec)) endedUptoCard

/-- THE SECOND FORM's CARD OF 'signpostlaw.All'. -/
def allUptoCard : Claim7 := { stood := { row := allUptoRow, standIns := [], harness := (true, "45c6362b36e0c89a92d3d4eb0fe943b87f1960717d94fc82dac40a772abeb6a7"), looks := false }, kinds := [], alts := [], goes := true, laidByText := true, laidKinds := [.data, .pinned], laidTests := true, laidLooks := .later }
def AllUptoCardSaid : Prop := Claim7.holds Tryz.pinned (.plain (OpenSpec.upto allSpec)) allUptoCard
end Rows
end Go.Proofs.YtefdokkadckbbaaGreatDoor
