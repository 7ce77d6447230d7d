/-
  DERIVED. GIVEN WITH THE SEED: THE CARDS: each row of YtfocdefchbnkpaaGreatDoorRows.lean that lists a variable, with what it lists TIED to the program's text (the seventh form; the later family's looks); each row that meets fmt, with fmt's text TOLD by the authors' own Lean function (tested against real Go, not proved from fmt's source: count such statements apart). THE CARD IS WHAT COUNTS. Prove the row's statement (the work); the ties are given (YtfocdefchbnkpaaGreatDoorTie.lean); close each card by the builder's one call (the guide's Derived/Test/ToyasCard.lean, 'card_holds'). Laid BY PROGRAM, IN A SANDBOX (cutbox-door.mjs). By AI agents, Wed Nov 11 2026. No macro, syntax, notation, axiom, sorry.
-/
import Derived.Test.YtfocdefchbnkpaaGreatDoorRows
import GoSem.ClaimSeven
namespace Go.Proofs.YtfocdefchbnkpaaGreatDoor
namespace Rows

/-- THE TIED CARD OF 'switchyardlaw.Plains'. -/
def plainsCard : Claim7 := { stood := { row := plainsRow, standIns := [], harness := (true, "6534d47bc294a27e3a68e1cd5ca6230d8daf80f9d8ed18d384cb29949d1aa34e"), looks := true }, kinds := [], alts := [], laidByText := true, laidKinds := [.data, .data, .data, .data, .sentinel, .sentinel, .pinned], laidTests := true, laidLooks := .later }
def PlainsCardSaid : Prop := Claim7.holds Tryz.pinned (.plain (OpenSpec.ofChange plainsSpec)) plainsCard

/-- THE TIED CARD OF 'switchyardlaw.Packs'. -/
def packsCard : Claim7 := { stood := { row := packsRow, standIns := [], harness := (true, "6534d47bc294a27e3a68e1cd5ca6230d8daf80f9d8ed18d384cb29949d1aa34e"), looks := true }, kinds := [], alts := [], laidByText := true, laidKinds := [.data, .data, .data, .data, .sentinel, .sentinel, .pinned], laidTests := true, laidLooks := .later }
def PacksCardSaid : Prop := Claim7.holds Tryz.pinned (.plain (OpenSpec.ofChange packsSpec)) packsCard

/-- THE TIED CARD OF 'switchyardlaw.Parses'. -/
def parsesCard : Claim7 := { stood := { row := parsesRow, standIns := [], harness := (true, "6534d47bc294a27e3a68e1cd5ca6230d8daf80f9d8ed18d384cb29949d1aa34e"), looks := true }, kinds := [], alts := [], laidByText := true, laidKinds := [.data, .data, .data, .data, .sentinel, .sentinel, .pinned], laidTests := true, laidLooks := .later }
def ParsesCardSaid : Prop := Claim7.holds Tryz.pinned (.plain (OpenSpec.ofChange parsesSpec)) parsesCard

/-- THE TIED CARD OF 'switchyardlaw.All'. -/
def allCard : Claim7 := { stood := { row := allRow, standIns := [], harness := (true, "6534d47bc294a27e3a68e1cd5ca6230d8daf80f9d8ed18d384cb29949d1aa34e"), looks := true }, kinds := [], alts := [], laidByText := true, laidKinds := [.data, .data, .data, .data, .sentinel, .sentinel, .pinned], laidTests := true, laidLooks := .later }
def AllCardSaid : Prop := Claim7.holds Tryz.pinned (.plain (OpenSpec.ofChange allSpec)) allCard

/-- THE TIED CARD OF 'switchyardkeep.Again'. -/
def againCard : Claim7 := { stood := { row := againRow, standIns := [], harness := (true, "6534d47bc294a27e3a68e1cd5ca6230d8daf80f9d8ed18d384cb29949d1aa34e"), looks := true }, kinds := [], alts := [], laidByText := true, laidKinds := [.data, .data, .data, .data, .sentinel, .sentinel, .pinned], laidTests := true, laidLooks := .later }
def AgainCardSaid : Prop := Claim7.holds Tryz.pinned (.plain (OpenSpec.ofChange againSpec)) againCard

/-- THE TIED CARD OF 'switchyardkeep.Sealed'. -/
def sealedCard : Claim7 := { stood := { row := sealedRow, standIns := [], harness := (true, "6534d47bc294a27e3a68e1cd5ca6230d8daf80f9d8ed18d384cb29949d1aa34e"), looks := true }, kinds := [], alts := [], laidByText := true, laidKinds := [.data, .data, .data, .data, .sentinel, .sentinel, .pinned], laidTests := true, laidLooks := .later }
def SealedCardSaid : Prop := Claim7.holds Tryz.pinned (.plain (OpenSpec.ofChange sealedSpec)) sealedCard

/-- THE TIED CARD OF 'switchyardkeep.Refused'. -/
def refusedCard : Claim7 := { stood := { row := refusedRow, standIns := [], harness := (true, "6534d47bc294a27e3a68e1cd5ca6230d8daf80f9d8ed18d384cb29949d1aa34e"), looks := true }, kinds := [], alts := [], laidByText := true, laidKinds := [.data, .data, .data, .data, .sentinel, .sentinel, .pinned], laidTests := true, laidLooks := .later }
def RefusedCardSaid : Prop := Claim7.holds Tryz.pinned (.plain (OpenSpec.ofChange refusedSpec)) refusedCard

/-- THE TIED CARD OF 'switchyardkeep.Routed'. -/
def routedCard : Claim7 := { stood := { row := routedRow, standIns := [], harness := (true, "6534d47bc294a27e3a68e1cd5ca6230d8daf80f9d8ed18d384cb29949d1aa34e"), looks := true }, kinds := [], alts := [], laidByText := true, laidKinds := [.data, .data, .data, .data, .sentinel, .sentinel, .pinned], laidTests := true, laidLooks := .later }
def RoutedCardSaid : Prop := Claim7.holds Tryz.pinned (.plain (OpenSpec.ofChange routedSpec)) routedCard

/-- THE TIED CARD OF 'switchyardkeep.Spread'. -/
def spreadCard : Claim7 := { stood := { row := spreadRow, standIns := [], harness := (true, "6534d47bc294a27e3a68e1cd5ca6230d8daf80f9d8ed18d384cb29949d1aa34e"), looks := true }, kinds := [], alts := [], laidByText := true, laidKinds := [.data, .data, .data, .data, .sentinel, .sentinel, .pinned], laidTests := true, laidLooks := .later }
def SpreadCardSaid : Prop := Claim7.holds Tryz.pinned (.plain (OpenSpec.ofChange spreadSpec)) spreadCard

/-- THE TIED CARD OF 'switchyardkeep.Edited'. -/
def editedCard : Claim7 := { stood := { row := editedRow, standIns := [], harness := (true, "6534d47bc294a27e3a68e1cd5ca6230d8daf80f9d8ed18d384cb29949d1aa34e"), looks := true }, kinds := [], alts := [], laidByText := true, laidKinds := [.data, .data, .data, .data, .sentinel, .sentinel, .pinned], laidTests := true, laidLooks := .later }
def EditedCardSaid : Prop := Claim7.holds Tryz.pinned (.plain (OpenSpec.ofChange editedSpec)) editedCard

/-- THE TIED CARD OF 'switchyardkeep.Swapped'. -/
def swappedCard : Claim7 := { stood := { row := swappedRow, standIns := [], harness := (true, "6534d47bc294a27e3a68e1cd5ca6230d8daf80f9d8ed18d384cb29949d1aa34e"), looks := true }, kinds := [], alts := [], laidByText := true, laidKinds := [.data, .data, .data, .data, .sentinel, .sentinel, .pinned], laidTests := true, laidLooks := .later }
def SwappedCardSaid : Prop := Claim7.holds Tryz.pinned (.plain (OpenSpec.ofChange swappedSpec)) swappedCard

/-- THE SECOND FORM's CARD OF 'switchyardlaw.Plains'. -/
def plainsUptoCard : Claim7 := { stood := { row := plainsUptoRow, standIns := [], harness := (true, "6534d47bc294a27e3a68e1cd5ca6230d8daf80f9d8ed18d384cb29949d1aa34e"), looks := true }, kinds := [], alts := [], laidByText := true, laidKinds := [.data, .data, .data, .data, .sentinel, .sentinel, .pinned], laidTests := true, laidLooks := .later }
def PlainsUptoCardSaid : Prop := Claim7.holds Tryz.pinned (.plain (OpenSpec.upto plainsSpec)) plainsUptoCard

/-- THE SECOND FORM's CARD OF 'switchyardlaw.Packs'. -/
def packsUptoCard : Claim7 := { stood := { row := packsUptoRow, standIns := [], harness := (true, "6534d47bc294a27e3a68e1cd5ca6230d8daf80f9d8ed18d384cb29949d1aa34e"), looks := true }, kinds := [], alts := [], laidByText := true, laidKinds := [.data, .data, .data, .data, .sentinel, .sentinel, .pinned], laidTests := true, laidLooks := .later }
def PacksUptoCardSaid : Prop := Claim7.holds Tryz.pinned (.plain (OpenSpec.upto packsSpec)) packsUptoCard

/-- THE SECOND FORM's CARD OF 'switchyardlaw.Parses'. -/
def parsesUptoCard : Claim7 := { stood := { row := parsesUptoRow, standIns := [], harness := (true, "6534d47bc294a27e3a68e1cd5ca6230d8daf80f9d8ed18d384cb29949d1aa34e"), looks := true }, kinds := [], alts := [], laidByText := true, laidKinds := [.data, .data, .data, .data, .sentinel, .sentinel, .pinned], laidTests := true, laidLooks := .later }
def ParsesUptoCardSaid : Prop := Claim7.holds Tryz.pinned (.plain (OpenSpec.upto parsesSpec)) parsesUptoCard

/-- THE SECOND FORM's CARD OF 'switchyardlaw.All'. -/
def allUptoCard : Claim7 := { stood := { row := allUptoRow, standIns := [], harness := (true, "6534d47bc294a27e3a68e1cd5ca6230d8daf80f9d8ed18d384cb29949d1aa34e"), looks := true }, kinds := [], alts := [], laidByText := true, laidKinds := [.data, .data, .data, .data, .sentinel, .sentinel, .pinned], laidTests := true, laidLooks := .later }
def AllUptoCardSaid : Prop := Claim7.holds Tryz.pinned (.plain (OpenSpec.upto allSpec)) allUptoCard

/-- THE SECOND FORM's CARD OF 'switchyardkeep.Again'. -/
def againUptoCard : Claim7 := { stood := { row := againUptoRow, standIns := [], harness := (true, "6534d47bc294a27e3a68e1cd5ca6230d8daf80f9d8ed18d384cb29949d1aa34e"), looks := true }, kinds := [], alts := [], laidByText := true, laidKinds := [.data, .data, .data, .data, .sentinel, .sentinel, .pinned], laidTests := true, laidLooks := .later }
def AgainUptoCardSaid : Prop := Claim7.holds Tryz.pinned (.plain (OpenSpec.upto againSpec)) againUptoCard

/-- THE SECOND FORM's CARD OF 'switchyardkeep.Sealed'. -/
def sealedUptoCard : Claim7 := { stood := { row := sealedUptoRow, standIns := [], harness := (true, "6534d47bc294a27e3a68e1cd5ca6230d8daf80f9d8ed18d384cb29949d1aa34e"), looks := true }, kinds := [], alts := [], laidByText := true, laidKinds := [.data, .data, .data, .data, .sentinel, .sentinel, .pinned], laidTests := true, laidLooks := .later }
def SealedUptoCardSaid : Prop := Claim7.holds Tryz.pinned (.plain (OpenSpec.upto sealedSpec)) sealedUptoCard

/-- THE SECOND FORM's CARD OF 'switchyardkeep.Refused'. -/
def refusedUptoCard : Claim7 := { stood := { row := refusedUptoRow, standIns := [], harness := (true, "6534d47bc294a27e3a68e1cd5ca6230d8daf80f9d8ed18d384cb29949d1aa34e"), looks := true }, kinds := [], alts := [], laidByText := true, laidKinds := [.data, .data, .data, .data, .sentinel, .sentinel, .pinned], laidTests := true, laidLooks := .later }
def RefusedUptoCardSaid : Prop := Claim7.holds Tryz.pinned (.plain (OpenSpec.upto refusedSpec)) refusedUptoCard

/-- THE SECOND FORM's CARD OF 'switchyardkeep.Routed'. -/
def routedUptoCard : Claim7 := { stood := { row := routedUptoRow, standIns := [], harness := (true, "6534d47bc294a27e3a68e1cd5ca6230d8daf80f9d8ed18d384cb29949d1aa34e"), looks := true }, kinds := [], alts := [], laidByText := true, laidKinds := [.data, .data, .data, .data, .sentinel, .sentinel, .pinned], laidTests := true, laidLooks := .later }
def RoutedUptoCardSaid : Prop := Claim7.holds Tryz.pinned (.plain (OpenSpec.upto routedSpec)) routedUptoCard

/-- THE SECOND FORM's CARD OF 'switchyardkeep.Spread'. -/
def spreadUptoCard : Claim7 := { stood := { row := spreadUptoRow, standIns := [], harness := (true, "6534d47bc294a27e3a68e1cd5ca6230d8daf80f9d8ed18d384cb29949d1aa34e"), looks := true }, kinds := [], alts := [], laidByText := true, laidKinds := [.data, .data, .data, .data, .sentinel, .sentinel, .pinned], laidTests := true, laidLooks := .later }
def SpreadUptoCardSaid : Prop := Claim7.holds Tryz.pinned (.plain (OpenSpec.upto spreadSpec)) spreadUptoCard

/-- THE SECOND FORM's CARD OF 'switchyardkeep.Edited'. -/
def editedUptoCard : Claim7 := { stood := { row := editedUptoRow, standIns := [], harness := (true, "6534d47bc294a27e3a68e1cd5ca6230d8daf80f9d8ed18d384cb29949d1aa34e"), looks := true }, kinds := [], alts := [], laidByText := true, laidKinds := [.data, .data, .data, .data, .sentinel, .sentinel, .pinned], laidTests := true, laidLooks := .later }
def EditedUptoCardSaid : Prop := Claim7.holds Tryz.pinned (.plain (OpenSpec.upto editedSpec)) editedUptoCard

/-- THE SECOND FORM's CARD OF 'switchyardkeep.Swapped'. -/
def swappedUptoCard : Claim7 := { stood := { row := swappedUptoRow, standIns := [], harness := (true, "6534d47bc294a27e3a68e1cd5ca6230d8daf80f9d8ed18d384cb29949d1aa34e"), looks := true }, kinds := [], alts := [], laidByText := true, laidKinds := [.data, .data, .data, .data, .sentinel, .sentinel, .pinned], laidTests := true, laidLooks := .later }
def SwappedUptoCardSaid : Prop := Claim7.holds Tryz.pinned (.plain (OpenSpec.upto swappedSpec)) swappedUptoCard
end Rows
end Go.Proofs.YtfocdefchbnkpaaGreatDoor
