/-
  DERIVED. GIVEN WITH THE SEED: THE CARDS: each row of YteopejjlhmghbaaDoorRows.lean that lists a variable, with what it lists TIED to the program's text (the seventh form; the later family's looks); each row that meets fmt, with fmt's text TOLD by the authors' own Lean function (tested against real Go, not proved from fmt's source: count such statements apart). THE CARD IS WHAT COUNTS. Prove the row's statement (the work); the ties are given (YteopejjlhmghbaaDoorTie.lean); close each card by the builder's one call (the guide's Derived/Test/ToyasCard.lean, 'card_holds'). Laid BY PROGRAM, IN A SANDBOX (cutbox-door.mjs). By AI agents, Wed Nov 11 2026. No macro, syntax, notation, axiom, sorry.
-/
import Derived.Test.YteopejjlhmghbaaDoorRows
import GoSem.ClaimSeven
namespace Go.Proofs.YteopejjlhmghbaaDoor
namespace Rows

/-- THE TIED CARD OF 'jalousielaw04.SealEmpty'. -/
def sealEmptyCard : Claim7 := { stood := { row := sealEmptyRow, standIns := [], harness := (true, "7ecc0ec85a5d27ccbb0ed817c53bf0e55bcc68a462d1413421f1869845574a91"), looks := true }, kinds := [], alts := [], laidByText := true, laidKinds := [.handle, .sentinel, .sentinel], laidTests := true, laidLooks := .later }
def SealEmptyCardSaid : Prop := Claim7.holds Tryd.pinned (.plain (OpenSpec.ofChange sealEmptySpec)) sealEmptyCard

/-- THE TIED CARD OF 'jalousielaw04.SealOpens'. -/
def sealOpensCard : Claim7 := { stood := { row := sealOpensRow, standIns := [], harness := (true, "7ecc0ec85a5d27ccbb0ed817c53bf0e55bcc68a462d1413421f1869845574a91"), looks := true }, kinds := [], alts := [], laidByText := true, laidKinds := [.handle, .sentinel, .sentinel], laidTests := true, laidLooks := .later }
def SealOpensCardSaid : Prop := Claim7.holds Tryd.pinned (.plain (OpenSpec.ofChange sealOpensSpec)) sealOpensCard

/-- THE TIED CARD OF 'jalousielaw04.SealAny'. -/
def sealAnyCard : Claim7 := { stood := { row := sealAnyRow, standIns := [], harness := (true, "7ecc0ec85a5d27ccbb0ed817c53bf0e55bcc68a462d1413421f1869845574a91"), looks := true }, kinds := [], alts := [], laidByText := true, laidKinds := [.handle, .sentinel, .sentinel], laidTests := true, laidLooks := .later }
def SealAnyCardSaid : Prop := Claim7.holds Tryd.pinned (.plain (OpenSpec.ofChange sealAnySpec)) sealAnyCard

/-- THE TIED CARD OF 'jalousielaw04.SealApart'. -/
def sealApartCard : Claim7 := { stood := { row := sealApartRow, standIns := [], harness := (true, "7ecc0ec85a5d27ccbb0ed817c53bf0e55bcc68a462d1413421f1869845574a91"), looks := true }, kinds := [], alts := [], laidByText := true, laidKinds := [.handle, .sentinel, .sentinel], laidTests := true, laidLooks := .later }
def SealApartCardSaid : Prop := Claim7.holds Tryd.pinned (.plain (OpenSpec.ofChange sealApartSpec)) sealApartCard

/-- THE SECOND FORM's CARD OF 'jalousielaw04.SealEmpty'. -/
def sealEmptyUptoCard : Claim7 := { stood := { row := sealEmptyUptoRow, standIns := [], harness := (true, "7ecc0ec85a5d27ccbb0ed817c53bf0e55bcc68a462d1413421f1869845574a91"), looks := true }, kinds := [], alts := [], laidByText := true, laidKinds := [.handle, .sentinel, .sentinel], laidTests := true, laidLooks := .later }
def SealEmptyUptoCardSaid : Prop := Claim7.holds Tryd.pinned (.plain (OpenSpec.upto sealEmptySpec)) sealEmptyUptoCard

/-- THE SECOND FORM's CARD OF 'jalousielaw04.SealOpens'. -/
def sealOpensUptoCard : Claim7 := { stood := { row := sealOpensUptoRow, standIns := [], harness := (true, "7ecc0ec85a5d27ccbb0ed817c53bf0e55bcc68a462d1413421f1869845574a91"), looks := true }, kinds := [], alts := [], laidByText := true, laidKinds := [.handle, .sentinel, .sentinel], laidTests := true, laidLooks := .later }
def SealOpensUptoCardSaid : Prop := Claim7.holds Tryd.pinned (.plain (OpenSpec.upto sealOpensSpec)) sealOpensUptoCard

/-- THE SECOND FORM's CARD OF 'jalousielaw04.SealAny'. -/
def sealAnyUptoCard : Claim7 := { stood := { row := sealAnyUptoRow, standIns := [], harness := (true, "7ecc0ec85a5d27ccbb0ed817c53bf0e55bcc68a462d1413421f1869845574a91"), looks := true }, kinds := [], alts := [], laidByText := true, laidKinds := [.handle, .sentinel, .sentinel], laidTests := true, laidLooks := .later }
def SealAnyUptoCardSaid : Prop := Claim7.holds Tryd.pinned (.plain (OpenSpec.upto sealAnySpec)) sealAnyUptoCard

/-- THE SECOND FORM's CARD OF 'jalousielaw04.SealApart'. -/
def sealApartUptoCard : Claim7 := { stood := { row := sealApartUptoRow, standIns := [], harness := (true, "7ecc0ec85a5d27ccbb0ed817c53bf0e55bcc68a462d1413421f1869845574a91"), looks := true }, kinds := [], alts := [], laidByText := true, laidKinds := [.handle, .sentinel, .sentinel], laidTests := true, laidLooks := .later }
def SealApartUptoCardSaid : Prop := Claim7.holds Tryd.pinned (.plain (OpenSpec.upto sealApartSpec)) sealApartUptoCard
end Rows
end Go.Proofs.YteopejjlhmghbaaDoor
