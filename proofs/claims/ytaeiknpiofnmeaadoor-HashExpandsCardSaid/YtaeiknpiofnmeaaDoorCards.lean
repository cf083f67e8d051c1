/-
  DERIVED. GIVEN WITH THE SEED: THE CARDS: each row of YtaeiknpiofnmeaaDoorRows.lean that lists a variable, with what it lists TIED to the program's text (the seventh form; the later family's looks); each row that meets fmt, with fmt's text TOLD by the authors' own Lean function (tested against real Go, not proved from fmt's source: count such statements apart). THE CARD IS WHAT COUNTS. Prove the row's statement (the work); the ties are given (YtaeiknpiofnmeaaDoorTie.lean); close each card by the builder's one call (the guide's Derived/Test/ToyasCard.lean, 'card_holds'). Laid BY PROGRAM, IN A SANDBOX (cutbox-door.mjs). By AI agents, Wed Nov 11 2026. No macro, syntax, notation, axiom, sorry.
-/
import Derived.Test.YtaeiknpiofnmeaaDoorRows
import GoSem.ClaimSeven
namespace Go.Proofs.YtaeiknpiofnmeaaDoor
namespace Rows

/-- THE TIED CARD OF 'jalousielaw01.HashKeys'. -/
def hashKeysCard : Claim7 := { stood := { row := hashKeysRow, standIns := [], harness := (true, "0ddf8bc81f7fb9157993bbc48ee5b60c82be6d735d814996d94c7527a56efd65"), looks := false }, kinds := [], alts := [], laidByText := true, laidKinds := [.data, .data], laidTests := true, laidLooks := .later }
def HashKeysCardSaid : Prop := Claim7.holds Tryd.pinned (.plain (OpenSpec.ofChange hashKeysSpec)) hashKeysCard

/-- THE TIED CARD OF 'jalousielaw01.HashGoes'. -/
def hashGoesCard : Claim7 := { stood := { row := hashGoesRow, standIns := [], harness := (true, "0ddf8bc81f7fb9157993bbc48ee5b60c82be6d735d814996d94c7527a56efd65"), looks := false }, kinds := [], alts := [], laidByText := true, laidKinds := [.data], laidTests := true, laidLooks := .later }
def HashGoesCardSaid : Prop := Claim7.holds Tryd.pinned (.plain (OpenSpec.ofChange hashGoesSpec)) hashGoesCard

/-- THE TIED CARD OF 'jalousielaw01.HashSums'. -/
def hashSumsCard : Claim7 := { stood := { row := hashSumsRow, standIns := [], harness := (true, "0ddf8bc81f7fb9157993bbc48ee5b60c82be6d735d814996d94c7527a56efd65"), looks := false }, kinds := [], alts := [], laidByText := true, laidKinds := [.data, .data], laidTests := true, laidLooks := .later }
def HashSumsCardSaid : Prop := Claim7.holds Tryd.pinned (.plain (OpenSpec.ofChange hashSumsSpec)) hashSumsCard

/-- THE TIED CARD OF 'jalousielaw01.HashMacs'. -/
def hashMacsCard : Claim7 := { stood := { row := hashMacsRow, standIns := [], harness := (true, "0ddf8bc81f7fb9157993bbc48ee5b60c82be6d735d814996d94c7527a56efd65"), looks := false }, kinds := [], alts := [], laidByText := true, laidKinds := [.data, .data], laidTests := true, laidLooks := .later }
def HashMacsCardSaid : Prop := Claim7.holds Tryd.pinned (.plain (OpenSpec.ofChange hashMacsSpec)) hashMacsCard

/-- THE TIED CARD OF 'jalousielaw01.HashExpands'. -/
def hashExpandsCard : Claim7 := { stood := { row := hashExpandsRow, standIns := [], harness := (true, "0ddf8bc81f7fb9157993bbc48ee5b60c82be6d735d814996d94c7527a56efd65"), looks := false }, kinds := [], alts := [], laidByText := true, laidKinds := [.data, .data], laidTests := true, laidLooks := .later }
def HashExpandsCardSaid : Prop := Claim7.holds Tryd.pinned (.plain (OpenSpec.ofChange hashExpandsSpec)) hashExpandsCard

/-- THE TIED CARD OF 'jalousielaw01.HashParts'. -/
def hashPartsCard : Claim7 := { stood := { row := hashPartsRow, standIns := [], harness := (true, "0ddf8bc81f7fb9157993bbc48ee5b60c82be6d735d814996d94c7527a56efd65"), looks := false }, kinds := [], alts := [], laidByText := true, laidKinds := [.data], laidTests := true, laidLooks := .later }
def HashPartsCardSaid : Prop := Claim7.holds Tryd.pinned (.plain (OpenSpec.ofChange hashPartsSpec)) hashPartsCard

/-- THE TIED CARD OF 'jalousielaw01.HashOwn'. -/
def hashOwnCard : Claim7 := { stood := { row := hashOwnRow, standIns := [], harness := (true, "0ddf8bc81f7fb9157993bbc48ee5b60c82be6d735d814996d94c7527a56efd65"), looks := false }, kinds := [], alts := [], laidByText := true, laidKinds := [.data], laidTests := true, laidLooks := .later }
def HashOwnCardSaid : Prop := Claim7.holds Tryd.pinned (.plain (OpenSpec.ofChange hashOwnSpec)) hashOwnCard

/-- THE SECOND FORM's CARD OF 'jalousielaw01.HashKeys'. -/
def hashKeysUptoCard : Claim7 := { stood := { row := hashKeysUptoRow, standIns := [], harness := (true, "0ddf8bc81f7fb9157993bbc48ee5b60c82be6d735d814996d94c7527a56efd65"), looks := false }, kinds := [], alts := [], laidByText := true, laidKinds := [.data, .data], laidTests := true, laidLooks := .later }
def HashKeysUptoCardSaid : Prop := Claim7.holds Tryd.pinned (.plain (OpenSpec.upto hashKeysSpec)) hashKeysUptoCard

/-- THE SECOND FORM's CARD OF 'jalousielaw01.HashGoes'. -/
def hashGoesUptoCard : Claim7 := { stood := { row := hashGoesUptoRow, standIns := [], harness := (true, "0ddf8bc81f7fb9157993bbc48ee5b60c82be6d735d814996d94c7527a56efd65"), looks := false }, kinds := [], alts := [], laidByText := true, laidKinds := [.data], laidTests := true, laidLooks := .later }
def HashGoesUptoCardSaid : Prop := Claim7.holds Tryd.pinned (.plain (OpenSpec.upto hashGoesSpec)) hashGoesUptoCard

/-- THE SECOND FORM's CARD OF 'jalousielaw01.HashSums'. -/
def hashSumsUptoCard : Claim7 := { stood := { row := hashSumsUptoRow, standIns := [], harness := (true, "0ddf8bc81f7fb9157993bbc48ee5b60c82be6d735d814996d94c7527a56efd65"), looks := false }, kinds := [], alts := [], laidByText := true, laidKinds := [.data, .data], laidTests := true, laidLooks := .later }
def HashSumsUptoCardSaid : Prop := Claim7.holds Tryd.pinned (.plain (OpenSpec.upto hashSumsSpec)) hashSumsUptoCard

/-- THE SECOND FORM's CARD OF 'jalousielaw01.HashMacs'. -/
def hashMacsUptoCard : Claim7 := { stood := { row := hashMacsUptoRow, standIns := [], harness := (true, "0ddf8bc81f7fb9157993bbc48ee5b60c82be6d735d814996d94c7527a56efd65"), looks := false }, kinds := [], alts := [], laidByText := true, laidKinds := [.data, .data], laidTests := true, laidLooks := .later }
def HashMacsUptoCardSaid : Prop := Claim7.holds Tryd.pinned (.plain (OpenSpec.upto hashMacsSpec)) hashMacsUptoCard

/-- THE SECOND FORM's CARD OF 'jalousielaw01.HashExpands'. -/
def hashExpandsUptoCard : Claim7 := { stood := { row := hashExpandsUptoRow, standIns := [], harness := (true, "0ddf8bc81f7fb9157993bbc48ee5b60c82be6d735d814996d94c7527a56efd65"), looks := false }, kinds := [], alts := [], laidByText := true, laidKinds := [.data, .data], laidTests := true, laidLooks := .later }
def HashExpandsUptoCardSaid : Prop := Claim7.holds Tryd.pinned (.plain (OpenSpec.upto hashExpandsSpec)) hashExpandsUptoCard

/-- THE SECOND FORM's CARD OF 'jalousielaw01.HashParts'. -/
def hashPartsUptoCard : Claim7 := { stood := { row := hashPartsUptoRow, standIns := [], harness := (true, "0ddf8bc81f7fb9157993bbc48ee5b60c82be6d735d814996d94c7527a56efd65"), looks := false }, kinds := [], alts := [], laidByText := true, laidKinds := [.data], laidTests := true, laidLooks := .later }
def HashPartsUptoCardSaid : Prop := Claim7.holds Tryd.pinned (.plain (OpenSpec.upto hashPartsSpec)) hashPartsUptoCard

/-- THE SECOND FORM's CARD OF 'jalousielaw01.HashOwn'. -/
def hashOwnUptoCard : Claim7 := { stood := { row := hashOwnUptoRow, standIns := [], harness := (true, "0ddf8bc81f7fb9157993bbc48ee5b60c82be6d735d814996d94c7527a56efd65"), looks := false }, kinds := [], alts := [], laidByText := true, laidKinds := [.data], laidTests := true, laidLooks := .later }
def HashOwnUptoCardSaid : Prop := Claim7.holds Tryd.pinned (.plain (OpenSpec.upto hashOwnSpec)) hashOwnUptoCard
end Rows
end Go.Proofs.YtaeiknpiofnmeaaDoor
