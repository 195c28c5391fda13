/-
  DERIVED. GIVEN WITH THE SEED: THE CARDS: each row of YtdgmoiflahoihabGreatDoorRows.lean that lists a variable, with what it lists TIED to the program's text (the seventh form; the later family's looks); each row that meets fmt, with fmt's text TOLD by the authors' own Lean function (tested against real Go, not proved from fmt's source: count such statements apart). THE CARD IS WHAT COUNTS. Prove the row's statement (the work); the ties are given (YtdgmoiflahoihabGreatDoorTie.lean); close each card by the builder's one call (the guide's Derived/Test/ToyasCard.lean, 'card_holds'). Laid BY PROGRAM, IN A SANDBOX (cutbox-door.mjs). By AI agents, Wed Nov 11 2026. No macro, syntax, notation, axiom, sorry.
-/
import Derived.Test.YtdgmoiflahoihabGreatDoorRows
import GoSem.ClaimSeven
namespace Go.Proofs.YtdgmoiflahoihabGreatDoor
namespace Rows

/-- THE TIED CARD OF 'tariffkeep.Silent'. -/
def silentCard : Claim7 := { stood := { row := silentRow, standIns := [], harness := (true, "22b6b792c61cd89246f554038cd6cdafd81b6f1d327a36effaf754f22a73d12e"), looks := false }, kinds := [], alts := [], laidByText := true, laidKinds := [.data, .data, .data], laidTests := true, laidLooks := .later }
def SilentCardSaid : Prop := Claim7.holds Tryz.pinned (.plain (OpenSpec.ofChange silentSpec)) silentCard

/-- THE TIED CARD OF 'tariffkeep.Round'. -/
def roundCard : Claim7 := { stood := { row := roundRow, standIns := [], harness := (true, "22b6b792c61cd89246f554038cd6cdafd81b6f1d327a36effaf754f22a73d12e"), looks := false }, kinds := [], alts := [], laidByText := true, laidKinds := [.data, .data, .data], laidTests := true, laidLooks := .later }
def RoundCardSaid : Prop := Claim7.holds Tryz.pinned (.plain (OpenSpec.ofChange roundSpec)) roundCard

/-- THE SECOND FORM's CARD OF 'tariffkeep.Silent'. -/
def silentUptoCard : Claim7 := { stood := { row := silentUptoRow, standIns := [], harness := (true, "22b6b792c61cd89246f554038cd6cdafd81b6f1d327a36effaf754f22a73d12e"), looks := false }, kinds := [], alts := [], laidByText := true, laidKinds := [.data, .data, .data], laidTests := true, laidLooks := .later }
def SilentUptoCardSaid : Prop := Claim7.holds Tryz.pinned (.plain (OpenSpec.upto silentSpec)) silentUptoCard

/-- THE SECOND FORM's CARD OF 'tariffkeep.Round'. -/
def roundUptoCard : Claim7 := { stood := { row := roundUptoRow, standIns := [], harness := (true, "22b6b792c61cd89246f554038cd6cdafd81b6f1d327a36effaf754f22a73d12e"), looks := false }, kinds := [], alts := [], laidByText := true, laidKinds := [.data, .data, .data], laidTests := true, laidLooks := .later }
def RoundUptoCardSaid : Prop := Claim7.holds Tryz.pinned (.plain (OpenSpec.upto roundSpec)) roundUptoCard
end Rows
end Go.Proofs.YtdgmoiflahoihabGreatDoor
