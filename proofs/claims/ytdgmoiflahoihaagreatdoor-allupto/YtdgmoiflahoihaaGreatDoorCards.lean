/-
  DERIVED. GIVEN WITH THE SEED: THE CARDS: each row of YtdgmoiflahoihaaGreatDoorRows.lean that lists a variable, with what it lists TIED to the program's text (the seventh form; the later family's looks); each row that meets fmt, with fmt's text TOLD by the authors' own Lean function (tested against real Go, not proved from fmt's source: count such statements apart). THE CARD IS WHAT COUNTS. Prove the row's statement (the work); the ties are given (YtdgmoiflahoihaaGreatDoorTie.lean); close each card by the builder's one call (the guide's Derived/Test/ToyasCard.lean, 'card_holds'). Laid BY PROGRAM, IN A SANDBOX (cutbox-door.mjs). By AI agents, Wed Nov 11 2026. No macro, syntax, notation, axiom, sorry.
-/
import Derived.Test.YtdgmoiflahoihaaGreatDoorRows
import GoSem.ClaimSeven
namespace Go.Proofs.YtdgmoiflahoihaaGreatDoor
namespace Rows

/-- THE TIED CARD OF 'tarifflaw.Bills'. -/
def billsCard : Claim7 := { stood := { row := billsRow, standIns := [], harness := (true, "4bb910f8b211fc3f52fadaf3a48d27228be4d267f6b45b29dfc476a73dcbb49f"), looks := false }, kinds := [], alts := [], laidByText := true, laidKinds := [.data, .data, .data], laidTests := true, laidLooks := .later }
def BillsCardSaid : Prop := Claim7.holds Tryz.pinned (.plain (OpenSpec.ofChange billsSpec)) billsCard

/-- THE TIED CARD OF 'tarifflaw.All'. -/
def allCard : Claim7 := { stood := { row := allRow, standIns := [], harness := (true, "4bb910f8b211fc3f52fadaf3a48d27228be4d267f6b45b29dfc476a73dcbb49f"), looks := false }, kinds := [], alts := [], laidByText := true, laidKinds := [.data, .data, .data], laidTests := true, laidLooks := .later }
def AllCardSaid : Prop := Claim7.holds Tryz.pinned (.plain (OpenSpec.ofChange allSpec)) allCard

/-- THE TIED CARD OF 'tariffkeep.Known'. -/
def knownCard : Claim7 := { stood := { row := knownRow, standIns := [], harness := (true, "4bb910f8b211fc3f52fadaf3a48d27228be4d267f6b45b29dfc476a73dcbb49f"), looks := false }, kinds := [], alts := [], laidByText := true, laidKinds := [.data, .data, .data], laidTests := true, laidLooks := .later }
def KnownCardSaid : Prop := Claim7.holds Tryz.pinned (.plain (OpenSpec.ofChange knownSpec)) knownCard

/-- THE SECOND FORM's CARD OF 'tarifflaw.Bills'. -/
def billsUptoCard : Claim7 := { stood := { row := billsUptoRow, standIns := [], harness := (true, "4bb910f8b211fc3f52fadaf3a48d27228be4d267f6b45b29dfc476a73dcbb49f"), looks := false }, kinds := [], alts := [], laidByText := true, laidKinds := [.data, .data, .data], laidTests := true, laidLooks := .later }
def BillsUptoCardSaid : Prop := Claim7.holds Tryz.pinned (.plain (OpenSpec.upto billsSpec)) billsUptoCard

/-- THE SECOND FORM's CARD OF 'tarifflaw.All'. -/
def allUptoCard : Claim7 := { stood := { row := allUptoRow, standIns := [], harness := (true, "4bb910f8b211fc3f52fadaf3a48d27228be4d267f6b45b29dfc476a73dcbb49f"), looks := false }, kinds := [], alts := [], laidByText := true, laidKinds := [.data, .data, .data], laidTests := true, laidLooks := .later }
def AllUptoCardSaid : Prop := Claim7.holds Tryz.pinned (.plain (OpenSpec.upto allSpec)) allUptoCard

/-- THE SECOND FORM's CARD OF 'tariffkeep.Known'. -/
def knownUptoCard : Claim7 := { stood := { row := knownUptoRow, standIns := [], harness := (true, "4bb910f8b211fc3f52fadaf3a48d27228be4d267f6b45b29dfc476a73dcbb49f"), looks := false }, kinds := [], alts := [], laidByText := true, laidKinds := [.data, .data, .data], laidTests := true, laidLooks := .later }
def KnownUptoCardSaid : Prop := Claim7.holds Tryz.pinned (.plain (OpenSpec.upto knownSpec)) knownUptoCard
end Rows
end Go.Proofs.YtdgmoiflahoihaaGreatDoor
