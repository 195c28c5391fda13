/-
  DERIVED. GIVEN WITH THE SEED: THE CARDS: each row of YtdgmoiflahoihaaDoorRows.lean that lists a variable, with what it lists TIED to the program's text (the seventh form; the later family's looks); each row that meets fmt, with fmt's text TOLD by the authors' own Lean function (tested against real Go, not proved from fmt's source: count such statements apart). THE CARD IS WHAT COUNTS. Prove the row's statement (the work); the ties are given (YtdgmoiflahoihaaDoorTie.lean); close each card by the builder's one call (the guide's Derived/Test/ToyasCard.lean, 'card_holds'). Laid BY PROGRAM, IN A SANDBOX (cutbox-door.mjs). By AI agents, Wed Nov 11 2026. No macro, syntax, notation, axiom, sorry.
-/
import Derived.Test.YtdgmoiflahoihaaDoorRows
import GoSem.ClaimSeven
namespace Go.Proofs.YtdgmoiflahoihaaDoor
namespace Rows

/-- THE TIED CARD OF 'tariffkeep.Priced'. -/
def pricedCard : Claim7 := { stood := { row := pricedRow, standIns := [], harness := (true, "66c697c0e2fc64317edf1842057a74921c3daf2c75053a30da62dd704dba5d5d"), looks := false }, kinds := [], alts := [], laidByText := true, laidKinds := [.data, .data, .data], laidTests := true, laidLooks := .later }
def PricedCardSaid : Prop := Claim7.holds Tryd.pinned (.plain (OpenSpec.ofChange pricedSpec)) pricedCard

/-- THE SECOND FORM's CARD OF 'tariffkeep.Priced'. -/
def pricedUptoCard : Claim7 := { stood := { row := pricedUptoRow, standIns := [], harness := (true, "66c697c0e2fc64317edf1842057a74921c3daf2c75053a30da62dd704dba5d5d"), looks := false }, kinds := [], alts := [], laidByText := true, laidKinds := [.data, .data, .data], laidTests := true, laidLooks := .later }
def PricedUptoCardSaid : Prop := Claim7.holds Tryd.pinned (.plain (OpenSpec.upto pricedSpec)) pricedUptoCard
end Rows
end Go.Proofs.YtdgmoiflahoihaaDoor
