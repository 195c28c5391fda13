import Derived.Test.YtdgmoiflahoihaaGreatDoorRows
import Derived.WalkKit
import Derived.WalkSpells
import Derived.WalkLawsBesides
import Derived.Deep.Cut
import Derived.Deep.CutRange
import Derived.RegionTactic
import Derived.Below
import Derived.ProofKit

namespace Go.Proofs.YtdgmoiflahoihaaGreatDoor
structure Ic where
 op : Int
 a : Int
 b : Int
 c : Int
def bel (a n : Int) : Bool := decide (0 ≤ a) && decide (a < n)
end Go.Proofs.YtdgmoiflahoihaaGreatDoor
namespace Go.Proofs.YtdgmoiflahoihaaGreatDoor
open Go.RowKit
set_option linter.unusedSimpArgs false
set_option linter.unusedVariables false
def InsCells (w : World) (ao : Option Addr) (g o : Nat) (l : List Ic) : Prop := ∀ i, ∀ hi : i < l.length, ao = some ⟨g, o, none⟩ ∧ g < w.heap.size ∧
 w.cell? ⟨g, o + i * 4, none⟩ = some (.int .i64 l[i].op) ∧ w.cell? ⟨g, o + i * 4 + 1, none⟩ = some (.int .i64 l[i].a) ∧ w.cell? ⟨g, o + i * 4 + 2, none⟩ = some (.int .i64 l[i].b) ∧ w.cell? ⟨g, o + i * 4 + 3, none⟩ = some (.int .i64 l[i].c)
theorem InsCells.below {w w' : World} {ao : Option Addr} {g o : Nat} {l : List Ic} (h : InsCells w ao g o l) (hb : Below w.heap.size w w') : InsCells w' ao g o l := by
 intro i hi
 obtain ⟨e, hg, c0, c1, c2, c3⟩ := h i hi
 exact ⟨e, Nat.lt_of_lt_of_le hg hb.size, (hb.cell (p := ⟨g, _, none⟩) hg).trans c0, (hb.cell (p := ⟨g, _, none⟩) hg).trans c1, (hb.cell (p := ⟨g, _, none⟩) hg).trans c2, (hb.cell (p := ⟨g, _, none⟩) hg).trans c3⟩
end Go.Proofs.YtdgmoiflahoihaaGreatDoor
