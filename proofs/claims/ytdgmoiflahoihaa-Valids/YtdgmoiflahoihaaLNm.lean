import Derived.Test.YtdgmoiflahoihaaRows
import Derived.WalkKit
import Derived.ProofKit
import Derived.Below
import Derived.Lib.SmallJoins
import Derived.Lib.OwnKind
import Derived.Laws.Rows
import Derived.Laws.Tables

namespace Go.Proofs.Ytdgmoiflahoihaa
open Go.RowKit
set_option linter.unusedSimpArgs false
set_option linter.unusedVariables false
def NumCells (w : World) (ao : Option Addr) (g o : Nat) (l : List Int) : Prop := ∀ i, ∀ hi : i < l.length, ao = some ⟨g, o, none⟩ ∧ g < w.heap.size ∧ w.cell? ⟨g, o + i, none⟩ = some (.int .i64 l[i])
theorem NumCells.block {w w' : World} {ao : Option Addr} {g o : Nat} {l : List Int} (h : NumCells w ao g o l) (hs : w.heap.size ≤ w'.heap.size) (e : w'.heap[g]? = w.heap[g]?) : NumCells w' ao g o l := by
 intro i hi
 obtain ⟨a, b, c⟩ := h i hi
 exact ⟨a, by omega, (World.cell?_of_block (a := ⟨g, _, none⟩) e).trans c⟩
theorem NumCells.below {w w' : World} {ao : Option Addr} {g o : Nat} {l : List Int} (h : NumCells w ao g o l) (hb : Below w.heap.size w w') : NumCells w' ao g o l := by
 intro i hi
 obtain ⟨a, b, c⟩ := h i hi
 exact ⟨a, Nat.lt_of_lt_of_le b hb.size, (hb.cell (p := ⟨g, _, none⟩) b).trans c⟩
end Go.Proofs.Ytdgmoiflahoihaa
