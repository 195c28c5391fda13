import Derived.Test.YtdgmoiflahoihaaRows
import Derived.WalkKit
import Derived.ProofKit
import Derived.Below
import Derived.Lib.SmallJoins
import Derived.Lib.OwnKind
import Derived.Laws.Rows
import Derived.Laws.Tables

namespace Go.Proofs.Ytdgmoiflahoihaa
open Go.RowKit
set_option linter.unusedSimpArgs false
set_option linter.unusedVariables false
def NumCells (w : World) (ao : Option Addr) (g o : Nat) (l : List Int) : Prop := ∀ i, ∀ hi : i < l.length, ao = some ⟨g, o, none⟩ ∧ g < w.heap.size ∧ w.cell? ⟨g, o + i, none⟩ = some (.int .i64 l[i])
theorem NumCells.block {w w' : World} {ao : Option Addr} {g o : Nat} {l : List Int} (h : NumCells w ao g o l) (hs : w.heap.size ≤ w'.heap.size) (e : w'.heap[g]? = w.heap[g]?) : NumCells w' ao g o l := by
 intro i hi
 obtain ⟨a, b, c⟩ := h i hi
 exact ⟨a, by omega, (World.cell?_of_block (a := ⟨g, _, none⟩) e).trans c⟩
theorem NumCells.below {w w' : World} {ao : Option Addr} {g o : Nat} {l : List Int} (h : NumCells w ao g o l) (hb : Below w.heap.size w w') : NumCells w' ao g o l := by
 intro i hi
 obtain ⟨a, b, c⟩ := h i hi
 exact ⟨a, Nat.lt_of_lt_of_le b hb.size, (hb.cell (p := ⟨g, _, none⟩) b).trans c⟩
def numRow (l : List Int) : List Value := l.map (Value.int .i64)
theorem numRow_length (l : List Int) : (numRow l).length = l.length := by simp [numRow]
theorem numRow_one (l : List Int) : ∀ v ∈ numRow l, v.oneCell' = true := by
 intro v h
 simp [numRow] at h
 obtain ⟨a, _, rfl⟩ := h
 rfl
theorem infoInt3 : (Try.prog.info? 3).map (fun i => (i.zero, i.size, i.bytes)) = some (some (.int .i64 0), 1, 8) := by kernel_rfl
theorem infoInt1 : (Try.prog.info? 3).map (·.size) = some 1 := by kernel_rfl
theorem num_of_row {w : World} {g : Nat} {l : List Int} {t : TypeId} {r : List Value} (h : w.heap[g]? = some (.cells (numRow l ++ r).toArray t (0, 0))) : NumCells w (some ⟨g, 0, none⟩) g 0 l := by
 have hl := numRow_length l
 intro i hi
 refine ⟨rfl, (Array.getElem?_eq_some_iff.mp h).1, ?_⟩
 rw [cell_of_row _ _ _ _ _ _ h, Nat.zero_add]
 simp only [List.getElem?_toArray]
 rw [List.getElem?_append_left (by omega)]
 simp [numRow, List.getElem?_eq_getElem hi]
def FsOk (fs : List Int) : Prop := ∀ x ∈ fs, -9223372036854775808 ≤ x ∧ x ≤ 9223372036854775807
end Go.Proofs.Ytdgmoiflahoihaa
