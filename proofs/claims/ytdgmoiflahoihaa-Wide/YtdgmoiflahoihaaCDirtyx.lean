import Derived.Test.YtdgmoiflahoihaaCReadx
import Derived.Laws.Rows

namespace Go.Proofs.Ytdgmoiflahoihaa
open Go.RowKit
set_option linter.unusedSimpArgs false
set_option linter.unusedVariables false
def BoxAt (w : World) (B : Nat) (of : List Nat) : Prop := w.heap[B]? = some (.cells (arrV of) 26 (0, 0))
theorem BoxAt.lt {w : World} {B : Nat} {of : List Nat} (h : BoxAt w B of) : B < w.heap.size := by
 unfold BoxAt at h
 exact (Array.getElem?_eq_some_iff.mp h).1
theorem BoxAt.below {w w' : World} {B : Nat} {of : List Nat} (h : BoxAt w B of) (hb : Below w.heap.size w w') : BoxAt w' B of := by
 have := hb.block B h.lt
 unfold BoxAt at *
 rw [this, h]
theorem BoxAt.new (w : World) (of : List Nat) : BoxAt (w.alloc (.cells (arrV of) 26)) w.heap.size of := by
 unfold BoxAt
 show (w.heap.push _)[w.heap.size]? = _
 simp
theorem BoxAt.cell {w : World} {B : Nat} {of : List Nat} (h : BoxAt w B of) (k : Nat) (hk : k < of.length) : w.cell? ⟨B, k, none⟩ = some (.int .i64 (of.getD k 0 : Nat)) := by
 rw [cell_of_row w B k _ _ _ h]
 simp [arrV, natV, hk]
theorem infoArr : (Try.prog.info? 26).map (fun i => i.size) = some 26 := by kernel_rfl
theorem getD_lt {of : List Nat} (h : ∀ x ∈ of, x < 16) (k : Nat) : of.getD k 0 < 16 := by
 rw [List.getD_eq_getElem?_getD]
 cases e : of[k]? with
 | none => simp
 | some x => exact h x (List.mem_of_getElem? e)
end Go.Proofs.Ytdgmoiflahoihaa
