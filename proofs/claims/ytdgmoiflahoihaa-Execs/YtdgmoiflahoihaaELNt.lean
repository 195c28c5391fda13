import Derived.Test.YtdgmoiflahoihaaEB

namespace Go.Proofs.Ytdgmoiflahoihaa
open Go.RowKit
set_option linter.unusedSimpArgs false
set_option linter.unusedVariables false
def NoteCells (w : World) (ao : Option Addr) (g : Nat) (l : List Nt) : Prop := ∀ i, ∀ hi : i < l.length, ao = some ⟨g, 0, none⟩ ∧ g < w.heap.size ∧
 w.cell? ⟨g, i * 5, none⟩ = some (.int .i64 l[i].kind) ∧ w.cell? ⟨g, i * 5 + 1, none⟩ = some (.int .i64 l[i].place) ∧ w.cell? ⟨g, i * 5 + 2, none⟩ = some (.int .i64 l[i].label) ∧ w.cell? ⟨g, i * 5 + 3, none⟩ = some (.int .i64 l[i].val.num) ∧ w.cell? ⟨g, i * 5 + 4, none⟩ = some (.int .i64 l[i].val.fault)
theorem NoteCells.below {w w' : World} {ao : Option Addr} {g : Nat} {l : List Nt} (h : NoteCells w ao g l) (hb : Below w.heap.size w w') : NoteCells w' ao g l := by
 intro i hi
 obtain ⟨e, hg, c0, c1, c2, c3, c4⟩ := h i hi
 exact ⟨e, Nat.lt_of_lt_of_le hg hb.size, (hb.cell (p := ⟨g, _, none⟩) hg).trans c0, (hb.cell (p := ⟨g, _, none⟩) hg).trans c1, (hb.cell (p := ⟨g, _, none⟩) hg).trans c2, (hb.cell (p := ⟨g, _, none⟩) hg).trans c3, (hb.cell (p := ⟨g, _, none⟩) hg).trans c4⟩
theorem ntCells_at (l : List Nt) : ∀ (i : Nat) (h : i < l.length), (ntCells l)[i * 5]? = some (.int .i64 l[i].kind) ∧ (ntCells l)[i * 5 + 1]? = some (.int .i64 l[i].place) ∧ (ntCells l)[i * 5 + 2]? = some (.int .i64 l[i].label) ∧ (ntCells l)[i * 5 + 3]? = some (.int .i64 l[i].val.num) ∧ (ntCells l)[i * 5 + 4]? = some (.int .i64 l[i].val.fault) := by
 induction l with
 | nil => intro i h; cases h
 | cons p r ih =>
  intro i h
  cases i with
  | zero => simp [ntCells, ntCell]
  | succ i =>
   have k := ih i (by simpa using h)
   rw [show (i + 1) * 5 = i * 5 + 5 by omega]
   simpa [ntCells, ntCell] using k
theorem notes_form {w : World} {base : Nat} {v : Value} {l : List Nt} (h : w.ownsRow base 88 5 v l.length (ntCells l)) : ∃ ao g cap, v = .slice ao l.length cap ∧ NoteCells w ao g l := by
 rcases h.2 with ⟨rfl, h0⟩ | ⟨g, cap, cur, rfl, hb, hg, hc, hm, hcs, ht⟩
 ·exact ⟨none, 0, 0, by rw [h0], fun i hi => absurd hi (by omega)⟩
 ·have hln := ntCells_len l
  refine ⟨some ⟨g, 0, none⟩, g, cap, rfl, fun i hi => ⟨rfl, (h.lt g rfl).2, ?_, ?_, ?_, ?_, ?_⟩⟩
  ·rw [h.cellAt (i * 5) (by omega)]; exact (ntCells_at l i hi).1
  ·rw [h.cellAt (i * 5 + 1) (by omega)]; exact (ntCells_at l i hi).2.1
  ·rw [h.cellAt (i * 5 + 2) (by omega)]; exact (ntCells_at l i hi).2.2.1
  ·rw [h.cellAt (i * 5 + 3) (by omega)]; exact (ntCells_at l i hi).2.2.2.1
  ·rw [h.cellAt (i * 5 + 4) (by omega)]; exact (ntCells_at l i hi).2.2.2.2
end Go.Proofs.Ytdgmoiflahoihaa
