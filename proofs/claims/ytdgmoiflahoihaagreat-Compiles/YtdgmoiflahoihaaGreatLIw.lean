import Derived.Test.YtdgmoiflahoihaaGreatVAw
import Derived.Laws.MakeOwn
import Derived.Laws.CopyRow
import Derived.Laws.CopyOwn
import Derived.Test.YtdgmoiflahoihaaGreatXTw

namespace Go.Proofs.YtdgmoiflahoihaaGreat
open Go.RowKit
open Go.WideShapes (add_plain)
set_option linter.unusedSimpArgs false
set_option linter.unusedVariables false
def numRow (l : List Int) : List Value := l.map (Value.int .i64)
theorem infoInt3 : (Tryz.prog.info? 3).map (fun i => (i.zero, i.size, i.bytes)) = some (some (.int .i64 0), 1, 8) := by kernel_rfl
def NoteCells (w : World) (ao : Option Addr) (g : Nat) (l : List Nt) : Prop := ∀ i, ∀ hi : i < l.length, ao = some ⟨g, 0, none⟩ ∧ g < w.heap.size ∧
 w.cell? ⟨g, i * 5, none⟩ = some (.int .i64 l[i].kind) ∧ w.cell? ⟨g, i * 5 + 1, none⟩ = some (.int .i64 l[i].place) ∧ w.cell? ⟨g, i * 5 + 2, none⟩ = some (.int .i64 l[i].label) ∧ w.cell? ⟨g, i * 5 + 3, none⟩ = some (.int .i64 l[i].val.num) ∧ w.cell? ⟨g, i * 5 + 4, none⟩ = some (.int .i64 l[i].val.fault)
theorem NoteCells.below {w w' : World} {ao : Option Addr} {g : Nat} {l : List Nt} (h : NoteCells w ao g l) (hb : Below w.heap.size w w') : NoteCells w' ao g l := by
 intro i hi
 obtain ⟨e, hg, c0, c1, c2, c3, c4⟩ := h i hi
 exact ⟨e, Nat.lt_of_lt_of_le hg hb.size, (hb.cell (p := ⟨g, _, none⟩) hg).trans c0, (hb.cell (p := ⟨g, _, none⟩) hg).trans c1, (hb.cell (p := ⟨g, _, none⟩) hg).trans c2, (hb.cell (p := ⟨g, _, none⟩) hg).trans c3, (hb.cell (p := ⟨g, _, none⟩) hg).trans c4⟩
theorem ntCells_at (l : List Nt) : ∀ (i : Nat) (h : i < l.length), (ntCells l)[i * 5]? = some (.int .i64 l[i].kind) ∧ (ntCells l)[i * 5 + 1]? = some (.int .i64 l[i].place) ∧ (ntCells l)[i * 5 + 2]? = some (.int .i64 l[i].label) ∧ (ntCells l)[i * 5 + 3]? = some (.int .i64 l[i].val.num) ∧ (ntCells l)[i * 5 + 4]? = some (.int .i64 l[i].val.fault) := by
 induction l with
 | nil => intro i h; cases h
 | cons p r ih =>
  intro i h
  cases i with
  | zero => simp [ntCells, ntCell]
  | succ i =>
   have k := ih i (by simpa using h)
   rw [show (i + 1) * 5 = i * 5 + 5 by omega]
   simpa [ntCells, ntCell] using k
theorem notes_form {w : World} {base : Nat} {v : Value} {l : List Nt} (h : w.ownsRow base 57 5 v l.length (ntCells l)) : ∃ ao g cap, v = .slice ao l.length cap ∧ NoteCells w ao g l := by
 rcases h.2 with ⟨rfl, h0⟩ | ⟨g, cap, cur, rfl, hb, hg, hc, hm, hcs, ht⟩
 ·exact ⟨none, 0, 0, by rw [h0], fun i hi => absurd hi (by omega)⟩
 ·have hln := ntCells_len l
  refine ⟨some ⟨g, 0, none⟩, g, cap, rfl, fun i hi => ⟨rfl, (h.lt g rfl).2, ?_, ?_, ?_, ?_, ?_⟩⟩
  ·rw [h.cellAt (i * 5) (by omega)]; exact (ntCells_at l i hi).1
  ·rw [h.cellAt (i * 5 + 1) (by omega)]; exact (ntCells_at l i hi).2.1
  ·rw [h.cellAt (i * 5 + 2) (by omega)]; exact (ntCells_at l i hi).2.2.1
  ·rw [h.cellAt (i * 5 + 3) (by omega)]; exact (ntCells_at l i hi).2.2.2.1
  ·rw [h.cellAt (i * 5 + 4) (by omega)]; exact (ntCells_at l i hi).2.2.2.2
set_option maxRecDepth 100000 in
set_option maxHeartbeats 2000000 in
theorem sameNotes_any (l : List Nt) (ao bo : Option Addr) (g cap g2 cap2 : Nat) (w : World) (hc : NoteCells w ao g l) (hd : NoteCells w bo g2 l) (hn : l.length ≤ 1000000) :
  Calls Tryz.prog 11 #[.slice ao l.length cap, .slice bo l.length cap2] w fun e w' => e = .returned (.bool true) ∧ Below w.heap.size w w' := by
 have HC : Hid (NoteCells w ao g l) := hc
 have HD : Hid (NoteCells w bo g2 l) := hd
 clear hc hd
 have t0 : ((l.length : Int) != (l.length : Int)) = false := by simp
 go_enter Tryz.func11, Tryz.ntmps11
 go_wp2_with fail
 go_loopw [5] (fun x w' => ∃ k : Nat, x = .int .i64 k ∧ k ≤ l.length ∧ Hid (Below w.heap.size w w')) (fun x _ => l.length - (intOf x).toNat)
 case atStart => exact ⟨0, rfl, by omega, Below.refl _ _⟩
 case round =>
  obtain ⟨k, rfl, hk, HB⟩ := hrel
  by_cases hlt : k < l.length
  ·have tk : decide ((k : Int) < (l.length : Int)) = true := by simp; omega
   obtain ⟨ea, hg, c0, c1, c2, c3, c4⟩ := HC.out.below HB.out k hlt
   obtain ⟨eb, hg2, d0, d1, d2, d3, d4⟩ := HD.out.below HB.out k hlt
   clear HC HD
   subst ea eb
   generalize l[k] = p at *
   obtain ⟨p0, p1, p2, ⟨p3, p4⟩⟩ := p
   simp only at c0 c1 c2 c3 c4 d0 d1 d2 d3 d4
   go_upto_region 6 with fail
   go_region
   all_goals go_wp2_with fail
   all_goals go_roundw
   case rel => exact ⟨k + 1, by go_num, by omega, HB.out.drew⟩
   case measure => simp [intOf]; omega
  ·have tk : decide ((k : Int) < (l.length : Int)) = false := by simp; omega
   go_wp2_with fail
   go_ret
   exact ⟨rfl, HB.out⟩
end Go.Proofs.YtdgmoiflahoihaaGreat
