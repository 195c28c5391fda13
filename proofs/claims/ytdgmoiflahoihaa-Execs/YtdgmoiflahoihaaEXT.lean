import Derived.Test.YtdgmoiflahoihaaEXN
import Derived.Test.YtdgmoiflahoihaaEROp2
import Derived.Deep.RegionWith

namespace Go.Proofs.Ytdgmoiflahoihaa
open Go.RowKit
set_option linter.unusedSimpArgs false
set_option linter.unusedVariables false
structure RegsAt (w : World) (g : Nat) (l : List Vl) : Prop where
 here : w.heap[g]? = some (.cells (vlArr l) 45 (0, 0))
theorem RegsAt.lt {w : World} {g : Nat} {l : List Vl} (h : RegsAt w g l) : g < w.heap.size := (Array.getElem?_eq_some_iff.mp h.here).1
theorem RegsAt.block {w w' : World} {g : Nat} {l : List Vl} (h : RegsAt w g l) (e : w'.heap[g]? = w.heap[g]?) : RegsAt w' g l := ⟨e.trans h.here⟩
theorem RegsAt.cell {w : World} {b : Nat} {l : List Vl} (h : RegsAt w b l) (i : Nat) (hi : i < l.length) : w.cell? ⟨b, i * 2, none⟩ = some (.int .i64 (l.getD i vl0).num) ∧ w.cell? ⟨b, i * 2 + 1, none⟩ = some (.int .i64 (l.getD i vl0).fault) := by
 obtain ⟨d0, d1⟩ := vlCells_at l i hi
 have e : l.getD i vl0 = l[i] := by rw [List.getD_eq_getElem?_getD, List.getElem?_eq_getElem hi]; rfl
 rw [e]
 constructor
 ·rw [cell_of_row _ _ _ _ _ _ h.here]; simpa [vlArr] using d0
 ·rw [cell_of_row _ _ _ _ _ _ h.here]; simpa [vlArr] using d1
theorem RegsAt.fz {w : World} {g : Nat} {l : List Vl} (h : RegsAt w g l) (o : Nat) : w.frozen? ⟨g, o, none⟩ = false := by simp [World.frozen?, h.here]
theorem vlCells_set : ∀ (l : List Vl) (i : Nat) (x : Vl), i < l.length → ((vlCells l).set (i * 2) (.int .i64 x.num)).set (i * 2 + 1) (.int .i64 x.fault) = vlCells (l.set i x)
 | [], i, x, h => absurd h (by simp)
 | v :: r, 0, x, _ => by simp [vlCells, vlCell]
 | v :: r, i + 1, x, h => by
  have ih := vlCells_set r i x (by simpa using h)
  have e : vlCells (v :: r) = .int .i64 v.num :: .int .i64 v.fault :: vlCells r := by simp [vlCells, vlCell]
  rw [e, show (i + 1) * 2 = i * 2 + 1 + 1 by omega, show i * 2 + 1 + 1 + 1 = (i * 2 + 1) + 1 + 1 by omega]
  simp only [List.set_cons_succ]
  rw [ih]
  simp [vlCells, vlCell]
theorem RegsAt.set {w : World} {g : Nat} {l : List Vl} (h : RegsAt w g l) (i : Nat) (hi : i < l.length) (x : Vl) : RegsAt ((w.setCell ⟨g, i * 2, none⟩ (.int .i64 x.num)).setCell ⟨g, i * 2 + 1, none⟩ (.int .i64 x.fault)) g (l.set i x) := by
 have e1 : (w.setCell ⟨g, i * 2, none⟩ (.int .i64 x.num)).heap[g]? = some (.cells ((vlCells l).set (i * 2) (.int .i64 x.num)).toArray 45 (0, 0)) := by
  rw [setCell_eq_setRow w g _ _ _ _ _ h.here, setRow_heap w g _ _ _ _ h.here]
  simp [vlArr]
 have e2 : ((w.setCell ⟨g, i * 2, none⟩ (.int .i64 x.num)).setCell ⟨g, i * 2 + 1, none⟩ (.int .i64 x.fault)).heap[g]? = some (.cells (((vlCells l).set (i * 2) (.int .i64 x.num)).set (i * 2 + 1) (.int .i64 x.fault)).toArray 45 (0, 0)) := by
  rw [setCell_eq_setRow _ g _ _ _ _ _ e1, setRow_heap _ g _ _ _ _ e1]
  simp
 refine ⟨?_⟩
 rw [e2, vlCells_set l i x hi]
 rfl
def TurnPost (w : World) (g : Nat) (s : XS) (e : Ending) (w' : World) : Prop := e = .returned (.int .i64 (s.pc : Nat)) ∧ RegsAt w' g s.regs ∧ But g w w'
theorem but_alloc {g : Nat} {w : World} (o : Obj) : But g w (w.alloc o) := World.grownBy_alloc w o (some g)
set_option maxRecDepth 100000 in
set_option maxHeartbeats 1000000 in
theorem t_jump (g : Nat) (s : XS) (w : World) (hR : RegsAt w g s.regs) (hO : XOk s) (hpc : s.pc ≤ 2000) (fs : List Int) (af : Option Addr) (gf of capf : Nat) (a : Nat) (b c : Int) :
  Calls Try.prog 65 #[icV ⟨12, a, b, c⟩, .int .i64 s.pc, .slice (some ⟨g, 0, none⟩) 100 100, .slice af fs.length capf] w (TurnPost w g (stepX ⟨12, a, b, c⟩ fs s)) := by
 have HE : Hid (stepX ⟨12, a, b, c⟩ fs s = ⟨s.regs, s.notes, a⟩) := by show _ = _; unfold stepX; simp
 rw [HE.out]
 have HR : Hid (RegsAt w g s.regs) := hR
 have hlt := hR.lt
 clear hR
 go_enter Try.func65, Try.ntmps65
 go_wp2_with fail
 go_ret
 exact ⟨rfl, HR.out.block (Below.heap_alloc _ _ _ hlt), but_alloc _⟩
end Go.Proofs.Ytdgmoiflahoihaa
