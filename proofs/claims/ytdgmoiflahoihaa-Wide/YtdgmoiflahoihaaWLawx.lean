import Derived.Test.YtdgmoiflahoihaaRows
import Derived.Test.YtdgmoiflahoihaaWOpsx
import Derived.WalkKit
import Derived.ProofKit
import Derived.OpenShut
import Derived.ShutString
import Derived.ChangeOld
import Derived.Below

namespace Go.Proofs.Ytdgmoiflahoihaa
open Go.ChangeShapes Go.WideShapes Go.ChangeAt Go.RowKit
set_option linter.unusedSimpArgs false
set_option linter.unusedVariables false
structure VarAt (w : World) (g : Nat) (v : Vl) : Prop where
 c0 : w.cell? ⟨g, 0, none⟩ = some (.int .i64 v.num)
 c1 : w.cell? ⟨g, 1, none⟩ = some (.int .i64 v.fault)
 fz : ∀ o, w.frozen? ⟨g, o, none⟩ = false
theorem VarAt.of_block {w w' : World} {g : Nat} {v : Vl} (h : VarAt w g v) (e : w'.heap[g]? = w.heap[g]?) : VarAt w' g v :=
 ⟨(World.cell?_of_block (w := w) (a := ⟨g, 0, none⟩) e).trans h.c0, (World.cell?_of_block (w := w) (a := ⟨g, 1, none⟩) e).trans h.c1, fun o => (World.frozen?_of_block (w := w) (a := ⟨g, o, none⟩) e).trans (h.fz o)⟩
theorem VarAt.lt {w : World} {g : Nat} {v : Vl} (h : VarAt w g v) : g < w.heap.size := World.block_lt_of_cell? w _ h.c0
theorem VarAt.new (w : World) (v : Vl) (t : TypeId) : VarAt (w.alloc (.cells #[.int .i64 v.num, .int .i64 v.fault] t)) w.heap.size v := by
 refine ⟨?_, ?_, fun o => ?_⟩ <;> simp [go_sem]
theorem VarAt.set {w : World} {g : Nat} {v : Vl} (h : VarAt w g v) (u : Vl) : VarAt ((w.setCell ⟨g, 0, none⟩ (.int .i64 u.num)).setCell ⟨g, 1, none⟩ (.int .i64 u.fault)) g u := by
 obtain ⟨c0, c1, fz⟩ := h
 refine ⟨?_, ?_, fun o => ?_⟩ <;> simp [go_sem, c0, c1, fz]
structure Stand (w W : World) (g : Nat) (v : Vl) : Prop where
 var : VarAt W g v
 below : Below w.heap.size w W
 le : w.heap.size ≤ g
theorem Stand.step {w W W' : World} {g : Nat} {v : Vl} (h : Stand w W g v) (hb : Below W.heap.size W W') : Stand w W' g v :=
 ⟨h.var.of_block (hb.block _ h.var.lt), h.below.trans (hb.mono h.below.size), h.le⟩
theorem Stand.set {w W : World} {g : Nat} {v : Vl} (h : Stand w W g v) (u : Vl) : Stand w ((W.setCell ⟨g, 0, none⟩ (.int .i64 u.num)).setCell ⟨g, 1, none⟩ (.int .i64 u.fault)) g u :=
 ⟨h.var.set u, (h.below.setCell h.le _).setCell h.le _, h.le⟩
theorem Stand.new {w W : World} (h : Below w.heap.size w W) (v : Vl) (t : TypeId) : Stand w (W.alloc (.cells #[.int .i64 v.num, .int .i64 v.fault] t)) W.heap.size v :=
 ⟨VarAt.new W v t, h.alloc h.size _, h.size⟩
theorem run_minus (x y : Int) : runP (oneText [45, 120]) [x, y] = (0, [⟨0, 10, 0, vlOf (-x)⟩]) := by
 rw [run_neg, show (0 : Int) - x = -x by omega]
theorem run_less1 (x y : Int) (h : x < y) : runP (oneText [120, 60, 121]) [x, y] = (0, [⟨0, 10, 0, ⟨1, 0⟩⟩]) := by rw [run_less, if_pos h]
theorem run_less0 (x y : Int) (h : ¬ x < y) : runP (oneText [120, 60, 121]) [x, y] = (0, [⟨0, 10, 0, ⟨0, 0⟩⟩]) := by rw [run_less, if_neg h]
theorem run_same1 (x y : Int) (h : x = y) : runP (oneText [120, 61, 121]) [x, y] = (0, [⟨0, 10, 0, ⟨1, 0⟩⟩]) := by rw [run_same, if_pos h]
theorem run_same0 (x y : Int) (h : ¬ x = y) : runP (oneText [120, 61, 121]) [x, y] = (0, [⟨0, 10, 0, ⟨0, 0⟩⟩]) := by rw [run_same, if_neg h]
theorem run_quo0 (x y : Int) (h : y = 0) : runP (oneText [120, 47, 121]) [x, y] = (0, [⟨0, 10, 0, ⟨0, 2⟩⟩]) := by rw [run_quo, h]; rfl
theorem run_left0 (x y : Int) (h : y = 0) : runP (oneText [120, 37, 121]) [x, y] = (0, [⟨0, 10, 0, ⟨0, 2⟩⟩]) := by rw [run_left, h]; rfl
theorem run_quo1 (x y : Int) (h : x = -9223372036854775808) (k : y = -1) : runP (oneText [120, 47, 121]) [x, y] = (0, [⟨0, 10, 0, ⟨0, 1⟩⟩]) := by
 have e : divV x y = ⟨0, 1⟩ := by
  subst h k
  unfold divV
  rw [if_neg (by decide)]
  exact vlOf_not (by decide)
 rw [run_quo, e]
theorem run_left1 (x y : Int) (h : x = -9223372036854775808) (k : y = -1) : runP (oneText [120, 37, 121]) [x, y] = (0, [⟨0, 10, 0, ⟨0, 0⟩⟩]) := by
 have e : remV x y = ⟨0, 0⟩ := by
  subst h k
  unfold remV
  rw [if_neg (by decide)]
  simp
 rw [run_left, e]
theorem run_quo2 (x y : Int) (hx : In64 x) (hy : In64 y) (h : y ≠ 0) (k : ¬ (x = -9223372036854775808 ∧ y = -1)) : runP (oneText [120, 47, 121]) [x, y] = (0, [⟨0, 10, 0, ⟨x.tdiv y, 0⟩⟩]) := by
 have e : divV x y = ⟨x.tdiv y, 0⟩ := by
  unfold divV
  rw [if_neg h]
  exact vlOf_fits (div_facts hx hy h k).iq
 rw [run_quo, e]
theorem run_left2 (x y : Int) (h : y ≠ 0) : runP (oneText [120, 37, 121]) [x, y] = (0, [⟨0, 10, 0, ⟨x.tmod y, 0⟩⟩]) := by
 have e : remV x y = ⟨x.tmod y, 0⟩ := by unfold remV; rw [if_neg h]
 rw [run_left, e]
end Go.Proofs.Ytdgmoiflahoihaa
