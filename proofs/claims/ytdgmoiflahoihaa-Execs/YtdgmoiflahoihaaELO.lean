import Derived.Test.YtdgmoiflahoihaaRows
import Derived.Test.YtdgmoiflahoihaaELNm
import Derived.WalkKit
import Derived.ProofKit
import Derived.OpenShut
import Derived.ChangeOld
import Derived.Below
import Derived.SizedLaws
import Derived.Deep.Slices

namespace Go.Proofs.Ytdgmoiflahoihaa
open Go.ChangeShapes Go.WideShapes Go.ChangeAt Go.RowKit
set_option linter.unusedVariables false
theorem cellsInt : Try.prog.cellsOf 3 = 1 := by kernel_rfl
theorem wf_int {a : Int} (h : (Lit.int .i64 a).wf = true) : -9223372036854775808 ≤ a ∧ a ≤ 9223372036854775807 := by
 simp only [Lit.wf, IntKind.min, IntKind.max, IntKind.signed, IntKind.bits, Bool.and_eq_true, decide_eq_true_eq, if_true] at h
 exact ⟨by omega, by omega⟩
theorem valids_laid : laidOutB Try.prog = true := by kernel_rfl
theorem bytesInt : Try.prog.bytesOf 3 = 8 := by kernel_rfl
theorem open_nums {H : Type} {enc : TypeId × Value → H} {W : World} {fuel : Nat} {a0 : Option Addr} {len cap : Nat} {d : DataW H} {ps : List MemPlace}
  (h : DataW.trod enc Try.prog W 0 (fun _ => true) true fuel 34 [.slice a0 len cap] = some (d, ps)) :
  ∃ (l : List Int) (g o : Nat), l.length = len ∧ NumCells W a0 g o l ∧ FsOk l ∧ (len = 0 ∨ ∃ els sps, d = .slice els sps ∧ els.length + sps.length = cap ∧ len ≤ cap) := by
 rcases Go.Deep.open_slice1 Try.underlying34 cellsInt h with ⟨hcs, hx⟩ | ⟨a, len', cap', m, n, V, D, Pl, hcs, _, hl, hm, hmm, hx, hcell⟩
 ·simp only [List.cons.injEq, Value.slice.injEq, and_true] at hcs
  obtain ⟨rfl, rfl, rfl⟩ := hcs
  exact ⟨[], 0, 0, rfl, fun i hi => absurd hi (by simp), by simp [FsOk], .inl rfl⟩
 ·simp only [List.cons.injEq, Value.slice.injEq, and_true] at hcs
  obtain ⟨rfl, rfl, rfl⟩ := hcs
  simp only [if_true] at hmm
  subst hmm
  simp only [Prod.mk.injEq] at hx
  obtain ⟨rfl, rfl⟩ := hx
  have each : ∀ i, i < len → ∃ q : Int, W.cell? (a.add i) = some (.int .i64 q) ∧ (-9223372036854775808 ≤ q ∧ q ≤ 9223372036854775807) := by
   intro i hi
   obtain ⟨h1, h2⟩ := hcell i (by omega)
   obtain ⟨n0, e0, _, w0⟩ := DataW.trod_int Try.underlying3 h2
   simp only [List.cons.injEq, and_true] at e0
   rw [e0] at h1
   exact ⟨n0, h1, wf_int w0⟩
  obtain ⟨q, hq⟩ := Go.Deep.choose_lt each
  by_cases hz : len = 0
  ·subst hz
   exact ⟨[], 0, 0, rfl, fun i hi => absurd hi (by simp), by simp [FsOk], .inl rfl⟩
  obtain ⟨b, off, spot⟩ := a
  have hspot : spot = none := by simpa [Addr.add] using World.cell?_spot (hq 0 (by omega)).1
  subst hspot
  refine ⟨(List.range len).map q, b, off, by simp, ?_, ?_, .inr ⟨_, _, rfl, by simp; omega, hl⟩⟩
  ·intro i hi
   simp at hi
   obtain ⟨c0, _⟩ := hq i hi
   rw [add_plain] at c0
   have hbW : b < W.heap.size := World.block_lt_of_cell? W _ c0
   simp only [List.getElem_map, List.getElem_range]
   exact ⟨trivial, hbW, c0⟩
  ·intro x hx
   simp at hx
   obtain ⟨i, hi, rfl⟩ := hx
   exact (hq i hi).2
end Go.Proofs.Ytdgmoiflahoihaa
