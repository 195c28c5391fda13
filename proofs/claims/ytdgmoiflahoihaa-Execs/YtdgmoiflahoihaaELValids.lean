import Derived.Test.YtdgmoiflahoihaaRows
import Derived.Test.YtdgmoiflahoihaaEVL
import Derived.Test.YtdgmoiflahoihaaELO
import Derived.WalkKit
import Derived.ProofKit
import Derived.OpenShut
import Derived.ShutString
import Derived.ChangeOld
import Derived.Below
import Derived.SizedLaws
import Derived.Deep.Slices

namespace Go.Proofs.Ytdgmoiflahoihaa
open Go.ChangeShapes Go.WideShapes Go.ChangeAt Go.RowKit
open Go.Deep (open_slice choose_lt)
set_option linter.unusedVariables false
theorem bytesIns : Try.prog.bytesOf 70 = 32 := by kernel_rfl
theorem cellsIns : Try.prog.cellsOf 70 = 4 := by kernel_rfl
def IcOk (x : Ic) : Prop := (-9223372036854775808 ≤ x.op ∧ x.op ≤ 9223372036854775807) ∧ (-9223372036854775808 ≤ x.a ∧ x.a ≤ 9223372036854775807) ∧ (-9223372036854775808 ≤ x.b ∧ x.b ≤ 9223372036854775807) ∧ (-9223372036854775808 ≤ x.c ∧ x.c ≤ 9223372036854775807)
set_option maxRecDepth 100000 in
theorem open_ins {H : Type} {enc : TypeId × Value → H} {W : World} {fuel : Nat} {a0 : Option Addr} {len cap : Nat} {d : DataW H} {ps : List MemPlace}
  (h : DataW.trod enc Try.prog W 0 (fun _ => true) true fuel 29 [.slice a0 len cap] = some (d, ps)) :
  ∃ (l : List Ic) (g o : Nat), l.length = len ∧ InsCells W a0 g o l ∧ (∀ x ∈ l, IcOk x) ∧ (len = 0 ∨ ∃ els sps, d = .slice els sps ∧ els.length + sps.length = cap ∧ len ≤ cap) := by
 rcases open_slice Try.underlying29 h with ⟨hcs, hx⟩ | ⟨a, len', cap', m, n, D, Pl, hcs, _, hl, hm, hmm, hx, hcell⟩
 ·simp only [List.cons.injEq, Value.slice.injEq, and_true] at hcs
  obtain ⟨rfl, rfl, rfl⟩ := hcs
  exact ⟨[], 0, 0, rfl, fun i hi => absurd hi (by simp), by simp, .inl rfl⟩
 ·simp only [List.cons.injEq, Value.slice.injEq, and_true] at hcs
  obtain ⟨rfl, rfl, rfl⟩ := hcs
  simp only [if_true] at hmm
  subst hmm
  simp only [Prod.mk.injEq] at hx
  obtain ⟨rfl, rfl⟩ := hx
  rw [cellsIns] at hcell
  have each : ∀ i, i < len → ∃ q : Ic, W.cell? (a.add (i * 4)) = some (.int .i64 q.op) ∧ W.cell? (a.add (i * 4 + 1)) = some (.int .i64 q.a) ∧ W.cell? (a.add (i * 4 + 2)) = some (.int .i64 q.b) ∧ W.cell? (a.add (i * 4 + 3)) = some (.int .i64 q.c) ∧ IcOk q := by
   intro i hi
   obtain ⟨cs', h1, h2⟩ := hcell i (by omega)
   obtain ⟨_, hlen, hc⟩ := World.cells?_some h1
   obtain ⟨xs, k, hk, hxy, _, hxl, hf⟩ := DataW.trod_struct Try.underlying70 h2
   match cs', hlen with
   | [v0, v1, v2, v3], _ =>
    have g0 := hf 0 _ rfl
    have g1 := hf 1 _ rfl
    have g2 := hf 2 _ rfl
    have g3 := hf 3 _ rfl
    simp [cellsInt] at g0 g1 g2 g3
    simp at hxl
    match xs, hxl with
    | [y0, y1, y2, y3], _ =>
     obtain ⟨n0, e0, _, w0⟩ := DataW.trod_int Try.underlying3 g0
     obtain ⟨n1, e1, _, w1⟩ := DataW.trod_int Try.underlying3 g1
     obtain ⟨n2, e2, _, w2⟩ := DataW.trod_int Try.underlying3 g2
     obtain ⟨n3, e3, _, w3⟩ := DataW.trod_int Try.underlying3 g3
     simp only [List.cons.injEq, and_true] at e0 e1 e2 e3
     subst e0 e1 e2 e3
     have c0 := hc 0 (by omega)
     have c1 := hc 1 (by omega)
     have c2 := hc 2 (by omega)
     have c3 := hc 3 (by omega)
     rw [Go.Deep.add_add] at c0 c1 c2 c3
     exact ⟨⟨n0, n1, n2, n3⟩, by simpa using c0, by simpa using c1, by simpa using c2, by simpa using c3, wf_int w0, wf_int w1, wf_int w2, wf_int w3⟩
  have inh : Inhabited Ic := ⟨⟨0, 0, 0, 0⟩⟩
  obtain ⟨q, hq⟩ := choose_lt each
  by_cases hz : len = 0
  ·subst hz
   exact ⟨[], 0, 0, rfl, fun i hi => absurd hi (by simp), by simp, .inl rfl⟩
  obtain ⟨b, off, spot⟩ := a
  have hspot : spot = none := by simpa [Addr.add] using World.cell?_spot (hq 0 (by omega)).1
  subst hspot
  refine ⟨(List.range len).map q, b, off, by simp, ?_, ?_, .inr ⟨_, _, rfl, by simp; omega, hl⟩⟩
  ·intro i hi
   simp at hi
   obtain ⟨c0, c1, c2, c3, _⟩ := hq i hi
   rw [add_plain] at c0 c1 c2 c3
   have hbW : b < W.heap.size := World.block_lt_of_cell? W _ c0
   simp only [List.getElem_map, List.getElem_range]
   refine ⟨trivial, hbW, c0, ?_, ?_, ?_⟩
   ·rw [Nat.add_assoc]; exact c1
   ·rw [Nat.add_assoc]; exact c2
   ·rw [Nat.add_assoc]; exact c3
  ·intro x hx
   simp at hx
   obtain ⟨i, hi, rfl⟩ := hx
   exact (hq i hi).2.2.2.2
end Go.Proofs.Ytdgmoiflahoihaa
