import Derived.Test.YtdgmoiflahoihaaRows
import Derived.Test.YtdgmoiflahoihaaVL
import Derived.Test.YtdgmoiflahoihaaLO
import Derived.WalkKit
import Derived.ProofKit
import Derived.OpenShut
import Derived.ShutString
import Derived.ChangeOld
import Derived.Below
import Derived.SizedLaws
import Derived.Deep.Slices

namespace Go.Proofs.Ytdgmoiflahoihaa
open Go.ChangeShapes Go.WideShapes Go.ChangeAt Go.RowKit
open Go.Deep (open_slice choose_lt)
set_option linter.unusedVariables false
theorem bytesIns : Try.prog.bytesOf 70 = 32 := by kernel_rfl
theorem cellsIns : Try.prog.cellsOf 70 = 4 := by kernel_rfl
def IcOk (x : Ic) : Prop := (-9223372036854775808 ≤ x.op ∧ x.op ≤ 9223372036854775807) ∧ (-9223372036854775808 ≤ x.a ∧ x.a ≤ 9223372036854775807) ∧ (-9223372036854775808 ≤ x.b ∧ x.b ≤ 9223372036854775807) ∧ (-9223372036854775808 ≤ x.c ∧ x.c ≤ 9223372036854775807)
set_option maxRecDepth 100000 in
theorem open_ins {H : Type} {enc : TypeId × Value → H} {W : World} {fuel : Nat} {a0 : Option Addr} {len cap : Nat} {d : DataW H} {ps : List MemPlace}
  (h : DataW.trod enc Try.prog W 0 (fun _ => true) true fuel 29 [.slice a0 len cap] = some (d, ps)) :
  ∃ (l : List Ic) (g o : Nat), l.length = len ∧ InsCells W a0 g o l ∧ (∀ x ∈ l, IcOk x) ∧ (len = 0 ∨ ∃ els sps, d = .slice els sps ∧ els.length + sps.length = cap ∧ len ≤ cap) := by
 rcases open_slice Try.underlying29 h with ⟨hcs, hx⟩ | ⟨a, len', cap', m, n, D, Pl, hcs, _, hl, hm, hmm, hx, hcell⟩
 ·simp only [List.cons.injEq, Value.slice.injEq, and_true] at hcs
  obtain ⟨rfl, rfl, rfl⟩ := hcs
  exact ⟨[], 0, 0, rfl, fun i hi => absurd hi (by simp), by simp, .inl rfl⟩
 ·simp only [List.cons.injEq, Value.slice.injEq, and_true] at hcs
  obtain ⟨rfl, rfl, rfl⟩ := hcs
  simp only [if_true] at hmm
  subst hmm
  simp only [Prod.mk.injEq] at hx
  obtain ⟨rfl, rfl⟩ := hx
  rw [cellsIns] at hcell
  have each : ∀ i, i < len → ∃ q : Ic, W.cell? (a.add (i * 4)) = some (.int .i64 q.op) ∧ W.cell? (a.add (i * 4 + 1)) = some (.int .i64 q.a) ∧ W.cell? (a.add (i * 4 + 2)) = some (.int .i64 q.b) ∧ W.cell? (a.add (i * 4 + 3)) = some (.int .i64 q.c) ∧ IcOk q := by
   intro i hi
   obtain ⟨cs', h1, h2⟩ := hcell i (by omega)
   obtain ⟨_, hlen, hc⟩ := World.cells?_some h1
   obtain ⟨xs, k, hk, hxy, _, hxl, hf⟩ := DataW.trod_struct Try.underlying70 h2
   match cs', hlen with
   | [v0, v1, v2, v3], _ =>
    have g0 := hf 0 _ rfl
    have g1 := hf 1 _ rfl
    have g2 := hf 2 _ rfl
    have g3 := hf 3 _ rfl
    simp [cellsInt] at g0 g1 g2 g3
    simp at hxl
    match xs, hxl with
    | [y0, y1, y2, y3], _ =>
     obtain ⟨n0, e0, _, w0⟩ := DataW.trod_int Try.underlying3 g0
     obtain ⟨n1, e1, _, w1⟩ := DataW.trod_int Try.underlying3 g1
     obtain ⟨n2, e2, _, w2⟩ := DataW.trod_int Try.underlying3 g2
     obtain ⟨n3, e3, _, w3⟩ := DataW.trod_int Try.underlying3 g3
     simp only [List.cons.injEq, and_true] at e0 e1 e2 e3
     subst e0 e1 e2 e3
     have c0 := hc 0 (by omega)
     have c1 := hc 1 (by omega)
     have c2 := hc 2 (by omega)
     have c3 := hc 3 (by omega)
     rw [Go.Deep.add_add] at c0 c1 c2 c3
     exact ⟨⟨n0, n1, n2, n3⟩, by simpa using c0, by simpa using c1, by simpa using c2, by simpa using c3, wf_int w0, wf_int w1, wf_int w2, wf_int w3⟩
  have inh : Inhabited Ic := ⟨⟨0, 0, 0, 0⟩⟩
  obtain ⟨q, hq⟩ := choose_lt each
  by_cases hz : len = 0
  ·subst hz
   exact ⟨[], 0, 0, rfl, fun i hi => absurd hi (by simp), by simp, .inl rfl⟩
  obtain ⟨b, off, spot⟩ := a
  have hspot : spot = none := by simpa [Addr.add] using World.cell?_spot (hq 0 (by omega)).1
  subst hspot
  refine ⟨(List.range len).map q, b, off, by simp, ?_, ?_, .inr ⟨_, _, rfl, by simp; omega, hl⟩⟩
  ·intro i hi
   simp at hi
   obtain ⟨c0, c1, c2, c3, _⟩ := hq i hi
   rw [add_plain] at c0 c1 c2 c3
   have hbW : b < W.heap.size := World.block_lt_of_cell? W _ c0
   simp only [List.getElem_map, List.getElem_range]
   refine ⟨trivial, hbW, c0, ?_, ?_, ?_⟩
   ·rw [Nat.add_assoc]; exact c1
   ·rw [Nat.add_assoc]; exact c2
   ·rw [Nat.add_assoc]; exact c3
  ·intro x hx
   simp at hx
   obtain ⟨i, hi, rfl⟩ := hx
   exact (hq i hi).2.2.2.2
theorem valids_own : ownKnob Try.prog.godebug = none := by kernel_rfl
set_option maxRecDepth 100000 in
theorem valids_lifted (os : Os) (started : os.Started) (H : Type) (enc : TypeId × Value → H) :
  ReturnsInHanded {} Try.checked os 5 .any (Rows.validsSpec.pre6 enc Try.prog Try.f5 Rows.validsRow.domain false) (Rows.validsSpec.post enc Try.prog Try.f5 false true false false) := by
 refine returnsInHanded_of_change_sized (C := Try.checked) valids_own started (by kernel_rfl) Try.func5
  (ChangeSpec.witness6 (enc := enc) (C := Try.checked) false ⟨#[], #[.slice none 0 0], []⟩ 8 (by kernel_rfl) (by kernel_rfl) (by kernel_rfl) (by kernel_rfl)) ?_
 intro W base args ds gs before hval0 hW hcnd hsz0 _
 have hval : ∀ (j : Nat) t v, Try.f5.params[j]? = some t → args[j]? = some v → Value.okWide Try.prog W .any base t v := hval0
 have hsz : (DataW.weightsEach Try.prog (Try.f5.params.toList ++ Rows.validsSpec.plain.varTypes Try.prog) (ds ++ gs)).all (· ≤ reachBytes) = true := hsz0
 have hW' := hW
 obtain ⟨p, q, hA0, hV, rfl, hfz, hnd⟩ := hW
 have hA : DataW.TrodAll enc Try.prog W 0 (fun _ => true) true Try.f5.params.toList args.toList ds p := hA0
 rw [Try.params5] at hA hval hsz
 obtain ⟨v0, vs0, d0, ds0, p0, q0, hargs, rfl, rfl, h0, r0⟩ := trodAll_cons hA
 obtain ⟨rfl, rfl, rfl⟩ := trodAll_nil r0
 obtain rfl : args = #[v0] := by cases args; simp_all
 obtain ⟨rfl, rfl⟩ := trodVars_none hV
 obtain ⟨a0, len, cap, rfl⟩ := okWide_slice Try.underlying29 (hval 0 29 v0 rfl rfl)
 have h0k := h0
 obtain ⟨fuel, hf⟩ := h0
 clear hA0 hval0 hsz0
 simp only [List.append_nil] at hW'
 have hlt : ∀ x ∈ p0, x.block < W.heap.size := fun x hx => by simpa using hW'.lt x hx
 have hargs2 : ∀ (W' : World), Below W.heap.size W W' → DataW.Trod enc Try.prog W' 0 (fun b => decide (b < W.heap.size)) true 29 (.slice a0 len cap) d0 p0 :=
  fun W' hn => Below.trod valids_laid (by kernel_rfl) (of_decide_eq_true (by kernel_rfl)) h0k hn hlt
 simp only [Value.cells] at hf
 obtain ⟨l, g, o, hll, hI, _, hbig⟩ := open_ins hf
 have hn : 32 * (l.length + 2) ≤ 281474976710656 := by
  rcases hbig with h | ⟨els, sps, rfl, hes, hlc⟩
  ·rw [hll, h]; decide
  ·have k := sized_slice hsz (j := 0) (t := 29) (e := 70) rfl rfl Try.underlying29
   rw [bytesIns, hes] at k
   simp only [reachBytes] at k
   rw [hll]
   omega
 rw [← hll] at hargs2 ⊢
 refine (valids_walk l a0 g o cap W hI hn).mono fun e W' ⟨he, bel⟩ => ?_
 subst he
 rw [hll] at hargs2 ⊢
 exact ⟨_, rfl, _, _, _, [], _, [], hW', trodAll_mk1 (shut_bool Try.underlying4 _), trodAll_cons_mk (hargs2 W' bel) trodAll_mk0, rfl, bel.frame _, fun h => by cases h⟩
theorem valids_over : Rows.validsRow.holds Try.pinned (OpenSpec.ofChange Rows.validsSpec) :=
 OpenClaim.holds_of_wide 5 Try.f5 rfl rfl rfl rfl rfl rfl rfl ⟨rfl, rfl, rfl, rfl, rfl⟩ rfl rfl rfl rfl rfl (by kernel_rfl) Try.func5 (by kernel_rfl)
  (of_decide_eq_true (by kernel_rfl)) (by unfold Func.isWrapper; first | (rw [if_pos (by decide +kernel)]; kernel_rfl) | (rw [if_neg (by decide +kernel)]; exact ⟨rfl, rfl⟩))
  (fun os started H enc _ => valids_lifted os started H enc)
theorem valids_holds : Rows.ValidsSaid := valids_over
#print axioms valids_holds
end Go.Proofs.Ytdgmoiflahoihaa
