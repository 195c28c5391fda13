import Derived.Test.YtdgmoiflahoihabGreatRows
import Derived.Test.YtdgmoiflahoihabGreatXPw
import Derived.WalkKit
import Derived.ProofKit
import Derived.OpenShut
import Derived.ChangeOld
import Derived.Below
import Derived.SizedLaws
import Derived.Deep.Slices
import Derived.Test.YtdgmoiflahoihabGreatTLw
import Derived.ShutString
import Derived.JoinedCond

namespace Go.Proofs.YtdgmoiflahoihabGreat
open Go.ChangeShapes Go.WideShapes Go.ChangeAt Go.RowKit
set_option linter.unusedVariables false
theorem cellsInt : Tryz.prog.cellsOf 3 = 1 := by kernel_rfl
theorem wf_int {a : Int} (h : (Lit.int .i64 a).wf = true) : -9223372036854775808 ≤ a ∧ a ≤ 9223372036854775807 := by
 simp only [Lit.wf, IntKind.min, IntKind.max, IntKind.signed, IntKind.bits, Bool.and_eq_true, decide_eq_true_eq, if_true] at h
 exact ⟨by omega, by omega⟩
theorem valids_laid : laidOutB Tryz.prog = true := by kernel_rfl
theorem open_nums {H : Type} {enc : TypeId × Value → H} {W : World} {fuel : Nat} {a0 : Option Addr} {len cap : Nat} {d : DataW H} {ps : List MemPlace}
  (h : DataW.trod enc Tryz.prog W 0 (fun _ => true) true fuel 22 [.slice a0 len cap] = some (d, ps)) :
  ∃ (l : List Int) (g o : Nat), l.length = len ∧ NumCells W a0 g o l ∧ FsOk l ∧ (len = 0 ∨ ∃ els sps, d = .slice els sps ∧ els.length + sps.length = cap ∧ len ≤ cap) := by
 rcases Go.Deep.open_slice1 Tryz.underlying22 cellsInt h with ⟨hcs, hx⟩ | ⟨a, len', cap', m, n, V, D, Pl, hcs, _, hl, hm, hmm, hx, hcell⟩
 ·simp only [List.cons.injEq, Value.slice.injEq, and_true] at hcs
  obtain ⟨rfl, rfl, rfl⟩ := hcs
  exact ⟨[], 0, 0, rfl, fun i hi => absurd hi (by simp), by simp [FsOk], .inl rfl⟩
 ·simp only [List.cons.injEq, Value.slice.injEq, and_true] at hcs
  obtain ⟨rfl, rfl, rfl⟩ := hcs
  simp only [if_true] at hmm
  subst hmm
  simp only [Prod.mk.injEq] at hx
  obtain ⟨rfl, rfl⟩ := hx
  have each : ∀ i, i < len → ∃ q : Int, W.cell? (a.add i) = some (.int .i64 q) ∧ (-9223372036854775808 ≤ q ∧ q ≤ 9223372036854775807) := by
   intro i hi
   obtain ⟨h1, h2⟩ := hcell i (by omega)
   obtain ⟨n0, e0, _, w0⟩ := DataW.trod_int Tryz.underlying3 h2
   simp only [List.cons.injEq, and_true] at e0
   rw [e0] at h1
   exact ⟨n0, h1, wf_int w0⟩
  obtain ⟨q, hq⟩ := Go.Deep.choose_lt each
  by_cases hz : len = 0
  ·subst hz
   exact ⟨[], 0, 0, rfl, fun i hi => absurd hi (by simp), by simp [FsOk], .inl rfl⟩
  obtain ⟨b, off, spot⟩ := a
  have hspot : spot = none := by simpa [Addr.add] using World.cell?_spot (hq 0 (by omega)).1
  subst hspot
  refine ⟨(List.range len).map q, b, off, by simp, ?_, ?_, .inr ⟨_, _, rfl, by simp; omega, hl⟩⟩
  ·intro i hi
   simp at hi
   obtain ⟨c0, _⟩ := hq i hi
   rw [add_plain] at c0
   have hbW : b < W.heap.size := World.block_lt_of_cell? W _ c0
   simp only [List.getElem_map, List.getElem_range]
   exact ⟨trivial, hbW, c0⟩
  ·intro x hx
   simp at hx
   obtain ⟨i, hi, rfl⟩ := hx
   exact (hq i hi).2
end Go.Proofs.YtdgmoiflahoihabGreat
namespace Go.Proofs.YtdgmoiflahoihabGreat
open Go.ChangeShapes Go.WideShapes Go.ChangeAt Go.RowKit
open Go.ChangeMaps (open_string shut_string)
set_option linter.unusedVariables false
theorem through_own : ownKnob Tryz.prog.godebug = none := by kernel_rfl
theorem bulk_pos {H : Type} (d : DataW H) : 1 ≤ Rows.uptoBulk d := by
 unfold Rows.uptoBulk
 split <;> omega
theorem bulk_len {H : Type} : ∀ (l : List (DataW H)), l.length ≤ Rows.uptoBulkAll l
 | [] => by simp [Rows.uptoBulkAll]
 | d :: r => by
  have := bulk_len r
  have := bulk_pos d
  simp only [Rows.uptoBulkAll, List.length_cons]
  omega
theorem bulk_three {H : Type} {s : ByteArray} {d1 d2 : DataW H} (hk : Rows.uptoSmall H [.lit (.string s.data.toList), d1, d2] = true) : s.size ≤ 1048576 ∧ Rows.uptoBulk d2 ≤ 1048576 := by
 have h : Rows.uptoBulkAll [DataW.lit (H := H) (.string s.data.toList), d1, d2] ≤ 1048576 := of_decide_eq_true hk
 simp only [Rows.uptoBulkAll] at h
 have e : s.data.toList.length = s.size := by rw [Array.length_toList]; rfl
 have e2 : Rows.uptoBulk (DataW.lit (H := H) (.string s.data.toList)) = s.data.toList.length + 1 := by simp only [Rows.uptoBulk]
 omega
set_option maxRecDepth 100000 in
theorem through_contract (H : Type) (enc : TypeId × Value → H) (W : World) (base : Nat) (args : Array Value) (ds gs : List (DataW H)) (before : List MemPlace)
  (hval0 : ∀ (j : Nat) t v, Tryz.f3.params[j]? = some t → args[j]? = some v → Value.okWide Tryz.prog W .any base t v)
  (hW : DataW.Whole enc Tryz.prog Tryz.f3.params.toList Rows.throughSpec.vars false W args.toList ds gs before) (hk : Rows.uptoSmall H (ds ++ gs) = true) :
  Calls Tryz.prog 3 args W fun e W' => ∃ v, e = .returned v ∧ Rows.throughSpec.post enc Tryz.prog Tryz.f3 false true false false W args v W' := by
 have hval : ∀ (j : Nat) t v, Tryz.f3.params[j]? = some t → args[j]? = some v → Value.okWide Tryz.prog W .any base t v := hval0
 have hW' := hW
 obtain ⟨p, q, hA0, hV, rfl, hfz, hnd⟩ := hW
 have hA : DataW.TrodAll enc Tryz.prog W 0 (fun _ => true) true Tryz.f3.params.toList args.toList ds p := hA0
 rw [Tryz.params3] at hA hval
 obtain ⟨v0, vs0, d0, ds0, p0, q0, hargs, rfl, rfl, h0, r0⟩ := trodAll_cons hA
 obtain ⟨v1, vs1, d1, ds1, p1, q1, rfl, rfl, rfl, h1, r1⟩ := trodAll_cons r0
 obtain ⟨v2, vs2, d2, ds2, p2, q2, rfl, rfl, rfl, h2, r2⟩ := trodAll_cons r1
 obtain ⟨rfl, rfl, rfl⟩ := trodAll_nil r2
 obtain rfl : args = #[v0, v1, v2] := by cases args; simp_all
 obtain ⟨rfl, rfl⟩ := trodVars_none hV
 obtain ⟨a0, rfl, rfl, rfl, w0⟩ := open_string Tryz.underlying9 (hval 0 9 v0 rfl rfl) h0
 obtain ⟨a1, rfl, rfl, rfl, w1⟩ := open_int Tryz.underlying3 (hval 1 3 v1 rfl rfl) h1
 obtain ⟨a2, len2, cap2, rfl⟩ := okWide_slice Tryz.underlying22 (hval 2 22 v2 rfl rfl)
 have h2k := h2
 obtain ⟨fuel2, hf2⟩ := h2
 clear hA0 hval0
 simp only [List.append_nil, List.nil_append] at hW' hk
 obtain ⟨hs, hd2⟩ := bulk_three hk
 have hlt2 : ∀ x ∈ p2, x.block < W.heap.size := fun x hx => by simpa using hW'.lt x (by simp [hx])
 have hargs3 : ∀ (W' : World), Below W.heap.size W W' → DataW.Trod enc Tryz.prog W' 0 (fun b => decide (b < W.heap.size)) true 22 (.slice a2 len2 cap2) d2 p2 :=
  fun W' hn => Below.trod valids_laid (by kernel_rfl) (of_decide_eq_true (by kernel_rfl)) h2k hn hlt2
 simp only [Value.cells] at hf2
 obtain ⟨fs, gf, of, hfl, hN, hFo, hbig⟩ := open_nums hf2
 have hz : fs.length ≤ 9223372036854775807 := by
  rcases hbig with h | ⟨els, sps, rfl, hes, hlc⟩
  ·omega
  ·have k1 := bulk_len els
   have k2 := bulk_len sps
   simp only [Rows.uptoBulk] at hd2
   omega
 have hw := through_law a0 a1 fs a2 gf of cap2 W (by omega) (wf_int w1) hN hz hFo
 rw [hfl] at hw
 refine hw.mono fun e W' ⟨he, bel⟩ => ?_
 subst he
 exact ⟨_, rfl, _, _, _, [], _, [], hW', trodAll_mk1 (shut_bool Tryz.underlying4 _), trodAll_cons_mk (shut_string Tryz.underlying9 w0) (trodAll_cons_mk (shut_int Tryz.underlying3 w1) (trodAll_cons_mk (hargs3 W' bel) trodAll_mk0)), rfl, bel.frame _, fun h => by cases h⟩
set_option maxRecDepth 100000 in
theorem through_lifted (os : Os) (started : os.Started) (H : Type) (enc : TypeId × Value → H) (F : Stop.Interp) :
  ReturnsInHanded {} Tryz.checked os 3 .any ((Rows.OpenSpec.upto Rows.throughSpec).pre6 enc Tryz.prog Tryz.f3 Rows.throughUptoRow.domain false) (((Rows.OpenSpec.upto Rows.throughSpec).at F).post enc Tryz.prog Tryz.f3 false true false false) := by
 refine returnsInHanded_of_cond (C := Tryz.checked) (s := Rows.OpenSpec.upto Rows.throughSpec) (k := Rows.uptoSmall) rfl through_own started (by kernel_rfl) Tryz.func3
  (OpenSpec.witness (enc := enc) (C := Tryz.checked) (s := Rows.OpenSpec.upto Rows.throughSpec) (k := Rows.uptoSmall) rfl false ⟨#[], #[.string ByteArray.empty, .int .i64 0, .slice none 0 0], []⟩ 8 (by kernel_rfl) (by kernel_rfl) (by kernel_rfl)
   (x := ([.lit (.string []), .lit (.int .i64 0), .nil], [], [])) (by kernel_rfl) rfl (by kernel_rfl)) ?_
 intro W base args ds gs before hval hW _ hk _
 exact through_contract H enc W base args ds gs before hval hW hk
theorem through_over : Rows.throughUptoRow.holds Tryz.pinned (Rows.OpenSpec.upto Rows.throughSpec) :=
 OpenClaim.holds_of_cond 3 Tryz.f3 rfl rfl rfl rfl rfl rfl rfl ⟨rfl, rfl, rfl, rfl, rfl⟩ rfl rfl rfl rfl rfl (by kernel_rfl) Tryz.func3 (by kernel_rfl)
  (of_decide_eq_true (by kernel_rfl)) (by unfold Func.isWrapper; first | (rw [if_pos (by decide +kernel)]; kernel_rfl) | (rw [if_neg (by decide +kernel)]; exact ⟨rfl, rfl⟩))
  (fun os started H enc _ F => through_lifted os started H enc F)
theorem through_holds : Rows.ThroughUptoSaid := through_over
#print axioms through_holds
end Go.Proofs.YtdgmoiflahoihabGreat
