import Derived.Test.YtdgmoiflahoihabRows
import Derived.Test.YtdgmoiflahoihabCPL1x
import Derived.Test.YtdgmoiflahoihabCPL2x
import Derived.Test.YtdgmoiflahoihabCPL3x
import Derived.Test.YtdgmoiflahoihabCPL4x
import Derived.WalkKit
import Derived.ProofKit
import Derived.OpenShut
import Derived.ShutString
import Derived.ChangeOld
import Derived.Below

namespace Go.Proofs.Ytdgmoiflahoihab
open Go.ChangeShapes Go.WideShapes Go.ChangeAt Go.RowKit
set_option linter.unusedVariables false
theorem copies_walk (c d n : Int) (v : Value) (zs : List Int) (w : World) (hc : -9223372036854775808 ≤ c ∧ c ≤ 9223372036854775807) (hd : -9223372036854775808 ≤ d ∧ d ≤ 9223372036854775807) (hn : -9223372036854775808 ≤ n ∧ n ≤ 9223372036854775807) (hv : ArgInts w v zs) (hz : zs.length ≤ maxLen) (hzr : ∀ x ∈ zs, -9223372036854775808 ≤ x ∧ x ≤ 9223372036854775807) :
  Calls Try.prog 3 #[.int .i64 c, .int .i64 d, .int .i64 n, v] w fun e w' => e = .returned (.bool true) ∧ Below w.heap.size w w' := by
 have hp := pickN_lt n (n := 4) (by decide)
 rcases (show pickN n 4 = 0 ∨ pickN n 4 = 1 ∨ pickN n 4 = 2 ∨ pickN n 4 = 3 by omega) with h | h | h | h
 ·exact copies_1 c d n v zs w hc hd hn h hv hz hzr
 ·exact copies_2 c d n v zs w hc hd hn h hv hz hzr
 ·exact copies_3 c d n v zs w hc hd hn h hv hz hzr
 ·exact copies_4 c d n v zs w hc hd hn h hv hz hzr
theorem copies_own : ownKnob Try.prog.godebug = none := by kernel_rfl
theorem copies_laid : laidOutB Try.prog = true := by kernel_rfl
theorem copies_cells : Try.prog.cellsOf 3 = 1 := by kernel_rfl
theorem wf_i64 {a : Int} (h : (Lit.int .i64 a).wf = true) : -9223372036854775808 ≤ a ∧ a ≤ 9223372036854775807 := by
 simp only [Lit.wf, IntKind.min, IntKind.max, IntKind.signed, IntKind.bits, Bool.and_eq_true, decide_eq_true_eq, if_true] at h
 exact ⟨by omega, by omega⟩
set_option maxRecDepth 100000 in
theorem copies_lifted (os : Os) (started : os.Started) (H : Type) (enc : TypeId × Value → H) :
  ReturnsInHanded {} Try.checked os 3 .any (Rows.copiesSpec.pre6 enc Try.prog Try.f3 Rows.copiesRow.domain false) (Rows.copiesSpec.post enc Try.prog Try.f3 false true false false) := by
 refine returnsInHanded_of_change (C := Try.checked) copies_own started (by kernel_rfl) Try.func3
  (ChangeSpec.witness6 (enc := enc) (C := Try.checked) false ⟨#[], #[.int .i64 0, .int .i64 0, .int .i64 0, .slice none 0 0], []⟩ 8 (by kernel_rfl) (by kernel_rfl) (by kernel_rfl) (by kernel_rfl)) ?_
 intro W base args ds gs before hval0 hW hcnd _
 have hval : ∀ (j : Nat) t v, Try.f3.params[j]? = some t → args[j]? = some v → Value.okWide Try.prog W .any base t v := hval0
 have hW' := hW
 obtain ⟨p, q, hA0, hV, rfl, hfz, hnd⟩ := hW
 have hA : DataW.TrodAll enc Try.prog W 0 (fun _ => true) true Try.f3.params.toList args.toList ds p := hA0
 rw [Try.params3] at hA hval
 obtain ⟨v0, vs0, d0, ds0, p0, q0, hargs, rfl, rfl, h0, r0⟩ := trodAll_cons hA
 obtain ⟨v1, vs1, d1, ds1, p1, q1, rfl, rfl, rfl, h1, r1⟩ := trodAll_cons r0
 obtain ⟨v2, vs2, d2, ds2, p2, q2, rfl, rfl, rfl, h2, r2⟩ := trodAll_cons r1
 obtain ⟨v3, vs3, d3, ds3, p3, q3, rfl, rfl, rfl, h3, r3⟩ := trodAll_cons r2
 obtain ⟨rfl, rfl, rfl⟩ := trodAll_nil r3
 obtain rfl : args = #[v0, v1, v2, v3] := by cases args; simp_all
 obtain ⟨rfl, rfl⟩ := trodVars_none hV
 obtain ⟨a0, rfl, rfl, rfl, w0⟩ := open_int Try.underlying3 (hval 0 3 v0 rfl rfl) h0
 obtain ⟨a1, rfl, rfl, rfl, w1⟩ := open_int Try.underlying3 (hval 1 3 v1 rfl rfl) h1
 obtain ⟨a2, rfl, rfl, rfl, w2⟩ := open_int Try.underlying3 (hval 2 3 v2 rfl rfl) h2
 obtain ⟨a3, len, cap, rfl⟩ := okWide_slice Try.underlying22 (hval 3 22 v3 rfl rfl)
 have h3k := h3
 obtain ⟨fuel, hf⟩ := h3
 clear hA0 hval0
 simp only [List.append_nil, List.nil_append] at hW'
 have hlt : ∀ x ∈ p3, x.block < W.heap.size := fun x hx => by simpa using hW'.lt x hx
 have hargs2 : ∀ (W' : World), Below W.heap.size W W' → DataW.Trod enc Try.prog W' 0 (fun b => decide (b < W.heap.size)) true 22 (.slice a3 len cap) d3 p3 :=
  fun W' hn => Below.trod copies_laid (by kernel_rfl) (of_decide_eq_true (by kernel_rfl)) h3k hn hlt
 have hAI : ∃ zs : List Int, ArgInts W (.slice a3 len cap) zs ∧ zs.length ≤ maxLen ∧ ∀ x ∈ zs, -9223372036854775808 ≤ x ∧ x ≤ 9223372036854775807 := by
  rcases open_ints Try.underlying22 Try.underlying3 copies_cells hf with ⟨hcs, hx⟩ | ⟨a, len', cap', zs, hcs, _, hl, hm, hz, hx, hcell, hwz⟩
  ·simp [Value.cells] at hcs
   obtain ⟨rfl, rfl, rfl⟩ := hcs
   exact ⟨[], ⟨⟨none, 0, rfl, fun i hi => absurd hi (by simp)⟩⟩, by unfold maxLen; simp, by simp⟩
  ·simp [Value.cells] at hcs
   obtain ⟨rfl, rfl, rfl⟩ := hcs
   simp only [Prod.mk.injEq] at hx
   obtain ⟨rfl, rfl⟩ := hx
   simp only [if_true] at hz
   have htl : (zs.take len).length = len := by rw [List.length_take]; omega
   refine ⟨zs.take len, ⟨⟨some a, cap, by rw [htl], fun i hi => ?_⟩⟩, by rw [htl]; omega, fun x hx => wf_i64 (hwz x (List.mem_of_mem_take hx))⟩
   rw [htl] at hi
   obtain ⟨b, off, spot⟩ := a
   have hci := hcell i (by omega)
   have hspot : spot = none := by simpa [Addr.add] using World.cell?_spot (hcell 0 (by omega))
   subst hspot
   rw [add_plain] at hci
   have hbW : b < W.heap.size := World.block_lt_of_cell? W _ hci
   refine ⟨b, off, rfl, hbW, ?_⟩
   have e : zs.getD i 0 = (zs.take len)[i]'(by rw [htl]; exact hi) := by
    rw [List.getElem_take, List.getD_eq_getElem?_getD, List.getElem?_eq_getElem (by omega)]
    rfl
   rw [← e]
   exact hci
 obtain ⟨zs, hAI, hzl, hzr⟩ := hAI
 refine (copies_walk a0 a1 a2 _ zs W (wf_i64 w0) (wf_i64 w1) (wf_i64 w2) hAI hzl hzr).mono fun e W' ⟨he, bel⟩ => ?_
 subst he
 exact ⟨_, rfl, _, _, _, [], _, [], hW', trodAll_mk1 (shut_bool Try.underlying4 _), trodAll_cons_mk (shut_int Try.underlying3 w0) (trodAll_cons_mk (shut_int Try.underlying3 w1) (trodAll_cons_mk (shut_int Try.underlying3 w2) (trodAll_cons_mk (hargs2 W' bel) trodAll_mk0))), rfl, bel.frame _, fun h => by cases h⟩
theorem copies_over : Rows.copiesRow.holds Try.pinned (OpenSpec.ofChange Rows.copiesSpec) :=
 OpenClaim.holds_of_wide 3 Try.f3 rfl rfl rfl rfl rfl rfl rfl ⟨rfl, rfl, rfl, rfl, rfl⟩ rfl rfl rfl rfl rfl (by kernel_rfl) Try.func3 (by kernel_rfl)
  (of_decide_eq_true (by kernel_rfl)) (by unfold Func.isWrapper; first | (rw [if_pos (by decide +kernel)]; kernel_rfl) | (rw [if_neg (by decide +kernel)]; exact ⟨rfl, rfl⟩))
  (fun os started H enc _ => copies_lifted os started H enc)
theorem copies_holds : Rows.CopiesSaid := copies_over
#print axioms copies_holds
end Go.Proofs.Ytdgmoiflahoihab
