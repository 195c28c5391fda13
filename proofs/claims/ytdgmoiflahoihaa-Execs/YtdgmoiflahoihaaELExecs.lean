import Derived.Test.YtdgmoiflahoihaaRows
import Derived.Test.YtdgmoiflahoihaaEXL
import Derived.Test.YtdgmoiflahoihaaELValids

namespace Go.Proofs.Ytdgmoiflahoihaa
open Go.ChangeShapes Go.WideShapes Go.ChangeAt Go.RowKit
set_option linter.unusedVariables false
theorem execs_own : ownKnob Try.prog.godebug = none := by kernel_rfl
set_option maxRecDepth 100000 in
theorem execs_lifted (os : Os) (started : os.Started) (H : Type) (enc : TypeId × Value → H) :
  ReturnsInHanded {} Try.checked os 6 .any (Rows.execsSpec.pre6 enc Try.prog Try.f6 Rows.execsRow.domain false) (Rows.execsSpec.post enc Try.prog Try.f6 false true false false) := by
 refine returnsInHanded_of_change_sized (C := Try.checked) execs_own started (by kernel_rfl) Try.func6
  (ChangeSpec.witness6 (enc := enc) (C := Try.checked) false ⟨#[], #[.slice none 0 0, .slice none 0 0], []⟩ 8 (by kernel_rfl) (by kernel_rfl) (by kernel_rfl) (by kernel_rfl)) ?_
 intro W base args ds gs before hval0 hW hcnd hsz0 _
 have hval : ∀ (j : Nat) t v, Try.f6.params[j]? = some t → args[j]? = some v → Value.okWide Try.prog W .any base t v := hval0
 have hsz : (DataW.weightsEach Try.prog (Try.f6.params.toList ++ Rows.execsSpec.plain.varTypes Try.prog) (ds ++ gs)).all (· ≤ reachBytes) = true := hsz0
 have hW' := hW
 obtain ⟨p, q, hA0, hV, rfl, hfz, hnd⟩ := hW
 have hA : DataW.TrodAll enc Try.prog W 0 (fun _ => true) true Try.f6.params.toList args.toList ds p := hA0
 rw [Try.params6] at hA hval hsz
 obtain ⟨v0, vs0, d0, ds0, p0, q0, hargs, rfl, rfl, h0, r0⟩ := trodAll_cons hA
 obtain ⟨v1, vs1, d1, ds1, p1, q1, rfl, rfl, rfl, h1, r1⟩ := trodAll_cons r0
 obtain ⟨rfl, rfl, rfl⟩ := trodAll_nil r1
 obtain rfl : args = #[v0, v1] := by cases args; simp_all
 obtain ⟨rfl, rfl⟩ := trodVars_none hV
 obtain ⟨a0, len, cap, rfl⟩ := okWide_slice Try.underlying29 (hval 0 29 v0 rfl rfl)
 obtain ⟨a1, len1, cap1, rfl⟩ := okWide_slice Try.underlying34 (hval 1 34 v1 rfl rfl)
 have h0k := h0
 have h1k := h1
 obtain ⟨fuel, hf⟩ := h0
 obtain ⟨fuel1, hf1⟩ := h1
 clear hA0 hval0 hsz0
 simp only [List.append_nil] at hW'
 have hlt : ∀ x ∈ p0, x.block < W.heap.size := fun x hx => by simpa using hW'.lt x (by simp [hx])
 have hlt1 : ∀ x ∈ p1, x.block < W.heap.size := fun x hx => by simpa using hW'.lt x (by simp [hx])
 have hargs2 : ∀ (W' : World), Below W.heap.size W W' → DataW.Trod enc Try.prog W' 0 (fun b => decide (b < W.heap.size)) true 29 (.slice a0 len cap) d0 p0 :=
  fun W' hn => Below.trod valids_laid (by kernel_rfl) (of_decide_eq_true (by kernel_rfl)) h0k hn hlt
 have hargs3 : ∀ (W' : World), Below W.heap.size W W' → DataW.Trod enc Try.prog W' 0 (fun b => decide (b < W.heap.size)) true 34 (.slice a1 len1 cap1) d1 p1 :=
  fun W' hn => Below.trod valids_laid (by kernel_rfl) (of_decide_eq_true (by kernel_rfl)) h1k hn hlt1
 simp only [Value.cells] at hf hf1
 obtain ⟨l, g, o, hll, hI, hIo, hbig⟩ := open_ins hf
 obtain ⟨fs, gf, of, hfl, hN, hFo, hbig1⟩ := open_nums hf1
 have hn : 32 * (l.length + 2) ≤ 281474976710656 := by
  rcases hbig with h | ⟨els, sps, rfl, hes, hlc⟩
  ·rw [hll, h]; decide
  ·have k := sized_slice hsz (j := 0) (t := 29) (e := 70) rfl rfl Try.underlying29
   rw [bytesIns, hes] at k
   simp only [reachBytes] at k
   rw [hll]
   omega
 have hm : 8 * (fs.length + 2) ≤ 281474976710656 := by
  rcases hbig1 with h | ⟨els, sps, rfl, hes, hlc⟩
  ·rw [hfl, h]; decide
  ·have k := sized_slice hsz (j := 1) (t := 34) (e := 3) rfl rfl Try.underlying34
   rw [bytesInt, hes] at k
   simp only [reachBytes] at k
   rw [hfl]
   omega
 have hw := execs_walk l fs a0 a1 g o cap gf of cap1 W hI hN hn hm (fun x hx => (hIo x hx).2.2.1) hFo
 rw [hll, hfl] at hw
 refine hw.mono fun e W' ⟨he, bel⟩ => ?_
 subst he
 exact ⟨_, rfl, _, _, _, [], _, [], hW', trodAll_mk1 (shut_bool Try.underlying4 _), trodAll_cons_mk (hargs2 W' bel) (trodAll_cons_mk (hargs3 W' bel) trodAll_mk0), rfl, bel.frame _, fun h => by cases h⟩
theorem execs_over : Rows.execsRow.holds Try.pinned (OpenSpec.ofChange Rows.execsSpec) :=
 OpenClaim.holds_of_wide 6 Try.f6 rfl rfl rfl rfl rfl rfl rfl ⟨rfl, rfl, rfl, rfl, rfl⟩ rfl rfl rfl rfl rfl (by kernel_rfl) Try.func6 (by kernel_rfl)
  (of_decide_eq_true (by kernel_rfl)) (by unfold Func.isWrapper; first | (rw [if_pos (by decide +kernel)]; kernel_rfl) | (rw [if_neg (by decide +kernel)]; exact ⟨rfl, rfl⟩))
  (fun os started H enc _ => execs_lifted os started H enc)
theorem execs_holds : Rows.ExecsSaid := execs_over
#print axioms execs_holds
end Go.Proofs.Ytdgmoiflahoihaa
