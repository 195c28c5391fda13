import Derived.Test.YtdgmoiflahoihaaGreatRows
import Derived.Test.YtdgmoiflahoihaaGreatLCompw
import Derived.Test.YtdgmoiflahoihaaGreatLOw
import Derived.OpenShut
import Derived.ShutString
import Derived.ChangeOld

namespace Go.Proofs.YtdgmoiflahoihaaGreat
open Go.ChangeShapes Go.WideShapes Go.ChangeAt Go.RowKit
open Go.ChangeMaps (open_string shut_string)
set_option linter.unusedVariables false
theorem compiles_own : ownKnob Tryz.prog.godebug = none := by kernel_rfl
set_option maxRecDepth 100000 in
theorem compiles_lifted (os : Os) (started : os.Started) (H : Type) (enc : TypeId × Value → H) :
  ReturnsInHanded {} Tryz.checked os 4 .any (Rows.compilesSpec.pre6 enc Tryz.prog Tryz.f4 Rows.compilesRow.domain false) (Rows.compilesSpec.post enc Tryz.prog Tryz.f4 false true false false) := by
 refine returnsInHanded_of_change_sized (C := Tryz.checked) compiles_own started (by kernel_rfl) Tryz.func4
  (ChangeSpec.witness6 (enc := enc) (C := Tryz.checked) false ⟨#[], #[.string ByteArray.empty, .slice none 0 0], []⟩ 8 (by kernel_rfl) (by kernel_rfl) (by kernel_rfl) (by kernel_rfl)) ?_
 intro W base args ds gs before hval0 hW hcnd hsz0 _
 have hval : ∀ (j : Nat) t v, Tryz.f4.params[j]? = some t → args[j]? = some v → Value.okWide Tryz.prog W .any base t v := hval0
 have hsz : (DataW.weightsEach Tryz.prog (Tryz.f4.params.toList ++ Rows.compilesSpec.plain.varTypes Tryz.prog) (ds ++ gs)).all (· ≤ reachBytes) = true := hsz0
 have hW' := hW
 obtain ⟨p, q, hA0, hV, rfl, hfz, hnd⟩ := hW
 have hA : DataW.TrodAll enc Tryz.prog W 0 (fun _ => true) true Tryz.f4.params.toList args.toList ds p := hA0
 rw [Tryz.params4] at hA hval hsz
 obtain ⟨v0, vs0, d0, ds0, p0, q0, hargs, rfl, rfl, h0, r0⟩ := trodAll_cons hA
 obtain ⟨v1, vs1, d1, ds1, p1, q1, rfl, rfl, rfl, h1, r1⟩ := trodAll_cons r0
 obtain ⟨rfl, rfl, rfl⟩ := trodAll_nil r1
 obtain rfl : args = #[v0, v1] := by cases args; simp_all
 obtain ⟨rfl, rfl⟩ := trodVars_none hV
 obtain ⟨a0, rfl, rfl, rfl, w0⟩ := open_string Tryz.underlying9 (hval 0 9 v0 rfl rfl) h0
 obtain ⟨a1, len1, cap1, rfl⟩ := okWide_slice Tryz.underlying22 (hval 1 22 v1 rfl rfl)
 have h1k := h1
 obtain ⟨fuel1, hf1⟩ := h1
 clear hA0 hval0 hsz0
 simp only [List.append_nil, List.nil_append] at hW'
 have hlt1 : ∀ x ∈ p1, x.block < W.heap.size := fun x hx => by simpa using hW'.lt x (by simp [hx])
 have hargs3 : ∀ (W' : World), Below W.heap.size W W' → DataW.Trod enc Tryz.prog W' 0 (fun b => decide (b < W.heap.size)) true 22 (.slice a1 len1 cap1) d1 p1 :=
  fun W' hn => Below.trod valids_laid (by kernel_rfl) (of_decide_eq_true (by kernel_rfl)) h1k hn hlt1
 simp only [Value.cells] at hf1
 obtain ⟨fs, gf, of, hfl, hN, hFo, hbig1⟩ := open_nums hf1
 have hm : 8 * (fs.length + 2) ≤ 281474976710656 := by
  rcases hbig1 with h | ⟨els, sps, rfl, hes, hlc⟩
  ·rw [hfl, h]; decide
  ·have k := sized_slice hsz (j := 1) (t := 22) (e := 3) rfl rfl Tryz.underlying22
   rw [bytesInt, hes] at k
   simp only [reachBytes] at k
   rw [hfl]
   omega
 have hw := compiles_walk a0 fs a1 gf of cap1 W w0 hN hm hFo
 rw [hfl] at hw
 refine hw.mono fun e W' ⟨he, bel⟩ => ?_
 subst he
 exact ⟨_, rfl, _, _, _, [], _, [], hW', trodAll_mk1 (shut_bool Tryz.underlying4 _), trodAll_cons_mk (shut_string Tryz.underlying9 w0) (trodAll_cons_mk (hargs3 W' bel) trodAll_mk0), rfl, bel.frame _, fun h => by cases h⟩
theorem compiles_over : Rows.compilesRow.holds Tryz.pinned (OpenSpec.ofChange Rows.compilesSpec) :=
 OpenClaim.holds_of_wide 4 Tryz.f4 rfl rfl rfl rfl rfl rfl rfl ⟨rfl, rfl, rfl, rfl, rfl⟩ rfl rfl rfl rfl rfl (by kernel_rfl) Tryz.func4 (by kernel_rfl)
  (of_decide_eq_true (by kernel_rfl)) (by unfold Func.isWrapper; first | (rw [if_pos (by decide +kernel)]; kernel_rfl) | (rw [if_neg (by decide +kernel)]; exact ⟨rfl, rfl⟩))
  (fun os started H enc _ => compiles_lifted os started H enc)
theorem compiles_holds : Rows.CompilesSaid := compiles_over
#print axioms compiles_holds
end Go.Proofs.YtdgmoiflahoihaaGreat
