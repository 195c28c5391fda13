import Derived.Test.YtdgmoiflahoihaaLChecks
import Derived.Test.YtdgmoiflahoihaaIProg
import Derived.ChangeKeysEq

/- The law 'Inferred': the program's labels are the reference's at every text. -/
namespace Go.Proofs.Ytdgmoiflahoihaa
open Go.ChangeShapes Go.WideShapes Go.ChangeAt Go.RowKit
open Go.ChangeMaps (open_string shut_string)
set_option linter.unusedSimpArgs false
set_option linter.unusedVariables false

theorem checkP_zero {t : List UInt8} (h : (checkP t).1 = 0) : t.length ≤ 400 ∧ (parseR t).1.bad = false ∧ twiceL [] (parseH t).2 = none ∧ checkP t = (0, 0) := by
  unfold checkP at h ⊢
  by_cases hl : 400 < t.length
  · rw [if_pos hl] at h; cases h
  rw [if_neg hl] at h ⊢
  cases hb : (parseR t).1.bad with
  | true => rw [hb, if_pos rfl] at h; cases h
  | false =>
    rw [hb] at h
    simp only [Bool.false_eq_true, if_false] at h ⊢
    cases ht : twiceL [] (parseH t).2 with
    | some p => rw [ht] at h; cases h
    | none =>
      rw [ht] at h
      simp only at h ⊢
      by_cases hw : 5000 < workS 9 (parseR t).2
      · rw [if_pos hw] at h; cases h
      · rw [if_neg hw] at h ⊢
        cases hc : cleanF (labelsP (parseH t).2 (parseR t).2) 9 0 (parseR t).2 with
        | some p => rw [hc] at h; cases h
        | none => exact ⟨by omega, trivial, trivial, rfl⟩

theorem refLabels_any (s : ByteArray) (w : World) (e : Int) (R : List Nat) (hs : s.size ≤ maxLen) (he : (checkP s.data.toList).1 = e) (hR : labsP s.data.toList = R) :
    Calls Try.prog 12 #[.string s] w fun x w' => x = .returned (.tuple #[.agg (arrV R), .int .i64 e]) ∧ Below w.heap.size w w' := by
  have hsl : s.data.toList.length = s.size := by simp
  have hce := check_eq s.data.toList
  by_cases h0 : e = 0
  · subst h0
    obtain ⟨h1, h2, h3, h4⟩ := checkP_zero he
    have hpo := parse_ok h1 h2
    obtain ⟨_, B, hb, c1, c2⟩ := (parse_spec s.data.toList).2 h2
    have hkl := kept_le s.data.toList
    obtain ⟨e1, e2⟩ := labels_eq (by omega) hb c1 c2 hpo.heads hpo.tree h3
    have hok : FlOk (flT 9 0 (parseR s.data.toList).2) := by
      have hf2 := e1
      unfold flowsC at hf2
      rw [hb] at hf2
      exact flows_ok _ _ _ _ _ hf2
    have hl : labsF (keptL s.data.toList) (flT 9 0 (parseR s.data.toList).2) 26 = some R := by
      unfold labelsC at e2
      rw [e1] at e2
      rw [← hR]
      unfold labsP
      rw [if_pos he]
      exact e2
    rw [h4] at hce
    exact refLabels_good s w _ R (by omega) hce e1 hok hl
  · have hz : R = zero26 := by
      rw [← hR]
      unfold labsP
      rw [if_neg (by rw [he]; exact h0)]
    subst hz
    have : checkP s.data.toList = (e, (checkP s.data.toList).2) := by rw [← he]
    rw [this] at hce
    exact refLabels_bad s w e _ hs (by simpa using h0) hce

theorem progLabels_any (s : ByteArray) (w : World) (e : Int) (R : List Nat) (hs : s.size ≤ maxLen) (he : (checkP s.data.toList).1 = e) (hR : labsP s.data.toList = R) :
    Calls Try.prog 11 #[.string s] w fun x w' => x = .returned (.tuple #[.agg (arrV R), .int .i64 e]) ∧ Below w.heap.size w w' := by
  have hsl : s.data.toList.length = s.size := by simp
  exact tariffLabels_any s w e R hs (fun h hb => parse_ok (by omega) hb) he hR

theorem labsP_len (t : List UInt8) : (labsP t).length = 26 := by
  unfold labsP
  by_cases h : (checkP t).1 = 0
  · rw [if_pos h]
    obtain ⟨h1, h2, h3, h4⟩ := checkP_zero h
    have hpo := parse_ok h1 h2
    exact (labelsP_ok hpo.heads hpo.tree).len
  · rw [if_neg h]; rfl

theorem plainInt : Try.prog.plainKey 3 = true := by kernel_rfl

theorem items_self {R : List Nat} (hR : R.length = 26) (d : Nat) (w : World) : ∀ (is : List Nat), (∀ i ∈ is, i < 26) → (Op.eqItems (d + 1) 3 1 (arrV R) (arrV R) is).run Try.prog w = .ok true w
  | [], _ => by simp [Op.eqItems]
  | i :: is, h => by
    have hi : i < R.length := by rw [hR]; exact h i (by simp)
    have hx : (arrV R)[i * 1]? = some (.int .i64 R[i]) := by
      rw [Nat.mul_one]
      simp [arrV, natV, List.getElem?_eq_getElem hi]
    have hp := run_part_plain w plainInt hx
    have hq := run_equalIn_int w d 3 .i64 .i64 R[i] R[i] Try.underlying3
    have ih := items_self hR d w is (fun j hj => h j (by simp [hj]))
    simp only [Op.eqItems, Sem.run_bind, hp, hq, Result.andThen_ok, beq_self_eq_true, Bool.not_true, Bool.false_eq_true, if_false]
    exact ih

theorem arr_self {R : List Nat} (hR : R.length = 26) (w : World) : (Op.equalIn 10000 26 (.agg (arrV R)) (.agg (arrV R))).run Try.prog w = .ok true w := by
  have hc : Try.prog.cellsOf 3 = 1 := by kernel_rfl
  obtain ⟨i, hi⟩ := info_of_underlying Try.underlying3
  rw [run_equalIn_array w 9999 (arrV R) (arrV R) Try.underlying26 hi, hc]
  exact items_self hR 9998 w _ (fun i hi => by simpa using hi)

theorem wpList_wanted {P : Program} {ops : Array Oper} {rest : List Oper} {o : Oper} {a : Act} {w : World} {Q : Exit → Act → World → Prop} (hw : Region.wanted o (yielded ops a.tmps) = true)
    (h : ∀ K : Act → World → Prop, (∀ a w, wpList P ops Q rest a w → K a w) → o.wp P a w K Q) : wpList P ops Q (o :: rest) a w :=
  wpList_step fun K hK => by rw [if_pos hw]; exact h K hK

set_option maxRecDepth 100000 in
set_option maxHeartbeats 2000000 in
theorem inferred_walk (s : ByteArray) (hs : s.size ≤ maxLen) (w : World) :
    Calls Try.prog 4 #[.string s] w fun e w' => e = .returned (.bool true) ∧ Below w.heap.size w w' := by
  have hRl := labsP_len s.data.toList
  generalize he : (checkP s.data.toList).1 = e
  generalize hR : labsP s.data.toList = R at hRl
  have HE : Hid ((checkP s.data.toList).1 = e) := he
  have HR : Hid (labsP s.data.toList = R) := hR
  clear he hR
  have hsz : (arrV R).size = 26 := by simp [arrV, hRl]
  have heq := arr_self hRl
  clear hRl
  go_enter Try.func4, Try.ntmps4
  go_upto_region 3 with (first | (go_at_call 11; refine (progLabels_any s _ e R hs HE.out HR.out).mono ?_; rintro x1 w1 ⟨rfl, hb1⟩) | (go_at_call 12; refine (refLabels_any s _ e R hs HE.out HR.out).mono ?_; rintro x2 w2 ⟨rfl, hb2⟩) | (refine wpList_store_row rfl 26 (.tmp 3) (.tmp 10) rfl w1.heap.size (arrV R) rfl rfl 26 (arrV zero26) (by exact box_zero w1) (by rw [infoArr, hsz]) (by rw [hsz]; rfl) (arr_one R) ?_; rw [World.setRow_alloc_new]; simp only [Act.put]) | (refine wpList_store_row rfl 26 (.tmp 5) (.tmp 15) rfl w2.heap.size (arrV R) rfl rfl 26 (arrV zero26) (by exact box_zero w2) (by rw [infoArr, hsz]) (by rw [hsz]; rfl) (arr_one R) ?_; rw [World.setRow_alloc_new]; simp only [Act.put]))
  have hs1 := hb1.size
  have hs2 := hb2.size
  have hs1' : (w1.alloc (.cells (arrV R) 26)).heap.size = w1.heap.size + 1 := by simp
  have hg1 : (w2.alloc (.cells (arrV R) 26)).heap[w1.heap.size]? = some (.cells (arrV R) 26 (0, 0)) := by
    rw [heap_alloc_old _ _ (by omega), hb2.block _ (by omega)]
    exact heap_alloc_new w1 _
  have hg2 : (w2.alloc (.cells (arrV R) 26)).heap[w2.heap.size]? = some (.cells (arrV R) 26 (0, 0)) := heap_alloc_new w2 _
  have hbf : Below w.heap.size w (w2.alloc (.cells (arrV R) 26)) := ((hb1.alloc (by omega) _).trans (hb2.mono (by omega))).alloc (by omega) _
  generalize w2.alloc (.cells (arrV R) 26) = W2 at *
  have HG1 : Hid (W2.heap[w1.heap.size]? = some (.cells (arrV R) 26 (0, 0))) := hg1
  have HG2 : Hid (W2.heap[w2.heap.size]? = some (.cells (arrV R) 26 (0, 0))) := hg2
  clear hg1 hg2 hb1 hb2 hs1'
  go_wp2_with (first | (refine wpList_wanted (by rfl) fun K hK => wp_load_row 26 (.tmp 3) rfl w1.heap.size rfl 26 (arrV R) (0, 0) _ HG1.out Try.underlying26 rfl (by rw [infoArr, hsz]) (hK _ _ ?_); simp only [Act.put]) | (refine wpList_wanted (by rfl) fun K hK => wp_load_row 26 (.tmp 5) rfl w2.heap.size rfl 26 (arrV R) (0, 0) _ HG2.out Try.underlying26 rfl (by rw [infoArr, hsz]) (hK _ _ ?_); simp only [Act.put]))
  go_ret
  exact ⟨rfl, hbf⟩

set_option maxRecDepth 100000 in
theorem inferred_lifted (os : Os) (started : os.Started) (H : Type) (enc : TypeId × Value → H) :
    ReturnsInHanded {} Try.checked os 4 .any (Rows.inferredSpec.pre6 enc Try.prog Try.f4 Rows.inferredRow.domain false) (Rows.inferredSpec.post enc Try.prog Try.f4 false true false false) := by
  refine returnsInHanded_of_change (C := Try.checked) checks_own started (by kernel_rfl) Try.func4
    (ChangeSpec.witness6 (enc := enc) (C := Try.checked) false ⟨#[], #[.string ByteArray.empty], []⟩ 8 (by kernel_rfl) (by kernel_rfl) (by kernel_rfl) (by kernel_rfl)) ?_
  intro W base args ds gs before hval0 hW hcnd _
  have hval : ∀ (j : Nat) t v, Try.f4.params[j]? = some t → args[j]? = some v → Value.okWide Try.prog W .any base t v := hval0
  have hW' := hW
  obtain ⟨p, q, hA0, hV, rfl, hfz, hnd⟩ := hW
  have hA : DataW.TrodAll enc Try.prog W 0 (fun _ => true) true Try.f4.params.toList args.toList ds p := hA0
  rw [Try.params4] at hA hval
  obtain ⟨v0, vs0, d0, ds0, p0, q0, hargs, rfl, rfl, h0, r0⟩ := trodAll_cons hA
  obtain ⟨rfl, rfl, rfl⟩ := trodAll_nil r0
  obtain rfl : args = #[v0] := by cases args; simp_all
  obtain ⟨rfl, rfl⟩ := trodVars_none hV
  obtain ⟨a0, rfl, rfl, rfl, w0⟩ := open_string Try.underlying9 (hval 0 9 v0 rfl rfl) h0
  clear hA0 hval0
  refine (inferred_walk a0 w0 W).mono fun e W' ⟨he, bel⟩ => ?_
  subst he
  exact ⟨_, rfl, _, _, _, [], [], [], hW', trodAll_mk1 (shut_bool Try.underlying4 _), trodAll_cons_mk (shut_string Try.underlying9 w0) trodAll_mk0, rfl, bel.frame _, fun h => by cases h⟩

theorem inferred_over : Rows.inferredRow.holds Try.pinned (OpenSpec.ofChange Rows.inferredSpec) :=
  OpenClaim.holds_of_wide 4 Try.f4 rfl rfl rfl rfl rfl rfl rfl ⟨rfl, rfl, rfl, rfl, rfl⟩ rfl rfl rfl rfl rfl (by kernel_rfl) Try.func4 (by kernel_rfl)
    (of_decide_eq_true (by kernel_rfl)) (by unfold Func.isWrapper; first | (rw [if_pos (by decide +kernel)]; kernel_rfl) | (rw [if_neg (by decide +kernel)]; exact ⟨rfl, rfl⟩))
    (fun os started H enc _ => inferred_lifted os started H enc)

/-- The statement. -/
theorem inferred_holds : Rows.InferredSaid := inferred_over
#print axioms inferred_holds

end Go.Proofs.Ytdgmoiflahoihaa
