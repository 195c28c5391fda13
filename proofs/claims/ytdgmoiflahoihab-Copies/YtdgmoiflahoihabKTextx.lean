import Derived.Test.YtdgmoiflahoihabKLabsx

namespace Go.Proofs.Ytdgmoiflahoihab
open Go.RowKit
set_option linter.unusedSimpArgs false
set_option linter.unusedVariables false
def e30 (e p : Int) : List Value := [Value.int .i64 e, Value.int .i64 p, Value.slice none 0 0, Value.slice none 0 0] ++ zero26.map natV
theorem infoRules : (Try.prog.info? 54).map (·.size) = some 30 := by kernel_rfl
theorem e30_one (e p : Int) : (e30 e p).toArray.all (·.oneCell') = true := by
 apply all_oneCell_toArray
 intro v hv
 unfold e30 at hv
 rcases List.mem_append.mp hv with h | h
 ·simp at h
  rcases h with rfl | rfl | rfl <;> rfl
 ·obtain ⟨n, _, rfl⟩ := List.mem_map.mp h
  rfl
theorem e30_size (e p : Int) : (e30 e p).toArray.size = 30 := by rfl
theorem rules_new (w : World) : (w.alloc (.cells #[.int .i64 0, .int .i64 0, .slice none 0 0, .slice none 0 0, .int .i64 0, .int .i64 0, .int .i64 0, .int .i64 0, .int .i64 0, .int .i64 0, .int .i64 0, .int .i64 0, .int .i64 0, .int .i64 0, .int .i64 0, .int .i64 0, .int .i64 0, .int .i64 0, .int .i64 0, .int .i64 0, .int .i64 0, .int .i64 0, .int .i64 0, .int .i64 0, .int .i64 0, .int .i64 0, .int .i64 0, .int .i64 0, .int .i64 0, .int .i64 0] 54)).heap[w.heap.size]? = some (.cells (e30 0 0).toArray 54 (0, 0)) := heap_alloc_new w _
set_option maxRecDepth 100000 in
set_option maxHeartbeats 2000000 in
theorem text_long (s : ByteArray) (w : World) (hs : s.size ≤ maxLen) (h : 400 < s.size) :
  Calls Try.prog 17 #[.string s] w fun e w' => e = .returned (.agg (e30 1 0).toArray) ∧ Below w.heap.size w w' := by
 unfold maxLen at hs
 have hz := rules_new w
 have hb := (Below.refl w.heap.size w).alloc (Nat.le_refl _) (.cells #[.int .i64 0, .int .i64 0, .slice none 0 0, .slice none 0 0, .int .i64 0, .int .i64 0, .int .i64 0, .int .i64 0, .int .i64 0, .int .i64 0, .int .i64 0, .int .i64 0, .int .i64 0, .int .i64 0, .int .i64 0, .int .i64 0, .int .i64 0, .int .i64 0, .int .i64 0, .int .i64 0, .int .i64 0, .int .i64 0, .int .i64 0, .int .i64 0, .int .i64 0, .int .i64 0, .int .i64 0, .int .i64 0, .int .i64 0, .int .i64 0] 54)
 go_enter Try.func17, Try.ntmps17
 go_upto_region 2 with fail
 generalize (w.alloc (.cells #[.int .i64 0, .int .i64 0, .slice none 0 0, .slice none 0 0, .int .i64 0, .int .i64 0, .int .i64 0, .int .i64 0, .int .i64 0, .int .i64 0, .int .i64 0, .int .i64 0, .int .i64 0, .int .i64 0, .int .i64 0, .int .i64 0, .int .i64 0, .int .i64 0, .int .i64 0, .int .i64 0, .int .i64 0, .int .i64 0, .int .i64 0, .int .i64 0, .int .i64 0, .int .i64 0, .int .i64 0, .int .i64 0, .int .i64 0, .int .i64 0] 54)) = W at *
 have HZ : Hid _ := hz
 clear hz
 go_wp2_with (refine wpList_store_row rfl 54 (.tmp 2) (.tmp 10) rfl w.heap.size (e30 1 0).toArray rfl rfl 54 (e30 0 0).toArray HZ.out (by rw [infoRules, e30_size]) rfl (e30_one 1 0) ?_)
 have hfin : (W.setRow w.heap.size (e30 1 0).toArray).heap[w.heap.size]? = some (.cells (e30 1 0).toArray 54 (0, 0)) := setRow_heap W _ _ _ _ _ HZ.out
 exact bodyPost_ret (v := .agg (e30 1 0).toArray) (results_cell_row rfl _ _ w.heap.size 54 (e30 1 0).toArray (0, 0) _ rfl hfin Try.underlying54 rfl (by rw [infoRules, e30_size])) rfl ⟨rfl, below_setRow hb (Nat.le_refl _)⟩
structure ParseOk (t : List UInt8) : Prop where
 heads : ∀ h ∈ (parseH t).2, HdOk h
 few : (parseH t).2.length ≤ 1000
 tree : TreeOk 9 (parseR t).2
 work : workS 9 (parseR t).2 < 1099511627776
set_option maxRecDepth 100000 in
set_option maxHeartbeats 2000000 in
theorem text_misform (s : ByteArray) (w : World) (hs : s.size ≤ 400) (hbad : (parseR s.data.toList).1.bad = true) :
  Calls Try.prog 17 #[.string s] w fun e w' => e = .returned (.agg (e30 2 (parseR s.data.toList).1.pos).toArray) ∧ Below w.heap.size w w' := by
 have hz := rules_new w
 have hb := (Below.refl w.heap.size w).alloc (Nat.le_refl _) (.cells #[.int .i64 0, .int .i64 0, .slice none 0 0, .slice none 0 0, .int .i64 0, .int .i64 0, .int .i64 0, .int .i64 0, .int .i64 0, .int .i64 0, .int .i64 0, .int .i64 0, .int .i64 0, .int .i64 0, .int .i64 0, .int .i64 0, .int .i64 0, .int .i64 0, .int .i64 0, .int .i64 0, .int .i64 0, .int .i64 0, .int .i64 0, .int .i64 0, .int .i64 0, .int .i64 0, .int .i64 0, .int .i64 0, .int .i64 0, .int .i64 0] 54)
 have hWs : (w.alloc (.cells #[.int .i64 0, .int .i64 0, .slice none 0 0, .slice none 0 0, .int .i64 0, .int .i64 0, .int .i64 0, .int .i64 0, .int .i64 0, .int .i64 0, .int .i64 0, .int .i64 0, .int .i64 0, .int .i64 0, .int .i64 0, .int .i64 0, .int .i64 0, .int .i64 0, .int .i64 0, .int .i64 0, .int .i64 0, .int .i64 0, .int .i64 0, .int .i64 0, .int .i64 0, .int .i64 0, .int .i64 0, .int .i64 0, .int .i64 0, .int .i64 0] 54)).heap.size = w.heap.size + 1 := by simp
 have tl : decide (400 < (s.size : Int)) = false := by simp; omega
 generalize hpp : (parseR s.data.toList).1.pos = pp
 have HPP : Hid _ := hpp
 have HBAD : Hid _ := hbad
 clear hpp hbad
 go_enter Try.func17, Try.ntmps17
 go_upto_region 2 with fail
 generalize (w.alloc (.cells #[.int .i64 0, .int .i64 0, .slice none 0 0, .slice none 0 0, .int .i64 0, .int .i64 0, .int .i64 0, .int .i64 0, .int .i64 0, .int .i64 0, .int .i64 0, .int .i64 0, .int .i64 0, .int .i64 0, .int .i64 0, .int .i64 0, .int .i64 0, .int .i64 0, .int .i64 0, .int .i64 0, .int .i64 0, .int .i64 0, .int .i64 0, .int .i64 0, .int .i64 0, .int .i64 0, .int .i64 0, .int .i64 0, .int .i64 0, .int .i64 0] 54)) = W at *
 have HZ : Hid _ := hz
 clear hz
 go_wp2_with fail
 refine (parse_any s hs _).mono ?_
 rintro e w1 ⟨hb1, he1, _⟩
 have he2 := he1 HBAD.out
 rw [HPP.out] at he2
 subst he2
 have hz1 : w1.heap[w.heap.size]? = some (.cells (e30 0 0).toArray 54 (0, 0)) := by rw [hb1.block _ (by omega)]; exact HZ.out
 have hbb : Below w.heap.size w w1 := hb.trans (hb1.mono (by omega))
 have hsz1 := hb1.size
 have hz2 : (w1.alloc (.cells #[.slice none 0 0, .slice none 0 0] 52)).heap[w.heap.size]? = some (.cells (e30 0 0).toArray 54 (0, 0)) := by rw [Below.heap_alloc _ _ _ (by omega)]; exact hz1
 have HZ2 : Hid _ := hz2
 clear hb1 he1 hz1 HZ hz2
 go_wp2_with (refine wpList_store_row rfl 54 (.tmp 2) _ rfl w.heap.size (e30 2 pp).toArray rfl rfl 54 (e30 0 0).toArray HZ2.out (by rw [infoRules, e30_size]) rfl (e30_one _ _) ?_)
 have hfin : ((w1.alloc (.cells #[.slice none 0 0, .slice none 0 0] 52)).setRow w.heap.size (e30 2 pp).toArray).heap[w.heap.size]? = some (.cells (e30 2 pp).toArray 54 (0, 0)) := setRow_heap _ _ _ _ _ _ HZ2.out
 exact bodyPost_ret (v := .agg (e30 2 pp).toArray) (results_cell_row rfl _ _ w.heap.size 54 (e30 2 pp).toArray (0, 0) _ rfl hfin Try.underlying54 rfl (by rw [infoRules, e30_size])) rfl ⟨rfl, below_setRow (hbb.alloc (by omega) _) (Nat.le_refl _)⟩
structure ParseOk2 (H : Rd × List Hd) (R : Rd × List (RT 9)) : Prop where
 heads : ∀ h ∈ H.2, HdOk h
 few : H.2.length ≤ 1000
 tree : TreeOk 9 R.2
 work : workS 9 R.2 < 1099511627776
set_option maxRecDepth 100000 in
set_option maxHeartbeats 2000000 in
theorem text_name (s : ByteArray) (w : World) (hs : s.size ≤ 400) (hpo : ParseOk s.data.toList) (hbad : (parseR s.data.toList).1.bad = false) (p : Nat) (htw : twiceL [] (parseH s.data.toList).2 = some p) :
  Calls Try.prog 17 #[.string s] w fun e w' => e = .returned (.agg (e30 3 p).toArray) ∧ Below w.heap.size w w' := by
 have hz := rules_new w
 have hb := (Below.refl w.heap.size w).alloc (Nat.le_refl _) (.cells #[.int .i64 0, .int .i64 0, .slice none 0 0, .slice none 0 0, .int .i64 0, .int .i64 0, .int .i64 0, .int .i64 0, .int .i64 0, .int .i64 0, .int .i64 0, .int .i64 0, .int .i64 0, .int .i64 0, .int .i64 0, .int .i64 0, .int .i64 0, .int .i64 0, .int .i64 0, .int .i64 0, .int .i64 0, .int .i64 0, .int .i64 0, .int .i64 0, .int .i64 0, .int .i64 0, .int .i64 0, .int .i64 0, .int .i64 0, .int .i64 0] 54)
 have hWs : (w.alloc (.cells #[.int .i64 0, .int .i64 0, .slice none 0 0, .slice none 0 0, .int .i64 0, .int .i64 0, .int .i64 0, .int .i64 0, .int .i64 0, .int .i64 0, .int .i64 0, .int .i64 0, .int .i64 0, .int .i64 0, .int .i64 0, .int .i64 0, .int .i64 0, .int .i64 0, .int .i64 0, .int .i64 0, .int .i64 0, .int .i64 0, .int .i64 0, .int .i64 0, .int .i64 0, .int .i64 0, .int .i64 0, .int .i64 0, .int .i64 0, .int .i64 0] 54)).heap.size = w.heap.size + 1 := by simp
 have tl : decide (400 < (s.size : Int)) = false := by simp; omega
 have HPO0 := hpo
 generalize hHe : parseH s.data.toList = H at *
 generalize hRe : parseR s.data.toList = R at *
 have HHe : Hid (parseH s.data.toList = H) := hHe
 have HRe : Hid (parseR s.data.toList = R) := hRe
 have HPO : Hid (ParseOk2 H R) := ⟨by rw [← hHe]; exact hpo.heads, by rw [← hHe]; exact hpo.few, by rw [← hRe]; exact hpo.tree, by rw [← hRe]; exact hpo.work⟩
 have HBAD : Hid (R.1.bad = false) := hbad
 have HTW : Hid (twiceL [] H.2 = some p) := htw
 clear hHe hRe hpo hbad htw HPO0
 go_enter Try.func17, Try.ntmps17
 go_upto_region 2 with fail
 generalize (w.alloc (.cells #[.int .i64 0, .int .i64 0, .slice none 0 0, .slice none 0 0, .int .i64 0, .int .i64 0, .int .i64 0, .int .i64 0, .int .i64 0, .int .i64 0, .int .i64 0, .int .i64 0, .int .i64 0, .int .i64 0, .int .i64 0, .int .i64 0, .int .i64 0, .int .i64 0, .int .i64 0, .int .i64 0, .int .i64 0, .int .i64 0, .int .i64 0, .int .i64 0, .int .i64 0, .int .i64 0, .int .i64 0, .int .i64 0, .int .i64 0, .int .i64 0] 54)) = W at *
 have HZ : Hid _ := hz
 clear hz
 go_wp2_with fail
 refine (parse_any s hs _).mono ?_
 rw [HRe.out, HHe.out]
 rintro e w1 ⟨hb1, _, he1⟩
 obtain ⟨vh, vr, rfl, hvh, hvr⟩ := he1 HBAD.out
 obtain ⟨ah, nh, ch, hvh2⟩ : ∃ aa nn cc, vh = .slice aa nn cc := by
  rcases Joins.ownsRow_forms hvh.1 with ⟨rfl, _⟩ | ⟨g, cap, rfl⟩ <;> exact ⟨_, _, _, rfl⟩
 obtain ⟨ar, nr, cr, hvr2⟩ := rulesV_form hvr
 subst hvh2 hvr2
 have hsz1 := hb1.size
 have hz1 : w1.heap[w.heap.size]? = some (.cells (e30 0 0).toArray 54 (0, 0)) := by rw [hb1.block _ (by omega)]; exact HZ.out
 have hbb : Below w.heap.size w w1 := hb.trans (hb1.mono (by omega))
 generalize hW2 : w1.alloc (.cells #[.slice ah nh ch, .slice ar nr cr] 52) = W2
 have HW2 : Hid _ := hW2
 have hb2 : Below w1.heap.size w1 W2 := by rw [← hW2]; exact (Below.refl _ _).alloc (Nat.le_refl _) _
 have hs2 : W2.heap.size = w1.heap.size + 1 := by rw [← hW2]; simp
 have t0 : W2.cell? ⟨w1.heap.size, 0, none⟩ = some (.slice ah nh ch) := by rw [← hW2]; simp [go_sem]
 have t1 : W2.cell? ⟨w1.heap.size, 1, none⟩ = some (.slice ar nr cr) := by rw [← hW2]; simp [go_sem]
 have hz2 : W2.heap[w.heap.size]? = some (.cells (e30 0 0).toArray 54 (0, 0)) := by rw [hb2.block _ (by omega)]; exact hz1
 have hbb2 : Below w.heap.size w W2 := hbb.trans (hb2.mono (by omega))
 have HVH : Hid (HeadsV W2 (fun k => W.heap.size ≤ k) (.slice ah nh ch) H.2) := headsV_frame hvh (fun k hk hl => ⟨hk, hb2.block k hl⟩)
 have HVR : Hid (RulesV 9 W2 (fun k => W.heap.size ≤ k) (.slice ar nr cr) R.2) := rulesV_below hvr hb2
 have HZ2 : Hid (W2.heap[w.heap.size]? = some (.cells (e30 0 0).toArray 54 (0, 0))) := hz2
 have HBB2 : Hid (Below w.heap.size w W2) := hbb2
 clear hb1 hz1 HZ hvh hvr hbb hW2 hb2 hz2 hbb2 hb
 go_upto_region 6 with fail
 rw [HW2.out]
 go_wp2_with fail
 refine (headsDiffer_any H.2 _ _ _ HPO.out.few HVH.out).mono ?_
 rw [HTW.out]
 rintro e w3 ⟨rfl, hb3⟩
 have hz3 : w3.heap[w.heap.size]? = some (.cells (e30 0 0).toArray 54 (0, 0)) := by rw [hb3.block _ (by omega)]; exact HZ2.out
 have HZ3 : Hid _ := hz3
 have hbb3 : Below w.heap.size w w3 := HBB2.out.trans (hb3.mono (by omega))
 clear hz3 hb3
 simp only [resV, Option.getD_some, Option.isNone_some]
 go_wp2_with (refine wpList_store_row rfl 54 (.tmp 2) _ rfl w.heap.size (e30 3 p).toArray rfl rfl 54 (e30 0 0).toArray HZ3.out (by rw [infoRules, e30_size]) rfl (e30_one _ _) ?_)
 have hfin : ((w3).setRow w.heap.size (e30 3 p).toArray).heap[w.heap.size]? = some (.cells (e30 3 p).toArray 54 (0, 0)) := setRow_heap _ _ _ _ _ _ HZ3.out
 exact bodyPost_ret (v := .agg (e30 3 p).toArray) (results_cell_row rfl _ _ w.heap.size 54 (e30 3 p).toArray (0, 0) _ rfl hfin Try.underlying54 rfl (by rw [infoRules, e30_size])) rfl ⟨rfl, below_setRow hbb3 (Nat.le_refl _)⟩
set_option maxRecDepth 100000 in
set_option maxHeartbeats 2000000 in
theorem text_large (s : ByteArray) (w : World) (hs : s.size ≤ 400) (hpo : ParseOk s.data.toList) (hbad : (parseR s.data.toList).1.bad = false) (htw : twiceL [] (parseH s.data.toList).2 = none) (hwk : 5000 < workS 9 (parseR s.data.toList).2) :
  Calls Try.prog 17 #[.string s] w fun e w' => e = .returned (.agg (e30 4 0).toArray) ∧ Below w.heap.size w w' := by
 have hz := rules_new w
 have hb := (Below.refl w.heap.size w).alloc (Nat.le_refl _) (.cells #[.int .i64 0, .int .i64 0, .slice none 0 0, .slice none 0 0, .int .i64 0, .int .i64 0, .int .i64 0, .int .i64 0, .int .i64 0, .int .i64 0, .int .i64 0, .int .i64 0, .int .i64 0, .int .i64 0, .int .i64 0, .int .i64 0, .int .i64 0, .int .i64 0, .int .i64 0, .int .i64 0, .int .i64 0, .int .i64 0, .int .i64 0, .int .i64 0, .int .i64 0, .int .i64 0, .int .i64 0, .int .i64 0, .int .i64 0, .int .i64 0] 54)
 have hWs : (w.alloc (.cells #[.int .i64 0, .int .i64 0, .slice none 0 0, .slice none 0 0, .int .i64 0, .int .i64 0, .int .i64 0, .int .i64 0, .int .i64 0, .int .i64 0, .int .i64 0, .int .i64 0, .int .i64 0, .int .i64 0, .int .i64 0, .int .i64 0, .int .i64 0, .int .i64 0, .int .i64 0, .int .i64 0, .int .i64 0, .int .i64 0, .int .i64 0, .int .i64 0, .int .i64 0, .int .i64 0, .int .i64 0, .int .i64 0, .int .i64 0, .int .i64 0] 54)).heap.size = w.heap.size + 1 := by simp
 have tl : decide (400 < (s.size : Int)) = false := by simp; omega
 have HPO0 := hpo
 generalize hHe : parseH s.data.toList = H at *
 generalize hRe : parseR s.data.toList = R at *
 have HHe : Hid (parseH s.data.toList = H) := hHe
 have HRe : Hid (parseR s.data.toList = R) := hRe
 have HPO : Hid (ParseOk2 H R) := ⟨by rw [← hHe]; exact hpo.heads, by rw [← hHe]; exact hpo.few, by rw [← hRe]; exact hpo.tree, by rw [← hRe]; exact hpo.work⟩
 have HBAD : Hid (R.1.bad = false) := hbad
 have HTW : Hid (twiceL [] H.2 = none) := htw
 have hwl : workS 9 R.2 < 1099511627776 := HPO.out.work
 generalize hke : workS 9 R.2 = k at *
 have HKE : Hid (workS 9 R.2 = k) := hke
 clear hHe hRe hpo hbad htw HPO0 hke
 go_enter Try.func17, Try.ntmps17
 go_upto_region 2 with fail
 generalize (w.alloc (.cells #[.int .i64 0, .int .i64 0, .slice none 0 0, .slice none 0 0, .int .i64 0, .int .i64 0, .int .i64 0, .int .i64 0, .int .i64 0, .int .i64 0, .int .i64 0, .int .i64 0, .int .i64 0, .int .i64 0, .int .i64 0, .int .i64 0, .int .i64 0, .int .i64 0, .int .i64 0, .int .i64 0, .int .i64 0, .int .i64 0, .int .i64 0, .int .i64 0, .int .i64 0, .int .i64 0, .int .i64 0, .int .i64 0, .int .i64 0, .int .i64 0] 54)) = W at *
 have HZ : Hid _ := hz
 clear hz
 go_wp2_with fail
 refine (parse_any s hs _).mono ?_
 rw [HRe.out, HHe.out]
 rintro e w1 ⟨hb1, _, he1⟩
 obtain ⟨vh, vr, rfl, hvh, hvr⟩ := he1 HBAD.out
 obtain ⟨ah, nh, ch, hvh2⟩ : ∃ aa nn cc, vh = .slice aa nn cc := by
  rcases Joins.ownsRow_forms hvh.1 with ⟨rfl, _⟩ | ⟨g, cap, rfl⟩ <;> exact ⟨_, _, _, rfl⟩
 obtain ⟨ar, nr, cr, hvr2⟩ := rulesV_form hvr
 subst hvh2 hvr2
 have hsz1 := hb1.size
 have hz1 : w1.heap[w.heap.size]? = some (.cells (e30 0 0).toArray 54 (0, 0)) := by rw [hb1.block _ (by omega)]; exact HZ.out
 have hbb : Below w.heap.size w w1 := hb.trans (hb1.mono (by omega))
 generalize hW2 : w1.alloc (.cells #[.slice ah nh ch, .slice ar nr cr] 52) = W2
 have HW2 : Hid _ := hW2
 have hb2 : Below w1.heap.size w1 W2 := by rw [← hW2]; exact (Below.refl _ _).alloc (Nat.le_refl _) _
 have hs2 : W2.heap.size = w1.heap.size + 1 := by rw [← hW2]; simp
 have t0 : W2.cell? ⟨w1.heap.size, 0, none⟩ = some (.slice ah nh ch) := by rw [← hW2]; simp [go_sem]
 have t1 : W2.cell? ⟨w1.heap.size, 1, none⟩ = some (.slice ar nr cr) := by rw [← hW2]; simp [go_sem]
 have hz2 : W2.heap[w.heap.size]? = some (.cells (e30 0 0).toArray 54 (0, 0)) := by rw [hb2.block _ (by omega)]; exact hz1
 have hbb2 : Below w.heap.size w W2 := hbb.trans (hb2.mono (by omega))
 have HVH : Hid (HeadsV W2 (fun k => W.heap.size ≤ k) (.slice ah nh ch) H.2) := headsV_frame hvh (fun k hk hl => ⟨hk, hb2.block k hl⟩)
 have HVR : Hid (RulesV 9 W2 (fun k => W.heap.size ≤ k) (.slice ar nr cr) R.2) := rulesV_below hvr hb2
 have HZ2 : Hid (W2.heap[w.heap.size]? = some (.cells (e30 0 0).toArray 54 (0, 0))) := hz2
 have HBB2 : Hid (Below w.heap.size w W2) := hbb2
 clear hb1 hz1 HZ hvh hvr hbb hW2 hb2 hz2 hbb2 hb
 go_upto_region 6 with fail
 rw [HW2.out]
 go_wp2_with fail
 refine (headsDiffer_any H.2 _ _ _ HPO.out.few HVH.out).mono ?_
 rw [HTW.out]
 rintro e w3 ⟨rfl, hb3⟩
 have hz3 : w3.heap[w.heap.size]? = some (.cells (e30 0 0).toArray 54 (0, 0)) := by rw [hb3.block _ (by omega)]; exact HZ2.out
 have HZ3 : Hid _ := hz3
 have HBB3 : Hid (Below w.heap.size w w3) := HBB2.out.trans (hb3.mono (by omega))
 have HVR3 : Hid (RulesV 9 w3 (fun k => W.heap.size ≤ k) (.slice ar nr cr) R.2) := rulesV_below HVR.out hb3
 rw [← hb3.cell (p := ⟨w1.heap.size, 1, none⟩) (by simp only; omega)] at t1
 have hs3 := hb3.size
 clear hz3 hb3 t0
 simp only [resV, Option.getD_none, Option.isNone_none]
 go_wp2_with fail
 refine (workOfAll_any 9 R.2 _ _ _ HPO.out.tree (by rw [HKE.out]; exact hwl) HVR3.out).mono ?_
 rw [HKE.out]
 rintro e w4 ⟨rfl, hb4⟩
 have tk : decide (5000 < (k : Int)) = true := by simp; omega
 have hz4 : w4.heap[w.heap.size]? = some (.cells (e30 0 0).toArray 54 (0, 0)) := by rw [hb4.block _ (by omega)]; exact HZ3.out
 have HZ4 : Hid _ := hz4
 have hbb4 : Below w.heap.size w w4 := HBB3.out.trans (hb4.mono (by omega))
 clear hz4 hb4
 go_wp2_with (refine wpList_store_row rfl 54 (.tmp 2) _ rfl w.heap.size (e30 4 0).toArray rfl rfl 54 (e30 0 0).toArray HZ4.out (by rw [infoRules, e30_size]) rfl (e30_one _ _) ?_)
 have hfin : ((w4).setRow w.heap.size (e30 4 0).toArray).heap[w.heap.size]? = some (.cells (e30 4 0).toArray 54 (0, 0)) := setRow_heap _ _ _ _ _ _ HZ4.out
 exact bodyPost_ret (v := .agg (e30 4 0).toArray) (results_cell_row rfl _ _ w.heap.size 54 (e30 4 0).toArray (0, 0) _ rfl hfin Try.underlying54 rfl (by rw [infoRules, e30_size])) rfl ⟨rfl, below_setRow hbb4 (Nat.le_refl _)⟩
end Go.Proofs.Ytdgmoiflahoihab
