import Derived.Test.YtdgmoiflahoihaaGreatDoorKEnw

namespace Go.Proofs.YtdgmoiflahoihaaGreatDoor
open Go.RowKit
set_option linter.unusedSimpArgs false
set_option linter.unusedVariables false
theorem labLoop_ok {fx : List Bool} {l : List (RT 9)} (ht : TreeOk 9 l) : ∀ (k : Nat) (of : List Nat), OfOk of → OfOk (labLoop fx l k of)
 | 0, of, h => h
 | k + 1, of, h => by
  have g := enlF_grow fx 9 (of, false) l 0 h ht (by omega)
  unfold labLoop
  split
  ·exact labLoop_ok ht k _ g.ok
  ·exact g.ok
theorem headLab_ok : ∀ (hs : List Hd) (x : List Nat × List Bool), (∀ h ∈ hs, HdOk h) → OfOk x.1 → OfOk (headLab hs x).1
 | [], x, _, h => h
 | a :: r, x, hk, h => by
  rw [headLab_cons]
  exact headLab_ok r _ (fun y hy => hk y (by simp [hy])) (h.set _ _ (hk a (by simp)).2.2.1)
def ok30 (vh vr : Value) (L : List Nat) : List Value := [Value.int .i64 0, Value.int .i64 0, vh, vr] ++ L.map natV
theorem fold_set : ∀ (xs : List Value) (j : Nat) (pre mid : List Value), pre.length = 4 + j → mid.length = xs.length →
  List.foldl (fun (cs : Array Value) (x : Value × Nat) => cs.setIfInBounds (4 + x.2) x.1) (pre ++ mid).toArray (xs.zipIdx j) = (pre ++ xs).toArray
 | [], j, pre, mid, hp, hm => by
  have : mid = [] := List.eq_nil_of_length_eq_zero (by simpa using hm)
  subst this
  rfl
 | x :: r, j, pre, [], hp, hm => by simp at hm
 | x :: r, j, pre, m :: ms, hp, hm => by
  rw [List.zipIdx_cons, List.foldl_cons]
  have e : ((pre ++ m :: ms).toArray).setIfInBounds (4 + j) x = ((pre ++ [x]) ++ ms).toArray := by
   rw [List.setIfInBounds_toArray, List.set_append_right _ _ (by omega), hp, Nat.sub_self, List.set_cons_zero]
   simp
  simp only
  rw [e, fold_set r (j + 1) (pre ++ [x]) ms (by simp; omega) (by simpa using hm)]
  simp
theorem fold30 (vh vr : Value) (L : List Nat) (h : L.length = 26) :
  Array.foldl (fun (cs : Array Value) (x : Value × Nat) => cs.setIfInBounds (4 + x.2) x.1) #[.int .i64 0, .int .i64 0, vh, vr, .int .i64 0, .int .i64 0, .int .i64 0, .int .i64 0, .int .i64 0, .int .i64 0, .int .i64 0, .int .i64 0, .int .i64 0, .int .i64 0, .int .i64 0, .int .i64 0, .int .i64 0, .int .i64 0, .int .i64 0, .int .i64 0, .int .i64 0, .int .i64 0, .int .i64 0, .int .i64 0, .int .i64 0, .int .i64 0, .int .i64 0, .int .i64 0, .int .i64 0, .int .i64 0] (arrV L).zipIdx 0 26 = (ok30 vh vr L).toArray := by
 have hs : (arrV L).zipIdx.size = 26 := by simp [arrV, h]
 have e := Array.foldl_toList (fun (cs : Array Value) (x : Value × Nat) => cs.setIfInBounds (4 + x.2) x.1) (init := #[.int .i64 0, .int .i64 0, vh, vr, .int .i64 0, .int .i64 0, .int .i64 0, .int .i64 0, .int .i64 0, .int .i64 0, .int .i64 0, .int .i64 0, .int .i64 0, .int .i64 0, .int .i64 0, .int .i64 0, .int .i64 0, .int .i64 0, .int .i64 0, .int .i64 0, .int .i64 0, .int .i64 0, .int .i64 0, .int .i64 0, .int .i64 0, .int .i64 0, .int .i64 0, .int .i64 0, .int .i64 0, .int .i64 0]) (xs := (arrV L).zipIdx)
 rw [hs] at e
 rw [← e, Array.toList_zipIdx]
 exact fold_set (L.map natV) 0 [.int .i64 0, .int .i64 0, vh, vr] (List.replicate 26 (.int .i64 0)) rfl (by simp [h])
theorem ok30_size (vh vr : Value) (L : List Nat) (h : L.length = 26) : (ok30 vh vr L).toArray.size = 30 := by simp [ok30, h]
theorem ok30_one (aa ab : Option Addr) (na nb ca cb : Nat) (L : List Nat) : (ok30 (.slice aa na ca) (.slice ab nb cb) L).toArray.all (·.oneCell') = true := by
 apply all_oneCell_toArray
 intro v hv
 unfold ok30 at hv
 rcases List.mem_append.mp hv with h | h
 ·simp at h
  rcases h with rfl | rfl | rfl <;> rfl
 ·obtain ⟨n, _, rfl⟩ := List.mem_map.mp h
  rfl
theorem lab0_ok : OfOk lab0.1 := ⟨rfl, by decide⟩
theorem labelsP_ok {hs : List Hd} {l : List (RT 9)} (hk : ∀ h ∈ hs, HdOk h) (ht : TreeOk 9 l) : OfOk (labelsP hs l) := labLoop_ok ht _ _ (headLab_ok hs lab0 hk lab0_ok)
set_option maxRecDepth 100000 in
set_option maxHeartbeats 2000000 in
theorem text_flow (s : ByteArray) (w : World) (hs : s.size ≤ 400) (hpo : ParseOk s.data.toList) (hbad : (parseR s.data.toList).1.bad = false) (htw : twiceL [] (parseH s.data.toList).2 = none) (hwk : ¬ 5000 < workS 9 (parseR s.data.toList).2) (p : Nat) (hcl : cleanF (labelsP (parseH s.data.toList).2 (parseR s.data.toList).2) 9 0 (parseR s.data.toList).2 = some p) :
  Calls Tryz.prog 26 #[.string s] w fun e w' => e = .returned (.agg (e30 5 p).toArray) ∧ Below w.heap.size w w' := by
 have hz := rules_new w
 have hb := (Below.refl w.heap.size w).alloc (Nat.le_refl _) (.cells #[.int .i64 0, .int .i64 0, .slice none 0 0, .slice none 0 0, .int .i64 0, .int .i64 0, .int .i64 0, .int .i64 0, .int .i64 0, .int .i64 0, .int .i64 0, .int .i64 0, .int .i64 0, .int .i64 0, .int .i64 0, .int .i64 0, .int .i64 0, .int .i64 0, .int .i64 0, .int .i64 0, .int .i64 0, .int .i64 0, .int .i64 0, .int .i64 0, .int .i64 0, .int .i64 0, .int .i64 0, .int .i64 0, .int .i64 0, .int .i64 0] 71)
 have hWs : (w.alloc (.cells #[.int .i64 0, .int .i64 0, .slice none 0 0, .slice none 0 0, .int .i64 0, .int .i64 0, .int .i64 0, .int .i64 0, .int .i64 0, .int .i64 0, .int .i64 0, .int .i64 0, .int .i64 0, .int .i64 0, .int .i64 0, .int .i64 0, .int .i64 0, .int .i64 0, .int .i64 0, .int .i64 0, .int .i64 0, .int .i64 0, .int .i64 0, .int .i64 0, .int .i64 0, .int .i64 0, .int .i64 0, .int .i64 0, .int .i64 0, .int .i64 0] 71)).heap.size = w.heap.size + 1 := by simp
 have tl : decide (400 < (s.size : Int)) = false := by simp; omega
 have HPO0 := hpo
 generalize hHe : parseH s.data.toList = H at *
 generalize hRe : parseR s.data.toList = R at *
 have HHe : Hid (parseH s.data.toList = H) := hHe
 have HRe : Hid (parseR s.data.toList = R) := hRe
 have HPO : Hid (ParseOk2 H R) := ⟨by rw [← hHe]; exact hpo.heads, by rw [← hHe]; exact hpo.few, by rw [← hRe]; exact hpo.tree, by rw [← hRe]; exact hpo.work⟩
 have HBAD : Hid (R.1.bad = false) := hbad
 have HTW : Hid (twiceL [] H.2 = none) := htw
 have hwl : workS 9 R.2 < 1099511627776 := HPO.out.work
 generalize hke : workS 9 R.2 = k at *
 have HKE : Hid (workS 9 R.2 = k) := hke
 have hlk := labelsP_ok HPO.out.heads HPO.out.tree
 generalize hLe : labelsP H.2 R.2 = L at *
 have HLe : Hid (labelsP H.2 R.2 = L) := hLe
 have HLK : Hid (OfOk L) := hlk
 have hszL : (arrV L).size = 26 := by simp [arrV, hlk.len]
 have HCL : Hid _ := hcl
 clear hHe hRe hpo hbad htw HPO0 hke hLe hlk hcl
 go_enter Tryz.func26, Tryz.ntmps26
 go_upto_region 2 with fail
 generalize (w.alloc (.cells #[.int .i64 0, .int .i64 0, .slice none 0 0, .slice none 0 0, .int .i64 0, .int .i64 0, .int .i64 0, .int .i64 0, .int .i64 0, .int .i64 0, .int .i64 0, .int .i64 0, .int .i64 0, .int .i64 0, .int .i64 0, .int .i64 0, .int .i64 0, .int .i64 0, .int .i64 0, .int .i64 0, .int .i64 0, .int .i64 0, .int .i64 0, .int .i64 0, .int .i64 0, .int .i64 0, .int .i64 0, .int .i64 0, .int .i64 0, .int .i64 0] 71)) = W at *
 have HZ : Hid _ := hz
 clear hz
 go_wp2_with fail
 refine (parse_any s hs _).mono ?_
 rw [HRe.out, HHe.out]
 rintro e w1 ⟨hb1, _, he1⟩
 obtain ⟨vh, vr, rfl, hvh, hvr⟩ := he1 HBAD.out
 obtain ⟨ah, nh, ch, hvh2⟩ : ∃ aa nn cc, vh = .slice aa nn cc := by
  rcases Joins.ownsRow_forms hvh.1 with ⟨rfl, _⟩ | ⟨g, cap, rfl⟩ <;> exact ⟨_, _, _, rfl⟩
 obtain ⟨ar, nr, cr, hvr2⟩ := rulesV_form hvr
 subst hvh2 hvr2
 have hsz1 := hb1.size
 have hz1 : w1.heap[w.heap.size]? = some (.cells (e30 0 0).toArray 71 (0, 0)) := by rw [hb1.block _ (by omega)]; exact HZ.out
 have hbb : Below w.heap.size w w1 := hb.trans (hb1.mono (by omega))
 generalize hW2 : w1.alloc (.cells #[.slice ah nh ch, .slice ar nr cr] 68) = W2
 have HW2 : Hid _ := hW2
 have hb2 : Below w1.heap.size w1 W2 := by rw [← hW2]; exact (Below.refl _ _).alloc (Nat.le_refl _) _
 have hs2 : W2.heap.size = w1.heap.size + 1 := by rw [← hW2]; simp
 have t0 : W2.cell? ⟨w1.heap.size, 0, none⟩ = some (.slice ah nh ch) := by rw [← hW2]; simp [go_sem]
 have t1 : W2.cell? ⟨w1.heap.size, 1, none⟩ = some (.slice ar nr cr) := by rw [← hW2]; simp [go_sem]
 have hz2 : W2.heap[w.heap.size]? = some (.cells (e30 0 0).toArray 71 (0, 0)) := by rw [hb2.block _ (by omega)]; exact hz1
 have hbb2 : Below w.heap.size w W2 := hbb.trans (hb2.mono (by omega))
 have HVH : Hid (HeadsV W2 (fun k => W.heap.size ≤ k) (.slice ah nh ch) H.2) := headsV_frame hvh (fun k hk hl => ⟨hk, hb2.block k hl⟩)
 have HVR : Hid (RulesV 9 W2 (fun k => W.heap.size ≤ k) (.slice ar nr cr) R.2) := rulesV_below hvr hb2
 have HZ2 : Hid (W2.heap[w.heap.size]? = some (.cells (e30 0 0).toArray 71 (0, 0))) := hz2
 have HBB2 : Hid (Below w.heap.size w W2) := hbb2
 clear hb1 hz1 HZ hvh hvr hbb hW2 hb2 hz2 hbb2 hb
 go_upto_region 6 with fail
 rw [HW2.out]
 go_wp2_with fail
 refine (headsDiffer_any H.2 _ _ _ HPO.out.few HVH.out).mono ?_
 rw [HTW.out]
 rintro e w3 ⟨rfl, hb3⟩
 have hz3 : w3.heap[w.heap.size]? = some (.cells (e30 0 0).toArray 71 (0, 0)) := by rw [hb3.block _ (by omega)]; exact HZ2.out
 have HZ3 : Hid (w3.heap[w.heap.size]? = some (.cells (e30 0 0).toArray 71 (0, 0))) := hz3
 have HBB3 : Hid (Below w.heap.size w w3) := HBB2.out.trans (hb3.mono (by omega))
 have HVR3 : Hid (RulesV 9 w3 (fun k => W.heap.size ≤ k) (.slice ar nr cr) R.2) := rulesV_below HVR.out hb3
 have HVH3 : Hid (HeadsV w3 (fun k => W.heap.size ≤ k) (.slice ah nh ch) H.2) := headsV_frame HVH.out (fun k hk hl => ⟨hk, hb3.block k hl⟩)
 rw [← hb3.cell (p := ⟨w1.heap.size, 1, none⟩) (by simp only; omega)] at t1
 rw [← hb3.cell (p := ⟨w1.heap.size, 0, none⟩) (by simp only; omega)] at t0
 have hs3 := hb3.size
 clear hz3 hb3
 simp only [resV, Option.getD_none, Option.isNone_none]
 go_wp2_with fail
 refine (workOfAll_any 9 R.2 _ _ _ HPO.out.tree (by rw [HKE.out]; exact hwl) HVR3.out).mono ?_
 rw [HKE.out]
 rintro e w4 ⟨rfl, hb4⟩
 have tk : decide (5000 < (k : Int)) = false := by simp; omega
 have HZ4 : Hid (w4.heap[w.heap.size]? = some (.cells (e30 0 0).toArray 71 (0, 0))) := by show _ = _; rw [hb4.block _ (by omega)]; exact HZ3.out
 have HBB4 : Hid (Below w.heap.size w w4) := HBB3.out.trans (hb4.mono (by omega))
 have HVR4 : Hid (RulesV 9 w4 (fun k => W.heap.size ≤ k) (.slice ar nr cr) R.2) := rulesV_below HVR3.out hb4
 have HVH4 : Hid (HeadsV w4 (fun k => W.heap.size ≤ k) (.slice ah nh ch) H.2) := headsV_frame HVH3.out (fun k hk hl => ⟨hk, hb4.block k hl⟩)
 rw [← hb4.cell (p := ⟨w1.heap.size, 1, none⟩) (by simp only; omega)] at t1
 rw [← hb4.cell (p := ⟨w1.heap.size, 0, none⟩) (by simp only; omega)] at t0
 have hs4 := hb4.size
 clear hb4 HZ3 HBB3 HVR3 HVH3
 go_wp2_with fail
 refine (labelsOf_any H.2 R.2 (fun k => W.heap.size ≤ k) _ _ _ HPO.out.few HPO.out.heads HPO.out.tree HVH4.out HVR4.out).mono ?_
 rw [HLe.out]
 rintro e w5 ⟨rfl, hb5⟩
 have HZ5 : Hid (w5.heap[w.heap.size]? = some (.cells (e30 0 0).toArray 71 (0, 0))) := by show _ = _; rw [hb5.block _ (by omega)]; exact HZ4.out
 have HBB5 : Hid (Below w.heap.size w w5) := HBB4.out.trans (hb5.mono (by omega))
 have HVR5 : Hid (RulesV 9 w5 (fun k => W.heap.size ≤ k) (.slice ar nr cr) R.2) := rulesV_below HVR4.out hb5
 have HVH5 : Hid (HeadsV w5 (fun k => W.heap.size ≤ k) (.slice ah nh ch) H.2) := headsV_frame HVH4.out (fun k hk hl => ⟨hk, hb5.block k hl⟩)
 rw [← hb5.cell (p := ⟨w1.heap.size, 1, none⟩) (by simp only; omega)] at t1
 rw [← hb5.cell (p := ⟨w1.heap.size, 0, none⟩) (by simp only; omega)] at t0
 have hs5 := hb5.size
 clear hb5 HZ4 HBB4 HVR4 HVH4
 generalize hW6 : w5.alloc (.cells (arrV L) 69) = W6
 have HW6 : Hid _ := hW6
 have hbx6 : BoxAt W6 w5.heap.size L := by rw [← hW6]; exact BoxAt.new w5 L
 have hb6 : Below w5.heap.size w5 W6 := by rw [← hW6]; exact (Below.refl _ _).alloc (Nat.le_refl _) _
 have hs6 : W6.heap.size = w5.heap.size + 1 := by rw [← hW6]; simp
 have HBX6 : Hid (BoxAt W6 w5.heap.size L) := hbx6
 have HZ6 : Hid (W6.heap[w.heap.size]? = some (.cells (e30 0 0).toArray 71 (0, 0))) := by show _ = _; rw [hb6.block _ (by omega)]; exact HZ5.out
 have HBB6 : Hid (Below w.heap.size w W6) := HBB5.out.trans (hb6.mono (by omega))
 have HVR6 : Hid (RulesV 9 W6 (fun k => W.heap.size ≤ k) (.slice ar nr cr) R.2) := rulesV_below HVR5.out hb6
 have HVH6 : Hid (HeadsV W6 (fun k => W.heap.size ≤ k) (.slice ah nh ch) H.2) := headsV_frame HVH5.out (fun k hk hl => ⟨hk, hb6.block k hl⟩)
 rw [← hb6.cell (p := ⟨w1.heap.size, 1, none⟩) (by simp only; omega)] at t1
 rw [← hb6.cell (p := ⟨w1.heap.size, 0, none⟩) (by simp only; omega)] at t0
 clear hW6 hbx6 hb6 HZ5 HBB5 HVR5 HVH5
 go_wp2_with (first | (refine wpList_store_row rfl 69 _ _ rfl w5.heap.size (arrV L) rfl rfl 69 (arrV zero26) (by exact box_zero w5) (by rw [infoArr, hszL]) (by rw [hszL]; rfl) (arr_one L) ?_; rw [World.setRow_alloc_new, HW6.out]; simp only [Act.put]) | (refine wpList_load_row rfl 69 _ rfl w5.heap.size rfl 69 (arrV L) (0, 0) _ HBX6.out Tryz.underlying69 rfl (by rw [infoArr, hszL]) ?_))
 refine (allClean_any L HLK.out.len HLK.out.lt 9 0 R.2 (fun k => W.heap.size ≤ k) _ _ (by omega) HPO.out.tree HVR6.out).mono ?_
 rw [HCL.out]
 rintro e w7 ⟨rfl, hb7⟩
 have HZ7 : Hid (w7.heap[w.heap.size]? = some (.cells (e30 0 0).toArray 71 (0, 0))) := by show _ = _; rw [hb7.block _ (by omega)]; exact HZ6.out
 have HBB7 : Hid (Below w.heap.size w w7) := HBB6.out.trans (hb7.mono (by omega))
 have HVR7 : Hid (RulesV 9 w7 (fun k => W.heap.size ≤ k) (.slice ar nr cr) R.2) := rulesV_below HVR6.out hb7
 have HVH7 : Hid (HeadsV w7 (fun k => W.heap.size ≤ k) (.slice ah nh ch) H.2) := headsV_frame HVH6.out (fun k hk hl => ⟨hk, hb7.block k hl⟩)
 rw [← hb7.cell (p := ⟨w1.heap.size, 1, none⟩) (by simp only; omega)] at t1
 rw [← hb7.cell (p := ⟨w1.heap.size, 0, none⟩) (by simp only; omega)] at t0
 have HBX7 : Hid (BoxAt w7 w5.heap.size L) := HBX6.out.keep hb7 (by omega)
 have hs7 := hb7.size
 clear hb7 HZ6 HBB6 HVR6 HVH6 HBX6
 simp only [resV, Option.getD_some, Option.isNone_some]
 go_wp2_with (refine wpList_store_row rfl 71 (.tmp 2) _ rfl w.heap.size (e30 5 p).toArray rfl rfl 71 (e30 0 0).toArray HZ7.out (by rw [infoRules, e30_size]) rfl (e30_one _ _) ?_)
 have hfin : ((w7).setRow w.heap.size (e30 5 p).toArray).heap[w.heap.size]? = some (.cells (e30 5 p).toArray 71 (0, 0)) := setRow_heap _ _ _ _ _ _ HZ7.out
 exact bodyPost_ret (v := .agg (e30 5 p).toArray) (results_cell_row rfl _ _ w.heap.size 71 (e30 5 p).toArray (0, 0) _ rfl hfin Tryz.underlying71 rfl (by rw [infoRules, e30_size])) rfl ⟨rfl, below_setRow HBB7.out (Nat.le_refl _)⟩
set_option maxRecDepth 100000 in
set_option maxHeartbeats 2000000 in
theorem text_ok (s : ByteArray) (w : World) (hs : s.size ≤ 400) (hpo : ParseOk s.data.toList) (hbad : (parseR s.data.toList).1.bad = false) (htw : twiceL [] (parseH s.data.toList).2 = none) (hwk : ¬ 5000 < workS 9 (parseR s.data.toList).2) (hcl : cleanF (labelsP (parseH s.data.toList).2 (parseR s.data.toList).2) 9 0 (parseR s.data.toList).2 = none) :
  Calls Tryz.prog 26 #[.string s] w fun e w' => ∃ vh vr, e = .returned (.agg (ok30 vh vr (labelsP (parseH s.data.toList).2 (parseR s.data.toList).2)).toArray) ∧ Below w.heap.size w w' ∧ HeadsV w' (fun k => w.heap.size ≤ k) vh (parseH s.data.toList).2 ∧ RulesV 9 w' (fun k => w.heap.size ≤ k) vr (parseR s.data.toList).2 := by
 have hz := rules_new w
 have hb := (Below.refl w.heap.size w).alloc (Nat.le_refl _) (.cells #[.int .i64 0, .int .i64 0, .slice none 0 0, .slice none 0 0, .int .i64 0, .int .i64 0, .int .i64 0, .int .i64 0, .int .i64 0, .int .i64 0, .int .i64 0, .int .i64 0, .int .i64 0, .int .i64 0, .int .i64 0, .int .i64 0, .int .i64 0, .int .i64 0, .int .i64 0, .int .i64 0, .int .i64 0, .int .i64 0, .int .i64 0, .int .i64 0, .int .i64 0, .int .i64 0, .int .i64 0, .int .i64 0, .int .i64 0, .int .i64 0] 71)
 have hWs : (w.alloc (.cells #[.int .i64 0, .int .i64 0, .slice none 0 0, .slice none 0 0, .int .i64 0, .int .i64 0, .int .i64 0, .int .i64 0, .int .i64 0, .int .i64 0, .int .i64 0, .int .i64 0, .int .i64 0, .int .i64 0, .int .i64 0, .int .i64 0, .int .i64 0, .int .i64 0, .int .i64 0, .int .i64 0, .int .i64 0, .int .i64 0, .int .i64 0, .int .i64 0, .int .i64 0, .int .i64 0, .int .i64 0, .int .i64 0, .int .i64 0, .int .i64 0] 71)).heap.size = w.heap.size + 1 := by simp
 have tl : decide (400 < (s.size : Int)) = false := by simp; omega
 have HPO0 := hpo
 generalize hHe : parseH s.data.toList = H at *
 generalize hRe : parseR s.data.toList = R at *
 have HHe : Hid (parseH s.data.toList = H) := hHe
 have HRe : Hid (parseR s.data.toList = R) := hRe
 have HPO : Hid (ParseOk2 H R) := ⟨by rw [← hHe]; exact hpo.heads, by rw [← hHe]; exact hpo.few, by rw [← hRe]; exact hpo.tree, by rw [← hRe]; exact hpo.work⟩
 have HBAD : Hid (R.1.bad = false) := hbad
 have HTW : Hid (twiceL [] H.2 = none) := htw
 have hwl : workS 9 R.2 < 1099511627776 := HPO.out.work
 generalize hke : workS 9 R.2 = k at *
 have HKE : Hid (workS 9 R.2 = k) := hke
 have hlk := labelsP_ok HPO.out.heads HPO.out.tree
 generalize hLe : labelsP H.2 R.2 = L at *
 have HLe : Hid (labelsP H.2 R.2 = L) := hLe
 have HLK : Hid (OfOk L) := hlk
 have hszL : (arrV L).size = 26 := by simp [arrV, hlk.len]
 have HCL : Hid _ := hcl
 clear hHe hRe hpo hbad htw HPO0 hke hLe hlk hcl
 go_enter Tryz.func26, Tryz.ntmps26
 go_upto_region 2 with fail
 generalize (w.alloc (.cells #[.int .i64 0, .int .i64 0, .slice none 0 0, .slice none 0 0, .int .i64 0, .int .i64 0, .int .i64 0, .int .i64 0, .int .i64 0, .int .i64 0, .int .i64 0, .int .i64 0, .int .i64 0, .int .i64 0, .int .i64 0, .int .i64 0, .int .i64 0, .int .i64 0, .int .i64 0, .int .i64 0, .int .i64 0, .int .i64 0, .int .i64 0, .int .i64 0, .int .i64 0, .int .i64 0, .int .i64 0, .int .i64 0, .int .i64 0, .int .i64 0] 71)) = W at *
 have HZ : Hid _ := hz
 clear hz
 go_wp2_with fail
 refine (parse_any s hs _).mono ?_
 rw [HRe.out, HHe.out]
 rintro e w1 ⟨hb1, _, he1⟩
 obtain ⟨vh, vr, rfl, hvh, hvr⟩ := he1 HBAD.out
 obtain ⟨ah, nh, ch, hvh2⟩ : ∃ aa nn cc, vh = .slice aa nn cc := by
  rcases Joins.ownsRow_forms hvh.1 with ⟨rfl, _⟩ | ⟨g, cap, rfl⟩ <;> exact ⟨_, _, _, rfl⟩
 obtain ⟨ar, nr, cr, hvr2⟩ := rulesV_form hvr
 subst hvh2 hvr2
 have hsz1 := hb1.size
 have hz1 : w1.heap[w.heap.size]? = some (.cells (e30 0 0).toArray 71 (0, 0)) := by rw [hb1.block _ (by omega)]; exact HZ.out
 have hbb : Below w.heap.size w w1 := hb.trans (hb1.mono (by omega))
 generalize hW2 : w1.alloc (.cells #[.slice ah nh ch, .slice ar nr cr] 68) = W2
 have HW2 : Hid _ := hW2
 have hb2 : Below w1.heap.size w1 W2 := by rw [← hW2]; exact (Below.refl _ _).alloc (Nat.le_refl _) _
 have hs2 : W2.heap.size = w1.heap.size + 1 := by rw [← hW2]; simp
 have t0 : W2.cell? ⟨w1.heap.size, 0, none⟩ = some (.slice ah nh ch) := by rw [← hW2]; simp [go_sem]
 have t1 : W2.cell? ⟨w1.heap.size, 1, none⟩ = some (.slice ar nr cr) := by rw [← hW2]; simp [go_sem]
 have hz2 : W2.heap[w.heap.size]? = some (.cells (e30 0 0).toArray 71 (0, 0)) := by rw [hb2.block _ (by omega)]; exact hz1
 have hbb2 : Below w.heap.size w W2 := hbb.trans (hb2.mono (by omega))
 have HVH : Hid (HeadsV W2 (fun k => W.heap.size ≤ k) (.slice ah nh ch) H.2) := headsV_frame hvh (fun k hk hl => ⟨hk, hb2.block k hl⟩)
 have HVR : Hid (RulesV 9 W2 (fun k => W.heap.size ≤ k) (.slice ar nr cr) R.2) := rulesV_below hvr hb2
 have HZ2 : Hid (W2.heap[w.heap.size]? = some (.cells (e30 0 0).toArray 71 (0, 0))) := hz2
 have HBB2 : Hid (Below w.heap.size w W2) := hbb2
 clear hb1 hz1 HZ hvh hvr hbb hW2 hb2 hz2 hbb2 hb
 go_upto_region 6 with fail
 rw [HW2.out]
 go_wp2_with fail
 refine (headsDiffer_any H.2 _ _ _ HPO.out.few HVH.out).mono ?_
 rw [HTW.out]
 rintro e w3 ⟨rfl, hb3⟩
 have hz3 : w3.heap[w.heap.size]? = some (.cells (e30 0 0).toArray 71 (0, 0)) := by rw [hb3.block _ (by omega)]; exact HZ2.out
 have HZ3 : Hid (w3.heap[w.heap.size]? = some (.cells (e30 0 0).toArray 71 (0, 0))) := hz3
 have HBB3 : Hid (Below w.heap.size w w3) := HBB2.out.trans (hb3.mono (by omega))
 have HVR3 : Hid (RulesV 9 w3 (fun k => W.heap.size ≤ k) (.slice ar nr cr) R.2) := rulesV_below HVR.out hb3
 have HVH3 : Hid (HeadsV w3 (fun k => W.heap.size ≤ k) (.slice ah nh ch) H.2) := headsV_frame HVH.out (fun k hk hl => ⟨hk, hb3.block k hl⟩)
 rw [← hb3.cell (p := ⟨w1.heap.size, 1, none⟩) (by simp only; omega)] at t1
 rw [← hb3.cell (p := ⟨w1.heap.size, 0, none⟩) (by simp only; omega)] at t0
 have hs3 := hb3.size
 clear hz3 hb3
 simp only [resV, Option.getD_none, Option.isNone_none]
 go_wp2_with fail
 refine (workOfAll_any 9 R.2 _ _ _ HPO.out.tree (by rw [HKE.out]; exact hwl) HVR3.out).mono ?_
 rw [HKE.out]
 rintro e w4 ⟨rfl, hb4⟩
 have tk : decide (5000 < (k : Int)) = false := by simp; omega
 have HZ4 : Hid (w4.heap[w.heap.size]? = some (.cells (e30 0 0).toArray 71 (0, 0))) := by show _ = _; rw [hb4.block _ (by omega)]; exact HZ3.out
 have HBB4 : Hid (Below w.heap.size w w4) := HBB3.out.trans (hb4.mono (by omega))
 have HVR4 : Hid (RulesV 9 w4 (fun k => W.heap.size ≤ k) (.slice ar nr cr) R.2) := rulesV_below HVR3.out hb4
 have HVH4 : Hid (HeadsV w4 (fun k => W.heap.size ≤ k) (.slice ah nh ch) H.2) := headsV_frame HVH3.out (fun k hk hl => ⟨hk, hb4.block k hl⟩)
 rw [← hb4.cell (p := ⟨w1.heap.size, 1, none⟩) (by simp only; omega)] at t1
 rw [← hb4.cell (p := ⟨w1.heap.size, 0, none⟩) (by simp only; omega)] at t0
 have hs4 := hb4.size
 clear hb4 HZ3 HBB3 HVR3 HVH3
 go_wp2_with fail
 refine (labelsOf_any H.2 R.2 (fun k => W.heap.size ≤ k) _ _ _ HPO.out.few HPO.out.heads HPO.out.tree HVH4.out HVR4.out).mono ?_
 rw [HLe.out]
 rintro e w5 ⟨rfl, hb5⟩
 have HZ5 : Hid (w5.heap[w.heap.size]? = some (.cells (e30 0 0).toArray 71 (0, 0))) := by show _ = _; rw [hb5.block _ (by omega)]; exact HZ4.out
 have HBB5 : Hid (Below w.heap.size w w5) := HBB4.out.trans (hb5.mono (by omega))
 have HVR5 : Hid (RulesV 9 w5 (fun k => W.heap.size ≤ k) (.slice ar nr cr) R.2) := rulesV_below HVR4.out hb5
 have HVH5 : Hid (HeadsV w5 (fun k => W.heap.size ≤ k) (.slice ah nh ch) H.2) := headsV_frame HVH4.out (fun k hk hl => ⟨hk, hb5.block k hl⟩)
 rw [← hb5.cell (p := ⟨w1.heap.size, 1, none⟩) (by simp only; omega)] at t1
 rw [← hb5.cell (p := ⟨w1.heap.size, 0, none⟩) (by simp only; omega)] at t0
 have hs5 := hb5.size
 clear hb5 HZ4 HBB4 HVR4 HVH4
 generalize hW6 : w5.alloc (.cells (arrV L) 69) = W6
 have HW6 : Hid _ := hW6
 have hbx6 : BoxAt W6 w5.heap.size L := by rw [← hW6]; exact BoxAt.new w5 L
 have hb6 : Below w5.heap.size w5 W6 := by rw [← hW6]; exact (Below.refl _ _).alloc (Nat.le_refl _) _
 have hs6 : W6.heap.size = w5.heap.size + 1 := by rw [← hW6]; simp
 have HBX6 : Hid (BoxAt W6 w5.heap.size L) := hbx6
 have HZ6 : Hid (W6.heap[w.heap.size]? = some (.cells (e30 0 0).toArray 71 (0, 0))) := by show _ = _; rw [hb6.block _ (by omega)]; exact HZ5.out
 have HBB6 : Hid (Below w.heap.size w W6) := HBB5.out.trans (hb6.mono (by omega))
 have HVR6 : Hid (RulesV 9 W6 (fun k => W.heap.size ≤ k) (.slice ar nr cr) R.2) := rulesV_below HVR5.out hb6
 have HVH6 : Hid (HeadsV W6 (fun k => W.heap.size ≤ k) (.slice ah nh ch) H.2) := headsV_frame HVH5.out (fun k hk hl => ⟨hk, hb6.block k hl⟩)
 rw [← hb6.cell (p := ⟨w1.heap.size, 1, none⟩) (by simp only; omega)] at t1
 rw [← hb6.cell (p := ⟨w1.heap.size, 0, none⟩) (by simp only; omega)] at t0
 clear hW6 hbx6 hb6 HZ5 HBB5 HVR5 HVH5
 go_wp2_with (first | (refine wpList_store_row rfl 69 _ _ rfl w5.heap.size (arrV L) rfl rfl 69 (arrV zero26) (by exact box_zero w5) (by rw [infoArr, hszL]) (by rw [hszL]; rfl) (arr_one L) ?_; rw [World.setRow_alloc_new, HW6.out]; simp only [Act.put]) | (refine wpList_load_row rfl 69 _ rfl w5.heap.size rfl 69 (arrV L) (0, 0) _ HBX6.out Tryz.underlying69 rfl (by rw [infoArr, hszL]) ?_))
 refine (allClean_any L HLK.out.len HLK.out.lt 9 0 R.2 (fun k => W.heap.size ≤ k) _ _ (by omega) HPO.out.tree HVR6.out).mono ?_
 rw [HCL.out]
 rintro e w7 ⟨rfl, hb7⟩
 have HZ7 : Hid (w7.heap[w.heap.size]? = some (.cells (e30 0 0).toArray 71 (0, 0))) := by show _ = _; rw [hb7.block _ (by omega)]; exact HZ6.out
 have HBB7 : Hid (Below w.heap.size w w7) := HBB6.out.trans (hb7.mono (by omega))
 have HVR7 : Hid (RulesV 9 w7 (fun k => W.heap.size ≤ k) (.slice ar nr cr) R.2) := rulesV_below HVR6.out hb7
 have HVH7 : Hid (HeadsV w7 (fun k => W.heap.size ≤ k) (.slice ah nh ch) H.2) := headsV_frame HVH6.out (fun k hk hl => ⟨hk, hb7.block k hl⟩)
 rw [← hb7.cell (p := ⟨w1.heap.size, 1, none⟩) (by simp only; omega)] at t1
 rw [← hb7.cell (p := ⟨w1.heap.size, 0, none⟩) (by simp only; omega)] at t0
 have HBX7 : Hid (BoxAt w7 w5.heap.size L) := HBX6.out.keep hb7 (by omega)
 have hs7 := hb7.size
 clear hb7 HZ6 HBB6 HVR6 HVH6 HBX6
 simp only [resV, Option.getD_none, Option.isNone_none]
 have hlen := HLK.out.len
 go_wp2_with (first | (refine wpList_load_row rfl 69 _ rfl w5.heap.size rfl 69 (arrV L) (0, 0) _ HBX7.out Tryz.underlying69 rfl (by rw [infoArr, hszL]) ?_) | (refine wpList_store_row rfl 71 (.tmp 2) (.tmp 51) rfl w.heap.size (ok30 (.slice ah nh ch) (.slice ar nr cr) L).toArray rfl (by exact congrArg Value.agg (fold30 _ _ L HLK.out.len)) 71 (e30 0 0).toArray HZ7.out (by rw [infoRules, ok30_size _ _ _ HLK.out.len]) (by rw [ok30_size _ _ _ HLK.out.len]; rfl) (ok30_one _ _ _ _ _ _ _) ?_))
 have hfin : (w7.setRow w.heap.size (ok30 (.slice ah nh ch) (.slice ar nr cr) L).toArray).heap[w.heap.size]? = some (.cells (ok30 (.slice ah nh ch) (.slice ar nr cr) L).toArray 71 (0, 0)) := setRow_heap _ _ _ _ _ _ HZ7.out
 have hoth : ∀ j, j ≠ w.heap.size → (w7.setRow w.heap.size (ok30 (.slice ah nh ch) (.slice ar nr cr) L).toArray).heap[j]? = w7.heap[j]? := fun j hj => setRow_other w7 _ _ _ hj
 exact bodyPost_ret (v := .agg (ok30 (.slice ah nh ch) (.slice ar nr cr) L).toArray) (results_cell_row rfl _ _ w.heap.size 71 (ok30 (.slice ah nh ch) (.slice ar nr cr) L).toArray (0, 0) _ rfl hfin Tryz.underlying71 rfl (by rw [infoRules, ok30_size _ _ _ HLK.out.len])) rfl ⟨_, _, rfl, below_setRow HBB7.out (Nat.le_refl _), headsV_frame HVH7.out (fun k hk hl => ⟨by omega, hoth k (by omega)⟩), rulesV_frame (fun k hk hl => ⟨by omega, hoth k (by omega)⟩) 9 _ _ HVR7.out⟩
end Go.Proofs.YtdgmoiflahoihaaGreatDoor
namespace Go.Proofs.YtdgmoiflahoihaaGreatDoor
open Go.RowKit
set_option linter.unusedSimpArgs false
set_option linter.unusedVariables false
def checkP (t : List UInt8) : Int × Int :=
 if 400 < t.length then (1, 0)
 else if (parseR t).1.bad then (2, ((parseR t).1.pos : Int))
 else
  match twiceL [] (parseH t).2 with
  | some p => (3, (p : Int))
  | none =>
   if 5000 < workS 9 (parseR t).2 then (4, 0)
   else
    match cleanF (labelsP (parseH t).2 (parseR t).2) 9 0 (parseR t).2 with
    | some p => (5, (p : Int))
    | none => (0, 0)
def labsP (t : List UInt8) : List Nat := if (checkP t).1 = 0 then labelsP (parseH t).2 (parseR t).2 else zero26
structure TextC (t : List UInt8) (cs : List Value) : Prop where
 rest : ∃ vh vr aa ab na nb ca cb, vh = Value.slice aa na ca ∧ vr = Value.slice ab nb cb ∧ cs = [Value.int .i64 (checkP t).1, Value.int .i64 (checkP t).2, vh, vr] ++ (labsP t).map natV
 len : (labsP t).length = 26
theorem textC_err {t : List UInt8} {e p : Int} (h : checkP t = (e, p)) (he : e ≠ 0) : TextC t (e30 e p) := by
 have h1 : labsP t = zero26 := by unfold labsP; rw [h]; simp [he]
 exact ⟨⟨_, _, _, _, _, _, _, _, rfl, rfl, by rw [h1, h]; rfl⟩, by rw [h1]; rfl⟩
theorem text_any (s : ByteArray) (w : World) (hs : s.size ≤ maxLen) (hpo : s.size ≤ 400 → (parseR s.data.toList).1.bad = false → ParseOk s.data.toList) :
  Calls Tryz.prog 26 #[.string s] w fun e w' => ∃ cs, e = .returned (.agg cs.toArray) ∧ TextC s.data.toList cs ∧ Below w.heap.size w w' := by
 have hsl : s.data.toList.length = s.size := by simp
 by_cases h1 : 400 < s.size
 ·refine (text_long s w hs h1).mono ?_
  rintro e w' ⟨rfl, hb⟩
  exact ⟨_, rfl, textC_err (by unfold checkP; rw [hsl, if_pos h1]) (by decide), hb⟩
 have h : s.size ≤ 400 := by omega
 cases h2 : (parseR s.data.toList).1.bad
 case true =>
  refine (text_misform s w h h2).mono ?_
  rintro e w' ⟨rfl, hb⟩
  exact ⟨_, rfl, textC_err (by unfold checkP; rw [hsl, if_neg h1, if_pos h2]) (by decide), hb⟩
 have ho := hpo h h2
 have hn2 : ¬ (parseR s.data.toList).1.bad = true := by rw [h2]; decide
 cases h3 : twiceL [] (parseH s.data.toList).2 with
 | some p =>
  refine (text_name s w h ho h2 p h3).mono ?_
  rintro e w' ⟨rfl, hb⟩
  exact ⟨_, rfl, textC_err (by unfold checkP; rw [hsl, if_neg h1, if_neg hn2, h3]) (by decide), hb⟩
 | none =>
 by_cases h4 : 5000 < workS 9 (parseR s.data.toList).2
 ·refine (text_large s w h ho h2 h3 h4).mono ?_
  rintro e w' ⟨rfl, hb⟩
  exact ⟨_, rfl, textC_err (by unfold checkP; rw [hsl, if_neg h1, if_neg hn2, h3]; simp only; rw [if_pos h4]) (by decide), hb⟩
 cases h5 : cleanF (labelsP (parseH s.data.toList).2 (parseR s.data.toList).2) 9 0 (parseR s.data.toList).2 with
 | some p =>
  refine (text_flow s w h ho h2 h3 h4 p h5).mono ?_
  rintro e w' ⟨rfl, hb⟩
  exact ⟨_, rfl, textC_err (by unfold checkP; rw [hsl, if_neg h1, if_neg hn2, h3]; simp only; rw [if_neg h4, h5]) (by decide), hb⟩
 | none =>
  refine (text_ok s w h ho h2 h3 h4 h5).mono ?_
  rintro e w' ⟨vh, vr, rfl, hb, hvh, hvr⟩
  have hc : checkP s.data.toList = (0, 0) := by unfold checkP; rw [hsl, if_neg h1, if_neg hn2, h3]; simp only; rw [if_neg h4, h5]
  have hl : labsP s.data.toList = labelsP (parseH s.data.toList).2 (parseR s.data.toList).2 := by unfold labsP; rw [hc]; simp
  obtain ⟨ab, nb, cb, hvr2⟩ := rulesV_form hvr
  obtain ⟨aa, na, ca, hvh2⟩ : ∃ aa nn cc, vh = .slice aa nn cc := by
   rcases Joins.ownsRow_forms hvh.1 with ⟨rfl, _⟩ | ⟨g, cap, rfl⟩ <;> exact ⟨_, _, _, rfl⟩
  refine ⟨_, rfl, ⟨⟨vh, vr, aa, ab, na, nb, ca, cb, hvh2, hvr2, by rw [hc, hl]; rfl⟩, ?_⟩, hb⟩
  rw [hl]
  exact (labelsP_ok ho.heads ho.tree).len
theorem TextC.size {t : List UInt8} {cs : List Value} (h : TextC t cs) : cs.toArray.size = 30 := by
 obtain ⟨vh, vr, aa, ab, na, nb, ca, cb, rfl, rfl, rfl⟩ := h.rest
 simp [h.len]
theorem TextC.one {t : List UInt8} {cs : List Value} (h : TextC t cs) : cs.toArray.all (·.oneCell') = true := by
 obtain ⟨vh, vr, aa, ab, na, nb, ca, cb, rfl, rfl, rfl⟩ := h.rest
 apply all_oneCell_toArray
 intro v hv
 rcases List.mem_append.mp hv with h | h
 ·simp at h
  rcases h with rfl | rfl | rfl | rfl <;> rfl
 ·obtain ⟨n, _, rfl⟩ := List.mem_map.mp h
  rfl
theorem TextC.cell0 {t : List UInt8} {cs : List Value} (h : TextC t cs) : cs[0]? = some (.int .i64 (checkP t).1) := by
 obtain ⟨vh, vr, aa, ab, na, nb, ca, cb, rfl, rfl, rfl⟩ := h.rest
 rfl
theorem TextC.cell1 {t : List UInt8} {cs : List Value} (h : TextC t cs) : cs[1]? = some (.int .i64 (checkP t).2) := by
 obtain ⟨vh, vr, aa, ab, na, nb, ca, cb, rfl, rfl, rfl⟩ := h.rest
 rfl
theorem TextC.labs {t : List UInt8} {cs : List Value} (h : TextC t cs) (j : Nat) : cs[4 + j]? = ((labsP t).map natV)[j]? := by
 obtain ⟨vh, vr, aa, ab, na, nb, ca, cb, rfl, rfl, rfl⟩ := h.rest
 rw [List.getElem?_append_right (by simp)]
 simp
end Go.Proofs.YtdgmoiflahoihaaGreatDoor
namespace Go.Proofs.YtdgmoiflahoihaaGreatDoor
open Go.RowKit
set_option linter.unusedSimpArgs false
set_option linter.unusedVariables false
set_option maxRecDepth 100000 in
set_option maxHeartbeats 2000000 in
theorem tariffCheck_any (s : ByteArray) (w : World) (hs : s.size ≤ maxLen) (hpo : s.size ≤ 400 → (parseR s.data.toList).1.bad = false → ParseOk s.data.toList) :
  Calls Tryz.prog 10 #[.string s] w fun e w' => e = .returned (.tuple #[.int .i64 (checkP s.data.toList).1, .int .i64 (checkP s.data.toList).2]) ∧ Below w.heap.size w w' := by
 have HPO : Hid _ := hpo
 clear hpo
 generalize hcp : checkP s.data.toList = cp
 have HCP : Hid (checkP s.data.toList = cp) := hcp
 clear hcp
 go_enter Tryz.func10, Tryz.ntmps10
 go_upto_region 2 with (first | (go_at_call 26; refine (text_any s _ hs HPO.out).mono ?_; rintro e w1 ⟨cs, rfl, htc, hb1⟩; have HTC : Hid (TextC s.data.toList cs) := htc; clear htc) | (refine wpList_store_row rfl 71 (.tmp 4) (.tmp 6) rfl w1.heap.size cs.toArray rfl rfl 71 (e30 0 0).toArray (by exact rules_new w1) (by rw [infoRules, HTC.out.size]) (by rw [HTC.out.size]; rfl) HTC.out.one ?_; rw [World.setRow_alloc_new]; simp only [Act.put]))
 generalize hW : w1.alloc (.cells cs.toArray 71) = W
 have q0 : W.cell? ⟨w1.heap.size, 0, none⟩ = some (.int .i64 (checkP s.data.toList).1) := by rw [← hW, cell_of_row _ _ _ _ _ _ (heap_alloc_new w1 _)]; simpa using HTC.out.cell0
 have q1 : W.cell? ⟨w1.heap.size, 1, none⟩ = some (.int .i64 (checkP s.data.toList).2) := by rw [← hW, cell_of_row _ _ _ _ _ _ (heap_alloc_new w1 _)]; simpa using HTC.out.cell1
 have HBW : Hid (Below w.heap.size w W) := by rw [← hW]; exact hb1.alloc (by have := hb1.size; omega) _
 rw [HCP.out] at q0 q1
 clear hW hb1
 go_region
 all_goals go_wp2_with fail
 all_goals go_ret2
 all_goals exact ⟨rfl, HBW.out.drew⟩
end Go.Proofs.YtdgmoiflahoihaaGreatDoor
