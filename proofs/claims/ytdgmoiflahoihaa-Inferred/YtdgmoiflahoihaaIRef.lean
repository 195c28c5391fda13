import Derived.Test.YtdgmoiflahoihaaCRef
import Derived.Deep.MidRow
import Derived.Laws.ResultCell

/- The reference's Labels. -/
namespace Go.Proofs.Ytdgmoiflahoihaa
open Go.RowKit
set_option linter.unusedSimpArgs false
set_option linter.unusedVariables false

theorem results_range_tmp {P : Program} {fn : Func} {p u : Tmp} {ty : TypeId} (h : fn.results = #[.cell p ty, .tmp u]) (tmps : Array Value) (w : World) (g : Nat) (cs : List Value) (d : TypeDesc) (x : Value)
    (hp : tmps.getD p undef = .pointer (some ⟨g, 0, none⟩)) (hx : tmps.getD u undef = x) (hc : w.rangeAt g 0 cs)
    (hu : P.underlying ty = some d) (hd : d.isRow = true) (hi : (P.info? ty).map (·.size) = some cs.length) :
    (results fn tmps).run P w = .ok (.tuple #[.agg cs.toArray, x]) w := by
  have hl := run_loadVar_mid (P := P) w g 0 ty cs d hc hu hd hi
  rw [results_cell_tmp h, hp, hx]
  simp [asAddr, hl, Result.andThen]

theorem row_range {w : World} {g : Nat} {t : TypeId} {R : List Nat} {fr : Nat × Nat} (h : w.heap[g]? = some (.cells (arrV R) t fr)) : w.rangeAt g 0 (R.map natV) := by
  intro j v hv
  rw [Nat.zero_add, cell_of_row _ _ _ _ _ _ h]
  simpa [arrV] using hv

theorem arrV_list (R : List Nat) : (R.map natV).toArray = arrV R := by simp [arrV]

set_option maxRecDepth 100000 in
set_option maxHeartbeats 2000000 in
theorem refLabels_bad (s : ByteArray) (w : World) (e p : Int) (hs : s.size ≤ maxLen) (he : (e != 0) = true) (hc : checkC s.data.toList = some (e, p)) :
    Calls Try.prog 12 #[.string s] w fun x w' => x = .returned (.tuple #[.agg (arrV zero26), .int .i64 e]) ∧ Below w.heap.size w w' := by
  have HC : Hid (checkC s.data.toList = some (e, p)) := hc
  clear hc
  have hz := box_zero w
  have hb := (Below.refl w.heap.size w).alloc (Nat.le_refl _) (.cells (arrV zero26) 26)
  have hWs : (w.alloc (.cells (arrV zero26) 26)).heap.size = w.heap.size + 1 := by simp
  go_enter Try.func12, Try.ntmps12
  go_upto_region 1 with fail
  rw [← zeroArr]
  have hh : (w.alloc (.cells (arrV zero26) 26)).heap[w.heap.size]? = some (.cells (arrV zero26) 26 (0, 0)) := heap_alloc_new w _
  generalize hW : w.alloc (.cells (arrV zero26) 26) = W at *
  clear hz hW
  have HH : Hid (W.heap[w.heap.size]? = some (.cells (arrV zero26) 26 (0, 0))) := hh
  clear hh
  go_wp2_with (first | (go_at_call 10; refine (refCheck_any s _ (e, p) hs HC.out).mono ?_; rintro x1 w1 ⟨rfl, hb1⟩; have HH1 : Hid (w1.heap[w.heap.size]? = some (.cells (arrV zero26) 26 (0, 0))) := (by show _ = _; rw [hb1.block _ (by omega)]; exact HH.out)) | (refine wpList_store_row rfl 26 (.tmp 2) (.tmp 14) rfl w.heap.size (arrV zero26) rfl (by rw [zeroArr]; rfl) 26 (arrV zero26) HH1.out (by rw [infoArr]; rfl) rfl (arr_one zero26) ?_; simp only [Act.put]))
  have hfin : (w1.setRow w.heap.size (arrV zero26)).heap[w.heap.size]? = some (.cells (arrV zero26) 26 (0, 0)) := setRow_heap w1 _ _ _ _ _ HH1.out
  have hr := row_range hfin
  have hb2 := hb.trans (hb1.mono (by omega))
  exact bodyPost_ret (v := .tuple #[.agg (arrV zero26), .int .i64 e]) (by rw [← arrV_list]; exact results_range_tmp rfl _ _ w.heap.size _ _ _ rfl rfl hr Try.underlying26 rfl (by rw [infoArr]; rfl)) rfl ⟨rfl, below_setRow hb2 (Nat.le_refl _)⟩

set_option maxRecDepth 100000 in
set_option maxHeartbeats 2000000 in
theorem refLabels_good (s : ByteArray) (w : World) (l : List Fl) (R : List Nat) (hs : s.size ≤ 400) (hc : checkC s.data.toList = some (0, 0)) (hfl : flowsC (keptL s.data.toList) = some l) (hok : FlOk l) (hl : labsF (keptL s.data.toList) l 26 = some R) :
    Calls Try.prog 12 #[.string s] w fun x w' => x = .returned (.tuple #[.agg (arrV R), .int .i64 0]) ∧ Below w.heap.size w w' := by
  have HC : Hid (checkC s.data.toList = some (0, 0)) := hc
  clear hc
  have hsm : s.size ≤ maxLen := by unfold maxLen; omega
  obtain ⟨hRl, hR16⟩ := labsF_ok _ _ hl
  have hsz : (arrV R).size = 26 := by simp [arrV, hRl]
  have hlen : (R.map natV).length = 26 := by simp [hRl]
  have HFL : Hid (flowsC (keptL s.data.toList) = some l) := hfl
  have HL : Hid (labsF (keptL s.data.toList) l 26 = some R) := hl
  clear hfl hl
  generalize hCe : keptL s.data.toList = C at *
  generalize hAe : atL s.data.toList 0 = A at *
  have HCe : Hid (keptL s.data.toList = C) := hCe
  have HAe : Hid (atL s.data.toList 0 = A) := hAe
  clear hCe hAe
  have hb := (Below.refl w.heap.size w).alloc (Nat.le_refl _) (.cells (arrV zero26) 26)
  have hWs : (w.alloc (.cells (arrV zero26) 26)).heap.size = w.heap.size + 1 := by simp
  go_enter Try.func12, Try.ntmps12
  go_upto_region 1 with fail
  rw [← zeroArr]
  have hh : (w.alloc (.cells (arrV zero26) 26)).heap[w.heap.size]? = some (.cells (arrV zero26) 26 (0, 0)) := heap_alloc_new w _
  generalize hW : w.alloc (.cells (arrV zero26) 26) = W at *
  clear hW
  have HH : Hid (W.heap[w.heap.size]? = some (.cells (arrV zero26) 26 (0, 0))) := hh
  clear hh
  go_wp2_with (first | (go_at_call 10; refine (refCheck_any s _ (0, 0) hsm HC.out).mono ?_; rintro x1 w1 ⟨rfl, hb1⟩; have HH1 : Hid (w1.heap[w.heap.size]? = some (.cells (arrV zero26) 26 (0, 0))) := (by show _ = _; rw [hb1.block _ (by omega)]; exact HH.out); have hs1 := hb1.size) | (go_at_call 26; refine (read_any s _ hs).mono ?_; rintro x2 w2 ⟨rfl, hb2, hbk⟩; rw [HCe.out, HAe.out] at hbk; have HBK : Hid (BookAt w2 w1.heap.size C A) := hbk; clear hbk; have hs2 := hb2.size; have HH2 : Hid (w2.heap[w.heap.size]? = some (.cells (arrV zero26) 26 (0, 0))) := (by show _ = _; rw [hb2.block _ (by omega)]; exact HH1.out)) | (go_at_call 30; refine (labels_any _ l R C A _ HBK.out HFL.out hok HL.out).mono ?_; rintro x3 w3 ⟨rfl, hb3⟩; have HH3 : Hid (w3.heap[w.heap.size]? = some (.cells (arrV zero26) 26 (0, 0))) := (by show _ = _; rw [hb3.block _ (by omega)]; exact HH2.out)) | (refine wpList_store_row rfl 26 (.tmp 2) (.tmp 19) rfl w.heap.size (arrV R) rfl rfl 26 (arrV zero26) HH3.out (by rw [infoArr, hsz]) (by rw [hsz]; rfl) (arr_one R) ?_; simp only [Act.put]))
  have hfin : (w3.setRow w.heap.size (arrV R)).heap[w.heap.size]? = some (.cells (arrV R) 26 (0, 0)) := setRow_heap w3 _ _ _ _ _ HH3.out
  have hr := row_range hfin
  have hbb := hb.trans ((hb1.mono (by omega)).trans ((hb2.mono (by omega)).trans (hb3.mono (by omega))))
  exact bodyPost_ret (v := .tuple #[.agg (arrV R), .int .i64 0]) (by rw [← arrV_list]; exact results_range_tmp rfl _ _ w.heap.size _ _ _ rfl rfl hr Try.underlying26 rfl (by rw [infoArr, hlen])) rfl ⟨rfl, below_setRow hbb (Nat.le_refl _)⟩

end Go.Proofs.Ytdgmoiflahoihaa
