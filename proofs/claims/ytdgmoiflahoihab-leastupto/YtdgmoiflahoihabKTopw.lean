import Derived.Test.YtdgmoiflahoihabKCheckw

namespace Go.Proofs.Ytdgmoiflahoihab
open Go.RowKit
set_option linter.unusedSimpArgs false
set_option linter.unusedVariables false
set_option maxRecDepth 100000 in
set_option maxHeartbeats 2000000 in
theorem tariffCheck_any (s : ByteArray) (w : World) (hs : s.size ≤ maxLen) (hpo : s.size ≤ 400 → (parseR s.data.toList).1.bad = false → ParseOk s.data.toList) :
  Calls Try.prog 12 #[.string s] w fun e w' => e = .returned (.tuple #[.int .i64 (checkP s.data.toList).1, .int .i64 (checkP s.data.toList).2]) ∧ Below w.heap.size w w' := by
 have HPO : Hid _ := hpo
 clear hpo
 generalize hcp : checkP s.data.toList = cp
 have HCP : Hid (checkP s.data.toList = cp) := hcp
 clear hcp
 go_enter Try.func12, Try.ntmps12
 go_upto_region 2 with (first | (go_at_call 17; refine (text_any s _ hs HPO.out).mono ?_; rintro e w1 ⟨cs, rfl, htc, hb1⟩; have HTC : Hid (TextC s.data.toList cs) := htc; clear htc) | (refine wpList_store_row rfl 54 (.tmp 4) (.tmp 6) rfl w1.heap.size cs.toArray rfl rfl 54 (e30 0 0).toArray (by exact rules_new w1) (by rw [infoRules, HTC.out.size]) (by rw [HTC.out.size]; rfl) HTC.out.one ?_; rw [World.setRow_alloc_new]; simp only [Act.put]))
 generalize hW : w1.alloc (.cells cs.toArray 54) = W
 have q0 : W.cell? ⟨w1.heap.size, 0, none⟩ = some (.int .i64 (checkP s.data.toList).1) := by rw [← hW, cell_of_row _ _ _ _ _ _ (heap_alloc_new w1 _)]; simpa using HTC.out.cell0
 have q1 : W.cell? ⟨w1.heap.size, 1, none⟩ = some (.int .i64 (checkP s.data.toList).2) := by rw [← hW, cell_of_row _ _ _ _ _ _ (heap_alloc_new w1 _)]; simpa using HTC.out.cell1
 have HBW : Hid (Below w.heap.size w W) := by rw [← hW]; exact hb1.alloc (by have := hb1.size; omega) _
 rw [HCP.out] at q0 q1
 clear hW hb1
 go_region
 all_goals go_wp2_with fail
 all_goals go_ret2
 all_goals exact ⟨rfl, HBW.out.drew⟩
end Go.Proofs.Ytdgmoiflahoihab
