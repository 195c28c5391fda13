import Derived.Test.YtdgmoiflahoihaaGreatDoorIProgw

namespace Go.Proofs.YtdgmoiflahoihaaGreatDoor
open Go.RowKit
set_option linter.unusedSimpArgs false
set_option linter.unusedVariables false
theorem progLabels_any (s : ByteArray) (w : World) (e : Int) (R : List Nat) (hs : s.size ≤ maxLen) (he : (checkP s.data.toList).1 = e) (hR : labsP s.data.toList = R) :
  Calls Tryz.prog 38 #[.string s] w fun x w' => x = .returned (.tuple #[.agg (arrV R), .int .i64 e]) ∧ Below w.heap.size w w' := by
 have hsl : s.data.toList.length = s.size := by simp
 exact tariffLabels_any s w e R hs (fun h hb => parse_ok (by omega) hb) he hR
theorem plainInt : Tryz.prog.plainKey 3 = true := by kernel_rfl
theorem items_self {R : List Nat} (hR : R.length = 26) (d : Nat) (w : World) : ∀ (is : List Nat), (∀ i ∈ is, i < 26) → (Op.eqItems (d + 1) 3 1 (arrV R) (arrV R) is).run Tryz.prog w = .ok true w
 | [], _ => by simp [Op.eqItems]
 | i :: is, h => by
  have hi : i < R.length := by rw [hR]; exact h i (by simp)
  have hx : (arrV R)[i * 1]? = some (.int .i64 R[i]) := by
   rw [Nat.mul_one]
   simp [arrV, natV, List.getElem?_eq_getElem hi]
  have hp := run_part_plain w plainInt hx
  have hq := run_equalIn_int w d 3 .i64 .i64 R[i] R[i] Tryz.underlying3
  have ih := items_self hR d w is (fun j hj => h j (by simp [hj]))
  simp only [Op.eqItems, Sem.run_bind, hp, hq, Result.andThen_ok, beq_self_eq_true, Bool.not_true, Bool.false_eq_true, if_false]
  exact ih
theorem arr_self {R : List Nat} (hR : R.length = 26) (w : World) : (Op.equalIn 10000 69 (.agg (arrV R)) (.agg (arrV R))).run Tryz.prog w = .ok true w := by
 have hc : Tryz.prog.cellsOf 3 = 1 := by kernel_rfl
 obtain ⟨i, hi⟩ := info_of_underlying Tryz.underlying3
 rw [run_equalIn_array w 9999 (arrV R) (arrV R) Tryz.underlying69 hi, hc]
 exact items_self hR 9998 w _ (fun i hi => by simpa using hi)
theorem wpList_wanted {P : Program} {ops : Array Oper} {rest : List Oper} {o : Oper} {a : Act} {w : World} {Q : Exit → Act → World → Prop} (hw : Region.wanted o (yielded ops a.tmps) = true)
  (h : ∀ K : Act → World → Prop, (∀ a w, wpList P ops Q rest a w → K a w) → o.wp P a w K Q) : wpList P ops Q (o :: rest) a w :=
 wpList_step fun K hK => by rw [if_pos hw]; exact h K hK
def goldT : ByteArray := ⟨#[63, 97, 58, 65, 59, 63, 98, 58, 66, 59, 120, 61, 121, 59, 121, 61, 97, 59, 40, 98, 41, 123, 122, 61, 49, 59, 125]⟩
def goldR : List Nat := [1, 2, 0, 0, 0, 0, 0, 0, 0, 0, 0, 0, 0, 0, 0, 0, 0, 0, 0, 0, 0, 0, 0, 1, 1, 2]
set_option maxRecDepth 100000 in
theorem gold_check : (checkP goldT.data.toList).1 = 0 := by kernel_rfl
set_option maxRecDepth 100000 in
theorem gold_labs : labsP goldT.data.toList = goldR := by kernel_rfl
theorem gold_set : ((((zero26.set 0 1).set 1 2).set 23 1).set 24 1).set 25 2 = goldR := by decide
set_option maxRecDepth 100000 in
set_option maxHeartbeats 2000000 in
theorem labelled_any (w : World) :
  Calls Tryz.prog 16 #[] w fun e w' => e = .returned (.bool true) ∧ Below w.heap.size w w' := by
 have HL : Hid (∀ w, Calls Tryz.prog 38 #[.string goldT] w fun x w' => x = .returned (.tuple #[.agg (arrV goldR), .int .i64 0]) ∧ Below w.heap.size w w') := fun w => progLabels_any goldT w 0 goldR (by decide) gold_check gold_labs
 unfold goldT at HL
 have HS : Hid (((((zero26.set 0 1).set 1 2).set 23 1).set 24 1).set 25 2 = goldR) := gold_set
 have heq := arr_self (R := goldR) rfl
 have hsz : (arrV goldR).size = 26 := rfl
 generalize goldR = R at *
 go_enter Tryz.func16, Tryz.ntmps16
 go_upto_region 3 with (first | (go_at_call 38; refine (HL.out _).mono ?_; rintro x1 w1 ⟨rfl, hb1⟩) | (refine wpList_store_row rfl 69 (.tmp 1) (.tmp 6) rfl w1.heap.size (arrV R) rfl rfl 69 (arrV zero26) (by exact box_zero w1) (by rw [infoArr, hsz]) (by rw [hsz]; rfl) (arr_one R) ?_; rw [World.setRow_alloc_new]; simp only [Act.put]))
 rw [← zeroArr]
 have hs1 := hb1.size
 have hs1' : (w1.alloc (.cells (arrV R) 69)).heap.size = w1.heap.size + 1 := by simp
 have hg1 : ((w1.alloc (.cells (arrV R) 69)).alloc (.cells (arrV zero26) 69)).heap[w1.heap.size]? = some (.cells (arrV R) 69 (0, 0)) := by
  rw [heap_alloc_old _ _ (by omega)]
  exact heap_alloc_new w1 _
 have hX := BoxAt.new (w1.alloc (.cells (arrV R) 69)) zero26
 have hbf : Below w.heap.size w ((w1.alloc (.cells (arrV R) 69)).alloc (.cells (arrV zero26) 69)) := (hb1.alloc (by omega) _).alloc (by omega) _
 rw [hs1'] at hX
 generalize (w1.alloc (.cells (arrV R) 69)).alloc (.cells (arrV zero26) 69) = W at *
 have hne : ¬ w1.heap.size = w1.heap.size + 1 := by omega
 have c0 := hX.cell 0 (by decide)
 have c1 := hX.cell 1 (by decide)
 have c23 := hX.cell 23 (by decide)
 have c24 := hX.cell 24 (by decide)
 have c25 := hX.cell 25 (by decide)
 have fz := hX.frozen
 have hX2 : BoxAt (((((W.setCell ⟨w1.heap.size + 1, 0, none⟩ (.int .i64 1)).setCell ⟨w1.heap.size + 1, 1, none⟩ (.int .i64 2)).setCell ⟨w1.heap.size + 1, 23, none⟩ (.int .i64 1)).setCell ⟨w1.heap.size + 1, 24, none⟩ (.int .i64 1)).setCell ⟨w1.heap.size + 1, 25, none⟩ (.int .i64 2)) (w1.heap.size + 1) R := by
  have h := ((((hX.set 0 1).set 1 2).set 23 1).set 24 1).set 25 2
  rw [HS.out] at h
  exact h
 have hg2 : (((((W.setCell ⟨w1.heap.size + 1, 0, none⟩ (.int .i64 1)).setCell ⟨w1.heap.size + 1, 1, none⟩ (.int .i64 2)).setCell ⟨w1.heap.size + 1, 23, none⟩ (.int .i64 1)).setCell ⟨w1.heap.size + 1, 24, none⟩ (.int .i64 1)).setCell ⟨w1.heap.size + 1, 25, none⟩ (.int .i64 2)).heap[w1.heap.size]? = some (.cells (arrV R) 69 (0, 0)) := by
  rw [Below.heap_setCell _ _ _ _ hne, Below.heap_setCell _ _ _ _ hne, Below.heap_setCell _ _ _ _ hne, Below.heap_setCell _ _ _ _ hne, Below.heap_setCell _ _ _ _ hne]
  exact hg1
 have hlo : w.heap.size ≤ w1.heap.size + 1 := by omega
 have hb2 : Below w.heap.size w (((((W.setCell ⟨w1.heap.size + 1, 0, none⟩ (.int .i64 1)).setCell ⟨w1.heap.size + 1, 1, none⟩ (.int .i64 2)).setCell ⟨w1.heap.size + 1, 23, none⟩ (.int .i64 1)).setCell ⟨w1.heap.size + 1, 24, none⟩ (.int .i64 1)).setCell ⟨w1.heap.size + 1, 25, none⟩ (.int .i64 2)) := ((((hbf.setCell hlo _).setCell hlo _).setCell hlo _).setCell hlo _).setCell hlo _
 have HX2 : Hid (BoxAt (((((W.setCell ⟨w1.heap.size + 1, 0, none⟩ (.int .i64 1)).setCell ⟨w1.heap.size + 1, 1, none⟩ (.int .i64 2)).setCell ⟨w1.heap.size + 1, 23, none⟩ (.int .i64 1)).setCell ⟨w1.heap.size + 1, 24, none⟩ (.int .i64 1)).setCell ⟨w1.heap.size + 1, 25, none⟩ (.int .i64 2)) (w1.heap.size + 1) R) := hX2
 have HG2 : Hid _ := hg2
 have HB2 : Hid _ := hb2
 clear hX hg1 hbf hX2 hg2 hb2 hb1
 go_upto_region 8 with fail
 generalize ((((W.setCell ⟨w1.heap.size + 1, 0, none⟩ (.int .i64 1)).setCell ⟨w1.heap.size + 1, 1, none⟩ (.int .i64 2)).setCell ⟨w1.heap.size + 1, 23, none⟩ (.int .i64 1)).setCell ⟨w1.heap.size + 1, 24, none⟩ (.int .i64 1)).setCell ⟨w1.heap.size + 1, 25, none⟩ (.int .i64 2) = W2 at *
 go_wp2_with (first | (refine wpList_wanted (by rfl) fun K hK => wp_load_row 69 (.tmp 1) rfl w1.heap.size rfl 69 (arrV R) (0, 0) _ HG2.out Tryz.underlying69 rfl (by rw [infoArr, hsz]) (hK _ _ ?_); simp only [Act.put]) | (refine wpList_wanted (by rfl) fun K hK => wp_load_row 69 (.tmp 3) rfl (w1.heap.size + 1) rfl 69 (arrV R) (0, 0) _ HX2.out Tryz.underlying69 rfl (by rw [infoArr, hsz]) (hK _ _ ?_); simp only [Act.put]))
 go_ret
 exact ⟨rfl, HB2.out⟩
end Go.Proofs.YtdgmoiflahoihaaGreatDoor
