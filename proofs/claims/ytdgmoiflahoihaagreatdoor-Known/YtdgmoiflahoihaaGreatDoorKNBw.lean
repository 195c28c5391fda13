import Derived.Test.YtdgmoiflahoihaaGreatDoorKNPw
import Derived.Test.YtdgmoiflahoihaaGreatDoorBLWw
import Derived.Test.YtdgmoiflahoihaaGreatDoorBDUw
import Derived.Test.YtdgmoiflahoihaaGreatDoorXD5w

namespace Go.Proofs.YtdgmoiflahoihaaGreatDoor
open Go.RowKit
set_option linter.unusedSimpArgs false
set_option linter.unusedVariables false
theorem bill_known (r : Int) (b : List UInt8) (hb : billP r (runP billT [100, 70]) = (0, b)) (w : World) (ht : TabOk w) :
  Calls Tryz.prog 7 #[.string (txt billT), .slice (some ⟨w.heap.size, 0, none⟩) 2 2, .int .i64 r] (w.alloc (.cells #[.int .i64 100, .int .i64 70] 3)) fun e w' => e = .returned (.tuple #[.string (txt b), .int .i64 0]) ∧ Below w.heap.size w w' ∧ TabOk w' := by
 have HB : Below w.heap.size w (w.alloc (.cells #[.int .i64 100, .int .i64 70] 3)) := (Below.refl _ _).alloc (Nat.le_refl _) _
 have hN : NumCells (w.alloc (.cells #[.int .i64 100, .int .i64 70] 3)) (some ⟨w.heap.size, 0, none⟩) w.heap.size 0 [100, 70] := num_of_row (r := []) (t := 3) (heap_alloc_new w _)
 have hfo : FsOk [100, 70] := by unfold FsOk; decide
 have h := billText_any (txt billT) (.slice (some ⟨w.heap.size, 0, none⟩) 2 2) r (w.alloc (.cells #[.int .i64 100, .int .i64 70] 3)) (runP billT [100, 70]) (fun w' e => by subst e; exact progText_any (txt billT) [100, 70] w.heap.size 2 _ (by unfold maxLen; decide) hN (by unfold maxLen; decide) hfo) (runP_few _ _ hfo) (runP_nts _ _ hfo) (ht.below HB)
 rw [hb] at h
 refine h.mono fun e w' ⟨he, hb'⟩ => ⟨he, HB.trans (hb'.mono HB.size), (ht.below HB).below hb'⟩
def badCells : Array Value := (badL.map fun t => Value.string (txt t)).toArray
theorem infoBad : (Tryz.prog.info? 93).map (fun i => i.size) = some 9 := by kernel_rfl
theorem read_known (k : Nat) (h : k < 9) (w : World) : Calls Tryz.prog 39 #[.string (txt (badAt k))] w fun e w' => e = .returned (.tuple #[.slice none 0 0, .int .i64 10]) ∧ Below w.heap.size w w' := by
 have hl := bads_short k h
 have hr := tariffRead_any (txt (badAt k)) w (by rw [txt_size]; omega)
 have e : (txt (badAt k)).data.toList = badAt k := rfl
 rw [e, bads_plain k h] at hr
 exact hr
theorem exec_known (l : List Ic) (R : Int × List Nt) (h : execI l [] = R) (hl : l.length = 3) (hlo : ∀ x ∈ l, -9223372036854775808 ≤ x.b ∧ x.b ≤ 9223372036854775807) (g : Nat) (w : World) (hc : InsCells w (some ⟨g, 0, none⟩) g 0 l) :
  Calls Tryz.prog 40 #[.slice (some ⟨g, 0, none⟩) 3 3, .slice none 0 0] w (ExecPost w R) := by
 have := tariffExec_any l [] (some ⟨g, 0, none⟩) none g 0 3 0 0 0 w hc (fun i hi => absurd hi (Nat.not_lt_zero _)) (by decide) hlo (by unfold FsOk; decide)
 rw [h, hl] at this
 exact this
theorem ins_laid3 (a b c : Ic) (w : World) (t : TypeId) : InsCells (w.alloc (.cells #[.int .i64 a.op, .int .i64 a.a, .int .i64 a.b, .int .i64 a.c, .int .i64 b.op, .int .i64 b.a, .int .i64 b.b, .int .i64 b.c, .int .i64 c.op, .int .i64 c.a, .int .i64 c.b, .int .i64 c.c] t)) (some ⟨w.heap.size, 0, none⟩) w.heap.size 0 [a, b, c] := by
 intro i hi
 have hc : ∀ k, (w.alloc (.cells #[.int .i64 a.op, .int .i64 a.a, .int .i64 a.b, .int .i64 a.c, .int .i64 b.op, .int .i64 b.a, .int .i64 b.b, .int .i64 b.c, .int .i64 c.op, .int .i64 c.a, .int .i64 c.b, .int .i64 c.c] t)).cell? ⟨w.heap.size, k, none⟩ = (#[.int .i64 a.op, .int .i64 a.a, .int .i64 a.b, .int .i64 a.c, .int .i64 b.op, .int .i64 b.a, .int .i64 b.b, .int .i64 b.c, .int .i64 c.op, .int .i64 c.a, .int .i64 c.b, .int .i64 c.c] : Array Value)[k]? := fun k => by rw [cell_of_row _ _ _ _ _ _ (heap_alloc_new w _)]
 refine ⟨rfl, by simp, ?_⟩
 rw [hc, hc, hc, hc]
 match i, hi with
 | 0, _ => exact ⟨rfl, rfl, rfl, rfl⟩
 | 1, _ => exact ⟨rfl, rfl, rfl, rfl⟩
 | 2, _ => exact ⟨rfl, rfl, rfl, rfl⟩
theorem bad_laid (w : World) (t : TypeId) (k : Nat) (h : k < 9) : (w.alloc (.cells badCells t)).cell? ⟨w.heap.size, k, none⟩ = some (.string (txt (badAt k))) := by
 rw [cell_of_row _ _ _ _ _ _ (heap_alloc_new w _)]
 match k, h with
 | 0, _ => rfl
 | 1, _ => rfl
 | 2, _ => rfl
 | 3, _ => rfl
 | 4, _ => rfl
 | 5, _ => rfl
 | 6, _ => rfl
 | 7, _ => rfl
 | 8, _ => rfl
set_option maxRecDepth 100000 in
set_option maxHeartbeats 4000000 in
theorem billed_any (w : World) (ht : TabOk w) : Calls Tryz.prog 17 #[] w fun e w' => e = .returned (.bool true) ∧ Below w.heap.size w w' := by
 have HB0 : Hid (Calls Tryz.prog 7 #[.string ⟨#[63, 112, 58, 45, 59, 63, 99, 58, 67, 59, 62, 45, 112, 59, 62, 67, 32, 112, 45, 99, 59]⟩, .slice (some ⟨w.heap.size, 0, none⟩) 2 2, .int .i64 0] (w.alloc (.cells #[.int .i64 100, .int .i64 70] 3)) fun e w' => e = .returned (.tuple #[.string ⟨#[49, 48, 58, 49, 48, 48, 10]⟩, .int .i64 0]) ∧ Below w.heap.size w w' ∧ TabOk w') := bill_known 0 bill0 bill0_plain w ht
 go_enter Tryz.func17, Tryz.ntmps17
 go_upto_region 3 with (go_at_call 7; refine HB0.out.mono ?_; rintro e w1 ⟨rfl, hb1, ht1⟩; have HB1 : Hid (Below w.heap.size w w1) := hb1; have HT1 : Hid (TabOk w1) := ht1; clear hb1 ht1)
 clear HB0 ht
 have HB4 : Hid (Calls Tryz.prog 7 #[.string ⟨#[63, 112, 58, 45, 59, 63, 99, 58, 67, 59, 62, 45, 112, 59, 62, 67, 32, 112, 45, 99, 59]⟩, .slice (some ⟨w1.heap.size, 0, none⟩) 2 2, .int .i64 4] (w1.alloc (.cells #[.int .i64 100, .int .i64 70] 3)) fun e w' => e = .returned (.tuple #[.string ⟨#[49, 48, 58, 49, 48, 48, 10, 49, 52, 58, 51, 48, 10]⟩, .int .i64 0]) ∧ Below w1.heap.size w1 w' ∧ TabOk w') := bill_known 4 bill4 bill4_plain w1 HT1.out
 go_upto_region 4 with (go_at_call 7; refine HB4.out.mono ?_; rintro e w2 ⟨rfl, hb2, ht2⟩; have HB2 : Hid (Below w.heap.size w w2) := HB1.out.trans (hb2.mono HB1.out.size); clear hb2 ht2)
 clear HB4 HB1 HT1
 go_upto_region 7 with (refine wpList_store_row rfl 93 (.tmp 6) (.tmp 40) rfl w2.heap.size badCells rfl rfl 93 _ (heap_alloc_new w2 _) (by rw [infoBad]; rfl) rfl rfl ?_; rw [World.setRow_alloc_new]; simp only [Act.put])
 have HBC : Hid (∀ k, k < 9 → (w2.alloc (.cells badCells 93)).cell? ⟨w2.heap.size, k, none⟩ = some (.string (txt (badAt k)))) := bad_laid w2 _
 have HBW : Hid (Below w.heap.size w (w2.alloc (.cells badCells 93))) := HB2.out.alloc HB2.out.size _
 have hbs : w2.heap.size < (w2.alloc (.cells badCells 93)).heap.size := by simp
 have HBS : Hid (w2.heap.size < (w2.alloc (.cells badCells 93)).heap.size) := hbs
 clear hbs
 change Code.wp _ _ _ _ (w2.alloc (.cells badCells 93))
 generalize w2.alloc (.cells badCells 93) = W at *
 generalize w2.heap.size = B at *
 clear HB2
 go_wp2_with fail
 go_loopw [7] (fun x w' => ∃ k : Nat, x = .int .i64 k ∧ k ≤ 9 ∧ Hid (Below W.heap.size W w')) (fun x _ => 9 - (intOf x).toNat)
 case atStart => exact ⟨0, rfl, by omega, Below.refl _ _⟩
 case round =>
  obtain ⟨k, rfl, hk, HB⟩ := hrel
  by_cases hlt : k < 9
  ·have tk : decide ((k : Int) < 9) = true := by simp; omega
   have k0 : (0 : Int) ≤ k := by omega
   have k9 : (k : Int) < 9 := by omega
   have cK := (HB.out.cell (p := ⟨B, k, none⟩) HBS.out).trans (HBC.out k hlt)
   have HRD : Hid (∀ w, Calls Tryz.prog 39 #[.string (txt (badAt k))] w fun e w' => e = .returned (.tuple #[.slice none 0 0, .int .i64 10]) ∧ Below w.heap.size w w') := read_known k hlt
   generalize txt (badAt k) = S at *
   clear HBC HBS
   go_wp2_with (go_at_call 39; refine (HRD.out _).mono ?_; rintro e w3 ⟨rfl, hb3⟩; have HB3 : Hid (Below W.heap.size W w3) := HB.out.trans (hb3.mono HB.out.size); clear hb3)
   go_roundw
   case rel => exact ⟨k + 1, by go_num, by omega, HB3.out⟩
   case measure => simp [intOf]; omega
  ·have tk : decide ((k : Int) < 9) = false := by simp; omega
   have HB3 := HBW.out.trans (HB.out.mono HBW.out.size)
   have HB3' : Hid _ := HB3
   clear HB HBW HBC HBS HB3
   have HX8 : Hid (∀ W3 : World, Calls Tryz.prog 40 #[.slice (some ⟨W3.heap.size, 0, none⟩) 3 3, .slice none 0 0] (W3.alloc (.cells #[.int .i64 1, .int .i64 0, .int .i64 5, .int .i64 0, .int .i64 14, .int .i64 3, .int .i64 1, .int .i64 0, .int .i64 12, .int .i64 1, .int .i64 0, .int .i64 0] 87)) (ExecPost (W3.alloc (.cells #[.int .i64 1, .int .i64 0, .int .i64 5, .int .i64 0, .int .i64 14, .int .i64 3, .int .i64 1, .int .i64 0, .int .i64 12, .int .i64 1, .int .i64 0, .int .i64 0] 87)) (8, []))) := fun W3 => exec_known exA (8, []) exA_plain rfl (by decide) W3.heap.size _ (ins_laid3 ⟨1, 0, 5, 0⟩ ⟨14, 3, 1, 0⟩ ⟨12, 1, 0, 0⟩ W3 87)
   have HX0 : Hid (∀ W3 : World, Calls Tryz.prog 40 #[.slice (some ⟨W3.heap.size, 0, none⟩) 3 3, .slice none 0 0] (W3.alloc (.cells #[.int .i64 1, .int .i64 0, .int .i64 5, .int .i64 0, .int .i64 14, .int .i64 3, .int .i64 1, .int .i64 0, .int .i64 0, .int .i64 0, .int .i64 0, .int .i64 0] 87)) (ExecPost (W3.alloc (.cells #[.int .i64 1, .int .i64 0, .int .i64 5, .int .i64 0, .int .i64 14, .int .i64 3, .int .i64 1, .int .i64 0, .int .i64 0, .int .i64 0, .int .i64 0, .int .i64 0] 87)) (0, [⟨0, 3, 1, ⟨5, 0⟩⟩]))) := fun W3 => exec_known exB (0, [⟨0, 3, 1, ⟨5, 0⟩⟩]) exB_plain rfl (by decide) W3.heap.size _ (ins_laid3 ⟨1, 0, 5, 0⟩ ⟨14, 3, 1, 0⟩ ⟨0, 0, 0, 0⟩ W3 87)
   go_upto_region 14 with (go_at_call 40; refine (HX8.out _).mono ?_; rintro e w4 ⟨⟨vn, rfl, hz, ho⟩, hb4⟩; obtain rfl := hz (by decide); have HB4 : Hid (Below w.heap.size w w4) := (HB3'.out.alloc HB3'.out.size _).trans (hb4.mono (HB3'.out.alloc HB3'.out.size _).size); clear hb4 ho hz)
   clear HX8 HB3'
   go_upto_region 15 with (go_at_call 40; refine (HX0.out _).mono ?_; rintro e w5 ⟨⟨vn, rfl, _, ho⟩, hb5⟩; have HB5 : Hid (Below w.heap.size w w5) := (HB4.out.alloc HB4.out.size _).trans (hb5.mono (HB4.out.alloc HB4.out.size _).size); obtain ⟨ao, g, cap, rfl, hn⟩ := notes_form ho; obtain ⟨rfl, hg, c0, c1, c2, c3, c4⟩ := hn 0 (by decide); clear hb5 ho hn)
   clear HX0 HB4
   simp only [List.length_cons, List.length_nil, List.getElem_cons_zero, Nat.zero_mul, Nat.zero_add] at c0 c1 c2 c3 c4 ⊢
   replace c1 : w5.cell? ⟨g, 1, none⟩ = some (.int .i64 3) := c1
   replace c2 : w5.cell? ⟨g, 2, none⟩ = some (.int .i64 1) := c2
   go_wp2_with fail
   go_ret
   exact ⟨rfl, HB5.out⟩
end Go.Proofs.YtdgmoiflahoihaaGreatDoor
