import Derived.Test.YtdgmoiflahoihaaGreatDoorKNBw
import Derived.Test.YtdgmoiflahoihaaGreatDoorKNGw
import Derived.Test.YtdgmoiflahoihaaGreatDoorKNLw
import Derived.Test.YtdgmoiflahoihaaGreatDoorKNEw
import Derived.Test.YtdgmoiflahoihaaGreatDoorKText2w
import Derived.Test.YtdgmoiflahoihaaGreatDoorRTakew

namespace Go.Proofs.YtdgmoiflahoihaaGreatDoor
open Go.RowKit
set_option linter.unusedSimpArgs false
set_option linter.unusedVariables false
theorem check_known (k : Nat) (h : k < 16) (w : World) : Calls Tryz.prog 10 #[.string (txt (goldAt k).text)] w fun e w' => e = .returned (.tuple #[.int .i64 (goldAt k).e, .int .i64 (goldAt k).at']) ∧ Below w.heap.size w w' := by
 have hl := golds_short k h
 have hr := tariffCheck_any (txt (goldAt k).text) w (by rw [txt_size]; unfold maxLen; omega) (fun h hb => parse_ok (by simpa using h) hb)
 have e : (txt (goldAt k).text).data.toList = (goldAt k).text := rfl
 rw [e, golds_check k h] at hr
 exact hr
theorem run_known (k : Nat) (h : k < 7) (vf : Value) (w : World) (hf : FldP (ranAt k).fields vf w) : Calls Tryz.prog 18 #[.string (txt (ranAt k).text), vf] w fun e w' => (∃ ao g cap, e = .returned (.tuple #[.slice ao (ranAt k).notes.length cap, .int .i64 0]) ∧ NoteCells w' ao g (ranAt k).notes) ∧ Below w.heap.size w w' := by
 obtain ⟨hl1, hl2, _⟩ := runs_short k h
 have hi : IntsAt w (fun b => b < w.heap.size) vf (ranAt k).fields := by
  obtain ⟨ao, g, rfl, hc⟩ := hf
  exact ⟨ao, g, _, rfl, fun i hi => by
   obtain ⟨a, b, c⟩ := hc i hi
   rw [Nat.zero_add] at c
   exact ⟨a, b, c⟩⟩
 have hr := tariffRun_any (txt (ranAt k).text) (ranAt k).fields vf w (fun b => b < w.heap.size) (by rw [txt_size]; unfold maxLen; omega) (fun h hb => parse_ok (by simpa using h) hb) (fun _ => parse_nums _) hi (fun _ h => h) (by unfold maxLen; omega) (runs_fields k h)
 have e : (txt (ranAt k).text).data.toList = (ranAt k).text := rfl
 rw [e, runs_plain k h] at hr
 refine hr.mono fun x w' ⟨⟨vn, hx, _, ho⟩, hb⟩ => ⟨?_, hb⟩
 obtain ⟨ao, g, cap, rfl, hn⟩ := notes_form ho
 exact ⟨ao, g, cap, hx, hn⟩
set_option maxRecDepth 100000 in
set_option maxHeartbeats 4000000 in
theorem known_walk (c : Int) (hc : -9223372036854775808 ≤ c ∧ c ≤ 9223372036854775807) (w : World) (ht : TabOk w) :
  Calls Tryz.prog 5 #[.int .i64 c] w fun e w' => e = .returned (.bool true) ∧ Below w.heap.size w w' := by
 have hk := pickN_lt c (n := 25) (by decide)
 have HP : Hid (∀ w, Calls Tryz.prog 15 #[.int .i64 c, .int .i64 25] w fun e w' => e = .returned (.int .i64 (pickN c 25 : Nat)) ∧ w' = w) := fun w => pick_any c 25 hc (by decide) (by decide) w
 generalize pickN c 25 = k at *
 have HG : Hid (∀ w, Calls Tryz.prog 13 #[] w fun e w' => ∃ v, e = .returned v ∧ GoldsP v w' ∧ Below w.heap.size w w') := golds_any
 have HR : Hid (∀ w, Calls Tryz.prog 14 #[] w fun e w' => ∃ v, e = .returned v ∧ RansP v w' ∧ Below w.heap.size w w') := runs_any
 have HT : Hid (TabOk w) := ht
 clear ht hc
 go_enter Tryz.func5, Tryz.ntmps5
 go_upto_region 4 with (first | (go_at_call 13; refine (HG.out _).mono ?_; rintro x1 w1 ⟨v1, rfl, hg1, hb1⟩; have HG1 : Hid (GoldsP v1 w1) := hg1; have HB1 : Hid (Below w.heap.size w w1) := hb1; obtain ⟨g1, rfl, _⟩ := hg1; clear hb1) | (go_at_call 14; refine (HR.out _).mono ?_; rintro x2 w2 ⟨v2, rfl, hr2, hb2⟩; have HR2 : Hid (RansP v2 w2) := hr2; have HG2 : Hid (GoldsP (.slice (some ⟨g1, 0, none⟩) 16 16) w2) := HG1.out.below hb2; have HB2 : Hid (Below w.heap.size w w2) := HB1.out.trans (hb2.mono HB1.out.size); obtain ⟨g2, rfl, _⟩ := hr2; clear hb2) | (go_at_call 15; refine (HP.out _).mono ?_; rintro x3 w3 ⟨rfl, rfl⟩))
 clear HP HG HR HG1 HB1
 rcases (by omega : k < 16 ∨ k = 16 ∨ k = 17 ∨ 18 ≤ k) with h | rfl | rfl | h
 ·have tk : decide ((k : Int) < 16) = true := by simp; omega
  have k0 : (0 : Int) ≤ k := by omega
  have k16 : (k : Int) < 16 := by omega
  have HCK : Hid (∀ w, Calls Tryz.prog 10 #[.string (txt (goldAt k).text)] w fun e w' => e = .returned (.tuple #[.int .i64 (goldAt k).e, .int .i64 (goldAt k).at']) ∧ Below w.heap.size w w') := check_known k h
  obtain ⟨_, e1, _, hcs⟩ := HG2.out
  obtain rfl : g1 = _ := by simpa using e1
  obtain ⟨c0, c1, c2⟩ := hcs k h
  clear e1 hcs HR2 HT
  go_upto_region 6 with (go_at_call 10; refine (HCK.out _).mono ?_; rintro x4 w4 ⟨rfl, hb4⟩; have HG4 : Hid (GoldsP (.slice (some ⟨g1, 0, none⟩) 16 16) w4) := HG2.out.below hb4; have HB4 : Hid (Below w.heap.size w w4) := HB2.out.trans (hb4.mono HB2.out.size); clear hb4)
  clear c0 c1 c2 HCK HG2 HB2
  obtain ⟨_, e1, _, hcs⟩ := HG4.out
  obtain rfl : g1 = _ := by simpa using e1
  obtain ⟨c0, c1, c2⟩ := hcs k h
  clear e1 hcs HG4 c0
  generalize (goldAt k).e = E at *
  generalize (goldAt k).at' = A at *
  go_wp2_with fail
  go_ret
  exact ⟨rfl, HB4.out⟩
 ·have HLB : Hid (∀ w, Calls Tryz.prog 16 #[] w fun e w' => e = .returned (.bool true) ∧ Below w.heap.size w w') := labelled_any
  clear HG2 HR2 HT
  go_wp2_with (go_at_call 16; refine (HLB.out _).mono ?_; rintro x4 w4 ⟨rfl, hb4⟩; have HB4 : Hid (Below w.heap.size w w4) := HB2.out.trans (hb4.mono HB2.out.size); clear hb4)
  go_ret
  exact ⟨rfl, HB4.out⟩
 ·have HBD : Hid (Calls Tryz.prog 17 #[] w3 fun e w' => e = .returned (.bool true) ∧ Below w3.heap.size w3 w') := billed_any w3 (HT.out.below HB2.out)
  clear HG2 HR2 HT
  go_wp2_with (go_at_call 17; refine HBD.out.mono ?_; rintro x4 w4 ⟨rfl, hb4⟩; have HB4 : Hid (Below w.heap.size w w4) := HB2.out.trans (hb4.mono HB2.out.size); clear hb4)
  go_ret
  exact ⟨rfl, HB4.out⟩
 ·obtain ⟨j, rfl⟩ : ∃ j, k = j + 18 := ⟨k - 18, by omega⟩
  have hj : j < 7 := by omega
  clear HG2 HT h hk
  obtain ⟨_, e1, hg2, hcs⟩ := HR2.out
  obtain rfl : g2 = _ := by simpa using e1
  obtain ⟨vf, vn, c0, c1, c2, hf, hn⟩ := hcs j hj
  have HF : Hid (FldP (ranAt j).fields vf w3) := hf
  obtain ⟨ao, p, rfl, _⟩ := hf
  obtain ⟨q, rfl, hnc⟩ := hn
  have HN : Hid (NoteCells w3 (some ⟨q, 0, none⟩) q (ranAt j).notes) := hnc
  obtain ⟨_, _, hnl⟩ := runs_short j hj
  have HRN : Hid (∀ w, FldP (ranAt j).fields (.slice ao (ranAt j).fields.length (ranAt j).fields.length) w → Calls Tryz.prog 18 #[.string (txt (ranAt j).text), .slice ao (ranAt j).fields.length (ranAt j).fields.length] w fun e w' => (∃ ao g cap, e = .returned (.tuple #[.slice ao (ranAt j).notes.length cap, .int .i64 0]) ∧ NoteCells w' ao g (ranAt j).notes) ∧ Below w.heap.size w w') := fun w h => run_known j hj _ w h
  clear e1 hcs hnc HR2
  generalize (ranAt j).fields = F at *
  generalize (ranAt j).notes = N at *
  generalize txt (ranAt j).text = S at *
  have tk : decide ((((j + 18 : Nat) : Nat) : Int) < 16) = false := by simp; omega
  have t16 : ((((j + 18 : Nat) : Nat) : Int) == 16) = false := by simp; omega
  have t17 : ((((j + 18 : Nat) : Nat) : Int) == 17) = false := by simp; omega
  have j0 : (0 : Int) ≤ j := by omega
  have j7 : (j : Int) < 7 := by omega
  go_upto_region 12 with fail
  have hb5 : Below w3.heap.size w3 (w3.alloc (.cells #[.string S, .slice ao F.length F.length, .slice (some ⟨q, 0, none⟩) N.length N.length] 53)) := (Below.refl _ _).alloc (Nat.le_refl _) _
  have hlt : w3.heap.size < (w3.alloc (.cells #[.string S, .slice ao F.length F.length, .slice (some ⟨q, 0, none⟩) N.length N.length] 53)).heap.size := by simp
  have hq : ∀ k, (w3.alloc (.cells #[.string S, .slice ao F.length F.length, .slice (some ⟨q, 0, none⟩) N.length N.length] 53)).cell? ⟨w3.heap.size, k, none⟩ = (#[.string S, .slice ao F.length F.length, .slice (some ⟨q, 0, none⟩) N.length N.length] : Array Value)[k]? := fun k => by rw [cell_of_row _ _ _ _ _ _ (heap_alloc_new w3 _)]
  have d0 : (w3.alloc (.cells #[.string S, .slice ao F.length F.length, .slice (some ⟨q, 0, none⟩) N.length N.length] 53)).cell? ⟨w3.heap.size, 0, none⟩ = some (.string S) := hq 0
  have d1 : (w3.alloc (.cells #[.string S, .slice ao F.length F.length, .slice (some ⟨q, 0, none⟩) N.length N.length] 53)).cell? ⟨w3.heap.size, 1, none⟩ = some (.slice ao F.length F.length) := hq 1
  have D2 : Hid ((w3.alloc (.cells #[.string S, .slice ao F.length F.length, .slice (some ⟨q, 0, none⟩) N.length N.length] 53)).cell? ⟨w3.heap.size, 2, none⟩ = some (.slice (some ⟨q, 0, none⟩) N.length N.length)) := hq 2
  have HF5 : Hid (FldP F (.slice ao F.length F.length) (w3.alloc (.cells #[.string S, .slice ao F.length F.length, .slice (some ⟨q, 0, none⟩) N.length N.length] 53))) := HF.out.below hb5
  have HN5 : Hid (NoteCells (w3.alloc (.cells #[.string S, .slice ao F.length F.length, .slice (some ⟨q, 0, none⟩) N.length N.length] 53)) (some ⟨q, 0, none⟩) q N) := HN.out.below hb5
  have HB5 : Hid (Below w.heap.size w (w3.alloc (.cells #[.string S, .slice ao F.length F.length, .slice (some ⟨q, 0, none⟩) N.length N.length] 53))) := HB2.out.trans (hb5.mono HB2.out.size)
  have HLT : Hid (w3.heap.size < (w3.alloc (.cells #[.string S, .slice ao F.length F.length, .slice (some ⟨q, 0, none⟩) N.length N.length] 53)).heap.size) := hlt
  clear hb5 hq hlt HF HN HB2 c0 c1 c2 hg2
  generalize w3.alloc (.cells #[.string S, .slice ao F.length F.length, .slice (some ⟨q, 0, none⟩) N.length N.length] 53) = W5 at *
  generalize w3.heap.size = B at *
  go_upto_region 13 with (go_at_call 18; refine (HRN.out _ HF5.out).mono ?_; rintro x6 w6 ⟨⟨ao6, g6, cap6, rfl, hn6⟩, hb6⟩; have D6 : w6.cell? ⟨B, 2, none⟩ = some (.slice (some ⟨q, 0, none⟩) N.length N.length) := (hb6.cell (p := ⟨B, 2, none⟩) HLT.out).trans D2.out; have HN6 : Hid (NoteCells w6 (some ⟨q, 0, none⟩) q N) := HN5.out.below hb6; have HM6 : Hid (NoteCells w6 ao6 g6 N) := hn6; have HB6 : Hid (Below w.heap.size w w6) := HB5.out.trans (hb6.mono HB5.out.size); clear hb6 hn6)
  clear d0 d1 D2 HF5 HN5 HB5 HLT HRN
  go_wp2_with (go_at_call 19; refine (ksameNotes_any N ao6 (some ⟨q, 0, none⟩) g6 cap6 q N.length _ HM6.out HN6.out (by omega)).mono ?_; rintro x7 w7 ⟨rfl, hb7⟩; have HB7 : Hid (Below w.heap.size w w7) := HB6.out.trans (hb7.mono HB6.out.size); clear hb7)
  go_ret
  exact ⟨rfl, HB7.out⟩
end Go.Proofs.YtdgmoiflahoihaaGreatDoor
