import Derived.Test.YtdgmoiflahoihaaGreatDoorRTopw
import Derived.RegionTactic
import Derived.ChangeAlike

namespace Go.Proofs.YtdgmoiflahoihaaGreatDoor
open Go.RowKit
set_option linter.unusedSimpArgs false
set_option linter.unusedVariables false
def Rd.first : Rd := ⟨0, 0, false⟩
def parseH (t : List UInt8) : Rd × List Hd := headsL t (t.length + 1) (Rd.skip t Rd.first)
def parseR (t : List UInt8) : Rd × List (RT 9) := rulesL (fun r => ruleF t 8 r) (fun r => decide (t.length ≤ r.pos)) (t.length + 1) (parseH t).1
theorem parseH_facts (t : List UInt8) : (parseH t).1.pos ≤ t.length ∧ (parseH t).1.depth = 0 := by
 have hp : (Rd.skip t Rd.first).pos ≤ t.length := skip_le (t := t) (k := 0) (Nat.zero_le _)
 have h := headsL_stp (t.length + 1) (Rd.skip t Rd.first) hp
 exact ⟨h.le, h.depth⟩
set_option maxHeartbeats 1000000 in
theorem parse_any (s : ByteArray) (hs : s.size ≤ 400) (w : World) :
  Calls Tryz.prog 49 #[.string s] w fun e w' => Below w.heap.size w w' ∧
   ((parseR s.data.toList).1.bad = true → e = .returned (.tuple #[.agg #[.slice none 0 0, .slice none 0 0], .int .i64 (parseR s.data.toList).1.pos, .bool false])) ∧
   ((parseR s.data.toList).1.bad = false → ∃ vh vr, e = .returned (.tuple #[.agg #[vh, vr], .int .i64 0, .bool true]) ∧ HeadsV w' (fun k => w.heap.size ≤ k) vh (parseH s.data.toList).2 ∧ RulesV 9 w' (fun k => w.heap.size ≤ k) vr (parseR s.data.toList).2) := by
 have hsl : s.data.toList.length = s.size := by simp
 obtain ⟨hp1, hd1⟩ := parseH_facts s.data.toList
 have hp0 : (Rd.skip s.data.toList Rd.first).pos ≤ s.data.toList.length := skip_le (t := s.data.toList) (k := 0) (Nat.zero_le _)
 generalize hA : Rd.skip s.data.toList Rd.first = ra at *
 generalize hR : parseR s.data.toList = R at *
 generalize hH : parseH s.data.toList = H at *
 have HA : Hid (Rd.skip s.data.toList Rd.first = ra) := hA
 have HH : Hid (headsL s.data.toList (s.data.toList.length + 1) ra = H) := by rw [← hA]; exact hH
 have HR : Hid (rulesL (fun r => ruleF s.data.toList 8 r) (fun r => decide (s.data.toList.length ≤ r.pos)) (s.data.toList.length + 1) H.1 = R) := by rw [← hH]; exact hR
 clear hA hH hR
 go_enter Tryz.func49, Tryz.ntmps49
 go_wp2_with fail
 generalize hW : ((w.alloc (.cells #[.slice none 0 0, .slice none 0 0] 68)).alloc (.cells #[.string s, .int .i64 0, .int .i64 0, .slice none 0 0, .bool false] 142)) = W0
 have hr0 : ReaderAt W0 (w.heap.size + 1) s Rd.first nilS := by
  subst hW
  refine ⟨?_, ?_, ?_, ?_, ?_, fun o => ?_⟩
  all_goals simp [go_sem, Rd.first, nilS]
 have hb0 : Below w.heap.size w W0 := by
  subst hW
  exact ((Below.refl _ _).alloc (Nat.le_refl _) _).alloc (by simp) _
 have hz0 : W0.heap[w.heap.size]? = some (.cells #[.slice none 0 0, .slice none 0 0] 68) := by
  subst hW
  rw [Below.heap_alloc _ _ _ (by simp)]
  exact heap_alloc_new w _
 have hs0 : W0.heap.size = w.heap.size + 2 := by subst hW; simp
 clear hW
 refine (skipBlanks_any (w.heap.size + 1) s Rd.first nilS _ hr0 hs (Nat.zero_le _)).mono ?_
 rw [HA.out]
 rintro e w1 ⟨rfl, hr1, hb1⟩
 go_wp2_with fail
 refine (heads_any s hs (w.heap.size + 1) ra _ hr1 hp0).mono ?_
 rw [HH.out]
 rintro e w2 ⟨vh, rfl, hv2, hr2, hb2⟩
 go_wp2_with fail
 refine (topRules_any s hs 8 (w.heap.size + 1) rfl H.1 _ hr2 hp1 hd1).mono ?_
 rw [HR.out]
 rintro e w3 ⟨vr, rfl, hv3, hr3, hb3⟩
 have s1 := hb1.size
 have s2 := hb2.size
 have s3 := hb3.size
 have hB : But (w.heap.size + 1) W0 w3 := (hb1.trans hb2).trans hb3
 have hb4 : Below w.heap.size w w3 := hb0.trans ⟨hB.os, hB.tape, hB.output, hB.size, fun k hk => hB.block k (by omega) (fun e => by have := Option.some.inj e; omega)⟩
 have hz3 : w3.heap[w.heap.size]? = some (.cells #[.slice none 0 0, .slice none 0 0] 68) := by
  rw [hB.block _ (by omega) (fun e => by have := Option.some.inj e; omega)]
  exact hz0
 have hv2b : HeadsV w3 (fun k => w.heap.size + 1 < k) vh H.2 := headsV_frame hv2 (fun k hk hl => ⟨by omega, hb3.block k hl (fun e => by have := Option.some.inj e; omega)⟩)
 have hv3b : RulesV 9 w3 (fun k => w.heap.size + 1 < k) vr R.2 := rulesV_mono hv3 (fun k hk => by omega)
 have z0 : w3.cell? ⟨w.heap.size, 0, none⟩ = some (.slice none 0 0) := by simp [World.cell?, hz3]
 have z1 : w3.cell? ⟨w.heap.size, 1, none⟩ = some (.slice none 0 0) := by simp [World.cell?, hz3]
 have zf : ∀ o, w3.frozen? ⟨w.heap.size, o, none⟩ = false := by intro o; simp [World.frozen?, hz3]
 have HB4 : Hid _ := hb4
 have HV2 : Hid _ := hv2b
 have HV3 : Hid _ := hv3b
 obtain ⟨ah, nh, ch, hvh⟩ : ∃ aa nn cc, vh = .slice aa nn cc := by
  rcases Joins.ownsRow_forms hv2.1 with ⟨rfl, _⟩ | ⟨g, cap, rfl⟩ <;> exact ⟨_, _, _, rfl⟩
 obtain ⟨ar, nr, cr, hvr⟩ := rulesV_form hv3
 subst hvh hvr
 obtain ⟨c0, c1, c2, c3, c4, fz⟩ := hr3
 clear hr0 hb0 hz0 hr1 hb1 hr2 hb2 hb3 hv2 hv3 hB hb4 hz3 hv2b hv3b
 cases hbad : R.1.bad
 ·rw [hbad] at c4
  go_wp2_with fail
  refine bodyPost_ret (v := .tuple #[.agg #[.slice ah nh ch, .slice ar nr cr], .int .i64 0, .bool true]) (by simp [results, Tryz.results49, go_sem, z0, z1, zf]) rfl ?_
  refine ⟨(HB4.out.setCell (Nat.le_refl _) _).setCell (Nat.le_refl _) _, fun e => (by rw [hbad] at e; cases e), fun _ => ⟨_, _, rfl, ?_, ?_⟩⟩
  ·refine headsV_frame HV2.out (fun k hk hl => ⟨by omega, ?_⟩)
   rw [Below.heap_setCell _ _ _ _ (by simp only; omega), Below.heap_setCell _ _ _ _ (by simp only; omega)]
  ·refine rulesV_frame (fun k hk hl => ⟨by omega, ?_⟩) 9 _ _ HV3.out
   rw [Below.heap_setCell _ _ _ _ (by simp only; omega), Below.heap_setCell _ _ _ _ (by simp only; omega)]
 ·rw [hbad] at c4
  go_wp2_with fail
  go_region
  all_goals go_wp2_with fail
  all_goals (refine bodyPost_ret (v := .tuple #[.agg #[.slice none 0 0, .slice none 0 0], .int .i64 R.1.pos, .bool false]) (by simp [results, Tryz.results49, go_sem, z0, z1, zf]) rfl ?_)
  all_goals exact ⟨((HB4.out.setCell (Nat.le_refl _) _).setCell (Nat.le_refl _) _).drew, fun _ => rfl, fun e => (by rw [hbad] at e; cases e)⟩
end Go.Proofs.YtdgmoiflahoihaaGreatDoor
