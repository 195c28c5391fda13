import Derived.Test.YtdgmoiflahoihaaGreatDoorPCheckw
import Derived.Test.YtdgmoiflahoihaaGreatDoorBCw
import Derived.Deep.RegionHeld3

namespace Go.Proofs.YtdgmoiflahoihaaGreatDoor
open Go.RowKit
set_option linter.unusedSimpArgs false
set_option linter.unusedVariables false
theorem below_setCs {B g : Nat} {w : World} (hB : B ≤ g) : ∀ (vs : List Value) (o : Nat) (w' : World), Below B w w' → Below B w (w'.setCells g o vs)
 | [], o, w', h => h
 | v :: r, o, w', h => by
  rw [World.setCells]
  exact below_setCs hB r (o + 1) _ (h.setCell hB v)
theorem row_there {w : World} {g n : Nat} {t : TypeId} {cs : Array Value} (h : w.heap[g]? = some (.cells cs t (0, 0))) (hn : cs.size = n) : w.there g 0 n := by
 intro j hj
 constructor
 ·rw [cell_of_row _ _ _ _ _ _ h]
  simp [hn]
  omega
 ·simp [World.frozen?, h]
theorem one_nat (R : List Nat) : ∀ v ∈ R.map natV, v.oneCell' = true := by
 intro v hv
 obtain ⟨n, _, rfl⟩ := List.mem_map.mp hv
 rfl
set_option maxRecDepth 100000 in
set_option maxHeartbeats 2000000 in
theorem tariffLabels_any (s : ByteArray) (w : World) (e : Int) (R : List Nat) (hs : s.size ≤ maxLen) (hpo : s.size ≤ 400 → (parseR s.data.toList).1.bad = false → ParseOk s.data.toList) (he : (checkP s.data.toList).1 = e) (hR : labsP s.data.toList = R) :
  Calls Tryz.prog 38 #[.string s] w fun x w' => x = .returned (.tuple #[.agg (arrV R), .int .i64 e]) ∧ Below w.heap.size w w' := by
 have HPO : Hid _ := hpo
 have HE : Hid ((checkP s.data.toList).1 = e) := he
 have HR : Hid (labsP s.data.toList = R) := hR
 clear hpo he hR
 have hb := (Below.refl w.heap.size w).alloc (Nat.le_refl _) (.cells (arrV zero26) 69)
 have hWs : (w.alloc (.cells (arrV zero26) 69)).heap.size = w.heap.size + 1 := by simp
 go_enter Tryz.func38, Tryz.ntmps38
 go_upto_region 1 with fail
 rw [← zeroArr]
 have hh : (w.alloc (.cells (arrV zero26) 69)).heap[w.heap.size]? = some (.cells (arrV zero26) 69 (0, 0)) := heap_alloc_new w _
 generalize hW : w.alloc (.cells (arrV zero26) 69) = W at *
 clear hW
 have HH : Hid (W.heap[w.heap.size]? = some (.cells (arrV zero26) 69 (0, 0))) := hh
 clear hh
 go_upto_region 2 with (first | (go_at_call 26; refine (text_any s _ hs HPO.out).mono ?_; rintro x1 w1 ⟨cs, rfl, htc, hb1⟩; have HTC : Hid (TextC s.data.toList cs) := htc; clear htc) | (refine wpList_store_row rfl 71 (.tmp 4) (.tmp 6) rfl w1.heap.size cs.toArray rfl rfl 71 (e30 0 0).toArray (by exact rules_new w1) (by rw [infoRules, HTC.out.size]) (by rw [HTC.out.size]; rfl) HTC.out.one ?_; rw [World.setRow_alloc_new]; simp only [Act.put]))
 have hs1 := hb1.size
 have hbW1 : Below w.heap.size w (w1.alloc (.cells cs.toArray 71)) := (hb.trans (hb1.mono (by omega))).alloc (by omega) _
 have q0 : (w1.alloc (.cells cs.toArray 71)).cell? ⟨w1.heap.size, 0, none⟩ = some (.int .i64 (checkP s.data.toList).1) := by rw [cell_of_row _ _ _ _ _ _ (heap_alloc_new w1 _)]; simpa using HTC.out.cell0
 have hra : (w1.alloc (.cells cs.toArray 71)).rangeAt w1.heap.size 4 ((labsP s.data.toList).map natV) := by
  intro j v hv
  rw [cell_of_row _ _ _ _ _ _ (heap_alloc_new w1 _)]
  have := HTC.out.labs j
  rw [hv] at this
  simpa using this
 have hth : (w1.alloc (.cells cs.toArray 71)).there w.heap.size 0 26 := by
  refine row_there (cs := arrV zero26) (t := 69) ?_ rfl
  rw [heap_alloc_old _ _ (by omega), hb1.block _ (by omega)]
  exact HH.out
 have hlen : ((labsP s.data.toList).map natV).length = 26 := by rw [List.length_map]; exact HTC.out.len
 rw [HE.out] at q0
 rw [HR.out] at hra hlen
 generalize hgg : w1.heap.size = g1 at *
 generalize w1.alloc (.cells cs.toArray 71) = W1 at *
 have hne : g1 ≠ w.heap.size := by omega
 have HBW : Hid (Below w.heap.size w W1) := hbW1
 clear hbW1 hb1 hgg HH
 have hu35 := Tryz.underlying69
 have hi35 : (Tryz.prog.info? 69).map (fun i => i.size) = some (R.map natV).length := by rw [infoArr, hlen]
 have hone := one_nat R
 go_region_held3 (fun w' => w'.rangeAt g1 4 (R.map natV) ∧ w'.cell? ⟨g1, 0, none⟩ = some (.int .i64 e) ∧ w'.there w.heap.size 0 26) (first | go_keep | exact ⟨World.rangeAt_setCells_apart (by simpa using hra) _ _ _ (.inl hne), (World.cell?_setCells_out _ _ _ _ _ (fun hx _ => absurd hx hne)).trans (by simpa using q0), World.there_setCells (by simpa using hth) _ _ _⟩) ((fail))
 have hfin : (W1.drew.setCells w.heap.size 0 (R.map natV)).rangeAt w.heap.size 0 (R.map natV) := World.rangeAt_setCells_same _ _ _ _ (by rw [hlen]; simpa using hth)
 have hbf := below_setCs (Nat.le_refl w.heap.size) (R.map natV) 0 _ HBW.out.drew
 go_wp2_with fail
 exact bodyPost_ret (v := .tuple #[.agg (arrV R), .int .i64 e]) (by rw [← arrV_list]; exact results_range_tmp rfl _ _ w.heap.size _ _ _ rfl rfl hfin Tryz.underlying69 rfl hi35) rfl ⟨rfl, hbf⟩
end Go.Proofs.YtdgmoiflahoihaaGreatDoor
