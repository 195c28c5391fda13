import Derived.Test.YtdgmoiflahoihabGreatDoorKEnw

namespace Go.Proofs.YtdgmoiflahoihabGreatDoor
open Go.RowKit
set_option linter.unusedSimpArgs false
set_option linter.unusedVariables false
def HdOk (h : Hd) : Prop := 0 ≤ h.name ∧ h.name < 26 ∧ h.label < 16 ∧ h.place ≤ 400
def list53 : List Value := List.replicate 26 (Value.int .i64 0) ++ (List.replicate 26 (Value.bool false) ++ [Value.bool false])
theorem lab53 : (#[.int .i64 0, .int .i64 0, .int .i64 0, .int .i64 0, .int .i64 0, .int .i64 0, .int .i64 0, .int .i64 0, .int .i64 0, .int .i64 0, .int .i64 0, .int .i64 0, .int .i64 0, .int .i64 0, .int .i64 0, .int .i64 0, .int .i64 0, .int .i64 0, .int .i64 0, .int .i64 0, .int .i64 0, .int .i64 0, .int .i64 0, .int .i64 0, .int .i64 0, .int .i64 0, .bool false, .bool false, .bool false, .bool false, .bool false, .bool false, .bool false, .bool false, .bool false, .bool false, .bool false, .bool false, .bool false, .bool false, .bool false, .bool false, .bool false, .bool false, .bool false, .bool false, .bool false, .bool false, .bool false, .bool false, .bool false, .bool false, .bool false] : Array Value) = list53.toArray := by rfl
theorem rep_getD {α : Type} (v d : α) (n k : Nat) (h : k < n) : (List.replicate n v).getD k d = v := by
 rw [List.getD_eq_getElem?_getD, List.getElem?_replicate, if_pos h]
 rfl
theorem rep_get (v : Value) (k n : Nat) (h : k < n) (r : List Value) : (List.replicate n v ++ r)[k]? = some v := by
 rw [List.getElem?_append_left (by simpa using h)]
 simp [h]
theorem labs_start (w : World) (vt vr : Value) : LabAt (((w.alloc (.cells #[vt, vr] 61)).alloc (.cells #[.int .i64 0, .int .i64 0, .int .i64 0, .int .i64 0, .int .i64 0, .int .i64 0, .int .i64 0, .int .i64 0, .int .i64 0, .int .i64 0, .int .i64 0, .int .i64 0, .int .i64 0, .int .i64 0, .int .i64 0, .int .i64 0, .int .i64 0, .int .i64 0, .int .i64 0, .int .i64 0, .int .i64 0, .int .i64 0, .int .i64 0, .int .i64 0, .int .i64 0, .int .i64 0] 62)).alloc (.cells #[.int .i64 0, .int .i64 0, .int .i64 0, .int .i64 0, .int .i64 0, .int .i64 0, .int .i64 0, .int .i64 0, .int .i64 0, .int .i64 0, .int .i64 0, .int .i64 0, .int .i64 0, .int .i64 0, .int .i64 0, .int .i64 0, .int .i64 0, .int .i64 0, .int .i64 0, .int .i64 0, .int .i64 0, .int .i64 0, .int .i64 0, .int .i64 0, .int .i64 0, .int .i64 0, .bool false, .bool false, .bool false, .bool false, .bool false, .bool false, .bool false, .bool false, .bool false, .bool false, .bool false, .bool false, .bool false, .bool false, .bool false, .bool false, .bool false, .bool false, .bool false, .bool false, .bool false, .bool false, .bool false, .bool false, .bool false, .bool false, .bool false] 108)) (w.heap.size + 1 + 1) lab0.1 lab0.2 false ∧ BoxAt (((w.alloc (.cells #[vt, vr] 61)).alloc (.cells #[.int .i64 0, .int .i64 0, .int .i64 0, .int .i64 0, .int .i64 0, .int .i64 0, .int .i64 0, .int .i64 0, .int .i64 0, .int .i64 0, .int .i64 0, .int .i64 0, .int .i64 0, .int .i64 0, .int .i64 0, .int .i64 0, .int .i64 0, .int .i64 0, .int .i64 0, .int .i64 0, .int .i64 0, .int .i64 0, .int .i64 0, .int .i64 0, .int .i64 0, .int .i64 0] 62)).alloc (.cells #[.int .i64 0, .int .i64 0, .int .i64 0, .int .i64 0, .int .i64 0, .int .i64 0, .int .i64 0, .int .i64 0, .int .i64 0, .int .i64 0, .int .i64 0, .int .i64 0, .int .i64 0, .int .i64 0, .int .i64 0, .int .i64 0, .int .i64 0, .int .i64 0, .int .i64 0, .int .i64 0, .int .i64 0, .int .i64 0, .int .i64 0, .int .i64 0, .int .i64 0, .int .i64 0, .bool false, .bool false, .bool false, .bool false, .bool false, .bool false, .bool false, .bool false, .bool false, .bool false, .bool false, .bool false, .bool false, .bool false, .bool false, .bool false, .bool false, .bool false, .bool false, .bool false, .bool false, .bool false, .bool false, .bool false, .bool false, .bool false, .bool false] 108)) (w.heap.size + 1) zero26 ∧ (((w.alloc (.cells #[vt, vr] 61)).alloc (.cells #[.int .i64 0, .int .i64 0, .int .i64 0, .int .i64 0, .int .i64 0, .int .i64 0, .int .i64 0, .int .i64 0, .int .i64 0, .int .i64 0, .int .i64 0, .int .i64 0, .int .i64 0, .int .i64 0, .int .i64 0, .int .i64 0, .int .i64 0, .int .i64 0, .int .i64 0, .int .i64 0, .int .i64 0, .int .i64 0, .int .i64 0, .int .i64 0, .int .i64 0, .int .i64 0] 62)).alloc (.cells #[.int .i64 0, .int .i64 0, .int .i64 0, .int .i64 0, .int .i64 0, .int .i64 0, .int .i64 0, .int .i64 0, .int .i64 0, .int .i64 0, .int .i64 0, .int .i64 0, .int .i64 0, .int .i64 0, .int .i64 0, .int .i64 0, .int .i64 0, .int .i64 0, .int .i64 0, .int .i64 0, .int .i64 0, .int .i64 0, .int .i64 0, .int .i64 0, .int .i64 0, .int .i64 0, .bool false, .bool false, .bool false, .bool false, .bool false, .bool false, .bool false, .bool false, .bool false, .bool false, .bool false, .bool false, .bool false, .bool false, .bool false, .bool false, .bool false, .bool false, .bool false, .bool false, .bool false, .bool false, .bool false, .bool false, .bool false, .bool false, .bool false] 108)).cell? ⟨w.heap.size, 0, none⟩ = some vt ∧ (((w.alloc (.cells #[vt, vr] 61)).alloc (.cells #[.int .i64 0, .int .i64 0, .int .i64 0, .int .i64 0, .int .i64 0, .int .i64 0, .int .i64 0, .int .i64 0, .int .i64 0, .int .i64 0, .int .i64 0, .int .i64 0, .int .i64 0, .int .i64 0, .int .i64 0, .int .i64 0, .int .i64 0, .int .i64 0, .int .i64 0, .int .i64 0, .int .i64 0, .int .i64 0, .int .i64 0, .int .i64 0, .int .i64 0, .int .i64 0] 62)).alloc (.cells #[.int .i64 0, .int .i64 0, .int .i64 0, .int .i64 0, .int .i64 0, .int .i64 0, .int .i64 0, .int .i64 0, .int .i64 0, .int .i64 0, .int .i64 0, .int .i64 0, .int .i64 0, .int .i64 0, .int .i64 0, .int .i64 0, .int .i64 0, .int .i64 0, .int .i64 0, .int .i64 0, .int .i64 0, .int .i64 0, .int .i64 0, .int .i64 0, .int .i64 0, .int .i64 0, .bool false, .bool false, .bool false, .bool false, .bool false, .bool false, .bool false, .bool false, .bool false, .bool false, .bool false, .bool false, .bool false, .bool false, .bool false, .bool false, .bool false, .bool false, .bool false, .bool false, .bool false, .bool false, .bool false, .bool false, .bool false, .bool false, .bool false] 108)).cell? ⟨w.heap.size, 1, none⟩ = some vr ∧ Below w.heap.size w (((w.alloc (.cells #[vt, vr] 61)).alloc (.cells #[.int .i64 0, .int .i64 0, .int .i64 0, .int .i64 0, .int .i64 0, .int .i64 0, .int .i64 0, .int .i64 0, .int .i64 0, .int .i64 0, .int .i64 0, .int .i64 0, .int .i64 0, .int .i64 0, .int .i64 0, .int .i64 0, .int .i64 0, .int .i64 0, .int .i64 0, .int .i64 0, .int .i64 0, .int .i64 0, .int .i64 0, .int .i64 0, .int .i64 0, .int .i64 0] 62)).alloc (.cells #[.int .i64 0, .int .i64 0, .int .i64 0, .int .i64 0, .int .i64 0, .int .i64 0, .int .i64 0, .int .i64 0, .int .i64 0, .int .i64 0, .int .i64 0, .int .i64 0, .int .i64 0, .int .i64 0, .int .i64 0, .int .i64 0, .int .i64 0, .int .i64 0, .int .i64 0, .int .i64 0, .int .i64 0, .int .i64 0, .int .i64 0, .int .i64 0, .int .i64 0, .int .i64 0, .bool false, .bool false, .bool false, .bool false, .bool false, .bool false, .bool false, .bool false, .bool false, .bool false, .bool false, .bool false, .bool false, .bool false, .bool false, .bool false, .bool false, .bool false, .bool false, .bool false, .bool false, .bool false, .bool false, .bool false, .bool false, .bool false, .bool false] 108)) ∧ (((w.alloc (.cells #[vt, vr] 61)).alloc (.cells #[.int .i64 0, .int .i64 0, .int .i64 0, .int .i64 0, .int .i64 0, .int .i64 0, .int .i64 0, .int .i64 0, .int .i64 0, .int .i64 0, .int .i64 0, .int .i64 0, .int .i64 0, .int .i64 0, .int .i64 0, .int .i64 0, .int .i64 0, .int .i64 0, .int .i64 0, .int .i64 0, .int .i64 0, .int .i64 0, .int .i64 0, .int .i64 0, .int .i64 0, .int .i64 0] 62)).alloc (.cells #[.int .i64 0, .int .i64 0, .int .i64 0, .int .i64 0, .int .i64 0, .int .i64 0, .int .i64 0, .int .i64 0, .int .i64 0, .int .i64 0, .int .i64 0, .int .i64 0, .int .i64 0, .int .i64 0, .int .i64 0, .int .i64 0, .int .i64 0, .int .i64 0, .int .i64 0, .int .i64 0, .int .i64 0, .int .i64 0, .int .i64 0, .int .i64 0, .int .i64 0, .int .i64 0, .bool false, .bool false, .bool false, .bool false, .bool false, .bool false, .bool false, .bool false, .bool false, .bool false, .bool false, .bool false, .bool false, .bool false, .bool false, .bool false, .bool false, .bool false, .bool false, .bool false, .bool false, .bool false, .bool false, .bool false, .bool false, .bool false, .bool false] 108)).heap.size = w.heap.size + 1 + 1 + 1 := by
 have hb : ∀ (W : World) (t : TypeId) (o : Nat), (W.alloc (.cells #[.int .i64 0, .int .i64 0, .int .i64 0, .int .i64 0, .int .i64 0, .int .i64 0, .int .i64 0, .int .i64 0, .int .i64 0, .int .i64 0, .int .i64 0, .int .i64 0, .int .i64 0, .int .i64 0, .int .i64 0, .int .i64 0, .int .i64 0, .int .i64 0, .int .i64 0, .int .i64 0, .int .i64 0, .int .i64 0, .int .i64 0, .int .i64 0, .int .i64 0, .int .i64 0, .bool false, .bool false, .bool false, .bool false, .bool false, .bool false, .bool false, .bool false, .bool false, .bool false, .bool false, .bool false, .bool false, .bool false, .bool false, .bool false, .bool false, .bool false, .bool false, .bool false, .bool false, .bool false, .bool false, .bool false, .bool false, .bool false, .bool false] t)).cell? ⟨W.heap.size, o, none⟩ = list53[o]? := by
  intro W t o
  rw [lab53, cell_of_row _ _ _ _ _ _ (heap_alloc_new W _)]
  simp
 have hs2 : ((w.alloc (.cells #[vt, vr] 61)).alloc (.cells #[.int .i64 0, .int .i64 0, .int .i64 0, .int .i64 0, .int .i64 0, .int .i64 0, .int .i64 0, .int .i64 0, .int .i64 0, .int .i64 0, .int .i64 0, .int .i64 0, .int .i64 0, .int .i64 0, .int .i64 0, .int .i64 0, .int .i64 0, .int .i64 0, .int .i64 0, .int .i64 0, .int .i64 0, .int .i64 0, .int .i64 0, .int .i64 0, .int .i64 0, .int .i64 0] 62)).heap.size = w.heap.size + 1 + 1 := by simp
 have hb2 := hb ((w.alloc (.cells #[vt, vr] 61)).alloc (.cells #[.int .i64 0, .int .i64 0, .int .i64 0, .int .i64 0, .int .i64 0, .int .i64 0, .int .i64 0, .int .i64 0, .int .i64 0, .int .i64 0, .int .i64 0, .int .i64 0, .int .i64 0, .int .i64 0, .int .i64 0, .int .i64 0, .int .i64 0, .int .i64 0, .int .i64 0, .int .i64 0, .int .i64 0, .int .i64 0, .int .i64 0, .int .i64 0, .int .i64 0, .int .i64 0] 62)) 108
 rw [hs2] at hb2
 refine ⟨⟨fun k hk => ?_, fun k hk => ?_, ?_, fun o => ?_⟩, ?_, ?_, ?_, ?_, ?_⟩
 ·rw [hb2 k]
  unfold list53
  rw [rep_get _ _ _ hk]
  have e : lab0.1.getD k 0 = 0 := rep_getD 0 0 26 k hk
  rw [e]
  rfl
 ·rw [hb2 (26 + k)]
  unfold list53
  rw [List.getElem?_append_right (by simp), List.length_replicate, show 26 + k - 26 = k by omega, rep_get _ _ _ hk]
  have e : lab0.2.getD k false = false := rep_getD false false 26 k hk
  rw [e]
 ·rw [hb2 52]; rfl
 ·have := heap_alloc_new ((w.alloc (.cells #[vt, vr] 61)).alloc (.cells #[.int .i64 0, .int .i64 0, .int .i64 0, .int .i64 0, .int .i64 0, .int .i64 0, .int .i64 0, .int .i64 0, .int .i64 0, .int .i64 0, .int .i64 0, .int .i64 0, .int .i64 0, .int .i64 0, .int .i64 0, .int .i64 0, .int .i64 0, .int .i64 0, .int .i64 0, .int .i64 0, .int .i64 0, .int .i64 0, .int .i64 0, .int .i64 0, .int .i64 0, .int .i64 0] 62)) (.cells #[.int .i64 0, .int .i64 0, .int .i64 0, .int .i64 0, .int .i64 0, .int .i64 0, .int .i64 0, .int .i64 0, .int .i64 0, .int .i64 0, .int .i64 0, .int .i64 0, .int .i64 0, .int .i64 0, .int .i64 0, .int .i64 0, .int .i64 0, .int .i64 0, .int .i64 0, .int .i64 0, .int .i64 0, .int .i64 0, .int .i64 0, .int .i64 0, .int .i64 0, .int .i64 0, .bool false, .bool false, .bool false, .bool false, .bool false, .bool false, .bool false, .bool false, .bool false, .bool false, .bool false, .bool false, .bool false, .bool false, .bool false, .bool false, .bool false, .bool false, .bool false, .bool false, .bool false, .bool false, .bool false, .bool false, .bool false, .bool false, .bool false] 108)
  rw [hs2] at this
  simp only [World.frozen?, this]
  simp
 ·have := box_zero (w.alloc (.cells #[vt, vr] 61))
  have h2 := this.keep (K := w.heap.size + 1 + 1) (w' := ((w.alloc (.cells #[vt, vr] 61)).alloc (.cells #[.int .i64 0, .int .i64 0, .int .i64 0, .int .i64 0, .int .i64 0, .int .i64 0, .int .i64 0, .int .i64 0, .int .i64 0, .int .i64 0, .int .i64 0, .int .i64 0, .int .i64 0, .int .i64 0, .int .i64 0, .int .i64 0, .int .i64 0, .int .i64 0, .int .i64 0, .int .i64 0, .int .i64 0, .int .i64 0, .int .i64 0, .int .i64 0, .int .i64 0, .int .i64 0] 62)).alloc (.cells #[.int .i64 0, .int .i64 0, .int .i64 0, .int .i64 0, .int .i64 0, .int .i64 0, .int .i64 0, .int .i64 0, .int .i64 0, .int .i64 0, .int .i64 0, .int .i64 0, .int .i64 0, .int .i64 0, .int .i64 0, .int .i64 0, .int .i64 0, .int .i64 0, .int .i64 0, .int .i64 0, .int .i64 0, .int .i64 0, .int .i64 0, .int .i64 0, .int .i64 0, .int .i64 0, .bool false, .bool false, .bool false, .bool false, .bool false, .bool false, .bool false, .bool false, .bool false, .bool false, .bool false, .bool false, .bool false, .bool false, .bool false, .bool false, .bool false, .bool false, .bool false, .bool false, .bool false, .bool false, .bool false, .bool false, .bool false, .bool false, .bool false] 108)) ((Below.refl _ _).alloc (by simp) _) (by simp <;> omega)
  simpa using h2
 ·rw [World.cell?_alloc_past _ _ _ (by simp <;> omega), World.cell?_alloc_past _ _ _ (by simp)]; simp [go_sem]
 ·rw [World.cell?_alloc_past _ _ _ (by simp <;> omega), World.cell?_alloc_past _ _ _ (by simp)]; simp [go_sem]
 ·exact (((Below.refl _ _).alloc (Nat.le_refl _) _).alloc (by simp) _).alloc (by simp; omega) _
 ·simp
theorem headLab_cons (h : Hd) (r : List Hd) (x : List Nat × List Bool) : headLab (h :: r) x = headLab r (x.1.set h.name.toNat h.label, x.2.set h.name.toNat true) := rfl
def labSum (w : World) (b : Nat) : Nat := ((List.range 26).map fun k => (intOf ((w.cell? ⟨b, k, none⟩).getD undef)).toNat).sum
theorem LabAt.sum {w : World} {b : Nat} {of : List Nat} {fx : List Bool} {gr : Bool} (h : LabAt w b of fx gr) (hof : of.length = 26) : labSum w b = of.sum := by
 unfold labSum
 have e : (List.range 26).map (fun k => (intOf ((w.cell? ⟨b, k, none⟩).getD undef)).toNat) = of := by
  apply List.ext_getElem
  ·simp [hof]
  ·intro i h1 h2
   simp at h1
   rw [List.getElem_map, List.getElem_range, h.lab i h1]
   simp [intOf, List.getD_eq_getElem?_getD, List.getElem?_eq_getElem h2]
 rw [e]
def groAt (w : World) (b : Nat) : Nat := match w.cell? ⟨b, 52, none⟩ with | some (.bool true) => 1 | _ => 0
theorem LabAt.gro1 {w : World} {b : Nat} {of : List Nat} {fx : List Bool} {gr : Bool} (h : LabAt w b of fx gr) : groAt w b = if gr then 1 else 0 := by
 unfold groAt
 rw [h.gro]
 cases gr <;> rfl
set_option maxRecDepth 100000 in
set_option maxHeartbeats 2000000 in
theorem labelsOf_any (hs : List Hd) (l : List (RT 9)) (P : Nat → Prop) (vh vr : Value) (w : World) (hh : hs.length ≤ 1000) (hok : ∀ h ∈ hs, HdOk h) (ht : TreeOk 9 l) (hvh : HeadsV w P vh hs) (hvr : RulesV 9 w P vr l) :
  Calls Tryz.prog 37 #[.agg #[vh, vr]] w fun e w' => e = .returned (.agg (arrV (labelsP hs l))) ∧ Below w.heap.size w w' := by
 obtain ⟨ao, gb, cap, rfl, hcap, hcells⟩ := heads_form hvh
 obtain ⟨ar, nr, cr, hvr2⟩ := rulesV_form hvr
 subst hvr2
 unfold labelsP
 generalize hH : headLab hs lab0 = HH
 have HHH : Hid (headLab hs lab0 = HH) := hH
 generalize hRR : labLoop HH.2 l 400 HH.1 = R
 have HRR : Hid (labLoop HH.2 l 400 HH.1 = R) := hRR
 clear hH hRR
 go_enter Tryz.func37, Tryz.ntmps37
 go_wp2_with fail
 have hst := labs_start w (.slice ao hs.length cap) (.slice ar nr cr)
 generalize ((w.alloc (.cells #[.slice ao hs.length cap, .slice ar nr cr] 61)).alloc (.cells #[.int .i64 0, .int .i64 0, .int .i64 0, .int .i64 0, .int .i64 0, .int .i64 0, .int .i64 0, .int .i64 0, .int .i64 0, .int .i64 0, .int .i64 0, .int .i64 0, .int .i64 0, .int .i64 0, .int .i64 0, .int .i64 0, .int .i64 0, .int .i64 0, .int .i64 0, .int .i64 0, .int .i64 0, .int .i64 0, .int .i64 0, .int .i64 0, .int .i64 0, .int .i64 0] 62)).alloc (.cells #[.int .i64 0, .int .i64 0, .int .i64 0, .int .i64 0, .int .i64 0, .int .i64 0, .int .i64 0, .int .i64 0, .int .i64 0, .int .i64 0, .int .i64 0, .int .i64 0, .int .i64 0, .int .i64 0, .int .i64 0, .int .i64 0, .int .i64 0, .int .i64 0, .int .i64 0, .int .i64 0, .int .i64 0, .int .i64 0, .int .i64 0, .int .i64 0, .int .i64 0, .int .i64 0, .bool false, .bool false, .bool false, .bool false, .bool false, .bool false, .bool false, .bool false, .bool false, .bool false, .bool false, .bool false, .bool false, .bool false, .bool false, .bool false, .bool false, .bool false, .bool false, .bool false, .bool false, .bool false, .bool false, .bool false, .bool false, .bool false, .bool false] 108) = W0 at *
 obtain ⟨hl0, hx0, ht0, ht1, hb0, hs0⟩ := hst
 have HC : Hid (HeadCells w ao gb hs) := hcells
 have HOK : Hid (∀ h ∈ hs, HdOk h) := hok
 have HT : Hid (TreeOk 9 l) := ht
 have HV : Hid (RulesV 9 w P (.slice ar nr cr) l) := hvr
 have HB0 : Hid (Below w.heap.size w W0) := hb0
 have HX0 : Hid (BoxAt W0 (w.heap.size + 1) zero26) := hx0
 clear hcells hok ht hvr hb0 hx0 hvh
 go_loopw [9] (fun x w' => ∃ (k : Nat) (of : List Nat) (fx : List Bool), x = .int .i64 k ∧ k ≤ hs.length ∧ Hid (LabAt w' (w.heap.size + 1 + 1) of fx false) ∧ Hid (OfOk of) ∧ fx.length = 26 ∧ Hid (Below (w.heap.size + 1 + 1) W0 w') ∧ Hid (headLab (hs.drop k) (of, fx) = HH)) (fun x _ => hs.length - (intOf x).toNat)
 case atStart => exact ⟨0, lab0.1, lab0.2, rfl, by omega, hl0, ⟨rfl, by decide⟩, rfl, Below.refl _ _, HHH⟩
 case round =>
  obtain ⟨k, of, fx, rfl, hk, HL, HO, hfx, HW, HS⟩ := hrel
  have hBl := HL.out.lt
  by_cases hlt : k < hs.length
  ·have tk : decide ((k : Int) < (hs.length : Int)) = true := by simp; omega
   obtain ⟨e0, hg, c0, c1, c2, c3⟩ := HC.out k hlt
   have hok := HOK.out hs[k] (List.getElem_mem hlt)
   have hcw : ∀ o, wr.cell? ⟨gb, o, none⟩ = w.cell? ⟨gb, o, none⟩ := fun o => (HW.out.cell (p := ⟨gb, o, none⟩) (by simp only; omega)).trans (HB0.out.cell (p := ⟨gb, o, none⟩) hg)
   rw [← hcw] at c0 c1 c2 c3
   have hstep := HS.out
   rw [List.drop_eq_getElem_cons hlt, headLab_cons] at hstep
   subst e0
   generalize hs[k] = hd at *
   obtain ⟨hn0, hn1, hlab, hpl⟩ := hok
   obtain ⟨nn, hnn⟩ : ∃ nn : Nat, hd.name = nn := ⟨hd.name.toNat, by omega⟩
   rw [hnn] at c2 hstep hn0 hn1
   simp only [Int.toNat_natCast] at hstep
   have HS2 : Hid _ := hstep
   have hnn26 : nn < 26 := by omega
   have q1 := HL.out.lab nn hnn26
   have q2 := HL.out.fix nn hnn26
   have qf := HL.out.fz
   have hne : ¬ w.heap.size + 1 + 1 = wr.heap.size := by omega
   clear hstep hcw
   go_wp2_with fail
   go_roundw
   case rel =>
    exact ⟨k + 1, of.set nn hd.label, fx.set nn true, by go_num, by omega, ((HL.out.setLab HO.out.len nn hd.label hnn26).setFix hfx nn true hnn26).below ((Below.refl _ _).alloc (Nat.le_refl _) _), HO.out.set nn _ hlab, by simpa using hfx, ((HW.out.setCell (Nat.le_refl _) _).setCell (Nat.le_refl _) _).alloc (by simp; omega) _, HS2⟩
   case measure => simp [intOf]; omega
  ·have tk : decide ((k : Int) < (hs.length : Int)) = false := by simp; omega
   have hfin : (of, fx) = HH := by
    have := HS.out
    rw [List.drop_of_length_le (by omega)] at this
    exact this
   have HF : Hid _ := hfin
   have qg := HL.out.gro
   have qf := HL.out.fz
   clear hfin
   go_wp2_with fail
   have hFe := HF.out
   subst hFe
   have hsum := HO.out.sum_le
   go_loopw [] (fun w' => ∃ (j : Nat) (of' : List Nat) (gr : Bool), Hid (LabAt w' (w.heap.size + 1 + 1) of' fx gr) ∧ Hid (OfOk of') ∧ Hid (Below (w.heap.size + 1 + 1) W0 w') ∧ Hid ((gr = true → 390 - of'.sum < j ∧ labLoop fx l j of' = R) ∧ (gr = false → of' = R))) (fun w' => 2 * (391 - labSum w' (w.heap.size + 1 + 1)) + groAt w' (w.heap.size + 1 + 1))
   case atStart => exact ⟨400, of, true, HL.out.setGro true, HO, HW.out.setCell (Nat.le_refl _) _, ⟨fun _ => ⟨by omega, HRR.out⟩, fun e => (by cases e)⟩⟩
   case round =>
    clear HL HW HF hBl qg qf HO
    obtain ⟨j, of', gr, HL, HO, HW, HQ⟩ := hrel
    have qg := HL.out.gro
    have qf := HL.out.fz
    have hBl := HL.out.lt
    have hlen := HO.out.len
    have hs1 := HL.out.sum hlen
    have hg1 := HL.out.gro1
    have ht0r : wr.cell? ⟨w.heap.size, 1, none⟩ = some (.slice ar nr cr) := (HW.out.cell (p := ⟨w.heap.size, 1, none⟩) (by simp only; omega)).trans ht1
    cases gr
    ·have hfin : of' = R := HQ.out.2 rfl
     subst hfin
     have hra := HL.out.range hlen
     have hxr : BoxAt wr (w.heap.size + 1) zero26 := HX0.out.keep HW.out (by omega)
     have hsz : (arrV of').size = 26 := by simp [arrV, hlen]
     have hsz0 : (arrV zero26).size = 26 := by rfl
     have HXR : Hid _ := hxr
     have HRA : Hid (wr.rangeAt (w.heap.size + 1 + 1) 0 (of'.map natV)) := hra
     clear hra hxr
     go_upto_region 12 with fail
     go_wp2_with (first | (refine wpList_load_mid rfl 62 (.tmp 31) rfl (w.heap.size + 1 + 1) 0 rfl (of'.map natV) _ HRA.out Tryz.underlying62 rfl (by rw [infoArr, List.length_map, hlen]) ?_) | (refine wpList_store_row rfl 62 (.tmp 2) (.tmp 32) rfl (w.heap.size + 1) (arrV of') rfl rfl 62 (arrV zero26) HXR.out (by rw [infoArr, hsz]) (by rw [hsz, hsz0]) (arr_one of') ?_))
     have hfin := BoxAt.setRow of' HXR.out
     exact bodyPost_ret (v := .agg (arrV of')) (results_cell_row rfl _ _ (w.heap.size + 1) 62 (arrV of') (0, 0) _ rfl hfin Tryz.underlying62 rfl (by rw [infoArr, hsz])) rfl ⟨rfl, below_setRow (HB0.out.trans (HW.out.mono (by omega))) (by omega)⟩
    ·obtain ⟨hj, hloop⟩ := HQ.out.1 rfl
     obtain ⟨j', rfl⟩ : ∃ j', j = j' + 1 := ⟨j - 1, by omega⟩
     have hgrow := enlF_grow fx 9 (of', false) l 0 HO.out HT.out (by omega)
     have hloop2 : (if (enlF fx 9 (of', false) l 0).2 then labLoop fx l j' (enlF fx 9 (of', false) l 0).1 else (enlF fx 9 (of', false) l 0).1) = R := hloop
     clear hloop
     generalize hst' : enlF fx 9 (of', false) l 0 = st at *
     have HST : Hid (enlF fx 9 (of', false) l 0 = st) := hst'
     have HG : Hid _ := hgrow
     have HLP : Hid _ := hloop2
     clear hst' hgrow hloop2
     go_wp2_with fail
     have hLg := HL.out.setGro false
     have hBg : Below w.heap.size w (wr.setCell ⟨w.heap.size + 1 + 1, 52, none⟩ (.bool false)) := HB0.out.trans ((HW.out.setCell (Nat.le_refl _) _).mono (by omega))
     refine (enlargeAll_any fx 9 (w.heap.size + 1 + 1) 0 of' false l (fun k => k < w.heap.size) _ _ HO.out HT.out (by omega) hLg (rulesV_frame (fun k hk hl => ⟨hl, hBg.block k hl⟩) 9 _ _ HV.out) (fun k hk => by omega)).mono ?_
     rw [HST.out]
     rintro e w2 ⟨rfl, hl2, hb2⟩
     have HL2 : Hid _ := hl2
     have HW2 : Hid (Below (w.heap.size + 1 + 1) W0 w2) := (HW.out.setCell (Nat.le_refl _) _).trans ⟨hb2.os, hb2.tape, hb2.output, hb2.size, fun k hk => hb2.block k (by simp; omega) (fun e => by have := Option.some.inj e; omega)⟩
     clear hl2 hb2 hLg hBg
     go_wp2_with fail
     go_roundw
     case rel =>
      refine ⟨j', st.1, st.2, HL2, HG.out.ok, HW2, ⟨fun e => ?_, fun e => ?_⟩⟩
      ·have h1 := HLP.out
       rw [if_pos e] at h1
       refine ⟨?_, h1⟩
       have h2 := HG.out.more e
       have h3 := HO.out.sum_le
       have h9 := HG.out.ok.sum_le
       simp at h2
       omega
      ·have h1 := HLP.out
       rw [if_neg (by rw [e]; decide)] at h1
       exact h1
     case measure =>
      have h5 := LabAt.sum HL2.out HG.out.ok.len
      have h6 := LabAt.gro1 HL2.out
      have h7 := HG.out.ok.sum_le
      have h8 := HG.out.le
      simp only at h8
      rw [hs1, hg1, h5, h6]
      cases e : st.2
      ·simp; omega
      ·have h2 := HG.out.more e
       simp at h2
       simp; omega
end Go.Proofs.YtdgmoiflahoihabGreatDoor
namespace Go.Proofs.YtdgmoiflahoihabGreatDoor
open Go.RowKit
set_option linter.unusedSimpArgs false
set_option linter.unusedVariables false
def e30 (e p : Int) : List Value := [Value.int .i64 e, Value.int .i64 p, Value.slice none 0 0, Value.slice none 0 0] ++ zero26.map natV
theorem infoRules : (Tryz.prog.info? 64).map (·.size) = some 30 := by kernel_rfl
theorem e30_one (e p : Int) : (e30 e p).toArray.all (·.oneCell') = true := by
 apply all_oneCell_toArray
 intro v hv
 unfold e30 at hv
 rcases List.mem_append.mp hv with h | h
 ·simp at h
  rcases h with rfl | rfl | rfl <;> rfl
 ·obtain ⟨n, _, rfl⟩ := List.mem_map.mp h
  rfl
theorem e30_size (e p : Int) : (e30 e p).toArray.size = 30 := by rfl
theorem rules_new (w : World) : (w.alloc (.cells #[.int .i64 0, .int .i64 0, .slice none 0 0, .slice none 0 0, .int .i64 0, .int .i64 0, .int .i64 0, .int .i64 0, .int .i64 0, .int .i64 0, .int .i64 0, .int .i64 0, .int .i64 0, .int .i64 0, .int .i64 0, .int .i64 0, .int .i64 0, .int .i64 0, .int .i64 0, .int .i64 0, .int .i64 0, .int .i64 0, .int .i64 0, .int .i64 0, .int .i64 0, .int .i64 0, .int .i64 0, .int .i64 0, .int .i64 0, .int .i64 0] 64)).heap[w.heap.size]? = some (.cells (e30 0 0).toArray 64 (0, 0)) := heap_alloc_new w _
set_option maxRecDepth 100000 in
set_option maxHeartbeats 2000000 in
theorem text_long (s : ByteArray) (w : World) (hs : s.size ≤ maxLen) (h : 400 < s.size) :
  Calls Tryz.prog 27 #[.string s] w fun e w' => e = .returned (.agg (e30 1 0).toArray) ∧ Below w.heap.size w w' := by
 unfold maxLen at hs
 have hz := rules_new w
 have hb := (Below.refl w.heap.size w).alloc (Nat.le_refl _) (.cells #[.int .i64 0, .int .i64 0, .slice none 0 0, .slice none 0 0, .int .i64 0, .int .i64 0, .int .i64 0, .int .i64 0, .int .i64 0, .int .i64 0, .int .i64 0, .int .i64 0, .int .i64 0, .int .i64 0, .int .i64 0, .int .i64 0, .int .i64 0, .int .i64 0, .int .i64 0, .int .i64 0, .int .i64 0, .int .i64 0, .int .i64 0, .int .i64 0, .int .i64 0, .int .i64 0, .int .i64 0, .int .i64 0, .int .i64 0, .int .i64 0] 64)
 go_enter Tryz.func27, Tryz.ntmps27
 go_upto_region 2 with fail
 generalize (w.alloc (.cells #[.int .i64 0, .int .i64 0, .slice none 0 0, .slice none 0 0, .int .i64 0, .int .i64 0, .int .i64 0, .int .i64 0, .int .i64 0, .int .i64 0, .int .i64 0, .int .i64 0, .int .i64 0, .int .i64 0, .int .i64 0, .int .i64 0, .int .i64 0, .int .i64 0, .int .i64 0, .int .i64 0, .int .i64 0, .int .i64 0, .int .i64 0, .int .i64 0, .int .i64 0, .int .i64 0, .int .i64 0, .int .i64 0, .int .i64 0, .int .i64 0] 64)) = W at *
 have HZ : Hid _ := hz
 clear hz
 go_wp2_with (refine wpList_store_row rfl 64 (.tmp 2) (.tmp 10) rfl w.heap.size (e30 1 0).toArray rfl rfl 64 (e30 0 0).toArray HZ.out (by rw [infoRules, e30_size]) rfl (e30_one 1 0) ?_)
 have hfin : (W.setRow w.heap.size (e30 1 0).toArray).heap[w.heap.size]? = some (.cells (e30 1 0).toArray 64 (0, 0)) := setRow_heap W _ _ _ _ _ HZ.out
 exact bodyPost_ret (v := .agg (e30 1 0).toArray) (results_cell_row rfl _ _ w.heap.size 64 (e30 1 0).toArray (0, 0) _ rfl hfin Tryz.underlying64 rfl (by rw [infoRules, e30_size])) rfl ⟨rfl, below_setRow hb (Nat.le_refl _)⟩
structure ParseOk (t : List UInt8) : Prop where
 heads : ∀ h ∈ (parseH t).2, HdOk h
 few : (parseH t).2.length ≤ 1000
 tree : TreeOk 9 (parseR t).2
 work : workS 9 (parseR t).2 < 1099511627776
set_option maxRecDepth 100000 in
set_option maxHeartbeats 2000000 in
theorem text_misform (s : ByteArray) (w : World) (hs : s.size ≤ 400) (hbad : (parseR s.data.toList).1.bad = true) :
  Calls Tryz.prog 27 #[.string s] w fun e w' => e = .returned (.agg (e30 2 (parseR s.data.toList).1.pos).toArray) ∧ Below w.heap.size w w' := by
 have hz := rules_new w
 have hb := (Below.refl w.heap.size w).alloc (Nat.le_refl _) (.cells #[.int .i64 0, .int .i64 0, .slice none 0 0, .slice none 0 0, .int .i64 0, .int .i64 0, .int .i64 0, .int .i64 0, .int .i64 0, .int .i64 0, .int .i64 0, .int .i64 0, .int .i64 0, .int .i64 0, .int .i64 0, .int .i64 0, .int .i64 0, .int .i64 0, .int .i64 0, .int .i64 0, .int .i64 0, .int .i64 0, .int .i64 0, .int .i64 0, .int .i64 0, .int .i64 0, .int .i64 0, .int .i64 0, .int .i64 0, .int .i64 0] 64)
 have hWs : (w.alloc (.cells #[.int .i64 0, .int .i64 0, .slice none 0 0, .slice none 0 0, .int .i64 0, .int .i64 0, .int .i64 0, .int .i64 0, .int .i64 0, .int .i64 0, .int .i64 0, .int .i64 0, .int .i64 0, .int .i64 0, .int .i64 0, .int .i64 0, .int .i64 0, .int .i64 0, .int .i64 0, .int .i64 0, .int .i64 0, .int .i64 0, .int .i64 0, .int .i64 0, .int .i64 0, .int .i64 0, .int .i64 0, .int .i64 0, .int .i64 0, .int .i64 0] 64)).heap.size = w.heap.size + 1 := by simp
 have tl : decide (400 < (s.size : Int)) = false := by simp; omega
 generalize hpp : (parseR s.data.toList).1.pos = pp
 have HPP : Hid _ := hpp
 have HBAD : Hid _ := hbad
 clear hpp hbad
 go_enter Tryz.func27, Tryz.ntmps27
 go_upto_region 2 with fail
 generalize (w.alloc (.cells #[.int .i64 0, .int .i64 0, .slice none 0 0, .slice none 0 0, .int .i64 0, .int .i64 0, .int .i64 0, .int .i64 0, .int .i64 0, .int .i64 0, .int .i64 0, .int .i64 0, .int .i64 0, .int .i64 0, .int .i64 0, .int .i64 0, .int .i64 0, .int .i64 0, .int .i64 0, .int .i64 0, .int .i64 0, .int .i64 0, .int .i64 0, .int .i64 0, .int .i64 0, .int .i64 0, .int .i64 0, .int .i64 0, .int .i64 0, .int .i64 0] 64)) = W at *
 have HZ : Hid _ := hz
 clear hz
 go_wp2_with fail
 refine (parse_any s hs _).mono ?_
 rintro e w1 ⟨hb1, he1, _⟩
 have he2 := he1 HBAD.out
 rw [HPP.out] at he2
 subst he2
 have hz1 : w1.heap[w.heap.size]? = some (.cells (e30 0 0).toArray 64 (0, 0)) := by rw [hb1.block _ (by omega)]; exact HZ.out
 have hbb : Below w.heap.size w w1 := hb.trans (hb1.mono (by omega))
 have hsz1 := hb1.size
 have hz2 : (w1.alloc (.cells #[.slice none 0 0, .slice none 0 0] 61)).heap[w.heap.size]? = some (.cells (e30 0 0).toArray 64 (0, 0)) := by rw [Below.heap_alloc _ _ _ (by omega)]; exact hz1
 have HZ2 : Hid _ := hz2
 clear hb1 he1 hz1 HZ hz2
 go_wp2_with (refine wpList_store_row rfl 64 (.tmp 2) _ rfl w.heap.size (e30 2 pp).toArray rfl rfl 64 (e30 0 0).toArray HZ2.out (by rw [infoRules, e30_size]) rfl (e30_one _ _) ?_)
 have hfin : ((w1.alloc (.cells #[.slice none 0 0, .slice none 0 0] 61)).setRow w.heap.size (e30 2 pp).toArray).heap[w.heap.size]? = some (.cells (e30 2 pp).toArray 64 (0, 0)) := setRow_heap _ _ _ _ _ _ HZ2.out
 exact bodyPost_ret (v := .agg (e30 2 pp).toArray) (results_cell_row rfl _ _ w.heap.size 64 (e30 2 pp).toArray (0, 0) _ rfl hfin Tryz.underlying64 rfl (by rw [infoRules, e30_size])) rfl ⟨rfl, below_setRow (hbb.alloc (by omega) _) (Nat.le_refl _)⟩
structure ParseOk2 (H : Rd × List Hd) (R : Rd × List (RT 9)) : Prop where
 heads : ∀ h ∈ H.2, HdOk h
 few : H.2.length ≤ 1000
 tree : TreeOk 9 R.2
 work : workS 9 R.2 < 1099511627776
set_option maxRecDepth 100000 in
set_option maxHeartbeats 2000000 in
theorem text_name (s : ByteArray) (w : World) (hs : s.size ≤ 400) (hpo : ParseOk s.data.toList) (hbad : (parseR s.data.toList).1.bad = false) (p : Nat) (htw : twiceL [] (parseH s.data.toList).2 = some p) :
  Calls Tryz.prog 27 #[.string s] w fun e w' => e = .returned (.agg (e30 3 p).toArray) ∧ Below w.heap.size w w' := by
 have hz := rules_new w
 have hb := (Below.refl w.heap.size w).alloc (Nat.le_refl _) (.cells #[.int .i64 0, .int .i64 0, .slice none 0 0, .slice none 0 0, .int .i64 0, .int .i64 0, .int .i64 0, .int .i64 0, .int .i64 0, .int .i64 0, .int .i64 0, .int .i64 0, .int .i64 0, .int .i64 0, .int .i64 0, .int .i64 0, .int .i64 0, .int .i64 0, .int .i64 0, .int .i64 0, .int .i64 0, .int .i64 0, .int .i64 0, .int .i64 0, .int .i64 0, .int .i64 0, .int .i64 0, .int .i64 0, .int .i64 0, .int .i64 0] 64)
 have hWs : (w.alloc (.cells #[.int .i64 0, .int .i64 0, .slice none 0 0, .slice none 0 0, .int .i64 0, .int .i64 0, .int .i64 0, .int .i64 0, .int .i64 0, .int .i64 0, .int .i64 0, .int .i64 0, .int .i64 0, .int .i64 0, .int .i64 0, .int .i64 0, .int .i64 0, .int .i64 0, .int .i64 0, .int .i64 0, .int .i64 0, .int .i64 0, .int .i64 0, .int .i64 0, .int .i64 0, .int .i64 0, .int .i64 0, .int .i64 0, .int .i64 0, .int .i64 0] 64)).heap.size = w.heap.size + 1 := by simp
 have tl : decide (400 < (s.size : Int)) = false := by simp; omega
 have HPO0 := hpo
 generalize hHe : parseH s.data.toList = H at *
 generalize hRe : parseR s.data.toList = R at *
 have HHe : Hid (parseH s.data.toList = H) := hHe
 have HRe : Hid (parseR s.data.toList = R) := hRe
 have HPO : Hid (ParseOk2 H R) := ⟨by rw [← hHe]; exact hpo.heads, by rw [← hHe]; exact hpo.few, by rw [← hRe]; exact hpo.tree, by rw [← hRe]; exact hpo.work⟩
 have HBAD : Hid (R.1.bad = false) := hbad
 have HTW : Hid (twiceL [] H.2 = some p) := htw
 clear hHe hRe hpo hbad htw HPO0
 go_enter Tryz.func27, Tryz.ntmps27
 go_upto_region 2 with fail
 generalize (w.alloc (.cells #[.int .i64 0, .int .i64 0, .slice none 0 0, .slice none 0 0, .int .i64 0, .int .i64 0, .int .i64 0, .int .i64 0, .int .i64 0, .int .i64 0, .int .i64 0, .int .i64 0, .int .i64 0, .int .i64 0, .int .i64 0, .int .i64 0, .int .i64 0, .int .i64 0, .int .i64 0, .int .i64 0, .int .i64 0, .int .i64 0, .int .i64 0, .int .i64 0, .int .i64 0, .int .i64 0, .int .i64 0, .int .i64 0, .int .i64 0, .int .i64 0] 64)) = W at *
 have HZ : Hid _ := hz
 clear hz
 go_wp2_with fail
 refine (parse_any s hs _).mono ?_
 rw [HRe.out, HHe.out]
 rintro e w1 ⟨hb1, _, he1⟩
 obtain ⟨vh, vr, rfl, hvh, hvr⟩ := he1 HBAD.out
 obtain ⟨ah, nh, ch, hvh2⟩ : ∃ aa nn cc, vh = .slice aa nn cc := by
  rcases Joins.ownsRow_forms hvh.1 with ⟨rfl, _⟩ | ⟨g, cap, rfl⟩ <;> exact ⟨_, _, _, rfl⟩
 obtain ⟨ar, nr, cr, hvr2⟩ := rulesV_form hvr
 subst hvh2 hvr2
 have hsz1 := hb1.size
 have hz1 : w1.heap[w.heap.size]? = some (.cells (e30 0 0).toArray 64 (0, 0)) := by rw [hb1.block _ (by omega)]; exact HZ.out
 have hbb : Below w.heap.size w w1 := hb.trans (hb1.mono (by omega))
 generalize hW2 : w1.alloc (.cells #[.slice ah nh ch, .slice ar nr cr] 61) = W2
 have HW2 : Hid _ := hW2
 have hb2 : Below w1.heap.size w1 W2 := by rw [← hW2]; exact (Below.refl _ _).alloc (Nat.le_refl _) _
 have hs2 : W2.heap.size = w1.heap.size + 1 := by rw [← hW2]; simp
 have t0 : W2.cell? ⟨w1.heap.size, 0, none⟩ = some (.slice ah nh ch) := by rw [← hW2]; simp [go_sem]
 have t1 : W2.cell? ⟨w1.heap.size, 1, none⟩ = some (.slice ar nr cr) := by rw [← hW2]; simp [go_sem]
 have hz2 : W2.heap[w.heap.size]? = some (.cells (e30 0 0).toArray 64 (0, 0)) := by rw [hb2.block _ (by omega)]; exact hz1
 have hbb2 : Below w.heap.size w W2 := hbb.trans (hb2.mono (by omega))
 have HVH : Hid (HeadsV W2 (fun k => W.heap.size ≤ k) (.slice ah nh ch) H.2) := headsV_frame hvh (fun k hk hl => ⟨hk, hb2.block k hl⟩)
 have HVR : Hid (RulesV 9 W2 (fun k => W.heap.size ≤ k) (.slice ar nr cr) R.2) := rulesV_below hvr hb2
 have HZ2 : Hid (W2.heap[w.heap.size]? = some (.cells (e30 0 0).toArray 64 (0, 0))) := hz2
 have HBB2 : Hid (Below w.heap.size w W2) := hbb2
 clear hb1 hz1 HZ hvh hvr hbb hW2 hb2 hz2 hbb2 hb
 go_upto_region 6 with fail
 rw [HW2.out]
 go_wp2_with fail
 refine (headsDiffer_any H.2 _ _ _ HPO.out.few HVH.out).mono ?_
 rw [HTW.out]
 rintro e w3 ⟨rfl, hb3⟩
 have hz3 : w3.heap[w.heap.size]? = some (.cells (e30 0 0).toArray 64 (0, 0)) := by rw [hb3.block _ (by omega)]; exact HZ2.out
 have HZ3 : Hid _ := hz3
 have hbb3 : Below w.heap.size w w3 := HBB2.out.trans (hb3.mono (by omega))
 clear hz3 hb3
 simp only [resV, Option.getD_some, Option.isNone_some]
 go_wp2_with (refine wpList_store_row rfl 64 (.tmp 2) _ rfl w.heap.size (e30 3 p).toArray rfl rfl 64 (e30 0 0).toArray HZ3.out (by rw [infoRules, e30_size]) rfl (e30_one _ _) ?_)
 have hfin : ((w3).setRow w.heap.size (e30 3 p).toArray).heap[w.heap.size]? = some (.cells (e30 3 p).toArray 64 (0, 0)) := setRow_heap _ _ _ _ _ _ HZ3.out
 exact bodyPost_ret (v := .agg (e30 3 p).toArray) (results_cell_row rfl _ _ w.heap.size 64 (e30 3 p).toArray (0, 0) _ rfl hfin Tryz.underlying64 rfl (by rw [infoRules, e30_size])) rfl ⟨rfl, below_setRow hbb3 (Nat.le_refl _)⟩
set_option maxRecDepth 100000 in
set_option maxHeartbeats 2000000 in
theorem text_large (s : ByteArray) (w : World) (hs : s.size ≤ 400) (hpo : ParseOk s.data.toList) (hbad : (parseR s.data.toList).1.bad = false) (htw : twiceL [] (parseH s.data.toList).2 = none) (hwk : 5000 < workS 9 (parseR s.data.toList).2) :
  Calls Tryz.prog 27 #[.string s] w fun e w' => e = .returned (.agg (e30 4 0).toArray) ∧ Below w.heap.size w w' := by
 have hz := rules_new w
 have hb := (Below.refl w.heap.size w).alloc (Nat.le_refl _) (.cells #[.int .i64 0, .int .i64 0, .slice none 0 0, .slice none 0 0, .int .i64 0, .int .i64 0, .int .i64 0, .int .i64 0, .int .i64 0, .int .i64 0, .int .i64 0, .int .i64 0, .int .i64 0, .int .i64 0, .int .i64 0, .int .i64 0, .int .i64 0, .int .i64 0, .int .i64 0, .int .i64 0, .int .i64 0, .int .i64 0, .int .i64 0, .int .i64 0, .int .i64 0, .int .i64 0, .int .i64 0, .int .i64 0, .int .i64 0, .int .i64 0] 64)
 have hWs : (w.alloc (.cells #[.int .i64 0, .int .i64 0, .slice none 0 0, .slice none 0 0, .int .i64 0, .int .i64 0, .int .i64 0, .int .i64 0, .int .i64 0, .int .i64 0, .int .i64 0, .int .i64 0, .int .i64 0, .int .i64 0, .int .i64 0, .int .i64 0, .int .i64 0, .int .i64 0, .int .i64 0, .int .i64 0, .int .i64 0, .int .i64 0, .int .i64 0, .int .i64 0, .int .i64 0, .int .i64 0, .int .i64 0, .int .i64 0, .int .i64 0, .int .i64 0] 64)).heap.size = w.heap.size + 1 := by simp
 have tl : decide (400 < (s.size : Int)) = false := by simp; omega
 have HPO0 := hpo
 generalize hHe : parseH s.data.toList = H at *
 generalize hRe : parseR s.data.toList = R at *
 have HHe : Hid (parseH s.data.toList = H) := hHe
 have HRe : Hid (parseR s.data.toList = R) := hRe
 have HPO : Hid (ParseOk2 H R) := ⟨by rw [← hHe]; exact hpo.heads, by rw [← hHe]; exact hpo.few, by rw [← hRe]; exact hpo.tree, by rw [← hRe]; exact hpo.work⟩
 have HBAD : Hid (R.1.bad = false) := hbad
 have HTW : Hid (twiceL [] H.2 = none) := htw
 have hwl : workS 9 R.2 < 1099511627776 := HPO.out.work
 generalize hke : workS 9 R.2 = k at *
 have HKE : Hid (workS 9 R.2 = k) := hke
 clear hHe hRe hpo hbad htw HPO0 hke
 go_enter Tryz.func27, Tryz.ntmps27
 go_upto_region 2 with fail
 generalize (w.alloc (.cells #[.int .i64 0, .int .i64 0, .slice none 0 0, .slice none 0 0, .int .i64 0, .int .i64 0, .int .i64 0, .int .i64 0, .int .i64 0, .int .i64 0, .int .i64 0, .int .i64 0, .int .i64 0, .int .i64 0, .int .i64 0, .int .i64 0, .int .i64 0, .int .i64 0, .int .i64 0, .int .i64 0, .int .i64 0, .int .i64 0, .int .i64 0, .int .i64 0, .int .i64 0, .int .i64 0, .int .i64 0, .int .i64 0, .int .i64 0, .int .i64 0] 64)) = W at *
 have HZ : Hid _ := hz
 clear hz
 go_wp2_with fail
 refine (parse_any s hs _).mono ?_
 rw [HRe.out, HHe.out]
 rintro e w1 ⟨hb1, _, he1⟩
 obtain ⟨vh, vr, rfl, hvh, hvr⟩ := he1 HBAD.out
 obtain ⟨ah, nh, ch, hvh2⟩ : ∃ aa nn cc, vh = .slice aa nn cc := by
  rcases Joins.ownsRow_forms hvh.1 with ⟨rfl, _⟩ | ⟨g, cap, rfl⟩ <;> exact ⟨_, _, _, rfl⟩
 obtain ⟨ar, nr, cr, hvr2⟩ := rulesV_form hvr
 subst hvh2 hvr2
 have hsz1 := hb1.size
 have hz1 : w1.heap[w.heap.size]? = some (.cells (e30 0 0).toArray 64 (0, 0)) := by rw [hb1.block _ (by omega)]; exact HZ.out
 have hbb : Below w.heap.size w w1 := hb.trans (hb1.mono (by omega))
 generalize hW2 : w1.alloc (.cells #[.slice ah nh ch, .slice ar nr cr] 61) = W2
 have HW2 : Hid _ := hW2
 have hb2 : Below w1.heap.size w1 W2 := by rw [← hW2]; exact (Below.refl _ _).alloc (Nat.le_refl _) _
 have hs2 : W2.heap.size = w1.heap.size + 1 := by rw [← hW2]; simp
 have t0 : W2.cell? ⟨w1.heap.size, 0, none⟩ = some (.slice ah nh ch) := by rw [← hW2]; simp [go_sem]
 have t1 : W2.cell? ⟨w1.heap.size, 1, none⟩ = some (.slice ar nr cr) := by rw [← hW2]; simp [go_sem]
 have hz2 : W2.heap[w.heap.size]? = some (.cells (e30 0 0).toArray 64 (0, 0)) := by rw [hb2.block _ (by omega)]; exact hz1
 have hbb2 : Below w.heap.size w W2 := hbb.trans (hb2.mono (by omega))
 have HVH : Hid (HeadsV W2 (fun k => W.heap.size ≤ k) (.slice ah nh ch) H.2) := headsV_frame hvh (fun k hk hl => ⟨hk, hb2.block k hl⟩)
 have HVR : Hid (RulesV 9 W2 (fun k => W.heap.size ≤ k) (.slice ar nr cr) R.2) := rulesV_below hvr hb2
 have HZ2 : Hid (W2.heap[w.heap.size]? = some (.cells (e30 0 0).toArray 64 (0, 0))) := hz2
 have HBB2 : Hid (Below w.heap.size w W2) := hbb2
 clear hb1 hz1 HZ hvh hvr hbb hW2 hb2 hz2 hbb2 hb
 go_upto_region 6 with fail
 rw [HW2.out]
 go_wp2_with fail
 refine (headsDiffer_any H.2 _ _ _ HPO.out.few HVH.out).mono ?_
 rw [HTW.out]
 rintro e w3 ⟨rfl, hb3⟩
 have hz3 : w3.heap[w.heap.size]? = some (.cells (e30 0 0).toArray 64 (0, 0)) := by rw [hb3.block _ (by omega)]; exact HZ2.out
 have HZ3 : Hid _ := hz3
 have HBB3 : Hid (Below w.heap.size w w3) := HBB2.out.trans (hb3.mono (by omega))
 have HVR3 : Hid (RulesV 9 w3 (fun k => W.heap.size ≤ k) (.slice ar nr cr) R.2) := rulesV_below HVR.out hb3
 rw [← hb3.cell (p := ⟨w1.heap.size, 1, none⟩) (by simp only; omega)] at t1
 have hs3 := hb3.size
 clear hz3 hb3 t0
 simp only [resV, Option.getD_none, Option.isNone_none]
 go_wp2_with fail
 refine (workOfAll_any 9 R.2 _ _ _ HPO.out.tree (by rw [HKE.out]; exact hwl) HVR3.out).mono ?_
 rw [HKE.out]
 rintro e w4 ⟨rfl, hb4⟩
 have tk : decide (5000 < (k : Int)) = true := by simp; omega
 have hz4 : w4.heap[w.heap.size]? = some (.cells (e30 0 0).toArray 64 (0, 0)) := by rw [hb4.block _ (by omega)]; exact HZ3.out
 have HZ4 : Hid _ := hz4
 have hbb4 : Below w.heap.size w w4 := HBB3.out.trans (hb4.mono (by omega))
 clear hz4 hb4
 go_wp2_with (refine wpList_store_row rfl 64 (.tmp 2) _ rfl w.heap.size (e30 4 0).toArray rfl rfl 64 (e30 0 0).toArray HZ4.out (by rw [infoRules, e30_size]) rfl (e30_one _ _) ?_)
 have hfin : ((w4).setRow w.heap.size (e30 4 0).toArray).heap[w.heap.size]? = some (.cells (e30 4 0).toArray 64 (0, 0)) := setRow_heap _ _ _ _ _ _ HZ4.out
 exact bodyPost_ret (v := .agg (e30 4 0).toArray) (results_cell_row rfl _ _ w.heap.size 64 (e30 4 0).toArray (0, 0) _ rfl hfin Tryz.underlying64 rfl (by rw [infoRules, e30_size])) rfl ⟨rfl, below_setRow hbb4 (Nat.le_refl _)⟩
end Go.Proofs.YtdgmoiflahoihabGreatDoor
