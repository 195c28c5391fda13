import Derived.Test.YtdgmoiflahoihaaGreatDoorFWalkw
import Derived.RegionTactic
import Derived.ChangeAlike

namespace Go.Proofs.YtdgmoiflahoihaaGreatDoor
open Go.RowKit
set_option linter.unusedSimpArgs false
set_option linter.unusedVariables false
set_option maxHeartbeats 2000000 in
theorem next_any (f : Fm) (c : Int) (w : World) (h : f.op.length ≤ 1000) (hbl : f.block.length ≤ 1) (h0 : 0 ≤ f.digits) (h9 : f.digits ≤ 1000) :
  Calls Tryz.prog 105 #[fv f, .int .i64 c] w fun e w' => e = .returned (.tuple #[fv (f.next c).1, .bool (f.next c).2]) ∧ Below w.heap.size w w' := by
 obtain ⟨st, op, body, digits, last, purpose, related, block⟩ := f
 simp only at h hbl h0 h9
 by_cases s0 : st = 0
 ·subst s0
  rw [show Fm.next ⟨0, op, body, digits, last, purpose, related, block⟩ c = Fm.rule ⟨0, op, body, digits, last, purpose, related, block⟩ c by simp [Fm.next, Fm.to]]
  have hu := fun w => rule_any ⟨0, op, body, digits, last, purpose, related, block⟩ c w (by simpa using h)
  generalize Fm.rule ⟨0, op, body, digits, last, purpose, related, block⟩ c = r at *
  obtain ⟨⟨a1, a2, a3, a4, a5, a6, a7, a8⟩, b⟩ := r
  have HU : Hid (∀ w, _) := hu
  clear hu
  simp only [fv] at *
  go_enter Tryz.func105, Tryz.ntmps105
  go_wp2_with (first | (go_at_call 140; refine (HU.out _).mono ?_; rintro e w' ⟨rfl, hb⟩; obtain ⟨hc, hf⟩ := bcell hb; have hz : w.heap.size + 1 < w'.heap.size := by (have := hb.size; simp at this; omega)) | (go_at_call 141; refine (to_any _ _ _ _ _ _ _ _ _ _).mono ?_; rintro e w' ⟨rfl, rfl⟩) | (go_at_call 139; refine (room_any _ (op) _ _ _ _ _ _ _).mono ?_; rintro e w' ⟨rfl, rfl⟩) | (go_at_call 145; refine (isDg_any _ _).mono ?_; rintro e w' ⟨rfl, rfl⟩) | (go_at_call 115; refine (isNm_any _ _).mono ?_; rintro e w' ⟨rfl, rfl⟩) | (go_at_call 149; refine (isSc_any _ _).mono ?_; rintro e w' ⟨rfl, rfl⟩) | (go_at_call 179; refine (top_any _ (op) _ _ _ _ _ _ _ h).mono ?_; rintro e w' ⟨rfl, rfl⟩))
  exact bodyPost_ret (v := .tuple #[FV a1 (bs a2) a3 a4 a5 a6 a7 (bs a8), .bool b]) (by simp [results, Tryz.results105, go_sem, hc, hf, hz]) rfl ⟨rfl, by repeat (first | refine Below.setCell ?_ (by simp <;> omega) _ | refine Below.trans ?_ (hb.mono (by simp <;> omega)) | refine Below.alloc ?_ (by simp <;> omega) _ | exact Below.refl _ _)⟩
 by_cases s1 : st = 1
 ·subst s1
  by_cases h123 : c = 123
  ·subst h123
   by_cases hr : op.length < 8
   ·
    rw [show Fm.next ⟨1, op, body, digits, last, purpose, related, block⟩ 123 = (⟨0, 50 :: op, body, digits, last, purpose, related, block⟩, true) by simp [Fm.next, Fm.to, hr]]
    simp only [fv]
    go_enter Tryz.func105, Tryz.ntmps105
    go_wp2_with (first | (go_at_call 141; refine (to_any _ _ _ _ _ _ _ _ _ _).mono ?_; rintro e w' ⟨rfl, rfl⟩) | (go_at_call 139; refine (room_any _ (op) _ _ _ _ _ _ _).mono ?_; rintro e w' ⟨rfl, rfl⟩) | (go_at_call 145; refine (isDg_any _ _).mono ?_; rintro e w' ⟨rfl, rfl⟩) | (go_at_call 115; refine (isNm_any _ _).mono ?_; rintro e w' ⟨rfl, rfl⟩) | (go_at_call 149; refine (isSc_any _ _).mono ?_; rintro e w' ⟨rfl, rfl⟩) | (go_at_call 179; refine (top_any _ (op) _ _ _ _ _ _ _ h).mono ?_; rintro e w' ⟨rfl, rfl⟩))
    exact bodyPost_ret (v := .tuple #[FV 0 (bs op ++ ⟨#[50]⟩) body digits last purpose related (bs block), .bool true]) (by simp [results, Tryz.results105, go_sem]) rfl ⟨by rw [bs_push], by repeat (first | refine Below.setCell ?_ (by simp <;> omega) _ | refine Below.alloc ?_ (by simp <;> omega) _ | exact Below.refl _ _)⟩
   ·
    rw [show Fm.next ⟨1, op, body, digits, last, purpose, related, block⟩ 123 = Fm.rule ⟨1, op, body, digits, last, purpose, related, block⟩ 123 by simp [Fm.next, Fm.to, hr]]
    have hu := fun w => rule_any ⟨1, op, body, digits, last, purpose, related, block⟩ 123 w (by simpa using h)
    generalize Fm.rule ⟨1, op, body, digits, last, purpose, related, block⟩ 123 = r at *
    obtain ⟨⟨a1, a2, a3, a4, a5, a6, a7, a8⟩, b⟩ := r
    have HU : Hid (∀ w, _) := hu
    clear hu
    simp only [fv] at *
    go_enter Tryz.func105, Tryz.ntmps105
    go_wp2_with (first | (go_at_call 140; refine (HU.out _).mono ?_; rintro e w' ⟨rfl, hb⟩; obtain ⟨hc, hf⟩ := bcell hb; have hz : w.heap.size + 1 < w'.heap.size := by (have := hb.size; simp at this; omega)) | (go_at_call 141; refine (to_any _ _ _ _ _ _ _ _ _ _).mono ?_; rintro e w' ⟨rfl, rfl⟩) | (go_at_call 139; refine (room_any _ (op) _ _ _ _ _ _ _).mono ?_; rintro e w' ⟨rfl, rfl⟩) | (go_at_call 145; refine (isDg_any _ _).mono ?_; rintro e w' ⟨rfl, rfl⟩) | (go_at_call 115; refine (isNm_any _ _).mono ?_; rintro e w' ⟨rfl, rfl⟩) | (go_at_call 149; refine (isSc_any _ _).mono ?_; rintro e w' ⟨rfl, rfl⟩) | (go_at_call 179; refine (top_any _ (op) _ _ _ _ _ _ _ h).mono ?_; rintro e w' ⟨rfl, rfl⟩))
    exact bodyPost_ret (v := .tuple #[FV a1 (bs a2) a3 a4 a5 a6 a7 (bs a8), .bool b]) (by simp [results, Tryz.results105, go_sem, hc, hf, hz]) rfl ⟨rfl, by repeat (first | refine Below.setCell ?_ (by simp <;> omega) _ | refine Below.trans ?_ (hb.mono (by simp <;> omega)) | refine Below.alloc ?_ (by simp <;> omega) _ | exact Below.refl _ _)⟩
  ·
   rw [show Fm.next ⟨1, op, body, digits, last, purpose, related, block⟩ c = Fm.rule ⟨1, op, body, digits, last, purpose, related, block⟩ c by simp [Fm.next, Fm.to, h123]]
   have hu := fun w => rule_any ⟨1, op, body, digits, last, purpose, related, block⟩ c w (by simpa using h)
   generalize Fm.rule ⟨1, op, body, digits, last, purpose, related, block⟩ c = r at *
   obtain ⟨⟨a1, a2, a3, a4, a5, a6, a7, a8⟩, b⟩ := r
   have HU : Hid (∀ w, _) := hu
   clear hu
   simp only [fv] at *
   have ec123 : (c == 123) = false := by simp only [beq_eq_false_iff_ne, ne_eq]; omega
   go_enter Tryz.func105, Tryz.ntmps105
   go_wp2_with (first | (go_at_call 140; refine (HU.out _).mono ?_; rintro e w' ⟨rfl, hb⟩; obtain ⟨hc, hf⟩ := bcell hb; have hz : w.heap.size + 1 < w'.heap.size := by (have := hb.size; simp at this; omega)) | (go_at_call 141; refine (to_any _ _ _ _ _ _ _ _ _ _).mono ?_; rintro e w' ⟨rfl, rfl⟩) | (go_at_call 139; refine (room_any _ (op) _ _ _ _ _ _ _).mono ?_; rintro e w' ⟨rfl, rfl⟩) | (go_at_call 145; refine (isDg_any _ _).mono ?_; rintro e w' ⟨rfl, rfl⟩) | (go_at_call 115; refine (isNm_any _ _).mono ?_; rintro e w' ⟨rfl, rfl⟩) | (go_at_call 149; refine (isSc_any _ _).mono ?_; rintro e w' ⟨rfl, rfl⟩) | (go_at_call 179; refine (top_any _ (op) _ _ _ _ _ _ _ h).mono ?_; rintro e w' ⟨rfl, rfl⟩))
   exact bodyPost_ret (v := .tuple #[FV a1 (bs a2) a3 a4 a5 a6 a7 (bs a8), .bool b]) (by simp [results, Tryz.results105, go_sem, hc, hf, hz]) rfl ⟨rfl, by repeat (first | refine Below.setCell ?_ (by simp <;> omega) _ | refine Below.trans ?_ (hb.mono (by simp <;> omega)) | refine Below.alloc ?_ (by simp <;> omega) _ | exact Below.refl _ _)⟩
 by_cases s7 : st = 7
 ·subst s7
  rw [show Fm.next ⟨7, op, body, digits, last, purpose, related, block⟩ c = Fm.letters ⟨7, op, body, digits, last, purpose, related, block⟩ c by simp [Fm.next, Fm.to]]
  have hu := fun w => letters_any ⟨7, op, body, digits, last, purpose, related, block⟩ c w
  generalize Fm.letters ⟨7, op, body, digits, last, purpose, related, block⟩ c = r at *
  obtain ⟨⟨a1, a2, a3, a4, a5, a6, a7, a8⟩, b⟩ := r
  have HU : Hid (∀ w, _) := hu
  clear hu
  simp only [fv] at *
  go_enter Tryz.func105, Tryz.ntmps105
  go_wp2_with (first | (go_at_call 142; refine (HU.out _).mono ?_; rintro e w' ⟨rfl, hb⟩; obtain ⟨hc, hf⟩ := bcell hb; have hz : w.heap.size + 1 < w'.heap.size := by (have := hb.size; simp at this; omega)) | (go_at_call 141; refine (to_any _ _ _ _ _ _ _ _ _ _).mono ?_; rintro e w' ⟨rfl, rfl⟩) | (go_at_call 139; refine (room_any _ (op) _ _ _ _ _ _ _).mono ?_; rintro e w' ⟨rfl, rfl⟩) | (go_at_call 145; refine (isDg_any _ _).mono ?_; rintro e w' ⟨rfl, rfl⟩) | (go_at_call 115; refine (isNm_any _ _).mono ?_; rintro e w' ⟨rfl, rfl⟩) | (go_at_call 149; refine (isSc_any _ _).mono ?_; rintro e w' ⟨rfl, rfl⟩) | (go_at_call 179; refine (top_any _ (op) _ _ _ _ _ _ _ h).mono ?_; rintro e w' ⟨rfl, rfl⟩))
  exact bodyPost_ret (v := .tuple #[FV a1 (bs a2) a3 a4 a5 a6 a7 (bs a8), .bool b]) (by simp [results, Tryz.results105, go_sem, hc, hf, hz]) rfl ⟨rfl, by repeat (first | refine Below.setCell ?_ (by simp <;> omega) _ | refine Below.trans ?_ (hb.mono (by simp <;> omega)) | refine Below.alloc ?_ (by simp <;> omega) _ | exact Below.refl _ _)⟩
 by_cases s8 : st = 8
 ·subst s8
  rw [show Fm.next ⟨8, op, body, digits, last, purpose, related, block⟩ c = Fm.letters ⟨8, op, body, digits, last, purpose, related, block⟩ c by simp [Fm.next, Fm.to]]
  have hu := fun w => letters_any ⟨8, op, body, digits, last, purpose, related, block⟩ c w
  generalize Fm.letters ⟨8, op, body, digits, last, purpose, related, block⟩ c = r at *
  obtain ⟨⟨a1, a2, a3, a4, a5, a6, a7, a8⟩, b⟩ := r
  have HU : Hid (∀ w, _) := hu
  clear hu
  simp only [fv] at *
  go_enter Tryz.func105, Tryz.ntmps105
  go_wp2_with (first | (go_at_call 142; refine (HU.out _).mono ?_; rintro e w' ⟨rfl, hb⟩; obtain ⟨hc, hf⟩ := bcell hb; have hz : w.heap.size + 1 < w'.heap.size := by (have := hb.size; simp at this; omega)) | (go_at_call 141; refine (to_any _ _ _ _ _ _ _ _ _ _).mono ?_; rintro e w' ⟨rfl, rfl⟩) | (go_at_call 139; refine (room_any _ (op) _ _ _ _ _ _ _).mono ?_; rintro e w' ⟨rfl, rfl⟩) | (go_at_call 145; refine (isDg_any _ _).mono ?_; rintro e w' ⟨rfl, rfl⟩) | (go_at_call 115; refine (isNm_any _ _).mono ?_; rintro e w' ⟨rfl, rfl⟩) | (go_at_call 149; refine (isSc_any _ _).mono ?_; rintro e w' ⟨rfl, rfl⟩) | (go_at_call 179; refine (top_any _ (op) _ _ _ _ _ _ _ h).mono ?_; rintro e w' ⟨rfl, rfl⟩))
  exact bodyPost_ret (v := .tuple #[FV a1 (bs a2) a3 a4 a5 a6 a7 (bs a8), .bool b]) (by simp [results, Tryz.results105, go_sem, hc, hf, hz]) rfl ⟨rfl, by repeat (first | refine Below.setCell ?_ (by simp <;> omega) _ | refine Below.trans ?_ (hb.mono (by simp <;> omega)) | refine Below.alloc ?_ (by simp <;> omega) _ | exact Below.refl _ _)⟩
 by_cases s9 : st = 9
 ·subst s9
  rw [show Fm.next ⟨9, op, body, digits, last, purpose, related, block⟩ c = Fm.labeled ⟨9, op, body, digits, last, purpose, related, block⟩ c by simp [Fm.next, Fm.to]]
  have hu := fun w => labeled_any ⟨9, op, body, digits, last, purpose, related, block⟩ c w
  generalize Fm.labeled ⟨9, op, body, digits, last, purpose, related, block⟩ c = r at *
  obtain ⟨⟨a1, a2, a3, a4, a5, a6, a7, a8⟩, b⟩ := r
  have HU : Hid (∀ w, _) := hu
  clear hu
  simp only [fv] at *
  go_enter Tryz.func105, Tryz.ntmps105
  go_wp2_with (first | (go_at_call 143; refine (HU.out _).mono ?_; rintro e w' ⟨rfl, hb⟩; obtain ⟨hc, hf⟩ := bcell hb; have hz : w.heap.size + 1 < w'.heap.size := by (have := hb.size; simp at this; omega)) | (go_at_call 141; refine (to_any _ _ _ _ _ _ _ _ _ _).mono ?_; rintro e w' ⟨rfl, rfl⟩) | (go_at_call 139; refine (room_any _ (op) _ _ _ _ _ _ _).mono ?_; rintro e w' ⟨rfl, rfl⟩) | (go_at_call 145; refine (isDg_any _ _).mono ?_; rintro e w' ⟨rfl, rfl⟩) | (go_at_call 115; refine (isNm_any _ _).mono ?_; rintro e w' ⟨rfl, rfl⟩) | (go_at_call 149; refine (isSc_any _ _).mono ?_; rintro e w' ⟨rfl, rfl⟩) | (go_at_call 179; refine (top_any _ (op) _ _ _ _ _ _ _ h).mono ?_; rintro e w' ⟨rfl, rfl⟩))
  exact bodyPost_ret (v := .tuple #[FV a1 (bs a2) a3 a4 a5 a6 a7 (bs a8), .bool b]) (by simp [results, Tryz.results105, go_sem, hc, hf, hz]) rfl ⟨rfl, by repeat (first | refine Below.setCell ?_ (by simp <;> omega) _ | refine Below.trans ?_ (hb.mono (by simp <;> omega)) | refine Below.alloc ?_ (by simp <;> omega) _ | exact Below.refl _ _)⟩
 by_cases s10 : st = 10
 ·subst s10
  rw [show Fm.next ⟨10, op, body, digits, last, purpose, related, block⟩ c = Fm.unit ⟨10, op, body, digits, last, purpose, related, block⟩ c by simp [Fm.next, Fm.to]]
  have hu := fun w => unit_any ⟨10, op, body, digits, last, purpose, related, block⟩ c w
  generalize Fm.unit ⟨10, op, body, digits, last, purpose, related, block⟩ c = r at *
  obtain ⟨⟨a1, a2, a3, a4, a5, a6, a7, a8⟩, b⟩ := r
  have HU : Hid (∀ w, _) := hu
  clear hu
  simp only [fv] at *
  go_enter Tryz.func105, Tryz.ntmps105
  go_wp2_with (first | (go_at_call 144; refine (HU.out _).mono ?_; rintro e w' ⟨rfl, hb⟩; obtain ⟨hc, hf⟩ := bcell hb; have hz : w.heap.size + 1 < w'.heap.size := by (have := hb.size; simp at this; omega)) | (go_at_call 141; refine (to_any _ _ _ _ _ _ _ _ _ _).mono ?_; rintro e w' ⟨rfl, rfl⟩) | (go_at_call 139; refine (room_any _ (op) _ _ _ _ _ _ _).mono ?_; rintro e w' ⟨rfl, rfl⟩) | (go_at_call 145; refine (isDg_any _ _).mono ?_; rintro e w' ⟨rfl, rfl⟩) | (go_at_call 115; refine (isNm_any _ _).mono ?_; rintro e w' ⟨rfl, rfl⟩) | (go_at_call 149; refine (isSc_any _ _).mono ?_; rintro e w' ⟨rfl, rfl⟩) | (go_at_call 179; refine (top_any _ (op) _ _ _ _ _ _ _ h).mono ?_; rintro e w' ⟨rfl, rfl⟩))
  exact bodyPost_ret (v := .tuple #[FV a1 (bs a2) a3 a4 a5 a6 a7 (bs a8), .bool b]) (by simp [results, Tryz.results105, go_sem, hc, hf, hz]) rfl ⟨rfl, by repeat (first | refine Below.setCell ?_ (by simp <;> omega) _ | refine Below.trans ?_ (hb.mono (by simp <;> omega)) | refine Below.alloc ?_ (by simp <;> omega) _ | exact Below.refl _ _)⟩
 by_cases s11 : st = 11
 ·subst s11
  cases hd : isDg c
  case false =>
   rw [show Fm.next ⟨11, op, body, digits, last, purpose, related, block⟩ c = Fm.after ⟨11, op, body, digits, last, purpose, related, block⟩ c by simp [Fm.next, Fm.to, hd]]
   have hu := fun w => after_any ⟨11, op, body, digits, last, purpose, related, block⟩ c w (by simpa using h)
   generalize Fm.after ⟨11, op, body, digits, last, purpose, related, block⟩ c = r at *
   obtain ⟨⟨a1, a2, a3, a4, a5, a6, a7, a8⟩, b⟩ := r
   have HU : Hid (∀ w, _) := hu
   clear hu
   simp only [fv] at *
   go_enter Tryz.func105, Tryz.ntmps105
   go_wp2_with (first | (go_at_call 146; refine (HU.out _).mono ?_; rintro e w' ⟨rfl, hb⟩; obtain ⟨hc, hf⟩ := bcell hb; have hz : w.heap.size + 1 < w'.heap.size := by (have := hb.size; simp at this; omega)) | (go_at_call 141; refine (to_any _ _ _ _ _ _ _ _ _ _).mono ?_; rintro e w' ⟨rfl, rfl⟩) | (go_at_call 139; refine (room_any _ (op) _ _ _ _ _ _ _).mono ?_; rintro e w' ⟨rfl, rfl⟩) | (go_at_call 145; refine (isDg_any _ _).mono ?_; rintro e w' ⟨rfl, rfl⟩) | (go_at_call 115; refine (isNm_any _ _).mono ?_; rintro e w' ⟨rfl, rfl⟩) | (go_at_call 149; refine (isSc_any _ _).mono ?_; rintro e w' ⟨rfl, rfl⟩) | (go_at_call 179; refine (top_any _ (op) _ _ _ _ _ _ _ h).mono ?_; rintro e w' ⟨rfl, rfl⟩))
   exact bodyPost_ret (v := .tuple #[FV a1 (bs a2) a3 a4 a5 a6 a7 (bs a8), .bool b]) (by simp [results, Tryz.results105, go_sem, hc, hf, hz]) rfl ⟨rfl, by repeat (first | refine Below.setCell ?_ (by simp <;> omega) _ | refine Below.trans ?_ (hb.mono (by simp <;> omega)) | refine Below.alloc ?_ (by simp <;> omega) _ | exact Below.refl _ _)⟩
  case true =>
   rw [show Fm.next ⟨11, op, body, digits, last, purpose, related, block⟩ c = (⟨11, op, body, digits + 1, last, purpose, related, block⟩, (decide (digits + 1 ≤ 18))) by simp [Fm.next, Fm.to, hd]]
   simp only [fv]
   go_enter Tryz.func105, Tryz.ntmps105
   go_wp2_with (first | (go_at_call 141; refine (to_any _ _ _ _ _ _ _ _ _ _).mono ?_; rintro e w' ⟨rfl, rfl⟩) | (go_at_call 139; refine (room_any _ (op) _ _ _ _ _ _ _).mono ?_; rintro e w' ⟨rfl, rfl⟩) | (go_at_call 145; refine (isDg_any _ _).mono ?_; rintro e w' ⟨rfl, rfl⟩) | (go_at_call 115; refine (isNm_any _ _).mono ?_; rintro e w' ⟨rfl, rfl⟩) | (go_at_call 149; refine (isSc_any _ _).mono ?_; rintro e w' ⟨rfl, rfl⟩) | (go_at_call 179; refine (top_any _ (op) _ _ _ _ _ _ _ h).mono ?_; rintro e w' ⟨rfl, rfl⟩))
   go_region
   all_goals go_wp2
   all_goals exact bodyPost_ret (v := .tuple #[FV 11 (bs op) body (digits + 1) last purpose related (bs block), .bool (decide (digits + 1 ≤ 18))]) (by simp [results, Tryz.results105, go_sem]) rfl ⟨rfl, by refine Below.drew ?_; repeat (first | refine Below.setCell ?_ (by simp <;> omega) _ | refine Below.alloc ?_ (by simp <;> omega) _ | exact Below.refl _ _)⟩
 by_cases s12 : st = 12
 ·subst s12
  rw [show Fm.next ⟨12, op, body, digits, last, purpose, related, block⟩ c = Fm.after ⟨12, op, body, digits, last, purpose, related, block⟩ c by simp [Fm.next, Fm.to]]
  have hu := fun w => after_any ⟨12, op, body, digits, last, purpose, related, block⟩ c w (by simpa using h)
  generalize Fm.after ⟨12, op, body, digits, last, purpose, related, block⟩ c = r at *
  obtain ⟨⟨a1, a2, a3, a4, a5, a6, a7, a8⟩, b⟩ := r
  have HU : Hid (∀ w, _) := hu
  clear hu
  simp only [fv] at *
  go_enter Tryz.func105, Tryz.ntmps105
  go_wp2_with (first | (go_at_call 146; refine (HU.out _).mono ?_; rintro e w' ⟨rfl, hb⟩; obtain ⟨hc, hf⟩ := bcell hb; have hz : w.heap.size + 1 < w'.heap.size := by (have := hb.size; simp at this; omega)) | (go_at_call 141; refine (to_any _ _ _ _ _ _ _ _ _ _).mono ?_; rintro e w' ⟨rfl, rfl⟩) | (go_at_call 139; refine (room_any _ (op) _ _ _ _ _ _ _).mono ?_; rintro e w' ⟨rfl, rfl⟩) | (go_at_call 145; refine (isDg_any _ _).mono ?_; rintro e w' ⟨rfl, rfl⟩) | (go_at_call 115; refine (isNm_any _ _).mono ?_; rintro e w' ⟨rfl, rfl⟩) | (go_at_call 149; refine (isSc_any _ _).mono ?_; rintro e w' ⟨rfl, rfl⟩) | (go_at_call 179; refine (top_any _ (op) _ _ _ _ _ _ _ h).mono ?_; rintro e w' ⟨rfl, rfl⟩))
  exact bodyPost_ret (v := .tuple #[FV a1 (bs a2) a3 a4 a5 a6 a7 (bs a8), .bool b]) (by simp [results, Tryz.results105, go_sem, hc, hf, hz]) rfl ⟨rfl, by repeat (first | refine Below.setCell ?_ (by simp <;> omega) _ | refine Below.trans ?_ (hb.mono (by simp <;> omega)) | refine Below.alloc ?_ (by simp <;> omega) _ | exact Below.refl _ _)⟩
 ·
  rw [show Fm.next ⟨st, op, body, digits, last, purpose, related, block⟩ c = Fm.fixed ⟨st, op, body, digits, last, purpose, related, block⟩ c by simp [Fm.next, Fm.to, s0, s1, s7, s8, s9, s10, s11, s12]]
  have hu := fun w => fixed_any ⟨st, op, body, digits, last, purpose, related, block⟩ c w (by simpa using hbl) (by simpa using h)
  generalize Fm.fixed ⟨st, op, body, digits, last, purpose, related, block⟩ c = r at *
  obtain ⟨⟨a1, a2, a3, a4, a5, a6, a7, a8⟩, b⟩ := r
  have HU : Hid (∀ w, _) := hu
  clear hu
  simp only [fv] at *
  have es0 : (st == 0) = false := by simp only [beq_eq_false_iff_ne, ne_eq]; omega
  have es1 : (st == 1) = false := by simp only [beq_eq_false_iff_ne, ne_eq]; omega
  have es7 : (st == 7) = false := by simp only [beq_eq_false_iff_ne, ne_eq]; omega
  have es8 : (st == 8) = false := by simp only [beq_eq_false_iff_ne, ne_eq]; omega
  have es9 : (st == 9) = false := by simp only [beq_eq_false_iff_ne, ne_eq]; omega
  have es10 : (st == 10) = false := by simp only [beq_eq_false_iff_ne, ne_eq]; omega
  have es11 : (st == 11) = false := by simp only [beq_eq_false_iff_ne, ne_eq]; omega
  have es12 : (st == 12) = false := by simp only [beq_eq_false_iff_ne, ne_eq]; omega
  go_enter Tryz.func105, Tryz.ntmps105
  go_wp2_with (first | (go_at_call 147; refine (HU.out _).mono ?_; rintro e w' ⟨rfl, hb⟩; obtain ⟨hc, hf⟩ := bcell hb; have hz : w.heap.size + 1 < w'.heap.size := by (have := hb.size; simp at this; omega)) | (go_at_call 141; refine (to_any _ _ _ _ _ _ _ _ _ _).mono ?_; rintro e w' ⟨rfl, rfl⟩) | (go_at_call 139; refine (room_any _ (op) _ _ _ _ _ _ _).mono ?_; rintro e w' ⟨rfl, rfl⟩) | (go_at_call 145; refine (isDg_any _ _).mono ?_; rintro e w' ⟨rfl, rfl⟩) | (go_at_call 115; refine (isNm_any _ _).mono ?_; rintro e w' ⟨rfl, rfl⟩) | (go_at_call 149; refine (isSc_any _ _).mono ?_; rintro e w' ⟨rfl, rfl⟩) | (go_at_call 179; refine (top_any _ (op) _ _ _ _ _ _ _ h).mono ?_; rintro e w' ⟨rfl, rfl⟩))
  exact bodyPost_ret (v := .tuple #[FV a1 (bs a2) a3 a4 a5 a6 a7 (bs a8), .bool b]) (by simp [results, Tryz.results105, go_sem, hc, hf, hz]) rfl ⟨rfl, by repeat (first | refine Below.setCell ?_ (by simp <;> omega) _ | refine Below.trans ?_ (hb.mono (by simp <;> omega)) | refine Below.alloc ?_ (by simp <;> omega) _ | exact Below.refl _ _)⟩
end Go.Proofs.YtdgmoiflahoihaaGreatDoor
namespace Go.Proofs.YtdgmoiflahoihaaGreatDoor
open Go.RowKit
set_option linter.unusedSimpArgs false
set_option linter.unusedVariables false
theorem wrap_byte (c : UInt8) : IntKind.i64.wrap (c.toNat : Int) = (c.toNat : Int) := by
 have := c.toNat_lt
 exact IntWalk.i64_in _ ⟨by omega, by omega⟩
structure FormAt (w : World) (b : Nat) (f : Fm) : Prop where
 c0 : w.cell? ⟨b, 0, none⟩ = some (.int .i64 f.st)
 c1 : w.cell? ⟨b, 1, none⟩ = some (.string (bs f.op))
 c2 : w.cell? ⟨b, 2, none⟩ = some (.bool f.body)
 c3 : w.cell? ⟨b, 3, none⟩ = some (.int .i64 f.digits)
 c4 : w.cell? ⟨b, 4, none⟩ = some (.int .i64 f.last)
 c5 : w.cell? ⟨b, 5, none⟩ = some (.int .i64 f.purpose)
 c6 : w.cell? ⟨b, 6, none⟩ = some (.bool f.related)
 c7 : w.cell? ⟨b, 7, none⟩ = some (.string (bs f.block))
 fz : ∀ o, w.frozen? ⟨b, o, none⟩ = false
 lt : b < w.heap.size
def objOf (f : Fm) : Obj := FO f.st (bs f.op) f.body f.digits f.last f.purpose f.related (bs f.block)
theorem FormAt.below {W w1 : World} {b : Nat} {f : Fm} {B : Nat} (h : FormAt W b f) (hb : Below B W w1) (hB : b < B) : FormAt w1 b f := by
 obtain ⟨c0, c1, c2, c3, c4, c5, c6, c7, fz, lt⟩ := h
 have hc := fun o => hb.cell (p := ⟨b, o, none⟩) hB
 have hf := fun o => hb.frozen (p := ⟨b, o, none⟩) hB
 have hz := hb.size
 exact ⟨by rw [hc, c0], by rw [hc, c1], by rw [hc, c2], by rw [hc, c3], by rw [hc, c4], by rw [hc, c5], by rw [hc, c6], by rw [hc, c7], fun o => by rw [hf, fz], by omega⟩
theorem FormAt.new (W : World) (f : Fm) : FormAt (W.alloc (objOf f)) W.heap.size f := by
 constructor
 all_goals simp [go_sem, objOf, FO]
theorem FormAt.store {W : World} {b : Nat} {f : Fm} (g : Fm) (h : FormAt W b f) :
  FormAt ((((((((W.setCell ⟨b, 0, none⟩ (.int .i64 g.st)).setCell ⟨b, 1, none⟩ (.string (bs g.op))).setCell ⟨b, 2, none⟩ (.bool g.body)).setCell ⟨b, 3, none⟩ (.int .i64 g.digits)).setCell ⟨b, 4, none⟩ (.int .i64 g.last)).setCell ⟨b, 5, none⟩ (.int .i64 g.purpose)).setCell ⟨b, 6, none⟩ (.bool g.related)).setCell ⟨b, 7, none⟩ (.string (bs g.block))) b g := by
 obtain ⟨c0, c1, c2, c3, c4, c5, c6, c7, fz, lt⟩ := h
 constructor
 all_goals simp [go_sem, *]
theorem below_store {W : World} {B b : Nat} (g : Fm) (h : B ≤ b) :
  Below B W ((((((((W.setCell ⟨b, 0, none⟩ (.int .i64 g.st)).setCell ⟨b, 1, none⟩ (.string (bs g.op))).setCell ⟨b, 2, none⟩ (.bool g.body)).setCell ⟨b, 3, none⟩ (.int .i64 g.digits)).setCell ⟨b, 4, none⟩ (.int .i64 g.last)).setCell ⟨b, 5, none⟩ (.int .i64 g.purpose)).setCell ⟨b, 6, none⟩ (.bool g.related)).setCell ⟨b, 7, none⟩ (.string (bs g.block))) :=
 ((((((((Below.refl B W).setCell h _).setCell h _).setCell h _).setCell h _).setCell h _).setCell h _).setCell h _).setCell h _
theorem relA {W w1 : World} {B : Nat} {f : Fm} (g : Fm) (hb : Below W.heap.size W w1) (hf : FormAt W B f) :
  FormAt (w1.alloc (objOf g)) w1.heap.size g ∧ FormAt (w1.alloc (objOf g)) B f ∧ Below W.heap.size W (w1.alloc (objOf g)) ∧ B < w1.heap.size := by
 have hz := hb.size
 have hl := hf.lt
 have hb2 : Below W.heap.size W (w1.alloc (objOf g)) := hb.alloc hz _
 exact ⟨FormAt.new _ _, hf.below hb2 hl, hb2, by omega⟩
theorem relB {W w1 : World} {B b0 : Nat} {f z : Fm} (g : Fm) (hb : Below W.heap.size W w1) (hf : FormAt W B f) (h0 : FormAt W b0 z) (hlt : B < b0) :
  FormAt ((((((((w1.setCell ⟨b0, 0, none⟩ (.int .i64 g.st)).setCell ⟨b0, 1, none⟩ (.string (bs g.op))).setCell ⟨b0, 2, none⟩ (.bool g.body)).setCell ⟨b0, 3, none⟩ (.int .i64 g.digits)).setCell ⟨b0, 4, none⟩ (.int .i64 g.last)).setCell ⟨b0, 5, none⟩ (.int .i64 g.purpose)).setCell ⟨b0, 6, none⟩ (.bool g.related)).setCell ⟨b0, 7, none⟩ (.string (bs g.block))) b0 g ∧
  FormAt ((((((((w1.setCell ⟨b0, 0, none⟩ (.int .i64 g.st)).setCell ⟨b0, 1, none⟩ (.string (bs g.op))).setCell ⟨b0, 2, none⟩ (.bool g.body)).setCell ⟨b0, 3, none⟩ (.int .i64 g.digits)).setCell ⟨b0, 4, none⟩ (.int .i64 g.last)).setCell ⟨b0, 5, none⟩ (.int .i64 g.purpose)).setCell ⟨b0, 6, none⟩ (.bool g.related)).setCell ⟨b0, 7, none⟩ (.string (bs g.block))) B f ∧
  Below b0 W ((((((((w1.setCell ⟨b0, 0, none⟩ (.int .i64 g.st)).setCell ⟨b0, 1, none⟩ (.string (bs g.op))).setCell ⟨b0, 2, none⟩ (.bool g.body)).setCell ⟨b0, 3, none⟩ (.int .i64 g.digits)).setCell ⟨b0, 4, none⟩ (.int .i64 g.last)).setCell ⟨b0, 5, none⟩ (.int .i64 g.purpose)).setCell ⟨b0, 6, none⟩ (.bool g.related)).setCell ⟨b0, 7, none⟩ (.string (bs g.block))) ∧ B < b0 := by
 have hl := h0.lt
 have hbb := below_store (W := w1) g (Nat.le_refl b0)
 exact ⟨FormAt.store g (h0.below hb hl), (hf.below hb hf.lt).below hbb hlt, (hb.mono (by omega)).trans hbb, hlt⟩
theorem FormAt.drew {W : World} {b : Nat} {f : Fm} (h : FormAt W b f) : FormAt W.drew b f := by
 obtain ⟨c0, c1, c2, c3, c4, c5, c6, c7, fz, lt⟩ := h
 exact ⟨c0, c1, c2, c3, c4, c5, c6, c7, fz, lt⟩
end Go.Proofs.YtdgmoiflahoihaaGreatDoor
