import Derived.Test.YtdgmoiflahoihaaGreatFWalkw

namespace Go.Proofs.YtdgmoiflahoihaaGreat
open Go.RowKit
set_option linter.unusedSimpArgs false
set_option linter.unusedVariables false
set_option maxHeartbeats 2000000 in
theorem rule_any (f : Fm) (c : Int) (w : World) (h : f.op.length ≤ 1000) :
  Calls Tryz.prog 64 #[fv f, .int .i64 c] w fun e w' => e = .returned (.tuple #[fv (f.rule c).1, .bool (f.rule c).2]) ∧ Below w.heap.size w w' := by
 obtain ⟨st, op, body, digits, last, purpose, related, block⟩ := f
 simp only at h
 by_cases h63 : c = 63
 ·subst h63
  have hn : isNm 63 = false := by decide
  cases body
  case false =>
   rw [show Fm.rule ⟨st, op, false, digits, last, purpose, related, block⟩ 63 = (⟨5, op, false, digits, last, purpose, related, block⟩, true) by simp [Fm.rule, Fm.to]]
   simp only [fv]
   go_enter Tryz.func64, Tryz.ntmps64
   go_wp2_with (first | (go_at_call 65; refine (to_any _ _ _ _ _ _ _ _ _ _).mono ?_; rintro e w' ⟨rfl, rfl⟩) | (go_at_call 63; refine (room_any _ (op) _ _ _ _ _ _ _).mono ?_; rintro e w' ⟨rfl, rfl⟩) | (go_at_call 69; refine (isDg_any _ _).mono ?_; rintro e w' ⟨rfl, rfl⟩) | (go_at_call 61; refine (isNm_any _ _).mono ?_; rintro e w' ⟨rfl, rfl⟩) | (go_at_call 89; refine (isSc_any _ _).mono ?_; rintro e w' ⟨rfl, rfl⟩) | (go_at_call 93; refine (top_any _ (op) _ _ _ _ _ _ _ h).mono ?_; rintro e w' ⟨rfl, rfl⟩))
   exact bodyPost_ret (v := .tuple #[FV 5 (bs op) false digits last purpose related (bs block), .bool true]) (by simp [results, Tryz.results64, go_sem]) rfl ⟨rfl, by repeat (first | refine Below.setCell ?_ (by simp <;> omega) _ | refine Below.alloc ?_ (by simp <;> omega) _ | exact Below.refl _ _)⟩
  case true =>
   rw [show Fm.rule ⟨st, op, true, digits, last, purpose, related, block⟩ 63 = (⟨st, op, true, digits, last, purpose, false, block⟩, false) by simp [Fm.rule, Fm.to, Fm.top, hn]]
   simp only [fv]
   go_enter Tryz.func64, Tryz.ntmps64
   go_wp2_with (first | (go_at_call 65; refine (to_any _ _ _ _ _ _ _ _ _ _).mono ?_; rintro e w' ⟨rfl, rfl⟩) | (go_at_call 63; refine (room_any _ (op) _ _ _ _ _ _ _).mono ?_; rintro e w' ⟨rfl, rfl⟩) | (go_at_call 69; refine (isDg_any _ _).mono ?_; rintro e w' ⟨rfl, rfl⟩) | (go_at_call 61; refine (isNm_any _ _).mono ?_; rintro e w' ⟨rfl, rfl⟩) | (go_at_call 89; refine (isSc_any _ _).mono ?_; rintro e w' ⟨rfl, rfl⟩) | (go_at_call 93; refine (top_any _ (op) _ _ _ _ _ _ _ h).mono ?_; rintro e w' ⟨rfl, rfl⟩))
   exact bodyPost_ret (v := .tuple #[FV st (bs op) true digits last purpose false (bs block), .bool false]) (by simp [results, Tryz.results64, go_sem]) rfl ⟨rfl, by repeat (first | refine Below.setCell ?_ (by simp <;> omega) _ | refine Below.alloc ?_ (by simp <;> omega) _ | exact Below.refl _ _)⟩
 by_cases h33 : c = 33
 ·subst h33
  have hn : isNm 33 = false := by decide
  cases body
  case false =>
   rw [show Fm.rule ⟨st, op, false, digits, last, purpose, related, block⟩ 33 = (⟨5, op, false, digits, last, purpose, related, block⟩, true) by simp [Fm.rule, Fm.to]]
   simp only [fv]
   go_enter Tryz.func64, Tryz.ntmps64
   go_wp2_with (first | (go_at_call 65; refine (to_any _ _ _ _ _ _ _ _ _ _).mono ?_; rintro e w' ⟨rfl, rfl⟩) | (go_at_call 63; refine (room_any _ (op) _ _ _ _ _ _ _).mono ?_; rintro e w' ⟨rfl, rfl⟩) | (go_at_call 69; refine (isDg_any _ _).mono ?_; rintro e w' ⟨rfl, rfl⟩) | (go_at_call 61; refine (isNm_any _ _).mono ?_; rintro e w' ⟨rfl, rfl⟩) | (go_at_call 89; refine (isSc_any _ _).mono ?_; rintro e w' ⟨rfl, rfl⟩) | (go_at_call 93; refine (top_any _ (op) _ _ _ _ _ _ _ h).mono ?_; rintro e w' ⟨rfl, rfl⟩))
   exact bodyPost_ret (v := .tuple #[FV 5 (bs op) false digits last purpose related (bs block), .bool true]) (by simp [results, Tryz.results64, go_sem]) rfl ⟨rfl, by repeat (first | refine Below.setCell ?_ (by simp <;> omega) _ | refine Below.alloc ?_ (by simp <;> omega) _ | exact Below.refl _ _)⟩
  case true =>
   rw [show Fm.rule ⟨st, op, true, digits, last, purpose, related, block⟩ 33 = (⟨st, op, true, digits, last, purpose, false, block⟩, false) by simp [Fm.rule, Fm.to, Fm.top, hn]]
   simp only [fv]
   go_enter Tryz.func64, Tryz.ntmps64
   go_wp2_with (first | (go_at_call 65; refine (to_any _ _ _ _ _ _ _ _ _ _).mono ?_; rintro e w' ⟨rfl, rfl⟩) | (go_at_call 63; refine (room_any _ (op) _ _ _ _ _ _ _).mono ?_; rintro e w' ⟨rfl, rfl⟩) | (go_at_call 69; refine (isDg_any _ _).mono ?_; rintro e w' ⟨rfl, rfl⟩) | (go_at_call 61; refine (isNm_any _ _).mono ?_; rintro e w' ⟨rfl, rfl⟩) | (go_at_call 89; refine (isSc_any _ _).mono ?_; rintro e w' ⟨rfl, rfl⟩) | (go_at_call 93; refine (top_any _ (op) _ _ _ _ _ _ _ h).mono ?_; rintro e w' ⟨rfl, rfl⟩))
   exact bodyPost_ret (v := .tuple #[FV st (bs op) true digits last purpose false (bs block), .bool false]) (by simp [results, Tryz.results64, go_sem]) rfl ⟨rfl, by repeat (first | refine Below.setCell ?_ (by simp <;> omega) _ | refine Below.alloc ?_ (by simp <;> omega) _ | exact Below.refl _ _)⟩
 by_cases h125 : c = 125
 ·subst h125
  have hn : isNm 125 = false := by decide
  cases op with
  | nil =>
   rw [show Fm.rule ⟨st, [], body, digits, last, purpose, related, block⟩ 125 = (⟨st, [], true, digits, last, purpose, false, block⟩, false) by simp [Fm.rule, Fm.to, Fm.top, hn]]
   simp only [fv]
   go_enter Tryz.func64, Tryz.ntmps64
   go_wp2_with (first | (go_at_call 65; refine (to_any _ _ _ _ _ _ _ _ _ _).mono ?_; rintro e w' ⟨rfl, rfl⟩) | (go_at_call 63; refine (room_any _ ([]) _ _ _ _ _ _ _).mono ?_; rintro e w' ⟨rfl, rfl⟩) | (go_at_call 69; refine (isDg_any _ _).mono ?_; rintro e w' ⟨rfl, rfl⟩) | (go_at_call 61; refine (isNm_any _ _).mono ?_; rintro e w' ⟨rfl, rfl⟩) | (go_at_call 89; refine (isSc_any _ _).mono ?_; rintro e w' ⟨rfl, rfl⟩) | (go_at_call 93; refine (top_any _ ([]) _ _ _ _ _ _ _ h).mono ?_; rintro e w' ⟨rfl, rfl⟩))
   exact bodyPost_ret (v := .tuple #[FV st (bs ([])) true digits last purpose false (bs block), .bool false]) (by simp [results, Tryz.results64, go_sem]) rfl ⟨rfl, by repeat (first | refine Below.setCell ?_ (by simp <;> omega) _ | refine Below.alloc ?_ (by simp <;> omega) _ | exact Below.refl _ _)⟩
  | cons a l =>
   have hl : l.length ≤ 1000 := by simp at h; omega
   by_cases a49 : a = 49
   ·subst a49
    rw [show Fm.rule ⟨st, 49 :: l, body, digits, last, purpose, related, block⟩ 125 = (⟨1, l, body, digits, last, purpose, related, block⟩, true) by simp [Fm.rule, Fm.to, Fm.top]]
    simp only [fv]
    go_enter Tryz.func64, Tryz.ntmps64
    go_wp2_with (first | (go_at_call 65; refine (to_any _ _ _ _ _ _ _ _ _ _).mono ?_; rintro e w' ⟨rfl, rfl⟩) | (go_at_call 63; refine (room_any _ (49 :: l) _ _ _ _ _ _ _).mono ?_; rintro e w' ⟨rfl, rfl⟩) | (go_at_call 69; refine (isDg_any _ _).mono ?_; rintro e w' ⟨rfl, rfl⟩) | (go_at_call 61; refine (isNm_any _ _).mono ?_; rintro e w' ⟨rfl, rfl⟩) | (go_at_call 89; refine (isSc_any _ _).mono ?_; rintro e w' ⟨rfl, rfl⟩) | (go_at_call 93; refine (top_any _ (49 :: l) _ _ _ _ _ _ _ h).mono ?_; rintro e w' ⟨rfl, rfl⟩))
    exact bodyPost_ret (v := .tuple #[FV 1 ((bs (49 :: l)).extract 0 l.length) body digits last purpose related (bs block), .bool true]) (by simp [results, Tryz.results64, go_sem]) rfl ⟨by rw [bs_pop], by repeat (first | refine Below.setCell ?_ (by simp <;> omega) _ | refine Below.alloc ?_ (by simp <;> omega) _ | exact Below.refl _ _)⟩
   by_cases a50 : a = 50
   ·subst a50
    rw [show Fm.rule ⟨st, 50 :: l, body, digits, last, purpose, related, block⟩ 125 = (⟨0, l, body, digits, last, purpose, related, block⟩, true) by simp [Fm.rule, Fm.to, Fm.top]]
    simp only [fv]
    go_enter Tryz.func64, Tryz.ntmps64
    go_wp2_with (first | (go_at_call 65; refine (to_any _ _ _ _ _ _ _ _ _ _).mono ?_; rintro e w' ⟨rfl, rfl⟩) | (go_at_call 63; refine (room_any _ (50 :: l) _ _ _ _ _ _ _).mono ?_; rintro e w' ⟨rfl, rfl⟩) | (go_at_call 69; refine (isDg_any _ _).mono ?_; rintro e w' ⟨rfl, rfl⟩) | (go_at_call 61; refine (isNm_any _ _).mono ?_; rintro e w' ⟨rfl, rfl⟩) | (go_at_call 89; refine (isSc_any _ _).mono ?_; rintro e w' ⟨rfl, rfl⟩) | (go_at_call 93; refine (top_any _ (50 :: l) _ _ _ _ _ _ _ h).mono ?_; rintro e w' ⟨rfl, rfl⟩))
    exact bodyPost_ret (v := .tuple #[FV 0 ((bs (50 :: l)).extract 0 l.length) body digits last purpose related (bs block), .bool true]) (by simp [results, Tryz.results64, go_sem]) rfl ⟨by rw [bs_pop], by repeat (first | refine Below.setCell ?_ (by simp <;> omega) _ | refine Below.alloc ?_ (by simp <;> omega) _ | exact Below.refl _ _)⟩
   by_cases a108 : a = 108
   ·subst a108
    rw [show Fm.rule ⟨st, 108 :: l, body, digits, last, purpose, related, block⟩ 125 = (⟨0, l, body, digits, last, purpose, related, block⟩, true) by simp [Fm.rule, Fm.to, Fm.top]]
    simp only [fv]
    go_enter Tryz.func64, Tryz.ntmps64
    go_wp2_with (first | (go_at_call 65; refine (to_any _ _ _ _ _ _ _ _ _ _).mono ?_; rintro e w' ⟨rfl, rfl⟩) | (go_at_call 63; refine (room_any _ (108 :: l) _ _ _ _ _ _ _).mono ?_; rintro e w' ⟨rfl, rfl⟩) | (go_at_call 69; refine (isDg_any _ _).mono ?_; rintro e w' ⟨rfl, rfl⟩) | (go_at_call 61; refine (isNm_any _ _).mono ?_; rintro e w' ⟨rfl, rfl⟩) | (go_at_call 89; refine (isSc_any _ _).mono ?_; rintro e w' ⟨rfl, rfl⟩) | (go_at_call 93; refine (top_any _ (108 :: l) _ _ _ _ _ _ _ h).mono ?_; rintro e w' ⟨rfl, rfl⟩))
    exact bodyPost_ret (v := .tuple #[FV 0 ((bs (108 :: l)).extract 0 l.length) body digits last purpose related (bs block), .bool true]) (by simp [results, Tryz.results64, go_sem]) rfl ⟨by rw [bs_pop], by repeat (first | refine Below.setCell ?_ (by simp <;> omega) _ | refine Below.alloc ?_ (by simp <;> omega) _ | exact Below.refl _ _)⟩
   ·
    rw [show Fm.rule ⟨st, a :: l, body, digits, last, purpose, related, block⟩ 125 = (⟨st, a :: l, true, digits, last, purpose, false, block⟩, false) by simp [Fm.rule, Fm.to, Fm.top, hn, a49, a50, a108]]
    simp only [fv]
    have k49 : ((a.toNat : Int) == 49) = false := u8_ne (b := 49) a49
    have k50 : ((a.toNat : Int) == 50) = false := u8_ne (b := 50) a50
    have k108 : ((a.toNat : Int) == 108) = false := u8_ne (b := 108) a108
    go_enter Tryz.func64, Tryz.ntmps64
    go_wp2_with (first | (go_at_call 65; refine (to_any _ _ _ _ _ _ _ _ _ _).mono ?_; rintro e w' ⟨rfl, rfl⟩) | (go_at_call 63; refine (room_any _ (a :: l) _ _ _ _ _ _ _).mono ?_; rintro e w' ⟨rfl, rfl⟩) | (go_at_call 69; refine (isDg_any _ _).mono ?_; rintro e w' ⟨rfl, rfl⟩) | (go_at_call 61; refine (isNm_any _ _).mono ?_; rintro e w' ⟨rfl, rfl⟩) | (go_at_call 89; refine (isSc_any _ _).mono ?_; rintro e w' ⟨rfl, rfl⟩) | (go_at_call 93; refine (top_any _ (a :: l) _ _ _ _ _ _ _ h).mono ?_; rintro e w' ⟨rfl, rfl⟩))
    exact bodyPost_ret (v := .tuple #[FV st (bs (a :: l)) true digits last purpose false (bs block), .bool false]) (by simp [results, Tryz.results64, go_sem]) rfl ⟨rfl, by repeat (first | refine Below.setCell ?_ (by simp <;> omega) _ | refine Below.alloc ?_ (by simp <;> omega) _ | exact Below.refl _ _)⟩
 cases hn : isNm c
 case true =>
  rw [show Fm.rule ⟨st, op, body, digits, last, purpose, related, block⟩ c = (⟨2, op, true, digits, last, purpose, false, block⟩, true) by simp [Fm.rule, Fm.to, hn, h63, h33, h125]]
  simp only [fv]
  have ec63 : (c == 63) = false := by simp only [beq_eq_false_iff_ne, ne_eq]; omega
  have ec33 : (c == 33) = false := by simp only [beq_eq_false_iff_ne, ne_eq]; omega
  have ec125 : (c == 125) = false := by simp only [beq_eq_false_iff_ne, ne_eq]; omega
  go_enter Tryz.func64, Tryz.ntmps64
  go_wp2_with (first | (go_at_call 65; refine (to_any _ _ _ _ _ _ _ _ _ _).mono ?_; rintro e w' ⟨rfl, rfl⟩) | (go_at_call 63; refine (room_any _ (op) _ _ _ _ _ _ _).mono ?_; rintro e w' ⟨rfl, rfl⟩) | (go_at_call 69; refine (isDg_any _ _).mono ?_; rintro e w' ⟨rfl, rfl⟩) | (go_at_call 61; refine (isNm_any _ _).mono ?_; rintro e w' ⟨rfl, rfl⟩) | (go_at_call 89; refine (isSc_any _ _).mono ?_; rintro e w' ⟨rfl, rfl⟩) | (go_at_call 93; refine (top_any _ (op) _ _ _ _ _ _ _ h).mono ?_; rintro e w' ⟨rfl, rfl⟩))
  exact bodyPost_ret (v := .tuple #[FV 2 (bs op) true digits last purpose false (bs block), .bool true]) (by simp [results, Tryz.results64, go_sem]) rfl ⟨rfl, by repeat (first | refine Below.setCell ?_ (by simp <;> omega) _ | refine Below.alloc ?_ (by simp <;> omega) _ | exact Below.refl _ _)⟩
 case false =>
 by_cases h94 : c = 94
 ·subst h94
  rw [show Fm.rule ⟨st, op, body, digits, last, purpose, related, block⟩ 94 = (⟨3, op, true, digits, last, purpose, false, block⟩, true) by simp [Fm.rule, Fm.to, hn]]
  simp only [fv]
  go_enter Tryz.func64, Tryz.ntmps64
  go_wp2_with (first | (go_at_call 65; refine (to_any _ _ _ _ _ _ _ _ _ _).mono ?_; rintro e w' ⟨rfl, rfl⟩) | (go_at_call 63; refine (room_any _ (op) _ _ _ _ _ _ _).mono ?_; rintro e w' ⟨rfl, rfl⟩) | (go_at_call 69; refine (isDg_any _ _).mono ?_; rintro e w' ⟨rfl, rfl⟩) | (go_at_call 61; refine (isNm_any _ _).mono ?_; rintro e w' ⟨rfl, rfl⟩) | (go_at_call 89; refine (isSc_any _ _).mono ?_; rintro e w' ⟨rfl, rfl⟩) | (go_at_call 93; refine (top_any _ (op) _ _ _ _ _ _ _ h).mono ?_; rintro e w' ⟨rfl, rfl⟩))
  exact bodyPost_ret (v := .tuple #[FV 3 (bs op) true digits last purpose false (bs block), .bool true]) (by simp [results, Tryz.results64, go_sem]) rfl ⟨rfl, by repeat (first | refine Below.setCell ?_ (by simp <;> omega) _ | refine Below.alloc ?_ (by simp <;> omega) _ | exact Below.refl _ _)⟩
 by_cases h62 : c = 62
 ·subst h62
  rw [show Fm.rule ⟨st, op, body, digits, last, purpose, related, block⟩ 62 = (⟨7, op, true, digits, last, 2, false, block⟩, true) by simp [Fm.rule, Fm.to, hn]]
  simp only [fv]
  go_enter Tryz.func64, Tryz.ntmps64
  go_wp2_with (first | (go_at_call 65; refine (to_any _ _ _ _ _ _ _ _ _ _).mono ?_; rintro e w' ⟨rfl, rfl⟩) | (go_at_call 63; refine (room_any _ (op) _ _ _ _ _ _ _).mono ?_; rintro e w' ⟨rfl, rfl⟩) | (go_at_call 69; refine (isDg_any _ _).mono ?_; rintro e w' ⟨rfl, rfl⟩) | (go_at_call 61; refine (isNm_any _ _).mono ?_; rintro e w' ⟨rfl, rfl⟩) | (go_at_call 89; refine (isSc_any _ _).mono ?_; rintro e w' ⟨rfl, rfl⟩) | (go_at_call 93; refine (top_any _ (op) _ _ _ _ _ _ _ h).mono ?_; rintro e w' ⟨rfl, rfl⟩))
  exact bodyPost_ret (v := .tuple #[FV 7 (bs op) true digits last 2 false (bs block), .bool true]) (by simp [results, Tryz.results64, go_sem]) rfl ⟨rfl, by repeat (first | refine Below.setCell ?_ (by simp <;> omega) _ | refine Below.alloc ?_ (by simp <;> omega) _ | exact Below.refl _ _)⟩
 by_cases h40 : c = 40
 ·subst h40
  by_cases hr : op.length < 8
  ·
   rw [show Fm.rule ⟨st, op, body, digits, last, purpose, related, block⟩ 40 = (⟨10, 99 :: op, true, digits, last, purpose, false, block⟩, true) by simp [Fm.rule, Fm.to, hn, hr]]
   simp only [fv]
   go_enter Tryz.func64, Tryz.ntmps64
   go_wp2_with (first | (go_at_call 65; refine (to_any _ _ _ _ _ _ _ _ _ _).mono ?_; rintro e w' ⟨rfl, rfl⟩) | (go_at_call 63; refine (room_any _ (op) _ _ _ _ _ _ _).mono ?_; rintro e w' ⟨rfl, rfl⟩) | (go_at_call 69; refine (isDg_any _ _).mono ?_; rintro e w' ⟨rfl, rfl⟩) | (go_at_call 61; refine (isNm_any _ _).mono ?_; rintro e w' ⟨rfl, rfl⟩) | (go_at_call 89; refine (isSc_any _ _).mono ?_; rintro e w' ⟨rfl, rfl⟩) | (go_at_call 93; refine (top_any _ (op) _ _ _ _ _ _ _ h).mono ?_; rintro e w' ⟨rfl, rfl⟩))
   exact bodyPost_ret (v := .tuple #[FV 10 (bs op ++ ⟨#[99]⟩) true digits last purpose false (bs block), .bool true]) (by simp [results, Tryz.results64, go_sem]) rfl ⟨by rw [bs_push], by repeat (first | refine Below.setCell ?_ (by simp <;> omega) _ | refine Below.alloc ?_ (by simp <;> omega) _ | exact Below.refl _ _)⟩
  ·
   rw [show Fm.rule ⟨st, op, body, digits, last, purpose, related, block⟩ 40 = (⟨st, op, true, digits, last, purpose, false, block⟩, false) by simp [Fm.rule, Fm.to, hn, hr]]
   simp only [fv]
   go_enter Tryz.func64, Tryz.ntmps64
   go_wp2_with (first | (go_at_call 65; refine (to_any _ _ _ _ _ _ _ _ _ _).mono ?_; rintro e w' ⟨rfl, rfl⟩) | (go_at_call 63; refine (room_any _ (op) _ _ _ _ _ _ _).mono ?_; rintro e w' ⟨rfl, rfl⟩) | (go_at_call 69; refine (isDg_any _ _).mono ?_; rintro e w' ⟨rfl, rfl⟩) | (go_at_call 61; refine (isNm_any _ _).mono ?_; rintro e w' ⟨rfl, rfl⟩) | (go_at_call 89; refine (isSc_any _ _).mono ?_; rintro e w' ⟨rfl, rfl⟩) | (go_at_call 93; refine (top_any _ (op) _ _ _ _ _ _ _ h).mono ?_; rintro e w' ⟨rfl, rfl⟩))
   exact bodyPost_ret (v := .tuple #[FV st (bs op) true digits last purpose false (bs block), .bool false]) (by simp [results, Tryz.results64, go_sem]) rfl ⟨rfl, by repeat (first | refine Below.setCell ?_ (by simp <;> omega) _ | refine Below.alloc ?_ (by simp <;> omega) _ | exact Below.refl _ _)⟩
 by_cases h42 : c = 42
 ·subst h42
  by_cases hr : op.length < 8
  ·
   rw [show Fm.rule ⟨st, op, body, digits, last, purpose, related, block⟩ 42 = (⟨13, op, true, digits, last, purpose, false, block⟩, true) by simp [Fm.rule, Fm.to, hn, hr]]
   simp only [fv]
   go_enter Tryz.func64, Tryz.ntmps64
   go_wp2_with (first | (go_at_call 65; refine (to_any _ _ _ _ _ _ _ _ _ _).mono ?_; rintro e w' ⟨rfl, rfl⟩) | (go_at_call 63; refine (room_any _ (op) _ _ _ _ _ _ _).mono ?_; rintro e w' ⟨rfl, rfl⟩) | (go_at_call 69; refine (isDg_any _ _).mono ?_; rintro e w' ⟨rfl, rfl⟩) | (go_at_call 61; refine (isNm_any _ _).mono ?_; rintro e w' ⟨rfl, rfl⟩) | (go_at_call 89; refine (isSc_any _ _).mono ?_; rintro e w' ⟨rfl, rfl⟩) | (go_at_call 93; refine (top_any _ (op) _ _ _ _ _ _ _ h).mono ?_; rintro e w' ⟨rfl, rfl⟩))
   exact bodyPost_ret (v := .tuple #[FV 13 (bs op) true digits last purpose false (bs block), .bool true]) (by simp [results, Tryz.results64, go_sem]) rfl ⟨rfl, by repeat (first | refine Below.setCell ?_ (by simp <;> omega) _ | refine Below.alloc ?_ (by simp <;> omega) _ | exact Below.refl _ _)⟩
  ·
   rw [show Fm.rule ⟨st, op, body, digits, last, purpose, related, block⟩ 42 = (⟨st, op, true, digits, last, purpose, false, block⟩, false) by simp [Fm.rule, Fm.to, hn, hr]]
   simp only [fv]
   go_enter Tryz.func64, Tryz.ntmps64
   go_wp2_with (first | (go_at_call 65; refine (to_any _ _ _ _ _ _ _ _ _ _).mono ?_; rintro e w' ⟨rfl, rfl⟩) | (go_at_call 63; refine (room_any _ (op) _ _ _ _ _ _ _).mono ?_; rintro e w' ⟨rfl, rfl⟩) | (go_at_call 69; refine (isDg_any _ _).mono ?_; rintro e w' ⟨rfl, rfl⟩) | (go_at_call 61; refine (isNm_any _ _).mono ?_; rintro e w' ⟨rfl, rfl⟩) | (go_at_call 89; refine (isSc_any _ _).mono ?_; rintro e w' ⟨rfl, rfl⟩) | (go_at_call 93; refine (top_any _ (op) _ _ _ _ _ _ _ h).mono ?_; rintro e w' ⟨rfl, rfl⟩))
   exact bodyPost_ret (v := .tuple #[FV st (bs op) true digits last purpose false (bs block), .bool false]) (by simp [results, Tryz.results64, go_sem]) rfl ⟨rfl, by repeat (first | refine Below.setCell ?_ (by simp <;> omega) _ | refine Below.alloc ?_ (by simp <;> omega) _ | exact Below.refl _ _)⟩
 ·
  rw [show Fm.rule ⟨st, op, body, digits, last, purpose, related, block⟩ c = (⟨st, op, true, digits, last, purpose, false, block⟩, false) by simp [Fm.rule, Fm.to, hn, h94, h62, h40, h42, h63, h33, h125]]
  simp only [fv]
  have ec63 : (c == 63) = false := by simp only [beq_eq_false_iff_ne, ne_eq]; omega
  have ec33 : (c == 33) = false := by simp only [beq_eq_false_iff_ne, ne_eq]; omega
  have ec125 : (c == 125) = false := by simp only [beq_eq_false_iff_ne, ne_eq]; omega
  have ec94 : (c == 94) = false := by simp only [beq_eq_false_iff_ne, ne_eq]; omega
  have ec62 : (c == 62) = false := by simp only [beq_eq_false_iff_ne, ne_eq]; omega
  have ec40 : (c == 40) = false := by simp only [beq_eq_false_iff_ne, ne_eq]; omega
  have ec42 : (c == 42) = false := by simp only [beq_eq_false_iff_ne, ne_eq]; omega
  go_enter Tryz.func64, Tryz.ntmps64
  go_wp2_with (first | (go_at_call 65; refine (to_any _ _ _ _ _ _ _ _ _ _).mono ?_; rintro e w' ⟨rfl, rfl⟩) | (go_at_call 63; refine (room_any _ (op) _ _ _ _ _ _ _).mono ?_; rintro e w' ⟨rfl, rfl⟩) | (go_at_call 69; refine (isDg_any _ _).mono ?_; rintro e w' ⟨rfl, rfl⟩) | (go_at_call 61; refine (isNm_any _ _).mono ?_; rintro e w' ⟨rfl, rfl⟩) | (go_at_call 89; refine (isSc_any _ _).mono ?_; rintro e w' ⟨rfl, rfl⟩) | (go_at_call 93; refine (top_any _ (op) _ _ _ _ _ _ _ h).mono ?_; rintro e w' ⟨rfl, rfl⟩))
  exact bodyPost_ret (v := .tuple #[FV st (bs op) true digits last purpose false (bs block), .bool false]) (by simp [results, Tryz.results64, go_sem]) rfl ⟨rfl, by repeat (first | refine Below.setCell ?_ (by simp <;> omega) _ | refine Below.alloc ?_ (by simp <;> omega) _ | exact Below.refl _ _)⟩
end Go.Proofs.YtdgmoiflahoihaaGreat
namespace Go.Proofs.YtdgmoiflahoihaaGreat
open Go.RowKit
set_option linter.unusedSimpArgs false
set_option linter.unusedVariables false
set_option maxHeartbeats 2000000 in
theorem after_any (f : Fm) (c : Int) (w : World) (h : f.op.length ≤ 1000) :
  Calls Tryz.prog 70 #[fv f, .int .i64 c] w fun e w' => e = .returned (.tuple #[fv (f.after c).1, .bool (f.after c).2]) ∧ Below w.heap.size w w' := by
 obtain ⟨st, op, body, digits, last, purpose, related, block⟩ := f
 simp only at h
 by_cases h43 : c = 43
 ·subst h43
  rw [show Fm.after ⟨st, op, body, digits, last, purpose, related, block⟩ 43 = (⟨10, op, body, digits, last, purpose, related, block⟩, true) by simp [Fm.after, Fm.to]]
  simp only [fv]
  go_enter Tryz.func70, Tryz.ntmps70
  go_wp2_with (first | (go_at_call 65; refine (to_any _ _ _ _ _ _ _ _ _ _).mono ?_; rintro e w' ⟨rfl, rfl⟩) | (go_at_call 63; refine (room_any _ (op) _ _ _ _ _ _ _).mono ?_; rintro e w' ⟨rfl, rfl⟩) | (go_at_call 69; refine (isDg_any _ _).mono ?_; rintro e w' ⟨rfl, rfl⟩) | (go_at_call 61; refine (isNm_any _ _).mono ?_; rintro e w' ⟨rfl, rfl⟩) | (go_at_call 89; refine (isSc_any _ _).mono ?_; rintro e w' ⟨rfl, rfl⟩) | (go_at_call 93; refine (top_any _ (op) _ _ _ _ _ _ _ h).mono ?_; rintro e w' ⟨rfl, rfl⟩))
  all_goals exact bodyPost_ret (v := .tuple #[FV 10 (bs op) body digits last purpose related (bs block), .bool true]) (by simp [results, Tryz.results70, go_sem]) rfl ⟨rfl, by repeat (first | refine Below.setCell ?_ (by simp <;> omega) _ | refine Below.alloc ?_ (by simp <;> omega) _ | exact Below.refl _ _)⟩
 by_cases h45 : c = 45
 ·subst h45
  rw [show Fm.after ⟨st, op, body, digits, last, purpose, related, block⟩ 45 = (⟨10, op, body, digits, last, purpose, related, block⟩, true) by simp [Fm.after, Fm.to]]
  simp only [fv]
  go_enter Tryz.func70, Tryz.ntmps70
  go_wp2_with (first | (go_at_call 65; refine (to_any _ _ _ _ _ _ _ _ _ _).mono ?_; rintro e w' ⟨rfl, rfl⟩) | (go_at_call 63; refine (room_any _ (op) _ _ _ _ _ _ _).mono ?_; rintro e w' ⟨rfl, rfl⟩) | (go_at_call 69; refine (isDg_any _ _).mono ?_; rintro e w' ⟨rfl, rfl⟩) | (go_at_call 61; refine (isNm_any _ _).mono ?_; rintro e w' ⟨rfl, rfl⟩) | (go_at_call 89; refine (isSc_any _ _).mono ?_; rintro e w' ⟨rfl, rfl⟩) | (go_at_call 93; refine (top_any _ (op) _ _ _ _ _ _ _ h).mono ?_; rintro e w' ⟨rfl, rfl⟩))
  all_goals exact bodyPost_ret (v := .tuple #[FV 10 (bs op) body digits last purpose related (bs block), .bool true]) (by simp [results, Tryz.results70, go_sem]) rfl ⟨rfl, by repeat (first | refine Below.setCell ?_ (by simp <;> omega) _ | refine Below.alloc ?_ (by simp <;> omega) _ | exact Below.refl _ _)⟩
 by_cases h42 : c = 42
 ·subst h42
  rw [show Fm.after ⟨st, op, body, digits, last, purpose, related, block⟩ 42 = (⟨10, op, body, digits, last, purpose, related, block⟩, true) by simp [Fm.after, Fm.to]]
  simp only [fv]
  go_enter Tryz.func70, Tryz.ntmps70
  go_wp2_with (first | (go_at_call 65; refine (to_any _ _ _ _ _ _ _ _ _ _).mono ?_; rintro e w' ⟨rfl, rfl⟩) | (go_at_call 63; refine (room_any _ (op) _ _ _ _ _ _ _).mono ?_; rintro e w' ⟨rfl, rfl⟩) | (go_at_call 69; refine (isDg_any _ _).mono ?_; rintro e w' ⟨rfl, rfl⟩) | (go_at_call 61; refine (isNm_any _ _).mono ?_; rintro e w' ⟨rfl, rfl⟩) | (go_at_call 89; refine (isSc_any _ _).mono ?_; rintro e w' ⟨rfl, rfl⟩) | (go_at_call 93; refine (top_any _ (op) _ _ _ _ _ _ _ h).mono ?_; rintro e w' ⟨rfl, rfl⟩))
  all_goals exact bodyPost_ret (v := .tuple #[FV 10 (bs op) body digits last purpose related (bs block), .bool true]) (by simp [results, Tryz.results70, go_sem]) rfl ⟨rfl, by repeat (first | refine Below.setCell ?_ (by simp <;> omega) _ | refine Below.alloc ?_ (by simp <;> omega) _ | exact Below.refl _ _)⟩
 by_cases h47 : c = 47
 ·subst h47
  rw [show Fm.after ⟨st, op, body, digits, last, purpose, related, block⟩ 47 = (⟨10, op, body, digits, last, purpose, related, block⟩, true) by simp [Fm.after, Fm.to]]
  simp only [fv]
  go_enter Tryz.func70, Tryz.ntmps70
  go_wp2_with (first | (go_at_call 65; refine (to_any _ _ _ _ _ _ _ _ _ _).mono ?_; rintro e w' ⟨rfl, rfl⟩) | (go_at_call 63; refine (room_any _ (op) _ _ _ _ _ _ _).mono ?_; rintro e w' ⟨rfl, rfl⟩) | (go_at_call 69; refine (isDg_any _ _).mono ?_; rintro e w' ⟨rfl, rfl⟩) | (go_at_call 61; refine (isNm_any _ _).mono ?_; rintro e w' ⟨rfl, rfl⟩) | (go_at_call 89; refine (isSc_any _ _).mono ?_; rintro e w' ⟨rfl, rfl⟩) | (go_at_call 93; refine (top_any _ (op) _ _ _ _ _ _ _ h).mono ?_; rintro e w' ⟨rfl, rfl⟩))
  all_goals exact bodyPost_ret (v := .tuple #[FV 10 (bs op) body digits last purpose related (bs block), .bool true]) (by simp [results, Tryz.results70, go_sem]) rfl ⟨rfl, by repeat (first | refine Below.setCell ?_ (by simp <;> omega) _ | refine Below.alloc ?_ (by simp <;> omega) _ | exact Below.refl _ _)⟩
 by_cases h37 : c = 37
 ·subst h37
  rw [show Fm.after ⟨st, op, body, digits, last, purpose, related, block⟩ 37 = (⟨10, op, body, digits, last, purpose, related, block⟩, true) by simp [Fm.after, Fm.to]]
  simp only [fv]
  go_enter Tryz.func70, Tryz.ntmps70
  go_wp2_with (first | (go_at_call 65; refine (to_any _ _ _ _ _ _ _ _ _ _).mono ?_; rintro e w' ⟨rfl, rfl⟩) | (go_at_call 63; refine (room_any _ (op) _ _ _ _ _ _ _).mono ?_; rintro e w' ⟨rfl, rfl⟩) | (go_at_call 69; refine (isDg_any _ _).mono ?_; rintro e w' ⟨rfl, rfl⟩) | (go_at_call 61; refine (isNm_any _ _).mono ?_; rintro e w' ⟨rfl, rfl⟩) | (go_at_call 89; refine (isSc_any _ _).mono ?_; rintro e w' ⟨rfl, rfl⟩) | (go_at_call 93; refine (top_any _ (op) _ _ _ _ _ _ _ h).mono ?_; rintro e w' ⟨rfl, rfl⟩))
  all_goals exact bodyPost_ret (v := .tuple #[FV 10 (bs op) body digits last purpose related (bs block), .bool true]) (by simp [results, Tryz.results70, go_sem]) rfl ⟨rfl, by repeat (first | refine Below.setCell ?_ (by simp <;> omega) _ | refine Below.alloc ?_ (by simp <;> omega) _ | exact Below.refl _ _)⟩
 by_cases h60 : c = 60
 ·subst h60
  cases related
  case false =>
   rw [show Fm.after ⟨st, op, body, digits, last, purpose, false, block⟩ 60 = (⟨10, op, body, digits, last, purpose, true, block⟩, true) by simp [Fm.after, Fm.to]]
   simp only [fv]
   go_enter Tryz.func70, Tryz.ntmps70
   go_wp2_with (first | (go_at_call 65; refine (to_any _ _ _ _ _ _ _ _ _ _).mono ?_; rintro e w' ⟨rfl, rfl⟩) | (go_at_call 63; refine (room_any _ (op) _ _ _ _ _ _ _).mono ?_; rintro e w' ⟨rfl, rfl⟩) | (go_at_call 69; refine (isDg_any _ _).mono ?_; rintro e w' ⟨rfl, rfl⟩) | (go_at_call 61; refine (isNm_any _ _).mono ?_; rintro e w' ⟨rfl, rfl⟩) | (go_at_call 89; refine (isSc_any _ _).mono ?_; rintro e w' ⟨rfl, rfl⟩) | (go_at_call 93; refine (top_any _ (op) _ _ _ _ _ _ _ h).mono ?_; rintro e w' ⟨rfl, rfl⟩))
   all_goals exact bodyPost_ret (v := .tuple #[FV 10 (bs op) body digits last purpose true (bs block), .bool true]) (by simp [results, Tryz.results70, go_sem]) rfl ⟨rfl, by repeat (first | refine Below.setCell ?_ (by simp <;> omega) _ | refine Below.alloc ?_ (by simp <;> omega) _ | exact Below.refl _ _)⟩
  case true =>
   rw [show Fm.after ⟨st, op, body, digits, last, purpose, true, block⟩ 60 = (⟨st, op, body, digits, last, purpose, true, block⟩, false) by simp [Fm.after, Fm.to]]
   simp only [fv]
   go_enter Tryz.func70, Tryz.ntmps70
   go_wp2_with (first | (go_at_call 65; refine (to_any _ _ _ _ _ _ _ _ _ _).mono ?_; rintro e w' ⟨rfl, rfl⟩) | (go_at_call 63; refine (room_any _ (op) _ _ _ _ _ _ _).mono ?_; rintro e w' ⟨rfl, rfl⟩) | (go_at_call 69; refine (isDg_any _ _).mono ?_; rintro e w' ⟨rfl, rfl⟩) | (go_at_call 61; refine (isNm_any _ _).mono ?_; rintro e w' ⟨rfl, rfl⟩) | (go_at_call 89; refine (isSc_any _ _).mono ?_; rintro e w' ⟨rfl, rfl⟩) | (go_at_call 93; refine (top_any _ (op) _ _ _ _ _ _ _ h).mono ?_; rintro e w' ⟨rfl, rfl⟩))
   all_goals exact bodyPost_ret (v := .tuple #[FV st (bs op) body digits last purpose true (bs block), .bool false]) (by simp [results, Tryz.results70, go_sem]) rfl ⟨rfl, by repeat (first | refine Below.setCell ?_ (by simp <;> omega) _ | refine Below.alloc ?_ (by simp <;> omega) _ | exact Below.refl _ _)⟩
 by_cases h61 : c = 61
 ·subst h61
  cases related
  case false =>
   rw [show Fm.after ⟨st, op, body, digits, last, purpose, false, block⟩ 61 = (⟨10, op, body, digits, last, purpose, true, block⟩, true) by simp [Fm.after, Fm.to]]
   simp only [fv]
   go_enter Tryz.func70, Tryz.ntmps70
   go_wp2_with (first | (go_at_call 65; refine (to_any _ _ _ _ _ _ _ _ _ _).mono ?_; rintro e w' ⟨rfl, rfl⟩) | (go_at_call 63; refine (room_any _ (op) _ _ _ _ _ _ _).mono ?_; rintro e w' ⟨rfl, rfl⟩) | (go_at_call 69; refine (isDg_any _ _).mono ?_; rintro e w' ⟨rfl, rfl⟩) | (go_at_call 61; refine (isNm_any _ _).mono ?_; rintro e w' ⟨rfl, rfl⟩) | (go_at_call 89; refine (isSc_any _ _).mono ?_; rintro e w' ⟨rfl, rfl⟩) | (go_at_call 93; refine (top_any _ (op) _ _ _ _ _ _ _ h).mono ?_; rintro e w' ⟨rfl, rfl⟩))
   all_goals exact bodyPost_ret (v := .tuple #[FV 10 (bs op) body digits last purpose true (bs block), .bool true]) (by simp [results, Tryz.results70, go_sem]) rfl ⟨rfl, by repeat (first | refine Below.setCell ?_ (by simp <;> omega) _ | refine Below.alloc ?_ (by simp <;> omega) _ | exact Below.refl _ _)⟩
  case true =>
   rw [show Fm.after ⟨st, op, body, digits, last, purpose, true, block⟩ 61 = (⟨st, op, body, digits, last, purpose, true, block⟩, false) by simp [Fm.after, Fm.to]]
   simp only [fv]
   go_enter Tryz.func70, Tryz.ntmps70
   go_wp2_with (first | (go_at_call 65; refine (to_any _ _ _ _ _ _ _ _ _ _).mono ?_; rintro e w' ⟨rfl, rfl⟩) | (go_at_call 63; refine (room_any _ (op) _ _ _ _ _ _ _).mono ?_; rintro e w' ⟨rfl, rfl⟩) | (go_at_call 69; refine (isDg_any _ _).mono ?_; rintro e w' ⟨rfl, rfl⟩) | (go_at_call 61; refine (isNm_any _ _).mono ?_; rintro e w' ⟨rfl, rfl⟩) | (go_at_call 89; refine (isSc_any _ _).mono ?_; rintro e w' ⟨rfl, rfl⟩) | (go_at_call 93; refine (top_any _ (op) _ _ _ _ _ _ _ h).mono ?_; rintro e w' ⟨rfl, rfl⟩))
   all_goals exact bodyPost_ret (v := .tuple #[FV st (bs op) body digits last purpose true (bs block), .bool false]) (by simp [results, Tryz.results70, go_sem]) rfl ⟨rfl, by repeat (first | refine Below.setCell ?_ (by simp <;> omega) _ | refine Below.alloc ?_ (by simp <;> omega) _ | exact Below.refl _ _)⟩
 by_cases h59 : c = 59
 ·subst h59
  cases op with
  | nil =>
   rw [show Fm.after ⟨st, [], body, digits, last, purpose, related, block⟩ 59 = (⟨0, [], body, digits, last, purpose, related, block⟩, true) by simp [Fm.after, Fm.to, Fm.paren, Fm.top]]
   simp only [fv]
   go_enter Tryz.func70, Tryz.ntmps70
   go_wp2_with (first | (go_at_call 65; refine (to_any _ _ _ _ _ _ _ _ _ _).mono ?_; rintro e w' ⟨rfl, rfl⟩) | (go_at_call 63; refine (room_any _ ([]) _ _ _ _ _ _ _).mono ?_; rintro e w' ⟨rfl, rfl⟩) | (go_at_call 69; refine (isDg_any _ _).mono ?_; rintro e w' ⟨rfl, rfl⟩) | (go_at_call 61; refine (isNm_any _ _).mono ?_; rintro e w' ⟨rfl, rfl⟩) | (go_at_call 89; refine (isSc_any _ _).mono ?_; rintro e w' ⟨rfl, rfl⟩) | (go_at_call 93; refine (top_any _ ([]) _ _ _ _ _ _ _ h).mono ?_; rintro e w' ⟨rfl, rfl⟩))
   all_goals exact bodyPost_ret (v := .tuple #[FV 0 (bs ([])) body digits last purpose related (bs block), .bool true]) (by simp [results, Tryz.results70, go_sem]) rfl ⟨rfl, by repeat (first | refine Below.setCell ?_ (by simp <;> omega) _ | refine Below.alloc ?_ (by simp <;> omega) _ | exact Below.refl _ _)⟩
  | cons a l =>
   have hl : l.length ≤ 1000 := by simp at h; omega
   by_cases a99 : a = 99
   ·subst a99
    rw [show Fm.after ⟨st, 99 :: l, body, digits, last, purpose, related, block⟩ 59 = (⟨st, 99 :: l, body, digits, last, purpose, related, block⟩, false) by simp [Fm.after, Fm.to, Fm.paren, Fm.top]]
    simp only [fv]
    go_enter Tryz.func70, Tryz.ntmps70
    go_wp2_with (first | (go_at_call 65; refine (to_any _ _ _ _ _ _ _ _ _ _).mono ?_; rintro e w' ⟨rfl, rfl⟩) | (go_at_call 63; refine (room_any _ (99 :: l) _ _ _ _ _ _ _).mono ?_; rintro e w' ⟨rfl, rfl⟩) | (go_at_call 69; refine (isDg_any _ _).mono ?_; rintro e w' ⟨rfl, rfl⟩) | (go_at_call 61; refine (isNm_any _ _).mono ?_; rintro e w' ⟨rfl, rfl⟩) | (go_at_call 89; refine (isSc_any _ _).mono ?_; rintro e w' ⟨rfl, rfl⟩) | (go_at_call 93; refine (top_any _ (99 :: l) _ _ _ _ _ _ _ h).mono ?_; rintro e w' ⟨rfl, rfl⟩))
    all_goals exact bodyPost_ret (v := .tuple #[FV st (bs (99 :: l)) body digits last purpose related (bs block), .bool false]) (by simp [results, Tryz.results70, go_sem]) rfl ⟨rfl, by repeat (first | refine Below.setCell ?_ (by simp <;> omega) _ | refine Below.alloc ?_ (by simp <;> omega) _ | exact Below.refl _ _)⟩
   by_cases a101 : a = 101
   ·subst a101
    rw [show Fm.after ⟨st, 101 :: l, body, digits, last, purpose, related, block⟩ 59 = (⟨st, 101 :: l, body, digits, last, purpose, related, block⟩, false) by simp [Fm.after, Fm.to, Fm.paren, Fm.top]]
    simp only [fv]
    go_enter Tryz.func70, Tryz.ntmps70
    go_wp2_with (first | (go_at_call 65; refine (to_any _ _ _ _ _ _ _ _ _ _).mono ?_; rintro e w' ⟨rfl, rfl⟩) | (go_at_call 63; refine (room_any _ (101 :: l) _ _ _ _ _ _ _).mono ?_; rintro e w' ⟨rfl, rfl⟩) | (go_at_call 69; refine (isDg_any _ _).mono ?_; rintro e w' ⟨rfl, rfl⟩) | (go_at_call 61; refine (isNm_any _ _).mono ?_; rintro e w' ⟨rfl, rfl⟩) | (go_at_call 89; refine (isSc_any _ _).mono ?_; rintro e w' ⟨rfl, rfl⟩) | (go_at_call 93; refine (top_any _ (101 :: l) _ _ _ _ _ _ _ h).mono ?_; rintro e w' ⟨rfl, rfl⟩))
    all_goals exact bodyPost_ret (v := .tuple #[FV st (bs (101 :: l)) body digits last purpose related (bs block), .bool false]) (by simp [results, Tryz.results70, go_sem]) rfl ⟨rfl, by repeat (first | refine Below.setCell ?_ (by simp <;> omega) _ | refine Below.alloc ?_ (by simp <;> omega) _ | exact Below.refl _ _)⟩
   by_cases a69 : a = 69
   ·subst a69
    rw [show Fm.after ⟨st, 69 :: l, body, digits, last, purpose, related, block⟩ 59 = (⟨st, 69 :: l, body, digits, last, purpose, related, block⟩, false) by simp [Fm.after, Fm.to, Fm.paren, Fm.top]]
    simp only [fv]
    go_enter Tryz.func70, Tryz.ntmps70
    go_wp2_with (first | (go_at_call 65; refine (to_any _ _ _ _ _ _ _ _ _ _).mono ?_; rintro e w' ⟨rfl, rfl⟩) | (go_at_call 63; refine (room_any _ (69 :: l) _ _ _ _ _ _ _).mono ?_; rintro e w' ⟨rfl, rfl⟩) | (go_at_call 69; refine (isDg_any _ _).mono ?_; rintro e w' ⟨rfl, rfl⟩) | (go_at_call 61; refine (isNm_any _ _).mono ?_; rintro e w' ⟨rfl, rfl⟩) | (go_at_call 89; refine (isSc_any _ _).mono ?_; rintro e w' ⟨rfl, rfl⟩) | (go_at_call 93; refine (top_any _ (69 :: l) _ _ _ _ _ _ _ h).mono ?_; rintro e w' ⟨rfl, rfl⟩))
    all_goals exact bodyPost_ret (v := .tuple #[FV st (bs (69 :: l)) body digits last purpose related (bs block), .bool false]) (by simp [results, Tryz.results70, go_sem]) rfl ⟨rfl, by repeat (first | refine Below.setCell ?_ (by simp <;> omega) _ | refine Below.alloc ?_ (by simp <;> omega) _ | exact Below.refl _ _)⟩
   ·
    rw [show Fm.after ⟨st, a :: l, body, digits, last, purpose, related, block⟩ 59 = (⟨0, a :: l, body, digits, last, purpose, related, block⟩, true) by simp [Fm.after, Fm.to, Fm.paren, Fm.top, a99, a101, a69]]
    simp only [fv]
    have k99 : ((a.toNat : Int) == 99) = false := u8_ne (b := 99) a99
    have k101 : ((a.toNat : Int) == 101) = false := u8_ne (b := 101) a101
    have k69 : ((a.toNat : Int) == 69) = false := u8_ne (b := 69) a69
    go_enter Tryz.func70, Tryz.ntmps70
    go_wp2_with (first | (go_at_call 65; refine (to_any _ _ _ _ _ _ _ _ _ _).mono ?_; rintro e w' ⟨rfl, rfl⟩) | (go_at_call 63; refine (room_any _ (a :: l) _ _ _ _ _ _ _).mono ?_; rintro e w' ⟨rfl, rfl⟩) | (go_at_call 69; refine (isDg_any _ _).mono ?_; rintro e w' ⟨rfl, rfl⟩) | (go_at_call 61; refine (isNm_any _ _).mono ?_; rintro e w' ⟨rfl, rfl⟩) | (go_at_call 89; refine (isSc_any _ _).mono ?_; rintro e w' ⟨rfl, rfl⟩) | (go_at_call 93; refine (top_any _ (a :: l) _ _ _ _ _ _ _ h).mono ?_; rintro e w' ⟨rfl, rfl⟩))
    all_goals exact bodyPost_ret (v := .tuple #[FV 0 (bs (a :: l)) body digits last purpose related (bs block), .bool true]) (by simp [results, Tryz.results70, go_sem]) rfl ⟨rfl, by repeat (first | refine Below.setCell ?_ (by simp <;> omega) _ | refine Below.alloc ?_ (by simp <;> omega) _ | exact Below.refl _ _)⟩
 by_cases h41 : c = 41
 ·subst h41
  cases op with
  | nil =>
   rw [show Fm.after ⟨st, [], body, digits, last, purpose, related, block⟩ 41 = (⟨st, [], body, digits, last, purpose, related, block⟩, false) by simp [Fm.after, Fm.to, Fm.paren, Fm.top]]
   simp only [fv]
   go_enter Tryz.func70, Tryz.ntmps70
   go_wp2_with (first | (go_at_call 65; refine (to_any _ _ _ _ _ _ _ _ _ _).mono ?_; rintro e w' ⟨rfl, rfl⟩) | (go_at_call 63; refine (room_any _ ([]) _ _ _ _ _ _ _).mono ?_; rintro e w' ⟨rfl, rfl⟩) | (go_at_call 69; refine (isDg_any _ _).mono ?_; rintro e w' ⟨rfl, rfl⟩) | (go_at_call 61; refine (isNm_any _ _).mono ?_; rintro e w' ⟨rfl, rfl⟩) | (go_at_call 89; refine (isSc_any _ _).mono ?_; rintro e w' ⟨rfl, rfl⟩) | (go_at_call 93; refine (top_any _ ([]) _ _ _ _ _ _ _ h).mono ?_; rintro e w' ⟨rfl, rfl⟩))
   all_goals exact bodyPost_ret (v := .tuple #[FV st (bs ([])) body digits last purpose related (bs block), .bool false]) (by simp [results, Tryz.results70, go_sem]) rfl ⟨rfl, by repeat (first | refine Below.setCell ?_ (by simp <;> omega) _ | refine Below.alloc ?_ (by simp <;> omega) _ | exact Below.refl _ _)⟩
  | cons a l =>
   have hl : l.length ≤ 1000 := by simp at h; omega
   by_cases a99 : a = 99
   ·subst a99
    rw [show Fm.after ⟨st, 99 :: l, body, digits, last, purpose, related, block⟩ 41 = (⟨14, l, body, digits, last, purpose, false, [49]⟩, true) by simp [Fm.after, Fm.to, Fm.paren, Fm.top]]
    simp only [fv]
    go_enter Tryz.func70, Tryz.ntmps70
    go_wp2_with (first | (go_at_call 65; refine (to_any _ _ _ _ _ _ _ _ _ _).mono ?_; rintro e w' ⟨rfl, rfl⟩) | (go_at_call 63; refine (room_any _ (99 :: l) _ _ _ _ _ _ _).mono ?_; rintro e w' ⟨rfl, rfl⟩) | (go_at_call 69; refine (isDg_any _ _).mono ?_; rintro e w' ⟨rfl, rfl⟩) | (go_at_call 61; refine (isNm_any _ _).mono ?_; rintro e w' ⟨rfl, rfl⟩) | (go_at_call 89; refine (isSc_any _ _).mono ?_; rintro e w' ⟨rfl, rfl⟩) | (go_at_call 93; refine (top_any _ (99 :: l) _ _ _ _ _ _ _ h).mono ?_; rintro e w' ⟨rfl, rfl⟩))
    all_goals exact bodyPost_ret (v := .tuple #[FV 14 ((bs (99 :: l)).extract 0 l.length) body digits last purpose false (⟨#[49]⟩), .bool true]) (by simp [results, Tryz.results70, go_sem]) rfl ⟨by rw [bs_pop]; rfl, by repeat (first | refine Below.setCell ?_ (by simp <;> omega) _ | refine Below.alloc ?_ (by simp <;> omega) _ | exact Below.refl _ _)⟩
   by_cases a101 : a = 101
   ·subst a101
    rw [show Fm.after ⟨st, 101 :: l, body, digits, last, purpose, related, block⟩ 41 = (⟨12, l, body, digits, last, purpose, false, block⟩, true) by simp [Fm.after, Fm.to, Fm.paren, Fm.top]]
    simp only [fv]
    go_enter Tryz.func70, Tryz.ntmps70
    go_wp2_with (first | (go_at_call 65; refine (to_any _ _ _ _ _ _ _ _ _ _).mono ?_; rintro e w' ⟨rfl, rfl⟩) | (go_at_call 63; refine (room_any _ (101 :: l) _ _ _ _ _ _ _).mono ?_; rintro e w' ⟨rfl, rfl⟩) | (go_at_call 69; refine (isDg_any _ _).mono ?_; rintro e w' ⟨rfl, rfl⟩) | (go_at_call 61; refine (isNm_any _ _).mono ?_; rintro e w' ⟨rfl, rfl⟩) | (go_at_call 89; refine (isSc_any _ _).mono ?_; rintro e w' ⟨rfl, rfl⟩) | (go_at_call 93; refine (top_any _ (101 :: l) _ _ _ _ _ _ _ h).mono ?_; rintro e w' ⟨rfl, rfl⟩))
    all_goals exact bodyPost_ret (v := .tuple #[FV 12 ((bs (101 :: l)).extract 0 l.length) body digits last purpose false (bs block), .bool true]) (by simp [results, Tryz.results70, go_sem]) rfl ⟨by rw [bs_pop], by repeat (first | refine Below.setCell ?_ (by simp <;> omega) _ | refine Below.alloc ?_ (by simp <;> omega) _ | exact Below.refl _ _)⟩
   by_cases a69 : a = 69
   ·subst a69
    rw [show Fm.after ⟨st, 69 :: l, body, digits, last, purpose, related, block⟩ 41 = (⟨12, l, body, digits, last, purpose, true, block⟩, true) by simp [Fm.after, Fm.to, Fm.paren, Fm.top]]
    simp only [fv]
    go_enter Tryz.func70, Tryz.ntmps70
    go_wp2_with (first | (go_at_call 65; refine (to_any _ _ _ _ _ _ _ _ _ _).mono ?_; rintro e w' ⟨rfl, rfl⟩) | (go_at_call 63; refine (room_any _ (69 :: l) _ _ _ _ _ _ _).mono ?_; rintro e w' ⟨rfl, rfl⟩) | (go_at_call 69; refine (isDg_any _ _).mono ?_; rintro e w' ⟨rfl, rfl⟩) | (go_at_call 61; refine (isNm_any _ _).mono ?_; rintro e w' ⟨rfl, rfl⟩) | (go_at_call 89; refine (isSc_any _ _).mono ?_; rintro e w' ⟨rfl, rfl⟩) | (go_at_call 93; refine (top_any _ (69 :: l) _ _ _ _ _ _ _ h).mono ?_; rintro e w' ⟨rfl, rfl⟩))
    all_goals exact bodyPost_ret (v := .tuple #[FV 12 ((bs (69 :: l)).extract 0 l.length) body digits last purpose true (bs block), .bool true]) (by simp [results, Tryz.results70, go_sem]) rfl ⟨by rw [bs_pop], by repeat (first | refine Below.setCell ?_ (by simp <;> omega) _ | refine Below.alloc ?_ (by simp <;> omega) _ | exact Below.refl _ _)⟩
   ·
    rw [show Fm.after ⟨st, a :: l, body, digits, last, purpose, related, block⟩ 41 = (⟨st, a :: l, body, digits, last, purpose, related, block⟩, false) by simp [Fm.after, Fm.to, Fm.paren, Fm.top, a99, a101, a69]]
    simp only [fv]
    have k99 : ((a.toNat : Int) == 99) = false := u8_ne (b := 99) a99
    have k101 : ((a.toNat : Int) == 101) = false := u8_ne (b := 101) a101
    have k69 : ((a.toNat : Int) == 69) = false := u8_ne (b := 69) a69
    go_enter Tryz.func70, Tryz.ntmps70
    go_wp2_with (first | (go_at_call 65; refine (to_any _ _ _ _ _ _ _ _ _ _).mono ?_; rintro e w' ⟨rfl, rfl⟩) | (go_at_call 63; refine (room_any _ (a :: l) _ _ _ _ _ _ _).mono ?_; rintro e w' ⟨rfl, rfl⟩) | (go_at_call 69; refine (isDg_any _ _).mono ?_; rintro e w' ⟨rfl, rfl⟩) | (go_at_call 61; refine (isNm_any _ _).mono ?_; rintro e w' ⟨rfl, rfl⟩) | (go_at_call 89; refine (isSc_any _ _).mono ?_; rintro e w' ⟨rfl, rfl⟩) | (go_at_call 93; refine (top_any _ (a :: l) _ _ _ _ _ _ _ h).mono ?_; rintro e w' ⟨rfl, rfl⟩))
    all_goals exact bodyPost_ret (v := .tuple #[FV st (bs (a :: l)) body digits last purpose related (bs block), .bool false]) (by simp [results, Tryz.results70, go_sem]) rfl ⟨rfl, by repeat (first | refine Below.setCell ?_ (by simp <;> omega) _ | refine Below.alloc ?_ (by simp <;> omega) _ | exact Below.refl _ _)⟩
 ·
  rw [show Fm.after ⟨st, op, body, digits, last, purpose, related, block⟩ c = (⟨st, op, body, digits, last, purpose, related, block⟩, false) by simp [Fm.after, Fm.to, h43, h45, h42, h47, h37, h60, h61, h59, h41]]
  simp only [fv]
  have ec43 : (c == 43) = false := by simp only [beq_eq_false_iff_ne, ne_eq]; omega
  have ec45 : (c == 45) = false := by simp only [beq_eq_false_iff_ne, ne_eq]; omega
  have ec42 : (c == 42) = false := by simp only [beq_eq_false_iff_ne, ne_eq]; omega
  have ec47 : (c == 47) = false := by simp only [beq_eq_false_iff_ne, ne_eq]; omega
  have ec37 : (c == 37) = false := by simp only [beq_eq_false_iff_ne, ne_eq]; omega
  have ec60 : (c == 60) = false := by simp only [beq_eq_false_iff_ne, ne_eq]; omega
  have ec61 : (c == 61) = false := by simp only [beq_eq_false_iff_ne, ne_eq]; omega
  have ec59 : (c == 59) = false := by simp only [beq_eq_false_iff_ne, ne_eq]; omega
  have ec41 : (c == 41) = false := by simp only [beq_eq_false_iff_ne, ne_eq]; omega
  go_enter Tryz.func70, Tryz.ntmps70
  go_wp2_with (first | (go_at_call 65; refine (to_any _ _ _ _ _ _ _ _ _ _).mono ?_; rintro e w' ⟨rfl, rfl⟩) | (go_at_call 63; refine (room_any _ (op) _ _ _ _ _ _ _).mono ?_; rintro e w' ⟨rfl, rfl⟩) | (go_at_call 69; refine (isDg_any _ _).mono ?_; rintro e w' ⟨rfl, rfl⟩) | (go_at_call 61; refine (isNm_any _ _).mono ?_; rintro e w' ⟨rfl, rfl⟩) | (go_at_call 89; refine (isSc_any _ _).mono ?_; rintro e w' ⟨rfl, rfl⟩) | (go_at_call 93; refine (top_any _ (op) _ _ _ _ _ _ _ h).mono ?_; rintro e w' ⟨rfl, rfl⟩))
  all_goals exact bodyPost_ret (v := .tuple #[FV st (bs op) body digits last purpose related (bs block), .bool false]) (by simp [results, Tryz.results70, go_sem]) rfl ⟨rfl, by repeat (first | refine Below.setCell ?_ (by simp <;> omega) _ | refine Below.alloc ?_ (by simp <;> omega) _ | exact Below.refl _ _)⟩
end Go.Proofs.YtdgmoiflahoihaaGreat
