import Derived.Test.YtdgmoiflahoihaaGreatRows
import Derived.Test.YtdgmoiflahoihaaGreatPlainw
import Derived.WalkKit
import Derived.WalkSpells
import Derived.WalkLawsBesides

namespace Go.Proofs.YtdgmoiflahoihaaGreat
open Go.RowKit
set_option linter.unusedSimpArgs false
set_option linter.unusedVariables false
@[reducible] def bs (l : List UInt8) : ByteArray := ⟨l.reverse.toArray⟩
@[reducible] def FV (st : Int) (op : ByteArray) (body : Bool) (digits last purpose : Int) (related : Bool) (block : ByteArray) : Value := .agg #[.int .i64 st, .string op, .bool body, .int .i64 digits, .int .i64 last, .int .i64 purpose, .bool related, .string block]
@[reducible] def FO (st : Int) (op : ByteArray) (body : Bool) (digits last purpose : Int) (related : Bool) (block : ByteArray) : Obj := .cells #[.int .i64 st, .string op, .bool body, .int .i64 digits, .int .i64 last, .int .i64 purpose, .bool related, .string block] 93
def fv (f : Fm) : Value := FV f.st (bs f.op) f.body f.digits f.last f.purpose f.related (bs f.block)
theorem bs_push (l : List UInt8) (a : UInt8) : bs l ++ ⟨#[a]⟩ = bs (a :: l) := by
 apply ByteArray.ext
 simp [bs]
theorem bs_append (l k : List UInt8) : bs l ++ bs k = bs (k ++ l) := by
 apply ByteArray.ext
 simp [bs]
theorem bs_pop (l : List UInt8) (a : UInt8) : (bs (a :: l)).extract 0 l.length = bs l := by
 apply ByteArray.ext
 rw [ByteArray.data_extract]
 simp [bs]
theorem u8_ne {a b : UInt8} (h : a ≠ b) : ((a.toNat : Int) == (b.toNat : Int)) = false := by
 simp only [beq_eq_false_iff_ne, ne_eq]
 intro k
 exact h (UInt8.toNat_inj.mp (by omega))
set_option maxHeartbeats 400000 in
theorem isDg_any (c : Int) (w : World) :
  Calls Tryz.prog 69 #[.int .i64 c] w fun e w' => e = .returned (.bool (isDg c)) ∧ w' = w := by
 go_enter Tryz.func69, Tryz.ntmps69
 go_wp2
 all_goals go_ret
 all_goals (refine ⟨?_, rfl⟩; simp [isDg, *]; try omega)
set_option maxHeartbeats 400000 in
theorem isNm_any (c : Int) (w : World) :
  Calls Tryz.prog 61 #[.int .i64 c] w fun e w' => e = .returned (.bool (isNm c)) ∧ w' = w := by
 go_enter Tryz.func61, Tryz.ntmps61
 go_wp2
 all_goals go_ret
 all_goals (refine ⟨?_, rfl⟩; simp [isNm, *]; try omega)
set_option maxHeartbeats 400000 in
theorem isSc_any (c : Int) (w : World) :
  Calls Tryz.prog 89 #[.int .i64 c] w fun e w' => e = .returned (.bool (isSc c)) ∧ w' = w := by
 go_enter Tryz.func89, Tryz.ntmps89
 go_wp2
 all_goals go_ret
 all_goals (refine ⟨?_, rfl⟩; simp [isSc, *]; try omega)
set_option maxHeartbeats 400000 in
theorem top_nil (st : Int) (body : Bool) (digits last purpose : Int) (related : Bool) (block : ByteArray) (w : World) :
  Calls Tryz.prog 93 #[FV st (bs []) body digits last purpose related block] w fun e w' => e = .returned (.int .u8 0) ∧ w' = w.alloc (FO st (bs []) body digits last purpose related block) := by
 go_enter Tryz.func93, Tryz.ntmps93
 go_wp2
 go_ret
 exact ⟨rfl, rfl⟩
theorem at_last (a : UInt8) (l : List UInt8) (h : l.length < (bs (a :: l)).size) : (bs (a :: l))[l.length] = a := by
 show ((a :: l).reverse.toArray)[l.length]'_ = a
 simp
set_option maxHeartbeats 400000 in
theorem top_cons (st : Int) (a : UInt8) (l : List UInt8) (body : Bool) (digits last purpose : Int) (related : Bool) (block : ByteArray) (w : World) (h : l.length ≤ 1000) :
  Calls Tryz.prog 93 #[FV st (bs (a :: l)) body digits last purpose related block] w fun e w' => e = .returned (.int .u8 a.toNat) ∧ w' = w.alloc (FO st (bs (a :: l)) body digits last purpose related block) := by
 have hb : ((l.length : Int) + 1 == 0) = false := by simp; omega
 go_enter Tryz.func93, Tryz.ntmps93
 go_wp2
 go_ret
 refine ⟨?_, ?_⟩
 ·simp [at_last]
 ·simp [bs]
set_option maxHeartbeats 400000 in
theorem top_any (st : Int) (l : List UInt8) (body : Bool) (digits last purpose : Int) (related : Bool) (block : ByteArray) (w : World) (h : l.length ≤ 1000) :
  Calls Tryz.prog 93 #[FV st (bs l) body digits last purpose related block] w fun e w' => e = .returned (.int .u8 (l.headD 0).toNat) ∧ w' = w.alloc (FO st (bs l) body digits last purpose related block) := by
 cases l with
 | nil => exact top_nil _ _ _ _ _ _ _ _
 | cons a l => exact top_cons _ _ _ _ _ _ _ _ _ _ (by simp at h; omega)
set_option maxHeartbeats 400000 in
theorem room_any (st : Int) (op : List UInt8) (body : Bool) (digits last purpose : Int) (related : Bool) (block : ByteArray) (w : World) :
  Calls Tryz.prog 63 #[FV st (bs op) body digits last purpose related block] w fun e w' => e = .returned (.bool (decide (op.length < 8))) ∧ w' = w.alloc (FO st (bs op) body digits last purpose related block) := by
 go_enter Tryz.func63, Tryz.ntmps63
 go_wp2
 go_ret
 refine ⟨?_, rfl⟩
 simp
 exact ⟨fun h => by omega, fun h => by omega⟩
set_option maxHeartbeats 400000 in
theorem to_any (st : Int) (op : ByteArray) (body : Bool) (digits last purpose : Int) (related : Bool) (block : ByteArray) (n : Int) (w : World) :
  Calls Tryz.prog 65 #[FV st op body digits last purpose related block, .int .i64 n] w fun e w' => e = .returned (.tuple #[FV n op body digits last purpose related block, .bool true]) ∧ w' = (w.alloc (FO n op body digits last purpose related block)).alloc (FO n op body digits last purpose related block) := by
 go_enter Tryz.func65, Tryz.ntmps65
 go_wp2
 exact bodyPost_ret (v := .tuple #[FV n op body digits last purpose related block, .bool true]) (by simp [results, Tryz.results65, go_sem]) rfl ⟨rfl, rfl⟩
end Go.Proofs.YtdgmoiflahoihaaGreat
namespace Go.Proofs.YtdgmoiflahoihaaGreat
open Go.RowKit
set_option linter.unusedSimpArgs false
set_option linter.unusedVariables false
theorem bcell {W w1 : World} (hb : Below W.heap.size W w1) : (∀ b o, b < W.heap.size → w1.cell? ⟨b, o, none⟩ = W.cell? ⟨b, o, none⟩) ∧ (∀ b o, b < W.heap.size → w1.frozen? ⟨b, o, none⟩ = W.frozen? ⟨b, o, none⟩) :=
 ⟨fun b o h => hb.cell (p := ⟨b, o, none⟩) h, fun b o h => hb.frozen (p := ⟨b, o, none⟩) h⟩
set_option maxHeartbeats 2000000 in
theorem unit_any (f : Fm) (c : Int) (w : World) :
  Calls Tryz.prog 68 #[fv f, .int .i64 c] w fun e w' => e = .returned (.tuple #[fv (f.unit c).1, .bool (f.unit c).2]) ∧ Below w.heap.size w w' := by
 obtain ⟨st, op, body, digits, last, purpose, related, block⟩ := f
 cases hd : isDg c
 case true =>
  rw [show Fm.unit ⟨st, op, body, digits, last, purpose, related, block⟩ c = (⟨11, op, body, 1, last, purpose, related, block⟩, true) by simp [Fm.unit, Fm.to, hd]]
  simp only [fv]
  go_enter Tryz.func68, Tryz.ntmps68
  go_wp2_with (first | (go_at_call 65; refine (to_any _ _ _ _ _ _ _ _ _ _).mono ?_; rintro e w' ⟨rfl, rfl⟩) | (go_at_call 63; refine (room_any _ (op) _ _ _ _ _ _ _).mono ?_; rintro e w' ⟨rfl, rfl⟩) | (go_at_call 69; refine (isDg_any _ _).mono ?_; rintro e w' ⟨rfl, rfl⟩) | (go_at_call 61; refine (isNm_any _ _).mono ?_; rintro e w' ⟨rfl, rfl⟩) | (go_at_call 89; refine (isSc_any _ _).mono ?_; rintro e w' ⟨rfl, rfl⟩) | (go_at_call 93; refine (top_any _ (op) _ _ _ _ _ _ _ (by simp at *; omega)).mono ?_; rintro e w' ⟨rfl, rfl⟩))
  exact bodyPost_ret (v := .tuple #[FV 11 (bs op) body 1 last purpose related (bs block), .bool true]) (by simp [results, Tryz.results68, go_sem]) rfl ⟨rfl, by repeat (first | refine Below.setCell ?_ (by simp <;> omega) _ | refine Below.alloc ?_ (by simp <;> omega) _ | exact Below.refl _ _)⟩
 case false =>
 cases hn : isNm c
 case true =>
  rw [show Fm.unit ⟨st, op, body, digits, last, purpose, related, block⟩ c = (⟨12, op, body, digits, last, purpose, related, block⟩, true) by simp [Fm.unit, Fm.to, hd, hn]]
  simp only [fv]
  go_enter Tryz.func68, Tryz.ntmps68
  go_wp2_with (first | (go_at_call 65; refine (to_any _ _ _ _ _ _ _ _ _ _).mono ?_; rintro e w' ⟨rfl, rfl⟩) | (go_at_call 63; refine (room_any _ (op) _ _ _ _ _ _ _).mono ?_; rintro e w' ⟨rfl, rfl⟩) | (go_at_call 69; refine (isDg_any _ _).mono ?_; rintro e w' ⟨rfl, rfl⟩) | (go_at_call 61; refine (isNm_any _ _).mono ?_; rintro e w' ⟨rfl, rfl⟩) | (go_at_call 89; refine (isSc_any _ _).mono ?_; rintro e w' ⟨rfl, rfl⟩) | (go_at_call 93; refine (top_any _ (op) _ _ _ _ _ _ _ (by simp at *; omega)).mono ?_; rintro e w' ⟨rfl, rfl⟩))
  exact bodyPost_ret (v := .tuple #[FV 12 (bs op) body digits last purpose related (bs block), .bool true]) (by simp [results, Tryz.results68, go_sem]) rfl ⟨rfl, by repeat (first | refine Below.setCell ?_ (by simp <;> omega) _ | refine Below.alloc ?_ (by simp <;> omega) _ | exact Below.refl _ _)⟩
 case false =>
 by_cases h45 : c = 45
 ·subst h45
  rw [show Fm.unit ⟨st, op, body, digits, last, purpose, related, block⟩ 45 = (⟨10, op, body, digits, last, purpose, related, block⟩, true) by simp [Fm.unit, Fm.to, hd, hn]]
  simp only [fv]
  go_enter Tryz.func68, Tryz.ntmps68
  go_wp2_with (first | (go_at_call 65; refine (to_any _ _ _ _ _ _ _ _ _ _).mono ?_; rintro e w' ⟨rfl, rfl⟩) | (go_at_call 63; refine (room_any _ (op) _ _ _ _ _ _ _).mono ?_; rintro e w' ⟨rfl, rfl⟩) | (go_at_call 69; refine (isDg_any _ _).mono ?_; rintro e w' ⟨rfl, rfl⟩) | (go_at_call 61; refine (isNm_any _ _).mono ?_; rintro e w' ⟨rfl, rfl⟩) | (go_at_call 89; refine (isSc_any _ _).mono ?_; rintro e w' ⟨rfl, rfl⟩) | (go_at_call 93; refine (top_any _ (op) _ _ _ _ _ _ _ (by simp at *; omega)).mono ?_; rintro e w' ⟨rfl, rfl⟩))
  exact bodyPost_ret (v := .tuple #[FV 10 (bs op) body digits last purpose related (bs block), .bool true]) (by simp [results, Tryz.results68, go_sem]) rfl ⟨rfl, by repeat (first | refine Below.setCell ?_ (by simp <;> omega) _ | refine Below.alloc ?_ (by simp <;> omega) _ | exact Below.refl _ _)⟩
 by_cases h40 : c = 40
 ·subst h40
  by_cases hr : op.length < 8
  ·cases related
   case false =>
    rw [show Fm.unit ⟨st, op, body, digits, last, purpose, false, block⟩ 40 = (⟨10, 101 :: op, body, digits, last, purpose, false, block⟩, true) by simp [Fm.unit, Fm.to, hd, hn, hr]]
    simp only [fv]
    go_enter Tryz.func68, Tryz.ntmps68
    go_wp2_with (first | (go_at_call 65; refine (to_any _ _ _ _ _ _ _ _ _ _).mono ?_; rintro e w' ⟨rfl, rfl⟩) | (go_at_call 63; refine (room_any _ (op) _ _ _ _ _ _ _).mono ?_; rintro e w' ⟨rfl, rfl⟩) | (go_at_call 69; refine (isDg_any _ _).mono ?_; rintro e w' ⟨rfl, rfl⟩) | (go_at_call 61; refine (isNm_any _ _).mono ?_; rintro e w' ⟨rfl, rfl⟩) | (go_at_call 89; refine (isSc_any _ _).mono ?_; rintro e w' ⟨rfl, rfl⟩) | (go_at_call 93; refine (top_any _ (op) _ _ _ _ _ _ _ (by simp at *; omega)).mono ?_; rintro e w' ⟨rfl, rfl⟩))
    exact bodyPost_ret (v := .tuple #[FV 10 (bs op ++ ⟨#[101]⟩) body digits last purpose false (bs block), .bool true]) (by simp [results, Tryz.results68, go_sem]) rfl ⟨by rw [bs_push], by repeat (first | refine Below.setCell ?_ (by simp <;> omega) _ | refine Below.alloc ?_ (by simp <;> omega) _ | exact Below.refl _ _)⟩
   case true =>
    rw [show Fm.unit ⟨st, op, body, digits, last, purpose, true, block⟩ 40 = (⟨10, 69 :: op, body, digits, last, purpose, false, block⟩, true) by simp [Fm.unit, Fm.to, hd, hn, hr]]
    simp only [fv]
    go_enter Tryz.func68, Tryz.ntmps68
    go_wp2_with (first | (go_at_call 65; refine (to_any _ _ _ _ _ _ _ _ _ _).mono ?_; rintro e w' ⟨rfl, rfl⟩) | (go_at_call 63; refine (room_any _ (op) _ _ _ _ _ _ _).mono ?_; rintro e w' ⟨rfl, rfl⟩) | (go_at_call 69; refine (isDg_any _ _).mono ?_; rintro e w' ⟨rfl, rfl⟩) | (go_at_call 61; refine (isNm_any _ _).mono ?_; rintro e w' ⟨rfl, rfl⟩) | (go_at_call 89; refine (isSc_any _ _).mono ?_; rintro e w' ⟨rfl, rfl⟩) | (go_at_call 93; refine (top_any _ (op) _ _ _ _ _ _ _ (by simp at *; omega)).mono ?_; rintro e w' ⟨rfl, rfl⟩))
    exact bodyPost_ret (v := .tuple #[FV 10 (bs op ++ ⟨#[69]⟩) body digits last purpose false (bs block), .bool true]) (by simp [results, Tryz.results68, go_sem]) rfl ⟨by rw [bs_push], by repeat (first | refine Below.setCell ?_ (by simp <;> omega) _ | refine Below.alloc ?_ (by simp <;> omega) _ | exact Below.refl _ _)⟩
  ·
   rw [show Fm.unit ⟨st, op, body, digits, last, purpose, related, block⟩ 40 = (⟨st, op, body, digits, last, purpose, related, block⟩, false) by simp [Fm.unit, Fm.to, hd, hn, hr]]
   simp only [fv]
   go_enter Tryz.func68, Tryz.ntmps68
   go_wp2_with (first | (go_at_call 65; refine (to_any _ _ _ _ _ _ _ _ _ _).mono ?_; rintro e w' ⟨rfl, rfl⟩) | (go_at_call 63; refine (room_any _ (op) _ _ _ _ _ _ _).mono ?_; rintro e w' ⟨rfl, rfl⟩) | (go_at_call 69; refine (isDg_any _ _).mono ?_; rintro e w' ⟨rfl, rfl⟩) | (go_at_call 61; refine (isNm_any _ _).mono ?_; rintro e w' ⟨rfl, rfl⟩) | (go_at_call 89; refine (isSc_any _ _).mono ?_; rintro e w' ⟨rfl, rfl⟩) | (go_at_call 93; refine (top_any _ (op) _ _ _ _ _ _ _ (by simp at *; omega)).mono ?_; rintro e w' ⟨rfl, rfl⟩))
   exact bodyPost_ret (v := .tuple #[FV st (bs op) body digits last purpose related (bs block), .bool false]) (by simp [results, Tryz.results68, go_sem]) rfl ⟨rfl, by repeat (first | refine Below.setCell ?_ (by simp <;> omega) _ | refine Below.alloc ?_ (by simp <;> omega) _ | exact Below.refl _ _)⟩
 ·
  rw [show Fm.unit ⟨st, op, body, digits, last, purpose, related, block⟩ c = (⟨st, op, body, digits, last, purpose, related, block⟩, false) by simp [Fm.unit, Fm.to, hd, hn, h45, h40]]
  simp only [fv]
  have ec45 : (c == 45) = false := by simp only [beq_eq_false_iff_ne, ne_eq]; omega
  have ec40 : (c == 40) = false := by simp only [beq_eq_false_iff_ne, ne_eq]; omega
  go_enter Tryz.func68, Tryz.ntmps68
  go_wp2_with (first | (go_at_call 65; refine (to_any _ _ _ _ _ _ _ _ _ _).mono ?_; rintro e w' ⟨rfl, rfl⟩) | (go_at_call 63; refine (room_any _ (op) _ _ _ _ _ _ _).mono ?_; rintro e w' ⟨rfl, rfl⟩) | (go_at_call 69; refine (isDg_any _ _).mono ?_; rintro e w' ⟨rfl, rfl⟩) | (go_at_call 61; refine (isNm_any _ _).mono ?_; rintro e w' ⟨rfl, rfl⟩) | (go_at_call 89; refine (isSc_any _ _).mono ?_; rintro e w' ⟨rfl, rfl⟩) | (go_at_call 93; refine (top_any _ (op) _ _ _ _ _ _ _ (by simp at *; omega)).mono ?_; rintro e w' ⟨rfl, rfl⟩))
  exact bodyPost_ret (v := .tuple #[FV st (bs op) body digits last purpose related (bs block), .bool false]) (by simp [results, Tryz.results68, go_sem]) rfl ⟨rfl, by repeat (first | refine Below.setCell ?_ (by simp <;> omega) _ | refine Below.alloc ?_ (by simp <;> omega) _ | exact Below.refl _ _)⟩
set_option maxHeartbeats 2000000 in
theorem labeled_any (f : Fm) (c : Int) (w : World) :
  Calls Tryz.prog 67 #[fv f, .int .i64 c] w fun e w' => e = .returned (.tuple #[fv (f.labeled c).1, .bool (f.labeled c).2]) ∧ Below w.heap.size w w' := by
 obtain ⟨st, op, body, digits, last, purpose, related, block⟩ := f
 by_cases h0 : purpose = 0
 ·subst h0
  by_cases h59 : c = 59
  ·subst h59
   rw [show Fm.labeled ⟨st, op, body, digits, last, 0, related, block⟩ 59 = (⟨0, op, body, digits, last, 0, related, block⟩, true) by simp [Fm.labeled, Fm.to]]
   simp only [fv]
   go_enter Tryz.func67, Tryz.ntmps67
   go_wp2_with (first | (go_at_call 65; refine (to_any _ _ _ _ _ _ _ _ _ _).mono ?_; rintro e w' ⟨rfl, rfl⟩) | (go_at_call 63; refine (room_any _ (op) _ _ _ _ _ _ _).mono ?_; rintro e w' ⟨rfl, rfl⟩) | (go_at_call 69; refine (isDg_any _ _).mono ?_; rintro e w' ⟨rfl, rfl⟩) | (go_at_call 61; refine (isNm_any _ _).mono ?_; rintro e w' ⟨rfl, rfl⟩) | (go_at_call 89; refine (isSc_any _ _).mono ?_; rintro e w' ⟨rfl, rfl⟩) | (go_at_call 93; refine (top_any _ (op) _ _ _ _ _ _ _ (by simp at *; omega)).mono ?_; rintro e w' ⟨rfl, rfl⟩))
   exact bodyPost_ret (v := .tuple #[FV 0 (bs op) body digits last 0 related (bs block), .bool true]) (by simp [results, Tryz.results67, go_sem]) rfl ⟨rfl, by repeat (first | refine Below.setCell ?_ (by simp <;> omega) _ | refine Below.alloc ?_ (by simp <;> omega) _ | exact Below.refl _ _)⟩
  ·
   rw [show Fm.labeled ⟨st, op, body, digits, last, 0, related, block⟩ c = (⟨st, op, body, digits, last, 0, related, block⟩, false) by simp [Fm.labeled, Fm.to, h59]]
   simp only [fv]
   have ec59 : (c == 59) = false := by simp only [beq_eq_false_iff_ne, ne_eq]; omega
   go_enter Tryz.func67, Tryz.ntmps67
   go_wp2_with (first | (go_at_call 65; refine (to_any _ _ _ _ _ _ _ _ _ _).mono ?_; rintro e w' ⟨rfl, rfl⟩) | (go_at_call 63; refine (room_any _ (op) _ _ _ _ _ _ _).mono ?_; rintro e w' ⟨rfl, rfl⟩) | (go_at_call 69; refine (isDg_any _ _).mono ?_; rintro e w' ⟨rfl, rfl⟩) | (go_at_call 61; refine (isNm_any _ _).mono ?_; rintro e w' ⟨rfl, rfl⟩) | (go_at_call 89; refine (isSc_any _ _).mono ?_; rintro e w' ⟨rfl, rfl⟩) | (go_at_call 93; refine (top_any _ (op) _ _ _ _ _ _ _ (by simp at *; omega)).mono ?_; rintro e w' ⟨rfl, rfl⟩))
   exact bodyPost_ret (v := .tuple #[FV st (bs op) body digits last 0 related (bs block), .bool false]) (by simp [results, Tryz.results67, go_sem]) rfl ⟨rfl, by repeat (first | refine Below.setCell ?_ (by simp <;> omega) _ | refine Below.alloc ?_ (by simp <;> omega) _ | exact Below.refl _ _)⟩
 by_cases h1 : purpose = 1
 ·subst h1
  by_cases h61 : c = 61
  ·subst h61
   rw [show Fm.labeled ⟨st, op, body, digits, last, 1, related, block⟩ 61 = (⟨10, op, body, digits, last, 1, related, block⟩, true) by simp [Fm.labeled, Fm.to]]
   simp only [fv]
   go_enter Tryz.func67, Tryz.ntmps67
   go_wp2_with (first | (go_at_call 65; refine (to_any _ _ _ _ _ _ _ _ _ _).mono ?_; rintro e w' ⟨rfl, rfl⟩) | (go_at_call 63; refine (room_any _ (op) _ _ _ _ _ _ _).mono ?_; rintro e w' ⟨rfl, rfl⟩) | (go_at_call 69; refine (isDg_any _ _).mono ?_; rintro e w' ⟨rfl, rfl⟩) | (go_at_call 61; refine (isNm_any _ _).mono ?_; rintro e w' ⟨rfl, rfl⟩) | (go_at_call 89; refine (isSc_any _ _).mono ?_; rintro e w' ⟨rfl, rfl⟩) | (go_at_call 93; refine (top_any _ (op) _ _ _ _ _ _ _ (by simp at *; omega)).mono ?_; rintro e w' ⟨rfl, rfl⟩))
   exact bodyPost_ret (v := .tuple #[FV 10 (bs op) body digits last 1 related (bs block), .bool true]) (by simp [results, Tryz.results67, go_sem]) rfl ⟨rfl, by repeat (first | refine Below.setCell ?_ (by simp <;> omega) _ | refine Below.alloc ?_ (by simp <;> omega) _ | exact Below.refl _ _)⟩
  ·
   rw [show Fm.labeled ⟨st, op, body, digits, last, 1, related, block⟩ c = (⟨st, op, body, digits, last, 1, related, block⟩, false) by simp [Fm.labeled, Fm.to, h61]]
   simp only [fv]
   have ec61 : (c == 61) = false := by simp only [beq_eq_false_iff_ne, ne_eq]; omega
   go_enter Tryz.func67, Tryz.ntmps67
   go_wp2_with (first | (go_at_call 65; refine (to_any _ _ _ _ _ _ _ _ _ _).mono ?_; rintro e w' ⟨rfl, rfl⟩) | (go_at_call 63; refine (room_any _ (op) _ _ _ _ _ _ _).mono ?_; rintro e w' ⟨rfl, rfl⟩) | (go_at_call 69; refine (isDg_any _ _).mono ?_; rintro e w' ⟨rfl, rfl⟩) | (go_at_call 61; refine (isNm_any _ _).mono ?_; rintro e w' ⟨rfl, rfl⟩) | (go_at_call 89; refine (isSc_any _ _).mono ?_; rintro e w' ⟨rfl, rfl⟩) | (go_at_call 93; refine (top_any _ (op) _ _ _ _ _ _ _ (by simp at *; omega)).mono ?_; rintro e w' ⟨rfl, rfl⟩))
   exact bodyPost_ret (v := .tuple #[FV st (bs op) body digits last 1 related (bs block), .bool false]) (by simp [results, Tryz.results67, go_sem]) rfl ⟨rfl, by repeat (first | refine Below.setCell ?_ (by simp <;> omega) _ | refine Below.alloc ?_ (by simp <;> omega) _ | exact Below.refl _ _)⟩
 by_cases h2 : purpose = 2
 ·subst h2
  rw [show Fm.labeled ⟨st, op, body, digits, last, 2, related, block⟩ c = Fm.unit ⟨st, op, body, digits, last, 2, related, block⟩ c by simp [Fm.labeled, Fm.to]]
  have hu := fun w => unit_any ⟨st, op, body, digits, last, 2, related, block⟩ c w
  generalize Fm.unit ⟨st, op, body, digits, last, 2, related, block⟩ c = r at *
  obtain ⟨⟨a1, a2, a3, a4, a5, a6, a7, a8⟩, b⟩ := r
  have HU : Hid (∀ w, _) := hu
  clear hu
  simp only [fv] at *
  go_enter Tryz.func67, Tryz.ntmps67
  go_wp2_with (first | (go_at_call 68; refine (HU.out _).mono ?_; rintro e w' ⟨rfl, hb⟩; obtain ⟨hc, hf⟩ := bcell hb; have hz : w.heap.size + 1 < w'.heap.size := by (have := hb.size; simp at this; omega)) | (go_at_call 65; refine (to_any _ _ _ _ _ _ _ _ _ _).mono ?_; rintro e w' ⟨rfl, rfl⟩) | (go_at_call 63; refine (room_any _ (op) _ _ _ _ _ _ _).mono ?_; rintro e w' ⟨rfl, rfl⟩) | (go_at_call 69; refine (isDg_any _ _).mono ?_; rintro e w' ⟨rfl, rfl⟩) | (go_at_call 61; refine (isNm_any _ _).mono ?_; rintro e w' ⟨rfl, rfl⟩) | (go_at_call 89; refine (isSc_any _ _).mono ?_; rintro e w' ⟨rfl, rfl⟩) | (go_at_call 93; refine (top_any _ (op) _ _ _ _ _ _ _ (by simp at *; omega)).mono ?_; rintro e w' ⟨rfl, rfl⟩))
  exact bodyPost_ret (v := .tuple #[FV a1 (bs a2) a3 a4 a5 a6 a7 (bs a8), .bool b]) (by simp [results, Tryz.results67, go_sem, hc, hf, hz]) rfl ⟨rfl, by repeat (first | refine Below.setCell ?_ (by simp <;> omega) _ | refine Below.trans ?_ (hb.mono (by simp <;> omega)) | refine Below.alloc ?_ (by simp <;> omega) _ | exact Below.refl _ _)⟩
 ·
  rw [show Fm.labeled ⟨st, op, body, digits, last, purpose, related, block⟩ c = (⟨st, op, body, digits, last, purpose, related, block⟩, false) by simp [Fm.labeled, Fm.to, h0, h1, h2]]
  simp only [fv]
  have ep0 : (purpose == 0) = false := by simp only [beq_eq_false_iff_ne, ne_eq]; omega
  have ep1 : (purpose == 1) = false := by simp only [beq_eq_false_iff_ne, ne_eq]; omega
  have ep2 : (purpose == 2) = false := by simp only [beq_eq_false_iff_ne, ne_eq]; omega
  go_enter Tryz.func67, Tryz.ntmps67
  go_wp2_with (first | (go_at_call 65; refine (to_any _ _ _ _ _ _ _ _ _ _).mono ?_; rintro e w' ⟨rfl, rfl⟩) | (go_at_call 63; refine (room_any _ (op) _ _ _ _ _ _ _).mono ?_; rintro e w' ⟨rfl, rfl⟩) | (go_at_call 69; refine (isDg_any _ _).mono ?_; rintro e w' ⟨rfl, rfl⟩) | (go_at_call 61; refine (isNm_any _ _).mono ?_; rintro e w' ⟨rfl, rfl⟩) | (go_at_call 89; refine (isSc_any _ _).mono ?_; rintro e w' ⟨rfl, rfl⟩) | (go_at_call 93; refine (top_any _ (op) _ _ _ _ _ _ _ (by simp at *; omega)).mono ?_; rintro e w' ⟨rfl, rfl⟩))
  exact bodyPost_ret (v := .tuple #[FV st (bs op) body digits last purpose related (bs block), .bool false]) (by simp [results, Tryz.results67, go_sem]) rfl ⟨rfl, by repeat (first | refine Below.setCell ?_ (by simp <;> omega) _ | refine Below.alloc ?_ (by simp <;> omega) _ | exact Below.refl _ _)⟩
set_option maxHeartbeats 2000000 in
theorem letters_any (f : Fm) (c : Int) (w : World) :
  Calls Tryz.prog 66 #[fv f, .int .i64 c] w fun e w' => e = .returned (.tuple #[fv (f.letters c).1, .bool (f.letters c).2]) ∧ Below w.heap.size w w' := by
 obtain ⟨st, op, body, digits, last, purpose, related, block⟩ := f
 by_cases h7 : st = 7
 ·subst h7
  by_cases h45 : c = 45
  ·subst h45
   rw [show Fm.letters ⟨7, op, body, digits, last, purpose, related, block⟩ 45 = (⟨9, op, body, digits, last, purpose, related, block⟩, true) by simp [Fm.letters, Fm.to]]
   simp only [fv]
   go_enter Tryz.func66, Tryz.ntmps66
   go_wp2_with (first | (go_at_call 65; refine (to_any _ _ _ _ _ _ _ _ _ _).mono ?_; rintro e w' ⟨rfl, rfl⟩) | (go_at_call 63; refine (room_any _ (op) _ _ _ _ _ _ _).mono ?_; rintro e w' ⟨rfl, rfl⟩) | (go_at_call 69; refine (isDg_any _ _).mono ?_; rintro e w' ⟨rfl, rfl⟩) | (go_at_call 61; refine (isNm_any _ _).mono ?_; rintro e w' ⟨rfl, rfl⟩) | (go_at_call 89; refine (isSc_any _ _).mono ?_; rintro e w' ⟨rfl, rfl⟩) | (go_at_call 93; refine (top_any _ (op) _ _ _ _ _ _ _ (by simp at *; omega)).mono ?_; rintro e w' ⟨rfl, rfl⟩))
   exact bodyPost_ret (v := .tuple #[FV 9 (bs op) body digits last purpose related (bs block), .bool true]) (by simp [results, Tryz.results66, go_sem]) rfl ⟨rfl, by repeat (first | refine Below.setCell ?_ (by simp <;> omega) _ | refine Below.alloc ?_ (by simp <;> omega) _ | exact Below.refl _ _)⟩
  cases hs : isSc c
  case false =>
   rw [show Fm.letters ⟨7, op, body, digits, last, purpose, related, block⟩ c = (⟨7, op, body, digits, last, purpose, related, block⟩, false) by simp [Fm.letters, Fm.to, h45, hs]]
   simp only [fv]
   have ec45 : (c == 45) = false := by simp only [beq_eq_false_iff_ne, ne_eq]; omega
   go_enter Tryz.func66, Tryz.ntmps66
   go_wp2_with (first | (go_at_call 65; refine (to_any _ _ _ _ _ _ _ _ _ _).mono ?_; rintro e w' ⟨rfl, rfl⟩) | (go_at_call 63; refine (room_any _ (op) _ _ _ _ _ _ _).mono ?_; rintro e w' ⟨rfl, rfl⟩) | (go_at_call 69; refine (isDg_any _ _).mono ?_; rintro e w' ⟨rfl, rfl⟩) | (go_at_call 61; refine (isNm_any _ _).mono ?_; rintro e w' ⟨rfl, rfl⟩) | (go_at_call 89; refine (isSc_any _ _).mono ?_; rintro e w' ⟨rfl, rfl⟩) | (go_at_call 93; refine (top_any _ (op) _ _ _ _ _ _ _ (by simp at *; omega)).mono ?_; rintro e w' ⟨rfl, rfl⟩))
   exact bodyPost_ret (v := .tuple #[FV 7 (bs op) body digits last purpose related (bs block), .bool false]) (by simp [results, Tryz.results66, go_sem]) rfl ⟨rfl, by repeat (first | refine Below.setCell ?_ (by simp <;> omega) _ | refine Below.alloc ?_ (by simp <;> omega) _ | exact Below.refl _ _)⟩
  case true =>
   rw [show Fm.letters ⟨7, op, body, digits, last, purpose, related, block⟩ c = (⟨8, op, body, digits, c, purpose, related, block⟩, true) by simp [Fm.letters, Fm.to, h45, hs]]
   simp only [fv]
   have ec45 : (c == 45) = false := by simp only [beq_eq_false_iff_ne, ne_eq]; omega
   go_enter Tryz.func66, Tryz.ntmps66
   go_wp2_with (first | (go_at_call 65; refine (to_any _ _ _ _ _ _ _ _ _ _).mono ?_; rintro e w' ⟨rfl, rfl⟩) | (go_at_call 63; refine (room_any _ (op) _ _ _ _ _ _ _).mono ?_; rintro e w' ⟨rfl, rfl⟩) | (go_at_call 69; refine (isDg_any _ _).mono ?_; rintro e w' ⟨rfl, rfl⟩) | (go_at_call 61; refine (isNm_any _ _).mono ?_; rintro e w' ⟨rfl, rfl⟩) | (go_at_call 89; refine (isSc_any _ _).mono ?_; rintro e w' ⟨rfl, rfl⟩) | (go_at_call 93; refine (top_any _ (op) _ _ _ _ _ _ _ (by simp at *; omega)).mono ?_; rintro e w' ⟨rfl, rfl⟩))
   exact bodyPost_ret (v := .tuple #[FV 8 (bs op) body digits c purpose related (bs block), .bool true]) (by simp [results, Tryz.results66, go_sem]) rfl ⟨rfl, by repeat (first | refine Below.setCell ?_ (by simp <;> omega) _ | refine Below.alloc ?_ (by simp <;> omega) _ | exact Below.refl _ _)⟩
 cases hs : isSc c
 case false =>
  by_cases h8 : st = 8
  ·subst h8
   rw [show Fm.letters ⟨8, op, body, digits, last, purpose, related, block⟩ c = Fm.labeled ⟨8, op, body, digits, last, purpose, related, block⟩ c by simp [Fm.letters, Fm.to, hs]]
   have hu := fun w => labeled_any ⟨8, op, body, digits, last, purpose, related, block⟩ c w
   generalize Fm.labeled ⟨8, op, body, digits, last, purpose, related, block⟩ c = r at *
   obtain ⟨⟨a1, a2, a3, a4, a5, a6, a7, a8⟩, b⟩ := r
   have HU : Hid (∀ w, _) := hu
   clear hu
   simp only [fv] at *
   go_enter Tryz.func66, Tryz.ntmps66
   go_wp2_with (first | (go_at_call 67; refine (HU.out _).mono ?_; rintro e w' ⟨rfl, hb⟩; obtain ⟨hc, hf⟩ := bcell hb; have hz : w.heap.size + 1 < w'.heap.size := by (have := hb.size; simp at this; omega)) | (go_at_call 65; refine (to_any _ _ _ _ _ _ _ _ _ _).mono ?_; rintro e w' ⟨rfl, rfl⟩) | (go_at_call 63; refine (room_any _ (op) _ _ _ _ _ _ _).mono ?_; rintro e w' ⟨rfl, rfl⟩) | (go_at_call 69; refine (isDg_any _ _).mono ?_; rintro e w' ⟨rfl, rfl⟩) | (go_at_call 61; refine (isNm_any _ _).mono ?_; rintro e w' ⟨rfl, rfl⟩) | (go_at_call 89; refine (isSc_any _ _).mono ?_; rintro e w' ⟨rfl, rfl⟩) | (go_at_call 93; refine (top_any _ (op) _ _ _ _ _ _ _ (by simp at *; omega)).mono ?_; rintro e w' ⟨rfl, rfl⟩))
   exact bodyPost_ret (v := .tuple #[FV a1 (bs a2) a3 a4 a5 a6 a7 (bs a8), .bool b]) (by simp [results, Tryz.results66, go_sem, hc, hf, hz]) rfl ⟨rfl, by repeat (first | refine Below.setCell ?_ (by simp <;> omega) _ | refine Below.trans ?_ (hb.mono (by simp <;> omega)) | refine Below.alloc ?_ (by simp <;> omega) _ | exact Below.refl _ _)⟩
  ·
   rw [show Fm.letters ⟨st, op, body, digits, last, purpose, related, block⟩ c = (⟨st, op, body, digits, last, purpose, related, block⟩, false) by simp [Fm.letters, Fm.to, h7, hs, h8]]
   simp only [fv]
   have es7 : (st == 7) = false := by simp only [beq_eq_false_iff_ne, ne_eq]; omega
   have es8 : (st == 8) = false := by simp only [beq_eq_false_iff_ne, ne_eq]; omega
   go_enter Tryz.func66, Tryz.ntmps66
   go_wp2_with (first | (go_at_call 65; refine (to_any _ _ _ _ _ _ _ _ _ _).mono ?_; rintro e w' ⟨rfl, rfl⟩) | (go_at_call 63; refine (room_any _ (op) _ _ _ _ _ _ _).mono ?_; rintro e w' ⟨rfl, rfl⟩) | (go_at_call 69; refine (isDg_any _ _).mono ?_; rintro e w' ⟨rfl, rfl⟩) | (go_at_call 61; refine (isNm_any _ _).mono ?_; rintro e w' ⟨rfl, rfl⟩) | (go_at_call 89; refine (isSc_any _ _).mono ?_; rintro e w' ⟨rfl, rfl⟩) | (go_at_call 93; refine (top_any _ (op) _ _ _ _ _ _ _ (by simp at *; omega)).mono ?_; rintro e w' ⟨rfl, rfl⟩))
   exact bodyPost_ret (v := .tuple #[FV st (bs op) body digits last purpose related (bs block), .bool false]) (by simp [results, Tryz.results66, go_sem]) rfl ⟨rfl, by repeat (first | refine Below.setCell ?_ (by simp <;> omega) _ | refine Below.alloc ?_ (by simp <;> omega) _ | exact Below.refl _ _)⟩
 case true =>
  by_cases hl : last < c
  ·
   rw [show Fm.letters ⟨st, op, body, digits, last, purpose, related, block⟩ c = (⟨8, op, body, digits, c, purpose, related, block⟩, true) by simp [Fm.letters, Fm.to, h7, hs, hl]]
   simp only [fv]
   have es7 : (st == 7) = false := by simp only [beq_eq_false_iff_ne, ne_eq]; omega
   go_enter Tryz.func66, Tryz.ntmps66
   go_wp2_with (first | (go_at_call 65; refine (to_any _ _ _ _ _ _ _ _ _ _).mono ?_; rintro e w' ⟨rfl, rfl⟩) | (go_at_call 63; refine (room_any _ (op) _ _ _ _ _ _ _).mono ?_; rintro e w' ⟨rfl, rfl⟩) | (go_at_call 69; refine (isDg_any _ _).mono ?_; rintro e w' ⟨rfl, rfl⟩) | (go_at_call 61; refine (isNm_any _ _).mono ?_; rintro e w' ⟨rfl, rfl⟩) | (go_at_call 89; refine (isSc_any _ _).mono ?_; rintro e w' ⟨rfl, rfl⟩) | (go_at_call 93; refine (top_any _ (op) _ _ _ _ _ _ _ (by simp at *; omega)).mono ?_; rintro e w' ⟨rfl, rfl⟩))
   exact bodyPost_ret (v := .tuple #[FV 8 (bs op) body digits c purpose related (bs block), .bool true]) (by simp [results, Tryz.results66, go_sem]) rfl ⟨rfl, by repeat (first | refine Below.setCell ?_ (by simp <;> omega) _ | refine Below.alloc ?_ (by simp <;> omega) _ | exact Below.refl _ _)⟩
  by_cases h8 : st = 8
  ·subst h8
   rw [show Fm.letters ⟨8, op, body, digits, last, purpose, related, block⟩ c = Fm.labeled ⟨8, op, body, digits, last, purpose, related, block⟩ c by simp [Fm.letters, Fm.to, hs, hl]]
   have hu := fun w => labeled_any ⟨8, op, body, digits, last, purpose, related, block⟩ c w
   generalize Fm.labeled ⟨8, op, body, digits, last, purpose, related, block⟩ c = r at *
   obtain ⟨⟨a1, a2, a3, a4, a5, a6, a7, a8⟩, b⟩ := r
   have HU : Hid (∀ w, _) := hu
   clear hu
   simp only [fv] at *
   go_enter Tryz.func66, Tryz.ntmps66
   go_wp2_with (first | (go_at_call 67; refine (HU.out _).mono ?_; rintro e w' ⟨rfl, hb⟩; obtain ⟨hc, hf⟩ := bcell hb; have hz : w.heap.size + 1 < w'.heap.size := by (have := hb.size; simp at this; omega)) | (go_at_call 65; refine (to_any _ _ _ _ _ _ _ _ _ _).mono ?_; rintro e w' ⟨rfl, rfl⟩) | (go_at_call 63; refine (room_any _ (op) _ _ _ _ _ _ _).mono ?_; rintro e w' ⟨rfl, rfl⟩) | (go_at_call 69; refine (isDg_any _ _).mono ?_; rintro e w' ⟨rfl, rfl⟩) | (go_at_call 61; refine (isNm_any _ _).mono ?_; rintro e w' ⟨rfl, rfl⟩) | (go_at_call 89; refine (isSc_any _ _).mono ?_; rintro e w' ⟨rfl, rfl⟩) | (go_at_call 93; refine (top_any _ (op) _ _ _ _ _ _ _ (by simp at *; omega)).mono ?_; rintro e w' ⟨rfl, rfl⟩))
   exact bodyPost_ret (v := .tuple #[FV a1 (bs a2) a3 a4 a5 a6 a7 (bs a8), .bool b]) (by simp [results, Tryz.results66, go_sem, hc, hf, hz]) rfl ⟨rfl, by repeat (first | refine Below.setCell ?_ (by simp <;> omega) _ | refine Below.trans ?_ (hb.mono (by simp <;> omega)) | refine Below.alloc ?_ (by simp <;> omega) _ | exact Below.refl _ _)⟩
  ·
   rw [show Fm.letters ⟨st, op, body, digits, last, purpose, related, block⟩ c = (⟨st, op, body, digits, last, purpose, related, block⟩, false) by simp [Fm.letters, Fm.to, h7, hs, h8, hl]]
   simp only [fv]
   have es7 : (st == 7) = false := by simp only [beq_eq_false_iff_ne, ne_eq]; omega
   have es8 : (st == 8) = false := by simp only [beq_eq_false_iff_ne, ne_eq]; omega
   go_enter Tryz.func66, Tryz.ntmps66
   go_wp2_with (first | (go_at_call 65; refine (to_any _ _ _ _ _ _ _ _ _ _).mono ?_; rintro e w' ⟨rfl, rfl⟩) | (go_at_call 63; refine (room_any _ (op) _ _ _ _ _ _ _).mono ?_; rintro e w' ⟨rfl, rfl⟩) | (go_at_call 69; refine (isDg_any _ _).mono ?_; rintro e w' ⟨rfl, rfl⟩) | (go_at_call 61; refine (isNm_any _ _).mono ?_; rintro e w' ⟨rfl, rfl⟩) | (go_at_call 89; refine (isSc_any _ _).mono ?_; rintro e w' ⟨rfl, rfl⟩) | (go_at_call 93; refine (top_any _ (op) _ _ _ _ _ _ _ (by simp at *; omega)).mono ?_; rintro e w' ⟨rfl, rfl⟩))
   exact bodyPost_ret (v := .tuple #[FV st (bs op) body digits last purpose related (bs block), .bool false]) (by simp [results, Tryz.results66, go_sem]) rfl ⟨rfl, by repeat (first | refine Below.setCell ?_ (by simp <;> omega) _ | refine Below.alloc ?_ (by simp <;> omega) _ | exact Below.refl _ _)⟩
set_option maxHeartbeats 2000000 in
theorem fixed_any (f : Fm) (c : Int) (w : World) (hbl : f.block.length ≤ 1) (h : f.op.length ≤ 1000) :
  Calls Tryz.prog 71 #[fv f, .int .i64 c] w fun e w' => e = .returned (.tuple #[fv (f.fixed c).1, .bool (f.fixed c).2]) ∧ Below w.heap.size w w' := by
 obtain ⟨st, op, body, digits, last, purpose, related, block⟩ := f
 simp only at h hbl
 by_cases h2 : st = 2
 ·subst h2
  by_cases h61 : c = 61
  ·subst h61
   rw [show Fm.fixed ⟨2, op, body, digits, last, purpose, related, block⟩ 61 = (⟨10, op, body, digits, last, purpose, related, block⟩, true) by simp [Fm.fixed, Fm.to]]
   simp only [fv]
   go_enter Tryz.func71, Tryz.ntmps71
   go_wp2_with (first | (go_at_call 65; refine (to_any _ _ _ _ _ _ _ _ _ _).mono ?_; rintro e w' ⟨rfl, rfl⟩) | (go_at_call 63; refine (room_any _ (op) _ _ _ _ _ _ _).mono ?_; rintro e w' ⟨rfl, rfl⟩) | (go_at_call 69; refine (isDg_any _ _).mono ?_; rintro e w' ⟨rfl, rfl⟩) | (go_at_call 61; refine (isNm_any _ _).mono ?_; rintro e w' ⟨rfl, rfl⟩) | (go_at_call 89; refine (isSc_any _ _).mono ?_; rintro e w' ⟨rfl, rfl⟩) | (go_at_call 93; refine (top_any _ (op) _ _ _ _ _ _ _ (by simp at *; omega)).mono ?_; rintro e w' ⟨rfl, rfl⟩))
   exact bodyPost_ret (v := .tuple #[FV 10 (bs op) body digits last purpose related (bs block), .bool true]) (by simp [results, Tryz.results71, go_sem]) rfl ⟨rfl, by repeat (first | refine Below.setCell ?_ (by simp <;> omega) _ | refine Below.alloc ?_ (by simp <;> omega) _ | exact Below.refl _ _)⟩
  ·
   rw [show Fm.fixed ⟨2, op, body, digits, last, purpose, related, block⟩ c = (⟨2, op, body, digits, last, purpose, related, block⟩, false) by simp [Fm.fixed, Fm.to, h61]]
   simp only [fv]
   have ec61 : (c == 61) = false := by simp only [beq_eq_false_iff_ne, ne_eq]; omega
   go_enter Tryz.func71, Tryz.ntmps71
   go_wp2_with (first | (go_at_call 65; refine (to_any _ _ _ _ _ _ _ _ _ _).mono ?_; rintro e w' ⟨rfl, rfl⟩) | (go_at_call 63; refine (room_any _ (op) _ _ _ _ _ _ _).mono ?_; rintro e w' ⟨rfl, rfl⟩) | (go_at_call 69; refine (isDg_any _ _).mono ?_; rintro e w' ⟨rfl, rfl⟩) | (go_at_call 61; refine (isNm_any _ _).mono ?_; rintro e w' ⟨rfl, rfl⟩) | (go_at_call 89; refine (isSc_any _ _).mono ?_; rintro e w' ⟨rfl, rfl⟩) | (go_at_call 93; refine (top_any _ (op) _ _ _ _ _ _ _ (by simp at *; omega)).mono ?_; rintro e w' ⟨rfl, rfl⟩))
   exact bodyPost_ret (v := .tuple #[FV 2 (bs op) body digits last purpose related (bs block), .bool false]) (by simp [results, Tryz.results71, go_sem]) rfl ⟨rfl, by repeat (first | refine Below.setCell ?_ (by simp <;> omega) _ | refine Below.alloc ?_ (by simp <;> omega) _ | exact Below.refl _ _)⟩
 by_cases h3 : st = 3
 ·subst h3
  cases hn : isNm c
  case false =>
   rw [show Fm.fixed ⟨3, op, body, digits, last, purpose, related, block⟩ c = (⟨3, op, body, digits, last, purpose, related, block⟩, false) by simp [Fm.fixed, Fm.to, hn]]
   simp only [fv]
   go_enter Tryz.func71, Tryz.ntmps71
   go_wp2_with (first | (go_at_call 65; refine (to_any _ _ _ _ _ _ _ _ _ _).mono ?_; rintro e w' ⟨rfl, rfl⟩) | (go_at_call 63; refine (room_any _ (op) _ _ _ _ _ _ _).mono ?_; rintro e w' ⟨rfl, rfl⟩) | (go_at_call 69; refine (isDg_any _ _).mono ?_; rintro e w' ⟨rfl, rfl⟩) | (go_at_call 61; refine (isNm_any _ _).mono ?_; rintro e w' ⟨rfl, rfl⟩) | (go_at_call 89; refine (isSc_any _ _).mono ?_; rintro e w' ⟨rfl, rfl⟩) | (go_at_call 93; refine (top_any _ (op) _ _ _ _ _ _ _ (by simp at *; omega)).mono ?_; rintro e w' ⟨rfl, rfl⟩))
   exact bodyPost_ret (v := .tuple #[FV 3 (bs op) body digits last purpose related (bs block), .bool false]) (by simp [results, Tryz.results71, go_sem]) rfl ⟨rfl, by repeat (first | refine Below.setCell ?_ (by simp <;> omega) _ | refine Below.alloc ?_ (by simp <;> omega) _ | exact Below.refl _ _)⟩
  case true =>
   rw [show Fm.fixed ⟨3, op, body, digits, last, purpose, related, block⟩ c = (⟨4, op, body, digits, last, purpose, related, block⟩, true) by simp [Fm.fixed, Fm.to, hn]]
   simp only [fv]
   go_enter Tryz.func71, Tryz.ntmps71
   go_wp2_with (first | (go_at_call 65; refine (to_any _ _ _ _ _ _ _ _ _ _).mono ?_; rintro e w' ⟨rfl, rfl⟩) | (go_at_call 63; refine (room_any _ (op) _ _ _ _ _ _ _).mono ?_; rintro e w' ⟨rfl, rfl⟩) | (go_at_call 69; refine (isDg_any _ _).mono ?_; rintro e w' ⟨rfl, rfl⟩) | (go_at_call 61; refine (isNm_any _ _).mono ?_; rintro e w' ⟨rfl, rfl⟩) | (go_at_call 89; refine (isSc_any _ _).mono ?_; rintro e w' ⟨rfl, rfl⟩) | (go_at_call 93; refine (top_any _ (op) _ _ _ _ _ _ _ (by simp at *; omega)).mono ?_; rintro e w' ⟨rfl, rfl⟩))
   exact bodyPost_ret (v := .tuple #[FV 4 (bs op) body digits last purpose related (bs block), .bool true]) (by simp [results, Tryz.results71, go_sem]) rfl ⟨rfl, by repeat (first | refine Below.setCell ?_ (by simp <;> omega) _ | refine Below.alloc ?_ (by simp <;> omega) _ | exact Below.refl _ _)⟩
 by_cases h5 : st = 5
 ·subst h5
  cases hn : isNm c
  case false =>
   rw [show Fm.fixed ⟨5, op, body, digits, last, purpose, related, block⟩ c = (⟨5, op, body, digits, last, purpose, related, block⟩, false) by simp [Fm.fixed, Fm.to, hn]]
   simp only [fv]
   go_enter Tryz.func71, Tryz.ntmps71
   go_wp2_with (first | (go_at_call 65; refine (to_any _ _ _ _ _ _ _ _ _ _).mono ?_; rintro e w' ⟨rfl, rfl⟩) | (go_at_call 63; refine (room_any _ (op) _ _ _ _ _ _ _).mono ?_; rintro e w' ⟨rfl, rfl⟩) | (go_at_call 69; refine (isDg_any _ _).mono ?_; rintro e w' ⟨rfl, rfl⟩) | (go_at_call 61; refine (isNm_any _ _).mono ?_; rintro e w' ⟨rfl, rfl⟩) | (go_at_call 89; refine (isSc_any _ _).mono ?_; rintro e w' ⟨rfl, rfl⟩) | (go_at_call 93; refine (top_any _ (op) _ _ _ _ _ _ _ (by simp at *; omega)).mono ?_; rintro e w' ⟨rfl, rfl⟩))
   exact bodyPost_ret (v := .tuple #[FV 5 (bs op) body digits last purpose related (bs block), .bool false]) (by simp [results, Tryz.results71, go_sem]) rfl ⟨rfl, by repeat (first | refine Below.setCell ?_ (by simp <;> omega) _ | refine Below.alloc ?_ (by simp <;> omega) _ | exact Below.refl _ _)⟩
  case true =>
   rw [show Fm.fixed ⟨5, op, body, digits, last, purpose, related, block⟩ c = (⟨6, op, body, digits, last, purpose, related, block⟩, true) by simp [Fm.fixed, Fm.to, hn]]
   simp only [fv]
   go_enter Tryz.func71, Tryz.ntmps71
   go_wp2_with (first | (go_at_call 65; refine (to_any _ _ _ _ _ _ _ _ _ _).mono ?_; rintro e w' ⟨rfl, rfl⟩) | (go_at_call 63; refine (room_any _ (op) _ _ _ _ _ _ _).mono ?_; rintro e w' ⟨rfl, rfl⟩) | (go_at_call 69; refine (isDg_any _ _).mono ?_; rintro e w' ⟨rfl, rfl⟩) | (go_at_call 61; refine (isNm_any _ _).mono ?_; rintro e w' ⟨rfl, rfl⟩) | (go_at_call 89; refine (isSc_any _ _).mono ?_; rintro e w' ⟨rfl, rfl⟩) | (go_at_call 93; refine (top_any _ (op) _ _ _ _ _ _ _ (by simp at *; omega)).mono ?_; rintro e w' ⟨rfl, rfl⟩))
   exact bodyPost_ret (v := .tuple #[FV 6 (bs op) body digits last purpose related (bs block), .bool true]) (by simp [results, Tryz.results71, go_sem]) rfl ⟨rfl, by repeat (first | refine Below.setCell ?_ (by simp <;> omega) _ | refine Below.alloc ?_ (by simp <;> omega) _ | exact Below.refl _ _)⟩
 by_cases h4 : st = 4
 ·subst h4
  by_cases h58 : c = 58
  ·subst h58
   rw [show Fm.fixed ⟨4, op, body, digits, last, purpose, related, block⟩ 58 = (⟨7, op, body, digits, last, 1, related, block⟩, true) by simp [Fm.fixed, Fm.to]]
   simp only [fv]
   go_enter Tryz.func71, Tryz.ntmps71
   go_wp2_with (first | (go_at_call 65; refine (to_any _ _ _ _ _ _ _ _ _ _).mono ?_; rintro e w' ⟨rfl, rfl⟩) | (go_at_call 63; refine (room_any _ (op) _ _ _ _ _ _ _).mono ?_; rintro e w' ⟨rfl, rfl⟩) | (go_at_call 69; refine (isDg_any _ _).mono ?_; rintro e w' ⟨rfl, rfl⟩) | (go_at_call 61; refine (isNm_any _ _).mono ?_; rintro e w' ⟨rfl, rfl⟩) | (go_at_call 89; refine (isSc_any _ _).mono ?_; rintro e w' ⟨rfl, rfl⟩) | (go_at_call 93; refine (top_any _ (op) _ _ _ _ _ _ _ (by simp at *; omega)).mono ?_; rintro e w' ⟨rfl, rfl⟩))
   exact bodyPost_ret (v := .tuple #[FV 7 (bs op) body digits last 1 related (bs block), .bool true]) (by simp [results, Tryz.results71, go_sem]) rfl ⟨rfl, by repeat (first | refine Below.setCell ?_ (by simp <;> omega) _ | refine Below.alloc ?_ (by simp <;> omega) _ | exact Below.refl _ _)⟩
  ·
   rw [show Fm.fixed ⟨4, op, body, digits, last, purpose, related, block⟩ c = (⟨4, op, body, digits, last, purpose, related, block⟩, false) by simp [Fm.fixed, Fm.to, h58]]
   simp only [fv]
   have ec58 : (c == 58) = false := by simp only [beq_eq_false_iff_ne, ne_eq]; omega
   go_enter Tryz.func71, Tryz.ntmps71
   go_wp2_with (first | (go_at_call 65; refine (to_any _ _ _ _ _ _ _ _ _ _).mono ?_; rintro e w' ⟨rfl, rfl⟩) | (go_at_call 63; refine (room_any _ (op) _ _ _ _ _ _ _).mono ?_; rintro e w' ⟨rfl, rfl⟩) | (go_at_call 69; refine (isDg_any _ _).mono ?_; rintro e w' ⟨rfl, rfl⟩) | (go_at_call 61; refine (isNm_any _ _).mono ?_; rintro e w' ⟨rfl, rfl⟩) | (go_at_call 89; refine (isSc_any _ _).mono ?_; rintro e w' ⟨rfl, rfl⟩) | (go_at_call 93; refine (top_any _ (op) _ _ _ _ _ _ _ (by simp at *; omega)).mono ?_; rintro e w' ⟨rfl, rfl⟩))
   exact bodyPost_ret (v := .tuple #[FV 4 (bs op) body digits last purpose related (bs block), .bool false]) (by simp [results, Tryz.results71, go_sem]) rfl ⟨rfl, by repeat (first | refine Below.setCell ?_ (by simp <;> omega) _ | refine Below.alloc ?_ (by simp <;> omega) _ | exact Below.refl _ _)⟩
 by_cases h6 : st = 6
 ·subst h6
  by_cases h58 : c = 58
  ·subst h58
   rw [show Fm.fixed ⟨6, op, body, digits, last, purpose, related, block⟩ 58 = (⟨7, op, body, digits, last, 0, related, block⟩, true) by simp [Fm.fixed, Fm.to]]
   simp only [fv]
   go_enter Tryz.func71, Tryz.ntmps71
   go_wp2_with (first | (go_at_call 65; refine (to_any _ _ _ _ _ _ _ _ _ _).mono ?_; rintro e w' ⟨rfl, rfl⟩) | (go_at_call 63; refine (room_any _ (op) _ _ _ _ _ _ _).mono ?_; rintro e w' ⟨rfl, rfl⟩) | (go_at_call 69; refine (isDg_any _ _).mono ?_; rintro e w' ⟨rfl, rfl⟩) | (go_at_call 61; refine (isNm_any _ _).mono ?_; rintro e w' ⟨rfl, rfl⟩) | (go_at_call 89; refine (isSc_any _ _).mono ?_; rintro e w' ⟨rfl, rfl⟩) | (go_at_call 93; refine (top_any _ (op) _ _ _ _ _ _ _ (by simp at *; omega)).mono ?_; rintro e w' ⟨rfl, rfl⟩))
   exact bodyPost_ret (v := .tuple #[FV 7 (bs op) body digits last 0 related (bs block), .bool true]) (by simp [results, Tryz.results71, go_sem]) rfl ⟨rfl, by repeat (first | refine Below.setCell ?_ (by simp <;> omega) _ | refine Below.alloc ?_ (by simp <;> omega) _ | exact Below.refl _ _)⟩
  ·
   rw [show Fm.fixed ⟨6, op, body, digits, last, purpose, related, block⟩ c = (⟨6, op, body, digits, last, purpose, related, block⟩, false) by simp [Fm.fixed, Fm.to, h58]]
   simp only [fv]
   have ec58 : (c == 58) = false := by simp only [beq_eq_false_iff_ne, ne_eq]; omega
   go_enter Tryz.func71, Tryz.ntmps71
   go_wp2_with (first | (go_at_call 65; refine (to_any _ _ _ _ _ _ _ _ _ _).mono ?_; rintro e w' ⟨rfl, rfl⟩) | (go_at_call 63; refine (room_any _ (op) _ _ _ _ _ _ _).mono ?_; rintro e w' ⟨rfl, rfl⟩) | (go_at_call 69; refine (isDg_any _ _).mono ?_; rintro e w' ⟨rfl, rfl⟩) | (go_at_call 61; refine (isNm_any _ _).mono ?_; rintro e w' ⟨rfl, rfl⟩) | (go_at_call 89; refine (isSc_any _ _).mono ?_; rintro e w' ⟨rfl, rfl⟩) | (go_at_call 93; refine (top_any _ (op) _ _ _ _ _ _ _ (by simp at *; omega)).mono ?_; rintro e w' ⟨rfl, rfl⟩))
   exact bodyPost_ret (v := .tuple #[FV 6 (bs op) body digits last purpose related (bs block), .bool false]) (by simp [results, Tryz.results71, go_sem]) rfl ⟨rfl, by repeat (first | refine Below.setCell ?_ (by simp <;> omega) _ | refine Below.alloc ?_ (by simp <;> omega) _ | exact Below.refl _ _)⟩
 by_cases h13 : st = 13
 ·subst h13
  cases hd : isDg c
  case false =>
   rw [show Fm.fixed ⟨13, op, body, digits, last, purpose, related, block⟩ c = (⟨13, op, body, digits, last, purpose, related, block⟩, false) by simp [Fm.fixed, Fm.to, hd]]
   simp only [fv]
   go_enter Tryz.func71, Tryz.ntmps71
   go_wp2_with (first | (go_at_call 65; refine (to_any _ _ _ _ _ _ _ _ _ _).mono ?_; rintro e w' ⟨rfl, rfl⟩) | (go_at_call 63; refine (room_any _ (op) _ _ _ _ _ _ _).mono ?_; rintro e w' ⟨rfl, rfl⟩) | (go_at_call 69; refine (isDg_any _ _).mono ?_; rintro e w' ⟨rfl, rfl⟩) | (go_at_call 61; refine (isNm_any _ _).mono ?_; rintro e w' ⟨rfl, rfl⟩) | (go_at_call 89; refine (isSc_any _ _).mono ?_; rintro e w' ⟨rfl, rfl⟩) | (go_at_call 93; refine (top_any _ (op) _ _ _ _ _ _ _ (by simp at *; omega)).mono ?_; rintro e w' ⟨rfl, rfl⟩))
   exact bodyPost_ret (v := .tuple #[FV 13 (bs op) body digits last purpose related (bs block), .bool false]) (by simp [results, Tryz.results71, go_sem]) rfl ⟨rfl, by repeat (first | refine Below.setCell ?_ (by simp <;> omega) _ | refine Below.alloc ?_ (by simp <;> omega) _ | exact Below.refl _ _)⟩
  case true =>
  by_cases h48 : c = 48
  ·subst h48
   rw [show Fm.fixed ⟨13, op, body, digits, last, purpose, related, block⟩ 48 = (⟨13, op, body, digits, last, purpose, related, block⟩, false) by simp [Fm.fixed, Fm.to, hd]]
   simp only [fv]
   go_enter Tryz.func71, Tryz.ntmps71
   go_wp2_with (first | (go_at_call 65; refine (to_any _ _ _ _ _ _ _ _ _ _).mono ?_; rintro e w' ⟨rfl, rfl⟩) | (go_at_call 63; refine (room_any _ (op) _ _ _ _ _ _ _).mono ?_; rintro e w' ⟨rfl, rfl⟩) | (go_at_call 69; refine (isDg_any _ _).mono ?_; rintro e w' ⟨rfl, rfl⟩) | (go_at_call 61; refine (isNm_any _ _).mono ?_; rintro e w' ⟨rfl, rfl⟩) | (go_at_call 89; refine (isSc_any _ _).mono ?_; rintro e w' ⟨rfl, rfl⟩) | (go_at_call 93; refine (top_any _ (op) _ _ _ _ _ _ _ (by simp at *; omega)).mono ?_; rintro e w' ⟨rfl, rfl⟩))
   exact bodyPost_ret (v := .tuple #[FV 13 (bs op) body digits last purpose related (bs block), .bool false]) (by simp [results, Tryz.results71, go_sem]) rfl ⟨rfl, by repeat (first | refine Below.setCell ?_ (by simp <;> omega) _ | refine Below.alloc ?_ (by simp <;> omega) _ | exact Below.refl _ _)⟩
  ·
   rw [show Fm.fixed ⟨13, op, body, digits, last, purpose, related, block⟩ c = (⟨14, op, body, digits, last, purpose, related, [108]⟩, true) by simp [Fm.fixed, Fm.to, hd, h48]]
   simp only [fv]
   have ec48 : (c != 48) = true := by simp only [bne_iff_ne, ne_eq]; omega
   go_enter Tryz.func71, Tryz.ntmps71
   go_wp2_with (first | (go_at_call 65; refine (to_any _ _ _ _ _ _ _ _ _ _).mono ?_; rintro e w' ⟨rfl, rfl⟩) | (go_at_call 63; refine (room_any _ (op) _ _ _ _ _ _ _).mono ?_; rintro e w' ⟨rfl, rfl⟩) | (go_at_call 69; refine (isDg_any _ _).mono ?_; rintro e w' ⟨rfl, rfl⟩) | (go_at_call 61; refine (isNm_any _ _).mono ?_; rintro e w' ⟨rfl, rfl⟩) | (go_at_call 89; refine (isSc_any _ _).mono ?_; rintro e w' ⟨rfl, rfl⟩) | (go_at_call 93; refine (top_any _ (op) _ _ _ _ _ _ _ (by simp at *; omega)).mono ?_; rintro e w' ⟨rfl, rfl⟩))
   exact bodyPost_ret (v := .tuple #[FV 14 (bs op) body digits last purpose related (⟨#[108]⟩), .bool true]) (by simp [results, Tryz.results71, go_sem]) rfl ⟨by rfl, by repeat (first | refine Below.setCell ?_ (by simp <;> omega) _ | refine Below.alloc ?_ (by simp <;> omega) _ | exact Below.refl _ _)⟩
 by_cases h14 : st = 14
 ·subst h14
  by_cases h123 : c = 123
  ·subst h123
   rw [show Fm.fixed ⟨14, op, body, digits, last, purpose, related, block⟩ 123 = (⟨0, block ++ op, body, digits, last, purpose, related, block⟩, true) by simp [Fm.fixed, Fm.to]]
   simp only [fv]
   go_enter Tryz.func71, Tryz.ntmps71
   go_wp2_with (first | (go_at_call 65; refine (to_any _ _ _ _ _ _ _ _ _ _).mono ?_; rintro e w' ⟨rfl, rfl⟩) | (go_at_call 63; refine (room_any _ (op) _ _ _ _ _ _ _).mono ?_; rintro e w' ⟨rfl, rfl⟩) | (go_at_call 69; refine (isDg_any _ _).mono ?_; rintro e w' ⟨rfl, rfl⟩) | (go_at_call 61; refine (isNm_any _ _).mono ?_; rintro e w' ⟨rfl, rfl⟩) | (go_at_call 89; refine (isSc_any _ _).mono ?_; rintro e w' ⟨rfl, rfl⟩) | (go_at_call 93; refine (top_any _ (op) _ _ _ _ _ _ _ (by simp at *; omega)).mono ?_; rintro e w' ⟨rfl, rfl⟩))
   exact bodyPost_ret (v := .tuple #[FV 0 (bs op ++ bs block) body digits last purpose related (bs block), .bool true]) (by simp [results, Tryz.results71, go_sem]) rfl ⟨by rw [bs_append], by repeat (first | refine Below.setCell ?_ (by simp <;> omega) _ | refine Below.alloc ?_ (by simp <;> omega) _ | exact Below.refl _ _)⟩
  ·
   rw [show Fm.fixed ⟨14, op, body, digits, last, purpose, related, block⟩ c = (⟨14, op, body, digits, last, purpose, related, block⟩, false) by simp [Fm.fixed, Fm.to, h123]]
   simp only [fv]
   have ec123 : (c == 123) = false := by simp only [beq_eq_false_iff_ne, ne_eq]; omega
   go_enter Tryz.func71, Tryz.ntmps71
   go_wp2_with (first | (go_at_call 65; refine (to_any _ _ _ _ _ _ _ _ _ _).mono ?_; rintro e w' ⟨rfl, rfl⟩) | (go_at_call 63; refine (room_any _ (op) _ _ _ _ _ _ _).mono ?_; rintro e w' ⟨rfl, rfl⟩) | (go_at_call 69; refine (isDg_any _ _).mono ?_; rintro e w' ⟨rfl, rfl⟩) | (go_at_call 61; refine (isNm_any _ _).mono ?_; rintro e w' ⟨rfl, rfl⟩) | (go_at_call 89; refine (isSc_any _ _).mono ?_; rintro e w' ⟨rfl, rfl⟩) | (go_at_call 93; refine (top_any _ (op) _ _ _ _ _ _ _ (by simp at *; omega)).mono ?_; rintro e w' ⟨rfl, rfl⟩))
   exact bodyPost_ret (v := .tuple #[FV 14 (bs op) body digits last purpose related (bs block), .bool false]) (by simp [results, Tryz.results71, go_sem]) rfl ⟨rfl, by repeat (first | refine Below.setCell ?_ (by simp <;> omega) _ | refine Below.alloc ?_ (by simp <;> omega) _ | exact Below.refl _ _)⟩
 ·
  rw [show Fm.fixed ⟨st, op, body, digits, last, purpose, related, block⟩ c = (⟨st, op, body, digits, last, purpose, related, block⟩, false) by simp [Fm.fixed, Fm.to, h2, h3, h4, h5, h6, h13, h14]]
  simp only [fv]
  have es2 : (st == 2) = false := by simp only [beq_eq_false_iff_ne, ne_eq]; omega
  have es3 : (st == 3) = false := by simp only [beq_eq_false_iff_ne, ne_eq]; omega
  have es4 : (st == 4) = false := by simp only [beq_eq_false_iff_ne, ne_eq]; omega
  have es5 : (st == 5) = false := by simp only [beq_eq_false_iff_ne, ne_eq]; omega
  have es6 : (st == 6) = false := by simp only [beq_eq_false_iff_ne, ne_eq]; omega
  have es13 : (st == 13) = false := by simp only [beq_eq_false_iff_ne, ne_eq]; omega
  have es14 : (st == 14) = false := by simp only [beq_eq_false_iff_ne, ne_eq]; omega
  go_enter Tryz.func71, Tryz.ntmps71
  go_wp2_with (first | (go_at_call 65; refine (to_any _ _ _ _ _ _ _ _ _ _).mono ?_; rintro e w' ⟨rfl, rfl⟩) | (go_at_call 63; refine (room_any _ (op) _ _ _ _ _ _ _).mono ?_; rintro e w' ⟨rfl, rfl⟩) | (go_at_call 69; refine (isDg_any _ _).mono ?_; rintro e w' ⟨rfl, rfl⟩) | (go_at_call 61; refine (isNm_any _ _).mono ?_; rintro e w' ⟨rfl, rfl⟩) | (go_at_call 89; refine (isSc_any _ _).mono ?_; rintro e w' ⟨rfl, rfl⟩) | (go_at_call 93; refine (top_any _ (op) _ _ _ _ _ _ _ (by simp at *; omega)).mono ?_; rintro e w' ⟨rfl, rfl⟩))
  exact bodyPost_ret (v := .tuple #[FV st (bs op) body digits last purpose related (bs block), .bool false]) (by simp [results, Tryz.results71, go_sem]) rfl ⟨rfl, by repeat (first | refine Below.setCell ?_ (by simp <;> omega) _ | refine Below.alloc ?_ (by simp <;> omega) _ | exact Below.refl _ _)⟩
end Go.Proofs.YtdgmoiflahoihaaGreat
