import Derived.Test.YtdgmoiflahoihaaGreatDoorRows
import Derived.Test.YtdgmoiflahoihaaGreatDoorPlainw
import Derived.WalkKit
import Derived.WalkSpells
import Derived.WalkLawsBesides

namespace Go.Proofs.YtdgmoiflahoihaaGreatDoor
open Go.RowKit
set_option linter.unusedSimpArgs false
set_option linter.unusedVariables false
@[reducible] def bs (l : List UInt8) : ByteArray := ⟨l.reverse.toArray⟩
@[reducible] def FV (st : Int) (op : ByteArray) (body : Bool) (digits last purpose : Int) (related : Bool) (block : ByteArray) : Value := .agg #[.int .i64 st, .string op, .bool body, .int .i64 digits, .int .i64 last, .int .i64 purpose, .bool related, .string block]
@[reducible] def FO (st : Int) (op : ByteArray) (body : Bool) (digits last purpose : Int) (related : Bool) (block : ByteArray) : Obj := .cells #[.int .i64 st, .string op, .bool body, .int .i64 digits, .int .i64 last, .int .i64 purpose, .bool related, .string block] 178
def fv (f : Fm) : Value := FV f.st (bs f.op) f.body f.digits f.last f.purpose f.related (bs f.block)
theorem bs_push (l : List UInt8) (a : UInt8) : bs l ++ ⟨#[a]⟩ = bs (a :: l) := by
 apply ByteArray.ext
 simp [bs]
theorem bs_append (l k : List UInt8) : bs l ++ bs k = bs (k ++ l) := by
 apply ByteArray.ext
 simp [bs]
theorem bs_pop (l : List UInt8) (a : UInt8) : (bs (a :: l)).extract 0 l.length = bs l := by
 apply ByteArray.ext
 rw [ByteArray.data_extract]
 simp [bs]
theorem u8_ne {a b : UInt8} (h : a ≠ b) : ((a.toNat : Int) == (b.toNat : Int)) = false := by
 simp only [beq_eq_false_iff_ne, ne_eq]
 intro k
 exact h (UInt8.toNat_inj.mp (by omega))
set_option maxHeartbeats 400000 in
theorem isDg_any (c : Int) (w : World) :
  Calls Tryz.prog 145 #[.int .i64 c] w fun e w' => e = .returned (.bool (isDg c)) ∧ w' = w := by
 go_enter Tryz.func145, Tryz.ntmps145
 go_wp2
 all_goals go_ret
 all_goals (refine ⟨?_, rfl⟩; simp [isDg, *]; try omega)
set_option maxHeartbeats 400000 in
theorem isNm_any (c : Int) (w : World) :
  Calls Tryz.prog 115 #[.int .i64 c] w fun e w' => e = .returned (.bool (isNm c)) ∧ w' = w := by
 go_enter Tryz.func115, Tryz.ntmps115
 go_wp2
 all_goals go_ret
 all_goals (refine ⟨?_, rfl⟩; simp [isNm, *]; try omega)
set_option maxHeartbeats 400000 in
theorem isSc_any (c : Int) (w : World) :
  Calls Tryz.prog 149 #[.int .i64 c] w fun e w' => e = .returned (.bool (isSc c)) ∧ w' = w := by
 go_enter Tryz.func149, Tryz.ntmps149
 go_wp2
 all_goals go_ret
 all_goals (refine ⟨?_, rfl⟩; simp [isSc, *]; try omega)
set_option maxHeartbeats 400000 in
theorem top_nil (st : Int) (body : Bool) (digits last purpose : Int) (related : Bool) (block : ByteArray) (w : World) :
  Calls Tryz.prog 179 #[FV st (bs []) body digits last purpose related block] w fun e w' => e = .returned (.int .u8 0) ∧ w' = w.alloc (FO st (bs []) body digits last purpose related block) := by
 go_enter Tryz.func179, Tryz.ntmps179
 go_wp2
 go_ret
 exact ⟨rfl, rfl⟩
theorem at_last (a : UInt8) (l : List UInt8) (h : l.length < (bs (a :: l)).size) : (bs (a :: l))[l.length] = a := by
 show ((a :: l).reverse.toArray)[l.length]'_ = a
 simp
set_option maxHeartbeats 400000 in
theorem top_cons (st : Int) (a : UInt8) (l : List UInt8) (body : Bool) (digits last purpose : Int) (related : Bool) (block : ByteArray) (w : World) (h : l.length ≤ 1000) :
  Calls Tryz.prog 179 #[FV st (bs (a :: l)) body digits last purpose related block] w fun e w' => e = .returned (.int .u8 a.toNat) ∧ w' = w.alloc (FO st (bs (a :: l)) body digits last purpose related block) := by
 have hb : ((l.length : Int) + 1 == 0) = false := by simp; omega
 go_enter Tryz.func179, Tryz.ntmps179
 go_wp2
 go_ret
 refine ⟨?_, ?_⟩
 ·simp [at_last]
 ·simp [bs]
set_option maxHeartbeats 400000 in
theorem top_any (st : Int) (l : List UInt8) (body : Bool) (digits last purpose : Int) (related : Bool) (block : ByteArray) (w : World) (h : l.length ≤ 1000) :
  Calls Tryz.prog 179 #[FV st (bs l) body digits last purpose related block] w fun e w' => e = .returned (.int .u8 (l.headD 0).toNat) ∧ w' = w.alloc (FO st (bs l) body digits last purpose related block) := by
 cases l with
 | nil => exact top_nil _ _ _ _ _ _ _ _
 | cons a l => exact top_cons _ _ _ _ _ _ _ _ _ _ (by simp at h; omega)
set_option maxHeartbeats 400000 in
theorem room_any (st : Int) (op : List UInt8) (body : Bool) (digits last purpose : Int) (related : Bool) (block : ByteArray) (w : World) :
  Calls Tryz.prog 139 #[FV st (bs op) body digits last purpose related block] w fun e w' => e = .returned (.bool (decide (op.length < 8))) ∧ w' = w.alloc (FO st (bs op) body digits last purpose related block) := by
 go_enter Tryz.func139, Tryz.ntmps139
 go_wp2
 go_ret
 refine ⟨?_, rfl⟩
 simp
 exact ⟨fun h => by omega, fun h => by omega⟩
set_option maxHeartbeats 400000 in
theorem to_any (st : Int) (op : ByteArray) (body : Bool) (digits last purpose : Int) (related : Bool) (block : ByteArray) (n : Int) (w : World) :
  Calls Tryz.prog 141 #[FV st op body digits last purpose related block, .int .i64 n] w fun e w' => e = .returned (.tuple #[FV n op body digits last purpose related block, .bool true]) ∧ w' = (w.alloc (FO n op body digits last purpose related block)).alloc (FO n op body digits last purpose related block) := by
 go_enter Tryz.func141, Tryz.ntmps141
 go_wp2
 exact bodyPost_ret (v := .tuple #[FV n op body digits last purpose related block, .bool true]) (by simp [results, Tryz.results141, go_sem]) rfl ⟨rfl, rfl⟩
end Go.Proofs.YtdgmoiflahoihaaGreatDoor
namespace Go.Proofs.YtdgmoiflahoihaaGreatDoor
open Go.RowKit
set_option linter.unusedSimpArgs false
set_option linter.unusedVariables false
theorem bcell {W w1 : World} (hb : Below W.heap.size W w1) : (∀ b o, b < W.heap.size → w1.cell? ⟨b, o, none⟩ = W.cell? ⟨b, o, none⟩) ∧ (∀ b o, b < W.heap.size → w1.frozen? ⟨b, o, none⟩ = W.frozen? ⟨b, o, none⟩) :=
 ⟨fun b o h => hb.cell (p := ⟨b, o, none⟩) h, fun b o h => hb.frozen (p := ⟨b, o, none⟩) h⟩
set_option maxHeartbeats 2000000 in
theorem unit_any (f : Fm) (c : Int) (w : World) :
  Calls Tryz.prog 144 #[fv f, .int .i64 c] w fun e w' => e = .returned (.tuple #[fv (f.unit c).1, .bool (f.unit c).2]) ∧ Below w.heap.size w w' := by
 obtain ⟨st, op, body, digits, last, purpose, related, block⟩ := f
 cases hd : isDg c
 case true =>
  rw [show Fm.unit ⟨st, op, body, digits, last, purpose, related, block⟩ c = (⟨11, op, body, 1, last, purpose, related, block⟩, true) by simp [Fm.unit, Fm.to, hd]]
  simp only [fv]
  go_enter Tryz.func144, Tryz.ntmps144
  go_wp2_with (first | (go_at_call 141; refine (to_any _ _ _ _ _ _ _ _ _ _).mono ?_; rintro e w' ⟨rfl, rfl⟩) | (go_at_call 139; refine (room_any _ (op) _ _ _ _ _ _ _).mono ?_; rintro e w' ⟨rfl, rfl⟩) | (go_at_call 145; refine (isDg_any _ _).mono ?_; rintro e w' ⟨rfl, rfl⟩) | (go_at_call 115; refine (isNm_any _ _).mono ?_; rintro e w' ⟨rfl, rfl⟩) | (go_at_call 149; refine (isSc_any _ _).mono ?_; rintro e w' ⟨rfl, rfl⟩) | (go_at_call 179; refine (top_any _ (op) _ _ _ _ _ _ _ (by simp at *; omega)).mono ?_; rintro e w' ⟨rfl, rfl⟩))
  exact bodyPost_ret (v := .tuple #[FV 11 (bs op) body 1 last purpose related (bs block), .bool true]) (by simp [results, Tryz.results144, go_sem]) rfl ⟨rfl, by repeat (first | refine Below.setCell ?_ (by simp <;> omega) _ | refine Below.alloc ?_ (by simp <;> omega) _ | exact Below.refl _ _)⟩
 case false =>
 cases hn : isNm c
 case true =>
  rw [show Fm.unit ⟨st, op, body, digits, last, purpose, related, block⟩ c = (⟨12, op, body, digits, last, purpose, related, block⟩, true) by simp [Fm.unit, Fm.to, hd, hn]]
  simp only [fv]
  go_enter Tryz.func144, Tryz.ntmps144
  go_wp2_with (first | (go_at_call 141; refine (to_any _ _ _ _ _ _ _ _ _ _).mono ?_; rintro e w' ⟨rfl, rfl⟩) | (go_at_call 139; refine (room_any _ (op) _ _ _ _ _ _ _).mono ?_; rintro e w' ⟨rfl, rfl⟩) | (go_at_call 145; refine (isDg_any _ _).mono ?_; rintro e w' ⟨rfl, rfl⟩) | (go_at_call 115; refine (isNm_any _ _).mono ?_; rintro e w' ⟨rfl, rfl⟩) | (go_at_call 149; refine (isSc_any _ _).mono ?_; rintro e w' ⟨rfl, rfl⟩) | (go_at_call 179; refine (top_any _ (op) _ _ _ _ _ _ _ (by simp at *; omega)).mono ?_; rintro e w' ⟨rfl, rfl⟩))
  exact bodyPost_ret (v := .tuple #[FV 12 (bs op) body digits last purpose related (bs block), .bool true]) (by simp [results, Tryz.results144, go_sem]) rfl ⟨rfl, by repeat (first | refine Below.setCell ?_ (by simp <;> omega) _ | refine Below.alloc ?_ (by simp <;> omega) _ | exact Below.refl _ _)⟩
 case false =>
 by_cases h45 : c = 45
 ·subst h45
  rw [show Fm.unit ⟨st, op, body, digits, last, purpose, related, block⟩ 45 = (⟨10, op, body, digits, last, purpose, related, block⟩, true) by simp [Fm.unit, Fm.to, hd, hn]]
  simp only [fv]
  go_enter Tryz.func144, Tryz.ntmps144
  go_wp2_with (first | (go_at_call 141; refine (to_any _ _ _ _ _ _ _ _ _ _).mono ?_; rintro e w' ⟨rfl, rfl⟩) | (go_at_call 139; refine (room_any _ (op) _ _ _ _ _ _ _).mono ?_; rintro e w' ⟨rfl, rfl⟩) | (go_at_call 145; refine (isDg_any _ _).mono ?_; rintro e w' ⟨rfl, rfl⟩) | (go_at_call 115; refine (isNm_any _ _).mono ?_; rintro e w' ⟨rfl, rfl⟩) | (go_at_call 149; refine (isSc_any _ _).mono ?_; rintro e w' ⟨rfl, rfl⟩) | (go_at_call 179; refine (top_any _ (op) _ _ _ _ _ _ _ (by simp at *; omega)).mono ?_; rintro e w' ⟨rfl, rfl⟩))
  exact bodyPost_ret (v := .tuple #[FV 10 (bs op) body digits last purpose related (bs block), .bool true]) (by simp [results, Tryz.results144, go_sem]) rfl ⟨rfl, by repeat (first | refine Below.setCell ?_ (by simp <;> omega) _ | refine Below.alloc ?_ (by simp <;> omega) _ | exact Below.refl _ _)⟩
 by_cases h40 : c = 40
 ·subst h40
  by_cases hr : op.length < 8
  ·cases related
   case false =>
    rw [show Fm.unit ⟨st, op, body, digits, last, purpose, false, block⟩ 40 = (⟨10, 101 :: op, body, digits, last, purpose, false, block⟩, true) by simp [Fm.unit, Fm.to, hd, hn, hr]]
    simp only [fv]
    go_enter Tryz.func144, Tryz.ntmps144
    go_wp2_with (first | (go_at_call 141; refine (to_any _ _ _ _ _ _ _ _ _ _).mono ?_; rintro e w' ⟨rfl, rfl⟩) | (go_at_call 139; refine (room_any _ (op) _ _ _ _ _ _ _).mono ?_; rintro e w' ⟨rfl, rfl⟩) | (go_at_call 145; refine (isDg_any _ _).mono ?_; rintro e w' ⟨rfl, rfl⟩) | (go_at_call 115; refine (isNm_any _ _).mono ?_; rintro e w' ⟨rfl, rfl⟩) | (go_at_call 149; refine (isSc_any _ _).mono ?_; rintro e w' ⟨rfl, rfl⟩) | (go_at_call 179; refine (top_any _ (op) _ _ _ _ _ _ _ (by simp at *; omega)).mono ?_; rintro e w' ⟨rfl, rfl⟩))
    exact bodyPost_ret (v := .tuple #[FV 10 (bs op ++ ⟨#[101]⟩) body digits last purpose false (bs block), .bool true]) (by simp [results, Tryz.results144, go_sem]) rfl ⟨by rw [bs_push], by repeat (first | refine Below.setCell ?_ (by simp <;> omega) _ | refine Below.alloc ?_ (by simp <;> omega) _ | exact Below.refl _ _)⟩
   case true =>
    rw [show Fm.unit ⟨st, op, body, digits, last, purpose, true, block⟩ 40 = (⟨10, 69 :: op, body, digits, last, purpose, false, block⟩, true) by simp [Fm.unit, Fm.to, hd, hn, hr]]
    simp only [fv]
    go_enter Tryz.func144, Tryz.ntmps144
    go_wp2_with (first | (go_at_call 141; refine (to_any _ _ _ _ _ _ _ _ _ _).mono ?_; rintro e w' ⟨rfl, rfl⟩) | (go_at_call 139; refine (room_any _ (op) _ _ _ _ _ _ _).mono ?_; rintro e w' ⟨rfl, rfl⟩) | (go_at_call 145; refine (isDg_any _ _).mono ?_; rintro e w' ⟨rfl, rfl⟩) | (go_at_call 115; refine (isNm_any _ _).mono ?_; rintro e w' ⟨rfl, rfl⟩) | (go_at_call 149; refine (isSc_any _ _).mono ?_; rintro e w' ⟨rfl, rfl⟩) | (go_at_call 179; refine (top_any _ (op) _ _ _ _ _ _ _ (by simp at *; omega)).mono ?_; rintro e w' ⟨rfl, rfl⟩))
    exact bodyPost_ret (v := .tuple #[FV 10 (bs op ++ ⟨#[69]⟩) body digits last purpose false (bs block), .bool true]) (by simp [results, Tryz.results144, go_sem]) rfl ⟨by rw [bs_push], by repeat (first | refine Below.setCell ?_ (by simp <;> omega) _ | refine Below.alloc ?_ (by simp <;> omega) _ | exact Below.refl _ _)⟩
  ·
   rw [show Fm.unit ⟨st, op, body, digits, last, purpose, related, block⟩ 40 = (⟨st, op, body, digits, last, purpose, related, block⟩, false) by simp [Fm.unit, Fm.to, hd, hn, hr]]
   simp only [fv]
   go_enter Tryz.func144, Tryz.ntmps144
   go_wp2_with (first | (go_at_call 141; refine (to_any _ _ _ _ _ _ _ _ _ _).mono ?_; rintro e w' ⟨rfl, rfl⟩) | (go_at_call 139; refine (room_any _ (op) _ _ _ _ _ _ _).mono ?_; rintro e w' ⟨rfl, rfl⟩) | (go_at_call 145; refine (isDg_any _ _).mono ?_; rintro e w' ⟨rfl, rfl⟩) | (go_at_call 115; refine (isNm_any _ _).mono ?_; rintro e w' ⟨rfl, rfl⟩) | (go_at_call 149; refine (isSc_any _ _).mono ?_; rintro e w' ⟨rfl, rfl⟩) | (go_at_call 179; refine (top_any _ (op) _ _ _ _ _ _ _ (by simp at *; omega)).mono ?_; rintro e w' ⟨rfl, rfl⟩))
   exact bodyPost_ret (v := .tuple #[FV st (bs op) body digits last purpose related (bs block), .bool false]) (by simp [results, Tryz.results144, go_sem]) rfl ⟨rfl, by repeat (first | refine Below.setCell ?_ (by simp <;> omega) _ | refine Below.alloc ?_ (by simp <;> omega) _ | exact Below.refl _ _)⟩
 ·
  rw [show Fm.unit ⟨st, op, body, digits, last, purpose, related, block⟩ c = (⟨st, op, body, digits, last, purpose, related, block⟩, false) by simp [Fm.unit, Fm.to, hd, hn, h45, h40]]
  simp only [fv]
  have ec45 : (c == 45) = false := by simp only [beq_eq_false_iff_ne, ne_eq]; omega
  have ec40 : (c == 40) = false := by simp only [beq_eq_false_iff_ne, ne_eq]; omega
  go_enter Tryz.func144, Tryz.ntmps144
  go_wp2_with (first | (go_at_call 141; refine (to_any _ _ _ _ _ _ _ _ _ _).mono ?_; rintro e w' ⟨rfl, rfl⟩) | (go_at_call 139; refine (room_any _ (op) _ _ _ _ _ _ _).mono ?_; rintro e w' ⟨rfl, rfl⟩) | (go_at_call 145; refine (isDg_any _ _).mono ?_; rintro e w' ⟨rfl, rfl⟩) | (go_at_call 115; refine (isNm_any _ _).mono ?_; rintro e w' ⟨rfl, rfl⟩) | (go_at_call 149; refine (isSc_any _ _).mono ?_; rintro e w' ⟨rfl, rfl⟩) | (go_at_call 179; refine (top_any _ (op) _ _ _ _ _ _ _ (by simp at *; omega)).mono ?_; rintro e w' ⟨rfl, rfl⟩))
  exact bodyPost_ret (v := .tuple #[FV st (bs op) body digits last purpose related (bs block), .bool false]) (by simp [results, Tryz.results144, go_sem]) rfl ⟨rfl, by repeat (first | refine Below.setCell ?_ (by simp <;> omega) _ | refine Below.alloc ?_ (by simp <;> omega) _ | exact Below.refl _ _)⟩
set_option maxHeartbeats 2000000 in
theorem labeled_any (f : Fm) (c : Int) (w : World) :
  Calls Tryz.prog 143 #[fv f, .int .i64 c] w fun e w' => e = .returned (.tuple #[fv (f.labeled c).1, .bool (f.labeled c).2]) ∧ Below w.heap.size w w' := by
 obtain ⟨st, op, body, digits, last, purpose, related, block⟩ := f
 by_cases h0 : purpose = 0
 ·subst h0
  by_cases h59 : c = 59
  ·subst h59
   rw [show Fm.labeled ⟨st, op, body, digits, last, 0, related, block⟩ 59 = (⟨0, op, body, digits, last, 0, related, block⟩, true) by simp [Fm.labeled, Fm.to]]
   simp only [fv]
   go_enter Tryz.func143, Tryz.ntmps143
   go_wp2_with (first | (go_at_call 141; refine (to_any _ _ _ _ _ _ _ _ _ _).mono ?_; rintro e w' ⟨rfl, rfl⟩) | (go_at_call 139; refine (room_any _ (op) _ _ _ _ _ _ _).mono ?_; rintro e w' ⟨rfl, rfl⟩) | (go_at_call 145; refine (isDg_any _ _).mono ?_; rintro e w' ⟨rfl, rfl⟩) | (go_at_call 115; refine (isNm_any _ _).mono ?_; rintro e w' ⟨rfl, rfl⟩) | (go_at_call 149; refine (isSc_any _ _).mono ?_; rintro e w' ⟨rfl, rfl⟩) | (go_at_call 179; refine (top_any _ (op) _ _ _ _ _ _ _ (by simp at *; omega)).mono ?_; rintro e w' ⟨rfl, rfl⟩))
   exact bodyPost_ret (v := .tuple #[FV 0 (bs op) body digits last 0 related (bs block), .bool true]) (by simp [results, Tryz.results143, go_sem]) rfl ⟨rfl, by repeat (first | refine Below.setCell ?_ (by simp <;> omega) _ | refine Below.alloc ?_ (by simp <;> omega) _ | exact Below.refl _ _)⟩
  ·
   rw [show Fm.labeled ⟨st, op, body, digits, last, 0, related, block⟩ c = (⟨st, op, body, digits, last, 0, related, block⟩, false) by simp [Fm.labeled, Fm.to, h59]]
   simp only [fv]
   have ec59 : (c == 59) = false := by simp only [beq_eq_false_iff_ne, ne_eq]; omega
   go_enter Tryz.func143, Tryz.ntmps143
   go_wp2_with (first | (go_at_call 141; refine (to_any _ _ _ _ _ _ _ _ _ _).mono ?_; rintro e w' ⟨rfl, rfl⟩) | (go_at_call 139; refine (room_any _ (op) _ _ _ _ _ _ _).mono ?_; rintro e w' ⟨rfl, rfl⟩) | (go_at_call 145; refine (isDg_any _ _).mono ?_; rintro e w' ⟨rfl, rfl⟩) | (go_at_call 115; refine (isNm_any _ _).mono ?_; rintro e w' ⟨rfl, rfl⟩) | (go_at_call 149; refine (isSc_any _ _).mono ?_; rintro e w' ⟨rfl, rfl⟩) | (go_at_call 179; refine (top_any _ (op) _ _ _ _ _ _ _ (by simp at *; omega)).mono ?_; rintro e w' ⟨rfl, rfl⟩))
   exact bodyPost_ret (v := .tuple #[FV st (bs op) body digits last 0 related (bs block), .bool false]) (by simp [results, Tryz.results143, go_sem]) rfl ⟨rfl, by repeat (first | refine Below.setCell ?_ (by simp <;> omega) _ | refine Below.alloc ?_ (by simp <;> omega) _ | exact Below.refl _ _)⟩
 by_cases h1 : purpose = 1
 ·subst h1
  by_cases h61 : c = 61
  ·subst h61
   rw [show Fm.labeled ⟨st, op, body, digits, last, 1, related, block⟩ 61 = (⟨10, op, body, digits, last, 1, related, block⟩, true) by simp [Fm.labeled, Fm.to]]
   simp only [fv]
   go_enter Tryz.func143, Tryz.ntmps143
   go_wp2_with (first | (go_at_call 141; refine (to_any _ _ _ _ _ _ _ _ _ _).mono ?_; rintro e w' ⟨rfl, rfl⟩) | (go_at_call 139; refine (room_any _ (op) _ _ _ _ _ _ _).mono ?_; rintro e w' ⟨rfl, rfl⟩) | (go_at_call 145; refine (isDg_any _ _).mono ?_; rintro e w' ⟨rfl, rfl⟩) | (go_at_call 115; refine (isNm_any _ _).mono ?_; rintro e w' ⟨rfl, rfl⟩) | (go_at_call 149; refine (isSc_any _ _).mono ?_; rintro e w' ⟨rfl, rfl⟩) | (go_at_call 179; refine (top_any _ (op) _ _ _ _ _ _ _ (by simp at *; omega)).mono ?_; rintro e w' ⟨rfl, rfl⟩))
   exact bodyPost_ret (v := .tuple #[FV 10 (bs op) body digits last 1 related (bs block), .bool true]) (by simp [results, Tryz.results143, go_sem]) rfl ⟨rfl, by repeat (first | refine Below.setCell ?_ (by simp <;> omega) _ | refine Below.alloc ?_ (by simp <;> omega) _ | exact Below.refl _ _)⟩
  ·
   rw [show Fm.labeled ⟨st, op, body, digits, last, 1, related, block⟩ c = (⟨st, op, body, digits, last, 1, related, block⟩, false) by simp [Fm.labeled, Fm.to, h61]]
   simp only [fv]
   have ec61 : (c == 61) = false := by simp only [beq_eq_false_iff_ne, ne_eq]; omega
   go_enter Tryz.func143, Tryz.ntmps143
   go_wp2_with (first | (go_at_call 141; refine (to_any _ _ _ _ _ _ _ _ _ _).mono ?_; rintro e w' ⟨rfl, rfl⟩) | (go_at_call 139; refine (room_any _ (op) _ _ _ _ _ _ _).mono ?_; rintro e w' ⟨rfl, rfl⟩) | (go_at_call 145; refine (isDg_any _ _).mono ?_; rintro e w' ⟨rfl, rfl⟩) | (go_at_call 115; refine (isNm_any _ _).mono ?_; rintro e w' ⟨rfl, rfl⟩) | (go_at_call 149; refine (isSc_any _ _).mono ?_; rintro e w' ⟨rfl, rfl⟩) | (go_at_call 179; refine (top_any _ (op) _ _ _ _ _ _ _ (by simp at *; omega)).mono ?_; rintro e w' ⟨rfl, rfl⟩))
   exact bodyPost_ret (v := .tuple #[FV st (bs op) body digits last 1 related (bs block), .bool false]) (by simp [results, Tryz.results143, go_sem]) rfl ⟨rfl, by repeat (first | refine Below.setCell ?_ (by simp <;> omega) _ | refine Below.alloc ?_ (by simp <;> omega) _ | exact Below.refl _ _)⟩
 by_cases h2 : purpose = 2
 ·subst h2
  rw [show Fm.labeled ⟨st, op, body, digits, last, 2, related, block⟩ c = Fm.unit ⟨st, op, body, digits, last, 2, related, block⟩ c by simp [Fm.labeled, Fm.to]]
  have hu := fun w => unit_any ⟨st, op, body, digits, last, 2, related, block⟩ c w
  generalize Fm.unit ⟨st, op, body, digits, last, 2, related, block⟩ c = r at *
  obtain ⟨⟨a1, a2, a3, a4, a5, a6, a7, a8⟩, b⟩ := r
  have HU : Hid (∀ w, _) := hu
  clear hu
  simp only [fv] at *
  go_enter Tryz.func143, Tryz.ntmps143
  go_wp2_with (first | (go_at_call 144; refine (HU.out _).mono ?_; rintro e w' ⟨rfl, hb⟩; obtain ⟨hc, hf⟩ := bcell hb; have hz : w.heap.size + 1 < w'.heap.size := by (have := hb.size; simp at this; omega)) | (go_at_call 141; refine (to_any _ _ _ _ _ _ _ _ _ _).mono ?_; rintro e w' ⟨rfl, rfl⟩) | (go_at_call 139; refine (room_any _ (op) _ _ _ _ _ _ _).mono ?_; rintro e w' ⟨rfl, rfl⟩) | (go_at_call 145; refine (isDg_any _ _).mono ?_; rintro e w' ⟨rfl, rfl⟩) | (go_at_call 115; refine (isNm_any _ _).mono ?_; rintro e w' ⟨rfl, rfl⟩) | (go_at_call 149; refine (isSc_any _ _).mono ?_; rintro e w' ⟨rfl, rfl⟩) | (go_at_call 179; refine (top_any _ (op) _ _ _ _ _ _ _ (by simp at *; omega)).mono ?_; rintro e w' ⟨rfl, rfl⟩))
  exact bodyPost_ret (v := .tuple #[FV a1 (bs a2) a3 a4 a5 a6 a7 (bs a8), .bool b]) (by simp [results, Tryz.results143, go_sem, hc, hf, hz]) rfl ⟨rfl, by repeat (first | refine Below.setCell ?_ (by simp <;> omega) _ | refine Below.trans ?_ (hb.mono (by simp <;> omega)) | refine Below.alloc ?_ (by simp <;> omega) _ | exact Below.refl _ _)⟩
 ·
  rw [show Fm.labeled ⟨st, op, body, digits, last, purpose, related, block⟩ c = (⟨st, op, body, digits, last, purpose, related, block⟩, false) by simp [Fm.labeled, Fm.to, h0, h1, h2]]
  simp only [fv]
  have ep0 : (purpose == 0) = false := by simp only [beq_eq_false_iff_ne, ne_eq]; omega
  have ep1 : (purpose == 1) = false := by simp only [beq_eq_false_iff_ne, ne_eq]; omega
  have ep2 : (purpose == 2) = false := by simp only [beq_eq_false_iff_ne, ne_eq]; omega
  go_enter Tryz.func143, Tryz.ntmps143
  go_wp2_with (first | (go_at_call 141; refine (to_any _ _ _ _ _ _ _ _ _ _).mono ?_; rintro e w' ⟨rfl, rfl⟩) | (go_at_call 139; refine (room_any _ (op) _ _ _ _ _ _ _).mono ?_; rintro e w' ⟨rfl, rfl⟩) | (go_at_call 145; refine (isDg_any _ _).mono ?_; rintro e w' ⟨rfl, rfl⟩) | (go_at_call 115; refine (isNm_any _ _).mono ?_; rintro e w' ⟨rfl, rfl⟩) | (go_at_call 149; refine (isSc_any _ _).mono ?_; rintro e w' ⟨rfl, rfl⟩) | (go_at_call 179; refine (top_any _ (op) _ _ _ _ _ _ _ (by simp at *; omega)).mono ?_; rintro e w' ⟨rfl, rfl⟩))
  exact bodyPost_ret (v := .tuple #[FV st (bs op) body digits last purpose related (bs block), .bool false]) (by simp [results, Tryz.results143, go_sem]) rfl ⟨rfl, by repeat (first | refine Below.setCell ?_ (by simp <;> omega) _ | refine Below.alloc ?_ (by simp <;> omega) _ | exact Below.refl _ _)⟩
set_option maxHeartbeats 2000000 in
theorem letters_any (f : Fm) (c : Int) (w : World) :
  Calls Tryz.prog 142 #[fv f, .int .i64 c] w fun e w' => e = .returned (.tuple #[fv (f.letters c).1, .bool (f.letters c).2]) ∧ Below w.heap.size w w' := by
 obtain ⟨st, op, body, digits, last, purpose, related, block⟩ := f
 by_cases h7 : st = 7
 ·subst h7
  by_cases h45 : c = 45
  ·subst h45
   rw [show Fm.letters ⟨7, op, body, digits, last, purpose, related, block⟩ 45 = (⟨9, op, body, digits, last, purpose, related, block⟩, true) by simp [Fm.letters, Fm.to]]
   simp only [fv]
   go_enter Tryz.func142, Tryz.ntmps142
   go_wp2_with (first | (go_at_call 141; refine (to_any _ _ _ _ _ _ _ _ _ _).mono ?_; rintro e w' ⟨rfl, rfl⟩) | (go_at_call 139; refine (room_any _ (op) _ _ _ _ _ _ _).mono ?_; rintro e w' ⟨rfl, rfl⟩) | (go_at_call 145; refine (isDg_any _ _).mono ?_; rintro e w' ⟨rfl, rfl⟩) | (go_at_call 115; refine (isNm_any _ _).mono ?_; rintro e w' ⟨rfl, rfl⟩) | (go_at_call 149; refine (isSc_any _ _).mono ?_; rintro e w' ⟨rfl, rfl⟩) | (go_at_call 179; refine (top_any _ (op) _ _ _ _ _ _ _ (by simp at *; omega)).mono ?_; rintro e w' ⟨rfl, rfl⟩))
   exact bodyPost_ret (v := .tuple #[FV 9 (bs op) body digits last purpose related (bs block), .bool true]) (by simp [results, Tryz.results142, go_sem]) rfl ⟨rfl, by repeat (first | refine Below.setCell ?_ (by simp <;> omega) _ | refine Below.alloc ?_ (by simp <;> omega) _ | exact Below.refl _ _)⟩
  cases hs : isSc c
  case false =>
   rw [show Fm.letters ⟨7, op, body, digits, last, purpose, related, block⟩ c = (⟨7, op, body, digits, last, purpose, related, block⟩, false) by simp [Fm.letters, Fm.to, h45, hs]]
   simp only [fv]
   have ec45 : (c == 45) = false := by simp only [beq_eq_false_iff_ne, ne_eq]; omega
   go_enter Tryz.func142, Tryz.ntmps142
   go_wp2_with (first | (go_at_call 141; refine (to_any _ _ _ _ _ _ _ _ _ _).mono ?_; rintro e w' ⟨rfl, rfl⟩) | (go_at_call 139; refine (room_any _ (op) _ _ _ _ _ _ _).mono ?_; rintro e w' ⟨rfl, rfl⟩) | (go_at_call 145; refine (isDg_any _ _).mono ?_; rintro e w' ⟨rfl, rfl⟩) | (go_at_call 115; refine (isNm_any _ _).mono ?_; rintro e w' ⟨rfl, rfl⟩) | (go_at_call 149; refine (isSc_any _ _).mono ?_; rintro e w' ⟨rfl, rfl⟩) | (go_at_call 179; refine (top_any _ (op) _ _ _ _ _ _ _ (by simp at *; omega)).mono ?_; rintro e w' ⟨rfl, rfl⟩))
   exact bodyPost_ret (v := .tuple #[FV 7 (bs op) body digits last purpose related (bs block), .bool false]) (by simp [results, Tryz.results142, go_sem]) rfl ⟨rfl, by repeat (first | refine Below.setCell ?_ (by simp <;> omega) _ | refine Below.alloc ?_ (by simp <;> omega) _ | exact Below.refl _ _)⟩
  case true =>
   rw [show Fm.letters ⟨7, op, body, digits, last, purpose, related, block⟩ c = (⟨8, op, body, digits, c, purpose, related, block⟩, true) by simp [Fm.letters, Fm.to, h45, hs]]
   simp only [fv]
   have ec45 : (c == 45) = false := by simp only [beq_eq_false_iff_ne, ne_eq]; omega
   go_enter Tryz.func142, Tryz.ntmps142
   go_wp2_with (first | (go_at_call 141; refine (to_any _ _ _ _ _ _ _ _ _ _).mono ?_; rintro e w' ⟨rfl, rfl⟩) | (go_at_call 139; refine (room_any _ (op) _ _ _ _ _ _ _).mono ?_; rintro e w' ⟨rfl, rfl⟩) | (go_at_call 145; refine (isDg_any _ _).mono ?_; rintro e w' ⟨rfl, rfl⟩) | (go_at_call 115; refine (isNm_any _ _).mono ?_; rintro e w' ⟨rfl, rfl⟩) | (go_at_call 149; refine (isSc_any _ _).mono ?_; rintro e w' ⟨rfl, rfl⟩) | (go_at_call 179; refine (top_any _ (op) _ _ _ _ _ _ _ (by simp at *; omega)).mono ?_; rintro e w' ⟨rfl, rfl⟩))
   exact bodyPost_ret (v := .tuple #[FV 8 (bs op) body digits c purpose related (bs block), .bool true]) (by simp [results, Tryz.results142, go_sem]) rfl ⟨rfl, by repeat (first | refine Below.setCell ?_ (by simp <;> omega) _ | refine Below.alloc ?_ (by simp <;> omega) _ | exact Below.refl _ _)⟩
 cases hs : isSc c
 case false =>
  by_cases h8 : st = 8
  ·subst h8
   rw [show Fm.letters ⟨8, op, body, digits, last, purpose, related, block⟩ c = Fm.labeled ⟨8, op, body, digits, last, purpose, related, block⟩ c by simp [Fm.letters, Fm.to, hs]]
   have hu := fun w => labeled_any ⟨8, op, body, digits, last, purpose, related, block⟩ c w
   generalize Fm.labeled ⟨8, op, body, digits, last, purpose, related, block⟩ c = r at *
   obtain ⟨⟨a1, a2, a3, a4, a5, a6, a7, a8⟩, b⟩ := r
   have HU : Hid (∀ w, _) := hu
   clear hu
   simp only [fv] at *
   go_enter Tryz.func142, Tryz.ntmps142
   go_wp2_with (first | (go_at_call 143; refine (HU.out _).mono ?_; rintro e w' ⟨rfl, hb⟩; obtain ⟨hc, hf⟩ := bcell hb; have hz : w.heap.size + 1 < w'.heap.size := by (have := hb.size; simp at this; omega)) | (go_at_call 141; refine (to_any _ _ _ _ _ _ _ _ _ _).mono ?_; rintro e w' ⟨rfl, rfl⟩) | (go_at_call 139; refine (room_any _ (op) _ _ _ _ _ _ _).mono ?_; rintro e w' ⟨rfl, rfl⟩) | (go_at_call 145; refine (isDg_any _ _).mono ?_; rintro e w' ⟨rfl, rfl⟩) | (go_at_call 115; refine (isNm_any _ _).mono ?_; rintro e w' ⟨rfl, rfl⟩) | (go_at_call 149; refine (isSc_any _ _).mono ?_; rintro e w' ⟨rfl, rfl⟩) | (go_at_call 179; refine (top_any _ (op) _ _ _ _ _ _ _ (by simp at *; omega)).mono ?_; rintro e w' ⟨rfl, rfl⟩))
   exact bodyPost_ret (v := .tuple #[FV a1 (bs a2) a3 a4 a5 a6 a7 (bs a8), .bool b]) (by simp [results, Tryz.results142, go_sem, hc, hf, hz]) rfl ⟨rfl, by repeat (first | refine Below.setCell ?_ (by simp <;> omega) _ | refine Below.trans ?_ (hb.mono (by simp <;> omega)) | refine Below.alloc ?_ (by simp <;> omega) _ | exact Below.refl _ _)⟩
  ·
   rw [show Fm.letters ⟨st, op, body, digits, last, purpose, related, block⟩ c = (⟨st, op, body, digits, last, purpose, related, block⟩, false) by simp [Fm.letters, Fm.to, h7, hs, h8]]
   simp only [fv]
   have es7 : (st == 7) = false := by simp only [beq_eq_false_iff_ne, ne_eq]; omega
   have es8 : (st == 8) = false := by simp only [beq_eq_false_iff_ne, ne_eq]; omega
   go_enter Tryz.func142, Tryz.ntmps142
   go_wp2_with (first | (go_at_call 141; refine (to_any _ _ _ _ _ _ _ _ _ _).mono ?_; rintro e w' ⟨rfl, rfl⟩) | (go_at_call 139; refine (room_any _ (op) _ _ _ _ _ _ _).mono ?_; rintro e w' ⟨rfl, rfl⟩) | (go_at_call 145; refine (isDg_any _ _).mono ?_; rintro e w' ⟨rfl, rfl⟩) | (go_at_call 115; refine (isNm_any _ _).mono ?_; rintro e w' ⟨rfl, rfl⟩) | (go_at_call 149; refine (isSc_any _ _).mono ?_; rintro e w' ⟨rfl, rfl⟩) | (go_at_call 179; refine (top_any _ (op) _ _ _ _ _ _ _ (by simp at *; omega)).mono ?_; rintro e w' ⟨rfl, rfl⟩))
   exact bodyPost_ret (v := .tuple #[FV st (bs op) body digits last purpose related (bs block), .bool false]) (by simp [results, Tryz.results142, go_sem]) rfl ⟨rfl, by repeat (first | refine Below.setCell ?_ (by simp <;> omega) _ | refine Below.alloc ?_ (by simp <;> omega) _ | exact Below.refl _ _)⟩
 case true =>
  by_cases hl : last < c
  ·
   rw [show Fm.letters ⟨st, op, body, digits, last, purpose, related, block⟩ c = (⟨8, op, body, digits, c, purpose, related, block⟩, true) by simp [Fm.letters, Fm.to, h7, hs, hl]]
   simp only [fv]
   have es7 : (st == 7) = false := by simp only [beq_eq_false_iff_ne, ne_eq]; omega
   go_enter Tryz.func142, Tryz.ntmps142
   go_wp2_with (first | (go_at_call 141; refine (to_any _ _ _ _ _ _ _ _ _ _).mono ?_; rintro e w' ⟨rfl, rfl⟩) | (go_at_call 139; refine (room_any _ (op) _ _ _ _ _ _ _).mono ?_; rintro e w' ⟨rfl, rfl⟩) | (go_at_call 145; refine (isDg_any _ _).mono ?_; rintro e w' ⟨rfl, rfl⟩) | (go_at_call 115; refine (isNm_any _ _).mono ?_; rintro e w' ⟨rfl, rfl⟩) | (go_at_call 149; refine (isSc_any _ _).mono ?_; rintro e w' ⟨rfl, rfl⟩) | (go_at_call 179; refine (top_any _ (op) _ _ _ _ _ _ _ (by simp at *; omega)).mono ?_; rintro e w' ⟨rfl, rfl⟩))
   exact bodyPost_ret (v := .tuple #[FV 8 (bs op) body digits c purpose related (bs block), .bool true]) (by simp [results, Tryz.results142, go_sem]) rfl ⟨rfl, by repeat (first | refine Below.setCell ?_ (by simp <;> omega) _ | refine Below.alloc ?_ (by simp <;> omega) _ | exact Below.refl _ _)⟩
  by_cases h8 : st = 8
  ·subst h8
   rw [show Fm.letters ⟨8, op, body, digits, last, purpose, related, block⟩ c = Fm.labeled ⟨8, op, body, digits, last, purpose, related, block⟩ c by simp [Fm.letters, Fm.to, hs, hl]]
   have hu := fun w => labeled_any ⟨8, op, body, digits, last, purpose, related, block⟩ c w
   generalize Fm.labeled ⟨8, op, body, digits, last, purpose, related, block⟩ c = r at *
   obtain ⟨⟨a1, a2, a3, a4, a5, a6, a7, a8⟩, b⟩ := r
   have HU : Hid (∀ w, _) := hu
   clear hu
   simp only [fv] at *
   go_enter Tryz.func142, Tryz.ntmps142
   go_wp2_with (first | (go_at_call 143; refine (HU.out _).mono ?_; rintro e w' ⟨rfl, hb⟩; obtain ⟨hc, hf⟩ := bcell hb; have hz : w.heap.size + 1 < w'.heap.size := by (have := hb.size; simp at this; omega)) | (go_at_call 141; refine (to_any _ _ _ _ _ _ _ _ _ _).mono ?_; rintro e w' ⟨rfl, rfl⟩) | (go_at_call 139; refine (room_any _ (op) _ _ _ _ _ _ _).mono ?_; rintro e w' ⟨rfl, rfl⟩) | (go_at_call 145; refine (isDg_any _ _).mono ?_; rintro e w' ⟨rfl, rfl⟩) | (go_at_call 115; refine (isNm_any _ _).mono ?_; rintro e w' ⟨rfl, rfl⟩) | (go_at_call 149; refine (isSc_any _ _).mono ?_; rintro e w' ⟨rfl, rfl⟩) | (go_at_call 179; refine (top_any _ (op) _ _ _ _ _ _ _ (by simp at *; omega)).mono ?_; rintro e w' ⟨rfl, rfl⟩))
   exact bodyPost_ret (v := .tuple #[FV a1 (bs a2) a3 a4 a5 a6 a7 (bs a8), .bool b]) (by simp [results, Tryz.results142, go_sem, hc, hf, hz]) rfl ⟨rfl, by repeat (first | refine Below.setCell ?_ (by simp <;> omega) _ | refine Below.trans ?_ (hb.mono (by simp <;> omega)) | refine Below.alloc ?_ (by simp <;> omega) _ | exact Below.refl _ _)⟩
  ·
   rw [show Fm.letters ⟨st, op, body, digits, last, purpose, related, block⟩ c = (⟨st, op, body, digits, last, purpose, related, block⟩, false) by simp [Fm.letters, Fm.to, h7, hs, h8, hl]]
   simp only [fv]
   have es7 : (st == 7) = false := by simp only [beq_eq_false_iff_ne, ne_eq]; omega
   have es8 : (st == 8) = false := by simp only [beq_eq_false_iff_ne, ne_eq]; omega
   go_enter Tryz.func142, Tryz.ntmps142
   go_wp2_with (first | (go_at_call 141; refine (to_any _ _ _ _ _ _ _ _ _ _).mono ?_; rintro e w' ⟨rfl, rfl⟩) | (go_at_call 139; refine (room_any _ (op) _ _ _ _ _ _ _).mono ?_; rintro e w' ⟨rfl, rfl⟩) | (go_at_call 145; refine (isDg_any _ _).mono ?_; rintro e w' ⟨rfl, rfl⟩) | (go_at_call 115; refine (isNm_any _ _).mono ?_; rintro e w' ⟨rfl, rfl⟩) | (go_at_call 149; refine (isSc_any _ _).mono ?_; rintro e w' ⟨rfl, rfl⟩) | (go_at_call 179; refine (top_any _ (op) _ _ _ _ _ _ _ (by simp at *; omega)).mono ?_; rintro e w' ⟨rfl, rfl⟩))
   exact bodyPost_ret (v := .tuple #[FV st (bs op) body digits last purpose related (bs block), .bool false]) (by simp [results, Tryz.results142, go_sem]) rfl ⟨rfl, by repeat (first | refine Below.setCell ?_ (by simp <;> omega) _ | refine Below.alloc ?_ (by simp <;> omega) _ | exact Below.refl _ _)⟩
set_option maxHeartbeats 2000000 in
theorem fixed_any (f : Fm) (c : Int) (w : World) (hbl : f.block.length ≤ 1) (h : f.op.length ≤ 1000) :
  Calls Tryz.prog 147 #[fv f, .int .i64 c] w fun e w' => e = .returned (.tuple #[fv (f.fixed c).1, .bool (f.fixed c).2]) ∧ Below w.heap.size w w' := by
 obtain ⟨st, op, body, digits, last, purpose, related, block⟩ := f
 simp only at h hbl
 by_cases h2 : st = 2
 ·subst h2
  by_cases h61 : c = 61
  ·subst h61
   rw [show Fm.fixed ⟨2, op, body, digits, last, purpose, related, block⟩ 61 = (⟨10, op, body, digits, last, purpose, related, block⟩, true) by simp [Fm.fixed, Fm.to]]
   simp only [fv]
   go_enter Tryz.func147, Tryz.ntmps147
   go_wp2_with (first | (go_at_call 141; refine (to_any _ _ _ _ _ _ _ _ _ _).mono ?_; rintro e w' ⟨rfl, rfl⟩) | (go_at_call 139; refine (room_any _ (op) _ _ _ _ _ _ _).mono ?_; rintro e w' ⟨rfl, rfl⟩) | (go_at_call 145; refine (isDg_any _ _).mono ?_; rintro e w' ⟨rfl, rfl⟩) | (go_at_call 115; refine (isNm_any _ _).mono ?_; rintro e w' ⟨rfl, rfl⟩) | (go_at_call 149; refine (isSc_any _ _).mono ?_; rintro e w' ⟨rfl, rfl⟩) | (go_at_call 179; refine (top_any _ (op) _ _ _ _ _ _ _ (by simp at *; omega)).mono ?_; rintro e w' ⟨rfl, rfl⟩))
   exact bodyPost_ret (v := .tuple #[FV 10 (bs op) body digits last purpose related (bs block), .bool true]) (by simp [results, Tryz.results147, go_sem]) rfl ⟨rfl, by repeat (first | refine Below.setCell ?_ (by simp <;> omega) _ | refine Below.alloc ?_ (by simp <;> omega) _ | exact Below.refl _ _)⟩
  ·
   rw [show Fm.fixed ⟨2, op, body, digits, last, purpose, related, block⟩ c = (⟨2, op, body, digits, last, purpose, related, block⟩, false) by simp [Fm.fixed, Fm.to, h61]]
   simp only [fv]
   have ec61 : (c == 61) = false := by simp only [beq_eq_false_iff_ne, ne_eq]; omega
   go_enter Tryz.func147, Tryz.ntmps147
   go_wp2_with (first | (go_at_call 141; refine (to_any _ _ _ _ _ _ _ _ _ _).mono ?_; rintro e w' ⟨rfl, rfl⟩) | (go_at_call 139; refine (room_any _ (op) _ _ _ _ _ _ _).mono ?_; rintro e w' ⟨rfl, rfl⟩) | (go_at_call 145; refine (isDg_any _ _).mono ?_; rintro e w' ⟨rfl, rfl⟩) | (go_at_call 115; refine (isNm_any _ _).mono ?_; rintro e w' ⟨rfl, rfl⟩) | (go_at_call 149; refine (isSc_any _ _).mono ?_; rintro e w' ⟨rfl, rfl⟩) | (go_at_call 179; refine (top_any _ (op) _ _ _ _ _ _ _ (by simp at *; omega)).mono ?_; rintro e w' ⟨rfl, rfl⟩))
   exact bodyPost_ret (v := .tuple #[FV 2 (bs op) body digits last purpose related (bs block), .bool false]) (by simp [results, Tryz.results147, go_sem]) rfl ⟨rfl, by repeat (first | refine Below.setCell ?_ (by simp <;> omega) _ | refine Below.alloc ?_ (by simp <;> omega) _ | exact Below.refl _ _)⟩
 by_cases h3 : st = 3
 ·subst h3
  cases hn : isNm c
  case false =>
   rw [show Fm.fixed ⟨3, op, body, digits, last, purpose, related, block⟩ c = (⟨3, op, body, digits, last, purpose, related, block⟩, false) by simp [Fm.fixed, Fm.to, hn]]
   simp only [fv]
   go_enter Tryz.func147, Tryz.ntmps147
   go_wp2_with (first | (go_at_call 141; refine (to_any _ _ _ _ _ _ _ _ _ _).mono ?_; rintro e w' ⟨rfl, rfl⟩) | (go_at_call 139; refine (room_any _ (op) _ _ _ _ _ _ _).mono ?_; rintro e w' ⟨rfl, rfl⟩) | (go_at_call 145; refine (isDg_any _ _).mono ?_; rintro e w' ⟨rfl, rfl⟩) | (go_at_call 115; refine (isNm_any _ _).mono ?_; rintro e w' ⟨rfl, rfl⟩) | (go_at_call 149; refine (isSc_any _ _).mono ?_; rintro e w' ⟨rfl, rfl⟩) | (go_at_call 179; refine (top_any _ (op) _ _ _ _ _ _ _ (by simp at *; omega)).mono ?_; rintro e w' ⟨rfl, rfl⟩))
   exact bodyPost_ret (v := .tuple #[FV 3 (bs op) body digits last purpose related (bs block), .bool false]) (by simp [results, Tryz.results147, go_sem]) rfl ⟨rfl, by repeat (first | refine Below.setCell ?_ (by simp <;> omega) _ | refine Below.alloc ?_ (by simp <;> omega) _ | exact Below.refl _ _)⟩
  case true =>
   rw [show Fm.fixed ⟨3, op, body, digits, last, purpose, related, block⟩ c = (⟨4, op, body, digits, last, purpose, related, block⟩, true) by simp [Fm.fixed, Fm.to, hn]]
   simp only [fv]
   go_enter Tryz.func147, Tryz.ntmps147
   go_wp2_with (first | (go_at_call 141; refine (to_any _ _ _ _ _ _ _ _ _ _).mono ?_; rintro e w' ⟨rfl, rfl⟩) | (go_at_call 139; refine (room_any _ (op) _ _ _ _ _ _ _).mono ?_; rintro e w' ⟨rfl, rfl⟩) | (go_at_call 145; refine (isDg_any _ _).mono ?_; rintro e w' ⟨rfl, rfl⟩) | (go_at_call 115; refine (isNm_any _ _).mono ?_; rintro e w' ⟨rfl, rfl⟩) | (go_at_call 149; refine (isSc_any _ _).mono ?_; rintro e w' ⟨rfl, rfl⟩) | (go_at_call 179; refine (top_any _ (op) _ _ _ _ _ _ _ (by simp at *; omega)).mono ?_; rintro e w' ⟨rfl, rfl⟩))
   exact bodyPost_ret (v := .tuple #[FV 4 (bs op) body digits last purpose related (bs block), .bool true]) (by simp [results, Tryz.results147, go_sem]) rfl ⟨rfl, by repeat (first | refine Below.setCell ?_ (by simp <;> omega) _ | refine Below.alloc ?_ (by simp <;> omega) _ | exact Below.refl _ _)⟩
 by_cases h5 : st = 5
 ·subst h5
  cases hn : isNm c
  case false =>
   rw [show Fm.fixed ⟨5, op, body, digits, last, purpose, related, block⟩ c = (⟨5, op, body, digits, last, purpose, related, block⟩, false) by simp [Fm.fixed, Fm.to, hn]]
   simp only [fv]
   go_enter Tryz.func147, Tryz.ntmps147
   go_wp2_with (first | (go_at_call 141; refine (to_any _ _ _ _ _ _ _ _ _ _).mono ?_; rintro e w' ⟨rfl, rfl⟩) | (go_at_call 139; refine (room_any _ (op) _ _ _ _ _ _ _).mono ?_; rintro e w' ⟨rfl, rfl⟩) | (go_at_call 145; refine (isDg_any _ _).mono ?_; rintro e w' ⟨rfl, rfl⟩) | (go_at_call 115; refine (isNm_any _ _).mono ?_; rintro e w' ⟨rfl, rfl⟩) | (go_at_call 149; refine (isSc_any _ _).mono ?_; rintro e w' ⟨rfl, rfl⟩) | (go_at_call 179; refine (top_any _ (op) _ _ _ _ _ _ _ (by simp at *; omega)).mono ?_; rintro e w' ⟨rfl, rfl⟩))
   exact bodyPost_ret (v := .tuple #[FV 5 (bs op) body digits last purpose related (bs block), .bool false]) (by simp [results, Tryz.results147, go_sem]) rfl ⟨rfl, by repeat (first | refine Below.setCell ?_ (by simp <;> omega) _ | refine Below.alloc ?_ (by simp <;> omega) _ | exact Below.refl _ _)⟩
  case true =>
   rw [show Fm.fixed ⟨5, op, body, digits, last, purpose, related, block⟩ c = (⟨6, op, body, digits, last, purpose, related, block⟩, true) by simp [Fm.fixed, Fm.to, hn]]
   simp only [fv]
   go_enter Tryz.func147, Tryz.ntmps147
   go_wp2_with (first | (go_at_call 141; refine (to_any _ _ _ _ _ _ _ _ _ _).mono ?_; rintro e w' ⟨rfl, rfl⟩) | (go_at_call 139; refine (room_any _ (op) _ _ _ _ _ _ _).mono ?_; rintro e w' ⟨rfl, rfl⟩) | (go_at_call 145; refine (isDg_any _ _).mono ?_; rintro e w' ⟨rfl, rfl⟩) | (go_at_call 115; refine (isNm_any _ _).mono ?_; rintro e w' ⟨rfl, rfl⟩) | (go_at_call 149; refine (isSc_any _ _).mono ?_; rintro e w' ⟨rfl, rfl⟩) | (go_at_call 179; refine (top_any _ (op) _ _ _ _ _ _ _ (by simp at *; omega)).mono ?_; rintro e w' ⟨rfl, rfl⟩))
   exact bodyPost_ret (v := .tuple #[FV 6 (bs op) body digits last purpose related (bs block), .bool true]) (by simp [results, Tryz.results147, go_sem]) rfl ⟨rfl, by repeat (first | refine Below.setCell ?_ (by simp <;> omega) _ | refine Below.alloc ?_ (by simp <;> omega) _ | exact Below.refl _ _)⟩
 by_cases h4 : st = 4
 ·subst h4
  by_cases h58 : c = 58
  ·subst h58
   rw [show Fm.fixed ⟨4, op, body, digits, last, purpose, related, block⟩ 58 = (⟨7, op, body, digits, last, 1, related, block⟩, true) by simp [Fm.fixed, Fm.to]]
   simp only [fv]
   go_enter Tryz.func147, Tryz.ntmps147
   go_wp2_with (first | (go_at_call 141; refine (to_any _ _ _ _ _ _ _ _ _ _).mono ?_; rintro e w' ⟨rfl, rfl⟩) | (go_at_call 139; refine (room_any _ (op) _ _ _ _ _ _ _).mono ?_; rintro e w' ⟨rfl, rfl⟩) | (go_at_call 145; refine (isDg_any _ _).mono ?_; rintro e w' ⟨rfl, rfl⟩) | (go_at_call 115; refine (isNm_any _ _).mono ?_; rintro e w' ⟨rfl, rfl⟩) | (go_at_call 149; refine (isSc_any _ _).mono ?_; rintro e w' ⟨rfl, rfl⟩) | (go_at_call 179; refine (top_any _ (op) _ _ _ _ _ _ _ (by simp at *; omega)).mono ?_; rintro e w' ⟨rfl, rfl⟩))
   exact bodyPost_ret (v := .tuple #[FV 7 (bs op) body digits last 1 related (bs block), .bool true]) (by simp [results, Tryz.results147, go_sem]) rfl ⟨rfl, by repeat (first | refine Below.setCell ?_ (by simp <;> omega) _ | refine Below.alloc ?_ (by simp <;> omega) _ | exact Below.refl _ _)⟩
  ·
   rw [show Fm.fixed ⟨4, op, body, digits, last, purpose, related, block⟩ c = (⟨4, op, body, digits, last, purpose, related, block⟩, false) by simp [Fm.fixed, Fm.to, h58]]
   simp only [fv]
   have ec58 : (c == 58) = false := by simp only [beq_eq_false_iff_ne, ne_eq]; omega
   go_enter Tryz.func147, Tryz.ntmps147
   go_wp2_with (first | (go_at_call 141; refine (to_any _ _ _ _ _ _ _ _ _ _).mono ?_; rintro e w' ⟨rfl, rfl⟩) | (go_at_call 139; refine (room_any _ (op) _ _ _ _ _ _ _).mono ?_; rintro e w' ⟨rfl, rfl⟩) | (go_at_call 145; refine (isDg_any _ _).mono ?_; rintro e w' ⟨rfl, rfl⟩) | (go_at_call 115; refine (isNm_any _ _).mono ?_; rintro e w' ⟨rfl, rfl⟩) | (go_at_call 149; refine (isSc_any _ _).mono ?_; rintro e w' ⟨rfl, rfl⟩) | (go_at_call 179; refine (top_any _ (op) _ _ _ _ _ _ _ (by simp at *; omega)).mono ?_; rintro e w' ⟨rfl, rfl⟩))
   exact bodyPost_ret (v := .tuple #[FV 4 (bs op) body digits last purpose related (bs block), .bool false]) (by simp [results, Tryz.results147, go_sem]) rfl ⟨rfl, by repeat (first | refine Below.setCell ?_ (by simp <;> omega) _ | refine Below.alloc ?_ (by simp <;> omega) _ | exact Below.refl _ _)⟩
 by_cases h6 : st = 6
 ·subst h6
  by_cases h58 : c = 58
  ·subst h58
   rw [show Fm.fixed ⟨6, op, body, digits, last, purpose, related, block⟩ 58 = (⟨7, op, body, digits, last, 0, related, block⟩, true) by simp [Fm.fixed, Fm.to]]
   simp only [fv]
   go_enter Tryz.func147, Tryz.ntmps147
   go_wp2_with (first | (go_at_call 141; refine (to_any _ _ _ _ _ _ _ _ _ _).mono ?_; rintro e w' ⟨rfl, rfl⟩) | (go_at_call 139; refine (room_any _ (op) _ _ _ _ _ _ _).mono ?_; rintro e w' ⟨rfl, rfl⟩) | (go_at_call 145; refine (isDg_any _ _).mono ?_; rintro e w' ⟨rfl, rfl⟩) | (go_at_call 115; refine (isNm_any _ _).mono ?_; rintro e w' ⟨rfl, rfl⟩) | (go_at_call 149; refine (isSc_any _ _).mono ?_; rintro e w' ⟨rfl, rfl⟩) | (go_at_call 179; refine (top_any _ (op) _ _ _ _ _ _ _ (by simp at *; omega)).mono ?_; rintro e w' ⟨rfl, rfl⟩))
   exact bodyPost_ret (v := .tuple #[FV 7 (bs op) body digits last 0 related (bs block), .bool true]) (by simp [results, Tryz.results147, go_sem]) rfl ⟨rfl, by repeat (first | refine Below.setCell ?_ (by simp <;> omega) _ | refine Below.alloc ?_ (by simp <;> omega) _ | exact Below.refl _ _)⟩
  ·
   rw [show Fm.fixed ⟨6, op, body, digits, last, purpose, related, block⟩ c = (⟨6, op, body, digits, last, purpose, related, block⟩, false) by simp [Fm.fixed, Fm.to, h58]]
   simp only [fv]
   have ec58 : (c == 58) = false := by simp only [beq_eq_false_iff_ne, ne_eq]; omega
   go_enter Tryz.func147, Tryz.ntmps147
   go_wp2_with (first | (go_at_call 141; refine (to_any _ _ _ _ _ _ _ _ _ _).mono ?_; rintro e w' ⟨rfl, rfl⟩) | (go_at_call 139; refine (room_any _ (op) _ _ _ _ _ _ _).mono ?_; rintro e w' ⟨rfl, rfl⟩) | (go_at_call 145; refine (isDg_any _ _).mono ?_; rintro e w' ⟨rfl, rfl⟩) | (go_at_call 115; refine (isNm_any _ _).mono ?_; rintro e w' ⟨rfl, rfl⟩) | (go_at_call 149; refine (isSc_any _ _).mono ?_; rintro e w' ⟨rfl, rfl⟩) | (go_at_call 179; refine (top_any _ (op) _ _ _ _ _ _ _ (by simp at *; omega)).mono ?_; rintro e w' ⟨rfl, rfl⟩))
   exact bodyPost_ret (v := .tuple #[FV 6 (bs op) body digits last purpose related (bs block), .bool false]) (by simp [results, Tryz.results147, go_sem]) rfl ⟨rfl, by repeat (first | refine Below.setCell ?_ (by simp <;> omega) _ | refine Below.alloc ?_ (by simp <;> omega) _ | exact Below.refl _ _)⟩
 by_cases h13 : st = 13
 ·subst h13
  cases hd : isDg c
  case false =>
   rw [show Fm.fixed ⟨13, op, body, digits, last, purpose, related, block⟩ c = (⟨13, op, body, digits, last, purpose, related, block⟩, false) by simp [Fm.fixed, Fm.to, hd]]
   simp only [fv]
   go_enter Tryz.func147, Tryz.ntmps147
   go_wp2_with (first | (go_at_call 141; refine (to_any _ _ _ _ _ _ _ _ _ _).mono ?_; rintro e w' ⟨rfl, rfl⟩) | (go_at_call 139; refine (room_any _ (op) _ _ _ _ _ _ _).mono ?_; rintro e w' ⟨rfl, rfl⟩) | (go_at_call 145; refine (isDg_any _ _).mono ?_; rintro e w' ⟨rfl, rfl⟩) | (go_at_call 115; refine (isNm_any _ _).mono ?_; rintro e w' ⟨rfl, rfl⟩) | (go_at_call 149; refine (isSc_any _ _).mono ?_; rintro e w' ⟨rfl, rfl⟩) | (go_at_call 179; refine (top_any _ (op) _ _ _ _ _ _ _ (by simp at *; omega)).mono ?_; rintro e w' ⟨rfl, rfl⟩))
   exact bodyPost_ret (v := .tuple #[FV 13 (bs op) body digits last purpose related (bs block), .bool false]) (by simp [results, Tryz.results147, go_sem]) rfl ⟨rfl, by repeat (first | refine Below.setCell ?_ (by simp <;> omega) _ | refine Below.alloc ?_ (by simp <;> omega) _ | exact Below.refl _ _)⟩
  case true =>
  by_cases h48 : c = 48
  ·subst h48
   rw [show Fm.fixed ⟨13, op, body, digits, last, purpose, related, block⟩ 48 = (⟨13, op, body, digits, last, purpose, related, block⟩, false) by simp [Fm.fixed, Fm.to, hd]]
   simp only [fv]
   go_enter Tryz.func147, Tryz.ntmps147
   go_wp2_with (first | (go_at_call 141; refine (to_any _ _ _ _ _ _ _ _ _ _).mono ?_; rintro e w' ⟨rfl, rfl⟩) | (go_at_call 139; refine (room_any _ (op) _ _ _ _ _ _ _).mono ?_; rintro e w' ⟨rfl, rfl⟩) | (go_at_call 145; refine (isDg_any _ _).mono ?_; rintro e w' ⟨rfl, rfl⟩) | (go_at_call 115; refine (isNm_any _ _).mono ?_; rintro e w' ⟨rfl, rfl⟩) | (go_at_call 149; refine (isSc_any _ _).mono ?_; rintro e w' ⟨rfl, rfl⟩) | (go_at_call 179; refine (top_any _ (op) _ _ _ _ _ _ _ (by simp at *; omega)).mono ?_; rintro e w' ⟨rfl, rfl⟩))
   exact bodyPost_ret (v := .tuple #[FV 13 (bs op) body digits last purpose related (bs block), .bool false]) (by simp [results, Tryz.results147, go_sem]) rfl ⟨rfl, by repeat (first | refine Below.setCell ?_ (by simp <;> omega) _ | refine Below.alloc ?_ (by simp <;> omega) _ | exact Below.refl _ _)⟩
  ·
   rw [show Fm.fixed ⟨13, op, body, digits, last, purpose, related, block⟩ c = (⟨14, op, body, digits, last, purpose, related, [108]⟩, true) by simp [Fm.fixed, Fm.to, hd, h48]]
   simp only [fv]
   have ec48 : (c != 48) = true := by simp only [bne_iff_ne, ne_eq]; omega
   go_enter Tryz.func147, Tryz.ntmps147
   go_wp2_with (first | (go_at_call 141; refine (to_any _ _ _ _ _ _ _ _ _ _).mono ?_; rintro e w' ⟨rfl, rfl⟩) | (go_at_call 139; refine (room_any _ (op) _ _ _ _ _ _ _).mono ?_; rintro e w' ⟨rfl, rfl⟩) | (go_at_call 145; refine (isDg_any _ _).mono ?_; rintro e w' ⟨rfl, rfl⟩) | (go_at_call 115; refine (isNm_any _ _).mono ?_; rintro e w' ⟨rfl, rfl⟩) | (go_at_call 149; refine (isSc_any _ _).mono ?_; rintro e w' ⟨rfl, rfl⟩) | (go_at_call 179; refine (top_any _ (op) _ _ _ _ _ _ _ (by simp at *; omega)).mono ?_; rintro e w' ⟨rfl, rfl⟩))
   exact bodyPost_ret (v := .tuple #[FV 14 (bs op) body digits last purpose related (⟨#[108]⟩), .bool true]) (by simp [results, Tryz.results147, go_sem]) rfl ⟨by rfl, by repeat (first | refine Below.setCell ?_ (by simp <;> omega) _ | refine Below.alloc ?_ (by simp <;> omega) _ | exact Below.refl _ _)⟩
 by_cases h14 : st = 14
 ·subst h14
  by_cases h123 : c = 123
  ·subst h123
   rw [show Fm.fixed ⟨14, op, body, digits, last, purpose, related, block⟩ 123 = (⟨0, block ++ op, body, digits, last, purpose, related, block⟩, true) by simp [Fm.fixed, Fm.to]]
   simp only [fv]
   go_enter Tryz.func147, Tryz.ntmps147
   go_wp2_with (first | (go_at_call 141; refine (to_any _ _ _ _ _ _ _ _ _ _).mono ?_; rintro e w' ⟨rfl, rfl⟩) | (go_at_call 139; refine (room_any _ (op) _ _ _ _ _ _ _).mono ?_; rintro e w' ⟨rfl, rfl⟩) | (go_at_call 145; refine (isDg_any _ _).mono ?_; rintro e w' ⟨rfl, rfl⟩) | (go_at_call 115; refine (isNm_any _ _).mono ?_; rintro e w' ⟨rfl, rfl⟩) | (go_at_call 149; refine (isSc_any _ _).mono ?_; rintro e w' ⟨rfl, rfl⟩) | (go_at_call 179; refine (top_any _ (op) _ _ _ _ _ _ _ (by simp at *; omega)).mono ?_; rintro e w' ⟨rfl, rfl⟩))
   exact bodyPost_ret (v := .tuple #[FV 0 (bs op ++ bs block) body digits last purpose related (bs block), .bool true]) (by simp [results, Tryz.results147, go_sem]) rfl ⟨by rw [bs_append], by repeat (first | refine Below.setCell ?_ (by simp <;> omega) _ | refine Below.alloc ?_ (by simp <;> omega) _ | exact Below.refl _ _)⟩
  ·
   rw [show Fm.fixed ⟨14, op, body, digits, last, purpose, related, block⟩ c = (⟨14, op, body, digits, last, purpose, related, block⟩, false) by simp [Fm.fixed, Fm.to, h123]]
   simp only [fv]
   have ec123 : (c == 123) = false := by simp only [beq_eq_false_iff_ne, ne_eq]; omega
   go_enter Tryz.func147, Tryz.ntmps147
   go_wp2_with (first | (go_at_call 141; refine (to_any _ _ _ _ _ _ _ _ _ _).mono ?_; rintro e w' ⟨rfl, rfl⟩) | (go_at_call 139; refine (room_any _ (op) _ _ _ _ _ _ _).mono ?_; rintro e w' ⟨rfl, rfl⟩) | (go_at_call 145; refine (isDg_any _ _).mono ?_; rintro e w' ⟨rfl, rfl⟩) | (go_at_call 115; refine (isNm_any _ _).mono ?_; rintro e w' ⟨rfl, rfl⟩) | (go_at_call 149; refine (isSc_any _ _).mono ?_; rintro e w' ⟨rfl, rfl⟩) | (go_at_call 179; refine (top_any _ (op) _ _ _ _ _ _ _ (by simp at *; omega)).mono ?_; rintro e w' ⟨rfl, rfl⟩))
   exact bodyPost_ret (v := .tuple #[FV 14 (bs op) body digits last purpose related (bs block), .bool false]) (by simp [results, Tryz.results147, go_sem]) rfl ⟨rfl, by repeat (first | refine Below.setCell ?_ (by simp <;> omega) _ | refine Below.alloc ?_ (by simp <;> omega) _ | exact Below.refl _ _)⟩
 ·
  rw [show Fm.fixed ⟨st, op, body, digits, last, purpose, related, block⟩ c = (⟨st, op, body, digits, last, purpose, related, block⟩, false) by simp [Fm.fixed, Fm.to, h2, h3, h4, h5, h6, h13, h14]]
  simp only [fv]
  have es2 : (st == 2) = false := by simp only [beq_eq_false_iff_ne, ne_eq]; omega
  have es3 : (st == 3) = false := by simp only [beq_eq_false_iff_ne, ne_eq]; omega
  have es4 : (st == 4) = false := by simp only [beq_eq_false_iff_ne, ne_eq]; omega
  have es5 : (st == 5) = false := by simp only [beq_eq_false_iff_ne, ne_eq]; omega
  have es6 : (st == 6) = false := by simp only [beq_eq_false_iff_ne, ne_eq]; omega
  have es13 : (st == 13) = false := by simp only [beq_eq_false_iff_ne, ne_eq]; omega
  have es14 : (st == 14) = false := by simp only [beq_eq_false_iff_ne, ne_eq]; omega
  go_enter Tryz.func147, Tryz.ntmps147
  go_wp2_with (first | (go_at_call 141; refine (to_any _ _ _ _ _ _ _ _ _ _).mono ?_; rintro e w' ⟨rfl, rfl⟩) | (go_at_call 139; refine (room_any _ (op) _ _ _ _ _ _ _).mono ?_; rintro e w' ⟨rfl, rfl⟩) | (go_at_call 145; refine (isDg_any _ _).mono ?_; rintro e w' ⟨rfl, rfl⟩) | (go_at_call 115; refine (isNm_any _ _).mono ?_; rintro e w' ⟨rfl, rfl⟩) | (go_at_call 149; refine (isSc_any _ _).mono ?_; rintro e w' ⟨rfl, rfl⟩) | (go_at_call 179; refine (top_any _ (op) _ _ _ _ _ _ _ (by simp at *; omega)).mono ?_; rintro e w' ⟨rfl, rfl⟩))
  exact bodyPost_ret (v := .tuple #[FV st (bs op) body digits last purpose related (bs block), .bool false]) (by simp [results, Tryz.results147, go_sem]) rfl ⟨rfl, by repeat (first | refine Below.setCell ?_ (by simp <;> omega) _ | refine Below.alloc ?_ (by simp <;> omega) _ | exact Below.refl _ _)⟩
end Go.Proofs.YtdgmoiflahoihaaGreatDoor
namespace Go.Proofs.YtdgmoiflahoihaaGreatDoor
open Go.RowKit
set_option linter.unusedSimpArgs false
set_option linter.unusedVariables false
set_option maxHeartbeats 2000000 in
theorem rule_any (f : Fm) (c : Int) (w : World) (h : f.op.length ≤ 1000) :
  Calls Tryz.prog 140 #[fv f, .int .i64 c] w fun e w' => e = .returned (.tuple #[fv (f.rule c).1, .bool (f.rule c).2]) ∧ Below w.heap.size w w' := by
 obtain ⟨st, op, body, digits, last, purpose, related, block⟩ := f
 simp only at h
 by_cases h63 : c = 63
 ·subst h63
  have hn : isNm 63 = false := by decide
  cases body
  case false =>
   rw [show Fm.rule ⟨st, op, false, digits, last, purpose, related, block⟩ 63 = (⟨5, op, false, digits, last, purpose, related, block⟩, true) by simp [Fm.rule, Fm.to]]
   simp only [fv]
   go_enter Tryz.func140, Tryz.ntmps140
   go_wp2_with (first | (go_at_call 141; refine (to_any _ _ _ _ _ _ _ _ _ _).mono ?_; rintro e w' ⟨rfl, rfl⟩) | (go_at_call 139; refine (room_any _ (op) _ _ _ _ _ _ _).mono ?_; rintro e w' ⟨rfl, rfl⟩) | (go_at_call 145; refine (isDg_any _ _).mono ?_; rintro e w' ⟨rfl, rfl⟩) | (go_at_call 115; refine (isNm_any _ _).mono ?_; rintro e w' ⟨rfl, rfl⟩) | (go_at_call 149; refine (isSc_any _ _).mono ?_; rintro e w' ⟨rfl, rfl⟩) | (go_at_call 179; refine (top_any _ (op) _ _ _ _ _ _ _ h).mono ?_; rintro e w' ⟨rfl, rfl⟩))
   exact bodyPost_ret (v := .tuple #[FV 5 (bs op) false digits last purpose related (bs block), .bool true]) (by simp [results, Tryz.results140, go_sem]) rfl ⟨rfl, by repeat (first | refine Below.setCell ?_ (by simp <;> omega) _ | refine Below.alloc ?_ (by simp <;> omega) _ | exact Below.refl _ _)⟩
  case true =>
   rw [show Fm.rule ⟨st, op, true, digits, last, purpose, related, block⟩ 63 = (⟨st, op, true, digits, last, purpose, false, block⟩, false) by simp [Fm.rule, Fm.to, Fm.top, hn]]
   simp only [fv]
   go_enter Tryz.func140, Tryz.ntmps140
   go_wp2_with (first | (go_at_call 141; refine (to_any _ _ _ _ _ _ _ _ _ _).mono ?_; rintro e w' ⟨rfl, rfl⟩) | (go_at_call 139; refine (room_any _ (op) _ _ _ _ _ _ _).mono ?_; rintro e w' ⟨rfl, rfl⟩) | (go_at_call 145; refine (isDg_any _ _).mono ?_; rintro e w' ⟨rfl, rfl⟩) | (go_at_call 115; refine (isNm_any _ _).mono ?_; rintro e w' ⟨rfl, rfl⟩) | (go_at_call 149; refine (isSc_any _ _).mono ?_; rintro e w' ⟨rfl, rfl⟩) | (go_at_call 179; refine (top_any _ (op) _ _ _ _ _ _ _ h).mono ?_; rintro e w' ⟨rfl, rfl⟩))
   exact bodyPost_ret (v := .tuple #[FV st (bs op) true digits last purpose false (bs block), .bool false]) (by simp [results, Tryz.results140, go_sem]) rfl ⟨rfl, by repeat (first | refine Below.setCell ?_ (by simp <;> omega) _ | refine Below.alloc ?_ (by simp <;> omega) _ | exact Below.refl _ _)⟩
 by_cases h33 : c = 33
 ·subst h33
  have hn : isNm 33 = false := by decide
  cases body
  case false =>
   rw [show Fm.rule ⟨st, op, false, digits, last, purpose, related, block⟩ 33 = (⟨5, op, false, digits, last, purpose, related, block⟩, true) by simp [Fm.rule, Fm.to]]
   simp only [fv]
   go_enter Tryz.func140, Tryz.ntmps140
   go_wp2_with (first | (go_at_call 141; refine (to_any _ _ _ _ _ _ _ _ _ _).mono ?_; rintro e w' ⟨rfl, rfl⟩) | (go_at_call 139; refine (room_any _ (op) _ _ _ _ _ _ _).mono ?_; rintro e w' ⟨rfl, rfl⟩) | (go_at_call 145; refine (isDg_any _ _).mono ?_; rintro e w' ⟨rfl, rfl⟩) | (go_at_call 115; refine (isNm_any _ _).mono ?_; rintro e w' ⟨rfl, rfl⟩) | (go_at_call 149; refine (isSc_any _ _).mono ?_; rintro e w' ⟨rfl, rfl⟩) | (go_at_call 179; refine (top_any _ (op) _ _ _ _ _ _ _ h).mono ?_; rintro e w' ⟨rfl, rfl⟩))
   exact bodyPost_ret (v := .tuple #[FV 5 (bs op) false digits last purpose related (bs block), .bool true]) (by simp [results, Tryz.results140, go_sem]) rfl ⟨rfl, by repeat (first | refine Below.setCell ?_ (by simp <;> omega) _ | refine Below.alloc ?_ (by simp <;> omega) _ | exact Below.refl _ _)⟩
  case true =>
   rw [show Fm.rule ⟨st, op, true, digits, last, purpose, related, block⟩ 33 = (⟨st, op, true, digits, last, purpose, false, block⟩, false) by simp [Fm.rule, Fm.to, Fm.top, hn]]
   simp only [fv]
   go_enter Tryz.func140, Tryz.ntmps140
   go_wp2_with (first | (go_at_call 141; refine (to_any _ _ _ _ _ _ _ _ _ _).mono ?_; rintro e w' ⟨rfl, rfl⟩) | (go_at_call 139; refine (room_any _ (op) _ _ _ _ _ _ _).mono ?_; rintro e w' ⟨rfl, rfl⟩) | (go_at_call 145; refine (isDg_any _ _).mono ?_; rintro e w' ⟨rfl, rfl⟩) | (go_at_call 115; refine (isNm_any _ _).mono ?_; rintro e w' ⟨rfl, rfl⟩) | (go_at_call 149; refine (isSc_any _ _).mono ?_; rintro e w' ⟨rfl, rfl⟩) | (go_at_call 179; refine (top_any _ (op) _ _ _ _ _ _ _ h).mono ?_; rintro e w' ⟨rfl, rfl⟩))
   exact bodyPost_ret (v := .tuple #[FV st (bs op) true digits last purpose false (bs block), .bool false]) (by simp [results, Tryz.results140, go_sem]) rfl ⟨rfl, by repeat (first | refine Below.setCell ?_ (by simp <;> omega) _ | refine Below.alloc ?_ (by simp <;> omega) _ | exact Below.refl _ _)⟩
 by_cases h125 : c = 125
 ·subst h125
  have hn : isNm 125 = false := by decide
  cases op with
  | nil =>
   rw [show Fm.rule ⟨st, [], body, digits, last, purpose, related, block⟩ 125 = (⟨st, [], true, digits, last, purpose, false, block⟩, false) by simp [Fm.rule, Fm.to, Fm.top, hn]]
   simp only [fv]
   go_enter Tryz.func140, Tryz.ntmps140
   go_wp2_with (first | (go_at_call 141; refine (to_any _ _ _ _ _ _ _ _ _ _).mono ?_; rintro e w' ⟨rfl, rfl⟩) | (go_at_call 139; refine (room_any _ ([]) _ _ _ _ _ _ _).mono ?_; rintro e w' ⟨rfl, rfl⟩) | (go_at_call 145; refine (isDg_any _ _).mono ?_; rintro e w' ⟨rfl, rfl⟩) | (go_at_call 115; refine (isNm_any _ _).mono ?_; rintro e w' ⟨rfl, rfl⟩) | (go_at_call 149; refine (isSc_any _ _).mono ?_; rintro e w' ⟨rfl, rfl⟩) | (go_at_call 179; refine (top_any _ ([]) _ _ _ _ _ _ _ h).mono ?_; rintro e w' ⟨rfl, rfl⟩))
   exact bodyPost_ret (v := .tuple #[FV st (bs ([])) true digits last purpose false (bs block), .bool false]) (by simp [results, Tryz.results140, go_sem]) rfl ⟨rfl, by repeat (first | refine Below.setCell ?_ (by simp <;> omega) _ | refine Below.alloc ?_ (by simp <;> omega) _ | exact Below.refl _ _)⟩
  | cons a l =>
   have hl : l.length ≤ 1000 := by simp at h; omega
   by_cases a49 : a = 49
   ·subst a49
    rw [show Fm.rule ⟨st, 49 :: l, body, digits, last, purpose, related, block⟩ 125 = (⟨1, l, body, digits, last, purpose, related, block⟩, true) by simp [Fm.rule, Fm.to, Fm.top]]
    simp only [fv]
    go_enter Tryz.func140, Tryz.ntmps140
    go_wp2_with (first | (go_at_call 141; refine (to_any _ _ _ _ _ _ _ _ _ _).mono ?_; rintro e w' ⟨rfl, rfl⟩) | (go_at_call 139; refine (room_any _ (49 :: l) _ _ _ _ _ _ _).mono ?_; rintro e w' ⟨rfl, rfl⟩) | (go_at_call 145; refine (isDg_any _ _).mono ?_; rintro e w' ⟨rfl, rfl⟩) | (go_at_call 115; refine (isNm_any _ _).mono ?_; rintro e w' ⟨rfl, rfl⟩) | (go_at_call 149; refine (isSc_any _ _).mono ?_; rintro e w' ⟨rfl, rfl⟩) | (go_at_call 179; refine (top_any _ (49 :: l) _ _ _ _ _ _ _ h).mono ?_; rintro e w' ⟨rfl, rfl⟩))
    exact bodyPost_ret (v := .tuple #[FV 1 ((bs (49 :: l)).extract 0 l.length) body digits last purpose related (bs block), .bool true]) (by simp [results, Tryz.results140, go_sem]) rfl ⟨by rw [bs_pop], by repeat (first | refine Below.setCell ?_ (by simp <;> omega) _ | refine Below.alloc ?_ (by simp <;> omega) _ | exact Below.refl _ _)⟩
   by_cases a50 : a = 50
   ·subst a50
    rw [show Fm.rule ⟨st, 50 :: l, body, digits, last, purpose, related, block⟩ 125 = (⟨0, l, body, digits, last, purpose, related, block⟩, true) by simp [Fm.rule, Fm.to, Fm.top]]
    simp only [fv]
    go_enter Tryz.func140, Tryz.ntmps140
    go_wp2_with (first | (go_at_call 141; refine (to_any _ _ _ _ _ _ _ _ _ _).mono ?_; rintro e w' ⟨rfl, rfl⟩) | (go_at_call 139; refine (room_any _ (50 :: l) _ _ _ _ _ _ _).mono ?_; rintro e w' ⟨rfl, rfl⟩) | (go_at_call 145; refine (isDg_any _ _).mono ?_; rintro e w' ⟨rfl, rfl⟩) | (go_at_call 115; refine (isNm_any _ _).mono ?_; rintro e w' ⟨rfl, rfl⟩) | (go_at_call 149; refine (isSc_any _ _).mono ?_; rintro e w' ⟨rfl, rfl⟩) | (go_at_call 179; refine (top_any _ (50 :: l) _ _ _ _ _ _ _ h).mono ?_; rintro e w' ⟨rfl, rfl⟩))
    exact bodyPost_ret (v := .tuple #[FV 0 ((bs (50 :: l)).extract 0 l.length) body digits last purpose related (bs block), .bool true]) (by simp [results, Tryz.results140, go_sem]) rfl ⟨by rw [bs_pop], by repeat (first | refine Below.setCell ?_ (by simp <;> omega) _ | refine Below.alloc ?_ (by simp <;> omega) _ | exact Below.refl _ _)⟩
   by_cases a108 : a = 108
   ·subst a108
    rw [show Fm.rule ⟨st, 108 :: l, body, digits, last, purpose, related, block⟩ 125 = (⟨0, l, body, digits, last, purpose, related, block⟩, true) by simp [Fm.rule, Fm.to, Fm.top]]
    simp only [fv]
    go_enter Tryz.func140, Tryz.ntmps140
    go_wp2_with (first | (go_at_call 141; refine (to_any _ _ _ _ _ _ _ _ _ _).mono ?_; rintro e w' ⟨rfl, rfl⟩) | (go_at_call 139; refine (room_any _ (108 :: l) _ _ _ _ _ _ _).mono ?_; rintro e w' ⟨rfl, rfl⟩) | (go_at_call 145; refine (isDg_any _ _).mono ?_; rintro e w' ⟨rfl, rfl⟩) | (go_at_call 115; refine (isNm_any _ _).mono ?_; rintro e w' ⟨rfl, rfl⟩) | (go_at_call 149; refine (isSc_any _ _).mono ?_; rintro e w' ⟨rfl, rfl⟩) | (go_at_call 179; refine (top_any _ (108 :: l) _ _ _ _ _ _ _ h).mono ?_; rintro e w' ⟨rfl, rfl⟩))
    exact bodyPost_ret (v := .tuple #[FV 0 ((bs (108 :: l)).extract 0 l.length) body digits last purpose related (bs block), .bool true]) (by simp [results, Tryz.results140, go_sem]) rfl ⟨by rw [bs_pop], by repeat (first | refine Below.setCell ?_ (by simp <;> omega) _ | refine Below.alloc ?_ (by simp <;> omega) _ | exact Below.refl _ _)⟩
   ·
    rw [show Fm.rule ⟨st, a :: l, body, digits, last, purpose, related, block⟩ 125 = (⟨st, a :: l, true, digits, last, purpose, false, block⟩, false) by simp [Fm.rule, Fm.to, Fm.top, hn, a49, a50, a108]]
    simp only [fv]
    have k49 : ((a.toNat : Int) == 49) = false := u8_ne (b := 49) a49
    have k50 : ((a.toNat : Int) == 50) = false := u8_ne (b := 50) a50
    have k108 : ((a.toNat : Int) == 108) = false := u8_ne (b := 108) a108
    go_enter Tryz.func140, Tryz.ntmps140
    go_wp2_with (first | (go_at_call 141; refine (to_any _ _ _ _ _ _ _ _ _ _).mono ?_; rintro e w' ⟨rfl, rfl⟩) | (go_at_call 139; refine (room_any _ (a :: l) _ _ _ _ _ _ _).mono ?_; rintro e w' ⟨rfl, rfl⟩) | (go_at_call 145; refine (isDg_any _ _).mono ?_; rintro e w' ⟨rfl, rfl⟩) | (go_at_call 115; refine (isNm_any _ _).mono ?_; rintro e w' ⟨rfl, rfl⟩) | (go_at_call 149; refine (isSc_any _ _).mono ?_; rintro e w' ⟨rfl, rfl⟩) | (go_at_call 179; refine (top_any _ (a :: l) _ _ _ _ _ _ _ h).mono ?_; rintro e w' ⟨rfl, rfl⟩))
    exact bodyPost_ret (v := .tuple #[FV st (bs (a :: l)) true digits last purpose false (bs block), .bool false]) (by simp [results, Tryz.results140, go_sem]) rfl ⟨rfl, by repeat (first | refine Below.setCell ?_ (by simp <;> omega) _ | refine Below.alloc ?_ (by simp <;> omega) _ | exact Below.refl _ _)⟩
 cases hn : isNm c
 case true =>
  rw [show Fm.rule ⟨st, op, body, digits, last, purpose, related, block⟩ c = (⟨2, op, true, digits, last, purpose, false, block⟩, true) by simp [Fm.rule, Fm.to, hn, h63, h33, h125]]
  simp only [fv]
  have ec63 : (c == 63) = false := by simp only [beq_eq_false_iff_ne, ne_eq]; omega
  have ec33 : (c == 33) = false := by simp only [beq_eq_false_iff_ne, ne_eq]; omega
  have ec125 : (c == 125) = false := by simp only [beq_eq_false_iff_ne, ne_eq]; omega
  go_enter Tryz.func140, Tryz.ntmps140
  go_wp2_with (first | (go_at_call 141; refine (to_any _ _ _ _ _ _ _ _ _ _).mono ?_; rintro e w' ⟨rfl, rfl⟩) | (go_at_call 139; refine (room_any _ (op) _ _ _ _ _ _ _).mono ?_; rintro e w' ⟨rfl, rfl⟩) | (go_at_call 145; refine (isDg_any _ _).mono ?_; rintro e w' ⟨rfl, rfl⟩) | (go_at_call 115; refine (isNm_any _ _).mono ?_; rintro e w' ⟨rfl, rfl⟩) | (go_at_call 149; refine (isSc_any _ _).mono ?_; rintro e w' ⟨rfl, rfl⟩) | (go_at_call 179; refine (top_any _ (op) _ _ _ _ _ _ _ h).mono ?_; rintro e w' ⟨rfl, rfl⟩))
  exact bodyPost_ret (v := .tuple #[FV 2 (bs op) true digits last purpose false (bs block), .bool true]) (by simp [results, Tryz.results140, go_sem]) rfl ⟨rfl, by repeat (first | refine Below.setCell ?_ (by simp <;> omega) _ | refine Below.alloc ?_ (by simp <;> omega) _ | exact Below.refl _ _)⟩
 case false =>
 by_cases h94 : c = 94
 ·subst h94
  rw [show Fm.rule ⟨st, op, body, digits, last, purpose, related, block⟩ 94 = (⟨3, op, true, digits, last, purpose, false, block⟩, true) by simp [Fm.rule, Fm.to, hn]]
  simp only [fv]
  go_enter Tryz.func140, Tryz.ntmps140
  go_wp2_with (first | (go_at_call 141; refine (to_any _ _ _ _ _ _ _ _ _ _).mono ?_; rintro e w' ⟨rfl, rfl⟩) | (go_at_call 139; refine (room_any _ (op) _ _ _ _ _ _ _).mono ?_; rintro e w' ⟨rfl, rfl⟩) | (go_at_call 145; refine (isDg_any _ _).mono ?_; rintro e w' ⟨rfl, rfl⟩) | (go_at_call 115; refine (isNm_any _ _).mono ?_; rintro e w' ⟨rfl, rfl⟩) | (go_at_call 149; refine (isSc_any _ _).mono ?_; rintro e w' ⟨rfl, rfl⟩) | (go_at_call 179; refine (top_any _ (op) _ _ _ _ _ _ _ h).mono ?_; rintro e w' ⟨rfl, rfl⟩))
  exact bodyPost_ret (v := .tuple #[FV 3 (bs op) true digits last purpose false (bs block), .bool true]) (by simp [results, Tryz.results140, go_sem]) rfl ⟨rfl, by repeat (first | refine Below.setCell ?_ (by simp <;> omega) _ | refine Below.alloc ?_ (by simp <;> omega) _ | exact Below.refl _ _)⟩
 by_cases h62 : c = 62
 ·subst h62
  rw [show Fm.rule ⟨st, op, body, digits, last, purpose, related, block⟩ 62 = (⟨7, op, true, digits, last, 2, false, block⟩, true) by simp [Fm.rule, Fm.to, hn]]
  simp only [fv]
  go_enter Tryz.func140, Tryz.ntmps140
  go_wp2_with (first | (go_at_call 141; refine (to_any _ _ _ _ _ _ _ _ _ _).mono ?_; rintro e w' ⟨rfl, rfl⟩) | (go_at_call 139; refine (room_any _ (op) _ _ _ _ _ _ _).mono ?_; rintro e w' ⟨rfl, rfl⟩) | (go_at_call 145; refine (isDg_any _ _).mono ?_; rintro e w' ⟨rfl, rfl⟩) | (go_at_call 115; refine (isNm_any _ _).mono ?_; rintro e w' ⟨rfl, rfl⟩) | (go_at_call 149; refine (isSc_any _ _).mono ?_; rintro e w' ⟨rfl, rfl⟩) | (go_at_call 179; refine (top_any _ (op) _ _ _ _ _ _ _ h).mono ?_; rintro e w' ⟨rfl, rfl⟩))
  exact bodyPost_ret (v := .tuple #[FV 7 (bs op) true digits last 2 false (bs block), .bool true]) (by simp [results, Tryz.results140, go_sem]) rfl ⟨rfl, by repeat (first | refine Below.setCell ?_ (by simp <;> omega) _ | refine Below.alloc ?_ (by simp <;> omega) _ | exact Below.refl _ _)⟩
 by_cases h40 : c = 40
 ·subst h40
  by_cases hr : op.length < 8
  ·
   rw [show Fm.rule ⟨st, op, body, digits, last, purpose, related, block⟩ 40 = (⟨10, 99 :: op, true, digits, last, purpose, false, block⟩, true) by simp [Fm.rule, Fm.to, hn, hr]]
   simp only [fv]
   go_enter Tryz.func140, Tryz.ntmps140
   go_wp2_with (first | (go_at_call 141; refine (to_any _ _ _ _ _ _ _ _ _ _).mono ?_; rintro e w' ⟨rfl, rfl⟩) | (go_at_call 139; refine (room_any _ (op) _ _ _ _ _ _ _).mono ?_; rintro e w' ⟨rfl, rfl⟩) | (go_at_call 145; refine (isDg_any _ _).mono ?_; rintro e w' ⟨rfl, rfl⟩) | (go_at_call 115; refine (isNm_any _ _).mono ?_; rintro e w' ⟨rfl, rfl⟩) | (go_at_call 149; refine (isSc_any _ _).mono ?_; rintro e w' ⟨rfl, rfl⟩) | (go_at_call 179; refine (top_any _ (op) _ _ _ _ _ _ _ h).mono ?_; rintro e w' ⟨rfl, rfl⟩))
   exact bodyPost_ret (v := .tuple #[FV 10 (bs op ++ ⟨#[99]⟩) true digits last purpose false (bs block), .bool true]) (by simp [results, Tryz.results140, go_sem]) rfl ⟨by rw [bs_push], by repeat (first | refine Below.setCell ?_ (by simp <;> omega) _ | refine Below.alloc ?_ (by simp <;> omega) _ | exact Below.refl _ _)⟩
  ·
   rw [show Fm.rule ⟨st, op, body, digits, last, purpose, related, block⟩ 40 = (⟨st, op, true, digits, last, purpose, false, block⟩, false) by simp [Fm.rule, Fm.to, hn, hr]]
   simp only [fv]
   go_enter Tryz.func140, Tryz.ntmps140
   go_wp2_with (first | (go_at_call 141; refine (to_any _ _ _ _ _ _ _ _ _ _).mono ?_; rintro e w' ⟨rfl, rfl⟩) | (go_at_call 139; refine (room_any _ (op) _ _ _ _ _ _ _).mono ?_; rintro e w' ⟨rfl, rfl⟩) | (go_at_call 145; refine (isDg_any _ _).mono ?_; rintro e w' ⟨rfl, rfl⟩) | (go_at_call 115; refine (isNm_any _ _).mono ?_; rintro e w' ⟨rfl, rfl⟩) | (go_at_call 149; refine (isSc_any _ _).mono ?_; rintro e w' ⟨rfl, rfl⟩) | (go_at_call 179; refine (top_any _ (op) _ _ _ _ _ _ _ h).mono ?_; rintro e w' ⟨rfl, rfl⟩))
   exact bodyPost_ret (v := .tuple #[FV st (bs op) true digits last purpose false (bs block), .bool false]) (by simp [results, Tryz.results140, go_sem]) rfl ⟨rfl, by repeat (first | refine Below.setCell ?_ (by simp <;> omega) _ | refine Below.alloc ?_ (by simp <;> omega) _ | exact Below.refl _ _)⟩
 by_cases h42 : c = 42
 ·subst h42
  by_cases hr : op.length < 8
  ·
   rw [show Fm.rule ⟨st, op, body, digits, last, purpose, related, block⟩ 42 = (⟨13, op, true, digits, last, purpose, false, block⟩, true) by simp [Fm.rule, Fm.to, hn, hr]]
   simp only [fv]
   go_enter Tryz.func140, Tryz.ntmps140
   go_wp2_with (first | (go_at_call 141; refine (to_any _ _ _ _ _ _ _ _ _ _).mono ?_; rintro e w' ⟨rfl, rfl⟩) | (go_at_call 139; refine (room_any _ (op) _ _ _ _ _ _ _).mono ?_; rintro e w' ⟨rfl, rfl⟩) | (go_at_call 145; refine (isDg_any _ _).mono ?_; rintro e w' ⟨rfl, rfl⟩) | (go_at_call 115; refine (isNm_any _ _).mono ?_; rintro e w' ⟨rfl, rfl⟩) | (go_at_call 149; refine (isSc_any _ _).mono ?_; rintro e w' ⟨rfl, rfl⟩) | (go_at_call 179; refine (top_any _ (op) _ _ _ _ _ _ _ h).mono ?_; rintro e w' ⟨rfl, rfl⟩))
   exact bodyPost_ret (v := .tuple #[FV 13 (bs op) true digits last purpose false (bs block), .bool true]) (by simp [results, Tryz.results140, go_sem]) rfl ⟨rfl, by repeat (first | refine Below.setCell ?_ (by simp <;> omega) _ | refine Below.alloc ?_ (by simp <;> omega) _ | exact Below.refl _ _)⟩
  ·
   rw [show Fm.rule ⟨st, op, body, digits, last, purpose, related, block⟩ 42 = (⟨st, op, true, digits, last, purpose, false, block⟩, false) by simp [Fm.rule, Fm.to, hn, hr]]
   simp only [fv]
   go_enter Tryz.func140, Tryz.ntmps140
   go_wp2_with (first | (go_at_call 141; refine (to_any _ _ _ _ _ _ _ _ _ _).mono ?_; rintro e w' ⟨rfl, rfl⟩) | (go_at_call 139; refine (room_any _ (op) _ _ _ _ _ _ _).mono ?_; rintro e w' ⟨rfl, rfl⟩) | (go_at_call 145; refine (isDg_any _ _).mono ?_; rintro e w' ⟨rfl, rfl⟩) | (go_at_call 115; refine (isNm_any _ _).mono ?_; rintro e w' ⟨rfl, rfl⟩) | (go_at_call 149; refine (isSc_any _ _).mono ?_; rintro e w' ⟨rfl, rfl⟩) | (go_at_call 179; refine (top_any _ (op) _ _ _ _ _ _ _ h).mono ?_; rintro e w' ⟨rfl, rfl⟩))
   exact bodyPost_ret (v := .tuple #[FV st (bs op) true digits last purpose false (bs block), .bool false]) (by simp [results, Tryz.results140, go_sem]) rfl ⟨rfl, by repeat (first | refine Below.setCell ?_ (by simp <;> omega) _ | refine Below.alloc ?_ (by simp <;> omega) _ | exact Below.refl _ _)⟩
 ·
  rw [show Fm.rule ⟨st, op, body, digits, last, purpose, related, block⟩ c = (⟨st, op, true, digits, last, purpose, false, block⟩, false) by simp [Fm.rule, Fm.to, hn, h94, h62, h40, h42, h63, h33, h125]]
  simp only [fv]
  have ec63 : (c == 63) = false := by simp only [beq_eq_false_iff_ne, ne_eq]; omega
  have ec33 : (c == 33) = false := by simp only [beq_eq_false_iff_ne, ne_eq]; omega
  have ec125 : (c == 125) = false := by simp only [beq_eq_false_iff_ne, ne_eq]; omega
  have ec94 : (c == 94) = false := by simp only [beq_eq_false_iff_ne, ne_eq]; omega
  have ec62 : (c == 62) = false := by simp only [beq_eq_false_iff_ne, ne_eq]; omega
  have ec40 : (c == 40) = false := by simp only [beq_eq_false_iff_ne, ne_eq]; omega
  have ec42 : (c == 42) = false := by simp only [beq_eq_false_iff_ne, ne_eq]; omega
  go_enter Tryz.func140, Tryz.ntmps140
  go_wp2_with (first | (go_at_call 141; refine (to_any _ _ _ _ _ _ _ _ _ _).mono ?_; rintro e w' ⟨rfl, rfl⟩) | (go_at_call 139; refine (room_any _ (op) _ _ _ _ _ _ _).mono ?_; rintro e w' ⟨rfl, rfl⟩) | (go_at_call 145; refine (isDg_any _ _).mono ?_; rintro e w' ⟨rfl, rfl⟩) | (go_at_call 115; refine (isNm_any _ _).mono ?_; rintro e w' ⟨rfl, rfl⟩) | (go_at_call 149; refine (isSc_any _ _).mono ?_; rintro e w' ⟨rfl, rfl⟩) | (go_at_call 179; refine (top_any _ (op) _ _ _ _ _ _ _ h).mono ?_; rintro e w' ⟨rfl, rfl⟩))
  exact bodyPost_ret (v := .tuple #[FV st (bs op) true digits last purpose false (bs block), .bool false]) (by simp [results, Tryz.results140, go_sem]) rfl ⟨rfl, by repeat (first | refine Below.setCell ?_ (by simp <;> omega) _ | refine Below.alloc ?_ (by simp <;> omega) _ | exact Below.refl _ _)⟩
end Go.Proofs.YtdgmoiflahoihaaGreatDoor
namespace Go.Proofs.YtdgmoiflahoihaaGreatDoor
open Go.RowKit
set_option linter.unusedSimpArgs false
set_option linter.unusedVariables false
set_option maxHeartbeats 2000000 in
theorem after_any (f : Fm) (c : Int) (w : World) (h : f.op.length ≤ 1000) :
  Calls Tryz.prog 146 #[fv f, .int .i64 c] w fun e w' => e = .returned (.tuple #[fv (f.after c).1, .bool (f.after c).2]) ∧ Below w.heap.size w w' := by
 obtain ⟨st, op, body, digits, last, purpose, related, block⟩ := f
 simp only at h
 by_cases h43 : c = 43
 ·subst h43
  rw [show Fm.after ⟨st, op, body, digits, last, purpose, related, block⟩ 43 = (⟨10, op, body, digits, last, purpose, related, block⟩, true) by simp [Fm.after, Fm.to]]
  simp only [fv]
  go_enter Tryz.func146, Tryz.ntmps146
  go_wp2_with (first | (go_at_call 141; refine (to_any _ _ _ _ _ _ _ _ _ _).mono ?_; rintro e w' ⟨rfl, rfl⟩) | (go_at_call 139; refine (room_any _ (op) _ _ _ _ _ _ _).mono ?_; rintro e w' ⟨rfl, rfl⟩) | (go_at_call 145; refine (isDg_any _ _).mono ?_; rintro e w' ⟨rfl, rfl⟩) | (go_at_call 115; refine (isNm_any _ _).mono ?_; rintro e w' ⟨rfl, rfl⟩) | (go_at_call 149; refine (isSc_any _ _).mono ?_; rintro e w' ⟨rfl, rfl⟩) | (go_at_call 179; refine (top_any _ (op) _ _ _ _ _ _ _ h).mono ?_; rintro e w' ⟨rfl, rfl⟩))
  all_goals exact bodyPost_ret (v := .tuple #[FV 10 (bs op) body digits last purpose related (bs block), .bool true]) (by simp [results, Tryz.results146, go_sem]) rfl ⟨rfl, by repeat (first | refine Below.setCell ?_ (by simp <;> omega) _ | refine Below.alloc ?_ (by simp <;> omega) _ | exact Below.refl _ _)⟩
 by_cases h45 : c = 45
 ·subst h45
  rw [show Fm.after ⟨st, op, body, digits, last, purpose, related, block⟩ 45 = (⟨10, op, body, digits, last, purpose, related, block⟩, true) by simp [Fm.after, Fm.to]]
  simp only [fv]
  go_enter Tryz.func146, Tryz.ntmps146
  go_wp2_with (first | (go_at_call 141; refine (to_any _ _ _ _ _ _ _ _ _ _).mono ?_; rintro e w' ⟨rfl, rfl⟩) | (go_at_call 139; refine (room_any _ (op) _ _ _ _ _ _ _).mono ?_; rintro e w' ⟨rfl, rfl⟩) | (go_at_call 145; refine (isDg_any _ _).mono ?_; rintro e w' ⟨rfl, rfl⟩) | (go_at_call 115; refine (isNm_any _ _).mono ?_; rintro e w' ⟨rfl, rfl⟩) | (go_at_call 149; refine (isSc_any _ _).mono ?_; rintro e w' ⟨rfl, rfl⟩) | (go_at_call 179; refine (top_any _ (op) _ _ _ _ _ _ _ h).mono ?_; rintro e w' ⟨rfl, rfl⟩))
  all_goals exact bodyPost_ret (v := .tuple #[FV 10 (bs op) body digits last purpose related (bs block), .bool true]) (by simp [results, Tryz.results146, go_sem]) rfl ⟨rfl, by repeat (first | refine Below.setCell ?_ (by simp <;> omega) _ | refine Below.alloc ?_ (by simp <;> omega) _ | exact Below.refl _ _)⟩
 by_cases h42 : c = 42
 ·subst h42
  rw [show Fm.after ⟨st, op, body, digits, last, purpose, related, block⟩ 42 = (⟨10, op, body, digits, last, purpose, related, block⟩, true) by simp [Fm.after, Fm.to]]
  simp only [fv]
  go_enter Tryz.func146, Tryz.ntmps146
  go_wp2_with (first | (go_at_call 141; refine (to_any _ _ _ _ _ _ _ _ _ _).mono ?_; rintro e w' ⟨rfl, rfl⟩) | (go_at_call 139; refine (room_any _ (op) _ _ _ _ _ _ _).mono ?_; rintro e w' ⟨rfl, rfl⟩) | (go_at_call 145; refine (isDg_any _ _).mono ?_; rintro e w' ⟨rfl, rfl⟩) | (go_at_call 115; refine (isNm_any _ _).mono ?_; rintro e w' ⟨rfl, rfl⟩) | (go_at_call 149; refine (isSc_any _ _).mono ?_; rintro e w' ⟨rfl, rfl⟩) | (go_at_call 179; refine (top_any _ (op) _ _ _ _ _ _ _ h).mono ?_; rintro e w' ⟨rfl, rfl⟩))
  all_goals exact bodyPost_ret (v := .tuple #[FV 10 (bs op) body digits last purpose related (bs block), .bool true]) (by simp [results, Tryz.results146, go_sem]) rfl ⟨rfl, by repeat (first | refine Below.setCell ?_ (by simp <;> omega) _ | refine Below.alloc ?_ (by simp <;> omega) _ | exact Below.refl _ _)⟩
 by_cases h47 : c = 47
 ·subst h47
  rw [show Fm.after ⟨st, op, body, digits, last, purpose, related, block⟩ 47 = (⟨10, op, body, digits, last, purpose, related, block⟩, true) by simp [Fm.after, Fm.to]]
  simp only [fv]
  go_enter Tryz.func146, Tryz.ntmps146
  go_wp2_with (first | (go_at_call 141; refine (to_any _ _ _ _ _ _ _ _ _ _).mono ?_; rintro e w' ⟨rfl, rfl⟩) | (go_at_call 139; refine (room_any _ (op) _ _ _ _ _ _ _).mono ?_; rintro e w' ⟨rfl, rfl⟩) | (go_at_call 145; refine (isDg_any _ _).mono ?_; rintro e w' ⟨rfl, rfl⟩) | (go_at_call 115; refine (isNm_any _ _).mono ?_; rintro e w' ⟨rfl, rfl⟩) | (go_at_call 149; refine (isSc_any _ _).mono ?_; rintro e w' ⟨rfl, rfl⟩) | (go_at_call 179; refine (top_any _ (op) _ _ _ _ _ _ _ h).mono ?_; rintro e w' ⟨rfl, rfl⟩))
  all_goals exact bodyPost_ret (v := .tuple #[FV 10 (bs op) body digits last purpose related (bs block), .bool true]) (by simp [results, Tryz.results146, go_sem]) rfl ⟨rfl, by repeat (first | refine Below.setCell ?_ (by simp <;> omega) _ | refine Below.alloc ?_ (by simp <;> omega) _ | exact Below.refl _ _)⟩
 by_cases h37 : c = 37
 ·subst h37
  rw [show Fm.after ⟨st, op, body, digits, last, purpose, related, block⟩ 37 = (⟨10, op, body, digits, last, purpose, related, block⟩, true) by simp [Fm.after, Fm.to]]
  simp only [fv]
  go_enter Tryz.func146, Tryz.ntmps146
  go_wp2_with (first | (go_at_call 141; refine (to_any _ _ _ _ _ _ _ _ _ _).mono ?_; rintro e w' ⟨rfl, rfl⟩) | (go_at_call 139; refine (room_any _ (op) _ _ _ _ _ _ _).mono ?_; rintro e w' ⟨rfl, rfl⟩) | (go_at_call 145; refine (isDg_any _ _).mono ?_; rintro e w' ⟨rfl, rfl⟩) | (go_at_call 115; refine (isNm_any _ _).mono ?_; rintro e w' ⟨rfl, rfl⟩) | (go_at_call 149; refine (isSc_any _ _).mono ?_; rintro e w' ⟨rfl, rfl⟩) | (go_at_call 179; refine (top_any _ (op) _ _ _ _ _ _ _ h).mono ?_; rintro e w' ⟨rfl, rfl⟩))
  all_goals exact bodyPost_ret (v := .tuple #[FV 10 (bs op) body digits last purpose related (bs block), .bool true]) (by simp [results, Tryz.results146, go_sem]) rfl ⟨rfl, by repeat (first | refine Below.setCell ?_ (by simp <;> omega) _ | refine Below.alloc ?_ (by simp <;> omega) _ | exact Below.refl _ _)⟩
 by_cases h60 : c = 60
 ·subst h60
  cases related
  case false =>
   rw [show Fm.after ⟨st, op, body, digits, last, purpose, false, block⟩ 60 = (⟨10, op, body, digits, last, purpose, true, block⟩, true) by simp [Fm.after, Fm.to]]
   simp only [fv]
   go_enter Tryz.func146, Tryz.ntmps146
   go_wp2_with (first | (go_at_call 141; refine (to_any _ _ _ _ _ _ _ _ _ _).mono ?_; rintro e w' ⟨rfl, rfl⟩) | (go_at_call 139; refine (room_any _ (op) _ _ _ _ _ _ _).mono ?_; rintro e w' ⟨rfl, rfl⟩) | (go_at_call 145; refine (isDg_any _ _).mono ?_; rintro e w' ⟨rfl, rfl⟩) | (go_at_call 115; refine (isNm_any _ _).mono ?_; rintro e w' ⟨rfl, rfl⟩) | (go_at_call 149; refine (isSc_any _ _).mono ?_; rintro e w' ⟨rfl, rfl⟩) | (go_at_call 179; refine (top_any _ (op) _ _ _ _ _ _ _ h).mono ?_; rintro e w' ⟨rfl, rfl⟩))
   all_goals exact bodyPost_ret (v := .tuple #[FV 10 (bs op) body digits last purpose true (bs block), .bool true]) (by simp [results, Tryz.results146, go_sem]) rfl ⟨rfl, by repeat (first | refine Below.setCell ?_ (by simp <;> omega) _ | refine Below.alloc ?_ (by simp <;> omega) _ | exact Below.refl _ _)⟩
  case true =>
   rw [show Fm.after ⟨st, op, body, digits, last, purpose, true, block⟩ 60 = (⟨st, op, body, digits, last, purpose, true, block⟩, false) by simp [Fm.after, Fm.to]]
   simp only [fv]
   go_enter Tryz.func146, Tryz.ntmps146
   go_wp2_with (first | (go_at_call 141; refine (to_any _ _ _ _ _ _ _ _ _ _).mono ?_; rintro e w' ⟨rfl, rfl⟩) | (go_at_call 139; refine (room_any _ (op) _ _ _ _ _ _ _).mono ?_; rintro e w' ⟨rfl, rfl⟩) | (go_at_call 145; refine (isDg_any _ _).mono ?_; rintro e w' ⟨rfl, rfl⟩) | (go_at_call 115; refine (isNm_any _ _).mono ?_; rintro e w' ⟨rfl, rfl⟩) | (go_at_call 149; refine (isSc_any _ _).mono ?_; rintro e w' ⟨rfl, rfl⟩) | (go_at_call 179; refine (top_any _ (op) _ _ _ _ _ _ _ h).mono ?_; rintro e w' ⟨rfl, rfl⟩))
   all_goals exact bodyPost_ret (v := .tuple #[FV st (bs op) body digits last purpose true (bs block), .bool false]) (by simp [results, Tryz.results146, go_sem]) rfl ⟨rfl, by repeat (first | refine Below.setCell ?_ (by simp <;> omega) _ | refine Below.alloc ?_ (by simp <;> omega) _ | exact Below.refl _ _)⟩
 by_cases h61 : c = 61
 ·subst h61
  cases related
  case false =>
   rw [show Fm.after ⟨st, op, body, digits, last, purpose, false, block⟩ 61 = (⟨10, op, body, digits, last, purpose, true, block⟩, true) by simp [Fm.after, Fm.to]]
   simp only [fv]
   go_enter Tryz.func146, Tryz.ntmps146
   go_wp2_with (first | (go_at_call 141; refine (to_any _ _ _ _ _ _ _ _ _ _).mono ?_; rintro e w' ⟨rfl, rfl⟩) | (go_at_call 139; refine (room_any _ (op) _ _ _ _ _ _ _).mono ?_; rintro e w' ⟨rfl, rfl⟩) | (go_at_call 145; refine (isDg_any _ _).mono ?_; rintro e w' ⟨rfl, rfl⟩) | (go_at_call 115; refine (isNm_any _ _).mono ?_; rintro e w' ⟨rfl, rfl⟩) | (go_at_call 149; refine (isSc_any _ _).mono ?_; rintro e w' ⟨rfl, rfl⟩) | (go_at_call 179; refine (top_any _ (op) _ _ _ _ _ _ _ h).mono ?_; rintro e w' ⟨rfl, rfl⟩))
   all_goals exact bodyPost_ret (v := .tuple #[FV 10 (bs op) body digits last purpose true (bs block), .bool true]) (by simp [results, Tryz.results146, go_sem]) rfl ⟨rfl, by repeat (first | refine Below.setCell ?_ (by simp <;> omega) _ | refine Below.alloc ?_ (by simp <;> omega) _ | exact Below.refl _ _)⟩
  case true =>
   rw [show Fm.after ⟨st, op, body, digits, last, purpose, true, block⟩ 61 = (⟨st, op, body, digits, last, purpose, true, block⟩, false) by simp [Fm.after, Fm.to]]
   simp only [fv]
   go_enter Tryz.func146, Tryz.ntmps146
   go_wp2_with (first | (go_at_call 141; refine (to_any _ _ _ _ _ _ _ _ _ _).mono ?_; rintro e w' ⟨rfl, rfl⟩) | (go_at_call 139; refine (room_any _ (op) _ _ _ _ _ _ _).mono ?_; rintro e w' ⟨rfl, rfl⟩) | (go_at_call 145; refine (isDg_any _ _).mono ?_; rintro e w' ⟨rfl, rfl⟩) | (go_at_call 115; refine (isNm_any _ _).mono ?_; rintro e w' ⟨rfl, rfl⟩) | (go_at_call 149; refine (isSc_any _ _).mono ?_; rintro e w' ⟨rfl, rfl⟩) | (go_at_call 179; refine (top_any _ (op) _ _ _ _ _ _ _ h).mono ?_; rintro e w' ⟨rfl, rfl⟩))
   all_goals exact bodyPost_ret (v := .tuple #[FV st (bs op) body digits last purpose true (bs block), .bool false]) (by simp [results, Tryz.results146, go_sem]) rfl ⟨rfl, by repeat (first | refine Below.setCell ?_ (by simp <;> omega) _ | refine Below.alloc ?_ (by simp <;> omega) _ | exact Below.refl _ _)⟩
 by_cases h59 : c = 59
 ·subst h59
  cases op with
  | nil =>
   rw [show Fm.after ⟨st, [], body, digits, last, purpose, related, block⟩ 59 = (⟨0, [], body, digits, last, purpose, related, block⟩, true) by simp [Fm.after, Fm.to, Fm.paren, Fm.top]]
   simp only [fv]
   go_enter Tryz.func146, Tryz.ntmps146
   go_wp2_with (first | (go_at_call 141; refine (to_any _ _ _ _ _ _ _ _ _ _).mono ?_; rintro e w' ⟨rfl, rfl⟩) | (go_at_call 139; refine (room_any _ ([]) _ _ _ _ _ _ _).mono ?_; rintro e w' ⟨rfl, rfl⟩) | (go_at_call 145; refine (isDg_any _ _).mono ?_; rintro e w' ⟨rfl, rfl⟩) | (go_at_call 115; refine (isNm_any _ _).mono ?_; rintro e w' ⟨rfl, rfl⟩) | (go_at_call 149; refine (isSc_any _ _).mono ?_; rintro e w' ⟨rfl, rfl⟩) | (go_at_call 179; refine (top_any _ ([]) _ _ _ _ _ _ _ h).mono ?_; rintro e w' ⟨rfl, rfl⟩))
   all_goals exact bodyPost_ret (v := .tuple #[FV 0 (bs ([])) body digits last purpose related (bs block), .bool true]) (by simp [results, Tryz.results146, go_sem]) rfl ⟨rfl, by repeat (first | refine Below.setCell ?_ (by simp <;> omega) _ | refine Below.alloc ?_ (by simp <;> omega) _ | exact Below.refl _ _)⟩
  | cons a l =>
   have hl : l.length ≤ 1000 := by simp at h; omega
   by_cases a99 : a = 99
   ·subst a99
    rw [show Fm.after ⟨st, 99 :: l, body, digits, last, purpose, related, block⟩ 59 = (⟨st, 99 :: l, body, digits, last, purpose, related, block⟩, false) by simp [Fm.after, Fm.to, Fm.paren, Fm.top]]
    simp only [fv]
    go_enter Tryz.func146, Tryz.ntmps146
    go_wp2_with (first | (go_at_call 141; refine (to_any _ _ _ _ _ _ _ _ _ _).mono ?_; rintro e w' ⟨rfl, rfl⟩) | (go_at_call 139; refine (room_any _ (99 :: l) _ _ _ _ _ _ _).mono ?_; rintro e w' ⟨rfl, rfl⟩) | (go_at_call 145; refine (isDg_any _ _).mono ?_; rintro e w' ⟨rfl, rfl⟩) | (go_at_call 115; refine (isNm_any _ _).mono ?_; rintro e w' ⟨rfl, rfl⟩) | (go_at_call 149; refine (isSc_any _ _).mono ?_; rintro e w' ⟨rfl, rfl⟩) | (go_at_call 179; refine (top_any _ (99 :: l) _ _ _ _ _ _ _ h).mono ?_; rintro e w' ⟨rfl, rfl⟩))
    all_goals exact bodyPost_ret (v := .tuple #[FV st (bs (99 :: l)) body digits last purpose related (bs block), .bool false]) (by simp [results, Tryz.results146, go_sem]) rfl ⟨rfl, by repeat (first | refine Below.setCell ?_ (by simp <;> omega) _ | refine Below.alloc ?_ (by simp <;> omega) _ | exact Below.refl _ _)⟩
   by_cases a101 : a = 101
   ·subst a101
    rw [show Fm.after ⟨st, 101 :: l, body, digits, last, purpose, related, block⟩ 59 = (⟨st, 101 :: l, body, digits, last, purpose, related, block⟩, false) by simp [Fm.after, Fm.to, Fm.paren, Fm.top]]
    simp only [fv]
    go_enter Tryz.func146, Tryz.ntmps146
    go_wp2_with (first | (go_at_call 141; refine (to_any _ _ _ _ _ _ _ _ _ _).mono ?_; rintro e w' ⟨rfl, rfl⟩) | (go_at_call 139; refine (room_any _ (101 :: l) _ _ _ _ _ _ _).mono ?_; rintro e w' ⟨rfl, rfl⟩) | (go_at_call 145; refine (isDg_any _ _).mono ?_; rintro e w' ⟨rfl, rfl⟩) | (go_at_call 115; refine (isNm_any _ _).mono ?_; rintro e w' ⟨rfl, rfl⟩) | (go_at_call 149; refine (isSc_any _ _).mono ?_; rintro e w' ⟨rfl, rfl⟩) | (go_at_call 179; refine (top_any _ (101 :: l) _ _ _ _ _ _ _ h).mono ?_; rintro e w' ⟨rfl, rfl⟩))
    all_goals exact bodyPost_ret (v := .tuple #[FV st (bs (101 :: l)) body digits last purpose related (bs block), .bool false]) (by simp [results, Tryz.results146, go_sem]) rfl ⟨rfl, by repeat (first | refine Below.setCell ?_ (by simp <;> omega) _ | refine Below.alloc ?_ (by simp <;> omega) _ | exact Below.refl _ _)⟩
   by_cases a69 : a = 69
   ·subst a69
    rw [show Fm.after ⟨st, 69 :: l, body, digits, last, purpose, related, block⟩ 59 = (⟨st, 69 :: l, body, digits, last, purpose, related, block⟩, false) by simp [Fm.after, Fm.to, Fm.paren, Fm.top]]
    simp only [fv]
    go_enter Tryz.func146, Tryz.ntmps146
    go_wp2_with (first | (go_at_call 141; refine (to_any _ _ _ _ _ _ _ _ _ _).mono ?_; rintro e w' ⟨rfl, rfl⟩) | (go_at_call 139; refine (room_any _ (69 :: l) _ _ _ _ _ _ _).mono ?_; rintro e w' ⟨rfl, rfl⟩) | (go_at_call 145; refine (isDg_any _ _).mono ?_; rintro e w' ⟨rfl, rfl⟩) | (go_at_call 115; refine (isNm_any _ _).mono ?_; rintro e w' ⟨rfl, rfl⟩) | (go_at_call 149; refine (isSc_any _ _).mono ?_; rintro e w' ⟨rfl, rfl⟩) | (go_at_call 179; refine (top_any _ (69 :: l) _ _ _ _ _ _ _ h).mono ?_; rintro e w' ⟨rfl, rfl⟩))
    all_goals exact bodyPost_ret (v := .tuple #[FV st (bs (69 :: l)) body digits last purpose related (bs block), .bool false]) (by simp [results, Tryz.results146, go_sem]) rfl ⟨rfl, by repeat (first | refine Below.setCell ?_ (by simp <;> omega) _ | refine Below.alloc ?_ (by simp <;> omega) _ | exact Below.refl _ _)⟩
   ·
    rw [show Fm.after ⟨st, a :: l, body, digits, last, purpose, related, block⟩ 59 = (⟨0, a :: l, body, digits, last, purpose, related, block⟩, true) by simp [Fm.after, Fm.to, Fm.paren, Fm.top, a99, a101, a69]]
    simp only [fv]
    have k99 : ((a.toNat : Int) == 99) = false := u8_ne (b := 99) a99
    have k101 : ((a.toNat : Int) == 101) = false := u8_ne (b := 101) a101
    have k69 : ((a.toNat : Int) == 69) = false := u8_ne (b := 69) a69
    go_enter Tryz.func146, Tryz.ntmps146
    go_wp2_with (first | (go_at_call 141; refine (to_any _ _ _ _ _ _ _ _ _ _).mono ?_; rintro e w' ⟨rfl, rfl⟩) | (go_at_call 139; refine (room_any _ (a :: l) _ _ _ _ _ _ _).mono ?_; rintro e w' ⟨rfl, rfl⟩) | (go_at_call 145; refine (isDg_any _ _).mono ?_; rintro e w' ⟨rfl, rfl⟩) | (go_at_call 115; refine (isNm_any _ _).mono ?_; rintro e w' ⟨rfl, rfl⟩) | (go_at_call 149; refine (isSc_any _ _).mono ?_; rintro e w' ⟨rfl, rfl⟩) | (go_at_call 179; refine (top_any _ (a :: l) _ _ _ _ _ _ _ h).mono ?_; rintro e w' ⟨rfl, rfl⟩))
    all_goals exact bodyPost_ret (v := .tuple #[FV 0 (bs (a :: l)) body digits last purpose related (bs block), .bool true]) (by simp [results, Tryz.results146, go_sem]) rfl ⟨rfl, by repeat (first | refine Below.setCell ?_ (by simp <;> omega) _ | refine Below.alloc ?_ (by simp <;> omega) _ | exact Below.refl _ _)⟩
 by_cases h41 : c = 41
 ·subst h41
  cases op with
  | nil =>
   rw [show Fm.after ⟨st, [], body, digits, last, purpose, related, block⟩ 41 = (⟨st, [], body, digits, last, purpose, related, block⟩, false) by simp [Fm.after, Fm.to, Fm.paren, Fm.top]]
   simp only [fv]
   go_enter Tryz.func146, Tryz.ntmps146
   go_wp2_with (first | (go_at_call 141; refine (to_any _ _ _ _ _ _ _ _ _ _).mono ?_; rintro e w' ⟨rfl, rfl⟩) | (go_at_call 139; refine (room_any _ ([]) _ _ _ _ _ _ _).mono ?_; rintro e w' ⟨rfl, rfl⟩) | (go_at_call 145; refine (isDg_any _ _).mono ?_; rintro e w' ⟨rfl, rfl⟩) | (go_at_call 115; refine (isNm_any _ _).mono ?_; rintro e w' ⟨rfl, rfl⟩) | (go_at_call 149; refine (isSc_any _ _).mono ?_; rintro e w' ⟨rfl, rfl⟩) | (go_at_call 179; refine (top_any _ ([]) _ _ _ _ _ _ _ h).mono ?_; rintro e w' ⟨rfl, rfl⟩))
   all_goals exact bodyPost_ret (v := .tuple #[FV st (bs ([])) body digits last purpose related (bs block), .bool false]) (by simp [results, Tryz.results146, go_sem]) rfl ⟨rfl, by repeat (first | refine Below.setCell ?_ (by simp <;> omega) _ | refine Below.alloc ?_ (by simp <;> omega) _ | exact Below.refl _ _)⟩
  | cons a l =>
   have hl : l.length ≤ 1000 := by simp at h; omega
   by_cases a99 : a = 99
   ·subst a99
    rw [show Fm.after ⟨st, 99 :: l, body, digits, last, purpose, related, block⟩ 41 = (⟨14, l, body, digits, last, purpose, false, [49]⟩, true) by simp [Fm.after, Fm.to, Fm.paren, Fm.top]]
    simp only [fv]
    go_enter Tryz.func146, Tryz.ntmps146
    go_wp2_with (first | (go_at_call 141; refine (to_any _ _ _ _ _ _ _ _ _ _).mono ?_; rintro e w' ⟨rfl, rfl⟩) | (go_at_call 139; refine (room_any _ (99 :: l) _ _ _ _ _ _ _).mono ?_; rintro e w' ⟨rfl, rfl⟩) | (go_at_call 145; refine (isDg_any _ _).mono ?_; rintro e w' ⟨rfl, rfl⟩) | (go_at_call 115; refine (isNm_any _ _).mono ?_; rintro e w' ⟨rfl, rfl⟩) | (go_at_call 149; refine (isSc_any _ _).mono ?_; rintro e w' ⟨rfl, rfl⟩) | (go_at_call 179; refine (top_any _ (99 :: l) _ _ _ _ _ _ _ h).mono ?_; rintro e w' ⟨rfl, rfl⟩))
    all_goals exact bodyPost_ret (v := .tuple #[FV 14 ((bs (99 :: l)).extract 0 l.length) body digits last purpose false (⟨#[49]⟩), .bool true]) (by simp [results, Tryz.results146, go_sem]) rfl ⟨by rw [bs_pop]; rfl, by repeat (first | refine Below.setCell ?_ (by simp <;> omega) _ | refine Below.alloc ?_ (by simp <;> omega) _ | exact Below.refl _ _)⟩
   by_cases a101 : a = 101
   ·subst a101
    rw [show Fm.after ⟨st, 101 :: l, body, digits, last, purpose, related, block⟩ 41 = (⟨12, l, body, digits, last, purpose, false, block⟩, true) by simp [Fm.after, Fm.to, Fm.paren, Fm.top]]
    simp only [fv]
    go_enter Tryz.func146, Tryz.ntmps146
    go_wp2_with (first | (go_at_call 141; refine (to_any _ _ _ _ _ _ _ _ _ _).mono ?_; rintro e w' ⟨rfl, rfl⟩) | (go_at_call 139; refine (room_any _ (101 :: l) _ _ _ _ _ _ _).mono ?_; rintro e w' ⟨rfl, rfl⟩) | (go_at_call 145; refine (isDg_any _ _).mono ?_; rintro e w' ⟨rfl, rfl⟩) | (go_at_call 115; refine (isNm_any _ _).mono ?_; rintro e w' ⟨rfl, rfl⟩) | (go_at_call 149; refine (isSc_any _ _).mono ?_; rintro e w' ⟨rfl, rfl⟩) | (go_at_call 179; refine (top_any _ (101 :: l) _ _ _ _ _ _ _ h).mono ?_; rintro e w' ⟨rfl, rfl⟩))
    all_goals exact bodyPost_ret (v := .tuple #[FV 12 ((bs (101 :: l)).extract 0 l.length) body digits last purpose false (bs block), .bool true]) (by simp [results, Tryz.results146, go_sem]) rfl ⟨by rw [bs_pop], by repeat (first | refine Below.setCell ?_ (by simp <;> omega) _ | refine Below.alloc ?_ (by simp <;> omega) _ | exact Below.refl _ _)⟩
   by_cases a69 : a = 69
   ·subst a69
    rw [show Fm.after ⟨st, 69 :: l, body, digits, last, purpose, related, block⟩ 41 = (⟨12, l, body, digits, last, purpose, true, block⟩, true) by simp [Fm.after, Fm.to, Fm.paren, Fm.top]]
    simp only [fv]
    go_enter Tryz.func146, Tryz.ntmps146
    go_wp2_with (first | (go_at_call 141; refine (to_any _ _ _ _ _ _ _ _ _ _).mono ?_; rintro e w' ⟨rfl, rfl⟩) | (go_at_call 139; refine (room_any _ (69 :: l) _ _ _ _ _ _ _).mono ?_; rintro e w' ⟨rfl, rfl⟩) | (go_at_call 145; refine (isDg_any _ _).mono ?_; rintro e w' ⟨rfl, rfl⟩) | (go_at_call 115; refine (isNm_any _ _).mono ?_; rintro e w' ⟨rfl, rfl⟩) | (go_at_call 149; refine (isSc_any _ _).mono ?_; rintro e w' ⟨rfl, rfl⟩) | (go_at_call 179; refine (top_any _ (69 :: l) _ _ _ _ _ _ _ h).mono ?_; rintro e w' ⟨rfl, rfl⟩))
    all_goals exact bodyPost_ret (v := .tuple #[FV 12 ((bs (69 :: l)).extract 0 l.length) body digits last purpose true (bs block), .bool true]) (by simp [results, Tryz.results146, go_sem]) rfl ⟨by rw [bs_pop], by repeat (first | refine Below.setCell ?_ (by simp <;> omega) _ | refine Below.alloc ?_ (by simp <;> omega) _ | exact Below.refl _ _)⟩
   ·
    rw [show Fm.after ⟨st, a :: l, body, digits, last, purpose, related, block⟩ 41 = (⟨st, a :: l, body, digits, last, purpose, related, block⟩, false) by simp [Fm.after, Fm.to, Fm.paren, Fm.top, a99, a101, a69]]
    simp only [fv]
    have k99 : ((a.toNat : Int) == 99) = false := u8_ne (b := 99) a99
    have k101 : ((a.toNat : Int) == 101) = false := u8_ne (b := 101) a101
    have k69 : ((a.toNat : Int) == 69) = false := u8_ne (b := 69) a69
    go_enter Tryz.func146, Tryz.ntmps146
    go_wp2_with (first | (go_at_call 141; refine (to_any _ _ _ _ _ _ _ _ _ _).mono ?_; rintro e w' ⟨rfl, rfl⟩) | (go_at_call 139; refine (room_any _ (a :: l) _ _ _ _ _ _ _).mono ?_; rintro e w' ⟨rfl, rfl⟩) | (go_at_call 145; refine (isDg_any _ _).mono ?_; rintro e w' ⟨rfl, rfl⟩) | (go_at_call 115; refine (isNm_any _ _).mono ?_; rintro e w' ⟨rfl, rfl⟩) | (go_at_call 149; refine (isSc_any _ _).mono ?_; rintro e w' ⟨rfl, rfl⟩) | (go_at_call 179; refine (top_any _ (a :: l) _ _ _ _ _ _ _ h).mono ?_; rintro e w' ⟨rfl, rfl⟩))
    all_goals exact bodyPost_ret (v := .tuple #[FV st (bs (a :: l)) body digits last purpose related (bs block), .bool false]) (by simp [results, Tryz.results146, go_sem]) rfl ⟨rfl, by repeat (first | refine Below.setCell ?_ (by simp <;> omega) _ | refine Below.alloc ?_ (by simp <;> omega) _ | exact Below.refl _ _)⟩
 ·
  rw [show Fm.after ⟨st, op, body, digits, last, purpose, related, block⟩ c = (⟨st, op, body, digits, last, purpose, related, block⟩, false) by simp [Fm.after, Fm.to, h43, h45, h42, h47, h37, h60, h61, h59, h41]]
  simp only [fv]
  have ec43 : (c == 43) = false := by simp only [beq_eq_false_iff_ne, ne_eq]; omega
  have ec45 : (c == 45) = false := by simp only [beq_eq_false_iff_ne, ne_eq]; omega
  have ec42 : (c == 42) = false := by simp only [beq_eq_false_iff_ne, ne_eq]; omega
  have ec47 : (c == 47) = false := by simp only [beq_eq_false_iff_ne, ne_eq]; omega
  have ec37 : (c == 37) = false := by simp only [beq_eq_false_iff_ne, ne_eq]; omega
  have ec60 : (c == 60) = false := by simp only [beq_eq_false_iff_ne, ne_eq]; omega
  have ec61 : (c == 61) = false := by simp only [beq_eq_false_iff_ne, ne_eq]; omega
  have ec59 : (c == 59) = false := by simp only [beq_eq_false_iff_ne, ne_eq]; omega
  have ec41 : (c == 41) = false := by simp only [beq_eq_false_iff_ne, ne_eq]; omega
  go_enter Tryz.func146, Tryz.ntmps146
  go_wp2_with (first | (go_at_call 141; refine (to_any _ _ _ _ _ _ _ _ _ _).mono ?_; rintro e w' ⟨rfl, rfl⟩) | (go_at_call 139; refine (room_any _ (op) _ _ _ _ _ _ _).mono ?_; rintro e w' ⟨rfl, rfl⟩) | (go_at_call 145; refine (isDg_any _ _).mono ?_; rintro e w' ⟨rfl, rfl⟩) | (go_at_call 115; refine (isNm_any _ _).mono ?_; rintro e w' ⟨rfl, rfl⟩) | (go_at_call 149; refine (isSc_any _ _).mono ?_; rintro e w' ⟨rfl, rfl⟩) | (go_at_call 179; refine (top_any _ (op) _ _ _ _ _ _ _ h).mono ?_; rintro e w' ⟨rfl, rfl⟩))
  all_goals exact bodyPost_ret (v := .tuple #[FV st (bs op) body digits last purpose related (bs block), .bool false]) (by simp [results, Tryz.results146, go_sem]) rfl ⟨rfl, by repeat (first | refine Below.setCell ?_ (by simp <;> omega) _ | refine Below.alloc ?_ (by simp <;> omega) _ | exact Below.refl _ _)⟩
end Go.Proofs.YtdgmoiflahoihaaGreatDoor
