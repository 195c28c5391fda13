import Derived.Test.YtnaonmclmmoipaaRows
import Derived.Test.YtnaonmclmmoipaaEPlain
import Derived.WalkKit
import Derived.WalkSpells
import Derived.WalkLawsBesides

namespace Go.Proofs.Ytnaonmclmmoipaa
open Go.RowKit
set_option linter.unusedSimpArgs false
set_option linter.unusedVariables false

/-- A stack of letters, the last one first, as Go's string. -/
@[reducible] def bs (l : List UInt8) : ByteArray := ⟨l.reverse.toArray⟩
@[reducible] def FV (st : Int) (op : ByteArray) (body : Bool) (digits last purpose : Int) (related : Bool) (block : ByteArray) : Value := .agg #[.int .i64 st, .string op, .bool body, .int .i64 digits, .int .i64 last, .int .i64 purpose, .bool related, .string block]
@[reducible] def FO (st : Int) (op : ByteArray) (body : Bool) (digits last purpose : Int) (related : Bool) (block : ByteArray) : Obj := .cells #[.int .i64 st, .string op, .bool body, .int .i64 digits, .int .i64 last, .int .i64 purpose, .bool related, .string block] 90
def fv (f : Fm) : Value := FV f.st (bs f.op) f.body f.digits f.last f.purpose f.related (bs f.block)

theorem bs_push (l : List UInt8) (a : UInt8) : bs l ++ ⟨#[a]⟩ = bs (a :: l) := by
  apply ByteArray.ext
  simp [bs]

theorem bs_append (l k : List UInt8) : bs l ++ bs k = bs (k ++ l) := by
  apply ByteArray.ext
  simp [bs]

theorem bs_pop (l : List UInt8) (a : UInt8) : (bs (a :: l)).extract 0 l.length = bs l := by
  apply ByteArray.ext
  rw [ByteArray.data_extract]
  simp [bs]

theorem u8_ne {a b : UInt8} (h : a ≠ b) : ((a.toNat : Int) == (b.toNat : Int)) = false := by
  simp only [beq_eq_false_iff_ne, ne_eq]
  intro k
  exact h (UInt8.toNat_inj.mp (by omega))

set_option maxHeartbeats 400000 in
theorem isDg_any (c : Int) (w : World) :
    Calls Try.prog 77 #[.int .i64 c] w fun e w' => e = .returned (.bool (isDg c)) ∧ w' = w := by
  go_enter Try.func77, Try.ntmps77
  go_wp2
  all_goals go_ret
  all_goals (refine ⟨?_, rfl⟩; simp [isDg, *]; try omega)

set_option maxHeartbeats 400000 in
theorem isNm_any (c : Int) (w : World) :
    Calls Try.prog 83 #[.int .i64 c] w fun e w' => e = .returned (.bool (isNm c)) ∧ w' = w := by
  go_enter Try.func83, Try.ntmps83
  go_wp2
  all_goals go_ret
  all_goals (refine ⟨?_, rfl⟩; simp [isNm, *]; try omega)

set_option maxHeartbeats 400000 in
theorem isSc_any (c : Int) (w : World) :
    Calls Try.prog 100 #[.int .i64 c] w fun e w' => e = .returned (.bool (isSc c)) ∧ w' = w := by
  go_enter Try.func100, Try.ntmps100
  go_wp2
  all_goals go_ret
  all_goals (refine ⟨?_, rfl⟩; simp [isSc, *]; try omega)

set_option maxHeartbeats 400000 in
theorem top_nil (st : Int) (body : Bool) (digits last purpose : Int) (related : Bool) (block : ByteArray) (w : World) :
    Calls Try.prog 99 #[FV st (bs []) body digits last purpose related block] w fun e w' => e = .returned (.int .u8 0) ∧ w' = w.alloc (FO st (bs []) body digits last purpose related block) := by
  go_enter Try.func99, Try.ntmps99
  go_wp2
  go_ret
  exact ⟨rfl, rfl⟩

theorem at_last (a : UInt8) (l : List UInt8) (h : l.length < (bs (a :: l)).size) : (bs (a :: l))[l.length] = a := by
  show ((a :: l).reverse.toArray)[l.length]'_ = a
  simp

set_option maxHeartbeats 400000 in
theorem top_cons (st : Int) (a : UInt8) (l : List UInt8) (body : Bool) (digits last purpose : Int) (related : Bool) (block : ByteArray) (w : World) (h : l.length ≤ 1000) :
    Calls Try.prog 99 #[FV st (bs (a :: l)) body digits last purpose related block] w fun e w' => e = .returned (.int .u8 a.toNat) ∧ w' = w.alloc (FO st (bs (a :: l)) body digits last purpose related block) := by
  have hb : ((l.length : Int) + 1 == 0) = false := by simp; omega
  go_enter Try.func99, Try.ntmps99
  go_wp2
  go_ret
  refine ⟨?_, ?_⟩
  · simp [at_last]
  · simp [bs]

set_option maxHeartbeats 400000 in
theorem top_any (st : Int) (l : List UInt8) (body : Bool) (digits last purpose : Int) (related : Bool) (block : ByteArray) (w : World) (h : l.length ≤ 1000) :
    Calls Try.prog 99 #[FV st (bs l) body digits last purpose related block] w fun e w' => e = .returned (.int .u8 (l.headD 0).toNat) ∧ w' = w.alloc (FO st (bs l) body digits last purpose related block) := by
  cases l with
  | nil => exact top_nil _ _ _ _ _ _ _ _
  | cons a l => exact top_cons _ _ _ _ _ _ _ _ _ _ (by simp at h; omega)

set_option maxHeartbeats 400000 in
theorem room_any (st : Int) (op : List UInt8) (body : Bool) (digits last purpose : Int) (related : Bool) (block : ByteArray) (w : World) :
    Calls Try.prog 71 #[FV st (bs op) body digits last purpose related block] w fun e w' => e = .returned (.bool (decide (op.length < 8))) ∧ w' = w.alloc (FO st (bs op) body digits last purpose related block) := by
  go_enter Try.func71, Try.ntmps71
  go_wp2
  go_ret
  refine ⟨?_, rfl⟩
  simp
  exact ⟨fun h => by omega, fun h => by omega⟩

set_option maxHeartbeats 400000 in
theorem to_any (st : Int) (op : ByteArray) (body : Bool) (digits last purpose : Int) (related : Bool) (block : ByteArray) (n : Int) (w : World) :
    Calls Try.prog 73 #[FV st op body digits last purpose related block, .int .i64 n] w fun e w' => e = .returned (.tuple #[FV n op body digits last purpose related block, .bool true]) ∧ w' = (w.alloc (FO n op body digits last purpose related block)).alloc (FO n op body digits last purpose related block) := by
  go_enter Try.func73, Try.ntmps73
  go_wp2
  exact bodyPost_ret (v := .tuple #[FV n op body digits last purpose related block, .bool true]) (by simp [results, Try.results73, go_sem]) rfl ⟨rfl, rfl⟩

end Go.Proofs.Ytnaonmclmmoipaa
