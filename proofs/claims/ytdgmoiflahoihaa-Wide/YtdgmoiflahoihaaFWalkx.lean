import Derived.Test.YtdgmoiflahoihaaRows
import Derived.Test.YtdgmoiflahoihaaPlainx
import Derived.WalkKit
import Derived.WalkSpells
import Derived.WalkLawsBesides

namespace Go.Proofs.Ytdgmoiflahoihaa
open Go.RowKit
set_option linter.unusedSimpArgs false
set_option linter.unusedVariables false
@[reducible] def bs (l : List UInt8) : ByteArray := ⟨l.reverse.toArray⟩
@[reducible] def FV (st : Int) (op : ByteArray) (body : Bool) (digits last purpose : Int) (related : Bool) (block : ByteArray) : Value := .agg #[.int .i64 st, .string op, .bool body, .int .i64 digits, .int .i64 last, .int .i64 purpose, .bool related, .string block]
@[reducible] def FO (st : Int) (op : ByteArray) (body : Bool) (digits last purpose : Int) (related : Bool) (block : ByteArray) : Obj := .cells #[.int .i64 st, .string op, .bool body, .int .i64 digits, .int .i64 last, .int .i64 purpose, .bool related, .string block] 96
def fv (f : Fm) : Value := FV f.st (bs f.op) f.body f.digits f.last f.purpose f.related (bs f.block)
theorem u8_ne {a b : UInt8} (h : a ≠ b) : ((a.toNat : Int) == (b.toNat : Int)) = false := by
 simp only [beq_eq_false_iff_ne, ne_eq]
 intro k
 exact h (UInt8.toNat_inj.mp (by omega))
end Go.Proofs.Ytdgmoiflahoihaa
namespace Go.Proofs.Ytdgmoiflahoihaa
open Go.RowKit
set_option linter.unusedSimpArgs false
set_option linter.unusedVariables false
end Go.Proofs.Ytdgmoiflahoihaa
