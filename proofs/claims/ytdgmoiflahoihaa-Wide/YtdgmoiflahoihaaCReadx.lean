import Derived.Test.YtdgmoiflahoihaaCHeadx
import Derived.Test.YtdgmoiflahoihaaFPlacex
import Derived.Deep.RegionLaw
import Derived.Lib.SmallJoins
import Derived.Lib.OwnKind
import Derived.Deep.Cut
import Derived.Deep.CutRange
import Derived.Test.YtdgmoiflahoihaaPlainx

namespace Go.Proofs.Ytdgmoiflahoihaa
open Go.RowKit
set_option linter.unusedSimpArgs false
set_option linter.unusedVariables false
def keptL : List UInt8 → List UInt8
 | [] => []
 | c :: r => if blankB c then keptL r else c :: keptL r
def atL : List UInt8 → Nat → List Int
 | [], _ => []
 | c :: r, k => if blankB c then atL r (k + 1) else (k : Int) :: atL r (k + 1)
end Go.Proofs.Ytdgmoiflahoihaa
namespace Go.Proofs.Ytdgmoiflahoihaa
open Go.RowKit
set_option linter.unusedSimpArgs false
set_option linter.unusedVariables false
theorem ret_bool {a b : Bool} (h : a = b) : Ending.returned (.bool a) = .returned (.bool b) := by rw [h]
def natV (n : Nat) : Value := .int .i64 n
def arrV (of : List Nat) : Array Value := (of.map natV).toArray
end Go.Proofs.Ytdgmoiflahoihaa
