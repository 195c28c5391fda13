import Derived.Test.YtdgmoiflahoihabRExw
import Derived.Test.YtdgmoiflahoihabVPw

namespace Go.Proofs.Ytdgmoiflahoihab
open Go.RowKit
set_option linter.unusedSimpArgs false
set_option linter.unusedVariables false
def divV (a b : Int) : Vl := if b = 0 then ⟨0, 2⟩ else vlOf (a.tdiv b)
def remV (a b : Int) : Vl := if b = 0 then ⟨0, 2⟩ else ⟨a.tmod b, 0⟩
def numsV (op a b : Int) : Vl :=
 if op = 4 then vlOf (a + b) else if op = 5 then vlOf (a - b) else if op = 6 then vlOf (a * b)
 else if op = 7 then divV a b else if op = 8 then remV a b
 else if op = 9 then ⟨if a < b then 1 else 0, 0⟩ else if op = 10 then ⟨if a = b then 1 else 0, 0⟩ else ⟨0, 0⟩
def opV (op : Int) (x y : Vl) : Vl := if x.fault ≠ 0 then x else if y.fault ≠ 0 then y else numsV op x.num y.num
def negV (x : Vl) : Vl := if x.fault ≠ 0 then x else vlOf (0 - x.num)
theorem negV_op (x : Vl) : negV x = opV 5 ⟨0, 0⟩ x := by
 unfold negV opV numsV
 simp
def opC (c : UInt8) (x y : Vl) : Vl :=
 if x.fault ≠ 0 then x else if y.fault ≠ 0 then y
 else if c == 43 then vlOf (x.num + y.num) else if c == 45 then vlOf (x.num - y.num) else if c == 42 then vlOf (x.num * y.num)
 else if c == 60 then ⟨if x.num < y.num then 1 else 0, 0⟩ else if c == 61 then ⟨if x.num = y.num then 1 else 0, 0⟩
 else if c == 47 then divV x.num y.num else remV x.num y.num
end Go.Proofs.Ytdgmoiflahoihab
namespace Go.Proofs.Ytdgmoiflahoihab
open Go.RowKit
set_option linter.unusedSimpArgs false
set_option linter.unusedVariables false
end Go.Proofs.Ytdgmoiflahoihab
namespace Go.Proofs.Ytdgmoiflahoihab
open Go.RowKit
set_option linter.unusedSimpArgs false
set_option linter.unusedVariables false
end Go.Proofs.Ytdgmoiflahoihab
