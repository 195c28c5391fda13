import Derived.RowKit

namespace Go.Proofs.Ytdgmoiflahoihab
open Go.RowKit
set_option linter.unusedSimpArgs false
set_option linter.unusedVariables false
structure Vl where
 num : Int
 fault : Int
def fits (x : Int) : Bool := decide (-9223372036854775808 ≤ x) && decide (x ≤ 9223372036854775807)
def vlOf (x : Int) : Vl := if fits x then ⟨x, 0⟩ else ⟨0, 1⟩
end Go.Proofs.Ytdgmoiflahoihab
