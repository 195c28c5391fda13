import Derived.RowKit

namespace Go.Proofs.Ytdgmoiflahoihaa
open Go.RowKit
set_option linter.unusedSimpArgs false
set_option linter.unusedVariables false
structure Vl where
 num : Int
 fault : Int
structure VlOk (v : Vl) : Prop where
 num : -9223372036854775808 ≤ v.num ∧ v.num ≤ 9223372036854775807
 fault : 0 ≤ v.fault ∧ v.fault ≤ 2
 none : v.fault ≠ 0 → v.num = 0
end Go.Proofs.Ytdgmoiflahoihaa
