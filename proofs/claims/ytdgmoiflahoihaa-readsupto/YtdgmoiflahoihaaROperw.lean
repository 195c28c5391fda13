import Derived.Test.YtdgmoiflahoihaaROpenw

namespace Go.Proofs.Ytdgmoiflahoihaa
open Go.RowKit
set_option linter.unusedSimpArgs false
set_option linter.unusedVariables false
end Go.Proofs.Ytdgmoiflahoihaa
namespace Go.Proofs.Ytdgmoiflahoihaa
open Go.RowKit
set_option linter.unusedSimpArgs false
set_option linter.unusedVariables false
def Rd.numF (t : List UInt8) : Nat → Rd → Int → Rd × Int
 | 0, r, v => (r, v)
 | n + 1, r, v => if r.seesOne t 48 57 then Rd.numF t n (r.takeOne t 48 57).1 (v * 10 + (r.takeOne t 48 57).2) else (r, v)
def Rd.number (t : List UInt8) (r : Rd) : Rd × Int := Rd.numF t 17 (r.takeOne t 48 57).1 (r.takeOne t 48 57).2
end Go.Proofs.Ytdgmoiflahoihaa
namespace Go.Proofs.Ytdgmoiflahoihaa
open Go.RowKit
set_option linter.unusedSimpArgs false
set_option linter.unusedVariables false
end Go.Proofs.Ytdgmoiflahoihaa
