import Derived.Test.YtdgmoiflahoihabRVw
import Derived.Test.YtdgmoiflahoihabKCheckw

namespace Go.Proofs.Ytdgmoiflahoihab
open Go.RowKit
set_option linter.unusedSimpArgs false
set_option linter.unusedVariables false
def vl0 : Vl := ⟨0, 0⟩
def topV (st : List Vl) : Vl := st.getLast?.getD vl0
def takeV (names : List Vl) (p : Pt) (st : List Vl) : Vl × List Vl :=
 if p.op = 1 then (⟨p.num, 0⟩, st)
 else if p.op = 2 then (names.getD p.num.toNat vl0, st)
 else if p.op = 3 then (negV (topV st), st.dropLast)
 else (opV p.op (topV st.dropLast) (topV st), st.dropLast.dropLast)
def pileV (names : List Vl) : List Pt → List Vl → List Vl
 | [], st => st
 | p :: r, st => pileV names r ((takeV names p st).2 ++ [(takeV names p st).1])
end Go.Proofs.Ytdgmoiflahoihab
