import Derived.Test.YtdgmoiflahoihabPlainx

namespace Go.Proofs.Ytdgmoiflahoihab
set_option linter.unusedSimpArgs false
set_option linter.unusedVariables false
def endsB (c : UInt8) : Bool := c == 41 || nmB c || dgB c
def rankB (c : UInt8) : Nat := if c == 60 || c == 61 then 3 else if c == 43 || c == 45 then 2 else if c == 42 || c == 47 || c == 37 then 1 else 0
structure Sp where
 d : Int
 p : Bool
 b : Int
 r : Nat
def deepB (c : UInt8) (d : Int) : Int := if c == 40 then d + 1 else if c == 41 then d - 1 else d
def takesB (s : Sp) (c : UInt8) : Bool := decide (deepB c s.d ≤ 0) && s.p && decide (0 < rankB c) && decide (s.r ≤ rankB c)
def spStep (s : Sp) (i : Nat) (c : UInt8) : Sp := if takesB s c then ⟨deepB c s.d, endsB c, i, rankB c⟩ else ⟨deepB c s.d, endsB c, s.b, s.r⟩
def spRun : List UInt8 → Nat → Sp → Sp
 | [], _, s => s
 | c :: l, i, s => spRun l (i + 1) (spStep s i c)
def sp0 : Sp := ⟨0, false, -1, 0⟩
def splitC (C : List UInt8) (lo hi : Nat) : Int := (spRun (seg C lo hi) lo sp0).b
end Go.Proofs.Ytdgmoiflahoihab
