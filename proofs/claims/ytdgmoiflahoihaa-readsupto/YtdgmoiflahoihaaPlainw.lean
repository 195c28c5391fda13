
namespace Go.Proofs.Ytdgmoiflahoihaa
structure Fm where
 st : Int
 op : List UInt8
 body : Bool
 digits : Int
 last : Int
 purpose : Int
 related : Bool
 block : List UInt8
def Fm.to (f : Fm) (n : Int) : Fm × Bool := ({ f with st := n }, true)
def isDg (c : Int) : Bool := decide (48 ≤ c) && decide (c ≤ 57)
end Go.Proofs.Ytdgmoiflahoihaa
namespace Go.Proofs.Ytdgmoiflahoihaa
def Fm.start : Fm := ⟨0, [], false, 0, 0, 0, false, []⟩
def blankB (c : UInt8) : Bool := c == 32 || c == 10
def Fm.done (f : Fm) : Bool := (decide (f.st = 0) || decide (f.st = 1)) && f.op.isEmpty
end Go.Proofs.Ytdgmoiflahoihaa
namespace Go.Proofs.Ytdgmoiflahoihaa
end Go.Proofs.Ytdgmoiflahoihaa
namespace Go.Proofs.Ytdgmoiflahoihaa
end Go.Proofs.Ytdgmoiflahoihaa
namespace Go.Proofs.Ytdgmoiflahoihaa
end Go.Proofs.Ytdgmoiflahoihaa
namespace Go.Proofs.Ytdgmoiflahoihaa
end Go.Proofs.Ytdgmoiflahoihaa
namespace Go.Proofs.Ytdgmoiflahoihaa
end Go.Proofs.Ytdgmoiflahoihaa
namespace Go.Proofs.Ytdgmoiflahoihaa
end Go.Proofs.Ytdgmoiflahoihaa
namespace Go.Proofs.Ytdgmoiflahoihaa
end Go.Proofs.Ytdgmoiflahoihaa
