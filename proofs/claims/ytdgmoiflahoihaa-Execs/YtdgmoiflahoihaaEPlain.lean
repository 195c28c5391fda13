
namespace Go.Proofs.Ytdgmoiflahoihaa
end Go.Proofs.Ytdgmoiflahoihaa
namespace Go.Proofs.Ytdgmoiflahoihaa
def blankB (c : UInt8) : Bool := c == 32 || c == 10
end Go.Proofs.Ytdgmoiflahoihaa
