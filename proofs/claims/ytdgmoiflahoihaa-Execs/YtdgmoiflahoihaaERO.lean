import Derived.Test.YtdgmoiflahoihaaEPlain
import Derived.Test.YtdgmoiflahoihaaRows
import Derived.WalkKit
import Derived.WalkSpells
import Derived.WalkLawsBesides
import Derived.Deep.QuietTactic
import Derived.BigQuiet

namespace Go.Proofs.Ytdgmoiflahoihaa
structure Rd where
 pos : Nat
 depth : Int
 bad : Bool
def skipL : List UInt8 → Nat → Nat
 | [], k => k
 | c :: r, k => if blankB c then skipL r (k + 1) else k
def Rd.skip (t : List UInt8) (r : Rd) : Rd := { r with pos := skipL (t.drop r.pos) r.pos }
def Rd.seesOne (t : List UInt8) (r : Rd) (low high : UInt8) : Bool :=
 !r.bad && (match t[r.pos]? with | none => false | some b => decide (low ≤ b) && decide (b ≤ high))
def Rd.takeOne (t : List UInt8) (r : Rd) (low high : UInt8) : Rd × Int :=
 if r.seesOne t low high then (Rd.skip t { r with pos := r.pos + 1 }, ((t.getD r.pos 0).toNat : Int) - (low.toNat : Int))
 else ({ r with bad := true }, 0)
end Go.Proofs.Ytdgmoiflahoihaa
namespace Go.Proofs.Ytdgmoiflahoihaa
open Go.RowKit
set_option linter.unusedSimpArgs false
set_option linter.unusedVariables false
structure ReaderAt (w : World) (b : Nat) (s : ByteArray) (r : Rd) (pv : Value) : Prop where
 c0 : w.cell? ⟨b, 0, none⟩ = some (.string s)
 c1 : w.cell? ⟨b, 1, none⟩ = some (.int .i64 r.pos)
 c2 : w.cell? ⟨b, 2, none⟩ = some (.int .i64 r.depth)
 c3 : w.cell? ⟨b, 3, none⟩ = some pv
 c4 : w.cell? ⟨b, 4, none⟩ = some (.bool r.bad)
 fz : ∀ o, w.frozen? ⟨b, o, none⟩ = false
def But (b : Nat) (w w' : World) : Prop := w.grownBy w' (some b)
theorem But.refl (b : Nat) (w : World) : But b w w := World.grownBy.refl w _
theorem But.set {b : Nat} {w w' : World} (h : But b w w') (o : Nat) (v : Value) : But b w (w'.setCell ⟨b, o, none⟩ v) := by
 obtain ⟨h1, h2, h3, h4, h5⟩ := h
 refine ⟨h1, h2, h3, by simpa using h4, fun k hk hne => ?_⟩
 rw [heap_setCell_other _ _ _ _ (by intro e; exact hne (by rw [e]))]
 exact h5 k hk hne
theorem But.drewN {b : Nat} {w w' : World} (h : But b w w') (n : Nat) : But b w (w'.drewN n) := by
 obtain ⟨h1, h2, h3, h4, h5⟩ := h
 exact ⟨h1, h2, h3, h4, h5⟩
end Go.Proofs.Ytdgmoiflahoihaa
namespace Go.Proofs.Ytdgmoiflahoihaa
open Go.RowKit
set_option linter.unusedSimpArgs false
set_option linter.unusedVariables false
theorem ReaderAt.drewN {w : World} {b : Nat} {s : ByteArray} {r : Rd} {pv : Value} (h : ReaderAt w b s r pv) (n : Nat) : ReaderAt (w.drewN n) b s r pv := by
 obtain ⟨c0, c1, c2, c3, c4, fz⟩ := h
 exact ⟨c0, c1, c2, c3, c4, fz⟩
end Go.Proofs.Ytdgmoiflahoihaa
namespace Go.Proofs.Ytdgmoiflahoihaa
open Go.RowKit
set_option linter.unusedSimpArgs false
set_option linter.unusedVariables false
theorem But.trans {b : Nat} {w w1 w2 : World} (h : But b w w1) (k : But b w1 w2) : But b w w2 := by
 obtain ⟨h1, h2, h3, h4, h5⟩ := h
 obtain ⟨k1, k2, k3, k4, k5⟩ := k
 refine ⟨k1.trans h1, k2.trans h2, k3.trans h3, by omega, fun j hj hne => ?_⟩
 rw [k5 j (by omega) hne, h5 j hj hne]
end Go.Proofs.Ytdgmoiflahoihaa
namespace Go.Proofs.Ytdgmoiflahoihaa
open Go.RowKit
set_option linter.unusedSimpArgs false
set_option linter.unusedVariables false
end Go.Proofs.Ytdgmoiflahoihaa
