import Derived.Test.YtdgmoiflahoihaaERO
import Derived.Lib.SmallJoins

namespace Go.Proofs.Ytdgmoiflahoihaa
open Go.RowKit
set_option linter.unusedSimpArgs false
set_option linter.unusedVariables false
def Rd.labF (t : List UInt8) : Nat → Rd → Nat → Rd × Nat
 | 0, r, l => (r, l)
 | n + 1, r, l =>
  if r.seesOne t (UInt8.ofNat (68 - n)) (UInt8.ofNat (68 - n)) then Rd.labF t n (r.takeOne t (UInt8.ofNat (68 - n)) (UInt8.ofNat (68 - n))).1 (l + 2 ^ (3 - n))
  else Rd.labF t n r l
def Rd.label (t : List UInt8) (r : Rd) : Rd × Nat :=
 if r.seesOne t 45 45 then ((r.takeOne t 45 45).1, 0)
 else if (r.labF t 4 0).2 = 0 then ({ (r.labF t 4 0).1 with bad := true }, 0)
 else r.labF t 4 0
end Go.Proofs.Ytdgmoiflahoihaa
namespace Go.Proofs.Ytdgmoiflahoihaa
open Go.RowKit
set_option linter.unusedSimpArgs false
set_option linter.unusedVariables false
end Go.Proofs.Ytdgmoiflahoihaa
namespace Go.Proofs.Ytdgmoiflahoihaa
open Go.RowKit
set_option linter.unusedSimpArgs false
set_option linter.unusedVariables false
end Go.Proofs.Ytdgmoiflahoihaa
namespace Go.Proofs.Ytdgmoiflahoihaa
open Go.RowKit
set_option linter.unusedSimpArgs false
set_option linter.unusedVariables false
structure Keep (B b : Nat) (w w' : World) : Prop where
 os : w'.os = w.os
 tape : w'.tape = w.tape
 output : w'.output = w.output
 size : w.heap.size ≤ w'.heap.size
 block : ∀ k, k < B → k ≠ b → w'.heap[k]? = w.heap[k]?
theorem Keep.refl (B b : Nat) (w : World) : Keep B b w w := ⟨rfl, rfl, rfl, Nat.le_refl _, fun _ _ _ => rfl⟩
theorem Keep.trans {B b : Nat} {w w1 w2 : World} (h : Keep B b w w1) (k : Keep B b w1 w2) : Keep B b w w2 :=
 ⟨k.os.trans h.os, k.tape.trans h.tape, k.output.trans h.output, Nat.le_trans h.size k.size, fun i hi hn => (k.block i hi hn).trans (h.block i hi hn)⟩
theorem Keep.mono {B B' b : Nat} {w w' : World} (h : Keep B b w w') (hB : B' ≤ B) : Keep B' b w w' := ⟨h.os, h.tape, h.output, h.size, fun k hk hn => h.block k (by omega) hn⟩
theorem But.keep {B b : Nat} {w w' : World} (h : But b w w') (hB : B ≤ w.heap.size) : Keep B b w w' := by
 obtain ⟨h1, h2, h3, h4, h5⟩ := h
 exact ⟨h1, h2, h3, h4, fun k hk hn => h5 k (by omega) (by intro e; cases e; exact hn rfl)⟩
theorem Keep.drewN {B b : Nat} {w w' : World} (h : Keep B b w w') (n : Nat) : Keep B b w (w'.drewN n) := ⟨h.os, h.tape, h.output, h.size, h.block⟩
theorem Keep.alloc {B b : Nat} {w w' : World} (h : Keep B b w w') (hB : B ≤ w'.heap.size) (o : Obj) : Keep B b w (w'.alloc o) :=
 h.trans ⟨rfl, rfl, rfl, by simp, fun k hk _ => Below.heap_alloc _ _ _ (by omega)⟩
theorem Keep.set {B b : Nat} {w w' : World} (h : Keep B b w w') (o : Nat) (u : Value) : Keep B b w (w'.setCell ⟨b, o, none⟩ u) :=
 h.trans ⟨rfl, rfl, rfl, by simp [World.setCell], fun k hk hn => Below.heap_setCell _ _ _ _ hn⟩
theorem Keep.below {B b : Nat} {w w' : World} (h : Keep B b w w') (hb : B ≤ b) : Below B w w' := ⟨h.os, h.tape, h.output, h.size, fun k hk => h.block k hk (by omega)⟩
end Go.Proofs.Ytdgmoiflahoihaa
