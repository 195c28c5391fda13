import Derived.Test.YtdgmoiflahoihaaROperw
import Derived.Lib.SmallJoins

namespace Go.Proofs.Ytdgmoiflahoihaa
open Go.RowKit
set_option linter.unusedSimpArgs false
set_option linter.unusedVariables false
structure Pt where
 op : Int
 num : Int
def ptV (p : Pt) : List Value := [.int .i64 p.op, .int .i64 p.num]
def ptCells (l : List Pt) : List Value := l.flatMap ptV
structure Keep (B b : Nat) (w w' : World) : Prop where
 os : w'.os = w.os
 tape : w'.tape = w.tape
 output : w'.output = w.output
 size : w.heap.size ≤ w'.heap.size
 block : ∀ k, k < B → k ≠ b → w'.heap[k]? = w.heap[k]?
theorem Keep.refl (B b : Nat) (w : World) : Keep B b w w := ⟨rfl, rfl, rfl, Nat.le_refl _, fun _ _ _ => rfl⟩
theorem Keep.trans {B b : Nat} {w w1 w2 : World} (h : Keep B b w w1) (k : Keep B b w1 w2) : Keep B b w w2 :=
 ⟨k.os.trans h.os, k.tape.trans h.tape, k.output.trans h.output, Nat.le_trans h.size k.size, fun i hi hn => (k.block i hi hn).trans (h.block i hi hn)⟩
theorem Keep.mono {B B' b : Nat} {w w' : World} (h : Keep B b w w') (hB : B' ≤ B) : Keep B' b w w' := ⟨h.os, h.tape, h.output, h.size, fun k hk hn => h.block k (by omega) hn⟩
theorem Keep.drewN {B b : Nat} {w w' : World} (h : Keep B b w w') (n : Nat) : Keep B b w (w'.drewN n) := ⟨h.os, h.tape, h.output, h.size, h.block⟩
theorem Keep.alloc {B b : Nat} {w w' : World} (h : Keep B b w w') (hB : B ≤ w'.heap.size) (o : Obj) : Keep B b w (w'.alloc o) :=
 h.trans ⟨rfl, rfl, rfl, by simp, fun k hk _ => Below.heap_alloc _ _ _ (by omega)⟩
theorem Keep.set {B b : Nat} {w w' : World} (h : Keep B b w w') (o : Nat) (u : Value) : Keep B b w (w'.setCell ⟨b, o, none⟩ u) :=
 h.trans ⟨rfl, rfl, rfl, by simp [World.setCell], fun k hk hn => Below.heap_setCell _ _ _ _ hn⟩
theorem Keep.below {B b : Nat} {w w' : World} (h : Keep B b w w') (hb : B ≤ b) : Below B w w' := ⟨h.os, h.tape, h.output, h.size, fun k hk => h.block k hk (by omega)⟩
theorem own_but {w w' : World} {base size n b : Nat} {e : TypeId} {v : Value} {xs : List Value} (h : w.ownsRow base e size v n xs) (hb : But b w w') (hlt : b < base) : w'.ownsRow base e size v n xs := by
 refine h.kept hb ?_
 cases hv : v.ownBlock with
 | none => exact .inl rfl
 | some g =>
  refine .inr fun e1 => ?_
  have := (h.lt g hv).1
  cases e1
  omega
structure ExAt (w : World) (base b : Nat) (s : ByteArray) (r : Rd) (l : List Pt) : Prop where
 here : ∃ pv, ReaderAt w b s r pv ∧ w.ownsRow base 161 2 pv l.length (ptCells l)
 lt : b < base
 le : base ≤ w.heap.size
end Go.Proofs.Ytdgmoiflahoihaa
namespace Go.Proofs.Ytdgmoiflahoihaa
open Go.RowKit
set_option linter.unusedSimpArgs false
set_option linter.unusedVariables false
abbrev RP := Rd × List Pt
structure Adv (t : List UInt8) (x y : RP) : Prop where
 pos : x.1.pos ≤ y.1.pos
 le : y.1.pos ≤ t.length
 len : y.2.length + x.1.pos ≤ x.2.length + y.1.pos
 depth : y.1.depth = x.1.depth
 bad : x.1.bad = true → y.1.bad = true
structure Fit (t : List UInt8) (n : Nat) (x : RP) : Prop where
 le : x.1.pos ≤ t.length
 len : x.2.length ≤ x.1.pos
 d0 : 0 ≤ x.1.depth
 d9 : x.1.depth ≤ 9
 db : x.1.depth = 9 → x.1.bad = true
 fuel : 9 - x.1.depth < n
theorem Adv.trans {t : List UInt8} {x y z : RP} (h : Adv t x y) (k : Adv t y z) : Adv t x z :=
 ⟨Nat.le_trans h.pos k.pos, k.le, by have := h.len; have := k.len; omega, k.depth.trans h.depth, fun e => k.bad (h.bad e)⟩
theorem Fit.mono {t : List UInt8} {n m : Nat} {x : RP} (h : Fit t n x) (k : n ≤ m) : Fit t m x := ⟨h.le, h.len, h.d0, h.d9, h.db, by have := h.fuel; omega⟩
end Go.Proofs.Ytdgmoiflahoihaa
namespace Go.Proofs.Ytdgmoiflahoihaa
open Go.RowKit
set_option linter.unusedSimpArgs false
set_option linter.unusedVariables false
theorem ExAt.drewN {w : World} {base b : Nat} {s : ByteArray} {r : Rd} {l : List Pt} (h : ExAt w base b s r l) (n : Nat) : ExAt (w.drewN n) base b s r l := by
 obtain ⟨⟨pv, hr, ho⟩, hlt, hle⟩ := h
 exact ⟨⟨pv, hr.drewN n, ho⟩, hlt, hle⟩
section
variable {base b : Nat} {s : ByteArray} {r : Rd} {l : List Pt} {w : World}
end
end Go.Proofs.Ytdgmoiflahoihaa
