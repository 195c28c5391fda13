import Derived.Test.YtdgmoiflahoihaaGreatPlainw

/- Where the document's answer splits an expression. -/
namespace Go.Proofs.YtdgmoiflahoihaaGreat
set_option linter.unusedSimpArgs false
set_option linter.unusedVariables false

/-- Does a unit end with this byte? -/
def endsB (c : UInt8) : Bool := c == 41 || nmB c || dgB c

/-- An operation's rank. -/
def rankB (c : UInt8) : Nat := if c == 60 || c == 61 then 3 else if c == 43 || c == 45 then 2 else if c == 42 || c == 47 || c == 37 then 1 else 0

/-- How far the place of the last operation is looked for: the depth, whether the byte ahead ends a unit, the best place and its rank. -/
structure Sp where
  d : Int
  p : Bool
  b : Int
  r : Nat

def deepB (c : UInt8) (d : Int) : Int := if c == 40 then d + 1 else if c == 41 then d - 1 else d

def takesB (s : Sp) (c : UInt8) : Bool := decide (deepB c s.d ≤ 0) && s.p && decide (0 < rankB c) && decide (s.r ≤ rankB c)

def spStep (s : Sp) (i : Nat) (c : UInt8) : Sp := if takesB s c then ⟨deepB c s.d, endsB c, i, rankB c⟩ else ⟨deepB c s.d, endsB c, s.b, s.r⟩

def spRun : List UInt8 → Nat → Sp → Sp
  | [], _, s => s
  | c :: l, i, s => spRun l (i + 1) (spStep s i c)

def sp0 : Sp := ⟨0, false, -1, 0⟩

/-- The place of the operation that is done last; -1: it is a unit. -/
def splitC (C : List UInt8) (lo hi : Nat) : Int := (spRun (seg C lo hi) lo sp0).b

/-- Does the letter ahead of place k end a unit? -/
def pB (C : List UInt8) (lo k : Nat) : Bool := if k = lo then false else endsB (C.getD (k - 1) 0)

theorem sp_next {C : List UInt8} {lo hi k : Nat} {d b d' b' : Int} {r r' : Nat} (hlo : lo ≤ k) (hlt : k < hi) (hh : hi ≤ C.length)
    (hs : (spRun (seg C k hi) k ⟨d, pB C lo k, b, r⟩).b = splitC C lo hi) (hst : spStep ⟨d, pB C lo k, b, r⟩ k C[k] = ⟨d', endsB C[k], b', r'⟩) :
    (spRun (seg C (k + 1) hi) (k + 1) ⟨d', pB C lo (k + 1), b', r'⟩).b = splitC C lo hi := by
  rw [seg_cons hlt hh] at hs
  simp only [spRun] at hs
  rw [hst] at hs
  have e : pB C lo (k + 1) = endsB C[k] := by
    unfold pB
    rw [if_neg (by omega)]
    simp [List.getD, List.getElem?_eq_getElem (show k < C.length by omega)]
  rw [e]
  exact hs

/-- The step where nothing is taken. -/
theorem sp_not {s : Sp} {k : Nat} {c : UInt8} (h : takesB s c = false) : spStep s k c = ⟨deepB c s.d, endsB c, s.b, s.r⟩ := by
  unfold spStep; rw [h]; rfl

theorem sp_yes {s : Sp} {k : Nat} {c : UInt8} (h : takesB s c = true) : spStep s k c = ⟨deepB c s.d, endsB c, k, rankB c⟩ := by
  unfold spStep; rw [h]; rfl

end Go.Proofs.YtdgmoiflahoihaaGreat
