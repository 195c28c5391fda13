
/- The automaton of the reference's form (tariffref/form.go), as plain functions. -/
namespace Go.Proofs.Ytnaonmclmmoipaa

structure Fm where
  st : Int
  op : List UInt8
  body : Bool
  digits : Int
  last : Int
  purpose : Int
  related : Bool
  block : List UInt8

def Fm.to (f : Fm) (n : Int) : Fm × Bool := ({ f with st := n }, true)

def isNm (c : Int) : Bool := decide (97 ≤ c) && decide (c ≤ 122)
def isDg (c : Int) : Bool := decide (48 ≤ c) && decide (c ≤ 57)
def isSc (c : Int) : Bool := decide (65 ≤ c) && decide (c ≤ 68)

def Fm.top (f : Fm) : UInt8 := f.op.headD 0
def Fm.room (f : Fm) : Bool := decide (f.op.length < 8)

def Fm.rule (f : Fm) (c : Int) : Fm × Bool :=
  if (c = 63 ∨ c = 33) ∧ f.body = false then f.to 5
  else if c = 125 ∧ f.top = 49 then { f with op := f.op.tail }.to 1
  else if c = 125 ∧ (f.top = 50 ∨ f.top = 108) then { f with op := f.op.tail }.to 0
  else
    let f := { f with body := true, related := false }
    if isNm c = true then f.to 2
    else if c = 94 then f.to 3
    else if c = 62 then { f with purpose := 2 }.to 7
    else if c = 40 ∧ f.op.length < 8 then { f with op := 99 :: f.op }.to 10
    else if c = 42 ∧ f.op.length < 8 then f.to 13
    else (f, false)

def Fm.unit (f : Fm) (c : Int) : Fm × Bool :=
  if isDg c = true then { f with digits := 1 }.to 11
  else if isNm c = true then f.to 12
  else if c = 45 then f.to 10
  else if c = 40 ∧ f.op.length < 8 then { f with op := (if f.related then 69 else 101) :: f.op, related := false }.to 10
  else (f, false)

def Fm.labeled (f : Fm) (c : Int) : Fm × Bool :=
  if f.purpose = 0 ∧ c = 59 then f.to 0
  else if f.purpose = 1 ∧ c = 61 then f.to 10
  else if f.purpose = 2 then f.unit c
  else (f, false)

def Fm.paren (f : Fm) : Bool := f.top = 99 ∨ f.top = 101 ∨ f.top = 69

def Fm.after (f : Fm) (c : Int) : Fm × Bool :=
  if c = 43 ∨ c = 45 ∨ c = 42 ∨ c = 47 ∨ c = 37 then f.to 10
  else if (c = 60 ∨ c = 61) ∧ f.related = false then { f with related := true }.to 10
  else if c = 59 ∧ f.paren = false then f.to 0
  else if c = 41 ∧ f.top = 99 then { f with op := f.op.tail, related := false, block := [49] }.to 14
  else if c = 41 ∧ f.top = 101 then { f with op := f.op.tail, related := false }.to 12
  else if c = 41 ∧ f.top = 69 then { f with op := f.op.tail, related := true }.to 12
  else (f, false)

def Fm.letters (f : Fm) (c : Int) : Fm × Bool :=
  if f.st = 7 ∧ c = 45 then f.to 9
  else if isSc c = true ∧ (f.st = 7 ∨ f.last < c) then { f with last := c }.to 8
  else if f.st = 8 then f.labeled c
  else (f, false)

def Fm.fixed (f : Fm) (c : Int) : Fm × Bool :=
  if f.st = 2 ∧ c = 61 then f.to 10
  else if f.st = 3 ∧ isNm c = true then f.to 4
  else if f.st = 5 ∧ isNm c = true then f.to 6
  else if f.st = 4 ∧ c = 58 then { f with purpose := 1 }.to 7
  else if f.st = 6 ∧ c = 58 then { f with purpose := 0 }.to 7
  else if f.st = 13 ∧ isDg c = true ∧ c ≠ 48 then { f with block := [108] }.to 14
  else if f.st = 14 ∧ c = 123 then { f with op := f.block ++ f.op }.to 0
  else (f, false)

def Fm.next (f : Fm) (c : Int) : Fm × Bool :=
  if f.st = 0 then f.rule c
  else if f.st = 1 then (if c = 123 ∧ f.op.length < 8 then { f with op := 50 :: f.op }.to 0 else f.rule c)
  else if f.st = 7 ∨ f.st = 8 then f.letters c
  else if f.st = 9 then f.labeled c
  else if f.st = 10 then f.unit c
  else if f.st = 11 then (if isDg c = true then ({ f with digits := f.digits + 1 }, decide (f.digits + 1 ≤ 18)) else f.after c)
  else if f.st = 12 then f.after c
  else f.fixed c

end Go.Proofs.Ytnaonmclmmoipaa

/- The place of the first byte that cannot stand (tariffref.Place), as a plain function; what a step leaves small. -/
namespace Go.Proofs.Ytnaonmclmmoipaa

def Fm.start : Fm := ⟨0, [], false, 0, 0, 0, false, []⟩

def blankB (c : UInt8) : Bool := c == 32 || c == 10

def Fm.done (f : Fm) : Bool := (decide (f.st = 0) || decide (f.st = 1)) && f.op.isEmpty

def placeR : List UInt8 → Fm → Nat → Int
  | [], f, i => if f.done then -1 else i
  | c :: r, f, i => if blankB c then placeR r f (i + 1) else if (f.next c.toNat).2 then placeR r (f.next c.toNat).1 (i + 1) else i

def placeOf (l : List UInt8) : Int := placeR l Fm.start 0

/-- What a step keeps small. -/
structure Fm.Small (n : Nat) (f : Fm) : Prop where
  op : f.op.length ≤ n
  block : f.block.length ≤ 1
  d0 : 0 ≤ f.digits
  d1 : f.digits ≤ n

theorem small_rule {n : Nat} {f : Fm} (c : Int) (h : f.Small n) : (f.rule c).1.Small (n + 1) := by
  obtain ⟨h1, h2, h3, h4⟩ := h
  unfold Fm.rule Fm.to
  dsimp only
  repeat' split
  all_goals (constructor <;> simp <;> omega)

theorem small_unit {n : Nat} {f : Fm} (c : Int) (h : f.Small n) : (f.unit c).1.Small (n + 1) := by
  obtain ⟨h1, h2, h3, h4⟩ := h
  unfold Fm.unit Fm.to
  repeat' split
  all_goals (constructor <;> simp <;> omega)

theorem small_mono {n m : Nat} {f : Fm} (h : f.Small n) (k : n ≤ m) : f.Small m := by
  obtain ⟨h1, h2, h3, h4⟩ := h
  constructor <;> omega

theorem small_labeled {n : Nat} {f : Fm} (c : Int) (h : f.Small n) : (f.labeled c).1.Small (n + 1) := by
  unfold Fm.labeled
  repeat' split
  case isTrue => exact ⟨by have := h.1; simp [Fm.to]; omega, h.2, h.3, by have := h.4; simp [Fm.to]; omega⟩
  case isTrue => exact ⟨by have := h.1; simp [Fm.to]; omega, h.2, h.3, by have := h.4; simp [Fm.to]; omega⟩
  case isTrue => exact small_unit c h
  case isFalse => exact small_mono h (by omega)

theorem small_after {n : Nat} {f : Fm} (c : Int) (h : f.Small n) : (f.after c).1.Small (n + 1) := by
  obtain ⟨h1, h2, h3, h4⟩ := h
  unfold Fm.after Fm.to
  repeat' split
  all_goals (constructor <;> simp <;> omega)

theorem small_letters {n : Nat} {f : Fm} (c : Int) (h : f.Small n) : (f.letters c).1.Small (n + 1) := by
  unfold Fm.letters
  repeat' split
  case isTrue => exact ⟨by have := h.1; simp [Fm.to]; omega, h.2, h.3, by have := h.4; simp [Fm.to]; omega⟩
  case isTrue => exact ⟨by have := h.1; simp [Fm.to]; omega, h.2, h.3, by have := h.4; simp [Fm.to]; omega⟩
  case isTrue => exact small_labeled c h
  case isFalse => exact small_mono h (by omega)

theorem small_fixed {n : Nat} {f : Fm} (c : Int) (h : f.Small n) : (f.fixed c).1.Small (n + 1) := by
  obtain ⟨h1, h2, h3, h4⟩ := h
  unfold Fm.fixed Fm.to
  repeat' split
  all_goals (constructor <;> simp <;> omega)

theorem small_next {n : Nat} {f : Fm} (c : Int) (h : f.Small n) : (f.next c).1.Small (n + 1) := by
  unfold Fm.next
  repeat' split
  case isTrue => exact small_rule c h
  case isTrue.isTrue => exact ⟨by have := h.1; simp [Fm.to]; omega, h.2, h.3, by have := h.4; simp [Fm.to]; omega⟩
  case isTrue.isFalse => exact small_rule c h
  case isTrue => exact small_letters c h
  case isTrue => exact small_labeled c h
  case isTrue => exact small_unit c h
  case isTrue.isTrue => exact ⟨by have := h.1; simp; omega, h.2, by have := h.3; simp; omega, by have := h.4; simp; omega⟩
  case isTrue.isFalse => exact small_after c h
  case isTrue => exact small_after c h
  case isFalse => exact small_fixed c h

theorem drop_get (s : ByteArray) (k : Nat) (h : k < s.size) : s.data.toList.drop k = s[k] :: s.data.toList.drop (k + 1) := by
  have hl : k < s.data.toList.length := by simpa using h
  rw [List.drop_eq_getElem_cons hl]
  rfl

theorem place_blank {s : ByteArray} {k : Nat} {f : Fm} (h : k < s.size) (hb : blankB s[k] = true) : placeR (s.data.toList.drop (k + 1)) f (k + 1) = placeR (s.data.toList.drop k) f k := by
  rw [drop_get s k h]; simp [placeR, hb]

theorem place_step {s : ByteArray} {k : Nat} {f g : Fm} (h : k < s.size) (hb : blankB s[k] = false) (hn : f.next (s[k].toNat : Int) = (g, true)) : placeR (s.data.toList.drop (k + 1)) g (k + 1) = placeR (s.data.toList.drop k) f k := by
  rw [drop_get s k h]; simp [placeR, hb, hn]

theorem place_stop {s : ByteArray} {k : Nat} {f g : Fm} (h : k < s.size) (hb : blankB s[k] = false) (hn : f.next (s[k].toNat : Int) = (g, false)) : (k : Int) = placeR (s.data.toList.drop k) f k := by
  rw [drop_get s k h]; simp [placeR, hb, hn]

theorem place_end {s : ByteArray} {k : Nat} {f : Fm} (h : s.size ≤ k) : placeR (s.data.toList.drop k) f k = if f.done then -1 else (k : Int) := by
  rw [List.drop_of_length_le (by simpa using h)]; simp [placeR]

end Go.Proofs.Ytnaonmclmmoipaa
