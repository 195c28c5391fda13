
namespace Go.Proofs.YtdgmoiflahoihaaGreatDoor
structure Fm where
 st : Int
 op : List UInt8
 body : Bool
 digits : Int
 last : Int
 purpose : Int
 related : Bool
 block : List UInt8
def Fm.to (f : Fm) (n : Int) : Fm × Bool := ({ f with st := n }, true)
def isNm (c : Int) : Bool := decide (97 ≤ c) && decide (c ≤ 122)
def isDg (c : Int) : Bool := decide (48 ≤ c) && decide (c ≤ 57)
def isSc (c : Int) : Bool := decide (65 ≤ c) && decide (c ≤ 68)
def Fm.top (f : Fm) : UInt8 := f.op.headD 0
def Fm.room (f : Fm) : Bool := decide (f.op.length < 8)
def Fm.rule (f : Fm) (c : Int) : Fm × Bool :=
 if (c = 63 ∨ c = 33) ∧ f.body = false then f.to 5
 else if c = 125 ∧ f.top = 49 then { f with op := f.op.tail }.to 1
 else if c = 125 ∧ (f.top = 50 ∨ f.top = 108) then { f with op := f.op.tail }.to 0
 else
  let f := { f with body := true, related := false }
  if isNm c = true then f.to 2
  else if c = 94 then f.to 3
  else if c = 62 then { f with purpose := 2 }.to 7
  else if c = 40 ∧ f.op.length < 8 then { f with op := 99 :: f.op }.to 10
  else if c = 42 ∧ f.op.length < 8 then f.to 13
  else (f, false)
def Fm.unit (f : Fm) (c : Int) : Fm × Bool :=
 if isDg c = true then { f with digits := 1 }.to 11
 else if isNm c = true then f.to 12
 else if c = 45 then f.to 10
 else if c = 40 ∧ f.op.length < 8 then { f with op := (if f.related then 69 else 101) :: f.op, related := false }.to 10
 else (f, false)
def Fm.labeled (f : Fm) (c : Int) : Fm × Bool :=
 if f.purpose = 0 ∧ c = 59 then f.to 0
 else if f.purpose = 1 ∧ c = 61 then f.to 10
 else if f.purpose = 2 then f.unit c
 else (f, false)
def Fm.paren (f : Fm) : Bool := f.top = 99 ∨ f.top = 101 ∨ f.top = 69
def Fm.after (f : Fm) (c : Int) : Fm × Bool :=
 if c = 43 ∨ c = 45 ∨ c = 42 ∨ c = 47 ∨ c = 37 then f.to 10
 else if (c = 60 ∨ c = 61) ∧ f.related = false then { f with related := true }.to 10
 else if c = 59 ∧ f.paren = false then f.to 0
 else if c = 41 ∧ f.top = 99 then { f with op := f.op.tail, related := false, block := [49] }.to 14
 else if c = 41 ∧ f.top = 101 then { f with op := f.op.tail, related := false }.to 12
 else if c = 41 ∧ f.top = 69 then { f with op := f.op.tail, related := true }.to 12
 else (f, false)
def Fm.letters (f : Fm) (c : Int) : Fm × Bool :=
 if f.st = 7 ∧ c = 45 then f.to 9
 else if isSc c = true ∧ (f.st = 7 ∨ f.last < c) then { f with last := c }.to 8
 else if f.st = 8 then f.labeled c
 else (f, false)
def Fm.fixed (f : Fm) (c : Int) : Fm × Bool :=
 if f.st = 2 ∧ c = 61 then f.to 10
 else if f.st = 3 ∧ isNm c = true then f.to 4
 else if f.st = 5 ∧ isNm c = true then f.to 6
 else if f.st = 4 ∧ c = 58 then { f with purpose := 1 }.to 7
 else if f.st = 6 ∧ c = 58 then { f with purpose := 0 }.to 7
 else if f.st = 13 ∧ isDg c = true ∧ c ≠ 48 then { f with block := [108] }.to 14
 else if f.st = 14 ∧ c = 123 then { f with op := f.block ++ f.op }.to 0
 else (f, false)
def Fm.next (f : Fm) (c : Int) : Fm × Bool :=
 if f.st = 0 then f.rule c
 else if f.st = 1 then (if c = 123 ∧ f.op.length < 8 then { f with op := 50 :: f.op }.to 0 else f.rule c)
 else if f.st = 7 ∨ f.st = 8 then f.letters c
 else if f.st = 9 then f.labeled c
 else if f.st = 10 then f.unit c
 else if f.st = 11 then (if isDg c = true then ({ f with digits := f.digits + 1 }, decide (f.digits + 1 ≤ 18)) else f.after c)
 else if f.st = 12 then f.after c
 else f.fixed c
end Go.Proofs.YtdgmoiflahoihaaGreatDoor
namespace Go.Proofs.YtdgmoiflahoihaaGreatDoor
def Fm.start : Fm := ⟨0, [], false, 0, 0, 0, false, []⟩
def blankB (c : UInt8) : Bool := c == 32 || c == 10
def Fm.done (f : Fm) : Bool := (decide (f.st = 0) || decide (f.st = 1)) && f.op.isEmpty
def placeR : List UInt8 → Fm → Nat → Int
 | [], f, i => if f.done then -1 else i
 | c :: r, f, i => if blankB c then placeR r f (i + 1) else if (f.next c.toNat).2 then placeR r (f.next c.toNat).1 (i + 1) else i
def placeOf (l : List UInt8) : Int := placeR l Fm.start 0
structure Fm.Small (n : Nat) (f : Fm) : Prop where
 op : f.op.length ≤ n
 block : f.block.length ≤ 1
 d0 : 0 ≤ f.digits
 d1 : f.digits ≤ n
theorem small_rule {n : Nat} {f : Fm} (c : Int) (h : f.Small n) : (f.rule c).1.Small (n + 1) := by
 obtain ⟨h1, h2, h3, h4⟩ := h
 unfold Fm.rule Fm.to
 dsimp only
 repeat' split
 all_goals (constructor <;> simp <;> omega)
theorem small_unit {n : Nat} {f : Fm} (c : Int) (h : f.Small n) : (f.unit c).1.Small (n + 1) := by
 obtain ⟨h1, h2, h3, h4⟩ := h
 unfold Fm.unit Fm.to
 repeat' split
 all_goals (constructor <;> simp <;> omega)
theorem small_mono {n m : Nat} {f : Fm} (h : f.Small n) (k : n ≤ m) : f.Small m := by
 obtain ⟨h1, h2, h3, h4⟩ := h
 constructor <;> omega
theorem small_labeled {n : Nat} {f : Fm} (c : Int) (h : f.Small n) : (f.labeled c).1.Small (n + 1) := by
 unfold Fm.labeled
 repeat' split
 case isTrue => exact ⟨by have := h.1; simp [Fm.to]; omega, h.2, h.3, by have := h.4; simp [Fm.to]; omega⟩
 case isTrue => exact ⟨by have := h.1; simp [Fm.to]; omega, h.2, h.3, by have := h.4; simp [Fm.to]; omega⟩
 case isTrue => exact small_unit c h
 case isFalse => exact small_mono h (by omega)
theorem small_after {n : Nat} {f : Fm} (c : Int) (h : f.Small n) : (f.after c).1.Small (n + 1) := by
 obtain ⟨h1, h2, h3, h4⟩ := h
 unfold Fm.after Fm.to
 repeat' split
 all_goals (constructor <;> simp <;> omega)
theorem small_letters {n : Nat} {f : Fm} (c : Int) (h : f.Small n) : (f.letters c).1.Small (n + 1) := by
 unfold Fm.letters
 repeat' split
 case isTrue => exact ⟨by have := h.1; simp [Fm.to]; omega, h.2, h.3, by have := h.4; simp [Fm.to]; omega⟩
 case isTrue => exact ⟨by have := h.1; simp [Fm.to]; omega, h.2, h.3, by have := h.4; simp [Fm.to]; omega⟩
 case isTrue => exact small_labeled c h
 case isFalse => exact small_mono h (by omega)
theorem small_fixed {n : Nat} {f : Fm} (c : Int) (h : f.Small n) : (f.fixed c).1.Small (n + 1) := by
 obtain ⟨h1, h2, h3, h4⟩ := h
 unfold Fm.fixed Fm.to
 repeat' split
 all_goals (constructor <;> simp <;> omega)
theorem small_next {n : Nat} {f : Fm} (c : Int) (h : f.Small n) : (f.next c).1.Small (n + 1) := by
 unfold Fm.next
 repeat' split
 case isTrue => exact small_rule c h
 case isTrue.isTrue => exact ⟨by have := h.1; simp [Fm.to]; omega, h.2, h.3, by have := h.4; simp [Fm.to]; omega⟩
 case isTrue.isFalse => exact small_rule c h
 case isTrue => exact small_letters c h
 case isTrue => exact small_labeled c h
 case isTrue => exact small_unit c h
 case isTrue.isTrue => exact ⟨by have := h.1; simp; omega, h.2, by have := h.3; simp; omega, by have := h.4; simp; omega⟩
 case isTrue.isFalse => exact small_after c h
 case isTrue => exact small_after c h
 case isFalse => exact small_fixed c h
theorem drop_get (s : ByteArray) (k : Nat) (h : k < s.size) : s.data.toList.drop k = s[k] :: s.data.toList.drop (k + 1) := by
 have hl : k < s.data.toList.length := by simpa using h
 rw [List.drop_eq_getElem_cons hl]
 rfl
theorem place_blank {s : ByteArray} {k : Nat} {f : Fm} (h : k < s.size) (hb : blankB s[k] = true) : placeR (s.data.toList.drop (k + 1)) f (k + 1) = placeR (s.data.toList.drop k) f k := by
 rw [drop_get s k h]; simp [placeR, hb]
theorem place_step {s : ByteArray} {k : Nat} {f g : Fm} (h : k < s.size) (hb : blankB s[k] = false) (hn : f.next (s[k].toNat : Int) = (g, true)) : placeR (s.data.toList.drop (k + 1)) g (k + 1) = placeR (s.data.toList.drop k) f k := by
 rw [drop_get s k h]; simp [placeR, hb, hn]
theorem place_stop {s : ByteArray} {k : Nat} {f g : Fm} (h : k < s.size) (hb : blankB s[k] = false) (hn : f.next (s[k].toNat : Int) = (g, false)) : (k : Int) = placeR (s.data.toList.drop k) f k := by
 rw [drop_get s k h]; simp [placeR, hb, hn]
theorem place_end {s : ByteArray} {k : Nat} {f : Fm} (h : s.size ≤ k) : placeR (s.data.toList.drop k) f k = if f.done then -1 else (k : Int) := by
 rw [List.drop_of_length_le (by simpa using h)]; simp [placeR]
end Go.Proofs.YtdgmoiflahoihaaGreatDoor
namespace Go.Proofs.YtdgmoiflahoihaaGreatDoor
def dl (c : UInt8) : Int := if c = 40 ∨ c = 123 then 1 else if c = 41 ∨ c = 125 then -1 else 0
def shutR : List UInt8 → Int → Nat → Nat
 | [], _, k => k
 | c :: r, n, k => if n + dl c = 0 then k + 1 else shutR r (n + dl c) (k + 1)
def shutC (C : List UInt8) (i : Nat) : Nat := if i ≤ C.length then shutR (C.drop i) 0 i else C.length
def semiR : List UInt8 → Nat → Option Nat
 | [], _ => none
 | c :: r, k => if c = 59 then some (k + 1) else semiR r (k + 1)
def overC (C : List UInt8) (i : Nat) : Option Nat :=
 match C[i]? with
 | none => none
 | some c =>
  if c = 40 then (if C[shutC C (shutC C i)]? = some 123 then some (shutC C (shutC C (shutC C i))) else some (shutC C (shutC C i)))
  else if c = 42 then some (shutC C (i + 2))
  else semiR (C.drop i) i
def beginF (C : List UInt8) : Nat → Nat → Option Nat
 | 0, _ => none
 | f + 1, i =>
  match C[i]? with
  | none => some i
  | some c => if c = 63 ∨ c = 33 then (match overC C i with | none => none | some k => beginF C f k) else some i
def beginC (C : List UInt8) : Option Nat := beginF C (C.length + 1) 0
theorem dl_up {c : UInt8} (h : (c.toNat : Int) = 40 ∨ (c.toNat : Int) = 123) : dl c = 1 := by
 have : c = 40 ∨ c = 123 := by
  rcases h with h | h
  ·exact .inl (UInt8.toNat_inj.mp (by simp; omega))
  ·exact .inr (UInt8.toNat_inj.mp (by simp; omega))
 simp [dl, this]
theorem dl_down {c : UInt8} (h : (c.toNat : Int) = 41 ∨ (c.toNat : Int) = 125) : dl c = -1 := by
 have : c = 41 ∨ c = 125 := by
  rcases h with h | h
  ·exact .inl (UInt8.toNat_inj.mp (by simp; omega))
  ·exact .inr (UInt8.toNat_inj.mp (by simp; omega))
 rcases this with rfl | rfl <;> decide
theorem dl_no {c : UInt8} (h1 : ¬ (c.toNat : Int) = 40) (h2 : ¬ (c.toNat : Int) = 123) (h3 : ¬ (c.toNat : Int) = 41) (h4 : ¬ (c.toNat : Int) = 125) : dl c = 0 := by
 have e1 : ¬ c = 40 := fun e => h1 (by rw [e]; rfl)
 have e2 : ¬ c = 123 := fun e => h2 (by rw [e]; rfl)
 have e3 : ¬ c = 41 := fun e => h3 (by rw [e]; rfl)
 have e4 : ¬ c = 125 := fun e => h4 (by rw [e]; rfl)
 simp [dl, e1, e2, e3, e4]
theorem dl_cases (c : UInt8) :
  (((c.toNat : Int) == 40) = true ∧ dl c = 1) ∨ (((c.toNat : Int) == 40) = false ∧ ((c.toNat : Int) == 123) = true ∧ dl c = 1) ∨
  (((c.toNat : Int) == 40) = false ∧ ((c.toNat : Int) == 123) = false ∧ ((c.toNat : Int) == 41) = true ∧ dl c = -1) ∨
  (((c.toNat : Int) == 40) = false ∧ ((c.toNat : Int) == 123) = false ∧ ((c.toNat : Int) == 41) = false ∧ ((c.toNat : Int) == 125) = true ∧ dl c = -1) ∨
  (((c.toNat : Int) == 40) = false ∧ ((c.toNat : Int) == 123) = false ∧ ((c.toNat : Int) == 41) = false ∧ ((c.toNat : Int) == 125) = false ∧ dl c = 0) := by
 cases h1 : ((c.toNat : Int) == 40)
 ·cases h2 : ((c.toNat : Int) == 123)
  ·cases h3 : ((c.toNat : Int) == 41)
   ·cases h4 : ((c.toNat : Int) == 125)
    ·exact .inr (.inr (.inr (.inr ⟨rfl, rfl, rfl, rfl, dl_no (ne_of_beq_false h1) (ne_of_beq_false h2) (ne_of_beq_false h3) (ne_of_beq_false h4)⟩)))
    ·exact .inr (.inr (.inr (.inl ⟨rfl, rfl, rfl, rfl, dl_down (.inr (eq_of_beq h4))⟩)))
   ·exact .inr (.inr (.inl ⟨rfl, rfl, rfl, dl_down (.inl (eq_of_beq h3))⟩))
  ·exact .inr (.inl ⟨rfl, rfl, dl_up (.inr (eq_of_beq h2))⟩)
 ·exact .inl ⟨rfl, dl_up (.inl (eq_of_beq h1))⟩
theorem shutR_cons {C : List UInt8} {k : Nat} (h : k < C.length) (n : Int) : shutR (C.drop k) n k = if n + dl C[k] = 0 then k + 1 else shutR (C.drop (k + 1)) (n + dl C[k]) (k + 1) := by
 rw [List.drop_eq_getElem_cons h]; rfl
theorem shutR_end {C : List UInt8} {k : Nat} (h : C.length ≤ k) (n : Int) : shutR (C.drop k) n k = k := by
 rw [List.drop_of_length_le h]; rfl
theorem shut_stop {C : List UInt8} {k i : Nat} {n : Int} (h : k < C.length) (hi : i ≤ k) (hs : shutR (C.drop k) n k = shutR (C.drop i) 0 i) {d : Int} (hd : dl C[k] = d) (h0 : n + d = 0) : ((k : Int) + 1) = (shutC C i : Int) := by
 have e : shutC C i = k + 1 := by
  unfold shutC
  rw [if_pos (by omega), ← hs, shutR_cons h, hd, if_pos h0]
 rw [e]; omega
theorem shut_step {C : List UInt8} {k i : Nat} {n : Int} (h : k < C.length) (hs : shutR (C.drop k) n k = shutR (C.drop i) 0 i) {d : Int} (hd : dl C[k] = d) (h0 : ¬ n + d = 0) : shutR (C.drop (k + 1)) (n + d) (k + 1) = shutR (C.drop i) 0 i := by
 rw [← hs, shutR_cons h, hd, if_neg h0]
theorem shut_end {C : List UInt8} {k i : Nat} {n : Int} (h : C.length ≤ k) (hk1 : i ≤ C.length → k ≤ C.length) (hs : shutR (C.drop k) n k = shutR (C.drop i) 0 i) : (C.length : Int) = (shutC C i : Int) := by
 unfold shutC
 split
 ·rw [← hs, shutR_end h]; omega
 ·rfl
theorem shutR_le (l : List UInt8) : ∀ (n : Int) (k : Nat), k ≤ shutR l n k ∧ shutR l n k ≤ k + l.length := by
 induction l with
 | nil => intro n k; simp [shutR]
 | cons c r ih =>
  intro n k
  have := ih (n + dl c) (k + 1)
  simp only [shutR, List.length_cons]
  split <;> omega
theorem shutC_le (C : List UInt8) (i : Nat) : shutC C i ≤ C.length := by
 unfold shutC
 split
 ·have := shutR_le (C.drop i) 0 i
  simp at this
  omega
 ·omega
theorem over_lt {C : List UInt8} {i k : Nat} (h : overC C i = some k) : i < C.length := by
 unfold overC at h
 cases e : C[i]? with
 | none => rw [e] at h; cases h
 | some c => exact (List.getElem?_eq_some_iff.mp e).1
theorem over_at {C : List UInt8} {i : Nat} (h : i < C.length) : overC C i =
  if C[i] = 40 then (if C[shutC C (shutC C i)]? = some 123 then some (shutC C (shutC C (shutC C i))) else some (shutC C (shutC C i)))
  else if C[i] = 42 then some (shutC C (i + 2))
  else semiR (C.drop i) i := by
 unfold overC
 rw [List.getElem?_eq_getElem h]
theorem semi_lt {C : List UInt8} {k K : Nat} (h : semiR (C.drop k) k = some K) : k < C.length := by
 apply Decidable.byContradiction
 intro hk
 rw [List.drop_of_length_le (by omega)] at h
 cases h
theorem semi_hit {C : List UInt8} {k K : Nat} (h : semiR (C.drop k) k = some K) (hk : k < C.length) (hc : C[k] = 59) : (k : Int) + 1 = (K : Int) := by
 rw [List.drop_eq_getElem_cons hk] at h
 simp only [semiR, hc, if_pos, Option.some.injEq] at h
 omega
theorem semi_step {C : List UInt8} {k K : Nat} (h : semiR (C.drop k) k = some K) (hk : k < C.length) (hc : ¬ C[k] = 59) : semiR (C.drop (k + 1)) (k + 1) = some K := by
 rw [List.drop_eq_getElem_cons hk] at h
 simpa [semiR, hc] using h
theorem semi_le : ∀ (l : List UInt8) (k K : Nat), semiR l k = some K → k < K ∧ K ≤ k + l.length
 | [], _, _, h => by cases h
 | c :: r, k, K, h => by
  by_cases hc : c = 59
  ·simp [semiR, hc] at h
   simp; omega
  ·simp [semiR, hc] at h
   have := semi_le r (k + 1) K h
   simp; omega
theorem over_le {C : List UInt8} {i k : Nat} (h : overC C i = some k) : k ≤ C.length := by
 have hi := over_lt h
 rw [over_at hi] at h
 have s1 := shutC_le C
 repeat' split at h
 ·cases h; exact s1 _
 ·cases h; exact s1 _
 ·cases h; exact s1 _
 ·have := semi_le _ _ _ h
  simp at this
  omega
theorem shutC_ge {C : List UInt8} {i : Nat} (h : i ≤ C.length) : i ≤ shutC C i := by
 unfold shutC
 rw [if_pos h]
 exact (shutR_le _ _ _).1
theorem over_gt {C : List UInt8} {i k : Nat} (h : overC C i = some k) : i < k := by
 have hi := over_lt h
 rw [over_at hi] at h
 have s1 := shutC_le C
 have s2 := fun j h => shutC_ge (C := C) (i := j) h
 have s3 := s2 _ (s1 i)
 have s4 := s2 _ (s1 (shutC C i))
 by_cases e40 : C[i] = 40
 ·have s5 : i + 1 ≤ shutC C i := by
   unfold shutC
   rw [if_pos (by omega), shutR_cons hi, e40]
   have : dl 40 = 1 := by decide
   rw [this, if_neg (by decide)]
   exact (shutR_le _ _ _).1
  rw [if_pos e40] at h
  split at h <;> cases h <;> omega
 ·rw [if_neg e40] at h
  by_cases e42 : C[i] = 42
  ·rw [if_pos e42] at h
   cases h
   by_cases hl : i + 2 ≤ C.length
   ·have := s2 (i + 2) hl; omega
   ·unfold shutC; rw [if_neg hl]; exact hi
  ·rw [if_neg e42] at h
   exact (semi_le _ _ _ h).1
theorem begin_end {C : List UInt8} {f j k : Nat} (h : beginF C f j = some k) (hj : C.length ≤ j) : (j : Int) = (k : Int) := by
 cases f with
 | zero => cases h
 | succ f =>
  unfold beginF at h
  rw [List.getElem?_eq_none hj] at h
  cases h; rfl
theorem begin_no {C : List UInt8} {f j k : Nat} (h : beginF C f j = some k) (hj : j < C.length) (h1 : ¬ C[j] = 63) (h2 : ¬ C[j] = 33) : (j : Int) = (k : Int) := by
 cases f with
 | zero => cases h
 | succ f =>
  unfold beginF at h
  rw [List.getElem?_eq_getElem hj] at h
  simp [h1, h2] at h
  omega
theorem begin_yes {C : List UInt8} {f j k : Nat} (h : beginF C f j = some k) (hj : j < C.length) (h1 : C[j] = 63 ∨ C[j] = 33) : ∃ m f', overC C j = some m ∧ beginF C f' m = some k := by
 cases f with
 | zero => cases h
 | succ f =>
  unfold beginF at h
  rw [List.getElem?_eq_getElem hj] at h
  simp only [h1, if_true] at h
  cases e : overC C j with
  | none => rw [e] at h; cases h
  | some m => rw [e] at h; exact ⟨m, f, rfl, h⟩
def scB (c : UInt8) : Bool := decide (65 ≤ c.toNat) && decide (c.toNat ≤ 68)
def nmB (c : UInt8) : Bool := decide (97 ≤ c.toNat) && decide (c.toNat ≤ 122)
def dgB (c : UInt8) : Bool := decide (48 ≤ c.toNat) && decide (c.toNat ≤ 57)
def labelR : List UInt8 → Nat → Nat → Option (Nat × Nat)
 | [], _, _ => none
 | c :: r, l, i => if scB c then labelR r (l ||| 2 ^ (c.toNat - 65)) (i + 1) else some (l, i)
def labelC (C : List UInt8) (i : Nat) : Option (Nat × Nat) :=
 match C[i]? with
 | none => none
 | some c => if c = 45 then some (0, i + 1) else labelR (C.drop i) 0 i
def namesL : List UInt8 → Nat → Nat
 | [], n => n
 | c :: r, n => namesL r (if nmB c then n ||| 2 ^ (c.toNat - 97) else n)
def seg (C : List UInt8) (lo hi : Nat) : List UInt8 := (C.drop lo).take (hi - lo)
def namesC (C : List UInt8) (lo hi : Nat) : Nat := namesL (seg C lo hi) 0
def sizeL : Bool → List UInt8 → Nat
 | _, [] => 0
 | d, c :: r => (if c ≠ 40 ∧ c ≠ 41 ∧ (d && dgB c) = false then 1 else 0) + sizeL (dgB c) r
def sizeC (C : List UInt8) (lo hi : Nat) : Nat := sizeL false (seg C lo hi)
theorem seg_cons {C : List UInt8} {k hi : Nat} (hk : k < hi) (hh : hi ≤ C.length) : seg C k hi = C[k] :: seg C (k + 1) hi := by
 unfold seg
 rw [List.drop_eq_getElem_cons (by omega), show hi - k = (hi - (k + 1)) + 1 by omega, List.take_succ_cons]
theorem seg_nil {C : List UInt8} {k hi : Nat} (hk : hi ≤ k) : seg C k hi = [] := by
 unfold seg
 rw [show hi - k = 0 by omega, List.take_zero]
theorem names_yes {C : List UInt8} {k hi m : Nat} (hk : k < hi) (hh : hi ≤ C.length) (h : nmB C[k] = true) : namesL (seg C (k + 1) hi) (m ||| 2 ^ (C[k].toNat - 97)) = namesL (seg C k hi) m := by
 rw [seg_cons hk hh]; simp [namesL, h]
theorem names_no {C : List UInt8} {k hi m : Nat} (hk : k < hi) (hh : hi ≤ C.length) (h : nmB C[k] = false) : namesL (seg C (k + 1) hi) m = namesL (seg C k hi) m := by
 rw [seg_cons hk hh]; simp [namesL, h]
theorem label_lt {C : List UInt8} {j l : Nat} {r : Nat × Nat} (h : labelR (C.drop j) l j = some r) : j < C.length := by
 apply Decidable.byContradiction
 intro hk
 rw [List.drop_of_length_le (by omega)] at h
 cases h
theorem label_yes {C : List UInt8} {j l : Nat} {r : Nat × Nat} (h : labelR (C.drop j) l j = some r) (hj : j < C.length) (hs : scB C[j] = true) : labelR (C.drop (j + 1)) (l ||| 2 ^ (C[j].toNat - 65)) (j + 1) = some r := by
 rw [List.drop_eq_getElem_cons hj] at h
 simpa [labelR, hs] using h
theorem label_no {C : List UInt8} {j l : Nat} {r : Nat × Nat} (h : labelR (C.drop j) l j = some r) (hj : j < C.length) (hs : scB C[j] = false) : r = (l, j) := by
 rw [List.drop_eq_getElem_cons hj] at h
 simp [labelR, hs] at h
 exact h.symm
theorem labelC_lt {C : List UInt8} {i : Nat} {r : Nat × Nat} (h : labelC C i = some r) : i < C.length := by
 unfold labelC at h
 cases e : C[i]? with
 | none => rw [e] at h; cases h
 | some c => exact (List.getElem?_eq_some_iff.mp e).1
theorem labelC_at {C : List UInt8} {i : Nat} (h : i < C.length) : labelC C i = if C[i] = 45 then some (0, i + 1) else labelR (C.drop i) 0 i := by
 unfold labelC
 rw [List.getElem?_eq_getElem h]
theorem size_step {C : List UInt8} {k hi : Nat} {d : Bool} (hk : k < hi) (hh : hi ≤ C.length) : sizeL d (seg C k hi) = (if C[k] ≠ 40 ∧ C[k] ≠ 41 ∧ (d && dgB C[k]) = false then 1 else 0) + sizeL (dgB C[k]) (seg C (k + 1) hi) := by
 rw [seg_cons hk hh]; rfl
structure Rest where
 name : Int
 label : Int
 lo : Nat
 hi : Nat
def restC (C : List UInt8) (i : Nat) : Option Rest :=
 match overC C i, C[i]? with
 | some o, some c =>
  if c = 62 then (match labelC C (i + 1) with | some r => some ⟨-1, r.1, r.2, o - 1⟩ | none => none)
  else if c = 94 then (match labelC C (i + 3), C[i + 1]? with | some r, some d => some ⟨(d.toNat : Int) - 97, r.1, r.2 + 1, o - 1⟩ | _, _ => none)
  else if c = 40 then some ⟨-1, -1, i + 1, shutC C i - 1⟩
  else if c = 42 then some ⟨-1, -1, i, i⟩
  else some ⟨(c.toNat : Int) - 97, -1, i + 2, o - 1⟩
 | _, _ => none
structure Two where
 p : Nat
 q : Nat
 r : Nat
 s : Nat
def blocksC (C : List UInt8) (i : Nat) : Option Two :=
 match overC C i, C[i]? with
 | some n, some c =>
  if c = 40 ∨ c = 42 then
   let k := if c = 40 then shutC C i else i + 2
   let m := shutC C k
   if n = m then some ⟨k + 1, m - 1, m, m⟩ else some ⟨k + 1, m - 1, m + 1, n - 1⟩
  else some ⟨i, i, i, i⟩
 | _, _ => none
def workF (C : List UInt8) : Nat → Nat → Nat → Option Nat
 | 0, _, _ => none
 | f + 1, lo, hi =>
  if lo < hi then
   match restC C lo, blocksC C lo, overC C lo, C[lo]? with
   | some e, some t, some o, some c =>
    match workF C f t.p t.q, workF C f t.r t.s, workF C f o hi with
    | some x, some y, some z =>
     if e.lo ≤ e.hi ∧ e.hi ≤ C.length then
      if c = 42 then
       match C[lo + 1]? with
       | some d => if 48 ≤ d.toNat ∧ 1 + sizeC C e.lo e.hi + (d.toNat - 48) * (1 + x) + y + z < 1099511627776 then some (1 + sizeC C e.lo e.hi + (d.toNat - 48) * (1 + x) + y + z) else none
       | none => none
      else if 1 + sizeC C e.lo e.hi + x + y + z < 1099511627776 then some (1 + sizeC C e.lo e.hi + x + y + z) else none
     else none
    | _, _, _ => none
   | _, _, _, _ => none
  else some 0
theorem shutC_gt {C : List UInt8} {i : Nat} (hi : i < C.length) (e40 : C[i] = 40) : i + 1 ≤ shutC C i := by
 unfold shutC
 rw [if_pos (by omega), shutR_cons hi, e40]
 have : dl 40 = 1 := by decide
 rw [this, if_neg (by decide)]
 exact (shutR_le _ _ _).1
end Go.Proofs.YtdgmoiflahoihaaGreatDoor
namespace Go.Proofs.YtdgmoiflahoihaaGreatDoor
theorem labelR_le : ∀ (l : List UInt8) (m k : Nat) (r : Nat × Nat), labelR l m k = some r → r.2 ≤ k + l.length ∧ k ≤ r.2
 | [], _, _, _, h => by cases h
 | c :: t, m, k, r, h => by
  by_cases hc : scB c = true
  ·simp [labelR, hc] at h
   have := labelR_le t _ _ _ h
   simp; omega
  ·simp [labelR, hc] at h
   subst h
   simp
theorem labelC_le {C : List UInt8} {i l j : Nat} (h : labelC C i = some (l, j)) : j ≤ C.length ∧ i ≤ j := by
 have hi := labelC_lt h
 rw [labelC_at hi] at h
 split at h
 ·cases h; omega
 ·have := labelR_le _ _ _ _ h
  simp at this
  omega
theorem blocks_at {C : List UInt8} {i n : Nat} (ho : overC C i = some n) (hi : i < C.length) : blocksC C i =
  if C[i] = 40 then (if n = shutC C (shutC C i) then some ⟨shutC C i + 1, shutC C (shutC C i) - 1, shutC C (shutC C i), shutC C (shutC C i)⟩ else some ⟨shutC C i + 1, shutC C (shutC C i) - 1, shutC C (shutC C i) + 1, n - 1⟩)
  else if C[i] = 42 then (if n = shutC C (i + 2) then some ⟨i + 3, shutC C (i + 2) - 1, shutC C (i + 2), shutC C (i + 2)⟩ else some ⟨i + 3, shutC C (i + 2) - 1, shutC C (i + 2) + 1, n - 1⟩)
  else some ⟨i, i, i, i⟩ := by
 unfold blocksC
 rw [ho, List.getElem?_eq_getElem hi]
 by_cases h1 : C[i] = 40
 ·simp [h1]
 ·by_cases h2 : C[i] = 42
  ·simp [h2]
  ·simp [h1, h2]
theorem shut_pos {C : List UInt8} {k : Nat} (hC : 0 < C.length) (hk : 0 < k) : 1 ≤ shutC C k := by
 unfold shutC
 split
 ·have := (shutR_le (C.drop k) 0 k).1; omega
 ·omega
theorem blocks_le {C : List UInt8} {i : Nat} {t : Two} (h : blocksC C i = some t) (hC : C.length ≤ 400) : t.p ≤ 500 ∧ t.q ≤ 500 ∧ t.r ≤ 500 ∧ t.s ≤ 500 := by
 cases ho : overC C i with
 | none => unfold blocksC at h; rw [ho] at h; cases h
 | some n =>
  have hi := over_lt ho
  have hn := over_le ho
  have s1 := shutC_le C
  have a1 := s1 i
  have a2 := s1 (shutC C i)
  have a3 := s1 (i + 2)
  rw [blocks_at ho hi] at h
  repeat' split at h
  all_goals (cases h; refine ⟨?_, ?_, ?_, ?_⟩ <;> simp only <;> omega)
theorem work_none {C : List UInt8} {f k hi z : Nat} (h : workF C f k hi = some z) (hk : hi ≤ k) : z = 0 := by
 cases f with
 | zero => cases h
 | succ f =>
  unfold workF at h
  rw [if_neg (by omega)] at h
  cases h; rfl
theorem work_lt {C : List UInt8} {f k hi z : Nat} (h : workF C f k hi = some z) : z < 1099511627776 := by
 cases f with
 | zero => cases h
 | succ f =>
  unfold workF at h
  repeat' split at h
  all_goals (first | (cases h; omega) | cases h)
theorem work_step {C : List UInt8} {f k hi z : Nat} (h : workF C f k hi = some z) (hk : k < hi) :
  ∃ g e t o x y z', f = g + 1 ∧ restC C k = some e ∧ blocksC C k = some t ∧ overC C k = some o ∧ workF C g t.p t.q = some x ∧ workF C g t.r t.s = some y ∧ workF C g o hi = some z' ∧
   e.lo ≤ e.hi ∧ e.hi ≤ C.length ∧ z < 1099511627776 ∧
   (∀ hl : k < C.length, C[k] = 42 → ∃ h1 : k + 1 < C.length, 48 ≤ C[k + 1].toNat ∧ z = 1 + sizeC C e.lo e.hi + (C[k + 1].toNat - 48) * (1 + x) + y + z') ∧
   (∀ hl : k < C.length, ¬ C[k] = 42 → z = 1 + sizeC C e.lo e.hi + x + y + z') := by
 cases f with
 | zero => cases h
 | succ g =>
  unfold workF at h
  rw [if_pos hk] at h
  cases hr : restC C k with
  | none => rw [hr] at h; cases h
  | some e =>
  cases hb : blocksC C k with
  | none => rw [hr, hb] at h; cases h
  | some t =>
  cases ho : overC C k with
  | none => rw [hr, hb, ho] at h; cases h
  | some o =>
  have hl := over_lt ho
  rw [hr, hb, ho, List.getElem?_eq_getElem hl] at h
  simp only at h
  cases hx : workF C g t.p t.q with
  | none => rw [hx] at h; cases h
  | some x =>
  cases hy : workF C g t.r t.s with
  | none => rw [hx, hy] at h; cases h
  | some y =>
  cases hz : workF C g o hi with
  | none => rw [hx, hy, hz] at h; cases h
  | some z' =>
  rw [hx, hy, hz] at h
  simp only at h
  by_cases hg : e.lo ≤ e.hi ∧ e.hi ≤ C.length
  ·rw [if_pos hg] at h
   refine ⟨g, e, t, o, x, y, z', rfl, rfl, rfl, rfl, hx, hy, hz, hg.1, hg.2, ?_⟩
   by_cases h42 : C[k] = 42
   ·rw [if_pos h42] at h
    cases h1 : C[k + 1]? with
    | none => rw [h1] at h; cases h
    | some d =>
     obtain ⟨h2, h3⟩ := List.getElem?_eq_some_iff.mp h1
     rw [h1] at h
     simp only at h
     split at h
     ·rename_i hq
      cases h
      subst h3
      exact ⟨hq.2, fun _ _ => ⟨h2, hq.1, rfl⟩, fun _ h => absurd h42 h⟩
     ·cases h
   ·rw [if_neg h42] at h
    split at h
    ·rename_i hq
     cases h
     exact ⟨hq, fun _ h => absurd h h42, fun _ _ => rfl⟩
    ·cases h
  ·rw [if_neg hg] at h; cases h
end Go.Proofs.YtdgmoiflahoihaaGreatDoor
namespace Go.Proofs.YtdgmoiflahoihaaGreatDoor
def headF (C : List UInt8) (B : Nat) (name : Int) : Nat → Nat → Option Int
 | 0, _ => none
 | f + 1, i =>
  if i < B then
   match C[i + 1]?, overC C i with
   | some c, some o => if (c.toNat : Int) - 97 = name then (match labelC C (i + 3) with | some r => some (r.1 : Int) | none => none) else headF C B name f o
   | _, _ => none
  else some (-1)
def headC (C : List UInt8) (name : Int) : Option Int :=
 match beginC C with
 | some B => headF C B name (C.length + 1) 0
 | none => none
def twiceIn (C : List UInt8) (i : Nat) : Nat → Nat → Option Bool
 | 0, _ => none
 | f + 1, k =>
  if k < i then
   match C[k + 1]?, C[i + 1]?, overC C k with
   | some a, some b, some o => if a = b then some true else twiceIn C i f o
   | _, _, _ => none
  else some false
def twiceF (C : List UInt8) (A : List Int) (B : Nat) : Nat → Nat → Option Int
 | 0, _ => none
 | f + 1, i =>
  if i < B then
   match twiceIn C i (C.length + 1) 0, overC C i with
   | some true, some _ => A[i + 1]?
   | some false, some o => twiceF C A B f o
   | _, _ => none
  else some (-1)
def twiceC (C : List UInt8) (A : List Int) : Option Int :=
 match beginC C with
 | some B => twiceF C A B (C.length + 1) 0
 | none => none
theorem head_end {C : List UInt8} {B f i : Nat} {name r : Int} (h : headF C B name f i = some r) (hi : B ≤ i) : -1 = r := by
 cases f with
 | zero => cases h
 | succ f =>
  unfold headF at h
  rw [if_neg (by omega)] at h
  cases h; rfl
theorem head_step {C : List UInt8} {B f i : Nat} {name r : Int} (h : headF C B name f i = some r) (hi : i < B) :
  ∃ h1 : i + 1 < C.length, ∃ o, overC C i = some o ∧ ((C[i + 1].toNat : Int) - 97 = name → ∃ l j, labelC C (i + 3) = some (l, j) ∧ (l : Int) = r) ∧ (¬ (C[i + 1].toNat : Int) - 97 = name → ∃ f', headF C B name f' o = some r) := by
 cases f with
 | zero => cases h
 | succ f =>
  unfold headF at h
  rw [if_pos hi] at h
  cases h1 : C[i + 1]? with
  | none => rw [h1] at h; cases h
  | some c =>
  obtain ⟨h2, h3⟩ := List.getElem?_eq_some_iff.mp h1
  subst h3
  cases ho : overC C i with
  | none => rw [h1, ho] at h; cases h
  | some o =>
  rw [h1, ho] at h
  simp only at h
  refine ⟨h2, o, rfl, fun hn => ?_, fun hn => ?_⟩
  ·rw [if_pos hn] at h
   cases hl : labelC C (i + 3) with
   | none => rw [hl] at h; cases h
   | some q =>
    rw [hl] at h
    simp only [Option.some.injEq] at h
    exact ⟨q.1, q.2, rfl, h⟩
  ·rw [if_neg hn] at h
   exact ⟨f, h⟩
theorem twiceIn_end {C : List UInt8} {i f k : Nat} {r : Bool} (h : twiceIn C i f k = some r) (hk : i ≤ k) : r = false := by
 cases f with
 | zero => cases h
 | succ f =>
  unfold twiceIn at h
  rw [if_neg (by omega)] at h
  cases h; rfl
theorem twiceIn_step {C : List UInt8} {i f k : Nat} {r : Bool} (h : twiceIn C i f k = some r) (hk : k < i) :
  ∃ h1 : k + 1 < C.length, ∃ h2 : i + 1 < C.length, ∃ o, overC C k = some o ∧ (C[k + 1] = C[i + 1] → r = true) ∧ (¬ C[k + 1] = C[i + 1] → ∃ f', twiceIn C i f' o = some r) := by
 cases f with
 | zero => cases h
 | succ f =>
  unfold twiceIn at h
  rw [if_pos hk] at h
  cases h1 : C[k + 1]? with
  | none => rw [h1] at h; cases h
  | some a =>
  cases h2 : C[i + 1]? with
  | none => rw [h1, h2] at h; cases h
  | some b =>
  cases ho : overC C k with
  | none => rw [h1, h2, ho] at h; cases h
  | some o =>
  rw [h1, h2, ho] at h
  obtain ⟨h3, h4⟩ := List.getElem?_eq_some_iff.mp h1
  obtain ⟨h5, h6⟩ := List.getElem?_eq_some_iff.mp h2
  subst h4 h6
  simp only at h
  refine ⟨h3, h5, o, rfl, fun hn => ?_, fun hn => ?_⟩
  ·rw [if_pos hn] at h; cases h; rfl
  ·rw [if_neg hn] at h; exact ⟨f, h⟩
theorem twice_end {C : List UInt8} {A : List Int} {B f i : Nat} {r : Int} (h : twiceF C A B f i = some r) (hi : B ≤ i) : -1 = r := by
 cases f with
 | zero => cases h
 | succ f =>
  unfold twiceF at h
  rw [if_neg (by omega)] at h
  cases h; rfl
theorem twice_step {C : List UInt8} {A : List Int} {B f i : Nat} {r : Int} (h : twiceF C A B f i = some r) (hi : i < B) :
  ∃ t o, twiceIn C i (C.length + 1) 0 = some t ∧ overC C i = some o ∧ (t = true → A[i + 1]? = some r) ∧ (t = false → ∃ f', twiceF C A B f' o = some r) := by
 cases f with
 | zero => cases h
 | succ f =>
  unfold twiceF at h
  rw [if_pos hi] at h
  cases ht : twiceIn C i (C.length + 1) 0 with
  | none => rw [ht] at h; cases h
  | some t =>
  cases ho : overC C i with
  | none => rw [ht, ho] at h; cases t <;> cases h
  | some o =>
  rw [ht, ho] at h
  refine ⟨t, o, rfl, rfl, fun e => ?_, fun e => ?_⟩
  ·subst e; exact h
  ·subst e; exact ⟨f, h⟩
end Go.Proofs.YtdgmoiflahoihaaGreatDoor
namespace Go.Proofs.YtdgmoiflahoihaaGreatDoor
def togR (of : List Nat) (names : Nat) : Nat → Nat → Nat
 | 0, l => l
 | n + 1, l => togR of names n (if names &&& 2 ^ (25 - n) ≠ 0 then l ||| of.getD (25 - n) 0 else l)
def togC (of : List Nat) (names : Nat) : Nat := togR of names 26 0
theorem tog_yes {of : List Nat} {names k l : Nat} (hk : k < 26) (h : names &&& 2 ^ k ≠ 0) : togR of names (26 - (k + 1)) (l ||| of.getD k 0) = togR of names (26 - k) l := by
 rw [show 26 - k = (26 - (k + 1)) + 1 by omega]
 conv => rhs; unfold togR
 rw [show 25 - (26 - (k + 1)) = k by omega, if_pos h]
theorem tog_no {of : List Nat} {names k l : Nat} (hk : k < 26) (h : names &&& 2 ^ k = 0) : togR of names (26 - (k + 1)) l = togR of names (26 - k) l := by
 rw [show 26 - k = (26 - (k + 1)) + 1 by omega]
 conv => rhs; unfold togR
 rw [show 25 - (26 - (k + 1)) = k by omega, if_neg (by omega)]
theorem or_lt16 {a b : Nat} (ha : a < 16) (hb : b < 16) : a ||| b < 16 := Nat.or_lt_two_pow (n := 4) ha hb
theorem togR_lt (of : List Nat) (names : Nat) (h : ∀ x ∈ of, x < 16) : ∀ n l, l < 16 → togR of names n l < 16
 | 0, _, hl => hl
 | n + 1, l, hl => by
  unfold togR
  refine togR_lt of names h n _ ?_
  split
  ·refine or_lt16 hl ?_
   rw [List.getD_eq_getElem?_getD]
   cases e : of[25 - n]? with
   | none => simp
   | some x => exact h x (List.mem_of_getElem? e)
  ·exact hl
theorem togC_lt {of : List Nat} (names : Nat) (h : ∀ x ∈ of, x < 16) : togC of names < 16 := togR_lt of names h 26 0 (by omega)
def goesB (a b : Nat) : Bool := decide (a ||| b = b)
def cleanC (of : List Nat) (c : UInt8) (e : Rest) (E G : Nat) : Option Bool :=
 if c = 62 then (if 0 ≤ e.label ∧ e.label < 16 then some (goesB (E ||| G) e.label.toNat) else none)
 else if c = 94 then (if 0 ≤ e.label ∧ e.label < 16 ∧ 0 ≤ e.name ∧ e.name < 26 then some (goesB G e.label.toNat && goesB e.label.toNat (of.getD e.name.toNat 0)) else none)
 else if c = 40 ∨ c = 42 then some true
 else (if 0 ≤ e.name ∧ e.name < 26 then some (goesB (E ||| G) (of.getD e.name.toNat 0)) else none)
def dirtyF (C : List UInt8) (A : List Int) (of : List Nat) : Nat → Nat → Nat → Nat → Option Int
 | 0, _, _, _ => none
 | f + 1, lo, hi, g =>
  if lo < hi then
   match restC C lo, blocksC C lo, overC C lo, C[lo]? with
   | some e, some t, some o, some c =>
    if e.lo ≤ e.hi ∧ e.hi ≤ C.length then
     match cleanC of c e (togC of (namesC C e.lo e.hi)) (togC of g) with
     | none => none
     | some false => A[lo]?
     | some true =>
      match dirtyF C A of f t.p t.q (g ||| namesC C e.lo e.hi) with
      | none => none
      | some x =>
       if x < 0 then
        match dirtyF C A of f t.r t.s (g ||| namesC C e.lo e.hi) with
        | none => none
        | some y => if y < 0 then dirtyF C A of f o hi g else some y
       else some x
    else none
   | _, _, _, _ => none
  else some (-1)
theorem dirty_end {C : List UInt8} {A : List Int} {of : List Nat} {f k hi g : Nat} {r : Int} (h : dirtyF C A of f k hi g = some r) (hk : hi ≤ k) : -1 = r := by
 cases f with
 | zero => cases h
 | succ f =>
  unfold dirtyF at h
  rw [if_neg (by omega)] at h
  cases h; rfl
theorem dirty_step {C : List UInt8} {A : List Int} {of : List Nat} {f k hi g : Nat} {r : Int} (h : dirtyF C A of f k hi g = some r) (hk : k < hi) :
  ∃ f' e t o ok, f = f' + 1 ∧ restC C k = some e ∧ blocksC C k = some t ∧ overC C k = some o ∧ e.lo ≤ e.hi ∧ e.hi ≤ C.length ∧
   (∀ hl : k < C.length, cleanC of C[k] e (togC of (namesC C e.lo e.hi)) (togC of g) = some ok) ∧ (ok = false → A[k]? = some r) ∧
   (ok = true → ∃ x, dirtyF C A of f' t.p t.q (g ||| namesC C e.lo e.hi) = some x ∧ (¬ x < 0 → x = r) ∧
    (x < 0 → ∃ y, dirtyF C A of f' t.r t.s (g ||| namesC C e.lo e.hi) = some y ∧ (¬ y < 0 → y = r) ∧ (y < 0 → dirtyF C A of f' o hi g = some r))) := by
 cases f with
 | zero => cases h
 | succ f' =>
  unfold dirtyF at h
  rw [if_pos hk] at h
  cases hr : restC C k with
  | none => rw [hr] at h; cases h
  | some e =>
  cases hb : blocksC C k with
  | none => rw [hr, hb] at h; cases h
  | some t =>
  cases ho : overC C k with
  | none => rw [hr, hb, ho] at h; cases h
  | some o =>
  have hl := over_lt ho
  rw [hr, hb, ho, List.getElem?_eq_getElem hl] at h
  simp only at h
  by_cases hg : e.lo ≤ e.hi ∧ e.hi ≤ C.length
  ·rw [if_pos hg] at h
   cases hc : cleanC of C[k] e (togC of (namesC C e.lo e.hi)) (togC of g) with
   | none => rw [hc] at h; cases h
   | some ok =>
   rw [hc] at h
   refine ⟨f', e, t, o, ok, rfl, rfl, rfl, rfl, hg.1, hg.2, fun _ => hc, fun e0 => ?_, fun e1 => ?_⟩
   ·subst e0; exact h
   ·subst e1
    simp only at h
    cases hx : dirtyF C A of f' t.p t.q (g ||| namesC C e.lo e.hi) with
    | none => rw [hx] at h; cases h
    | some x =>
    rw [hx] at h
    simp only at h
    refine ⟨x, rfl, fun h0 => ?_, fun h1 => ?_⟩
    ·rw [if_neg h0] at h; cases h; rfl
    ·rw [if_pos h1] at h
     cases hy : dirtyF C A of f' t.r t.s (g ||| namesC C e.lo e.hi) with
     | none => rw [hy] at h; cases h
     | some y =>
     rw [hy] at h
     simp only at h
     refine ⟨y, rfl, fun h0 => ?_, fun h2 => ?_⟩
     ·rw [if_neg h0] at h; cases h; rfl
     ·rw [if_pos h2] at h; exact h
  ·rw [if_neg hg] at h; cases h
theorem namesL_lt : ∀ (l : List UInt8) (m : Nat), m < 2 ^ 26 → namesL l m < 2 ^ 26
 | [], _, h => h
 | c :: r, m, h => by
  unfold namesL
  refine namesL_lt r _ ?_
  split
  ·rename_i hn
   refine Nat.or_lt_two_pow h (Nat.pow_lt_pow_right (by omega) ?_)
   simp [nmB] at hn
   omega
  ·exact h
theorem namesC_lt (C : List UInt8) (lo hi : Nat) : namesC C lo hi < 2 ^ 26 := namesL_lt _ _ (by omega)
theorem or_lt26 {a b : Nat} (ha : a < 2 ^ 26) (hb : b < 2 ^ 26) : a ||| b < 2 ^ 26 := Nat.or_lt_two_pow ha hb
end Go.Proofs.YtdgmoiflahoihaaGreatDoor
namespace Go.Proofs.YtdgmoiflahoihaaGreatDoor
structure Fl where
 dst : Int
 frm : Int
 sec : Int
def nameFl (dst : Int) (inn : Nat) : Nat → List Fl
 | 0 => []
 | n + 1 => (if inn &&& 2 ^ (25 - n) ≠ 0 then [⟨dst, ((25 - n : Nat) : Int), 0⟩] else []) ++ nameFl dst inn n
def innOf (C : List UInt8) (e : Rest) (g : Nat) : Nat := if e.label < 0 then g ||| namesC C e.lo e.hi else g
def ownFl (e : Rest) (inn : Nat) : List Fl := if 0 ≤ e.name then nameFl e.name inn 26 ++ (if 0 < e.label then [⟨e.name, -1, e.label⟩] else []) else []
def flowsF (C : List UInt8) : Nat → Nat → Nat → Nat → Option (List Fl)
 | 0, _, _, _ => none
 | f + 1, lo, hi, g =>
  if lo < hi then
   match restC C lo, blocksC C lo, overC C lo with
   | some e, some t, some o =>
    if e.lo ≤ e.hi ∧ e.hi ≤ C.length then
     match flowsF C f t.p t.q (innOf C e g), flowsF C f t.r t.s (innOf C e g), flowsF C f o hi g with
     | some x, some y, some z => if (ownFl e (innOf C e g) ++ x ++ y ++ z).length < 100000 then some (ownFl e (innOf C e g) ++ x ++ y ++ z) else none
     | _, _, _ => none
    else none
   | _, _, _ => none
  else some []
theorem flows_end {C : List UInt8} {f k hi g : Nat} {z : List Fl} (h : flowsF C f k hi g = some z) (hk : hi ≤ k) : z = [] := by
 cases f with
 | zero => cases h
 | succ f =>
  unfold flowsF at h
  rw [if_neg (by omega)] at h
  cases h; rfl
theorem flows_lt {C : List UInt8} {f k hi g : Nat} {z : List Fl} (h : flowsF C f k hi g = some z) : z.length < 100000 := by
 cases f with
 | zero => cases h
 | succ f =>
  unfold flowsF at h
  repeat' split at h
  all_goals (first | (cases h; assumption) | (cases h; simp) | cases h)
theorem flows_step {C : List UInt8} {f k hi g : Nat} {z : List Fl} (h : flowsF C f k hi g = some z) (hk : k < hi) :
  ∃ f' e t o x y z', f = f' + 1 ∧ restC C k = some e ∧ blocksC C k = some t ∧ overC C k = some o ∧ e.lo ≤ e.hi ∧ e.hi ≤ C.length ∧
   flowsF C f' t.p t.q (innOf C e g) = some x ∧ flowsF C f' t.r t.s (innOf C e g) = some y ∧ flowsF C f' o hi g = some z' ∧ z = ownFl e (innOf C e g) ++ x ++ y ++ z' := by
 cases f with
 | zero => cases h
 | succ f' =>
  unfold flowsF at h
  rw [if_pos hk] at h
  cases hr : restC C k with
  | none => rw [hr] at h; cases h
  | some e =>
  cases hb : blocksC C k with
  | none => rw [hr, hb] at h; cases h
  | some t =>
  cases ho : overC C k with
  | none => rw [hr, hb, ho] at h; cases h
  | some o =>
  rw [hr, hb, ho] at h
  simp only at h
  by_cases hg : e.lo ≤ e.hi ∧ e.hi ≤ C.length
  ·rw [if_pos hg] at h
   cases hx : flowsF C f' t.p t.q (innOf C e g) with
   | none => rw [hx] at h; cases h
   | some x =>
   cases hy : flowsF C f' t.r t.s (innOf C e g) with
   | none => rw [hx, hy] at h; cases h
   | some y =>
   cases hz : flowsF C f' o hi g with
   | none => rw [hx, hy, hz] at h; cases h
   | some z' =>
   rw [hx, hy, hz] at h
   simp only at h
   split at h
   ·cases h
    exact ⟨f', e, t, o, x, y, z', rfl, rfl, rfl, rfl, hg.1, hg.2, hx, hy, hz, rfl⟩
   ·cases h
  ·rw [if_neg hg] at h; cases h
theorem nameFl_yes {dst : Int} {inn k : Nat} (hk : k < 26) (h : inn &&& 2 ^ k ≠ 0) : nameFl dst inn (26 - k) = ⟨dst, (k : Int), 0⟩ :: nameFl dst inn (26 - (k + 1)) := by
 rw [show 26 - k = (26 - (k + 1)) + 1 by omega]
 conv => lhs; unfold nameFl
 rw [show 25 - (26 - (k + 1)) = k by omega, if_pos h]
 rfl
theorem nameFl_no {dst : Int} {inn k : Nat} (hk : k < 26) (h : inn &&& 2 ^ k = 0) : nameFl dst inn (26 - k) = nameFl dst inn (26 - (k + 1)) := by
 rw [show 26 - k = (26 - (k + 1)) + 1 by omega]
 conv => lhs; unfold nameFl
 rw [show 25 - (26 - (k + 1)) = k by omega, if_neg (by omega)]
 rfl
theorem innOf_lt {C : List UInt8} {e : Rest} {g : Nat} (hg : g < 2 ^ 26) : innOf C e g < 2 ^ 26 := by
 unfold innOf
 split
 ·exact or_lt26 hg (namesC_lt _ _ _)
 ·exact hg
end Go.Proofs.YtdgmoiflahoihaaGreatDoor
namespace Go.Proofs.YtdgmoiflahoihaaGreatDoor
def scanF (rec : Nat → Nat → Option (Bool × Nat)) (x s : Nat) : List Fl → Nat → Option (Bool × Nat)
 | [], seen => some (false, seen)
 | fl :: r, seen =>
  if ¬ fl.dst = (x : Int) then scanF rec x s r seen
  else if fl.frm < 0 ∧ fl.sec.toNat &&& s ≠ 0 then some (true, seen)
  else if 0 ≤ fl.frm ∧ seen &&& 2 ^ fl.frm.toNat = 0 then
   match rec fl.frm.toNat seen with
   | none => none
   | some (true, more) => some (true, more)
   | some (false, more) => scanF rec x s r more
  else scanF rec x s r seen
def tellsF (C : List UInt8) (l : List Fl) (s : Nat) : Nat → Nat → Nat → Option (Bool × Nat)
 | 0, _, _ => none
 | f + 1, x, seen =>
  match headC C (x : Int) with
  | none => none
  | some h => if 0 ≤ h then some (decide (h.toNat &&& s ≠ 0), seen) else scanF (tellsF C l s f) x s l (seen ||| 2 ^ x)
structure FlOk (l : List Fl) : Prop where
 frm : ∀ q ∈ l, -1 ≤ q.frm ∧ q.frm < 26
 sec : ∀ q ∈ l, 0 ≤ q.sec ∧ q.sec < 16
theorem labelR_lt : ∀ (l : List UInt8) (m k : Nat) (r : Nat × Nat), m < 16 → labelR l m k = some r → r.1 < 16
 | [], _, _, _, _, h => by cases h
 | c :: t, m, k, r, hm, h => by
  by_cases hc : scB c = true
  ·simp [labelR, hc] at h
   refine labelR_lt t _ _ _ ?_ h
   refine Nat.or_lt_two_pow (n := 4) hm (Nat.pow_lt_pow_right (by omega) ?_)
   simp [scB] at hc
   omega
  ·simp [labelR, hc] at h
   subst h
   exact hm
theorem labelC_lt16 {C : List UInt8} {i l j : Nat} (h : labelC C i = some (l, j)) : l < 16 := by
 have hi := labelC_lt h
 rw [labelC_at hi] at h
 split at h
 ·cases h; omega
 ·exact labelR_lt _ _ _ _ (by omega) h
theorem headF_lt {C : List UInt8} {B : Nat} {name : Int} : ∀ (f i : Nat) (r : Int), headF C B name f i = some r → -1 ≤ r ∧ r < 16
 | 0, _, _, h => by cases h
 | f + 1, i, r, h => by
  by_cases hi : i < B
  ·obtain ⟨h1, o, ho, hy, hn⟩ := head_step h hi
   by_cases hnm : (C[i + 1].toNat : Int) - 97 = name
   ·obtain ⟨l, j, hl, hr⟩ := hy hnm
    have := labelC_lt16 hl
    omega
   ·unfold headF at h
    rw [if_pos hi, List.getElem?_eq_getElem h1, ho] at h
    simp only [hnm, if_false] at h
    exact headF_lt f o r h
  ·have := head_end h (by omega)
   omega
theorem headC_lt {C : List UInt8} {name r : Int} (h : headC C name = some r) : -1 ≤ r ∧ r < 16 := by
 unfold headC at h
 split at h
 ·exact headF_lt _ _ _ h
 ·cases h
end Go.Proofs.YtdgmoiflahoihaaGreatDoor
namespace Go.Proofs.YtdgmoiflahoihaaGreatDoor
def secF (C : List UInt8) (l : List Fl) (x : Nat) : Nat → Nat → Option Nat
 | 0, m => some m
 | n + 1, m =>
  match tellsF C l (2 ^ (3 - n)) 27 x 0 with
  | none => none
  | some (true, _) => secF C l x n (m ||| 2 ^ (3 - n))
  | some (false, _) => secF C l x n m
def labsF (C : List UInt8) (l : List Fl) : Nat → Option (List Nat)
 | 0 => some []
 | n + 1 =>
  match secF C l (25 - n) 4 0, labsF C l n with
  | some m, some r => some (m :: r)
  | _, _ => none
def flowsC (C : List UInt8) : Option (List Fl) :=
 match beginC C with
 | none => none
 | some B => flowsF C (C.length + 1) B C.length 0
def labelsC (C : List UInt8) : Option (List Nat) :=
 match flowsC C with
 | none => none
 | some l => labsF C l 26
theorem beginF_le {C : List UInt8} : ∀ (f j k : Nat), beginF C f j = some k → j ≤ C.length → k ≤ C.length
 | 0, _, _, h, _ => by cases h
 | f + 1, j, k, h, hj => by
  unfold beginF at h
  cases e : C[j]? with
  | none => rw [e] at h; cases h; exact hj
  | some c =>
   rw [e] at h
   simp only at h
   split at h
   ·cases ho : overC C j with
    | none => rw [ho] at h; cases h
    | some m => rw [ho] at h; exact beginF_le f m k h (over_le ho)
   ·cases h; exact hj
theorem begin_le {C : List UInt8} {k : Nat} (h : beginC C = some k) : k ≤ C.length := beginF_le _ _ _ h (by omega)
theorem flOk_nil : FlOk [] := ⟨fun q h => (by cases h), fun q h => (by cases h)⟩
theorem nameFl_ok (dst : Int) (inn : Nat) : ∀ n, n ≤ 26 → FlOk (nameFl dst inn n)
 | 0, _ => flOk_nil
 | n + 1, hn => by
  have ih := nameFl_ok dst inn n (by omega)
  unfold nameFl
  constructor
  ·intro q hq
   rcases List.mem_append.mp hq with h | h
   ·split at h
    ·simp at h; subst h; simp only; omega
    ·cases h
   ·exact ih.frm q h
  ·intro q hq
   rcases List.mem_append.mp hq with h | h
   ·split at h
    ·simp at h; subst h; simp
    ·cases h
   ·exact ih.sec q h
theorem rest_label {C : List UInt8} {i : Nat} {e : Rest} (h : restC C i = some e) : e.label < 16 := by
 unfold restC at h
 repeat' split at h
 all_goals (first | (cases h; done) | skip)
 all_goals (cases h; simp only)
 all_goals (first | omega | skip)
 ·rename_i r hr
  have := labelC_lt16 (l := r.1) (j := r.2) hr
  omega
 ·rename_i r d hr hd
  have := labelC_lt16 (l := r.1) (j := r.2) hr
  omega
theorem flOk_app {a b : List Fl} (ha : FlOk a) (hb : FlOk b) : FlOk (a ++ b) :=
 ⟨fun q h => (List.mem_append.mp h).elim (ha.frm q) (hb.frm q), fun q h => (List.mem_append.mp h).elim (ha.sec q) (hb.sec q)⟩
theorem own_ok {C : List UInt8} {i : Nat} {e : Rest} (inn : Nat) (h : restC C i = some e) : FlOk (ownFl e inn) := by
 have hl := rest_label h
 unfold ownFl
 split
 ·refine flOk_app (nameFl_ok _ _ 26 (Nat.le_refl _)) ?_
  split
  ·exact ⟨fun q hq => by simp at hq; subst hq; simp, fun q hq => by simp at hq; subst hq; simp only; omega⟩
  ·exact flOk_nil
 ·exact flOk_nil
theorem flows_ok {C : List UInt8} : ∀ (f k hi g : Nat) (z : List Fl), flowsF C f k hi g = some z → FlOk z
 | 0, _, _, _, _, h => by cases h
 | f + 1, k, hi, g, z, h => by
  by_cases hk : k < hi
  ·obtain ⟨f', e, t, o, x, y, z', hf, hre, hb, ho, _, _, hx, hy, hz, rfl⟩ := flows_step h hk
   obtain rfl : f = f' := by omega
   exact flOk_app (flOk_app (flOk_app (own_ok _ hre) (flows_ok f _ _ _ _ hx)) (flows_ok f _ _ _ _ hy)) (flows_ok f _ _ _ _ hz)
  ·have := flows_end h (by omega)
   subst this
   exact flOk_nil
theorem secF_lt {C : List UInt8} {l : List Fl} {x : Nat} : ∀ (n m M : Nat), n ≤ 4 → m < 16 → secF C l x n m = some M → M < 16
 | 0, m, M, _, hm, h => by cases h; exact hm
 | n + 1, m, M, hn, hm, h => by
  unfold secF at h
  split at h
  ·cases h
  ·exact secF_lt n _ M (by omega) (Nat.or_lt_two_pow (n := 4) hm (Nat.pow_lt_pow_right (by omega) (by omega))) h
  ·exact secF_lt n _ M (by omega) hm h
theorem labsF_ok {C : List UInt8} {l : List Fl} : ∀ (n : Nat) (R : List Nat), labsF C l n = some R → R.length = n ∧ ∀ x ∈ R, x < 16
 | 0, R, h => by cases h; simp
 | n + 1, R, h => by
  unfold labsF at h
  split at h
  ·rename_i m r hm hr
   cases h
   have ih := labsF_ok n r hr
   refine ⟨by simp [ih.1], fun x hx => ?_⟩
   rcases List.mem_cons.mp hx with rfl | hx
   ·exact secF_lt 4 0 _ (by omega) (by omega) hm
   ·exact ih.2 x hx
  ·cases h
end Go.Proofs.YtdgmoiflahoihaaGreatDoor
namespace Go.Proofs.YtdgmoiflahoihaaGreatDoor
set_option linter.unusedSimpArgs false
set_option linter.unusedVariables false
def endsB (c : UInt8) : Bool := c == 41 || nmB c || dgB c
def rankB (c : UInt8) : Nat := if c == 60 || c == 61 then 3 else if c == 43 || c == 45 then 2 else if c == 42 || c == 47 || c == 37 then 1 else 0
structure Sp where
 d : Int
 p : Bool
 b : Int
 r : Nat
def deepB (c : UInt8) (d : Int) : Int := if c == 40 then d + 1 else if c == 41 then d - 1 else d
def takesB (s : Sp) (c : UInt8) : Bool := decide (deepB c s.d ≤ 0) && s.p && decide (0 < rankB c) && decide (s.r ≤ rankB c)
def spStep (s : Sp) (i : Nat) (c : UInt8) : Sp := if takesB s c then ⟨deepB c s.d, endsB c, i, rankB c⟩ else ⟨deepB c s.d, endsB c, s.b, s.r⟩
def spRun : List UInt8 → Nat → Sp → Sp
 | [], _, s => s
 | c :: l, i, s => spRun l (i + 1) (spStep s i c)
def sp0 : Sp := ⟨0, false, -1, 0⟩
def splitC (C : List UInt8) (lo hi : Nat) : Int := (spRun (seg C lo hi) lo sp0).b
def pB (C : List UInt8) (lo k : Nat) : Bool := if k = lo then false else endsB (C.getD (k - 1) 0)
theorem sp_next {C : List UInt8} {lo hi k : Nat} {d b d' b' : Int} {r r' : Nat} (hlo : lo ≤ k) (hlt : k < hi) (hh : hi ≤ C.length)
  (hs : (spRun (seg C k hi) k ⟨d, pB C lo k, b, r⟩).b = splitC C lo hi) (hst : spStep ⟨d, pB C lo k, b, r⟩ k C[k] = ⟨d', endsB C[k], b', r'⟩) :
  (spRun (seg C (k + 1) hi) (k + 1) ⟨d', pB C lo (k + 1), b', r'⟩).b = splitC C lo hi := by
 rw [seg_cons hlt hh] at hs
 simp only [spRun] at hs
 rw [hst] at hs
 have e : pB C lo (k + 1) = endsB C[k] := by
  unfold pB
  rw [if_neg (by omega)]
  simp [List.getD, List.getElem?_eq_getElem (show k < C.length by omega)]
 rw [e]
 exact hs
theorem sp_not {s : Sp} {k : Nat} {c : UInt8} (h : takesB s c = false) : spStep s k c = ⟨deepB c s.d, endsB c, s.b, s.r⟩ := by
 unfold spStep; rw [h]; rfl
theorem sp_yes {s : Sp} {k : Nat} {c : UInt8} (h : takesB s c = true) : spStep s k c = ⟨deepB c s.d, endsB c, k, rankB c⟩ := by
 unfold spStep; rw [h]; rfl
end Go.Proofs.YtdgmoiflahoihaaGreatDoor
