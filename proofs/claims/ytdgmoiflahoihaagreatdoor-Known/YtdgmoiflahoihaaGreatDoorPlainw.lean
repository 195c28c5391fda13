
namespace Go.Proofs.YtdgmoiflahoihaaGreatDoor
structure Fm where
 st : Int
 op : List UInt8
 body : Bool
 digits : Int
 last : Int
 purpose : Int
 related : Bool
 block : List UInt8
def Fm.to (f : Fm) (n : Int) : Fm × Bool := ({ f with st := n }, true)
def isNm (c : Int) : Bool := decide (97 ≤ c) && decide (c ≤ 122)
def isDg (c : Int) : Bool := decide (48 ≤ c) && decide (c ≤ 57)
def isSc (c : Int) : Bool := decide (65 ≤ c) && decide (c ≤ 68)
def Fm.top (f : Fm) : UInt8 := f.op.headD 0
def Fm.room (f : Fm) : Bool := decide (f.op.length < 8)
def Fm.rule (f : Fm) (c : Int) : Fm × Bool :=
 if (c = 63 ∨ c = 33) ∧ f.body = false then f.to 5
 else if c = 125 ∧ f.top = 49 then { f with op := f.op.tail }.to 1
 else if c = 125 ∧ (f.top = 50 ∨ f.top = 108) then { f with op := f.op.tail }.to 0
 else
  let f := { f with body := true, related := false }
  if isNm c = true then f.to 2
  else if c = 94 then f.to 3
  else if c = 62 then { f with purpose := 2 }.to 7
  else if c = 40 ∧ f.op.length < 8 then { f with op := 99 :: f.op }.to 10
  else if c = 42 ∧ f.op.length < 8 then f.to 13
  else (f, false)
def Fm.unit (f : Fm) (c : Int) : Fm × Bool :=
 if isDg c = true then { f with digits := 1 }.to 11
 else if isNm c = true then f.to 12
 else if c = 45 then f.to 10
 else if c = 40 ∧ f.op.length < 8 then { f with op := (if f.related then 69 else 101) :: f.op, related := false }.to 10
 else (f, false)
def Fm.labeled (f : Fm) (c : Int) : Fm × Bool :=
 if f.purpose = 0 ∧ c = 59 then f.to 0
 else if f.purpose = 1 ∧ c = 61 then f.to 10
 else if f.purpose = 2 then f.unit c
 else (f, false)
def Fm.paren (f : Fm) : Bool := f.top = 99 ∨ f.top = 101 ∨ f.top = 69
def Fm.after (f : Fm) (c : Int) : Fm × Bool :=
 if c = 43 ∨ c = 45 ∨ c = 42 ∨ c = 47 ∨ c = 37 then f.to 10
 else if (c = 60 ∨ c = 61) ∧ f.related = false then { f with related := true }.to 10
 else if c = 59 ∧ f.paren = false then f.to 0
 else if c = 41 ∧ f.top = 99 then { f with op := f.op.tail, related := false, block := [49] }.to 14
 else if c = 41 ∧ f.top = 101 then { f with op := f.op.tail, related := false }.to 12
 else if c = 41 ∧ f.top = 69 then { f with op := f.op.tail, related := true }.to 12
 else (f, false)
def Fm.letters (f : Fm) (c : Int) : Fm × Bool :=
 if f.st = 7 ∧ c = 45 then f.to 9
 else if isSc c = true ∧ (f.st = 7 ∨ f.last < c) then { f with last := c }.to 8
 else if f.st = 8 then f.labeled c
 else (f, false)
def Fm.fixed (f : Fm) (c : Int) : Fm × Bool :=
 if f.st = 2 ∧ c = 61 then f.to 10
 else if f.st = 3 ∧ isNm c = true then f.to 4
 else if f.st = 5 ∧ isNm c = true then f.to 6
 else if f.st = 4 ∧ c = 58 then { f with purpose := 1 }.to 7
 else if f.st = 6 ∧ c = 58 then { f with purpose := 0 }.to 7
 else if f.st = 13 ∧ isDg c = true ∧ c ≠ 48 then { f with block := [108] }.to 14
 else if f.st = 14 ∧ c = 123 then { f with op := f.block ++ f.op }.to 0
 else (f, false)
def Fm.next (f : Fm) (c : Int) : Fm × Bool :=
 if f.st = 0 then f.rule c
 else if f.st = 1 then (if c = 123 ∧ f.op.length < 8 then { f with op := 50 :: f.op }.to 0 else f.rule c)
 else if f.st = 7 ∨ f.st = 8 then f.letters c
 else if f.st = 9 then f.labeled c
 else if f.st = 10 then f.unit c
 else if f.st = 11 then (if isDg c = true then ({ f with digits := f.digits + 1 }, decide (f.digits + 1 ≤ 18)) else f.after c)
 else if f.st = 12 then f.after c
 else f.fixed c
end Go.Proofs.YtdgmoiflahoihaaGreatDoor
namespace Go.Proofs.YtdgmoiflahoihaaGreatDoor
def Fm.start : Fm := ⟨0, [], false, 0, 0, 0, false, []⟩
def blankB (c : UInt8) : Bool := c == 32 || c == 10
def Fm.done (f : Fm) : Bool := (decide (f.st = 0) || decide (f.st = 1)) && f.op.isEmpty
def placeR : List UInt8 → Fm → Nat → Int
 | [], f, i => if f.done then -1 else i
 | c :: r, f, i => if blankB c then placeR r f (i + 1) else if (f.next c.toNat).2 then placeR r (f.next c.toNat).1 (i + 1) else i
def placeOf (l : List UInt8) : Int := placeR l Fm.start 0
end Go.Proofs.YtdgmoiflahoihaaGreatDoor
namespace Go.Proofs.YtdgmoiflahoihaaGreatDoor
def dl (c : UInt8) : Int := if c = 40 ∨ c = 123 then 1 else if c = 41 ∨ c = 125 then -1 else 0
def shutR : List UInt8 → Int → Nat → Nat
 | [], _, k => k
 | c :: r, n, k => if n + dl c = 0 then k + 1 else shutR r (n + dl c) (k + 1)
def shutC (C : List UInt8) (i : Nat) : Nat := if i ≤ C.length then shutR (C.drop i) 0 i else C.length
def semiR : List UInt8 → Nat → Option Nat
 | [], _ => none
 | c :: r, k => if c = 59 then some (k + 1) else semiR r (k + 1)
def overC (C : List UInt8) (i : Nat) : Option Nat :=
 match C[i]? with
 | none => none
 | some c =>
  if c = 40 then (if C[shutC C (shutC C i)]? = some 123 then some (shutC C (shutC C (shutC C i))) else some (shutC C (shutC C i)))
  else if c = 42 then some (shutC C (i + 2))
  else semiR (C.drop i) i
def beginF (C : List UInt8) : Nat → Nat → Option Nat
 | 0, _ => none
 | f + 1, i =>
  match C[i]? with
  | none => some i
  | some c => if c = 63 ∨ c = 33 then (match overC C i with | none => none | some k => beginF C f k) else some i
def beginC (C : List UInt8) : Option Nat := beginF C (C.length + 1) 0
theorem dl_no {c : UInt8} (h1 : ¬ (c.toNat : Int) = 40) (h2 : ¬ (c.toNat : Int) = 123) (h3 : ¬ (c.toNat : Int) = 41) (h4 : ¬ (c.toNat : Int) = 125) : dl c = 0 := by
 have e1 : ¬ c = 40 := fun e => h1 (by rw [e]; rfl)
 have e2 : ¬ c = 123 := fun e => h2 (by rw [e]; rfl)
 have e3 : ¬ c = 41 := fun e => h3 (by rw [e]; rfl)
 have e4 : ¬ c = 125 := fun e => h4 (by rw [e]; rfl)
 simp [dl, e1, e2, e3, e4]
theorem shutR_cons {C : List UInt8} {k : Nat} (h : k < C.length) (n : Int) : shutR (C.drop k) n k = if n + dl C[k] = 0 then k + 1 else shutR (C.drop (k + 1)) (n + dl C[k]) (k + 1) := by
 rw [List.drop_eq_getElem_cons h]; rfl
theorem shutR_le (l : List UInt8) : ∀ (n : Int) (k : Nat), k ≤ shutR l n k ∧ shutR l n k ≤ k + l.length := by
 induction l with
 | nil => intro n k; simp [shutR]
 | cons c r ih =>
  intro n k
  have := ih (n + dl c) (k + 1)
  simp only [shutR, List.length_cons]
  split <;> omega
theorem shutC_le (C : List UInt8) (i : Nat) : shutC C i ≤ C.length := by
 unfold shutC
 split
 ·have := shutR_le (C.drop i) 0 i
  simp at this
  omega
 ·omega
theorem over_lt {C : List UInt8} {i k : Nat} (h : overC C i = some k) : i < C.length := by
 unfold overC at h
 cases e : C[i]? with
 | none => rw [e] at h; cases h
 | some c => exact (List.getElem?_eq_some_iff.mp e).1
theorem over_at {C : List UInt8} {i : Nat} (h : i < C.length) : overC C i =
  if C[i] = 40 then (if C[shutC C (shutC C i)]? = some 123 then some (shutC C (shutC C (shutC C i))) else some (shutC C (shutC C i)))
  else if C[i] = 42 then some (shutC C (i + 2))
  else semiR (C.drop i) i := by
 unfold overC
 rw [List.getElem?_eq_getElem h]
theorem semi_le : ∀ (l : List UInt8) (k K : Nat), semiR l k = some K → k < K ∧ K ≤ k + l.length
 | [], _, _, h => by cases h
 | c :: r, k, K, h => by
  by_cases hc : c = 59
  ·simp [semiR, hc] at h
   simp; omega
  ·simp [semiR, hc] at h
   have := semi_le r (k + 1) K h
   simp; omega
theorem over_le {C : List UInt8} {i k : Nat} (h : overC C i = some k) : k ≤ C.length := by
 have hi := over_lt h
 rw [over_at hi] at h
 have s1 := shutC_le C
 repeat' split at h
 ·cases h; exact s1 _
 ·cases h; exact s1 _
 ·cases h; exact s1 _
 ·have := semi_le _ _ _ h
  simp at this
  omega
theorem shutC_ge {C : List UInt8} {i : Nat} (h : i ≤ C.length) : i ≤ shutC C i := by
 unfold shutC
 rw [if_pos h]
 exact (shutR_le _ _ _).1
theorem over_gt {C : List UInt8} {i k : Nat} (h : overC C i = some k) : i < k := by
 have hi := over_lt h
 rw [over_at hi] at h
 have s1 := shutC_le C
 have s2 := fun j h => shutC_ge (C := C) (i := j) h
 have s3 := s2 _ (s1 i)
 have s4 := s2 _ (s1 (shutC C i))
 by_cases e40 : C[i] = 40
 ·have s5 : i + 1 ≤ shutC C i := by
   unfold shutC
   rw [if_pos (by omega), shutR_cons hi, e40]
   have : dl 40 = 1 := by decide
   rw [this, if_neg (by decide)]
   exact (shutR_le _ _ _).1
  rw [if_pos e40] at h
  split at h <;> cases h <;> omega
 ·rw [if_neg e40] at h
  by_cases e42 : C[i] = 42
  ·rw [if_pos e42] at h
   cases h
   by_cases hl : i + 2 ≤ C.length
   ·have := s2 (i + 2) hl; omega
   ·unfold shutC; rw [if_neg hl]; exact hi
  ·rw [if_neg e42] at h
   exact (semi_le _ _ _ h).1
def scB (c : UInt8) : Bool := decide (65 ≤ c.toNat) && decide (c.toNat ≤ 68)
def nmB (c : UInt8) : Bool := decide (97 ≤ c.toNat) && decide (c.toNat ≤ 122)
def dgB (c : UInt8) : Bool := decide (48 ≤ c.toNat) && decide (c.toNat ≤ 57)
def labelR : List UInt8 → Nat → Nat → Option (Nat × Nat)
 | [], _, _ => none
 | c :: r, l, i => if scB c then labelR r (l ||| 2 ^ (c.toNat - 65)) (i + 1) else some (l, i)
def labelC (C : List UInt8) (i : Nat) : Option (Nat × Nat) :=
 match C[i]? with
 | none => none
 | some c => if c = 45 then some (0, i + 1) else labelR (C.drop i) 0 i
def namesL : List UInt8 → Nat → Nat
 | [], n => n
 | c :: r, n => namesL r (if nmB c then n ||| 2 ^ (c.toNat - 97) else n)
def seg (C : List UInt8) (lo hi : Nat) : List UInt8 := (C.drop lo).take (hi - lo)
def namesC (C : List UInt8) (lo hi : Nat) : Nat := namesL (seg C lo hi) 0
def sizeL : Bool → List UInt8 → Nat
 | _, [] => 0
 | d, c :: r => (if c ≠ 40 ∧ c ≠ 41 ∧ (d && dgB c) = false then 1 else 0) + sizeL (dgB c) r
def sizeC (C : List UInt8) (lo hi : Nat) : Nat := sizeL false (seg C lo hi)
theorem seg_cons {C : List UInt8} {k hi : Nat} (hk : k < hi) (hh : hi ≤ C.length) : seg C k hi = C[k] :: seg C (k + 1) hi := by
 unfold seg
 rw [List.drop_eq_getElem_cons (by omega), show hi - k = (hi - (k + 1)) + 1 by omega, List.take_succ_cons]
theorem seg_nil {C : List UInt8} {k hi : Nat} (hk : hi ≤ k) : seg C k hi = [] := by
 unfold seg
 rw [show hi - k = 0 by omega, List.take_zero]
theorem labelC_lt {C : List UInt8} {i : Nat} {r : Nat × Nat} (h : labelC C i = some r) : i < C.length := by
 unfold labelC at h
 cases e : C[i]? with
 | none => rw [e] at h; cases h
 | some c => exact (List.getElem?_eq_some_iff.mp e).1
theorem labelC_at {C : List UInt8} {i : Nat} (h : i < C.length) : labelC C i = if C[i] = 45 then some (0, i + 1) else labelR (C.drop i) 0 i := by
 unfold labelC
 rw [List.getElem?_eq_getElem h]
structure Rest where
 name : Int
 label : Int
 lo : Nat
 hi : Nat
def restC (C : List UInt8) (i : Nat) : Option Rest :=
 match overC C i, C[i]? with
 | some o, some c =>
  if c = 62 then (match labelC C (i + 1) with | some r => some ⟨-1, r.1, r.2, o - 1⟩ | none => none)
  else if c = 94 then (match labelC C (i + 3), C[i + 1]? with | some r, some d => some ⟨(d.toNat : Int) - 97, r.1, r.2 + 1, o - 1⟩ | _, _ => none)
  else if c = 40 then some ⟨-1, -1, i + 1, shutC C i - 1⟩
  else if c = 42 then some ⟨-1, -1, i, i⟩
  else some ⟨(c.toNat : Int) - 97, -1, i + 2, o - 1⟩
 | _, _ => none
structure Two where
 p : Nat
 q : Nat
 r : Nat
 s : Nat
def blocksC (C : List UInt8) (i : Nat) : Option Two :=
 match overC C i, C[i]? with
 | some n, some c =>
  if c = 40 ∨ c = 42 then
   let k := if c = 40 then shutC C i else i + 2
   let m := shutC C k
   if n = m then some ⟨k + 1, m - 1, m, m⟩ else some ⟨k + 1, m - 1, m + 1, n - 1⟩
  else some ⟨i, i, i, i⟩
 | _, _ => none
theorem shutC_gt {C : List UInt8} {i : Nat} (hi : i < C.length) (e40 : C[i] = 40) : i + 1 ≤ shutC C i := by
 unfold shutC
 rw [if_pos (by omega), shutR_cons hi, e40]
 have : dl 40 = 1 := by decide
 rw [this, if_neg (by decide)]
 exact (shutR_le _ _ _).1
end Go.Proofs.YtdgmoiflahoihaaGreatDoor
namespace Go.Proofs.YtdgmoiflahoihaaGreatDoor
theorem labelR_le : ∀ (l : List UInt8) (m k : Nat) (r : Nat × Nat), labelR l m k = some r → r.2 ≤ k + l.length ∧ k ≤ r.2
 | [], _, _, _, h => by cases h
 | c :: t, m, k, r, h => by
  by_cases hc : scB c = true
  ·simp [labelR, hc] at h
   have := labelR_le t _ _ _ h
   simp; omega
  ·simp [labelR, hc] at h
   subst h
   simp
theorem labelC_le {C : List UInt8} {i l j : Nat} (h : labelC C i = some (l, j)) : j ≤ C.length ∧ i ≤ j := by
 have hi := labelC_lt h
 rw [labelC_at hi] at h
 split at h
 ·cases h; omega
 ·have := labelR_le _ _ _ _ h
  simp at this
  omega
theorem blocks_at {C : List UInt8} {i n : Nat} (ho : overC C i = some n) (hi : i < C.length) : blocksC C i =
  if C[i] = 40 then (if n = shutC C (shutC C i) then some ⟨shutC C i + 1, shutC C (shutC C i) - 1, shutC C (shutC C i), shutC C (shutC C i)⟩ else some ⟨shutC C i + 1, shutC C (shutC C i) - 1, shutC C (shutC C i) + 1, n - 1⟩)
  else if C[i] = 42 then (if n = shutC C (i + 2) then some ⟨i + 3, shutC C (i + 2) - 1, shutC C (i + 2), shutC C (i + 2)⟩ else some ⟨i + 3, shutC C (i + 2) - 1, shutC C (i + 2) + 1, n - 1⟩)
  else some ⟨i, i, i, i⟩ := by
 unfold blocksC
 rw [ho, List.getElem?_eq_getElem hi]
 by_cases h1 : C[i] = 40
 ·simp [h1]
 ·by_cases h2 : C[i] = 42
  ·simp [h2]
  ·simp [h1, h2]
theorem blocks_le {C : List UInt8} {i : Nat} {t : Two} (h : blocksC C i = some t) (hC : C.length ≤ 400) : t.p ≤ 500 ∧ t.q ≤ 500 ∧ t.r ≤ 500 ∧ t.s ≤ 500 := by
 cases ho : overC C i with
 | none => unfold blocksC at h; rw [ho] at h; cases h
 | some n =>
  have hi := over_lt ho
  have hn := over_le ho
  have s1 := shutC_le C
  have a1 := s1 i
  have a2 := s1 (shutC C i)
  have a3 := s1 (i + 2)
  rw [blocks_at ho hi] at h
  repeat' split at h
  all_goals (cases h; refine ⟨?_, ?_, ?_, ?_⟩ <;> simp only <;> omega)
end Go.Proofs.YtdgmoiflahoihaaGreatDoor
namespace Go.Proofs.YtdgmoiflahoihaaGreatDoor
end Go.Proofs.YtdgmoiflahoihaaGreatDoor
namespace Go.Proofs.YtdgmoiflahoihaaGreatDoor
theorem or_lt16 {a b : Nat} (ha : a < 16) (hb : b < 16) : a ||| b < 16 := Nat.or_lt_two_pow (n := 4) ha hb
def goesB (a b : Nat) : Bool := decide (a ||| b = b)
end Go.Proofs.YtdgmoiflahoihaaGreatDoor
namespace Go.Proofs.YtdgmoiflahoihaaGreatDoor
structure Fl where
 dst : Int
 frm : Int
 sec : Int
end Go.Proofs.YtdgmoiflahoihaaGreatDoor
namespace Go.Proofs.YtdgmoiflahoihaaGreatDoor
theorem labelR_lt : ∀ (l : List UInt8) (m k : Nat) (r : Nat × Nat), m < 16 → labelR l m k = some r → r.1 < 16
 | [], _, _, _, _, h => by cases h
 | c :: t, m, k, r, hm, h => by
  by_cases hc : scB c = true
  ·simp [labelR, hc] at h
   refine labelR_lt t _ _ _ ?_ h
   refine Nat.or_lt_two_pow (n := 4) hm (Nat.pow_lt_pow_right (by omega) ?_)
   simp [scB] at hc
   omega
  ·simp [labelR, hc] at h
   subst h
   exact hm
theorem labelC_lt16 {C : List UInt8} {i l j : Nat} (h : labelC C i = some (l, j)) : l < 16 := by
 have hi := labelC_lt h
 rw [labelC_at hi] at h
 split at h
 ·cases h; omega
 ·exact labelR_lt _ _ _ _ (by omega) h
end Go.Proofs.YtdgmoiflahoihaaGreatDoor
namespace Go.Proofs.YtdgmoiflahoihaaGreatDoor
theorem beginF_le {C : List UInt8} : ∀ (f j k : Nat), beginF C f j = some k → j ≤ C.length → k ≤ C.length
 | 0, _, _, h, _ => by cases h
 | f + 1, j, k, h, hj => by
  unfold beginF at h
  cases e : C[j]? with
  | none => rw [e] at h; cases h; exact hj
  | some c =>
   rw [e] at h
   simp only at h
   split at h
   ·cases ho : overC C j with
    | none => rw [ho] at h; cases h
    | some m => rw [ho] at h; exact beginF_le f m k h (over_le ho)
   ·cases h; exact hj
theorem begin_le {C : List UInt8} {k : Nat} (h : beginC C = some k) : k ≤ C.length := beginF_le _ _ _ h (by omega)
end Go.Proofs.YtdgmoiflahoihaaGreatDoor
namespace Go.Proofs.YtdgmoiflahoihaaGreatDoor
set_option linter.unusedSimpArgs false
set_option linter.unusedVariables false
def endsB (c : UInt8) : Bool := c == 41 || nmB c || dgB c
def rankB (c : UInt8) : Nat := if c == 60 || c == 61 then 3 else if c == 43 || c == 45 then 2 else if c == 42 || c == 47 || c == 37 then 1 else 0
structure Sp where
 d : Int
 p : Bool
 b : Int
 r : Nat
def deepB (c : UInt8) (d : Int) : Int := if c == 40 then d + 1 else if c == 41 then d - 1 else d
def takesB (s : Sp) (c : UInt8) : Bool := decide (deepB c s.d ≤ 0) && s.p && decide (0 < rankB c) && decide (s.r ≤ rankB c)
def spStep (s : Sp) (i : Nat) (c : UInt8) : Sp := if takesB s c then ⟨deepB c s.d, endsB c, i, rankB c⟩ else ⟨deepB c s.d, endsB c, s.b, s.r⟩
def spRun : List UInt8 → Nat → Sp → Sp
 | [], _, s => s
 | c :: l, i, s => spRun l (i + 1) (spStep s i c)
def sp0 : Sp := ⟨0, false, -1, 0⟩
def splitC (C : List UInt8) (lo hi : Nat) : Int := (spRun (seg C lo hi) lo sp0).b
end Go.Proofs.YtdgmoiflahoihaaGreatDoor
