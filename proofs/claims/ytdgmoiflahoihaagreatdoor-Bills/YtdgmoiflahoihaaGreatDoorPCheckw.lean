import Derived.Test.YtdgmoiflahoihaaGreatDoorPRu4w
import Derived.Test.YtdgmoiflahoihaaGreatDoorRUPw
import Derived.Deep.MidRow
import Derived.Test.YtdgmoiflahoihaaGreatDoorCRefw
import Derived.Deep.RegionHeld3
import Derived.Deep.Cut
import Derived.Deep.CutRange

namespace Go.Proofs.YtdgmoiflahoihaaGreatDoor
set_option linter.unusedSimpArgs false
set_option linter.unusedVariables false
structure Shut (hs : List Hd) (E : List Fl) (s : Nat) (P : Nat → Prop) : Prop where
 head : ∀ x m : Nat, hdOf hs x = some m → m &&& s ≠ 0 → P x
 sec : ∀ (x : Nat) (fl : Fl), hdOf hs x = none → fl ∈ E → fl.dst = (x : Int) → fl.frm < 0 → fl.sec.toNat &&& s ≠ 0 → P x
 edge : ∀ (x y : Nat) (fl : Fl), hdOf hs x = none → fl ∈ E → fl.dst = (x : Int) → fl.frm = (y : Int) → P y → P x
def Has (hs : List Hd) (E : List Fl) (s x : Nat) : Prop := ∀ P, Shut hs E s P → P x
theorem Has.head {hs : List Hd} {E : List Fl} {s x m : Nat} (h : hdOf hs x = some m) (hb : m &&& s ≠ 0) : Has hs E s x := fun P c => c.head x m h hb
theorem Has.sec {hs : List Hd} {E : List Fl} {s x : Nat} {fl : Fl} (h : hdOf hs x = none) (hm : fl ∈ E) (hd : fl.dst = (x : Int)) (hf : fl.frm < 0) (hb : fl.sec.toNat &&& s ≠ 0) : Has hs E s x := fun P c => c.sec x fl h hm hd hf hb
theorem Has.edge {hs : List Hd} {E : List Fl} {s x y : Nat} {fl : Fl} (h : hdOf hs x = none) (hm : fl ∈ E) (hd : fl.dst = (x : Int)) (hf : fl.frm = (y : Int)) (hy : Has hs E s y) : Has hs E s x := fun P c => c.edge x y fl h hm hd hf (hy P c)
theorem bit_iff (S y : Nat) : S &&& 2 ^ y ≠ 0 ↔ S.testBit y = true := by
 constructor
 ·intro h
  obtain ⟨j, hj⟩ := Nat.exists_testBit_of_ne_zero h
  rw [Nat.testBit_and, Nat.testBit_two_pow] at hj
  simp at hj
  obtain ⟨h1, rfl⟩ := hj
  exact h1
 ·intro h e
  have := congrArg (fun n => n.testBit y) e
  simp [Nat.testBit_and, Nat.testBit_two_pow, h] at this
theorem bit_or (S x y : Nat) : (S ||| 2 ^ x).testBit y = true ↔ S.testBit y = true ∨ x = y := by
 rw [Nat.testBit_or, Nat.testBit_two_pow]
 simp
def un (S : Nat) : Nat := (List.range 26).countP fun i => !S.testBit i
theorem countP_lt {p q : Nat → Bool} : ∀ (l : List Nat) (a : Nat), (∀ i ∈ l, p i = true → q i = true) → a ∈ l → q a = true → p a = false → l.countP p < l.countP q
 | [], a, _, h, _, _ => by cases h
 | b :: r, a, hm, h, hq, hp => by
  rw [List.countP_cons, List.countP_cons]
  rcases List.mem_cons.mp h with rfl | h
  ·have := List.countP_mono_left (l := r) (p := p) (q := q) (fun i hi => hm i (by simp [hi]))
   rw [hq, hp]
   simp
   omega
  ·have := countP_lt r a (fun i hi => hm i (by simp [hi])) h hq hp
   have := hm b (by simp)
   cases hpb : p b <;> cases hqb : q b <;> simp_all <;> omega
theorem un_le {S T : Nat} (h : ∀ y, S.testBit y = true → T.testBit y = true) : un T ≤ un S := by
 refine List.countP_mono_left fun i _ hi => ?_
 cases hs : S.testBit i with
 | false => rfl
 | true => rw [h i hs] at hi; exact hi
theorem un_lt {S x : Nat} (hx : x < 26) (h : S.testBit x = false) : un (S ||| 2 ^ x) < un S := by
 refine countP_lt _ x (fun i _ hi => ?_) (by simpa using hx) (by rw [h]; rfl) ?_
 ·cases hs : S.testBit i with
  | false => rfl
  | true => rw [(bit_or S x i).mpr (.inl hs)] at hi; exact hi
 ·rw [(bit_or S x x).mpr (.inr rfl)]; rfl
theorem un_max (S : Nat) : un S ≤ 26 := by
 have := List.countP_le_length (p := fun i => !S.testBit i) (l := List.range 26)
 simpa [un] using this
def Fine (hs : List Hd) (s S z : Nat) : Prop := S.testBit z = true ∨ ∃ m, hdOf hs z = some m ∧ ¬ m &&& s ≠ 0
def EdgeOk (hs : List Hd) (s S : Nat) (fl : Fl) : Prop := ¬ (fl.frm < 0 ∧ fl.sec.toNat &&& s ≠ 0) ∧ (0 ≤ fl.frm → Fine hs s S fl.frm.toNat)
def Done (hs : List Hd) (E : List Fl) (s S y : Nat) : Prop := hdOf hs y = none ∧ ∀ fl ∈ E, fl.dst = (y : Int) → EdgeOk hs s S fl
theorem Fine.mono {hs : List Hd} {s S T z : Nat} (h : Fine hs s S z) (hm : ∀ y, S.testBit y = true → T.testBit y = true) : Fine hs s T z := h.imp (hm z) id
theorem EdgeOk.mono {hs : List Hd} {s S T : Nat} {fl : Fl} (h : EdgeOk hs s S fl) (hm : ∀ y, S.testBit y = true → T.testBit y = true) : EdgeOk hs s T fl := ⟨h.1, fun e => (h.2 e).mono hm⟩
theorem Done.mono {hs : List Hd} {E : List Fl} {s S T y : Nat} (h : Done hs E s S y) (hm : ∀ y, S.testBit y = true → T.testBit y = true) : Done hs E s T y := ⟨h.1, fun fl hf hd => (h.2 fl hf hd).mono hm⟩
structure Srch (hs : List Hd) (E : List Fl) (s S T : Nat) : Prop where
 more : ∀ y, S.testBit y = true → T.testBit y = true
 done : ∀ y, T.testBit y = true → S.testBit y = false → Done hs E s T y
theorem Srch.refl (hs : List Hd) (E : List Fl) (s S : Nat) : Srch hs E s S S := ⟨fun _ => id, fun y h h' => by rw [h] at h'; cases h'⟩
theorem Srch.trans {hs : List Hd} {E : List Fl} {s S T U : Nat} (h : Srch hs E s S T) (k : Srch hs E s T U) : Srch hs E s S U := by
 refine ⟨fun y e => k.more y (h.more y e), fun y e1 e2 => ?_⟩
 cases ht : T.testBit y with
 | false => exact k.done y e1 ht
 | true => exact (h.done y ht e2).mono k.more
def RecOk (hs : List Hd) (E : List Fl) (s f : Nat) (rec : Nat → Nat → Option (Bool × Nat)) : Prop :=
 ∀ x S, x < 26 → S.testBit x = false → un S < f → ∃ b T, rec x S = some (b, T) ∧ (b = true → Has hs E s x) ∧ (b = false → Srch hs E s S T ∧ Fine hs s T x)
theorem scan_ok {hs : List Hd} {E : List Fl} {s f x : Nat} {rec : Nat → Nat → Option (Bool × Nat)} (hr : RecOk hs E s f rec) (hx : hdOf hs x = none) (hE : ∀ fl ∈ E, fl.frm < 26) : ∀ (l : List Fl) (S : Nat), (∀ fl ∈ l, fl ∈ E) → un S < f → ∃ b T, scanF rec x s l S = some (b, T) ∧ (b = true → Has hs E s x) ∧ (b = false → Srch hs E s S T ∧ ∀ fl ∈ l, fl.dst = (x : Int) → EdgeOk hs s T fl)
 | [], S, _, _ => ⟨false, S, rfl, fun e => (by cases e), fun _ => ⟨Srch.refl .., fun fl h => (by cases h)⟩⟩
 | fl :: r, S, hl, hf => by
  have ih := fun S => scan_ok hr hx hE r S (fun q hq => hl q (by simp [hq]))
  have hfl := hl fl (by simp)
  unfold scanF
  by_cases h1 : fl.dst = (x : Int)
  ·rw [if_neg (by simpa using h1)]
   by_cases h2 : fl.frm < 0 ∧ fl.sec.toNat &&& s ≠ 0
   ·rw [if_pos h2]
    exact ⟨true, S, rfl, fun _ => .sec hx hfl h1 h2.1 h2.2, fun e => (by cases e)⟩
   ·rw [if_neg h2]
    by_cases h3 : 0 ≤ fl.frm ∧ S &&& 2 ^ fl.frm.toNat = 0
    ·rw [if_pos h3]
     have hb : S.testBit fl.frm.toNat = false := by
      cases hb : S.testBit fl.frm.toNat with
      | false => rfl
      | true => exact absurd h3.2 ((bit_iff _ _).mpr hb)
     have h26 := hE fl hfl
     obtain ⟨b, T, e, ht, hf'⟩ := hr fl.frm.toNat S (by omega) hb hf
     rw [e]
     cases b with
     | true => exact ⟨true, T, rfl, fun _ => .edge hx hfl h1 (y := fl.frm.toNat) (by omega) (ht rfl), fun e => (by cases e)⟩
     | false =>
      obtain ⟨hs1, hfi⟩ := hf' rfl
      have := un_le hs1.more
      obtain ⟨b, U, e2, ht2, hf2⟩ := ih T (by omega)
      refine ⟨b, U, e2, ht2, fun eb => ?_⟩
      obtain ⟨hs2, hall⟩ := hf2 eb
      refine ⟨hs1.trans hs2, fun q hq hd => ?_⟩
      rcases List.mem_cons.mp hq with rfl | hq
      ·exact ⟨h2, fun _ => hfi.mono hs2.more⟩
      ·exact hall q hq hd
    ·rw [if_neg h3]
     obtain ⟨b, U, e2, ht2, hf2⟩ := ih S hf
     refine ⟨b, U, e2, ht2, fun eb => ?_⟩
     obtain ⟨hs2, hall⟩ := hf2 eb
     refine ⟨hs2, fun q hq hd => ?_⟩
     rcases List.mem_cons.mp hq with rfl | hq
     ·refine ⟨h2, fun h0 => .inl (hs2.more _ ((bit_iff _ _).mp fun e => h3 ⟨h0, e⟩))⟩
     ·exact hall q hq hd
  ·rw [if_pos h1]
   obtain ⟨b, U, e2, ht2, hf2⟩ := ih S hf
   refine ⟨b, U, e2, ht2, fun eb => ?_⟩
   obtain ⟨hs2, hall⟩ := hf2 eb
   refine ⟨hs2, fun q hq hd => ?_⟩
   rcases List.mem_cons.mp hq with rfl | hq
   ·exact absurd hd h1
   ·exact hall q hq hd
theorem tells_ok {C : List UInt8} {hs : List Hd} {E : List Fl} {s : Nat} (hh : ∀ x : Nat, headC C (x : Int) = some (match hdOf hs x with | some m => (m : Int) | none => -1)) (hE : ∀ fl ∈ E, fl.frm < 26) : ∀ f, RecOk hs E s f (tellsF C E s f)
 | 0 => fun x S _ _ h => by omega
 | f + 1 => fun x S hx hS hf => by
  unfold tellsF
  rw [hh x]
  cases hd : hdOf hs x with
  | some m =>
   simp only
   rw [if_pos (by omega)]
   refine ⟨_, S, rfl, fun e => .head hd (by simpa using e), fun e => ⟨Srch.refl .., .inr ⟨m, hd, by simpa using e⟩⟩⟩
  | none =>
   simp only
   rw [if_neg (by omega)]
   have hu := un_lt hx hS
   obtain ⟨b, T, e, ht, hf2⟩ := scan_ok (tells_ok hh hE f) hd hE E (S ||| 2 ^ x) (fun _ => id) (by omega)
   refine ⟨b, T, e, ht, fun eb => ?_⟩
   obtain ⟨h1, h2⟩ := hf2 eb
   have hxT : T.testBit x = true := h1.more x ((bit_or S x x).mpr (.inr rfl))
   refine ⟨⟨fun y hy => h1.more y ((bit_or S x y).mpr (.inl hy)), fun y hy hn => ?_⟩, .inl hxT⟩
   by_cases hxy : x = y
   ·subst hxy
    exact ⟨hd, h2⟩
   ·refine h1.done y hy ?_
    cases hb : (S ||| 2 ^ x).testBit y with
    | false => rfl
    | true =>
     rcases (bit_or S x y).mp hb with h | h
     ·rw [h] at hn; cases hn
     ·exact absurd h hxy
theorem not_has {hs : List Hd} {E : List Fl} {s T : Nat} (h : Srch hs E s 0 T) {x : Nat} (hx : Has hs E s x) : Fine hs s T x → False := by
 have hd : ∀ y, hdOf hs y = none → Fine hs s T y → Done hs E s T y := by
  intro y hn hf
  rcases hf with hf | ⟨m, hm, _⟩
  ·exact h.done y hf (by simp)
  ·rw [hn] at hm; cases hm
 refine hx (fun x => Fine hs s T x → False) ⟨?_, ?_, ?_⟩
 ·intro z m hm hb hf
  rcases hf with hf | ⟨m', hm', hb'⟩
  ·have := (h.done z hf (by simp)).1
   rw [this] at hm; cases hm
  ·rw [hm] at hm'; cases hm'
   exact hb' hb
 ·intro z fl hn hm hdst hfrm hb hf
  exact ((hd _ hn hf).2 _ hm hdst).1 ⟨hfrm, hb⟩
 ·intro z y fl hn hm hdst hfrm ih hf
  have := ((hd _ hn hf).2 _ hm hdst).2 (by omega)
  rw [hfrm] at this
  exact ih this
theorem tells_has {C : List UInt8} {hs : List Hd} {E : List Fl} {s x : Nat} (hh : ∀ x : Nat, headC C (x : Int) = some (match hdOf hs x with | some m => (m : Int) | none => -1)) (hE : ∀ fl ∈ E, fl.frm < 26) (hx : x < 26) : ∃ b T, tellsF C E s 27 x 0 = some (b, T) ∧ (b = true ↔ Has hs E s x) := by
 have hu := un_max 0
 obtain ⟨b, T, e, h1, h2⟩ := tells_ok (s := s) hh hE 27 x 0 hx (by simp) (by omega)
 refine ⟨b, T, e, h1, fun h => ?_⟩
 cases b with
 | true => rfl
 | false =>
  obtain ⟨k1, k2⟩ := h2 rfl
  exact (not_has k1 h k2).elim
theorem sec_has {C : List UInt8} {hs : List Hd} {E : List Fl} {x : Nat} (hh : ∀ x : Nat, headC C (x : Int) = some (match hdOf hs x with | some m => (m : Int) | none => -1)) (hE : ∀ fl ∈ E, fl.frm < 26) (hx : x < 26) : ∀ (n m : Nat), n ≤ 4 → ∃ M, secF C E x n m = some M ∧ ∀ k, M.testBit k = true ↔ m.testBit k = true ∨ (4 - n ≤ k ∧ k < 4 ∧ Has hs E (2 ^ k) x)
 | 0, m, _ => ⟨m, rfl, fun k => ⟨.inl, fun h => h.elim id fun h => by omega⟩⟩
 | n + 1, m, hn => by
  obtain ⟨b, T, e, hb⟩ := tells_has (s := 2 ^ (3 - n)) hh hE hx
  unfold secF
  rw [e]
  cases b with
  | true =>
   obtain ⟨M, e2, h2⟩ := sec_has hh hE hx n (m ||| 2 ^ (3 - n)) (by omega)
   refine ⟨M, e2, fun k => ?_⟩
   rw [h2 k, bit_or]
   constructor
   ·rintro ((h | h) | h)
    ·exact .inl h
    ·refine .inr ⟨by omega, by omega, ?_⟩
     rw [← h]; exact hb.mp rfl
    ·exact .inr ⟨by omega, h.2⟩
   ·rintro (h | h)
    ·exact .inl (.inl h)
    ·by_cases hk : 3 - n = k
     ·exact .inl (.inr hk)
     ·exact .inr ⟨by omega, h.2⟩
  | false =>
   obtain ⟨M, e2, h2⟩ := sec_has hh hE hx n m (by omega)
   refine ⟨M, e2, fun k => ?_⟩
   rw [h2 k]
   constructor
   ·rintro (h | h)
    ·exact .inl h
    ·exact .inr ⟨by omega, h.2⟩
   ·rintro (h | h)
    ·exact .inl h
    ·by_cases hk : 3 - n = k
     ·have := h.2.2
      rw [← hk] at this
      exact absurd (hb.mpr this) (by decide)
     ·exact .inr ⟨by omega, h.2⟩
theorem labs_has {C : List UInt8} {hs : List Hd} {E : List Fl} (hh : ∀ x : Nat, headC C (x : Int) = some (match hdOf hs x with | some m => (m : Int) | none => -1)) (hE : ∀ fl ∈ E, fl.frm < 26) : ∀ n, n ≤ 26 → ∃ R, labsF C E n = some R ∧ ∀ j, j < n → ∀ k, (R.getD j 0).testBit k = true ↔ k < 4 ∧ Has hs E (2 ^ k) (26 - n + j)
 | 0, _ => ⟨[], rfl, fun j h => by omega⟩
 | n + 1, hn => by
  obtain ⟨M, e, h⟩ := sec_has hh hE (x := 25 - n) (by omega) 4 0 (by omega)
  obtain ⟨R, e2, h2⟩ := labs_has hh hE n (by omega)
  refine ⟨M :: R, by unfold labsF; rw [e, e2], fun j hj k => ?_⟩
  cases j with
  | zero =>
   simp only [List.getD_cons_zero]
   rw [h k, show 26 - (n + 1) + 0 = 25 - n by omega]
   simp
  | succ j =>
   simp only [List.getD_cons_succ]
   rw [h2 j (by omega) k, show 26 - (n + 1) + (j + 1) = 26 - n + j by omega]
end Go.Proofs.YtdgmoiflahoihaaGreatDoor
namespace Go.Proofs.YtdgmoiflahoihaaGreatDoor
set_option linter.unusedSimpArgs false
set_option linter.unusedVariables false
theorem nameFl_mem {dst : Int} {inn y : Nat} : ∀ n, n ≤ 26 → 26 - n ≤ y → y < 26 → inn &&& 2 ^ y ≠ 0 → (⟨dst, (y : Int), 0⟩ : Fl) ∈ nameFl dst inn n
 | 0, _, h1, h2, _ => by omega
 | n + 1, hn, h1, h2, hb => by
  unfold nameFl
  by_cases e : 25 - n = y
  ·subst e
   rw [if_pos hb]
   simp
  ·exact List.mem_append_right _ (nameFl_mem n (by omega) (by omega) h2 hb)
theorem nameFl_of {dst : Int} {inn : Nat} {fl : Fl} : ∀ n, fl ∈ nameFl dst inn n → fl.dst = dst ∧ ∃ y : Nat, y < 26 ∧ fl.frm = (y : Int) ∧ inn &&& 2 ^ y ≠ 0
 | 0, h => by cases h
 | n + 1, h => by
  unfold nameFl at h
  rcases List.mem_append.mp h with h | h
  ·split at h
   ·rename_i hb
    simp at h
    subst h
    exact ⟨rfl, 25 - n, by omega, rfl, hb⟩
   ·cases h
  ·exact nameFl_of n h
theorem labL_bit {of : List Nat} {k : Nat} : ∀ (P : List Pt), (labL of P 0).testBit k = true → ∃ p ∈ P, p.op = 2 ∧ (of.getD p.num.toNat 0).testBit k = true
 | [], h => by simp [labL] at h
 | p :: r, h => by
  rw [labL_cons, labL_or] at h
  rw [Nat.testBit_or] at h
  rcases Bool.or_eq_true_iff.mp h with h | h
  ·split at h
   ·rename_i h2
    exact ⟨p, by simp, h2, by simpa using h⟩
   ·simp at h
  ·obtain ⟨q, hq, h2⟩ := labL_bit r h
   exact ⟨q, by simp [hq], h2⟩
theorem nmBits_mem : ∀ {P : List Pt} {p : Pt}, p ∈ P → p.op = 2 → (nmBits P).testBit p.num.toNat = true
 | [], p, h, _ => by cases h
 | q :: r, p, h, h2 => by
  unfold nmBits
  rw [Nat.testBit_or]
  rcases List.mem_cons.mp h with rfl | h
  ·rw [if_pos h2, Nat.testBit_two_pow]; simp
  ·rw [nmBits_mem h h2]; simp
theorem nmBits_of {of : List Nat} {k y : Nat} : ∀ {P : List Pt}, (nmBits P).testBit y = true → (of.getD y 0).testBit k = true → (labL of P 0).testBit k = true
 | [], h, _ => by simp [nmBits] at h
 | q :: r, h, hk => by
  unfold nmBits at h
  rw [Nat.testBit_or] at h
  rw [labL_cons, labL_or, Nat.testBit_or]
  rcases Bool.or_eq_true_iff.mp h with h | h
  ·split at h
   ·rename_i h2
    rw [if_pos h2]
    rw [Nat.testBit_two_pow] at h
    have e : q.num.toNat = y := by simpa using h
    rw [e, Nat.zero_or, hk]
    rfl
   ·simp at h
  ·rw [nmBits_of h hk]; simp
def Snd (hs : List Hd) (E : List Fl) (of : List Nat) : Prop := ∀ x k, x < 26 → (of.getD x 0).testBit k = true → Has hs E (2 ^ k) x
def GdS (hs : List Hd) (E : List Fl) (g G : Nat) : Prop := ∀ k, g.testBit k = true → ∃ y, y < 26 ∧ G &&& 2 ^ y ≠ 0 ∧ Has hs E (2 ^ k) y
structure Step (hs : List Hd) (E : List Fl) (fx : List Bool) (a b : LS) : Prop where
 len : b.1.length = 26
 snd : Snd hs E b.1
 fix : ∀ x, fx.getD x false = true → b.1.getD x 0 = a.1.getD x 0
theorem Step.refl {hs : List Hd} {E : List Fl} {fx : List Bool} {a : LS} (hl : a.1.length = 26) (h : Snd hs E a.1) : Step hs E fx a a := ⟨hl, h, fun _ _ => rfl⟩
theorem Step.trans {hs : List Hd} {E : List Fl} {fx : List Bool} {a b c : LS} (h : Step hs E fx a b) (k : Step hs E fx b c) : Step hs E fx a c := ⟨k.len, k.snd, fun x hx => (k.fix x hx).trans (h.fix x hx)⟩
theorem getD_set {α : Type} (l : List α) (i j : Nat) (v d : α) (hi : i < l.length) : (l.set i v).getD j d = if i = j then v else l.getD j d := by
 rw [List.getD_eq_getElem?_getD, List.getD_eq_getElem?_getD, List.getElem?_set]
 split
 ·rename_i h; subst h; simp [hi]
 ·rfl
theorem enlP_step {hs : List Hd} {E : List Fl} {fx : List Bool} {st : LS} (hl : st.1.length = 26) (h : Snd hs E st.1) {k lab : Nat} (hk : k < 26) (hb : fx.getD k false = false → ∀ j, lab.testBit j = true → Has hs E (2 ^ j) k) : Step hs E fx st (enlP fx st k lab) := by
 unfold enlP
 split
 ·exact Step.refl hl h
 ·rename_i hc
  have hfx : fx.getD k false = false := by
   cases hf : fx.getD k false with
   | false => rfl
   | true => rw [hf] at hc; simp at hc
  refine ⟨by simp [hl], fun x j hx hj => ?_, fun x hx => ?_⟩
  ·simp only at hj
   rw [getD_set _ _ _ _ _ (by omega)] at hj
   split at hj
   ·rename_i e
    subst e
    rw [Nat.testBit_or] at hj
    rcases Bool.or_eq_true_iff.mp hj with hj | hj
    ·exact h _ j hx hj
    ·exact hb hfx j hj
   ·exact h x j hx hj
  ·simp only
   rw [getD_set _ _ _ _ _ (by omega), if_neg]
   intro e
   subst e
   rw [hfx] at hx; cases hx
theorem gds_or {hs : List Hd} {E : List Fl} {g G : Nat} {of : List Nat} {P : List Pt} (hP : ∀ p ∈ P, PtOk p) (hg : GdS hs E g G) (h : Snd hs E of) : GdS hs E (g ||| labL of P 0) (G ||| nmBits P) := by
 intro k hk
 rw [Nat.testBit_or] at hk
 rcases Bool.or_eq_true_iff.mp hk with hk | hk
 ·obtain ⟨y, y1, y2, y3⟩ := hg k hk
  refine ⟨y, y1, (bit_iff _ _).mpr ?_, y3⟩
  rw [Nat.testBit_or, (bit_iff _ _).mp y2]; rfl
 ·obtain ⟨p, hp, h2, hb⟩ := labL_bit P hk
  obtain ⟨n0, n1⟩ := hP p hp h2
  refine ⟨p.num.toNat, by omega, (bit_iff _ _).mpr ?_, h _ k (by omega) hb⟩
  rw [Nat.testBit_or, nmBits_mem hp h2]; simp
def RecStep {α : Type} (hs : List Hd) (E : List Fl) (fx : List Bool) (ok : List α → Prop) (fl : Nat → List α → List Fl) (rec : LS → List α → Nat → LS) : Prop :=
 ∀ st l g G, st.1.length = 26 → Snd hs E st.1 → ok l → GdS hs E g G → (∀ q ∈ fl G l, q ∈ E) → Step hs E fx st (rec st l g)
theorem enlR_step {α : Type} {hs : List Hd} {E : List Fl} {fx : List Bool} {ok : List α → Prop} {flr : Nat → List α → List Fl} {rec : LS → List α → Nat → LS} (hfx : ∀ x, x < 26 → fx.getD x false = false → hdOf hs x = none) (hr : RecStep hs E fx ok flr rec) {st : LS} (hl : st.1.length = 26) (h : Snd hs E st.1) {q : Core × List α × List α} (hq : CoreOk q.1) (h1 : ok q.2.1) (h2 : ok q.2.2) {g G : Nat} (hg : GdS hs E g G) (ho : ∀ f ∈ ownT q.1 G, f ∈ E) (e1 : ∀ f ∈ flr (innT q.1 G) q.2.1, f ∈ E) (e2 : ∀ f ∈ flr (innT q.1 G) q.2.2, f ∈ E) : Step hs E fx st (enlR rec fx st q g) := by
 have hgo := gds_or hq.parts hg h
 unfold enlR
 split
 ·rename_i hk
  obtain ⟨n0, n1⟩ := hq.name (.inl hk)
  refine enlP_step hl h (by omega) fun hf j hj => ?_
  obtain ⟨y, y1, y2, y3⟩ := hgo j hj
  have hi : innT q.1 G = G ||| nmBits q.1.parts := by unfold innT; rw [if_neg (by omega)]
  refine .edge (fl := ⟨q.1.name, (y : Int), 0⟩) (y := y) (hfx _ (by omega) hf) (ho _ ?_) (by simp only; omega) rfl y3
  unfold ownT
  rw [if_pos (.inl hk), hi]
  exact List.mem_append_left _ (nameFl_mem 26 (Nat.le_refl _) (by omega) y1 y2)
 split
 ·rename_i hk0 hk
  obtain ⟨n0, n1⟩ := hq.name (.inr hk)
  have hi : innT q.1 G = G := by unfold innT; rw [if_pos (.inl hk)]
  refine enlP_step hl h (by omega) fun hf j hj => ?_
  rw [Nat.testBit_or] at hj
  rcases Bool.or_eq_true_iff.mp hj with hj | hj
  ·obtain ⟨y, y1, y2, y3⟩ := hg j hj
   refine .edge (fl := ⟨q.1.name, (y : Int), 0⟩) (y := y) (hfx _ (by omega) hf) (ho _ ?_) (by simp only; omega) rfl y3
   unfold ownT
   rw [if_pos (.inr hk), hi]
   exact List.mem_append_left _ (nameFl_mem 26 (Nat.le_refl _) (by omega) y1 y2)
  ·have hpos : 0 < q.1.label := by
    cases hz : q.1.label with
    | zero => rw [hz] at hj; simp at hj
    | succ _ => omega
   refine .sec (fl := ⟨q.1.name, -1, (q.1.label : Int)⟩) (hfx _ (by omega) hf) (ho _ ?_) (by simp only; omega) (show (-1 : Int) < 0 by decide) ?_
   ·unfold ownT
    rw [if_pos (.inr hk), if_pos ⟨hk, hpos⟩]
    exact List.mem_append_right _ (by simp)
   ·exact (bit_iff _ _).mpr (by simpa using hj)
 split
 ·rename_i hk
  have hi : innT q.1 G = G ||| nmBits q.1.parts := by unfold innT; rw [if_neg (by omega)]
  rw [← hi] at hgo
  have a := hr st q.2.1 _ _ hl h h1 hgo e1
  exact a.trans (hr _ q.2.2 _ _ a.len a.snd h2 hgo e2)
 ·exact Step.refl hl h
theorem enlL_step {α : Type} {hs : List Hd} {E : List Fl} {fx : List Bool} {ok : List α → Prop} {flr : Nat → List α → List Fl} {rec : LS → List α → Nat → LS} (hfx : ∀ x, x < 26 → fx.getD x false = false → hdOf hs x = none) (hr : RecStep hs E fx ok flr rec) : ∀ (l : List (Core × List α × List α)) (st : LS) (g G : Nat), st.1.length = 26 → Snd hs E st.1 → (∀ q ∈ l, CoreOk q.1 ∧ ok q.2.1 ∧ ok q.2.2) → GdS hs E g G → (∀ f ∈ flL flr G l, f ∈ E) → Step hs E fx st (enlL rec fx st l g)
 | [], st, g, G, hl, h, _, _, _ => Step.refl hl h
 | q :: r, st, g, G, hl, h, hq, hg, he => by
  obtain ⟨a, b, c⟩ := hq q (by simp)
  have he' : ∀ f ∈ ownT q.1 G ++ flr (innT q.1 G) q.2.1 ++ flr (innT q.1 G) q.2.2 ++ flL flr G r, f ∈ E := he
  have k := enlR_step hfx hr hl h a b c hg (fun f hf => he' f (by simp [hf])) (fun f hf => he' f (by simp [hf])) (fun f hf => he' f (by simp [hf]))
  exact k.trans (enlL_step hfx hr r _ g G k.len k.snd (fun x hx => hq x (by simp [hx])) hg (fun f hf => he' f (by simp [hf])))
theorem enlF_step {hs : List Hd} {E : List Fl} {fx : List Bool} (hfx : ∀ x, x < 26 → fx.getD x false = false → hdOf hs x = none) : ∀ n, RecStep hs E fx (TreeOk n) (flT n) (enlF fx n)
 | 0 => fun st l g G hl h _ _ _ => Step.refl hl h
 | n + 1 => fun st l g G hl h ht hg he => enlL_step hfx (enlF_step hfx n) l st g G hl h ht.2 hg he
theorem labLoop_end {hs : List Hd} {E : List Fl} {fx : List Bool} {l : List (RT 9)} (hfx : ∀ x, x < 26 → fx.getD x false = false → hdOf hs x = none) (ht : TreeOk 9 l) (he : ∀ f ∈ flT 9 0 l, f ∈ E) : ∀ (k : Nat) (of : List Nat), OfOk of → Snd hs E of → 391 ≤ k + of.sum →
  ∃ of', labLoop fx l k of = of' ∧ OfOk of' ∧ Snd hs E of' ∧ (∀ x, fx.getD x false = true → of'.getD x 0 = of.getD x 0) ∧ (enlF fx 9 (of', false) l 0).2 = false
 | 0, of, ho, _, hk => by have := ho.sum_le; omega
 | k + 1, of, ho, h, hk => by
  have hgr := enlF_grow fx 9 (of, false) l 0 ho ht (by omega)
  have hst := enlF_step (E := E) hfx 9 (of, false) l 0 0 ho.len h ht (fun k hk => by simp at hk) he
  unfold labLoop
  cases hf : (enlF fx 9 (of, false) l 0).2 with
  | false =>
   have hsame := hgr.same rfl hf
   simp only [Bool.false_eq_true, if_false]
   refine ⟨_, rfl, hgr.ok, hst.snd, hst.fix, ?_⟩
   rw [hsame]
   exact hf
  | true =>
   simp only [if_true]
   have hmore : of.sum < (enlF fx 9 (of, false) l 0).1.sum := by
    rcases hgr.more hf with h | h
    ·cases h
    ·exact h
   obtain ⟨of', e, e1, e2, e3, e4⟩ := labLoop_end hfx ht he k _ hgr.ok hst.snd (by omega)
   exact ⟨of', e, e1, e2, fun x hx => (e3 x hx).trans (hst.fix x hx), e4⟩
end Go.Proofs.YtdgmoiflahoihaaGreatDoor
namespace Go.Proofs.YtdgmoiflahoihaaGreatDoor
set_option linter.unusedSimpArgs false
set_option linter.unusedVariables false
def FlSat (fx : List Bool) (of : List Nat) (fl : Fl) : Prop :=
 fx.getD fl.dst.toNat false = true ∨ ∀ k, (0 ≤ fl.frm → (of.getD fl.frm.toNat 0).testBit k = true → (of.getD fl.dst.toNat 0).testBit k = true) ∧ (fl.frm < 0 → fl.sec.toNat.testBit k = true → (of.getD fl.dst.toNat 0).testBit k = true)
theorem goes_bit {a b k : Nat} (h : goesB a b = true) (hk : a.testBit k = true) : b.testBit k = true := by
 have e : a ||| b = b := by simpa [goesB] using h
 rw [← e, Nat.testBit_or, hk]
 rfl
def GdC (of : List Nat) (g G : Nat) : Prop := ∀ y k, y < 26 → G &&& 2 ^ y ≠ 0 → (of.getD y 0).testBit k = true → g.testBit k = true
theorem gdc_or {of : List Nat} {g G : Nat} {P : List Pt} (h : GdC of g G) : GdC of (g ||| labL of P 0) (G ||| nmBits P) := by
 intro y k hy hb hk
 have hb' := (bit_iff _ _).mp hb
 rw [Nat.testBit_or] at hb' ⊢
 rcases Bool.or_eq_true_iff.mp hb' with h1 | h1
 ·rw [h y k hy ((bit_iff _ _).mpr h1) hk]; rfl
 ·rw [nmBits_of h1 hk]; simp
theorem enlP_still {fx : List Bool} {of : List Nat} {k lab : Nat} (h : (enlP fx (of, false) k lab).2 = false) : fx.getD k false = true ∨ goesB lab (of.getD k 0) = true := by
 unfold enlP at h
 split at h
 ·rename_i hc
  exact Bool.or_eq_true_iff.mp hc
 ·cases h
theorem own_sat {fx : List Bool} {of : List Nat} {c : Core} {g G lab : Nat} (hn : 0 ≤ c.name ∧ c.name < 26) (hk : c.kind = 0 ∨ c.kind = 1) (hg : GdC of lab (innT c G)) (hlab : c.kind = 1 → ∀ k, c.label.testBit k = true → lab.testBit k = true) (h : fx.getD c.name.toNat false = true ∨ goesB lab (of.getD c.name.toNat 0) = true) : ∀ fl ∈ ownT c G, FlSat fx of fl := by
 intro fl hf
 unfold ownT at hf
 rw [if_pos hk] at hf
 rcases List.mem_append.mp hf with hf | hf
 ·obtain ⟨hd, y, y1, y2, y3⟩ := nameFl_of 26 hf
  unfold FlSat
  rw [hd]
  refine h.imp id fun h k => ⟨fun _ hb => ?_, fun hneg => by omega⟩
  rw [y2] at hb
  exact goes_bit h (hg y k y1 y3 (by simpa using hb))
 ·split at hf
  ·rename_i hc
   simp at hf
   subst hf
   refine h.imp id fun h k => ⟨fun hneg => (by simp only at hneg; omega), fun _ hb => ?_⟩
   exact goes_bit h (hlab hc.1 k (by simpa using hb))
  ·cases hf
def RecStill {α : Type} (fx : List Bool) (of : List Nat) (ok : List α → Prop) (flr : Nat → List α → List Fl) (rec : LS → List α → Nat → LS) : Prop :=
 ∀ l g G, ok l → g < 16 → GdC of g G → (rec (of, false) l g).2 = false → rec (of, false) l g = (of, false) ∧ ∀ fl ∈ flr G l, FlSat fx of fl
theorem pair_still {a : LS} {of : List Nat} (h : Grow (of, false) a) (e : a.2 = false) : a = (of, false) := Prod.ext (h.same rfl e) e
theorem flag_back {a b : LS} (h : Grow a b) (e : b.2 = false) : a.2 = false := by
 cases ha : a.2 with
 | false => rfl
 | true => rw [h.keep ha] at e; cases e
theorem enlR_still {α : Type} {fx : List Bool} {of : List Nat} {ok : List α → Prop} {flr : Nat → List α → List Fl} {rec : LS → List α → Nat → LS} (ho : OfOk of) (hgr : RecGrow ok rec) (hr : RecStill fx of ok flr rec) {q : Core × List α × List α} (hq : CoreOk q.1) (h1 : ok q.2.1) (h2 : ok q.2.2) (hno : ¬ (q.1.kind = 3 ∨ q.1.kind = 4) → ∀ G, flr G q.2.1 = [] ∧ flr G q.2.2 = []) {g G : Nat} (hg16 : g < 16) (hg : GdC of g G) (hs : (enlR rec fx (of, false) q g).2 = false) :
  ∀ fl ∈ ownT q.1 G ++ flr (innT q.1 G) q.2.1 ++ flr (innT q.1 G) q.2.2, FlSat fx of fl := by
 have hL := or_lt16 hg16 (labL_lt ho.lt q.1.parts 0 (by omega))
 have hgo := gdc_or (P := q.1.parts) hg
 intro fl hf
 unfold enlR at hs
 by_cases k0 : q.1.kind = 0
 ·rw [if_pos k0] at hs
  obtain ⟨n1, n2⟩ := hno (by omega) (innT q.1 G)
  rw [n1, n2, List.append_nil, List.append_nil] at hf
  have hi : innT q.1 G = G ||| nmBits q.1.parts := by unfold innT; rw [if_neg (by omega)]
  exact own_sat (lab := g ||| labL of q.1.parts 0) (g := g) (hq.name (.inl k0)) (.inl k0) (by rw [hi]; exact hgo) (fun e => by omega) (enlP_still hs) fl hf
 rw [if_neg k0] at hs
 by_cases k1 : q.1.kind = 1
 ·rw [if_pos k1] at hs
  obtain ⟨n1, n2⟩ := hno (by omega) (innT q.1 G)
  rw [n1, n2, List.append_nil, List.append_nil] at hf
  have hi : innT q.1 G = G := by unfold innT; rw [if_pos (.inl k1)]
  refine own_sat (lab := g ||| q.1.label) (g := g) (hq.name (.inr k1)) (.inr k1) ?_ (fun _ k hk => ?_) (enlP_still hs) fl hf
  ·rw [hi]
   intro y k hy hb hk
   rw [Nat.testBit_or, hg y k hy hb hk]; rfl
  ·rw [Nat.testBit_or, hk]; simp
 rw [if_neg k1] at hs
 by_cases k34 : q.1.kind = 3 ∨ q.1.kind = 4
 ·rw [if_pos k34] at hs
  have hi : innT q.1 G = G ||| nmBits q.1.parts := by unfold innT; rw [if_neg (by omega)]
  rw [← hi] at hgo
  have g1 := hgr (of, false) q.2.1 _ ho h1 hL
  have g2 := hgr _ q.2.2 _ g1.ok h2 hL
  obtain ⟨e1, s1⟩ := hr q.2.1 _ _ h1 hL hgo (flag_back g2 hs)
  rw [e1] at hs
  obtain ⟨e2, s2⟩ := hr q.2.2 _ _ h2 hL hgo hs
  have hown : ownT q.1 G = [] := by unfold ownT; rw [if_neg (by omega)]
  rw [hown, List.nil_append] at hf
  rcases List.mem_append.mp hf with hf | hf
  ·exact s1 fl hf
  ·exact s2 fl hf
 ·obtain ⟨n1, n2⟩ := hno k34 (innT q.1 G)
  rw [n1, n2, List.append_nil, List.append_nil] at hf
  unfold ownT at hf
  rw [if_neg (by omega)] at hf
  cases hf
def BareL {α : Type} (flr : Nat → List α → List Fl) (rec : List α → Prop) : List (Core × List α × List α) → Prop := fun l => ∀ q ∈ l, (¬ (q.1.kind = 3 ∨ q.1.kind = 4) → ∀ G, flr G q.2.1 = [] ∧ flr G q.2.2 = []) ∧ rec q.2.1 ∧ rec q.2.2
def BareT (n : Nat) : List (RT n) → Prop :=
 match n with
 | 0 => fun _ => True
 | n + 1 => fun l => BareL (flT n) (BareT n) l
theorem enlL_still {α : Type} {fx : List Bool} {of : List Nat} {ok bare : List α → Prop} {flr : Nat → List α → List Fl} {rec : LS → List α → Nat → LS} (ho : OfOk of) (hgr : RecGrow ok rec) (hr : RecStill fx of (fun l => ok l ∧ bare l) flr rec) : ∀ (l : List (Core × List α × List α)) (g G : Nat), (∀ q ∈ l, CoreOk q.1 ∧ ok q.2.1 ∧ ok q.2.2) → BareL flr bare l → g < 16 → GdC of g G → (enlL rec fx (of, false) l g).2 = false → ∀ fl ∈ flL flr G l, FlSat fx of fl
 | [], g, G, _, _, _, _, _ => fun fl hf => by cases hf
 | q :: r, g, G, hq, hb, hg16, hg, hs => by
  obtain ⟨a, b, c⟩ := hq q (by simp)
  obtain ⟨d, d1, d2⟩ := hb q (by simp)
  have hs' : (enlL rec fx (enlR rec fx (of, false) q g) r g).2 = false := hs
  have g1 := enlR_grow hgr (fx := fx) (st := (of, false)) ho a b c hg16
  have g2 := enlL_grow hgr (fx := fx) r _ g g1.ok (fun x hx => hq x (by simp [hx])) hg16
  have f1 := flag_back g2 hs'
  have hgr' : RecGrow (fun l => ok l ∧ bare l) rec := fun st l g h1 h2 h3 => hgr st l g h1 h2.1 h3
  have s1 := enlR_still ho hgr' hr a ⟨b, d1⟩ ⟨c, d2⟩ d hg16 hg f1
  rw [pair_still g1 f1] at hs'
  have s2 := enlL_still ho hgr hr r g G (fun x hx => hq x (by simp [hx])) (fun x hx => hb x (by simp [hx])) hg16 hg hs'
  intro fl hf
  have hf' : fl ∈ ownT q.1 G ++ flr (innT q.1 G) q.2.1 ++ flr (innT q.1 G) q.2.2 ++ flL flr G r := hf
  rcases List.mem_append.mp hf' with h | h
  ·exact s1 fl h
  ·exact s2 fl h
theorem enlF_still {fx : List Bool} {of : List Nat} (ho : OfOk of) : ∀ n, RecStill fx of (fun l => TreeOk n l ∧ BareT n l) (flT n) (enlF fx n)
 | 0 => fun l g G _ _ _ _ => ⟨rfl, fun fl hf => by cases hf⟩
 | n + 1 => fun l g G hok hg16 hg hs => by
  have gr := enlF_grow fx (n + 1) (of, false) l g ho hok.1 hg16
  exact ⟨pair_still gr hs, enlL_still ho (enlF_grow fx n) (enlF_still ho n) l g G hok.1.2 hok.2 hg16 hg hs⟩
theorem has_in {hs : List Hd} {E : List Fl} {fx : List Bool} {of : List Nat} (hfx : ∀ x m, hdOf hs x = some m → of.getD x 0 = m) (hfn : ∀ x, hdOf hs x = none → fx.getD x false = false) (hE : ∀ fl ∈ E, FlSat fx of fl) {k x : Nat} (h : Has hs E (2 ^ k) x) : (of.getD x 0).testBit k = true := by
 refine h (fun x => (of.getD x 0).testBit k = true) ⟨?_, ?_, ?_⟩
 ·intro x m h hb
  rw [hfx _ _ h]
  exact (bit_iff _ _).mp hb
 ·intro x fl h hm hd hf hb
  rcases hE _ hm with h1 | h1
  ·rw [hd, Int.toNat_natCast, hfn _ h] at h1; cases h1
  ·have := (h1 k).2 hf ((bit_iff _ _).mp hb)
   rwa [hd, Int.toNat_natCast] at this
 ·intro x y fl h hm hd hf ih
  rcases hE _ hm with h1 | h1
  ·rw [hd, Int.toNat_natCast, hfn _ h] at h1; cases h1
  ·have := (h1 k).1 (by omega)
   rw [hd, hf, Int.toNat_natCast, Int.toNat_natCast] at this
   exact this ih
end Go.Proofs.YtdgmoiflahoihaaGreatDoor
namespace Go.Proofs.YtdgmoiflahoihaaGreatDoor
set_option linter.unusedSimpArgs false
set_option linter.unusedVariables false
theorem twice_none {n : Int} : ∀ (l pre : List Hd), twiceL pre l = none → hasN pre n = true → ∀ h ∈ l, ¬ h.name = n
 | [], pre, _, _, h, hh => by cases hh
 | a :: r, pre, ht, hp, h, hh => by
  rw [twiceL_cons] at ht
  cases hb : hasN pre a.name with
  | true => rw [hb, if_pos rfl] at ht; cases ht
  | false =>
   rw [hb] at ht
   simp only [Bool.false_eq_true, if_false] at ht
   rcases List.mem_cons.mp hh with rfl | hh
   ·intro e
    rw [e, hp] at hb; cases hb
   ·exact twice_none r _ ht (by unfold hasN at hp ⊢; rw [List.any_append, hp]; rfl) h hh
theorem hdOf_none {k : Nat} : ∀ (l : List Hd), (∀ h ∈ l, ¬ h.name = (k : Int)) → hdOf l k = none
 | [], _ => rfl
 | a :: r, h => by
  unfold hdOf
  rw [if_neg (h a (by simp))]
  exact hdOf_none r fun x hx => h x (by simp [hx])
theorem headLab_one {k : Nat} : ∀ (l pre : List Hd) (x : List Nat × List Bool), twiceL pre l = none → (∀ h ∈ l, HdOk h) → x.1.length = 26 → x.2.length = 26 →
  (headLab l x).1.getD k 0 = (match hdOf l k with | some m => m | none => x.1.getD k 0) ∧ (headLab l x).2.getD k false = ((hdOf l k).isSome || x.2.getD k false) ∧ (headLab l x).2.length = 26
 | [], pre, x, _, _, _, h2 => ⟨rfl, by simp [headLab, hdOf], h2⟩
 | a :: r, pre, x, ht, hh, h1, h2 => by
  obtain ⟨n0, n1, _, _⟩ := hh a (by simp)
  rw [twiceL_cons] at ht
  cases hb : hasN pre a.name with
  | true => rw [hb, if_pos rfl] at ht; cases ht
  | false =>
  rw [hb] at ht
  simp only [Bool.false_eq_true, if_false] at ht
  obtain ⟨i1, i2, i3⟩ := headLab_one r (pre ++ [a]) (x.1.set a.name.toNat a.label, x.2.set a.name.toNat true) ht (fun h hx => hh h (by simp [hx])) (by simp [h1]) (by simp [h2])
  rw [headLab_cons]
  refine ⟨?_, ?_, i3⟩
  ·rw [i1]
   simp only
   rw [getD_set _ _ _ _ _ (by omega)]
   by_cases e : a.name = (k : Int)
   ·have hn : hdOf r k = none := hdOf_none r (by
     rw [← e]
     exact twice_none r _ ht (by unfold hasN; rw [List.any_append]; simp))
    rw [hn]
    unfold hdOf
    rw [if_pos e, if_pos (by omega)]
   ·rw [if_neg (by omega)]
    conv => rhs; unfold hdOf
    rw [if_neg e]
  ·rw [i2]
   simp only
   rw [getD_set _ _ _ _ _ (by omega)]
   by_cases e : a.name = (k : Int)
   ·unfold hdOf
    rw [if_pos e, if_pos (by omega)]
    simp
   ·rw [if_neg (by omega)]
    conv => rhs; unfold hdOf
    rw [if_neg e]
theorem cutT_none {C : List UInt8} {A : List Int} {n lo G : Nat} {l : List (RT n)} (h : CutT C A n lo lo l) : flT n G l = [] := by
 cases n with
 | zero => rfl
 | succ n =>
  cases l with
  | nil => rfl
  | cons q r => exact absurd h.1 (Nat.lt_irrefl _)
theorem cutT_bare {C : List UInt8} {A : List Int} : ∀ (n lo hi : Nat) (l : List (RT n)), CutT C A n lo hi l → BareT n l
 | 0, _, _, _, _ => trivial
 | n + 1, lo, hi, l, h => by
  have key : ∀ (l : List (Core × List (RT n) × List (RT n))) (lo hi : Nat), CutL (fun i o q => CutOne C A (CutT C A n) i o q) lo hi l → BareL (flT n) (BareT n) l := by
   intro l
   induction l with
   | nil => intro lo hi _ q hq; cases hq
   | cons a r ih =>
    intro lo hi h q hq
    obtain ⟨hlt, o, h1, h2⟩ := h
    rcases List.mem_cons.mp hq with rfl | hq
    ·obtain ⟨tw, hb, hb1, hb2⟩ := h1.blocks
     refine ⟨fun hk G => ?_, cutT_bare n _ _ _ hb1, cutT_bare n _ _ _ hb2⟩
     obtain ⟨c, hc, hc42, hc40, _, _⟩ := h1.byte
     have hi := over_lt h1.over
     have hcc : C[lo] = c := (List.getElem?_eq_some_iff.mp hc).2
     rw [blocks_at h1.over hi, if_neg (by rw [hcc]; exact fun e => hk (.inl (hc40.mp e))), if_neg (by rw [hcc]; exact fun e => hk (.inr (hc42.mp e)))] at hb
     cases hb
     exact ⟨cutT_none hb1, cutT_none hb2⟩
    ·exact ih o hi h2 q hq
  exact key l lo hi h
theorem cutHd_ok {t : List UInt8} (ht : t.length ≤ 400) : ∀ (l : List Hd) (lo hi : Nat), CutHd (keptL t) (atL t 0) lo hi l → ∀ h ∈ l, HdOk h
 | [], _, _, _, h, hh => by cases hh
 | a :: r, lo, hi, hc, h, hh => by
  obtain ⟨hlt, o, h1, h2⟩ := hc
  rcases List.mem_cons.mp hh with rfl | hh
  ·obtain ⟨d, hd, hn⟩ := h1.name
   obtain ⟨j, hl⟩ := h1.label
   have hp := at_lt h1.place
   have := labelC_lt16 hl
   have hr := h1.ok
   exact ⟨by omega, by omega, this, by omega⟩
  ·exact cutHd_ok ht r o hi h2 h hh
theorem eq_bits {a b : Nat} (ha : a < 16) (hb : b < 16) (h : ∀ k, k < 4 → (a.testBit k = true ↔ b.testBit k = true)) : a = b := by
 apply Nat.eq_of_testBit_eq
 intro k
 by_cases hk : k < 4
 ·have := h k hk
  cases h1 : a.testBit k <;> cases h2 : b.testBit k <;> simp_all
 ·have h1 : a.testBit k = false := Nat.testBit_lt_two_pow (Nat.lt_of_lt_of_le ha (Nat.pow_le_pow_right (n := 2) (by omega) (show 4 ≤ k by omega)))
  have h2 : b.testBit k = false := Nat.testBit_lt_two_pow (Nat.lt_of_lt_of_le hb (Nat.pow_le_pow_right (n := 2) (by omega) (show 4 ≤ k by omega)))
  rw [h1, h2]
theorem labels_eq {C : List UInt8} {A : List Int} {B : Nat} {hs : List Hd} {l : List (RT 9)} (hC : C.length ≤ 400) (hb : beginC C = some B) (h1 : CutHd C A 0 B hs) (h2 : CutT C A 9 B C.length l) (hk : ∀ h ∈ hs, HdOk h) (ht : TreeOk 9 l) (htw : twiceL [] hs = none) :
  flowsC C = some (flT 9 0 l) ∧ labelsC C = some (labelsP hs l) := by
 have hB := begin_le hb
 obtain ⟨hfl, _⟩ := flows_eq hC 9 l B C.length 0 (C.length + 1) h2 (Nat.le_refl _) (by omega)
 have hfc : flowsC C = some (flT 9 0 l) := by unfold flowsC; rw [hb]; exact hfl
 refine ⟨hfc, ?_⟩
 have hok := flows_ok _ _ _ _ _ hfl
 have hh : ∀ x : Nat, headC C (x : Int) = some (match hdOf hs x with | some m => (m : Int) | none => -1) := fun x => headC_eq hb h1
 obtain ⟨R, hR, hRb⟩ := labs_has hh (fun q hq => (hok.frm q hq).2) 26 (Nat.le_refl _)
 obtain ⟨rl, rlt⟩ := labsF_ok 26 R hR
 have hl0 := fun k => headLab_one (k := k) hs [] lab0 htw hk rfl rfl
 have hfx : ∀ x, hdOf hs x = none → x < 26 → (headLab hs lab0).2.getD x false = false := by
  intro x hx hx26
  have := (hl0 x).2.1
  rw [this, hx]
  have e : lab0.2.getD x false = false := rep_getD false false 26 x hx26
  rw [e]
  rfl
 have hfx2 : ∀ x, x < 26 → (headLab hs lab0).2.getD x false = false → hdOf hs x = none := by
  intro x hx26 h
  have := (hl0 x).2.1
  rw [h] at this
  cases hd : hdOf hs x with
  | none => rfl
  | some m => rw [hd] at this; simp at this
 have hsnd : Snd hs (flT 9 0 l) (headLab hs lab0).1 := by
  intro x k hx hb
  rw [(hl0 x).1] at hb
  cases hd : hdOf hs x with
  | none =>
   rw [hd] at hb
   have e : lab0.1.getD x 0 = 0 := rep_getD 0 0 26 x hx
   simp only at hb
   rw [e] at hb
   simp at hb
  | some m =>
   rw [hd] at hb
   exact .head hd ((bit_iff _ _).mpr hb)
 obtain ⟨of, eo, o1, o2, o3, o4⟩ := labLoop_end (fx := (headLab hs lab0).2) hfx2 ht (fun _ => id) 400 _ (headLab_ok hs lab0 hk lab0_ok) hsnd (by omega)
 have hst := (enlF_still o1 9 l 0 0 ⟨ht, cutT_bare 9 _ _ _ h2⟩ (by omega) (fun y k _ hy => absurd (Nat.zero_and _) hy) o4).2
 have hlab : labelsP hs l = of := eo
 unfold labelsC
 rw [hfc, hlab]
 simp only
 rw [hR]
 congr 1
 refine List.ext_getElem (by rw [rl, o1.len]) fun i hi1 hi2 => ?_
 have hi : i < 26 := by omega
 have e1 : R.getD i 0 = R[i] := by simp [List.getD_eq_getElem?_getD, hi1]
 have e2 : of.getD i 0 = of[i] := by simp [List.getD_eq_getElem?_getD, hi2]
 refine eq_bits (rlt _ (List.getElem_mem _)) (o1.lt _ (List.getElem_mem _)) fun k hk4 => ?_
 have hb1 := hRb i hi k
 rw [e1, show 26 - 26 + i = i by omega] at hb1
 rw [hb1, ← e2]
 constructor
 ·rintro ⟨_, hh⟩
  refine has_in (fx := (headLab hs lab0).2) (fun x m hx => ?_) (fun x hx => ?_) hst hh
  ·have hf : (headLab hs lab0).2.getD x false = true := by rw [(hl0 x).2.1, hx]; rfl
   rw [o3 x hf, (hl0 x).1, hx]
  ·by_cases hx26 : x < 26
   ·exact hfx x hx hx26
   ·rw [List.getD_eq_getElem?_getD, List.getElem?_eq_none (by rw [(hl0 x).2.2]; omega)]
    rfl
 ·intro hb
  exact ⟨hk4, o2 i k hi hb⟩
theorem parse_ok {t : List UInt8} (ht : t.length ≤ 400) (hbad : (parseR t).1.bad = false) : ParseOk t := by
 obtain ⟨_, B, hb, h1, h2⟩ := (parse_spec t).2 hbad
 have hk := kept_le t
 have hB := begin_le hb
 have hle := (cutHd_le _ _ _ h1).2
 exact ⟨cutHd_ok ht _ _ _ h1, by omega, cutT_ok ht 9 _ _ _ (by omega) h2, work_lt40 h2 (Nat.le_refl _) (by omega)⟩
theorem check_eq (t : List UInt8) : checkC t = some (checkP t) := by
 unfold checkC checkP
 by_cases hl : 400 < t.length
 ·rw [if_pos hl, if_pos hl]
 rw [if_neg hl, if_neg hl]
 have ht : t.length ≤ 400 := by omega
 have hkl := kept_le t
 cases hbad : (parseR t).1.bad with
 | true =>
  have := (parse_spec t).1 hbad
  rw [this, if_pos (by omega)]
  rfl
 | false =>
  obtain ⟨hp, B, hb, h1, h2⟩ := (parse_spec t).2 hbad
  have hpo := parse_ok ht hbad
  have hB := begin_le hb
  have htw := twice_eq hB _ [] 0 ((keptL t).length + 1) rfl h1 (by omega)
  have htc : twiceC (keptL t) (atL t 0) = some (match twiceL [] (parseH t).2 with | some p => (p : Int) | none => -1) := by
   unfold twiceC
   rw [hb]
   exact htw
  rw [hp, if_neg (by decide), htc]
  simp only [Bool.false_eq_true, if_false]
  cases htl : twiceL [] (parseH t).2 with
  | some p =>
   simp only
   rw [if_pos (by omega)]
  | none =>
   simp only
   rw [if_neg (by decide), hb]
   simp only
   rw [work_eq (by omega) 9 (Nat.le_refl _) _ B _ _ h2 (Nat.le_refl _) (by omega)]
   simp only
   split
   ·rfl
   ·obtain ⟨e1, e2⟩ := labels_eq (by omega) hb h1 h2 hpo.heads hpo.tree htl
    rw [e1, e2]
    simp only
    rw [dirty_eq (labelsP_ok hpo.heads hpo.tree) 9 _ B _ 0 _ h2 (Nat.le_refl _) (by omega)]
    have e0 : togC (labelsP (parseH t).2 (parseR t).2) 0 = 0 := by unfold togC; exact togR_zero _ _ _
    rw [e0]
    simp only
    cases cleanF (labelsP (parseH t).2 (parseR t).2) 9 0 (parseR t).2 with
    | some p => simp only; rw [if_pos (by omega)]
    | none => simp only; rw [if_neg (by decide)]
end Go.Proofs.YtdgmoiflahoihaaGreatDoor
namespace Go.Proofs.YtdgmoiflahoihaaGreatDoor
open Go.RowKit
set_option linter.unusedSimpArgs false
set_option linter.unusedVariables false
set_option maxRecDepth 100000 in
set_option maxHeartbeats 1000000 in
theorem valueOf_any (l : List Pt) (names : List Vl) (P : Nat → Prop) (v : Value) (w : World) (hn : names.length = 26) (hno : ∀ v ∈ names, VlOk v) (hl : l.length ≤ 1000) (hok : ∀ p ∈ l, PtOk p) (hnm : ∀ p ∈ l, PtNum p) (hv : PartsV w P v l) :
  Calls Tryz.prog 135 #[v, .agg (vlArr names)] w fun e w' => e = .returned (vlV (valueV names l)) ∧ Below w.heap.size w w' := by
 have hsz := vlArr_size hn
 obtain ⟨ao, g, cap, rfl, hcells⟩ := parts_form hv
 clear hv
 generalize hV : valueV names l = y
 have HV : Hid (topV (pileV names l []) = y) := hV
 clear hV
 have HNO : Hid _ := hno
 have HC : Hid _ := hcells
 have HOK : Hid _ := hok
 have HNM : Hid _ := hnm
 clear hno hcells hok hnm
 have hB0 : Below w.heap.size w (((w.alloc (.cells (vlArr names) 102)).alloc (.cells #[.int .i64 0, .int .i64 0] 59)).alloc (.cells #[.slice none 0 0] 227)) := by
  refine Below.alloc (Below.alloc (Below.alloc (Below.refl _ _) (Nat.le_refl _) _) ?_ _) ?_ _ <;> simp <;> omega
 have hN0 : NamesAt (((w.alloc (.cells (vlArr names) 102)).alloc (.cells #[.int .i64 0, .int .i64 0] 59)).alloc (.cells #[.slice none 0 0] 227)) w.heap.size names := by
  refine ((NamesAt.new w names).keep (B := w.heap.size + 1) ?_ (by omega))
  refine Below.alloc (Below.alloc (Below.refl _ _) ?_ _) ?_ _ <;> simp <;> omega
 go_enter Tryz.func135, Tryz.ntmps135
 go_upto_region 2 with fail
 generalize hW : (((w.alloc (.cells (vlArr names) 102)).alloc (.cells #[.int .i64 0, .int .i64 0] 59)).alloc (.cells #[.slice none 0 0] 227)) = W at *
 have hR0 : ResAt W (w.heap.size + 1) := by
  rw [← hW]
  refine ⟨?_, ?_, fun o => ?_⟩ <;> simp [go_sem]
 have hP0 : PileAt W (w.heap.size + 1 + 1) (fun _ => True) [] := by
  rw [← hW]
  exact ⟨⟨.slice none 0 0, by simp [go_sem], World.ownsRow_nil .., fun _ _ => trivial⟩, fun o => by simp [go_sem]⟩
 clear hW
 go_wp2_with fail
 go_loopw [11] (fun x w' => ∃ (k : Nat) (st : List Vl), x = .int .i64 k ∧ k ≤ l.length ∧ st.length ≤ k ∧ Hid (NamesAt w' w.heap.size names) ∧ Hid (ResAt w' (w.heap.size + 1)) ∧ Hid (PileAt w' (w.heap.size + 1 + 1) (fun _ => True) st) ∧ Hid (Below w.heap.size w w') ∧ Hid (∀ v ∈ st, VlOk v) ∧ Hid (topV (pileV names (l.drop k) st) = y)) (fun x _ => l.length - (intOf x).toNat)
 case atStart => exact ⟨0, [], rfl, by omega, by simp, hN0, hR0, hP0, hB0, by show ∀ v ∈ [], VlOk v; simp, HV⟩
 case round =>
  obtain ⟨k, st, rfl, hk, hst, HN, HR, HP, HB, HSO, HL⟩ := hrel
  clear hN0 hR0 hP0 hB0
  have hpl : w.heap.size + 1 + 1 < wr.heap.size := HP.out.lt
  by_cases hlt : k < l.length
  ·have tk : decide ((k : Int) < (l.length : Int)) = true := by simp; omega
   obtain ⟨e0, hg, c0, c1⟩ := HC.out k hlt
   have OKP : Hid (PtOk l[k]) := HOK.out l[k] (List.getElem_mem hlt)
   have NMP : Hid (PtNum l[k]) := HNM.out l[k] (List.getElem_mem hlt)
   rw [← HB.out.cell (p := ⟨g, k * 2, none⟩) hg] at c0
   rw [← HB.out.cell (p := ⟨g, k * 2 + 1, none⟩) hg] at c1
   have HST : Hid (topV (pileV names (l.drop (k + 1)) ((takeV names l[k] st).2 ++ [(takeV names l[k] st).1])) = y) := by
    have := HL.out
    rw [List.drop_eq_getElem_cons hlt] at this
    exact this
   generalize hp : l[k] = p at *
   clear hp
   subst e0
   have HTO : Hid _ := takeV_ok (p := p) HNO.out HSO.out NMP.out
   have hlen := takeV_len names st p
   have hi59 : (Tryz.prog.info? 102).map (fun i => i.size) = some (vlArr names).size := by rw [infoVals, hsz]
   go_wp2_with (first | (refine wpList_load_row rfl 102 _ rfl w.heap.size rfl 102 (vlArr names) (0, 0) _ (by exact (HN.out.keep (B := wr.heap.size) ((Below.refl _ _).alloc (Nat.le_refl _) _) (by omega)).here) Tryz.underlying102 rfl hi59 ?_) | (go_at_call 175; refine (pileTake_any (w.heap.size + 1 + 1) p names st _ _ (by exact HP.out.alloc _) (by omega) hn HNO.out HSO.out OKP.out).mono ?_; rintro e w1 ⟨rfl, hP1, hb1⟩))
   refine (pilePush_any (w.heap.size + 1 + 1) (takeV names p st).2 (takeV names p st).1 _ (by exact hP1.alloc _) (by omega)).mono ?_
   rintro e w2 ⟨rfl, hP2, hb2⟩
   have hA1 : Below (w.heap.size + 1 + 1) wr (wr.alloc (.cells #[.int .i64 p.op, .int .i64 p.num] 195)) := (Below.refl _ _).alloc (by omega) _
   have hs1 := hb1.size
   have hs1b : wr.heap.size < w1.heap.size := by
    have e1 : (wr.alloc (.cells #[.int .i64 p.op, .int .i64 p.num] 195)).heap.size = wr.heap.size + 1 := by simp
    omega
   have hA2 : Below (w.heap.size + 1 + 1) wr w2 := ((hA1.trans hb1).alloc (by omega) _).trans hb2
   have HN2 : Hid (NamesAt w2 w.heap.size names) := HN.out.keep hA2 (by omega)
   have HR2 : Hid (ResAt w2 (w.heap.size + 1)) := HR.out.of_block (hA2.block _ (by omega))
   have HB2 : Hid (Below w.heap.size w w2) := HB.out.trans (hA2.mono (by omega))
   have HP2 : Hid (PileAt w2 (w.heap.size + 1 + 1) (fun _ => True) ((takeV names p st).2 ++ [(takeV names p st).1])) := hP2
   have HSO2 : Hid (∀ v ∈ (takeV names p st).2 ++ [(takeV names p st).1], VlOk v) := by
    intro v hv
    rcases List.mem_append.mp hv with h | h
    ·exact HTO.out.2 v h
    ·simp at h; rw [h]; exact HTO.out.1
   clear hA1 hA2 hb1 hb2 hP1 hP2 c0 c1 HN HR HP HB hs1
   go_wp2_with fail
   go_roundw
   case rel => exact ⟨k + 1, _, by go_num, by omega, by simp; omega, HN2, HR2, HP2, HB2, HSO2, HST⟩
   case measure => simp [intOf]; omega
  ·have tk : decide ((k : Int) < (l.length : Int)) = false := by simp; omega
   have HF : Hid (topV st = y) := by
    have := HL.out
    rw [List.drop_of_length_le (by omega)] at this
    exact this
   go_wp2_with (first | (go_at_call 177; refine (pilePop_any (w.heap.size + 1 + 1) st _ _ HP.out (by omega)).mono ?_; rw [HF.out]; rintro e w1 ⟨rfl, hP1, hb1⟩; obtain ⟨s0, s1, sf⟩ := HR.out.of_block (but_other hb1 (by omega) (by omega)); have HB1 : Hid (Below (w.heap.size + 1 + 1) wr w1) := but_below hb1 hpl; clear hb1 hP1))
   refine bodyPost_ret (v := vlV y) (by simp [results, Tryz.results135, go_sem, s0, s1, sf]) rfl ⟨rfl, ?_⟩
   exact ((HB.out.trans (HB1.out.mono (by omega))).setCell (by simp only; omega) _).setCell (by simp only; omega) _
end Go.Proofs.YtdgmoiflahoihaaGreatDoor
namespace Go.Proofs.YtdgmoiflahoihaaGreatDoor
open Go.RowKit
set_option linter.unusedSimpArgs false
set_option linter.unusedVariables false
structure Nt where
 kind : Int
 place : Nat
 label : Nat
 val : Vl
def ntCell (x : Nt) : List Value := [.int .i64 x.kind, .int .i64 x.place, .int .i64 x.label, .int .i64 x.val.num, .int .i64 x.val.fault]
def ntCells (l : List Nt) : List Value := l.flatMap ntCell
theorem ntCells_len (l : List Nt) : (ntCells l).length = l.length * 5 := by
 induction l with
 | nil => rfl
 | cons p r ih => simp only [ntCells, List.flatMap_cons, List.length_append] at ih ⊢; rw [ih]; simp [ntCell]; omega
theorem ntCells_app (l r : List Nt) : ntCells (l ++ r) = ntCells l ++ ntCells r := by simp [ntCells]
abbrev SR := List Vl × List Nt
def repS (f : SR → SR) : Nat → SR → SR
 | 0, s => s
 | n + 1, s => repS f n (f s)
def doT {α : Type} (rec : SR → List α → SR) (s : SR) (q : Core × List α × List α) : SR :=
 if q.1.kind = 0 then (s.1.set q.1.name.toNat (valueV s.1 q.1.parts), s.2)
 else if q.1.kind = 1 then (s.1.set q.1.name.toNat (valueV s.1 q.1.parts), s.2 ++ [⟨1, q.1.place, q.1.label, valueV s.1 q.1.parts⟩])
 else if q.1.kind = 2 then (s.1, s.2 ++ [⟨0, q.1.place, q.1.label, valueV s.1 q.1.parts⟩])
 else if q.1.kind = 3 then
  if (valueV s.1 q.1.parts).fault ≠ 0 then s else if (valueV s.1 q.1.parts).num ≠ 0 then rec s q.2.1 else rec s q.2.2
 else repS (fun s => rec s q.2.1) q.1.count.toNat s
def doL {α : Type} (rec : SR → List α → SR) : SR → List (Core × List α × List α) → SR
 | s, [] => s
 | s, q :: r => doL rec (doT rec s q) r
def doF (n : Nat) : SR → List (RT n) → SR :=
 match n with
 | 0 => fun s _ => s
 | n + 1 => fun s l => doL (doF n) s l
def NumsOk (n : Nat) : List (RT n) → Prop :=
 match n with
 | 0 => fun _ => True
 | n + 1 => fun l => ∀ q ∈ (l : List (Core × List (RT n) × List (RT n))), (∀ p ∈ q.1.parts, PtNum p) ∧ NumsOk n q.2.1 ∧ NumsOk n q.2.2
structure StOk (s : SR) : Prop where
 len : s.1.length = 26
 ok : ∀ v ∈ s.1, VlOk v
theorem StOk.set {s : SR} (h : StOk s) {v : Vl} (hv : VlOk v) (i : Nat) (l : List Nt) : StOk (s.1.set i v, l) := by
 refine ⟨by simp [h.len], fun x hx => ?_⟩
 rcases List.mem_or_eq_of_mem_set hx with h' | h'
 ·exact h.ok x h'
 ·rw [h']; exact hv
def RecRun {α : Type} (nums : List α → Prop) (wk : List α → Nat) (rec : SR → List α → SR) : Prop :=
 ∀ s l, nums l → StOk s → StOk (rec s l) ∧ (rec s l).2.length ≤ s.2.length + wk l
theorem repS_ok {f : SR → SR} {k : Nat} (hf : ∀ s, StOk s → StOk (f s) ∧ (f s).2.length ≤ s.2.length + k) : ∀ (n : Nat) (s : SR), StOk s → StOk (repS f n s) ∧ (repS f n s).2.length ≤ s.2.length + n * k
 | 0, s, h => ⟨h, by simp [repS]⟩
 | n + 1, s, h => by
  obtain ⟨a, b⟩ := hf s h
  obtain ⟨c, d⟩ := repS_ok hf n (f s) a
  refine ⟨c, ?_⟩
  show (repS f n (f s)).2.length ≤ _
  rw [Nat.succ_mul]
  omega
theorem doT_ok {α : Type} {nums : List α → Prop} {wk : List α → Nat} {rec : SR → List α → SR} (hr : RecRun nums wk rec) (s : SR) (q : Core × List α × List α) (hp : ∀ p ∈ q.1.parts, PtNum p) (h1 : nums q.2.1) (h2 : nums q.2.2) (hk : 0 ≤ q.1.kind ∧ q.1.kind ≤ 4) (h : StOk s) :
  StOk (doT rec s q) ∧ (doT rec s q).2.length ≤ s.2.length + workT wk q := by
 have hv := valueV_ok h.ok hp
 have w4 : q.1.kind ≠ 4 → workT wk q = 1 + q.1.parts.length + wk q.2.1 + wk q.2.2 := fun h => by unfold workT; rw [if_neg h]
 unfold doT
 split
 ·rename_i k
  rw [w4 (by omega)]
  exact ⟨h.set hv _ _, by simp only; omega⟩
 split
 ·rename_i k
  rw [w4 (by omega)]
  exact ⟨h.set hv _ _, by simp; omega⟩
 split
 ·rename_i k
  rw [w4 (by omega)]
  exact ⟨⟨h.len, h.ok⟩, by simp; omega⟩
 split
 ·rename_i k
  rw [w4 (by omega)]
  split
  ·exact ⟨h, by omega⟩
  split
  ·obtain ⟨a, b⟩ := hr s _ h1 h
   exact ⟨a, by omega⟩
  ·obtain ⟨a, b⟩ := hr s _ h2 h
   exact ⟨a, by omega⟩
 ·obtain ⟨a, b⟩ := repS_ok (f := fun s => rec s q.2.1) (k := wk q.2.1) (fun s hs => hr s _ h1 hs) q.1.count.toNat s h
  refine ⟨a, ?_⟩
  unfold workT
  rw [if_pos (by omega), Nat.mul_add]
  omega
theorem doL_ok {α : Type} {nums : List α → Prop} {wk : List α → Nat} {rec : SR → List α → SR} (hr : RecRun nums wk rec) : ∀ (l : List (Core × List α × List α)) (s : SR), (∀ q ∈ l, (∀ p ∈ q.1.parts, PtNum p) ∧ nums q.2.1 ∧ nums q.2.2 ∧ 0 ≤ q.1.kind ∧ q.1.kind ≤ 4) → StOk s →
  StOk (doL rec s l) ∧ (doL rec s l).2.length ≤ s.2.length + workL wk l
 | [], s, _, h => ⟨h, by simp [doL]⟩
 | q :: r, s, hl, h => by
  obtain ⟨a1, a2, a3, a4⟩ := hl q (by simp)
  obtain ⟨a, b⟩ := doT_ok hr s q a1 a2 a3 a4 h
  obtain ⟨c, d⟩ := doL_ok hr r (doT rec s q) (fun x hx => hl x (by simp [hx])) a
  refine ⟨c, ?_⟩
  show (doL rec (doT rec s q) r).2.length ≤ _
  rw [workL_cons]
  omega
theorem doF_ok : ∀ (n : Nat) (l : List (RT n)) (s : SR), NumsOk n l → TreeOk n l → StOk s → StOk (doF n s l) ∧ (doF n s l).2.length ≤ s.2.length + workS n l
 | 0, l, s, _, _, h => ⟨h, by simp [doF]⟩
 | n + 1, l, s, hn, ht, h => by
  have hr : RecRun (fun l => NumsOk n l ∧ TreeOk n l) (workS n) (doF n) := fun s l hl hs => doF_ok n l s hl.1 hl.2 hs
  exact doL_ok hr l s (fun q hq => ⟨(hn q hq).1, ⟨(hn q hq).2.1, (ht.2 q hq).2.1⟩, ⟨(hn q hq).2.2, (ht.2 q hq).2.2⟩, (ht.2 q hq).1.kind⟩) h
end Go.Proofs.YtdgmoiflahoihaaGreatDoor
namespace Go.Proofs.YtdgmoiflahoihaaGreatDoor
open Go.RowKit
set_option linter.unusedSimpArgs false
set_option linter.unusedVariables false
theorem infoNote : (Tryz.prog.info? 61).map (fun i => (i.zero, i.size, i.bytes)) = some (some (.agg #[.int .i64 0, .int .i64 0, .int .i64 0, .int .i64 0, .int .i64 0]), 5, 40) := by kernel_rfl
structure StateAt (w : World) (b : Nat) (S : Nat → Prop) (s : SR) : Prop where
 cell : ∀ k, k < 26 → w.cell? ⟨b, k * 2, none⟩ = some (.int .i64 (s.1.getD k vl0).num) ∧ w.cell? ⟨b, k * 2 + 1, none⟩ = some (.int .i64 (s.1.getD k vl0).fault)
 row : ∃ v, w.cell? ⟨b, 52, none⟩ = some v ∧ w.ownsRow (b + 1) 61 5 v s.2.length (ntCells s.2) ∧ ∀ k, v.ownBlock = some k → S k
 fz : ∀ o, w.frozen? ⟨b, o, none⟩ = false
theorem StateAt.lt {w : World} {b : Nat} {S : Nat → Prop} {s : SR} (h : StateAt w b S s) : b < w.heap.size := World.block_lt_of_cell? w _ (h.cell 0 (by omega)).1
theorem StateAt.weak {w : World} {b : Nat} {S R : Nat → Prop} {s : SR} (h : StateAt w b S s) (hs : ∀ k, S k → b < k → k < w.heap.size → R k) : StateAt w b R s := by
 obtain ⟨hc, ⟨v, c, ho, hS⟩, fz⟩ := h
 exact ⟨hc, ⟨v, c, ho, fun k hk => hs k (hS k hk) (ho.lt k hk).1 (ho.lt k hk).2⟩, fz⟩
theorem StateAt.keep {w w' : World} {b B : Nat} {S : Nat → Prop} {s : SR} (h : StateAt w b S s) (hb : Below B w w') (hB : w.heap.size ≤ B) : StateAt w' b S s := by
 have hlt := h.lt
 obtain ⟨hc, ⟨v, c, ho, hS⟩, fz⟩ := h
 exact ⟨fun k hk => ⟨(hb.cell (p := ⟨b, k * 2, none⟩) (by simp only; omega)).trans (hc k hk).1, (hb.cell (p := ⟨b, k * 2 + 1, none⟩) (by simp only; omega)).trans (hc k hk).2⟩, ⟨v, (hb.cell (p := ⟨b, 52, none⟩) (by simp only; omega)).trans c, own_low ho hb hB, hS⟩, fun o => (hb.frozen (p := ⟨b, o, none⟩) (by simp only; omega)).trans (fz o)⟩
theorem StateAt.drew {w : World} {b : Nat} {S : Nat → Prop} {s : SR} (h : StateAt w b S s) : StateAt w.drew b S s := h.keep (Below.refl w.heap.size w).drew (Nat.le_refl _)
theorem StateAt.range {w : World} {b : Nat} {S : Nat → Prop} {s : SR} (h : StateAt w b S s) (hl : s.1.length = 26) : w.rangeAt b 0 (vlCells s.1) := by
 intro j v hv
 have hj : j < 52 := by
  have := (List.getElem?_eq_some_iff.mp hv).1
  rw [vlCells_len, hl] at this
  omega
 obtain ⟨d0, d1⟩ := vlCells_at s.1 (j / 2) (by omega)
 obtain ⟨e0, e1⟩ := h.cell (j / 2) (by omega)
 have e : s.1.getD (j / 2) vl0 = s.1[j / 2]'(by omega) := by rw [List.getD_eq_getElem?_getD, List.getElem?_eq_getElem (by omega)]; rfl
 rw [e] at e0 e1
 rw [Nat.zero_add]
 rcases Nat.mod_two_eq_zero_or_one j with h2 | h2
 ·have hj2 : j = j / 2 * 2 := by omega
  rw [← hj2] at d0 e0
  rw [e0, ← d0, hv]
 ·have hj2 : j = j / 2 * 2 + 1 := by omega
  rw [← hj2] at d1 e1
  rw [e1, ← d1, hv]
theorem StateAt.set {w : World} {b : Nat} {S : Nat → Prop} {s : SR} (h : StateAt w b S s) (hl : s.1.length = 26) (i : Nat) (hi : i < 26) (x : Vl) : StateAt ((w.setCell ⟨b, i * 2, none⟩ (.int .i64 x.num)).setCell ⟨b, i * 2 + 1, none⟩ (.int .i64 x.fault)) b S (s.1.set i x, s.2) := by
 obtain ⟨hc, ⟨v, c, ho, hS⟩, fz⟩ := h
 refine ⟨fun k hk => ?_, ⟨v, ?_, ?_, hS⟩, fun o => by simp [go_sem, fz]⟩
 ·obtain ⟨e0, e1⟩ := hc k hk
  obtain ⟨f0, f1⟩ := hc i hi
  by_cases hik : i = k
  ·subst hik
   have e : (s.1.set i x).getD i vl0 = x := by rw [List.getD_eq_getElem?_getD, List.getElem?_set_self (by omega)]; rfl
   rw [e]
   constructor <;> simp [go_sem, f0, f1]
  ·have e : (s.1.set i x).getD k vl0 = s.1.getD k vl0 := by rw [List.getD_eq_getElem?_getD, List.getElem?_set_ne hik, List.getD_eq_getElem?_getD]
   rw [e]
   have n1 : ¬ i * 2 = k * 2 := by omega
   have n2 : ¬ i * 2 + 1 = k * 2 := by omega
   have n3 : ¬ i * 2 = k * 2 + 1 := by omega
   have n4 : ¬ i * 2 + 1 = k * 2 + 1 := by omega
   constructor
   ·simp [go_sem, e0, n1, n2]
   ·simp [go_sem, e1, n3, n4, hik]
 ·have n1 : ¬ i * 2 = 52 := by omega
  have n2 : ¬ i * 2 + 1 = 52 := by omega
  simp [go_sem, c, n1, n2]
 ·exact ownsRow_setCell_below (ownsRow_setCell_below ho (a := ⟨b, i * 2, none⟩) (by simp) _) (a := ⟨b, i * 2 + 1, none⟩) (by simp) _
theorem nt_new (w : World) (x : Nt) (t : TypeId) : ∀ j u, (ntCell x)[j]? = some u → (w.alloc (.cells #[.int .i64 x.kind, .int .i64 x.place, .int .i64 x.label, .int .i64 x.val.num, .int .i64 x.val.fault] t)).drew.cell? ((⟨w.heap.size, 0, none⟩ : Addr).add j) = some u := by
 intro j u h
 match j, h with
 | 0, h => simp [ntCell] at h; subst h; simp [go_sem, Addr.add]
 | 1, h => simp [ntCell] at h; subst h; simp [go_sem, Addr.add]
 | 2, h => simp [ntCell] at h; subst h; simp [go_sem, Addr.add]
 | 3, h => simp [ntCell] at h; subst h; simp [go_sem, Addr.add]
 | 4, h => simp [ntCell] at h; subst h; simp [go_sem, Addr.add]
 | j + 5, h => simp [ntCell] at h
structure Onto (b : Nat) (S : Nat → Prop) (w w' : World) : Prop where
 os : w'.os = w.os
 tape : w'.tape = w.tape
 output : w'.output = w.output
 size : w.heap.size ≤ w'.heap.size
 block : ∀ k, k < w.heap.size → k ≠ b → ¬ S k → w'.heap[k]? = w.heap[k]?
theorem Onto.of_below {b : Nat} {S : Nat → Prop} {w w' : World} (h : Below w.heap.size w w') : Onto b S w w' := ⟨h.os, h.tape, h.output, h.size, fun k hk _ _ => h.block k hk⟩
theorem Onto.pre {b : Nat} {S : Nat → Prop} {w W w' : World} (h : Below w.heap.size w W) (k : Onto b S W w') : Onto b S w w' :=
 ⟨k.os.trans h.os, k.tape.trans h.tape, k.output.trans h.output, Nat.le_trans h.size k.size, fun i hi hb hs => (k.block i (Nat.lt_of_lt_of_le hi h.size) hb hs).trans (h.block i hi)⟩
theorem Onto.trans {b : Nat} {S : Nat → Prop} {w w1 w2 : World} (h : Onto b S w w1) (k : Onto b (fun i => S i ∨ w.heap.size ≤ i) w1 w2) : Onto b S w w2 :=
 ⟨k.os.trans h.os, k.tape.trans h.tape, k.output.trans h.output, Nat.le_trans h.size k.size, fun i hi hb hs => (k.block i (Nat.lt_of_lt_of_le hi h.size) hb (fun e => by rcases e with e | e; exact hs e; omega)).trans (h.block i hi hb hs)⟩
theorem Onto.below {b : Nat} {S : Nat → Prop} {w w' : World} (h : Onto b S w w') (hb : b < w.heap.size) (hS : ∀ k, S k → b < k) : Below b w w' :=
 ⟨h.os, h.tape, h.output, h.size, fun k hk => h.block k (by omega) (by omega) (fun e => by have := hS k e; omega)⟩
theorem Onto.setCell {b : Nat} {S : Nat → Prop} {w w' : World} (h : Onto b S w w') (o : Nat) (u : Value) : Onto b S w (w'.setCell ⟨b, o, none⟩ u) :=
 ⟨h.os, h.tape, h.output, by simpa using h.size, fun k hk hb hs => (Below.heap_setCell _ _ _ _ hb).trans (h.block k hk hb hs)⟩
theorem Onto.drew {b : Nat} {S : Nat → Prop} {w w' : World} (h : Onto b S w w') : Onto b S w w'.drew := ⟨h.os, h.tape, h.output, h.size, h.block⟩
structure StepAt (b : Nat) (S : Nat → Prop) (w w' : World) (s : SR) : Prop where
 state : StateAt w' b (fun k => S k ∨ w.heap.size ≤ k) s
 onto : Onto b S w w'
theorem StepAt.trans {b : Nat} {S : Nat → Prop} {w w1 w2 : World} {s t : SR} (h : StepAt b S w w1 s) (k : StepAt b (fun i => S i ∨ w.heap.size ≤ i) w1 w2 t) : StepAt b S w w2 t :=
 ⟨k.state.weak (fun i hi _ _ => by rcases hi with hi | hi; exact hi; exact .inr (Nat.le_trans h.onto.size hi)), h.onto.trans k.onto⟩
theorem StepAt.pre {b : Nat} {S : Nat → Prop} {w W w' : World} {s : SR} (h : Below w.heap.size w W) (k : StepAt b S W w' s) : StepAt b S w w' s :=
 ⟨k.state.weak (fun i hi _ _ => by rcases hi with hi | hi; exact .inl hi; exact .inr (Nat.le_trans h.size hi)), k.onto.pre h⟩
theorem StepAt.still {b : Nat} {S : Nat → Prop} {w w' : World} {s : SR} (h : StateAt w' b S s) (k : Below w.heap.size w w') : StepAt b S w w' s :=
 ⟨h.weak (fun i hi _ _ => .inl hi), Onto.of_below k⟩
theorem rv_append2 {P : Program} {ops : Array Oper} {o : Oper} {a : Act} {w : World} {K : Act → World → Prop} {Q : Exit → Act → World → Prop} {E : Prop}
  (hg : o.guard = none) (s x : Operand) (t : TypeId) (hop : o.op = Op.call { callee := Callee.builtin Builtin.append, args := #[s, x], argTypes := #[t, t] })
  (base : Nat) (e : TypeId) (i : TypeInfo) (z : Value) (size bytes : Nat) (h1 : P.underlying t = some (.slice e)) (h2 : P.info? e = some i) (h3 : i.zero = some z) (h4 : i.size = size) (h5 : i.bytes = bytes) (h6 : z.cells.size = size) (h7 : 0 < size)
  (v : Value) (n : Nat) (xs : List Value) (hs : a.eval s = v) (hown : w.ownsRow base e size v n xs)
  (ad : Addr) (m c : Nat) (news : List Value) (hx : a.eval x = .slice (some ad) m c) (hn : news.length = m * size) (hc : ∀ j u, news[j]? = some u → w.cell? (ad.add j) = some u) (h1c : ∀ u ∈ news, u.oneCell' = true)
  (b1 : n + m ≤ maxLen) (b2 : (n + m) * bytes ≤ 140737488355328) (hbase : base ≤ w.heap.size) (hm : 0 < m)
  (hK : ∀ v' w', w'.ownsRow base e size v' (n + m) (xs ++ news) → w.grownBy w' v.ownBlock → (v'.ownBlock = v.ownBlock ∨ ∃ g, v'.ownBlock = some g ∧ w.heap.size ≤ g) → K (a.put o.dst v') w') :
  if Region.wanted o (yielded ops a.tmps) = true then Oper.wp P o a w K Q else E := by
 have hw : Region.wanted o (yielded ops a.tmps) = true := by simp [Region.wanted, hg]
 rw [if_pos hw]
 obtain ⟨v', w', hrun, r1, r2, r3⟩ := run_append_fresh (P := P) w base t o.type e i z size bytes h1 h2 h3 h4 h5 h6 h7 v n xs hown ad m c news hn hc h1c b1 b2 hbase hm
 unfold Oper.wp
 simp [execOp, hop, resolve, invoke, builtin, hs, hx, hrun, Result.andThen]
 exact hK v' w' r1 r2 r3
theorem state_grown {w W w2 : World} {b : Nat} {S : Nat → Prop} {s : SR} {v : Value} (h : StateAt w b S s) (hc : w.cell? ⟨b, 52, none⟩ = some v) (ho : w.ownsRow (b + 1) 61 5 v s.2.length (ntCells s.2)) (hS : ∀ k, v.ownBlock = some k → S k) (h0 : Below w.heap.size w W) (hg : W.grownBy w2 v.ownBlock) :
  w2.heap[b]? = w.heap[b]? ∧ Onto b S w w2 := by
 have hlt := h.lt
 have hne : some b ≠ v.ownBlock := by
  intro e
  have := (ho.lt b e.symm).1
  omega
 have hsz := h0.size
 have hbk : w2.heap[b]? = w.heap[b]? := (hg.block b (by omega) hne).trans (h0.block b (by omega))
 refine ⟨hbk, Onto.pre h0 ?_⟩
 exact ⟨hg.os, hg.tape, hg.output, hg.size, fun k hk _ hs => hg.block k hk (fun e => hs (hS k e.symm))⟩
theorem state_more {w W w2 : World} {b : Nat} {S : Nat → Prop} {s : SR} {x : Nt} {v v' : Value} (h : StateAt w b S s) (hS : ∀ k, v.ownBlock = some k → S k) (h0 : w.heap.size ≤ W.heap.size) (hb : w2.heap[b]? = w.heap[b]?) (ho : w2.ownsRow (b + 1) 61 5 v' (s.2.length + 1) (ntCells s.2 ++ ntCell x)) (hv : v'.ownBlock = v.ownBlock ∨ ∃ g, v'.ownBlock = some g ∧ W.heap.size ≤ g) : StateAt (w2.setCell ⟨b, 52, none⟩ v') b (fun k => S k ∨ w.heap.size ≤ k) (s.1, s.2 ++ [x]) := by
 have c : ∀ o, w2.cell? ⟨b, o, none⟩ = w.cell? ⟨b, o, none⟩ := fun o => World.cell?_of_block (a := ⟨b, o, none⟩) hb
 have f : ∀ o, w2.frozen? ⟨b, o, none⟩ = w.frozen? ⟨b, o, none⟩ := fun o => World.frozen?_of_block (a := ⟨b, o, none⟩) hb
 obtain ⟨hc, ⟨v0, hv0, _⟩, fz⟩ := h
 refine ⟨fun k hk => ?_, ⟨v', by simp [go_sem, c, hv0], ?_, fun k hk => ?_⟩, fun o => by simp [go_sem, f, fz]⟩
 ·obtain ⟨e0, e1⟩ := hc k hk
  have n1 : ¬ 52 = k * 2 := by omega
  have n2 : ¬ 52 = k * 2 + 1 := by omega
  constructor
  ·simp [go_sem, c, e0, n1]
  ·simp [go_sem, c, e1, n2]
 ·have := ownsRow_setCell_below ho (a := ⟨b, 52, none⟩) (by simp) v'
  rw [ntCells_app]
  simpa [ntCells] using this
 ·rcases hv with hv | ⟨g, hg, hl⟩
  ·exact .inl (hS k (by rw [← hv]; exact hk))
  ·rw [hg] at hk
   cases hk
   exact .inr (by omega)
set_option maxRecDepth 100000 in
set_option maxHeartbeats 1000000 in
theorem leave_any (b : Nat) (s : SR) (kind : Int) (c : Core) (ve v1 v2 : Value) (x : Vl) (w : World) (S : Nat → Prop) (h : StateAt w b S s) (hl : s.2.length ≤ 100000) :
  Calls Tryz.prog 136 #[.pointer (some ⟨b, 0, none⟩), .int .i64 kind, .agg #[.int .i64 c.kind, .int .i64 c.place, .int .i64 c.name, .int .i64 c.label, .int .i64 c.count, ve, v1, v2], vlV x] w fun e w' => e = .returned (.tuple #[]) ∧ StepAt b S w w' (s.1, s.2 ++ [⟨kind, c.place, c.label, x⟩]) := by
 have hlt := h.lt
 have HS : Hid (StateAt w b S s) := h
 obtain ⟨hc, ⟨v, hv, ho, hSS⟩, fz⟩ := h
 have HSS : Hid (∀ k, v.ownBlock = some k → S k) := hSS
 clear hSS
 obtain ⟨iV, hiV, hzV, hsV, hbV⟩ := parts_of_info infoNote
 have HO : Hid (w.ownsRow (b + 1) 61 5 v s.2.length (ntCells s.2)) := ho
 clear hc ho
 go_enter Tryz.func136, Tryz.ntmps136
 go_upto_region 2 with fail
 generalize hW : (((w.alloc (.cells #[.int .i64 c.kind, .int .i64 c.place, .int .i64 c.name, .int .i64 c.label, .int .i64 c.count, ve, v1, v2] 149)).alloc (.cells #[.int .i64 x.num, .int .i64 x.fault] 59)).alloc (.cells #[.int .i64 kind, .int .i64 c.place, .int .i64 c.label, .int .i64 x.num, .int .i64 x.fault] 61)) = W
 have h0 : Below w.heap.size w W := by
  rw [← hW]
  refine Below.alloc (Below.alloc (Below.alloc (Below.refl _ _) (Nat.le_refl _) _) ?_ _) ?_ _ <;> simp <;> omega
 have hWs : W.heap.size = w.heap.size + 1 + 1 + 1 := by rw [← hW]; simp
 have m0 : W.cell? ⟨w.heap.size + 1 + 1, 0, none⟩ = some (.int .i64 kind) := by rw [← hW]; simp [go_sem]
 have m1 : W.cell? ⟨w.heap.size + 1 + 1, 1, none⟩ = some (.int .i64 c.place) := by rw [← hW]; simp [go_sem]
 have m2 : W.cell? ⟨w.heap.size + 1 + 1, 2, none⟩ = some (.int .i64 c.label) := by rw [← hW]; simp [go_sem]
 have m3 : W.cell? ⟨w.heap.size + 1 + 1, 3, none⟩ = some (.int .i64 x.num) := by rw [← hW]; simp [go_sem]
 have m4 : W.cell? ⟨w.heap.size + 1 + 1, 4, none⟩ = some (.int .i64 x.fault) := by rw [← hW]; simp [go_sem]
 have hvW : W.cell? ⟨b, 52, none⟩ = some v := (h0.cell (p := ⟨b, 52, none⟩) hlt).trans hv
 have fzW : ∀ o, W.frozen? ⟨b, o, none⟩ = false := fun o => (h0.frozen (p := ⟨b, o, none⟩) hlt).trans (fz o)
 have HOW : Hid (W.ownsRow (b + 1) 61 5 v s.2.length (ntCells s.2)) := own_low HO.out h0 (Nat.le_refl _)
 have hn1 : ¬ b = W.heap.size := by omega
 have hn3 : b < W.heap.size := by omega
 have hn4 : w.heap.size + 1 + 1 < W.heap.size := by omega
 have hn2 : ¬ w.heap.size + 1 + 1 = W.heap.size := by omega
 have H0 : Hid (Below w.heap.size w W) := h0
 clear hW h0 hWs
 go_region_law (refine rv_append2 rfl (.tmp 20) (.tmp 22) 51 rfl (b + 1) 61 iV (.agg #[.int .i64 0, .int .i64 0, .int .i64 0, .int .i64 0, .int .i64 0]) 5 40 Tryz.underlying51 hiV hzV hsV hbV rfl (by decide) v s.2.length (ntCells s.2) (by simp [Act.eval, Act.put]) (by exact (HOW.out.alloc _).drew) ⟨W.heap.size, 0, none⟩ 1 1 (ntCell ⟨kind, c.place, c.label, x⟩) (by simp [Act.eval, Act.put]) rfl (by exact nt_new W ⟨kind, c.place, c.label, x⟩ 61) (by intro q hq; simp [ntCell] at hq; rcases hq with rfl | rfl | rfl | rfl | rfl <;> rfl) (by unfold maxLen; omega) (by omega) (by simp; omega) (by decide) ?_; intro v' w2 hown hgrow hfr; have hk := state_grown HS.out hv HO.out HSS.out (W := (W.alloc (.cells #[.int .i64 kind, .int .i64 c.place, .int .i64 c.label, .int .i64 x.num, .int .i64 x.fault] 61)).drew) ((H0.out.alloc (by omega) _).drew) hgrow; have q0 : w2.cell? ⟨b, 52, none⟩ = some v := (World.cell?_of_block (a := ⟨b, 52, none⟩) hk.1).trans hv; have q1 : ∀ o, w2.frozen? ⟨b, o, none⟩ = false := (fun o => (World.frozen?_of_block (a := ⟨b, o, none⟩) hk.1).trans (fz o)); obtain ⟨g, cap, rfl⟩ := Joins.ownsRow_form hown (by omega))
 all_goals go_wp2_with fail
 all_goals go_end0
 all_goals exact ⟨rfl, state_more HS.out HSS.out (by have := H0.out.size; simp; omega) hk.1 hown hfr, hk.2.setCell _ _⟩
end Go.Proofs.YtdgmoiflahoihaaGreatDoor
