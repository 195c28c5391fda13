import Derived.Test.YtdgmoiflahoihaaGreatDoorPFlw

namespace Go.Proofs.YtdgmoiflahoihaaGreatDoor
set_option linter.unusedSimpArgs false
set_option linter.unusedVariables false
structure Shut (hs : List Hd) (E : List Fl) (s : Nat) (P : Nat → Prop) : Prop where
 head : ∀ x m : Nat, hdOf hs x = some m → m &&& s ≠ 0 → P x
 sec : ∀ (x : Nat) (fl : Fl), hdOf hs x = none → fl ∈ E → fl.dst = (x : Int) → fl.frm < 0 → fl.sec.toNat &&& s ≠ 0 → P x
 edge : ∀ (x y : Nat) (fl : Fl), hdOf hs x = none → fl ∈ E → fl.dst = (x : Int) → fl.frm = (y : Int) → P y → P x
def Has (hs : List Hd) (E : List Fl) (s x : Nat) : Prop := ∀ P, Shut hs E s P → P x
theorem Has.sec {hs : List Hd} {E : List Fl} {s x : Nat} {fl : Fl} (h : hdOf hs x = none) (hm : fl ∈ E) (hd : fl.dst = (x : Int)) (hf : fl.frm < 0) (hb : fl.sec.toNat &&& s ≠ 0) : Has hs E s x := fun P c => c.sec x fl h hm hd hf hb
def Fine (hs : List Hd) (s S z : Nat) : Prop := S.testBit z = true ∨ ∃ m, hdOf hs z = some m ∧ ¬ m &&& s ≠ 0
def EdgeOk (hs : List Hd) (s S : Nat) (fl : Fl) : Prop := ¬ (fl.frm < 0 ∧ fl.sec.toNat &&& s ≠ 0) ∧ (0 ≤ fl.frm → Fine hs s S fl.frm.toNat)
def Done (hs : List Hd) (E : List Fl) (s S y : Nat) : Prop := hdOf hs y = none ∧ ∀ fl ∈ E, fl.dst = (y : Int) → EdgeOk hs s S fl
theorem Fine.mono {hs : List Hd} {s S T z : Nat} (h : Fine hs s S z) (hm : ∀ y, S.testBit y = true → T.testBit y = true) : Fine hs s T z := h.imp (hm z) id
theorem EdgeOk.mono {hs : List Hd} {s S T : Nat} {fl : Fl} (h : EdgeOk hs s S fl) (hm : ∀ y, S.testBit y = true → T.testBit y = true) : EdgeOk hs s T fl := ⟨h.1, fun e => (h.2 e).mono hm⟩
theorem Done.mono {hs : List Hd} {E : List Fl} {s S T y : Nat} (h : Done hs E s S y) (hm : ∀ y, S.testBit y = true → T.testBit y = true) : Done hs E s T y := ⟨h.1, fun fl hf hd => (h.2 fl hf hd).mono hm⟩
structure Srch (hs : List Hd) (E : List Fl) (s S T : Nat) : Prop where
 more : ∀ y, S.testBit y = true → T.testBit y = true
 done : ∀ y, T.testBit y = true → S.testBit y = false → Done hs E s T y
theorem Srch.refl (hs : List Hd) (E : List Fl) (s S : Nat) : Srch hs E s S S := ⟨fun _ => id, fun y h h' => by rw [h] at h'; cases h'⟩
theorem Srch.trans {hs : List Hd} {E : List Fl} {s S T U : Nat} (h : Srch hs E s S T) (k : Srch hs E s T U) : Srch hs E s S U := by
 refine ⟨fun y e => k.more y (h.more y e), fun y e1 e2 => ?_⟩
 cases ht : T.testBit y with
 | false => exact k.done y e1 ht
 | true => exact (h.done y ht e2).mono k.more
end Go.Proofs.YtdgmoiflahoihaaGreatDoor
namespace Go.Proofs.YtdgmoiflahoihaaGreatDoor
set_option linter.unusedSimpArgs false
set_option linter.unusedVariables false
def Snd (hs : List Hd) (E : List Fl) (of : List Nat) : Prop := ∀ x k, x < 26 → (of.getD x 0).testBit k = true → Has hs E (2 ^ k) x
structure Step (hs : List Hd) (E : List Fl) (fx : List Bool) (a b : LS) : Prop where
 len : b.1.length = 26
 snd : Snd hs E b.1
 fix : ∀ x, fx.getD x false = true → b.1.getD x 0 = a.1.getD x 0
theorem Step.refl {hs : List Hd} {E : List Fl} {fx : List Bool} {a : LS} (hl : a.1.length = 26) (h : Snd hs E a.1) : Step hs E fx a a := ⟨hl, h, fun _ _ => rfl⟩
theorem Step.trans {hs : List Hd} {E : List Fl} {fx : List Bool} {a b c : LS} (h : Step hs E fx a b) (k : Step hs E fx b c) : Step hs E fx a c := ⟨k.len, k.snd, fun x hx => (k.fix x hx).trans (h.fix x hx)⟩
end Go.Proofs.YtdgmoiflahoihaaGreatDoor
namespace Go.Proofs.YtdgmoiflahoihaaGreatDoor
set_option linter.unusedSimpArgs false
set_option linter.unusedVariables false
end Go.Proofs.YtdgmoiflahoihaaGreatDoor
namespace Go.Proofs.YtdgmoiflahoihaaGreatDoor
set_option linter.unusedSimpArgs false
set_option linter.unusedVariables false
theorem cutHd_ok {t : List UInt8} (ht : t.length ≤ 400) : ∀ (l : List Hd) (lo hi : Nat), CutHd (keptL t) (atL t 0) lo hi l → ∀ h ∈ l, HdOk h
 | [], _, _, _, h, hh => by cases hh
 | a :: r, lo, hi, hc, h, hh => by
  obtain ⟨hlt, o, h1, h2⟩ := hc
  rcases List.mem_cons.mp hh with rfl | hh
  ·obtain ⟨d, hd, hn⟩ := h1.name
   obtain ⟨j, hl⟩ := h1.label
   have hp := at_lt h1.place
   have := labelC_lt16 hl
   have hr := h1.ok
   exact ⟨by omega, by omega, this, by omega⟩
  ·exact cutHd_ok ht r o hi h2 h hh
theorem parse_ok {t : List UInt8} (ht : t.length ≤ 400) (hbad : (parseR t).1.bad = false) : ParseOk t := by
 obtain ⟨_, B, hb, h1, h2⟩ := (parse_spec t).2 hbad
 have hk := kept_le t
 have hB := begin_le hb
 have hle := (cutHd_le _ _ _ h1).2
 exact ⟨cutHd_ok ht _ _ _ h1, by omega, cutT_ok ht 9 _ _ _ (by omega) h2, work_lt40 h2 (Nat.le_refl _) (by omega)⟩
end Go.Proofs.YtdgmoiflahoihaaGreatDoor
