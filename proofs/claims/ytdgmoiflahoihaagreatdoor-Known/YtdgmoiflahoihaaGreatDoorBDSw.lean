import Derived.Test.YtdgmoiflahoihaaGreatDoorROpenw
import Derived.Test.YtdgmoiflahoihaaGreatDoorBDXw

namespace Go.Proofs.YtdgmoiflahoihaaGreatDoor
open Go.RowKit
set_option linter.unusedSimpArgs false
set_option linter.unusedVariables false
structure ScAt (w : World) (b : Nat) (s : ByteArray) (x : Sc) : Prop where
 p : ∃ p : Nat, p ≤ s.size ∧ s.data.toList.drop p = x.rest ∧ w.cell? ⟨b, 1, none⟩ = some (.int .i64 p)
 c0 : w.cell? ⟨b, 0, none⟩ = some (.string s)
 c2 : w.cell? ⟨b, 2, none⟩ = some (.bool x.bad)
 fz : ∀ o, w.frozen? ⟨b, o, none⟩ = false
theorem ScAt.drewN {w : World} {b : Nat} {s : ByteArray} {x : Sc} (h : ScAt w b s x) (n : Nat) : ScAt (w.drewN n) b s x := by
 obtain ⟨⟨p, h1, h2, h3⟩, c0, c2, fz⟩ := h
 exact ⟨⟨p, h1, h2, h3⟩, c0, c2, fz⟩
theorem drop_end {s : ByteArray} {p : Nat} {r : List UInt8} (hp : p ≤ s.size) (h : s.data.toList.drop p = r) : (r.isEmpty = true ↔ p = s.size) ∧ (∀ hlt : p < s.size, r = s[p] :: s.data.toList.drop (p + 1)) := by
 have hl : s.data.toList.length = s.size := by simp
 constructor
 ·rw [List.isEmpty_iff, ← h, List.drop_eq_nil_iff]
  omega
 ·intro hlt
  rw [← h, List.drop_eq_getElem_cons (by omega)]
  rfl
set_option maxHeartbeats 1000000 in
theorem bdEnd_any (b : Nat) (s : ByteArray) (x : Sc) (w : World) (h : ScAt w b s x) (hs : s.size ≤ 100000000) :
  Calls Tryz.prog 96 #[.pointer (some ⟨b, 0, none⟩)] w fun e w' => e = .returned (.bool x.rest.isEmpty) ∧ ∃ n, w' = w.drewN n := by
 obtain ⟨⟨p, h1, h2, c1⟩, c0, c2, fz⟩ := h
 have hd : decide ((s.size : Int) ≤ (p : Int)) = x.rest.isEmpty := by
  rw [Bool.eq_iff_iff, (drop_end h1 h2).1, decide_eq_true_iff]
  omega
 generalize x.rest.isEmpty = e at hd
 have HD : Hid (decide ((s.size : Int) ≤ (p : Int)) = e) := hd
 clear hd
 go_enter Tryz.func96, Tryz.ntmps96
 go_wp2_with fail
 go_quiet (fail)
 go_wp2
 go_ret
 exact ⟨ret_boolR (by have := HD.out; rw [← this]; simp), _, rfl⟩
set_option maxHeartbeats 1000000 in
theorem bdSees_any (b : Nat) (s : ByteArray) (x : Sc) (lo hi : UInt8) (w : World) (h : ScAt w b s x) (hs : s.size ≤ 100000000) :
  Calls Tryz.prog 189 #[.pointer (some ⟨b, 0, none⟩), .int .u8 lo.toNat, .int .u8 hi.toNat] w fun e w' => e = .returned (.bool (x.sees lo hi)) ∧ ∃ n, w' = w.drewN n := by
 have HH : Hid (ScAt w b s x) := h
 obtain ⟨⟨p, h1, h2, c1⟩, c0, c2, fz⟩ := h
 obtain ⟨d1, d2⟩ := drop_end h1 h2
 by_cases hlt : p < s.size
 ·have hr := d2 hlt
  have he : x.rest.isEmpty = false := by rw [hr]; rfl
  have hg : x.sees lo hi = (decide (lo ≤ s[p]) && decide (s[p] ≤ hi)) := by unfold Sc.sees; rw [hr]
  rw [hg]
  clear hg hr d1 d2
  have hlt2 : (p : Int) < (s.size : Int) := by omega
  have hp2 : (p : Int) ≤ (s.size : Int) := by omega
  go_enter Tryz.func189, Tryz.ntmps189
  go_wp2_with (go_at_call 96; refine (bdEnd_any b s x _ HH.out hs).mono ?_; rintro e w1 ⟨rfl, hw1⟩; rw [he]; have hs1 : ScAt w1 b s x := by obtain ⟨n, rfl⟩ := hw1; exact HH.out.drewN n)
  have c0' : w1.cell? ⟨b, 0, none⟩ = some (.string s) := hs1.c0
  have c1' : w1.cell? ⟨b, 1, none⟩ = some (.int .i64 p) := by obtain ⟨n, rfl⟩ := hw1; exact c1
  clear hs1 HH c0 c1 c2 fz he
  go_quiet (fail)
  go_wp2
  all_goals go_ret
  all_goals (refine ⟨ret_boolR ?_, by obtain ⟨n, rfl⟩ := hw1; exact ⟨_, World.drewN_drewN ..⟩⟩; simp [UInt8.le_iff_toNat_le]; omega)
 ·have hr : x.rest = [] := List.isEmpty_iff.mp (d1.mpr (by omega))
  have he : x.rest.isEmpty = true := by rw [hr]; rfl
  have hg : x.sees lo hi = false := by unfold Sc.sees; rw [hr]
  rw [hg]
  clear hg hr d1 d2
  go_enter Tryz.func189, Tryz.ntmps189
  go_wp2_with (go_at_call 96; refine (bdEnd_any b s x _ HH.out hs).mono ?_; rintro e w1 ⟨rfl, hw1⟩; rw [he])
  go_ret
  exact ⟨rfl, hw1⟩
theorem bdSee_any (b : Nat) (s : ByteArray) (x : Sc) (c : UInt8) (w : World) (h : ScAt w b s x) (hs : s.size ≤ 100000000) :
  Calls Tryz.prog 170 #[.pointer (some ⟨b, 0, none⟩), .int .u8 c.toNat] w fun e w' => e = .returned (.bool (x.sees c c)) ∧ ∃ n, w' = w.drewN n := by
 have HH : Hid (ScAt w b s x) := h
 clear h
 go_enter Tryz.func170, Tryz.ntmps170
 go_wp2_with (go_at_call 189; refine (bdSees_any b s x c c _ HH.out hs).mono ?_; rintro e w' ⟨rfl, n, rfl⟩)
 go_ret
 exact ⟨rfl, n, rfl⟩
theorem bdFail_any (b : Nat) (s : ByteArray) (x : Sc) (w : World) (h : ScAt w b s x) :
  Calls Tryz.prog 190 #[.pointer (some ⟨b, 0, none⟩)] w fun e w' => e = .returned (.tuple #[]) ∧ ScAt w' b s ⟨x.rest, true⟩ ∧ But b w w' := by
 obtain ⟨⟨p, h1, h2, c1⟩, c0, c2, fz⟩ := h
 go_enter Tryz.func190, Tryz.ntmps190
 go_wp2
 go_end0
 refine ⟨rfl, ⟨⟨p, h1, h2, ?_⟩, ?_, ?_, ?_⟩, (But.refl _ _).set 2 _⟩
 all_goals simp [go_sem, c0, c1, c2, fz]
set_option maxHeartbeats 1000000 in
theorem bdTake_any (b : Nat) (s : ByteArray) (x : Sc) (lo hi : UInt8) (w : World) (h : ScAt w b s x) (hs : s.size ≤ 100000000) :
  Calls Tryz.prog 172 #[.pointer (some ⟨b, 0, none⟩), .int .u8 lo.toNat, .int .u8 hi.toNat] w fun e w' => e = .returned (.int .i64 ((x.take lo hi).1 : Nat)) ∧ ScAt w' b s (x.take lo hi).2 ∧ But b w w' := by
 have HH : Hid (ScAt w b s x) := h
 obtain ⟨⟨p, h1, h2, c1⟩, c0, c2, fz⟩ := h
 obtain ⟨d1, d2⟩ := drop_end h1 h2
 cases hsee : x.sees lo hi
 ·have ht : x.take lo hi = (0, ⟨x.rest, true⟩) := by
   unfold Sc.sees at hsee
   unfold Sc.take
   split
   ·rename_i e; rw [e]
   ·rename_i c r e
    rw [e] at hsee ⊢
    simp only at hsee
    rw [if_neg (by rw [hsee]; exact Bool.false_ne_true)]
  rw [ht]
  clear ht d1 d2 c0 c1 c2 fz
  go_enter Tryz.func172, Tryz.ntmps172
  go_wp2_with fail
  refine (bdSees_any b s x lo hi _ HH.out hs).mono ?_
  rintro e w1 ⟨rfl, n, rfl⟩
  rw [hsee]
  go_wp2_with fail
  refine (bdFail_any b s x _ (by first | exact HH.out.drewN _ | exact HH.out)).mono ?_
  rintro e w2 ⟨rfl, hr2, hb2⟩
  go_wp2_with fail
  go_ret
  exact ⟨rfl, hr2, ((But.refl _ _).drewN n).trans hb2⟩
 ·have hlt : p < s.size := by
   by_cases hlt : p < s.size
   ·exact hlt
   ·have hr : x.rest = [] := List.isEmpty_iff.mp (d1.mpr (by omega))
    unfold Sc.sees at hsee
    rw [hr] at hsee
    cases hsee
  have hr := d2 hlt
  have hk : (decide (lo ≤ s[p]) && decide (s[p] ≤ hi)) = true := by unfold Sc.sees at hsee; rw [hr] at hsee; exact hsee
  have hlow : lo.toNat ≤ s[p].toNat := by
   rw [Bool.and_eq_true, decide_eq_true_eq] at hk
   exact UInt8.le_iff_toNat_le.mp hk.1
  have ht : x.take lo hi = (s[p].toNat - lo.toNat, ⟨s.data.toList.drop (p + 1), x.bad⟩) := by
   unfold Sc.take
   rw [hr]
   simp only
   rw [if_pos hk]
  rw [ht]
  clear ht hk hr d1 d2
  have hby := s[p].toNat_lt
  have e1 : ((s[p].toNat - lo.toNat : Nat) : Int) = (s[p].toNat : Int) - (lo.toNat : Int) := by omega
  simp only [e1]
  clear e1
  go_enter Tryz.func172, Tryz.ntmps172
  go_wp2_with fail
  refine (bdSees_any b s x lo hi _ HH.out hs).mono ?_
  rintro e w1 ⟨rfl, hw1⟩
  rw [hsee]
  have hb1 : But b w w1 := by obtain ⟨n, rfl⟩ := hw1; exact (But.refl _ _).drewN n
  have c0' : w1.cell? ⟨b, 0, none⟩ = some (.string s) := by obtain ⟨n, rfl⟩ := hw1; exact c0
  have c1' : w1.cell? ⟨b, 1, none⟩ = some (.int .i64 p) := by obtain ⟨n, rfl⟩ := hw1; exact c1
  have c2' : w1.cell? ⟨b, 2, none⟩ = some (.bool x.bad) := by obtain ⟨n, rfl⟩ := hw1; exact c2
  have fz' : ∀ o, w1.frozen? ⟨b, o, none⟩ = false := by obtain ⟨n, rfl⟩ := hw1; exact fz
  clear hw1 HH c0 c1 c2 fz
  go_wp2_with fail
  have hlt2 : (p : Int) < (s.size : Int) := by omega
  go_quiet (fail)
  go_wp2_with fail
  go_ret
  refine ⟨rfl, ⟨⟨p + 1, by omega, rfl, ?_⟩, ?_, ?_, ?_⟩, hb1.trans (((But.refl _ _).drewN _).set 1 _)⟩
  all_goals simp [go_sem, c0', c1', c2', fz']
theorem bdTook_any (b : Nat) (s : ByteArray) (x : Sc) (c : UInt8) (w : World) (h : ScAt w b s x) (hs : s.size ≤ 100000000) :
  Calls Tryz.prog 129 #[.pointer (some ⟨b, 0, none⟩), .int .u8 c.toNat] w fun e w' => e = .returned (.tuple #[]) ∧ ScAt w' b s (x.take c c).2 ∧ But b w w' := by
 have HH : Hid (ScAt w b s x) := h
 clear h
 go_enter Tryz.func129, Tryz.ntmps129
 go_wp2_with (go_at_call 172; refine (bdTake_any b s x c c _ HH.out hs).mono ?_; rintro e w' ⟨rfl, hr, hb⟩)
 go_end0
 exact ⟨rfl, hr, hb⟩
end Go.Proofs.YtdgmoiflahoihaaGreatDoor
