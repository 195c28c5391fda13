import Derived.Test.YtdgmoiflahoihaaGreatDoorPlainw
import Derived.Test.YtdgmoiflahoihaaGreatDoorBAw
import Derived.Deep.QuietTactic
import Derived.BigQuiet

namespace Go.Proofs.YtdgmoiflahoihaaGreatDoor
structure Rd where
 pos : Nat
 depth : Int
 bad : Bool
def skipL : List UInt8 → Nat → Nat
 | [], k => k
 | c :: r, k => if blankB c then skipL r (k + 1) else k
def Rd.skip (t : List UInt8) (r : Rd) : Rd := { r with pos := skipL (t.drop r.pos) r.pos }
def Rd.seesOne (t : List UInt8) (r : Rd) (low high : UInt8) : Bool :=
 !r.bad && (match t[r.pos]? with | none => false | some b => decide (low ≤ b) && decide (b ≤ high))
def Rd.takeOne (t : List UInt8) (r : Rd) (low high : UInt8) : Rd × Int :=
 if r.seesOne t low high then (Rd.skip t { r with pos := r.pos + 1 }, ((t.getD r.pos 0).toNat : Int) - (low.toNat : Int))
 else ({ r with bad := true }, 0)
theorem skipL_le (l : List UInt8) : ∀ k, k ≤ skipL l k ∧ skipL l k ≤ k + l.length := by
 induction l with
 | nil => intro k; simp [skipL]
 | cons c r ih =>
  intro k
  have := ih (k + 1)
  unfold skipL
  split <;> simp <;> omega
theorem skip_end {t : List UInt8} {k : Nat} (h : t.length ≤ k) : skipL (t.drop k) k = k := by
 rw [List.drop_of_length_le h]; rfl
theorem skip_yes {t : List UInt8} {k : Nat} (h : k < t.length) (hb : blankB t[k] = true) : skipL (t.drop (k + 1)) (k + 1) = skipL (t.drop k) k := by
 rw [List.drop_eq_getElem_cons h]; simp [skipL, hb]
theorem skip_no {t : List UInt8} {k : Nat} (h : k < t.length) (hb : blankB t[k] = false) : skipL (t.drop k) k = k := by
 rw [List.drop_eq_getElem_cons h]; simp [skipL, hb]
end Go.Proofs.YtdgmoiflahoihaaGreatDoor
namespace Go.Proofs.YtdgmoiflahoihaaGreatDoor
open Go.RowKit
set_option linter.unusedSimpArgs false
set_option linter.unusedVariables false
structure ReaderAt (w : World) (b : Nat) (s : ByteArray) (r : Rd) (pv : Value) : Prop where
 c0 : w.cell? ⟨b, 0, none⟩ = some (.string s)
 c1 : w.cell? ⟨b, 1, none⟩ = some (.int .i64 r.pos)
 c2 : w.cell? ⟨b, 2, none⟩ = some (.int .i64 r.depth)
 c3 : w.cell? ⟨b, 3, none⟩ = some pv
 c4 : w.cell? ⟨b, 4, none⟩ = some (.bool r.bad)
 fz : ∀ o, w.frozen? ⟨b, o, none⟩ = false
def But (b : Nat) (w w' : World) : Prop := w.grownBy w' (some b)
theorem But.refl (b : Nat) (w : World) : But b w w := World.grownBy.refl w _
theorem But.set {b : Nat} {w w' : World} (h : But b w w') (o : Nat) (v : Value) : But b w (w'.setCell ⟨b, o, none⟩ v) := by
 obtain ⟨h1, h2, h3, h4, h5⟩ := h
 refine ⟨h1, h2, h3, by simpa using h4, fun k hk hne => ?_⟩
 rw [heap_setCell_other _ _ _ _ (by intro e; exact hne (by rw [e]))]
 exact h5 k hk hne
theorem But.drewN {b : Nat} {w w' : World} (h : But b w w') (n : Nat) : But b w (w'.drewN n) := by
 obtain ⟨h1, h2, h3, h4, h5⟩ := h
 exact ⟨h1, h2, h3, h4, h5⟩
theorem isBlank_any (c : UInt8) (w : World) :
  Calls Tryz.prog 116 #[.int .u8 c.toNat] w fun e w' => e = .returned (.bool (blankB c)) ∧ w' = w := by
 by_cases h32 : c = 32
 ·subst h32
  go_enter Tryz.func116, Tryz.ntmps116
  go_wp2
  go_ret
  exact ⟨rfl, rfl⟩
 by_cases h10 : c = 10
 ·subst h10
  go_enter Tryz.func116, Tryz.ntmps116
  go_wp2
  go_ret
  exact ⟨rfl, rfl⟩
 ·have k32 : ((c.toNat : Int) == 32) = false := u8_ne (b := 32) h32
  have k10 : ((c.toNat : Int) == 10) = false := u8_ne (b := 10) h10
  have hb : blankB c = false := by simp [blankB, h32, h10]
  rw [hb]
  go_enter Tryz.func116, Tryz.ntmps116
  go_wp2
  go_ret
  exact ⟨rfl, rfl⟩
set_option maxHeartbeats 1000000 in
theorem skipBlanks_any (b : Nat) (s : ByteArray) (r : Rd) (pv : Value) (w : World) (h : ReaderAt w b s r pv) (hs : s.size ≤ 400) (hp : r.pos ≤ s.size) :
  Calls Tryz.prog 81 #[.pointer (some ⟨b, 0, none⟩)] w fun e w' => e = .returned (.tuple #[]) ∧ ReaderAt w' b s (r.skip s.data.toList) pv ∧ But b w w' := by
 go_enter Tryz.func81, Tryz.ntmps81
 go_wp2_with fail
 have hsl : s.data.toList.length = s.size := by simp
 have HH : Hid (ReaderAt w b s r pv) := h
 clear h
 go_loopw [] (fun w' => ∃ k : Nat, k ≤ s.size ∧ ReaderAt w' b s { r with pos := k } pv ∧ But b w w' ∧ Hid (skipL (s.data.toList.drop k) k = skipL (s.data.toList.drop r.pos) r.pos)) (fun w' => s.size - (intOf ((w'.cell? ⟨b, 1, none⟩).getD undef)).toNat)
 case atStart => exact ⟨r.pos, hp, HH.out, But.refl _ _, rfl⟩
 case round =>
  obtain ⟨k, hk, hra, hbut, HS⟩ := hrel
  have hra0 := hra
  obtain ⟨c0, c1, c2, c3, c4, fz⟩ := hra
  simp only at c0 c1 c2 c3 c4
  by_cases hlt : k < s.size
  ·have hby := s[k].toNat_lt
   have hlt2 : (k : Int) < (s.size : Int) := by omega
   cases hb : blankB s[k]
   ·have HF : Hid (k = skipL (s.data.toList.drop r.pos) r.pos) := by
     have h1 := HS.out
     rw [skip_no (by omega) (by exact hb)] at h1
     exact h1
    go_wp2_with fail
    go_quiet ((go_at_call 116; exact Calls.quiet_of_same (isBlank_any _ _)))
    go_wp2
    go_end0
    refine ⟨rfl, ?_, ?_⟩
    ·have := HF.out
     unfold Rd.skip
     rw [← this]
     exact ⟨c0, c1, c2, c3, c4, fz⟩
    ·exact hbut.drewN _
   ·have HF : Hid (skipL (s.data.toList.drop (k + 1)) (k + 1) = skipL (s.data.toList.drop r.pos) r.pos) := by
     have h1 := HS.out
     rw [← skip_yes (by omega) (by exact hb)] at h1
     exact h1
    go_wp2_with fail
    go_quiet ((go_at_call 116; exact Calls.quiet_of_same (isBlank_any _ _)))
    go_wp2
    refine ⟨⟨k + 1, by omega, ⟨?_, ?_, ?_, ?_, ?_, ?_⟩, (hbut.drewN _).set 1 _, HF⟩, ?_⟩
    all_goals simp [go_sem, c0, c1, c2, c3, c4, fz, intOf]
    all_goals omega
  ·have hd : decide ((k : Int) < (s.size : Int)) = false := by simp; omega
   have HF : Hid (k = skipL (s.data.toList.drop r.pos) r.pos) := by
    have h1 := HS.out
    rw [skip_end (by omega)] at h1
    exact h1
   go_wp2_with fail
   go_quiet ((go_at_call 116; exact Calls.quiet_of_same (isBlank_any _ _)))
   go_wp2
   go_end0
   refine ⟨rfl, ?_, ?_⟩
   ·have := HF.out
    unfold Rd.skip
    rw [← this]
    exact ⟨c0, c1, c2, c3, c4, fz⟩
   ·exact hbut.drewN _
end Go.Proofs.YtdgmoiflahoihaaGreatDoor
namespace Go.Proofs.YtdgmoiflahoihaaGreatDoor
open Go.RowKit
set_option linter.unusedSimpArgs false
set_option linter.unusedVariables false
theorem ReaderAt.drewN {w : World} {b : Nat} {s : ByteArray} {r : Rd} {pv : Value} (h : ReaderAt w b s r pv) (n : Nat) : ReaderAt (w.drewN n) b s r pv := by
 obtain ⟨c0, c1, c2, c3, c4, fz⟩ := h
 exact ⟨c0, c1, c2, c3, c4, fz⟩
theorem ret_boolR {a b : Bool} (h : a = b) : Ending.returned (.bool a) = .returned (.bool b) := by rw [h]
set_option maxHeartbeats 1000000 in
theorem seesOne_any (b : Nat) (s : ByteArray) (r : Rd) (pv : Value) (low high : UInt8) (w : World) (h : ReaderAt w b s r pv) (hs : s.size ≤ 400) (hp : r.pos ≤ s.size) :
  Calls Tryz.prog 155 #[.pointer (some ⟨b, 0, none⟩), .int .u8 low.toNat, .int .u8 high.toNat] w fun e w' => e = .returned (.bool (r.seesOne s.data.toList low high)) ∧ ∃ n, w' = w.drewN n := by
 obtain ⟨c0, c1, c2, c3, c4, fz⟩ := h
 obtain ⟨pos, depth, bad⟩ := r
 simp only at c0 c1 c2 c3 c4 hp
 cases bad
 ·by_cases hlt : pos < s.size
  ·have hg : (Rd.seesOne s.data.toList ⟨pos, depth, false⟩ low high) = (decide (low ≤ s[pos]) && decide (s[pos] ≤ high)) := by
    simp [Rd.seesOne, hlt]
    rfl
   rw [hg]
   clear hg
   have hd : decide ((s.size : Int) ≤ (pos : Int)) = false := by simp; omega
   have hlt2 : (pos : Int) < (s.size : Int) := by omega
   go_enter Tryz.func155, Tryz.ntmps155
   go_wp2_with fail
   go_quiet (fail)
   go_wp2
   go_quiet (fail)
   go_wp2
   all_goals go_ret
   all_goals (refine ⟨ret_boolR ?_, _, rfl⟩; simp [UInt8.le_iff_toNat_le]; omega)
  ·have hg : (Rd.seesOne s.data.toList ⟨pos, depth, false⟩ low high) = false := by
    simp [Rd.seesOne, hlt]
   rw [hg]
   clear hg
   have hd : decide ((s.size : Int) ≤ (pos : Int)) = true := by simp; omega
   go_enter Tryz.func155, Tryz.ntmps155
   go_wp2_with fail
   go_quiet (fail)
   go_wp2
   go_ret
   exact ⟨rfl, _, rfl⟩
 ·have hg : (Rd.seesOne s.data.toList ⟨pos, depth, true⟩ low high) = false := by simp [Rd.seesOne]
  rw [hg]
  clear hg
  go_enter Tryz.func155, Tryz.ntmps155
  go_wp2_with fail
  go_quiet (fail)
  go_wp2
  go_ret
  exact ⟨rfl, _, rfl⟩
theorem sees_any (b : Nat) (s : ByteArray) (r : Rd) (pv : Value) (c : UInt8) (w : World) (h : ReaderAt w b s r pv) (hs : s.size ≤ 400) (hp : r.pos ≤ s.size) :
  Calls Tryz.prog 117 #[.pointer (some ⟨b, 0, none⟩), .int .u8 c.toNat] w fun e w' => e = .returned (.bool (r.seesOne s.data.toList c c)) ∧ ∃ n, w' = w.drewN n := by
 have HH : Hid (ReaderAt w b s r pv) := h
 clear h
 go_enter Tryz.func117, Tryz.ntmps117
 go_wp2_with (go_at_call 155; refine (seesOne_any b s r pv c c _ HH.out hs hp).mono ?_; rintro e w' ⟨rfl, n, rfl⟩)
 go_ret
 exact ⟨rfl, n, rfl⟩
theorem fail_any (b : Nat) (s : ByteArray) (r : Rd) (pv : Value) (w : World) (h : ReaderAt w b s r pv) :
  Calls Tryz.prog 164 #[.pointer (some ⟨b, 0, none⟩)] w fun e w' => e = .returned (.tuple #[]) ∧ ReaderAt w' b s { r with bad := true } pv ∧ But b w w' := by
 obtain ⟨c0, c1, c2, c3, c4, fz⟩ := h
 go_enter Tryz.func164, Tryz.ntmps164
 go_wp2
 go_end0
 refine ⟨rfl, ⟨?_, ?_, ?_, ?_, ?_, ?_⟩, (But.refl _ _).set 4 _⟩
 all_goals simp [go_sem, c0, c1, c2, c3, c4, fz]
end Go.Proofs.YtdgmoiflahoihaaGreatDoor
namespace Go.Proofs.YtdgmoiflahoihaaGreatDoor
open Go.RowKit
set_option linter.unusedSimpArgs false
set_option linter.unusedVariables false
theorem But.trans {b : Nat} {w w1 w2 : World} (h : But b w w1) (k : But b w1 w2) : But b w w2 := by
 obtain ⟨h1, h2, h3, h4, h5⟩ := h
 obtain ⟨k1, k2, k3, k4, k5⟩ := k
 refine ⟨k1.trans h1, k2.trans h2, k3.trans h3, by omega, fun j hj hne => ?_⟩
 rw [k5 j (by omega) hne, h5 j hj hne]
theorem skip_le {t : List UInt8} {k : Nat} (h : k ≤ t.length) : skipL (t.drop k) k ≤ t.length := by
 have := (skipL_le (t.drop k) k).2
 simp at this
 omega
theorem takeOne_pos {t : List UInt8} {r : Rd} {low high : UInt8} (hp : r.pos ≤ t.length) : (r.takeOne t low high).1.pos ≤ t.length := by
 unfold Rd.takeOne
 split
 ·rename_i hs
  have hlt : r.pos < t.length := by
   unfold Rd.seesOne at hs
   cases e : t[r.pos]? with
   | none => rw [e] at hs; simp at hs
   | some c => exact (List.getElem?_eq_some_iff.mp e).1
  exact skip_le (by simp only; omega)
 ·exact hp
set_option maxHeartbeats 1000000 in
theorem takeOne_any (b : Nat) (s : ByteArray) (r : Rd) (pv : Value) (low high : UInt8) (w : World) (h : ReaderAt w b s r pv) (hs : s.size ≤ 400) (hp : r.pos ≤ s.size) :
  Calls Tryz.prog 180 #[.pointer (some ⟨b, 0, none⟩), .int .u8 low.toNat, .int .u8 high.toNat] w fun e w' => e = .returned (.int .i64 (r.takeOne s.data.toList low high).2) ∧ ReaderAt w' b s (r.takeOne s.data.toList low high).1 pv ∧ But b w w' := by
 have HH : Hid (ReaderAt w b s r pv) := h
 clear h
 cases hsee : r.seesOne s.data.toList low high
 ·have ht : r.takeOne s.data.toList low high = ({ r with bad := true }, 0) := by simp [Rd.takeOne, hsee]
  rw [ht]
  clear ht
  go_enter Tryz.func180, Tryz.ntmps180
  go_wp2_with fail
  refine (seesOne_any b s r pv low high _ HH.out hs hp).mono ?_
  rintro e w1 ⟨rfl, n, rfl⟩
  rw [hsee]
  go_wp2_with fail
  refine (fail_any b s r pv _ (by first | exact HH.out.drewN _ | exact HH.out)).mono ?_
  rintro e w2 ⟨rfl, hr2, hb2⟩
  go_wp2_with fail
  go_ret
  exact ⟨rfl, hr2, ((But.refl _ _).drewN n).trans hb2⟩
 ·have hlt : r.pos < s.size := by
   unfold Rd.seesOne at hsee
   cases e : s.data.toList[r.pos]? with
   | none => rw [e] at hsee; simp at hsee
   | some c => simpa using (List.getElem?_eq_some_iff.mp e).1
  have hge : s.data.toList.getD r.pos 0 = s[r.pos] := by
   simp [hlt]
   rfl
  have hlow : low ≤ s[r.pos] := by
   unfold Rd.seesOne at hsee
   rw [List.getElem?_eq_getElem (by simpa using hlt)] at hsee
   simp at hsee
   exact hsee.2.1
  have ht : r.takeOne s.data.toList low high = (Rd.skip s.data.toList { r with pos := r.pos + 1 }, ((s[r.pos]).toNat : Int) - (low.toNat : Int)) := by simp only [Rd.takeOne, hsee, if_true, hge]
  rw [ht]
  clear ht hge
  have hlow2 : low.toNat ≤ s[r.pos].toNat := UInt8.le_iff_toNat_le.mp hlow
  have hby := s[r.pos].toNat_lt
  clear hlow
  have HC : Hid (ReaderAt w b s r pv) := HH
  obtain ⟨c0, c1, c2, c3, c4, fz⟩ := HC.out
  clear HC
  go_enter Tryz.func180, Tryz.ntmps180
  go_wp2_with fail
  refine (seesOne_any b s r pv low high _ HH.out hs hp).mono ?_
  rintro e w1 ⟨rfl, hw1⟩
  rw [hsee]
  have hr1 : ReaderAt w1 b s r pv := by obtain ⟨n, rfl⟩ := hw1; exact HH.out.drewN n
  have hb1 : But b w w1 := by obtain ⟨n, rfl⟩ := hw1; exact (But.refl _ _).drewN n
  clear hw1 HH c0 c1 c2 c3 c4 fz
  obtain ⟨c0, c1, c2, c3, c4, fz⟩ := hr1
  go_wp2_with fail
  have hlt2 : (r.pos : Int) < (s.size : Int) := by omega
  go_quiet (fail)
  go_wp2_with fail
  refine (skipBlanks_any b s { r with pos := r.pos + 1 } pv _ ?hr hs (by simp only; omega)).mono ?_
  case hr =>
   refine ⟨?_, ?_, ?_, ?_, ?_, ?_⟩
   all_goals simp [go_sem, c0, c1, c2, c3, c4, fz]
  rintro e w3 ⟨rfl, hr3, hb3⟩
  go_wp2_with fail
  go_ret
  exact ⟨rfl, hr3, (hb1.trans (((But.refl _ _).drewN _).set 1 _)).trans hb3⟩
theorem take_any (b : Nat) (s : ByteArray) (r : Rd) (pv : Value) (c : UInt8) (w : World) (h : ReaderAt w b s r pv) (hs : s.size ≤ 400) (hp : r.pos ≤ s.size) :
  Calls Tryz.prog 156 #[.pointer (some ⟨b, 0, none⟩), .int .u8 c.toNat] w fun e w' => e = .returned (.tuple #[]) ∧ ReaderAt w' b s (r.takeOne s.data.toList c c).1 pv ∧ But b w w' := by
 have HH : Hid (ReaderAt w b s r pv) := h
 clear h
 go_enter Tryz.func156, Tryz.ntmps156
 go_wp2_with (go_at_call 180; refine (takeOne_any b s r pv c c _ HH.out hs hp).mono ?_; rintro e w' ⟨rfl, hr, hb⟩)
 go_end0
 exact ⟨rfl, hr, hb⟩
theorem takeName_any (b : Nat) (s : ByteArray) (r : Rd) (pv : Value) (w : World) (h : ReaderAt w b s r pv) (hs : s.size ≤ 400) (hp : r.pos ≤ s.size) :
  Calls Tryz.prog 157 #[.pointer (some ⟨b, 0, none⟩)] w fun e w' => e = .returned (.int .i64 (r.takeOne s.data.toList 97 122).2) ∧ ReaderAt w' b s (r.takeOne s.data.toList 97 122).1 pv ∧ But b w w' := by
 have HH : Hid (ReaderAt w b s r pv) := h
 clear h
 go_enter Tryz.func157, Tryz.ntmps157
 go_wp2_with (go_at_call 180; refine (takeOne_any b s r pv 97 122 _ HH.out hs hp).mono ?_; rintro e w' ⟨rfl, hr, hb⟩)
 go_ret
 exact ⟨rfl, hr, hb⟩
end Go.Proofs.YtdgmoiflahoihaaGreatDoor
namespace Go.Proofs.YtdgmoiflahoihaaGreatDoor
open Go.RowKit
set_option linter.unusedSimpArgs false
set_option linter.unusedVariables false
def Rd.room (r : Rd) : Rd := if 8 ≤ r.depth then { r with bad := true } else r
def Rd.opening (t : List UInt8) (r : Rd) (c : UInt8) : Rd := { (r.room.takeOne t c c).1 with depth := (r.room.takeOne t c c).1.depth + 1 }
def Rd.closing (t : List UInt8) (r : Rd) (c : UInt8) : Rd := { (r.takeOne t c c).1 with depth := (r.takeOne t c c).1.depth - 1 }
theorem room_pos (r : Rd) : r.room.pos = r.pos := by unfold Rd.room; split <;> rfl
theorem room_depth (r : Rd) : r.room.depth = r.depth := by unfold Rd.room; split <;> rfl
theorem takeOne_depth (t : List UInt8) (r : Rd) (a b : UInt8) : (r.takeOne t a b).1.depth = r.depth := by
 unfold Rd.takeOne; split <;> rfl
set_option maxHeartbeats 1000000 in
theorem atEnd_any (b : Nat) (s : ByteArray) (r : Rd) (pv : Value) (w : World) (h : ReaderAt w b s r pv) (hs : s.size ≤ 400) (hp : r.pos ≤ s.size) :
  Calls Tryz.prog 119 #[.pointer (some ⟨b, 0, none⟩)] w fun e w' => e = .returned (.bool (decide (s.size ≤ r.pos))) ∧ ∃ n, w' = w.drewN n := by
 obtain ⟨c0, c1, c2, c3, c4, fz⟩ := h
 go_enter Tryz.func119, Tryz.ntmps119
 go_wp2_with fail
 go_quiet (fail)
 go_wp2
 go_ret
 exact ⟨ret_boolR (by simp), _, rfl⟩
set_option maxHeartbeats 1000000 in
theorem needRoom_any (b : Nat) (s : ByteArray) (r : Rd) (pv : Value) (w : World) (h : ReaderAt w b s r pv) :
  Calls Tryz.prog 185 #[.pointer (some ⟨b, 0, none⟩)] w fun e w' => e = .returned (.tuple #[]) ∧ ReaderAt w' b s r.room pv ∧ But b w w' := by
 have HH : Hid (ReaderAt w b s r pv) := h
 obtain ⟨c0, c1, c2, c3, c4, fz⟩ := h
 by_cases h8 : 8 ≤ r.depth
 ·rw [show r.room = { r with bad := true } by simp [Rd.room, h8]]
  go_enter Tryz.func185, Tryz.ntmps185
  go_wp2_with (go_at_call 164; refine (fail_any b s r pv _ HH.out).mono ?_; rintro e w' ⟨rfl, hr, hb⟩)
  go_end0
  exact ⟨rfl, hr, hb⟩
 ·rw [show r.room = r by simp [Rd.room, h8]]
  go_enter Tryz.func185, Tryz.ntmps185
  go_wp2
  go_end0
  exact ⟨rfl, HH.out, But.refl _ _⟩
set_option maxHeartbeats 1000000 in
theorem opening_any (b : Nat) (s : ByteArray) (r : Rd) (pv : Value) (c : UInt8) (w : World) (h : ReaderAt w b s r pv) (hs : s.size ≤ 400) (hp : r.pos ≤ s.size) (hd : -1000 ≤ r.depth) (hd2 : r.depth ≤ 1000) :
  Calls Tryz.prog 182 #[.pointer (some ⟨b, 0, none⟩), .int .u8 c.toNat] w fun e w' => e = .returned (.tuple #[]) ∧ ReaderAt w' b s (r.opening s.data.toList c) pv ∧ But b w w' := by
 have HH : Hid (ReaderAt w b s r pv) := h
 have hde : (r.room.takeOne s.data.toList c c).1.depth = r.depth := by rw [takeOne_depth, room_depth]
 have hpr : r.room.pos ≤ s.size := by rw [room_pos]; exact hp
 unfold Rd.opening
 have HDE : Hid _ := hde
 clear h hde
 go_enter Tryz.func182, Tryz.ntmps182
 go_wp2_with fail
 refine (needRoom_any b s r pv _ HH.out).mono ?_
 rintro e w1 ⟨rfl, hr1, hb1⟩
 have HR1 : Hid (ReaderAt w1 b s r.room pv) := hr1
 clear hr1
 go_wp2_with fail
 refine (take_any b s r.room pv c _ HR1.out hs hpr).mono ?_
 rintro e w2 ⟨rfl, hr2, hb2⟩
 generalize hq : r.room.takeOne s.data.toList c c = q at hr2 HDE
 obtain ⟨⟨p1, p2, p3⟩, q2⟩ := q
 have HQ : Hid _ := hq
 clear hq
 obtain ⟨c0, c1, c2, c3, c4, fz⟩ := hr2
 have hp2 : p2 = r.depth := HDE.out
 simp only at c0 c1 c2 c3 c4
 rw [hp2] at c2
 go_wp2_with fail
 go_end0
 refine ⟨rfl, ?_, (hb1.trans hb2).set 2 _⟩
 rw [HQ.out]
 refine ⟨?_, ?_, ?_, ?_, ?_, ?_⟩
 all_goals simp [go_sem, c0, c1, c2, c3, c4, fz, hp2]
set_option maxHeartbeats 1000000 in
theorem closing_any (b : Nat) (s : ByteArray) (r : Rd) (pv : Value) (c : UInt8) (w : World) (h : ReaderAt w b s r pv) (hs : s.size ≤ 400) (hp : r.pos ≤ s.size) (hd : -1000 ≤ r.depth) (hd2 : r.depth ≤ 1000) :
  Calls Tryz.prog 183 #[.pointer (some ⟨b, 0, none⟩), .int .u8 c.toNat] w fun e w' => e = .returned (.tuple #[]) ∧ ReaderAt w' b s (r.closing s.data.toList c) pv ∧ But b w w' := by
 have HH : Hid (ReaderAt w b s r pv) := h
 have hde : (r.takeOne s.data.toList c c).1.depth = r.depth := takeOne_depth ..
 unfold Rd.closing
 have HDE : Hid _ := hde
 clear h hde
 go_enter Tryz.func183, Tryz.ntmps183
 go_wp2_with fail
 refine (take_any b s r pv c _ HH.out hs hp).mono ?_
 rintro e w2 ⟨rfl, hr2, hb2⟩
 generalize hq : r.takeOne s.data.toList c c = q at hr2 HDE
 obtain ⟨⟨p1, p2, p3⟩, q2⟩ := q
 have HQ : Hid _ := hq
 clear hq
 obtain ⟨c0, c1, c2, c3, c4, fz⟩ := hr2
 have hp2 : p2 = r.depth := HDE.out
 simp only at c0 c1 c2 c3 c4
 rw [hp2] at c2
 go_wp2_with fail
 go_end0
 refine ⟨rfl, ?_, hb2.set 2 _⟩
 rw [HQ.out]
 refine ⟨?_, ?_, ?_, ?_, ?_, ?_⟩
 all_goals simp [go_sem, c0, c1, c2, c3, c4, fz, hp2]
end Go.Proofs.YtdgmoiflahoihaaGreatDoor
namespace Go.Proofs.YtdgmoiflahoihaaGreatDoor
open Go.RowKit
set_option linter.unusedSimpArgs false
set_option linter.unusedVariables false
def Rd.labF (t : List UInt8) : Nat → Rd → Nat → Rd × Nat
 | 0, r, l => (r, l)
 | n + 1, r, l =>
  if r.seesOne t (UInt8.ofNat (68 - n)) (UInt8.ofNat (68 - n)) then Rd.labF t n (r.takeOne t (UInt8.ofNat (68 - n)) (UInt8.ofNat (68 - n))).1 (l + 2 ^ (3 - n))
  else Rd.labF t n r l
def Rd.label (t : List UInt8) (r : Rd) : Rd × Nat :=
 if r.seesOne t 45 45 then ((r.takeOne t 45 45).1, 0)
 else if (r.labF t 4 0).2 = 0 then ({ (r.labF t 4 0).1 with bad := true }, 0)
 else r.labF t 4 0
theorem labF_yes {t : List UInt8} {r : Rd} {j l : Nat} (hj : j < 4) (h : r.seesOne t (UInt8.ofNat (65 + j)) (UInt8.ofNat (65 + j)) = true) :
  Rd.labF t (4 - j) r l = Rd.labF t (4 - (j + 1)) (r.takeOne t (UInt8.ofNat (65 + j)) (UInt8.ofNat (65 + j))).1 (l + 2 ^ j) := by
 rw [show 4 - j = (4 - (j + 1)) + 1 by omega]
 conv => lhs; unfold Rd.labF
 rw [show 68 - (4 - (j + 1)) = 65 + j by omega, show 3 - (4 - (j + 1)) = j by omega, if_pos h]
theorem labF_no {t : List UInt8} {r : Rd} {j l : Nat} (hj : j < 4) (h : r.seesOne t (UInt8.ofNat (65 + j)) (UInt8.ofNat (65 + j)) = false) :
  Rd.labF t (4 - j) r l = Rd.labF t (4 - (j + 1)) r l := by
 rw [show 4 - j = (4 - (j + 1)) + 1 by omega]
 conv => lhs; unfold Rd.labF
 rw [show 68 - (4 - (j + 1)) = 65 + j by omega, if_neg (by rw [h]; decide)]
set_option maxHeartbeats 1000000 in
theorem label_rd (b : Nat) (s : ByteArray) (r : Rd) (pv : Value) (w : World) (h : ReaderAt w b s r pv) (hs : s.size ≤ 400) (hp : r.pos ≤ s.size) :
  Calls Tryz.prog 158 #[.pointer (some ⟨b, 0, none⟩)] w fun e w' => e = .returned (.int .i64 (r.label s.data.toList).2) ∧ ReaderAt w' b s (r.label s.data.toList).1 pv ∧ But b w w' := by
 have HH : Hid (ReaderAt w b s r pv) := h
 clear h
 cases h45 : r.seesOne s.data.toList 45 45
 ·generalize hlb : r.labF s.data.toList 4 0 = q
  obtain ⟨rq, lq⟩ := q
  have hres : r.label s.data.toList = if lq = 0 then ({ rq with bad := true }, 0) else (rq, lq) := by simp [Rd.label, h45, hlb]
  have HRES : Hid _ := hres
  have HLB : Hid (r.labF s.data.toList 4 0 = (rq, lq)) := hlb
  clear hres hlb
  go_enter Tryz.func158, Tryz.ntmps158
  go_wp2_with fail
  refine (sees_any b s r pv 45 _ HH.out hs hp).mono ?_
  rintro e w1 ⟨rfl, hw1⟩
  rw [h45]
  have hr1 : ReaderAt w1 b s r pv := by obtain ⟨n, rfl⟩ := hw1; exact HH.out.drewN n
  have hb1 : But b w w1 := by obtain ⟨n, rfl⟩ := hw1; exact (But.refl _ _).drewN n
  clear hw1 HH
  go_wp2_with fail
  go_loopw [3, 4, 5] (fun x y z w' => ∃ (j l p : Nat) (c : UInt8) (r' : Rd), x = .int .i64 l ∧ y = .int .i64 p ∧ z = .int .u8 c.toNat ∧ j ≤ 4 ∧ Hid (c = UInt8.ofNat (65 + j)) ∧ Hid (p = 2 ^ j) ∧ l < 2 ^ j ∧ r'.pos ≤ s.size ∧ Hid (ReaderAt w' b s r' pv) ∧ But b w w' ∧ Hid (Rd.labF s.data.toList (4 - j) r' l = (rq, lq))) (fun x y z w' => 69 - (intOf z).toNat)
  case atStart => exact ⟨0, 0, 1, 65, r, rfl, rfl, rfl, by omega, rfl, rfl, by omega, hp, hr1, hb1, HLB⟩
  case round =>
   obtain ⟨j, l, p, c, r', rfl, rfl, rfl, hj, HC, HP, hl, hp', HR', hbut, HL⟩ := hrel
   have hcn : c.toNat = 65 + j := by rw [HC.out]; simp; omega
   have HCN : Hid (c.toNat = 65 + j) := hcn
   have hpb : p ≤ 16 := by have h9 : 2 ^ j ≤ 2 ^ 4 := Nat.pow_le_pow_right (by omega) hj; rw [HP.out]; omega
   have hlb : l ≤ 16 := by have h9 : 2 ^ j ≤ 2 ^ 4 := Nat.pow_le_pow_right (by omega) hj; omega
   by_cases hj4 : j < 4
   ·have hc1 : c.toNat ≤ 68 := by omega
    have hc2 : 65 ≤ c.toNat := by omega
    have hnx : UInt8.ofNat (65 + (j + 1)) = UInt8.ofNat (65 + j + 1) := rfl
    have hnt : (UInt8.ofNat (65 + (j + 1))).toNat = c.toNat + 1 := by rw [hcn]; simp; omega
    have HNT : Hid _ := hnt
    have hpp : 2 * p = 2 ^ (j + 1) := by rw [HP.out, Nat.pow_succ]; omega
    have HPP : Hid (p * 2 = 2 ^ (j + 1)) := by show _ = _; omega
    have hl1 : l + p < 2 ^ (j + 1) := by have := HP.out; omega
    have hl2 : l < 2 ^ (j + 1) := by omega
    clear hcn hnx hnt hpp
    cases hse : r'.seesOne s.data.toList c c
    ·have HF : Hid _ := labF_no (l := l) hj4 (by rw [← HC.out]; exact hse)
     go_wp2_with fail
     refine (sees_any b s r' pv c _ HR'.out hs hp').mono ?_
     rintro e w2 ⟨rfl, hw2⟩
     rw [hse]
     have hr2 : ReaderAt w2 b s r' pv := by obtain ⟨n, rfl⟩ := hw2; exact HR'.out.drewN n
     have hb2 : But b w w2 := by obtain ⟨n, rfl⟩ := hw2; exact hbut.drewN n
     clear hw2
     go_wp2_with fail
     go_roundw
     case rel => exact ⟨j + 1, l, p * 2, UInt8.ofNat (65 + (j + 1)), r', rfl, by go_num, by rw [HNT.out]; go_num, by omega, rfl, HPP, hl2, hp', hr2, hb2, HF.out.symm.trans HL.out⟩
     case measure => simp [intOf]; omega
    ·have HF : Hid _ := labF_yes (l := l) hj4 (by rw [← HC.out]; exact hse)
     have hpt := takeOne_pos (t := s.data.toList) (r := r') (low := c) (high := c) (by simpa using hp')
     go_wp2_with fail
     refine (sees_any b s r' pv c _ HR'.out hs hp').mono ?_
     rintro e w2 ⟨rfl, hw2⟩
     rw [hse]
     have hr2 : ReaderAt w2 b s r' pv := by obtain ⟨n, rfl⟩ := hw2; exact HR'.out.drewN n
     have hb2 : But b w w2 := by obtain ⟨n, rfl⟩ := hw2; exact hbut.drewN n
     have HR2 : Hid (ReaderAt w2 b s r' pv) := hr2
     clear hw2 hr2
     go_wp2_with fail
     refine (take_any b s r' pv c _ HR2.out hs hp').mono ?_
     rintro e w3 ⟨rfl, hr3, hb3⟩
     go_wp2_with fail
     go_roundw
     case rel => exact ⟨j + 1, l + p, p * 2, UInt8.ofNat (65 + (j + 1)), (r'.takeOne s.data.toList c c).1, by go_num, by go_num, by rw [HNT.out]; go_num, by omega, rfl, HPP, hl1, by simpa using hpt, hr3, hb2.trans hb3, by have h7 := HF.out.symm.trans HL.out; rw [← HC.out, ← HP.out] at h7; exact h7⟩
     case measure => simp [intOf]; omega
   ·have hj5 : j = 4 := by omega
    have hfin : (r', l) = (rq, lq) := by have h7 := HL.out; rw [hj5] at h7; exact h7
    simp only [Prod.mk.injEq] at hfin
    obtain ⟨rfl, rfl⟩ := hfin
    have hc1 : 68 < c.toNat := by omega
    clear hcn
    by_cases hl0 : l = 0
    ·subst hl0
     have hr9 := HRES.out
     rw [if_pos rfl] at hr9
     have HR9 : Hid _ := hr9
     clear hr9 HRES
     go_wp2_with fail
     refine (fail_any b s r' pv _ HR'.out).mono ?_
     rintro e w4 ⟨rfl, hr4, hb4⟩
     go_wp2_with fail
     go_ret
     rw [HR9.out]
     exact ⟨rfl, hr4, hbut.trans hb4⟩
    ·have hr9 := HRES.out
     rw [if_neg hl0] at hr9
     have HR9 : Hid _ := hr9
     have tl : ((l : Int) == 0) = false := by simp; omega
     clear hr9 HRES
     go_wp2_with fail
     go_ret
     rw [HR9.out]
     exact ⟨rfl, HR'.out, hbut⟩
 ·have hres : r.label s.data.toList = ((r.takeOne s.data.toList 45 45).1, 0) := by simp [Rd.label, h45]
  rw [hres]
  clear hres
  go_enter Tryz.func158, Tryz.ntmps158
  go_wp2_with fail
  refine (sees_any b s r pv 45 _ HH.out hs hp).mono ?_
  rintro e w1 ⟨rfl, hw1⟩
  rw [h45]
  have hr1 : ReaderAt w1 b s r pv := by obtain ⟨n, rfl⟩ := hw1; exact HH.out.drewN n
  have hb1 : But b w w1 := by obtain ⟨n, rfl⟩ := hw1; exact (But.refl _ _).drewN n
  have HR1 : Hid (ReaderAt w1 b s r pv) := hr1
  clear hw1 HH hr1
  go_wp2_with fail
  refine (take_any b s r pv 45 _ HR1.out hs hp).mono ?_
  rintro e w2 ⟨rfl, hr2, hb2⟩
  go_wp2_with fail
  go_ret
  exact ⟨rfl, hr2, hb1.trans hb2⟩
end Go.Proofs.YtdgmoiflahoihaaGreatDoor
namespace Go.Proofs.YtdgmoiflahoihaaGreatDoor
open Go.RowKit
set_option linter.unusedSimpArgs false
set_option linter.unusedVariables false
def Rd.numF (t : List UInt8) : Nat → Rd → Int → Rd × Int
 | 0, r, v => (r, v)
 | n + 1, r, v => if r.seesOne t 48 57 then Rd.numF t n (r.takeOne t 48 57).1 (v * 10 + (r.takeOne t 48 57).2) else (r, v)
def Rd.number (t : List UInt8) (r : Rd) : Rd × Int := Rd.numF t 17 (r.takeOne t 48 57).1 (r.takeOne t 48 57).2
theorem digit_le (t : List UInt8) (r : Rd) : 0 ≤ (r.takeOne t 48 57).2 ∧ (r.takeOne t 48 57).2 ≤ 9 := by
 unfold Rd.takeOne
 split
 ·rename_i h
  unfold Rd.seesOne at h
  cases e : t[r.pos]? with
  | none => rw [e] at h; simp at h
  | some c =>
   rw [e] at h
   simp [UInt8.le_iff_toNat_le] at h
   have : t.getD r.pos 0 = c := by rw [List.getD_eq_getElem?_getD, e]; rfl
   rw [this]
   simp
   omega
 ·simp
theorem numF_yes {t : List UInt8} {r : Rd} {j : Nat} {v : Int} (hj : j < 18) (h : r.seesOne t 48 57 = true) : Rd.numF t (18 - j) r v = Rd.numF t (18 - (j + 1)) (r.takeOne t 48 57).1 (v * 10 + (r.takeOne t 48 57).2) := by
 rw [show 18 - j = (18 - (j + 1)) + 1 by omega]
 conv => lhs; unfold Rd.numF
 rw [if_pos h]
theorem numF_no {t : List UInt8} {r : Rd} {j : Nat} {v : Int} (hj : j < 18) (h : r.seesOne t 48 57 = false) : Rd.numF t (18 - j) r v = (r, v) := by
 rw [show 18 - j = (18 - (j + 1)) + 1 by omega]
 conv => lhs; unfold Rd.numF
 rw [if_neg (by rw [h]; decide)]
set_option maxHeartbeats 1000000 in
theorem number_rd (b : Nat) (s : ByteArray) (r : Rd) (pv : Value) (w : World) (h : ReaderAt w b s r pv) (hs : s.size ≤ 400) (hp : r.pos ≤ s.size) :
  Calls Tryz.prog 217 #[.pointer (some ⟨b, 0, none⟩)] w fun e w' => e = .returned (.int .i64 (r.number s.data.toList).2) ∧ ReaderAt w' b s (r.number s.data.toList).1 pv ∧ But b w w' := by
 have HH : Hid (ReaderAt w b s r pv) := h
 clear h
 have hd := digit_le s.data.toList r
 have hpt := takeOne_pos (t := s.data.toList) (r := r) (low := 48) (high := 57) (by simpa using hp)
 unfold Rd.number
 generalize hq : r.takeOne s.data.toList 48 57 = q at *
 obtain ⟨r1, v1⟩ := q
 generalize hn : Rd.numF s.data.toList 17 r1 v1 = z
 obtain ⟨rz, vz⟩ := z
 have HN : Hid (Rd.numF s.data.toList 17 r1 v1 = (rz, vz)) := hn
 have HQ : Hid (r.takeOne s.data.toList 48 57 = (r1, v1)) := hq
 simp only at hd hpt
 have hps : r1.pos ≤ s.size := by simpa using hpt
 clear hq hn hpt
 go_enter Tryz.func217, Tryz.ntmps217
 go_wp2_with fail
 refine (takeOne_any b s r pv 48 57 _ HH.out hs hp).mono ?_
 rw [HQ.out]
 rintro e w1 ⟨rfl, hr1, hb1⟩
 go_wp2_with fail
 go_loopw [3, 4] (fun x y w' => ∃ (j : Nat) (v : Int) (r' : Rd), x = .int .i64 v ∧ y = .int .i64 j ∧ 1 ≤ j ∧ j ≤ 18 ∧ 0 ≤ v ∧ v < 10 ^ j ∧ r'.pos ≤ s.size ∧ Hid (ReaderAt w' b s r' pv) ∧ But b w w' ∧ Hid (Rd.numF s.data.toList (18 - j) r' v = (rz, vz))) (fun x y w' => 18 - (intOf y).toNat)
 case atStart => exact ⟨1, v1, r1, rfl, rfl, by omega, by omega, hd.1, by omega, hps, hr1, hb1, HN⟩
 case round =>
  obtain ⟨j, v, r', rfl, rfl, hj1, hj, hv0, hv1, hp', HR', hbut, HL⟩ := hrel
  by_cases hj18 : j < 18
  ·have hvb : v ≤ 99999999999999999 := by
    have h9 : (10 : Nat) ^ j ≤ 10 ^ 17 := Nat.pow_le_pow_right (by omega) (by omega)
    have h8 : ((10 ^ j : Nat) : Int) = (10 : Int) ^ j := by simp
    omega
   have tj : decide ((j : Int) < 18) = true := by simp; omega
   cases hse : r'.seesOne s.data.toList 48 57
   ·have hf := (numF_no (v := v) hj18 hse).symm.trans HL.out
    simp only [Prod.mk.injEq] at hf
    obtain ⟨rfl, rfl⟩ := hf
    clear hv1
    go_wp2_with fail
    refine (seesOne_any b s r' pv 48 57 _ HR'.out hs hp').mono ?_
    rintro e w2 ⟨rfl, hw2⟩
    rw [hse]
    have hr2 : ReaderAt w2 b s r' pv := by obtain ⟨n, rfl⟩ := hw2; exact HR'.out.drewN n
    have hb2 : But b w w2 := by obtain ⟨n, rfl⟩ := hw2; exact hbut.drewN n
    clear hw2
    go_wp2_with fail
    go_ret
    exact ⟨rfl, hr2, hb2⟩
   ·have HF : Hid _ := (numF_yes (v := v) hj18 hse).symm.trans HL.out
    have hd2 := digit_le s.data.toList r'
    have hpt := takeOne_pos (t := s.data.toList) (r := r') (low := 48) (high := 57) (by simpa using hp')
    generalize hq2 : r'.takeOne s.data.toList 48 57 = q2 at *
    obtain ⟨r2, d2⟩ := q2
    have HQ2 : Hid (r'.takeOne s.data.toList 48 57 = (r2, d2)) := hq2
    simp only at hd2 hpt HF
    obtain ⟨hd3, hd4⟩ := hd2
    have hps2 : r2.pos ≤ s.size := by simpa using hpt
    have hpw : v * 10 + d2 < 10 ^ (j + 1) := by rw [Int.pow_succ]; omega
    have HPW : Hid (v * 10 + d2 < 10 ^ (j + 1)) := hpw
    clear hq2 hpt hpw hv1
    go_wp2_with fail
    refine (seesOne_any b s r' pv 48 57 _ HR'.out hs hp').mono ?_
    rintro e w2 ⟨rfl, hw2⟩
    rw [hse]
    have hr2 : ReaderAt w2 b s r' pv := by obtain ⟨n, rfl⟩ := hw2; exact HR'.out.drewN n
    have hb2 : But b w w2 := by obtain ⟨n, rfl⟩ := hw2; exact hbut.drewN n
    have HR2 : Hid (ReaderAt w2 b s r' pv) := hr2
    clear hw2 hr2
    go_wp2_with fail
    refine (takeOne_any b s r' pv 48 57 _ HR2.out hs hp').mono ?_
    rw [HQ2.out]
    rintro e w3 ⟨rfl, hr3, hb3⟩
    go_wp2_with fail
    go_roundw
    case rel => exact ⟨j + 1, v * 10 + d2, r2, rfl, by go_num, by omega, by omega, by omega, HPW.out, hps2, hr3, hb2.trans hb3, HF⟩
    case measure => simp [intOf]; omega
  ·have hj9 : j = 18 := by omega
   have hf : (r', v) = (rz, vz) := by have h7 := HL.out; rw [hj9] at h7; exact h7
   simp only [Prod.mk.injEq] at hf
   obtain ⟨rfl, rfl⟩ := hf
   have tj : decide ((j : Int) < 18) = false := by simp; omega
   clear hv1
   go_wp2_with fail
   go_ret
   exact ⟨rfl, HR'.out, hbut⟩
end Go.Proofs.YtdgmoiflahoihaaGreatDoor
namespace Go.Proofs.YtdgmoiflahoihaaGreatDoor
open Go.RowKit
set_option linter.unusedSimpArgs false
set_option linter.unusedVariables false
def Rd.oper (t : List UInt8) (r : Rd) (b1 : UInt8) (op1 : Int) (b2 : UInt8) (op2 : Int) : Rd × Int :=
 if r.seesOne t b1 b1 then ((r.takeOne t b1 b1).1, op1)
 else if r.seesOne t b2 b2 then ((r.takeOne t b2 b2).1, op2)
 else (r, 0)
def Rd.prodOper (t : List UInt8) (r : Rd) : Rd × Int :=
 if r.seesOne t 37 37 then ((r.takeOne t 37 37).1, 8) else r.oper t 42 6 47 7
set_option maxHeartbeats 1000000 in
theorem oper_any (b : Nat) (s : ByteArray) (r : Rd) (pv : Value) (b1 b2 : UInt8) (op1 op2 : Int) (w : World) (h : ReaderAt w b s r pv) (hs : s.size ≤ 400) (hp : r.pos ≤ s.size) :
  Calls Tryz.prog 209 #[.pointer (some ⟨b, 0, none⟩), .int .u8 b1.toNat, .int .i64 op1, .int .u8 b2.toNat, .int .i64 op2] w fun e w' => e = .returned (.int .i64 (r.oper s.data.toList b1 op1 b2 op2).2) ∧ ReaderAt w' b s (r.oper s.data.toList b1 op1 b2 op2).1 pv ∧ But b w w' := by
 have HH : Hid (ReaderAt w b s r pv) := h
 clear h
 cases h1 : r.seesOne s.data.toList b1 b1
 ·cases h2 : r.seesOne s.data.toList b2 b2
  ·rw [show r.oper s.data.toList b1 op1 b2 op2 = (r, 0) by simp [Rd.oper, h1, h2]]
   go_enter Tryz.func209, Tryz.ntmps209
   go_wp2_with fail
   refine (sees_any b s r pv b1 _ HH.out hs hp).mono ?_
   rintro e w1 ⟨rfl, n1, rfl⟩
   rw [h1]
   go_wp2_with fail
   refine (sees_any b s r pv b2 _ (HH.out.drewN n1) hs hp).mono ?_
   rintro e w2 ⟨rfl, n2, rfl⟩
   rw [h2]
   go_wp2_with fail
   go_ret
   exact ⟨rfl, HH.out.drewN _, (But.refl _ _).drewN _⟩
  ·rw [show r.oper s.data.toList b1 op1 b2 op2 = ((r.takeOne s.data.toList b2 b2).1, op2) by simp [Rd.oper, h1, h2]]
   go_enter Tryz.func209, Tryz.ntmps209
   go_wp2_with fail
   refine (sees_any b s r pv b1 _ HH.out hs hp).mono ?_
   rintro e w1 ⟨rfl, n1, rfl⟩
   rw [h1]
   go_wp2_with fail
   refine (sees_any b s r pv b2 _ (HH.out.drewN n1) hs hp).mono ?_
   rintro e w2 ⟨rfl, n2, hw2⟩
   have hr2 : ReaderAt w2 b s r pv := by rw [hw2]; exact (HH.out.drewN n1).drewN n2
   have hb2 : But b w w2 := by rw [hw2]; exact ((But.refl _ _).drewN n1).drewN n2
   have HR2 : Hid (ReaderAt w2 b s r pv) := hr2
   clear hw2 hr2
   rw [h2]
   go_wp2_with fail
   refine (take_any b s r pv b2 _ HR2.out hs hp).mono ?_
   rintro e w3 ⟨rfl, hr3, hb3⟩
   go_wp2_with fail
   go_ret
   exact ⟨rfl, hr3, hb2.trans hb3⟩
 ·rw [show r.oper s.data.toList b1 op1 b2 op2 = ((r.takeOne s.data.toList b1 b1).1, op1) by simp [Rd.oper, h1]]
  go_enter Tryz.func209, Tryz.ntmps209
  go_wp2_with fail
  refine (sees_any b s r pv b1 _ HH.out hs hp).mono ?_
  rintro e w2 ⟨rfl, n2, hw2⟩
  have hr2 : ReaderAt w2 b s r pv := by rw [hw2]; exact HH.out.drewN n2
  have hb2 : But b w w2 := by rw [hw2]; exact (But.refl _ _).drewN n2
  have HR2 : Hid (ReaderAt w2 b s r pv) := hr2
  clear hw2 hr2
  rw [h1]
  go_wp2_with fail
  refine (take_any b s r pv b1 _ HR2.out hs hp).mono ?_
  rintro e w3 ⟨rfl, hr3, hb3⟩
  go_wp2_with fail
  go_ret
  exact ⟨rfl, hr3, hb2.trans hb3⟩
set_option maxHeartbeats 1000000 in
theorem prodOper_any (b : Nat) (s : ByteArray) (r : Rd) (pv : Value) (w : World) (h : ReaderAt w b s r pv) (hs : s.size ≤ 400) (hp : r.pos ≤ s.size) :
  Calls Tryz.prog 215 #[.pointer (some ⟨b, 0, none⟩)] w fun e w' => e = .returned (.int .i64 (r.prodOper s.data.toList).2) ∧ ReaderAt w' b s (r.prodOper s.data.toList).1 pv ∧ But b w w' := by
 have HH : Hid (ReaderAt w b s r pv) := h
 clear h
 cases h1 : r.seesOne s.data.toList 37 37
 ·rw [show r.prodOper s.data.toList = r.oper s.data.toList 42 6 47 7 by simp [Rd.prodOper, h1]]
  go_enter Tryz.func215, Tryz.ntmps215
  go_wp2_with fail
  refine (sees_any b s r pv 37 _ HH.out hs hp).mono ?_
  rintro e w2 ⟨rfl, n2, hw2⟩
  have hr2 : ReaderAt w2 b s r pv := by rw [hw2]; exact HH.out.drewN n2
  have hb2 : But b w w2 := by rw [hw2]; exact (But.refl _ _).drewN n2
  have HR2 : Hid (ReaderAt w2 b s r pv) := hr2
  clear hw2 hr2
  rw [h1]
  go_wp2_with fail
  refine (oper_any b s r pv 42 47 6 7 _ HR2.out hs hp).mono ?_
  rintro e w3 ⟨rfl, hr3, hb3⟩
  go_wp2_with fail
  go_ret
  exact ⟨rfl, hr3, hb2.trans hb3⟩
 ·rw [show r.prodOper s.data.toList = ((r.takeOne s.data.toList 37 37).1, 8) by simp [Rd.prodOper, h1]]
  go_enter Tryz.func215, Tryz.ntmps215
  go_wp2_with fail
  refine (sees_any b s r pv 37 _ HH.out hs hp).mono ?_
  rintro e w2 ⟨rfl, n2, hw2⟩
  have hr2 : ReaderAt w2 b s r pv := by rw [hw2]; exact HH.out.drewN n2
  have hb2 : But b w w2 := by rw [hw2]; exact (But.refl _ _).drewN n2
  have HR2 : Hid (ReaderAt w2 b s r pv) := hr2
  clear hw2 hr2
  rw [h1]
  go_wp2_with fail
  refine (take_any b s r pv 37 _ HR2.out hs hp).mono ?_
  rintro e w3 ⟨rfl, hr3, hb3⟩
  go_wp2_with fail
  go_ret
  exact ⟨rfl, hr3, hb2.trans hb3⟩
end Go.Proofs.YtdgmoiflahoihaaGreatDoor
