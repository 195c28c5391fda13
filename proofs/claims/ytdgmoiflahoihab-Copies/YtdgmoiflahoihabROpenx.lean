import Derived.Test.YtdgmoiflahoihabPlainx
import Derived.Test.YtdgmoiflahoihabBAx
import Derived.Deep.QuietTactic
import Derived.BigQuiet

namespace Go.Proofs.Ytdgmoiflahoihab
structure Rd where
 pos : Nat
 depth : Int
 bad : Bool
def skipL : List UInt8 → Nat → Nat
 | [], k => k
 | c :: r, k => if blankB c then skipL r (k + 1) else k
def Rd.skip (t : List UInt8) (r : Rd) : Rd := { r with pos := skipL (t.drop r.pos) r.pos }
def Rd.seesOne (t : List UInt8) (r : Rd) (low high : UInt8) : Bool :=
 !r.bad && (match t[r.pos]? with | none => false | some b => decide (low ≤ b) && decide (b ≤ high))
def Rd.takeOne (t : List UInt8) (r : Rd) (low high : UInt8) : Rd × Int :=
 if r.seesOne t low high then (Rd.skip t { r with pos := r.pos + 1 }, ((t.getD r.pos 0).toNat : Int) - (low.toNat : Int))
 else ({ r with bad := true }, 0)
theorem skipL_le (l : List UInt8) : ∀ k, k ≤ skipL l k ∧ skipL l k ≤ k + l.length := by
 induction l with
 | nil => intro k; simp [skipL]
 | cons c r ih =>
  intro k
  have := ih (k + 1)
  unfold skipL
  split <;> simp <;> omega
theorem skip_end {t : List UInt8} {k : Nat} (h : t.length ≤ k) : skipL (t.drop k) k = k := by
 rw [List.drop_of_length_le h]; rfl
theorem skip_yes {t : List UInt8} {k : Nat} (h : k < t.length) (hb : blankB t[k] = true) : skipL (t.drop (k + 1)) (k + 1) = skipL (t.drop k) k := by
 rw [List.drop_eq_getElem_cons h]; simp [skipL, hb]
theorem skip_no {t : List UInt8} {k : Nat} (h : k < t.length) (hb : blankB t[k] = false) : skipL (t.drop k) k = k := by
 rw [List.drop_eq_getElem_cons h]; simp [skipL, hb]
end Go.Proofs.Ytdgmoiflahoihab
namespace Go.Proofs.Ytdgmoiflahoihab
open Go.RowKit
set_option linter.unusedSimpArgs false
set_option linter.unusedVariables false
structure ReaderAt (w : World) (b : Nat) (s : ByteArray) (r : Rd) (pv : Value) : Prop where
 c0 : w.cell? ⟨b, 0, none⟩ = some (.string s)
 c1 : w.cell? ⟨b, 1, none⟩ = some (.int .i64 r.pos)
 c2 : w.cell? ⟨b, 2, none⟩ = some (.int .i64 r.depth)
 c3 : w.cell? ⟨b, 3, none⟩ = some pv
 c4 : w.cell? ⟨b, 4, none⟩ = some (.bool r.bad)
 fz : ∀ o, w.frozen? ⟨b, o, none⟩ = false
def But (b : Nat) (w w' : World) : Prop := w.grownBy w' (some b)
theorem But.refl (b : Nat) (w : World) : But b w w := World.grownBy.refl w _
theorem But.set {b : Nat} {w w' : World} (h : But b w w') (o : Nat) (v : Value) : But b w (w'.setCell ⟨b, o, none⟩ v) := by
 obtain ⟨h1, h2, h3, h4, h5⟩ := h
 refine ⟨h1, h2, h3, by simpa using h4, fun k hk hne => ?_⟩
 rw [heap_setCell_other _ _ _ _ (by intro e; exact hne (by rw [e]))]
 exact h5 k hk hne
theorem But.drewN {b : Nat} {w w' : World} (h : But b w w') (n : Nat) : But b w (w'.drewN n) := by
 obtain ⟨h1, h2, h3, h4, h5⟩ := h
 exact ⟨h1, h2, h3, h4, h5⟩
theorem isBlank_any (c : UInt8) (w : World) :
  Calls Try.prog 43 #[.int .u8 c.toNat] w fun e w' => e = .returned (.bool (blankB c)) ∧ w' = w := by
 by_cases h32 : c = 32
 ·subst h32
  go_enter Try.func43, Try.ntmps43
  go_wp2
  go_ret
  exact ⟨rfl, rfl⟩
 by_cases h10 : c = 10
 ·subst h10
  go_enter Try.func43, Try.ntmps43
  go_wp2
  go_ret
  exact ⟨rfl, rfl⟩
 ·have k32 : ((c.toNat : Int) == 32) = false := u8_ne (b := 32) h32
  have k10 : ((c.toNat : Int) == 10) = false := u8_ne (b := 10) h10
  have hb : blankB c = false := by simp [blankB, h32, h10]
  rw [hb]
  go_enter Try.func43, Try.ntmps43
  go_wp2
  go_ret
  exact ⟨rfl, rfl⟩
set_option maxHeartbeats 1000000 in
theorem skipBlanks_any (b : Nat) (s : ByteArray) (r : Rd) (pv : Value) (w : World) (h : ReaderAt w b s r pv) (hs : s.size ≤ 400) (hp : r.pos ≤ s.size) :
  Calls Try.prog 32 #[.pointer (some ⟨b, 0, none⟩)] w fun e w' => e = .returned (.tuple #[]) ∧ ReaderAt w' b s (r.skip s.data.toList) pv ∧ But b w w' := by
 go_enter Try.func32, Try.ntmps32
 go_wp2_with fail
 have hsl : s.data.toList.length = s.size := by simp
 have HH : Hid (ReaderAt w b s r pv) := h
 clear h
 go_loopw [] (fun w' => ∃ k : Nat, k ≤ s.size ∧ ReaderAt w' b s { r with pos := k } pv ∧ But b w w' ∧ Hid (skipL (s.data.toList.drop k) k = skipL (s.data.toList.drop r.pos) r.pos)) (fun w' => s.size - (intOf ((w'.cell? ⟨b, 1, none⟩).getD undef)).toNat)
 case atStart => exact ⟨r.pos, hp, HH.out, But.refl _ _, rfl⟩
 case round =>
  obtain ⟨k, hk, hra, hbut, HS⟩ := hrel
  have hra0 := hra
  obtain ⟨c0, c1, c2, c3, c4, fz⟩ := hra
  simp only at c0 c1 c2 c3 c4
  by_cases hlt : k < s.size
  ·have hby := s[k].toNat_lt
   have hlt2 : (k : Int) < (s.size : Int) := by omega
   cases hb : blankB s[k]
   ·have HF : Hid (k = skipL (s.data.toList.drop r.pos) r.pos) := by
     have h1 := HS.out
     rw [skip_no (by omega) (by exact hb)] at h1
     exact h1
    go_wp2_with fail
    go_quiet ((go_at_call 43; exact Calls.quiet_of_same (isBlank_any _ _)))
    go_wp2
    go_end0
    refine ⟨rfl, ?_, ?_⟩
    ·have := HF.out
     unfold Rd.skip
     rw [← this]
     exact ⟨c0, c1, c2, c3, c4, fz⟩
    ·exact hbut.drewN _
   ·have HF : Hid (skipL (s.data.toList.drop (k + 1)) (k + 1) = skipL (s.data.toList.drop r.pos) r.pos) := by
     have h1 := HS.out
     rw [← skip_yes (by omega) (by exact hb)] at h1
     exact h1
    go_wp2_with fail
    go_quiet ((go_at_call 43; exact Calls.quiet_of_same (isBlank_any _ _)))
    go_wp2
    refine ⟨⟨k + 1, by omega, ⟨?_, ?_, ?_, ?_, ?_, ?_⟩, (hbut.drewN _).set 1 _, HF⟩, ?_⟩
    all_goals simp [go_sem, c0, c1, c2, c3, c4, fz, intOf]
    all_goals omega
  ·have hd : decide ((k : Int) < (s.size : Int)) = false := by simp; omega
   have HF : Hid (k = skipL (s.data.toList.drop r.pos) r.pos) := by
    have h1 := HS.out
    rw [skip_end (by omega)] at h1
    exact h1
   go_wp2_with fail
   go_quiet ((go_at_call 43; exact Calls.quiet_of_same (isBlank_any _ _)))
   go_wp2
   go_end0
   refine ⟨rfl, ?_, ?_⟩
   ·have := HF.out
    unfold Rd.skip
    rw [← this]
    exact ⟨c0, c1, c2, c3, c4, fz⟩
   ·exact hbut.drewN _
end Go.Proofs.Ytdgmoiflahoihab
namespace Go.Proofs.Ytdgmoiflahoihab
open Go.RowKit
set_option linter.unusedSimpArgs false
set_option linter.unusedVariables false
theorem ReaderAt.drewN {w : World} {b : Nat} {s : ByteArray} {r : Rd} {pv : Value} (h : ReaderAt w b s r pv) (n : Nat) : ReaderAt (w.drewN n) b s r pv := by
 obtain ⟨c0, c1, c2, c3, c4, fz⟩ := h
 exact ⟨c0, c1, c2, c3, c4, fz⟩
theorem ret_boolR {a b : Bool} (h : a = b) : Ending.returned (.bool a) = .returned (.bool b) := by rw [h]
set_option maxHeartbeats 1000000 in
theorem seesOne_any (b : Nat) (s : ByteArray) (r : Rd) (pv : Value) (low high : UInt8) (w : World) (h : ReaderAt w b s r pv) (hs : s.size ≤ 400) (hp : r.pos ≤ s.size) :
  Calls Try.prog 53 #[.pointer (some ⟨b, 0, none⟩), .int .u8 low.toNat, .int .u8 high.toNat] w fun e w' => e = .returned (.bool (r.seesOne s.data.toList low high)) ∧ ∃ n, w' = w.drewN n := by
 obtain ⟨c0, c1, c2, c3, c4, fz⟩ := h
 obtain ⟨pos, depth, bad⟩ := r
 simp only at c0 c1 c2 c3 c4 hp
 cases bad
 ·by_cases hlt : pos < s.size
  ·have hg : (Rd.seesOne s.data.toList ⟨pos, depth, false⟩ low high) = (decide (low ≤ s[pos]) && decide (s[pos] ≤ high)) := by
    simp [Rd.seesOne, hlt]
    rfl
   rw [hg]
   clear hg
   have hd : decide ((s.size : Int) ≤ (pos : Int)) = false := by simp; omega
   have hlt2 : (pos : Int) < (s.size : Int) := by omega
   go_enter Try.func53, Try.ntmps53
   go_wp2_with fail
   go_quiet (fail)
   go_wp2
   go_quiet (fail)
   go_wp2
   all_goals go_ret
   all_goals (refine ⟨ret_boolR ?_, _, rfl⟩; simp [UInt8.le_iff_toNat_le]; omega)
  ·have hg : (Rd.seesOne s.data.toList ⟨pos, depth, false⟩ low high) = false := by
    simp [Rd.seesOne, hlt]
   rw [hg]
   clear hg
   have hd : decide ((s.size : Int) ≤ (pos : Int)) = true := by simp; omega
   go_enter Try.func53, Try.ntmps53
   go_wp2_with fail
   go_quiet (fail)
   go_wp2
   go_ret
   exact ⟨rfl, _, rfl⟩
 ·have hg : (Rd.seesOne s.data.toList ⟨pos, depth, true⟩ low high) = false := by simp [Rd.seesOne]
  rw [hg]
  clear hg
  go_enter Try.func53, Try.ntmps53
  go_wp2_with fail
  go_quiet (fail)
  go_wp2
  go_ret
  exact ⟨rfl, _, rfl⟩
theorem sees_any (b : Nat) (s : ByteArray) (r : Rd) (pv : Value) (c : UInt8) (w : World) (h : ReaderAt w b s r pv) (hs : s.size ≤ 400) (hp : r.pos ≤ s.size) :
  Calls Try.prog 44 #[.pointer (some ⟨b, 0, none⟩), .int .u8 c.toNat] w fun e w' => e = .returned (.bool (r.seesOne s.data.toList c c)) ∧ ∃ n, w' = w.drewN n := by
 have HH : Hid (ReaderAt w b s r pv) := h
 clear h
 go_enter Try.func44, Try.ntmps44
 go_wp2_with (go_at_call 53; refine (seesOne_any b s r pv c c _ HH.out hs hp).mono ?_; rintro e w' ⟨rfl, n, rfl⟩)
 go_ret
 exact ⟨rfl, n, rfl⟩
theorem fail_any (b : Nat) (s : ByteArray) (r : Rd) (pv : Value) (w : World) (h : ReaderAt w b s r pv) :
  Calls Try.prog 62 #[.pointer (some ⟨b, 0, none⟩)] w fun e w' => e = .returned (.tuple #[]) ∧ ReaderAt w' b s { r with bad := true } pv ∧ But b w w' := by
 obtain ⟨c0, c1, c2, c3, c4, fz⟩ := h
 go_enter Try.func62, Try.ntmps62
 go_wp2
 go_end0
 refine ⟨rfl, ⟨?_, ?_, ?_, ?_, ?_, ?_⟩, (But.refl _ _).set 4 _⟩
 all_goals simp [go_sem, c0, c1, c2, c3, c4, fz]
end Go.Proofs.Ytdgmoiflahoihab
namespace Go.Proofs.Ytdgmoiflahoihab
open Go.RowKit
set_option linter.unusedSimpArgs false
set_option linter.unusedVariables false
theorem But.trans {b : Nat} {w w1 w2 : World} (h : But b w w1) (k : But b w1 w2) : But b w w2 := by
 obtain ⟨h1, h2, h3, h4, h5⟩ := h
 obtain ⟨k1, k2, k3, k4, k5⟩ := k
 refine ⟨k1.trans h1, k2.trans h2, k3.trans h3, by omega, fun j hj hne => ?_⟩
 rw [k5 j (by omega) hne, h5 j hj hne]
theorem skip_le {t : List UInt8} {k : Nat} (h : k ≤ t.length) : skipL (t.drop k) k ≤ t.length := by
 have := (skipL_le (t.drop k) k).2
 simp at this
 omega
theorem takeOne_pos {t : List UInt8} {r : Rd} {low high : UInt8} (hp : r.pos ≤ t.length) : (r.takeOne t low high).1.pos ≤ t.length := by
 unfold Rd.takeOne
 split
 ·rename_i hs
  have hlt : r.pos < t.length := by
   unfold Rd.seesOne at hs
   cases e : t[r.pos]? with
   | none => rw [e] at hs; simp at hs
   | some c => exact (List.getElem?_eq_some_iff.mp e).1
  exact skip_le (by simp only; omega)
 ·exact hp
set_option maxHeartbeats 1000000 in
theorem takeOne_any (b : Nat) (s : ByteArray) (r : Rd) (pv : Value) (low high : UInt8) (w : World) (h : ReaderAt w b s r pv) (hs : s.size ≤ 400) (hp : r.pos ≤ s.size) :
  Calls Try.prog 66 #[.pointer (some ⟨b, 0, none⟩), .int .u8 low.toNat, .int .u8 high.toNat] w fun e w' => e = .returned (.int .i64 (r.takeOne s.data.toList low high).2) ∧ ReaderAt w' b s (r.takeOne s.data.toList low high).1 pv ∧ But b w w' := by
 have HH : Hid (ReaderAt w b s r pv) := h
 clear h
 cases hsee : r.seesOne s.data.toList low high
 ·have ht : r.takeOne s.data.toList low high = ({ r with bad := true }, 0) := by simp [Rd.takeOne, hsee]
  rw [ht]
  clear ht
  go_enter Try.func66, Try.ntmps66
  go_wp2_with fail
  refine (seesOne_any b s r pv low high _ HH.out hs hp).mono ?_
  rintro e w1 ⟨rfl, n, rfl⟩
  rw [hsee]
  go_wp2_with fail
  refine (fail_any b s r pv _ (by first | exact HH.out.drewN _ | exact HH.out)).mono ?_
  rintro e w2 ⟨rfl, hr2, hb2⟩
  go_wp2_with fail
  go_ret
  exact ⟨rfl, hr2, ((But.refl _ _).drewN n).trans hb2⟩
 ·have hlt : r.pos < s.size := by
   unfold Rd.seesOne at hsee
   cases e : s.data.toList[r.pos]? with
   | none => rw [e] at hsee; simp at hsee
   | some c => simpa using (List.getElem?_eq_some_iff.mp e).1
  have hge : s.data.toList.getD r.pos 0 = s[r.pos] := by
   simp [hlt]
   rfl
  have hlow : low ≤ s[r.pos] := by
   unfold Rd.seesOne at hsee
   rw [List.getElem?_eq_getElem (by simpa using hlt)] at hsee
   simp at hsee
   exact hsee.2.1
  have ht : r.takeOne s.data.toList low high = (Rd.skip s.data.toList { r with pos := r.pos + 1 }, ((s[r.pos]).toNat : Int) - (low.toNat : Int)) := by simp only [Rd.takeOne, hsee, if_true, hge]
  rw [ht]
  clear ht hge
  have hlow2 : low.toNat ≤ s[r.pos].toNat := UInt8.le_iff_toNat_le.mp hlow
  have hby := s[r.pos].toNat_lt
  clear hlow
  have HC : Hid (ReaderAt w b s r pv) := HH
  obtain ⟨c0, c1, c2, c3, c4, fz⟩ := HC.out
  clear HC
  go_enter Try.func66, Try.ntmps66
  go_wp2_with fail
  refine (seesOne_any b s r pv low high _ HH.out hs hp).mono ?_
  rintro e w1 ⟨rfl, hw1⟩
  rw [hsee]
  have hr1 : ReaderAt w1 b s r pv := by obtain ⟨n, rfl⟩ := hw1; exact HH.out.drewN n
  have hb1 : But b w w1 := by obtain ⟨n, rfl⟩ := hw1; exact (But.refl _ _).drewN n
  clear hw1 HH c0 c1 c2 c3 c4 fz
  obtain ⟨c0, c1, c2, c3, c4, fz⟩ := hr1
  go_wp2_with fail
  have hlt2 : (r.pos : Int) < (s.size : Int) := by omega
  go_quiet (fail)
  go_wp2_with fail
  refine (skipBlanks_any b s { r with pos := r.pos + 1 } pv _ ?hr hs (by simp only; omega)).mono ?_
  case hr =>
   refine ⟨?_, ?_, ?_, ?_, ?_, ?_⟩
   all_goals simp [go_sem, c0, c1, c2, c3, c4, fz]
  rintro e w3 ⟨rfl, hr3, hb3⟩
  go_wp2_with fail
  go_ret
  exact ⟨rfl, hr3, (hb1.trans (((But.refl _ _).drewN _).set 1 _)).trans hb3⟩
theorem take_any (b : Nat) (s : ByteArray) (r : Rd) (pv : Value) (c : UInt8) (w : World) (h : ReaderAt w b s r pv) (hs : s.size ≤ 400) (hp : r.pos ≤ s.size) :
  Calls Try.prog 54 #[.pointer (some ⟨b, 0, none⟩), .int .u8 c.toNat] w fun e w' => e = .returned (.tuple #[]) ∧ ReaderAt w' b s (r.takeOne s.data.toList c c).1 pv ∧ But b w w' := by
 have HH : Hid (ReaderAt w b s r pv) := h
 clear h
 go_enter Try.func54, Try.ntmps54
 go_wp2_with (go_at_call 66; refine (takeOne_any b s r pv c c _ HH.out hs hp).mono ?_; rintro e w' ⟨rfl, hr, hb⟩)
 go_end0
 exact ⟨rfl, hr, hb⟩
theorem takeName_any (b : Nat) (s : ByteArray) (r : Rd) (pv : Value) (w : World) (h : ReaderAt w b s r pv) (hs : s.size ≤ 400) (hp : r.pos ≤ s.size) :
  Calls Try.prog 55 #[.pointer (some ⟨b, 0, none⟩)] w fun e w' => e = .returned (.int .i64 (r.takeOne s.data.toList 97 122).2) ∧ ReaderAt w' b s (r.takeOne s.data.toList 97 122).1 pv ∧ But b w w' := by
 have HH : Hid (ReaderAt w b s r pv) := h
 clear h
 go_enter Try.func55, Try.ntmps55
 go_wp2_with (go_at_call 66; refine (takeOne_any b s r pv 97 122 _ HH.out hs hp).mono ?_; rintro e w' ⟨rfl, hr, hb⟩)
 go_ret
 exact ⟨rfl, hr, hb⟩
end Go.Proofs.Ytdgmoiflahoihab
namespace Go.Proofs.Ytdgmoiflahoihab
open Go.RowKit
set_option linter.unusedSimpArgs false
set_option linter.unusedVariables false
def Rd.room (r : Rd) : Rd := if 8 ≤ r.depth then { r with bad := true } else r
def Rd.opening (t : List UInt8) (r : Rd) (c : UInt8) : Rd := { (r.room.takeOne t c c).1 with depth := (r.room.takeOne t c c).1.depth + 1 }
def Rd.closing (t : List UInt8) (r : Rd) (c : UInt8) : Rd := { (r.takeOne t c c).1 with depth := (r.takeOne t c c).1.depth - 1 }
theorem room_pos (r : Rd) : r.room.pos = r.pos := by unfold Rd.room; split <;> rfl
theorem room_depth (r : Rd) : r.room.depth = r.depth := by unfold Rd.room; split <;> rfl
theorem takeOne_depth (t : List UInt8) (r : Rd) (a b : UInt8) : (r.takeOne t a b).1.depth = r.depth := by
 unfold Rd.takeOne; split <;> rfl
set_option maxHeartbeats 1000000 in
theorem atEnd_any (b : Nat) (s : ByteArray) (r : Rd) (pv : Value) (w : World) (h : ReaderAt w b s r pv) (hs : s.size ≤ 400) (hp : r.pos ≤ s.size) :
  Calls Try.prog 46 #[.pointer (some ⟨b, 0, none⟩)] w fun e w' => e = .returned (.bool (decide (s.size ≤ r.pos))) ∧ ∃ n, w' = w.drewN n := by
 obtain ⟨c0, c1, c2, c3, c4, fz⟩ := h
 go_enter Try.func46, Try.ntmps46
 go_wp2_with fail
 go_quiet (fail)
 go_wp2
 go_ret
 exact ⟨ret_boolR (by simp), _, rfl⟩
set_option maxHeartbeats 1000000 in
theorem needRoom_any (b : Nat) (s : ByteArray) (r : Rd) (pv : Value) (w : World) (h : ReaderAt w b s r pv) :
  Calls Try.prog 71 #[.pointer (some ⟨b, 0, none⟩)] w fun e w' => e = .returned (.tuple #[]) ∧ ReaderAt w' b s r.room pv ∧ But b w w' := by
 have HH : Hid (ReaderAt w b s r pv) := h
 obtain ⟨c0, c1, c2, c3, c4, fz⟩ := h
 by_cases h8 : 8 ≤ r.depth
 ·rw [show r.room = { r with bad := true } by simp [Rd.room, h8]]
  go_enter Try.func71, Try.ntmps71
  go_wp2_with (go_at_call 62; refine (fail_any b s r pv _ HH.out).mono ?_; rintro e w' ⟨rfl, hr, hb⟩)
  go_end0
  exact ⟨rfl, hr, hb⟩
 ·rw [show r.room = r by simp [Rd.room, h8]]
  go_enter Try.func71, Try.ntmps71
  go_wp2
  go_end0
  exact ⟨rfl, HH.out, But.refl _ _⟩
set_option maxHeartbeats 1000000 in
theorem opening_any (b : Nat) (s : ByteArray) (r : Rd) (pv : Value) (c : UInt8) (w : World) (h : ReaderAt w b s r pv) (hs : s.size ≤ 400) (hp : r.pos ≤ s.size) (hd : -1000 ≤ r.depth) (hd2 : r.depth ≤ 1000) :
  Calls Try.prog 68 #[.pointer (some ⟨b, 0, none⟩), .int .u8 c.toNat] w fun e w' => e = .returned (.tuple #[]) ∧ ReaderAt w' b s (r.opening s.data.toList c) pv ∧ But b w w' := by
 have HH : Hid (ReaderAt w b s r pv) := h
 have hde : (r.room.takeOne s.data.toList c c).1.depth = r.depth := by rw [takeOne_depth, room_depth]
 have hpr : r.room.pos ≤ s.size := by rw [room_pos]; exact hp
 unfold Rd.opening
 have HDE : Hid _ := hde
 clear h hde
 go_enter Try.func68, Try.ntmps68
 go_wp2_with fail
 refine (needRoom_any b s r pv _ HH.out).mono ?_
 rintro e w1 ⟨rfl, hr1, hb1⟩
 have HR1 : Hid (ReaderAt w1 b s r.room pv) := hr1
 clear hr1
 go_wp2_with fail
 refine (take_any b s r.room pv c _ HR1.out hs hpr).mono ?_
 rintro e w2 ⟨rfl, hr2, hb2⟩
 generalize hq : r.room.takeOne s.data.toList c c = q at hr2 HDE
 obtain ⟨⟨p1, p2, p3⟩, q2⟩ := q
 have HQ : Hid _ := hq
 clear hq
 obtain ⟨c0, c1, c2, c3, c4, fz⟩ := hr2
 have hp2 : p2 = r.depth := HDE.out
 simp only at c0 c1 c2 c3 c4
 rw [hp2] at c2
 go_wp2_with fail
 go_end0
 refine ⟨rfl, ?_, (hb1.trans hb2).set 2 _⟩
 rw [HQ.out]
 refine ⟨?_, ?_, ?_, ?_, ?_, ?_⟩
 all_goals simp [go_sem, c0, c1, c2, c3, c4, fz, hp2]
set_option maxHeartbeats 1000000 in
theorem closing_any (b : Nat) (s : ByteArray) (r : Rd) (pv : Value) (c : UInt8) (w : World) (h : ReaderAt w b s r pv) (hs : s.size ≤ 400) (hp : r.pos ≤ s.size) (hd : -1000 ≤ r.depth) (hd2 : r.depth ≤ 1000) :
  Calls Try.prog 69 #[.pointer (some ⟨b, 0, none⟩), .int .u8 c.toNat] w fun e w' => e = .returned (.tuple #[]) ∧ ReaderAt w' b s (r.closing s.data.toList c) pv ∧ But b w w' := by
 have HH : Hid (ReaderAt w b s r pv) := h
 have hde : (r.takeOne s.data.toList c c).1.depth = r.depth := takeOne_depth ..
 unfold Rd.closing
 have HDE : Hid _ := hde
 clear h hde
 go_enter Try.func69, Try.ntmps69
 go_wp2_with fail
 refine (take_any b s r pv c _ HH.out hs hp).mono ?_
 rintro e w2 ⟨rfl, hr2, hb2⟩
 generalize hq : r.takeOne s.data.toList c c = q at hr2 HDE
 obtain ⟨⟨p1, p2, p3⟩, q2⟩ := q
 have HQ : Hid _ := hq
 clear hq
 obtain ⟨c0, c1, c2, c3, c4, fz⟩ := hr2
 have hp2 : p2 = r.depth := HDE.out
 simp only at c0 c1 c2 c3 c4
 rw [hp2] at c2
 go_wp2_with fail
 go_end0
 refine ⟨rfl, ?_, hb2.set 2 _⟩
 rw [HQ.out]
 refine ⟨?_, ?_, ?_, ?_, ?_, ?_⟩
 all_goals simp [go_sem, c0, c1, c2, c3, c4, fz, hp2]
end Go.Proofs.Ytdgmoiflahoihab
