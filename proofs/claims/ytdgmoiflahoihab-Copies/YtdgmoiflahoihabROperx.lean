import Derived.Test.YtdgmoiflahoihabROpenx

namespace Go.Proofs.Ytdgmoiflahoihab
open Go.RowKit
set_option linter.unusedSimpArgs false
set_option linter.unusedVariables false
def Rd.labF (t : List UInt8) : Nat → Rd → Nat → Rd × Nat
 | 0, r, l => (r, l)
 | n + 1, r, l =>
  if r.seesOne t (UInt8.ofNat (68 - n)) (UInt8.ofNat (68 - n)) then Rd.labF t n (r.takeOne t (UInt8.ofNat (68 - n)) (UInt8.ofNat (68 - n))).1 (l + 2 ^ (3 - n))
  else Rd.labF t n r l
def Rd.label (t : List UInt8) (r : Rd) : Rd × Nat :=
 if r.seesOne t 45 45 then ((r.takeOne t 45 45).1, 0)
 else if (r.labF t 4 0).2 = 0 then ({ (r.labF t 4 0).1 with bad := true }, 0)
 else r.labF t 4 0
theorem labF_yes {t : List UInt8} {r : Rd} {j l : Nat} (hj : j < 4) (h : r.seesOne t (UInt8.ofNat (65 + j)) (UInt8.ofNat (65 + j)) = true) :
  Rd.labF t (4 - j) r l = Rd.labF t (4 - (j + 1)) (r.takeOne t (UInt8.ofNat (65 + j)) (UInt8.ofNat (65 + j))).1 (l + 2 ^ j) := by
 rw [show 4 - j = (4 - (j + 1)) + 1 by omega]
 conv => lhs; unfold Rd.labF
 rw [show 68 - (4 - (j + 1)) = 65 + j by omega, show 3 - (4 - (j + 1)) = j by omega, if_pos h]
theorem labF_no {t : List UInt8} {r : Rd} {j l : Nat} (hj : j < 4) (h : r.seesOne t (UInt8.ofNat (65 + j)) (UInt8.ofNat (65 + j)) = false) :
  Rd.labF t (4 - j) r l = Rd.labF t (4 - (j + 1)) r l := by
 rw [show 4 - j = (4 - (j + 1)) + 1 by omega]
 conv => lhs; unfold Rd.labF
 rw [show 68 - (4 - (j + 1)) = 65 + j by omega, if_neg (by rw [h]; decide)]
set_option maxHeartbeats 1000000 in
theorem label_rd (b : Nat) (s : ByteArray) (r : Rd) (pv : Value) (w : World) (h : ReaderAt w b s r pv) (hs : s.size ≤ 400) (hp : r.pos ≤ s.size) :
  Calls Try.prog 56 #[.pointer (some ⟨b, 0, none⟩)] w fun e w' => e = .returned (.int .i64 (r.label s.data.toList).2) ∧ ReaderAt w' b s (r.label s.data.toList).1 pv ∧ But b w w' := by
 have HH : Hid (ReaderAt w b s r pv) := h
 clear h
 cases h45 : r.seesOne s.data.toList 45 45
 ·generalize hlb : r.labF s.data.toList 4 0 = q
  obtain ⟨rq, lq⟩ := q
  have hres : r.label s.data.toList = if lq = 0 then ({ rq with bad := true }, 0) else (rq, lq) := by simp [Rd.label, h45, hlb]
  have HRES : Hid _ := hres
  have HLB : Hid (r.labF s.data.toList 4 0 = (rq, lq)) := hlb
  clear hres hlb
  go_enter Try.func56, Try.ntmps56
  go_wp2_with fail
  refine (sees_any b s r pv 45 _ HH.out hs hp).mono ?_
  rintro e w1 ⟨rfl, hw1⟩
  rw [h45]
  have hr1 : ReaderAt w1 b s r pv := by obtain ⟨n, rfl⟩ := hw1; exact HH.out.drewN n
  have hb1 : But b w w1 := by obtain ⟨n, rfl⟩ := hw1; exact (But.refl _ _).drewN n
  clear hw1 HH
  go_wp2_with fail
  go_loopw [3, 4, 5] (fun x y z w' => ∃ (j l p : Nat) (c : UInt8) (r' : Rd), x = .int .i64 l ∧ y = .int .i64 p ∧ z = .int .u8 c.toNat ∧ j ≤ 4 ∧ Hid (c = UInt8.ofNat (65 + j)) ∧ Hid (p = 2 ^ j) ∧ l < 2 ^ j ∧ r'.pos ≤ s.size ∧ Hid (ReaderAt w' b s r' pv) ∧ But b w w' ∧ Hid (Rd.labF s.data.toList (4 - j) r' l = (rq, lq))) (fun x y z w' => 69 - (intOf z).toNat)
  case atStart => exact ⟨0, 0, 1, 65, r, rfl, rfl, rfl, by omega, rfl, rfl, by omega, hp, hr1, hb1, HLB⟩
  case round =>
   obtain ⟨j, l, p, c, r', rfl, rfl, rfl, hj, HC, HP, hl, hp', HR', hbut, HL⟩ := hrel
   have hcn : c.toNat = 65 + j := by rw [HC.out]; simp; omega
   have HCN : Hid (c.toNat = 65 + j) := hcn
   have hpb : p ≤ 16 := by have h9 : 2 ^ j ≤ 2 ^ 4 := Nat.pow_le_pow_right (by omega) hj; rw [HP.out]; omega
   have hlb : l ≤ 16 := by have h9 : 2 ^ j ≤ 2 ^ 4 := Nat.pow_le_pow_right (by omega) hj; omega
   by_cases hj4 : j < 4
   ·have hc1 : c.toNat ≤ 68 := by omega
    have hc2 : 65 ≤ c.toNat := by omega
    have hnx : UInt8.ofNat (65 + (j + 1)) = UInt8.ofNat (65 + j + 1) := rfl
    have hnt : (UInt8.ofNat (65 + (j + 1))).toNat = c.toNat + 1 := by rw [hcn]; simp; omega
    have HNT : Hid _ := hnt
    have hpp : 2 * p = 2 ^ (j + 1) := by rw [HP.out, Nat.pow_succ]; omega
    have HPP : Hid (p * 2 = 2 ^ (j + 1)) := by show _ = _; omega
    have hl1 : l + p < 2 ^ (j + 1) := by have := HP.out; omega
    have hl2 : l < 2 ^ (j + 1) := by omega
    clear hcn hnx hnt hpp
    cases hse : r'.seesOne s.data.toList c c
    ·have HF : Hid _ := labF_no (l := l) hj4 (by rw [← HC.out]; exact hse)
     go_wp2_with fail
     refine (sees_any b s r' pv c _ HR'.out hs hp').mono ?_
     rintro e w2 ⟨rfl, hw2⟩
     rw [hse]
     have hr2 : ReaderAt w2 b s r' pv := by obtain ⟨n, rfl⟩ := hw2; exact HR'.out.drewN n
     have hb2 : But b w w2 := by obtain ⟨n, rfl⟩ := hw2; exact hbut.drewN n
     clear hw2
     go_wp2_with fail
     go_roundw
     case rel => exact ⟨j + 1, l, p * 2, UInt8.ofNat (65 + (j + 1)), r', rfl, by go_num, by rw [HNT.out]; go_num, by omega, rfl, HPP, hl2, hp', hr2, hb2, HF.out.symm.trans HL.out⟩
     case measure => simp [intOf]; omega
    ·have HF : Hid _ := labF_yes (l := l) hj4 (by rw [← HC.out]; exact hse)
     have hpt := takeOne_pos (t := s.data.toList) (r := r') (low := c) (high := c) (by simpa using hp')
     go_wp2_with fail
     refine (sees_any b s r' pv c _ HR'.out hs hp').mono ?_
     rintro e w2 ⟨rfl, hw2⟩
     rw [hse]
     have hr2 : ReaderAt w2 b s r' pv := by obtain ⟨n, rfl⟩ := hw2; exact HR'.out.drewN n
     have hb2 : But b w w2 := by obtain ⟨n, rfl⟩ := hw2; exact hbut.drewN n
     have HR2 : Hid (ReaderAt w2 b s r' pv) := hr2
     clear hw2 hr2
     go_wp2_with fail
     refine (take_any b s r' pv c _ HR2.out hs hp').mono ?_
     rintro e w3 ⟨rfl, hr3, hb3⟩
     go_wp2_with fail
     go_roundw
     case rel => exact ⟨j + 1, l + p, p * 2, UInt8.ofNat (65 + (j + 1)), (r'.takeOne s.data.toList c c).1, by go_num, by go_num, by rw [HNT.out]; go_num, by omega, rfl, HPP, hl1, by simpa using hpt, hr3, hb2.trans hb3, by have h7 := HF.out.symm.trans HL.out; rw [← HC.out, ← HP.out] at h7; exact h7⟩
     case measure => simp [intOf]; omega
   ·have hj5 : j = 4 := by omega
    have hfin : (r', l) = (rq, lq) := by have h7 := HL.out; rw [hj5] at h7; exact h7
    simp only [Prod.mk.injEq] at hfin
    obtain ⟨rfl, rfl⟩ := hfin
    have hc1 : 68 < c.toNat := by omega
    clear hcn
    by_cases hl0 : l = 0
    ·subst hl0
     have hr9 := HRES.out
     rw [if_pos rfl] at hr9
     have HR9 : Hid _ := hr9
     clear hr9 HRES
     go_wp2_with fail
     refine (fail_any b s r' pv _ HR'.out).mono ?_
     rintro e w4 ⟨rfl, hr4, hb4⟩
     go_wp2_with fail
     go_ret
     rw [HR9.out]
     exact ⟨rfl, hr4, hbut.trans hb4⟩
    ·have hr9 := HRES.out
     rw [if_neg hl0] at hr9
     have HR9 : Hid _ := hr9
     have tl : ((l : Int) == 0) = false := by simp; omega
     clear hr9 HRES
     go_wp2_with fail
     go_ret
     rw [HR9.out]
     exact ⟨rfl, HR'.out, hbut⟩
 ·have hres : r.label s.data.toList = ((r.takeOne s.data.toList 45 45).1, 0) := by simp [Rd.label, h45]
  rw [hres]
  clear hres
  go_enter Try.func56, Try.ntmps56
  go_wp2_with fail
  refine (sees_any b s r pv 45 _ HH.out hs hp).mono ?_
  rintro e w1 ⟨rfl, hw1⟩
  rw [h45]
  have hr1 : ReaderAt w1 b s r pv := by obtain ⟨n, rfl⟩ := hw1; exact HH.out.drewN n
  have hb1 : But b w w1 := by obtain ⟨n, rfl⟩ := hw1; exact (But.refl _ _).drewN n
  have HR1 : Hid (ReaderAt w1 b s r pv) := hr1
  clear hw1 HH hr1
  go_wp2_with fail
  refine (take_any b s r pv 45 _ HR1.out hs hp).mono ?_
  rintro e w2 ⟨rfl, hr2, hb2⟩
  go_wp2_with fail
  go_ret
  exact ⟨rfl, hr2, hb1.trans hb2⟩
end Go.Proofs.Ytdgmoiflahoihab
namespace Go.Proofs.Ytdgmoiflahoihab
open Go.RowKit
set_option linter.unusedSimpArgs false
set_option linter.unusedVariables false
def Rd.numF (t : List UInt8) : Nat → Rd → Int → Rd × Int
 | 0, r, v => (r, v)
 | n + 1, r, v => if r.seesOne t 48 57 then Rd.numF t n (r.takeOne t 48 57).1 (v * 10 + (r.takeOne t 48 57).2) else (r, v)
def Rd.number (t : List UInt8) (r : Rd) : Rd × Int := Rd.numF t 17 (r.takeOne t 48 57).1 (r.takeOne t 48 57).2
theorem digit_le (t : List UInt8) (r : Rd) : 0 ≤ (r.takeOne t 48 57).2 ∧ (r.takeOne t 48 57).2 ≤ 9 := by
 unfold Rd.takeOne
 split
 ·rename_i h
  unfold Rd.seesOne at h
  cases e : t[r.pos]? with
  | none => rw [e] at h; simp at h
  | some c =>
   rw [e] at h
   simp [UInt8.le_iff_toNat_le] at h
   have : t.getD r.pos 0 = c := by rw [List.getD_eq_getElem?_getD, e]; rfl
   rw [this]
   simp
   omega
 ·simp
theorem numF_yes {t : List UInt8} {r : Rd} {j : Nat} {v : Int} (hj : j < 18) (h : r.seesOne t 48 57 = true) : Rd.numF t (18 - j) r v = Rd.numF t (18 - (j + 1)) (r.takeOne t 48 57).1 (v * 10 + (r.takeOne t 48 57).2) := by
 rw [show 18 - j = (18 - (j + 1)) + 1 by omega]
 conv => lhs; unfold Rd.numF
 rw [if_pos h]
theorem numF_no {t : List UInt8} {r : Rd} {j : Nat} {v : Int} (hj : j < 18) (h : r.seesOne t 48 57 = false) : Rd.numF t (18 - j) r v = (r, v) := by
 rw [show 18 - j = (18 - (j + 1)) + 1 by omega]
 conv => lhs; unfold Rd.numF
 rw [if_neg (by rw [h]; decide)]
set_option maxHeartbeats 1000000 in
theorem number_rd (b : Nat) (s : ByteArray) (r : Rd) (pv : Value) (w : World) (h : ReaderAt w b s r pv) (hs : s.size ≤ 400) (hp : r.pos ≤ s.size) :
  Calls Try.prog 89 #[.pointer (some ⟨b, 0, none⟩)] w fun e w' => e = .returned (.int .i64 (r.number s.data.toList).2) ∧ ReaderAt w' b s (r.number s.data.toList).1 pv ∧ But b w w' := by
 have HH : Hid (ReaderAt w b s r pv) := h
 clear h
 have hd := digit_le s.data.toList r
 have hpt := takeOne_pos (t := s.data.toList) (r := r) (low := 48) (high := 57) (by simpa using hp)
 unfold Rd.number
 generalize hq : r.takeOne s.data.toList 48 57 = q at *
 obtain ⟨r1, v1⟩ := q
 generalize hn : Rd.numF s.data.toList 17 r1 v1 = z
 obtain ⟨rz, vz⟩ := z
 have HN : Hid (Rd.numF s.data.toList 17 r1 v1 = (rz, vz)) := hn
 have HQ : Hid (r.takeOne s.data.toList 48 57 = (r1, v1)) := hq
 simp only at hd hpt
 have hps : r1.pos ≤ s.size := by simpa using hpt
 clear hq hn hpt
 go_enter Try.func89, Try.ntmps89
 go_wp2_with fail
 refine (takeOne_any b s r pv 48 57 _ HH.out hs hp).mono ?_
 rw [HQ.out]
 rintro e w1 ⟨rfl, hr1, hb1⟩
 go_wp2_with fail
 go_loopw [3, 4] (fun x y w' => ∃ (j : Nat) (v : Int) (r' : Rd), x = .int .i64 v ∧ y = .int .i64 j ∧ 1 ≤ j ∧ j ≤ 18 ∧ 0 ≤ v ∧ v < 10 ^ j ∧ r'.pos ≤ s.size ∧ Hid (ReaderAt w' b s r' pv) ∧ But b w w' ∧ Hid (Rd.numF s.data.toList (18 - j) r' v = (rz, vz))) (fun x y w' => 18 - (intOf y).toNat)
 case atStart => exact ⟨1, v1, r1, rfl, rfl, by omega, by omega, hd.1, by omega, hps, hr1, hb1, HN⟩
 case round =>
  obtain ⟨j, v, r', rfl, rfl, hj1, hj, hv0, hv1, hp', HR', hbut, HL⟩ := hrel
  by_cases hj18 : j < 18
  ·have hvb : v ≤ 99999999999999999 := by
    have h9 : (10 : Nat) ^ j ≤ 10 ^ 17 := Nat.pow_le_pow_right (by omega) (by omega)
    have h8 : ((10 ^ j : Nat) : Int) = (10 : Int) ^ j := by simp
    omega
   have tj : decide ((j : Int) < 18) = true := by simp; omega
   cases hse : r'.seesOne s.data.toList 48 57
   ·have hf := (numF_no (v := v) hj18 hse).symm.trans HL.out
    simp only [Prod.mk.injEq] at hf
    obtain ⟨rfl, rfl⟩ := hf
    clear hv1
    go_wp2_with fail
    refine (seesOne_any b s r' pv 48 57 _ HR'.out hs hp').mono ?_
    rintro e w2 ⟨rfl, hw2⟩
    rw [hse]
    have hr2 : ReaderAt w2 b s r' pv := by obtain ⟨n, rfl⟩ := hw2; exact HR'.out.drewN n
    have hb2 : But b w w2 := by obtain ⟨n, rfl⟩ := hw2; exact hbut.drewN n
    clear hw2
    go_wp2_with fail
    go_ret
    exact ⟨rfl, hr2, hb2⟩
   ·have HF : Hid _ := (numF_yes (v := v) hj18 hse).symm.trans HL.out
    have hd2 := digit_le s.data.toList r'
    have hpt := takeOne_pos (t := s.data.toList) (r := r') (low := 48) (high := 57) (by simpa using hp')
    generalize hq2 : r'.takeOne s.data.toList 48 57 = q2 at *
    obtain ⟨r2, d2⟩ := q2
    have HQ2 : Hid (r'.takeOne s.data.toList 48 57 = (r2, d2)) := hq2
    simp only at hd2 hpt HF
    obtain ⟨hd3, hd4⟩ := hd2
    have hps2 : r2.pos ≤ s.size := by simpa using hpt
    have hpw : v * 10 + d2 < 10 ^ (j + 1) := by rw [Int.pow_succ]; omega
    have HPW : Hid (v * 10 + d2 < 10 ^ (j + 1)) := hpw
    clear hq2 hpt hpw hv1
    go_wp2_with fail
    refine (seesOne_any b s r' pv 48 57 _ HR'.out hs hp').mono ?_
    rintro e w2 ⟨rfl, hw2⟩
    rw [hse]
    have hr2 : ReaderAt w2 b s r' pv := by obtain ⟨n, rfl⟩ := hw2; exact HR'.out.drewN n
    have hb2 : But b w w2 := by obtain ⟨n, rfl⟩ := hw2; exact hbut.drewN n
    have HR2 : Hid (ReaderAt w2 b s r' pv) := hr2
    clear hw2 hr2
    go_wp2_with fail
    refine (takeOne_any b s r' pv 48 57 _ HR2.out hs hp').mono ?_
    rw [HQ2.out]
    rintro e w3 ⟨rfl, hr3, hb3⟩
    go_wp2_with fail
    go_roundw
    case rel => exact ⟨j + 1, v * 10 + d2, r2, rfl, by go_num, by omega, by omega, by omega, HPW.out, hps2, hr3, hb2.trans hb3, HF⟩
    case measure => simp [intOf]; omega
  ·have hj9 : j = 18 := by omega
   have hf : (r', v) = (rz, vz) := by have h7 := HL.out; rw [hj9] at h7; exact h7
   simp only [Prod.mk.injEq] at hf
   obtain ⟨rfl, rfl⟩ := hf
   have tj : decide ((j : Int) < 18) = false := by simp; omega
   clear hv1
   go_wp2_with fail
   go_ret
   exact ⟨rfl, HR'.out, hbut⟩
end Go.Proofs.Ytdgmoiflahoihab
namespace Go.Proofs.Ytdgmoiflahoihab
open Go.RowKit
set_option linter.unusedSimpArgs false
set_option linter.unusedVariables false
def Rd.oper (t : List UInt8) (r : Rd) (b1 : UInt8) (op1 : Int) (b2 : UInt8) (op2 : Int) : Rd × Int :=
 if r.seesOne t b1 b1 then ((r.takeOne t b1 b1).1, op1)
 else if r.seesOne t b2 b2 then ((r.takeOne t b2 b2).1, op2)
 else (r, 0)
def Rd.prodOper (t : List UInt8) (r : Rd) : Rd × Int :=
 if r.seesOne t 37 37 then ((r.takeOne t 37 37).1, 8) else r.oper t 42 6 47 7
set_option maxHeartbeats 1000000 in
theorem oper_any (b : Nat) (s : ByteArray) (r : Rd) (pv : Value) (b1 b2 : UInt8) (op1 op2 : Int) (w : World) (h : ReaderAt w b s r pv) (hs : s.size ≤ 400) (hp : r.pos ≤ s.size) :
  Calls Try.prog 82 #[.pointer (some ⟨b, 0, none⟩), .int .u8 b1.toNat, .int .i64 op1, .int .u8 b2.toNat, .int .i64 op2] w fun e w' => e = .returned (.int .i64 (r.oper s.data.toList b1 op1 b2 op2).2) ∧ ReaderAt w' b s (r.oper s.data.toList b1 op1 b2 op2).1 pv ∧ But b w w' := by
 have HH : Hid (ReaderAt w b s r pv) := h
 clear h
 cases h1 : r.seesOne s.data.toList b1 b1
 ·cases h2 : r.seesOne s.data.toList b2 b2
  ·rw [show r.oper s.data.toList b1 op1 b2 op2 = (r, 0) by simp [Rd.oper, h1, h2]]
   go_enter Try.func82, Try.ntmps82
   go_wp2_with fail
   refine (sees_any b s r pv b1 _ HH.out hs hp).mono ?_
   rintro e w1 ⟨rfl, n1, rfl⟩
   rw [h1]
   go_wp2_with fail
   refine (sees_any b s r pv b2 _ (HH.out.drewN n1) hs hp).mono ?_
   rintro e w2 ⟨rfl, n2, rfl⟩
   rw [h2]
   go_wp2_with fail
   go_ret
   exact ⟨rfl, HH.out.drewN _, (But.refl _ _).drewN _⟩
  ·rw [show r.oper s.data.toList b1 op1 b2 op2 = ((r.takeOne s.data.toList b2 b2).1, op2) by simp [Rd.oper, h1, h2]]
   go_enter Try.func82, Try.ntmps82
   go_wp2_with fail
   refine (sees_any b s r pv b1 _ HH.out hs hp).mono ?_
   rintro e w1 ⟨rfl, n1, rfl⟩
   rw [h1]
   go_wp2_with fail
   refine (sees_any b s r pv b2 _ (HH.out.drewN n1) hs hp).mono ?_
   rintro e w2 ⟨rfl, n2, hw2⟩
   have hr2 : ReaderAt w2 b s r pv := by rw [hw2]; exact (HH.out.drewN n1).drewN n2
   have hb2 : But b w w2 := by rw [hw2]; exact ((But.refl _ _).drewN n1).drewN n2
   have HR2 : Hid (ReaderAt w2 b s r pv) := hr2
   clear hw2 hr2
   rw [h2]
   go_wp2_with fail
   refine (take_any b s r pv b2 _ HR2.out hs hp).mono ?_
   rintro e w3 ⟨rfl, hr3, hb3⟩
   go_wp2_with fail
   go_ret
   exact ⟨rfl, hr3, hb2.trans hb3⟩
 ·rw [show r.oper s.data.toList b1 op1 b2 op2 = ((r.takeOne s.data.toList b1 b1).1, op1) by simp [Rd.oper, h1]]
  go_enter Try.func82, Try.ntmps82
  go_wp2_with fail
  refine (sees_any b s r pv b1 _ HH.out hs hp).mono ?_
  rintro e w2 ⟨rfl, n2, hw2⟩
  have hr2 : ReaderAt w2 b s r pv := by rw [hw2]; exact HH.out.drewN n2
  have hb2 : But b w w2 := by rw [hw2]; exact (But.refl _ _).drewN n2
  have HR2 : Hid (ReaderAt w2 b s r pv) := hr2
  clear hw2 hr2
  rw [h1]
  go_wp2_with fail
  refine (take_any b s r pv b1 _ HR2.out hs hp).mono ?_
  rintro e w3 ⟨rfl, hr3, hb3⟩
  go_wp2_with fail
  go_ret
  exact ⟨rfl, hr3, hb2.trans hb3⟩
set_option maxHeartbeats 1000000 in
theorem prodOper_any (b : Nat) (s : ByteArray) (r : Rd) (pv : Value) (w : World) (h : ReaderAt w b s r pv) (hs : s.size ≤ 400) (hp : r.pos ≤ s.size) :
  Calls Try.prog 87 #[.pointer (some ⟨b, 0, none⟩)] w fun e w' => e = .returned (.int .i64 (r.prodOper s.data.toList).2) ∧ ReaderAt w' b s (r.prodOper s.data.toList).1 pv ∧ But b w w' := by
 have HH : Hid (ReaderAt w b s r pv) := h
 clear h
 cases h1 : r.seesOne s.data.toList 37 37
 ·rw [show r.prodOper s.data.toList = r.oper s.data.toList 42 6 47 7 by simp [Rd.prodOper, h1]]
  go_enter Try.func87, Try.ntmps87
  go_wp2_with fail
  refine (sees_any b s r pv 37 _ HH.out hs hp).mono ?_
  rintro e w2 ⟨rfl, n2, hw2⟩
  have hr2 : ReaderAt w2 b s r pv := by rw [hw2]; exact HH.out.drewN n2
  have hb2 : But b w w2 := by rw [hw2]; exact (But.refl _ _).drewN n2
  have HR2 : Hid (ReaderAt w2 b s r pv) := hr2
  clear hw2 hr2
  rw [h1]
  go_wp2_with fail
  refine (oper_any b s r pv 42 47 6 7 _ HR2.out hs hp).mono ?_
  rintro e w3 ⟨rfl, hr3, hb3⟩
  go_wp2_with fail
  go_ret
  exact ⟨rfl, hr3, hb2.trans hb3⟩
 ·rw [show r.prodOper s.data.toList = ((r.takeOne s.data.toList 37 37).1, 8) by simp [Rd.prodOper, h1]]
  go_enter Try.func87, Try.ntmps87
  go_wp2_with fail
  refine (sees_any b s r pv 37 _ HH.out hs hp).mono ?_
  rintro e w2 ⟨rfl, n2, hw2⟩
  have hr2 : ReaderAt w2 b s r pv := by rw [hw2]; exact HH.out.drewN n2
  have hb2 : But b w w2 := by rw [hw2]; exact (But.refl _ _).drewN n2
  have HR2 : Hid (ReaderAt w2 b s r pv) := hr2
  clear hw2 hr2
  rw [h1]
  go_wp2_with fail
  refine (take_any b s r pv 37 _ HR2.out hs hp).mono ?_
  rintro e w3 ⟨rfl, hr3, hb3⟩
  go_wp2_with fail
  go_ret
  exact ⟨rfl, hr3, hb2.trans hb3⟩
end Go.Proofs.Ytdgmoiflahoihab
