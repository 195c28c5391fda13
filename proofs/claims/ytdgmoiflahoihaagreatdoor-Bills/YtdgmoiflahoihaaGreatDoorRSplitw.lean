import Derived.Test.YtdgmoiflahoihaaGreatDoorCOverw
import Derived.Test.YtdgmoiflahoihaaGreatDoorPlainw
import Derived.Deep.Cut
import Derived.Deep.CutRange
import Derived.Below

namespace Go.Proofs.YtdgmoiflahoihaaGreatDoor
open Go.RowKit
set_option linter.unusedSimpArgs false
set_option linter.unusedVariables false
theorem ends_cases (p : UInt8) : (((p.toNat : Int) == 41) = true ∧ endsB p = true) ∨ (((p.toNat : Int) == 41) = false ∧ isNm (p.toNat : Int) = true ∧ endsB p = true)
  ∨ (((p.toNat : Int) == 41) = false ∧ isNm (p.toNat : Int) = false ∧ isDg (p.toNat : Int) = endsB p) := by
 have hn : isNm (p.toNat : Int) = nmB p := by unfold isNm nmB; rw [Bool.eq_iff_iff]; simp; omega
 have hd : isDg (p.toNat : Int) = dgB p := by unfold isDg dgB; rw [Bool.eq_iff_iff]; simp; omega
 have h4 : ((p.toNat : Int) == 41) = (p == 41) := by
  rw [Bool.eq_iff_iff]
  simp only [beq_iff_eq]
  constructor
  ·intro h; exact UInt8.toNat_inj.mp (by simp; omega)
  ·rintro rfl; rfl
 rw [h4, hn, hd]
 unfold endsB
 cases p == 41 <;> cases nmB p <;> simp
theorem byte_is {c k : UInt8} : ((c.toNat : Int) == (k.toNat : Int)) = (c == k) := by
 rw [Bool.eq_iff_iff]
 simp only [beq_iff_eq]
 constructor
 ·intro h; exact UInt8.toNat_inj.mp (by omega)
 ·rintro rfl; rfl
theorem ends_says (p : UInt8) : (((p.toNat : Int) == 41) = true ∧ endsB p = true)
  ∨ (((p.toNat : Int) == 41) = false ∧ Hid (∀ w, Calls Tryz.prog 115 #[.int .i64 p.toNat] w fun e w' => e = .returned (.bool true) ∧ w' = w) ∧ endsB p = true)
  ∨ (((p.toNat : Int) == 41) = false ∧ Hid (∀ w, Calls Tryz.prog 115 #[.int .i64 p.toNat] w fun e w' => e = .returned (.bool false) ∧ w' = w) ∧ Hid (∀ w, Calls Tryz.prog 145 #[.int .i64 p.toNat] w fun e w' => e = .returned (.bool true) ∧ w' = w) ∧ endsB p = true)
  ∨ (((p.toNat : Int) == 41) = false ∧ Hid (∀ w, Calls Tryz.prog 115 #[.int .i64 p.toNat] w fun e w' => e = .returned (.bool false) ∧ w' = w) ∧ Hid (∀ w, Calls Tryz.prog 145 #[.int .i64 p.toNat] w fun e w' => e = .returned (.bool false) ∧ w' = w) ∧ endsB p = false) := by
 have kn := isNm_any (p.toNat : Int)
 have kd := isDg_any (p.toNat : Int)
 rcases ends_cases p with ⟨u1, u2⟩ | ⟨u1, u2, u3⟩ | ⟨u1, u2, u3⟩
 ·exact .inl ⟨u1, u2⟩
 ·rw [u2] at kn
  exact .inr (.inl ⟨u1, kn, u3⟩)
 ·rw [u2] at kn
  rw [u3] at kd
  cases h : endsB p
  ·rw [h] at kd
   exact .inr (.inr (.inr ⟨u1, kn, kd, rfl⟩))
  ·rw [h] at kd
   exact .inr (.inr (.inl ⟨u1, kn, kd, rfl⟩))
theorem takes_is {d b : Int} {q : Bool} {r : Nat} {c : UInt8} (h : deepB c d ≤ 0) : takesB ⟨d, q, b, r⟩ c = (q && decide (0 < rankB c) && decide (r ≤ rankB c)) := by
 unfold takesB
 simp [h]
set_option maxRecDepth 100000 in
set_option maxHeartbeats 20000000 in
theorem split_any (b lo hi : Nat) (C : List UInt8) (A : List Int) (w : World) (hb : BookAt w b C A) (hl : lo ≤ hi) (hh : hi ≤ C.length) :
  Calls Tryz.prog 113 #[.pointer (some ⟨b, 0, none⟩), .int .i64 lo, .int .i64 hi] w fun e w' => e = .returned (.int .i64 (splitC C lo hi)) ∧ w' = w := by
 obtain ⟨hC, hA, ac, aa, bc, ba, capc, capa, h0, h1, hc, ha⟩ := hb
 have HB : Hid (pB C lo lo = false) := by show _ = _; unfold pB; simp
 have HC : Hid _ := hc
 generalize hY : splitC C lo hi = Y
 have HY : Hid (splitC C lo hi = Y) := hY
 clear hY hc ha
 go_enter Tryz.func113, Tryz.ntmps113
 go_wp2_with fail
 go_loopw [7, 8, 9, 10] (fun x1 x2 x3 x w' => ∃ (k r : Nat) (d m : Int), x = .int .i64 k ∧ x1 = .int .i64 m ∧ x2 = .int .i64 r ∧ x3 = .int .i64 d ∧ w' = w ∧ lo ≤ k ∧ k ≤ hi ∧ r ≤ 3 ∧ -(k - lo : Int) ≤ d ∧ d ≤ k - lo ∧ Hid ((spRun (seg C k hi) k ⟨d, pB C lo k, m, r⟩).b = Y)) (fun _ _ _ x _ => hi - (intOf x).toNat)
 case atStart => exact ⟨lo, 0, 0, -1, rfl, rfl, rfl, rfl, rfl, by omega, by omega, by omega, by omega, by omega, by have := HB.out; show (spRun (seg C lo hi) lo ⟨0, pB C lo lo, -1, 0⟩).b = _; rw [this, ← HY.out]; rfl⟩
 case round =>
  obtain ⟨k, r, d, m, rfl, rfl, rfl, rfl, rfl, hk0, hk1, hr, hd0, hd1, HS⟩ := hrel
  by_cases hlt : k < hi
  ·obtain ⟨rfl, hck⟩ := HC.out k (by omega)
   have NX : Hid (∀ (d' b' : Int) (r' : Nat), spStep ⟨d, pB C lo k, m, r⟩ k C[k] = ⟨d', endsB C[k], b', r'⟩ → (spRun (seg C (k + 1) hi) (k + 1) ⟨d', pB C lo (k + 1), b', r'⟩).b = Y) := fun d' b' r' h => by
    have := HS.out
    rw [← HY.out] at this ⊢
    exact sp_next hk0 hlt hh this h
   have HCJ : Hid (∀ j, ∀ hj : j < C.length, wr.cell? ⟨bc, j, none⟩ = some (.int .u8 C[j].toNat)) := fun j hj => (HC.out j hj).2
   have HPB : Hid (∀ j, ∀ hj : j < C.length, k = j + 1 → k ≠ lo → pB C lo k = endsB C[j]) := fun j hj e hn => by
    unfold pB; rw [if_neg hn]; subst e; simp [List.getD, List.getElem?_eq_getElem hj]
   have tk : decide ((k : Int) < (hi : Int)) = true := by simp; omega
   clear HS HC
   generalize C[k] = c at hck NX
   go_upto_if 29 with fail
   go_cut [9] from 30 to 31 (fun y wx => y = .int .i64 (if c = 40 then d + 1 else d) ∧ wx = wr)
   case first =>
    by_cases h40 : c = 40
    ·subst h40
     go_wp2_with fail
     go_meet
     exact ⟨rfl, rfl⟩
    ·have t40 : ((c.toNat : Int) == 40) = false := by exact (byte_is (k := 40)).trans (by simpa using h40)
     go_wp2_with fail
     go_meet
     exact ⟨by rw [if_neg h40], rfl⟩
   obtain ⟨rfl, rfl⟩ := hcut
   have hb4 : d ≤ (if c = 40 then d + 1 else d) ∧ (if c = 40 then d + 1 else d) ≤ d + 1 := by split <;> omega
   generalize hd4 : (if c = 40 then d + 1 else d) = d4 at hb4 ⊢
   go_upto_if 33 with fail
   go_cut [9] from 34 to 35 (fun y wx => y = .int .i64 (deepB c d) ∧ wx = wc)
   case first =>
    by_cases h41 : c = 41
    ·subst h41
     have e : deepB 41 d = d4 - 1 := by rw [← hd4]; rfl
     have E : Hid _ := e
     clear hd4 e
     go_wp2_with fail
     go_meet
     exact ⟨by rw [E.out], rfl⟩
    ·have t41 : ((c.toNat : Int) == 41) = false := by exact (byte_is (k := 41)).trans (by simpa using h41)
     have e : deepB c d = d4 := by rw [← hd4]; unfold deepB; simp [h41]
     have E : Hid _ := e
     clear hd4 e
     go_wp2_with fail
     go_meet
     exact ⟨by rw [E.out], rfl⟩
   obtain ⟨rfl, rfl⟩ := hcut
   have hdb : deepB c d ≤ d + 1 ∧ d - 1 ≤ deepB c d := by unfold deepB; split <;> (try split) <;> omega
   have NT : Hid (takesB ⟨d, pB C lo k, m, r⟩ c = false → (spRun (seg C (k + 1) hi) (k + 1) ⟨deepB c d, pB C lo (k + 1), m, r⟩).b = Y) := fun h => NX.out _ _ _ (sp_not h)
   have NY : Hid (takesB ⟨d, pB C lo k, m, r⟩ c = true → (spRun (seg C (k + 1) hi) (k + 1) ⟨deepB c d, pB C lo (k + 1), (k : Int), rankB c⟩).b = Y) := fun h => NX.out _ _ _ (sp_yes h)
   have NP : Hid (0 < deepB c d → (spRun (seg C (k + 1) hi) (k + 1) ⟨deepB c d, pB C lo (k + 1), m, r⟩).b = Y) := fun h => NT.out (by unfold takesB; simp; omega)
   have NL : Hid (k = lo → (spRun (seg C (k + 1) hi) (k + 1) ⟨deepB c d, pB C lo (k + 1), m, r⟩).b = Y) := fun h => NT.out (by subst h; unfold takesB; rw [HB.out]; simp)
   have NR : Hid (deepB c d ≤ 0 → takesB ⟨d, pB C lo k, m, r⟩ c = (pB C lo k && decide (0 < rankB c) && decide (r ≤ rankB c))) := fun h => takes_is h
   generalize deepB c d = D at *
   clear NX hd4
   by_cases hD : 0 < D
   ·have tD : decide (0 < D) = true := by simpa using hD
    have HN : Hid _ := NP.out hD
    clear NT NY NP NL NR
    go_wp2_with fail
    go_roundw
    case rel => exact ⟨k + 1, r, D, m, by go_num, rfl, rfl, rfl, by trivial, by omega, by omega, hr, by omega, by omega, HN⟩
    case measure => simp [intOf]; omega
   have tD : decide (0 < D) = false := by simpa using hD
   by_cases hkl : k = lo
   ·have tkl : ((k : Int) == (lo : Int)) = true := by simp; omega
    have HN : Hid _ := NL.out hkl
    have HKL : Hid (k = lo) := hkl
    clear NT NY NP NL NR hkl
    go_wp2_with fail
    go_roundw
    case rel => exact ⟨k + 1, r, D, m, by go_num, rfl, rfl, rfl, by trivial, by omega, by omega, hr, by omega, by omega, HN⟩
    case measure => simp [intOf]; omega
   obtain ⟨j, rfl⟩ : ∃ j, k = j + 1 := ⟨k - 1, by omega⟩
   have tkl : (((j : Int) + 1) == (lo : Int)) = false := by simp; omega
   have hcp := HCJ.out j (by omega)
   have hpb := HPB.out j (by omega) rfl hkl
   have NR2 := NR.out (by omega)
   rw [hpb] at NR2 NT NY
   have hec := ends_says C[j]
   generalize C[j] = p at *
   have HR2 : Hid _ := NR2
   clear NP NL NR hpb HPB HCJ NR2
   have hwp : wrap64 (p.toNat : Int) = (p.toNat : Int) := by have := p.toNat_lt; unfold wrap64; omega
   generalize hqe : endsB p = q at *
   clear hqe
   go_upto_region 14 with fail
   go_cut [13] from 51 to 62 (fun y wx => y = .bool q ∧ wx = wc)
   case first =>
    rcases hec with ⟨u1, rfl⟩ | ⟨u1, HX, rfl⟩ | ⟨u1, HX, HY2, rfl⟩ | ⟨u1, HX, HY2, rfl⟩
    ·go_wp2_with fail
     go_meet
     exact ⟨rfl, rfl⟩
    ·go_wp2_with (first | (go_at_call 115; refine (HX.out _).mono ?_; rintro e w' ⟨rfl, rfl⟩))
     go_meet
     exact ⟨rfl, rfl⟩
    ·go_wp2_with (first | (go_at_call 115; refine (HX.out _).mono ?_; rintro e w' ⟨rfl, rfl⟩) | (go_at_call 145; refine (HY2.out _).mono ?_; rintro e w' ⟨rfl, rfl⟩))
     go_meet
     exact ⟨rfl, rfl⟩
    ·go_wp2_with (first | (go_at_call 115; refine (HX.out _).mono ?_; rintro e w' ⟨rfl, rfl⟩) | (go_at_call 145; refine (HY2.out _).mono ?_; rintro e w' ⟨rfl, rfl⟩))
     go_meet
     exact ⟨rfl, rfl⟩
   obtain ⟨rfl, rfl⟩ := hcut
   clear hec hcp hck
   by_cases hc60 : c = 60
   ·subst hc60
    cases q
    ·have HN : Hid _ := NT.out (by rw [HR2.out]; rfl)
     clear NT NY HR2
     go_wp2_with fail
     go_roundw
     case rel => exact ⟨j + 1 + 1, r, D, m, by go_num, rfl, rfl, rfl, by trivial, by omega, by omega, by omega, by omega, by omega, HN⟩
     case measure => simp [intOf]; omega
    ·by_cases hrk : r ≤ 3
     ·have HN : Hid ((spRun (seg C (j + 1 + 1) hi) (j + 1 + 1) ⟨D, pB C lo (j + 1 + 1), (j : Int) + 1, 3⟩).b = Y) := by
       have g := NY.out (by rw [HR2.out, show rankB 60 = 3 from rfl]; simpa using hrk)
       rw [show ((j + 1 : Nat) : Int) = (j : Int) + 1 by omega, show rankB 60 = 3 from rfl] at g
       exact g
      have tr : decide ((r : Int) ≤ 3) = true := by simp; omega
      clear NT NY HR2
      go_wp2_with fail
      go_roundw
      case rel => exact ⟨j + 1 + 1, 3, D, ((j : Int) + 1), by go_num, rfl, rfl, rfl, by trivial, by omega, by omega, by omega, by omega, by omega, HN⟩
      case measure => simp [intOf]; omega
     ·have HN : Hid _ := NT.out (by rw [HR2.out, show rankB 60 = 3 from rfl]; simpa using hrk)
      have tr : decide ((r : Int) ≤ 3) = false := by simp; omega
      clear NT NY HR2
      go_wp2_with fail
      go_roundw
      case rel => exact ⟨j + 1 + 1, r, D, m, by go_num, rfl, rfl, rfl, by trivial, by omega, by omega, by omega, by omega, by omega, HN⟩
      case measure => simp [intOf]; omega
   by_cases hc61 : c = 61
   ·subst hc61
    cases q
    ·have HN : Hid _ := NT.out (by rw [HR2.out]; rfl)
     clear NT NY HR2
     go_wp2_with fail
     go_roundw
     case rel => exact ⟨j + 1 + 1, r, D, m, by go_num, rfl, rfl, rfl, by trivial, by omega, by omega, by omega, by omega, by omega, HN⟩
     case measure => simp [intOf]; omega
    ·by_cases hrk : r ≤ 3
     ·have HN : Hid ((spRun (seg C (j + 1 + 1) hi) (j + 1 + 1) ⟨D, pB C lo (j + 1 + 1), (j : Int) + 1, 3⟩).b = Y) := by
       have g := NY.out (by rw [HR2.out, show rankB 61 = 3 from rfl]; simpa using hrk)
       rw [show ((j + 1 : Nat) : Int) = (j : Int) + 1 by omega, show rankB 61 = 3 from rfl] at g
       exact g
      have tr : decide ((r : Int) ≤ 3) = true := by simp; omega
      clear NT NY HR2
      go_wp2_with fail
      go_roundw
      case rel => exact ⟨j + 1 + 1, 3, D, ((j : Int) + 1), by go_num, rfl, rfl, rfl, by trivial, by omega, by omega, by omega, by omega, by omega, HN⟩
      case measure => simp [intOf]; omega
     ·have HN : Hid _ := NT.out (by rw [HR2.out, show rankB 61 = 3 from rfl]; simpa using hrk)
      have tr : decide ((r : Int) ≤ 3) = false := by simp; omega
      clear NT NY HR2
      go_wp2_with fail
      go_roundw
      case rel => exact ⟨j + 1 + 1, r, D, m, by go_num, rfl, rfl, rfl, by trivial, by omega, by omega, by omega, by omega, by omega, HN⟩
      case measure => simp [intOf]; omega
   by_cases hc43 : c = 43
   ·subst hc43
    cases q
    ·have HN : Hid _ := NT.out (by rw [HR2.out]; rfl)
     clear NT NY HR2
     go_wp2_with fail
     go_roundw
     case rel => exact ⟨j + 1 + 1, r, D, m, by go_num, rfl, rfl, rfl, by trivial, by omega, by omega, by omega, by omega, by omega, HN⟩
     case measure => simp [intOf]; omega
    ·by_cases hrk : r ≤ 2
     ·have HN : Hid ((spRun (seg C (j + 1 + 1) hi) (j + 1 + 1) ⟨D, pB C lo (j + 1 + 1), (j : Int) + 1, 2⟩).b = Y) := by
       have g := NY.out (by rw [HR2.out, show rankB 43 = 2 from rfl]; simpa using hrk)
       rw [show ((j + 1 : Nat) : Int) = (j : Int) + 1 by omega, show rankB 43 = 2 from rfl] at g
       exact g
      have tr : decide ((r : Int) ≤ 2) = true := by simp; omega
      clear NT NY HR2
      go_wp2_with fail
      go_roundw
      case rel => exact ⟨j + 1 + 1, 2, D, ((j : Int) + 1), by go_num, rfl, rfl, rfl, by trivial, by omega, by omega, by omega, by omega, by omega, HN⟩
      case measure => simp [intOf]; omega
     ·have HN : Hid _ := NT.out (by rw [HR2.out, show rankB 43 = 2 from rfl]; simpa using hrk)
      have tr : decide ((r : Int) ≤ 2) = false := by simp; omega
      clear NT NY HR2
      go_wp2_with fail
      go_roundw
      case rel => exact ⟨j + 1 + 1, r, D, m, by go_num, rfl, rfl, rfl, by trivial, by omega, by omega, by omega, by omega, by omega, HN⟩
      case measure => simp [intOf]; omega
   by_cases hc45 : c = 45
   ·subst hc45
    cases q
    ·have HN : Hid _ := NT.out (by rw [HR2.out]; rfl)
     clear NT NY HR2
     go_wp2_with fail
     go_roundw
     case rel => exact ⟨j + 1 + 1, r, D, m, by go_num, rfl, rfl, rfl, by trivial, by omega, by omega, by omega, by omega, by omega, HN⟩
     case measure => simp [intOf]; omega
    ·by_cases hrk : r ≤ 2
     ·have HN : Hid ((spRun (seg C (j + 1 + 1) hi) (j + 1 + 1) ⟨D, pB C lo (j + 1 + 1), (j : Int) + 1, 2⟩).b = Y) := by
       have g := NY.out (by rw [HR2.out, show rankB 45 = 2 from rfl]; simpa using hrk)
       rw [show ((j + 1 : Nat) : Int) = (j : Int) + 1 by omega, show rankB 45 = 2 from rfl] at g
       exact g
      have tr : decide ((r : Int) ≤ 2) = true := by simp; omega
      clear NT NY HR2
      go_wp2_with fail
      go_roundw
      case rel => exact ⟨j + 1 + 1, 2, D, ((j : Int) + 1), by go_num, rfl, rfl, rfl, by trivial, by omega, by omega, by omega, by omega, by omega, HN⟩
      case measure => simp [intOf]; omega
     ·have HN : Hid _ := NT.out (by rw [HR2.out, show rankB 45 = 2 from rfl]; simpa using hrk)
      have tr : decide ((r : Int) ≤ 2) = false := by simp; omega
      clear NT NY HR2
      go_wp2_with fail
      go_roundw
      case rel => exact ⟨j + 1 + 1, r, D, m, by go_num, rfl, rfl, rfl, by trivial, by omega, by omega, by omega, by omega, by omega, HN⟩
      case measure => simp [intOf]; omega
   by_cases hc42 : c = 42
   ·subst hc42
    cases q
    ·have HN : Hid _ := NT.out (by rw [HR2.out]; rfl)
     clear NT NY HR2
     go_wp2_with fail
     go_roundw
     case rel => exact ⟨j + 1 + 1, r, D, m, by go_num, rfl, rfl, rfl, by trivial, by omega, by omega, by omega, by omega, by omega, HN⟩
     case measure => simp [intOf]; omega
    ·by_cases hrk : r ≤ 1
     ·have HN : Hid ((spRun (seg C (j + 1 + 1) hi) (j + 1 + 1) ⟨D, pB C lo (j + 1 + 1), (j : Int) + 1, 1⟩).b = Y) := by
       have g := NY.out (by rw [HR2.out, show rankB 42 = 1 from rfl]; simpa using hrk)
       rw [show ((j + 1 : Nat) : Int) = (j : Int) + 1 by omega, show rankB 42 = 1 from rfl] at g
       exact g
      have tr : decide ((r : Int) ≤ 1) = true := by simp; omega
      clear NT NY HR2
      go_wp2_with fail
      go_roundw
      case rel => exact ⟨j + 1 + 1, 1, D, ((j : Int) + 1), by go_num, rfl, rfl, rfl, by trivial, by omega, by omega, by omega, by omega, by omega, HN⟩
      case measure => simp [intOf]; omega
     ·have HN : Hid _ := NT.out (by rw [HR2.out, show rankB 42 = 1 from rfl]; simpa using hrk)
      have tr : decide ((r : Int) ≤ 1) = false := by simp; omega
      clear NT NY HR2
      go_wp2_with fail
      go_roundw
      case rel => exact ⟨j + 1 + 1, r, D, m, by go_num, rfl, rfl, rfl, by trivial, by omega, by omega, by omega, by omega, by omega, HN⟩
      case measure => simp [intOf]; omega
   by_cases hc47 : c = 47
   ·subst hc47
    cases q
    ·have HN : Hid _ := NT.out (by rw [HR2.out]; rfl)
     clear NT NY HR2
     go_wp2_with fail
     go_roundw
     case rel => exact ⟨j + 1 + 1, r, D, m, by go_num, rfl, rfl, rfl, by trivial, by omega, by omega, by omega, by omega, by omega, HN⟩
     case measure => simp [intOf]; omega
    ·by_cases hrk : r ≤ 1
     ·have HN : Hid ((spRun (seg C (j + 1 + 1) hi) (j + 1 + 1) ⟨D, pB C lo (j + 1 + 1), (j : Int) + 1, 1⟩).b = Y) := by
       have g := NY.out (by rw [HR2.out, show rankB 47 = 1 from rfl]; simpa using hrk)
       rw [show ((j + 1 : Nat) : Int) = (j : Int) + 1 by omega, show rankB 47 = 1 from rfl] at g
       exact g
      have tr : decide ((r : Int) ≤ 1) = true := by simp; omega
      clear NT NY HR2
      go_wp2_with fail
      go_roundw
      case rel => exact ⟨j + 1 + 1, 1, D, ((j : Int) + 1), by go_num, rfl, rfl, rfl, by trivial, by omega, by omega, by omega, by omega, by omega, HN⟩
      case measure => simp [intOf]; omega
     ·have HN : Hid _ := NT.out (by rw [HR2.out, show rankB 47 = 1 from rfl]; simpa using hrk)
      have tr : decide ((r : Int) ≤ 1) = false := by simp; omega
      clear NT NY HR2
      go_wp2_with fail
      go_roundw
      case rel => exact ⟨j + 1 + 1, r, D, m, by go_num, rfl, rfl, rfl, by trivial, by omega, by omega, by omega, by omega, by omega, HN⟩
      case measure => simp [intOf]; omega
   by_cases hc37 : c = 37
   ·subst hc37
    cases q
    ·have HN : Hid _ := NT.out (by rw [HR2.out]; rfl)
     clear NT NY HR2
     go_wp2_with fail
     go_roundw
     case rel => exact ⟨j + 1 + 1, r, D, m, by go_num, rfl, rfl, rfl, by trivial, by omega, by omega, by omega, by omega, by omega, HN⟩
     case measure => simp [intOf]; omega
    ·by_cases hrk : r ≤ 1
     ·have HN : Hid ((spRun (seg C (j + 1 + 1) hi) (j + 1 + 1) ⟨D, pB C lo (j + 1 + 1), (j : Int) + 1, 1⟩).b = Y) := by
       have g := NY.out (by rw [HR2.out, show rankB 37 = 1 from rfl]; simpa using hrk)
       rw [show ((j + 1 : Nat) : Int) = (j : Int) + 1 by omega, show rankB 37 = 1 from rfl] at g
       exact g
      have tr : decide ((r : Int) ≤ 1) = true := by simp; omega
      clear NT NY HR2
      go_wp2_with fail
      go_roundw
      case rel => exact ⟨j + 1 + 1, 1, D, ((j : Int) + 1), by go_num, rfl, rfl, rfl, by trivial, by omega, by omega, by omega, by omega, by omega, HN⟩
      case measure => simp [intOf]; omega
     ·have HN : Hid _ := NT.out (by rw [HR2.out, show rankB 37 = 1 from rfl]; simpa using hrk)
      have tr : decide ((r : Int) ≤ 1) = false := by simp; omega
      clear NT NY HR2
      go_wp2_with fail
      go_roundw
      case rel => exact ⟨j + 1 + 1, r, D, m, by go_num, rfl, rfl, rfl, by trivial, by omega, by omega, by omega, by omega, by omega, HN⟩
      case measure => simp [intOf]; omega
   have t60 : ((c.toNat : Int) == 60) = false := by exact (byte_is (k := 60)).trans (by simpa using hc60)
   have t61 : ((c.toNat : Int) == 61) = false := by exact (byte_is (k := 61)).trans (by simpa using hc61)
   have t43 : ((c.toNat : Int) == 43) = false := by exact (byte_is (k := 43)).trans (by simpa using hc43)
   have t45 : ((c.toNat : Int) == 45) = false := by exact (byte_is (k := 45)).trans (by simpa using hc45)
   have t42 : ((c.toNat : Int) == 42) = false := by exact (byte_is (k := 42)).trans (by simpa using hc42)
   have t47 : ((c.toNat : Int) == 47) = false := by exact (byte_is (k := 47)).trans (by simpa using hc47)
   have t37 : ((c.toNat : Int) == 37) = false := by exact (byte_is (k := 37)).trans (by simpa using hc37)
   have HN : Hid _ := NT.out (by rw [HR2.out, show rankB c = 0 by unfold rankB; simp [hc60, hc61, hc43, hc45, hc42, hc47, hc37]]; simp)
   clear NT NY HR2 hc60 hc61 hc43 hc45 hc42 hc47 hc37
   go_wp2_with fail
   go_roundw
   case rel => exact ⟨j + 1 + 1, r, D, m, by go_num, rfl, rfl, rfl, by trivial, by omega, by omega, by omega, by omega, by omega, HN⟩
   case measure => simp [intOf]; omega
  ·have tk : decide ((k : Int) < (hi : Int)) = false := by simp; omega
   have hY : m = Y := by
    have := HS.out
    rw [show k = hi by omega] at this
    simpa [seg, spRun] using this
   go_wp2_with fail
   go_ret
   rw [hY]
   exact ⟨rfl, rfl⟩
end Go.Proofs.YtdgmoiflahoihaaGreatDoor
