import Derived.Test.YtdgmoiflahoihaaGreatDoorFNextw
import Derived.Test.YtdgmoiflahoihaaGreatDoorPlainw
import Derived.RegionTactic
import Derived.ChangeAlike
import Derived.Deep.RegionWith
import Derived.Deep.Cut
import Derived.Deep.CutRange

namespace Go.Proofs.YtdgmoiflahoihaaGreatDoor
open Go.RowKit
set_option linter.unusedSimpArgs false
set_option linter.unusedVariables false
theorem ret_int {k : IntKind} {a b : Int} (h : a = b) : Ending.returned (.int k a) = .returned (.int k b) := by rw [h]
set_option maxHeartbeats 1000000 in
theorem blank_any (c : UInt8) (w : World) :
  Calls Tryz.prog 76 #[.int .u8 c.toNat] w fun e w' => e = .returned (.bool (blankB c)) ∧ w' = w := by
 by_cases h32 : c = 32
 ·subst h32
  go_enter Tryz.func76, Tryz.ntmps76
  go_wp2
  go_ret
  exact ⟨rfl, rfl⟩
 by_cases h10 : c = 10
 ·subst h10
  go_enter Tryz.func76, Tryz.ntmps76
  go_wp2
  go_ret
  exact ⟨rfl, rfl⟩
 ·have k32 : ((c.toNat : Int) == 32) = false := u8_ne (b := 32) h32
  have k10 : ((c.toNat : Int) == 10) = false := u8_ne (b := 10) h10
  have hb : blankB c = false := by simp [blankB, h32, h10]
  rw [hb]
  go_enter Tryz.func76, Tryz.ntmps76
  go_wp2
  go_ret
  exact ⟨rfl, rfl⟩
set_option maxHeartbeats 1000000 in
theorem place_any (s : ByteArray) (w : World) (hs : s.size ≤ 400) :
  Calls Tryz.prog 71 #[.string s] w fun e w' => e = .returned (.int .i64 (placeOf s.data.toList)) ∧ Below w.heap.size w w' := by
 go_enter Tryz.func71, Tryz.ntmps71
 go_wp2
 go_loopw [4] (fun i w' => ∃ (k : Nat) (f : Fm), k ≤ s.size ∧ i = .int .i64 k ∧ f.Small k ∧ FormAt w' w.heap.size f ∧ Below w.heap.size w w' ∧ Hid (placeR (s.data.toList.drop k) f k = placeOf s.data.toList)) (fun i w' => s.size - (intOf i).toNat)
 case atStart =>
  exact ⟨0, Fm.start, Nat.zero_le _, rfl, ⟨Nat.zero_le _, by decide, by decide, by decide⟩, FormAt.new w Fm.start, Below.alloc (Below.refl _ _) (Nat.le_refl _) _, rfl⟩
 case round =>
  obtain ⟨k, f, hk, rfl, hsm, hfa, hbw, HP⟩ := hrel
  obtain ⟨c0, c1, c2, c3, c4, c5, c6, c7, fz, lt⟩ := hfa
  by_cases hlt : k < s.size
  ·cases hbk : blankB s[k]
   case true =>
    go_wp2_with (first | (go_at_call 76; refine (blank_any _ _).mono ?_; rintro e w' ⟨rfl, rfl⟩))
    exact ⟨⟨k + 1, f, by omega, by go_num, small_mono hsm (by omega), ⟨c0, c1, c2, c3, c4, c5, c6, c7, fz, lt⟩, hbw, (place_blank hlt hbk).trans HP.out⟩, by simp [intOf]; omega⟩
   case false =>
    have hu := fun W => next_any f (s[k].toNat : Int) W (by have := hsm.op; omega) hsm.block hsm.d0 (by have := hsm.d1; omega)
    have hgs := small_next (s[k].toNat : Int) hsm
    generalize hr : Fm.next f (s[k].toNat : Int) = r at *
    obtain ⟨g, ok⟩ := r
    have HU : Hid (∀ w, _) := hu
    have HR := (show Hid (Fm.next f (s[k].toNat : Int) = (g, ok)) from hr)
    clear hu hr
    obtain ⟨a1, a2, a3, a4, a5, a6, a7, a8⟩ := g
    simp only [fv] at HU
    go_upto_region 7 with (first | (go_at_call 76; refine (blank_any _ _).mono ?_; rintro e w' ⟨rfl, rfl⟩))
    go_cut [6, 7] from 9 to 32 (fun g o wx => ∃ bg, g = .pointer (some ⟨bg, 0, none⟩) ∧ o = .bool ok ∧ FormAt wx bg ⟨a1, a2, a3, a4, a5, a6, a7, a8⟩ ∧ FormAt wx w.heap.size f ∧ Below w.heap.size w wx ∧ w.heap.size < bg)
    case first =>
     go_region_with (go_at_call 105; rw [wrap_byte]; refine (HU.out _).mono ?_; rintro e w1 ⟨rfl, hb⟩; obtain ⟨hc, hf⟩ := bcell hb; have hz := hb.size; simp at hz)
     all_goals (go_wp2_with fail; go_meet)
     all_goals
      refine ⟨_, rfl, rfl, ?_⟩
      first
      | (obtain ⟨r1, r2, r3, r4⟩ := relA ⟨a1, a2, a3, a4, a5, a6, a7, a8⟩ hb (FormAt.drew ⟨c0, c1, c2, c3, c4, c5, c6, c7, fz, lt⟩); exact ⟨r1, r2, (hbw.drew).trans (r3.mono (Nat.le_of_lt lt)), r4⟩)
      | (obtain ⟨r1, r2, r3, r4⟩ := relB ⟨a1, a2, a3, a4, a5, a6, a7, a8⟩ hb (f := f) (B := w.heap.size) (b0 := w'.heap.size) (z := Fm.start) (by exact (FormAt.below (W := w') ⟨c0, c1, c2, c3, c4, c5, c6, c7, fz, lt⟩ (Below.alloc (Below.refl w'.heap.size _) (Nat.le_refl _) _) lt).drew) (by exact (FormAt.new w' Fm.start).drew) lt; exact ⟨r1, r2, (Below.drew (hbw.alloc (Nat.le_of_lt lt) _)).trans (r3.mono (Nat.le_of_lt lt)), r4⟩)
    case rest =>
     obtain ⟨bg, rfl, rfl, hfg, hff, hbx, hlb⟩ := hcut
     obtain ⟨g0, g1, g2, g3, g4, g5, g6, g7, gfz, glt⟩ := hfg
     have hff' := hff
     obtain ⟨d0, d1, d2, d3, d4, d5, d6, d7, dfz, dlt⟩ := hff
     clear c0 c1 c2 c3 c4 c5 c6 c7 fz lt hbw
     cases ok
     ·go_wp2_with fail
      go_ret
      exact ⟨ret_int ((place_stop hlt hbk HR.out).trans HP.out), hbx⟩
     ·go_wp2_with fail
      exact ⟨⟨k + 1, ⟨a1, a2, a3, a4, a5, a6, a7, a8⟩, by omega, by go_num, hgs, FormAt.store ⟨a1, a2, a3, a4, a5, a6, a7, a8⟩ hff', hbx.trans (below_store ⟨a1, a2, a3, a4, a5, a6, a7, a8⟩ (Nat.le_refl _)), (place_step hlt hbk HR.out).trans HP.out⟩, by simp [intOf]; omega⟩
  ·have he := (place_end (s := s) (k := k) (f := f) (by omega)).symm.trans HP.out
   obtain ⟨st, op, body, digits, last, purpose, related, block⟩ := f
   have hks : k = s.size := by omega
   subst hks
   by_cases s0 : st = 0
   ·subst s0
    cases op with
    | nil =>
     have he2 : -1 = placeOf s.data.toList := by simpa [Fm.done] using he
     have HE : Hid (-1 = placeOf s.data.toList) := he2
     clear he he2
     simp only at c0 c1 c2 c3 c4 c5 c6 c7
     go_wp2
     go_ret
     exact ⟨ret_int HE.out, hbw⟩
    | cons a l =>
     have he2 : (s.size : Int) = placeOf s.data.toList := by simpa [Fm.done] using he
     have HE : Hid ((s.size : Int) = placeOf s.data.toList) := he2
     clear he he2
     simp only at c0 c1 c2 c3 c4 c5 c6 c7
     go_wp2
     go_ret
     exact ⟨ret_int HE.out, hbw⟩
   by_cases s1 : st = 1
   ·subst s1
    cases op with
    | nil =>
     have he2 : -1 = placeOf s.data.toList := by simpa [Fm.done] using he
     have HE : Hid (-1 = placeOf s.data.toList) := he2
     clear he he2
     simp only at c0 c1 c2 c3 c4 c5 c6 c7
     go_wp2
     go_ret
     exact ⟨ret_int HE.out, hbw⟩
    | cons a l =>
     have he2 : (s.size : Int) = placeOf s.data.toList := by simpa [Fm.done] using he
     have HE : Hid ((s.size : Int) = placeOf s.data.toList) := he2
     clear he he2
     simp only at c0 c1 c2 c3 c4 c5 c6 c7
     go_wp2
     go_ret
     exact ⟨ret_int HE.out, hbw⟩
   ·have n0 : (st != 0) = true := by simp only [bne_iff_ne, ne_eq]; omega
    have n1 : (st != 1) = true := by simp only [bne_iff_ne, ne_eq]; omega
    have he2 : (s.size : Int) = placeOf s.data.toList := by simpa [Fm.done, s0, s1] using he
    have HE : Hid ((s.size : Int) = placeOf s.data.toList) := he2
    clear he he2
    simp only at c0 c1 c2 c3 c4 c5 c6 c7
    go_wp2
    go_ret
    exact ⟨ret_int HE.out, hbw⟩
end Go.Proofs.YtdgmoiflahoihaaGreatDoor
