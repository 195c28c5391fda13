import Derived.Test.YtdgmoiflahoihaaGreatDoorCBitsw
import Derived.Test.YtdgmoiflahoihaaGreatDoorPlainw
import Derived.Deep.QuietTactic
import Derived.BigQuiet

namespace Go.Proofs.YtdgmoiflahoihaaGreatDoor
open Go.RowKit
set_option linter.unusedSimpArgs false
set_option linter.unusedVariables false
theorem BookAt.below {w w' : World} {b : Nat} {C : List UInt8} {A : List Int} (h : BookAt w b C A) (hb : Below w.heap.size w w') : BookAt w' b C A := by
 obtain ⟨hC, hA, ac, aa, bc, ba, capc, capa, h0, h1, hc, ha⟩ := h
 have k := fun (p : Addr) (v : Value) (e : w.cell? p = some v) => (hb.cell (block_lt_of_cell e)).trans e
 exact ⟨hC, hA, ac, aa, bc, ba, capc, capa, k _ _ h0, k _ _ h1, fun i hi => ⟨(hc i hi).1, k _ _ (hc i hi).2⟩, fun i hi => ⟨(ha i hi).1, k _ _ (ha i hi).2⟩⟩
set_option maxHeartbeats 1000000 in
theorem head_any (b : Nat) (name r : Int) (C : List UInt8) (A : List Int) (w : World) (hb : BookAt w b C A) (ho : headC C name = some r) :
  Calls Tryz.prog 148 #[.pointer (some ⟨b, 0, none⟩), .int .i64 name] w fun x w' => x = .returned (.int .i64 r) ∧ w' = w := by
 unfold headC at ho
 cases hbe : beginC C with
 | none => rw [hbe] at ho; cases ho
 | some B =>
 rw [hbe] at ho
 have HB : Hid (BookAt w b C A) := hb
 have HBE : Hid (beginC C = some B) := hbe
 have HO : Hid (headF C B name (C.length + 1) 0 = some r) := ho
 obtain ⟨hC, hA, ac, aa, bc, ba, capc, capa, h0, h1, hc, ha⟩ := hb
 clear hbe ho
 go_enter Tryz.func148, Tryz.ntmps148
 go_wp2_with fail
 go_loop [5] (fun x => ∃ (k f : Nat), x = .int .i64 k ∧ k ≤ C.length ∧ Hid (headF C B name f k = some r)) (fun x => 500 - (intOf x).toNat)
 case atStart => exact ⟨0, C.length + 1, rfl, by omega, HO⟩
 case round =>
  obtain ⟨k, f, rfl, hk1, HK⟩ := hrel
  go_wp2_with fail
  refine (begin_any b B C A _ HB.out HBE.out).mono ?_
  rintro x w' ⟨rfl, rfl⟩
  by_cases hlt : k < B
  ·obtain ⟨h1l, o, hov, hy, hn⟩ := head_step HK.out hlt
   have hog := over_gt hov
   have hol := over_le hov
   obtain ⟨rfl, hcd⟩ := hc (k + 1) h1l
   have hbd := C[k + 1].toNat_lt
   by_cases hnm : (C[k + 1].toNat : Int) - 97 = name
   ·obtain ⟨l, j, hl, hlr⟩ := hy hnm
    have HL : Hid (labelC C (k + 3) = some (l, j)) := hl
    have HR : Hid ((l : Int) = r) := hlr
    have tnm : ((C[k + 1].toNat : Int) - 97 == name) = true := by simp [hnm]
    clear hl hlr hy hn hnm hov
    go_wp2_with fail
    rw [show ((k : Int) + 3) = ((k + 3 : Nat) : Int) by omega]
    refine (label_any b (k + 3) l j C A _ HB.out HL.out).mono ?_
    rintro x w' ⟨rfl, rfl⟩
    go_wp2_with fail
    go_ret
    exact ⟨ret_int HR.out, rfl⟩
   ·obtain ⟨f', hf⟩ := hn hnm
    have HF : Hid (headF C B name f' o = some r) := hf
    have HV : Hid (overC C k = some o) := hov
    have tnm : ((C[k + 1].toNat : Int) - 97 == name) = false := by simp [hnm]
    clear hf hy hn hnm hov
    go_wp2_with fail
    refine (over_any b k o C A _ HB.out HV.out).mono ?_
    rintro x w' ⟨rfl, rfl⟩
    go_wp2_with fail
    exact ⟨⟨o, f', rfl, by omega, HF⟩, by simp [intOf]; omega⟩
  ·have HF : Hid (-1 = r) := head_end HK.out (by omega)
   go_wp2_with fail
   go_ret
   exact ⟨ret_int HF.out, rfl⟩
end Go.Proofs.YtdgmoiflahoihaaGreatDoor
namespace Go.Proofs.YtdgmoiflahoihaaGreatDoor
open Go.RowKit
set_option linter.unusedSimpArgs false
set_option linter.unusedVariables false
theorem BookAt.drewN {w : World} {b : Nat} {C : List UInt8} {A : List Int} (h : BookAt w b C A) (n : Nat) : BookAt (w.drewN n) b C A :=
 h.below (below_drewN (Below.refl _ _) n)
set_option maxHeartbeats 1000000 in
theorem twice_any (b : Nat) (r : Int) (C : List UInt8) (A : List Int) (w : World) (hb : BookAt w b C A) (ho : twiceC C A = some r) :
  Calls Tryz.prog 72 #[.pointer (some ⟨b, 0, none⟩)] w fun x w' => x = .returned (.int .i64 r) ∧ ∃ n, w' = w.drewN n := by
 unfold twiceC at ho
 cases hbe : beginC C with
 | none => rw [hbe] at ho; cases ho
 | some B =>
 rw [hbe] at ho
 have HB : Hid (BookAt w b C A) := hb
 have HBE : Hid (beginC C = some B) := hbe
 have HO : Hid (twiceF C A B (C.length + 1) 0 = some r) := ho
 obtain ⟨hC, hA, ac, aa, bc, ba, capc, capa, h0, h1, hc, ha⟩ := hb
 clear hbe ho
 go_enter Tryz.func72, Tryz.ntmps72
 go_wp2_with fail
 go_loopw [3] (fun x w' => ∃ (k f n : Nat), x = .int .i64 k ∧ k ≤ C.length ∧ w' = w.drewN n ∧ Hid (twiceF C A B f k = some r)) (fun x w' => 500 - (intOf x).toNat)
 case atStart => exact ⟨0, C.length + 1, 0, rfl, by omega, rfl, HO⟩
 case round =>
  obtain ⟨i, f, n0, rfl, hk1, rfl, HK⟩ := hrel
  go_wp2_with fail
  refine (begin_any b B C A _ (HB.out.drewN n0) HBE.out).mono ?_
  rintro x w' ⟨rfl, hw'⟩
  subst hw'
  by_cases hlt : i < B
  ·obtain ⟨t, o, hti, hov, hy, hn⟩ := twice_step HK.out hlt
   have hog := over_gt hov
   have hol := over_le hov
   have HTI : Hid (twiceIn C i (C.length + 1) 0 = some t) := hti
   have HV : Hid (overC C i = some o) := hov
   have HY : Hid (t = true → A[i + 1]? = some r) := hy
   have HN : Hid (t = false → ∃ f', twiceF C A B f' o = some r) := hn
   clear hti hov hy hn
   go_wp2_with fail
   go_loopw [4] (fun x w' => ∃ (k f n : Nat), x = .int .i64 k ∧ k ≤ C.length ∧ w' = w.drewN n ∧ Hid (twiceIn C i f k = some t)) (fun x w' => 500 - (intOf x).toNat)
   case atStart => exact ⟨0, C.length + 1, n0, rfl, by omega, rfl, HTI⟩
   case round =>
    obtain ⟨k, f2, n1, rfl, hk2, rfl, HT⟩ := hrel
    by_cases hlk : k < i
    ·obtain ⟨h1l, h2l, o2, hov2, hy2, hn2⟩ := twiceIn_step HT.out hlk
     have hog2 := over_gt hov2
     have hol2 := over_le hov2
     obtain ⟨rfl, hcd⟩ := hc (k + 1) h1l
     obtain ⟨_, hce⟩ := hc (i + 1) h2l
     by_cases hne : C[k + 1] = C[i + 1]
     ·have ht := hy2 hne
      have hyy := HY.out ht
      obtain ⟨h3l, h4⟩ := List.getElem?_eq_some_iff.mp hyy
      obtain ⟨rfl, hda⟩ := ha (i + 1) h3l
      have tne : ((C[k + 1].toNat : Int) == (C[i + 1].toNat : Int)) = true := u8_eq hne
      have H4 : Hid (A[i + 1] = r) := h4
      clear hyy h4 hy2 hn2 hov2 hne
      go_wp2_with fail
      go_quiet (fail)
      go_wp2
      go_ret
      exact ⟨ret_int H4.out, _, rfl⟩
     ·obtain ⟨f', hf⟩ := hn2 hne
      have HF : Hid (twiceIn C i f' o2 = some t) := hf
      have HV2 : Hid (overC C k = some o2) := hov2
      have tne : ((C[k + 1].toNat : Int) == (C[i + 1].toNat : Int)) = false := u8_ne hne
      clear hf hy2 hn2 hov2 hne
      go_wp2_with fail
      go_quiet (fail)
      go_wp2_with fail
      refine (over_any b k o2 C A _ (by first | exact (HB.out.drewN n1).drewN _ | exact HB.out.drewN _) HV2.out).mono ?_
      rintro x w' ⟨rfl, hw'⟩
      subst hw'
      go_wp2_with fail
      exact ⟨⟨o2, f', _, rfl, by omega, rfl, HF⟩, by simp [intOf]; omega⟩
    ·have hf := twiceIn_end HT.out (by omega)
     obtain ⟨f', hf2⟩ := HN.out hf
     have HF : Hid (twiceF C A B f' o = some r) := hf2
     clear hf2 hf
     go_wp2_with fail
     refine (over_any b i o C A _ (HB.out.drewN _) HV.out).mono ?_
     rintro x w' ⟨rfl, hw'⟩
     subst hw'
     go_wp2_with fail
     exact ⟨⟨o, f', _, rfl, by omega, rfl, HF⟩, by simp [intOf]; omega⟩
  ·have HF : Hid (-1 = r) := twice_end HK.out (by omega)
   go_wp2_with fail
   go_ret
   exact ⟨ret_int HF.out, n0, rfl⟩
end Go.Proofs.YtdgmoiflahoihaaGreatDoor
