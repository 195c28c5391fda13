import Derived.Test.YtdgmoiflahoihaaGreatRAVw
import Derived.Test.YtdgmoiflahoihaaGreatRTakew
import Derived.Test.YtdgmoiflahoihaaGreatLIw

namespace Go.Proofs.YtdgmoiflahoihaaGreat
open Go.RowKit
set_option linter.unusedSimpArgs false
set_option linter.unusedVariables false
theorem fieldsF_end {C : List UInt8} {B f i : Nat} {l : List Int} (h : fieldsF C B f i = some l) (hi : ¬ i < B) : l = [] := by
 cases f with
 | zero => cases h
 | succ f =>
  unfold fieldsF at h
  rw [if_neg hi] at h
  cases h
  rfl
theorem fieldsF_step {C : List UInt8} {B f i : Nat} {l : List Int} (h : fieldsF C B f i = some l) (hi : i < B) : ∃ (h0 : i < C.length) (h1 : i + 1 < C.length) (o f' : Nat) (r : List Int), overC C i = some o ∧ fieldsF C B f' o = some r ∧ l = (if C[i] = 63 then ((C[i + 1].toNat : Int) - 97) :: r else r) := by
 cases f with
 | zero => cases h
 | succ f =>
  unfold fieldsF at h
  rw [if_pos hi] at h
  cases hc : C[i]? with
  | none => rw [hc] at h; simp at h
  | some c =>
   cases hd : C[i + 1]? with
   | none => rw [hc, hd] at h; simp at h
   | some d =>
    cases ho : overC C i with
    | none => rw [hc, hd, ho] at h; simp at h
    | some o =>
     rw [hc, hd, ho] at h
     simp only at h
     cases hr : fieldsF C B f o with
     | none => rw [hr] at h; simp at h
     | some r =>
      rw [hr] at h
      simp only [Option.some.injEq] at h
      obtain ⟨q0, rfl⟩ := List.getElem?_eq_some_iff.mp hc
      obtain ⟨q1, rfl⟩ := List.getElem?_eq_some_iff.mp hd
      exact ⟨q0, q1, o, f, r, rfl, hr, h.symm⟩
theorem num_new (w : World) (x : Int) (t : TypeId) : ∀ j u, ([.int .i64 x] : List Value)[j]? = some u → (w.alloc (.cells #[.int .i64 x] t)).cell? ((⟨w.heap.size, 0, none⟩ : Addr).add j) = some u := by
 intro j u h
 match j, h with
 | 0, h => simp at h; subst h; simp [go_sem, Addr.add]
 | j + 1, h => simp at h
theorem grown_low {w W w2 : World} {ob : Obj} {row : Option Nat} (hB : Below w.heap.size w W) (hg : (W.alloc ob).grownBy w2 row) (hr : ∀ k, row = some k → w.heap.size ≤ k) : Below w.heap.size w w2 := by
 have hs := hB.size
 have hs2 : W.heap.size + 1 ≤ w2.heap.size := by have := hg.size; simpa using this
 exact ⟨hg.os.trans hB.os, hg.tape.trans hB.tape, hg.output.trans hB.output, by omega, fun k hk => ((hg.block k (by simp; omega) (fun e => by have := hr k e.symm; omega)).trans (Below.heap_alloc _ _ _ (by omega))).trans (hB.block k hk)⟩
set_option maxRecDepth 100000 in
set_option maxHeartbeats 4000000 in
theorem fields_any (b B F : Nat) (C : List UInt8) (A : List Int) (ns : List Int) (w : World) (hb : BookAt w b C A) (hB : beginC C = some B) (hBl : B ≤ C.length) (hns : fieldsF C B F 0 = some ns) :
  Calls Tryz.prog 18 #[.pointer (some ⟨b, 0, none⟩)] w fun e w' => (∃ v, e = .returned v ∧ w'.ownsRow w.heap.size 3 1 v ns.length (numRow ns)) ∧ Below w.heap.size w w' := by
 have HB : Hid (BookAt w b C A) := hb
 have HBE : Hid (beginC C = some B) := hB
 have HN : Hid (fieldsF C B F 0 = some ns) := hns
 have hC := hb.small
 obtain ⟨iV, hiV, hzV, hsV, hbV⟩ := parts_of_info infoInt3
 clear hb hB hns
 go_enter Tryz.func18, Tryz.ntmps18
 go_wp2_with fail
 go_loopw [3, 4] (fun x y w' => ∃ (an : Option Addr) (nn cn i f : Nat) (M r : List Int), x = .slice an nn cn ∧ y = .int .i64 i ∧ i ≤ C.length ∧ M.length ≤ i ∧ Hid (w'.ownsRow w.heap.size 3 1 (.slice an nn cn) M.length (numRow M)) ∧ Hid (Below w.heap.size w w') ∧ Hid (fieldsF C B f i = some r) ∧ Hid (M ++ r = ns)) (fun _ y _ => 500 - (intOf y).toNat)
 case atStart => exact ⟨none, 0, 0, 0, F, [], ns, rfl, rfl, by omega, by simp, World.ownsRow_nil .., Below.refl _ _, HN, rfl⟩
 case round =>
  obtain ⟨an, nn, cn, i, f, M, r, rfl, rfl, hi, hM, HO, HW, HF, HE⟩ := hrel
  have HBW : Hid (BookAt wr b C A) := HB.out.below HW.out
  have hws := HW.out.size
  by_cases hlt : i < B
  ·have tk : decide ((i : Int) < (B : Int)) = true := by simp; omega
   obtain ⟨q0, q1, o, f', r', hov, hf', hr⟩ := fieldsF_step HF.out hlt
   have hog := over_gt hov
   have hol := over_le hov
   have HOV : Hid (overC C i = some o) := hov
   have HF' : Hid (fieldsF C B f' o = some r') := hf'
   obtain ⟨_, _, ac, aa, bc, ba, capc, capa, h0, h1, hc, ha⟩ := HBW.out
   obtain ⟨rfl, hci⟩ := hc i q0
   obtain ⟨_, hcj⟩ := hc (i + 1) q1
   have hd := C[i + 1].toNat_lt
   generalize hcc : C[i] = c at *
   generalize C[i + 1] = d at *
   clear hc ha h1 hf' hov hcc
   by_cases h63 : c = 63
   ·subst h63
    rw [if_pos rfl] at hr
    have hci : wr.cell? ⟨bc, i, none⟩ = some (.int .u8 63) := hci
    have HE2 : Hid ((M ++ [(d.toNat : Int) - 97]) ++ r' = ns) := by show _ = _; have := HE.out; rw [hr] at this; simpa using this
    have m1 : M.length + 1 ≤ maxLen := by unfold maxLen; omega
    have m2 : (M.length + 1) * 8 ≤ 140737488355328 := by omega
    have m3 : ∀ ob, w.heap.size ≤ (wr.alloc ob).heap.size := fun ob => by simp; omega
    have HOB : Hid (∀ k, (Value.slice an nn cn).ownBlock = some k → w.heap.size ≤ k) := fun k hk => (HO.out.lt k hk).1
    have hpos : 0 < M.length + 1 := by omega
    clear hr
    generalize d.toNat = de at *
    have ii0 : (0 : Int) ≤ (i : Int) + 1 := by omega
    have ii1 : (i : Int) + 1 < (C.length : Int) := by omega
    go_wp2_with (first | (go_at_call 20; refine (begin_any b B C A _ HBW.out HBE.out).mono ?_; rintro e1 w1 ⟨rfl, hw1⟩; rw [hw1]; clear hw1) | (at_builtin; refine wpList_append_fresh rfl (.tmp 20) (.tmp 31) 22 rfl w.heap.size 3 iV (.int .i64 0) 1 8 Tryz.underlying22 hiV hzV hsV hbV rfl (by decide) (.slice an nn cn) M.length (numRow M) (by rfl) (by exact HO.out.alloc _) ⟨wr.heap.size, 0, none⟩ 1 1 [.int .i64 ((de : Int) - 97)] (by rfl) rfl (by exact num_new wr _ 3) (by intro q hq; simp at hq; subst hq; rfl) m1 m2 (m3 _) (by decide) ?_; intro v' w2 hown hgrow hfr; have hlow2 := grown_low HW.out hgrow HOB.out; clear hfr hgrow; obtain ⟨gn, capn, rfl⟩ := Joins.ownsRow_form hown hpos; have HOWN : Hid _ := hown; have HLOW : Hid (Below w.heap.size w w2) := hlow2; clear hown hlow2) | (go_at_call 36; refine (over_any b i o C A _ (HB.out.below HLOW.out) HOV.out).mono ?_; rintro e1 w1 ⟨rfl, hw1⟩; rw [hw1]; clear hw1))
    go_roundw
    case rel => exact ⟨some ⟨gn, 0, none⟩, _, capn, o, f', M ++ [(de : Int) - 97], r', rfl, rfl, by omega, by simp; omega, by show World.ownsRow _ _ _ _ _ _ _; rw [show numRow (M ++ [(de : Int) - 97]) = numRow M ++ [.int .i64 ((de : Int) - 97)] by simp [numRow], show (M ++ [(de : Int) - 97]).length = M.length + 1 by simp]; exact HOWN.out, HLOW, HF', HE2⟩
    case measure => simp [intOf]; omega
   ·have t63 : ((c.toNat : Int) == 63) = false := by exact (byte_is (k := 63)).trans (by simpa using h63)
    rw [if_neg h63] at hr
    have HE2 : Hid (M ++ r' = ns) := by have := HE.out; rw [hr] at this; exact this
    clear hr h63
    go_wp2_with (first | (go_at_call 20; refine (begin_any b B C A _ HBW.out HBE.out).mono ?_; rintro e1 w1 ⟨rfl, hw1⟩; rw [hw1]; clear hw1) | (go_at_call 36; refine (over_any b i o C A _ HBW.out HOV.out).mono ?_; rintro e1 w1 ⟨rfl, hw1⟩; rw [hw1]; clear hw1))
    go_roundw
    case rel => exact ⟨an, nn, cn, o, f', M, r', rfl, rfl, by omega, by omega, HO, HW, HF', HE2⟩
    case measure => simp [intOf]; omega
  ·have tk : decide ((i : Int) < (B : Int)) = false := by simp; omega
   have hr := fieldsF_end HF.out hlt
   have hE : M = ns := by have := HE.out; rw [hr, List.append_nil] at this; exact this
   go_wp2_with (first | (go_at_call 20; refine (begin_any b B C A _ HBW.out HBE.out).mono ?_; rintro e1 w1 ⟨rfl, hw1⟩; rw [hw1]; clear hw1))
   go_ret
   rw [← hE]
   exact ⟨⟨_, rfl, HO.out⟩, HW.out⟩
end Go.Proofs.YtdgmoiflahoihaaGreat
