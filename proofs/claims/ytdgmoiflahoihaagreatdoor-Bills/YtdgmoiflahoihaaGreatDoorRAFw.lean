import Derived.Test.YtdgmoiflahoihaaGreatDoorRAVw
import Derived.Test.YtdgmoiflahoihaaGreatDoorRDow
import Derived.Test.YtdgmoiflahoihaaGreatDoorLIw
import Derived.Test.YtdgmoiflahoihaaGreatDoorPCheckw

namespace Go.Proofs.YtdgmoiflahoihaaGreatDoor
open Go.RowKit
set_option linter.unusedSimpArgs false
set_option linter.unusedVariables false
theorem fieldsF_end {C : List UInt8} {B f i : Nat} {l : List Int} (h : fieldsF C B f i = some l) (hi : ¬ i < B) : l = [] := by
 cases f with
 | zero => cases h
 | succ f =>
  unfold fieldsF at h
  rw [if_neg hi] at h
  cases h
  rfl
theorem fieldsF_step {C : List UInt8} {B f i : Nat} {l : List Int} (h : fieldsF C B f i = some l) (hi : i < B) : ∃ (h0 : i < C.length) (h1 : i + 1 < C.length) (o f' : Nat) (r : List Int), overC C i = some o ∧ fieldsF C B f' o = some r ∧ l = (if C[i] = 63 then ((C[i + 1].toNat : Int) - 97) :: r else r) := by
 cases f with
 | zero => cases h
 | succ f =>
  unfold fieldsF at h
  rw [if_pos hi] at h
  cases hc : C[i]? with
  | none => rw [hc] at h; simp at h
  | some c =>
   cases hd : C[i + 1]? with
   | none => rw [hc, hd] at h; simp at h
   | some d =>
    cases ho : overC C i with
    | none => rw [hc, hd, ho] at h; simp at h
    | some o =>
     rw [hc, hd, ho] at h
     simp only at h
     cases hr : fieldsF C B f o with
     | none => rw [hr] at h; simp at h
     | some r =>
      rw [hr] at h
      simp only [Option.some.injEq] at h
      obtain ⟨q0, rfl⟩ := List.getElem?_eq_some_iff.mp hc
      obtain ⟨q1, rfl⟩ := List.getElem?_eq_some_iff.mp hd
      exact ⟨q0, q1, o, f, r, rfl, hr, h.symm⟩
theorem num_new (w : World) (x : Int) (t : TypeId) : ∀ j u, ([.int .i64 x] : List Value)[j]? = some u → (w.alloc (.cells #[.int .i64 x] t)).cell? ((⟨w.heap.size, 0, none⟩ : Addr).add j) = some u := by
 intro j u h
 match j, h with
 | 0, h => simp at h; subst h; simp [go_sem, Addr.add]
 | j + 1, h => simp at h
theorem grown_low {w W w2 : World} {ob : Obj} {row : Option Nat} (hB : Below w.heap.size w W) (hg : (W.alloc ob).grownBy w2 row) (hr : ∀ k, row = some k → w.heap.size ≤ k) : Below w.heap.size w w2 := by
 have hs := hB.size
 have hs2 : W.heap.size + 1 ≤ w2.heap.size := by have := hg.size; simpa using this
 exact ⟨hg.os.trans hB.os, hg.tape.trans hB.tape, hg.output.trans hB.output, by omega, fun k hk => ((hg.block k (by simp; omega) (fun e => by have := hr k e.symm; omega)).trans (Below.heap_alloc _ _ _ (by omega))).trans (hB.block k hk)⟩
set_option maxRecDepth 100000 in
set_option maxHeartbeats 4000000 in
theorem fields_any (b B F : Nat) (C : List UInt8) (A : List Int) (ns : List Int) (w : World) (hb : BookAt w b C A) (hB : beginC C = some B) (hBl : B ≤ C.length) (hns : fieldsF C B F 0 = some ns) :
  Calls Tryz.prog 45 #[.pointer (some ⟨b, 0, none⟩)] w fun e w' => (∃ v, e = .returned v ∧ w'.ownsRow w.heap.size 3 1 v ns.length (numRow ns)) ∧ Below w.heap.size w w' := by
 have HB : Hid (BookAt w b C A) := hb
 have HBE : Hid (beginC C = some B) := hB
 have HN : Hid (fieldsF C B F 0 = some ns) := hns
 have hC := hb.small
 obtain ⟨iV, hiV, hzV, hsV, hbV⟩ := parts_of_info infoInt3
 clear hb hB hns
 go_enter Tryz.func45, Tryz.ntmps45
 go_wp2_with fail
 go_loopw [3, 4] (fun x y w' => ∃ (an : Option Addr) (nn cn i f : Nat) (M r : List Int), x = .slice an nn cn ∧ y = .int .i64 i ∧ i ≤ C.length ∧ M.length ≤ i ∧ Hid (w'.ownsRow w.heap.size 3 1 (.slice an nn cn) M.length (numRow M)) ∧ Hid (Below w.heap.size w w') ∧ Hid (fieldsF C B f i = some r) ∧ Hid (M ++ r = ns)) (fun _ y _ => 500 - (intOf y).toNat)
 case atStart => exact ⟨none, 0, 0, 0, F, [], ns, rfl, rfl, by omega, by simp, World.ownsRow_nil .., Below.refl _ _, HN, rfl⟩
 case round =>
  obtain ⟨an, nn, cn, i, f, M, r, rfl, rfl, hi, hM, HO, HW, HF, HE⟩ := hrel
  have HBW : Hid (BookAt wr b C A) := HB.out.below HW.out
  have hws := HW.out.size
  by_cases hlt : i < B
  ·have tk : decide ((i : Int) < (B : Int)) = true := by simp; omega
   obtain ⟨q0, q1, o, f', r', hov, hf', hr⟩ := fieldsF_step HF.out hlt
   have hog := over_gt hov
   have hol := over_le hov
   have HOV : Hid (overC C i = some o) := hov
   have HF' : Hid (fieldsF C B f' o = some r') := hf'
   obtain ⟨_, _, ac, aa, bc, ba, capc, capa, h0, h1, hc, ha⟩ := HBW.out
   obtain ⟨rfl, hci⟩ := hc i q0
   obtain ⟨_, hcj⟩ := hc (i + 1) q1
   have hd := C[i + 1].toNat_lt
   generalize hcc : C[i] = c at *
   generalize C[i + 1] = d at *
   clear hc ha h1 hf' hov hcc
   by_cases h63 : c = 63
   ·subst h63
    rw [if_pos rfl] at hr
    have hci : wr.cell? ⟨bc, i, none⟩ = some (.int .u8 63) := hci
    have HE2 : Hid ((M ++ [(d.toNat : Int) - 97]) ++ r' = ns) := by show _ = _; have := HE.out; rw [hr] at this; simpa using this
    have m1 : M.length + 1 ≤ maxLen := by unfold maxLen; omega
    have m2 : (M.length + 1) * 8 ≤ 140737488355328 := by omega
    have m3 : ∀ ob, w.heap.size ≤ (wr.alloc ob).heap.size := fun ob => by simp; omega
    have HOB : Hid (∀ k, (Value.slice an nn cn).ownBlock = some k → w.heap.size ≤ k) := fun k hk => (HO.out.lt k hk).1
    have hpos : 0 < M.length + 1 := by omega
    clear hr
    generalize d.toNat = de at *
    have ii0 : (0 : Int) ≤ (i : Int) + 1 := by omega
    have ii1 : (i : Int) + 1 < (C.length : Int) := by omega
    go_wp2_with (first | (go_at_call 47; refine (begin_any b B C A _ HBW.out HBE.out).mono ?_; rintro e1 w1 ⟨rfl, hw1⟩; rw [hw1]; clear hw1) | (at_builtin; refine wpList_append_fresh rfl (.tmp 20) (.tmp 31) 22 rfl w.heap.size 3 iV (.int .i64 0) 1 8 Tryz.underlying22 hiV hzV hsV hbV rfl (by decide) (.slice an nn cn) M.length (numRow M) (by rfl) (by exact HO.out.alloc _) ⟨wr.heap.size, 0, none⟩ 1 1 [.int .i64 ((de : Int) - 97)] (by rfl) rfl (by exact num_new wr _ 3) (by intro q hq; simp at hq; subst hq; rfl) m1 m2 (m3 _) (by decide) ?_; intro v' w2 hown hgrow hfr; have hlow2 := grown_low HW.out hgrow HOB.out; clear hfr hgrow; obtain ⟨gn, capn, rfl⟩ := Joins.ownsRow_form hown hpos; have HOWN : Hid _ := hown; have HLOW : Hid (Below w.heap.size w w2) := hlow2; clear hown hlow2) | (go_at_call 77; refine (over_any b i o C A _ (HB.out.below HLOW.out) HOV.out).mono ?_; rintro e1 w1 ⟨rfl, hw1⟩; rw [hw1]; clear hw1))
    go_roundw
    case rel => exact ⟨some ⟨gn, 0, none⟩, _, capn, o, f', M ++ [(de : Int) - 97], r', rfl, rfl, by omega, by simp; omega, by show World.ownsRow _ _ _ _ _ _ _; rw [show numRow (M ++ [(de : Int) - 97]) = numRow M ++ [.int .i64 ((de : Int) - 97)] by simp [numRow], show (M ++ [(de : Int) - 97]).length = M.length + 1 by simp]; exact HOWN.out, HLOW, HF', HE2⟩
    case measure => simp [intOf]; omega
   ·have t63 : ((c.toNat : Int) == 63) = false := by exact (byte_is (k := 63)).trans (by simpa using h63)
    rw [if_neg h63] at hr
    have HE2 : Hid (M ++ r' = ns) := by have := HE.out; rw [hr] at this; exact this
    clear hr h63
    go_wp2_with (first | (go_at_call 47; refine (begin_any b B C A _ HBW.out HBE.out).mono ?_; rintro e1 w1 ⟨rfl, hw1⟩; rw [hw1]; clear hw1) | (go_at_call 77; refine (over_any b i o C A _ HBW.out HOV.out).mono ?_; rintro e1 w1 ⟨rfl, hw1⟩; rw [hw1]; clear hw1))
    go_roundw
    case rel => exact ⟨an, nn, cn, o, f', M, r', rfl, rfl, by omega, by omega, HO, HW, HF', HE2⟩
    case measure => simp [intOf]; omega
  ·have tk : decide ((i : Int) < (B : Int)) = false := by simp; omega
   have hr := fieldsF_end HF.out hlt
   have hE : M = ns := by have := HE.out; rw [hr, List.append_nil] at this; exact this
   go_wp2_with (first | (go_at_call 47; refine (begin_any b B C A _ HBW.out HBE.out).mono ?_; rintro e1 w1 ⟨rfl, hw1⟩; rw [hw1]; clear hw1))
   go_ret
   rw [← hE]
   exact ⟨⟨_, rfl, HO.out⟩, HW.out⟩
end Go.Proofs.YtdgmoiflahoihaaGreatDoor
namespace Go.Proofs.YtdgmoiflahoihaaGreatDoor
open Go.RowKit
set_option linter.unusedSimpArgs false
set_option linter.unusedVariables false
theorem play_end {C : List UInt8} {A : List Int} {f lo hi : Nat} {s s' : SR} (h : playF C A f lo hi s = some s') (hl : ¬ lo < hi) : s' = s := by
 cases f with
 | zero => cases h
 | succ f =>
  rw [playF_out C A f lo hi s hl] at h
  cases h
  rfl
theorem play_step {C : List UInt8} {A : List Int} {f lo hi : Nat} {s s' : SR} (h : playF C A f lo hi s = some s') (hl : lo < hi) :
  ∃ g o e t s1, ∃ (h0 : lo < C.length) (h1 : lo < A.length), f = g + 1 ∧ overC C lo = some o ∧ restC C lo = some e ∧ blocksC C lo = some t ∧ playF C A g o hi s1 = some s' ∧
   ((C[lo] = 42 ∧ ∃ h2 : lo + 1 < C.length, 48 ≤ C[lo + 1].toNat ∧ repO (fun s => playF C A g t.p t.q s) (C[lo + 1].toNat - 48) s = some s1) ∨
    (C[lo] ≠ 42 ∧ ∃ v, valueF C s.1 (C.length + 1) e.lo e.hi = some v ∧ e.hi ≤ C.length ∧ e.name < 26 ∧ 0 ≤ A[lo] ∧ ruleO (fun s => playF C A g t.p t.q s) (fun s => playF C A g t.r t.s s) C[lo] A[lo] e v s = some s1)) := by
 cases f with
 | zero => cases h
 | succ f =>
  unfold playF at h
  rw [if_pos hl] at h
  cases ho : overC C lo with
  | none => rw [ho] at h; simp at h
  | some o =>
  cases hs : stepO C A (playF C A f) lo s with
  | none => rw [ho, hs] at h; simp at h
  | some s1 =>
  rw [ho, hs] at h
  simp only at h
  unfold stepO at hs
  cases he : restC C lo with
  | none => rw [he] at hs; simp at hs
  | some e =>
  cases ht : blocksC C lo with
  | none => rw [he, ht] at hs; simp at hs
  | some t =>
  cases hc : C[lo]? with
  | none => rw [he, ht, hc] at hs; simp at hs
  | some c =>
  cases ha : A[lo]? with
  | none => rw [he, ht, hc, ha] at hs; simp at hs
  | some a =>
  rw [he, ht, hc, ha] at hs
  simp only at hs
  obtain ⟨h0, rfl⟩ := List.getElem?_eq_some_iff.mp hc
  obtain ⟨h1, rfl⟩ := List.getElem?_eq_some_iff.mp ha
  refine ⟨f, o, e, t, s1, h0, h1, rfl, rfl, rfl, rfl, h, ?_⟩
  by_cases h42 : C[lo] = 42
  ·rw [if_pos h42] at hs
   cases hd : C[lo + 1]? with
   | none => rw [hd] at hs; simp at hs
   | some d =>
    rw [hd] at hs
    simp only at hs
    obtain ⟨h2, rfl⟩ := List.getElem?_eq_some_iff.mp hd
    split at hs
    ·rename_i h48
     exact .inl ⟨h42, h2, h48, hs⟩
    ·cases hs
  ·rw [if_neg h42] at hs
   cases hv : valueF C s.1 (C.length + 1) e.lo e.hi with
   | none => rw [hv] at hs; simp at hs
   | some v =>
    rw [hv] at hs
    simp only at hs
    split at hs
    ·rename_i hg
     exact .inr ⟨h42, v, rfl, hg.1, hg.2.1, hg.2.2, hs⟩
    ·cases hs
def PlayOk (f : SR → Option SR) : Prop := ∀ s s', StOk s → f s = some s' → StOk s' ∧ s.2.length ≤ s'.2.length
theorem rep_ok {f : SR → Option SR} (hf : PlayOk f) : ∀ n, PlayOk (repO f n)
 | 0 => fun s s' hs h => by cases h; exact ⟨hs, Nat.le_refl _⟩
 | n + 1 => fun s s' hs h => by
  unfold repO at h
  cases h1 : f s with
  | none => rw [h1] at h; simp at h
  | some s1 =>
   rw [h1] at h
   simp only at h
   obtain ⟨a, b⟩ := hf s s1 hs h1
   obtain ⟨c, d⟩ := rep_ok hf n s1 s' a h
   exact ⟨c, by omega⟩
theorem give_ok {s : SR} (h : StOk s) (e : Rest) {v : Vl} (hv : VlOk v) (l : List Nt) : StOk (giveO e v s, l) := by
 unfold giveO
 split
 ·exact h.set hv _ _
 ·exact ⟨h.len, h.ok⟩
theorem rule_ok {p1 p2 : SR → Option SR} (h1 : PlayOk p1) (h2 : PlayOk p2) {c : UInt8} {a : Int} {e : Rest} {v : Vl} (hv : VlOk v) : PlayOk (ruleO p1 p2 c a e v) := by
 intro s s' hs h
 unfold ruleO at h
 split at h
 ·split at h
  ·cases h; exact ⟨give_ok hs e hv _, by simp⟩
  ·cases h
 split at h
 ·split at h
  ·cases h; exact ⟨give_ok hs e hv _, by simp⟩
  ·cases h
 split at h
 ·split at h
  ·split at h
   ·exact h1 (giveO e v s, s.2) s' (give_ok hs e hv s.2) h
   ·exact h2 (giveO e v s, s.2) s' (give_ok hs e hv s.2) h
  ·cases h; exact ⟨give_ok hs e hv s.2, Nat.le_refl _⟩
 ·cases h; exact ⟨give_ok hs e hv s.2, Nat.le_refl _⟩
theorem play_ok (C : List UInt8) (A : List Int) : ∀ (f lo hi : Nat), PlayOk (playF C A f lo hi)
 | 0, lo, hi => fun s s' hs h => by cases h
 | f + 1, lo, hi => fun s s' hs h => by
  by_cases hl : lo < hi
  ·obtain ⟨g, o, e, t, s1, h0, h1, hf, ho, he, ht, hp, hst⟩ := play_step h hl
   have hfg : f = g := by omega
   subst hfg
   have k1 := fun lo hi => play_ok C A f lo hi
   have k : StOk s1 ∧ s.2.length ≤ s1.2.length := by
    rcases hst with ⟨_, h2, _, hr⟩ | ⟨_, v, hv, hh, _, _, hr⟩
    ·exact rep_ok (k1 t.p t.q) _ s s1 hs hr
    ·have hvo := (value_any 0 0 C A s.1 hs.ok _ _ _ v hv hh).1
     exact rule_ok (k1 t.p t.q) (k1 t.r t.s) hvo s s1 hs hr
   have k2 := k1 o hi s1 s' k.1 hp
   exact ⟨k2.1, by omega⟩
  ·rw [play_end h hl]
   exact ⟨hs, Nat.le_refl _⟩
def PlayGives (b g : Nat) (w0 : World) (lo hi : Nat) (s s' : SR) : Prop :=
 ∀ (S : Nat → Prop) (w : World), Below w0.heap.size w0 w → StateAt w g S s → (∀ k, S k → g < k) →
  Calls Tryz.prog 46 #[.pointer (some ⟨b, 0, none⟩), .pointer (some ⟨g, 0, none⟩), .int .i64 lo, .int .i64 hi] w fun e w' => e = .returned (.tuple #[]) ∧ StepAt g S w w' s'
theorem StateAt.vals {w : World} {g : Nat} {S : Nat → Prop} {s : SR} (h : StateAt w g S s) : ValsAt w g s.1 := h.cell
theorem onto_low {g : Nat} {S : Nat → Prop} {w0 w w' : World} (h0 : Below w0.heap.size w0 w) (h : Onto g S w w') (hg : w0.heap.size ≤ g) (hS : ∀ k, S k → g < k) : Below w0.heap.size w0 w' := by
 have hs := h0.size
 exact ⟨h.os.trans h0.os, h.tape.trans h0.tape, h.output.trans h0.output, Nat.le_trans hs h.size, fun k hk => (h.block k (by omega) (by omega) (fun e => by have := hS k e; omega)).trans (h0.block k hk)⟩
end Go.Proofs.YtdgmoiflahoihaaGreatDoor
