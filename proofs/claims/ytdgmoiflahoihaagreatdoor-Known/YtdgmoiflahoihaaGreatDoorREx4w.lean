import Derived.Test.YtdgmoiflahoihaaGreatDoorRExw

namespace Go.Proofs.YtdgmoiflahoihaaGreatDoor
open Go.RowKit
set_option linter.unusedSimpArgs false
set_option linter.unusedVariables false
theorem minus_yes {t : List UInt8} {r : Rd} (k : Nat) (h : r.seesOne t 45 45 = true) : minusF t (k + 1) r = ((minusF t k (r.takeOne t 45 45).1).1, (minusF t k (r.takeOne t 45 45).1).2 + 1) := by
 conv => lhs; unfold minusF
 rw [if_pos h]
theorem minus_no {t : List UInt8} {r : Rd} (k : Nat) (h : r.seesOne t 45 45 = false) : minusF t (k + 1) r = (r, 0) := by
 conv => lhs; unfold minusF
 rw [if_neg (by rw [h]; decide)]
theorem negs_more (k : Nat) : negs k ++ [⟨3, 0⟩] = negs (k + 1) := by
 unfold negs
 rw [List.replicate_succ']
set_option maxHeartbeats 1000000 in
theorem unit_rd (s : ByteArray) (n : Nat) (cmp : RP → RP) (hc : CmpCalls s n cmp) (ha : CmpAdv s.data.toList n cmp) (hs : s.size ≤ 400) (base b : Nat) (x : RP) (w : World) (h : ExAt w base b s x.1 x.2) (hf : Fit s.data.toList (n + 1) x) :
  Calls Tryz.prog 214 #[.pointer (some ⟨b, 0, none⟩)] w fun e w' => e = .returned (.tuple #[]) ∧ ExAt w' base b s (unitU s.data.toList cmp x).1 (unitU s.data.toList cmp x).2 ∧ Keep base b w w' := by
 obtain ⟨r, l⟩ := x
 have hsl : s.data.toList.length = s.size := by simp
 have hp : r.pos ≤ s.data.toList.length := hf.le
 have km := minusF_adv (l := l) (s.data.toList.length + 1) r hf.le
 unfold unitU
 simp only
 generalize hM : minusF s.data.toList (s.data.toList.length + 1) r = M at *
 obtain ⟨rm, m⟩ := M
 simp only at km
 have kl := km.len
 have kle := km.le
 simp only [List.length_append, negs, List.length_replicate] at kl kle
 have hm4 : m ≤ 400 := by omega
 have km2 : Adv s.data.toList (r, l) (rm, l) := ⟨km.pos, km.le, by have := km.pos; simp only at this ⊢; omega, km.depth, km.bad⟩
 have fm := km2.fit hf
 have ka := plainU_adv ha fm
 simp only
 generalize hy : plainU s.data.toList cmp (rm, l) = y at *
 have fy := ka.fit fm
 have yl := fy.len
 have yp := fy.le
 have HY : Hid (plainU s.data.toList cmp (rm, l) = y) := hy
 have HM : Hid (minusF s.data.toList (s.data.toList.length + 1) r = (rm, m)) := hM
 have HH : Hid (ExAt w base b s r l) := h
 have FM : Hid (Fit s.data.toList (n + 1) (rm, l)) := fm
 have HC : Hid (CmpCalls s n cmp) := hc
 have HA : Hid (CmpAdv s.data.toList n cmp) := ha
 clear h hf hc ha hy hM km km2 fm ka fy kl
 go_enter Tryz.func214, Tryz.ntmps214
 go_wp2_with fail
 go_loopw [2] (fun x w' => ∃ (k j : Nat) (r' : Rd), x = .int .i64 k ∧ r'.pos ≤ s.data.toList.length ∧ Hid (ExAt w' base b s r' l) ∧ Hid (Keep base b w w') ∧ s.data.toList.length - r'.pos < j ∧ k ≤ 400 ∧ Hid ((minusF s.data.toList j r').1 = rm ∧ (minusF s.data.toList j r').2 + k = m)) (fun x _ => 1000 - (intOf x).toNat)
 case atStart => exact ⟨0, s.data.toList.length + 1, r, rfl, hp, HH, Keep.refl _ _ _, by omega, by omega, by show _ ∧ _; rw [HM.out]; exact ⟨rfl, rfl⟩⟩
 case round =>
  obtain ⟨k, j, r', rfl, hp', HR', hk, hj, hk4, HQ⟩ := hrel
  obtain ⟨j', rfl⟩ : ∃ j', j = j' + 1 := ⟨j - 1, by omega⟩
  cases hse : r'.seesOne s.data.toList 45 45
  ·have hq := HQ.out
   rw [minus_no j' hse] at hq
   simp only [Nat.zero_add] at hq
   obtain ⟨rfl, rfl⟩ := hq
   go_wp2_with fail
   refine (sees_ex 45 HR'.out hs hp').mono ?_
   rw [hse]
   rintro e w2 ⟨rfl, hr2, hk2⟩
   go_wp2_with fail
   refine (plainUnit_any s n cmp HC.out HA.out hs base b (r', l) _ hr2 FM.out).mono ?_
   rw [HY.out]
   rintro e w3 ⟨rfl, hr3, hk3⟩
   have HK3 : Hid (Keep base b w w3) := (hk.out.trans hk2).trans hk3
   clear hk2 hk3 hr2
   go_wp2_with fail
   go_loopw [2] (fun x w' => ∃ (i : Nat), x = .int .i64 i ∧ i ≤ k ∧ Hid (ExAt w' base b s y.1 (y.2 ++ negs (k - i))) ∧ Hid (Keep base b w w')) (fun x _ => (intOf x).toNat)
   case atStart => exact ⟨k, rfl, by omega, by show ExAt _ _ _ _ _ _; rw [Nat.sub_self]; simpa [negs] using hr3, HK3⟩
   case round =>
    obtain ⟨i, rfl, hi, HE, HK⟩ := hrel
    by_cases h0 : i = 0
    ·subst h0
     have t0 : decide ((0 : Int) < 0) = false := by decide
     go_wp2_with fail
     go_end0
     exact ⟨rfl, HE.out, HK.out⟩
    ·have t0 : decide ((0 : Int) < (i : Int)) = true := by simp; omega
     go_wp2_with fail
     refine (addPart_any base b s _ _ 3 0 _ HE.out (by simp only [List.length_append, negs, List.length_replicate]; omega)).mono ?_
     rintro e w5 ⟨rfl, hr5, hk5⟩
     go_wp2_with fail
     go_roundw
     case rel =>
      refine ⟨i - 1, by go_num, by omega, ?_, HK.out.trans hk5⟩
      show ExAt _ _ _ _ _ _
      rw [List.append_assoc, negs_more, show k - i + 1 = k - (i - 1) by omega] at hr5
      exact hr5
     case measure => simp [intOf]; omega
  ·have hpt := (takeOne_adv (l := l) 45 45 hp').le
   have hgt := takeOne_gt hse
   simp only at hpt
   have HQ2 : Hid ((minusF s.data.toList j' (r'.takeOne s.data.toList 45 45).1).1 = rm ∧ (minusF s.data.toList j' (r'.takeOne s.data.toList 45 45).1).2 + (k + 1) = m) := by
    have hq := HQ.out
    rw [minus_yes j' hse] at hq
    simp only at hq
    exact ⟨hq.1, by omega⟩
   have hk5 : k + 1 ≤ 400 := by have := HQ2.out.2; omega
   go_wp2_with fail
   refine (sees_ex 45 HR'.out hs hp').mono ?_
   rw [hse]
   rintro e w2 ⟨rfl, hr2, hk2⟩
   go_wp2_with fail
   refine (take_ex 45 hr2 hs hp').mono ?_
   rintro e w3 ⟨rfl, hr3, hk3⟩
   go_wp2_with fail
   go_roundw
   case rel => exact ⟨k + 1, j', _, by go_num, hpt, hr3, (hk.out.trans hk2).trans hk3, by omega, hk5, HQ2⟩
   case measure => simp [intOf]; omega
end Go.Proofs.YtdgmoiflahoihaaGreatDoor
namespace Go.Proofs.YtdgmoiflahoihaaGreatDoor
open Go.RowKit
set_option linter.unusedSimpArgs false
set_option linter.unusedVariables false
def posAt (w : World) (b : Nat) : Nat := (intOf ((w.cell? ⟨b, 1, none⟩).getD undef)).toNat
theorem ExAt.posAt {w : World} {base b : Nat} {s : ByteArray} {r : Rd} {l : List Pt} (h : ExAt w base b s r l) : posAt w b = r.pos := by
 obtain ⟨⟨pv, hr, _⟩, _, _⟩ := h
 unfold Go.Proofs.YtdgmoiflahoihaaGreatDoor.posAt
 rw [hr.c1]
 simp [intOf]
theorem prodL_stop {t : List UInt8} {cmp : RP → RP} {x : RP} (k : Nat) (h : Rd.prodOper t x.1 = (x.1, 0)) : prodL t cmp (k + 1) x = x := by
 conv => lhs; unfold prodL
 simp only [h, if_true]
theorem prodL_step {t : List UInt8} {cmp : RP → RP} {x : RP} (k : Nat) (h : ¬ (Rd.prodOper t x.1).2 = 0) : prodL t cmp (k + 1) x = prodL t cmp k ((unitU t cmp ((Rd.prodOper t x.1).1, x.2)).1, (unitU t cmp ((Rd.prodOper t x.1).1, x.2)).2 ++ [⟨(Rd.prodOper t x.1).2, 0⟩]) := by
 conv => lhs; unfold prodL
 simp only [h, if_false]
set_option maxHeartbeats 1000000 in
theorem product_any (s : ByteArray) (n : Nat) (cmp : RP → RP) (hc : CmpCalls s n cmp) (ha : CmpAdv s.data.toList n cmp) (hs : s.size ≤ 400) (base b : Nat) (x : RP) (w : World) (h : ExAt w base b s x.1 x.2) (hf : Fit s.data.toList (n + 1) x) :
  Calls Tryz.prog 213 #[.pointer (some ⟨b, 0, none⟩)] w fun e w' => e = .returned (.tuple #[]) ∧ ExAt w' base b s (prodU s.data.toList cmp x).1 (prodU s.data.toList cmp x).2 ∧ Keep base b w w' := by
 have hsl : s.data.toList.length = s.size := by simp
 have k1 := unitU_adv ha hf
 have f1 := k1.fit hf
 unfold prodU
 generalize hy : unitU s.data.toList cmp x = y at *
 generalize hz : prodL s.data.toList cmp (s.data.toList.length + 1) y = z
 have HY : Hid (unitU s.data.toList cmp x = y) := hy
 have HZ : Hid (prodL s.data.toList cmp (s.data.toList.length + 1) y = z) := hz
 have HH : Hid (ExAt w base b s x.1 x.2) := h
 have FX : Hid (Fit s.data.toList (n + 1) x) := hf
 have FY : Hid (Fit s.data.toList (n + 1) y) := f1
 have HC : Hid (CmpCalls s n cmp) := hc
 have HA : Hid (CmpAdv s.data.toList n cmp) := ha
 have hyp := f1.le
 clear h hf hc ha hy hz k1 f1
 go_enter Tryz.func213, Tryz.ntmps213
 go_wp2_with fail
 refine (unit_rd s n cmp HC.out HA.out hs base b x _ HH.out FX.out).mono ?_
 rw [HY.out]
 rintro e w1 ⟨rfl, hr1, hk1⟩
 go_wp2_with fail
 refine (prodOper_ex hr1 hs hyp).mono ?_
 rintro e w2 ⟨rfl, hr2, hk2⟩
 have HR2 : Hid (ExAt w2 base b s (Rd.prodOper s.data.toList y.1).1 y.2) := hr2
 have HK2 : Hid (Keep base b w w2) := hk1.trans hk2
 clear hr1 hk1 hr2 hk2
 go_wp2_with fail
 go_loopw [2] (fun v w' => ∃ (j : Nat) (u : RP) (o : Rd) (q : Int), v = .int .i64 q ∧ Hid (Rd.prodOper s.data.toList u.1 = (o, q)) ∧ Hid (Fit s.data.toList (n + 1) u) ∧ Hid (ExAt w' base b s o u.2) ∧ Hid (Keep base b w w') ∧ s.data.toList.length - u.1.pos < j ∧ Hid (prodL s.data.toList cmp j u = z)) (fun v w' => 2 * (s.data.toList.length - posAt w' b) + (if intOf v = 0 then 0 else 1))
 case atStart => exact ⟨s.data.toList.length + 1, y, _, _, rfl, rfl, FY, HR2, HK2, by omega, HZ⟩
 case round =>
  obtain ⟨j, u, o, q, rfl, HO, FU, HE, HK, hj, HL⟩ := hrel
  obtain ⟨j', rfl⟩ : ∃ j', j = j' + 1 := ⟨j - 1, by omega⟩
  rcases prodOper_cases (s.data.toList) (u.1) with hst | ⟨hne, hgo⟩
  ·have h9 := HO.out
   rw [hst] at h9
   cases h9
   have h8 := HL.out
   rw [prodL_stop j' hst] at h8
   subst h8
   have t0 : (((0 : Int)) == 0) = true := by decide
   go_wp2_with fail
   go_end0
   exact ⟨rfl, HE.out, HK.out⟩
  ·have h8 := HL.out
   rw [prodL_step j' hne] at h8
   rw [HO.out] at hne hgo h8
   simp only at hne hgo h8
   have a1 : Adv s.data.toList u (o, u.2) := op_adv (l := u.2) hgo
   have fo : Fit s.data.toList (n + 1) (o, u.2) := a1.fit FU.out
   have a2 := unitU_adv HA.out fo
   generalize hv : unitU s.data.toList cmp (o, u.2) = v at *
   have a3 : Adv s.data.toList u (v.1, v.2 ++ [⟨q, 0⟩]) := add_adv a1 a2 ⟨q, 0⟩ hgo.1 rfl
   have fv := a3.fit FU.out
   have HV : Hid (unitU s.data.toList cmp (o, u.2) = v) := hv
   have FV : Hid (Fit s.data.toList (n + 1) (v.1, v.2 ++ [⟨q, 0⟩])) := fv
   have FO : Hid (Fit s.data.toList (n + 1) (o, u.2)) := fo
   have H8 : Hid (prodL s.data.toList cmp j' (v.1, v.2 ++ [⟨q, 0⟩]) = z) := h8
   have hvp := a3.le
   have hvo := a2.pos
   have hvl := (a2.fit fo).len
   simp only at hvp hvo hvl
   have hv4 : v.2.length ≤ 1000 := by omega
   obtain ⟨hgo1, hgo2⟩ := hgo
   have HPO : Hid (posAt wr b = o.pos) := HE.out.posAt
   clear hv h8 a1 a2 a3 fo fv hgo2 HL HO
   have t0 : (q == 0) = false := by simpa using hne
   go_wp2_with fail
   refine (unit_rd s n cmp HC.out HA.out hs base b (o, u.2) _ HE.out FO.out).mono ?_
   rw [HV.out]
   rintro e w3 ⟨rfl, hr3, hk3⟩
   go_wp2_with fail
   refine (addPart_any base b s _ _ q 0 _ hr3 hv4).mono ?_
   rintro e w4 ⟨rfl, hr4, hk4⟩
   go_wp2_with fail
   refine (prodOper_ex hr4 hs hvp).mono ?_
   rintro e w5 ⟨rfl, hr5, hk5⟩
   have HR5 : Hid (ExAt w5 base b s (Rd.prodOper s.data.toList v.1).1 (v.2 ++ [⟨q, 0⟩])) := hr5
   have HK5 : Hid (Keep base b w w5) := ((HK.out.trans hk3).trans hk4).trans hk5
   clear hr3 hk3 hr4 hk4 hr5 hk5
   go_wp2_with fail
   go_roundw
   case rel => exact ⟨j', (v.1, v.2 ++ [⟨q, 0⟩]), (Rd.prodOper s.data.toList v.1).1, (Rd.prodOper s.data.toList v.1).2, rfl, rfl, FV, HR5, HK5, by simp only; omega, H8⟩
   case measure =>
    have hq5 := HR5.out.posAt
    rw [hq5, HPO.out]
    simp only [intOf]
    rcases prodOper_cases (s.data.toList) (v.1) with hst | ⟨hne2, hgo2⟩
    ·rw [hst]
     simp [hne]
     omega
    ·simp only [ne_eq] at hne2
     simp [hne, hne2]
     omega
theorem sumL_stop {t : List UInt8} {cmp : RP → RP} {x : RP} (k : Nat) (h : Rd.oper t x.1 43 4 45 5 = (x.1, 0)) : sumL t cmp (k + 1) x = x := by
 conv => lhs; unfold sumL
 simp only [h, if_true]
theorem sumL_step {t : List UInt8} {cmp : RP → RP} {x : RP} (k : Nat) (h : ¬ (Rd.oper t x.1 43 4 45 5).2 = 0) : sumL t cmp (k + 1) x = sumL t cmp k ((prodU t cmp ((Rd.oper t x.1 43 4 45 5).1, x.2)).1, (prodU t cmp ((Rd.oper t x.1 43 4 45 5).1, x.2)).2 ++ [⟨(Rd.oper t x.1 43 4 45 5).2, 0⟩]) := by
 conv => lhs; unfold sumL
 simp only [h, if_false]
set_option maxHeartbeats 1000000 in
theorem sum_any (s : ByteArray) (n : Nat) (cmp : RP → RP) (hc : CmpCalls s n cmp) (ha : CmpAdv s.data.toList n cmp) (hs : s.size ≤ 400) (base b : Nat) (x : RP) (w : World) (h : ExAt w base b s x.1 x.2) (hf : Fit s.data.toList (n + 1) x) :
  Calls Tryz.prog 208 #[.pointer (some ⟨b, 0, none⟩)] w fun e w' => e = .returned (.tuple #[]) ∧ ExAt w' base b s (sumU s.data.toList cmp x).1 (sumU s.data.toList cmp x).2 ∧ Keep base b w w' := by
 have hsl : s.data.toList.length = s.size := by simp
 have k1 := prodU_adv ha hf
 have f1 := k1.fit hf
 unfold sumU
 generalize hy : prodU s.data.toList cmp x = y at *
 generalize hz : sumL s.data.toList cmp (s.data.toList.length + 1) y = z
 have HY : Hid (prodU s.data.toList cmp x = y) := hy
 have HZ : Hid (sumL s.data.toList cmp (s.data.toList.length + 1) y = z) := hz
 have HH : Hid (ExAt w base b s x.1 x.2) := h
 have FX : Hid (Fit s.data.toList (n + 1) x) := hf
 have FY : Hid (Fit s.data.toList (n + 1) y) := f1
 have HC : Hid (CmpCalls s n cmp) := hc
 have HA : Hid (CmpAdv s.data.toList n cmp) := ha
 have hyp := f1.le
 clear h hf hc ha hy hz k1 f1
 go_enter Tryz.func208, Tryz.ntmps208
 go_wp2_with fail
 refine (product_any s n cmp HC.out HA.out hs base b x _ HH.out FX.out).mono ?_
 rw [HY.out]
 rintro e w1 ⟨rfl, hr1, hk1⟩
 go_wp2_with fail
 refine (oper_ex 43 45 4 5 hr1 hs hyp).mono ?_
 rintro e w2 ⟨rfl, hr2, hk2⟩
 have HR2 : Hid (ExAt w2 base b s (Rd.oper s.data.toList y.1 43 4 45 5).1 y.2) := hr2
 have HK2 : Hid (Keep base b w w2) := hk1.trans hk2
 clear hr1 hk1 hr2 hk2
 go_wp2_with fail
 go_loopw [2] (fun v w' => ∃ (j : Nat) (u : RP) (o : Rd) (q : Int), v = .int .i64 q ∧ Hid (Rd.oper s.data.toList u.1 43 4 45 5 = (o, q)) ∧ Hid (Fit s.data.toList (n + 1) u) ∧ Hid (ExAt w' base b s o u.2) ∧ Hid (Keep base b w w') ∧ s.data.toList.length - u.1.pos < j ∧ Hid (sumL s.data.toList cmp j u = z)) (fun v w' => 2 * (s.data.toList.length - posAt w' b) + (if intOf v = 0 then 0 else 1))
 case atStart => exact ⟨s.data.toList.length + 1, y, _, _, rfl, rfl, FY, HR2, HK2, by omega, HZ⟩
 case round =>
  obtain ⟨j, u, o, q, rfl, HO, FU, HE, HK, hj, HL⟩ := hrel
  obtain ⟨j', rfl⟩ : ∃ j', j = j' + 1 := ⟨j - 1, by omega⟩
  rcases oper_cases (s.data.toList) (u.1) 43 45 4 5 (by decide) (by decide) with hst | ⟨hne, hgo⟩
  ·have h9 := HO.out
   rw [hst] at h9
   cases h9
   have h8 := HL.out
   rw [sumL_stop j' hst] at h8
   subst h8
   have t0 : (((0 : Int)) == 0) = true := by decide
   go_wp2_with fail
   go_end0
   exact ⟨rfl, HE.out, HK.out⟩
  ·have h8 := HL.out
   rw [sumL_step j' hne] at h8
   rw [HO.out] at hne hgo h8
   simp only at hne hgo h8
   have a1 : Adv s.data.toList u (o, u.2) := op_adv (l := u.2) hgo
   have fo : Fit s.data.toList (n + 1) (o, u.2) := a1.fit FU.out
   have a2 := prodU_adv HA.out fo
   generalize hv : prodU s.data.toList cmp (o, u.2) = v at *
   have a3 : Adv s.data.toList u (v.1, v.2 ++ [⟨q, 0⟩]) := add_adv a1 a2 ⟨q, 0⟩ hgo.1 rfl
   have fv := a3.fit FU.out
   have HV : Hid (prodU s.data.toList cmp (o, u.2) = v) := hv
   have FV : Hid (Fit s.data.toList (n + 1) (v.1, v.2 ++ [⟨q, 0⟩])) := fv
   have FO : Hid (Fit s.data.toList (n + 1) (o, u.2)) := fo
   have H8 : Hid (sumL s.data.toList cmp j' (v.1, v.2 ++ [⟨q, 0⟩]) = z) := h8
   have hvp := a3.le
   have hvo := a2.pos
   have hvl := (a2.fit fo).len
   simp only at hvp hvo hvl
   have hv4 : v.2.length ≤ 1000 := by omega
   obtain ⟨hgo1, hgo2⟩ := hgo
   have HPO : Hid (posAt wr b = o.pos) := HE.out.posAt
   clear hv h8 a1 a2 a3 fo fv hgo2 HL HO
   have t0 : (q == 0) = false := by simpa using hne
   go_wp2_with fail
   refine (product_any s n cmp HC.out HA.out hs base b (o, u.2) _ HE.out FO.out).mono ?_
   rw [HV.out]
   rintro e w3 ⟨rfl, hr3, hk3⟩
   go_wp2_with fail
   refine (addPart_any base b s _ _ q 0 _ hr3 hv4).mono ?_
   rintro e w4 ⟨rfl, hr4, hk4⟩
   go_wp2_with fail
   refine (oper_ex 43 45 4 5 hr4 hs hvp).mono ?_
   rintro e w5 ⟨rfl, hr5, hk5⟩
   have HR5 : Hid (ExAt w5 base b s (Rd.oper s.data.toList v.1 43 4 45 5).1 (v.2 ++ [⟨q, 0⟩])) := hr5
   have HK5 : Hid (Keep base b w w5) := ((HK.out.trans hk3).trans hk4).trans hk5
   clear hr3 hk3 hr4 hk4 hr5 hk5
   go_wp2_with fail
   go_roundw
   case rel => exact ⟨j', (v.1, v.2 ++ [⟨q, 0⟩]), (Rd.oper s.data.toList v.1 43 4 45 5).1, (Rd.oper s.data.toList v.1 43 4 45 5).2, rfl, rfl, FV, HR5, HK5, by simp only; omega, H8⟩
   case measure =>
    have hq5 := HR5.out.posAt
    rw [hq5, HPO.out]
    simp only [intOf]
    rcases oper_cases (s.data.toList) (v.1) 43 45 4 5 (by decide) (by decide) with hst | ⟨hne2, hgo2⟩
    ·rw [hst]
     simp [hne]
     omega
    ·simp only [ne_eq] at hne2
     simp [hne, hne2]
     omega
end Go.Proofs.YtdgmoiflahoihaaGreatDoor
namespace Go.Proofs.YtdgmoiflahoihaaGreatDoor
open Go.RowKit
set_option linter.unusedSimpArgs false
set_option linter.unusedVariables false
set_option maxHeartbeats 1000000 in
theorem comparison_any (s : ByteArray) (n : Nat) (cmp : RP → RP) (hc : CmpCalls s n cmp) (ha : CmpAdv s.data.toList n cmp) (hs : s.size ≤ 400) : CmpCalls s (n + 1) (cmpU s.data.toList cmp) := by
 intro base b x w h hf
 have hsl : s.data.toList.length = s.size := by simp
 have k1 := sumU_adv ha hf
 have f1 := k1.fit hf
 unfold cmpU
 generalize hy : sumU s.data.toList cmp x = y at *
 have HY : Hid (sumU s.data.toList cmp x = y) := hy
 have HH : Hid (ExAt w base b s x.1 x.2) := h
 have FX : Hid (Fit s.data.toList (n + 1) x) := hf
 have HC : Hid (CmpCalls s n cmp) := hc
 have HA : Hid (CmpAdv s.data.toList n cmp) := ha
 have hyp := f1.le
 simp only
 rcases oper_cases s.data.toList y.1 60 61 9 10 (by decide) (by decide) with e | ⟨e0, e1⟩
 ·rw [e]
  simp only [if_true]
  have HO : Hid (Rd.oper s.data.toList y.1 60 9 61 10 = (y.1, 0)) := e
  clear h hf hc ha hy k1 f1 e
  have t0 : (((0 : Int)) == 0) = true := by decide
  go_enter Tryz.func201, Tryz.ntmps201
  go_wp2_with fail
  refine (sum_any s n cmp HC.out HA.out hs base b x _ HH.out FX.out).mono ?_
  rw [HY.out]
  rintro e w1 ⟨rfl, hr1, hk1⟩
  go_wp2_with fail
  refine (oper_ex 60 61 9 10 hr1 hs hyp).mono ?_
  rw [HO.out]
  rintro e w2 ⟨rfl, hr2, hk2⟩
  go_wp2_with fail
  go_end0
  exact ⟨rfl, hr2, hk1.trans hk2⟩
 ·rw [if_neg e0]
  have a1 := op_adv (l := y.2) e1
  have fo := a1.fit f1
  generalize ho : Rd.oper s.data.toList y.1 60 9 61 10 = o at *
  obtain ⟨ro, q⟩ := o
  simp only at e0 e1 a1 fo ⊢
  have a2 := sumU_adv ha fo
  generalize hz : sumU s.data.toList cmp (ro, y.2) = z at *
  have fz := a2.fit fo
  have hzl := fz.len
  have hzp := fz.le
  have hz4 : z.2.length ≤ 1000 := by omega
  have HO : Hid (Rd.oper s.data.toList y.1 60 9 61 10 = (ro, q)) := ho
  have HZ : Hid (sumU s.data.toList cmp (ro, y.2) = z) := hz
  have FO : Hid (Fit s.data.toList (n + 1) (ro, y.2)) := fo
  have t0 : (q == 0) = false := by simpa using e0
  clear h hf hc ha hy k1 f1 ho hz a1 a2 fo fz e1 e0
  go_enter Tryz.func201, Tryz.ntmps201
  go_wp2_with fail
  refine (sum_any s n cmp HC.out HA.out hs base b x _ HH.out FX.out).mono ?_
  rw [HY.out]
  rintro e w1 ⟨rfl, hr1, hk1⟩
  go_wp2_with fail
  refine (oper_ex 60 61 9 10 hr1 hs hyp).mono ?_
  rw [HO.out]
  rintro e w2 ⟨rfl, hr2, hk2⟩
  go_wp2_with fail
  refine (sum_any s n cmp HC.out HA.out hs base b (ro, y.2) _ hr2 FO.out).mono ?_
  rw [HZ.out]
  rintro e w3 ⟨rfl, hr3, hk3⟩
  go_wp2_with fail
  refine (addPart_any base b s _ _ q 0 _ hr3 hz4).mono ?_
  rintro e w4 ⟨rfl, hr4, hk4⟩
  go_wp2_with fail
  go_end0
  exact ⟨rfl, hr4, ((hk1.trans hk2).trans hk3).trans hk4⟩
theorem cmpF_calls (s : ByteArray) (hs : s.size ≤ 400) : ∀ n, CmpCalls s n (cmpF s.data.toList n)
 | 0 => fun base b x w h hf => by have := hf.fuel; have := hf.d9; omega
 | n + 1 => comparison_any s n (cmpF s.data.toList n) (cmpF_calls s hs n) (cmpF_adv _ n) hs
def nilS : Value := .slice none 0 0
def exprU (t : List UInt8) (r : Rd) : RP := cmpF t 10 (r, [])
structure FitR (t : List UInt8) (r : Rd) : Prop where
 le : r.pos ≤ t.length
 d0 : 0 ≤ r.depth
 d9 : r.depth ≤ 9
 db : r.depth = 9 → r.bad = true
theorem FitR.fit {t : List UInt8} {r : Rd} (h : FitR t r) : Fit t 10 (r, []) := ⟨h.le, by simp, h.d0, h.d9, h.db, by have := h.d0; simp only; omega⟩
theorem exprU_adv {t : List UInt8} {r : Rd} (h : FitR t r) : Adv t (r, []) (exprU t r) := cmpF_adv t 10 _ h.fit
theorem Adv.fitR {t : List UInt8} {x y : RP} (h : Adv t x y) (f : FitR t x.1) : FitR t y.1 :=
 ⟨h.le, by rw [h.depth]; exact f.d0, by rw [h.depth]; exact f.d9, fun e => h.bad (f.db (by rw [← h.depth]; exact e))⟩
theorem keep_but {b : Nat} {w w' : World} (h : Keep w.heap.size b w w') : But b w w' := by
 obtain ⟨h1, h2, h3, h4, h5⟩ := h
 exact ⟨h1, h2, h3, h4, fun k hk hn => h5 k hk (fun e => hn (by rw [e]))⟩
set_option maxHeartbeats 1000000 in
theorem takeExpr_any (s : ByteArray) (hs : s.size ≤ 400) (b : Nat) (r : Rd) (pv : Value) (w : World) (h : ReaderAt w b s r pv) (hf : FitR s.data.toList r) :
  Calls Tryz.prog 181 #[.pointer (some ⟨b, 0, none⟩)] w fun e w' => ∃ v, e = .returned v ∧ ReaderAt w' b s (exprU s.data.toList r).1 nilS ∧ w'.ownsRow w.heap.size 195 2 v (exprU s.data.toList r).2.length (ptCells (exprU s.data.toList r).2) ∧ But b w w' := by
 have hb : b < w.heap.size := World.block_lt_of_cell? w _ h.c0
 obtain ⟨c0, c1, c2, c3, c4, fz⟩ := h
 have FX : Hid (Fit s.data.toList 10 (r, [])) := hf.fit
 clear hf
 unfold exprU
 generalize hz : cmpF s.data.toList 10 (r, []) = z
 have HZ : Hid (cmpF s.data.toList 10 (r, []) = z) := hz
 clear hz
 go_enter Tryz.func181, Tryz.ntmps181
 go_wp2_with fail
 generalize hw1 : w.setCell ⟨b, 3, none⟩ (.slice none 0 0) = w1 at *
 have hE : ExAt w1 w.heap.size b s r [] := by
  subst hw1
  refine ⟨⟨.slice none 0 0, ⟨?_, ?_, ?_, ?_, ?_, ?_⟩, World.ownsRow_nil ..⟩, hb, by simp⟩
  case _ => simp [go_sem, c0]
  case _ => simp [go_sem, c1]
  case _ => simp [go_sem, c2]
  case _ => simp [go_sem, c3]
  case _ => simp [go_sem, c4]
  case _ => intro o; simp [go_sem, fz]
 have hK1 : Keep w.heap.size b w w1 := by
  subst hw1
  exact (Keep.refl _ _ _).set 3 _
 have HK1 : Hid (Keep w.heap.size b w w1) := hK1
 clear hw1 hK1 c0 c1 c2 c3 c4 fz
 refine (cmpF_calls s hs 10 w.heap.size b (r, []) _ hE FX.out).mono ?_
 rw [HZ.out]
 rintro e w2 ⟨rfl, hr2, hk2⟩
 have HK2 : Hid (Keep w.heap.size b w w2) := HK1.out.trans hk2
 clear hk2
 obtain ⟨⟨pv2, hrd, hown⟩, _, hle⟩ := hr2
 obtain ⟨c0, c1, c2, c3, c4, fz⟩ := hrd
 have HO : Hid (w2.ownsRow w.heap.size 195 2 pv2 z.2.length (ptCells z.2)) := hown
 have hform := Joins.ownsRow_forms hown
 clear hown
 rcases hform with ⟨rfl, h0⟩ | ⟨g, cap, rfl⟩
 ·go_wp2_with fail
  go_ret
  refine ⟨_, rfl, ⟨?_, ?_, ?_, ?_, ?_, ?_⟩, ?_, ?_⟩
  case _ => simp [go_sem, c0]
  case _ => simp [go_sem, c1]
  case _ => simp [go_sem, c2]
  case _ => simp [go_sem, c3, nilS]
  case _ => simp [go_sem, c4]
  case _ => intro o; simp [go_sem, fz]
  case _ => exact ownsRow_setCell_below HO.out (a := ⟨b, 3, none⟩) (by simpa using hb) _
  case _ => exact keep_but (HK2.out.set 3 _)
 ·go_wp2_with fail
  go_ret
  refine ⟨_, rfl, ⟨?_, ?_, ?_, ?_, ?_, ?_⟩, ?_, ?_⟩
  case _ => simp [go_sem, c0]
  case _ => simp [go_sem, c1]
  case _ => simp [go_sem, c2]
  case _ => simp [go_sem, c3, nilS]
  case _ => simp [go_sem, c4]
  case _ => intro o; simp [go_sem, fz]
  case _ => exact ownsRow_setCell_below HO.out (a := ⟨b, 3, none⟩) (by simpa using hb) _
  case _ => exact keep_but (HK2.out.set 3 _)
end Go.Proofs.YtdgmoiflahoihaaGreatDoor
namespace Go.Proofs.YtdgmoiflahoihaaGreatDoor
open Go.RowKit
set_option linter.unusedSimpArgs false
set_option linter.unusedVariables false
structure Core where
 kind : Int
 place : Nat
 name : Int
 label : Nat
 count : Int
 parts : List Pt
def Core.none : Core := ⟨0, 0, 0, 0, 0, []⟩
def RT (n : Nat) : Type := Nat.rec Empty (fun _ a => Core × List a × List a) n
def ruleU {α : Type} (t : List UInt8) (blk : Rd → Rd × List α) (r : Rd) : Rd × (Core × List α × List α) :=
 if r.seesOne t 97 122 then
  let nm := r.takeOne t 97 122
  let e := exprU t (nm.1.takeOne t 61 61).1
  ((e.1.takeOne t 59 59).1, ⟨0, r.pos, nm.2, 0, 0, e.2⟩, [], [])
 else if r.seesOne t 94 94 then
  let nm := (r.takeOne t 94 94).1.takeOne t 97 122
  let lb := (nm.1.takeOne t 58 58).1.label t
  let e := exprU t (lb.1.takeOne t 61 61).1
  ((e.1.takeOne t 59 59).1, ⟨1, r.pos, nm.2, lb.2, 0, e.2⟩, [], [])
 else if r.seesOne t 62 62 then
  let lb := (r.takeOne t 62 62).1.label t
  let e := exprU t lb.1
  ((e.1.takeOne t 59 59).1, ⟨2, r.pos, 0, lb.2, 0, e.2⟩, [], [])
 else if r.seesOne t 40 40 then
  let e := exprU t (r.opening t 40)
  let b1 := blk (e.1.closing t 41)
  if b1.1.seesOne t 123 123 then
   let b2 := blk b1.1
   (b2.1, ⟨3, r.pos, 0, 0, 0, e.2⟩, b1.2, b2.2)
  else (b1.1, ⟨3, r.pos, 0, 0, 0, e.2⟩, b1.2, [])
 else if r.seesOne t 42 42 then
  let c := (r.room.takeOne t 42 42).1.takeOne t 49 57
  let b1 := blk c.1
  (b1.1, ⟨4, r.pos, 0, 0, 1 + c.2, []⟩, b1.2, [])
 else ({ r with bad := true }, Core.none, [], [])
def rulesL {α : Type} (rule : Rd → Rd × α) (halt : Rd → Bool) : Nat → Rd → Rd × List α
 | 0, r => (r, [])
 | k + 1, r => if r.bad || halt r then (r, []) else ((rulesL rule halt k (rule r).1).1, (rule r).2 :: (rulesL rule halt k (rule r).1).2)
def blockU {α : Type} (t : List UInt8) (rule : Rd → Rd × α) (r : Rd) : Rd × List α :=
 let q := rulesL rule (fun r => r.seesOne t 125 125) (t.length + 1) (r.opening t 123)
 (q.1.closing t 125, q.2)
def blockF (t : List UInt8) (n : Nat) : Rd → Rd × List (RT n) :=
 match n with
 | 0 => fun r => ((r.opening t 123).closing t 125, [])
 | n + 1 => fun r => blockU t (α := RT (n + 1)) (fun r => ruleU t (blockF t n) r) r
def ruleF (t : List UInt8) (n : Nat) (r : Rd) : Rd × RT (n + 1) := ruleU t (blockF t n) r
structure Stp (t : List UInt8) (r r' : Rd) : Prop where
 pos : r.pos ≤ r'.pos
 le : r'.pos ≤ t.length
 depth : r'.depth = r.depth
 bad : r.bad = true → r'.bad = true
theorem Stp.trans {t : List UInt8} {x y z : Rd} (h : Stp t x y) (k : Stp t y z) : Stp t x z :=
 ⟨Nat.le_trans h.pos k.pos, k.le, k.depth.trans h.depth, fun e => k.bad (h.bad e)⟩
theorem stp_refl {t : List UInt8} {r : Rd} (h : r.pos ≤ t.length) : Stp t r r := ⟨Nat.le_refl _, h, rfl, id⟩
theorem Adv.stp {t : List UInt8} {x y : RP} (h : Adv t x y) : Stp t x.1 y.1 := ⟨h.pos, h.le, h.depth, h.bad⟩
theorem takeOne_stp {t : List UInt8} {r : Rd} (a b : UInt8) (h : r.pos ≤ t.length) : Stp t r (r.takeOne t a b).1 := (takeOne_adv (l := []) a b h).stp
theorem fail_stp {t : List UInt8} {r : Rd} (h : r.pos ≤ t.length) : Stp t r { r with bad := true } := ⟨Nat.le_refl _, h, rfl, fun _ => rfl⟩
theorem labF_stp {t : List UInt8} : ∀ (n : Nat) (r : Rd) (l : Nat), r.pos ≤ t.length → Stp t r (Rd.labF t n r l).1
 | 0, r, l, h => stp_refl h
 | n + 1, r, l, h => by
  unfold Rd.labF
  split
  ·have k := takeOne_stp (UInt8.ofNat (68 - n)) (UInt8.ofNat (68 - n)) h
   exact k.trans (labF_stp n _ _ k.le)
  ·exact labF_stp n _ _ h
theorem label_stp {t : List UInt8} {r : Rd} (h : r.pos ≤ t.length) : Stp t r (r.label t).1 := by
 unfold Rd.label
 split
 ·exact takeOne_stp _ _ h
 split
 ·have k := labF_stp 4 r 0 h
  exact k.trans (fail_stp k.le)
 ·exact labF_stp 4 r 0 h
theorem room_bad {r : Rd} (h : r.bad = true) : r.room.bad = true := by unfold Rd.room; split <;> simp [h]
theorem room_stp {t : List UInt8} {r : Rd} (h : r.pos ≤ t.length) : Stp t r r.room := ⟨by rw [room_pos]; exact Nat.le_refl _, by rw [room_pos]; exact h, room_depth r, room_bad⟩
theorem opening_facts {t : List UInt8} {r : Rd} (c : UInt8) (h : r.pos ≤ t.length) : r.pos ≤ (r.opening t c).pos ∧ (r.opening t c).pos ≤ t.length ∧ (r.opening t c).depth = r.depth + 1 ∧ (r.bad = true → (r.opening t c).bad = true) ∧ (8 ≤ r.depth → (r.opening t c).bad = true) := by
 have k := (room_stp h).trans (takeOne_stp c c (room_stp h).le)
 refine ⟨k.pos, k.le, ?_, k.bad, fun h8 => ?_⟩
 ·show (r.room.takeOne t c c).1.depth + 1 = _
  rw [k.depth]
 ·show (r.room.takeOne t c c).1.bad = true
  have hrb : r.room.bad = true := by unfold Rd.room; rw [if_pos h8]
  rw [takeOne_bad hrb]; exact hrb
theorem closing_facts {t : List UInt8} {r : Rd} (c : UInt8) (h : r.pos ≤ t.length) : r.pos ≤ (r.closing t c).pos ∧ (r.closing t c).pos ≤ t.length ∧ (r.closing t c).depth = r.depth - 1 ∧ (r.bad = true → (r.closing t c).bad = true) := by
 have k := takeOne_stp c c h
 refine ⟨k.pos, k.le, ?_, k.bad⟩
 show (r.takeOne t c c).1.depth - 1 = _
 rw [k.depth]
structure FitB (t : List UInt8) (r : Rd) : Prop where
 le : r.pos ≤ t.length
 d0 : 0 ≤ r.depth
 d8 : r.depth ≤ 8
theorem FitB.fitR {t : List UInt8} {r : Rd} (h : FitB t r) : FitR t r := ⟨h.le, h.d0, by have := h.d8; omega, fun e => by have := h.d8; omega⟩
theorem Stp.fitB {t : List UInt8} {r r' : Rd} (h : Stp t r r') (f : FitB t r) : FitB t r' := ⟨h.le, by rw [h.depth]; exact f.d0, by rw [h.depth]; exact f.d8⟩
theorem opening_fitR {t : List UInt8} {r : Rd} (c : UInt8) (f : FitB t r) : FitR t (r.opening t c) := by
 obtain ⟨h1, h2, h3, h4, h5⟩ := opening_facts c f.le
 have := f.d0
 have := f.d8
 exact ⟨h2, by omega, by omega, fun e => h5 (by omega)⟩
theorem expr_stp {t : List UInt8} {r : Rd} (f : FitR t r) : Stp t r (exprU t r).1 := (exprU_adv f).stp
theorem pair_stp {t : List UInt8} {r r' : Rd} (c d : UInt8) (f : FitB t r) (h : Stp t (r.opening t c) r') : Stp t r (r'.closing t d) := by
 obtain ⟨h1, h2, h3, h4, h5⟩ := opening_facts c f.le
 obtain ⟨k1, k2, k3, k4⟩ := closing_facts d h.le
 exact ⟨by have := h.pos; omega, k2, by rw [k3, h.depth, h3]; omega, fun e => k4 (h.bad (h4 e))⟩
theorem open_mov {t : List UInt8} {r : Rd} (c : UInt8) (hs : r.seesOne t c c = true) : (r.opening t c).bad = true ∨ r.pos < (r.opening t c).pos := by
 by_cases h8 : 8 ≤ r.depth
 ·exact .inl ((opening_facts c (Nat.le_of_lt (sees_lt hs).1)).2.2.2.2 h8)
 ·refine .inr ?_
  have e : r.room = r := by unfold Rd.room; rw [if_neg h8]
  show r.pos < (r.room.takeOne t c c).1.pos
  rw [e]
  have := takeOne_gt hs
  omega
def BlkStp {α : Type} (t : List UInt8) (blk : Rd → Rd × List α) : Prop := ∀ r, FitB t r → Stp t r (blk r).1
theorem ruleU_stp {α : Type} {t : List UInt8} {blk : Rd → Rd × List α} (hb : BlkStp t blk) {r : Rd} (f : FitB t r) : Stp t r (ruleU t blk r).1 ∧ ((ruleU t blk r).1.bad = true ∨ r.pos < (ruleU t blk r).1.pos) := by
 unfold ruleU
 split
 ·rename_i hs
  have a := takeOne_stp 97 122 f.le
  have a2 := a.trans (takeOne_stp 61 61 a.le)
  have a3 := a2.trans (expr_stp (a2.fitB f).fitR)
  have g := takeOne_gt hs
  have b1 := (takeOne_stp 61 61 a.le).trans (expr_stp (a2.fitB f).fitR)
  have b2 := b1.trans (takeOne_stp 59 59 a3.le)
  exact ⟨a.trans b2, .inr (by have := b2.pos; simp only; omega)⟩
 split
 ·rename_i hs
  have a := takeOne_stp 94 94 f.le
  have g := takeOne_gt hs
  have b1 := takeOne_stp 97 122 a.le
  have b2 := b1.trans (takeOne_stp 58 58 b1.le)
  have b3 := b2.trans (label_stp b2.le)
  have b4 := b3.trans (takeOne_stp 61 61 b3.le)
  have b5 := b4.trans (expr_stp ((a.trans b4).fitB f).fitR)
  have b6 := b5.trans (takeOne_stp 59 59 b5.le)
  exact ⟨a.trans b6, .inr (by have := b6.pos; simp only; omega)⟩
 split
 ·rename_i hs
  have a := takeOne_stp 62 62 f.le
  have g := takeOne_gt hs
  have b3 := label_stp a.le
  have b5 := b3.trans (expr_stp ((a.trans b3).fitB f).fitR)
  have b6 := b5.trans (takeOne_stp 59 59 b5.le)
  exact ⟨a.trans b6, .inr (by have := b6.pos; simp only; omega)⟩
 split
 ·rename_i hs
  have e := expr_stp (opening_fitR 40 f)
  have p := pair_stp 40 41 f e
  have q := hb _ (p.fitB f)
  have mv := open_mov 40 hs
  have c1 := (opening_facts 40 f.le)
  have c2 := closing_facts 41 e.le
  have mv2 : ((exprU t (r.opening t 40)).1.closing t 41).bad = true ∨ r.pos < ((exprU t (r.opening t 40)).1.closing t 41).pos := by
   rcases mv with h | h
   ·exact .inl (c2.2.2.2 (e.bad h))
   ·have := e.pos; exact .inr (by omega)
  have mv3 : (blk ((exprU t (r.opening t 40)).1.closing t 41)).1.bad = true ∨ r.pos < (blk ((exprU t (r.opening t 40)).1.closing t 41)).1.pos := by
   rcases mv2 with h | h
   ·exact .inl (q.bad h)
   ·have := q.pos; exact .inr (by omega)
  simp only
  split
  ·have q2 := hb _ ((p.trans q).fitB f)
   refine ⟨(p.trans q).trans q2, ?_⟩
   rcases mv3 with h | h
   ·exact .inl (q2.bad h)
   ·have := q2.pos; exact .inr (by simp only; omega)
  ·exact ⟨p.trans q, mv3⟩
 split
 ·rename_i hs
  have a := room_stp (t := t) f.le
  have a1 := a.trans (takeOne_stp 42 42 a.le)
  have b1 := takeOne_stp 49 57 a1.le
  have b2 := b1.trans (hb _ ((a1.trans b1).fitB f))
  refine ⟨a1.trans b2, ?_⟩
  by_cases h8 : 8 ≤ r.depth
  ·have hrb : r.room.bad = true := by unfold Rd.room; rw [if_pos h8]
   refine .inl (b2.bad ?_)
   rw [takeOne_bad hrb]; exact hrb
  ·refine .inr ?_
   have e : r.room = r := by unfold Rd.room; rw [if_neg h8]
   have g := takeOne_gt hs
   have := b2.pos
   rw [e] at this
   show r.pos < (blk (((r.room.takeOne t 42 42).1.takeOne t 49 57).1)).1.pos
   rw [e]
   omega
 ·exact ⟨fail_stp f.le, .inl rfl⟩
theorem rulesL_stp {α : Type} {t : List UInt8} {rule : Rd → Rd × α} {halt : Rd → Bool} (hr : ∀ r, FitB t r → Stp t r (rule r).1) : ∀ (k : Nat) (r : Rd), FitB t r → Stp t r (rulesL rule halt k r).1
 | 0, r, f => stp_refl f.le
 | k + 1, r, f => by
  unfold rulesL
  split
  ·exact stp_refl f.le
  ·have a := hr r f
   exact a.trans (rulesL_stp hr k _ (a.fitB f))
theorem rulesL_bad {α : Type} {rule : Rd → Rd × α} {halt : Rd → Bool} {k : Nat} {r : Rd} (h : r.bad = true) : rulesL rule halt k r = (r, []) := by
 cases k with
 | zero => rfl
 | succ k => unfold rulesL; rw [h]; rfl
theorem blockU_stp {α : Type} {t : List UInt8} {rule : Rd → Rd × α} (hr : ∀ r, FitB t r → Stp t r (rule r).1) : BlkStp t (blockU t rule) := by
 intro r f
 unfold blockU
 refine pair_stp 123 125 f ?_
 obtain ⟨h1, h2, h3, h4, h5⟩ := opening_facts (t := t) (r := r) 123 f.le
 by_cases h8 : 8 ≤ r.depth
 ·rw [rulesL_bad (h5 h8)]
  exact stp_refl h2
 ·exact rulesL_stp hr _ _ ⟨h2, by have := f.d0; omega, by omega⟩
theorem blockF_stp (t : List UInt8) : ∀ n, BlkStp t (blockF t n)
 | 0 => fun r f => pair_stp 123 125 f (stp_refl (opening_facts (t := t) (r := r) 123 f.le).2.1)
 | n + 1 => blockU_stp fun r f => (ruleU_stp (blockF_stp t n) f).1
theorem ruleF_stp (t : List UInt8) (n : Nat) {r : Rd} (f : FitB t r) : Stp t r (ruleF t n r).1 ∧ ((ruleF t n r).1.bad = true ∨ r.pos < (ruleF t n r).1.pos) := ruleU_stp (blockF_stp t n) f
end Go.Proofs.YtdgmoiflahoihaaGreatDoor
namespace Go.Proofs.YtdgmoiflahoihaaGreatDoor
open Go.RowKit
set_option linter.unusedSimpArgs false
set_option linter.unusedVariables false
theorem run_append_fresh {P : Program} (w : World) (base : Nat) (t ty e : TypeId) (i : TypeInfo) (z : Value) (size bytes : Nat) (ht : P.underlying t = some (.slice e)) (hi : P.info? e = some i) (hz : i.zero = some z)
  (hsize : i.size = size) (hby : i.bytes = bytes) (hzs : z.cells.size = size) (hsz : 0 < size)
  (v : Value) (n : Nat) (xs : List Value) (hown : w.ownsRow base e size v n xs)
  (a : Addr) (m c : Nat) (news : List Value) (hl : news.length = m * size) (hnews : ∀ j u, news[j]? = some u → w.cell? (a.add j) = some u) (h1 : ∀ u ∈ news, u.oneCell' = true)
  (h63 : n + m ≤ maxLen) (hbytes : (n + m) * bytes ≤ 140737488355328) (hbase : base ≤ w.heap.size) (hm : 0 < m) :
  ∃ v' w', (Builtin.append_ #[t, t] ty #[v, .slice (some a) m c]).run P w = .ok v' w' ∧ w'.ownsRow base e size v' (n + m) (xs ++ news) ∧ w.grownBy w' v.ownBlock ∧ (v'.ownBlock = v.ownBlock ∨ ∃ g, v'.ownBlock = some g ∧ w.heap.size ≤ g) := by
 obtain ⟨v', w', hr, h2, h3, _⟩ := run_append_own (P := P) w base t ty e i z size bytes ht hi hz hsize hby hzs hsz v n xs hown a m c news hl hnews h1 h63 hbytes hbase
 refine ⟨v', w', hr, h2, h3, ?_⟩
 subst hsize
 subst hby
 have hsmall : n + m ≤ 9223372036854775807 := by simp only [maxLen] at h63; omega
 rcases hown.2 with ⟨rfl, rfl⟩ | ⟨g, cap, cur, rfl, hbg, hg, hnc, hcm, hcs, htake⟩
 ·have q := Go.run_append_nil (P := P) w t ty e i z ht hi hz a m c news hl hnews hm (by omega) (by have hb := hbytes; simp only [Nat.zero_add] at hb; omega)
  rw [q] at hr
  cases hr
  exact .inr ⟨w.heap.size, rfl, Nat.le_refl _⟩
 ·by_cases hroom : n + m ≤ cap
  ·have hfit : n * i.size + news.length ≤ cur.size := by rw [hl, hcs, ← Nat.add_mul]; exact Nat.mul_le_mul_right _ hroom
   have q := run_append_room (P := P) w t ty e i ht hi g n cap cur hg a m c news hl hnews h1 hroom hfit
   rw [q] at hr
   cases hr
   exact .inl rfl
  ·have holds : ∀ j u, xs[j]? = some u → w.cell? ((⟨g, 0, none⟩ : Addr).add j) = some u := hown.cells (g := g) rfl
   have q := run_append_grow (P := P) w t ty e i z ht hi hz ⟨g, 0, none⟩ n cap xs hown.1 holds a m c news hl hnews (by omega) (by omega) (growslice_fits (by omega) hbytes)
   rw [q] at hr
   cases hr
   exact .inr ⟨w.heap.size, rfl, Nat.le_refl _⟩
theorem wpList_append_fresh {P : Program} {w : World} {ops : Array Oper} {rest : List Oper} {o : Oper} {a : Act} {Q : Exit → Act → World → Prop} (hgd : o.guard = none) (s x : Operand) (t : TypeId)
  (ho : o.op = .call { callee := .builtin .append, args := #[s, x], argTypes := #[t, t] })
  (base : Nat) (e : TypeId) (i : TypeInfo) (z : Value) (size bytes : Nat) (ht : P.underlying t = some (.slice e)) (hi : P.info? e = some i) (hz : i.zero = some z)
  (hsize : i.size = size) (hby : i.bytes = bytes) (hzs : z.cells.size = size) (hsz : 0 < size)
  (v : Value) (n : Nat) (xs : List Value) (hs : a.eval s = v) (hown : w.ownsRow base e size v n xs)
  (ad : Addr) (m c : Nat) (news : List Value) (hx : a.eval x = .slice (some ad) m c) (hl : news.length = m * size) (hnews : ∀ j u, news[j]? = some u → w.cell? (ad.add j) = some u) (h1 : ∀ u ∈ news, u.oneCell' = true)
  (h63 : n + m ≤ maxLen) (hbytes : (n + m) * bytes ≤ 140737488355328) (hbase : base ≤ w.heap.size) (hm : 0 < m)
  (h : ∀ v' w', w'.ownsRow base e size v' (n + m) (xs ++ news) → w.grownBy w' v.ownBlock → (v'.ownBlock = v.ownBlock ∨ ∃ g, v'.ownBlock = some g ∧ w.heap.size ≤ g) → wpList P ops Q rest (a.put o.dst v') w') : wpList P ops Q (o :: rest) a w := by
 obtain ⟨v', w', hr, h2, h3, h4⟩ := run_append_fresh (P := P) w base t o.type e i z size bytes ht hi hz hsize hby hzs hsz v n xs hown ad m c news hl hnews h1 h63 hbytes hbase hm
 refine wpList_plain hgd fun _ hK => ?_
 unfold Oper.wp
 simp [execOp, ho, resolve, invoke, builtin, hs, hx, hr, Result.andThen]
 exact hK _ _ (h v' w' h2 h3 h4)
def PartsV (w : World) (P : Nat → Prop) (v : Value) (l : List Pt) : Prop := w.ownsRow 0 195 2 v l.length (ptCells l) ∧ ∀ k, v.ownBlock = some k → P k
def coreV (c : Core) : List Value := [.int .i64 c.kind, .int .i64 c.place, .int .i64 c.name, .int .i64 c.label, .int .i64 c.count]
def RuleC {α : Type} (rows : Value → List α → Prop) (w : World) (P : Nat → Prop) (cs : List Value) (r : Core × List α × List α) : Prop :=
 ∃ ve v1 v2, cs = coreV r.1 ++ [ve, v1, v2] ∧ PartsV w P ve r.1.parts ∧ rows v1 r.2.1 ∧ rows v2 r.2.2
def RowsC {α : Type} (one : List Value → α → Prop) (w : World) (P : Nat → Prop) (v : Value) (l : List α) : Prop :=
 ∃ xs : List (List Value), w.ownsRow 0 149 8 v l.length xs.flatten ∧ (∀ k, v.ownBlock = some k → P k) ∧ xs.length = l.length ∧ ∀ i (h : i < l.length) (h' : i < xs.length), one xs[i] l[i]
def RulesV (n : Nat) (w : World) (P : Nat → Prop) : Value → List (RT n) → Prop :=
 match n with
 | 0 => fun v _ => w.ownsRow 0 149 8 v 0 [] ∧ ∀ k, v.ownBlock = some k → P k
 | n + 1 => fun v l => RowsC (α := RT (n + 1)) (fun cs r => RuleC (RulesV n w P) w P cs r) w P v l
theorem own_same {w w' : World} {base size n : Nat} {e : TypeId} {v : Value} {xs : List Value} (h : w.ownsRow base e size v n xs) (hk : ∀ k, v.ownBlock = some k → k < w.heap.size → w'.heap[k]? = w.heap[k]?) : w'.ownsRow base e size v n xs := by
 refine ⟨h.1, ?_⟩
 rcases h.2 with h0 | ⟨g, cap, cur, h1, h2, h3, h4⟩
 ·exact .inl h0
 ·refine .inr ⟨g, cap, cur, h1, h2, ?_, h4⟩
  rw [hk g (by rw [h1]; rfl) (Array.getElem?_eq_some_iff.mp h3).1, h3]
theorem partsV_frame {w w' : World} {P Q : Nat → Prop} {v : Value} {l : List Pt} (h : PartsV w P v l) (hk : ∀ k, P k → k < w.heap.size → Q k ∧ w'.heap[k]? = w.heap[k]?) : PartsV w' Q v l :=
 ⟨own_same h.1 (fun k e hl => (hk k (h.2 k e) hl).2), fun k e => (hk k (h.2 k e) (h.1.lt k e).2).1⟩
theorem rowsC_frame {α : Type} {one two : List Value → α → Prop} {w w' : World} {P Q : Nat → Prop} {v : Value} {l : List α} (h : RowsC one w P v l) (hk : ∀ k, P k → k < w.heap.size → Q k ∧ w'.heap[k]? = w.heap[k]?) (ho : ∀ cs r, one cs r → two cs r) : RowsC two w' Q v l := by
 obtain ⟨xs, h1, h2, h3, h4⟩ := h
 exact ⟨xs, own_same h1 (fun k e hl => (hk k (h2 k e) hl).2), fun k e => (hk k (h2 k e) (h1.lt k e).2).1, h3, fun i a b => ho _ _ (h4 i a b)⟩
theorem ruleC_frame {α : Type} {rows rows' : Value → List α → Prop} {w w' : World} {P Q : Nat → Prop} {cs : List Value} {r : Core × List α × List α} (h : RuleC rows w P cs r) (hk : ∀ k, P k → k < w.heap.size → Q k ∧ w'.heap[k]? = w.heap[k]?) (ho : ∀ v l, rows v l → rows' v l) : RuleC rows' w' Q cs r := by
 obtain ⟨ve, v1, v2, h1, h2, h3, h4⟩ := h
 exact ⟨ve, v1, v2, h1, partsV_frame h2 hk, ho _ _ h3, ho _ _ h4⟩
theorem rulesV_frame {w w' : World} {P Q : Nat → Prop} (hk : ∀ k, P k → k < w.heap.size → Q k ∧ w'.heap[k]? = w.heap[k]?) : ∀ (n : Nat) (v : Value) (l : List (RT n)), RulesV n w P v l → RulesV n w' Q v l
 | 0, v, l, h => ⟨own_same h.1 (fun k e hl => (hk k (h.2 k e) hl).2), fun k e => (hk k (h.2 k e) (h.1.lt k e).2).1⟩
 | n + 1, v, l, h => rowsC_frame (one := fun cs (r : RT (n + 1)) => RuleC (RulesV n w P) w P cs r) h hk fun cs r hr => ruleC_frame hr hk (rulesV_frame hk n)
def RuleV (n : Nat) (w : World) (P : Nat → Prop) (cs : List Value) (r : RT (n + 1)) : Prop := RuleC (RulesV n w P) w P cs r
theorem ruleV_frame {w w' : World} {P Q : Nat → Prop} {n : Nat} {cs : List Value} {r : RT (n + 1)} (h : RuleV n w P cs r) (hk : ∀ k, P k → k < w.heap.size → Q k ∧ w'.heap[k]? = w.heap[k]?) : RuleV n w' Q cs r :=
 ruleC_frame h hk (rulesV_frame hk n)
theorem rulesV_nil (n : Nat) (w : World) (P : Nat → Prop) : RulesV n w P nilS [] := by
 cases n with
 | zero => exact ⟨World.ownsRow_nil .., fun k e => (by cases e)⟩
 | succ n => exact ⟨[], World.ownsRow_nil .., fun k e => (by cases e), rfl, fun i h => (by cases h)⟩
theorem partsV_nil (w : World) (P : Nat → Prop) : PartsV w P nilS [] := ⟨World.ownsRow_nil .., fun k e => (by cases e)⟩
theorem infoRule : (Tryz.prog.info? 149).map (fun i => (i.zero, i.size, i.bytes)) = some (some (.agg #[.int .i64 0, .int .i64 0, .int .i64 0, .int .i64 0, .int .i64 0, .slice none 0 0, .slice none 0 0, .slice none 0 0]), 8, 112) := by kernel_rfl
theorem infoHead : (Tryz.prog.info? 146).map (fun i => (i.zero, i.size, i.bytes)) = some (some (.agg #[.bool false, .int .i64 0, .int .i64 0, .int .i64 0]), 4, 32) := by kernel_rfl
theorem parts_of_info {p : Program} {t : TypeId} {z : Value} {a b : Nat} (h : (p.info? t).map (fun i => (i.zero, i.size, i.bytes)) = some (some z, a, b)) : ∃ i, p.info? t = some i ∧ i.zero = some z ∧ i.size = a ∧ i.bytes = b := by
 cases e : p.info? t with
 | none => rw [e] at h; cases h
 | some i => rw [e] at h; simp at h; exact ⟨i, rfl, h.1, h.2.1, h.2.2⟩
end Go.Proofs.YtdgmoiflahoihaaGreatDoor
namespace Go.Proofs.YtdgmoiflahoihaaGreatDoor
open Go.RowKit
set_option linter.unusedSimpArgs false
set_option linter.unusedVariables false
theorem readerAt_set {w : World} {b : Nat} {s : ByteArray} {r : Rd} {pv : Value} (h : ReaderAt w b s r pv) (a : Addr) (u : Value) (ha : a.block ≠ b) : ReaderAt (w.setCell a u) b s r pv := by
 have hh : (w.setCell a u).heap[b]? = w.heap[b]? := Below.heap_setCell _ _ _ _ (fun e => ha e.symm)
 obtain ⟨c0, c1, c2, c3, c4, fz⟩ := h
 refine ⟨?_, ?_, ?_, ?_, ?_, fun o => ?_⟩
 ·exact (World.cell?_of_block (a := ⟨b, 0, none⟩) hh).trans c0
 ·exact (World.cell?_of_block (a := ⟨b, 1, none⟩) hh).trans c1
 ·exact (World.cell?_of_block (a := ⟨b, 2, none⟩) hh).trans c2
 ·exact (World.cell?_of_block (a := ⟨b, 3, none⟩) hh).trans c3
 ·exact (World.cell?_of_block (a := ⟨b, 4, none⟩) hh).trans c4
 ·exact (World.frozen?_of_block (a := ⟨b, o, none⟩) hh).trans (fz o)
theorem readerAt_alloc {w : World} {b : Nat} {s : ByteArray} {r : Rd} {pv : Value} (h : ReaderAt w b s r pv) (o : Obj) : ReaderAt (w.alloc o) b s r pv := by
 obtain ⟨c0, c1, c2, c3, c4, fz⟩ := h
 have hb : b < w.heap.size := World.block_lt_of_cell? w _ c0
 refine ⟨?_, ?_, ?_, ?_, ?_, fun o => ?_⟩
 ·exact (World.cell?_alloc_past _ _ _ hb).trans c0
 ·exact (World.cell?_alloc_past _ _ _ hb).trans c1
 ·exact (World.cell?_alloc_past _ _ _ hb).trans c2
 ·exact (World.cell?_alloc_past _ _ _ hb).trans c3
 ·exact (World.cell?_alloc_past _ _ _ hb).trans c4
 ·exact (World.frozen?_alloc_past _ _ _ hb).trans (fz o)
theorem But.setNew {b : Nat} {w W : World} (h : But b w W) (a : Addr) (u : Value) (ha : w.heap.size ≤ a.block) : But b w (W.setCell a u) := by
 obtain ⟨h1, h2, h3, h4, h5⟩ := h
 refine ⟨h1, h2, h3, by simpa using h4, fun k hk hne => ?_⟩
 rw [Below.heap_setCell _ _ _ _ (by omega)]
 exact h5 k hk hne
theorem But.alloc {b : Nat} {w W : World} (h : But b w W) (o : Obj) : But b w (W.alloc o) := by
 obtain ⟨h1, h2, h3, h4, h5⟩ := h
 refine ⟨h1, h2, h3, by simp; omega, fun k hk hne => ?_⟩
 rw [Below.heap_alloc _ _ _ (by omega)]
 exact h5 k hk hne
theorem partsV_set {W : World} {P : Nat → Prop} {v : Value} {l : List Pt} (h : PartsV W P v l) (a : Addr) (u : Value) (hP : ∀ k, P k → k ≠ a.block) : PartsV (W.setCell a u) P v l :=
 partsV_frame h fun k hk _ => ⟨hk, Below.heap_setCell _ _ _ _ (hP k hk)⟩
theorem partsV_but {W W' : World} {b : Nat} {P : Nat → Prop} {v : Value} {l : List Pt} (h : PartsV W P v l) (hb : But b W W') (hP : ∀ k, P k → k ≠ b) : PartsV W' P v l :=
 partsV_frame h fun k hk hl => ⟨hk, hb.block k hl (fun e => hP k hk (by cases e; rfl))⟩
theorem rulesV_set {n : Nat} {W : World} {P : Nat → Prop} {v : Value} {l : List (RT n)} (h : RulesV n W P v l) (a : Addr) (u : Value) (hP : ∀ k, P k → k ≠ a.block) : RulesV n (W.setCell a u) P v l :=
 rulesV_frame (fun k hk _ => ⟨hk, Below.heap_setCell _ _ _ _ (hP k hk)⟩) n v l h
theorem rulesV_but {n : Nat} {W W' : World} {b : Nat} {P : Nat → Prop} {v : Value} {l : List (RT n)} (h : RulesV n W P v l) (hb : But b W W') (hP : ∀ k, P k → k ≠ b) : RulesV n W' P v l :=
 rulesV_frame (fun k hk hl => ⟨hk, hb.block k hl (fun e => hP k hk (by cases e; rfl))⟩) n v l h
theorem rulesV_mono {n : Nat} {W : World} {P Q : Nat → Prop} {v : Value} {l : List (RT n)} (h : RulesV n W P v l) (hP : ∀ k, P k → Q k) : RulesV n W Q v l :=
 rulesV_frame (fun k hk hl => ⟨hP k hk, rfl⟩) n v l h
theorem own_mono {w : World} {base base' : Nat} {e : TypeId} {size : Nat} {v : Value} {n : Nat} {xs : List Value} (h : w.ownsRow base e size v n xs) (hb : base' ≤ base) : w.ownsRow base' e size v n xs := by
 refine ⟨h.1, ?_⟩
 rcases h.2 with h0 | ⟨g, cap, cur, h1, h2, h3⟩
 ·exact .inl h0
 ·exact .inr ⟨g, cap, cur, h1, Nat.le_trans hb h2, h3⟩
def Past (w : World) (k : Nat) : Prop := w.heap.size + 2 ≤ k
structure Loc (W w : World) (b : Nat) (s : ByteArray) (r : Rd) (v0 v1 v2 v3 v4 v5 v6 v7 : Value) : Prop where
 rd : ReaderAt W b s r nilS
 g0 : W.cell? ⟨w.heap.size + 1, 0, none⟩ = some v0
 g1 : W.cell? ⟨w.heap.size + 1, 1, none⟩ = some v1
 g2 : W.cell? ⟨w.heap.size + 1, 2, none⟩ = some v2
 g3 : W.cell? ⟨w.heap.size + 1, 3, none⟩ = some v3
 g4 : W.cell? ⟨w.heap.size + 1, 4, none⟩ = some v4
 g5 : W.cell? ⟨w.heap.size + 1, 5, none⟩ = some v5
 g6 : W.cell? ⟨w.heap.size + 1, 6, none⟩ = some v6
 g7 : W.cell? ⟨w.heap.size + 1, 7, none⟩ = some v7
 gf : ∀ o, W.frozen? ⟨w.heap.size + 1, o, none⟩ = false
 h0 : W.cell? ⟨w.heap.size, 0, none⟩ = some (.int .i64 0)
 h1 : W.cell? ⟨w.heap.size, 1, none⟩ = some (.int .i64 0)
 h2 : W.cell? ⟨w.heap.size, 2, none⟩ = some (.int .i64 0)
 h3 : W.cell? ⟨w.heap.size, 3, none⟩ = some (.int .i64 0)
 h4 : W.cell? ⟨w.heap.size, 4, none⟩ = some (.int .i64 0)
 h5 : W.cell? ⟨w.heap.size, 5, none⟩ = some (.slice none 0 0)
 h6 : W.cell? ⟨w.heap.size, 6, none⟩ = some (.slice none 0 0)
 h7 : W.cell? ⟨w.heap.size, 7, none⟩ = some (.slice none 0 0)
 hf : ∀ o, W.frozen? ⟨w.heap.size, o, none⟩ = false
 but : But b w W
 size : w.heap.size + 2 ≤ W.heap.size
 lt : b < w.heap.size
theorem loc_start {w : World} {b : Nat} {s : ByteArray} {r : Rd} (h : ReaderAt w b s r nilS) (t t' : TypeId) (v0 v1 v2 v3 v4 v5 v6 v7 : Value) : Loc ((w.alloc (.cells #[.int .i64 0, .int .i64 0, .int .i64 0, .int .i64 0, .int .i64 0, .slice none 0 0, .slice none 0 0, .slice none 0 0] t)).alloc (.cells #[v0, v1, v2, v3, v4, v5, v6, v7] t')) w b s r v0 v1 v2 v3 v4 v5 v6 v7 := by
 have hb : b < w.heap.size := World.block_lt_of_cell? w _ h.c0
 refine ⟨readerAt_alloc (readerAt_alloc h _) _, ?_, ?_, ?_, ?_, ?_, ?_, ?_, ?_, fun o => ?_, ?_, ?_, ?_, ?_, ?_, ?_, ?_, ?_, fun o => ?_, ((But.refl b w).alloc _).alloc _, by simp, hb⟩
 all_goals simp [go_sem]
theorem Loc.call {W W' w : World} {b : Nat} {s : ByteArray} {r r' : Rd} {v0 v1 v2 v3 v4 v5 v6 v7 : Value} (L : Loc W w b s r v0 v1 v2 v3 v4 v5 v6 v7) (hr : ReaderAt W' b s r' nilS) (hb : But b W W') : Loc W' w b s r' v0 v1 v2 v3 v4 v5 v6 v7 := by
 have hs := L.size
 have hl := L.lt
 have k1 : W'.heap[w.heap.size + 1]? = W.heap[w.heap.size + 1]? := hb.block _ (by omega) (fun e => by cases e; omega)
 have k0 : W'.heap[w.heap.size]? = W.heap[w.heap.size]? := hb.block _ (by omega) (fun e => by cases e; omega)
 exact ⟨hr, (World.cell?_of_block (a := ⟨w.heap.size + 1, 0, none⟩) k1).trans L.g0, (World.cell?_of_block (a := ⟨w.heap.size + 1, 1, none⟩) k1).trans L.g1, (World.cell?_of_block (a := ⟨w.heap.size + 1, 2, none⟩) k1).trans L.g2, (World.cell?_of_block (a := ⟨w.heap.size + 1, 3, none⟩) k1).trans L.g3, (World.cell?_of_block (a := ⟨w.heap.size + 1, 4, none⟩) k1).trans L.g4, (World.cell?_of_block (a := ⟨w.heap.size + 1, 5, none⟩) k1).trans L.g5, (World.cell?_of_block (a := ⟨w.heap.size + 1, 6, none⟩) k1).trans L.g6, (World.cell?_of_block (a := ⟨w.heap.size + 1, 7, none⟩) k1).trans L.g7, fun o => (World.frozen?_of_block (a := ⟨w.heap.size + 1, o, none⟩) k1).trans (L.gf o), (World.cell?_of_block (a := ⟨w.heap.size, 0, none⟩) k0).trans L.h0, (World.cell?_of_block (a := ⟨w.heap.size, 1, none⟩) k0).trans L.h1, (World.cell?_of_block (a := ⟨w.heap.size, 2, none⟩) k0).trans L.h2, (World.cell?_of_block (a := ⟨w.heap.size, 3, none⟩) k0).trans L.h3, (World.cell?_of_block (a := ⟨w.heap.size, 4, none⟩) k0).trans L.h4, (World.cell?_of_block (a := ⟨w.heap.size, 5, none⟩) k0).trans L.h5, (World.cell?_of_block (a := ⟨w.heap.size, 6, none⟩) k0).trans L.h6, (World.cell?_of_block (a := ⟨w.heap.size, 7, none⟩) k0).trans L.h7, fun o => (World.frozen?_of_block (a := ⟨w.heap.size, o, none⟩) k0).trans (L.hf o), L.but.trans hb, Nat.le_trans hs hb.size, hl⟩
theorem Loc.set2 {W w : World} {b : Nat} {s : ByteArray} {r : Rd} {v0 v1 v2 v3 v4 v5 v6 v7 : Value} (L : Loc W w b s r v0 v1 v2 v3 v4 v5 v6 v7) (u : Value) : Loc (W.setCell ⟨w.heap.size + 1, 2, none⟩ u) w b s r v0 v1 u v3 v4 v5 v6 v7 := by
 obtain ⟨rd, g0, g1, g2, g3, g4, g5, g6, g7, gf, h0, h1, h2, h3, h4, h5, h6, h7, hf, but, size, lt⟩ := L
 refine ⟨readerAt_set rd _ _ (by simp only; omega), ?_, ?_, ?_, ?_, ?_, ?_, ?_, ?_, fun o => ?_, ?_, ?_, ?_, ?_, ?_, ?_, ?_, ?_, fun o => ?_, but.setNew _ _ (by simp), by simpa using size, lt⟩
 all_goals simp [go_sem, g0, g1, g2, g3, g4, g5, g6, g7, gf, h0, h1, h2, h3, h4, h5, h6, h7, hf]
theorem Loc.set3 {W w : World} {b : Nat} {s : ByteArray} {r : Rd} {v0 v1 v2 v3 v4 v5 v6 v7 : Value} (L : Loc W w b s r v0 v1 v2 v3 v4 v5 v6 v7) (u : Value) : Loc (W.setCell ⟨w.heap.size + 1, 3, none⟩ u) w b s r v0 v1 v2 u v4 v5 v6 v7 := by
 obtain ⟨rd, g0, g1, g2, g3, g4, g5, g6, g7, gf, h0, h1, h2, h3, h4, h5, h6, h7, hf, but, size, lt⟩ := L
 refine ⟨readerAt_set rd _ _ (by simp only; omega), ?_, ?_, ?_, ?_, ?_, ?_, ?_, ?_, fun o => ?_, ?_, ?_, ?_, ?_, ?_, ?_, ?_, ?_, fun o => ?_, but.setNew _ _ (by simp), by simpa using size, lt⟩
 all_goals simp [go_sem, g0, g1, g2, g3, g4, g5, g6, g7, gf, h0, h1, h2, h3, h4, h5, h6, h7, hf]
theorem Loc.set4 {W w : World} {b : Nat} {s : ByteArray} {r : Rd} {v0 v1 v2 v3 v4 v5 v6 v7 : Value} (L : Loc W w b s r v0 v1 v2 v3 v4 v5 v6 v7) (u : Value) : Loc (W.setCell ⟨w.heap.size + 1, 4, none⟩ u) w b s r v0 v1 v2 v3 u v5 v6 v7 := by
 obtain ⟨rd, g0, g1, g2, g3, g4, g5, g6, g7, gf, h0, h1, h2, h3, h4, h5, h6, h7, hf, but, size, lt⟩ := L
 refine ⟨readerAt_set rd _ _ (by simp only; omega), ?_, ?_, ?_, ?_, ?_, ?_, ?_, ?_, fun o => ?_, ?_, ?_, ?_, ?_, ?_, ?_, ?_, ?_, fun o => ?_, but.setNew _ _ (by simp), by simpa using size, lt⟩
 all_goals simp [go_sem, g0, g1, g2, g3, g4, g5, g6, g7, gf, h0, h1, h2, h3, h4, h5, h6, h7, hf]
theorem Loc.set5 {W w : World} {b : Nat} {s : ByteArray} {r : Rd} {v0 v1 v2 v3 v4 v5 v6 v7 : Value} (L : Loc W w b s r v0 v1 v2 v3 v4 v5 v6 v7) (u : Value) : Loc (W.setCell ⟨w.heap.size + 1, 5, none⟩ u) w b s r v0 v1 v2 v3 v4 u v6 v7 := by
 obtain ⟨rd, g0, g1, g2, g3, g4, g5, g6, g7, gf, h0, h1, h2, h3, h4, h5, h6, h7, hf, but, size, lt⟩ := L
 refine ⟨readerAt_set rd _ _ (by simp only; omega), ?_, ?_, ?_, ?_, ?_, ?_, ?_, ?_, fun o => ?_, ?_, ?_, ?_, ?_, ?_, ?_, ?_, ?_, fun o => ?_, but.setNew _ _ (by simp), by simpa using size, lt⟩
 all_goals simp [go_sem, g0, g1, g2, g3, g4, g5, g6, g7, gf, h0, h1, h2, h3, h4, h5, h6, h7, hf]
theorem Loc.set6 {W w : World} {b : Nat} {s : ByteArray} {r : Rd} {v0 v1 v2 v3 v4 v5 v6 v7 : Value} (L : Loc W w b s r v0 v1 v2 v3 v4 v5 v6 v7) (u : Value) : Loc (W.setCell ⟨w.heap.size + 1, 6, none⟩ u) w b s r v0 v1 v2 v3 v4 v5 u v7 := by
 obtain ⟨rd, g0, g1, g2, g3, g4, g5, g6, g7, gf, h0, h1, h2, h3, h4, h5, h6, h7, hf, but, size, lt⟩ := L
 refine ⟨readerAt_set rd _ _ (by simp only; omega), ?_, ?_, ?_, ?_, ?_, ?_, ?_, ?_, fun o => ?_, ?_, ?_, ?_, ?_, ?_, ?_, ?_, ?_, fun o => ?_, but.setNew _ _ (by simp), by simpa using size, lt⟩
 all_goals simp [go_sem, g0, g1, g2, g3, g4, g5, g6, g7, gf, h0, h1, h2, h3, h4, h5, h6, h7, hf]
theorem Loc.set7 {W w : World} {b : Nat} {s : ByteArray} {r : Rd} {v0 v1 v2 v3 v4 v5 v6 v7 : Value} (L : Loc W w b s r v0 v1 v2 v3 v4 v5 v6 v7) (u : Value) : Loc (W.setCell ⟨w.heap.size + 1, 7, none⟩ u) w b s r v0 v1 v2 v3 v4 v5 v6 u := by
 obtain ⟨rd, g0, g1, g2, g3, g4, g5, g6, g7, gf, h0, h1, h2, h3, h4, h5, h6, h7, hf, but, size, lt⟩ := L
 refine ⟨readerAt_set rd _ _ (by simp only; omega), ?_, ?_, ?_, ?_, ?_, ?_, ?_, ?_, fun o => ?_, ?_, ?_, ?_, ?_, ?_, ?_, ?_, ?_, fun o => ?_, but.setNew _ _ (by simp), by simpa using size, lt⟩
 all_goals simp [go_sem, g0, g1, g2, g3, g4, g5, g6, g7, gf, h0, h1, h2, h3, h4, h5, h6, h7, hf]
end Go.Proofs.YtdgmoiflahoihaaGreatDoor
