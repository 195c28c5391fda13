import Derived.Test.YtdgmoiflahoihabGreatDoorRExw

namespace Go.Proofs.YtdgmoiflahoihabGreatDoor
open Go.RowKit
set_option linter.unusedSimpArgs false
set_option linter.unusedVariables false
theorem minus_yes {t : List UInt8} {r : Rd} (k : Nat) (h : r.seesOne t 45 45 = true) : minusF t (k + 1) r = ((minusF t k (r.takeOne t 45 45).1).1, (minusF t k (r.takeOne t 45 45).1).2 + 1) := by
 conv => lhs; unfold minusF
 rw [if_pos h]
theorem minus_no {t : List UInt8} {r : Rd} (k : Nat) (h : r.seesOne t 45 45 = false) : minusF t (k + 1) r = (r, 0) := by
 conv => lhs; unfold minusF
 rw [if_neg (by rw [h]; decide)]
theorem negs_more (k : Nat) : negs k ++ [⟨3, 0⟩] = negs (k + 1) := by
 unfold negs
 rw [List.replicate_succ']
set_option maxHeartbeats 1000000 in
theorem unit_rd (s : ByteArray) (n : Nat) (cmp : RP → RP) (hc : CmpCalls s n cmp) (ha : CmpAdv s.data.toList n cmp) (hs : s.size ≤ 400) (base b : Nat) (x : RP) (w : World) (h : ExAt w base b s x.1 x.2) (hf : Fit s.data.toList (n + 1) x) :
  Calls Tryz.prog 121 #[.pointer (some ⟨b, 0, none⟩)] w fun e w' => e = .returned (.tuple #[]) ∧ ExAt w' base b s (unitU s.data.toList cmp x).1 (unitU s.data.toList cmp x).2 ∧ Keep base b w w' := by
 obtain ⟨r, l⟩ := x
 have hsl : s.data.toList.length = s.size := by simp
 have hp : r.pos ≤ s.data.toList.length := hf.le
 have km := minusF_adv (l := l) (s.data.toList.length + 1) r hf.le
 unfold unitU
 simp only
 generalize hM : minusF s.data.toList (s.data.toList.length + 1) r = M at *
 obtain ⟨rm, m⟩ := M
 simp only at km
 have kl := km.len
 have kle := km.le
 simp only [List.length_append, negs, List.length_replicate] at kl kle
 have hm4 : m ≤ 400 := by omega
 have km2 : Adv s.data.toList (r, l) (rm, l) := ⟨km.pos, km.le, by have := km.pos; simp only at this ⊢; omega, km.depth, km.bad⟩
 have fm := km2.fit hf
 have ka := plainU_adv ha fm
 simp only
 generalize hy : plainU s.data.toList cmp (rm, l) = y at *
 have fy := ka.fit fm
 have yl := fy.len
 have yp := fy.le
 have HY : Hid (plainU s.data.toList cmp (rm, l) = y) := hy
 have HM : Hid (minusF s.data.toList (s.data.toList.length + 1) r = (rm, m)) := hM
 have HH : Hid (ExAt w base b s r l) := h
 have FM : Hid (Fit s.data.toList (n + 1) (rm, l)) := fm
 have HC : Hid (CmpCalls s n cmp) := hc
 have HA : Hid (CmpAdv s.data.toList n cmp) := ha
 clear h hf hc ha hy hM km km2 fm ka fy kl
 go_enter Tryz.func121, Tryz.ntmps121
 go_wp2_with fail
 go_loopw [2] (fun x w' => ∃ (k j : Nat) (r' : Rd), x = .int .i64 k ∧ r'.pos ≤ s.data.toList.length ∧ Hid (ExAt w' base b s r' l) ∧ Hid (Keep base b w w') ∧ s.data.toList.length - r'.pos < j ∧ k ≤ 400 ∧ Hid ((minusF s.data.toList j r').1 = rm ∧ (minusF s.data.toList j r').2 + k = m)) (fun x _ => 1000 - (intOf x).toNat)
 case atStart => exact ⟨0, s.data.toList.length + 1, r, rfl, hp, HH, Keep.refl _ _ _, by omega, by omega, by show _ ∧ _; rw [HM.out]; exact ⟨rfl, rfl⟩⟩
 case round =>
  obtain ⟨k, j, r', rfl, hp', HR', hk, hj, hk4, HQ⟩ := hrel
  obtain ⟨j', rfl⟩ : ∃ j', j = j' + 1 := ⟨j - 1, by omega⟩
  cases hse : r'.seesOne s.data.toList 45 45
  ·have hq := HQ.out
   rw [minus_no j' hse] at hq
   simp only [Nat.zero_add] at hq
   obtain ⟨rfl, rfl⟩ := hq
   go_wp2_with fail
   refine (sees_ex 45 HR'.out hs hp').mono ?_
   rw [hse]
   rintro e w2 ⟨rfl, hr2, hk2⟩
   go_wp2_with fail
   refine (plainUnit_any s n cmp HC.out HA.out hs base b (r', l) _ hr2 FM.out).mono ?_
   rw [HY.out]
   rintro e w3 ⟨rfl, hr3, hk3⟩
   have HK3 : Hid (Keep base b w w3) := (hk.out.trans hk2).trans hk3
   clear hk2 hk3 hr2
   go_wp2_with fail
   go_loopw [2] (fun x w' => ∃ (i : Nat), x = .int .i64 i ∧ i ≤ k ∧ Hid (ExAt w' base b s y.1 (y.2 ++ negs (k - i))) ∧ Hid (Keep base b w w')) (fun x _ => (intOf x).toNat)
   case atStart => exact ⟨k, rfl, by omega, by show ExAt _ _ _ _ _ _; rw [Nat.sub_self]; simpa [negs] using hr3, HK3⟩
   case round =>
    obtain ⟨i, rfl, hi, HE, HK⟩ := hrel
    by_cases h0 : i = 0
    ·subst h0
     have t0 : decide ((0 : Int) < 0) = false := by decide
     go_wp2_with fail
     go_end0
     exact ⟨rfl, HE.out, HK.out⟩
    ·have t0 : decide ((0 : Int) < (i : Int)) = true := by simp; omega
     go_wp2_with fail
     refine (addPart_any base b s _ _ 3 0 _ HE.out (by simp only [List.length_append, negs, List.length_replicate]; omega)).mono ?_
     rintro e w5 ⟨rfl, hr5, hk5⟩
     go_wp2_with fail
     go_roundw
     case rel =>
      refine ⟨i - 1, by go_num, by omega, ?_, HK.out.trans hk5⟩
      show ExAt _ _ _ _ _ _
      rw [List.append_assoc, negs_more, show k - i + 1 = k - (i - 1) by omega] at hr5
      exact hr5
     case measure => simp [intOf]; omega
  ·have hpt := (takeOne_adv (l := l) 45 45 hp').le
   have hgt := takeOne_gt hse
   simp only at hpt
   have HQ2 : Hid ((minusF s.data.toList j' (r'.takeOne s.data.toList 45 45).1).1 = rm ∧ (minusF s.data.toList j' (r'.takeOne s.data.toList 45 45).1).2 + (k + 1) = m) := by
    have hq := HQ.out
    rw [minus_yes j' hse] at hq
    simp only at hq
    exact ⟨hq.1, by omega⟩
   have hk5 : k + 1 ≤ 400 := by have := HQ2.out.2; omega
   go_wp2_with fail
   refine (sees_ex 45 HR'.out hs hp').mono ?_
   rw [hse]
   rintro e w2 ⟨rfl, hr2, hk2⟩
   go_wp2_with fail
   refine (take_ex 45 hr2 hs hp').mono ?_
   rintro e w3 ⟨rfl, hr3, hk3⟩
   go_wp2_with fail
   go_roundw
   case rel => exact ⟨k + 1, j', _, by go_num, hpt, hr3, (hk.out.trans hk2).trans hk3, by omega, hk5, HQ2⟩
   case measure => simp [intOf]; omega
end Go.Proofs.YtdgmoiflahoihabGreatDoor
namespace Go.Proofs.YtdgmoiflahoihabGreatDoor
open Go.RowKit
set_option linter.unusedSimpArgs false
set_option linter.unusedVariables false
def posAt (w : World) (b : Nat) : Nat := (intOf ((w.cell? ⟨b, 1, none⟩).getD undef)).toNat
theorem ExAt.posAt {w : World} {base b : Nat} {s : ByteArray} {r : Rd} {l : List Pt} (h : ExAt w base b s r l) : posAt w b = r.pos := by
 obtain ⟨⟨pv, hr, _⟩, _, _⟩ := h
 unfold Go.Proofs.YtdgmoiflahoihabGreatDoor.posAt
 rw [hr.c1]
 simp [intOf]
theorem prodL_stop {t : List UInt8} {cmp : RP → RP} {x : RP} (k : Nat) (h : Rd.prodOper t x.1 = (x.1, 0)) : prodL t cmp (k + 1) x = x := by
 conv => lhs; unfold prodL
 simp only [h, if_true]
theorem prodL_step {t : List UInt8} {cmp : RP → RP} {x : RP} (k : Nat) (h : ¬ (Rd.prodOper t x.1).2 = 0) : prodL t cmp (k + 1) x = prodL t cmp k ((unitU t cmp ((Rd.prodOper t x.1).1, x.2)).1, (unitU t cmp ((Rd.prodOper t x.1).1, x.2)).2 ++ [⟨(Rd.prodOper t x.1).2, 0⟩]) := by
 conv => lhs; unfold prodL
 simp only [h, if_false]
set_option maxHeartbeats 1000000 in
theorem product_any (s : ByteArray) (n : Nat) (cmp : RP → RP) (hc : CmpCalls s n cmp) (ha : CmpAdv s.data.toList n cmp) (hs : s.size ≤ 400) (base b : Nat) (x : RP) (w : World) (h : ExAt w base b s x.1 x.2) (hf : Fit s.data.toList (n + 1) x) :
  Calls Tryz.prog 119 #[.pointer (some ⟨b, 0, none⟩)] w fun e w' => e = .returned (.tuple #[]) ∧ ExAt w' base b s (prodU s.data.toList cmp x).1 (prodU s.data.toList cmp x).2 ∧ Keep base b w w' := by
 have hsl : s.data.toList.length = s.size := by simp
 have k1 := unitU_adv ha hf
 have f1 := k1.fit hf
 unfold prodU
 generalize hy : unitU s.data.toList cmp x = y at *
 generalize hz : prodL s.data.toList cmp (s.data.toList.length + 1) y = z
 have HY : Hid (unitU s.data.toList cmp x = y) := hy
 have HZ : Hid (prodL s.data.toList cmp (s.data.toList.length + 1) y = z) := hz
 have HH : Hid (ExAt w base b s x.1 x.2) := h
 have FX : Hid (Fit s.data.toList (n + 1) x) := hf
 have FY : Hid (Fit s.data.toList (n + 1) y) := f1
 have HC : Hid (CmpCalls s n cmp) := hc
 have HA : Hid (CmpAdv s.data.toList n cmp) := ha
 have hyp := f1.le
 clear h hf hc ha hy hz k1 f1
 go_enter Tryz.func119, Tryz.ntmps119
 go_wp2_with fail
 refine (unit_rd s n cmp HC.out HA.out hs base b x _ HH.out FX.out).mono ?_
 rw [HY.out]
 rintro e w1 ⟨rfl, hr1, hk1⟩
 go_wp2_with fail
 refine (prodOper_ex hr1 hs hyp).mono ?_
 rintro e w2 ⟨rfl, hr2, hk2⟩
 have HR2 : Hid (ExAt w2 base b s (Rd.prodOper s.data.toList y.1).1 y.2) := hr2
 have HK2 : Hid (Keep base b w w2) := hk1.trans hk2
 clear hr1 hk1 hr2 hk2
 go_wp2_with fail
 go_loopw [2] (fun v w' => ∃ (j : Nat) (u : RP) (o : Rd) (q : Int), v = .int .i64 q ∧ Hid (Rd.prodOper s.data.toList u.1 = (o, q)) ∧ Hid (Fit s.data.toList (n + 1) u) ∧ Hid (ExAt w' base b s o u.2) ∧ Hid (Keep base b w w') ∧ s.data.toList.length - u.1.pos < j ∧ Hid (prodL s.data.toList cmp j u = z)) (fun v w' => 2 * (s.data.toList.length - posAt w' b) + (if intOf v = 0 then 0 else 1))
 case atStart => exact ⟨s.data.toList.length + 1, y, _, _, rfl, rfl, FY, HR2, HK2, by omega, HZ⟩
 case round =>
  obtain ⟨j, u, o, q, rfl, HO, FU, HE, HK, hj, HL⟩ := hrel
  obtain ⟨j', rfl⟩ : ∃ j', j = j' + 1 := ⟨j - 1, by omega⟩
  rcases prodOper_cases (s.data.toList) (u.1) with hst | ⟨hne, hgo⟩
  ·have h9 := HO.out
   rw [hst] at h9
   cases h9
   have h8 := HL.out
   rw [prodL_stop j' hst] at h8
   subst h8
   have t0 : (((0 : Int)) == 0) = true := by decide
   go_wp2_with fail
   go_end0
   exact ⟨rfl, HE.out, HK.out⟩
  ·have h8 := HL.out
   rw [prodL_step j' hne] at h8
   rw [HO.out] at hne hgo h8
   simp only at hne hgo h8
   have a1 : Adv s.data.toList u (o, u.2) := op_adv (l := u.2) hgo
   have fo : Fit s.data.toList (n + 1) (o, u.2) := a1.fit FU.out
   have a2 := unitU_adv HA.out fo
   generalize hv : unitU s.data.toList cmp (o, u.2) = v at *
   have a3 : Adv s.data.toList u (v.1, v.2 ++ [⟨q, 0⟩]) := add_adv a1 a2 ⟨q, 0⟩ hgo.1 rfl
   have fv := a3.fit FU.out
   have HV : Hid (unitU s.data.toList cmp (o, u.2) = v) := hv
   have FV : Hid (Fit s.data.toList (n + 1) (v.1, v.2 ++ [⟨q, 0⟩])) := fv
   have FO : Hid (Fit s.data.toList (n + 1) (o, u.2)) := fo
   have H8 : Hid (prodL s.data.toList cmp j' (v.1, v.2 ++ [⟨q, 0⟩]) = z) := h8
   have hvp := a3.le
   have hvo := a2.pos
   have hvl := (a2.fit fo).len
   simp only at hvp hvo hvl
   have hv4 : v.2.length ≤ 1000 := by omega
   obtain ⟨hgo1, hgo2⟩ := hgo
   have HPO : Hid (posAt wr b = o.pos) := HE.out.posAt
   clear hv h8 a1 a2 a3 fo fv hgo2 HL HO
   have t0 : (q == 0) = false := by simpa using hne
   go_wp2_with fail
   refine (unit_rd s n cmp HC.out HA.out hs base b (o, u.2) _ HE.out FO.out).mono ?_
   rw [HV.out]
   rintro e w3 ⟨rfl, hr3, hk3⟩
   go_wp2_with fail
   refine (addPart_any base b s _ _ q 0 _ hr3 hv4).mono ?_
   rintro e w4 ⟨rfl, hr4, hk4⟩
   go_wp2_with fail
   refine (prodOper_ex hr4 hs hvp).mono ?_
   rintro e w5 ⟨rfl, hr5, hk5⟩
   have HR5 : Hid (ExAt w5 base b s (Rd.prodOper s.data.toList v.1).1 (v.2 ++ [⟨q, 0⟩])) := hr5
   have HK5 : Hid (Keep base b w w5) := ((HK.out.trans hk3).trans hk4).trans hk5
   clear hr3 hk3 hr4 hk4 hr5 hk5
   go_wp2_with fail
   go_roundw
   case rel => exact ⟨j', (v.1, v.2 ++ [⟨q, 0⟩]), (Rd.prodOper s.data.toList v.1).1, (Rd.prodOper s.data.toList v.1).2, rfl, rfl, FV, HR5, HK5, by simp only; omega, H8⟩
   case measure =>
    have hq5 := HR5.out.posAt
    rw [hq5, HPO.out]
    simp only [intOf]
    rcases prodOper_cases (s.data.toList) (v.1) with hst | ⟨hne2, hgo2⟩
    ·rw [hst]
     simp [hne]
     omega
    ·simp only [ne_eq] at hne2
     simp [hne, hne2]
     omega
theorem sumL_stop {t : List UInt8} {cmp : RP → RP} {x : RP} (k : Nat) (h : Rd.oper t x.1 43 4 45 5 = (x.1, 0)) : sumL t cmp (k + 1) x = x := by
 conv => lhs; unfold sumL
 simp only [h, if_true]
theorem sumL_step {t : List UInt8} {cmp : RP → RP} {x : RP} (k : Nat) (h : ¬ (Rd.oper t x.1 43 4 45 5).2 = 0) : sumL t cmp (k + 1) x = sumL t cmp k ((prodU t cmp ((Rd.oper t x.1 43 4 45 5).1, x.2)).1, (prodU t cmp ((Rd.oper t x.1 43 4 45 5).1, x.2)).2 ++ [⟨(Rd.oper t x.1 43 4 45 5).2, 0⟩]) := by
 conv => lhs; unfold sumL
 simp only [h, if_false]
set_option maxHeartbeats 1000000 in
theorem sum_any (s : ByteArray) (n : Nat) (cmp : RP → RP) (hc : CmpCalls s n cmp) (ha : CmpAdv s.data.toList n cmp) (hs : s.size ≤ 400) (base b : Nat) (x : RP) (w : World) (h : ExAt w base b s x.1 x.2) (hf : Fit s.data.toList (n + 1) x) :
  Calls Tryz.prog 110 #[.pointer (some ⟨b, 0, none⟩)] w fun e w' => e = .returned (.tuple #[]) ∧ ExAt w' base b s (sumU s.data.toList cmp x).1 (sumU s.data.toList cmp x).2 ∧ Keep base b w w' := by
 have hsl : s.data.toList.length = s.size := by simp
 have k1 := prodU_adv ha hf
 have f1 := k1.fit hf
 unfold sumU
 generalize hy : prodU s.data.toList cmp x = y at *
 generalize hz : sumL s.data.toList cmp (s.data.toList.length + 1) y = z
 have HY : Hid (prodU s.data.toList cmp x = y) := hy
 have HZ : Hid (sumL s.data.toList cmp (s.data.toList.length + 1) y = z) := hz
 have HH : Hid (ExAt w base b s x.1 x.2) := h
 have FX : Hid (Fit s.data.toList (n + 1) x) := hf
 have FY : Hid (Fit s.data.toList (n + 1) y) := f1
 have HC : Hid (CmpCalls s n cmp) := hc
 have HA : Hid (CmpAdv s.data.toList n cmp) := ha
 have hyp := f1.le
 clear h hf hc ha hy hz k1 f1
 go_enter Tryz.func110, Tryz.ntmps110
 go_wp2_with fail
 refine (product_any s n cmp HC.out HA.out hs base b x _ HH.out FX.out).mono ?_
 rw [HY.out]
 rintro e w1 ⟨rfl, hr1, hk1⟩
 go_wp2_with fail
 refine (oper_ex 43 45 4 5 hr1 hs hyp).mono ?_
 rintro e w2 ⟨rfl, hr2, hk2⟩
 have HR2 : Hid (ExAt w2 base b s (Rd.oper s.data.toList y.1 43 4 45 5).1 y.2) := hr2
 have HK2 : Hid (Keep base b w w2) := hk1.trans hk2
 clear hr1 hk1 hr2 hk2
 go_wp2_with fail
 go_loopw [2] (fun v w' => ∃ (j : Nat) (u : RP) (o : Rd) (q : Int), v = .int .i64 q ∧ Hid (Rd.oper s.data.toList u.1 43 4 45 5 = (o, q)) ∧ Hid (Fit s.data.toList (n + 1) u) ∧ Hid (ExAt w' base b s o u.2) ∧ Hid (Keep base b w w') ∧ s.data.toList.length - u.1.pos < j ∧ Hid (sumL s.data.toList cmp j u = z)) (fun v w' => 2 * (s.data.toList.length - posAt w' b) + (if intOf v = 0 then 0 else 1))
 case atStart => exact ⟨s.data.toList.length + 1, y, _, _, rfl, rfl, FY, HR2, HK2, by omega, HZ⟩
 case round =>
  obtain ⟨j, u, o, q, rfl, HO, FU, HE, HK, hj, HL⟩ := hrel
  obtain ⟨j', rfl⟩ : ∃ j', j = j' + 1 := ⟨j - 1, by omega⟩
  rcases oper_cases (s.data.toList) (u.1) 43 45 4 5 (by decide) (by decide) with hst | ⟨hne, hgo⟩
  ·have h9 := HO.out
   rw [hst] at h9
   cases h9
   have h8 := HL.out
   rw [sumL_stop j' hst] at h8
   subst h8
   have t0 : (((0 : Int)) == 0) = true := by decide
   go_wp2_with fail
   go_end0
   exact ⟨rfl, HE.out, HK.out⟩
  ·have h8 := HL.out
   rw [sumL_step j' hne] at h8
   rw [HO.out] at hne hgo h8
   simp only at hne hgo h8
   have a1 : Adv s.data.toList u (o, u.2) := op_adv (l := u.2) hgo
   have fo : Fit s.data.toList (n + 1) (o, u.2) := a1.fit FU.out
   have a2 := prodU_adv HA.out fo
   generalize hv : prodU s.data.toList cmp (o, u.2) = v at *
   have a3 : Adv s.data.toList u (v.1, v.2 ++ [⟨q, 0⟩]) := add_adv a1 a2 ⟨q, 0⟩ hgo.1 rfl
   have fv := a3.fit FU.out
   have HV : Hid (prodU s.data.toList cmp (o, u.2) = v) := hv
   have FV : Hid (Fit s.data.toList (n + 1) (v.1, v.2 ++ [⟨q, 0⟩])) := fv
   have FO : Hid (Fit s.data.toList (n + 1) (o, u.2)) := fo
   have H8 : Hid (sumL s.data.toList cmp j' (v.1, v.2 ++ [⟨q, 0⟩]) = z) := h8
   have hvp := a3.le
   have hvo := a2.pos
   have hvl := (a2.fit fo).len
   simp only at hvp hvo hvl
   have hv4 : v.2.length ≤ 1000 := by omega
   obtain ⟨hgo1, hgo2⟩ := hgo
   have HPO : Hid (posAt wr b = o.pos) := HE.out.posAt
   clear hv h8 a1 a2 a3 fo fv hgo2 HL HO
   have t0 : (q == 0) = false := by simpa using hne
   go_wp2_with fail
   refine (product_any s n cmp HC.out HA.out hs base b (o, u.2) _ HE.out FO.out).mono ?_
   rw [HV.out]
   rintro e w3 ⟨rfl, hr3, hk3⟩
   go_wp2_with fail
   refine (addPart_any base b s _ _ q 0 _ hr3 hv4).mono ?_
   rintro e w4 ⟨rfl, hr4, hk4⟩
   go_wp2_with fail
   refine (oper_ex 43 45 4 5 hr4 hs hvp).mono ?_
   rintro e w5 ⟨rfl, hr5, hk5⟩
   have HR5 : Hid (ExAt w5 base b s (Rd.oper s.data.toList v.1 43 4 45 5).1 (v.2 ++ [⟨q, 0⟩])) := hr5
   have HK5 : Hid (Keep base b w w5) := ((HK.out.trans hk3).trans hk4).trans hk5
   clear hr3 hk3 hr4 hk4 hr5 hk5
   go_wp2_with fail
   go_roundw
   case rel => exact ⟨j', (v.1, v.2 ++ [⟨q, 0⟩]), (Rd.oper s.data.toList v.1 43 4 45 5).1, (Rd.oper s.data.toList v.1 43 4 45 5).2, rfl, rfl, FV, HR5, HK5, by simp only; omega, H8⟩
   case measure =>
    have hq5 := HR5.out.posAt
    rw [hq5, HPO.out]
    simp only [intOf]
    rcases oper_cases (s.data.toList) (v.1) 43 45 4 5 (by decide) (by decide) with hst | ⟨hne2, hgo2⟩
    ·rw [hst]
     simp [hne]
     omega
    ·simp only [ne_eq] at hne2
     simp [hne, hne2]
     omega
end Go.Proofs.YtdgmoiflahoihabGreatDoor
namespace Go.Proofs.YtdgmoiflahoihabGreatDoor
open Go.RowKit
set_option linter.unusedSimpArgs false
set_option linter.unusedVariables false
set_option maxHeartbeats 1000000 in
theorem comparison_any (s : ByteArray) (n : Nat) (cmp : RP → RP) (hc : CmpCalls s n cmp) (ha : CmpAdv s.data.toList n cmp) (hs : s.size ≤ 400) : CmpCalls s (n + 1) (cmpU s.data.toList cmp) := by
 intro base b x w h hf
 have hsl : s.data.toList.length = s.size := by simp
 have k1 := sumU_adv ha hf
 have f1 := k1.fit hf
 unfold cmpU
 generalize hy : sumU s.data.toList cmp x = y at *
 have HY : Hid (sumU s.data.toList cmp x = y) := hy
 have HH : Hid (ExAt w base b s x.1 x.2) := h
 have FX : Hid (Fit s.data.toList (n + 1) x) := hf
 have HC : Hid (CmpCalls s n cmp) := hc
 have HA : Hid (CmpAdv s.data.toList n cmp) := ha
 have hyp := f1.le
 simp only
 rcases oper_cases s.data.toList y.1 60 61 9 10 (by decide) (by decide) with e | ⟨e0, e1⟩
 ·rw [e]
  simp only [if_true]
  have HO : Hid (Rd.oper s.data.toList y.1 60 9 61 10 = (y.1, 0)) := e
  clear h hf hc ha hy k1 f1 e
  have t0 : (((0 : Int)) == 0) = true := by decide
  go_enter Tryz.func107, Tryz.ntmps107
  go_wp2_with fail
  refine (sum_any s n cmp HC.out HA.out hs base b x _ HH.out FX.out).mono ?_
  rw [HY.out]
  rintro e w1 ⟨rfl, hr1, hk1⟩
  go_wp2_with fail
  refine (oper_ex 60 61 9 10 hr1 hs hyp).mono ?_
  rw [HO.out]
  rintro e w2 ⟨rfl, hr2, hk2⟩
  go_wp2_with fail
  go_end0
  exact ⟨rfl, hr2, hk1.trans hk2⟩
 ·rw [if_neg e0]
  have a1 := op_adv (l := y.2) e1
  have fo := a1.fit f1
  generalize ho : Rd.oper s.data.toList y.1 60 9 61 10 = o at *
  obtain ⟨ro, q⟩ := o
  simp only at e0 e1 a1 fo ⊢
  have a2 := sumU_adv ha fo
  generalize hz : sumU s.data.toList cmp (ro, y.2) = z at *
  have fz := a2.fit fo
  have hzl := fz.len
  have hzp := fz.le
  have hz4 : z.2.length ≤ 1000 := by omega
  have HO : Hid (Rd.oper s.data.toList y.1 60 9 61 10 = (ro, q)) := ho
  have HZ : Hid (sumU s.data.toList cmp (ro, y.2) = z) := hz
  have FO : Hid (Fit s.data.toList (n + 1) (ro, y.2)) := fo
  have t0 : (q == 0) = false := by simpa using e0
  clear h hf hc ha hy k1 f1 ho hz a1 a2 fo fz e1 e0
  go_enter Tryz.func107, Tryz.ntmps107
  go_wp2_with fail
  refine (sum_any s n cmp HC.out HA.out hs base b x _ HH.out FX.out).mono ?_
  rw [HY.out]
  rintro e w1 ⟨rfl, hr1, hk1⟩
  go_wp2_with fail
  refine (oper_ex 60 61 9 10 hr1 hs hyp).mono ?_
  rw [HO.out]
  rintro e w2 ⟨rfl, hr2, hk2⟩
  go_wp2_with fail
  refine (sum_any s n cmp HC.out HA.out hs base b (ro, y.2) _ hr2 FO.out).mono ?_
  rw [HZ.out]
  rintro e w3 ⟨rfl, hr3, hk3⟩
  go_wp2_with fail
  refine (addPart_any base b s _ _ q 0 _ hr3 hz4).mono ?_
  rintro e w4 ⟨rfl, hr4, hk4⟩
  go_wp2_with fail
  go_end0
  exact ⟨rfl, hr4, ((hk1.trans hk2).trans hk3).trans hk4⟩
theorem cmpF_calls (s : ByteArray) (hs : s.size ≤ 400) : ∀ n, CmpCalls s n (cmpF s.data.toList n)
 | 0 => fun base b x w h hf => by have := hf.fuel; have := hf.d9; omega
 | n + 1 => comparison_any s n (cmpF s.data.toList n) (cmpF_calls s hs n) (cmpF_adv _ n) hs
def nilS : Value := .slice none 0 0
def exprU (t : List UInt8) (r : Rd) : RP := cmpF t 10 (r, [])
structure FitR (t : List UInt8) (r : Rd) : Prop where
 le : r.pos ≤ t.length
 d0 : 0 ≤ r.depth
 d9 : r.depth ≤ 9
 db : r.depth = 9 → r.bad = true
theorem FitR.fit {t : List UInt8} {r : Rd} (h : FitR t r) : Fit t 10 (r, []) := ⟨h.le, by simp, h.d0, h.d9, h.db, by have := h.d0; simp only; omega⟩
theorem exprU_adv {t : List UInt8} {r : Rd} (h : FitR t r) : Adv t (r, []) (exprU t r) := cmpF_adv t 10 _ h.fit
theorem Adv.fitR {t : List UInt8} {x y : RP} (h : Adv t x y) (f : FitR t x.1) : FitR t y.1 :=
 ⟨h.le, by rw [h.depth]; exact f.d0, by rw [h.depth]; exact f.d9, fun e => h.bad (f.db (by rw [← h.depth]; exact e))⟩
theorem keep_but {b : Nat} {w w' : World} (h : Keep w.heap.size b w w') : But b w w' := by
 obtain ⟨h1, h2, h3, h4, h5⟩ := h
 exact ⟨h1, h2, h3, h4, fun k hk hn => h5 k hk (fun e => hn (by rw [e]))⟩
set_option maxHeartbeats 1000000 in
theorem takeExpr_any (s : ByteArray) (hs : s.size ≤ 400) (b : Nat) (r : Rd) (pv : Value) (w : World) (h : ReaderAt w b s r pv) (hf : FitR s.data.toList r) :
  Calls Tryz.prog 100 #[.pointer (some ⟨b, 0, none⟩)] w fun e w' => ∃ v, e = .returned v ∧ ReaderAt w' b s (exprU s.data.toList r).1 nilS ∧ w'.ownsRow w.heap.size 129 2 v (exprU s.data.toList r).2.length (ptCells (exprU s.data.toList r).2) ∧ But b w w' := by
 have hb : b < w.heap.size := World.block_lt_of_cell? w _ h.c0
 obtain ⟨c0, c1, c2, c3, c4, fz⟩ := h
 have FX : Hid (Fit s.data.toList 10 (r, [])) := hf.fit
 clear hf
 unfold exprU
 generalize hz : cmpF s.data.toList 10 (r, []) = z
 have HZ : Hid (cmpF s.data.toList 10 (r, []) = z) := hz
 clear hz
 go_enter Tryz.func100, Tryz.ntmps100
 go_wp2_with fail
 generalize hw1 : w.setCell ⟨b, 3, none⟩ (.slice none 0 0) = w1 at *
 have hE : ExAt w1 w.heap.size b s r [] := by
  subst hw1
  refine ⟨⟨.slice none 0 0, ⟨?_, ?_, ?_, ?_, ?_, ?_⟩, World.ownsRow_nil ..⟩, hb, by simp⟩
  case _ => simp [go_sem, c0]
  case _ => simp [go_sem, c1]
  case _ => simp [go_sem, c2]
  case _ => simp [go_sem, c3]
  case _ => simp [go_sem, c4]
  case _ => intro o; simp [go_sem, fz]
 have hK1 : Keep w.heap.size b w w1 := by
  subst hw1
  exact (Keep.refl _ _ _).set 3 _
 have HK1 : Hid (Keep w.heap.size b w w1) := hK1
 clear hw1 hK1 c0 c1 c2 c3 c4 fz
 refine (cmpF_calls s hs 10 w.heap.size b (r, []) _ hE FX.out).mono ?_
 rw [HZ.out]
 rintro e w2 ⟨rfl, hr2, hk2⟩
 have HK2 : Hid (Keep w.heap.size b w w2) := HK1.out.trans hk2
 clear hk2
 obtain ⟨⟨pv2, hrd, hown⟩, _, hle⟩ := hr2
 obtain ⟨c0, c1, c2, c3, c4, fz⟩ := hrd
 have HO : Hid (w2.ownsRow w.heap.size 129 2 pv2 z.2.length (ptCells z.2)) := hown
 have hform := Joins.ownsRow_forms hown
 clear hown
 rcases hform with ⟨rfl, h0⟩ | ⟨g, cap, rfl⟩
 ·go_wp2_with fail
  go_ret
  refine ⟨_, rfl, ⟨?_, ?_, ?_, ?_, ?_, ?_⟩, ?_, ?_⟩
  case _ => simp [go_sem, c0]
  case _ => simp [go_sem, c1]
  case _ => simp [go_sem, c2]
  case _ => simp [go_sem, c3, nilS]
  case _ => simp [go_sem, c4]
  case _ => intro o; simp [go_sem, fz]
  case _ => exact ownsRow_setCell_below HO.out (a := ⟨b, 3, none⟩) (by simpa using hb) _
  case _ => exact keep_but (HK2.out.set 3 _)
 ·go_wp2_with fail
  go_ret
  refine ⟨_, rfl, ⟨?_, ?_, ?_, ?_, ?_, ?_⟩, ?_, ?_⟩
  case _ => simp [go_sem, c0]
  case _ => simp [go_sem, c1]
  case _ => simp [go_sem, c2]
  case _ => simp [go_sem, c3, nilS]
  case _ => simp [go_sem, c4]
  case _ => intro o; simp [go_sem, fz]
  case _ => exact ownsRow_setCell_below HO.out (a := ⟨b, 3, none⟩) (by simpa using hb) _
  case _ => exact keep_but (HK2.out.set 3 _)
end Go.Proofs.YtdgmoiflahoihabGreatDoor
