import Derived.Test.YtdgmoiflahoihabGreatXD6w
import Derived.Test.YtdgmoiflahoihabGreatRRunw
import Derived.Test.YtdgmoiflahoihabGreatPCheckw
import Derived.Test.YtdgmoiflahoihabGreatXPw
import Derived.Test.YtdgmoiflahoihabGreatPFlw

namespace Go.Proofs.YtdgmoiflahoihabGreat
open Go.RowKit
set_option linter.unusedSimpArgs false
set_option linter.unusedVariables false
theorem progExec_any (l : List Ic) (fs : List Int) (ao af : Option Addr) (g o cap gf of capf : Nat) (w : World) (hc : InsCells w ao g o l) (hf : NumCells w af gf of fs) (hfl : fs.length ≤ 9223372036854775807) (hlo : ∀ x ∈ l, -9223372036854775808 ≤ x.b ∧ x.b ≤ 9223372036854775807) (hfo : FsOk fs) :
  Calls Tryz.prog 20 #[.slice ao l.length cap, .slice af fs.length capf] w (ExecPost w (execI l fs)) := by
 by_cases h : (validI l).1 = 0
 ·cases h2 : hasI l fs.length with
  | false => exact progExec_input l fs ao af g o cap gf of capf w hc hf hfl h h2
  | true => exact progExec_run l fs ao af g o cap gf of capf w hc hf hfl (fun i hi => (hf i hi).2.1) hlo hfo h h2
 ·exact progExec_bad l fs ao af g o cap gf of capf w hc hf hfl h
set_option maxHeartbeats 1000000 in
theorem tariffExec_any (l : List Ic) (fs : List Int) (ao af : Option Addr) (g o cap gf of capf : Nat) (w : World) (hc : InsCells w ao g o l) (hf : NumCells w af gf of fs) (hfl : fs.length ≤ 9223372036854775807) (hlo : ∀ x ∈ l, -9223372036854775808 ≤ x.b ∧ x.b ≤ 9223372036854775807) (hfo : FsOk fs) :
  Calls Tryz.prog 13 #[.slice ao l.length cap, .slice af fs.length capf] w (ExecPost w (execI l fs)) := by
 have HH : Hid (Calls Tryz.prog 20 #[.slice ao l.length cap, .slice af fs.length capf] w (ExecPost w (execI l fs))) := progExec_any l fs ao af g o cap gf of capf w hc hf hfl hlo hfo
 generalize execI l fs = R at *
 clear hc hf hlo hfo
 go_enter Tryz.func13, Tryz.ntmps13
 go_wp2_with fail
 refine HH.out.mono ?_
 rintro e w1 ⟨⟨vn, rfl, h1, h2⟩, hb⟩
 go_wp2_with fail
 go_ret2
 exact ⟨⟨vn, rfl, h1, h2⟩, hb⟩
end Go.Proofs.YtdgmoiflahoihabGreat
namespace Go.Proofs.YtdgmoiflahoihabGreat
open Go.RowKit
set_option linter.unusedSimpArgs false
set_option linter.unusedVariables false
theorem runP_few (t : List UInt8) (fs : List Int) (hf : FsOk fs) : (runP t fs).2.length ≤ 5000 := by
 unfold runP
 split
 ·simp
 rename_i h0
 split
 ·simp
 have h0' : (checkP t).1 = 0 := by simpa using h0
 obtain ⟨h1, h2, h3, h4, h5⟩ := checkP_ok h0'
 have hp := parse_ok h1 h2
 have hfo := fillV_ok (parseH t).2 fs vals0 hf rfl (fun v hv => by have := List.eq_of_mem_replicate hv; rw [this]; exact vl0_ok)
 have k := (doF_ok 9 (parseR t).2 (fillV (parseH t).2 fs vals0, []) (parse_nums t) hp.tree ⟨hfo.1, hfo.2⟩).2
 simp at k
 show (doF 9 (fillV (parseH t).2 fs vals0, []) (parseR t).2).2.length ≤ 5000
 omega
theorem ints_of_num {w : World} {g cap : Nat} {l : List Int} (h : NumCells w (some ⟨g, 0, none⟩) g 0 l) : IntsAt w (fun k => k < w.heap.size) (.slice (some ⟨g, 0, none⟩) l.length cap) l :=
 ⟨some ⟨g, 0, none⟩, g, cap, rfl, fun i hi => by
  obtain ⟨_, b, c⟩ := h i hi
  rw [Nat.zero_add] at c
  exact ⟨rfl, b, c⟩⟩
theorem progRun_any (s : ByteArray) (fs : List Int) (g cap : Nat) (w : World) (hs : s.size ≤ maxLen) (hf : NumCells w (some ⟨g, 0, none⟩) g 0 fs) (hfl : fs.length ≤ maxLen) (hfo : FsOk fs) :
  Calls Tryz.prog 14 #[.string s, .slice (some ⟨g, 0, none⟩) fs.length cap] w (RunPost w (runP s.data.toList fs)) :=
 tariffRun_any s fs _ w (fun k => k < w.heap.size) hs (fun h hb => parse_ok (by simpa using h) hb) (fun _ => parse_nums _) (ints_of_num hf) (fun _ h => h) hfl hfo
end Go.Proofs.YtdgmoiflahoihabGreat
namespace Go.Proofs.YtdgmoiflahoihabGreat
set_option linter.unusedSimpArgs false
set_option linter.unusedVariables false
def ic0 : Ic := ⟨0, 0, 0, 0⟩
def exprI : List Pt → Int → List Ic
 | [], _ => []
 | p :: r, top =>
  if p.op = 1 ∨ p.op = 2 then ⟨p.op, top, p.num, 0⟩ :: exprI r (top + 1)
  else if p.op = 3 then ⟨3, top - 1, top - 1, 0⟩ :: exprI r top
  else ⟨p.op, top - 1 - 1, top - 1 - 1, top - 1⟩ :: exprI r (top - 1)
def genT {α : Type} (rec : Nat → Nat → List α → List Ic) (p loops : Nat) (q : Core × List α × List α) : List Ic :=
 if q.1.kind = 0 then exprI q.1.parts 35 ++ [⟨2, q.1.name, 35, 0⟩]
 else if q.1.kind = 1 then exprI q.1.parts 35 ++ [⟨2, q.1.name, 35, 0⟩, ⟨15, q.1.place, q.1.label, 35⟩]
 else if q.1.kind = 2 then exprI q.1.parts 35 ++ [⟨14, q.1.place, q.1.label, 35⟩]
 else if q.1.kind = 3 then
  exprI q.1.parts 35 ++ (⟨13, 35, (p + (exprI q.1.parts 35).length + 1 + (rec (p + (exprI q.1.parts 35).length + 1) loops q.2.1).length + 1 : Nat), (p + (exprI q.1.parts 35).length + 1 + (rec (p + (exprI q.1.parts 35).length + 1) loops q.2.1).length + 1 + (rec (p + (exprI q.1.parts 35).length + 1 + (rec (p + (exprI q.1.parts 35).length + 1) loops q.2.1).length + 1) loops q.2.2).length : Nat)⟩ ::
   (rec (p + (exprI q.1.parts 35).length + 1) loops q.2.1 ++ (⟨12, (p + (exprI q.1.parts 35).length + 1 + (rec (p + (exprI q.1.parts 35).length + 1) loops q.2.1).length + 1 + (rec (p + (exprI q.1.parts 35).length + 1 + (rec (p + (exprI q.1.parts 35).length + 1) loops q.2.1).length + 1) loops q.2.2).length : Nat), 0, 0⟩ ::
    rec (p + (exprI q.1.parts 35).length + 1 + (rec (p + (exprI q.1.parts 35).length + 1) loops q.2.1).length + 1) loops q.2.2)))
 else
  ⟨1, 26, 1, 0⟩ :: ⟨1, (27 + loops : Nat), q.1.count, 0⟩ :: (rec (p + 2) (loops + 1) q.2.1 ++
   [⟨5, (27 + loops : Nat), (27 + loops : Nat), 26⟩, ⟨13, (27 + loops : Nat), (p + 2 + (rec (p + 2) (loops + 1) q.2.1).length + 3 : Nat), (p + 2 + (rec (p + 2) (loops + 1) q.2.1).length + 3 : Nat)⟩, ⟨12, (p + 2 : Nat), 0, 0⟩])
def genL {α : Type} (rec : Nat → Nat → List α → List Ic) : Nat → Nat → List (Core × List α × List α) → List Ic
 | _, _, [] => []
 | p, loops, q :: r => genT rec p loops q ++ genL rec (p + (genT rec p loops q).length) loops r
def genF (n : Nat) : Nat → Nat → List (RT n) → List Ic :=
 match n with
 | 0 => fun _ _ _ => []
 | n + 1 => fun p loops l => genL (genF n) p loops l
def fieldsI : List Hd → Nat → List Ic
 | [], _ => []
 | h :: r, k => if h.field then ⟨11, h.name, k, 0⟩ :: fieldsI r (k + 1) else fieldsI r k
def genP (t : List UInt8) : List Ic := fieldsI (parseH t).2 0 ++ (genF 9 (fieldsI (parseH t).2 0).length 0 (parseR t).2 ++ [⟨0, 0, 0, 0⟩])
def compP (t : List UInt8) : Int × List Ic := if (checkP t).1 ≠ 0 then ((checkP t).1, []) else (0, genP t)
theorem exprI_len : ∀ (P : List Pt) (top : Int), (exprI P top).length = P.length
 | [], _ => rfl
 | p :: r, top => by
  unfold exprI
  split
  ·simp [exprI_len r]
  split <;> simp [exprI_len r]
def AtP (l : List Ic) (p : Nat) (g : List Ic) : Prop := ∀ i, i < g.length → l.getD (p + i) ⟨0, 0, 0, 0⟩ = g.getD i ⟨0, 0, 0, 0⟩
theorem AtP.left {l a b : List Ic} {p : Nat} (h : AtP l p (a ++ b)) : AtP l p a := by
 intro i hi
 rw [h i (by simp; omega)]
 simp [List.getElem?_append_left hi]
theorem AtP.right {l a b : List Ic} {p : Nat} (h : AtP l p (a ++ b)) : AtP l (p + a.length) b := by
 intro i hi
 have := h (a.length + i) (by simp; omega)
 rw [show p + a.length + i = p + (a.length + i) by omega, this]
 simp [List.getElem?_append_right]
theorem AtP.head {l b : List Ic} {x : Ic} {p : Nat} (h : AtP l p (x :: b)) : l.getD p ⟨0, 0, 0, 0⟩ = x := by
 have := h 0 (by simp)
 simpa using this
theorem AtP.tail {l b : List Ic} {x : Ic} {p : Nat} (h : AtP l p (x :: b)) : AtP l (p + 1) b := by
 have := AtP.right (a := [x]) (b := b) (p := p) (l := l) (by simpa using h)
 simpa using this
def stepsX (l : List Ic) (fs : List Int) : Nat → XS → XS → Prop
 | 0, s, s' => s' = s
 | k + 1, s, s' => (l.getD s.pc ⟨0, 0, 0, 0⟩).op ≠ 0 ∧ stepsX l fs k (stepX (l.getD s.pc ⟨0, 0, 0, 0⟩) fs s) s'
theorem steps_exec {l : List Ic} {fs : List Int} : ∀ (k f : Nat) (s s' : XS), stepsX l fs k s s' → execF l fs (k + f) s = execF l fs f s'
 | 0, f, s, s', h => by cases h; rw [Nat.zero_add]
 | k + 1, f, s, s', h => by
  obtain ⟨h0, h1⟩ := h
  rw [show k + 1 + f = (k + f) + 1 by omega]
  conv => lhs; unfold execF
  rw [if_neg h0]
  exact steps_exec k f _ _ h1
theorem steps_trans {l : List Ic} {fs : List Int} : ∀ (k m : Nat) (s s1 s2 : XS), stepsX l fs k s s1 → stepsX l fs m s1 s2 → stepsX l fs (k + m) s s2
 | 0, m, s, s1, s2, h, g => by cases h; rw [Nat.zero_add]; exact g
 | k + 1, m, s, s1, s2, h, g => by
  rw [show k + 1 + m = (k + m) + 1 by omega]
  exact ⟨h.1, steps_trans k m _ _ _ h.2 g⟩
theorem steps_one {l : List Ic} {fs : List Int} {s : XS} {x : Ic} (h : l.getD s.pc ⟨0, 0, 0, 0⟩ = x) (h0 : x.op ≠ 0) : stepsX l fs 1 s (stepX x fs s) := by
 refine ⟨by rw [h]; exact h0, ?_⟩
 rw [h]
 rfl
theorem regs_set {l : List Vl} {i j : Nat} {v : Vl} (hi : i < l.length) : (l.set i v).getD j vl0 = if i = j then v else l.getD j vl0 := by
 rw [List.getD_eq_getElem?_getD, List.getElem?_set, List.getD_eq_getElem?_getD]
 by_cases e : i = j
 ·subst e
  simp [hi]
 ·simp [e]
def PileR (regs : List Vl) (st : List Vl) : Prop := ∀ j, j < st.length → regs.getD (35 + j) vl0 = st.getD j vl0
theorem pile_put {regs st : List Vl} {v : Vl} (h : PileR regs st) (hl : regs.length = 100) (hs : st.length < 65) : PileR (regs.set (35 + st.length) v) (st ++ [v]) := by
 intro j hj
 rw [regs_set (by omega)]
 simp at hj
 by_cases e : j = st.length
 ·subst e
  simp
 ·rw [if_neg (by omega), h j (by omega)]
  simp only [List.getD_eq_getElem?_getD]
  rw [List.getElem?_append_left (by omega)]
theorem pile_cut {regs st : List Vl} (h : PileR regs st) {r : List Vl} (hr : ∃ u, st = r ++ u) : PileR regs r := by
 obtain ⟨u, rfl⟩ := hr
 intro j hj
 rw [h j (by simp; omega)]
 simp only [List.getD_eq_getElem?_getD]
 rw [List.getElem?_append_left hj]
theorem dropLast_pre (st : List Vl) : ∃ u, st = st.dropLast ++ u := by
 by_cases h : st = []
 ·subst h
  exact ⟨[], rfl⟩
 ·exact ⟨[st.getLast h], (List.dropLast_concat_getLast h).symm⟩
theorem topV_at {st : List Vl} (h : st ≠ []) : topV st = st.getD (st.length - 1) vl0 := by
 unfold topV
 rw [List.getLast?_eq_getElem?, List.getD_eq_getElem?_getD]
theorem take_pile {names : List Vl} {p : Pt} {st : List Vl} : pileV names [p] st = (takeV names p st).2 ++ [(takeV names p st).1] := rfl
theorem part_runs {l : List Ic} {fs : List Int} {names : List Vl} (p : Pt) (r : List Pt) (st : List Vl) (x : XS) (k : Nat) (hpo : PtOk p) (hs : st.length ≤ 65) (hk : hRun 65 (p :: r) st.length = some k) (hat : AtP l x.pc (exprI (p :: r) (35 + st.length))) (hl : x.regs.length = 100) (hp : PileR x.regs st) (hn : ∀ i, i < 26 → x.regs.getD i vl0 = names.getD i vl0) :
  ∃ i v, i < 100 ∧ 35 ≤ i ∧ stepsX l fs 1 x ⟨x.regs.set i v, x.notes, x.pc + 1⟩ ∧ PileR (x.regs.set i v) (pileV names [p] st) ∧ (pileV names [p] st).length ≤ 65 ∧ hRun 65 r (pileV names [p] st).length = some k ∧ AtP l (x.pc + 1) (exprI r (35 + (pileV names [p] st).length)) := by
 rw [take_pile]
 unfold hRun at hk
 unfold exprI at hat
 by_cases h12 : p.op = 1 ∨ p.op = 2
 ·rw [if_pos h12] at hk hat
  by_cases hB : st.length + 1 ≤ 65
  ·rw [if_pos hB] at hk
   have hone : ∃ v, takeV names p st = (v, st) ∧ stepX ⟨p.op, 35 + st.length, p.num, 0⟩ fs x = ⟨x.regs.set (35 + st.length) v, x.notes, x.pc + 1⟩ := by
    rcases h12 with h1 | h2
    ·refine ⟨⟨p.num, 0⟩, by unfold takeV; rw [if_pos h1], ?_⟩
     unfold stepX XS.give
     rw [if_pos h1]
     simp only
     congr 2
    ·refine ⟨names.getD p.num.toNat vl0, by unfold takeV; rw [if_neg (by omega), if_pos h2], ?_⟩
     have hnm := hpo h2
     unfold stepX XS.give XS.reg
     rw [if_neg (by simp only; omega), if_pos h2]
     simp only
     rw [hn p.num.toNat (by omega)]
     congr 2
   obtain ⟨v, ht, hst⟩ := hone
   have s1 := steps_one (fs := fs) (s := x) hat.head (by simp only; omega)
   rw [hst] at s1
   rw [ht]
   refine ⟨35 + st.length, v, by omega, by omega, s1, pile_put hp hl (by omega), by simp; omega, by simpa using hk, ?_⟩
   have := hat.tail
   simp only [List.length_append, List.length_cons, List.length_nil]
   rw [show ((35 : Int) + ((st.length + (0 + 1) : Nat) : Int)) = 35 + (st.length : Int) + 1 by omega]
   exact this
  ·rw [if_neg hB] at hk
   cases hk
 rw [if_neg h12] at hk hat
 by_cases h3 : p.op = 3
 ·rw [if_pos h3] at hk hat
  by_cases h1 : 1 ≤ st.length
  ·rw [if_pos h1] at hk
   have hne : st ≠ [] := by intro e; rw [e] at h1; simp at h1
   have ht : takeV names p st = (negV (topV st), st.dropLast) := by unfold takeV; rw [if_neg (by omega), if_neg (by omega), if_pos h3]
   have hst : stepX ⟨3, 35 + st.length - 1, 35 + st.length - 1, 0⟩ fs x = ⟨x.regs.set (35 + (st.length - 1)) (negV (topV st)), x.notes, x.pc + 1⟩ := by
    unfold stepX XS.give XS.reg
    simp only
    rw [if_neg (by decide), if_neg (by decide), if_pos trivial, show ((35 : Int) + (st.length : Int) - 1).toNat = 35 + (st.length - 1) by omega, hp _ (by omega), topV_at hne]
   have s1 := steps_one (fs := fs) (s := x) hat.head (by simp)
   rw [hst] at s1
   rw [ht]
   have hpd := pile_cut hp (dropLast_pre st)
   have hdl : st.dropLast.length = st.length - 1 := by simp
   refine ⟨35 + (st.length - 1), _, by omega, by omega, s1, ?_, by simp; omega, ?_, ?_⟩
   ·have := pile_put (v := negV (topV st)) hpd hl (by omega)
    rw [hdl] at this
    exact this
   ·simp only [List.length_append, List.length_cons, List.length_nil, hdl]
    rw [show st.length - 1 + (0 + 1) = st.length by omega]
    exact hk
   ·have := hat.tail
    simp only [List.length_append, List.length_cons, List.length_nil, hdl]
    rw [show st.length - 1 + (0 + 1) = st.length by omega]
    exact this
  ·rw [if_neg h1] at hk
   cases hk
 ·rw [if_neg h3] at hk hat
  by_cases h2 : 2 ≤ st.length ∧ 4 ≤ p.op ∧ p.op ≤ 10
  ·rw [if_pos h2] at hk
   obtain ⟨h2, o4, o10⟩ := h2
   have hdl : st.dropLast.length = st.length - 1 := by simp
   have hdl2 : st.dropLast.dropLast.length = st.length - 2 := by simp; omega
   have hne : st ≠ [] := by intro e; rw [e] at h2; simp at h2
   have hne2 : st.dropLast ≠ [] := by intro e; rw [e] at hdl; simp at hdl; omega
   have hpd := pile_cut hp (dropLast_pre st)
   have hpd2 := pile_cut hpd (dropLast_pre st.dropLast)
   have ht : takeV names p st = (opV p.op (topV st.dropLast) (topV st), st.dropLast.dropLast) := by unfold takeV; rw [if_neg (by omega), if_neg (by omega), if_neg h3]
   have eb : x.regs.getD (35 + (st.length - 1)) vl0 = topV st := by rw [hp _ (by omega), topV_at hne]
   have ea : x.regs.getD (35 + (st.length - 2)) vl0 = topV st.dropLast := by rw [hpd _ (by omega), topV_at hne2, hdl, show st.length - 1 - 1 = st.length - 2 by omega]
   have hst : stepX ⟨p.op, 35 + st.length - 1 - 1, 35 + st.length - 1 - 1, 35 + st.length - 1⟩ fs x = ⟨x.regs.set (35 + (st.length - 2)) (opV p.op (topV st.dropLast) (topV st)), x.notes, x.pc + 1⟩ := by
    unfold stepX XS.give XS.reg
    simp only
    rw [if_neg (by omega), if_neg (by omega), if_neg (by omega), if_neg (by omega), if_neg (by omega), if_neg (by omega), if_neg (by omega), if_neg (by omega), show ((35 : Int) + (st.length : Int) - 1 - 1).toNat = 35 + (st.length - 2) by omega, show ((35 : Int) + (st.length : Int) - 1).toNat = 35 + (st.length - 1) by omega, ea, eb]
   have s1 := steps_one (fs := fs) (s := x) hat.head (by simp only; omega)
   rw [hst] at s1
   rw [ht]
   refine ⟨35 + (st.length - 2), _, by omega, by omega, s1, ?_, by simp only [List.length_append, List.length_cons, List.length_nil, hdl2]; omega, ?_, ?_⟩
   ·have := pile_put (v := opV p.op (topV st.dropLast) (topV st)) hpd2 hl (by omega)
    rw [hdl2] at this
    exact this
   ·simp only [List.length_append, List.length_cons, List.length_nil, hdl2]
    rw [show st.length - 2 + (0 + 1) = st.length - 1 by omega]
    exact hk
   ·have := hat.tail
    simp only [List.length_append, List.length_cons, List.length_nil, hdl2]
    rw [show ((35 : Int) + ((st.length - 2 + (0 + 1) : Nat) : Int)) = 35 + (st.length : Int) - 1 by omega]
    exact this
  ·rw [if_neg h2] at hk
   cases hk
theorem expr_runs {l : List Ic} {fs : List Int} {names : List Vl} : ∀ (P : List Pt) (st : List Vl) (x : XS) (k : Nat), (∀ p ∈ P, PtOk p) → st.length ≤ 65 → hRun 65 P st.length = some k → AtP l x.pc (exprI P (35 + st.length)) → x.regs.length = 100 → PileR x.regs st → (∀ i, i < 26 → x.regs.getD i vl0 = names.getD i vl0) →
  ∃ x', stepsX l fs P.length x x' ∧ x'.pc = x.pc + P.length ∧ x'.notes = x.notes ∧ x'.regs.length = 100 ∧ PileR x'.regs (pileV names P st) ∧ (pileV names P st).length = k ∧ (∀ i, i < 35 → x'.regs.getD i vl0 = x.regs.getD i vl0)
 | [], st, x, k, _, _, hk, _, hl, hp, _ => by
  cases hk
  exact ⟨x, rfl, rfl, rfl, hl, hp, rfl, fun _ _ => rfl⟩
 | p :: r, st, x, k, hok, hs, hk, hat, hl, hp, hn => by
  obtain ⟨i, v, i1, i2, s1, p1, p2, p3, p4⟩ := part_runs (fs := fs) (names := names) p r st x k (hok p (by simp)) hs hk hat hl hp hn
  have hset : ∀ j, j < 35 → (x.regs.set i v).getD j vl0 = x.regs.getD j vl0 := fun j hj => by rw [regs_set (by omega), if_neg (by omega)]
  obtain ⟨x', b1, b2, b3, b4, b5, b6, b7⟩ := expr_runs (l := l) (fs := fs) (names := names) r (pileV names [p] st) ⟨x.regs.set i v, x.notes, x.pc + 1⟩ k (fun q hq => hok q (by simp [hq])) p2 p3 p4 (by simp [hl]) p1 (fun j hj => by simp only; rw [hset j (by omega)]; exact hn j hj)
  have e : pileV names (p :: r) st = pileV names r (pileV names [p] st) := rfl
  rw [e]
  refine ⟨x', by rw [List.length_cons, Nat.add_comm]; exact steps_trans _ _ _ _ _ s1 b1, by rw [b2, List.length_cons]; simp only; omega, b3, b4, b5, b6, fun j hj => ?_⟩
  rw [b7 j hj]
  exact hset j hj
structure Rel (s : SR) (x : XS) : Prop where
 len : x.regs.length = 100
 all : s.1.length = 26
 names : ∀ i, i < 26 → x.regs.getD i vl0 = s.1.getD i vl0
 notes : x.notes = s.2
theorem expr_value {l : List Ic} {fs : List Int} {s : SR} {P : List Pt} {x : XS} (hok : ∀ p ∈ P, PtOk p) (hg : Hg 34 P) (hat : AtP l x.pc (exprI P 35)) (hr : Rel s x) :
  ∃ x', stepsX l fs P.length x x' ∧ x'.pc = x.pc + P.length ∧ Rel s x' ∧ x'.regs.getD 35 vl0 = valueV s.1 P ∧ (∀ i, i < 35 → x'.regs.getD i vl0 = x.regs.getD i vl0) := by
 obtain ⟨x', b1, b2, b3, b4, b5, b6, b7⟩ := expr_runs (l := l) (fs := fs) (names := s.1) P [] x 1 hok (by simp) (hg 65 0 (by omega)) (by simpa using hat) hr.len (fun j hj => absurd hj (by simp)) hr.names
 refine ⟨x', b1, b2, ⟨b4, hr.all, fun i hi => (b7 i (by omega)).trans (hr.names i hi), b3.trans hr.notes⟩, ?_, b7⟩
 have := b5 0 (by omega)
 rw [show 35 + 0 = 35 from rfl] at this
 rw [this]
 unfold valueV
 rw [topV_at (by intro e; rw [e] at b6; simp at b6), b6]
end Go.Proofs.YtdgmoiflahoihabGreat
