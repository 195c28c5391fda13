import Derived.Test.YtdgmoiflahoihabPCheckw

namespace Go.Proofs.Ytdgmoiflahoihab
set_option linter.unusedSimpArgs false
set_option linter.unusedVariables false
def Rd.sh (n : Nat) (r : Rd) : Rd := { r with pos := n + r.pos }
theorem skipL_sh (n : Nat) : ∀ (l : List UInt8) (k : Nat), skipL l (n + k) = n + skipL l k
 | [], k => rfl
 | c :: r, k => by
  unfold skipL
  split
  ·exact skipL_sh n r (k + 1)
  ·rfl
section
variable {P t : List UInt8}
theorem get_sh (k : Nat) : (P ++ t)[P.length + k]? = t[k]? := by
 rw [List.getElem?_append_right (by omega)]
 congr 1
 omega
theorem drop_sh (k : Nat) : (P ++ t).drop (P.length + k) = t.drop k := by
 rw [List.drop_append]
 simp
theorem skip_sh (r : Rd) : Rd.skip (P ++ t) (r.sh P.length) = (Rd.skip t r).sh P.length := by
 unfold Rd.skip Rd.sh
 simp only [drop_sh, skipL_sh]
theorem sees_sh (r : Rd) (a b : UInt8) : (r.sh P.length).seesOne (P ++ t) a b = r.seesOne t a b := by
 unfold Rd.seesOne Rd.sh
 simp only [get_sh]
theorem takeOne_sh (r : Rd) (a b : UInt8) : (r.sh P.length).takeOne (P ++ t) a b = ((r.takeOne t a b).1.sh P.length, (r.takeOne t a b).2) := by
 unfold Rd.takeOne
 rw [sees_sh]
 split
 ·have hd : (P ++ t).getD (r.sh P.length).pos 0 = t.getD r.pos 0 := by
   rw [List.getD_eq_getElem?_getD, List.getD_eq_getElem?_getD]
   unfold Rd.sh
   simp only [get_sh]
  rw [hd]
  have := skip_sh (P := P) (t := t) { r with pos := r.pos + 1 }
  exact Prod.ext this rfl
 ·rfl
theorem room_sh (n : Nat) (r : Rd) : (r.sh n).room = r.room.sh n := by
 unfold Rd.room Rd.sh
 simp only
 split <;> rfl
theorem opening_sh (r : Rd) (c : UInt8) : (r.sh P.length).opening (P ++ t) c = (r.opening t c).sh P.length := by
 unfold Rd.opening
 rw [room_sh, takeOne_sh]
 rfl
theorem closing_sh (r : Rd) (c : UInt8) : (r.sh P.length).closing (P ++ t) c = (r.closing t c).sh P.length := by
 unfold Rd.closing
 rw [takeOne_sh]
 rfl
theorem labF_sh : ∀ (n : Nat) (r : Rd) (l : Nat), (r.sh P.length).labF (P ++ t) n l = ((r.labF t n l).1.sh P.length, (r.labF t n l).2)
 | 0, r, l => rfl
 | n + 1, r, l => by
  unfold Rd.labF
  rw [sees_sh, takeOne_sh]
  split
  ·exact labF_sh n _ _
  ·exact labF_sh n _ _
theorem label_sh (r : Rd) : (r.sh P.length).label (P ++ t) = ((r.label t).1.sh P.length, (r.label t).2) := by
 unfold Rd.label
 rw [sees_sh, takeOne_sh, labF_sh]
 split
 ·rfl
 ·simp only
  split <;> rfl
theorem numF_sh : ∀ (n : Nat) (r : Rd) (v : Int), (r.sh P.length).numF (P ++ t) n v = ((r.numF t n v).1.sh P.length, (r.numF t n v).2)
 | 0, r, v => rfl
 | n + 1, r, v => by
  unfold Rd.numF
  rw [sees_sh, takeOne_sh]
  split
  ·exact numF_sh n _ _
  ·rfl
theorem number_sh (r : Rd) : (r.sh P.length).number (P ++ t) = ((r.number t).1.sh P.length, (r.number t).2) := by
 unfold Rd.number
 rw [takeOne_sh]
 exact numF_sh 17 _ _
theorem oper_sh (r : Rd) (a : UInt8) (x : Int) (b : UInt8) (y : Int) : (r.sh P.length).oper (P ++ t) a x b y = ((r.oper t a x b y).1.sh P.length, (r.oper t a x b y).2) := by
 unfold Rd.oper
 rw [sees_sh, sees_sh, takeOne_sh, takeOne_sh]
 split
 ·rfl
 ·split <;> rfl
theorem prodOper_sh (r : Rd) : (r.sh P.length).prodOper (P ++ t) = ((r.prodOper t).1.sh P.length, (r.prodOper t).2) := by
 unfold Rd.prodOper
 rw [sees_sh, takeOne_sh, oper_sh]
 split <;> rfl
theorem minusF_sh : ∀ (n : Nat) (r : Rd), minusF (P ++ t) n (r.sh P.length) = ((minusF t n r).1.sh P.length, (minusF t n r).2)
 | 0, r => rfl
 | n + 1, r => by
  unfold minusF
  rw [sees_sh, takeOne_sh]
  split
  ·rw [minusF_sh n]
  ·rfl
theorem headO_sh (r : Rd) : headO (P ++ t) (r.sh P.length) = (headO t r).sh P.length := by
 unfold headO
 rw [sees_sh, takeOne_sh, takeOne_sh]
 split <;> rfl
def Hd.sh (n : Nat) (h : Hd) : Hd := { h with place := n + h.place }
theorem headU_sh (r : Rd) : headU (P ++ t) (r.sh P.length) = ((headU t r).1.sh P.length, (headU t r).2.sh P.length) := by
 unfold headU
 simp only [headO_sh, takeOne_sh, label_sh, sees_sh]
 rfl
theorem headsL_sh : ∀ (k : Nat) (r : Rd), headsL (P ++ t) k (r.sh P.length) = ((headsL t k r).1.sh P.length, (headsL t k r).2.map (Hd.sh P.length))
 | 0, r => rfl
 | k + 1, r => by
  unfold headsL
  rw [sees_sh, sees_sh, headU_sh]
  split
  ·rw [headsL_sh k]
   rfl
  ·rfl
end
theorem minusF_fuel {t : List UInt8} : ∀ (f g : Nat) (r : Rd), t.length - r.pos < f → t.length - r.pos < g → minusF t f r = minusF t g r
 | 0, _, _, h, _ => by omega
 | _ + 1, 0, _, _, h => by omega
 | f + 1, g + 1, r, hf, hg => by
  unfold minusF
  by_cases hs : r.seesOne t 45 45 = true
  ·have h1 := takeOne_gt hs
   have h2 := (sees_lt hs).1
   rw [if_pos hs, if_pos hs, minusF_fuel f g _ (by omega) (by omega)]
  ·rw [if_neg hs, if_neg hs]
theorem headsL_fuel {t : List UInt8} : ∀ (f g : Nat) (r : Rd), r.pos ≤ t.length → t.length - r.pos < f → t.length - r.pos < g → headsL t f r = headsL t g r
 | 0, _, _, _, h, _ => by omega
 | _ + 1, 0, _, _, _, h => by omega
 | f + 1, g + 1, r, hr, hf, hg => by
  unfold headsL
  by_cases hs : (r.seesOne t 63 63 || r.seesOne t 33 33) = true
  ·have h0 := headU_stp hr
   have h1 : r.pos + 1 ≤ (headU t r).1.pos := by
    have ho : r.pos + 1 ≤ (headO t r).pos := by
     unfold headO
     by_cases h63 : r.seesOne t 63 63 = true
     ·rw [if_pos h63]; exact takeOne_gt h63
     ·rw [if_neg h63]
      rcases Bool.or_eq_true_iff.mp hs with h | h
      ·exact absurd h h63
      ·exact takeOne_gt h
    have hol := (headO_stp hr).le
    have a := takeOne_stp (t := t) 97 122 hol
    have b := takeOne_stp (t := t) 58 58 a.le
    have c := label_stp b.le
    have d := takeOne_stp (t := t) 59 59 c.le
    have := a.pos; have := b.pos; have := c.pos; have := d.pos
    show r.pos + 1 ≤ ((Rd.label t (((headO t r).takeOne t 97 122).1.takeOne t 58 58).1).1.takeOne t 59 59).1.pos
    omega
   have h2 := h0.le
   rw [if_pos hs, if_pos hs, headsL_fuel f g _ h2 (by omega) (by omega)]
  ·rw [if_neg hs, if_neg hs]
end Go.Proofs.Ytdgmoiflahoihab
namespace Go.Proofs.Ytdgmoiflahoihab
set_option linter.unusedSimpArgs false
set_option linter.unusedVariables false
def shP (n : Nat) (x : RP) : RP := (x.1.sh n, x.2)
def CmpSh (P t : List UInt8) (n : Nat) (cmp cmp' : RP → RP) : Prop := ∀ x, Fit t n x → cmp' (shP P.length x) = shP P.length (cmp x)
section
variable {P t : List UInt8} {n : Nat} {cmp cmp' : RP → RP}
theorem plainU_sh (hc : CmpSh P t n cmp cmp') {x : RP} (h : Fit t (n + 1) x) : plainU (P ++ t) cmp' (shP P.length x) = shP P.length (plainU t cmp x) := by
 obtain ⟨r, l⟩ := x
 unfold plainU shP
 simp only [sees_sh, number_sh, takeOne_sh, opening_sh]
 split
 ·rfl
 split
 ·rfl
 split
 ·rename_i hs
  obtain ⟨f1, _, _⟩ := opening_fit h hs
  have e := hc _ f1
  unfold shP at e
  simp only at e
  rw [e, closing_sh]
 ·rfl
theorem unitU_sh (hc : CmpSh P t n cmp cmp') {x : RP} (h : Fit t (n + 1) x) : unitU (P ++ t) cmp' (shP P.length x) = shP P.length (unitU t cmp x) := by
 obtain ⟨r, l⟩ := x
 have hle := h.le
 simp only at hle
 have em : minusF (P ++ t) ((P ++ t).length + 1) (r.sh P.length) = ((minusF t (t.length + 1) r).1.sh P.length, (minusF t (t.length + 1) r).2) := by
  rw [minusF_sh, minusF_fuel ((P ++ t).length + 1) (t.length + 1) r (by simp; omega) (by omega)]
 have k := minusF_adv (l := l) (t.length + 1) r hle
 have hx : unitU (P ++ t) cmp' (shP P.length (r, l)) = ((plainU (P ++ t) cmp' ((minusF (P ++ t) ((P ++ t).length + 1) (r.sh P.length)).1, l)).1, (plainU (P ++ t) cmp' ((minusF (P ++ t) ((P ++ t).length + 1) (r.sh P.length)).1, l)).2 ++ negs (minusF (P ++ t) ((P ++ t).length + 1) (r.sh P.length)).2) := rfl
 rw [hx, em]
 unfold unitU
 simp only
 generalize minusF t (t.length + 1) r = m at *
 have km : Adv t (r, l) (m.1, l) := ⟨k.pos, k.le, by have := k.pos; simp only at this ⊢; omega, k.depth, k.bad⟩
 have e := plainU_sh hc (km.fit h)
 have e' : plainU (P ++ t) cmp' (m.1.sh P.length, l) = shP P.length (plainU t cmp (m.1, l)) := e
 rw [e']
 rfl
theorem prodL_sh (ha : CmpAdv t n cmp) (hc : CmpSh P t n cmp cmp') : ∀ (f g : Nat) (x : RP), Fit t (n + 1) x → t.length - x.1.pos < f → t.length - x.1.pos < g → prodL (P ++ t) cmp' f (shP P.length x) = shP P.length (prodL t cmp g x)
 | 0, _, _, _, h, _ => by omega
 | _ + 1, 0, _, _, _, h => by omega
 | f + 1, g + 1, x, h, hf, hg => by
  obtain ⟨r, l⟩ := x
  have hle := h.le
  simp only at hle hf hg
  have ep : (shP P.length (r, l)).1.prodOper (P ++ t) = ((r.prodOper t).1.sh P.length, (r.prodOper t).2) := prodOper_sh r
  unfold prodL
  simp only
  rw [ep]
  rcases prodOper_cases t r with e | ⟨e0, e1⟩
  ·rw [e]; rfl
  ·rw [if_neg e0, if_neg e0]
   have a := op_adv (l := l) e1
   have b := unitU_adv ha (a.fit h)
   have c := add_adv a b ⟨(r.prodOper t).2, 0⟩ e1.1 rfl
   have eu : unitU (P ++ t) cmp' ((r.prodOper t).1.sh P.length, l) = shP P.length (unitU t cmp ((r.prodOper t).1, l)) := unitU_sh (x := ((r.prodOper t).1, l)) hc (a.fit h)
   have bp := b.pos
   simp only at bp
   have := e1.1
   show prodL (P ++ t) cmp' f ((unitU (P ++ t) cmp' ((r.prodOper t).1.sh P.length, l)).1, (unitU (P ++ t) cmp' ((r.prodOper t).1.sh P.length, l)).2 ++ [⟨(r.prodOper t).2, 0⟩]) = _
   rw [eu]
   exact prodL_sh ha hc f g _ (c.fit h) (by simp only; omega) (by simp only; omega)
theorem prodU_sh (ha : CmpAdv t n cmp) (hc : CmpSh P t n cmp cmp') {x : RP} (h : Fit t (n + 1) x) : prodU (P ++ t) cmp' (shP P.length x) = shP P.length (prodU t cmp x) := by
 have a := unitU_adv ha h
 unfold prodU
 rw [unitU_sh hc h]
 exact prodL_sh ha hc _ _ _ (a.fit h) (by simp; omega) (by omega)
theorem sumL_sh (ha : CmpAdv t n cmp) (hc : CmpSh P t n cmp cmp') : ∀ (f g : Nat) (x : RP), Fit t (n + 1) x → t.length - x.1.pos < f → t.length - x.1.pos < g → sumL (P ++ t) cmp' f (shP P.length x) = shP P.length (sumL t cmp g x)
 | 0, _, _, _, h, _ => by omega
 | _ + 1, 0, _, _, _, h => by omega
 | f + 1, g + 1, x, h, hf, hg => by
  obtain ⟨r, l⟩ := x
  have hle := h.le
  simp only at hle hf hg
  have ep : (shP P.length (r, l)).1.oper (P ++ t) 43 4 45 5 = ((r.oper t 43 4 45 5).1.sh P.length, (r.oper t 43 4 45 5).2) := oper_sh r _ _ _ _
  unfold sumL
  simp only
  rw [ep]
  rcases oper_cases t r 43 45 4 5 (by decide) (by decide) with e | ⟨e0, e1⟩
  ·rw [e]; rfl
  ·rw [if_neg e0, if_neg e0]
   have a := op_adv (l := l) e1
   have b := prodU_adv ha (a.fit h)
   have c := add_adv a b ⟨(r.oper t 43 4 45 5).2, 0⟩ e1.1 rfl
   have eu : prodU (P ++ t) cmp' ((r.oper t 43 4 45 5).1.sh P.length, l) = shP P.length (prodU t cmp ((r.oper t 43 4 45 5).1, l)) := prodU_sh (x := ((r.oper t 43 4 45 5).1, l)) ha hc (a.fit h)
   have bp := b.pos
   simp only at bp
   have := e1.1
   show sumL (P ++ t) cmp' f ((prodU (P ++ t) cmp' ((r.oper t 43 4 45 5).1.sh P.length, l)).1, (prodU (P ++ t) cmp' ((r.oper t 43 4 45 5).1.sh P.length, l)).2 ++ [⟨(r.oper t 43 4 45 5).2, 0⟩]) = _
   rw [eu]
   exact sumL_sh ha hc f g _ (c.fit h) (by simp only; omega) (by simp only; omega)
theorem sumU_sh (ha : CmpAdv t n cmp) (hc : CmpSh P t n cmp cmp') {x : RP} (h : Fit t (n + 1) x) : sumU (P ++ t) cmp' (shP P.length x) = shP P.length (sumU t cmp x) := by
 have a := prodU_adv ha h
 unfold sumU
 rw [prodU_sh ha hc h]
 exact sumL_sh ha hc _ _ _ (a.fit h) (by simp; omega) (by omega)
theorem cmpU_sh (ha : CmpAdv t n cmp) (hc : CmpSh P t n cmp cmp') {x : RP} (h : Fit t (n + 1) x) : cmpU (P ++ t) cmp' (shP P.length x) = shP P.length (cmpU t cmp x) := by
 have a := sumU_adv ha h
 unfold cmpU
 simp only
 rw [sumU_sh ha hc h]
 generalize sumU t cmp x = y at *
 have ep : (shP P.length y).1.oper (P ++ t) 60 9 61 10 = ((y.1.oper t 60 9 61 10).1.sh P.length, (y.1.oper t 60 9 61 10).2) := oper_sh y.1 _ _ _ _
 rw [ep]
 rcases oper_cases t y.1 60 61 9 10 (by decide) (by decide) with e | ⟨e0, e1⟩
 ·rw [e]; rfl
 ·rw [if_neg e0, if_neg e0]
  have a1 := op_adv (l := y.2) e1
  have eu : sumU (P ++ t) cmp' ((y.1.oper t 60 9 61 10).1.sh P.length, y.2) = shP P.length (sumU t cmp ((y.1.oper t 60 9 61 10).1, y.2)) := sumU_sh (x := ((y.1.oper t 60 9 61 10).1, y.2)) ha hc (a1.fit (a.fit h))
  show ((sumU (P ++ t) cmp' ((y.1.oper t 60 9 61 10).1.sh P.length, y.2)).1, (sumU (P ++ t) cmp' ((y.1.oper t 60 9 61 10).1.sh P.length, y.2)).2 ++ [⟨(y.1.oper t 60 9 61 10).2, 0⟩]) = _
  rw [eu]
  rfl
end
theorem cmpF_sh (P t : List UInt8) : ∀ n, CmpSh P t n (cmpF t n) (cmpF (P ++ t) n)
 | 0 => fun x h => by have := h.fuel; have := h.d9; omega
 | n + 1 => fun x h => cmpU_sh (cmpF_adv t n) (cmpF_sh P t n) h
end Go.Proofs.Ytdgmoiflahoihab
namespace Go.Proofs.Ytdgmoiflahoihab
set_option linter.unusedSimpArgs false
set_option linter.unusedVariables false
def shC (n : Nat) (c : Core) : Core := { c with place := n + c.place }
def shT (n k : Nat) : List (RT k) → List (RT k) :=
 match k with
 | 0 => fun l => l
 | k + 1 => fun l => List.map (fun q : Core × List (RT k) × List (RT k) => (shC n q.1, shT n k q.2.1, shT n k q.2.2)) l
theorem shT_nil (n : Nat) : ∀ k, shT n k [] = []
 | 0 => rfl
 | _ + 1 => rfl
structure ShOk {β : Type} (n : Nat) (f : β → β) (x x' : Rd × β) : Prop where
 rd : x'.1 = x.1.sh n
 val : x.1.bad = false → x'.2 = f x.2
theorem exprU_sh {P t : List UInt8} {r : Rd} (h : FitR t r) : exprU (P ++ t) (r.sh P.length) = shP P.length (exprU t r) := cmpF_sh P t 10 (r, []) h.fit
def shQ {α : Type} (n : Nat) (f : List α → List α) (q : Core × List α × List α) : Core × List α × List α := (shC n q.1, f q.2.1, f q.2.2)
theorem ruleU_sh {α : Type} {P t : List UInt8} {blk blk' : Rd → Rd × List α} {f : List α → List α} (hf : f [] = []) (hs : BlkStp t blk) (hb : ∀ r, FitB t r → ShOk P.length f (blk r) (blk' (r.sh P.length))) {r : Rd} (h : FitB t r) :
  ShOk P.length (shQ P.length f) (ruleU t blk r) (ruleU (P ++ t) blk' (r.sh P.length)) := by
 unfold ruleU
 simp only [sees_sh]
 split
 ·have a := takeOne_stp (t := t) 97 122 h.le
  have a2 := a.trans (takeOne_stp 61 61 a.le)
  have e := exprU_sh (P := P) (a2.fitB h).fitR
  constructor
  ·simp only [takeOne_sh]
   rw [e]
   simp only [shP, takeOne_sh]
  ·intro _
   simp only [takeOne_sh]
   rw [e]
   simp only [shQ, hf]
   rfl
 split
 ·have a := takeOne_stp (t := t) 94 94 h.le
  have b1 := a.trans (takeOne_stp 97 122 a.le)
  have b2 := b1.trans (takeOne_stp 58 58 b1.le)
  have b3 := b2.trans (label_stp b2.le)
  have b4 := b3.trans (takeOne_stp 61 61 b3.le)
  have e := exprU_sh (P := P) (b4.fitB h).fitR
  constructor
  ·simp only [takeOne_sh, label_sh]
   rw [e]
   simp only [shP, takeOne_sh]
  ·intro _
   simp only [takeOne_sh, label_sh]
   rw [e]
   simp only [shQ, hf]
   rfl
 split
 ·have a := takeOne_stp (t := t) 62 62 h.le
  have b3 := a.trans (label_stp a.le)
  have e := exprU_sh (P := P) (b3.fitB h).fitR
  constructor
  ·simp only [takeOne_sh, label_sh]
   rw [e]
   simp only [shP, takeOne_sh]
  ·intro _
   simp only [takeOne_sh, label_sh]
   rw [e]
   simp only [shQ, hf]
   rfl
 split
 ·have e := expr_stp (opening_fitR 40 h)
  have p := pair_stp 40 41 h e
  have ee := exprU_sh (P := P) (opening_fitR 40 h)
  have k1 := hb _ (p.fitB h)
  have s1 := hs _ (p.fitB h)
  have k2 := hb _ ((p.trans s1).fitB h)
  have s2 := hs _ ((p.trans s1).fitB h)
  have er : (exprU (P ++ t) ((r.sh P.length).opening (P ++ t) 40)).1.closing (P ++ t) 41 = ((exprU t (r.opening t 40)).1.closing t 41).sh P.length := by
   rw [opening_sh, ee]
   exact closing_sh _ _
  have ex : (exprU (P ++ t) ((r.sh P.length).opening (P ++ t) 40)).2 = (exprU t (r.opening t 40)).2 := by
   rw [opening_sh, ee]
   rfl
  rw [er, ex]
  generalize (exprU t (r.opening t 40)).1.closing t 41 = r1 at *
  generalize (exprU t (r.opening t 40)).2 = pp at *
  rw [k1.rd, sees_sh]
  split
  ·rename_i hse
   have hb1 := (sees_lt hse).2
   refine ⟨k2.rd, fun hg => ?_⟩
   simp only at hg ⊢
   rw [k1.val hb1, k2.val hg]
   rfl
  ·refine ⟨rfl, fun hg => ?_⟩
   simp only at hg ⊢
   rw [k1.val hg]
   simp only [shQ, hf]
   rfl
 split
 ·have a := room_stp (t := t) h.le
  have a1 := a.trans (takeOne_stp 42 42 a.le)
  have a2 := a1.trans (takeOne_stp 49 57 a1.le)
  have k1 := hb _ (a2.fitB h)
  simp only [room_sh, takeOne_sh]
  refine ⟨k1.rd, fun hg => ?_⟩
  simp only at hg ⊢
  rw [k1.val hg]
  simp only [shQ, hf]
  rfl
 ·exact ⟨rfl, fun hg => by cases hg⟩
theorem rulesL_sh {α : Type} {P t : List UInt8} {rule rule' : Rd → Rd × α} {halt halt' : Rd → Bool} {f : α → α} (hst : ∀ r, FitB t r → Stp t r (rule r).1 ∧ ((rule r).1.bad = true ∨ r.pos < (rule r).1.pos)) (hr : ∀ r, FitB t r → ShOk P.length f (rule r) (rule' (r.sh P.length))) (hh : ∀ r, halt' (r.sh P.length) = halt r) :
  ∀ (k g : Nat) (r : Rd), FitB t r → t.length - r.pos < k → t.length - r.pos < g → ShOk P.length (List.map f) (rulesL rule halt g r) (rulesL rule' halt' k (r.sh P.length))
 | 0, _, _, _, h, _ => by omega
 | _ + 1, 0, _, _, _, h => by omega
 | k + 1, g + 1, r, fb, hk, hg => by
  unfold rulesL
  have hbd : (r.sh P.length).bad = r.bad := rfl
  rw [hbd, hh]
  split
  ·exact ⟨rfl, fun _ => rfl⟩
  ·obtain ⟨s1, mv⟩ := hst r fb
   have k1 := hr r fb
   have hle := s1.le
   rcases mv with hb | hp
   ·have hb' : (rule' (r.sh P.length)).1.bad = true := by rw [k1.rd]; exact hb
    rw [rulesL_bad hb, rulesL_bad hb']
    exact ⟨k1.rd, fun e => by simp only at e; rw [hb] at e; cases e⟩
   ·have q := rulesL_sh hst hr hh k g (rule r).1 (s1.fitB fb) (by omega) (by omega)
    rw [k1.rd]
    refine ⟨q.rd, fun e => ?_⟩
    simp only at e ⊢
    have s2 := rulesL_stp (t := t) (rule := rule) (halt := halt) (fun r f => (hst r f).1) g (rule r).1 (s1.fitB fb)
    have hb0 : (rule r).1.bad = false := by
     cases hx : (rule r).1.bad with
     | false => rfl
     | true => rw [s2.bad hx] at e; cases e
    rw [q.val e, k1.val hb0]
    rfl
theorem blockF_sh (P t : List UInt8) : ∀ (n : Nat) (r : Rd), FitB t r → ShOk P.length (shT P.length n) (blockF t n r) (blockF (P ++ t) n (r.sh P.length))
 | 0, r, h => by
  refine ⟨?_, fun _ => rfl⟩
  show ((r.sh P.length).opening (P ++ t) 123).closing (P ++ t) 125 = _
  rw [opening_sh, closing_sh]
  rfl
 | n + 1, r, h => by
  have hst : ∀ r, FitB t r → Stp t r (ruleU t (blockF t n) r).1 ∧ ((ruleU t (blockF t n) r).1.bad = true ∨ r.pos < (ruleU t (blockF t n) r).1.pos) := fun r f => ruleU_stp (blockF_stp t n) f
  have hr : ∀ r, FitB t r → ShOk P.length (shQ P.length (shT P.length n)) (ruleU t (blockF t n) r) (ruleU (P ++ t) (blockF (P ++ t) n) (r.sh P.length)) := fun r f => ruleU_sh (shT_nil _ _) (blockF_stp t n) (fun r f => blockF_sh P t n r f) f
  obtain ⟨h1, h2, h3, h4, h5⟩ := opening_facts (t := t) (r := r) 123 h.le
  have hd0 := h.d0
  show ShOk P.length _ (blockU t (ruleU t (blockF t n)) r) (blockU (P ++ t) (ruleU (P ++ t) (blockF (P ++ t) n)) (r.sh P.length))
  unfold blockU
  simp only
  rw [opening_sh]
  by_cases h8 : 8 ≤ r.depth
  ·have hb := h5 h8
   have hb' : ((r.opening t 123).sh P.length).bad = true := hb
   rw [rulesL_bad hb, rulesL_bad hb']
   exact ⟨closing_sh _ _, fun _ => rfl⟩
  ·have q := rulesL_sh (halt := fun r => r.seesOne t 125 125) (halt' := fun r => r.seesOne (P ++ t) 125 125) hst hr (fun r => sees_sh r _ _) ((P ++ t).length + 1) (t.length + 1) (r.opening t 123) ⟨h2, by omega, by omega⟩ (by simp; omega) (by omega)
   constructor
   ·simp only
    rw [q.rd]
    exact closing_sh _ _
   ·intro e
    simp only at e ⊢
    refine q.val ?_
    cases hx : (rulesL (ruleU t (blockF t n)) (fun r => r.seesOne t 125 125) (t.length + 1) (r.opening t 123)).1.bad with
    | false => rfl
    | true =>
     have hcl : ((rulesL (ruleU t (blockF t n)) (fun r => r.seesOne t 125 125) (t.length + 1) (r.opening t 123)).1.closing t 125).bad = true := by
      show (Rd.takeOne t _ 125 125).1.bad = true
      rw [takeOne_bad hx]
      exact hx
     rw [hcl] at e; cases e
end Go.Proofs.Ytdgmoiflahoihab
namespace Go.Proofs.Ytdgmoiflahoihab
set_option linter.unusedSimpArgs false
set_option linter.unusedVariables false
theorem work_sh (n : Nat) : ∀ (k : Nat) (l : List (RT k)), workS k (shT n k l) = workS k l
 | 0, l => rfl
 | k + 1, l => by
  have key : ∀ (l : List (Core × List (RT k) × List (RT k))), workL (workS k) (List.map (fun q => (shC n q.1, shT n k q.2.1, shT n k q.2.2)) l) = workL (workS k) l := by
   intro l
   induction l with
   | nil => rfl
   | cons q r ih =>
    rw [List.map_cons, workL_cons, workL_cons, ih]
    congr 1
    unfold workT
    simp only [shC]
    rw [work_sh n k, work_sh n k]
    rfl
  exact key l
theorem clean_sh (of : List Nat) (n : Nat) : ∀ (k g : Nat) (l : List (RT k)), cleanF of k g (shT n k l) = (cleanF of k g l).map (n + ·)
 | 0, g, l => rfl
 | k + 1, g, l => by
  have key : ∀ (l : List (Core × List (RT k) × List (RT k))), cleanL (cleanF of k) of g (List.map (fun q => (shC n q.1, shT n k q.2.1, shT n k q.2.2)) l) = (cleanL (cleanF of k) of g l).map (n + ·) := by
   intro l
   induction l with
   | nil => rfl
   | cons q r ih =>
    rw [List.map_cons]
    have e0 : cleanT of g (shC n q.1) = cleanT of g q.1 := rfl
    cases hc : cleanT of g q.1 with
    | false =>
     rw [cleanL_bad hc, cleanL_bad (q := (shC n q.1, shT n k q.2.1, shT n k q.2.2)) (by exact hc)]
     rfl
    | true =>
     have i1 := clean_sh of n k (g ||| labL of q.1.parts 0) q.2.1
     have i2 := clean_sh of n k (g ||| labL of q.1.parts 0) q.2.2
     cases h1 : cleanF of k (g ||| labL of q.1.parts 0) q.2.1 with
     | some p =>
      rw [h1] at i1
      rw [cleanL_first hc h1, cleanL_first (q := (shC n q.1, shT n k q.2.1, shT n k q.2.2)) (by exact hc) (by exact i1)]
      rfl
     | none =>
      rw [h1] at i1
      cases h2 : cleanF of k (g ||| labL of q.1.parts 0) q.2.2 with
      | some p =>
       rw [h2] at i2
       rw [cleanL_second hc h1 h2, cleanL_second (q := (shC n q.1, shT n k q.2.1, shT n k q.2.2)) (by exact hc) (by exact i1) (by exact i2)]
       rfl
      | none =>
       rw [h2] at i2
       rw [cleanL_next hc h1 h2, cleanL_next (q := (shC n q.1, shT n k q.2.1, shT n k q.2.2)) (by exact hc) (by exact i1) (by exact i2)]
       exact ih
  exact key l
end Go.Proofs.Ytdgmoiflahoihab
namespace Go.Proofs.Ytdgmoiflahoihab
set_option linter.unusedSimpArgs false
set_option linter.unusedVariables false
def labB (L : Nat) : List UInt8 := if L % 16 = 0 then [45] else (if L.testBit 0 then [65] else []) ++ (if L.testBit 1 then [66] else []) ++ (if L.testBit 2 then [67] else []) ++ (if L.testBit 3 then [68] else [])
def hdB (x L : Nat) : List UInt8 := [33, UInt8.ofNat (97 + x), 58] ++ labB L ++ [59]
theorem skip_at {t : List UInt8} {r : Rd} {c : UInt8} (h : t[r.pos]? = some c) (hb : blankB c = false) : Rd.skip t r = r := by
 have hl := (List.getElem?_eq_some_iff.mp h).1
 have he := (List.getElem?_eq_some_iff.mp h).2
 unfold Rd.skip
 rw [skip_no hl (by rw [he]; exact hb)]
theorem take_plain {t : List UInt8} {p : Nat} {d : Int} {a b c e : UInt8} (hc : t[p]? = some c) (h1 : a ≤ c) (h2 : c ≤ b) (he : t[p + 1]? = some e) (hb : blankB e = false) :
  (⟨p, d, false⟩ : Rd).takeOne t a b = (⟨p + 1, d, false⟩, (c.toNat : Int) - (a.toNat : Int)) := by
 unfold Rd.takeOne
 have hs : (⟨p, d, false⟩ : Rd).seesOne t a b = true := by unfold Rd.seesOne; simp [hc, h1, h2]
 rw [if_pos hs]
 have hd : t.getD p 0 = c := by rw [List.getD_eq_getElem?_getD, hc]; rfl
 simp only
 rw [skip_at (r := ⟨p + 1, d, false⟩) he hb, hd]
theorem sees_not {t : List UInt8} {p : Nat} {d : Int} {a b c : UInt8} (hc : t[p]? = some c) (h : ¬ (a ≤ c ∧ c ≤ b)) : (⟨p, d, false⟩ : Rd).seesOne t a b = false := by
 unfold Rd.seesOne
 simp only [hc]
 simp
 intro h1
 exact Decidable.byContradiction fun h2 => h ⟨h1, by simpa using h2⟩
end Go.Proofs.Ytdgmoiflahoihab
namespace Go.Proofs.Ytdgmoiflahoihab
set_option linter.unusedSimpArgs false
set_option linter.unusedVariables false
theorem label_read {L : Nat} (hL : L < 16) (c : UInt8) (u : List UInt8) : Rd.label ([33, c, 58] ++ labB L ++ 59 :: u) ⟨3, 0, false⟩ = (⟨3 + (labB L).length, 0, false⟩, L) := by
 have h : L = 0 ∨ L = 1 ∨ L = 2 ∨ L = 3 ∨ L = 4 ∨ L = 5 ∨ L = 6 ∨ L = 7 ∨ L = 8 ∨ L = 9 ∨ L = 10 ∨ L = 11 ∨ L = 12 ∨ L = 13 ∨ L = 14 ∨ L = 15 := by omega
 rcases h with rfl | rfl | rfl | rfl | rfl | rfl | rfl | rfl | rfl | rfl | rfl | rfl | rfl | rfl | rfl | rfl
 all_goals rfl
theorem head_read {x L : Nat} (hx : x < 26) (hL : L < 16) (u : List UInt8) : headU (hdB x L ++ u) Rd.first = ((Rd.skip u Rd.first).sh (hdB x L).length, ⟨false, 1, (x : Int), L⟩) := by
 have hc : (UInt8.ofNat (97 + x)).toNat = 97 + x := by simp; omega
 generalize hcc : UInt8.ofNat (97 + x) = c at *
 have et : hdB x L ++ u = [33, c, 58] ++ labB L ++ 59 :: u := by unfold hdB; rw [hcc]; simp
 have hb : blankB c = false := by
  unfold blankB
  have h32 : ¬ c = 32 := fun e => by rw [e] at hc; simp at hc; omega
  have h10 : ¬ c = 10 := fun e => by rw [e] at hc; simp at hc; omega
  simp [h32, h10]
 have hlen : (hdB x L).length = 3 + (labB L).length + 1 := by unfold hdB; simp; omega
 have h0 : ([33, c, 58] ++ labB L ++ 59 :: u)[0]? = some 33 := rfl
 have h1 : ([33, c, 58] ++ labB L ++ 59 :: u)[1]? = some c := rfl
 have h2 : ([33, c, 58] ++ labB L ++ 59 :: u)[2]? = some 58 := rfl
 have h3 : ∃ e, ([33, c, 58] ++ labB L ++ 59 :: u)[3]? = some e ∧ blankB e = false := by
  have h : L = 0 ∨ L = 1 ∨ L = 2 ∨ L = 3 ∨ L = 4 ∨ L = 5 ∨ L = 6 ∨ L = 7 ∨ L = 8 ∨ L = 9 ∨ L = 10 ∨ L = 11 ∨ L = 12 ∨ L = 13 ∨ L = 14 ∨ L = 15 := by omega
  rcases h with rfl | rfl | rfl | rfl | rfl | rfl | rfl | rfl | rfl | rfl | rfl | rfl | rfl | rfl | rfl | rfl
  all_goals exact ⟨_, rfl, rfl⟩
 obtain ⟨e3, h3, hb3⟩ := h3
 have hlab := label_read hL c u
 have hl : ([33, c, 58] ++ labB L ++ 59 :: u)[3 + (labB L).length]? = some 59 := by
  have : [33, c, 58] ++ labB L ++ 59 :: u = ([33, c, 58] ++ labB L) ++ 59 :: u := rfl
  rw [List.getElem?_append_right (by simp; omega)]
  simp
  rw [show 3 + (labB L).length - ((labB L).length + 3) = 0 by omega]
  rfl
 have hd : ([33, c, 58] ++ labB L ++ 59 :: u).drop (3 + (labB L).length + 1) = u := by
  have e : [33, c, 58] ++ labB L ++ 59 :: u = ([33, c, 58] ++ labB L ++ [59]) ++ u := by simp
  rw [e]
  exact List.drop_left' (by simp; omega)
 rw [et]
 generalize ht : [33, c, 58] ++ labB L ++ 59 :: u = t at *
 have e0 : headO t Rd.first = ⟨1, 0, false⟩ := by
  unfold headO
  have hs : Rd.first.seesOne t 63 63 = false := sees_not (p := 0) h0 (by decide)
  rw [hs]
  simp only [Bool.false_eq_true, if_false]
  have := take_plain (t := t) (p := 0) (d := 0) (a := 33) (b := 33) h0 (by decide) (by decide) h1 hb
  exact congrArg Prod.fst this
 have e1 : (⟨1, 0, false⟩ : Rd).takeOne t 97 122 = (⟨2, 0, false⟩, (x : Int)) := by
  have := take_plain (t := t) (p := 1) (d := 0) (a := 97) (b := 122) h1 (by rw [UInt8.le_iff_toNat_le, hc]; simp) (by rw [UInt8.le_iff_toNat_le, hc]; simp; omega) h2 (by decide)
  rw [this, hc]
  refine Prod.ext rfl ?_
  show ((97 + x : Nat) : Int) - 97 = (x : Int)
  omega
 have e2 : (⟨2, 0, false⟩ : Rd).takeOne t 58 58 = (⟨3, 0, false⟩, 0) := take_plain (t := t) (p := 2) (d := 0) h2 (by decide) (by decide) h3 hb3
 have e4 : ((⟨3 + (labB L).length, 0, false⟩ : Rd).takeOne t 59 59).1 = (Rd.skip u Rd.first).sh (hdB x L).length := by
  unfold Rd.takeOne
  have hs : (⟨3 + (labB L).length, 0, false⟩ : Rd).seesOne t 59 59 = true := by unfold Rd.seesOne; simp [hl]
  rw [if_pos hs]
  unfold Rd.skip Rd.sh
  simp only [hd, Rd.first, List.drop_zero]
  rw [hlen]
  have := skipL_sh (3 + (labB L).length + 1) u 0
  simp only [Nat.add_zero] at this
  rw [this]
 have e5 : Rd.first.seesOne t 63 63 = false := sees_not (p := 0) h0 (by decide)
 unfold headU
 simp only [e0, e1, e2, hlab, e4, e5]
end Go.Proofs.Ytdgmoiflahoihab
namespace Go.Proofs.Ytdgmoiflahoihab
set_option linter.unusedSimpArgs false
set_option linter.unusedVariables false
def preB : List (Nat × Nat) → List UInt8
 | [] => []
 | p :: r => hdB p.1 p.2 ++ preB r
def preH : List (Nat × Nat) → List Hd
 | [] => []
 | p :: r => ⟨false, 1, (p.1 : Int), p.2⟩ :: (preH r).map (Hd.sh (hdB p.1 p.2).length)
theorem rd_sh_sh (a b : Nat) (r : Rd) : (r.sh b).sh a = r.sh (a + b) := by
 unfold Rd.sh
 simp only [Nat.add_assoc]
theorem hd_sh_sh (a b : Nat) (h : Hd) : (h.sh b).sh a = h.sh (a + b) := by
 unfold Hd.sh
 simp only [Nat.add_assoc]
theorem parseH_one {x L : Nat} (hx : x < 26) (hL : L < 16) (u : List UInt8) : parseH (hdB x L ++ u) = ((parseH u).1.sh (hdB x L).length, ⟨false, 1, (x : Int), L⟩ :: (parseH u).2.map (Hd.sh (hdB x L).length)) := by
 have h0 : (hdB x L ++ u)[0]? = some 33 := rfl
 have hsk : Rd.skip (hdB x L ++ u) Rd.first = Rd.first := skip_at (r := Rd.first) h0 (by decide)
 have hs : (Rd.first.seesOne (hdB x L ++ u) 63 63 || Rd.first.seesOne (hdB x L ++ u) 33 33) = true := by
  have : Rd.first.seesOne (hdB x L ++ u) 33 33 = true := rfl
  rw [this]; simp
 have hlen : 1 ≤ (hdB x L).length := by unfold hdB; simp
 have hp : (Rd.skip u Rd.first).pos ≤ u.length := skip_le (t := u) (k := 0) (Nat.zero_le _)
 have hf := headsL_fuel (t := u) (hdB x L ++ u).length (u.length + 1) (Rd.skip u Rd.first) hp (by simp; omega) (by omega)
 have he : headsL (hdB x L ++ u) (hdB x L ++ u).length ((Rd.skip u Rd.first).sh (hdB x L).length) = ((parseH u).1.sh (hdB x L).length, (parseH u).2.map (Hd.sh (hdB x L).length)) := by
  rw [headsL_sh, hf]
  rfl
 unfold parseH
 rw [hsk]
 conv => lhs; unfold headsL
 rw [if_pos hs, head_read hx hL u]
 simp only
 rw [he]
 rfl
theorem parseH_pre : ∀ (ps : List (Nat × Nat)) (t : List UInt8), (∀ p ∈ ps, p.1 < 26 ∧ p.2 < 16) → parseH (preB ps ++ t) = ((parseH t).1.sh (preB ps).length, preH ps ++ (parseH t).2.map (Hd.sh (preB ps).length))
 | [], t, _ => by
  have e1 : (parseH t).1.sh 0 = (parseH t).1 := by unfold Rd.sh; simp
  have e2 : (parseH t).2.map (Hd.sh 0) = (parseH t).2 := by
   have : (Hd.sh 0) = id := by funext h; unfold Hd.sh; simp
   rw [this, List.map_id]
  show parseH t = ((parseH t).1.sh 0, [] ++ (parseH t).2.map (Hd.sh 0))
  rw [e1, e2]
  rfl
 | p :: r, t, h => by
  obtain ⟨h1, h2⟩ := h p (by simp)
  have ih := parseH_pre r t (fun q hq => h q (by simp [hq]))
  have e : preB (p :: r) ++ t = hdB p.1 p.2 ++ (preB r ++ t) := by simp [preB]
  have el : (preB (p :: r)).length = (hdB p.1 p.2).length + (preB r).length := by simp [preB]
  rw [e, parseH_one h1 h2, ih, el]
  refine Prod.ext (rd_sh_sh _ _ _) ?_
  simp only [preH, List.map_append, List.map_map, List.cons_append]
  congr 2
  apply List.map_congr_left
  intro a _
  exact hd_sh_sh _ _ a
theorem parseR_pre (ps : List (Nat × Nat)) (t : List UInt8) (h : ∀ p ∈ ps, p.1 < 26 ∧ p.2 < 16) : ShOk (preB ps).length (shT (preB ps).length 9) (parseR t) (parseR (preB ps ++ t)) := by
 obtain ⟨hp, hd⟩ := parseH_facts t
 have q := rulesL_sh (P := preB ps) (t := t) (rule := fun r => ruleF t 8 r) (rule' := fun r => ruleF (preB ps ++ t) 8 r) (halt := fun r => decide (t.length ≤ r.pos)) (halt' := fun r => decide ((preB ps ++ t).length ≤ r.pos)) (f := shQ (preB ps).length (shT (preB ps).length 8))
  (fun r f => ruleF_stp t 8 f) (fun r f => ruleU_sh (shT_nil _ _) (blockF_stp t 8) (fun r f => blockF_sh _ t 8 r f) f) (fun r => by simp only [Rd.sh, List.length_append, Nat.add_le_add_iff_left]) ((preB ps ++ t).length + 1) (t.length + 1) (parseH t).1 ⟨hp, by omega, by omega⟩ (by simp; omega) (by omega)
 unfold parseR
 rw [parseH_pre ps t h]
 exact q
end Go.Proofs.Ytdgmoiflahoihab
