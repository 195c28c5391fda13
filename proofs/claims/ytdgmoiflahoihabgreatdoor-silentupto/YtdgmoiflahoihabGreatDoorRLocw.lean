import Derived.Test.YtdgmoiflahoihabGreatDoorREx4w

namespace Go.Proofs.YtdgmoiflahoihabGreatDoor
open Go.RowKit
set_option linter.unusedSimpArgs false
set_option linter.unusedVariables false
structure Core where
 kind : Int
 place : Nat
 name : Int
 label : Nat
 count : Int
 parts : List Pt
def Core.none : Core := ⟨0, 0, 0, 0, 0, []⟩
def RT (n : Nat) : Type := Nat.rec Empty (fun _ a => Core × List a × List a) n
def ruleU {α : Type} (t : List UInt8) (blk : Rd → Rd × List α) (r : Rd) : Rd × (Core × List α × List α) :=
 if r.seesOne t 97 122 then
  let nm := r.takeOne t 97 122
  let e := exprU t (nm.1.takeOne t 61 61).1
  ((e.1.takeOne t 59 59).1, ⟨0, r.pos, nm.2, 0, 0, e.2⟩, [], [])
 else if r.seesOne t 94 94 then
  let nm := (r.takeOne t 94 94).1.takeOne t 97 122
  let lb := (nm.1.takeOne t 58 58).1.label t
  let e := exprU t (lb.1.takeOne t 61 61).1
  ((e.1.takeOne t 59 59).1, ⟨1, r.pos, nm.2, lb.2, 0, e.2⟩, [], [])
 else if r.seesOne t 62 62 then
  let lb := (r.takeOne t 62 62).1.label t
  let e := exprU t lb.1
  ((e.1.takeOne t 59 59).1, ⟨2, r.pos, 0, lb.2, 0, e.2⟩, [], [])
 else if r.seesOne t 40 40 then
  let e := exprU t (r.opening t 40)
  let b1 := blk (e.1.closing t 41)
  if b1.1.seesOne t 123 123 then
   let b2 := blk b1.1
   (b2.1, ⟨3, r.pos, 0, 0, 0, e.2⟩, b1.2, b2.2)
  else (b1.1, ⟨3, r.pos, 0, 0, 0, e.2⟩, b1.2, [])
 else if r.seesOne t 42 42 then
  let c := (r.room.takeOne t 42 42).1.takeOne t 49 57
  let b1 := blk c.1
  (b1.1, ⟨4, r.pos, 0, 0, 1 + c.2, []⟩, b1.2, [])
 else ({ r with bad := true }, Core.none, [], [])
def rulesL {α : Type} (rule : Rd → Rd × α) (halt : Rd → Bool) : Nat → Rd → Rd × List α
 | 0, r => (r, [])
 | k + 1, r => if r.bad || halt r then (r, []) else ((rulesL rule halt k (rule r).1).1, (rule r).2 :: (rulesL rule halt k (rule r).1).2)
def blockU {α : Type} (t : List UInt8) (rule : Rd → Rd × α) (r : Rd) : Rd × List α :=
 let q := rulesL rule (fun r => r.seesOne t 125 125) (t.length + 1) (r.opening t 123)
 (q.1.closing t 125, q.2)
def blockF (t : List UInt8) (n : Nat) : Rd → Rd × List (RT n) :=
 match n with
 | 0 => fun r => ((r.opening t 123).closing t 125, [])
 | n + 1 => fun r => blockU t (α := RT (n + 1)) (fun r => ruleU t (blockF t n) r) r
def ruleF (t : List UInt8) (n : Nat) (r : Rd) : Rd × RT (n + 1) := ruleU t (blockF t n) r
structure Stp (t : List UInt8) (r r' : Rd) : Prop where
 pos : r.pos ≤ r'.pos
 le : r'.pos ≤ t.length
 depth : r'.depth = r.depth
 bad : r.bad = true → r'.bad = true
theorem Stp.trans {t : List UInt8} {x y z : Rd} (h : Stp t x y) (k : Stp t y z) : Stp t x z :=
 ⟨Nat.le_trans h.pos k.pos, k.le, k.depth.trans h.depth, fun e => k.bad (h.bad e)⟩
theorem stp_refl {t : List UInt8} {r : Rd} (h : r.pos ≤ t.length) : Stp t r r := ⟨Nat.le_refl _, h, rfl, id⟩
theorem Adv.stp {t : List UInt8} {x y : RP} (h : Adv t x y) : Stp t x.1 y.1 := ⟨h.pos, h.le, h.depth, h.bad⟩
theorem takeOne_stp {t : List UInt8} {r : Rd} (a b : UInt8) (h : r.pos ≤ t.length) : Stp t r (r.takeOne t a b).1 := (takeOne_adv (l := []) a b h).stp
theorem fail_stp {t : List UInt8} {r : Rd} (h : r.pos ≤ t.length) : Stp t r { r with bad := true } := ⟨Nat.le_refl _, h, rfl, fun _ => rfl⟩
theorem labF_stp {t : List UInt8} : ∀ (n : Nat) (r : Rd) (l : Nat), r.pos ≤ t.length → Stp t r (Rd.labF t n r l).1
 | 0, r, l, h => stp_refl h
 | n + 1, r, l, h => by
  unfold Rd.labF
  split
  ·have k := takeOne_stp (UInt8.ofNat (68 - n)) (UInt8.ofNat (68 - n)) h
   exact k.trans (labF_stp n _ _ k.le)
  ·exact labF_stp n _ _ h
theorem label_stp {t : List UInt8} {r : Rd} (h : r.pos ≤ t.length) : Stp t r (r.label t).1 := by
 unfold Rd.label
 split
 ·exact takeOne_stp _ _ h
 split
 ·have k := labF_stp 4 r 0 h
  exact k.trans (fail_stp k.le)
 ·exact labF_stp 4 r 0 h
theorem room_bad {r : Rd} (h : r.bad = true) : r.room.bad = true := by unfold Rd.room; split <;> simp [h]
theorem room_stp {t : List UInt8} {r : Rd} (h : r.pos ≤ t.length) : Stp t r r.room := ⟨by rw [room_pos]; exact Nat.le_refl _, by rw [room_pos]; exact h, room_depth r, room_bad⟩
theorem opening_facts {t : List UInt8} {r : Rd} (c : UInt8) (h : r.pos ≤ t.length) : r.pos ≤ (r.opening t c).pos ∧ (r.opening t c).pos ≤ t.length ∧ (r.opening t c).depth = r.depth + 1 ∧ (r.bad = true → (r.opening t c).bad = true) ∧ (8 ≤ r.depth → (r.opening t c).bad = true) := by
 have k := (room_stp h).trans (takeOne_stp c c (room_stp h).le)
 refine ⟨k.pos, k.le, ?_, k.bad, fun h8 => ?_⟩
 ·show (r.room.takeOne t c c).1.depth + 1 = _
  rw [k.depth]
 ·show (r.room.takeOne t c c).1.bad = true
  have hrb : r.room.bad = true := by unfold Rd.room; rw [if_pos h8]
  rw [takeOne_bad hrb]; exact hrb
theorem closing_facts {t : List UInt8} {r : Rd} (c : UInt8) (h : r.pos ≤ t.length) : r.pos ≤ (r.closing t c).pos ∧ (r.closing t c).pos ≤ t.length ∧ (r.closing t c).depth = r.depth - 1 ∧ (r.bad = true → (r.closing t c).bad = true) := by
 have k := takeOne_stp c c h
 refine ⟨k.pos, k.le, ?_, k.bad⟩
 show (r.takeOne t c c).1.depth - 1 = _
 rw [k.depth]
structure FitB (t : List UInt8) (r : Rd) : Prop where
 le : r.pos ≤ t.length
 d0 : 0 ≤ r.depth
 d8 : r.depth ≤ 8
theorem FitB.fitR {t : List UInt8} {r : Rd} (h : FitB t r) : FitR t r := ⟨h.le, h.d0, by have := h.d8; omega, fun e => by have := h.d8; omega⟩
theorem Stp.fitB {t : List UInt8} {r r' : Rd} (h : Stp t r r') (f : FitB t r) : FitB t r' := ⟨h.le, by rw [h.depth]; exact f.d0, by rw [h.depth]; exact f.d8⟩
theorem opening_fitR {t : List UInt8} {r : Rd} (c : UInt8) (f : FitB t r) : FitR t (r.opening t c) := by
 obtain ⟨h1, h2, h3, h4, h5⟩ := opening_facts c f.le
 have := f.d0
 have := f.d8
 exact ⟨h2, by omega, by omega, fun e => h5 (by omega)⟩
theorem expr_stp {t : List UInt8} {r : Rd} (f : FitR t r) : Stp t r (exprU t r).1 := (exprU_adv f).stp
theorem pair_stp {t : List UInt8} {r r' : Rd} (c d : UInt8) (f : FitB t r) (h : Stp t (r.opening t c) r') : Stp t r (r'.closing t d) := by
 obtain ⟨h1, h2, h3, h4, h5⟩ := opening_facts c f.le
 obtain ⟨k1, k2, k3, k4⟩ := closing_facts d h.le
 exact ⟨by have := h.pos; omega, k2, by rw [k3, h.depth, h3]; omega, fun e => k4 (h.bad (h4 e))⟩
theorem open_mov {t : List UInt8} {r : Rd} (c : UInt8) (hs : r.seesOne t c c = true) : (r.opening t c).bad = true ∨ r.pos < (r.opening t c).pos := by
 by_cases h8 : 8 ≤ r.depth
 ·exact .inl ((opening_facts c (Nat.le_of_lt (sees_lt hs).1)).2.2.2.2 h8)
 ·refine .inr ?_
  have e : r.room = r := by unfold Rd.room; rw [if_neg h8]
  show r.pos < (r.room.takeOne t c c).1.pos
  rw [e]
  have := takeOne_gt hs
  omega
def BlkStp {α : Type} (t : List UInt8) (blk : Rd → Rd × List α) : Prop := ∀ r, FitB t r → Stp t r (blk r).1
theorem ruleU_stp {α : Type} {t : List UInt8} {blk : Rd → Rd × List α} (hb : BlkStp t blk) {r : Rd} (f : FitB t r) : Stp t r (ruleU t blk r).1 ∧ ((ruleU t blk r).1.bad = true ∨ r.pos < (ruleU t blk r).1.pos) := by
 unfold ruleU
 split
 ·rename_i hs
  have a := takeOne_stp 97 122 f.le
  have a2 := a.trans (takeOne_stp 61 61 a.le)
  have a3 := a2.trans (expr_stp (a2.fitB f).fitR)
  have g := takeOne_gt hs
  have b1 := (takeOne_stp 61 61 a.le).trans (expr_stp (a2.fitB f).fitR)
  have b2 := b1.trans (takeOne_stp 59 59 a3.le)
  exact ⟨a.trans b2, .inr (by have := b2.pos; simp only; omega)⟩
 split
 ·rename_i hs
  have a := takeOne_stp 94 94 f.le
  have g := takeOne_gt hs
  have b1 := takeOne_stp 97 122 a.le
  have b2 := b1.trans (takeOne_stp 58 58 b1.le)
  have b3 := b2.trans (label_stp b2.le)
  have b4 := b3.trans (takeOne_stp 61 61 b3.le)
  have b5 := b4.trans (expr_stp ((a.trans b4).fitB f).fitR)
  have b6 := b5.trans (takeOne_stp 59 59 b5.le)
  exact ⟨a.trans b6, .inr (by have := b6.pos; simp only; omega)⟩
 split
 ·rename_i hs
  have a := takeOne_stp 62 62 f.le
  have g := takeOne_gt hs
  have b3 := label_stp a.le
  have b5 := b3.trans (expr_stp ((a.trans b3).fitB f).fitR)
  have b6 := b5.trans (takeOne_stp 59 59 b5.le)
  exact ⟨a.trans b6, .inr (by have := b6.pos; simp only; omega)⟩
 split
 ·rename_i hs
  have e := expr_stp (opening_fitR 40 f)
  have p := pair_stp 40 41 f e
  have q := hb _ (p.fitB f)
  have mv := open_mov 40 hs
  have c1 := (opening_facts 40 f.le)
  have c2 := closing_facts 41 e.le
  have mv2 : ((exprU t (r.opening t 40)).1.closing t 41).bad = true ∨ r.pos < ((exprU t (r.opening t 40)).1.closing t 41).pos := by
   rcases mv with h | h
   ·exact .inl (c2.2.2.2 (e.bad h))
   ·have := e.pos; exact .inr (by omega)
  have mv3 : (blk ((exprU t (r.opening t 40)).1.closing t 41)).1.bad = true ∨ r.pos < (blk ((exprU t (r.opening t 40)).1.closing t 41)).1.pos := by
   rcases mv2 with h | h
   ·exact .inl (q.bad h)
   ·have := q.pos; exact .inr (by omega)
  simp only
  split
  ·have q2 := hb _ ((p.trans q).fitB f)
   refine ⟨(p.trans q).trans q2, ?_⟩
   rcases mv3 with h | h
   ·exact .inl (q2.bad h)
   ·have := q2.pos; exact .inr (by simp only; omega)
  ·exact ⟨p.trans q, mv3⟩
 split
 ·rename_i hs
  have a := room_stp (t := t) f.le
  have a1 := a.trans (takeOne_stp 42 42 a.le)
  have b1 := takeOne_stp 49 57 a1.le
  have b2 := b1.trans (hb _ ((a1.trans b1).fitB f))
  refine ⟨a1.trans b2, ?_⟩
  by_cases h8 : 8 ≤ r.depth
  ·have hrb : r.room.bad = true := by unfold Rd.room; rw [if_pos h8]
   refine .inl (b2.bad ?_)
   rw [takeOne_bad hrb]; exact hrb
  ·refine .inr ?_
   have e : r.room = r := by unfold Rd.room; rw [if_neg h8]
   have g := takeOne_gt hs
   have := b2.pos
   rw [e] at this
   show r.pos < (blk (((r.room.takeOne t 42 42).1.takeOne t 49 57).1)).1.pos
   rw [e]
   omega
 ·exact ⟨fail_stp f.le, .inl rfl⟩
theorem rulesL_stp {α : Type} {t : List UInt8} {rule : Rd → Rd × α} {halt : Rd → Bool} (hr : ∀ r, FitB t r → Stp t r (rule r).1) : ∀ (k : Nat) (r : Rd), FitB t r → Stp t r (rulesL rule halt k r).1
 | 0, r, f => stp_refl f.le
 | k + 1, r, f => by
  unfold rulesL
  split
  ·exact stp_refl f.le
  ·have a := hr r f
   exact a.trans (rulesL_stp hr k _ (a.fitB f))
theorem rulesL_bad {α : Type} {rule : Rd → Rd × α} {halt : Rd → Bool} {k : Nat} {r : Rd} (h : r.bad = true) : rulesL rule halt k r = (r, []) := by
 cases k with
 | zero => rfl
 | succ k => unfold rulesL; rw [h]; rfl
theorem blockU_stp {α : Type} {t : List UInt8} {rule : Rd → Rd × α} (hr : ∀ r, FitB t r → Stp t r (rule r).1) : BlkStp t (blockU t rule) := by
 intro r f
 unfold blockU
 refine pair_stp 123 125 f ?_
 obtain ⟨h1, h2, h3, h4, h5⟩ := opening_facts (t := t) (r := r) 123 f.le
 by_cases h8 : 8 ≤ r.depth
 ·rw [rulesL_bad (h5 h8)]
  exact stp_refl h2
 ·exact rulesL_stp hr _ _ ⟨h2, by have := f.d0; omega, by omega⟩
theorem blockF_stp (t : List UInt8) : ∀ n, BlkStp t (blockF t n)
 | 0 => fun r f => pair_stp 123 125 f (stp_refl (opening_facts (t := t) (r := r) 123 f.le).2.1)
 | n + 1 => blockU_stp fun r f => (ruleU_stp (blockF_stp t n) f).1
theorem ruleF_stp (t : List UInt8) (n : Nat) {r : Rd} (f : FitB t r) : Stp t r (ruleF t n r).1 ∧ ((ruleF t n r).1.bad = true ∨ r.pos < (ruleF t n r).1.pos) := ruleU_stp (blockF_stp t n) f
end Go.Proofs.YtdgmoiflahoihabGreatDoor
namespace Go.Proofs.YtdgmoiflahoihabGreatDoor
open Go.RowKit
set_option linter.unusedSimpArgs false
set_option linter.unusedVariables false
theorem run_append_fresh {P : Program} (w : World) (base : Nat) (t ty e : TypeId) (i : TypeInfo) (z : Value) (size bytes : Nat) (ht : P.underlying t = some (.slice e)) (hi : P.info? e = some i) (hz : i.zero = some z)
  (hsize : i.size = size) (hby : i.bytes = bytes) (hzs : z.cells.size = size) (hsz : 0 < size)
  (v : Value) (n : Nat) (xs : List Value) (hown : w.ownsRow base e size v n xs)
  (a : Addr) (m c : Nat) (news : List Value) (hl : news.length = m * size) (hnews : ∀ j u, news[j]? = some u → w.cell? (a.add j) = some u) (h1 : ∀ u ∈ news, u.oneCell' = true)
  (h63 : n + m ≤ maxLen) (hbytes : (n + m) * bytes ≤ 140737488355328) (hbase : base ≤ w.heap.size) (hm : 0 < m) :
  ∃ v' w', (Builtin.append_ #[t, t] ty #[v, .slice (some a) m c]).run P w = .ok v' w' ∧ w'.ownsRow base e size v' (n + m) (xs ++ news) ∧ w.grownBy w' v.ownBlock ∧ (v'.ownBlock = v.ownBlock ∨ ∃ g, v'.ownBlock = some g ∧ w.heap.size ≤ g) := by
 obtain ⟨v', w', hr, h2, h3, _⟩ := run_append_own (P := P) w base t ty e i z size bytes ht hi hz hsize hby hzs hsz v n xs hown a m c news hl hnews h1 h63 hbytes hbase
 refine ⟨v', w', hr, h2, h3, ?_⟩
 subst hsize
 subst hby
 have hsmall : n + m ≤ 9223372036854775807 := by simp only [maxLen] at h63; omega
 rcases hown.2 with ⟨rfl, rfl⟩ | ⟨g, cap, cur, rfl, hbg, hg, hnc, hcm, hcs, htake⟩
 ·have q := Go.run_append_nil (P := P) w t ty e i z ht hi hz a m c news hl hnews hm (by omega) (by have hb := hbytes; simp only [Nat.zero_add] at hb; omega)
  rw [q] at hr
  cases hr
  exact .inr ⟨w.heap.size, rfl, Nat.le_refl _⟩
 ·by_cases hroom : n + m ≤ cap
  ·have hfit : n * i.size + news.length ≤ cur.size := by rw [hl, hcs, ← Nat.add_mul]; exact Nat.mul_le_mul_right _ hroom
   have q := run_append_room (P := P) w t ty e i ht hi g n cap cur hg a m c news hl hnews h1 hroom hfit
   rw [q] at hr
   cases hr
   exact .inl rfl
  ·have holds : ∀ j u, xs[j]? = some u → w.cell? ((⟨g, 0, none⟩ : Addr).add j) = some u := hown.cells (g := g) rfl
   have q := run_append_grow (P := P) w t ty e i z ht hi hz ⟨g, 0, none⟩ n cap xs hown.1 holds a m c news hl hnews (by omega) (by omega) (growslice_fits (by omega) hbytes)
   rw [q] at hr
   cases hr
   exact .inr ⟨w.heap.size, rfl, Nat.le_refl _⟩
theorem wpList_append_fresh {P : Program} {w : World} {ops : Array Oper} {rest : List Oper} {o : Oper} {a : Act} {Q : Exit → Act → World → Prop} (hgd : o.guard = none) (s x : Operand) (t : TypeId)
  (ho : o.op = .call { callee := .builtin .append, args := #[s, x], argTypes := #[t, t] })
  (base : Nat) (e : TypeId) (i : TypeInfo) (z : Value) (size bytes : Nat) (ht : P.underlying t = some (.slice e)) (hi : P.info? e = some i) (hz : i.zero = some z)
  (hsize : i.size = size) (hby : i.bytes = bytes) (hzs : z.cells.size = size) (hsz : 0 < size)
  (v : Value) (n : Nat) (xs : List Value) (hs : a.eval s = v) (hown : w.ownsRow base e size v n xs)
  (ad : Addr) (m c : Nat) (news : List Value) (hx : a.eval x = .slice (some ad) m c) (hl : news.length = m * size) (hnews : ∀ j u, news[j]? = some u → w.cell? (ad.add j) = some u) (h1 : ∀ u ∈ news, u.oneCell' = true)
  (h63 : n + m ≤ maxLen) (hbytes : (n + m) * bytes ≤ 140737488355328) (hbase : base ≤ w.heap.size) (hm : 0 < m)
  (h : ∀ v' w', w'.ownsRow base e size v' (n + m) (xs ++ news) → w.grownBy w' v.ownBlock → (v'.ownBlock = v.ownBlock ∨ ∃ g, v'.ownBlock = some g ∧ w.heap.size ≤ g) → wpList P ops Q rest (a.put o.dst v') w') : wpList P ops Q (o :: rest) a w := by
 obtain ⟨v', w', hr, h2, h3, h4⟩ := run_append_fresh (P := P) w base t o.type e i z size bytes ht hi hz hsize hby hzs hsz v n xs hown ad m c news hl hnews h1 h63 hbytes hbase hm
 refine wpList_plain hgd fun _ hK => ?_
 unfold Oper.wp
 simp [execOp, ho, resolve, invoke, builtin, hs, hx, hr, Result.andThen]
 exact hK _ _ (h v' w' h2 h3 h4)
def PartsV (w : World) (P : Nat → Prop) (v : Value) (l : List Pt) : Prop := w.ownsRow 0 129 2 v l.length (ptCells l) ∧ ∀ k, v.ownBlock = some k → P k
def coreV (c : Core) : List Value := [.int .i64 c.kind, .int .i64 c.place, .int .i64 c.name, .int .i64 c.label, .int .i64 c.count]
def RuleC {α : Type} (rows : Value → List α → Prop) (w : World) (P : Nat → Prop) (cs : List Value) (r : Core × List α × List α) : Prop :=
 ∃ ve v1 v2, cs = coreV r.1 ++ [ve, v1, v2] ∧ PartsV w P ve r.1.parts ∧ rows v1 r.2.1 ∧ rows v2 r.2.2
def RowsC {α : Type} (one : List Value → α → Prop) (w : World) (P : Nat → Prop) (v : Value) (l : List α) : Prop :=
 ∃ xs : List (List Value), w.ownsRow 0 104 8 v l.length xs.flatten ∧ (∀ k, v.ownBlock = some k → P k) ∧ xs.length = l.length ∧ ∀ i (h : i < l.length) (h' : i < xs.length), one xs[i] l[i]
def RulesV (n : Nat) (w : World) (P : Nat → Prop) : Value → List (RT n) → Prop :=
 match n with
 | 0 => fun v _ => w.ownsRow 0 104 8 v 0 [] ∧ ∀ k, v.ownBlock = some k → P k
 | n + 1 => fun v l => RowsC (α := RT (n + 1)) (fun cs r => RuleC (RulesV n w P) w P cs r) w P v l
theorem own_same {w w' : World} {base size n : Nat} {e : TypeId} {v : Value} {xs : List Value} (h : w.ownsRow base e size v n xs) (hk : ∀ k, v.ownBlock = some k → k < w.heap.size → w'.heap[k]? = w.heap[k]?) : w'.ownsRow base e size v n xs := by
 refine ⟨h.1, ?_⟩
 rcases h.2 with h0 | ⟨g, cap, cur, h1, h2, h3, h4⟩
 ·exact .inl h0
 ·refine .inr ⟨g, cap, cur, h1, h2, ?_, h4⟩
  rw [hk g (by rw [h1]; rfl) (Array.getElem?_eq_some_iff.mp h3).1, h3]
theorem partsV_frame {w w' : World} {P Q : Nat → Prop} {v : Value} {l : List Pt} (h : PartsV w P v l) (hk : ∀ k, P k → k < w.heap.size → Q k ∧ w'.heap[k]? = w.heap[k]?) : PartsV w' Q v l :=
 ⟨own_same h.1 (fun k e hl => (hk k (h.2 k e) hl).2), fun k e => (hk k (h.2 k e) (h.1.lt k e).2).1⟩
theorem rowsC_frame {α : Type} {one two : List Value → α → Prop} {w w' : World} {P Q : Nat → Prop} {v : Value} {l : List α} (h : RowsC one w P v l) (hk : ∀ k, P k → k < w.heap.size → Q k ∧ w'.heap[k]? = w.heap[k]?) (ho : ∀ cs r, one cs r → two cs r) : RowsC two w' Q v l := by
 obtain ⟨xs, h1, h2, h3, h4⟩ := h
 exact ⟨xs, own_same h1 (fun k e hl => (hk k (h2 k e) hl).2), fun k e => (hk k (h2 k e) (h1.lt k e).2).1, h3, fun i a b => ho _ _ (h4 i a b)⟩
theorem ruleC_frame {α : Type} {rows rows' : Value → List α → Prop} {w w' : World} {P Q : Nat → Prop} {cs : List Value} {r : Core × List α × List α} (h : RuleC rows w P cs r) (hk : ∀ k, P k → k < w.heap.size → Q k ∧ w'.heap[k]? = w.heap[k]?) (ho : ∀ v l, rows v l → rows' v l) : RuleC rows' w' Q cs r := by
 obtain ⟨ve, v1, v2, h1, h2, h3, h4⟩ := h
 exact ⟨ve, v1, v2, h1, partsV_frame h2 hk, ho _ _ h3, ho _ _ h4⟩
theorem rulesV_frame {w w' : World} {P Q : Nat → Prop} (hk : ∀ k, P k → k < w.heap.size → Q k ∧ w'.heap[k]? = w.heap[k]?) : ∀ (n : Nat) (v : Value) (l : List (RT n)), RulesV n w P v l → RulesV n w' Q v l
 | 0, v, l, h => ⟨own_same h.1 (fun k e hl => (hk k (h.2 k e) hl).2), fun k e => (hk k (h.2 k e) (h.1.lt k e).2).1⟩
 | n + 1, v, l, h => rowsC_frame (one := fun cs (r : RT (n + 1)) => RuleC (RulesV n w P) w P cs r) h hk fun cs r hr => ruleC_frame hr hk (rulesV_frame hk n)
def RuleV (n : Nat) (w : World) (P : Nat → Prop) (cs : List Value) (r : RT (n + 1)) : Prop := RuleC (RulesV n w P) w P cs r
theorem ruleV_frame {w w' : World} {P Q : Nat → Prop} {n : Nat} {cs : List Value} {r : RT (n + 1)} (h : RuleV n w P cs r) (hk : ∀ k, P k → k < w.heap.size → Q k ∧ w'.heap[k]? = w.heap[k]?) : RuleV n w' Q cs r :=
 ruleC_frame h hk (rulesV_frame hk n)
theorem rulesV_nil (n : Nat) (w : World) (P : Nat → Prop) : RulesV n w P nilS [] := by
 cases n with
 | zero => exact ⟨World.ownsRow_nil .., fun k e => (by cases e)⟩
 | succ n => exact ⟨[], World.ownsRow_nil .., fun k e => (by cases e), rfl, fun i h => (by cases h)⟩
theorem partsV_nil (w : World) (P : Nat → Prop) : PartsV w P nilS [] := ⟨World.ownsRow_nil .., fun k e => (by cases e)⟩
theorem infoRule : (Tryz.prog.info? 104).map (fun i => (i.zero, i.size, i.bytes)) = some (some (.agg #[.int .i64 0, .int .i64 0, .int .i64 0, .int .i64 0, .int .i64 0, .slice none 0 0, .slice none 0 0, .slice none 0 0]), 8, 112) := by kernel_rfl
theorem infoHead : (Tryz.prog.info? 101).map (fun i => (i.zero, i.size, i.bytes)) = some (some (.agg #[.bool false, .int .i64 0, .int .i64 0, .int .i64 0]), 4, 32) := by kernel_rfl
theorem parts_of_info {p : Program} {t : TypeId} {z : Value} {a b : Nat} (h : (p.info? t).map (fun i => (i.zero, i.size, i.bytes)) = some (some z, a, b)) : ∃ i, p.info? t = some i ∧ i.zero = some z ∧ i.size = a ∧ i.bytes = b := by
 cases e : p.info? t with
 | none => rw [e] at h; cases h
 | some i => rw [e] at h; simp at h; exact ⟨i, rfl, h.1, h.2.1, h.2.2⟩
end Go.Proofs.YtdgmoiflahoihabGreatDoor
namespace Go.Proofs.YtdgmoiflahoihabGreatDoor
open Go.RowKit
set_option linter.unusedSimpArgs false
set_option linter.unusedVariables false
theorem readerAt_set {w : World} {b : Nat} {s : ByteArray} {r : Rd} {pv : Value} (h : ReaderAt w b s r pv) (a : Addr) (u : Value) (ha : a.block ≠ b) : ReaderAt (w.setCell a u) b s r pv := by
 have hh : (w.setCell a u).heap[b]? = w.heap[b]? := Below.heap_setCell _ _ _ _ (fun e => ha e.symm)
 obtain ⟨c0, c1, c2, c3, c4, fz⟩ := h
 refine ⟨?_, ?_, ?_, ?_, ?_, fun o => ?_⟩
 ·exact (World.cell?_of_block (a := ⟨b, 0, none⟩) hh).trans c0
 ·exact (World.cell?_of_block (a := ⟨b, 1, none⟩) hh).trans c1
 ·exact (World.cell?_of_block (a := ⟨b, 2, none⟩) hh).trans c2
 ·exact (World.cell?_of_block (a := ⟨b, 3, none⟩) hh).trans c3
 ·exact (World.cell?_of_block (a := ⟨b, 4, none⟩) hh).trans c4
 ·exact (World.frozen?_of_block (a := ⟨b, o, none⟩) hh).trans (fz o)
theorem readerAt_alloc {w : World} {b : Nat} {s : ByteArray} {r : Rd} {pv : Value} (h : ReaderAt w b s r pv) (o : Obj) : ReaderAt (w.alloc o) b s r pv := by
 obtain ⟨c0, c1, c2, c3, c4, fz⟩ := h
 have hb : b < w.heap.size := World.block_lt_of_cell? w _ c0
 refine ⟨?_, ?_, ?_, ?_, ?_, fun o => ?_⟩
 ·exact (World.cell?_alloc_past _ _ _ hb).trans c0
 ·exact (World.cell?_alloc_past _ _ _ hb).trans c1
 ·exact (World.cell?_alloc_past _ _ _ hb).trans c2
 ·exact (World.cell?_alloc_past _ _ _ hb).trans c3
 ·exact (World.cell?_alloc_past _ _ _ hb).trans c4
 ·exact (World.frozen?_alloc_past _ _ _ hb).trans (fz o)
theorem But.setNew {b : Nat} {w W : World} (h : But b w W) (a : Addr) (u : Value) (ha : w.heap.size ≤ a.block) : But b w (W.setCell a u) := by
 obtain ⟨h1, h2, h3, h4, h5⟩ := h
 refine ⟨h1, h2, h3, by simpa using h4, fun k hk hne => ?_⟩
 rw [Below.heap_setCell _ _ _ _ (by omega)]
 exact h5 k hk hne
theorem But.alloc {b : Nat} {w W : World} (h : But b w W) (o : Obj) : But b w (W.alloc o) := by
 obtain ⟨h1, h2, h3, h4, h5⟩ := h
 refine ⟨h1, h2, h3, by simp; omega, fun k hk hne => ?_⟩
 rw [Below.heap_alloc _ _ _ (by omega)]
 exact h5 k hk hne
theorem partsV_set {W : World} {P : Nat → Prop} {v : Value} {l : List Pt} (h : PartsV W P v l) (a : Addr) (u : Value) (hP : ∀ k, P k → k ≠ a.block) : PartsV (W.setCell a u) P v l :=
 partsV_frame h fun k hk _ => ⟨hk, Below.heap_setCell _ _ _ _ (hP k hk)⟩
theorem partsV_but {W W' : World} {b : Nat} {P : Nat → Prop} {v : Value} {l : List Pt} (h : PartsV W P v l) (hb : But b W W') (hP : ∀ k, P k → k ≠ b) : PartsV W' P v l :=
 partsV_frame h fun k hk hl => ⟨hk, hb.block k hl (fun e => hP k hk (by cases e; rfl))⟩
theorem rulesV_set {n : Nat} {W : World} {P : Nat → Prop} {v : Value} {l : List (RT n)} (h : RulesV n W P v l) (a : Addr) (u : Value) (hP : ∀ k, P k → k ≠ a.block) : RulesV n (W.setCell a u) P v l :=
 rulesV_frame (fun k hk _ => ⟨hk, Below.heap_setCell _ _ _ _ (hP k hk)⟩) n v l h
theorem rulesV_but {n : Nat} {W W' : World} {b : Nat} {P : Nat → Prop} {v : Value} {l : List (RT n)} (h : RulesV n W P v l) (hb : But b W W') (hP : ∀ k, P k → k ≠ b) : RulesV n W' P v l :=
 rulesV_frame (fun k hk hl => ⟨hk, hb.block k hl (fun e => hP k hk (by cases e; rfl))⟩) n v l h
theorem rulesV_mono {n : Nat} {W : World} {P Q : Nat → Prop} {v : Value} {l : List (RT n)} (h : RulesV n W P v l) (hP : ∀ k, P k → Q k) : RulesV n W Q v l :=
 rulesV_frame (fun k hk hl => ⟨hP k hk, rfl⟩) n v l h
theorem own_mono {w : World} {base base' : Nat} {e : TypeId} {size : Nat} {v : Value} {n : Nat} {xs : List Value} (h : w.ownsRow base e size v n xs) (hb : base' ≤ base) : w.ownsRow base' e size v n xs := by
 refine ⟨h.1, ?_⟩
 rcases h.2 with h0 | ⟨g, cap, cur, h1, h2, h3⟩
 ·exact .inl h0
 ·exact .inr ⟨g, cap, cur, h1, Nat.le_trans hb h2, h3⟩
def Past (w : World) (k : Nat) : Prop := w.heap.size + 2 ≤ k
structure Loc (W w : World) (b : Nat) (s : ByteArray) (r : Rd) (v0 v1 v2 v3 v4 v5 v6 v7 : Value) : Prop where
 rd : ReaderAt W b s r nilS
 g0 : W.cell? ⟨w.heap.size + 1, 0, none⟩ = some v0
 g1 : W.cell? ⟨w.heap.size + 1, 1, none⟩ = some v1
 g2 : W.cell? ⟨w.heap.size + 1, 2, none⟩ = some v2
 g3 : W.cell? ⟨w.heap.size + 1, 3, none⟩ = some v3
 g4 : W.cell? ⟨w.heap.size + 1, 4, none⟩ = some v4
 g5 : W.cell? ⟨w.heap.size + 1, 5, none⟩ = some v5
 g6 : W.cell? ⟨w.heap.size + 1, 6, none⟩ = some v6
 g7 : W.cell? ⟨w.heap.size + 1, 7, none⟩ = some v7
 gf : ∀ o, W.frozen? ⟨w.heap.size + 1, o, none⟩ = false
 h0 : W.cell? ⟨w.heap.size, 0, none⟩ = some (.int .i64 0)
 h1 : W.cell? ⟨w.heap.size, 1, none⟩ = some (.int .i64 0)
 h2 : W.cell? ⟨w.heap.size, 2, none⟩ = some (.int .i64 0)
 h3 : W.cell? ⟨w.heap.size, 3, none⟩ = some (.int .i64 0)
 h4 : W.cell? ⟨w.heap.size, 4, none⟩ = some (.int .i64 0)
 h5 : W.cell? ⟨w.heap.size, 5, none⟩ = some (.slice none 0 0)
 h6 : W.cell? ⟨w.heap.size, 6, none⟩ = some (.slice none 0 0)
 h7 : W.cell? ⟨w.heap.size, 7, none⟩ = some (.slice none 0 0)
 hf : ∀ o, W.frozen? ⟨w.heap.size, o, none⟩ = false
 but : But b w W
 size : w.heap.size + 2 ≤ W.heap.size
 lt : b < w.heap.size
theorem loc_start {w : World} {b : Nat} {s : ByteArray} {r : Rd} (h : ReaderAt w b s r nilS) (t t' : TypeId) (v0 v1 v2 v3 v4 v5 v6 v7 : Value) : Loc ((w.alloc (.cells #[.int .i64 0, .int .i64 0, .int .i64 0, .int .i64 0, .int .i64 0, .slice none 0 0, .slice none 0 0, .slice none 0 0] t)).alloc (.cells #[v0, v1, v2, v3, v4, v5, v6, v7] t')) w b s r v0 v1 v2 v3 v4 v5 v6 v7 := by
 have hb : b < w.heap.size := World.block_lt_of_cell? w _ h.c0
 refine ⟨readerAt_alloc (readerAt_alloc h _) _, ?_, ?_, ?_, ?_, ?_, ?_, ?_, ?_, fun o => ?_, ?_, ?_, ?_, ?_, ?_, ?_, ?_, ?_, fun o => ?_, ((But.refl b w).alloc _).alloc _, by simp, hb⟩
 all_goals simp [go_sem]
theorem Loc.call {W W' w : World} {b : Nat} {s : ByteArray} {r r' : Rd} {v0 v1 v2 v3 v4 v5 v6 v7 : Value} (L : Loc W w b s r v0 v1 v2 v3 v4 v5 v6 v7) (hr : ReaderAt W' b s r' nilS) (hb : But b W W') : Loc W' w b s r' v0 v1 v2 v3 v4 v5 v6 v7 := by
 have hs := L.size
 have hl := L.lt
 have k1 : W'.heap[w.heap.size + 1]? = W.heap[w.heap.size + 1]? := hb.block _ (by omega) (fun e => by cases e; omega)
 have k0 : W'.heap[w.heap.size]? = W.heap[w.heap.size]? := hb.block _ (by omega) (fun e => by cases e; omega)
 exact ⟨hr, (World.cell?_of_block (a := ⟨w.heap.size + 1, 0, none⟩) k1).trans L.g0, (World.cell?_of_block (a := ⟨w.heap.size + 1, 1, none⟩) k1).trans L.g1, (World.cell?_of_block (a := ⟨w.heap.size + 1, 2, none⟩) k1).trans L.g2, (World.cell?_of_block (a := ⟨w.heap.size + 1, 3, none⟩) k1).trans L.g3, (World.cell?_of_block (a := ⟨w.heap.size + 1, 4, none⟩) k1).trans L.g4, (World.cell?_of_block (a := ⟨w.heap.size + 1, 5, none⟩) k1).trans L.g5, (World.cell?_of_block (a := ⟨w.heap.size + 1, 6, none⟩) k1).trans L.g6, (World.cell?_of_block (a := ⟨w.heap.size + 1, 7, none⟩) k1).trans L.g7, fun o => (World.frozen?_of_block (a := ⟨w.heap.size + 1, o, none⟩) k1).trans (L.gf o), (World.cell?_of_block (a := ⟨w.heap.size, 0, none⟩) k0).trans L.h0, (World.cell?_of_block (a := ⟨w.heap.size, 1, none⟩) k0).trans L.h1, (World.cell?_of_block (a := ⟨w.heap.size, 2, none⟩) k0).trans L.h2, (World.cell?_of_block (a := ⟨w.heap.size, 3, none⟩) k0).trans L.h3, (World.cell?_of_block (a := ⟨w.heap.size, 4, none⟩) k0).trans L.h4, (World.cell?_of_block (a := ⟨w.heap.size, 5, none⟩) k0).trans L.h5, (World.cell?_of_block (a := ⟨w.heap.size, 6, none⟩) k0).trans L.h6, (World.cell?_of_block (a := ⟨w.heap.size, 7, none⟩) k0).trans L.h7, fun o => (World.frozen?_of_block (a := ⟨w.heap.size, o, none⟩) k0).trans (L.hf o), L.but.trans hb, Nat.le_trans hs hb.size, hl⟩
theorem Loc.set2 {W w : World} {b : Nat} {s : ByteArray} {r : Rd} {v0 v1 v2 v3 v4 v5 v6 v7 : Value} (L : Loc W w b s r v0 v1 v2 v3 v4 v5 v6 v7) (u : Value) : Loc (W.setCell ⟨w.heap.size + 1, 2, none⟩ u) w b s r v0 v1 u v3 v4 v5 v6 v7 := by
 obtain ⟨rd, g0, g1, g2, g3, g4, g5, g6, g7, gf, h0, h1, h2, h3, h4, h5, h6, h7, hf, but, size, lt⟩ := L
 refine ⟨readerAt_set rd _ _ (by simp only; omega), ?_, ?_, ?_, ?_, ?_, ?_, ?_, ?_, fun o => ?_, ?_, ?_, ?_, ?_, ?_, ?_, ?_, ?_, fun o => ?_, but.setNew _ _ (by simp), by simpa using size, lt⟩
 all_goals simp [go_sem, g0, g1, g2, g3, g4, g5, g6, g7, gf, h0, h1, h2, h3, h4, h5, h6, h7, hf]
theorem Loc.set3 {W w : World} {b : Nat} {s : ByteArray} {r : Rd} {v0 v1 v2 v3 v4 v5 v6 v7 : Value} (L : Loc W w b s r v0 v1 v2 v3 v4 v5 v6 v7) (u : Value) : Loc (W.setCell ⟨w.heap.size + 1, 3, none⟩ u) w b s r v0 v1 v2 u v4 v5 v6 v7 := by
 obtain ⟨rd, g0, g1, g2, g3, g4, g5, g6, g7, gf, h0, h1, h2, h3, h4, h5, h6, h7, hf, but, size, lt⟩ := L
 refine ⟨readerAt_set rd _ _ (by simp only; omega), ?_, ?_, ?_, ?_, ?_, ?_, ?_, ?_, fun o => ?_, ?_, ?_, ?_, ?_, ?_, ?_, ?_, ?_, fun o => ?_, but.setNew _ _ (by simp), by simpa using size, lt⟩
 all_goals simp [go_sem, g0, g1, g2, g3, g4, g5, g6, g7, gf, h0, h1, h2, h3, h4, h5, h6, h7, hf]
theorem Loc.set4 {W w : World} {b : Nat} {s : ByteArray} {r : Rd} {v0 v1 v2 v3 v4 v5 v6 v7 : Value} (L : Loc W w b s r v0 v1 v2 v3 v4 v5 v6 v7) (u : Value) : Loc (W.setCell ⟨w.heap.size + 1, 4, none⟩ u) w b s r v0 v1 v2 v3 u v5 v6 v7 := by
 obtain ⟨rd, g0, g1, g2, g3, g4, g5, g6, g7, gf, h0, h1, h2, h3, h4, h5, h6, h7, hf, but, size, lt⟩ := L
 refine ⟨readerAt_set rd _ _ (by simp only; omega), ?_, ?_, ?_, ?_, ?_, ?_, ?_, ?_, fun o => ?_, ?_, ?_, ?_, ?_, ?_, ?_, ?_, ?_, fun o => ?_, but.setNew _ _ (by simp), by simpa using size, lt⟩
 all_goals simp [go_sem, g0, g1, g2, g3, g4, g5, g6, g7, gf, h0, h1, h2, h3, h4, h5, h6, h7, hf]
theorem Loc.set5 {W w : World} {b : Nat} {s : ByteArray} {r : Rd} {v0 v1 v2 v3 v4 v5 v6 v7 : Value} (L : Loc W w b s r v0 v1 v2 v3 v4 v5 v6 v7) (u : Value) : Loc (W.setCell ⟨w.heap.size + 1, 5, none⟩ u) w b s r v0 v1 v2 v3 v4 u v6 v7 := by
 obtain ⟨rd, g0, g1, g2, g3, g4, g5, g6, g7, gf, h0, h1, h2, h3, h4, h5, h6, h7, hf, but, size, lt⟩ := L
 refine ⟨readerAt_set rd _ _ (by simp only; omega), ?_, ?_, ?_, ?_, ?_, ?_, ?_, ?_, fun o => ?_, ?_, ?_, ?_, ?_, ?_, ?_, ?_, ?_, fun o => ?_, but.setNew _ _ (by simp), by simpa using size, lt⟩
 all_goals simp [go_sem, g0, g1, g2, g3, g4, g5, g6, g7, gf, h0, h1, h2, h3, h4, h5, h6, h7, hf]
theorem Loc.set6 {W w : World} {b : Nat} {s : ByteArray} {r : Rd} {v0 v1 v2 v3 v4 v5 v6 v7 : Value} (L : Loc W w b s r v0 v1 v2 v3 v4 v5 v6 v7) (u : Value) : Loc (W.setCell ⟨w.heap.size + 1, 6, none⟩ u) w b s r v0 v1 v2 v3 v4 v5 u v7 := by
 obtain ⟨rd, g0, g1, g2, g3, g4, g5, g6, g7, gf, h0, h1, h2, h3, h4, h5, h6, h7, hf, but, size, lt⟩ := L
 refine ⟨readerAt_set rd _ _ (by simp only; omega), ?_, ?_, ?_, ?_, ?_, ?_, ?_, ?_, fun o => ?_, ?_, ?_, ?_, ?_, ?_, ?_, ?_, ?_, fun o => ?_, but.setNew _ _ (by simp), by simpa using size, lt⟩
 all_goals simp [go_sem, g0, g1, g2, g3, g4, g5, g6, g7, gf, h0, h1, h2, h3, h4, h5, h6, h7, hf]
theorem Loc.set7 {W w : World} {b : Nat} {s : ByteArray} {r : Rd} {v0 v1 v2 v3 v4 v5 v6 v7 : Value} (L : Loc W w b s r v0 v1 v2 v3 v4 v5 v6 v7) (u : Value) : Loc (W.setCell ⟨w.heap.size + 1, 7, none⟩ u) w b s r v0 v1 v2 v3 v4 v5 v6 u := by
 obtain ⟨rd, g0, g1, g2, g3, g4, g5, g6, g7, gf, h0, h1, h2, h3, h4, h5, h6, h7, hf, but, size, lt⟩ := L
 refine ⟨readerAt_set rd _ _ (by simp only; omega), ?_, ?_, ?_, ?_, ?_, ?_, ?_, ?_, fun o => ?_, ?_, ?_, ?_, ?_, ?_, ?_, ?_, ?_, fun o => ?_, but.setNew _ _ (by simp), by simpa using size, lt⟩
 all_goals simp [go_sem, g0, g1, g2, g3, g4, g5, g6, g7, gf, h0, h1, h2, h3, h4, h5, h6, h7, hf]
end Go.Proofs.YtdgmoiflahoihabGreatDoor
