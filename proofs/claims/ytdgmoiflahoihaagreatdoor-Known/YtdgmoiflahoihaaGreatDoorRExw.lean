import Derived.Test.YtdgmoiflahoihaaGreatDoorROpenw
import Derived.Lib.SmallJoins

namespace Go.Proofs.YtdgmoiflahoihaaGreatDoor
open Go.RowKit
set_option linter.unusedSimpArgs false
set_option linter.unusedVariables false
structure Pt where
 op : Int
 num : Int
def ptV (p : Pt) : List Value := [.int .i64 p.op, .int .i64 p.num]
def ptCells (l : List Pt) : List Value := l.flatMap ptV
theorem ptCells_app (l r : List Pt) : ptCells (l ++ r) = ptCells l ++ ptCells r := by simp [ptCells]
theorem infoPart : (Tryz.prog.info? 195).map (fun i => (i.zero, i.size, i.bytes)) = some (some (.agg #[.int .i64 0, .int .i64 0]), 2, 16) := by kernel_rfl
theorem two_new (w : World) (a b : Value) (t : TypeId) : ∀ j u, [a, b][j]? = some u → (w.alloc (.cells #[a, b] t)).cell? ((⟨w.heap.size, 0, none⟩ : Addr).add j) = some u := by
 intro j u h
 match j, h with
 | 0, h => simp at h; subst h; simp [go_sem, Addr.add]
 | 1, h => simp at h; subst h; simp [go_sem, Addr.add]
 | j + 2, h => simp at h
structure Keep (B b : Nat) (w w' : World) : Prop where
 os : w'.os = w.os
 tape : w'.tape = w.tape
 output : w'.output = w.output
 size : w.heap.size ≤ w'.heap.size
 block : ∀ k, k < B → k ≠ b → w'.heap[k]? = w.heap[k]?
theorem Keep.refl (B b : Nat) (w : World) : Keep B b w w := ⟨rfl, rfl, rfl, Nat.le_refl _, fun _ _ _ => rfl⟩
theorem Keep.trans {B b : Nat} {w w1 w2 : World} (h : Keep B b w w1) (k : Keep B b w1 w2) : Keep B b w w2 :=
 ⟨k.os.trans h.os, k.tape.trans h.tape, k.output.trans h.output, Nat.le_trans h.size k.size, fun i hi hn => (k.block i hi hn).trans (h.block i hi hn)⟩
theorem Keep.mono {B B' b : Nat} {w w' : World} (h : Keep B b w w') (hB : B' ≤ B) : Keep B' b w w' := ⟨h.os, h.tape, h.output, h.size, fun k hk hn => h.block k (by omega) hn⟩
theorem But.keep {B b : Nat} {w w' : World} (h : But b w w') (hB : B ≤ w.heap.size) : Keep B b w w' := by
 obtain ⟨h1, h2, h3, h4, h5⟩ := h
 exact ⟨h1, h2, h3, h4, fun k hk hn => h5 k (by omega) (by intro e; cases e; exact hn rfl)⟩
theorem Keep.drewN {B b : Nat} {w w' : World} (h : Keep B b w w') (n : Nat) : Keep B b w (w'.drewN n) := ⟨h.os, h.tape, h.output, h.size, h.block⟩
theorem Keep.alloc {B b : Nat} {w w' : World} (h : Keep B b w w') (hB : B ≤ w'.heap.size) (o : Obj) : Keep B b w (w'.alloc o) :=
 h.trans ⟨rfl, rfl, rfl, by simp, fun k hk _ => Below.heap_alloc _ _ _ (by omega)⟩
theorem Keep.set {B b : Nat} {w w' : World} (h : Keep B b w w') (o : Nat) (u : Value) : Keep B b w (w'.setCell ⟨b, o, none⟩ u) :=
 h.trans ⟨rfl, rfl, rfl, by simp [World.setCell], fun k hk hn => Below.heap_setCell _ _ _ _ hn⟩
theorem Keep.grown {B b : Nat} {a w w' : World} {row : Option Nat} (h : Keep B b a w) (hg : w.grownBy w' row) (hB : B ≤ w.heap.size) (hr : ∀ k, row = some k → B ≤ k) : Keep B b a w' :=
 h.trans ⟨hg.os, hg.tape, hg.output, hg.size, fun k hk _ => hg.block k (by omega) (fun e => by have := hr k e.symm; omega)⟩
theorem Keep.below {B b : Nat} {w w' : World} (h : Keep B b w w') (hb : B ≤ b) : Below B w w' := ⟨h.os, h.tape, h.output, h.size, fun k hk => h.block k hk (by omega)⟩
theorem own_but {w w' : World} {base size n b : Nat} {e : TypeId} {v : Value} {xs : List Value} (h : w.ownsRow base e size v n xs) (hb : But b w w') (hlt : b < base) : w'.ownsRow base e size v n xs := by
 refine h.kept hb ?_
 cases hv : v.ownBlock with
 | none => exact .inl rfl
 | some g =>
  refine .inr fun e1 => ?_
  have := (h.lt g hv).1
  cases e1
  omega
structure ExAt (w : World) (base b : Nat) (s : ByteArray) (r : Rd) (l : List Pt) : Prop where
 here : ∃ pv, ReaderAt w b s r pv ∧ w.ownsRow base 195 2 pv l.length (ptCells l)
 lt : b < base
 le : base ≤ w.heap.size
theorem readerAt_grown {w w' : World} {b : Nat} {s : ByteArray} {r : Rd} {pv : Value} {row : Option Nat} (h : ReaderAt w b s r pv) (hg : w.grownBy w' row) (hr : some b ≠ row) : ReaderAt w' b s r pv := by
 obtain ⟨c0, c1, c2, c3, c4, fz⟩ := h
 have hlt := World.block_lt_of_cell? w _ c0
 refine ⟨hg.cell c0 hr, hg.cell c1 hr, hg.cell c2 hr, hg.cell c3 hr, hg.cell c4 hr, fun o => ?_⟩
 rw [World.frozen?_of_block (w := w) (hg.block b hlt hr)]
 exact fz o
set_option maxRecDepth 100000 in
set_option maxHeartbeats 1000000 in
theorem addPart_any (base b : Nat) (s : ByteArray) (r : Rd) (l : List Pt) (op num : Int) (w : World) (h : ExAt w base b s r l) (hl : l.length ≤ 1000) :
  Calls Tryz.prog 210 #[.pointer (some ⟨b, 0, none⟩), .int .i64 op, .int .i64 num] w fun e w' => e = .returned (.tuple #[]) ∧ ExAt w' base b s r (l ++ [⟨op, num⟩]) ∧ Keep base b w w' := by
 obtain ⟨⟨pv, hr, ho⟩, hlt, hle⟩ := h
 have HR : Hid (ReaderAt w b s r pv) := hr
 obtain ⟨c0, c1, c2, c3, c4, fz⟩ := hr
 obtain ⟨iF, hiF, hzF⟩ : ∃ iF, Tryz.prog.info? 195 = some iF ∧ (iF.zero, iF.size, iF.bytes) = (some (.agg #[.int .i64 0, .int .i64 0]), 2, 16) := by
  have := infoPart
  cases e : Tryz.prog.info? 195 with
  | none => rw [e] at this; cases this
  | some iF => rw [e] at this; simp at this; exact ⟨iF, rfl, by simpa using this⟩
 simp only [Prod.mk.injEq] at hzF
 obtain ⟨hzF, hsF, hbF⟩ := hzF
 have hb : b < w.heap.size := World.block_lt_of_cell? w _ c0
 go_enter Tryz.func210, Tryz.ntmps210
 go_wp2_with (at_builtin; refine wpList_append_own _ rfl (.tmp 10) (.tmp 14) 140 rfl base 195 iF (.agg #[.int .i64 0, .int .i64 0]) 2 16 Tryz.underlying140 hiF hzF hsF hbF rfl (by decide) pv l.length (ptCells l) (by rfl) (by exact ho.alloc _) ⟨w.heap.size, 0, none⟩ 1 1 [.int .i64 op, .int .i64 num] (by rfl) rfl (by exact two_new w _ _ 195) (by intro q hq; simp at hq; rcases hq with rfl | rfl <;> rfl) (by unfold maxLen; omega) (by omega) (by simp; omega) ?nxt)
 case nxt =>
  intro v' w2 hown hgrow _
  have hne : some b ≠ pv.ownBlock := by
   intro e
   have := (ho.lt b e.symm).1
   omega
  have hr2 : ReaderAt w2 b s r pv := by
   refine readerAt_grown ?_ hgrow hne
   obtain ⟨c0, c1, c2, c3, c4, fz⟩ := HR.out
   refine ⟨?_, ?_, ?_, ?_, ?_, fun o => ?_⟩
   ·exact (World.cell?_alloc_past _ _ _ hb).trans c0
   ·exact (World.cell?_alloc_past _ _ _ hb).trans c1
   ·exact (World.cell?_alloc_past _ _ _ hb).trans c2
   ·exact (World.cell?_alloc_past _ _ _ hb).trans c3
   ·exact (World.cell?_alloc_past _ _ _ hb).trans c4
   ·exact (World.frozen?_alloc_past _ _ _ hb).trans (fz o)
  have hk : Keep base b w w2 := by
   refine Keep.grown ((Keep.refl base b w).alloc hle _) hgrow (by simp; omega) ?_
   intro k hk
   exact (ho.lt k hk).1
  have hsz := hk.size
  clear c0 c1 c2 c3 c4 fz HR hgrow
  have HK : Hid (Keep base b w w2) := hk
  clear hk
  obtain ⟨c0, c1, c2, c3, c4, fz⟩ := hr2
  obtain ⟨g, cap, hv'⟩ := Joins.ownsRow_form hown (by omega)
  subst hv'
  go_wp2
  go_end0
  refine ⟨rfl, ⟨⟨.slice (some ⟨g, 0, none⟩) (l.length + 1) cap, ⟨?_, ?_, ?_, ?_, ?_, ?_⟩, ?_⟩, hlt, by simp; omega⟩, HK.out.set 3 _⟩
  case _ => simp [go_sem, c0]
  case _ => simp [go_sem, c1]
  case _ => simp [go_sem, c2]
  case _ => simp [go_sem, c3]
  case _ => simp [go_sem, c4]
  case _ => intro o; simp [go_sem, fz]
  case _ =>
   rw [List.length_append, ptCells_app]
   exact ownsRow_setCell_below hown (a := ⟨b, 3, none⟩) (by simpa using hlt) _
end Go.Proofs.YtdgmoiflahoihaaGreatDoor
namespace Go.Proofs.YtdgmoiflahoihaaGreatDoor
open Go.RowKit
set_option linter.unusedSimpArgs false
set_option linter.unusedVariables false
abbrev RP := Rd × List Pt
def minusF (t : List UInt8) : Nat → Rd → Rd × Nat
 | 0, r => (r, 0)
 | n + 1, r => if r.seesOne t 45 45 then ((minusF t n (r.takeOne t 45 45).1).1, (minusF t n (r.takeOne t 45 45).1).2 + 1) else (r, 0)
def plainU (t : List UInt8) (cmp : RP → RP) (x : RP) : RP :=
 if x.1.seesOne t 48 57 then ((x.1.number t).1, x.2 ++ [⟨1, (x.1.number t).2⟩])
 else if x.1.seesOne t 97 122 then ((x.1.takeOne t 97 122).1, x.2 ++ [⟨2, (x.1.takeOne t 97 122).2⟩])
 else if x.1.seesOne t 40 40 then ((cmp (x.1.opening t 40, x.2)).1.closing t 41, (cmp (x.1.opening t 40, x.2)).2)
 else ({ x.1 with bad := true }, x.2)
def negs (k : Nat) : List Pt := List.replicate k ⟨3, 0⟩
def unitU (t : List UInt8) (cmp : RP → RP) (x : RP) : RP :=
 let m := minusF t (t.length + 1) x.1
 let y := plainU t cmp (m.1, x.2)
 (y.1, y.2 ++ negs m.2)
def prodL (t : List UInt8) (cmp : RP → RP) : Nat → RP → RP
 | 0, x => x
 | n + 1, x =>
  let o := x.1.prodOper t
  if o.2 = 0 then (o.1, x.2)
  else
   let y := unitU t cmp (o.1, x.2)
   prodL t cmp n (y.1, y.2 ++ [⟨o.2, 0⟩])
def prodU (t : List UInt8) (cmp : RP → RP) (x : RP) : RP := prodL t cmp (t.length + 1) (unitU t cmp x)
def sumL (t : List UInt8) (cmp : RP → RP) : Nat → RP → RP
 | 0, x => x
 | n + 1, x =>
  let o := x.1.oper t 43 4 45 5
  if o.2 = 0 then (o.1, x.2)
  else
   let y := prodU t cmp (o.1, x.2)
   sumL t cmp n (y.1, y.2 ++ [⟨o.2, 0⟩])
def sumU (t : List UInt8) (cmp : RP → RP) (x : RP) : RP := sumL t cmp (t.length + 1) (prodU t cmp x)
def cmpU (t : List UInt8) (cmp : RP → RP) (x : RP) : RP :=
 let y := sumU t cmp x
 let o := y.1.oper t 60 9 61 10
 if o.2 = 0 then (o.1, y.2)
 else
  let z := sumU t cmp (o.1, y.2)
  (z.1, z.2 ++ [⟨o.2, 0⟩])
def cmpF (t : List UInt8) : Nat → RP → RP
 | 0, x => x
 | n + 1, x => cmpU t (cmpF t n) x
structure Adv (t : List UInt8) (x y : RP) : Prop where
 pos : x.1.pos ≤ y.1.pos
 le : y.1.pos ≤ t.length
 len : y.2.length + x.1.pos ≤ x.2.length + y.1.pos
 depth : y.1.depth = x.1.depth
 bad : x.1.bad = true → y.1.bad = true
structure Fit (t : List UInt8) (n : Nat) (x : RP) : Prop where
 le : x.1.pos ≤ t.length
 len : x.2.length ≤ x.1.pos
 d0 : 0 ≤ x.1.depth
 d9 : x.1.depth ≤ 9
 db : x.1.depth = 9 → x.1.bad = true
 fuel : 9 - x.1.depth < n
theorem Adv.trans {t : List UInt8} {x y z : RP} (h : Adv t x y) (k : Adv t y z) : Adv t x z :=
 ⟨Nat.le_trans h.pos k.pos, k.le, by have := h.len; have := k.len; omega, k.depth.trans h.depth, fun e => k.bad (h.bad e)⟩
theorem Adv.fit {t : List UInt8} {n : Nat} {x y : RP} (h : Adv t x y) (f : Fit t n x) : Fit t n y :=
 ⟨h.le, by have := h.len; have := f.len; omega, by rw [h.depth]; exact f.d0, by rw [h.depth]; exact f.d9, fun e => h.bad (f.db (by rw [← h.depth]; exact e)), by rw [h.depth]; exact f.fuel⟩
theorem Fit.mono {t : List UInt8} {n m : Nat} {x : RP} (h : Fit t n x) (k : n ≤ m) : Fit t m x := ⟨h.le, h.len, h.d0, h.d9, h.db, by have := h.fuel; omega⟩
theorem adv_refl {t : List UInt8} {x : RP} (h : x.1.pos ≤ t.length) : Adv t x x := ⟨Nat.le_refl _, h, Nat.le_refl _, rfl, id⟩
theorem sees_lt {t : List UInt8} {r : Rd} {a b : UInt8} (h : r.seesOne t a b = true) : r.pos < t.length ∧ r.bad = false := by
 unfold Rd.seesOne at h
 cases e : t[r.pos]? with
 | none => rw [e] at h; simp at h
 | some c => exact ⟨(List.getElem?_eq_some_iff.mp e).1, by cases hb : r.bad with | false => rfl | true => rw [hb] at h; simp at h⟩
theorem skip_ge (t : List UInt8) (k : Nat) : k ≤ skipL (t.drop k) k := (skipL_le _ _).1
theorem takeOne_gt {t : List UInt8} {r : Rd} {a b : UInt8} (h : r.seesOne t a b = true) : r.pos + 1 ≤ (r.takeOne t a b).1.pos := by
 unfold Rd.takeOne
 rw [if_pos h]
 exact skip_ge t _
theorem takeOne_good {t : List UInt8} {r : Rd} {a b : UInt8} (h : r.seesOne t a b = true) : (r.takeOne t a b).1.bad = false := by
 unfold Rd.takeOne
 rw [if_pos h]
 exact (sees_lt h).2
theorem bad_sees {t : List UInt8} {r : Rd} (h : r.bad = true) (a b : UInt8) : r.seesOne t a b = false := by simp [Rd.seesOne, h]
theorem takeOne_bad {t : List UInt8} {r : Rd} (h : r.bad = true) (a b : UInt8) : (r.takeOne t a b).1 = r := by
 unfold Rd.takeOne
 rw [bad_sees h]
 cases r
 simp at h
 simp [h]
theorem takeOne_adv {t : List UInt8} {r : Rd} {l : List Pt} (a b : UInt8) (h : r.pos ≤ t.length) : Adv t (r, l) ((r.takeOne t a b).1, l) := by
 refine ⟨?_, takeOne_pos h, ?_, takeOne_depth .., ?_⟩
 ·unfold Rd.takeOne; split
  ·exact Nat.le_trans (Nat.le_succ _) (skip_ge t _)
  ·exact Nat.le_refl _
 ·have : r.pos ≤ (r.takeOne t a b).1.pos := by
   unfold Rd.takeOne; split
   ·exact Nat.le_trans (Nat.le_succ _) (skip_ge t _)
   ·exact Nat.le_refl _
  simp only; omega
 ·intro hb
  show (r.takeOne t a b).1.bad = true
  rw [takeOne_bad hb]; exact hb
theorem takeOne_adv1 {t : List UInt8} {r : Rd} {l : List Pt} {a b : UInt8} (p : Pt) (hs : r.seesOne t a b = true) : Adv t (r, l) ((r.takeOne t a b).1, l ++ [p]) := by
 have h := (sees_lt hs).1
 have k := takeOne_adv (l := l) a b (Nat.le_of_lt h)
 have g := takeOne_gt hs
 exact ⟨k.pos, k.le, by simp only [List.length_append, List.length_cons, List.length_nil]; omega, k.depth, k.bad⟩
theorem numF_adv {t : List UInt8} {l : List Pt} : ∀ (n : Nat) (r : Rd) (v : Int), r.pos ≤ t.length → Adv t (r, l) ((Rd.numF t n r v).1, l)
 | 0, r, v, h => adv_refl h
 | n + 1, r, v, h => by
  unfold Rd.numF
  split
  ·have k := takeOne_adv (l := l) 48 57 h
   exact k.trans (numF_adv n _ _ k.le)
  ·exact adv_refl h
theorem number_adv1 {t : List UInt8} {r : Rd} {l : List Pt} (p : Pt) (hs : r.seesOne t 48 57 = true) : Adv t (r, l) ((r.number t).1, l ++ [p]) := by
 have k := takeOne_adv1 (l := l) p hs
 exact k.trans (numF_adv 17 _ _ k.le)
theorem minusF_adv {t : List UInt8} {l : List Pt} : ∀ (n : Nat) (r : Rd), r.pos ≤ t.length → Adv t (r, l) ((minusF t n r).1, l ++ negs (minusF t n r).2)
 | 0, r, h => by simpa [minusF, negs] using adv_refl (x := (r, l)) h
 | n + 1, r, h => by
  unfold minusF
  split
  ·rename_i hs
   have k := takeOne_adv1 (l := l) ⟨3, 0⟩ hs
   have q := minusF_adv (l := l ++ [⟨3, 0⟩]) n _ k.le
   have e : l ++ negs ((minusF t n (r.takeOne t 45 45).1).2 + 1) = l ++ [⟨3, 0⟩] ++ negs (minusF t n (r.takeOne t 45 45).1).2 := by
    simp [negs, List.replicate_succ]
   simp only [e]
   exact k.trans q
  ·simpa [negs] using adv_refl (x := (r, l)) h
def CmpAdv (t : List UInt8) (n : Nat) (cmp : RP → RP) : Prop := ∀ x, Fit t n x → Adv t x (cmp x)
theorem opening_fit {t : List UInt8} {n : Nat} {r : Rd} {l : List Pt} (h : Fit t (n + 1) (r, l)) (hs : r.seesOne t 40 40 = true) : Fit t n (r.opening t 40, l) ∧ (r.opening t 40).depth = r.depth + 1 ∧ r.pos ≤ (r.opening t 40).pos := by
 have hb := (sees_lt hs).2
 have hle := h.le
 have hlen := h.len
 have d0 := h.d0
 have d9 := h.d9
 have fu := h.fuel
 simp only at hle hlen d0 d9 fu
 have d8 : r.depth ≤ 8 := by
  apply Decidable.byContradiction
  intro hc
  have := h.db (by simp only; omega)
  simp only at this
  rw [hb] at this; cases this
 have k := takeOne_adv (l := l) (r := r.room) 40 40 (by rw [room_pos]; exact hle)
 have hd : (r.opening t 40).depth = r.depth + 1 := by
  show (r.room.takeOne t 40 40).1.depth + 1 = _
  rw [takeOne_depth, room_depth]
 have hps : r.pos ≤ (r.opening t 40).pos := by
  have := k.pos
  simp only [room_pos] at this
  exact this
 refine ⟨⟨k.le, ?_, by simp only; omega, by simp only; omega, fun e => ?_, by simp only; omega⟩, hd, hps⟩
 ·simp only; omega
 ·show (r.room.takeOne t 40 40).1.bad = true
  simp only at e
  have h8 : 8 ≤ r.depth := by omega
  have hrb : r.room.bad = true := by unfold Rd.room; rw [if_pos h8]
  rw [takeOne_bad hrb]; exact hrb
theorem plainU_adv {t : List UInt8} {n : Nat} {cmp : RP → RP} (hc : CmpAdv t n cmp) {x : RP} (h : Fit t (n + 1) x) : Adv t x (plainU t cmp x) := by
 obtain ⟨r, l⟩ := x
 unfold plainU
 split
 ·rename_i hs; exact number_adv1 _ hs
 split
 ·rename_i hs; exact takeOne_adv1 _ hs
 split
 ·rename_i hs
  obtain ⟨f1, hd, hps⟩ := opening_fit h hs
  have k := hc _ f1
  have q := takeOne_adv (l := (cmp (r.opening t 40, l)).2) (r := (cmp (r.opening t 40, l)).1) 41 41 k.le
  have k1 := k.pos
  have k3 := k.len
  have k4 := k.depth
  simp only at k1 k3 k4
  have q1 := q.pos
  simp only at q1
  refine ⟨?_, q.le, ?_, ?_, ?_⟩
  ·show r.pos ≤ ((cmp (r.opening t 40, l)).1.takeOne t 41 41).1.pos
   omega
  ·show (cmp (r.opening t 40, l)).2.length + r.pos ≤ l.length + ((cmp (r.opening t 40, l)).1.takeOne t 41 41).1.pos
   have := takeOne_adv (l := l) (r := r.room) 40 40 (by rw [room_pos]; exact h.le)
   omega
  ·show ((cmp (r.opening t 40, l)).1.takeOne t 41 41).1.depth - 1 = r.depth
   rw [takeOne_depth]; omega
  ·intro hb
   have := (sees_lt hs).2
   simp only at hb this
   rw [this] at hb; cases hb
 ·exact ⟨Nat.le_refl _, h.le, Nat.le_refl _, rfl, fun _ => rfl⟩
theorem add_adv {t : List UInt8} {x y z : RP} (h : Adv t x y) (k : Adv t (y.1, x.2) z) (p : Pt) (hp : x.1.pos + 1 ≤ y.1.pos) (he : y.2 = x.2) : Adv t x (z.1, z.2 ++ [p]) := by
 refine ⟨Nat.le_trans h.pos k.pos, k.le, ?_, k.depth.trans h.depth, fun e => k.bad (h.bad e)⟩
 have := k.len
 simp only [List.length_append, List.length_cons, List.length_nil] at this ⊢
 omega
theorem unitU_adv {t : List UInt8} {n : Nat} {cmp : RP → RP} (hc : CmpAdv t n cmp) {x : RP} (h : Fit t (n + 1) x) : Adv t x (unitU t cmp x) := by
 obtain ⟨r, l⟩ := x
 have k := minusF_adv (l := l) (t.length + 1) r h.le
 have k0 := minusF_adv (l := []) (t.length + 1) r h.le
 unfold unitU
 simp only
 generalize minusF t (t.length + 1) r = m at *
 have km : Adv t (r, l) (m.1, l) := ⟨k.pos, k.le, by have := k.pos; simp only at this ⊢; omega, k.depth, k.bad⟩
 have q := plainU_adv hc (km.fit h)
 generalize plainU t cmp (m.1, l) = y at *
 refine ⟨Nat.le_trans k.pos q.pos, q.le, ?_, q.depth.trans k.depth, fun e => q.bad (k.bad e)⟩
 have a := k.len
 have c := q.len
 simp only [List.length_append, negs, List.length_replicate] at a c ⊢
 omega
theorem oper_cases (t : List UInt8) (r : Rd) (a b : UInt8) (p q : Int) (hp : p ≠ 0) (hq : q ≠ 0) :
  (r.oper t a p b q = (r, 0)) ∨ ((r.oper t a p b q).2 ≠ 0 ∧ r.pos + 1 ≤ (r.oper t a p b q).1.pos ∧ (r.oper t a p b q).1.depth = r.depth ∧ (r.oper t a p b q).1.bad = false ∧ (r.oper t a p b q).1.pos ≤ t.length ∧ r.bad = false) := by
 unfold Rd.oper
 split
 ·rename_i h; exact .inr ⟨hp, takeOne_gt h, takeOne_depth .., takeOne_good h, takeOne_pos (Nat.le_of_lt (sees_lt h).1), (sees_lt h).2⟩
 split
 ·rename_i h; exact .inr ⟨hq, takeOne_gt h, takeOne_depth .., takeOne_good h, takeOne_pos (Nat.le_of_lt (sees_lt h).1), (sees_lt h).2⟩
 ·exact .inl rfl
theorem prodOper_cases (t : List UInt8) (r : Rd) :
  (r.prodOper t = (r, 0)) ∨ ((r.prodOper t).2 ≠ 0 ∧ r.pos + 1 ≤ (r.prodOper t).1.pos ∧ (r.prodOper t).1.depth = r.depth ∧ (r.prodOper t).1.bad = false ∧ (r.prodOper t).1.pos ≤ t.length ∧ r.bad = false) := by
 unfold Rd.prodOper
 split
 ·rename_i h; exact .inr ⟨by simp, takeOne_gt h, takeOne_depth .., takeOne_good h, takeOne_pos (Nat.le_of_lt (sees_lt h).1), (sees_lt h).2⟩
 ·exact oper_cases t r 42 47 6 7 (by decide) (by decide)
theorem op_adv {t : List UInt8} {r r' : Rd} {l : List Pt} (h : r.pos + 1 ≤ r'.pos ∧ r'.depth = r.depth ∧ r'.bad = false ∧ r'.pos ≤ t.length ∧ r.bad = false) : Adv t (r, l) (r', l) :=
 ⟨by simp only; omega, h.2.2.2.1, by simp only; omega, h.2.1, fun e => by simp only at e; rw [h.2.2.2.2] at e; cases e⟩
theorem prodL_adv {t : List UInt8} {n : Nat} {cmp : RP → RP} (hc : CmpAdv t n cmp) : ∀ (k : Nat) (x : RP), Fit t (n + 1) x → Adv t x (prodL t cmp k x)
 | 0, x, h => adv_refl h.le
 | k + 1, x, h => by
  obtain ⟨r, l⟩ := x
  unfold prodL
  simp only
  rcases prodOper_cases t r with e | ⟨e0, e1⟩
  ·rw [e]; exact adv_refl h.le
  ·rw [if_neg e0]
   have a := op_adv (l := l) e1
   have b := unitU_adv hc (a.fit h)
   have c := add_adv a b ⟨(r.prodOper t).2, 0⟩ e1.1 rfl
   exact c.trans (prodL_adv hc k _ (c.fit h))
theorem prodU_adv {t : List UInt8} {n : Nat} {cmp : RP → RP} (hc : CmpAdv t n cmp) {x : RP} (h : Fit t (n + 1) x) : Adv t x (prodU t cmp x) := by
 have a := unitU_adv hc h
 exact a.trans (prodL_adv hc _ _ (a.fit h))
theorem sumL_adv {t : List UInt8} {n : Nat} {cmp : RP → RP} (hc : CmpAdv t n cmp) : ∀ (k : Nat) (x : RP), Fit t (n + 1) x → Adv t x (sumL t cmp k x)
 | 0, x, h => adv_refl h.le
 | k + 1, x, h => by
  obtain ⟨r, l⟩ := x
  unfold sumL
  simp only
  rcases oper_cases t r 43 45 4 5 (by decide) (by decide) with e | ⟨e0, e1⟩
  ·rw [e]; exact adv_refl h.le
  ·rw [if_neg e0]
   have a := op_adv (l := l) e1
   have b := prodU_adv hc (a.fit h)
   have c := add_adv a b ⟨(r.oper t 43 4 45 5).2, 0⟩ e1.1 rfl
   exact c.trans (sumL_adv hc k _ (c.fit h))
theorem sumU_adv {t : List UInt8} {n : Nat} {cmp : RP → RP} (hc : CmpAdv t n cmp) {x : RP} (h : Fit t (n + 1) x) : Adv t x (sumU t cmp x) := by
 have a := prodU_adv hc h
 exact a.trans (sumL_adv hc _ _ (a.fit h))
theorem cmpU_adv {t : List UInt8} {n : Nat} {cmp : RP → RP} (hc : CmpAdv t n cmp) {x : RP} (h : Fit t (n + 1) x) : Adv t x (cmpU t cmp x) := by
 have a := sumU_adv hc h
 unfold cmpU
 simp only
 generalize sumU t cmp x = y at *
 rcases oper_cases t y.1 60 61 9 10 (by decide) (by decide) with e | ⟨e0, e1⟩
 ·rw [e]; exact a
 ·rw [if_neg e0]
  have a1 := op_adv (l := y.2) e1
  have b := sumU_adv hc (a1.fit (a.fit h))
  exact a.trans (add_adv a1 b ⟨_, 0⟩ e1.1 rfl)
theorem cmpF_adv (t : List UInt8) : ∀ n, CmpAdv t n (cmpF t n)
 | 0 => fun x h => by have := h.fuel; have := h.d9; omega
 | n + 1 => fun x h => cmpU_adv (cmpF_adv t n) h
end Go.Proofs.YtdgmoiflahoihaaGreatDoor
namespace Go.Proofs.YtdgmoiflahoihaaGreatDoor
open Go.RowKit
set_option linter.unusedSimpArgs false
set_option linter.unusedVariables false
theorem lift_ex {F : Nat} {args : Array Value} {v : Ending} {base b : Nat} {s : ByteArray} {r r' : Rd} {l : List Pt} {w : World} (h : ExAt w base b s r l)
  (hc : ∀ pv, ReaderAt w b s r pv → Calls Tryz.prog F args w fun e w' => e = v ∧ ReaderAt w' b s r' pv ∧ But b w w') :
  Calls Tryz.prog F args w fun e w' => e = v ∧ ExAt w' base b s r' l ∧ Keep base b w w' := by
 obtain ⟨⟨pv, hr, ho⟩, hlt, hle⟩ := h
 refine (hc pv hr).mono ?_
 rintro e w' ⟨rfl, hr', hb⟩
 have hk := hb.keep hle
 exact ⟨rfl, ⟨⟨pv, hr', own_but ho hb hlt⟩, hlt, Nat.le_trans hle hk.size⟩, hk⟩
theorem ExAt.drewN {w : World} {base b : Nat} {s : ByteArray} {r : Rd} {l : List Pt} (h : ExAt w base b s r l) (n : Nat) : ExAt (w.drewN n) base b s r l := by
 obtain ⟨⟨pv, hr, ho⟩, hlt, hle⟩ := h
 exact ⟨⟨pv, hr.drewN n, ho⟩, hlt, hle⟩
theorem lift_see {F : Nat} {args : Array Value} {v : Ending} {base b : Nat} {s : ByteArray} {r : Rd} {l : List Pt} {w : World} (h : ExAt w base b s r l)
  (hc : ∀ pv, ReaderAt w b s r pv → Calls Tryz.prog F args w fun e w' => e = v ∧ ∃ n, w' = w.drewN n) :
  Calls Tryz.prog F args w fun e w' => e = v ∧ ExAt w' base b s r l ∧ Keep base b w w' := by
 obtain ⟨⟨pv, hr, ho⟩, hlt, hle⟩ := id h
 refine (hc pv hr).mono ?_
 rintro e w' ⟨rfl, n, rfl⟩
 exact ⟨rfl, h.drewN n, (Keep.refl _ _ _).drewN n⟩
section
variable {base b : Nat} {s : ByteArray} {r : Rd} {l : List Pt} {w : World}
theorem sees_ex (c : UInt8) (h : ExAt w base b s r l) (hs : s.size ≤ 400) (hp : r.pos ≤ s.data.toList.length) :
  Calls Tryz.prog 117 #[.pointer (some ⟨b, 0, none⟩), .int .u8 c.toNat] w fun e w' => e = .returned (.bool (r.seesOne s.data.toList c c)) ∧ ExAt w' base b s r l ∧ Keep base b w w' :=
 lift_see h fun pv hr => sees_any b s r pv c w hr hs (by simpa using hp)
theorem seesOne_ex (c d : UInt8) (h : ExAt w base b s r l) (hs : s.size ≤ 400) (hp : r.pos ≤ s.data.toList.length) :
  Calls Tryz.prog 155 #[.pointer (some ⟨b, 0, none⟩), .int .u8 c.toNat, .int .u8 d.toNat] w fun e w' => e = .returned (.bool (r.seesOne s.data.toList c d)) ∧ ExAt w' base b s r l ∧ Keep base b w w' :=
 lift_see h fun pv hr => seesOne_any b s r pv c d w hr hs (by simpa using hp)
theorem take_ex (c : UInt8) (h : ExAt w base b s r l) (hs : s.size ≤ 400) (hp : r.pos ≤ s.data.toList.length) :
  Calls Tryz.prog 156 #[.pointer (some ⟨b, 0, none⟩), .int .u8 c.toNat] w fun e w' => e = .returned (.tuple #[]) ∧ ExAt w' base b s (r.takeOne s.data.toList c c).1 l ∧ Keep base b w w' :=
 lift_ex h fun pv hr => take_any b s r pv c w hr hs (by simpa using hp)
theorem takeName_ex (h : ExAt w base b s r l) (hs : s.size ≤ 400) (hp : r.pos ≤ s.data.toList.length) :
  Calls Tryz.prog 157 #[.pointer (some ⟨b, 0, none⟩)] w fun e w' => e = .returned (.int .i64 (r.takeOne s.data.toList 97 122).2) ∧ ExAt w' base b s (r.takeOne s.data.toList 97 122).1 l ∧ Keep base b w w' :=
 lift_ex h fun pv hr => takeName_any b s r pv w hr hs (by simpa using hp)
theorem fail_ex (h : ExAt w base b s r l) :
  Calls Tryz.prog 164 #[.pointer (some ⟨b, 0, none⟩)] w fun e w' => e = .returned (.tuple #[]) ∧ ExAt w' base b s { r with bad := true } l ∧ Keep base b w w' :=
 lift_ex h fun pv hr => fail_any b s r pv w hr
theorem opening_ex (c : UInt8) (h : ExAt w base b s r l) (hs : s.size ≤ 400) (hp : r.pos ≤ s.data.toList.length) (hd : -1000 ≤ r.depth) (hd2 : r.depth ≤ 1000) :
  Calls Tryz.prog 182 #[.pointer (some ⟨b, 0, none⟩), .int .u8 c.toNat] w fun e w' => e = .returned (.tuple #[]) ∧ ExAt w' base b s (r.opening s.data.toList c) l ∧ Keep base b w w' :=
 lift_ex h fun pv hr => opening_any b s r pv c w hr hs (by simpa using hp) hd hd2
theorem closing_ex (c : UInt8) (h : ExAt w base b s r l) (hs : s.size ≤ 400) (hp : r.pos ≤ s.data.toList.length) (hd : -1000 ≤ r.depth) (hd2 : r.depth ≤ 1000) :
  Calls Tryz.prog 183 #[.pointer (some ⟨b, 0, none⟩), .int .u8 c.toNat] w fun e w' => e = .returned (.tuple #[]) ∧ ExAt w' base b s (r.closing s.data.toList c) l ∧ Keep base b w w' :=
 lift_ex h fun pv hr => closing_any b s r pv c w hr hs (by simpa using hp) hd hd2
theorem number_ex (h : ExAt w base b s r l) (hs : s.size ≤ 400) (hp : r.pos ≤ s.data.toList.length) :
  Calls Tryz.prog 217 #[.pointer (some ⟨b, 0, none⟩)] w fun e w' => e = .returned (.int .i64 (r.number s.data.toList).2) ∧ ExAt w' base b s (r.number s.data.toList).1 l ∧ Keep base b w w' :=
 lift_ex h fun pv hr => number_rd b s r pv w hr hs (by simpa using hp)
theorem oper_ex (b1 b2 : UInt8) (op1 op2 : Int) (h : ExAt w base b s r l) (hs : s.size ≤ 400) (hp : r.pos ≤ s.data.toList.length) :
  Calls Tryz.prog 209 #[.pointer (some ⟨b, 0, none⟩), .int .u8 b1.toNat, .int .i64 op1, .int .u8 b2.toNat, .int .i64 op2] w fun e w' => e = .returned (.int .i64 (r.oper s.data.toList b1 op1 b2 op2).2) ∧ ExAt w' base b s (r.oper s.data.toList b1 op1 b2 op2).1 l ∧ Keep base b w w' :=
 lift_ex h fun pv hr => oper_any b s r pv b1 b2 op1 op2 w hr hs (by simpa using hp)
theorem prodOper_ex (h : ExAt w base b s r l) (hs : s.size ≤ 400) (hp : r.pos ≤ s.data.toList.length) :
  Calls Tryz.prog 215 #[.pointer (some ⟨b, 0, none⟩)] w fun e w' => e = .returned (.int .i64 (r.prodOper s.data.toList).2) ∧ ExAt w' base b s (r.prodOper s.data.toList).1 l ∧ Keep base b w w' :=
 lift_ex h fun pv hr => prodOper_any b s r pv w hr hs (by simpa using hp)
end
def CmpCalls (s : ByteArray) (n : Nat) (cmp : RP → RP) : Prop := ∀ (base b : Nat) (x : RP) (w : World), ExAt w base b s x.1 x.2 → Fit s.data.toList n x →
 Calls Tryz.prog 201 #[.pointer (some ⟨b, 0, none⟩)] w fun e w' => e = .returned (.tuple #[]) ∧ ExAt w' base b s (cmp x).1 (cmp x).2 ∧ Keep base b w w'
set_option maxHeartbeats 1000000 in
theorem plainUnit_any (s : ByteArray) (n : Nat) (cmp : RP → RP) (hc : CmpCalls s n cmp) (ha : CmpAdv s.data.toList n cmp) (hs : s.size ≤ 400) (base b : Nat) (x : RP) (w : World) (h : ExAt w base b s x.1 x.2) (hf : Fit s.data.toList (n + 1) x) :
  Calls Tryz.prog 216 #[.pointer (some ⟨b, 0, none⟩)] w fun e w' => e = .returned (.tuple #[]) ∧ ExAt w' base b s (plainU s.data.toList cmp x).1 (plainU s.data.toList cmp x).2 ∧ Keep base b w w' := by
 obtain ⟨r, l⟩ := x
 have hp : r.pos ≤ s.data.toList.length := hf.le
 have hln : l.length ≤ r.pos := hf.len
 have hll : l.length ≤ 1000 := by
  have : s.data.toList.length = s.size := by simp
  omega
 have HH : Hid (ExAt w base b s r l) := h
 have HF : Hid (Fit s.data.toList (n + 1) (r, l)) := hf
 have HC : Hid (CmpCalls s n cmp) := hc
 have HA : Hid (CmpAdv s.data.toList n cmp) := ha
 have HL : Hid (l.length ≤ 1000) := hll
 clear h hf hc ha hln hll
 unfold plainU
 simp only
 cases h1 : r.seesOne s.data.toList 48 57
 ·cases h2 : r.seesOne s.data.toList 97 122
  ·cases h3 : r.seesOne s.data.toList 40 40
   ·simp only [Bool.false_eq_true, if_false]
    go_enter Tryz.func216, Tryz.ntmps216
    go_wp2_with fail
    refine (seesOne_ex 48 57 HH.out hs hp).mono ?_
    rw [h1]
    rintro e w1 ⟨rfl, hr1, hk1⟩
    go_wp2_with fail
    refine (seesOne_ex 97 122 hr1 hs hp).mono ?_
    rw [h2]
    rintro e w2 ⟨rfl, hr2, hk2⟩
    go_wp2_with fail
    refine (sees_ex 40 hr2 hs hp).mono ?_
    rw [h3]
    rintro e w3 ⟨rfl, hr3, hk3⟩
    go_wp2_with fail
    refine (fail_ex hr3).mono ?_
    rintro e w4 ⟨rfl, hr4, hk4⟩
    go_wp2_with fail
    go_end0
    exact ⟨rfl, hr4, ((hk1.trans hk2).trans hk3).trans hk4⟩
   ·simp only [Bool.false_eq_true, if_false, if_true]
    obtain ⟨f1, hd1, hps1⟩ := opening_fit HF.out h3
    have k1 := HA.out _ f1
    have d0 := HF.out.d0
    have d9 := HF.out.d9
    simp only at d0 d9
    have F1 : Hid (Fit s.data.toList n (r.opening s.data.toList 40, l)) := f1
    have kp := k1.le
    have kd := k1.depth
    simp only at kp kd
    generalize hz : cmp (r.opening s.data.toList 40, l) = z at *
    have HZ : Hid (cmp (r.opening s.data.toList 40, l) = z) := hz
    clear hz f1 k1
    go_enter Tryz.func216, Tryz.ntmps216
    go_wp2_with fail
    refine (seesOne_ex 48 57 HH.out hs hp).mono ?_
    rw [h1]
    rintro e w1 ⟨rfl, hr1, hk1⟩
    go_wp2_with fail
    refine (seesOne_ex 97 122 hr1 hs hp).mono ?_
    rw [h2]
    rintro e w2 ⟨rfl, hr2, hk2⟩
    go_wp2_with fail
    refine (sees_ex 40 hr2 hs hp).mono ?_
    rw [h3]
    rintro e w3 ⟨rfl, hr3, hk3⟩
    go_wp2_with fail
    refine (opening_ex 40 hr3 hs hp (by omega) (by omega)).mono ?_
    rintro e w4 ⟨rfl, hr4, hk4⟩
    go_wp2_with fail
    refine (HC.out base b (r.opening s.data.toList 40, l) _ hr4 F1.out).mono ?_
    rw [HZ.out]
    rintro e w5 ⟨rfl, hr5, hk5⟩
    go_wp2_with fail
    refine (closing_ex 41 hr5 hs kp (by omega) (by omega)).mono ?_
    rintro e w6 ⟨rfl, hr6, hk6⟩
    go_wp2_with fail
    go_end0
    exact ⟨rfl, hr6, ((((hk1.trans hk2).trans hk3).trans hk4).trans hk5).trans hk6⟩
  ·simp only [Bool.false_eq_true, if_false, if_true]
   go_enter Tryz.func216, Tryz.ntmps216
   go_wp2_with fail
   refine (seesOne_ex 48 57 HH.out hs hp).mono ?_
   rw [h1]
   rintro e w1 ⟨rfl, hr1, hk1⟩
   go_wp2_with fail
   refine (seesOne_ex 97 122 hr1 hs hp).mono ?_
   rw [h2]
   rintro e w2 ⟨rfl, hr2, hk2⟩
   go_wp2_with fail
   refine (takeName_ex hr2 hs hp).mono ?_
   rintro e w3 ⟨rfl, hr3, hk3⟩
   go_wp2_with fail
   refine (addPart_any base b s _ l 2 _ _ hr3 HL.out).mono ?_
   rintro e w4 ⟨rfl, hr4, hk4⟩
   go_wp2_with fail
   go_end0
   exact ⟨rfl, hr4, ((hk1.trans hk2).trans hk3).trans hk4⟩
 ·simp only [if_true]
  go_enter Tryz.func216, Tryz.ntmps216
  go_wp2_with fail
  refine (seesOne_ex 48 57 HH.out hs hp).mono ?_
  rw [h1]
  rintro e w1 ⟨rfl, hr1, hk1⟩
  go_wp2_with fail
  refine (number_ex hr1 hs hp).mono ?_
  rintro e w2 ⟨rfl, hr2, hk2⟩
  go_wp2_with fail
  refine (addPart_any base b s _ l 1 _ _ hr2 HL.out).mono ?_
  rintro e w3 ⟨rfl, hr3, hk3⟩
  go_wp2_with fail
  go_end0
  exact ⟨rfl, hr3, (hk1.trans hk2).trans hk3⟩
end Go.Proofs.YtdgmoiflahoihaaGreatDoor
