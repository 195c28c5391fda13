import Derived.Test.YtdgmoiflahoihaaGreatDoorRVw
import Derived.Test.YtdgmoiflahoihaaGreatDoorKText2w
import Derived.Deep.RegionLaw
import Derived.Lib.SmallJoins
import Derived.Lib.OwnKind
import Derived.Deep.Cut
import Derived.Deep.CutRange

namespace Go.Proofs.YtdgmoiflahoihaaGreatDoor
open Go.RowKit
set_option linter.unusedSimpArgs false
set_option linter.unusedVariables false
def vl0 : Vl := ⟨0, 0⟩
def vlCell (v : Vl) : List Value := [.int .i64 v.num, .int .i64 v.fault]
def vlCells (l : List Vl) : List Value := l.flatMap vlCell
theorem vlCells_len (l : List Vl) : (vlCells l).length = l.length * 2 := by
 induction l with
 | nil => rfl
 | cons p r ih => simp only [vlCells, List.flatMap_cons, List.length_append] at ih ⊢; rw [ih]; simp [vlCell]; omega
theorem vlCells_app (l r : List Vl) : vlCells (l ++ r) = vlCells l ++ vlCells r := by simp [vlCells]
theorem vlCells_at (l : List Vl) : ∀ (i : Nat) (h : i < l.length), (vlCells l)[i * 2]? = some (.int .i64 l[i].num) ∧ (vlCells l)[i * 2 + 1]? = some (.int .i64 l[i].fault) := by
 induction l with
 | nil => intro i h; cases h
 | cons p r ih =>
  intro i h
  cases i with
  | zero => simp [vlCells, vlCell]
  | succ i =>
   have := ih i (by simpa using h)
   simp only [vlCells, List.flatMap_cons, vlCell] at this ⊢
   rw [show (i + 1) * 2 = i * 2 + 2 by omega, show i * 2 + 2 + 1 = (i * 2 + 1) + 2 by omega]
   simpa using this
def topV (st : List Vl) : Vl := st.getLast?.getD vl0
def takeV (names : List Vl) (p : Pt) (st : List Vl) : Vl × List Vl :=
 if p.op = 1 then (⟨p.num, 0⟩, st)
 else if p.op = 2 then (names.getD p.num.toNat vl0, st)
 else if p.op = 3 then (negV (topV st), st.dropLast)
 else (opV p.op (topV st.dropLast) (topV st), st.dropLast.dropLast)
def pileV (names : List Vl) : List Pt → List Vl → List Vl
 | [], st => st
 | p :: r, st => pileV names r ((takeV names p st).2 ++ [(takeV names p st).1])
def valueV (names : List Vl) (l : List Pt) : Vl := topV (pileV names l [])
theorem vl0_ok : VlOk vl0 := ⟨by simp [vl0], by simp [vl0], by simp [vl0]⟩
theorem topV_ok {st : List Vl} (h : ∀ v ∈ st, VlOk v) : VlOk (topV st) := by
 unfold topV
 cases e : st.getLast? with
 | none => exact vl0_ok
 | some v => exact h v (List.mem_of_getLast? e)
theorem dropLast_ok {st : List Vl} (h : ∀ v ∈ st, VlOk v) : ∀ v ∈ st.dropLast, VlOk v := fun v hv => h v (List.dropLast_subset _ hv)
theorem getD_ok {names : List Vl} (h : ∀ v ∈ names, VlOk v) (i : Nat) : VlOk (names.getD i vl0) := by
 rw [List.getD_eq_getElem?_getD]
 cases e : names[i]? with
 | none => exact vl0_ok
 | some v => exact h v (List.mem_of_getElem? e)
def PtNum (p : Pt) : Prop := -9223372036854775808 ≤ p.num ∧ p.num ≤ 9223372036854775807
theorem takeV_ok {names st : List Vl} {p : Pt} (hn : ∀ v ∈ names, VlOk v) (hs : ∀ v ∈ st, VlOk v) (hp : PtNum p) : VlOk (takeV names p st).1 ∧ ∀ v ∈ (takeV names p st).2, VlOk v := by
 unfold takeV
 split
 ·exact ⟨⟨hp, by simp, by simp⟩, hs⟩
 split
 ·exact ⟨getD_ok hn _, hs⟩
 split
 ·exact ⟨negV_ok (topV_ok hs), dropLast_ok hs⟩
 ·exact ⟨opV_ok _ (topV_ok (dropLast_ok hs)) (topV_ok hs), dropLast_ok (dropLast_ok hs)⟩
theorem takeV_len (names st : List Vl) (p : Pt) : (takeV names p st).2.length ≤ st.length := by
 unfold takeV
 split
 ·exact Nat.le_refl _
 split
 ·exact Nat.le_refl _
 split
 ·simp
 ·simp; omega
theorem pileV_ok {names : List Vl} (hn : ∀ v ∈ names, VlOk v) : ∀ (l : List Pt) (st : List Vl), (∀ p ∈ l, PtNum p) → (∀ v ∈ st, VlOk v) → ∀ v ∈ pileV names l st, VlOk v
 | [], st, _, hs => hs
 | p :: r, st, hl, hs => by
  have k := takeV_ok (names := names) hn hs (hl p (by simp))
  refine pileV_ok hn r _ (fun q hq => hl q (by simp [hq])) ?_
  intro v hv
  rcases List.mem_append.mp hv with h | h
  ·exact k.2 v h
  ·simp at h; rw [h]; exact k.1
theorem valueV_ok {names : List Vl} (hn : ∀ v ∈ names, VlOk v) {l : List Pt} (hl : ∀ p ∈ l, PtNum p) : VlOk (valueV names l) :=
 topV_ok (pileV_ok hn l [] hl (by simp))
end Go.Proofs.YtdgmoiflahoihaaGreatDoor
namespace Go.Proofs.YtdgmoiflahoihaaGreatDoor
open Go.RowKit
set_option linter.unusedSimpArgs false
set_option linter.unusedVariables false
theorem rv_append {P : Program} {ops : Array Oper} {o : Oper} {a : Act} {w : World} {K : Act → World → Prop} {Q : Exit → Act → World → Prop} {E : Prop}
  (hg : o.guard = none) (s x : Operand) (t : TypeId) (hop : o.op = Op.call { callee := Callee.builtin Builtin.append, args := #[s, x], argTypes := #[t, t] })
  (base : Nat) (e : TypeId) (i : TypeInfo) (z : Value) (size bytes : Nat) (h1 : P.underlying t = some (.slice e)) (h2 : P.info? e = some i) (h3 : i.zero = some z) (h4 : i.size = size) (h5 : i.bytes = bytes) (h6 : z.cells.size = size) (h7 : 0 < size)
  (v : Value) (n : Nat) (xs : List Value) (hs : a.eval s = v) (hown : w.ownsRow base e size v n xs)
  (ad : Addr) (m c : Nat) (news : List Value) (hx : a.eval x = .slice (some ad) m c) (hn : news.length = m * size) (hc : ∀ j u, news[j]? = some u → w.cell? (ad.add j) = some u) (h1c : ∀ u ∈ news, u.oneCell' = true)
  (b1 : n + m ≤ maxLen) (b2 : (n + m) * bytes ≤ 140737488355328) (hbase : base ≤ w.heap.size)
  (hK : ∀ v' w', w'.ownsRow base e size v' (n + m) (xs ++ news) → w.grownBy w' v.ownBlock → K (a.put o.dst v') w') :
  if Region.wanted o (yielded ops a.tmps) = true then Oper.wp P o a w K Q else E := by
 have hw : Region.wanted o (yielded ops a.tmps) = true := by simp [Region.wanted, hg]
 rw [if_pos hw]
 obtain ⟨v', w', hrun, r1, r2, _⟩ := run_append_own (P := P) w base t o.type e i z size bytes h1 h2 h3 h4 h5 h6 h7 v n xs hown ad m c news hn hc h1c b1 b2 hbase
 unfold Oper.wp
 simp [execOp, hop, resolve, invoke, builtin, hs, hx, hrun, Result.andThen]
 exact hK v' w' r1 r2
theorem infoValue : (Tryz.prog.info? 59).map (fun i => (i.zero, i.size, i.bytes)) = some (some (.agg #[.int .i64 0, .int .i64 0]), 2, 16) := by kernel_rfl
theorem ownsRow_short {w : World} {base g size n m cap : Nat} {e : TypeId} {xs : List Value} (h : w.ownsRow base e size (.slice (some ⟨g, 0, none⟩) n cap) n xs) (hm : m ≤ n) :
  w.ownsRow base e size (.slice (some ⟨g, 0, none⟩) m cap) m (xs.take (m * size)) := by
 have hle : m * size ≤ n * size := Nat.mul_le_mul_right _ hm
 obtain ⟨h1, h2⟩ := h
 refine ⟨by rw [List.length_take, h1]; omega, ?_⟩
 rcases h2 with ⟨h0, _⟩ | ⟨g', cap', cur, hv, hb, hg, hn, hcm, hcs, ht⟩
 ·cases h0
 ·cases hv
  refine .inr ⟨g, cap, cur, rfl, hb, hg, by omega, hcm, hcs, ?_⟩
  rw [← ht, List.take_take, Nat.min_eq_left hle]
structure PileAt (w : World) (b : Nat) (S : Nat → Prop) (st : List Vl) : Prop where
 here : ∃ v, w.cell? ⟨b, 0, none⟩ = some v ∧ w.ownsRow (b + 1) 59 2 v st.length (vlCells st) ∧ ∀ k, v.ownBlock = some k → S k
 fz : ∀ o, w.frozen? ⟨b, o, none⟩ = false
theorem PileAt.lt {w : World} {b : Nat} {S : Nat → Prop} {st : List Vl} (h : PileAt w b S st) : b < w.heap.size := by
 obtain ⟨v, c, _⟩ := h.here
 exact World.block_lt_of_cell? w _ c
theorem PileAt.weak {w : World} {b : Nat} {S R : Nat → Prop} {st : List Vl} (h : PileAt w b S st) (hs : ∀ k, S k → k < w.heap.size → R k) : PileAt w b R st := by
 obtain ⟨⟨v, c, ho, hS⟩, fz⟩ := h
 exact ⟨⟨v, c, ho, fun k hk => hs k (hS k hk) (ho.lt k hk).2⟩, fz⟩
theorem own_low {w w' : World} {base size n B : Nat} {e : TypeId} {v : Value} {xs : List Value} (h : w.ownsRow base e size v n xs) (hb : Below B w w') (hB : w.heap.size ≤ B) : w'.ownsRow base e size v n xs :=
 own_same h fun k hk hl => hb.block k (by omega)
theorem PileAt.keep {w w' : World} {b B : Nat} {S : Nat → Prop} {st : List Vl} (h : PileAt w b S st) (hb : Below B w w') (hB : w.heap.size ≤ B) : PileAt w' b S st := by
 have hlt := h.lt
 obtain ⟨⟨v, c, ho, hS⟩, fz⟩ := h
 exact ⟨⟨v, (hb.cell (p := ⟨b, 0, none⟩) (by simp only; omega)).trans c, own_low ho hb hB, hS⟩, fun o => (hb.frozen (p := ⟨b, o, none⟩) (by simp only; omega)).trans (fz o)⟩
theorem PileAt.alloc {w : World} {b : Nat} {S : Nat → Prop} {st : List Vl} (h : PileAt w b S st) (o : Obj) : PileAt (w.alloc o) b S st :=
 h.keep ((Below.refl w.heap.size w).alloc (Nat.le_refl _) o) (Nat.le_refl _)
theorem PileAt.setCell {w : World} {b : Nat} {S : Nat → Prop} {st : List Vl} (h : PileAt w b S st) {a : Addr} (ha : a.block ≠ b) (hr : ¬ S a.block) (u : Value) : PileAt (w.setCell a u) b S st := by
 obtain ⟨⟨v, c, ho, hS⟩, fz⟩ := h
 refine ⟨⟨v, ?_, own_same ho fun k hk hl => Below.heap_setCell _ _ _ _ (fun e => hr (e ▸ hS k hk)), hS⟩, fun o => ?_⟩
 ·exact (World.cell?_of_block (w := w) (a := ⟨b, 0, none⟩) (Below.heap_setCell _ _ _ _ (fun e => ha e.symm))).trans c
 ·exact (World.frozen?_of_block (w := w) (a := ⟨b, o, none⟩) (Below.heap_setCell _ _ _ _ (fun e => ha e.symm))).trans (fz o)
theorem but_of_below {w w' : World} {b : Nat} (h : Below w.heap.size w w') : But b w w' := ⟨h.os, h.tape, h.output, h.size, fun k hk _ => h.block k hk⟩
theorem but_below {w w' : World} {b : Nat} (h : But b w w') (hb : b < w.heap.size) : Below b w w' :=
 ⟨h.os, h.tape, h.output, h.size, fun k hk => h.block k (by omega) (fun e => by have := Option.some.inj e; omega)⟩
theorem but_pop (w : World) (b : Nat) (u : Value) (o1 o2 : Obj) : But b w (((w.setCell ⟨b, 0, none⟩ u).alloc o1).alloc o2) := by
 refine ⟨rfl, rfl, rfl, by simp; omega, fun k hk hne => ?_⟩
 have hs : (w.setCell ⟨b, 0, none⟩ u).heap.size = w.heap.size := by simp
 rw [Below.heap_alloc _ _ _ (by simp; omega), Below.heap_alloc _ _ _ (by omega), Below.heap_setCell _ _ _ _ (fun e => hne (by rw [e]))]
theorem vl_new (w : World) (o : Obj) (x : Vl) (t : TypeId) : ∀ j u, (vlCell x)[j]? = some u → ((w.alloc o).alloc (.cells #[.int .i64 x.num, .int .i64 x.fault] t)).drew.cell? ((⟨w.heap.size + 1, 0, none⟩ : Addr).add j) = some u := by
 intro j u h
 have k := two_new (w.alloc o) (.int .i64 x.num) (.int .i64 x.fault) t j u h
 rw [show (w.alloc o).heap.size = w.heap.size + 1 by simp] at k
 exact k
theorem pile_grown {w w2 : World} {b : Nat} {st : List Vl} {v : Value} {o1 o2 : Obj} (hc : w.cell? ⟨b, 0, none⟩ = some v) (fz : ∀ o, w.frozen? ⟨b, o, none⟩ = false) (ho : w.ownsRow (b + 1) 59 2 v st.length (vlCells st)) (hg : ((w.alloc o1).alloc o2).drew.grownBy w2 v.ownBlock) :
  w2.cell? ⟨b, 0, none⟩ = some v ∧ (∀ o, w2.frozen? ⟨b, o, none⟩ = false) ∧ Below b w w2 := by
 have hlt := World.block_lt_of_cell? w _ hc
 simp only at hlt
 have h0 : Below w.heap.size w ((w.alloc o1).alloc o2).drew := (((Below.refl _ _).alloc (Nat.le_refl _) _).alloc (by simp) _).drew
 have hne : some b ≠ v.ownBlock := by
  intro e
  have := (ho.lt b e.symm).1
  omega
 have hsz : ((w.alloc o1).alloc o2).drew.heap.size = w.heap.size + 1 + 1 := by simp
 have hbk : w2.heap[b]? = w.heap[b]? := (hg.block b (by omega) hne).trans (h0.block b (by omega))
 refine ⟨(World.cell?_of_block (w := w) (a := ⟨b, 0, none⟩) hbk).trans hc, fun o => (World.frozen?_of_block (w := w) (a := ⟨b, o, none⟩) hbk).trans (fz o), (h0.mono (by omega)).trans ?_⟩
 exact ⟨hg.os, hg.tape, hg.output, hg.size, fun k hk => hg.block k (by omega) (fun e => by have := (ho.lt k e.symm).1; omega)⟩
theorem pile_set {w2 : World} {b : Nat} {st : List Vl} {x : Vl} {v v' : Value} (hc : w2.cell? ⟨b, 0, none⟩ = some v) (fz : ∀ o, w2.frozen? ⟨b, o, none⟩ = false) (ho : w2.ownsRow (b + 1) 59 2 v' (st.length + 1) (vlCells st ++ vlCell x)) : PileAt (w2.setCell ⟨b, 0, none⟩ v') b (fun _ => True) (st ++ [x]) := by
 refine ⟨⟨v', by simp [go_sem, hc], ?_, fun _ _ => trivial⟩, fun o => by simp [go_sem, fz]⟩
 have := ownsRow_setCell_below ho (a := ⟨b, 0, none⟩) (by simp) v'
 rw [vlCells_app]
 simpa [vlCells] using this
set_option maxHeartbeats 1000000 in
theorem pilePush_any (b : Nat) (st : List Vl) (x : Vl) (w : World) {S : Nat → Prop} (h : PileAt w b S st) (hl : st.length ≤ 100000) :
  Calls Tryz.prog 176 #[.pointer (some ⟨b, 0, none⟩), vlV x] w fun e w' => e = .returned (.tuple #[]) ∧ PileAt w' b (fun _ => True) (st ++ [x]) ∧ Below b w w' := by
 have hlt := h.lt
 obtain ⟨⟨v, hc, ho, _⟩, fz⟩ := h
 obtain ⟨iV, hiV, hzV, hsV, hbV⟩ := parts_of_info infoValue
 go_enter Tryz.func176, Tryz.ntmps176
 go_upto_region 1 with fail
 go_region_law (refine rv_append rfl (.tmp 8) (.tmp 10) 162 rfl (b + 1) 59 iV (.agg #[.int .i64 0, .int .i64 0]) 2 16 Tryz.underlying162 hiV hzV hsV hbV rfl (by decide) v st.length (vlCells st) (by simp [Act.eval, Act.put]) (by exact ((ho.alloc _).alloc _).drew) ⟨w.heap.size + 1, 0, none⟩ 1 1 (vlCell x) (by simp [Act.eval, Act.put]) rfl (vl_new w _ x _) (by intro q hq; simp [vlCell] at hq; rcases hq with rfl | rfl <;> rfl) (by unfold maxLen; omega) (by omega) (by simp; omega) ?_; intro v' w2 hown hgrow; have hk := pile_grown (v := v) hc fz ho hgrow; have q0 := hk.1; have q1 := hk.2.1; obtain ⟨g, cap, rfl⟩ := Joins.ownsRow_form hown (by omega))
 all_goals go_wp2_with fail
 all_goals go_end0
 all_goals exact ⟨rfl, pile_set hk.1 hk.2.1 hown, hk.2.2.setCell (Nat.le_refl _) _⟩
set_option maxHeartbeats 1000000 in
theorem pilePop_any (b : Nat) (st : List Vl) (w : World) (S : Nat → Prop) (h : PileAt w b S st) (hl : st.length ≤ 100000) :
  Calls Tryz.prog 177 #[.pointer (some ⟨b, 0, none⟩)] w fun e w' => e = .returned (vlV (topV st)) ∧ PileAt w' b S st.dropLast ∧ But b w w' := by
 have hlt := h.lt
 obtain ⟨⟨v, hc, ho, hS⟩, fz⟩ := h
 have HSS : Hid _ := hS
 clear hS
 rcases Nat.eq_zero_or_pos st.length with h0 | h0
 ·have hnil : st = [] := List.length_eq_zero_iff.mp h0
  subst hnil
  obtain ⟨ao, cap, hv⟩ : ∃ ao cap, v = .slice ao 0 cap := by
   rcases Joins.ownsRow_forms ho with ⟨rfl, _⟩ | ⟨g, cap, rfl⟩ <;> exact ⟨_, _, rfl⟩
  subst hv
  go_enter Tryz.func177, Tryz.ntmps177
  go_wp2_with (first | (go_at_call 100; refine (number_any _ _).mono ?_; rintro e w1 ⟨rfl, hb1⟩; obtain ⟨c0, c1, fz2, hb2⟩ := res_below hb1; have HB2 : Hid _ := hb2; clear hb1 hb2))
  refine bodyPost_ret (v := vlV ⟨0, 0⟩) (by simp [results, Tryz.results177, go_sem, c0, c1, fz2]) rfl ⟨rfl, ?_, but_of_below (res_set HB2.out _ _)⟩
  exact PileAt.keep ⟨⟨_, hc, ho, HSS.out⟩, fz⟩ (res_set HB2.out _ _) (Nat.le_refl _)
 ·obtain ⟨n, hn⟩ : ∃ n, st.length = n + 1 := ⟨st.length - 1, by omega⟩
  rw [hn] at ho
  obtain ⟨g, cap, hv⟩ := Joins.ownsRow_form ho (by omega)
  subst hv
  obtain ⟨d0, d1⟩ := vlCells_at st n (by omega)
  rw [← ho.cellAt (n * 2) (by omega)] at d0
  rw [← ho.cellAt (n * 2 + 1) (by omega)] at d1
  have htop : topV st = st[n] := by
   unfold topV
   rw [List.getLast?_eq_getElem?, List.getElem?_eq_getElem (by omega)]
   simp [hn]
  rw [htop]
  have hdl : st.dropLast.length = n := by simp [hn]
  have hshort := ownsRow_short (m := n) ho (by omega)
  have hcells : (vlCells st).take (n * 2) = vlCells st.dropLast := by
   have e1 : st = st.dropLast ++ [st[n]] := by
    have := List.dropLast_concat_getLast (l := st) (by intro e; rw [e] at hn; simp at hn)
    rw [List.getLast_eq_getElem] at this
    simp only [hn] at this
    exact this.symm
   have e2 : vlCells st = vlCells st.dropLast ++ vlCells [st[n]] := by rw [← vlCells_app, ← e1]
   rw [e2, List.take_append_of_le_length (by rw [vlCells_len, hdl]; omega), List.take_of_length_le (by rw [vlCells_len, hdl]; omega)]
  rw [hcells] at hshort
  generalize hx : st[n] = x at *
  have hgb := (ho.lt g rfl)
  have hcap : n + 1 ≤ cap := by
   rcases ho.2 with ⟨h0, _⟩ | ⟨g', cap', cur, hv, hb, hg, hnc, hcm, hcs, ht⟩
   ·cases h0
   ·cases hv; omega
  have HS : Hid _ := hshort
  clear hshort hcells htop
  go_enter Tryz.func177, Tryz.ntmps177
  go_wp2_with fail
  refine bodyPost_ret (v := vlV x) (by simp [results, Tryz.results177, go_sem]) rfl ⟨rfl, ?_, ?_⟩
  ·refine PileAt.alloc (PileAt.alloc ⟨⟨.slice (some ⟨g, 0, none⟩) n cap, by simp [go_sem, hc], ?_, fun k hk => HSS.out k hk⟩, fun o => by simp [go_sem, fz]⟩ _) _
   rw [hdl]
   exact ownsRow_setCell_below HS.out (a := ⟨b, 0, none⟩) (by simp) _
  ·exact but_pop w b _ _ _
def vlArr (l : List Vl) : Array Value := (vlCells l).toArray
theorem infoVals : (Tryz.prog.info? 102).map (fun i => i.size) = some 52 := by kernel_rfl
theorem vlArr_size {l : List Vl} (h : l.length = 26) : (vlArr l).size = 52 := by unfold vlArr; rw [List.size_toArray, vlCells_len, h]
structure NamesAt (w : World) (b : Nat) (l : List Vl) : Prop where
 here : w.heap[b]? = some (.cells (vlArr l) 102 (0, 0))
theorem NamesAt.lt {w : World} {b : Nat} {l : List Vl} (h : NamesAt w b l) : b < w.heap.size := (Array.getElem?_eq_some_iff.mp h.here).1
theorem NamesAt.keep {w w' : World} {b B : Nat} {l : List Vl} (h : NamesAt w b l) (hb : Below B w w') (hB : b < B) : NamesAt w' b l := ⟨(hb.block b hB).trans h.here⟩
theorem NamesAt.new (w : World) (l : List Vl) : NamesAt (w.alloc (.cells (vlArr l) 102)) w.heap.size l := ⟨heap_alloc_new w _⟩
theorem NamesAt.cell {w : World} {b : Nat} {l : List Vl} (h : NamesAt w b l) (i : Nat) (hi : i < l.length) : w.cell? ⟨b, i * 2, none⟩ = some (.int .i64 (l.getD i vl0).num) ∧ w.cell? ⟨b, i * 2 + 1, none⟩ = some (.int .i64 (l.getD i vl0).fault) := by
 obtain ⟨d0, d1⟩ := vlCells_at l i hi
 have e : l.getD i vl0 = l[i] := by rw [List.getD_eq_getElem?_getD, List.getElem?_eq_getElem hi]; rfl
 rw [e]
 constructor
 ·rw [cell_of_row _ _ _ _ _ _ h.here]; simpa [vlArr] using d0
 ·rw [cell_of_row _ _ _ _ _ _ h.here]; simpa [vlArr] using d1
theorem pileTake_names (w : World) (o1 o2 : Obj) (l : List Vl) : NamesAt (((w.alloc o1).alloc (.cells (vlArr l) 102)).alloc o2) (w.heap.size + 1) l := by
 have k := NamesAt.new (w.alloc o1) l
 rw [show (w.alloc o1).heap.size = w.heap.size + 1 by simp] at k
 exact k.keep (B := w.heap.size + 2) ((Below.refl _ _).alloc (by simp) _) (by omega)
structure ResAt (w : World) (g : Nat) : Prop where
 c0 : w.cell? ⟨g, 0, none⟩ = some (.int .i64 0)
 c1 : w.cell? ⟨g, 1, none⟩ = some (.int .i64 0)
 fz : ∀ o, w.frozen? ⟨g, o, none⟩ = false
theorem ResAt.of_block {w w' : World} {g : Nat} (h : ResAt w g) (e : w'.heap[g]? = w.heap[g]?) : ResAt w' g :=
 ⟨(World.cell?_of_block (w := w) (a := ⟨g, 0, none⟩) e).trans h.c0, (World.cell?_of_block (w := w) (a := ⟨g, 1, none⟩) e).trans h.c1, fun o => (World.frozen?_of_block (w := w) (a := ⟨g, o, none⟩) e).trans (h.fz o)⟩
theorem ResAt.lt {w : World} {g : Nat} (h : ResAt w g) : g < w.heap.size := World.block_lt_of_cell? w _ h.c0
theorem but_other {w w' : World} {b k : Nat} (h : But b w w') (hk : k < w.heap.size) (hne : k ≠ b) : w'.heap[k]? = w.heap[k]? := h.block k hk (fun e => hne (Option.some.inj e))
set_option maxRecDepth 100000 in
set_option maxHeartbeats 1000000 in
theorem pileTake_any (b : Nat) (p : Pt) (names st : List Vl) (w : World) (S : Nat → Prop) (h : PileAt w b S st) (hl : st.length ≤ 100000) (hn : names.length = 26) (hno : ∀ v ∈ names, VlOk v) (hso : ∀ v ∈ st, VlOk v) (hp : PtOk p) :
  Calls Tryz.prog 175 #[.pointer (some ⟨b, 0, none⟩), .agg #[.int .i64 p.op, .int .i64 p.num], .agg (vlArr names)] w fun e w' => e = .returned (vlV (takeV names p st).1) ∧ PileAt w' b S (takeV names p st).2 ∧ Below b w w' := by
 have hlt := h.lt
 have hsz := vlArr_size hn
 obtain ⟨op, num⟩ := p
 simp only at *
 have hB0 : Below w.heap.size w (((w.alloc (.cells #[.int .i64 op, .int .i64 num] 195)).alloc (.cells (vlArr names) 102)).alloc (.cells #[.int .i64 0, .int .i64 0] 59)) := by
  refine Below.alloc (Below.alloc (Below.alloc (Below.refl _ _) (Nat.le_refl _) _) ?_ _) ?_ _ <;> simp <;> omega
 have hPt := pileTake_names w (.cells #[.int .i64 op, .int .i64 num] 195) (.cells #[.int .i64 0, .int .i64 0] 59) names
 generalize hTV : takeV names ⟨op, num⟩ st = tv at *
 unfold takeV at hTV
 simp only at hTV
 go_enter Tryz.func175, Tryz.ntmps175
 go_upto_region 1 with fail
 generalize hW : (((w.alloc (.cells #[.int .i64 op, .int .i64 num] 195)).alloc (.cells (vlArr names) 102)).alloc (.cells #[.int .i64 0, .int .i64 0] 59)) = W at *
 have p0 : W.cell? ⟨w.heap.size, 0, none⟩ = some (.int .i64 op) := by rw [← hW]; simp [go_sem]
 have p1 : W.cell? ⟨w.heap.size, 1, none⟩ = some (.int .i64 num) := by rw [← hW]; simp [go_sem]
 have r0 : W.cell? ⟨w.heap.size + 1 + 1, 0, none⟩ = some (.int .i64 0) := by rw [← hW]; simp [go_sem]
 have r1 : W.cell? ⟨w.heap.size + 1 + 1, 1, none⟩ = some (.int .i64 0) := by rw [← hW]; simp [go_sem]
 have rf : ∀ o, W.frozen? ⟨w.heap.size + 1 + 1, o, none⟩ = false := by intro o; rw [← hW]; simp [go_sem]
 have hWs : W.heap.size = w.heap.size + 1 + 1 + 1 := by rw [← hW]; simp
 have HR : Hid (ResAt W (w.heap.size + 1 + 1)) := ⟨r0, r1, rf⟩
 have HB0 : Hid (Below w.heap.size w W) := hB0
 have HP : Hid (PileAt W b (fun k => S k ∧ k < w.heap.size) st) := (h.weak (fun k hk hl => ⟨hk, hl⟩)).keep hB0 (Nat.le_refl _)
 have HN : Hid (NamesAt W (w.heap.size + 1) names) := hPt
 have HL : Hid _ := hl
 have HSO : Hid _ := hso
 have HNO : Hid _ := hno
 clear hW h hB0 hPt hl hso hno
 by_cases o1 : op = 1
 ·subst o1
  rw [if_pos rfl] at hTV
  subst hTV
  go_wp2_with (first | (go_at_call 100; refine (number_any _ _).mono ?_; rintro e w1 ⟨rfl, hb1⟩; have s0 := (hb1.cell (p := ⟨w.heap.size + 1 + 1, 0, none⟩) (by simp only; omega)).trans r0; have s1 := (hb1.cell (p := ⟨w.heap.size + 1 + 1, 1, none⟩) (by simp only; omega)).trans r1; have sf : ∀ o, w1.frozen? ⟨w.heap.size + 1 + 1, o, none⟩ = false := fun o => (hb1.frozen (p := ⟨w.heap.size + 1 + 1, o, none⟩) (by simp only; omega)).trans (rf o); have HB1 : Hid (Below W.heap.size W w1) := hb1; clear hb1))
  refine bodyPost_ret (v := vlV ⟨num, 0⟩) (by simp [results, Tryz.results175, go_sem, s0, s1, sf]) rfl ⟨rfl, ?_, ?_⟩
  ·exact (((HP.out.keep HB1.out (Nat.le_refl _)).setCell (by simp only; omega) (by simp only; omega) _).setCell (by simp only; omega) (by simp only; omega) _).weak (fun k hk _ => hk.1)
  ·exact (((HB0.out.mono (by omega)).trans (HB1.out.mono (by omega))).setCell (by simp only; omega) _).setCell (by simp only; omega) _
 rw [if_neg o1] at hTV
 have t1 : (op == 1) = false := by simpa using o1
 by_cases o2 : op = 2
 ·subst o2
  rw [if_pos rfl] at hTV
  obtain ⟨n0, n1⟩ := hp rfl
  simp only at n0 n1
  obtain ⟨nn, rfl⟩ : ∃ nn : Nat, num = nn := ⟨num.toNat, by omega⟩
  rw [Int.toNat_natCast] at hTV
  obtain ⟨m0, m1⟩ := HN.out.cell nn (by omega)
  generalize names.getD nn vl0 = x at *
  subst hTV
  go_wp2_with fail
  refine bodyPost_ret (v := vlV x) (by simp [results, Tryz.results175, go_sem, r0, r1, rf]) rfl ⟨rfl, ?_, ?_⟩
  ·exact ((HP.out.setCell (by simp only; omega) (by simp only; omega) _).setCell (by simp only; omega) (by simp only; omega) _).weak (fun k hk _ => hk.1)
  ·exact ((HB0.out.mono (by omega)).setCell (by simp only; omega) _).setCell (by simp only; omega) _
 rw [if_neg o2] at hTV
 have t2 : (op == 2) = false := by simpa using o2
 by_cases o3 : op = 3
 ·subst o3
  rw [if_pos rfl] at hTV
  have hto := topV_ok HSO.out
  generalize hx : topV st = x at *
  have HNG : Hid _ := neg_any x hto
  generalize hy : negV x = y at *
  subst hTV
  have HX : Hid (topV st = x) := hx
  clear hx
  go_upto_region 8 with (first | (go_at_call 177; refine (pilePop_any b st _ _ HP.out HL.out).mono ?_; rw [HX.out]; rintro e w1 ⟨rfl, hP1, hb1⟩))
  have hs1 := hb1.size
  have HR1 : Hid (ResAt (w1.alloc (.cells #[.int .i64 x.num, .int .i64 x.fault] 59)) (w.heap.size + 1 + 1)) := (HR.out.of_block (but_other hb1 (by omega) (by omega))).of_block (Below.heap_alloc _ _ _ (by omega))
  have HP1 : Hid (PileAt (w1.alloc (.cells #[.int .i64 x.num, .int .i64 x.fault] 59)) b (fun k => S k ∧ k < w.heap.size) st.dropLast) := hP1.alloc _
  have HB1 : Hid (Below b w (w1.alloc (.cells #[.int .i64 x.num, .int .i64 x.fault] 59))) := ((HB0.out.mono (by omega)).trans (but_below hb1 (by omega))).alloc (by omega) _
  have hy0 : (w1.alloc (.cells #[.int .i64 x.num, .int .i64 x.fault] 59)).cell? ⟨w1.heap.size, 0, none⟩ = some (.int .i64 x.num) := by simp [go_sem]
  have hy1 : (w1.alloc (.cells #[.int .i64 x.num, .int .i64 x.fault] 59)).cell? ⟨w1.heap.size, 1, none⟩ = some (.int .i64 x.fault) := by simp [go_sem]
  have hs2 : (w1.alloc (.cells #[.int .i64 x.num, .int .i64 x.fault] 59)).heap.size = w1.heap.size + 1 := by simp
  generalize w1.alloc (.cells #[.int .i64 x.num, .int .i64 x.fault] 59) = W1 at *
  clear hb1 hP1 HP HR HB0 HN r0 r1 rf p0 p1 hto hy
  go_wp2_with (first | (go_at_call 131; refine (HNG.out _).mono ?_; rintro e w2 ⟨rfl, hb2⟩; obtain ⟨s0, s1, sf⟩ := HR1.out.of_block (hb2.block _ (by omega)); have HB2 : Hid (Below W1.heap.size W1 w2) := hb2; have hs3 := hb2.size; clear hb2))
  refine bodyPost_ret (v := vlV y) (by simp [results, Tryz.results175, go_sem, s0, s1, sf]) rfl ⟨rfl, ?_, ?_⟩
  ·exact (((HP1.out.keep HB2.out (Nat.le_refl _)).setCell (by simp only; omega) (by simp only; omega) _).setCell (by simp only; omega) (by simp only; omega) _).weak (fun k hk _ => hk.1)
  ·exact ((HB1.out.trans (HB2.out.mono (by omega))).setCell (by simp only; omega) _).setCell (by simp only; omega) _
 rw [if_neg o3] at hTV
 have t3 : (op == 3) = false := by simpa using o3
 have hto := topV_ok HSO.out
 have hto2 := topV_ok (dropLast_ok HSO.out)
 generalize hx : topV st = x at *
 generalize hy : topV st.dropLast = y at *
 have HOF : Hid _ := of_any op y x hto2 hto
 generalize hz : opV op y x = z at *
 subst hTV
 have HX : Hid (topV st = x) := hx
 have HY : Hid (topV st.dropLast = y) := hy
 clear hx hy hz hto hto2
 go_upto_region 10 with (first | (go_at_call 177; refine (pilePop_any b st _ _ HP.out HL.out).mono ?_; rw [HX.out]; rintro e w1 ⟨rfl, hP1, hb1⟩))
 have hs1 := hb1.size
 have HR1 : Hid (ResAt (w1.alloc (.cells #[.int .i64 x.num, .int .i64 x.fault] 59)) (w.heap.size + 1 + 1)) := (HR.out.of_block (but_other hb1 (by omega) (by omega))).of_block (Below.heap_alloc _ _ _ (by omega))
 have HP1 : Hid (PileAt (w1.alloc (.cells #[.int .i64 x.num, .int .i64 x.fault] 59)) b (fun k => S k ∧ k < w.heap.size) st.dropLast) := hP1.alloc _
 have HB1 : Hid (Below b w (w1.alloc (.cells #[.int .i64 x.num, .int .i64 x.fault] 59))) := ((HB0.out.mono (by omega)).trans (but_below hb1 (by omega))).alloc (by omega) _
 have hx0 : (w1.alloc (.cells #[.int .i64 x.num, .int .i64 x.fault] 59)).cell? ⟨w1.heap.size, 0, none⟩ = some (.int .i64 x.num) := by simp [go_sem]
 have hx1 : (w1.alloc (.cells #[.int .i64 x.num, .int .i64 x.fault] 59)).cell? ⟨w1.heap.size, 1, none⟩ = some (.int .i64 x.fault) := by simp [go_sem]
 have hp0 : (w1.alloc (.cells #[.int .i64 x.num, .int .i64 x.fault] 59)).cell? ⟨w.heap.size, 0, none⟩ = some (.int .i64 op) := (World.cell?_of_block (a := ⟨w.heap.size, 0, none⟩) ((Below.heap_alloc _ _ _ (by simp only; omega)).trans (but_other hb1 (by simp only; omega) (by simp only; omega)))).trans p0
 have hs2 : (w1.alloc (.cells #[.int .i64 x.num, .int .i64 x.fault] 59)).heap.size = w1.heap.size + 1 := by simp
 have hg1 : w.heap.size + 1 + 1 < w1.heap.size := by omega
 generalize w1.alloc (.cells #[.int .i64 x.num, .int .i64 x.fault] 59) = W1 at *
 generalize w1.heap.size = g1 at *
 clear hb1 hP1 HP HR HB0 HN r0 r1 rf p0 p1
 have HL2 : Hid (st.dropLast.length ≤ 100000) := by have := HL.out; show _ ≤ _; simp; omega
 go_upto_region 11 with (first | (go_at_call 177; refine (pilePop_any b st.dropLast _ _ HP1.out HL2.out).mono ?_; rw [HY.out]; rintro e w2 ⟨rfl, hP2, hb2⟩))
 have hs3 := hb2.size
 have HR2 : Hid (ResAt (w2.alloc (.cells #[.int .i64 y.num, .int .i64 y.fault] 59)) (w.heap.size + 1 + 1)) := (HR1.out.of_block (but_other hb2 (by omega) (by omega))).of_block (Below.heap_alloc _ _ _ (by omega))
 have HP2 : Hid (PileAt (w2.alloc (.cells #[.int .i64 y.num, .int .i64 y.fault] 59)) b (fun k => S k ∧ k < w.heap.size) st.dropLast.dropLast) := hP2.alloc _
 have HB2 : Hid (Below b w (w2.alloc (.cells #[.int .i64 y.num, .int .i64 y.fault] 59))) := (HB1.out.trans (but_below hb2 (by omega))).alloc (by omega) _
 have hy0 : (w2.alloc (.cells #[.int .i64 y.num, .int .i64 y.fault] 59)).cell? ⟨w2.heap.size, 0, none⟩ = some (.int .i64 y.num) := by simp [go_sem]
 have hy1 : (w2.alloc (.cells #[.int .i64 y.num, .int .i64 y.fault] 59)).cell? ⟨w2.heap.size, 1, none⟩ = some (.int .i64 y.fault) := by simp [go_sem]
 have hq0 : (w2.alloc (.cells #[.int .i64 y.num, .int .i64 y.fault] 59)).cell? ⟨w.heap.size, 0, none⟩ = some (.int .i64 op) := (World.cell?_of_block (a := ⟨w.heap.size, 0, none⟩) ((Below.heap_alloc _ _ _ (by simp only; omega)).trans (but_other hb2 (by simp only; omega) (by simp only; omega)))).trans hp0
 have hz0 : (w2.alloc (.cells #[.int .i64 y.num, .int .i64 y.fault] 59)).cell? ⟨g1, 0, none⟩ = some (.int .i64 x.num) := (World.cell?_of_block (a := ⟨g1, 0, none⟩) ((Below.heap_alloc _ _ _ (by simp only; omega)).trans (but_other hb2 (by simp only; omega) (by simp only; omega)))).trans hx0
 have hz1 : (w2.alloc (.cells #[.int .i64 y.num, .int .i64 y.fault] 59)).cell? ⟨g1, 1, none⟩ = some (.int .i64 x.fault) := (World.cell?_of_block (a := ⟨g1, 1, none⟩) ((Below.heap_alloc _ _ _ (by simp only; omega)).trans (but_other hb2 (by simp only; omega) (by simp only; omega)))).trans hx1
 have hs4 : (w2.alloc (.cells #[.int .i64 y.num, .int .i64 y.fault] 59)).heap.size = w2.heap.size + 1 := by simp
 generalize w2.alloc (.cells #[.int .i64 y.num, .int .i64 y.fault] 59) = W2 at *
 clear hb2 hP2 HP1 HR1 HB1 hx0 hx1 hp0
 go_wp2_with (first | (go_at_call 134; refine (HOF.out _).mono ?_; rintro e w3 ⟨rfl, hb3⟩; obtain ⟨s0, s1, sf⟩ := HR2.out.of_block (hb3.block _ (by omega)); have HB3 : Hid (Below W2.heap.size W2 w3) := hb3; have hs5 := hb3.size; clear hb3))
 refine bodyPost_ret (v := vlV z) (by simp [results, Tryz.results175, go_sem, s0, s1, sf]) rfl ⟨rfl, ?_, ?_⟩
 ·exact (((HP2.out.keep HB3.out (Nat.le_refl _)).setCell (by simp only; omega) (by simp only; omega) _).setCell (by simp only; omega) (by simp only; omega) _).weak (fun k hk _ => hk.1)
 ·exact ((HB2.out.trans (HB3.out.mono (by omega))).setCell (by simp only; omega) _).setCell (by simp only; omega) _
end Go.Proofs.YtdgmoiflahoihaaGreatDoor
