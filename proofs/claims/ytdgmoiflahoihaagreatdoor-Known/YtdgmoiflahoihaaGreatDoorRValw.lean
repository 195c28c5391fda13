import Derived.Test.YtdgmoiflahoihaaGreatDoorRUPw
import Derived.Deep.MidRow
import Derived.Test.YtdgmoiflahoihaaGreatDoorBBw
import Derived.Deep.RegionHeld3
import Derived.Deep.Cut
import Derived.Deep.CutRange

namespace Go.Proofs.YtdgmoiflahoihaaGreatDoor
open Go.RowKit
set_option linter.unusedSimpArgs false
set_option linter.unusedVariables false
set_option maxRecDepth 100000 in
set_option maxHeartbeats 1000000 in
theorem valueOf_any (l : List Pt) (names : List Vl) (P : Nat → Prop) (v : Value) (w : World) (hn : names.length = 26) (hno : ∀ v ∈ names, VlOk v) (hl : l.length ≤ 1000) (hok : ∀ p ∈ l, PtOk p) (hnm : ∀ p ∈ l, PtNum p) (hv : PartsV w P v l) :
  Calls Tryz.prog 135 #[v, .agg (vlArr names)] w fun e w' => e = .returned (vlV (valueV names l)) ∧ Below w.heap.size w w' := by
 have hsz := vlArr_size hn
 obtain ⟨ao, g, cap, rfl, hcells⟩ := parts_form hv
 clear hv
 generalize hV : valueV names l = y
 have HV : Hid (topV (pileV names l []) = y) := hV
 clear hV
 have HNO : Hid _ := hno
 have HC : Hid _ := hcells
 have HOK : Hid _ := hok
 have HNM : Hid _ := hnm
 clear hno hcells hok hnm
 have hB0 : Below w.heap.size w (((w.alloc (.cells (vlArr names) 102)).alloc (.cells #[.int .i64 0, .int .i64 0] 59)).alloc (.cells #[.slice none 0 0] 227)) := by
  refine Below.alloc (Below.alloc (Below.alloc (Below.refl _ _) (Nat.le_refl _) _) ?_ _) ?_ _ <;> simp <;> omega
 have hN0 : NamesAt (((w.alloc (.cells (vlArr names) 102)).alloc (.cells #[.int .i64 0, .int .i64 0] 59)).alloc (.cells #[.slice none 0 0] 227)) w.heap.size names := by
  refine ((NamesAt.new w names).keep (B := w.heap.size + 1) ?_ (by omega))
  refine Below.alloc (Below.alloc (Below.refl _ _) ?_ _) ?_ _ <;> simp <;> omega
 go_enter Tryz.func135, Tryz.ntmps135
 go_upto_region 2 with fail
 generalize hW : (((w.alloc (.cells (vlArr names) 102)).alloc (.cells #[.int .i64 0, .int .i64 0] 59)).alloc (.cells #[.slice none 0 0] 227)) = W at *
 have hR0 : ResAt W (w.heap.size + 1) := by
  rw [← hW]
  refine ⟨?_, ?_, fun o => ?_⟩ <;> simp [go_sem]
 have hP0 : PileAt W (w.heap.size + 1 + 1) (fun _ => True) [] := by
  rw [← hW]
  exact ⟨⟨.slice none 0 0, by simp [go_sem], World.ownsRow_nil .., fun _ _ => trivial⟩, fun o => by simp [go_sem]⟩
 clear hW
 go_wp2_with fail
 go_loopw [11] (fun x w' => ∃ (k : Nat) (st : List Vl), x = .int .i64 k ∧ k ≤ l.length ∧ st.length ≤ k ∧ Hid (NamesAt w' w.heap.size names) ∧ Hid (ResAt w' (w.heap.size + 1)) ∧ Hid (PileAt w' (w.heap.size + 1 + 1) (fun _ => True) st) ∧ Hid (Below w.heap.size w w') ∧ Hid (∀ v ∈ st, VlOk v) ∧ Hid (topV (pileV names (l.drop k) st) = y)) (fun x _ => l.length - (intOf x).toNat)
 case atStart => exact ⟨0, [], rfl, by omega, by simp, hN0, hR0, hP0, hB0, by show ∀ v ∈ [], VlOk v; simp, HV⟩
 case round =>
  obtain ⟨k, st, rfl, hk, hst, HN, HR, HP, HB, HSO, HL⟩ := hrel
  clear hN0 hR0 hP0 hB0
  have hpl : w.heap.size + 1 + 1 < wr.heap.size := HP.out.lt
  by_cases hlt : k < l.length
  ·have tk : decide ((k : Int) < (l.length : Int)) = true := by simp; omega
   obtain ⟨e0, hg, c0, c1⟩ := HC.out k hlt
   have OKP : Hid (PtOk l[k]) := HOK.out l[k] (List.getElem_mem hlt)
   have NMP : Hid (PtNum l[k]) := HNM.out l[k] (List.getElem_mem hlt)
   rw [← HB.out.cell (p := ⟨g, k * 2, none⟩) hg] at c0
   rw [← HB.out.cell (p := ⟨g, k * 2 + 1, none⟩) hg] at c1
   have HST : Hid (topV (pileV names (l.drop (k + 1)) ((takeV names l[k] st).2 ++ [(takeV names l[k] st).1])) = y) := by
    have := HL.out
    rw [List.drop_eq_getElem_cons hlt] at this
    exact this
   generalize hp : l[k] = p at *
   clear hp
   subst e0
   have HTO : Hid _ := takeV_ok (p := p) HNO.out HSO.out NMP.out
   have hlen := takeV_len names st p
   have hi59 : (Tryz.prog.info? 102).map (fun i => i.size) = some (vlArr names).size := by rw [infoVals, hsz]
   go_wp2_with (first | (refine wpList_load_row rfl 102 _ rfl w.heap.size rfl 102 (vlArr names) (0, 0) _ (by exact (HN.out.keep (B := wr.heap.size) ((Below.refl _ _).alloc (Nat.le_refl _) _) (by omega)).here) Tryz.underlying102 rfl hi59 ?_) | (go_at_call 175; refine (pileTake_any (w.heap.size + 1 + 1) p names st _ _ (by exact HP.out.alloc _) (by omega) hn HNO.out HSO.out OKP.out).mono ?_; rintro e w1 ⟨rfl, hP1, hb1⟩))
   refine (pilePush_any (w.heap.size + 1 + 1) (takeV names p st).2 (takeV names p st).1 _ (by exact hP1.alloc _) (by omega)).mono ?_
   rintro e w2 ⟨rfl, hP2, hb2⟩
   have hA1 : Below (w.heap.size + 1 + 1) wr (wr.alloc (.cells #[.int .i64 p.op, .int .i64 p.num] 195)) := (Below.refl _ _).alloc (by omega) _
   have hs1 := hb1.size
   have hs1b : wr.heap.size < w1.heap.size := by
    have e1 : (wr.alloc (.cells #[.int .i64 p.op, .int .i64 p.num] 195)).heap.size = wr.heap.size + 1 := by simp
    omega
   have hA2 : Below (w.heap.size + 1 + 1) wr w2 := ((hA1.trans hb1).alloc (by omega) _).trans hb2
   have HN2 : Hid (NamesAt w2 w.heap.size names) := HN.out.keep hA2 (by omega)
   have HR2 : Hid (ResAt w2 (w.heap.size + 1)) := HR.out.of_block (hA2.block _ (by omega))
   have HB2 : Hid (Below w.heap.size w w2) := HB.out.trans (hA2.mono (by omega))
   have HP2 : Hid (PileAt w2 (w.heap.size + 1 + 1) (fun _ => True) ((takeV names p st).2 ++ [(takeV names p st).1])) := hP2
   have HSO2 : Hid (∀ v ∈ (takeV names p st).2 ++ [(takeV names p st).1], VlOk v) := by
    intro v hv
    rcases List.mem_append.mp hv with h | h
    ·exact HTO.out.2 v h
    ·simp at h; rw [h]; exact HTO.out.1
   clear hA1 hA2 hb1 hb2 hP1 hP2 c0 c1 HN HR HP HB hs1
   go_wp2_with fail
   go_roundw
   case rel => exact ⟨k + 1, _, by go_num, by omega, by simp; omega, HN2, HR2, HP2, HB2, HSO2, HST⟩
   case measure => simp [intOf]; omega
  ·have tk : decide ((k : Int) < (l.length : Int)) = false := by simp; omega
   have HF : Hid (topV st = y) := by
    have := HL.out
    rw [List.drop_of_length_le (by omega)] at this
    exact this
   go_wp2_with (first | (go_at_call 177; refine (pilePop_any (w.heap.size + 1 + 1) st _ _ HP.out (by omega)).mono ?_; rw [HF.out]; rintro e w1 ⟨rfl, hP1, hb1⟩; obtain ⟨s0, s1, sf⟩ := HR.out.of_block (but_other hb1 (by omega) (by omega)); have HB1 : Hid (Below (w.heap.size + 1 + 1) wr w1) := but_below hb1 hpl; clear hb1 hP1))
   refine bodyPost_ret (v := vlV y) (by simp [results, Tryz.results135, go_sem, s0, s1, sf]) rfl ⟨rfl, ?_⟩
   exact ((HB.out.trans (HB1.out.mono (by omega))).setCell (by simp only; omega) _).setCell (by simp only; omega) _
end Go.Proofs.YtdgmoiflahoihaaGreatDoor
namespace Go.Proofs.YtdgmoiflahoihaaGreatDoor
open Go.RowKit
set_option linter.unusedSimpArgs false
set_option linter.unusedVariables false
structure Nt where
 kind : Int
 place : Nat
 label : Nat
 val : Vl
def ntCell (x : Nt) : List Value := [.int .i64 x.kind, .int .i64 x.place, .int .i64 x.label, .int .i64 x.val.num, .int .i64 x.val.fault]
def ntCells (l : List Nt) : List Value := l.flatMap ntCell
theorem ntCells_len (l : List Nt) : (ntCells l).length = l.length * 5 := by
 induction l with
 | nil => rfl
 | cons p r ih => simp only [ntCells, List.flatMap_cons, List.length_append] at ih ⊢; rw [ih]; simp [ntCell]; omega
theorem ntCells_app (l r : List Nt) : ntCells (l ++ r) = ntCells l ++ ntCells r := by simp [ntCells]
abbrev SR := List Vl × List Nt
def repS (f : SR → SR) : Nat → SR → SR
 | 0, s => s
 | n + 1, s => repS f n (f s)
def doT {α : Type} (rec : SR → List α → SR) (s : SR) (q : Core × List α × List α) : SR :=
 if q.1.kind = 0 then (s.1.set q.1.name.toNat (valueV s.1 q.1.parts), s.2)
 else if q.1.kind = 1 then (s.1.set q.1.name.toNat (valueV s.1 q.1.parts), s.2 ++ [⟨1, q.1.place, q.1.label, valueV s.1 q.1.parts⟩])
 else if q.1.kind = 2 then (s.1, s.2 ++ [⟨0, q.1.place, q.1.label, valueV s.1 q.1.parts⟩])
 else if q.1.kind = 3 then
  if (valueV s.1 q.1.parts).fault ≠ 0 then s else if (valueV s.1 q.1.parts).num ≠ 0 then rec s q.2.1 else rec s q.2.2
 else repS (fun s => rec s q.2.1) q.1.count.toNat s
def doL {α : Type} (rec : SR → List α → SR) : SR → List (Core × List α × List α) → SR
 | s, [] => s
 | s, q :: r => doL rec (doT rec s q) r
def doF (n : Nat) : SR → List (RT n) → SR :=
 match n with
 | 0 => fun s _ => s
 | n + 1 => fun s l => doL (doF n) s l
def NumsOk (n : Nat) : List (RT n) → Prop :=
 match n with
 | 0 => fun _ => True
 | n + 1 => fun l => ∀ q ∈ (l : List (Core × List (RT n) × List (RT n))), (∀ p ∈ q.1.parts, PtNum p) ∧ NumsOk n q.2.1 ∧ NumsOk n q.2.2
structure StOk (s : SR) : Prop where
 len : s.1.length = 26
 ok : ∀ v ∈ s.1, VlOk v
theorem StOk.set {s : SR} (h : StOk s) {v : Vl} (hv : VlOk v) (i : Nat) (l : List Nt) : StOk (s.1.set i v, l) := by
 refine ⟨by simp [h.len], fun x hx => ?_⟩
 rcases List.mem_or_eq_of_mem_set hx with h' | h'
 ·exact h.ok x h'
 ·rw [h']; exact hv
def RecRun {α : Type} (nums : List α → Prop) (wk : List α → Nat) (rec : SR → List α → SR) : Prop :=
 ∀ s l, nums l → StOk s → StOk (rec s l) ∧ (rec s l).2.length ≤ s.2.length + wk l
theorem repS_ok {f : SR → SR} {k : Nat} (hf : ∀ s, StOk s → StOk (f s) ∧ (f s).2.length ≤ s.2.length + k) : ∀ (n : Nat) (s : SR), StOk s → StOk (repS f n s) ∧ (repS f n s).2.length ≤ s.2.length + n * k
 | 0, s, h => ⟨h, by simp [repS]⟩
 | n + 1, s, h => by
  obtain ⟨a, b⟩ := hf s h
  obtain ⟨c, d⟩ := repS_ok hf n (f s) a
  refine ⟨c, ?_⟩
  show (repS f n (f s)).2.length ≤ _
  rw [Nat.succ_mul]
  omega
theorem doT_ok {α : Type} {nums : List α → Prop} {wk : List α → Nat} {rec : SR → List α → SR} (hr : RecRun nums wk rec) (s : SR) (q : Core × List α × List α) (hp : ∀ p ∈ q.1.parts, PtNum p) (h1 : nums q.2.1) (h2 : nums q.2.2) (hk : 0 ≤ q.1.kind ∧ q.1.kind ≤ 4) (h : StOk s) :
  StOk (doT rec s q) ∧ (doT rec s q).2.length ≤ s.2.length + workT wk q := by
 have hv := valueV_ok h.ok hp
 have w4 : q.1.kind ≠ 4 → workT wk q = 1 + q.1.parts.length + wk q.2.1 + wk q.2.2 := fun h => by unfold workT; rw [if_neg h]
 unfold doT
 split
 ·rename_i k
  rw [w4 (by omega)]
  exact ⟨h.set hv _ _, by simp only; omega⟩
 split
 ·rename_i k
  rw [w4 (by omega)]
  exact ⟨h.set hv _ _, by simp; omega⟩
 split
 ·rename_i k
  rw [w4 (by omega)]
  exact ⟨⟨h.len, h.ok⟩, by simp; omega⟩
 split
 ·rename_i k
  rw [w4 (by omega)]
  split
  ·exact ⟨h, by omega⟩
  split
  ·obtain ⟨a, b⟩ := hr s _ h1 h
   exact ⟨a, by omega⟩
  ·obtain ⟨a, b⟩ := hr s _ h2 h
   exact ⟨a, by omega⟩
 ·obtain ⟨a, b⟩ := repS_ok (f := fun s => rec s q.2.1) (k := wk q.2.1) (fun s hs => hr s _ h1 hs) q.1.count.toNat s h
  refine ⟨a, ?_⟩
  unfold workT
  rw [if_pos (by omega), Nat.mul_add]
  omega
theorem doL_ok {α : Type} {nums : List α → Prop} {wk : List α → Nat} {rec : SR → List α → SR} (hr : RecRun nums wk rec) : ∀ (l : List (Core × List α × List α)) (s : SR), (∀ q ∈ l, (∀ p ∈ q.1.parts, PtNum p) ∧ nums q.2.1 ∧ nums q.2.2 ∧ 0 ≤ q.1.kind ∧ q.1.kind ≤ 4) → StOk s →
  StOk (doL rec s l) ∧ (doL rec s l).2.length ≤ s.2.length + workL wk l
 | [], s, _, h => ⟨h, by simp [doL]⟩
 | q :: r, s, hl, h => by
  obtain ⟨a1, a2, a3, a4⟩ := hl q (by simp)
  obtain ⟨a, b⟩ := doT_ok hr s q a1 a2 a3 a4 h
  obtain ⟨c, d⟩ := doL_ok hr r (doT rec s q) (fun x hx => hl x (by simp [hx])) a
  refine ⟨c, ?_⟩
  show (doL rec (doT rec s q) r).2.length ≤ _
  rw [workL_cons]
  omega
theorem doF_ok : ∀ (n : Nat) (l : List (RT n)) (s : SR), NumsOk n l → TreeOk n l → StOk s → StOk (doF n s l) ∧ (doF n s l).2.length ≤ s.2.length + workS n l
 | 0, l, s, _, _, h => ⟨h, by simp [doF]⟩
 | n + 1, l, s, hn, ht, h => by
  have hr : RecRun (fun l => NumsOk n l ∧ TreeOk n l) (workS n) (doF n) := fun s l hl hs => doF_ok n l s hl.1 hl.2 hs
  exact doL_ok hr l s (fun q hq => ⟨(hn q hq).1, ⟨(hn q hq).2.1, (ht.2 q hq).2.1⟩, ⟨(hn q hq).2.2, (ht.2 q hq).2.2⟩, (ht.2 q hq).1.kind⟩) h
end Go.Proofs.YtdgmoiflahoihaaGreatDoor
namespace Go.Proofs.YtdgmoiflahoihaaGreatDoor
open Go.RowKit
set_option linter.unusedSimpArgs false
set_option linter.unusedVariables false
theorem infoNote : (Tryz.prog.info? 61).map (fun i => (i.zero, i.size, i.bytes)) = some (some (.agg #[.int .i64 0, .int .i64 0, .int .i64 0, .int .i64 0, .int .i64 0]), 5, 40) := by kernel_rfl
structure StateAt (w : World) (b : Nat) (S : Nat → Prop) (s : SR) : Prop where
 cell : ∀ k, k < 26 → w.cell? ⟨b, k * 2, none⟩ = some (.int .i64 (s.1.getD k vl0).num) ∧ w.cell? ⟨b, k * 2 + 1, none⟩ = some (.int .i64 (s.1.getD k vl0).fault)
 row : ∃ v, w.cell? ⟨b, 52, none⟩ = some v ∧ w.ownsRow (b + 1) 61 5 v s.2.length (ntCells s.2) ∧ ∀ k, v.ownBlock = some k → S k
 fz : ∀ o, w.frozen? ⟨b, o, none⟩ = false
theorem StateAt.lt {w : World} {b : Nat} {S : Nat → Prop} {s : SR} (h : StateAt w b S s) : b < w.heap.size := World.block_lt_of_cell? w _ (h.cell 0 (by omega)).1
theorem StateAt.weak {w : World} {b : Nat} {S R : Nat → Prop} {s : SR} (h : StateAt w b S s) (hs : ∀ k, S k → b < k → k < w.heap.size → R k) : StateAt w b R s := by
 obtain ⟨hc, ⟨v, c, ho, hS⟩, fz⟩ := h
 exact ⟨hc, ⟨v, c, ho, fun k hk => hs k (hS k hk) (ho.lt k hk).1 (ho.lt k hk).2⟩, fz⟩
theorem StateAt.keep {w w' : World} {b B : Nat} {S : Nat → Prop} {s : SR} (h : StateAt w b S s) (hb : Below B w w') (hB : w.heap.size ≤ B) : StateAt w' b S s := by
 have hlt := h.lt
 obtain ⟨hc, ⟨v, c, ho, hS⟩, fz⟩ := h
 exact ⟨fun k hk => ⟨(hb.cell (p := ⟨b, k * 2, none⟩) (by simp only; omega)).trans (hc k hk).1, (hb.cell (p := ⟨b, k * 2 + 1, none⟩) (by simp only; omega)).trans (hc k hk).2⟩, ⟨v, (hb.cell (p := ⟨b, 52, none⟩) (by simp only; omega)).trans c, own_low ho hb hB, hS⟩, fun o => (hb.frozen (p := ⟨b, o, none⟩) (by simp only; omega)).trans (fz o)⟩
theorem StateAt.drew {w : World} {b : Nat} {S : Nat → Prop} {s : SR} (h : StateAt w b S s) : StateAt w.drew b S s := h.keep (Below.refl w.heap.size w).drew (Nat.le_refl _)
theorem StateAt.range {w : World} {b : Nat} {S : Nat → Prop} {s : SR} (h : StateAt w b S s) (hl : s.1.length = 26) : w.rangeAt b 0 (vlCells s.1) := by
 intro j v hv
 have hj : j < 52 := by
  have := (List.getElem?_eq_some_iff.mp hv).1
  rw [vlCells_len, hl] at this
  omega
 obtain ⟨d0, d1⟩ := vlCells_at s.1 (j / 2) (by omega)
 obtain ⟨e0, e1⟩ := h.cell (j / 2) (by omega)
 have e : s.1.getD (j / 2) vl0 = s.1[j / 2]'(by omega) := by rw [List.getD_eq_getElem?_getD, List.getElem?_eq_getElem (by omega)]; rfl
 rw [e] at e0 e1
 rw [Nat.zero_add]
 rcases Nat.mod_two_eq_zero_or_one j with h2 | h2
 ·have hj2 : j = j / 2 * 2 := by omega
  rw [← hj2] at d0 e0
  rw [e0, ← d0, hv]
 ·have hj2 : j = j / 2 * 2 + 1 := by omega
  rw [← hj2] at d1 e1
  rw [e1, ← d1, hv]
theorem StateAt.set {w : World} {b : Nat} {S : Nat → Prop} {s : SR} (h : StateAt w b S s) (hl : s.1.length = 26) (i : Nat) (hi : i < 26) (x : Vl) : StateAt ((w.setCell ⟨b, i * 2, none⟩ (.int .i64 x.num)).setCell ⟨b, i * 2 + 1, none⟩ (.int .i64 x.fault)) b S (s.1.set i x, s.2) := by
 obtain ⟨hc, ⟨v, c, ho, hS⟩, fz⟩ := h
 refine ⟨fun k hk => ?_, ⟨v, ?_, ?_, hS⟩, fun o => by simp [go_sem, fz]⟩
 ·obtain ⟨e0, e1⟩ := hc k hk
  obtain ⟨f0, f1⟩ := hc i hi
  by_cases hik : i = k
  ·subst hik
   have e : (s.1.set i x).getD i vl0 = x := by rw [List.getD_eq_getElem?_getD, List.getElem?_set_self (by omega)]; rfl
   rw [e]
   constructor <;> simp [go_sem, f0, f1]
  ·have e : (s.1.set i x).getD k vl0 = s.1.getD k vl0 := by rw [List.getD_eq_getElem?_getD, List.getElem?_set_ne hik, List.getD_eq_getElem?_getD]
   rw [e]
   have n1 : ¬ i * 2 = k * 2 := by omega
   have n2 : ¬ i * 2 + 1 = k * 2 := by omega
   have n3 : ¬ i * 2 = k * 2 + 1 := by omega
   have n4 : ¬ i * 2 + 1 = k * 2 + 1 := by omega
   constructor
   ·simp [go_sem, e0, n1, n2]
   ·simp [go_sem, e1, n3, n4, hik]
 ·have n1 : ¬ i * 2 = 52 := by omega
  have n2 : ¬ i * 2 + 1 = 52 := by omega
  simp [go_sem, c, n1, n2]
 ·exact ownsRow_setCell_below (ownsRow_setCell_below ho (a := ⟨b, i * 2, none⟩) (by simp) _) (a := ⟨b, i * 2 + 1, none⟩) (by simp) _
theorem nt_new (w : World) (x : Nt) (t : TypeId) : ∀ j u, (ntCell x)[j]? = some u → (w.alloc (.cells #[.int .i64 x.kind, .int .i64 x.place, .int .i64 x.label, .int .i64 x.val.num, .int .i64 x.val.fault] t)).drew.cell? ((⟨w.heap.size, 0, none⟩ : Addr).add j) = some u := by
 intro j u h
 match j, h with
 | 0, h => simp [ntCell] at h; subst h; simp [go_sem, Addr.add]
 | 1, h => simp [ntCell] at h; subst h; simp [go_sem, Addr.add]
 | 2, h => simp [ntCell] at h; subst h; simp [go_sem, Addr.add]
 | 3, h => simp [ntCell] at h; subst h; simp [go_sem, Addr.add]
 | 4, h => simp [ntCell] at h; subst h; simp [go_sem, Addr.add]
 | j + 5, h => simp [ntCell] at h
structure Onto (b : Nat) (S : Nat → Prop) (w w' : World) : Prop where
 os : w'.os = w.os
 tape : w'.tape = w.tape
 output : w'.output = w.output
 size : w.heap.size ≤ w'.heap.size
 block : ∀ k, k < w.heap.size → k ≠ b → ¬ S k → w'.heap[k]? = w.heap[k]?
theorem Onto.of_below {b : Nat} {S : Nat → Prop} {w w' : World} (h : Below w.heap.size w w') : Onto b S w w' := ⟨h.os, h.tape, h.output, h.size, fun k hk _ _ => h.block k hk⟩
theorem Onto.pre {b : Nat} {S : Nat → Prop} {w W w' : World} (h : Below w.heap.size w W) (k : Onto b S W w') : Onto b S w w' :=
 ⟨k.os.trans h.os, k.tape.trans h.tape, k.output.trans h.output, Nat.le_trans h.size k.size, fun i hi hb hs => (k.block i (Nat.lt_of_lt_of_le hi h.size) hb hs).trans (h.block i hi)⟩
theorem Onto.trans {b : Nat} {S : Nat → Prop} {w w1 w2 : World} (h : Onto b S w w1) (k : Onto b (fun i => S i ∨ w.heap.size ≤ i) w1 w2) : Onto b S w w2 :=
 ⟨k.os.trans h.os, k.tape.trans h.tape, k.output.trans h.output, Nat.le_trans h.size k.size, fun i hi hb hs => (k.block i (Nat.lt_of_lt_of_le hi h.size) hb (fun e => by rcases e with e | e; exact hs e; omega)).trans (h.block i hi hb hs)⟩
theorem Onto.below {b : Nat} {S : Nat → Prop} {w w' : World} (h : Onto b S w w') (hb : b < w.heap.size) (hS : ∀ k, S k → b < k) : Below b w w' :=
 ⟨h.os, h.tape, h.output, h.size, fun k hk => h.block k (by omega) (by omega) (fun e => by have := hS k e; omega)⟩
theorem Onto.setCell {b : Nat} {S : Nat → Prop} {w w' : World} (h : Onto b S w w') (o : Nat) (u : Value) : Onto b S w (w'.setCell ⟨b, o, none⟩ u) :=
 ⟨h.os, h.tape, h.output, by simpa using h.size, fun k hk hb hs => (Below.heap_setCell _ _ _ _ hb).trans (h.block k hk hb hs)⟩
theorem Onto.drew {b : Nat} {S : Nat → Prop} {w w' : World} (h : Onto b S w w') : Onto b S w w'.drew := ⟨h.os, h.tape, h.output, h.size, h.block⟩
structure StepAt (b : Nat) (S : Nat → Prop) (w w' : World) (s : SR) : Prop where
 state : StateAt w' b (fun k => S k ∨ w.heap.size ≤ k) s
 onto : Onto b S w w'
theorem StepAt.trans {b : Nat} {S : Nat → Prop} {w w1 w2 : World} {s t : SR} (h : StepAt b S w w1 s) (k : StepAt b (fun i => S i ∨ w.heap.size ≤ i) w1 w2 t) : StepAt b S w w2 t :=
 ⟨k.state.weak (fun i hi _ _ => by rcases hi with hi | hi; exact hi; exact .inr (Nat.le_trans h.onto.size hi)), h.onto.trans k.onto⟩
theorem StepAt.pre {b : Nat} {S : Nat → Prop} {w W w' : World} {s : SR} (h : Below w.heap.size w W) (k : StepAt b S W w' s) : StepAt b S w w' s :=
 ⟨k.state.weak (fun i hi _ _ => by rcases hi with hi | hi; exact .inl hi; exact .inr (Nat.le_trans h.size hi)), k.onto.pre h⟩
theorem StepAt.still {b : Nat} {S : Nat → Prop} {w w' : World} {s : SR} (h : StateAt w' b S s) (k : Below w.heap.size w w') : StepAt b S w w' s :=
 ⟨h.weak (fun i hi _ _ => .inl hi), Onto.of_below k⟩
theorem rv_append2 {P : Program} {ops : Array Oper} {o : Oper} {a : Act} {w : World} {K : Act → World → Prop} {Q : Exit → Act → World → Prop} {E : Prop}
  (hg : o.guard = none) (s x : Operand) (t : TypeId) (hop : o.op = Op.call { callee := Callee.builtin Builtin.append, args := #[s, x], argTypes := #[t, t] })
  (base : Nat) (e : TypeId) (i : TypeInfo) (z : Value) (size bytes : Nat) (h1 : P.underlying t = some (.slice e)) (h2 : P.info? e = some i) (h3 : i.zero = some z) (h4 : i.size = size) (h5 : i.bytes = bytes) (h6 : z.cells.size = size) (h7 : 0 < size)
  (v : Value) (n : Nat) (xs : List Value) (hs : a.eval s = v) (hown : w.ownsRow base e size v n xs)
  (ad : Addr) (m c : Nat) (news : List Value) (hx : a.eval x = .slice (some ad) m c) (hn : news.length = m * size) (hc : ∀ j u, news[j]? = some u → w.cell? (ad.add j) = some u) (h1c : ∀ u ∈ news, u.oneCell' = true)
  (b1 : n + m ≤ maxLen) (b2 : (n + m) * bytes ≤ 140737488355328) (hbase : base ≤ w.heap.size) (hm : 0 < m)
  (hK : ∀ v' w', w'.ownsRow base e size v' (n + m) (xs ++ news) → w.grownBy w' v.ownBlock → (v'.ownBlock = v.ownBlock ∨ ∃ g, v'.ownBlock = some g ∧ w.heap.size ≤ g) → K (a.put o.dst v') w') :
  if Region.wanted o (yielded ops a.tmps) = true then Oper.wp P o a w K Q else E := by
 have hw : Region.wanted o (yielded ops a.tmps) = true := by simp [Region.wanted, hg]
 rw [if_pos hw]
 obtain ⟨v', w', hrun, r1, r2, r3⟩ := run_append_fresh (P := P) w base t o.type e i z size bytes h1 h2 h3 h4 h5 h6 h7 v n xs hown ad m c news hn hc h1c b1 b2 hbase hm
 unfold Oper.wp
 simp [execOp, hop, resolve, invoke, builtin, hs, hx, hrun, Result.andThen]
 exact hK v' w' r1 r2 r3
theorem state_grown {w W w2 : World} {b : Nat} {S : Nat → Prop} {s : SR} {v : Value} (h : StateAt w b S s) (hc : w.cell? ⟨b, 52, none⟩ = some v) (ho : w.ownsRow (b + 1) 61 5 v s.2.length (ntCells s.2)) (hS : ∀ k, v.ownBlock = some k → S k) (h0 : Below w.heap.size w W) (hg : W.grownBy w2 v.ownBlock) :
  w2.heap[b]? = w.heap[b]? ∧ Onto b S w w2 := by
 have hlt := h.lt
 have hne : some b ≠ v.ownBlock := by
  intro e
  have := (ho.lt b e.symm).1
  omega
 have hsz := h0.size
 have hbk : w2.heap[b]? = w.heap[b]? := (hg.block b (by omega) hne).trans (h0.block b (by omega))
 refine ⟨hbk, Onto.pre h0 ?_⟩
 exact ⟨hg.os, hg.tape, hg.output, hg.size, fun k hk _ hs => hg.block k hk (fun e => hs (hS k e.symm))⟩
theorem state_more {w W w2 : World} {b : Nat} {S : Nat → Prop} {s : SR} {x : Nt} {v v' : Value} (h : StateAt w b S s) (hS : ∀ k, v.ownBlock = some k → S k) (h0 : w.heap.size ≤ W.heap.size) (hb : w2.heap[b]? = w.heap[b]?) (ho : w2.ownsRow (b + 1) 61 5 v' (s.2.length + 1) (ntCells s.2 ++ ntCell x)) (hv : v'.ownBlock = v.ownBlock ∨ ∃ g, v'.ownBlock = some g ∧ W.heap.size ≤ g) : StateAt (w2.setCell ⟨b, 52, none⟩ v') b (fun k => S k ∨ w.heap.size ≤ k) (s.1, s.2 ++ [x]) := by
 have c : ∀ o, w2.cell? ⟨b, o, none⟩ = w.cell? ⟨b, o, none⟩ := fun o => World.cell?_of_block (a := ⟨b, o, none⟩) hb
 have f : ∀ o, w2.frozen? ⟨b, o, none⟩ = w.frozen? ⟨b, o, none⟩ := fun o => World.frozen?_of_block (a := ⟨b, o, none⟩) hb
 obtain ⟨hc, ⟨v0, hv0, _⟩, fz⟩ := h
 refine ⟨fun k hk => ?_, ⟨v', by simp [go_sem, c, hv0], ?_, fun k hk => ?_⟩, fun o => by simp [go_sem, f, fz]⟩
 ·obtain ⟨e0, e1⟩ := hc k hk
  have n1 : ¬ 52 = k * 2 := by omega
  have n2 : ¬ 52 = k * 2 + 1 := by omega
  constructor
  ·simp [go_sem, c, e0, n1]
  ·simp [go_sem, c, e1, n2]
 ·have := ownsRow_setCell_below ho (a := ⟨b, 52, none⟩) (by simp) v'
  rw [ntCells_app]
  simpa [ntCells] using this
 ·rcases hv with hv | ⟨g, hg, hl⟩
  ·exact .inl (hS k (by rw [← hv]; exact hk))
  ·rw [hg] at hk
   cases hk
   exact .inr (by omega)
set_option maxRecDepth 100000 in
set_option maxHeartbeats 1000000 in
theorem leave_any (b : Nat) (s : SR) (kind : Int) (c : Core) (ve v1 v2 : Value) (x : Vl) (w : World) (S : Nat → Prop) (h : StateAt w b S s) (hl : s.2.length ≤ 100000) :
  Calls Tryz.prog 136 #[.pointer (some ⟨b, 0, none⟩), .int .i64 kind, .agg #[.int .i64 c.kind, .int .i64 c.place, .int .i64 c.name, .int .i64 c.label, .int .i64 c.count, ve, v1, v2], vlV x] w fun e w' => e = .returned (.tuple #[]) ∧ StepAt b S w w' (s.1, s.2 ++ [⟨kind, c.place, c.label, x⟩]) := by
 have hlt := h.lt
 have HS : Hid (StateAt w b S s) := h
 obtain ⟨hc, ⟨v, hv, ho, hSS⟩, fz⟩ := h
 have HSS : Hid (∀ k, v.ownBlock = some k → S k) := hSS
 clear hSS
 obtain ⟨iV, hiV, hzV, hsV, hbV⟩ := parts_of_info infoNote
 have HO : Hid (w.ownsRow (b + 1) 61 5 v s.2.length (ntCells s.2)) := ho
 clear hc ho
 go_enter Tryz.func136, Tryz.ntmps136
 go_upto_region 2 with fail
 generalize hW : (((w.alloc (.cells #[.int .i64 c.kind, .int .i64 c.place, .int .i64 c.name, .int .i64 c.label, .int .i64 c.count, ve, v1, v2] 149)).alloc (.cells #[.int .i64 x.num, .int .i64 x.fault] 59)).alloc (.cells #[.int .i64 kind, .int .i64 c.place, .int .i64 c.label, .int .i64 x.num, .int .i64 x.fault] 61)) = W
 have h0 : Below w.heap.size w W := by
  rw [← hW]
  refine Below.alloc (Below.alloc (Below.alloc (Below.refl _ _) (Nat.le_refl _) _) ?_ _) ?_ _ <;> simp <;> omega
 have hWs : W.heap.size = w.heap.size + 1 + 1 + 1 := by rw [← hW]; simp
 have m0 : W.cell? ⟨w.heap.size + 1 + 1, 0, none⟩ = some (.int .i64 kind) := by rw [← hW]; simp [go_sem]
 have m1 : W.cell? ⟨w.heap.size + 1 + 1, 1, none⟩ = some (.int .i64 c.place) := by rw [← hW]; simp [go_sem]
 have m2 : W.cell? ⟨w.heap.size + 1 + 1, 2, none⟩ = some (.int .i64 c.label) := by rw [← hW]; simp [go_sem]
 have m3 : W.cell? ⟨w.heap.size + 1 + 1, 3, none⟩ = some (.int .i64 x.num) := by rw [← hW]; simp [go_sem]
 have m4 : W.cell? ⟨w.heap.size + 1 + 1, 4, none⟩ = some (.int .i64 x.fault) := by rw [← hW]; simp [go_sem]
 have hvW : W.cell? ⟨b, 52, none⟩ = some v := (h0.cell (p := ⟨b, 52, none⟩) hlt).trans hv
 have fzW : ∀ o, W.frozen? ⟨b, o, none⟩ = false := fun o => (h0.frozen (p := ⟨b, o, none⟩) hlt).trans (fz o)
 have HOW : Hid (W.ownsRow (b + 1) 61 5 v s.2.length (ntCells s.2)) := own_low HO.out h0 (Nat.le_refl _)
 have hn1 : ¬ b = W.heap.size := by omega
 have hn3 : b < W.heap.size := by omega
 have hn4 : w.heap.size + 1 + 1 < W.heap.size := by omega
 have hn2 : ¬ w.heap.size + 1 + 1 = W.heap.size := by omega
 have H0 : Hid (Below w.heap.size w W) := h0
 clear hW h0 hWs
 go_region_law (refine rv_append2 rfl (.tmp 20) (.tmp 22) 51 rfl (b + 1) 61 iV (.agg #[.int .i64 0, .int .i64 0, .int .i64 0, .int .i64 0, .int .i64 0]) 5 40 Tryz.underlying51 hiV hzV hsV hbV rfl (by decide) v s.2.length (ntCells s.2) (by simp [Act.eval, Act.put]) (by exact (HOW.out.alloc _).drew) ⟨W.heap.size, 0, none⟩ 1 1 (ntCell ⟨kind, c.place, c.label, x⟩) (by simp [Act.eval, Act.put]) rfl (by exact nt_new W ⟨kind, c.place, c.label, x⟩ 61) (by intro q hq; simp [ntCell] at hq; rcases hq with rfl | rfl | rfl | rfl | rfl <;> rfl) (by unfold maxLen; omega) (by omega) (by simp; omega) (by decide) ?_; intro v' w2 hown hgrow hfr; have hk := state_grown HS.out hv HO.out HSS.out (W := (W.alloc (.cells #[.int .i64 kind, .int .i64 c.place, .int .i64 c.label, .int .i64 x.num, .int .i64 x.fault] 61)).drew) ((H0.out.alloc (by omega) _).drew) hgrow; have q0 : w2.cell? ⟨b, 52, none⟩ = some v := (World.cell?_of_block (a := ⟨b, 52, none⟩) hk.1).trans hv; have q1 : ∀ o, w2.frozen? ⟨b, o, none⟩ = false := (fun o => (World.frozen?_of_block (a := ⟨b, o, none⟩) hk.1).trans (fz o)); obtain ⟨g, cap, rfl⟩ := Joins.ownsRow_form hown (by omega))
 all_goals go_wp2_with fail
 all_goals go_end0
 all_goals exact ⟨rfl, state_more HS.out HSS.out (by have := H0.out.size; simp; omega) hk.1 hown hfr, hk.2.setCell _ _⟩
end Go.Proofs.YtdgmoiflahoihaaGreatDoor
