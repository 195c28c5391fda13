import Derived.Test.YtdgmoiflahoihaaGreatDoorCHeadw
import Derived.Test.YtdgmoiflahoihaaGreatDoorFPlacew
import Derived.Deep.RegionLaw
import Derived.Lib.SmallJoins
import Derived.Lib.OwnKind
import Derived.Deep.Cut
import Derived.Deep.CutRange
import Derived.Test.YtdgmoiflahoihaaGreatDoorPlainw

namespace Go.Proofs.YtdgmoiflahoihaaGreatDoor
open Go.RowKit
set_option linter.unusedSimpArgs false
set_option linter.unusedVariables false
theorem step_append_own {P : Program} {ops : Array Oper} {o : Oper} {a : Act} {w : World} {K : Act → World → Prop} {Q : Exit → Act → World → Prop} {E : Prop}
  (hg : o.guard = none) (s x : Operand) (t : TypeId) (hop : o.op = Op.call { callee := Callee.builtin Builtin.append, args := #[s, x], argTypes := #[t, t] })
  (base : Nat) (e : TypeId) (i : TypeInfo) (z : Value) (size bytes : Nat) (h1 : P.underlying t = some (.slice e)) (h2 : P.info? e = some i) (h3 : i.zero = some z) (h4 : i.size = size) (h5 : i.bytes = bytes) (h6 : z.cells.size = size) (h7 : 0 < size)
  (v : Value) (n : Nat) (xs : List Value) (hs : a.eval s = v) (hown : w.ownsRow base e size v n xs)
  (ad : Addr) (m c : Nat) (news : List Value) (hx : a.eval x = .slice (some ad) m c) (hn : news.length = m * size) (hc : ∀ j u, news[j]? = some u → w.cell? (ad.add j) = some u) (h1c : ∀ u ∈ news, u.oneCell' = true)
  (b1 : n + m ≤ maxLen) (b2 : (n + m) * bytes ≤ 140737488355328) (hbase : base ≤ w.heap.size)
  (hK : ∀ v' w', w'.ownsRow base e size v' (n + m) (xs ++ news) → w.grownBy w' v.ownBlock → K (a.put o.dst v') w') :
  if Region.wanted o (yielded ops a.tmps) = true then Oper.wp P o a w K Q else E := by
 have hw : Region.wanted o (yielded ops a.tmps) = true := by simp [Region.wanted, hg]
 rw [if_pos hw]
 obtain ⟨v', w', hrun, r1, r2, _⟩ := run_append_own (P := P) w base t o.type e i z size bytes h1 h2 h3 h4 h5 h6 h7 v n xs hown ad m c news hn hc h1c b1 b2 hbase
 unfold Oper.wp
 simp [execOp, hop, resolve, invoke, builtin, hs, hx, hrun, Result.andThen]
 exact hK v' w' r1 r2
theorem infoByte : (Tryz.prog.info? 5).map (fun i => (i.zero, i.size, i.bytes)) = some (some (.int .u8 0), 1, 1) := by kernel_rfl
theorem infoInt : (Tryz.prog.info? 3).map (fun i => (i.zero, i.size, i.bytes)) = some (some (.int .i64 0), 1, 8) := by kernel_rfl
def byteV (c : UInt8) : Value := .int .u8 c.toNat
def intV (n : Int) : Value := .int .i64 n
structure Reading (w : World) (b : Nat) (C : List UInt8) (A : List Int) : Prop where
 here : ∃ vc va, w.cell? ⟨b, 0, none⟩ = some vc ∧ w.cell? ⟨b, 1, none⟩ = some va ∧ w.ownsRow (b + 1) 5 1 vc C.length (C.map byteV) ∧ w.ownsRow (b + 1) 3 1 va A.length (A.map intV)
 fz : ∀ o, w.frozen? ⟨b, o, none⟩ = false
 lt : b < w.heap.size
structure Behind (W w2 : World) (b : Nat) (vc va : Value) : Prop where
 c0 : w2.cell? ⟨b, 0, none⟩ = some vc
 c1 : w2.cell? ⟨b, 1, none⟩ = some va
 fz : ∀ o, w2.frozen? ⟨b, o, none⟩ = false
 lt : b < w2.heap.size
 below : Below (b + 1) W w2
theorem behind_of {W w2 : World} {b : Nat} {vc va : Value} {row : Option Nat} (h0 : W.cell? ⟨b, 0, none⟩ = some vc) (h1 : W.cell? ⟨b, 1, none⟩ = some va) (fz : ∀ o, W.frozen? ⟨b, o, none⟩ = false)
  (hg : W.grownBy w2 row) (hr : ∀ k, row = some k → b + 1 ≤ k) : Behind W w2 b vc va := by
 have hlt : b < W.heap.size := block_lt_of_cell h0
 have hb : Below (b + 1) W w2 := (Below.refl _ _).grown hg (by omega) hr
 exact ⟨(hb.cell (p := ⟨b, 0, none⟩) (by simp)).trans h0, (hb.cell (p := ⟨b, 1, none⟩) (by simp)).trans h1, fun o => (hb.frozen (p := ⟨b, o, none⟩) (by simp)).trans (fz o), by have := hb.size; omega, hb⟩
theorem own_apart {w : World} {B n m s1 s2 : Nat} {e f : TypeId} {v u : Value} {xs ys : List Value} (h : w.ownsRow B e s1 v n xs) (k : w.ownsRow B f s2 u m ys) (hne : e ≠ f) : v.ownBlock = none ∨ v.ownBlock ≠ u.ownBlock := by
 cases hv : v.ownBlock with
 | none => exact .inl rfl
 | some g =>
  refine .inr fun e1 => ?_
  obtain ⟨c, fz, q⟩ := Lib.ownsRow_kind h g hv
  obtain ⟨c', fz', q'⟩ := Lib.ownsRow_kind k g e1.symm
  rw [q] at q'
  cases q'
  exact hne rfl
theorem reading_c {w2 : World} {b : Nat} {C : List UInt8} {A : List Int} {c : UInt8} {vc va v' : Value} {W : World} (hb : Behind W w2 b vc va)
  (ho : w2.ownsRow (b + 1) 5 1 v' (C.length + 1) (C.map byteV ++ [byteV c])) (ha : w2.ownsRow (b + 1) 3 1 va A.length (A.map intV)) : Reading (w2.setCell ⟨b, 0, none⟩ v') b (C ++ [c]) A := by
 obtain ⟨c0, c1, fz, lt, _⟩ := hb
 refine ⟨⟨v', va, by simp [go_sem, c0], by simp [go_sem, c1], ?_, ?_⟩, fun o => by simp [go_sem, fz], by simpa using lt⟩
 ·have := ownsRow_setCell_below ho (a := ⟨b, 0, none⟩) (by simp) v'
  simpa using this
 ·exact ownsRow_setCell_below ha (a := ⟨b, 0, none⟩) (by simp) v'
theorem reading_a {w2 : World} {b : Nat} {C : List UInt8} {A : List Int} {n : Int} {vc va v' : Value} {W : World} (hb : Behind W w2 b vc va)
  (ho : w2.ownsRow (b + 1) 3 1 v' (A.length + 1) (A.map intV ++ [intV n])) (hc : w2.ownsRow (b + 1) 5 1 vc C.length (C.map byteV)) : Reading (w2.setCell ⟨b, 1, none⟩ v') b C (A ++ [n]) := by
 obtain ⟨c0, c1, fz, lt, _⟩ := hb
 refine ⟨⟨vc, v', by simp [go_sem, c0], by simp [go_sem, c1], ?_, ?_⟩, fun o => by simp [go_sem, fz], by simpa using lt⟩
 ·exact ownsRow_setCell_below hc (a := ⟨b, 1, none⟩) (by simp) v'
 ·have := ownsRow_setCell_below ho (a := ⟨b, 1, none⟩) (by simp) v'
  simpa using this
theorem one_new (w : World) (v : Value) (t : TypeId) : ∀ j u, [v][j]? = some u → (w.alloc (.cells #[v] t)).cell? ((⟨w.heap.size, 0, none⟩ : Addr).add j) = some u := cell_one_new w v t
theorem one_cell (v : Value) (h : v.oneCell' = true) : ∀ u ∈ [v], u.oneCell' = true := by
 intro u hu
 simp at hu
 rw [hu]; exact h
def keptL : List UInt8 → List UInt8
 | [] => []
 | c :: r => if blankB c then keptL r else c :: keptL r
def atL : List UInt8 → Nat → List Int
 | [], _ => []
 | c :: r, k => if blankB c then atL r (k + 1) else (k : Int) :: atL r (k + 1)
theorem book_of {w : World} {b : Nat} {C : List UInt8} {A : List Int} (h : Reading w b C A) (hs : A.length = C.length) (hC : C.length ≤ 400) : BookAt w b C A := by
 obtain ⟨⟨vc, va, hvc, hva, hoc, hoa⟩, fz, lt⟩ := h
 have fc : ∃ ac bc cap, vc = .slice ac C.length cap ∧ ∀ i, ∀ h : i < C.length, ac = some ⟨bc, 0, none⟩ ∧ w.cell? ⟨bc, i, none⟩ = some (.int .u8 C[i].toNat) := by
  rcases Joins.ownsRow_forms hoc with ⟨rfl, h0⟩ | ⟨g, cap, rfl⟩
  ·exact ⟨none, 0, 0, by rw [h0], fun i h => absurd h (by omega)⟩
  ·refine ⟨some ⟨g, 0, none⟩, g, cap, rfl, fun i h => ⟨rfl, ?_⟩⟩
   rw [hoc.cellAt i (by omega), List.getElem?_map, List.getElem?_eq_getElem h]
   rfl
 have fa : ∃ aa ba cap, va = .slice aa A.length cap ∧ ∀ i, ∀ h : i < A.length, aa = some ⟨ba, 0, none⟩ ∧ w.cell? ⟨ba, i, none⟩ = some (.int .i64 A[i]) := by
  rcases Joins.ownsRow_forms hoa with ⟨rfl, h0⟩ | ⟨g, cap, rfl⟩
  ·exact ⟨none, 0, 0, by rw [h0], fun i h => absurd h (by omega)⟩
  ·refine ⟨some ⟨g, 0, none⟩, g, cap, rfl, fun i h => ⟨rfl, ?_⟩⟩
   rw [hoa.cellAt i (by omega), List.getElem?_map, List.getElem?_eq_getElem h]
   rfl
 obtain ⟨ac, bc, capc, rfl, hc⟩ := fc
 obtain ⟨aa, ba, capa, rfl, ha⟩ := fa
 rw [hs] at hva
 exact ⟨hC, hs, ac, aa, bc, ba, capc, capa, hvc, hva, hc, ha⟩
theorem kept_blank {s : ByteArray} {k : Nat} {C : List UInt8} (h : k < s.size) (hb : blankB s[k] = true) : C ++ keptL (s.data.toList.drop (k + 1)) = C ++ keptL (s.data.toList.drop k) := by
 rw [drop_get s k h]; simp [keptL, hb]
theorem at_blank {s : ByteArray} {k : Nat} {A : List Int} (h : k < s.size) (hb : blankB s[k] = true) : A ++ atL (s.data.toList.drop (k + 1)) (k + 1) = A ++ atL (s.data.toList.drop k) k := by
 rw [drop_get s k h]; simp [atL, hb]
theorem kept_more {s : ByteArray} {k : Nat} {C : List UInt8} (h : k < s.size) (hb : blankB s[k] = false) : (C ++ [s[k]]) ++ keptL (s.data.toList.drop (k + 1)) = C ++ keptL (s.data.toList.drop k) := by
 rw [drop_get s k h]; simp [keptL, hb]
theorem at_more {s : ByteArray} {k : Nat} {A : List Int} (h : k < s.size) (hb : blankB s[k] = false) : (A ++ [(k : Int)]) ++ atL (s.data.toList.drop (k + 1)) (k + 1) = A ++ atL (s.data.toList.drop k) k := by
 rw [drop_get s k h]; simp [atL, hb]
set_option maxHeartbeats 1000000 in
theorem read_any (s : ByteArray) (w : World) (hs : s.size ≤ 400) :
  Calls Tryz.prog 44 #[.string s] w fun e w' => e = .returned (.pointer (some ⟨w.heap.size, 0, none⟩)) ∧ Below w.heap.size w w' ∧ BookAt w' w.heap.size (keptL s.data.toList) (atL s.data.toList 0) := by
 obtain ⟨i5, hi5, hz5, hs5, hb5⟩ := info_parts infoByte
 obtain ⟨i3, hi3, hz3, hs3, hb3⟩ := info_parts infoInt
 go_enter Tryz.func44, Tryz.ntmps44
 go_wp2
 go_loopw [4] (fun x w' => ∃ (k : Nat) (C : List UInt8) (A : List Int), x = .int .i64 k ∧ k ≤ s.size ∧ Reading w' w.heap.size C A ∧ Below w.heap.size w w' ∧ C.length ≤ k ∧ A.length ≤ k ∧ Hid (A.length = C.length) ∧ Hid (C ++ keptL (s.data.toList.drop k) = keptL s.data.toList) ∧ Hid (A ++ atL (s.data.toList.drop k) k = atL s.data.toList 0)) (fun x _ => s.size - (intOf x).toNat)
 case atStart =>
  exact ⟨0, [], [], rfl, by omega, ⟨⟨.slice none 0 0, .slice none 0 0, by simp [go_sem], by simp [go_sem], World.ownsRow_nil .., World.ownsRow_nil ..⟩, fun o => by simp [go_sem], by simp⟩, (Below.refl _ _).alloc (Nat.le_refl _) _, by simp, by simp, rfl, rfl, rfl⟩
 case round =>
  obtain ⟨k, C, A, rfl, hk, hrd, hbw, hCk, hAk, HAk, HC, HA⟩ := hrel
  obtain ⟨⟨vc, va, hvc, hva, hoc, hoa⟩, fz, lt⟩ := hrd
  by_cases hlt : k < s.size
  ·cases hbk : blankB s[k]
   case true =>
    go_wp2_with (first | (go_at_call 76; refine (blank_any _ _).mono ?_; rintro e w' ⟨rfl, rfl⟩))
    exact ⟨⟨k + 1, C, A, by go_num, by omega, ⟨⟨vc, va, hvc, hva, hoc, hoa⟩, fz, lt⟩, hbw, by omega, by omega, HAk, (kept_blank hlt hbk).trans HC.out, (at_blank hlt hbk).trans HA.out⟩, by simp [intOf]; omega⟩
   case false =>
    go_upto_region 7 with (first | (go_at_call 76; refine (blank_any _ _).mono ?_; rintro e w' ⟨rfl, rfl⟩))
    go_cut [] from 8 to 41 (fun wx => Reading wx w.heap.size (C ++ [s[k]]) A ∧ Below w.heap.size w wx)
    case first =>
     go_region_law (refine step_append_own rfl (.tmp 24) (.tmp 28) 107 rfl (w.heap.size + 1) 5 i5 (.int .u8 0) 1 1 Tryz.underlying107 hi5 hz5 hs5 hb5 rfl (by decide) vc C.length (C.map byteV) (by simp [Act.eval, Act.put]) (by exact (hoc.alloc _).drew) ⟨w'.heap.size, 0, none⟩ 1 1 [byteV s[k]] (by simp [Act.eval, Act.put]) rfl (by exact one_new w' (byteV s[k]) 5) (one_cell _ rfl) (by unfold maxLen; omega) (by omega) (by simp; omega) ?_; intro v' w2 hown hgrow; have hbh := behind_of (b := w.heap.size) (vc := vc) (va := va) (by exact (World.cell?_alloc_past _ _ _ lt).trans hvc) (by exact (World.cell?_alloc_past _ _ _ lt).trans hva) (by exact fun o => (World.frozen?_alloc_past _ _ _ lt).trans (fz o)) hgrow (fun q hq => (hoc.lt q hq).1); have hoa2 := (hoa.alloc (.cells #[byteV s[k]] 5)).drew.kept hgrow (own_apart hoa hoc (by decide)); have q0 := hbh.c0; have q1 := hbh.c1; have q2 := hbh.fz; obtain ⟨g, cap, rfl⟩ := Joins.ownsRow_form hown (by omega))
     all_goals (go_wp2_with fail; go_meet)
     all_goals exact ⟨reading_c hbh hown hoa2, ((hbw.alloc (Nat.le_of_lt lt) _).drew.trans (hbh.below.mono (Nat.le_succ _))).setCell (Nat.le_refl _) _⟩
    case rest =>
     obtain ⟨⟨⟨vc1, va1, hvc1, hva1, hoc1, hoa1⟩, fz1, lt1⟩, hbx⟩ := hcut
     clear hvc hva hoc hoa fz lt hbw
     go_wp2_with (at_builtin; refine wpList_append_own _ rfl (.tmp 36) (.tmp 38) 22 rfl (w.heap.size + 1) 3 i3 (.int .i64 0) 1 8 Tryz.underlying22 hi3 hz3 hs3 hb3 rfl (by decide) va1 A.length (A.map intV) (by rfl) (by exact hoa1.alloc _) ⟨wc.heap.size, 0, none⟩ 1 1 [intV k] (by rfl) rfl (by exact one_new wc (intV k) 3) (one_cell _ rfl) (by unfold maxLen; omega) (by omega) (by simp; omega) ?nxt)
     case nxt =>
      intro v' w2 hown hgrow _
      have hbh := behind_of (b := w.heap.size) (vc := vc1) (va := va1) (by exact (World.cell?_alloc_past _ _ _ lt1).trans hvc1) (by exact (World.cell?_alloc_past _ _ _ lt1).trans hva1) (by exact fun o => (World.frozen?_alloc_past _ _ _ lt1).trans (fz1 o)) hgrow (fun q hq => (hoa1.lt q hq).1)
      have hoc2 := (hoc1.alloc (.cells #[intV k] 3)).kept hgrow (own_apart hoc1 hoa1 (by decide))
      have q0 := hbh.c0
      have q1 := hbh.c1
      have q2 := hbh.fz
      have hform := Joins.ownsRow_form hown (by omega)
      obtain ⟨g, cap, hv'⟩ := hform
      subst hv'
      go_wp2
      exact ⟨⟨k + 1, C ++ [s[k]], A ++ [(k : Int)], by go_num, by omega, reading_a hbh hown hoc2, ((hbx.alloc (Nat.le_of_lt lt1) _).trans (hbh.below.mono (Nat.le_succ _))).setCell (Nat.le_refl _) _, by simp; omega, by simp; omega, by show _ = _; have := HAk.out; simp; omega, (kept_more hlt hbk).trans HC.out, (at_more hlt hbk).trans HA.out⟩, by simp [intOf]; omega⟩
  ·have hC2 : C = keptL s.data.toList := by
    have := HC.out
    rw [List.drop_of_length_le (by simp; omega)] at this
    simpa [keptL] using this
   have hA2 : A = atL s.data.toList 0 := by
    have := HA.out
    rw [List.drop_of_length_le (by simp; omega)] at this
    simpa [atL] using this
   have HBK : Hid (BookAt wr w.heap.size (keptL s.data.toList) (atL s.data.toList 0)) := by
    have := book_of ⟨⟨vc, va, hvc, hva, hoc, hoa⟩, fz, lt⟩ HAk.out (by omega)
    rw [hC2, hA2] at this
    exact this
   clear hC2 hA2 hvc hva hoc hoa
   go_wp2
   go_ret
   exact ⟨rfl, hbw, HBK.out⟩
end Go.Proofs.YtdgmoiflahoihaaGreatDoor
namespace Go.Proofs.YtdgmoiflahoihaaGreatDoor
open Go.RowKit
set_option linter.unusedSimpArgs false
set_option linter.unusedVariables false
theorem and_pow (m n e : Nat) (hm : m < 2 ^ e) (hn : n ≤ 26) (he : e ≤ 26) : bits .and .i64 (m : Int) (wrap64 (2 ^ n)) = ((m &&& 2 ^ n : Nat) : Int) := by
 have h1 : 2 ^ n ≤ 2 ^ 26 := Nat.pow_le_pow_right (by omega) hn
 have h2 : 2 ^ e ≤ 2 ^ 26 := Nat.pow_le_pow_right (by omega) he
 have h4 : ((2 ^ n : Nat) : Int) = (2 : Int) ^ n := by simp
 have h3 : wrap64 (2 ^ n) = ((2 ^ n : Nat) : Int) := by
  rw [← IntWalk.i64_left, ← h4]
  generalize 2 ^ n = q at h1
  exact IntWalk.i64_in _ ⟨by omega, by omega⟩
 rw [h3]
 exact i64_and_nat m (2 ^ n) (by omega) (by omega)
theorem ret_bool {a b : Bool} (h : a = b) : Ending.returned (.bool a) = .returned (.bool b) := by rw [h]
set_option maxHeartbeats 400000 in
theorem goes_any (a b : Nat) (w : World) (ha : a < 16) (hb : b < 16) :
  Calls Tryz.prog 22 #[.int .i64 a, .int .i64 b] w fun e w' => e = .returned (.bool (goesB a b)) ∧ w' = w := by
 have ho := i64_or_nat a b (by omega) (by omega)
 go_enter Tryz.func22, Tryz.ntmps22
 go_wp2
 go_ret
 exact ⟨ret_bool (by rw [Bool.eq_iff_iff]; simp [goesB]; omega), rfl⟩
def natV (n : Nat) : Value := .int .i64 n
def arrV (of : List Nat) : Array Value := (of.map natV).toArray
set_option maxHeartbeats 400000 in
theorem together_any (of : List Nat) (names : Nat) (w : World) (hof : of.length = 26) (h16 : ∀ x ∈ of, x < 16) (hn : names < 2 ^ 26) :
  Calls Tryz.prog 110 #[.agg (arrV of), .int .i64 names] w fun e w' => e = .returned (.int .i64 (togC of names)) ∧ w' = w.alloc (.cells (arrV of) 69) := by
 have hsz : (arrV of).size = 26 := by simp [arrV, hof]
 go_enter Tryz.func110, Tryz.ntmps110
 go_wp2
 go_loop [5, 6] (fun x y => ∃ (k l : Nat), y = .int .i64 k ∧ x = .int .i64 l ∧ k ≤ 26 ∧ l < 16 ∧ Hid (togR of names (26 - k) l = togC of names)) (fun _ y => 26 - (intOf y).toNat)
 case atStart => exact ⟨0, 0, rfl, rfl, by omega, by omega, rfl⟩
 case round =>
  obtain ⟨k, l, rfl, rfl, hk, hl, HT⟩ := hrel
  by_cases hlt : k < 26
  ·have hcell : (w.alloc (.cells (arrV of) 69)).cell? ⟨w.heap.size, k, none⟩ = some (.int .i64 (of.getD k 0 : Nat)) := by
    simp [go_sem, arrV, natV, hof, hlt]
   have hol : of.getD k 0 < 16 := by
    rw [List.getD_eq_getElem?_getD, List.getElem?_eq_getElem (by omega)]
    exact h16 _ (List.getElem_mem _)
   have hap := and_pow names k 26 hn (by omega) (by omega)
   by_cases hb : names &&& 2 ^ k = 0
   ·have HF : Hid _ := tog_no (of := of) (l := l) hlt hb
    rw [hb] at hap
    have HAP : Hid (bits .and .i64 (names : Int) (wrap64 (2 ^ k)) = ((0 : Nat) : Int)) := hap
    clear hap hb hcell
    have tb : (bits .and .i64 (names : Int) (wrap64 (2 ^ k)) != 0) = false := by rw [HAP.out]; rfl
    go_wp2
    exact ⟨⟨k + 1, l, by go_num, rfl, by omega, hl, HF.out.trans HT.out⟩, by simp [intOf]; omega⟩
   ·have HF : Hid _ := tog_yes (of := of) (l := l) hlt hb
    have tb : (bits .and .i64 (names : Int) (wrap64 (2 ^ k)) != 0) = true := by rw [hap]; simpa using hb
    have ho := i64_or_nat l (of.getD k 0) (by omega) (by omega)
    have hlq := or_lt16 hl hol
    clear hap hb
    generalize of.getD k 0 = q at *
    go_wp2
    exact ⟨⟨k + 1, l ||| q, by go_num, rfl, by omega, hlq, HF.out.trans HT.out⟩, by simp [intOf]; omega⟩
  ·have HF : Hid (l = togC of names) := by
    have t := HT.out
    rw [show 26 - k = 0 by omega] at t
    exact t
   go_wp2
   go_ret
   exact ⟨ret_int (by rw [HF.out]), rfl⟩
end Go.Proofs.YtdgmoiflahoihaaGreatDoor
