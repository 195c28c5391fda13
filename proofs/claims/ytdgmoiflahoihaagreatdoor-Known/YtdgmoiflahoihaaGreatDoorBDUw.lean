import Derived.Test.YtdgmoiflahoihaaGreatDoorBDRw
import Derived.Deep.AppendSrc

namespace Go.Proofs.YtdgmoiflahoihaaGreatDoor
open Go.RowKit
set_option linter.unusedSimpArgs false
set_option linter.unusedVariables false
theorem infoLine : (Tryz.prog.info? 89).map (fun i => (i.zero, i.size, i.bytes)) = some (some (.agg #[.int .i64 0, .int .i64 0, .int .i64 0]), 3, 24) := by kernel_rfl
theorem take_len (x : Sc) (lo hi : UInt8) : (x.take lo hi).2.rest.length ≤ x.rest.length := by
 unfold Sc.take
 split
 ·rename_i e; rw [e]; exact Nat.le_refl _
 ·rename_i c r e
  rw [e]
  split
  ·simp only [List.length_cons]; omega
  ·exact Nat.le_refl _
theorem minF_len (B : Nat) : ∀ (r : List UInt8) (v : Nat), (bdMinF B r v).2.1.length ≤ r.length
 | [], v => Nat.le_refl _
 | c :: r, v => by
  unfold bdMinF
  split
  ·split
   ·simp only [List.length_cons]; omega
   ·have := minF_len B r (10 * v + (c.toNat - 48))
    simp only [List.length_cons]; omega
  ·exact Nat.le_refl _
theorem minus_len (x : Sc) (B : Nat) : (x.minus B).2.rest.length ≤ x.rest.length := by
 unfold Sc.minus
 exact Nat.le_trans (minF_len B _ _) (take_len _ _ _)
theorem number_len (x : Sc) (B : Nat) : (x.number B).2.rest.length ≤ x.rest.length := by
 unfold Sc.number
 split
 ·exact take_len _ _ _
 ·exact minus_len _ _
theorem value_len (x : Sc) : x.value.2.rest.length ≤ x.rest.length := by
 unfold Sc.value
 split
 ·exact Nat.le_trans (take_len _ _ _) (take_len _ _ _)
 ·split
  ·exact Nat.le_trans (minus_len _ _) (take_len _ _ _)
  ·exact number_len _ _
theorem line_len (x : Sc) : x.line.2.rest.length ≤ x.rest.length := by
 unfold Sc.line
 exact Nat.le_trans (take_len _ _ _) (Nat.le_trans (value_len _) (Nat.le_trans (take_len _ _ _) (number_len _ _)))
theorem line_less {x : Sc} (h : x.line.2.bad = false) : x.line.2.rest.length + 2 ≤ x.rest.length := by
 have := congrArg List.length (line_sound h).2.1
 simp only [List.length_append, List.length_cons, lineB] at this
 omega
def togoSc (s : ByteArray) (b : Nat) (w : World) : Nat := 2 * (s.size - (intOf ((w.cell? ⟨b, 1, none⟩).getD undef)).toNat) + (match w.cell? ⟨b, 2, none⟩ with | some (.bool true) => 0 | _ => 1)
theorem togo_at {w : World} {b : Nat} {s : ByteArray} {x : Sc} (h : ScAt w b s x) : togoSc s b w = 2 * x.rest.length + (if x.bad then 0 else 1) := by
 obtain ⟨p, h1, h2⟩ := h.len
 unfold togoSc
 rw [h2, h.c2]
 have e : s.size - (intOf ((some (Value.int .i64 (p : Nat))).getD undef)).toNat = x.rest.length := by simp [intOf]; omega
 rw [e]
 cases x.bad <;> rfl
theorem three_at (w : World) (g : Nat) (hg : g = w.heap.size) (a0 a1 a2 : Value) (t : TypeId) : ∀ j u, [a0, a1, a2][j]? = some u → (w.alloc (.cells #[a0, a1, a2] t)).cell? ((⟨g, 0, none⟩ : Addr).add j) = some u := by
 subst hg
 intro j u h
 match j, h with
 | 0, h => simp at h; subst h; simp [go_sem, Addr.add]
 | 1, h => simp at h; subst h; simp [go_sem, Addr.add]
 | 2, h => simp at h; subst h; simp [go_sem, Addr.add]
 | j + 3, h => simp at h
theorem lines_append {w w3 W w4 : World} {s : ByteArray} {x : Sc} {v v' : Value} {l : List Ln} {q : Ln} {o1 o2 : Obj} (hW : W = (w3.alloc o1).alloc o2)
  (hB : Below w.heap.size w w3) (hr : ScAt w3 w.heap.size s x) (hm : w3.ownsRow (w.heap.size + 1) 89 3 v l.length (lnCells l))
  (ho : w4.ownsRow (w.heap.size + 1) 89 3 v' (l.length + 1) (lnCells l ++ lnCell q)) (hg : W.grownBy w4 v.ownBlock) :
  w4.ownsRow (w.heap.size + 1) 89 3 v' (l ++ [q]).length (lnCells (l ++ [q])) ∧ ScAt w4 w.heap.size s x ∧ Below w.heap.size w w4 := by
 subst hW
 have hsz := hB.size
 have hlt := hr.lt
 have hown : ∀ k, v.ownBlock = some k → w.heap.size + 1 ≤ k := fun k hk => (hm.lt k hk).1
 refine ⟨?_, ?_, ?_⟩
 ·rw [List.length_append]
  have : lnCells (l ++ [q]) = lnCells l ++ lnCell q := by simp [lnCells]
  rw [this]
  exact ho
 ·refine ((hr.alloc o1).alloc o2).block (hg.block _ (by simp; omega) (fun e => ?_))
  have := hown _ e.symm
  omega
 ·exact ⟨hg.os.trans hB.os, hg.tape.trans hB.tape, hg.output.trans hB.output, by have := hg.size; simp at this; omega, fun k hk => ((hg.block k (by simp; omega) (fun e => by have := hown k e.symm; omega)).trans (by rw [Below.heap_alloc _ _ _ (by simp; omega), Below.heap_alloc _ _ _ (by omega)])).trans (hB.block k hk)⟩
theorem low_but {w w1 w2 : World} {b : Nat} (h : Below b w w1) (hb : But b w1 w2) (hw : b ≤ w1.heap.size) (hbw : b ≤ w.heap.size) : Below b w w2 :=
 ⟨hb.os.trans h.os, hb.tape.trans h.tape, hb.output.trans h.output, Nat.le_trans h.size hb.size, fun k hk => (hb.block k (by omega) (fun e => by cases e; omega)).trans (h.block k hk)⟩
theorem scan_new (w : World) (s : ByteArray) (t : TypeId) : ScAt (w.alloc (.cells #[.string s, .int .i64 0, .bool false] t)) w.heap.size s ⟨s.data.toList, false⟩ := by
 refine ⟨⟨0, Nat.zero_le _, rfl, ?_⟩, ?_, ?_, fun o => ?_⟩
 all_goals simp [go_sem]
def ReadPost (w : World) (r : Option (List Ln)) (e : Ending) (w' : World) : Prop :=
 (match r with
  | none => e = .returned (.tuple #[.slice none 0 0, .int .i64 10])
  | some l => ∃ v, e = .returned (.tuple #[v, .int .i64 0]) ∧ w'.ownsRow (w.heap.size + 1) 89 3 v l.length (lnCells l)) ∧ Below w.heap.size w w'
theorem readF_bad {x : Sc} (h : x.bad = true) : ∀ n, readF n x = ([], x)
 | 0 => rfl
 | n + 1 => by
  unfold readF
  rw [h]
  rfl
theorem read_end {s : List UInt8} {n : Nat} {x : Sc} {M : List Ln} (hn : x.rest.length < n) (hx : (x.bad || x.rest.isEmpty) = true) (h : (M ++ (readF n x).1, (readF n x).2) = readF (s.length + 1) ⟨s, false⟩) : readP s = if x.bad then none else some M := by
 cases n with
 | zero => omega
 | succ n =>
  unfold readP
  generalize readF (s.length + 1) ⟨s, false⟩ = RR at h ⊢
  unfold readF at h
  rw [if_pos hx] at h
  rw [← h]
  simp
set_option maxRecDepth 100000 in
set_option maxHeartbeats 4000000 in
theorem bdRead_any (s : ByteArray) (w : World) (hs : s.size ≤ 100000000) :
  Calls Tryz.prog 64 #[.string s] w (ReadPost w (readP s.data.toList)) := by
 obtain ⟨iV, hiV, hzV, hsV, hbV⟩ := parts_of_info infoLine
 have HLN : Hid (∀ x w', ScAt w' w.heap.size s x → Calls Tryz.prog 97 #[.pointer (some ⟨w.heap.size, 0, none⟩)] w' fun e w'' => e = .returned (lnV x.line.1) ∧ ScAt w'' w.heap.size s x.line.2 ∧ But w.heap.size w' w'') := fun x w' h => bdLine_any w.heap.size s x w' h hs
 have HEN : Hid (∀ x w', ScAt w' w.heap.size s x → Calls Tryz.prog 96 #[.pointer (some ⟨w.heap.size, 0, none⟩)] w' fun e w'' => e = .returned (.bool x.rest.isEmpty) ∧ ∃ n, w'' = w'.drewN n) := fun x w' h => bdEnd_any w.heap.size s x w' h hs
 have hS0 := scan_new w s 167
 have hB0 : Below w.heap.size w (w.alloc (.cells #[.string s, .int .i64 0, .bool false] 167)) := (Below.refl _ _).alloc (Nat.le_refl _) _
 have HP : Hid (ReadPost w (readP s.data.toList) = ReadPost w (readP s.data.toList)) := rfl
 generalize hPP : ReadPost w (readP s.data.toList) = PP at HP
 have HPP : Hid (ReadPost w (readP s.data.toList) = PP) := hPP
 clear hPP HP
 go_enter Tryz.func64, Tryz.ntmps64
 go_wp2_with fail
 go_loopw [5] (fun v w' => ∃ (an : Option Addr) (nn cn : Nat) (M : List Ln) (x : Sc), v = .slice an nn cn ∧ Hid (w'.ownsRow (w.heap.size + 1) 89 3 (.slice an nn cn) M.length (lnCells M)) ∧ Hid (ScAt w' w.heap.size s x) ∧ Hid (Below w.heap.size w w') ∧ M.length + x.rest.length ≤ s.size + (if x.bad then 1 else 0) ∧ Hid (∃ n, x.rest.length < n ∧ (M ++ (readF n x).1, (readF n x).2) = readF (s.data.toList.length + 1) ⟨s.data.toList, false⟩)) (fun _ w' => togoSc s w.heap.size w')
 case atStart =>
  refine ⟨none, 0, 0, [], ⟨s.data.toList, false⟩, rfl, World.ownsRow_nil .., hS0, hB0, by simp, ⟨s.data.toList.length + 1, by simp, ?_⟩⟩
  rw [List.nil_append]
 case round =>
  obtain ⟨an, nn, cn, M, x, rfl, HO, HS, HW, hM, HF⟩ := hrel
  have c2 := HS.out.c2
  have hws := HW.out.size
  have hrl : x.rest.length ≤ s.size := by obtain ⟨p, hp, _⟩ := HS.out.len; omega
  cases hb : x.bad
  ·rw [hb] at c2
   cases he : x.rest.isEmpty
   ·have hne : (x.bad || x.rest.isEmpty) = false := by rw [hb, he]; rfl
    have hlen := line_len x
    have hM2 : M.length + 1 + x.line.2.rest.length ≤ s.size + (if x.line.2.bad then 1 else 0) := by
     rw [hb] at hM
     simp only [Bool.false_eq_true, if_false] at hM
     cases hk : x.line.2.bad
     ·have := line_less hk
      simp only [Bool.false_eq_true, if_false]
      omega
     ·simp only [if_true]
      omega
    have htg : 2 * x.line.2.rest.length + (if x.line.2.bad then 0 else 1) < 2 * x.rest.length + (if x.bad then 0 else 1) := by
     rw [hb]
     cases hk : x.line.2.bad
     ·have := line_less hk
      simp only [Bool.false_eq_true, if_false]
      omega
     ·simp only [Bool.false_eq_true, if_false, if_true]
      omega
    have HF2 : Hid (∃ n, x.line.2.rest.length < n ∧ ((M ++ [x.line.1]) ++ (readF n x.line.2).1, (readF n x.line.2).2) = readF (s.data.toList.length + 1) ⟨s.data.toList, false⟩) := by
     obtain ⟨n, hn1, hn2⟩ := HF.out
     generalize readF (s.data.toList.length + 1) ⟨s.data.toList, false⟩ = RR at hn2 ⊢
     cases n with
     | zero => omega
     | succ n =>
      unfold readF at hn2
      rw [if_neg (by rw [hne]; exact Bool.false_ne_true)] at hn2
      cases hk : x.line.2.bad
      ·have := line_less hk
       exact ⟨n, by omega, by rw [← hn2]; simp⟩
      ·rw [readF_bad hk n] at hn2
       exact ⟨x.line.2.rest.length + 1, by omega, by rw [← hn2, readF_bad hk]; simp⟩
    have HL := HLN.out x
    have HE := HEN.out x
    rw [he] at HE
    have HT : Hid (togoSc s w.heap.size wr = 2 * x.rest.length + (if x.bad then 0 else 1)) := togo_at HS.out
    generalize x.line = R at *
    obtain ⟨q, y⟩ := R
    simp only at HL HF2 hlen hM2 htg
    have HL2 : Hid _ := HL
    have HE2 : Hid _ := HE
    clear HL HE HLN HEN HF
    have hMM : M.length ≤ 100000000 := by rw [hb] at hM; simp only [Bool.false_eq_true, if_false] at hM; omega
    have hpos : 0 < M.length + 1 := by omega
    have m1 : M.length + 1 ≤ maxLen := by unfold maxLen; omega
    have m2 : (M.length + 1) * 24 ≤ 140737488355328 := by omega
    go_wp2_with (first | (go_at_call 96; refine (HE2.out _ HS.out).mono ?_; rintro e wa ⟨rfl, na, hwa⟩; have HSa : Hid (ScAt wa w.heap.size s x) := (by subst hwa; exact HS.out.drewN na); have HOa : Hid (wa.ownsRow (w.heap.size + 1) 89 3 (.slice an nn cn) M.length (lnCells M)) := (by subst hwa; exact HO.out); have HWa : Hid (Below w.heap.size w wa) := (by subst hwa; exact HW.out.trans ⟨rfl, rfl, rfl, Nat.le_refl _, fun _ _ => rfl⟩); clear hwa) | (go_at_call 97; refine (HL2.out _ HSa.out).mono ?_; rintro e wb ⟨rfl, hsb, hbb⟩; have HSb : Hid (ScAt wb w.heap.size s y) := hsb; have HOb : Hid (wb.ownsRow (w.heap.size + 1) 89 3 (.slice an nn cn) M.length (lnCells M)) := own_but HOa.out hbb (Nat.lt_succ_self _); have HWb : Hid (Below w.heap.size w wb) := low_but HWa.out hbb HWa.out.size (Nat.le_refl _); clear hsb hbb; have hwb := HWb.out.size) | (at_builtin; refine wpList_append_fresh rfl (.tmp 17) (.tmp 19) 82 rfl (w.heap.size + 1) 89 iV (.agg #[.int .i64 0, .int .i64 0, .int .i64 0]) 3 24 Tryz.underlying82 hiV hzV hsV hbV rfl (by decide) (.slice an nn cn) M.length (lnCells M) (by rfl) (by exact (HOb.out.alloc _).alloc _) ⟨wb.heap.size + 1, 0, none⟩ 1 1 (lnCell q) (by rfl) rfl (by exact three_at _ _ (by simp) _ _ _ 89) (by intro q hq; simp [lnCell] at hq; rcases hq with rfl | rfl | rfl <;> rfl) m1 m2 (by simp; omega) (by decide) ?_; intro v' w4 hown hgrow hfr; obtain ⟨a1, a2, a3⟩ := lines_append rfl HWb.out HSb.out HOb.out hown hgrow; clear hfr hgrow; obtain ⟨gn, capn, rfl⟩ := Joins.ownsRow_form hown hpos; have A1 : Hid _ := a1; have A2 : Hid (ScAt w4 w.heap.size s y) := a2; have A3 : Hid (Below w.heap.size w w4) := a3; clear hown a1 a2 a3))
    refine ⟨⟨_, _, _, M ++ [q], y, rfl, ?_, A2, A3, ?_, HF2⟩, ?_⟩
    ·exact A1.out
    ·rw [List.length_append]
     exact hM2
    ·rw [HT.out, togo_at A2.out]
     exact htg
   ·have hx : (x.bad || x.rest.isEmpty) = true := by rw [he, Bool.or_true]
    obtain ⟨n, hn1, hn2⟩ := HF.out
    have hr := read_end hn1 hx hn2
    rw [hb] at hr
    simp only [Bool.false_eq_true, if_false] at hr
    rw [hr] at HPP
    have HE := HEN.out x
    rw [he] at HE
    have HE2 : Hid _ := HE
    clear HE HEN hn2 HF HLN
    go_wp2_with (first | (go_at_call 96; refine (HE2.out _ HS.out).mono ?_; rintro e wa ⟨rfl, na, hwa⟩; have c2a : wa.cell? ⟨w.heap.size, 2, none⟩ = some (.bool false) := (by subst hwa; exact c2); have HOa : Hid (wa.ownsRow (w.heap.size + 1) 89 3 (.slice an nn cn) M.length (lnCells M)) := (by subst hwa; exact HO.out); have HWa : Hid (Below w.heap.size w wa) := (by subst hwa; exact HW.out.trans ⟨rfl, rfl, rfl, Nat.le_refl _, fun _ _ => rfl⟩); clear hwa))
    rw [← HPP.out]
    exact ⟨⟨_, rfl, HOa.out⟩, HWa.out⟩
  ·have hx : (x.bad || x.rest.isEmpty) = true := by rw [hb]; rfl
   obtain ⟨n, hn1, hn2⟩ := HF.out
   have hr := read_end hn1 hx hn2
   rw [hb] at hr
   simp only [if_true] at hr
   rw [hr] at HPP
   rw [hb] at c2
   clear HEN hn2 HF HLN
   go_wp2_with fail
   rw [← HPP.out]
   exact ⟨rfl, HW.out⟩
theorem tariffRead_any (s : ByteArray) (w : World) (hs : s.size ≤ 100000000) :
  Calls Tryz.prog 39 #[.string s] w (ReadPost w (readP s.data.toList)) := by
 have HR : Hid (∀ w, Calls Tryz.prog 64 #[.string s] w (ReadPost w (readP s.data.toList))) := fun w => bdRead_any s w hs
 cases hr : readP s.data.toList with
 | none =>
  rw [hr] at HR
  go_enter Tryz.func39, Tryz.ntmps39
  go_wp2_with (go_at_call 64; refine (HR.out _).mono ?_; rintro e w1 ⟨rfl, hb1⟩; have HB : Hid (Below w.heap.size w w1) := hb1; clear hb1)
  go_ret2
  exact ⟨rfl, HB.out⟩
 | some l =>
  rw [hr] at HR
  go_enter Tryz.func39, Tryz.ntmps39
  go_wp2_with (go_at_call 64; refine (HR.out _).mono ?_; rintro e w1 ⟨⟨v, rfl, ho⟩, hb1⟩; have HB : Hid (Below w.heap.size w w1) := hb1; have HO : Hid _ := ho; clear hb1 ho)
  go_ret2
  exact ⟨⟨_, rfl, HO.out⟩, HB.out⟩
end Go.Proofs.YtdgmoiflahoihaaGreatDoor
