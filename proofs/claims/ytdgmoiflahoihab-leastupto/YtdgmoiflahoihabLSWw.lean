import Derived.Test.YtdgmoiflahoihabKWw
import Derived.Test.YtdgmoiflahoihabPLe6w
import Derived.Laws.Strings
import Derived.Deep.Upon

namespace Go.Proofs.Ytdgmoiflahoihab
open Go.RowKit
set_option linter.unusedSimpArgs false
set_option linter.unusedVariables false
theorem conv_byte (W : World) (n : Nat) (h : n < 256) : (convert 26 9 (.slice (some ⟨W.heap.size, 0, none⟩) 1 1)).run Try.prog (W.alloc (.cells #[.int .u8 (n : Int)] 5)) = .ok (.string ⟨#[UInt8.ofNat n]⟩) (W.alloc (.cells #[.int .u8 (n : Int)] 5)) := by
 refine run_convert_bytes_back (P := Try.prog) _ 26 9 5 ⟨W.heap.size, 0, none⟩ 1 [UInt8.ofNat n] Try.underlying26 Try.underlying5 Try.underlying9 ?_
 intro j hj
 match j, hj with
 | 0, _ =>
  have e : n % 256 = n := Nat.mod_eq_of_lt h
  simp [go_sem, Addr.add, e]
theorem lsand_pow (m n : Nat) (hm : m < 2 ^ 26) (hn : n ≤ 26) : bits .and .i64 (m : Int) (wrap64 (2 ^ n)) = ((m &&& 2 ^ n : Nat) : Int) := by
 have h2 : (2 : Nat) ^ n ≤ 2 ^ 26 := Nat.pow_le_pow_right (by decide) hn
 have e : wrap64 (2 ^ n) = ((2 ^ n : Nat) : Int) := by
  have e1 : ((2 : Int) ^ n) = ((2 ^ n : Nat) : Int) := by simp
  rw [e1]
  generalize (2 : Nat) ^ n = q at h2
  unfold wrap64
  omega
 rw [e]
 exact i64_and_nat m (2 ^ n) (by omega) (by omega)
theorem and_bit (m n : Nat) : (m &&& 2 ^ n = 0) ↔ m.testBit n = false := by
 constructor
 ·intro h
  have := congrArg (fun q => q.testBit n) h
  simpa [Nat.testBit_and, Nat.testBit_two_pow_self] using this
 ·intro h
  apply Nat.eq_of_testBit_eq
  intro i
  rw [Nat.testBit_and, Nat.testBit_two_pow, Nat.zero_testBit]
  by_cases e : n = i
  ·subst e
   rw [h]
   rfl
  ·simp [e]
def labR (L : Nat) : Nat → Nat → List UInt8
 | 0, _ => []
 | n + 1, k => (if L.testBit k then [UInt8.ofNat (65 + k)] else []) ++ labR L n (k + 1)
theorem labR_labB : ∀ L, L < 16 → labB L = if labR L 4 0 = [] then [45] else labR L 4 0 := by decide
def labS (L : Nat) : ByteArray := ⟨(labB L).toArray⟩
theorem arr_of_list {S : ByteArray} {l : List UInt8} (h : S.data.toList = l) : S = ⟨l.toArray⟩ := by
 subst h
 simp
set_option maxRecDepth 100000 in
set_option maxHeartbeats 1000000 in
theorem label_any (L : Nat) (hL : L < 16) (w : World) :
  Calls Try.prog 29 #[.int .i64 (L : Int)] w fun e w' => e = .returned (.string (labS L)) ∧ Below w.heap.size w w' := by
 have HL : Hid (labB L = if labR L 4 0 = [] then [45] else labR L 4 0) := labR_labB L hL
 have HD : Hid (([] : List UInt8) ++ labR L 4 0 = labR L 4 0) := rfl
 generalize hD : labR L 4 0 = D at HL
 rw [show Hid (([] : List UInt8) ++ labR L 4 0 = labR L 4 0) = Hid (([] : List UInt8) ++ labR L 4 0 = D) by rw [hD]] at HD
 clear hD
 go_enter Try.func29, Try.ntmps29
 go_wp2_with fail
 go_loopw [3, 4] (fun x y w' => ∃ (k : Nat) (S : ByteArray), x = .string S ∧ y = .int .i64 k ∧ k ≤ 4 ∧ S.size ≤ k ∧ Hid (S.data.toList ++ labR L (4 - k) k = D) ∧ Hid (Below w.heap.size w w')) (fun _ y _ => 4 - (intOf y).toNat)
 case atStart => exact ⟨0, ByteArray.empty, rfl, rfl, by omega, by decide, HD, Below.refl _ _⟩
 case round =>
  obtain ⟨k, S, rfl, rfl, hk, hS, HR, HW⟩ := hrel
  by_cases hlt : k < 4
  ·have hap := lsand_pow L k (by omega) (by omega)
   have hr := HR.out
   rw [show 4 - k = (4 - (k + 1)) + 1 by omega] at hr
   unfold labR at hr
   cases hb : L.testBit k
   ·rw [hb] at hr
    have tb : (bits .and .i64 (L : Int) (wrap64 (2 ^ k)) != 0) = false := by rw [hap, (and_bit L k).mpr hb]; rfl
    have HN : Hid (S.data.toList ++ labR L (4 - (k + 1)) (k + 1) = D) := by show _ = _; simpa using hr
    clear hap hr hb
    go_wp2_with fail
    go_roundw
    case rel => exact ⟨k + 1, S, rfl, by go_num, by omega, by omega, HN, HW⟩
    case measure => simp [intOf]; omega
   ·rw [hb, if_pos rfl] at hr
    have tb : (bits .and .i64 (L : Int) (wrap64 (2 ^ k)) != 0) = true := by
     rw [hap]
     have : ¬ (L &&& 2 ^ k = 0) := fun e => by rw [(and_bit L k).mp e] at hb; cases hb
     simp only [bne_iff_ne, ne_eq]
     omega
    have HN : Hid ((S ++ ⟨#[UInt8.ofNat (65 + k)]⟩).data.toList ++ labR L (4 - (k + 1)) (k + 1) = D) := by
     show _ = _
     rw [← hr, ByteArray.data_append]
     simp
    have hcv := conv_byte wr (65 + k) (by omega)
    rw [show ((65 + k : Nat) : Int) = 65 + (k : Int) by omega] at hcv
    generalize UInt8.ofNat (65 + k) = c at hcv HN
    clear hap hr hb
    go_wp2_with fail
    go_roundw
    case rel => exact ⟨k + 1, _, rfl, by go_num, by omega, by rw [ByteArray.size_append]; show S.size + 1 ≤ _; omega, HN, HW.out.alloc HW.out.size _⟩
    case measure => simp [intOf]; omega
  ·have hS2 : S.data.toList = D := by
    have := HR.out
    rw [show 4 - k = 0 by omega] at this
    simpa [labR] using this
   by_cases hz : D = []
   ·have eS : S = ⟨#[]⟩ := by rw [arr_of_list hS2, hz]
    have eL : labS L = ⟨#[45]⟩ := by unfold labS; rw [HL.out, if_pos hz]
    subst eS
    have EL : Hid (labS L = ⟨#[45]⟩) := eL
    clear hS2 hz eL
    go_wp2_with fail
    go_ret
    exact ⟨by rw [EL.out]; rfl, HW.out⟩
   ·have eL : labS L = S := by unfold labS; rw [HL.out, if_neg hz, arr_of_list hS2]
    have tS : S.toList.isEmpty = false := by
     rw [List.isEmpty_eq_false_iff]
     intro e
     rw [ByteArray.toList_eq, hS2] at e
     exact hz e
    have EL : Hid (labS L = S) := eL
    clear hS2 hz eL
    go_wp2_with fail
    go_ret
    exact ⟨by rw [EL.out]; rfl, HW.out⟩
theorem wpList_append_nothing {P : Program} {w : World} {ops : Array Oper} {rest : List Oper} {o : Oper} {a : Act} {Q : Exit → Act → World → Prop} (hgd : o.guard = none) (s x : Operand) (t : TypeId)
  (ho : o.op = .call { callee := .builtin .append, args := #[s, x], argTypes := #[t, t] })
  (e : TypeId) (i : TypeInfo) (ht : P.underlying t = some (.slice e)) (hi : P.info? e = some i) (b : Option Addr) (n c : Nat) (hn : n ≤ c) (hs : a.eval s = .slice b n c)
  (y : Value) (hx : a.eval x = y) (hy : Src P i.size t y 0 [] w)
  (h : wpList P ops Q rest (a.put o.dst (.slice b n c)) w) : wpList P ops Q (o :: rest) a w := by
 have hr := run_append_nothing (P := P) w t t o.type e i ht hi b n c hn y hy
 refine wpList_plain hgd fun _ hK => ?_
 unfold Oper.wp
 simp [execOp, ho, resolve, invoke, builtin, hs, hx, hr, Result.andThen]
 exact hK _ _ h
theorem or_pow (m n : Nat) (hm : m < 2 ^ 26) (hn : n < 26) : bits .or .i64 (m : Int) (wrap64 (2 ^ n)) = ((m ||| 2 ^ n : Nat) : Int) := by
 have h2 : (2 : Nat) ^ n ≤ 2 ^ 26 := Nat.pow_le_pow_right (by decide) (by omega)
 have e : wrap64 (2 ^ n) = ((2 ^ n : Nat) : Int) := by
  have e1 : ((2 : Int) ^ n) = ((2 ^ n : Nat) : Int) := by simp
  rw [e1]
  generalize (2 : Nat) ^ n = q at h2
  unfold wrap64
  omega
 rw [e]
 exact i64_or_nat m (2 ^ n) (by omega) (by omega)
theorem nums_cap {w : World} {base : Nat} {v : Value} {l : List Int} (h : w.ownsRow base 3 1 v l.length (numRow l)) : ∃ ao g cap, v = .slice ao l.length cap ∧ NumCells w ao g 0 l ∧ l.length ≤ cap := by
 rcases h.2 with ⟨rfl, h0⟩ | ⟨g, cap, cur, rfl, hb, hg, hc, hm, hcs, ht⟩
 ·exact ⟨none, 0, 0, by rw [h0], fun i hi => absurd hi (by omega), by omega⟩
 ·refine ⟨some ⟨g, 0, none⟩, g, cap, rfl, fun i hi => ⟨rfl, (h.lt g rfl).2, ?_⟩, by omega⟩
  rw [Nat.zero_add, h.cellAt i (by omega)]
  simp [numRow, List.getElem?_eq_getElem hi]
set_option maxRecDepth 100000 in
set_option maxHeartbeats 2000000 in
theorem standing_any (s : ByteArray) (w : World) (hs : s.size ≤ 2000000) :
  Calls Try.prog 19 #[.string s] w fun e w' => e = .returned (.int .i64 (standP s.data.toList : Nat)) ∧ Below w.heap.size w w' := by
 obtain ⟨iV, hiV, hzV, hsV, hbV⟩ := parts_of_info infoInt3
 have hsl : s.data.toList.length = s.size := by simp
 have l1 := hdsL_len 63 s.data.toList
 have l2 := hdsL_len 33 s.data.toList
 have HA : Hid (∀ w, Calls Try.prog 15 #[.string s, .int .u8 63] w fun e w' => (∃ v, e = .returned v ∧ w'.ownsRow w.heap.size 3 1 v (hdsL 63 s.data.toList).length (numRow (hdsL 63 s.data.toList))) ∧ Below w.heap.size w w') := fun w => kheads_any s 63 w hs
 have HB : Hid (∀ w, Calls Try.prog 15 #[.string s, .int .u8 33] w fun e w' => (∃ v, e = .returned v ∧ w'.ownsRow w.heap.size 3 1 v (hdsL 33 s.data.toList).length (numRow (hdsL 33 s.data.toList))) ∧ Below w.heap.size w w') := fun w => kheads_any s 33 w hs
 have HS : Hid (standP s.data.toList = stB (hdsL 63 s.data.toList ++ hdsL 33 s.data.toList) 0) := rfl
 rw [hsl] at l1 l2
 generalize hdsL 63 s.data.toList = A at *
 generalize hdsL 33 s.data.toList = B at *
 generalize standP s.data.toList = D at *
 clear hsl
 have HLA : Hid (A.length ≤ s.size) := l1
 have HLB : Hid (B.length ≤ s.size) := l2
 clear l1 l2
 go_enter Try.func19, Try.ntmps19
 go_upto_region 3 with (first | (go_at_call 15; refine (HA.out _).mono ?_; rintro e w1 ⟨⟨v1, rfl, ho1⟩, hb1⟩; have HO1 : Hid (w1.ownsRow w.heap.size 3 1 v1 A.length (numRow A)) := ho1; have HB1 : Hid (Below w.heap.size w w1) := hb1; clear ho1 hb1))
 go_upto_region 4 with (first | (go_at_call 15; refine (HB.out _).mono ?_; rintro e w2 ⟨⟨v2, rfl, ho2⟩, hb2⟩; have HO2 : Hid (w2.ownsRow w1.heap.size 3 1 v2 B.length (numRow B)) := ho2; have HB2 : Hid (Below w1.heap.size w1 w2) := hb2; clear ho2 hb2))
 have hB12 : Below w.heap.size w w2 := HB1.out.trans (HB2.out.mono HB1.out.size)
 have hO1 : w2.ownsRow w.heap.size 3 1 v1 A.length (numRow A) := HO1.out.kept (row := none) ⟨HB2.out.os, HB2.out.tape, HB2.out.output, HB2.out.size, fun k hk _ => HB2.out.block k hk⟩ (by
  cases v1.ownBlock <;> simp)
 have HO1b : Hid (w2.ownsRow w.heap.size 3 1 v1 A.length (numRow A)) := hO1
 have HB12 : Hid (Below w.heap.size w w2) := hB12
 clear HB1 HB2 HO1 hO1 hB12
 go_cut [4] from 11 to 13 (fun y wx => ∃ ao g cap, y = .slice ao (A ++ B).length cap ∧ Hid (NumCells wx ao g 0 (A ++ B)) ∧ Hid (Below w.heap.size w wx))
 case first =>
  by_cases hBz : B = []
  ·subst hBz
   obtain ⟨ao, g, cap, rfl, hn, hcap⟩ := nums_cap HO1b.out
   have hsrc : Src Try.prog iV.size 22 v2 0 [] w2 := by
    rcases Joins.ownsRow_forms HO2.out with ⟨rfl, _⟩ | ⟨g2, cap2, rfl⟩
    ·exact Src.ofNil _ Try.underlying22 0
    ·exact Src.ofSlice _ Try.underlying22 _ 0 _ [] (by simp) (by simp) (by simp)
   have HN : Hid (NumCells w2 ao g 0 A) := hn
   have HC : Hid (A.length ≤ cap) := hcap
   have HY : Hid (Src Try.prog iV.size 22 v2 0 [] w2) := hsrc
   clear hn hcap hsrc HO1b HO2
   go_wp2_with (first | (at_builtin; refine wpList_append_nothing rfl (.tmp 11) (.tmp 12) 22 rfl 3 iV Try.underlying22 hiV ao A.length cap HC.out (by rfl) v2 (by rfl) HY.out ?_))
   go_meet
   exact ⟨ao, g, cap, by simp, by rw [List.append_nil]; exact HN, HB12⟩
  ·have hpos : 0 < B.length := List.length_pos_iff.mpr hBz
   obtain ⟨g2, cap2, rfl⟩ := Joins.ownsRow_form HO2.out hpos
   have hnews := HO2.out.cells (g := g2) rfl
   have m1 : A.length + B.length ≤ maxLen := by have := HLA.out; have := HLB.out; unfold maxLen; omega
   have m2 : (A.length + B.length) * 8 ≤ 140737488355328 := by have := HLA.out; have := HLB.out; omega
   have m3 := HB12.out.size
   have HNW : Hid _ := hnews
   have HOB : Hid (∀ k, v1.ownBlock = some k → w.heap.size ≤ k) := fun k hk => (HO1b.out.lt k hk).1
   clear hnews hBz
   go_wp2_with (first | (at_builtin; refine wpList_append_fresh rfl (.tmp 11) (.tmp 12) 22 rfl w.heap.size 3 iV (.int .i64 0) 1 8 Try.underlying22 hiV hzV hsV hbV rfl (by decide) v1 A.length (numRow A) (by rfl) (by exact HO1b.out) ⟨g2, 0, none⟩ B.length cap2 (numRow B) (by rfl) (by rw [numRow_length, Nat.mul_one]) HNW.out (numRow_one B) m1 m2 m3 hpos ?_; intro v' w3 hown hgrow hfr; have hlow : Below w.heap.size w w3 := ⟨hgrow.os.trans HB12.out.os, hgrow.tape.trans HB12.out.tape, hgrow.output.trans HB12.out.output, Nat.le_trans m3 hgrow.size, fun k hk => (hgrow.block k (by omega) (fun e => by have := HOB.out k e.symm; omega)).trans (HB12.out.block k hk)⟩; rw [show numRow A ++ numRow B = numRow (A ++ B) by simp [numRow], ← List.length_append] at hown; obtain ⟨ao, g, cap, rfl, hn⟩ := nums_form hown; have HN : Hid (NumCells w3 ao g 0 (A ++ B)) := hn; have HLOW : Hid (Below w.heap.size w w3) := hlow; clear hown hgrow hfr hlow hn))
   go_meet
   exact ⟨ao, g, cap, by rw [List.length_append], HN, HLOW⟩
 obtain ⟨ao, g, cap, rfl, HN, HLOW⟩ := hcut
 have hlen : (A ++ B).length ≤ 4000000 := by have := HLA.out; have := HLB.out; rw [List.length_append]; omega
 clear HO1b HO2 HB12 HA HB HLA HLB
 generalize A ++ B = M at *
 generalize hmm : M.length = m at *
 have HM : Hid (M.length = m) := hmm
 clear hmm
 go_wp2_with fail
 go_loop [3, 6] (fun x y => ∃ (i n : Nat), x = .int .i64 n ∧ y = .int .i64 i ∧ i ≤ m ∧ n < 2 ^ 26 ∧ Hid (stB (M.drop i) n = D)) (fun _ y => m - (intOf y).toNat)
 case atStart => exact ⟨0, 0, rfl, rfl, by omega, by decide, HS.out.symm⟩
 case round =>
  obtain ⟨i, n, rfl, rfl, hi, hn, HD⟩ := hrel
  by_cases hlt : i < m
  ·have hil : i < M.length := by rw [HM.out]; exact hlt
   obtain ⟨ea, eb, ec⟩ := HN.out i hil
   subst ea
   rw [Nat.zero_add] at ec
   have hd := HD.out
   rw [List.drop_eq_getElem_cons hil] at hd
   unfold stB at hd
   generalize M[i] = z at ec hd
   by_cases hz : 0 ≤ z ∧ z < 26
   ·rw [if_pos hz] at hd
    obtain ⟨k, rfl⟩ : ∃ k : Nat, z = (k : Int) := ⟨z.toNat, by omega⟩
    simp only [Int.toNat_natCast] at hd
    have hk : k < 26 := by omega
    have ho := or_pow n k hn hk
    have hlt2 : n ||| 2 ^ k < 2 ^ 26 := Nat.or_lt_two_pow hn (Nat.pow_lt_pow_right (by decide) hk)
    have HD2 : Hid (stB (M.drop (i + 1)) (n ||| 2 ^ k) = D) := hd
    clear hd hil hz
    go_wp2_with fail
    go_round
    case rel => exact ⟨i + 1, n ||| 2 ^ k, rfl, by go_num, by omega, hlt2, HD2⟩
    case measure => simp [intOf]; omega
   ·rw [if_neg hz] at hd
    have HD2 : Hid (stB (M.drop (i + 1)) n = D) := hd
    clear hd hil
    by_cases h0 : 0 ≤ z
    ·have t0 : decide ((0 : Int) ≤ z) = true := by simpa using h0
     have t1 : decide (z < 26) = false := by simp; omega
     clear hz
     go_wp2_with fail
     go_round
     case rel => exact ⟨i + 1, n, rfl, by go_num, by omega, hn, HD2⟩
     case measure => simp [intOf]; omega
    ·have t0 : decide ((0 : Int) ≤ z) = false := by simpa using h0
     clear hz
     go_wp2_with fail
     go_round
     case rel => exact ⟨i + 1, n, rfl, by go_num, by omega, hn, HD2⟩
     case measure => simp [intOf]; omega
  ·have HF : Hid (n = D) := by
    have := HD.out
    rw [List.drop_of_length_le (by rw [HM.out]; omega)] at this
    exact this
   go_wp2_with fail
   go_ret
   exact ⟨ret_int (by rw [HF.out]), HLOW.out⟩
end Go.Proofs.Ytdgmoiflahoihab
