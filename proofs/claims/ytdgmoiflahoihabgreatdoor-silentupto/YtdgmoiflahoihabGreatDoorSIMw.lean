import Derived.Test.YtdgmoiflahoihabGreatDoorSIWw
import Derived.Test.YtdgmoiflahoihabGreatDoorIProgw
import Derived.Test.YtdgmoiflahoihabGreatDoorLRPw
import Derived.Test.YtdgmoiflahoihabGreatDoorKWw

namespace Go.Proofs.YtdgmoiflahoihabGreatDoor
open Go.RowKit
set_option linter.unusedSimpArgs false
set_option linter.unusedVariables false
theorem progLabels_any (s : ByteArray) (w : World) (e : Int) (R : List Nat) (hs : s.size ≤ maxLen) (he : (checkP s.data.toList).1 = e) (hR : labsP s.data.toList = R) :
  Calls Tryz.prog 31 #[.string s] w fun x w' => x = .returned (.tuple #[.agg (arrV R), .int .i64 e]) ∧ Below w.heap.size w w' := by
 have hsl : s.data.toList.length = s.size := by simp
 exact tariffLabels_any s w e R hs (fun h hb => parse_ok (by omega) hb) he hR
theorem maskL_get (r : Nat) (of : List Nat) : ∀ (ns fs gs : List Int) (i : Nat) (h1 : i < ns.length) (h2 : i < fs.length) (h3 : i < gs.length), (maskL r of ns fs gs)[i]? = some (if goesB (of.getD ns[i].toNat 0) r then fs[i] else gs[i])
 | [], fs, gs, i, h, _, _ => by simp at h
 | n :: ns, [], gs, i, _, h, _ => by simp at h
 | n :: ns, f :: fs, [], i, _, _, h => by simp at h
 | n :: ns, f :: fs, g :: gs, 0, _, _, _ => rfl
 | n :: ns, f :: fs, g :: gs, i + 1, h1, h2, h3 => by
  have := maskL_get r of ns fs gs i (by simpa using h1) (by simpa using h2) (by simpa using h3)
  simpa [maskL] using this
def mixL (M F : List Int) (i : Nat) : List Int := M.take i ++ F.drop i
theorem mix_keep {M F : List Int} {i : Nat} (hM : i < M.length) (hF : i < F.length) (h : M[i] = F[i]) : mixL M F (i + 1) = mixL M F i := by
 unfold mixL
 rw [List.take_add_one, List.getElem?_eq_getElem hM, h, List.drop_eq_getElem_cons hF]
 simp
theorem mix_set {M F : List Int} {i : Nat} (hM : i < M.length) (hF : i < F.length) {x : Int} (h : M[i] = x) : (mixL M F i).set i x = mixL M F (i + 1) := by
 unfold mixL
 have e0 : i - (List.take i M).length = 0 := by simp; omega
 have e1 : (F.drop i).set 0 x = x :: F.drop (i + 1) := by rw [List.drop_eq_getElem_cons hF]; rfl
 rw [List.take_add_one, List.getElem?_eq_getElem hM, h, List.set_append_right _ _ (by simp; omega), e0, e1]
 simp
theorem mix_len {M F : List Int} {i : Nat} (h : M.length = F.length) (hi : i ≤ F.length) : (mixL M F i).length = F.length := by
 unfold mixL
 simp
 omega
theorem mix_end {M F : List Int} (h : M.length = F.length) : mixL M F F.length = M := by
 unfold mixL
 rw [List.take_of_length_le (by omega), List.drop_of_length_le (Nat.le_refl _), List.append_nil]
set_option maxRecDepth 100000 in
set_option maxHeartbeats 4000000 in
theorem masked_any (s : ByteArray) (zs ys : List Int) (af ag : Option Addr) (gf og capf gg ogg capg : Nat) (r : Nat) (hr : r < 16) (w : World) (hc : (checkP s.data.toList).1 = 0) (hf : NumCells w af gf og zs) (hg : NumCells w ag gg ogg ys) (hz : zs.length ≤ 9223372036854775807) (hy : ys.length ≤ 9223372036854775807) :
  Calls Tryz.prog 20 #[.string s, .slice af zs.length capf, .slice ag ys.length capg, .int .i64 (r : Int)] w fun e w' => (∃ b, e = .returned (.tuple #[.slice (some ⟨b, 0, none⟩) (hdsL 63 s.data.toList).length (hdsL 63 s.data.toList).length, .bool true]) ∧ w'.heap[b]? = some (.cells (numRow (maskL r (labsP s.data.toList) (hdsL 63 s.data.toList) (fillN zs (hdsL 63 s.data.toList).length) (fillN ys (hdsL 63 s.data.toList).length))).toArray 3 (0, 0))) ∧ Below w.heap.size w w' := by
 have f := fineT hc
 have hs : s.size ≤ 400 := by have := f.len; simpa using this
 obtain ⟨hRl, hR16, hr3⟩ := labs_fine hc
 have hnn : (hdsL 63 s.data.toList).length ≤ 1000 := by
  rw [(hds_eq f.bad).1]
  have h1 := f.parse.few
  have h2 := List.length_filter_le (fun h : Hd => h.field) (parseH s.data.toList).2
  simp only [List.length_map]
  omega
 have hns : ∀ x ∈ hdsL 63 s.data.toList, 0 ≤ x ∧ x < 26 := by
  intro x hx
  rw [(hds_eq f.bad).1] at hx
  obtain ⟨h, hh, rfl⟩ := List.mem_map.mp hx
  obtain ⟨a, b, _, _⟩ := f.parse.heads h (List.mem_filter.mp hh).1
  exact ⟨a, b⟩
 have HL1 : Hid (∀ w, Calls Tryz.prog 31 #[.string s] w fun x w' => x = .returned (.tuple #[.agg (arrV (labsP s.data.toList)), .int .i64 0]) ∧ Below w.heap.size w w') := fun w => progLabels_any s w 0 _ (by unfold maxLen; omega) hc rfl
 have HHD : Hid (∀ w, Calls Tryz.prog 16 #[.string s, .int .u8 63] w fun e w' => (∃ v, e = .returned v ∧ w'.ownsRow w.heap.size 3 1 v (hdsL 63 s.data.toList).length (numRow (hdsL 63 s.data.toList))) ∧ Below w.heap.size w w') := fun w => kheads_any s 63 w (by omega)
 have hsz : (arrV (labsP s.data.toList)).size = 26 := by simp [arrV, hRl]
 clear hr3 f hc
 generalize labsP s.data.toList = R at *
 generalize hdsL 63 s.data.toList = ns at *
 have hFl := fillN_len zs ns.length
 have hGl := fillN_len ys ns.length
 have HF1 : Hid (∀ w', NumCells w' af gf og zs → Calls Tryz.prog 9 #[.slice af zs.length capf, .int .i64 (ns.length : Nat)] w' fun e w'' => e = .returned (.slice (some ⟨w'.heap.size, 0, none⟩) ns.length ns.length) ∧ w''.heap[w'.heap.size]? = some (.cells (numRow (fillN zs ns.length)).toArray 3 (0, 0)) ∧ Below w'.heap.size w' w'') := fun w' h => kfilled_any zs af gf og capf ns.length w' h (by omega) hz
 have HF2 : Hid (∀ w', NumCells w' ag gg ogg ys → Calls Tryz.prog 9 #[.slice ag ys.length capg, .int .i64 (ns.length : Nat)] w' fun e w'' => e = .returned (.slice (some ⟨w'.heap.size, 0, none⟩) ns.length ns.length) ∧ w''.heap[w'.heap.size]? = some (.cells (numRow (fillN ys ns.length)).toArray 3 (0, 0)) ∧ Below w'.heap.size w' w'') := fun w' h => kfilled_any ys ag gg ogg capg ns.length w' h (by omega) hy
 have hMl := maskL_len r R ns (fillN zs ns.length) (fillN ys ns.length) hFl hGl
 have hget := maskL_get r R ns (fillN zs ns.length) (fillN ys ns.length)
 generalize fillN zs ns.length = F at *
 generalize fillN ys ns.length = G at *
 have HGET : Hid (∀ (i : Nat) (h1 : i < ns.length) (h2 : i < F.length) (h3 : i < G.length), (maskL r R ns F G)[i]? = some (if goesB (R.getD ns[i].toNat 0) r then F[i] else G[i])) := hget
 generalize maskL r R ns F G = M at *
 have HZ : Hid (NumCells w af gf og zs) := hf
 have HY : Hid (NumCells w ag gg ogg ys) := hg
 have HNS : Hid (∀ x ∈ ns, 0 ≤ x ∧ x < 26) := hns
 have HR16 : Hid (∀ i, R.getD i 0 < 16) := hR16
 clear hget hf hg hns hR16
 go_enter Tryz.func20, Tryz.ntmps20
 go_upto_region 3 with (first | (go_at_call 16; refine (HHD.out _).mono ?_; rintro e w1 ⟨⟨v, rfl, ho⟩, hb1⟩; obtain ⟨ao, g1, cap1, rfl, hn1⟩ := nums_form ho; have HN1 : Hid (NumCells w1 ao g1 0 ns) := hn1; have HB1 : Hid (Below w.heap.size w w1) := hb1; clear ho hn1 hb1) | (go_at_call 31; refine (HL1.out _).mono ?_; rintro x2 w2 ⟨rfl, hb2⟩; have HN2 : Hid (NumCells w2 ao g1 0 ns) := HN1.out.below hb2; have HB2 : Hid (Below w.heap.size w w2) := HB1.out.trans (hb2.mono HB1.out.size); clear hb2) | (refine wpList_store_row rfl 62 (.tmp 11) (.tmp 21) rfl w2.heap.size (arrV R) rfl rfl 62 (arrV zero26) (by exact box_zero w2) (by rw [infoArr, hsz]) (by rw [hsz]; rfl) (arr_one R) ?_; rw [World.setRow_alloc_new]; simp only [Act.put]))
 have hX := BoxAt.new w2 R
 have hnew : Below w2.heap.size w2 (w2.alloc (.cells (arrV R) 62)) := (Below.refl _ _).alloc (Nat.le_refl _) _
 have hN3 := HN2.out.below hnew
 have hB3 : Below w.heap.size w (w2.alloc (.cells (arrV R) 62)) := HB2.out.alloc HB2.out.size _
 generalize w2.alloc (.cells (arrV R) 62) = W3 at *
 generalize w2.heap.size = b3 at *
 have HX3 : Hid (BoxAt W3 b3 R) := hX
 have HN3 : Hid (NumCells W3 ao g1 0 ns) := hN3
 have HB3 : Hid (Below w.heap.size w W3) := hB3
 clear hX hN3 hB3 hnew HN1 HN2 HB1 HB2
 go_upto_region 7 with (first | (go_at_call 9; refine (HF2.out w4 HY4.out).mono ?_; rintro e w5 ⟨rfl, hh5, hb5⟩; have HG5 : Hid (w5.heap[w4.heap.size]? = some (.cells (numRow G).toArray 3 (0, 0))) := hh5; have HX5 : Hid (BoxAt w5 b3 R) := HX4.out.below hb5; have HN5 : Hid (NumCells w5 ao g1 0 ns) := HN4.out.below hb5; have HB5 : Hid (Below w.heap.size w w5) := HB4.out.trans (hb5.mono HB4.out.size); have HH5 : Hid (w5.heap[W3.heap.size]? = some (.cells (numRow F).toArray 3 (0, 0))) := (hb5.block _ hlt4).trans HH4.out; clear hh5 hb5) | (go_at_call 9; refine (HF1.out W3 (HZ.out.below HB3.out)).mono ?_; rintro e w4 ⟨rfl, hh4, hb4⟩; have HH4 : Hid (w4.heap[W3.heap.size]? = some (.cells (numRow F).toArray 3 (0, 0))) := hh4; have hlt4 : W3.heap.size < w4.heap.size := (Array.getElem?_eq_some_iff.mp hh4).1; have HX4 : Hid (BoxAt w4 b3 R) := HX3.out.below hb4; have HN4 : Hid (NumCells w4 ao g1 0 ns) := HN3.out.below hb4; have HB4 : Hid (Below w.heap.size w w4) := HB3.out.trans (hb4.mono HB3.out.size); have HY4 : Hid (NumCells w4 ag gg ogg ys) := (HY.out.below HB3.out).below hb4; clear hh4 hb4))
 have hlt5 : w4.heap.size < w5.heap.size := (Array.getElem?_eq_some_iff.mp HG5.out).1
 have hb34 : W3.heap.size < w4.heap.size := hlt4
 have hb3l : b3 < W3.heap.size := HX3.out.lt
 have hlow3 : w.heap.size ≤ W3.heap.size := HB3.out.size
 generalize hB13 : W3.heap.size = b13 at *
 generalize hB14 : w4.heap.size = b14 at *
 have HS0 : Hid (w5.heap[b13]? = some (.cells (numRow (mixL M F 0)).toArray 3 (0, 0))) := by
  show _ = _
  rw [show mixL M F 0 = F by simp [mixL]]
  exact HH5.out
 have hgN : ns ≠ [] → g1 ≠ b13 := by
  intro h
  obtain ⟨x, xs, rfl⟩ := List.exists_cons_of_ne_nil h
  have := (HN3.out 0 (by simp)).2.1
  omega
 clear HX3 HX4 HN3 HN4 HB3 HB4 HY4 HH4 HH5 HF1 HF2 HL1 HHD HZ HY hB13 hB14
 go_wp2_with fail
 go_loopw [15] (fun x w' => ∃ i : Nat, x = .int .i64 i ∧ i ≤ ns.length ∧ Hid (w'.heap[b13]? = some (.cells (numRow (mixL M F i)).toArray 3 (0, 0))) ∧ Hid (w'.heap[b14]? = some (.cells (numRow G).toArray 3 (0, 0))) ∧ Hid (BoxAt w' b3 R) ∧ Hid (NumCells w' ao g1 0 ns) ∧ Hid (Below w.heap.size w w')) (fun x _ => ns.length - (intOf x).toNat)
 case atStart => exact ⟨0, rfl, Nat.zero_le _, HS0, HG5, HX5, HN5, HB5⟩
 case round =>
  obtain ⟨i, rfl, hi, HS, HG, HX, HN, HB⟩ := hrel
  by_cases hlt : i < ns.length
  ·have ti : decide ((i : Int) < (ns.length : Int)) = true := by rw [decide_eq_true_iff]; omega
   have hiF : i < F.length := by omega
   have hiG : i < G.length := by omega
   have hiM : i < M.length := by omega
   have hmi := HGET.out i hlt hiF hiG
   rw [List.getElem?_eq_getElem hiM, Option.some.injEq] at hmi
   obtain ⟨en, hgn, cn⟩ := HN.out i hlt
   have hnr := HNS.out ns[i] (List.getElem_mem hlt)
   obtain ⟨_, _, cg⟩ := num_row HG.out i hiG
   obtain ⟨_, _, cs⟩ := num_row HS.out i (by rw [mix_len (by omega) (by omega)]; omega)
   rw [Nat.zero_add] at cn cg cs
   have hne13 := hgN (by intro e; rw [e] at hlt; simp at hlt)
   subst en
   obtain ⟨m, hm⟩ : ∃ m : Nat, ns[i] = (m : Int) := ⟨ns[i].toNat, by omega⟩
   have hm26 : m < 26 := by omega
   rw [hm] at cn hmi
   have hmt : ((m : Int)).toNat = m := by omega
   rw [hmt] at hmi
   have cb := HX.out.cell m (by rw [hRl]; exact hm26)
   have hL := HR16.out m
   obtain ⟨_, hgo⟩ := or_goes hL hr
   have fz : ∀ o, wr.frozen? ⟨b13, o, none⟩ = false := fun o => by have := HS.out; simp [World.frozen?, this]
   have t1 : decide ((m : Int) < 0) = false := by rw [decide_eq_false_iff_not]; omega
   have t2 : decide ((26 : Int) ≤ (m : Int)) = false := by rw [decide_eq_false_iff_not]; omega
   have i0 : (0 : Int) ≤ (i : Int) := by omega
   have i1 : (i : Int) < (ns.length : Int) := by omega
   have j0 : (0 : Int) ≤ (m : Int) := by omega
   have j1 : (m : Int) < 26 := by omega
   generalize R.getD m 0 = Lb at *
   clear hm hnr
   cases hlo : goesB Lb r
   ·rw [hlo] at hgo hmi
    simp only [Bool.false_eq_true, if_false] at hmi
    have hset := row_set (i := i) (x := G[i]) HS.out
    rw [mix_set hiM hiF hmi] at hset
    have HS2 : Hid ((wr.setCell ⟨b13, i, none⟩ (.int .i64 G[i])).heap[b13]? = some (.cells (numRow (mixL M F (i + 1))).toArray 3 (0, 0))) := hset
    have HG2 : Hid ((wr.setCell ⟨b13, i, none⟩ (.int .i64 G[i])).heap[b14]? = some (.cells (numRow G).toArray 3 (0, 0))) := by
     show _ = _
     rw [Below.heap_setCell _ _ _ _ (by simp only; omega)]
     exact HG.out
    have HX2 : Hid (BoxAt (wr.setCell ⟨b13, i, none⟩ (.int .i64 G[i])) b3 R) := by
     show BoxAt _ _ _
     unfold BoxAt
     rw [Below.heap_setCell _ _ _ _ (by simp only; omega)]
     exact HX.out
    have HN2 : Hid (NumCells (wr.setCell ⟨b13, i, none⟩ (.int .i64 G[i])) (some ⟨g1, 0, none⟩) g1 0 ns) := fun j hj => by
     obtain ⟨a, b, c⟩ := HN.out j hj
     refine ⟨a, by simpa using b, ?_⟩
     rw [World.cell?_of_block (a := ⟨g1, 0 + j, none⟩) (Below.heap_setCell _ _ _ _ (by simpa using hne13))]
     exact c
    have HB2 : Hid (Below w.heap.size w (wr.setCell ⟨b13, i, none⟩ (.int .i64 G[i]))) := HB.out.setCell hlow3 _
    clear hset HS HX hmi hlo HGET HNS
    generalize G[i] = z at *
    go_wp2_with fail
    go_roundw
    case rel => exact ⟨i + 1, by go_num, by omega, HS2, HG2, HX2, HN2, HB2⟩
    case measure => simp [intOf]; omega
   ·rw [hlo] at hgo hmi
    simp only [if_true] at hmi
    have HS2 : Hid (wr.heap[b13]? = some (.cells (numRow (mixL M F (i + 1))).toArray 3 (0, 0))) := by
     show _ = _
     rw [mix_keep hiM hiF hmi]
     exact HS.out
    clear HS hmi hlo HGET HNS
    go_wp2_with fail
    go_roundw
    case rel => exact ⟨i + 1, by go_num, by omega, HS2, HG, HX, HN, HB⟩
    case measure => simp [intOf]; omega
  ·have ti : decide ((i : Int) < (ns.length : Int)) = false := by rw [decide_eq_false_iff_not]; omega
   have hie : i = F.length := by omega
   have hend := HS.out
   rw [hie, mix_end (by omega)] at hend
   have HE : Hid (wr.heap[b13]? = some (.cells (numRow M).toArray 3 (0, 0))) := hend
   clear hend HS HGET HNS
   go_wp2_with fail
   go_ret2
   exact ⟨⟨b13, rfl, HE.out⟩, HB.out⟩
end Go.Proofs.YtdgmoiflahoihabGreatDoor
namespace Go.Proofs.YtdgmoiflahoihabGreatDoor
open Go.RowKit
set_option linter.unusedSimpArgs false
set_option linter.unusedVariables false
theorem txt_cut (A B : List UInt8) : (txt (A ++ B)).extract A.length (txt (A ++ B)).size = txt B := by
 refine tx_of_list ?_
 simp only [ByteArray.data_extract, Array.toList_extract, txt_size]
 rw [txt_list]
 simp
theorem billB_app (r : Int) : ∀ (a b : List Nt), billB r (a ++ b) = billB r a ++ billB r b
 | [], b => rfl
 | x :: a, b => by
  show (if shownN r x then noteB x else []) ++ billB r (a ++ b) = ((if shownN r x then noteB x else []) ++ billB r a) ++ billB r b
  rw [billB_app r a b, List.append_assoc]
theorem last_note (p : Nat) : noteB ⟨0, p, 0, ⟨7, 0⟩⟩ = intB (p : Int) ++ [58, 55, 10] := by
 have h7 : worthB ⟨7, 0⟩ = [55] := by
  unfold worthB
  rw [if_neg (by simp)]
  exact (intB_nat 7).trans (decB_small (by decide))
 unfold noteB lineB
 simp only
 rw [h7]
 simp
set_option maxRecDepth 100000 in
set_option maxHeartbeats 2000000 in
theorem closes_any (X : List UInt8) (s : ByteArray) (h4 : 4 ≤ s.size) (h400 : s.size ≤ 400) (hX : X.length ≤ 300000) (w : World) (ht : TabOk w) :
  Calls Tryz.prog 10 #[.string (txt (X ++ (intB ((s.size - 4 : Nat) : Int) ++ [58, 55, 10]))), .string s] w fun e w' => e = .returned (.bool true) ∧ Below w.heap.size w w' := by
 have e4 : ((s.size - 4 : Nat) : Int) = (s.size : Int) - 4 := by omega
 have hl := intB_len20 ((s.size - 4 : Nat) : Int) (by omega)
 have HI : Hid (∀ w, TabOk w → Calls Tryz.prog 19 #[.int .i64 ((s.size : Int) - 4)] w fun e w' => e = .returned (.string (txt (intB ((s.size - 4 : Nat) : Int)))) ∧ Below w.heap.size w w') := fun w h => by
  have := itoa_any ((s.size - 4 : Nat) : Int) (by omega) w h
  rw [e4] at this ⊢
  exact this
 have HE : Hid (txt (intB ((s.size - 4 : Nat) : Int)) ++ ⟨#[58, 55, 10]⟩ = txt (intB ((s.size - 4 : Nat) : Int) ++ [58, 55, 10])) := txt_append _ [58, 55, 10]
 have hcut := txt_cut X (intB ((s.size - 4 : Nat) : Int) ++ [58, 55, 10])
 have hbs : (txt (X ++ (intB ((s.size - 4 : Nat) : Int) ++ [58, 55, 10]))).size = X.length + (txt (intB ((s.size - 4 : Nat) : Int) ++ [58, 55, 10])).size := by rw [txt_size, txt_size, List.length_append]
 have hes : (txt (intB ((s.size - 4 : Nat) : Int))).size ≤ 20 := hl
 have hes2 : (txt (intB ((s.size - 4 : Nat) : Int) ++ [58, 55, 10])).size ≤ 23 := by rw [txt_size, List.length_append]; simp; omega
 generalize txt (X ++ (intB ((s.size - 4 : Nat) : Int) ++ [58, 55, 10])) = B at *
 generalize txt (intB ((s.size - 4 : Nat) : Int) ++ [58, 55, 10]) = E at *
 generalize txt (intB ((s.size - 4 : Nat) : Int)) = T at *
 generalize X.length = x at *
 have HT : Hid (TabOk w) := ht
 have hTE : T.size + 3 = E.size := by rw [← HE.out, ByteArray.size_append]; rfl
 clear ht hl e4
 go_enter Tryz.func10, Tryz.ntmps10
 go_upto_region 3 with (first | (go_at_call 19; refine (HI.out _ HT.out).mono ?_; rintro e w1 ⟨rfl, hb1⟩; have HB1 : Hid (Below w.heap.size w w1) := hb1; clear hb1))
 rw [HE.out]
 have g1 : (E.size : Int) ≤ (B.size : Int) := by omega
 have g2 : decide ((E.size : Int) ≤ (B.size : Int)) = true := decide_eq_true g1
 have g3 : ((B.size : Int) - (E.size : Int)).toNat = x := by omega
 have g4 : (B.size : Int) - (E.size : Int) = (x : Int) := by omega
 have g5 : ((B.extract x (x + E.size)).toList == E.toList) = true := by rw [hbs] at hcut; rw [hcut]; simp
 go_wp2_with fail
 go_ret
 exact ⟨rfl, HB1.out⟩
theorem numT {w : World} {b : Nat} {l : List Int} {t : TypeId} (h : w.heap[b]? = some (.cells (numRow l).toArray t (0, 0))) : NumCells w (some ⟨b, 0, none⟩) b 0 l := num_row h
set_option maxRecDepth 100000 in
set_option maxHeartbeats 4000000 in
theorem silent_any (s : ByteArray) (zs ys : List Int) (af ag : Option Addr) (gf og capf gg ogg capg : Nat) (r : Nat) (hr : r < 16) (w : World) (hc : (checkP s.data.toList).1 = 0) (hf : NumCells w af gf og zs) (hg : NumCells w ag gg ogg ys) (hz : zs.length ≤ 9223372036854775807) (hy : ys.length ≤ 9223372036854775807) (hfo : FsOk zs) (hgo : FsOk ys) (ht : TabOk w) :
  Calls Tryz.prog 11 #[.string s, .slice af zs.length capf, .slice ag ys.length capg, .int .i64 (r : Int)] w fun e w' => e = .returned (.bool true) ∧ Below w.heap.size w w' := by
 have f := fineT hc
 have hs : s.size ≤ 400 := by have := f.len; simpa using this
 have hcnt : countF (parseH s.data.toList).2 = (hdsL 63 s.data.toList).length := by rw [(hds_eq f.bad).1]; exact (fieldN_len _).symm
 have hnn : (hdsL 63 s.data.toList).length ≤ 1000 := by
  rw [← hcnt]
  have h1 := f.parse.few
  have h2 := List.length_filter_le (fun h : Hd => h.field) (parseH s.data.toList).2
  unfold countF
  omega
 have HHD : Hid (∀ w, Calls Tryz.prog 16 #[.string s, .int .u8 63] w fun e w' => (∃ ao cap, e = .returned (.slice ao (hdsL 63 s.data.toList).length cap)) ∧ Below w.heap.size w w') := fun w => by
  refine (kheads_any s 63 w (by omega)).mono ?_
  rintro e w' ⟨⟨v, rfl, ho⟩, hb⟩
  obtain ⟨ao, g1, cap1, rfl, _⟩ := nums_form ho
  exact ⟨⟨ao, cap1, rfl⟩, hb⟩
 have HMK : Hid (∀ w', NumCells w' af gf og zs → NumCells w' ag gg ogg ys → Calls Tryz.prog 20 #[.string s, .slice af zs.length capf, .slice ag ys.length capg, .int .i64 (r : Int)] w' fun e w'' => (∃ b, e = .returned (.tuple #[.slice (some ⟨b, 0, none⟩) (hdsL 63 s.data.toList).length (hdsL 63 s.data.toList).length, .bool true]) ∧ w''.heap[b]? = some (.cells (numRow (maskL r (labsP s.data.toList) (hdsL 63 s.data.toList) (fillN zs (hdsL 63 s.data.toList).length) (fillN ys (hdsL 63 s.data.toList).length))).toArray 3 (0, 0))) ∧ Below w'.heap.size w' w'') := fun w' h1 h2 => masked_any s zs ys af ag gf og capf gg ogg capg r hr w' hc h1 h2 hz hy
 have hFl := fillN_len zs (hdsL 63 s.data.toList).length
 have hGl := fillN_len ys (hdsL 63 s.data.toList).length
 have hFo := fillN_ok hfo (hdsL 63 s.data.toList).length
 have hGo := fillN_ok hgo (hdsL 63 s.data.toList).length
 have HSP := silent_plain hc r hr (fillN zs (hdsL 63 s.data.toList).length) (fillN ys (hdsL 63 s.data.toList).length) (by rw [hFl, hcnt]) (by rw [hGl, hcnt]) hFo hGo
 have hMo := maskL_ok r (labsP s.data.toList) (hdsL 63 s.data.toList) _ _ hFo hGo
 have hMl := maskL_len r (labsP s.data.toList) (hdsL 63 s.data.toList) _ _ hFl hGl
 have HF1 : Hid (∀ w', NumCells w' af gf og zs → Calls Tryz.prog 9 #[.slice af zs.length capf, .int .i64 ((hdsL 63 s.data.toList).length : Nat)] w' fun e w'' => e = .returned (.slice (some ⟨w'.heap.size, 0, none⟩) (hdsL 63 s.data.toList).length (hdsL 63 s.data.toList).length) ∧ w''.heap[w'.heap.size]? = some (.cells (numRow (fillN zs (hdsL 63 s.data.toList).length)).toArray 3 (0, 0)) ∧ Below w'.heap.size w' w'') := fun w' h => kfilled_any zs af gf og capf _ w' h (by omega) hz
 generalize maskL r (labsP s.data.toList) (hdsL 63 s.data.toList) (fillN zs (hdsL 63 s.data.toList).length) (fillN ys (hdsL 63 s.data.toList).length) = M at *
 generalize fillN zs (hdsL 63 s.data.toList).length = F at *
 generalize fillN ys (hdsL 63 s.data.toList).length = G at *
 generalize hnn2 : (hdsL 63 s.data.toList).length = n at *
 have hmx : s.size ≤ maxLen := by unfold maxLen; omega
 have HRF : Hid (∀ (b : Nat) (w' : World), NumCells w' (some ⟨b, 0, none⟩) b 0 F → Calls Tryz.prog 21 #[.string s, .slice (some ⟨b, 0, none⟩) n n] w' (RunPost w' (runP s.data.toList F))) := fun b w' h => by
  have := progRun_any s F b n w' hmx h (by unfold maxLen; omega) hFo
  rw [hFl] at this
  exact this
 have HRM : Hid (∀ (b : Nat) (w' : World), NumCells w' (some ⟨b, 0, none⟩) b 0 M → Calls Tryz.prog 21 #[.string s, .slice (some ⟨b, 0, none⟩) n n] w' (RunPost w' (runP s.data.toList M))) := fun b w' h => by
  have := progRun_any s M b n w' hmx h (by unfold maxLen; omega) hMo
  rw [hMl] at this
  exact this
 have HBF : Hid (∀ (b : Nat) (w' : World), NumCells w' (some ⟨b, 0, none⟩) b 0 F → TabOk w' → Calls Tryz.prog 8 #[.string s, .slice (some ⟨b, 0, none⟩) n n, .int .i64 (r : Int)] w' (BillPost w' (billP (r : Int) (runP s.data.toList F)))) := fun b w' h h2 => billText_any s _ (r : Int) w' _ (fun w2 e => by
  subst e
  have := progText_any s F b n _ hmx h (by unfold maxLen; omega) hFo
  rw [hFl] at this
  exact this) (runP_few _ _ hFo) (runP_nts _ _ hFo) h2
 have HBM : Hid (∀ (b : Nat) (w' : World), NumCells w' (some ⟨b, 0, none⟩) b 0 M → TabOk w' → Calls Tryz.prog 8 #[.string s, .slice (some ⟨b, 0, none⟩) n n, .int .i64 (r : Int)] w' (BillPost w' (billP (r : Int) (runP s.data.toList M)))) := fun b w' h h2 => billText_any s _ (r : Int) w' _ (fun w2 e => by
  subst e
  have := progText_any s M b n _ hmx h (by unfold maxLen; omega) hMo
  rw [hMl] at this
  exact this) (runP_few _ _ hMo) (runP_nts _ _ hMo) h2
 have f1 := runP_few s.data.toList F hFo
 have f2 := runP_few s.data.toList M hMo
 have k1 := runP_nts s.data.toList F hFo
 have k2 := runP_nts s.data.toList M hMo
 obtain ⟨z1, z2, z3⟩ := HSP
 generalize runP s.data.toList F = R1 at *
 generalize runP s.data.toList M = R2 at *
 obtain ⟨e1, N1⟩ := R1
 obtain ⟨e2, N2⟩ := R2
 simp only at z1 z2 z3 f1 f2 k1 k2
 subst z1 z2
 have HSEE : Hid (∀ (N : List Nt), N.length ≤ 5000 → (∀ x ∈ N, NtOk x) → ∀ (ao : Option Addr) (g cap : Nat) (w : World), NoteCells w ao g N → Calls Tryz.prog 22 #[.slice ao N.length cap, .int .i64 (r : Int)] w fun e w' => (∃ v, e = .returned v ∧ w'.ownsRow w.heap.size 70 5 v (seenN r N).length (ntCells (seenN r N))) ∧ Below w.heap.size w w') := fun N h1 h2 ao g cap w h3 => seen_any N r hr ao g cap w h3 h1 h2
 have HS1 := HSEE.out N1 f1 k1
 have HS2 := HSEE.out N2 f2 k2
 have hl1 : (seenN r N1).length ≤ 1000000 := Nat.le_trans (List.length_filter_le _ _) (by omega)
 have hl2 : (seenN r N2).length ≤ 1000000 := Nat.le_trans (List.length_filter_le _ _) (by omega)
 have hb1 : billP (r : Int) (0, N1) = (0, billB (r : Int) N1) := by unfold billP; rw [if_neg (by simp), if_neg (by omega)]
 have hb2 : billP (r : Int) (0, N2) = (0, billB (r : Int) N2) := by unfold billP; rw [if_neg (by simp), if_neg (by omega)]
 rw [hb1] at HBF
 rw [hb2] at HBM
 have Z3 : Hid (seenN r N1 = seenN r N2 → billB (r : Int) N1 = billB (r : Int) N2) := z3
 have HSA : Hid _ := HS1
 have HSB : Hid _ := HS2
 generalize seenN r N1 = P at *
 generalize seenN r N2 = Q at *
 generalize billB (r : Int) N1 = B1 at *
 generalize billB (r : Int) N2 = B2 at *
 have HZ : Hid (NumCells w af gf og zs) := hf
 have HY : Hid (NumCells w ag gg ogg ys) := hg
 have HT : Hid (TabOk w) := ht
 clear hf hg ht z3 HS1 HS2 HSEE f1 f2 k1 k2 hb1 hb2 f hc hFo hGo hMo hcnt hfo hgo
 go_enter Tryz.func11, Tryz.ntmps11
 go_upto_region 13 with (first | (go_at_call 23; refine (sameN_any P Q aP aQ gP cP gQ cQ _ HP8.out HQ8.out hl1 hl2).mono ?_; rintro e w9 ⟨⟨bb, rfl, hbb⟩, hb9⟩; have HBB : Hid (bb = true → P = Q) := hbb; have HB9 : Hid (Below w.heap.size w w9) := HB8.out.trans (hb9.mono HB8.out.size); have HA9 : Hid (w9.heap[bA]? = some (.cells (numRow F).toArray 3 (0, 0))) := (hb9.block _ (Array.getElem?_eq_some_iff.mp HA8.out).1).trans HA8.out; have HM9 : Hid (w9.heap[bM]? = some (.cells (numRow M).toArray 3 (0, 0))) := (hb9.block _ (Array.getElem?_eq_some_iff.mp HM8.out).1).trans HM8.out; clear hb9 hbb) | (go_at_call 22; refine (HSB.out aN2 gN2 cN2 w7 HN7.out).mono ?_; rintro e w8 ⟨⟨vq, rfl, hoq⟩, hb8⟩; obtain ⟨aQ, gQ, cQ, rfl, hq8⟩ := notes_form hoq; have HQ8 : Hid (NoteCells w8 aQ gQ Q) := hq8; have HP8 : Hid (NoteCells w8 aP gP P) := HP7.out.below hb8; have HB8 : Hid (Below w.heap.size w w8) := HB7.out.trans (hb8.mono HB7.out.size); have HA8 : Hid (w8.heap[bA]? = some (.cells (numRow F).toArray 3 (0, 0))) := (hb8.block _ (Array.getElem?_eq_some_iff.mp HA7.out).1).trans HA7.out; have HM8 : Hid (w8.heap[bM]? = some (.cells (numRow M).toArray 3 (0, 0))) := (hb8.block _ (Array.getElem?_eq_some_iff.mp HM7.out).1).trans HM7.out; clear hb8 hq8 hoq) | (go_at_call 22; refine (HSA.out aN1 gN1 cN1 w6 HN6.out).mono ?_; rintro e w7 ⟨⟨vp, rfl, hop⟩, hb7⟩; obtain ⟨aP, gP, cP, rfl, hp7⟩ := notes_form hop; have HP7 : Hid (NoteCells w7 aP gP P) := hp7; have HN7 : Hid (NoteCells w7 aN2 gN2 N2) := HO6.out.below hb7; have HB7 : Hid (Below w.heap.size w w7) := HB6.out.trans (hb7.mono HB6.out.size); have HA7 : Hid (w7.heap[bA]? = some (.cells (numRow F).toArray 3 (0, 0))) := (hb7.block _ (Array.getElem?_eq_some_iff.mp HA6.out).1).trans HA6.out; have HM7 : Hid (w7.heap[bM]? = some (.cells (numRow M).toArray 3 (0, 0))) := (hb7.block _ (Array.getElem?_eq_some_iff.mp HM6.out).1).trans HM6.out; clear hb7 hp7 hop) | (go_at_call 21; refine (HRM.out bM w5 (numT HM5.out)).mono ?_; rintro e w6 ⟨⟨vb, rfl, hy1, hy2⟩, hb6⟩; obtain ⟨aN2, gN2, cN2, rfl, hn6⟩ := notes_form hy2; have HO6 : Hid (NoteCells w6 aN2 gN2 N2) := hn6; have HN6 : Hid (NoteCells w6 aN1 gN1 N1) := HN5.out.below hb6; have HB6 : Hid (Below w.heap.size w w6) := HB5.out.trans (hb6.mono HB5.out.size); have HA6 : Hid (w6.heap[bA]? = some (.cells (numRow F).toArray 3 (0, 0))) := (hb6.block _ (Array.getElem?_eq_some_iff.mp HA5.out).1).trans HA5.out; have HM6 : Hid (w6.heap[bM]? = some (.cells (numRow M).toArray 3 (0, 0))) := (hb6.block _ (Array.getElem?_eq_some_iff.mp HM5.out).1).trans HM5.out; clear hb6 hy1 hy2 hn6) | (go_at_call 21; refine (HRF.out bA w3 (numT HA3.out)).mono ?_; rintro e w5 ⟨⟨va, rfl, hx1, hx2⟩, hb5⟩; obtain ⟨aN1, gN1, cN1, rfl, hn5⟩ := notes_form hx2; have HN5 : Hid (NoteCells w5 aN1 gN1 N1) := hn5; have HB5 : Hid (Below w.heap.size w w5) := HB3.out.trans (hb5.mono HB3.out.size); have HA5 : Hid (w5.heap[bA]? = some (.cells (numRow F).toArray 3 (0, 0))) := (hb5.block _ (Array.getElem?_eq_some_iff.mp HA3.out).1).trans HA3.out; have HM5 : Hid (w5.heap[bM]? = some (.cells (numRow M).toArray 3 (0, 0))) := (hb5.block _ (Array.getElem?_eq_some_iff.mp HM3.out).1).trans HM3.out; clear hb5 hx1 hx2 hn5) | (go_at_call 20; refine (HMK.out w2 (HZ.out.below HB2.out) (HY.out.below HB2.out)).mono ?_; rintro e w3 ⟨⟨bM, rfl, hm3⟩, hb3⟩; have HM3 : Hid (w3.heap[bM]? = some (.cells (numRow M).toArray 3 (0, 0))) := hm3; have HA3 : Hid (w3.heap[bA]? = some (.cells (numRow F).toArray 3 (0, 0))) := (hb3.block _ (Array.getElem?_eq_some_iff.mp HA2.out).1).trans HA2.out; have HB3 : Hid (Below w.heap.size w w3) := HB2.out.trans (hb3.mono HB2.out.size); clear hb3 hm3) | (go_at_call 9; refine (HF1.out w1 (HZ.out.below HB1.out)).mono ?_; rintro e w2 ⟨rfl, hh2, hb2⟩; generalize hbA : w1.heap.size = bA at *; have HA2 : Hid (w2.heap[bA]? = some (.cells (numRow F).toArray 3 (0, 0))) := hh2; have HB2 : Hid (Below w.heap.size w w2) := HB1.out.trans (hb2.mono (by rw [← hbA]; exact HB1.out.size)); clear hb2 hh2 hbA) | (go_at_call 16; refine (HHD.out _).mono ?_; rintro e w1 ⟨⟨ao, cap1, rfl⟩, hb1⟩; have HB1 : Hid (Below w.heap.size w w1) := hb1; clear hb1))
 cases bb
 ·go_wp2_with fail
  go_ret
  exact ⟨rfl, HB9.out⟩
 ·have hBB : B1 = B2 := Z3.out (HBB.out rfl)
  subst hBB
  have HT9 : Hid (TabOk w9) := HT.out.below HB9.out
  have t2 : ((txt B1).toList == (txt B1).toList) = true := by simp
  clear Z3 HBB
  go_wp2_with (first | (go_at_call 8; refine (HBM.out bM wa (numT HMa.out) HTa.out).mono ?_; rintro e wb ⟨rfl, hbb⟩; have HBb : Hid (Below w.heap.size w wb) := HBa.out.trans (hbb.mono HBa.out.size); clear hbb) | (go_at_call 8; refine (HBF.out bA w9 (numT HA9.out) HT9.out).mono ?_; rintro e wa ⟨rfl, hba⟩; have HBa : Hid (Below w.heap.size w wa) := HB9.out.trans (hba.mono HB9.out.size); have HTa : Hid (TabOk wa) := HT9.out.below hba; have HMa : Hid (wa.heap[bM]? = some (.cells (numRow M).toArray 3 (0, 0))) := (hba.block _ (Array.getElem?_eq_some_iff.mp HM9.out).1).trans HM9.out; clear hba))
  go_ret
  exact ⟨rfl, HBb.out⟩
end Go.Proofs.YtdgmoiflahoihabGreatDoor
namespace Go.Proofs.YtdgmoiflahoihabGreatDoor
open Go.RowKit
set_option linter.unusedSimpArgs false
set_option linter.unusedVariables false
theorem smplT (i : Nat) : (smplS i).data.toList = smpl i := by simp [smplS]
set_option maxRecDepth 100000 in
set_option maxHeartbeats 4000000 in
theorem silent_law (s : ByteArray) (c : Int) (zs ys : List Int) (rd : Int) (af ag : Option Addr) (gf og capf gg ogg capg : Nat) (w : World) (hs : s.size ≤ 2000000) (hc : -9223372036854775808 ≤ c ∧ c ≤ 9223372036854775807) (hrd : -9223372036854775808 ≤ rd ∧ rd ≤ 9223372036854775807) (hf : NumCells w af gf og zs) (hg : NumCells w ag gg ogg ys) (hz : zs.length ≤ 9223372036854775807) (hy : ys.length ≤ 9223372036854775807) (hfo : FsOk zs) (hgo : FsOk ys) (ht : TabOk w) :
  Calls Tryz.prog 3 #[.string s, .int .i64 c, .slice af zs.length capf, .slice ag ys.length capg, .int .i64 rd] w fun e w' => e = .returned (.bool true) ∧ Below w.heap.size w w' := by
 have hp := pickN_lt c (n := 8) (by decide)
 have hr := pickN_lt rd (n := 16) (by decide)
 have HPK : Hid (∀ w, Calls Tryz.prog 5 #[.int .i64 rd, .int .i64 16] w fun e w' => e = .returned (.int .i64 (pickN rd 16 : Nat)) ∧ w' = w) := fun w => pick_any rd 16 hrd (by decide) (by decide) w
 have HSM : Hid (∀ w, Calls Tryz.prog 6 #[.int .i64 c] w fun e w' => e = .returned (.string (smplS (pickN c 8))) ∧ Below w.heap.size w w') := fun w => sample_any c hc w
 obtain ⟨hfine, h4, h400, hnotes⟩ := smpl_notes (smpl_good hp)
 have hT := smplT (pickN c 8)
 have hTs : (smplS (pickN c 8)).size = (smpl (pickN c 8)).length := rfl
 generalize pickN rd 16 = r at *
 generalize smplS (pickN c 8) = T at *
 generalize smpl (pickN c 8) = tl at *
 subst hT
 have f := fineT hfine
 have hcnt : countF (parseH T.data.toList).2 = (hdsL 63 T.data.toList).length := by rw [(hds_eq f.bad).1]; exact (fieldN_len _).symm
 have hnn : (hdsL 63 T.data.toList).length ≤ 1000 := by
  rw [← hcnt]
  have h1 := f.parse.few
  have h2 := List.length_filter_le (fun h : Hd => h.field) (parseH T.data.toList).2
  unfold countF
  omega
 have HU1 : Hid (∀ w, Calls Tryz.prog 7 #[.string T] w fun e w' => e = .returned (.tuple #[.int .i64 ((hdsL 63 T.data.toList).length : Nat), .bool true]) ∧ Below w.heap.size w w') := fun w => by
  have := usable_any T w (by omega)
  rw [show ((checkP T.data.toList).1 == 0) = true by rw [hfine]; rfl] at this
  exact this
 have HU2 : Hid (∀ w, Calls Tryz.prog 7 #[.string s] w fun e w' => e = .returned (.tuple #[.int .i64 ((hdsL 63 s.data.toList).length : Nat), .bool ((checkP s.data.toList).1 == 0)]) ∧ Below w.heap.size w w') := fun w => usable_any s w hs
 have HF1 : Hid (∀ w', NumCells w' af gf og zs → Calls Tryz.prog 9 #[.slice af zs.length capf, .int .i64 ((hdsL 63 T.data.toList).length : Nat)] w' fun e w'' => e = .returned (.slice (some ⟨w'.heap.size, 0, none⟩) (hdsL 63 T.data.toList).length (hdsL 63 T.data.toList).length) ∧ w''.heap[w'.heap.size]? = some (.cells (numRow (fillN zs (hdsL 63 T.data.toList).length)).toArray 3 (0, 0)) ∧ Below w'.heap.size w' w'') := fun w' h => kfilled_any zs af gf og capf _ w' h (by omega) hz
 have HSL : Hid (∀ w', NumCells w' af gf og zs → NumCells w' ag gg ogg ys → TabOk w' → Calls Tryz.prog 11 #[.string T, .slice af zs.length capf, .slice ag ys.length capg, .int .i64 (r : Int)] w' fun e w'' => e = .returned (.bool true) ∧ Below w'.heap.size w' w'') := fun w' h1 h2 h3 => silent_any T zs ys af ag gf og capf gg ogg capg r hr w' hfine h1 h2 hz hy hfo hgo h3
 have hFl := fillN_len zs (hdsL 63 T.data.toList).length
 have hFo := fillN_ok hfo (hdsL 63 T.data.toList).length
 obtain ⟨N, hN⟩ := hnotes (fillN zs (hdsL 63 T.data.toList).length) (by rw [hFl, hcnt])
 have hk1 := runP_nts T.data.toList (fillN zs (hdsL 63 T.data.toList).length) hFo
 have hf1 := runP_few T.data.toList (fillN zs (hdsL 63 T.data.toList).length) hFo
 have hrun0 : (runP T.data.toList (fillN zs (hdsL 63 T.data.toList).length)).1 = 0 := by
  unfold runP
  rw [if_neg (by rw [hfine]; simp), if_neg (by rw [hFl, hcnt]; simp)]
 have hlenT : T.data.toList.length = T.size := by simp
 have hbill : billP (r : Int) (runP T.data.toList (fillN zs (hdsL 63 T.data.toList).length)) = (0, billB (r : Int) N ++ (intB ((T.size - 4 : Nat) : Int) ++ [58, 55, 10])) := by
  unfold billP
  rw [if_neg (by rw [hrun0]; simp), if_neg (by omega), hN, billB_app]
  have hsh : shownN (r : Int) ⟨0, T.data.toList.length - 4, 0, ⟨7, 0⟩⟩ = true := by
   have := (or_goes (a := 0) (r := r) (by omega) hr).1
   show ((0 : Int) == 0 && (bits .or .i64 ((0 : Nat) : Int) (r : Int) == (r : Int))) = true
   rw [this]
   simp [goesB]
  have e : billB (r : Int) [⟨0, T.data.toList.length - 4, 0, ⟨7, 0⟩⟩] = noteB ⟨0, T.data.toList.length - 4, 0, ⟨7, 0⟩⟩ := by
   unfold billB
   rw [if_pos hsh]
   simp [billB]
  rw [e, last_note, hlenT]
 have hXl : (billB (r : Int) N).length ≤ 300000 := by
  rw [hN] at hk1 hf1
  have h1 := billB_len (r : Int) N (fun x hx => hk1 x (by simp [hx]))
  simp only [List.length_append, List.length_cons, List.length_nil] at hf1
  omega
 have HBL : Hid (∀ (b : Nat) (w' : World), NumCells w' (some ⟨b, 0, none⟩) b 0 (fillN zs (hdsL 63 T.data.toList).length) → TabOk w' → Calls Tryz.prog 8 #[.string T, .slice (some ⟨b, 0, none⟩) (hdsL 63 T.data.toList).length (hdsL 63 T.data.toList).length, .int .i64 (r : Int)] w' (BillPost w' (0, billB (r : Int) N ++ (intB ((T.size - 4 : Nat) : Int) ++ [58, 55, 10])))) := fun b w' h h2 => by
  have := billText_any T (.slice (some ⟨b, 0, none⟩) (hdsL 63 T.data.toList).length (hdsL 63 T.data.toList).length) (r : Int) w' _ (fun w2 e => by
   subst e
   have := progText_any T (fillN zs (hdsL 63 T.data.toList).length) b (hdsL 63 T.data.toList).length _ (by unfold maxLen; omega) h (by unfold maxLen; omega) hFo
   rw [hFl] at this
   exact this) hf1 hk1 h2
  rw [hbill] at this
  exact this
 have HCL : Hid (∀ w', TabOk w' → Calls Tryz.prog 10 #[.string (txt (billB (r : Int) N ++ (intB ((T.size - 4 : Nat) : Int) ++ [58, 55, 10]))), .string T] w' fun e w'' => e = .returned (.bool true) ∧ Below w'.heap.size w' w'') := fun w' h => closes_any (billB (r : Int) N) T (by omega) (by omega) hXl w' h
 have HS2 : Hid ((checkP s.data.toList).1 = 0 → ∀ w', NumCells w' af gf og zs → NumCells w' ag gg ogg ys → TabOk w' → Calls Tryz.prog 11 #[.string s, .slice af zs.length capf, .slice ag ys.length capg, .int .i64 (r : Int)] w' fun e w'' => e = .returned (.bool true) ∧ Below w'.heap.size w' w'') := fun hc w' h1 h2 h3 => silent_any s zs ys af ag gf og capf gg ogg capg r hr w' hc h1 h2 hz hy hfo hgo h3
 generalize billB (r : Int) N ++ (intB ((T.size - 4 : Nat) : Int) ++ [58, 55, 10]) = BL at *
 generalize fillN zs (hdsL 63 T.data.toList).length = F at *
 generalize (hdsL 63 T.data.toList).length = n at *
 generalize (hdsL 63 s.data.toList).length = n2 at *
 have HZ : Hid (NumCells w af gf og zs) := hf
 have HY : Hid (NumCells w ag gg ogg ys) := hg
 have HT : Hid (TabOk w) := ht
 clear hf hg ht hfo hgo hk1 hf1 hrun0 hbill hXl hnotes hfine f hFo hN hcnt
 by_cases hok : (checkP s.data.toList).1 = 0
 ·have HS3 : Hid _ := HS2.out hok
  have e0 : ((checkP s.data.toList).1 == 0) = true := by rw [hok]; rfl
  rw [e0] at HU2
  clear e0 hok HS2
  go_enter Tryz.func3, Tryz.ntmps3
  go_wp2_with (first | (go_at_call 5; refine (HPK.out _).mono ?_; rintro e wp ⟨rfl, hwp⟩; rw [hwp]; clear hwp) | (go_at_call 6; refine (HSM.out _).mono ?_; rintro e w1 ⟨rfl, hb1⟩; have HB1 : Hid (Below w.heap.size w w1) := hb1; clear hb1) | (go_at_call 11; refine (HS3.out w8 (HZ.out.below HB8.out) (HY.out.below HB8.out) (HT.out.below HB8.out)).mono ?_; rintro e w9 ⟨rfl, hb9⟩; have HB9 : Hid (Below w.heap.size w w9) := HB8.out.trans (hb9.mono HB8.out.size); clear hb9) | (go_at_call 7; refine (HU2.out w7).mono ?_; rintro e w8 ⟨rfl, hb8⟩; have HB8 : Hid (Below w.heap.size w w8) := HB7.out.trans (hb8.mono HB7.out.size); clear hb8) | (go_at_call 11; refine (HSL.out w5 (HZ.out.below HB5.out) (HY.out.below HB5.out) (HT.out.below HB5.out)).mono ?_; rintro e w7 ⟨rfl, hb7⟩; have HB7 : Hid (Below w.heap.size w w7) := HB5.out.trans (hb7.mono HB5.out.size); clear hb7) | (go_at_call 10; refine (HCL.out w4 (HT.out.below HB4.out)).mono ?_; rintro e w5 ⟨rfl, hb5⟩; have HB5 : Hid (Below w.heap.size w w5) := HB4.out.trans (hb5.mono HB4.out.size); clear hb5) | (go_at_call 8; refine (HBL.out bA w3 (numT HA3.out) (HT.out.below HB3.out)).mono ?_; rintro e w4 ⟨rfl, hb4⟩; have HB4 : Hid (Below w.heap.size w w4) := HB3.out.trans (hb4.mono HB3.out.size); clear hb4) | (go_at_call 9; refine (HF1.out w2 (HZ.out.below HB2.out)).mono ?_; rintro e w3 ⟨rfl, hh3, hb3⟩; generalize hbA : w2.heap.size = bA at *; have HA3 : Hid (w3.heap[bA]? = some (.cells (numRow F).toArray 3 (0, 0))) := hh3; have HB3 : Hid (Below w.heap.size w w3) := HB2.out.trans (hb3.mono (by rw [← hbA]; exact HB2.out.size)); clear hb3 hh3 hbA) | (go_at_call 7; refine (HU1.out w1).mono ?_; rintro e w2 ⟨rfl, hb2⟩; have HB2 : Hid (Below w.heap.size w w2) := HB1.out.trans (hb2.mono HB1.out.size); clear hb2))
  go_ret
  exact ⟨rfl, HB9.out⟩
 ·have e0 : ((checkP s.data.toList).1 == 0) = false := by rw [beq_eq_false_iff_ne]; exact hok
  rw [e0] at HU2
  clear e0 hok HS2
  go_enter Tryz.func3, Tryz.ntmps3
  go_wp2_with (first | (go_at_call 5; refine (HPK.out _).mono ?_; rintro e wp ⟨rfl, hwp⟩; rw [hwp]; clear hwp) | (go_at_call 6; refine (HSM.out _).mono ?_; rintro e w1 ⟨rfl, hb1⟩; have HB1 : Hid (Below w.heap.size w w1) := hb1; clear hb1) | (go_at_call 7; refine (HU2.out w7).mono ?_; rintro e w8 ⟨rfl, hb8⟩; have HB8 : Hid (Below w.heap.size w w8) := HB7.out.trans (hb8.mono HB7.out.size); clear hb8) | (go_at_call 11; refine (HSL.out w5 (HZ.out.below HB5.out) (HY.out.below HB5.out) (HT.out.below HB5.out)).mono ?_; rintro e w7 ⟨rfl, hb7⟩; have HB7 : Hid (Below w.heap.size w w7) := HB5.out.trans (hb7.mono HB5.out.size); clear hb7) | (go_at_call 10; refine (HCL.out w4 (HT.out.below HB4.out)).mono ?_; rintro e w5 ⟨rfl, hb5⟩; have HB5 : Hid (Below w.heap.size w w5) := HB4.out.trans (hb5.mono HB4.out.size); clear hb5) | (go_at_call 8; refine (HBL.out bA w3 (numT HA3.out) (HT.out.below HB3.out)).mono ?_; rintro e w4 ⟨rfl, hb4⟩; have HB4 : Hid (Below w.heap.size w w4) := HB3.out.trans (hb4.mono HB3.out.size); clear hb4) | (go_at_call 9; refine (HF1.out w2 (HZ.out.below HB2.out)).mono ?_; rintro e w3 ⟨rfl, hh3, hb3⟩; generalize hbA : w2.heap.size = bA at *; have HA3 : Hid (w3.heap[bA]? = some (.cells (numRow F).toArray 3 (0, 0))) := hh3; have HB3 : Hid (Below w.heap.size w w3) := HB2.out.trans (hb3.mono (by rw [← hbA]; exact HB2.out.size)); clear hb3 hh3 hbA) | (go_at_call 7; refine (HU1.out w1).mono ?_; rintro e w2 ⟨rfl, hb2⟩; have HB2 : Hid (Below w.heap.size w w2) := HB1.out.trans (hb2.mono HB1.out.size); clear hb2))
  go_ret
  exact ⟨rfl, HB8.out⟩
end Go.Proofs.YtdgmoiflahoihabGreatDoor
