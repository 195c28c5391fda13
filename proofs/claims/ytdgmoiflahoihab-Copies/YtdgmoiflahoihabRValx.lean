import Derived.Test.YtdgmoiflahoihabRPilex
import Derived.Deep.MidRow

namespace Go.Proofs.Ytdgmoiflahoihab
open Go.RowKit
set_option linter.unusedSimpArgs false
set_option linter.unusedVariables false
set_option maxRecDepth 100000 in
set_option maxHeartbeats 1000000 in
theorem valueOf_any (l : List Pt) (names : List Vl) (P : Nat → Prop) (v : Value) (w : World) (hn : names.length = 26) (hno : ∀ v ∈ names, VlOk v) (hl : l.length ≤ 1000) (hok : ∀ p ∈ l, PtOk p) (hnm : ∀ p ∈ l, PtNum p) (hv : PartsV w P v l) :
  Calls Try.prog 40 #[v, .agg (vlArr names)] w fun e w' => e = .returned (vlV (valueV names l)) ∧ Below w.heap.size w w' := by
 have hsz := vlArr_size hn
 obtain ⟨ao, g, cap, rfl, hcells⟩ := parts_form hv
 clear hv
 generalize hV : valueV names l = y
 have HV : Hid (topV (pileV names l []) = y) := hV
 clear hV
 have HNO : Hid _ := hno
 have HC : Hid _ := hcells
 have HOK : Hid _ := hok
 have HNM : Hid _ := hnm
 clear hno hcells hok hnm
 have hB0 : Below w.heap.size w (((w.alloc (.cells (vlArr names) 59)).alloc (.cells #[.int .i64 0, .int .i64 0] 32)).alloc (.cells #[.slice none 0 0] 103)) := by
  refine Below.alloc (Below.alloc (Below.alloc (Below.refl _ _) (Nat.le_refl _) _) ?_ _) ?_ _ <;> simp <;> omega
 have hN0 : NamesAt (((w.alloc (.cells (vlArr names) 59)).alloc (.cells #[.int .i64 0, .int .i64 0] 32)).alloc (.cells #[.slice none 0 0] 103)) w.heap.size names := by
  refine ((NamesAt.new w names).keep (B := w.heap.size + 1) ?_ (by omega))
  refine Below.alloc (Below.alloc (Below.refl _ _) ?_ _) ?_ _ <;> simp <;> omega
 go_enter Try.func40, Try.ntmps40
 go_upto_region 2 with fail
 generalize hW : (((w.alloc (.cells (vlArr names) 59)).alloc (.cells #[.int .i64 0, .int .i64 0] 32)).alloc (.cells #[.slice none 0 0] 103)) = W at *
 have hR0 : ResAt W (w.heap.size + 1) := by
  rw [← hW]
  refine ⟨?_, ?_, fun o => ?_⟩ <;> simp [go_sem]
 have hP0 : PileAt W (w.heap.size + 1 + 1) (fun _ => True) [] := by
  rw [← hW]
  exact ⟨⟨.slice none 0 0, by simp [go_sem], World.ownsRow_nil .., fun _ _ => trivial⟩, fun o => by simp [go_sem]⟩
 clear hW
 go_wp2_with fail
 go_loopw [11] (fun x w' => ∃ (k : Nat) (st : List Vl), x = .int .i64 k ∧ k ≤ l.length ∧ st.length ≤ k ∧ Hid (NamesAt w' w.heap.size names) ∧ Hid (ResAt w' (w.heap.size + 1)) ∧ Hid (PileAt w' (w.heap.size + 1 + 1) (fun _ => True) st) ∧ Hid (Below w.heap.size w w') ∧ Hid (∀ v ∈ st, VlOk v) ∧ Hid (topV (pileV names (l.drop k) st) = y)) (fun x _ => l.length - (intOf x).toNat)
 case atStart => exact ⟨0, [], rfl, by omega, by simp, hN0, hR0, hP0, hB0, by show ∀ v ∈ [], VlOk v; simp, HV⟩
 case round =>
  obtain ⟨k, st, rfl, hk, hst, HN, HR, HP, HB, HSO, HL⟩ := hrel
  clear hN0 hR0 hP0 hB0
  have hpl : w.heap.size + 1 + 1 < wr.heap.size := HP.out.lt
  by_cases hlt : k < l.length
  ·have tk : decide ((k : Int) < (l.length : Int)) = true := by simp; omega
   obtain ⟨e0, hg, c0, c1⟩ := HC.out k hlt
   have OKP : Hid (PtOk l[k]) := HOK.out l[k] (List.getElem_mem hlt)
   have NMP : Hid (PtNum l[k]) := HNM.out l[k] (List.getElem_mem hlt)
   rw [← HB.out.cell (p := ⟨g, k * 2, none⟩) hg] at c0
   rw [← HB.out.cell (p := ⟨g, k * 2 + 1, none⟩) hg] at c1
   have HST : Hid (topV (pileV names (l.drop (k + 1)) ((takeV names l[k] st).2 ++ [(takeV names l[k] st).1])) = y) := by
    have := HL.out
    rw [List.drop_eq_getElem_cons hlt] at this
    exact this
   generalize hp : l[k] = p at *
   clear hp
   subst e0
   have HTO : Hid _ := takeV_ok (p := p) HNO.out HSO.out NMP.out
   have hlen := takeV_len names st p
   have hi59 : (Try.prog.info? 59).map (fun i => i.size) = some (vlArr names).size := by rw [infoVals, hsz]
   go_wp2_with (first | (refine wpList_load_row rfl 59 _ rfl w.heap.size rfl 59 (vlArr names) (0, 0) _ (by exact (HN.out.keep (B := wr.heap.size) ((Below.refl _ _).alloc (Nat.le_refl _) _) (by omega)).here) Try.underlying59 rfl hi59 ?_) | (go_at_call 50; refine (pileTake_any (w.heap.size + 1 + 1) p names st _ _ (by exact HP.out.alloc _) (by omega) hn HNO.out HSO.out OKP.out).mono ?_; rintro e w1 ⟨rfl, hP1, hb1⟩))
   refine (pilePush_any (w.heap.size + 1 + 1) (takeV names p st).2 (takeV names p st).1 _ (by exact hP1.alloc _) (by omega)).mono ?_
   rintro e w2 ⟨rfl, hP2, hb2⟩
   have hA1 : Below (w.heap.size + 1 + 1) wr (wr.alloc (.cells #[.int .i64 p.op, .int .i64 p.num] 100)) := (Below.refl _ _).alloc (by omega) _
   have hs1 := hb1.size
   have hs1b : wr.heap.size < w1.heap.size := by
    have e1 : (wr.alloc (.cells #[.int .i64 p.op, .int .i64 p.num] 100)).heap.size = wr.heap.size + 1 := by simp
    omega
   have hA2 : Below (w.heap.size + 1 + 1) wr w2 := ((hA1.trans hb1).alloc (by omega) _).trans hb2
   have HN2 : Hid (NamesAt w2 w.heap.size names) := HN.out.keep hA2 (by omega)
   have HR2 : Hid (ResAt w2 (w.heap.size + 1)) := HR.out.of_block (hA2.block _ (by omega))
   have HB2 : Hid (Below w.heap.size w w2) := HB.out.trans (hA2.mono (by omega))
   have HP2 : Hid (PileAt w2 (w.heap.size + 1 + 1) (fun _ => True) ((takeV names p st).2 ++ [(takeV names p st).1])) := hP2
   have HSO2 : Hid (∀ v ∈ (takeV names p st).2 ++ [(takeV names p st).1], VlOk v) := by
    intro v hv
    rcases List.mem_append.mp hv with h | h
    ·exact HTO.out.2 v h
    ·simp at h; rw [h]; exact HTO.out.1
   clear hA1 hA2 hb1 hb2 hP1 hP2 c0 c1 HN HR HP HB hs1
   go_wp2_with fail
   go_roundw
   case rel => exact ⟨k + 1, _, by go_num, by omega, by simp; omega, HN2, HR2, HP2, HB2, HSO2, HST⟩
   case measure => simp [intOf]; omega
  ·have tk : decide ((k : Int) < (l.length : Int)) = false := by simp; omega
   have HF : Hid (topV st = y) := by
    have := HL.out
    rw [List.drop_of_length_le (by omega)] at this
    exact this
   go_wp2_with (first | (go_at_call 52; refine (pilePop_any (w.heap.size + 1 + 1) st _ _ HP.out (by omega)).mono ?_; rw [HF.out]; rintro e w1 ⟨rfl, hP1, hb1⟩; obtain ⟨s0, s1, sf⟩ := HR.out.of_block (but_other hb1 (by omega) (by omega)); have HB1 : Hid (Below (w.heap.size + 1 + 1) wr w1) := but_below hb1 hpl; clear hb1 hP1))
   refine bodyPost_ret (v := vlV y) (by simp [results, Try.results40, go_sem, s0, s1, sf]) rfl ⟨rfl, ?_⟩
   exact ((HB.out.trans (HB1.out.mono (by omega))).setCell (by simp only; omega) _).setCell (by simp only; omega) _
end Go.Proofs.Ytdgmoiflahoihab
