import Derived.Test.YtdgmoiflahoihaaBDRw

namespace Go.Proofs.Ytdgmoiflahoihaa
open Go.RowKit
set_option linter.unusedSimpArgs false
set_option linter.unusedVariables false
abbrev lnV (l : Ln) : Value := .agg #[.int .i64 l.place, .int .i64 l.val.num, .int .i64 l.val.fault]
def lnCell (l : Ln) : List Value := [.int .i64 l.place, .int .i64 l.val.num, .int .i64 l.val.fault]
def lnCells (l : List Ln) : List Value := l.flatMap lnCell
structure BdK (w W : World) (b : Nat) (s : ByteArray) (x : Sc) (v0 v1 v2 : Value) : Prop where
 sc : ScAt W b s x
 g0 : W.cell? ⟨w.heap.size + 1, 0, none⟩ = some v0
 g1 : W.cell? ⟨w.heap.size + 1, 1, none⟩ = some v1
 g2 : W.cell? ⟨w.heap.size + 1, 2, none⟩ = some v2
 gf : ∀ o, W.frozen? ⟨w.heap.size + 1, o, none⟩ = false
 h0 : W.cell? ⟨w.heap.size, 0, none⟩ = some (.int .i64 0)
 h1 : W.cell? ⟨w.heap.size, 1, none⟩ = some (.int .i64 0)
 h2 : W.cell? ⟨w.heap.size, 2, none⟩ = some (.int .i64 0)
 hf : ∀ o, W.frozen? ⟨w.heap.size, o, none⟩ = false
 but : But b w W
 size : w.heap.size + 2 ≤ W.heap.size
 lt : b < w.heap.size
theorem BdK.start {w : World} {b : Nat} {s : ByteArray} {x : Sc} (h : ScAt w b s x) (t t' : TypeId) : BdK w ((w.alloc (.cells #[.int .i64 0, .int .i64 0, .int .i64 0] t)).alloc (.cells #[.int .i64 0, .int .i64 0, .int .i64 0] t')) b s x (.int .i64 0) (.int .i64 0) (.int .i64 0) := by
 refine ⟨(h.alloc _).alloc _, ?_, ?_, ?_, fun o => ?_, ?_, ?_, ?_, fun o => ?_, ((But.refl _ _).alloc _).alloc _, by simp, h.lt⟩
 all_goals simp [go_sem]
theorem BdK.call {w W W' : World} {b : Nat} {s : ByteArray} {x y : Sc} {v0 v1 v2 : Value} (L : BdK w W b s x v0 v1 v2) (h : ScAt W' b s y) (hb : But b W W') : BdK w W' b s y v0 v1 v2 := by
 have hs := L.size
 have hl := L.lt
 have k1 : W'.heap[w.heap.size + 1]? = W.heap[w.heap.size + 1]? := hb.block _ (by omega) (fun e => by cases e; omega)
 have k0 : W'.heap[w.heap.size]? = W.heap[w.heap.size]? := hb.block _ (by omega) (fun e => by cases e; omega)
 exact ⟨h, (World.cell?_of_block (a := ⟨w.heap.size + 1, 0, none⟩) k1).trans L.g0, (World.cell?_of_block (a := ⟨w.heap.size + 1, 1, none⟩) k1).trans L.g1, (World.cell?_of_block (a := ⟨w.heap.size + 1, 2, none⟩) k1).trans L.g2, fun o => (World.frozen?_of_block (a := ⟨w.heap.size + 1, o, none⟩) k1).trans (L.gf o),
  (World.cell?_of_block (a := ⟨w.heap.size, 0, none⟩) k0).trans L.h0, (World.cell?_of_block (a := ⟨w.heap.size, 1, none⟩) k0).trans L.h1, (World.cell?_of_block (a := ⟨w.heap.size, 2, none⟩) k0).trans L.h2, fun o => (World.frozen?_of_block (a := ⟨w.heap.size, o, none⟩) k0).trans (L.hf o), L.but.trans hb, Nat.le_trans hs hb.size, hl⟩
theorem ScAt.setNew {w : World} {b : Nat} {s : ByteArray} {x : Sc} (h : ScAt w b s x) (a : Addr) (u : Value) (ha : a.block ≠ b) : ScAt (w.setCell a u) b s x := h.block (Below.heap_setCell _ _ _ _ (fun e => ha e.symm))
theorem BdK.set0 {w W : World} {b : Nat} {s : ByteArray} {x : Sc} {v0 v1 v2 : Value} (L : BdK w W b s x v0 v1 v2) (u : Value) : BdK w (W.setCell ⟨w.heap.size + 1, 0, none⟩ u) b s x u v1 v2 := by
 obtain ⟨sc, g0, g1, g2, gf, h0, h1, h2, hf, but, size, lt⟩ := L
 refine ⟨sc.setNew _ _ (by simp only; omega), ?_, ?_, ?_, fun o => ?_, ?_, ?_, ?_, fun o => ?_, but.setNew _ _ (by simp), by simpa using size, lt⟩
 all_goals simp [go_sem, g0, g1, g2, gf, h0, h1, h2, hf]
theorem BdK.set12 {w W : World} {b : Nat} {s : ByteArray} {x : Sc} {v0 v1 v2 : Value} (L : BdK w W b s x v0 v1 v2) (u v : Value) : BdK w ((W.setCell ⟨w.heap.size + 1, 1, none⟩ u).setCell ⟨w.heap.size + 1, 2, none⟩ v) b s x v0 u v := by
 obtain ⟨sc, g0, g1, g2, gf, h0, h1, h2, hf, but, size, lt⟩ := L
 refine ⟨(sc.setNew _ _ (by simp only; omega)).setNew _ _ (by simp only; omega), ?_, ?_, ?_, fun o => ?_, ?_, ?_, ?_, fun o => ?_, (but.setNew _ _ (by simp)).setNew _ _ (by simp), by simpa using size, lt⟩
 all_goals simp [go_sem, g0, g1, g2, gf, h0, h1, h2, hf]
theorem BdK.done {w W : World} {b : Nat} {s : ByteArray} {x : Sc} {v0 v1 v2 : Value} (L : BdK w W b s x v0 v1 v2) (u0 u1 u2 : Value) : ScAt (((W.setCell ⟨w.heap.size, 0, none⟩ u0).setCell ⟨w.heap.size, 1, none⟩ u1).setCell ⟨w.heap.size, 2, none⟩ u2) b s x ∧ But b w (((W.setCell ⟨w.heap.size, 0, none⟩ u0).setCell ⟨w.heap.size, 1, none⟩ u1).setCell ⟨w.heap.size, 2, none⟩ u2) := by
 have hl := L.lt
 exact ⟨((L.sc.setNew _ _ (by simp only; omega)).setNew _ _ (by simp only; omega)).setNew _ _ (by simp only; omega), ((L.but.setNew _ _ (Nat.le_refl _)).setNew _ _ (Nat.le_refl _)).setNew _ _ (Nat.le_refl _)⟩
set_option maxRecDepth 10000 in
set_option maxHeartbeats 2000000 in
theorem bdLine_any (b : Nat) (s : ByteArray) (x : Sc) (w : World) (h : ScAt w b s x) (hs : s.size ≤ 2000000) :
  Calls Try.prog 97 #[.pointer (some ⟨b, 0, none⟩)] w fun e w' => e = .returned (lnV x.line.1) ∧ ScAt w' b s x.line.2 ∧ But b w w' := by
 have HL0 : Hid (BdK w ((w.alloc (.cells #[.int .i64 0, .int .i64 0, .int .i64 0] 113)).alloc (.cells #[.int .i64 0, .int .i64 0, .int .i64 0] 113)) b s x (.int .i64 0) (.int .i64 0) (.int .i64 0)) := BdK.start h _ _
 clear h
 have HA : Hid (∀ w, ScAt w b s x → Calls Try.prog 123 #[.pointer (some ⟨b, 0, none⟩), .int .i64 400] w fun e w' => e = .returned (.int .i64 ((x.number 400).1 : Nat)) ∧ ScAt w' b s (x.number 400).2 ∧ But b w w') := fun w h => bdNumber_any b s x 400 w h hs (by decide) (by decide)
 have HB : Hid (∀ y w, ScAt w b s y → Calls Try.prog 124 #[.pointer (some ⟨b, 0, none⟩), .int .u8 58] w fun e w' => e = .returned (.tuple #[]) ∧ ScAt w' b s (y.take 58 58).2 ∧ But b w w') := fun y w h => bdTook_any b s y 58 w h hs
 have HC : Hid (∀ y w, ScAt w b s y → Calls Try.prog 125 #[.pointer (some ⟨b, 0, none⟩)] w fun e w' => e = .returned (vlV y.value.1) ∧ ScAt w' b s y.value.2 ∧ But b w w') := fun y w h => bdValue_any b s y w h hs
 have HD : Hid (∀ y w, ScAt w b s y → Calls Try.prog 124 #[.pointer (some ⟨b, 0, none⟩), .int .u8 10] w fun e w' => e = .returned (.tuple #[]) ∧ ScAt w' b s (y.take 10 10).2 ∧ But b w w') := fun y w h => bdTook_any b s y 10 w h hs
 have hx : x.line = (⟨((x.number 400).1 : Nat), ((x.number 400).2.take 58 58).2.value.1⟩, (((x.number 400).2.take 58 58).2.value.2.take 10 10).2) := rfl
 rw [hx]
 clear hx
 generalize x.number 400 = p at *
 obtain ⟨n, y⟩ := p
 have HB2 := HB.out y
 have HB : Hid _ := HB2
 generalize (y.take 58 58).2 = z at *
 have HC2 := HC.out z
 have HC : Hid _ := HC2
 generalize z.value = v at *
 obtain ⟨v, u⟩ := v
 have HD2 := HD.out u
 have HD : Hid _ := HD2
 generalize (u.take 10 10).2 = t at *
 simp only at HA HB HC HD
 clear HB2 HC2 HD2
 go_enter Try.func97, Try.ntmps97
 go_wp2_with (first | (go_at_call 123; refine (HA.out _ HL0.out.sc).mono ?_; rintro e wa ⟨rfl, hsa, hba⟩; have HLa : Hid _ := HL0.out.call hsa hba; have a0 := HLa.out.g0; have af := HLa.out.gf; clear hsa hba) | (go_at_call 124; have HLb : Hid _ := HLa.out.set0 (.int .i64 n); refine (HB.out _ HLb.out.sc).mono ?_; rintro e wb ⟨rfl, hsb, hbb⟩; have HLc : Hid _ := HLb.out.call hsb hbb; clear hsb hbb HLa a0 af) | (go_at_call 125; refine (HC.out _ HLc.out.sc).mono ?_; rintro e wc ⟨rfl, hsc, hbc⟩; have HLd : Hid _ := HLc.out.call hsc hbc; have a0 := HLd.out.g1; have a1 := HLd.out.g2; have af := HLd.out.gf; clear hsc hbc HLc) | (go_at_call 124; have HLe : Hid _ := HLd.out.set12 (.int .i64 v.num) (.int .i64 v.fault); refine (HD.out _ HLe.out.sc).mono ?_; rintro e wd ⟨rfl, hsd, hbd⟩; have HLf : Hid _ := HLe.out.call hsd hbd; clear hsd hbd HLd a0 a1 af; have g0 := HLf.out.g0; have g1 := HLf.out.g1; have g2 := HLf.out.g2; have gf := HLf.out.gf; have h0 := HLf.out.h0; have h1 := HLf.out.h1; have h2 := HLf.out.h2; have hf := HLf.out.hf))
 obtain ⟨r1, r2⟩ := HLf.out.done (.int .i64 n) (.int .i64 v.num) (.int .i64 v.fault)
 exact bodyPost_ret (v := lnV ⟨n, v⟩) (by simp [results, Try.results97, go_sem, g0, g1, g2, gf, h0, h1, h2, hf]) rfl ⟨rfl, r1, r2⟩
end Go.Proofs.Ytdgmoiflahoihaa
