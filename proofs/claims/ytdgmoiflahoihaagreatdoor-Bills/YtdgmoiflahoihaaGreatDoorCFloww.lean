import Derived.Test.YtdgmoiflahoihaaGreatDoorCDirtyw
import Derived.Test.YtdgmoiflahoihaaGreatDoorPlainw
import Derived.Deep.AppendSrc

namespace Go.Proofs.YtdgmoiflahoihaaGreatDoor
open Go.RowKit
set_option linter.unusedSimpArgs false
set_option linter.unusedVariables false
theorem own_below {w w' : World} {base size n : Nat} {e : TypeId} {v : Value} {xs : List Value} (h : w.ownsRow base e size v n xs) (hb : Below w.heap.size w w') : w'.ownsRow base e size v n xs := by
 refine ⟨h.1, ?_⟩
 rcases h.2 with h0 | ⟨g, cap, cur, h1, h2, h3, h4⟩
 ·exact .inl h0
 ·refine .inr ⟨g, cap, cur, h1, h2, ?_, h4⟩
  rw [hb.block g (Array.getElem?_eq_some_iff.mp h3).1, h3]
theorem run_append_nil {P : Program} (w : World) (base : Nat) (t ty e : TypeId) (i : TypeInfo) (size : Nat) (ht : P.underlying t = some (.slice e)) (hi : P.info? e = some i) (hsize : i.size = size)
  (v : Value) (n : Nat) (xs : List Value) (hown : w.ownsRow base e size v n xs) : (Builtin.append_ #[t, t] ty #[v, .slice none 0 0]).run P w = .ok v w := by
 rcases hown.2 with ⟨rfl, h0⟩ | ⟨g, cap, cur, rfl, h2, h3, h4, h5⟩
 ·simp [Builtin.append_, run_underlying ht, sizeOf, typeInfo, hi, Builtin.lenOf, run_firstCells_none]
 ·have := run_append_room_src (P := P) (w := w) t t ty e i ht hi g 0 n cap (.slice none 0 0) 0 [] (Src.ofNil w ht 0) (by omega) (by simp) (by simp)
  simpa [World.setCells] using this
theorem wpList_append_two {P : Program} {w : World} {ops : Array Oper} {rest : List Oper} {o : Oper} {a : Act} {Q : Exit → Act → World → Prop} (hgd : o.guard = none) (s x : Operand) (t : TypeId)
  (ho : o.op = .call { callee := .builtin .append, args := #[s, x], argTypes := #[t, t] })
  (base base2 : Nat) (e : TypeId) (i : TypeInfo) (z : Value) (size bytes : Nat) (ht : P.underlying t = some (.slice e)) (hi : P.info? e = some i) (hz : i.zero = some z)
  (hsize : i.size = size) (hby : i.bytes = bytes) (hzs : z.cells.size = size) (hsz : 0 < size)
  (v : Value) (n : Nat) (xs : List Value) (hs : a.eval s = v) (hown : w.ownsRow base e size v n xs)
  (u : Value) (m : Nat) (news : List Value) (hx : a.eval x = u) (hu : w.ownsRow base2 e size u m news) (h1 : ∀ q ∈ news, q.oneCell' = true)
  (h63 : n + m ≤ maxLen) (hbytes : (n + m) * bytes ≤ 140737488355328) (hbase : base ≤ w.heap.size)
  (h : ∀ v' w', w'.ownsRow base e size v' (n + m) (xs ++ news) → w.grownBy w' v.ownBlock → wpList P ops Q rest (a.put o.dst v') w') : wpList P ops Q (o :: rest) a w := by
 rcases Joins.ownsRow_forms hu with ⟨rfl, rfl⟩ | ⟨g, cap, rfl⟩
 ·have hn : news = [] := List.eq_nil_of_length_eq_zero (by simpa using hu.1)
  subst hn
  have hrun := run_append_nil (P := P) w base t o.type e i size ht hi hsize v n xs hown
  refine wpList_plain hgd fun _ hK => ?_
  unfold Oper.wp
  simp [execOp, ho, resolve, invoke, builtin, hs, hx, hrun, Result.andThen]
  exact hK _ _ (h v w (by simpa using hown) (World.grownBy.refl w _))
 ·refine wpList_append_own w hgd s x t ho base e i z size bytes ht hi hz hsize hby hzs hsz v n xs hs hown ⟨g, 0, none⟩ m cap news hx hu.1 (hu.cells rfl) h1 h63 hbytes hbase fun v' w' r1 r2 _ => h v' w' r1 r2
theorem own_far {W w : World} {base n m s1 s2 : Nat} {e f : TypeId} {v u : Value} {xs ys : List Value} (h : w.ownsRow W.heap.size e s1 v n xs) (k : W.ownsRow base f s2 u m ys) : v.ownBlock = none ∨ v.ownBlock ≠ u.ownBlock := by
 cases hv : v.ownBlock with
 | none => exact .inl rfl
 | some g =>
  refine .inr fun e1 => ?_
  have h1 := (h.lt g hv).1
  have h2 := (k.lt g e1.symm).2
  omega
def flV (f : Fl) : List Value := [.int .i64 f.dst, .int .i64 f.frm, .int .i64 f.sec]
def flCells (l : List Fl) : List Value := l.flatMap flV
theorem flCells_app (l r : List Fl) : flCells (l ++ r) = flCells l ++ flCells r := by simp [flCells]
theorem flCells_one (l : List Fl) : ∀ q ∈ flCells l, q.oneCell' = true := by
 intro q hq
 simp [flCells, flV] at hq
 obtain ⟨f, _, rfl | rfl | rfl⟩ := hq <;> rfl
theorem infoFlow : (Tryz.prog.info? 214).map (fun i => (i.zero, i.size, i.bytes)) = some (some (.agg #[.int .i64 0, .int .i64 0, .int .i64 0]), 3, 24) := by kernel_rfl
theorem three_new (w : World) (a b c : Value) (t : TypeId) : ∀ j u, [a, b, c][j]? = some u → (w.alloc (.cells #[a, b, c] t)).cell? ((⟨w.heap.size, 0, none⟩ : Addr).add j) = some u := by
 intro j u h
 match j, h with
 | 0, h => simp at h; subst h; simp [Addr.add]
 | 1, h => simp at h; subst h; simp [Addr.add]
 | 2, h => simp at h; subst h; simp [Addr.add]
theorem own_len {w : World} {base n m : Nat} {e : TypeId} {v : Value} {xs ys : List Value} (h : w.ownsRow base e 3 v n xs) (h1 : n = m) (h2 : xs = ys) : w.ownsRow base e 3 v m ys := by
 subst h1; subst h2; exact h
set_option maxRecDepth 100000 in
set_option maxHeartbeats 2000000 in
theorem flows_any (F : Nat) : ∀ (b lo hi g : Nat) (r : List Fl) (C : List UInt8) (A : List Int) (w : World) (hb : BookAt w b C A) (hg : g < 2 ^ 26) (ho : flowsF C F lo hi g = some r) (hlo : lo ≤ 500) (hhi : hi ≤ 500),
  Calls Tryz.prog 107 #[.pointer (some ⟨b, 0, none⟩), .int .i64 lo, .int .i64 hi, .int .i64 g] w fun x w' => ∃ v, x = .returned v ∧ w'.ownsRow w.heap.size 214 3 v r.length (flCells r) ∧ Below w.heap.size w w' := by
 induction F using Nat.strongRecOn with
 | ind F ih =>
 intro b lo hi g r C A w hb hg ho hlo hhi
 obtain ⟨iF, hiF, hzF, hsF, hbF⟩ := info_parts infoFlow
 have IH : Hid (∀ m, m < F → _) := ih
 have HB : Hid (BookAt w b C A) := hb
 have hrl := flows_lt ho
 have HO : Hid (flowsF C F lo hi g = some r) := ho
 have hC := hb.small
 clear ih hb ho
 go_enter Tryz.func107, Tryz.ntmps107
 go_wp2
 go_loopw [9, 10] (fun v x w' => ∃ (k f : Nat) (L z : List Fl), x = .int .i64 k ∧ k ≤ 500 ∧ f ≤ F ∧ BookAt w' b C A ∧ Below w.heap.size w w' ∧ w'.ownsRow w.heap.size 214 3 v L.length (flCells L) ∧ Hid (flowsF C f k hi g = some z) ∧ Hid (L ++ z = r)) (fun v x w' => 500 - (intOf x).toNat)
 case atStart => exact ⟨lo, F, [], r, rfl, hlo, Nat.le_refl _, HB.out, Below.refl _ _, World.ownsRow_nil .., HO, rfl⟩
 case round =>
  obtain ⟨k, f, L, z, rfl, hk, hf, hbk, hbl, hown, HD, HR⟩ := hrel
  by_cases hlt : k < hi
  ·obtain ⟨f', ⟨name, label, elo, ehi⟩, t, o, x, y, z', rfl, hre, hbs, hov, hel, heh, hx, hy, hz, hzz⟩ := flows_step HD.out hlt
   have hog := over_gt hov
   have hol := over_le hov
   have HE : Hid (restC C k = some ⟨name, label, elo, ehi⟩) := hre
   have HT : Hid (blocksC C k = some t) := hbs
   have HV : Hid (overC C k = some o) := hov
   have HX : Hid _ := hx
   have HY : Hid _ := hy
   have HZ : Hid _ := hz
   have hinl := innOf_lt (C := C) (e := ⟨name, label, elo, ehi⟩) hg
   have hlen : (L ++ z).length < 100000 := by rw [HR.out]; exact hrl
   obtain ⟨b1, b2, b3, b4⟩ := blocks_le hbs hC
   have hnl := namesC_lt C elo ehi
   have HZZ : Hid _ := hzz
   simp only [hzz, List.length_append] at hlen
   clear hre hbs hov hx hy hz hzz
   simp only at hel heh
   have HBK : Hid (BookAt wr b C A) := hbk
   clear hbk
   generalize hinn : innOf C ⟨name, label, elo, ehi⟩ g = inn at *
   have HINN : Hid (innOf C ⟨name, label, elo, ehi⟩ g = inn) := hinn
   clear hinn
   go_upto_if 41 with (first | (go_at_call 79; refine (rest_any b k ⟨name, label, elo, ehi⟩ C A _ HBK.out HE.out).mono ?_; rintro x1 w' ⟨rfl, rfl⟩))
   go_cut [15, 16] from 25 to 97 (fun a q wx => a = .int .i64 inn ∧ Hid (BookAt wx b C A) ∧ Below w.heap.size w wx ∧ Hid (wx = w'))
   case first =>
    by_cases hlab : label < 0
    ·have hgi := i64_or_nat g (namesC C elo ehi) (by omega) (by omega)
     have hin2 : g ||| namesC C elo ehi = inn := by have := HINN.out; simpa [innOf, hlab] using this
     rw [hin2] at hgi
     clear hin2
     go_wp2_with (first | (go_at_call 109; refine (names_any b elo ehi C A _ HBK.out hel heh).mono ?_; rintro x1 w2 ⟨rfl, rfl⟩))
     go_meet
     exact ⟨rfl, HBK, hbl, rfl⟩
    ·have hin2 : g = inn := by have := HINN.out; simpa [innOf, hlab] using this
     have HI2 : Hid (g = inn) := hin2
     clear hin2
     go_wp2
     go_meet
     exact ⟨by rw [HI2.out], HBK, hbl, rfl⟩
   case rest =>
   obtain ⟨rfl, HBK1, hbl1, HWC⟩ := hcut
   have hown1 := hown
   rw [← HWC.out] at hown1
   clear HBK hbl hown HWC
   go_upto_if 50 with fail
   have hL : L.length + (ownFl ⟨name, label, elo, ehi⟩ inn).length < 100000 := by omega
   go_cut [9, 17] from 25 to 97 (fun v q wx => wx.ownsRow w.heap.size 214 3 v (L ++ ownFl ⟨name, label, elo, ehi⟩ inn).length (flCells (L ++ ownFl ⟨name, label, elo, ehi⟩ inn)) ∧ Hid (BookAt wx b C A) ∧ Below w.heap.size w wx)
   case first =>
    by_cases hnm : 0 ≤ name
    ·have hof : ownFl ⟨name, label, elo, ehi⟩ inn = nameFl name inn 26 ++ (if 0 < label then [⟨name, -1, label⟩] else []) := by simp [ownFl, hnm]
     rw [hof] at hL
     simp only [List.length_append] at hL
     have HOF : Hid _ := hof
     clear hof
     have tnm : decide (0 ≤ name) = true := by simp [hnm]
     rw [tnm]
     clear tnm
     go_wp2_with fail
     go_loopw [9, 17] (fun v q w' => ∃ (kk : Nat) (M : List Fl), q = .int .i64 kk ∧ kk ≤ 26 ∧ w'.ownsRow w.heap.size 214 3 v M.length (flCells M) ∧ Hid (BookAt w' b C A) ∧ Below w.heap.size w w' ∧ M.length < 100000 ∧ Hid (M ++ nameFl name inn (26 - kk) = L ++ nameFl name inn 26)) (fun v q w' => 26 - (intOf q).toNat)
     case atStart => exact ⟨0, L, rfl, by omega, hown1, HBK1, hbl1, by omega, rfl⟩
     case round =>
      obtain ⟨kk, M, rfl, hkk, hownM, HBM, hblx, hMl, HM⟩ := hrel
      by_cases hlk : kk < 26
      ·have hap := and_pow inn kk 26 hinl (by omega) (by omega)
       by_cases hbit : inn &&& 2 ^ kk = 0
       ·have HF : Hid _ := nameFl_no (dst := name) hlk hbit
        rw [hbit] at hap
        have HAP : Hid (bits .and .i64 (inn : Int) (wrap64 (2 ^ kk)) = ((0 : Nat) : Int)) := hap
        clear hap hbit
        have tb : (bits .and .i64 (inn : Int) (wrap64 (2 ^ kk)) != 0) = false := by rw [HAP.out]; rfl
        go_wp2
        exact ⟨⟨kk + 1, M, by go_num, by omega, hownM, HBM, hblx, hMl, by have := HM.out; rw [HF.out] at this; exact this⟩, by simp [intOf]; omega⟩
       ·have HF : Hid _ := nameFl_yes (dst := name) hlk hbit
        have tb : (bits .and .i64 (inn : Int) (wrap64 (2 ^ kk)) != 0) = true := by rw [hap]; simpa using hbit
        have hM2 : (M ++ [(⟨name, (kk : Int), 0⟩ : Fl)]) ++ nameFl name inn (26 - (kk + 1)) = L ++ nameFl name inn 26 := by have := HM.out; rw [HF.out] at this; simpa using this
        have hM3 : (M ++ [(⟨name, (kk : Int), 0⟩ : Fl)]).length < 100000 := by have := congrArg List.length hM2; simp only [List.length_append] at this ⊢; omega
        have HM2 : Hid _ := hM2
        clear hap hbit hM2
        go_wp2_with (at_builtin; refine wpList_append_own _ rfl (.tmp 60) (.tmp 64) 181 rfl w.heap.size 214 iF (.agg #[.int .i64 0, .int .i64 0, .int .i64 0]) 3 24 Tryz.underlying181 hiF hzF hsF hbF rfl (by decide) _ M.length (flCells M) (by rfl) (by exact hownM.alloc _) ⟨wr.heap.size, 0, none⟩ 1 1 [.int .i64 name, .int .i64 kk, .int .i64 0] (by rfl) rfl (by exact three_new wr _ _ _ 214) (by intro q hq; simp at hq; rcases hq with rfl | rfl | rfl <;> rfl) (by unfold maxLen; omega) (by omega) (by have := hblx.size; simp; omega) ?nxt)
        case nxt =>
         intro v' w2 hown2 hgrow _
         have hb2 : Below w.heap.size w w2 := (hblx.alloc hblx.size _).grown hgrow (by have := hblx.size; simp; omega) (fun q hq => (hownM.lt q hq).1)
         have HB2 : Hid (BookAt w2 b C A) := HB.out.below hb2
         go_wp2
         go_roundw
         case rel => exact ⟨kk + 1, M ++ [⟨name, (kk : Int), 0⟩], by go_num, by omega, own_len hown2 (by simp) (by rw [flCells_app]; rfl), HB2, hb2, hM3, HM2⟩
         case measure => simp [intOf]; omega
      ·have hM : M = L ++ nameFl name inn 26 := by have := HM.out; rw [show 26 - kk = 0 by omega] at this; simpa [nameFl] using this
       by_cases hlp : 0 < label
       ·have HF : Hid (M ++ [⟨name, -1, label⟩] = L ++ ownFl ⟨name, label, elo, ehi⟩ inn) := by show _ = _; rw [hM, HOF.out, if_pos hlp]; simp
        clear hM
        go_wp2_with (at_builtin; refine wpList_append_own _ rfl (.tmp 68) (.tmp 72) 181 rfl w.heap.size 214 iF (.agg #[.int .i64 0, .int .i64 0, .int .i64 0]) 3 24 Tryz.underlying181 hiF hzF hsF hbF rfl (by decide) _ M.length (flCells M) (by rfl) (by exact hownM.alloc _) ⟨wr.heap.size, 0, none⟩ 1 1 [.int .i64 name, .int .i64 (-1), .int .i64 label] (by rfl) rfl (by exact three_new wr _ _ _ 214) (by intro q hq; simp at hq; rcases hq with rfl | rfl | rfl <;> rfl) (by unfold maxLen; omega) (by omega) (by have := hblx.size; simp; omega) ?nxt)
        case nxt =>
         intro v' w2 hown2 hgrow _
         have hb2 : Below w.heap.size w w2 := (hblx.alloc hblx.size _).grown hgrow (by have := hblx.size; simp; omega) (fun q hq => (hownM.lt q hq).1)
         have HB2 : Hid (BookAt w2 b C A) := HB.out.below hb2
         go_wp2
         go_meet
         have h5 := HF.out
         exact ⟨own_len hown2 (by rw [← h5]; simp) (by rw [← h5, flCells_app]; rfl), HB2, hb2⟩
       ·have HF : Hid (M = L ++ ownFl ⟨name, label, elo, ehi⟩ inn) := by show _ = _; rw [hM, HOF.out, if_neg hlp]; simp
        clear hM
        go_wp2
        go_meet
        have h5 := HF.out
        exact ⟨own_len hownM (by rw [← h5]) (by rw [← h5]), HBM, hblx⟩
    ·have HF : Hid (L = L ++ ownFl ⟨name, label, elo, ehi⟩ inn) := by show _ = _; simp [ownFl, hnm]
     go_wp2
     go_meet
     have h5 := HF.out
     exact ⟨own_len hown1 (by rw [← h5]) (by rw [← h5]), HBK1, hbl1⟩
   case rest =>
   obtain ⟨hown2, HBK2, hbl2⟩ := hcut
   clear HBK1 hbl1 hown1
   generalize hM : L ++ ownFl ⟨name, label, elo, ehi⟩ inn = M at *
   have hMl : M.length + x.length + y.length + z'.length < 100000 := by rw [← hM]; simp only [List.length_append]; omega
   have HM : Hid (M ++ x ++ y ++ z' = r) := by have h6 := HR.out; have h7 := HZZ.out; rw [h7] at h6; show _ = _; rw [← hM, ← h6]; simp
   clear hM
   go_wp2_with (first | (go_at_call 78; refine (blocks_any b k t C A _ HBK2.out HT.out).mono ?_; rintro x1 w3 ⟨rfl, rfl⟩))
   refine (IH.out f' (by omega) b t.p t.q inn x C A _ HBK2.out hinl HX.out b1 b2).mono ?_
   rintro x1 w4 ⟨vx, rfl, hox, hb4⟩
   have hbl4 := hbl2.trans (hb4.mono hbl2.size)
   have hown4 := own_below hown2 hb4
   have HBK4 : Hid (BookAt w4 b C A) := HB.out.below hbl4
   go_wp2_with fail
   refine (IH.out f' (by omega) b t.r t.s inn y C A _ HBK4.out hinl HY.out b3 b4).mono ?_
   rintro x1 w5 ⟨vy, rfl, hoy, hb5⟩
   have hbl5 := hbl4.trans (hb5.mono hbl4.size)
   have hown4k := hown4
   have hown5 := own_below hown4 hb5
   have hox5 := own_below hox hb5
   clear hox hown4 hown2 HBK4 HBK2
   go_wp2_with (at_builtin; refine wpList_append_two rfl (.tmp 92) (.tmp 93) 181 rfl w.heap.size _ 214 iF (.agg #[.int .i64 0, .int .i64 0, .int .i64 0]) 3 24 Tryz.underlying181 hiF hzF hsF hbF rfl (by decide) _ M.length (flCells M) (by rfl) hown5 _ x.length (flCells x) (by rfl) hox5 (flCells_one x) ?m1 ?m2 ?m3 ?nxt)
   case m1 => unfold maxLen; omega
   case m2 => omega
   case m3 => have := hbl5.size; omega
   case nxt =>
   intro v6 w6 hown6 hgrow6
   have hbl6 : Below w.heap.size w w6 := hbl5.grown hgrow6 hbl5.size (fun q hq => (hown5.lt q hq).1)
   have hap6 : vy.ownBlock = none ∨ vy.ownBlock ≠ _ := own_far hoy hown4k
   have hoy6 := hoy.kept hgrow6 hap6
   have hown6b : w6.ownsRow w.heap.size 214 3 v6 (M ++ x).length (flCells (M ++ x)) := own_len hown6 (by simp [Nat.add_assoc]) (by rw [flCells_app])
   have hMx : (M ++ x).length + y.length < 100000 := by simp only [List.length_append]; omega
   clear hown6 hown5 hox5 hoy hown4k hap6
   go_wp2_with (at_builtin; refine wpList_append_two rfl (.tmp 95) (.tmp 96) 181 rfl w.heap.size _ 214 iF (.agg #[.int .i64 0, .int .i64 0, .int .i64 0]) 3 24 Tryz.underlying181 hiF hzF hsF hbF rfl (by decide) _ (M ++ x).length (flCells (M ++ x)) (by rfl) hown6b _ y.length (flCells y) (by rfl) hoy6 (flCells_one y) ?m1 ?m2 ?m3 ?nxt)
   case m1 => unfold maxLen; omega
   case m2 => omega
   case m3 => have := hbl6.size; omega
   case nxt =>
   intro v7 w7 hown7 hgrow7
   have hbl7 : Below w.heap.size w w7 := hbl6.grown hgrow7 hbl6.size (fun q hq => (hown6b.lt q hq).1)
   have hown7b : w7.ownsRow w.heap.size 214 3 v7 (M ++ x ++ y).length (flCells (M ++ x ++ y)) := own_len hown7 (by simp [Nat.add_assoc]) (by rw [flCells_app (M ++ x)])
   have HBK7 : Hid (BookAt w7 b C A) := HB.out.below hbl7
   clear hown7 hown6b hoy6
   go_wp2_with fail
   refine (over_any b k o C A _ HBK7.out HV.out).mono ?_
   rintro x1 w8 ⟨rfl, hw8⟩
   subst hw8
   go_wp2_with fail
   go_roundw
   case rel => exact ⟨o, f', M ++ x ++ y, z', rfl, by omega, by omega, HBK7.out, hbl7, hown7b, HZ, HM⟩
   case measure => simp [intOf]; omega
  ·have hz := flows_end HD.out (by omega)
   have HF : Hid (L = r) := by have := HR.out; rw [hz, List.append_nil] at this; exact this
   have hown2 := hown
   rw [HF.out] at hown2
   clear hown hz
   go_wp2
   go_ret
   exact ⟨_, rfl, hown2, hbl⟩
end Go.Proofs.YtdgmoiflahoihaaGreatDoor
namespace Go.Proofs.YtdgmoiflahoihaaGreatDoor
open Go.RowKit
set_option linter.unusedSimpArgs false
set_option linter.unusedVariables false
theorem flCells_at (l : List Fl) : ∀ (i : Nat) (h : i < l.length), (flCells l)[i * 3]? = some (.int .i64 l[i].dst) ∧ (flCells l)[i * 3 + 1]? = some (.int .i64 l[i].frm) ∧ (flCells l)[i * 3 + 2]? = some (.int .i64 l[i].sec) := by
 induction l with
 | nil => intro i h; simp at h
 | cons f r ih =>
  intro i h
  cases i with
  | zero => simp [flCells, flV]
  | succ i =>
   have := ih i (by simpa using h)
   rw [show (i + 1) * 3 = i * 3 + 1 + 1 + 1 by omega]
   simpa [flCells, flV] using this
theorem fl_form {w : World} {base : Nat} {v : Value} {l : List Fl} (h : w.ownsRow base 214 3 v l.length (flCells l)) :
  ∃ ao g cap, v = .slice ao l.length cap ∧ ∀ i, ∀ hi : i < l.length, ao = some ⟨g, 0, none⟩ ∧ w.cell? ⟨g, i * 3, none⟩ = some (.int .i64 l[i].dst) ∧ w.cell? ⟨g, i * 3 + 1, none⟩ = some (.int .i64 l[i].frm) ∧ w.cell? ⟨g, i * 3 + 2, none⟩ = some (.int .i64 l[i].sec) := by
 rcases Joins.ownsRow_forms h with ⟨rfl, h0⟩ | ⟨g, cap, rfl⟩
 ·exact ⟨none, 0, 0, by rw [h0], fun i hi => absurd hi (by omega)⟩
 ·refine ⟨some ⟨g, 0, none⟩, g, cap, rfl, fun i hi => ⟨rfl, ?_, ?_, ?_⟩⟩
  ·rw [h.cellAt (i * 3) (by omega)]; exact (flCells_at l i hi).1
  ·rw [h.cellAt (i * 3 + 1) (by omega)]; exact (flCells_at l i hi).2.1
  ·rw [h.cellAt (i * 3 + 2) (by omega)]; exact (flCells_at l i hi).2.2
theorem scan_cons {rec : Nat → Nat → Option (Bool × Nat)} {x s k seen : Nat} {l : List Fl} (hk : k < l.length) : scanF rec x s (l.drop k) seen =
  if ¬ l[k].dst = (x : Int) then scanF rec x s (l.drop (k + 1)) seen
  else if l[k].frm < 0 ∧ l[k].sec.toNat &&& s ≠ 0 then some (true, seen)
  else if 0 ≤ l[k].frm ∧ seen &&& 2 ^ l[k].frm.toNat = 0 then
   match rec l[k].frm.toNat seen with
   | none => none
   | some (true, more) => some (true, more)
   | some (false, more) => scanF rec x s (l.drop (k + 1)) more
  else scanF rec x s (l.drop (k + 1)) seen := by
 rw [List.drop_eq_getElem_cons hk]
 rfl
theorem ret_two {a a' : Bool} {b b' : Int} (h1 : a = a') (h2 : b = b') : Ending.returned (.tuple #[.bool a, .int .i64 b]) = .returned (.tuple #[.bool a', .int .i64 b']) := by rw [h1, h2]
set_option maxRecDepth 100000 in
set_option maxHeartbeats 2000000 in
theorem tells_any (F : Nat) : ∀ (b x s seen base : Nat) (v : Value) (l : List Fl) (r : Bool × Nat) (C : List UInt8) (A : List Int) (w : World) (hb : BookAt w b C A) (hl : w.ownsRow base 214 3 v l.length (flCells l)) (hll : l.length < 100000) (hfl : FlOk l)
  (hx : x < 26) (hs : s < 16) (hseen : seen < 2 ^ 26) (ho : tellsF C l s F x seen = some r),
  Calls Tryz.prog 108 #[.pointer (some ⟨b, 0, none⟩), v, .int .i64 x, .int .i64 s, .int .i64 seen] w fun e w' => e = .returned (.tuple #[.bool r.1, .int .i64 r.2]) ∧ w' = w ∧ r.2 < 2 ^ 26 := by
 induction F with
 | zero => intro b x s seen base v l r C A w hb hl hll hfl hx hs hseen ho; cases ho
 | succ F ih =>
 intro b x s seen base v l r C A w hb hl hll hfl hx hs hseen ho
 unfold tellsF at ho
 cases hh : headC C (x : Int) with
 | none => rw [hh] at ho; cases ho
 | some h =>
 rw [hh] at ho
 have hhl := headC_lt hh
 have HB : Hid (BookAt w b C A) := hb
 have HH : Hid (headC C (x : Int) = some h) := hh
 clear hb hh
 by_cases h0 : 0 ≤ h
 ·obtain ⟨hn, rfl⟩ := Int.eq_ofNat_of_zero_le h0
  simp only [h0, if_true, Option.some.injEq] at ho
  subst ho
  have ha := i64_and_nat hn s (by omega) (by omega)
  go_enter Tryz.func108, Tryz.ntmps108
  go_wp2_with (first | (go_at_call 148; refine (head_any b x _ C A _ HB.out HH.out).mono ?_; rintro x1 w' ⟨rfl, rfl⟩))
  go_ret2
  exact ⟨ret_two (by rw [Bool.eq_iff_iff]; simp) rfl, rfl, hseen⟩
 ·simp only [h0, if_false] at ho
  have hpow := or_pow seen x 26 hseen hx (by omega)
  have IH : Hid (∀ b x s seen base v l r C A w, _) := ih
  have HO : Hid _ := ho
  have HL : Hid (w.ownsRow base 214 3 v l.length (flCells l)) := hl
  obtain ⟨ao, gg, cap, rfl, hcl⟩ := fl_form hl
  have HCL : Hid (∀ i, ∀ hi : i < l.length, _) := hcl
  clear hcl
  have th : decide (0 ≤ h) = false := by simp [h0]
  clear ih ho hl
  have hp1 := hpow.1
  have hp2 := hpow.2
  clear hpow
  generalize seen ||| 2 ^ x = seen1 at *
  go_enter Tryz.func108, Tryz.ntmps108
  go_wp2_with (first | (go_at_call 148; refine (head_any b x _ C A _ HB.out HH.out).mono ?_; rintro x1 w' ⟨rfl, rfl⟩))
  go_loop [4, 13] (fun y z => ∃ (k sn : Nat), z = .int .i64 k ∧ y = .int .i64 sn ∧ k ≤ l.length ∧ sn < 2 ^ 26 ∧ Hid (scanF (tellsF C l s F) x s (l.drop k) sn = some r)) (fun _ z => l.length - (intOf z).toNat)
  case atStart => exact ⟨0, seen1, rfl, rfl, by omega, hp2, HO⟩
  case round =>
   obtain ⟨k, sn, rfl, rfl, hk, hsn, HS⟩ := hrel
   by_cases hlt : k < l.length
   ·obtain ⟨rfl, c0, c1, c2⟩ := HCL.out k hlt
    clear HCL
    have hsc := HS.out
    rw [scan_cons hlt] at hsc
    have hf1 := (hfl.frm _ (List.getElem_mem hlt)).1
    have hf2 := (hfl.frm _ (List.getElem_mem hlt)).2
    have hs1 := (hfl.sec _ (List.getElem_mem hlt)).1
    have hs2 := (hfl.sec _ (List.getElem_mem hlt)).2
    generalize l[k] = q at *
    obtain ⟨qd, qf, qs⟩ := q
    simp only at hsc hf1 hf2 hs1 hs2 c0 c1 c2
    by_cases hd : qd = (x : Int)
    ·rw [if_neg (fun h => h hd)] at hsc
     have td : (qd != (x : Int)) = false := by simp [hd]
     clear hd
     by_cases hfn : qf < 0
     ·obtain ⟨sc, rfl⟩ := Int.eq_ofNat_of_zero_le hs1
      have ha := i64_and_nat sc s (by omega) (by omega)
      have hf3 : ¬ 0 ≤ qf := by omega
      by_cases hz : sc &&& s = 0
      ·rw [if_neg (fun h => h.2 (by simpa using hz)), if_neg (fun h => hf3 h.1)] at hsc
       have HS2 : Hid _ := hsc
       have ta : (bits .and .i64 (sc : Int) (s : Int) != 0) = false := by rw [ha, hz]; rfl
       clear hsc ha hz
       go_wp2
       exact ⟨⟨k + 1, sn, by go_num, rfl, by omega, hsn, HS2⟩, by simp [intOf]; omega⟩
      ·rw [if_pos ⟨hfn, by simpa using hz⟩] at hsc
       have t2 : r = (true, sn) := by simpa using hsc.symm
       have HS2 : Hid (r = (true, sn)) := t2
       clear t2
       have ta : (bits .and .i64 (sc : Int) (s : Int) != 0) = true := by rw [ha]; simpa using hz
       clear hsc ha hz
       go_wp2
       go_ret2
       have := HS2.out
       subst this
       exact ⟨rfl, rfl, hsn⟩
     ·rw [if_neg (fun h => hfn h.1)] at hsc
      obtain ⟨fn, rfl⟩ := Int.eq_ofNat_of_zero_le (show 0 ≤ qf by omega)
      have hap := and_pow sn fn 26 hsn (by omega) (by omega)
      by_cases hz : sn &&& 2 ^ fn = 0
      ·rw [if_pos ⟨by omega, by simpa using hz⟩] at hsc
       simp only [Int.toNat_natCast] at hsc
       have ta : (bits .and .i64 (sn : Int) (wrap64 (2 ^ fn)) == 0) = true := by rw [hap, hz]; rfl
       cases hrec : tellsF C l s F fn sn with
       | none => rw [hrec] at hsc; cases hsc
       | some rr =>
       obtain ⟨ok, more⟩ := rr
       rw [hrec] at hsc
       have HREC : Hid _ := hrec
       clear hap hz hrec
       cases ok
       ·have HS2 : Hid (scanF (tellsF C l s F) x s (l.drop (k + 1)) more = some r) := hsc
        clear hsc
        go_wp2_with (go_at_call 108; refine (IH.out b fn s sn base (.slice (some ⟨gg, 0, none⟩) l.length cap) l _ C A _ HB.out HL.out hll hfl (by omega) hs hsn HREC.out).mono ?_; rintro x1 w' ⟨rfl, rfl, hmore⟩)
        exact ⟨⟨k + 1, more, by go_num, rfl, by omega, hmore, HS2⟩, by simp [intOf]; omega⟩
       ·have t2 : r = (true, more) := by simpa using hsc.symm
        have HS2 : Hid (r = (true, more)) := t2
        clear t2
        clear hsc
        go_wp2_with (go_at_call 108; refine (IH.out b fn s sn base (.slice (some ⟨gg, 0, none⟩) l.length cap) l _ C A _ HB.out HL.out hll hfl (by omega) hs hsn HREC.out).mono ?_; rintro x1 w' ⟨rfl, rfl, hmore⟩)
        go_ret2
        have := HS2.out
        subst this
        exact ⟨rfl, rfl, hmore⟩
      ·rw [if_neg (fun h => hz (by simpa using h.2))] at hsc
       have HS2 : Hid _ := hsc
       have ta : (bits .and .i64 (sn : Int) (wrap64 (2 ^ fn)) == 0) = false := by rw [hap]; simpa using hz
       clear hsc hap hz
       go_wp2
       exact ⟨⟨k + 1, sn, by go_num, rfl, by omega, hsn, HS2⟩, by simp [intOf]; omega⟩
    ·rw [if_pos hd] at hsc
     have HS2 : Hid _ := hsc
     have td : (qd != (x : Int)) = true := by simp [hd]
     clear hsc hd
     go_wp2
     exact ⟨⟨k + 1, sn, by go_num, rfl, by omega, hsn, HS2⟩, by simp [intOf]; omega⟩
   ·have t2 : r = (false, sn) := by
     have := HS.out
     rw [List.drop_of_length_le (by omega)] at this
     simpa [scanF] using this.symm
    have HS2 : Hid (r = (false, sn)) := t2
    clear t2
    go_wp2
    go_ret2
    have := HS2.out
    subst this
    exact ⟨rfl, rfl, hsn⟩
end Go.Proofs.YtdgmoiflahoihaaGreatDoor
