import Derived.Test.YtdgmoiflahoihaaGreatDoorXPw
import Derived.Laws.MakeOwn

set_option linter.unusedSimpArgs false
set_option linter.unusedVariables false
set_option maxRecDepth 100000
set_option maxHeartbeats 8000000
namespace Go.Proofs.YtdgmoiflahoihaaGreatDoor
open Go.Proofs.Tryz
open Go.RowKit
theorem a89{w:World}{g:Nat}{l:List Vl}{b:Obj}(h:a03 w g l)(i:Nat)(hi:i<l.length)(x:Vl):
  a03 (((w.setCell (a__ g (i*2)) (i_ x.num)).setCell (a__ g (i*2+1)) (i_ x.fault)).alloc b) g (l.set i x)∧But g w (((w.setCell (a__ g (i*2)) (i_ x.num)).setCell (a__ g (i*2+1)) (i_ x.fault)).alloc b):=by
 have a:=h.lt;refine⟨(h.set i hi x).block (q_ _ _ _ (by simpa using a)),?_⟩;exact(((But.refl g w).set _ _).set _ _).alloc _
theorem c7D(g:Nat)(s:XS)(w:World)(e:a03 w g s.regs)(f:XOk s)(n:s.pc≤2000)(fs:List Int)(l:Option Addr)(r of d:Nat)(a:Nat)(b c:Int)(i:a<100):
  Calls prog 93 #[icV ⟨1,a,b,c⟩,i_ s.pc,.slice (some (a__ g 0)) 100 100,.slice l fs.length d] w (a5i w g (a0m ⟨1,a,b,c⟩ fs s)):=by
 have j:Hid (a0m ⟨1,a,b,c⟩ fs s=⟨s.regs.set a ⟨b,0⟩,s.notes,s.pc+1⟩):=by show _=_;unfold a0m;simp[a4U]
 rw[j.out];obtain⟨o,p⟩:=e.cell a (by rw[f.len];exact i);have q:=e.fz;have k:=h__ e;have h:a<s.regs.length:=by rw[f.len];exact i
 have m:=e.lt;clear e f;go_enter func93,ntmps93;go_wp2_with fail;go_ret;exact⟨rfl,a89 k.out a h ⟨b,0⟩⟩
theorem c7e(g:Nat)(s:XS)(w:World)(f:a03 w g s.regs)(m:XOk s)(n:s.pc≤2000)(fs:List Int)(l:Option Addr)(p of d:Nat)(o a b c:Int)(k:o=14∨o=15):
  Calls prog 93 #[icV ⟨o,a,b,c⟩,i_ s.pc,.slice (some (a__ g 0)) 100 100,.slice l fs.length d] w (a5i w g (a0m ⟨o,a,b,c⟩ fs s)):=by
 have h:Hid (∃N,a0m ⟨o,a,b,c⟩ fs s=⟨s.regs,N,s.pc+1⟩):=by
  rcases k with rfl|rfl
  ·exact⟨_,by unfold a0m;simp;rfl⟩
  ·exact⟨_,by unfold a0m;simp;rfl⟩
 obtain⟨N,j⟩:=h.out;rw[j];have i:=h__ f;have e:=f.lt;clear f m j h;rcases k with rfl|rfl
 ·go_enter func93,ntmps93;go_wp2_with fail;go_ret;exact⟨rfl,i.out.block (q_ _ _ _ e),a6V _⟩
 ·go_enter func93,ntmps93;go_wp2_with fail;go_ret;exact⟨rfl,i.out.block (q_ _ _ _ e),a6V _⟩
theorem c7f(g:Nat)(s:XS)(w:World)(m:a03 w g s.regs)(y:XOk s)(F:s.pc≤2000)(fs:List Int)(B:Option Addr)(G of l:Nat)(a b c:Nat)(E:a<100):
  Calls prog 93 #[icV ⟨13,a,b,c⟩,i_ s.pc,.slice (some (a__ g 0)) 100 100,.slice B fs.length l] w (a5i w g (a0m ⟨13,a,b,c⟩ fs s)):=by
 have u:Hid (a0m ⟨13,a,b,c⟩ fs s=⟨s.regs,s.notes,if(s.regs.getD a vl0).fault≠0 then c else if(s.regs.getD a vl0).num=0 then b else s.pc+1⟩):=by show _=_;unfold a0m;simp[a4G]
 rw[u.out];obtain⟨C,D⟩:=m.cell a (by rw[y.len];exact E);have o:Hid (a03 w g s.regs):=m;have j:=m.lt;generalize s.regs.getD a vl0=x at*;obtain⟨A,z⟩:=x;simp only at C D⊢;clear m y u;by_cases p:z=0
 ·subst p;by_cases r:A=0
  ·subst r;go_enter func93,ntmps93;go_wp2_with fail;go_ret;exact⟨by simp,o.out.block ((q_ _ _ _ (by simp;omega)).trans (q_ _ _ _ j)),(a6V _).alloc _⟩
  ·have t:(A==0)=false:=by simpa using r
   go_enter func93,ntmps93;go_wp2_with fail;go_ret;exact⟨by simp[r],o.out.block ((q_ _ _ _ (by simp;omega)).trans (q_ _ _ _ j)),(a6V _).alloc _⟩
 ·have t:(z !=0)=true:=by simpa using p
  go_enter func93,ntmps93;go_wp2_with fail;go_ret;exact⟨by simp[p],o.out.block ((q_ _ _ _ (by simp;omega)).trans (q_ _ _ _ j)),(a6V _).alloc _⟩
theorem c7c(g:Nat)(s:XS)(w:World)(d:a03 w g s.regs)(h:XOk s)(o:s.pc≤2000)(fs:List Int)(l:Option Addr)(v of e:Nat)(a b:Nat)(c:Int)(k:a<100)(m:b<100):
  Calls prog 93 #[icV ⟨2,a,b,c⟩,i_ s.pc,.slice (some (a__ g 0)) 100 100,.slice l fs.length e] w (a5i w g (a0m ⟨2,a,b,c⟩ fs s)):=by
 have i:Hid (a0m ⟨2,a,b,c⟩ fs s=⟨s.regs.set a (s.regs.getD b vl0),s.notes,s.pc+1⟩):=by show _=_;unfold a0m;simp[a4U,a4G]
 rw[i.out];obtain⟨p,q⟩:=d.cell a (by rw[h.len];exact k);obtain⟨r,t⟩:=d.cell b (by rw[h.len];exact m);have u:=d.fz;have j:=h__ d;have f:a<s.regs.length:=by rw[h.len];exact k
 have n:=d.lt;generalize s.regs.getD b vl0=x at*;clear d h i;go_enter func93,ntmps93;go_upto_region 14 with fail;go_region;all_goals go_wp2_with fail
 all_goals go_ret
 all_goals exact⟨rfl,((a89 j.out a f x).1).block rfl,(a89 j.out a f x).2.drewN 1⟩
theorem c7L(g:Nat)(s:XS)(w:World)(e:a03 w g s.regs)(h:XOk s)(t:s.pc≤2000)(fs:List Int)(k:Option Addr)(p of d:Nat)(a b:Nat)(c:Int)(m:a<100)(o:b<fs.length)(A:fs.length≤9223372036854775807)(l:a0u w k p of fs):
  Calls prog 93 #[icV ⟨11,a,b,c⟩,i_ s.pc,.slice (some (a__ g 0)) 100 100,.slice k fs.length d] w (a5i w g (a0m ⟨11,a,b,c⟩ fs s)):=by
 obtain⟨rfl,q,y⟩:=l b o;have i:Hid (a0m ⟨11,a,b,c⟩ fs s=⟨s.regs.set a ⟨fs[b],0⟩,s.notes,s.pc+1⟩):=by
  show _=_;unfold a0m;simp[a4U,s_ o]
 rw[i.out];obtain⟨u,v⟩:=e.cell a (by rw[h.len];exact m);have z:=e.fz;have j:=h__ e;have f:a<s.regs.length:=by rw[h.len];exact m
 have r:=e.lt;generalize fs[b]=x at*;generalize fs.length=n at*;clear e h i l;go_enter func93,ntmps93;go_upto_region 18 with fail;go_region;all_goals go_wp2_with fail
 all_goals go_ret
 all_goals exact⟨rfl,((a89 j.out a f ⟨x,0⟩).1).block rfl,(a89 j.out a f ⟨x,0⟩).2.drewN 1⟩
theorem c3k{w b:World}{g:Nat}{l:List Vl}{d:Obj}(h:a03 w g l)(f:Below (w.alloc d).drew.heap.size (w.alloc d).drew b)(i:Nat)(hi:i<l.length)(x:Vl):
  a03 ((b.setCell (a__ g (i*2)) (i_ x.num)).setCell (a__ g (i*2+1)) (i_ x.fault)) g (l.set i x)∧But g w ((b.setCell (a__ g (i*2)) (i_ x.num)).setCell (a__ g (i*2+1)) (i_ x.fault)):=by
 have c:=h.lt;have a:B__ w b:=((g_ _ _).alloc (a_ _) d).drew.trans (f.mono (by simp[World.drew]));refine⟨(h.block (a.block g c)).set i hi x,?_⟩;have e:But g w b:=⟨a.os,a.tape,a.output,a.size,fun k j _=>a.block k j⟩
 exact(e.set _ _).set _ _
theorem c1a{w a:World}{g:Nat}{l:List Vl}{d:Obj}(h:a03 w g l)(e:Below (w.alloc d).drew.heap.size (w.alloc d).drew a)(i:Nat)(hi:i<l.length):
  a.cell? (a__ g (i*2))=some (i_ (l.getD i vl0).num)∧a.cell? (a__ g (i*2+1))=some (i_ (l.getD i vl0).fault)∧∀o,a.frozen? (a__ g o)=false:=by
 have c:=h.lt;have b:B__ w a:=((g_ _ _).alloc (a_ _) d).drew.trans (e.mono (by simp[World.drew]));have k:=h.block (b.block g c);exact⟨(k.cell i hi).1,(k.cell i hi).2,k.fz⟩
theorem c5e{w e:World}{t:TypeId}{x:Ic}(f:Below (w.alloc (.cells (a0O x) t)).drew.heap.size (w.alloc (.cells (a0O x) t)).drew e):
  e.cell? (a__ w.heap.size 0)=some (i_ x.op)∧e.cell? (a__ w.heap.size 1)=some (i_ x.a)∧e.cell? (a__ w.heap.size 2)=some (i_ x.b)∧e.cell? (a__ w.heap.size 3)=some (i_ x.c):=by
 have d:w.heap.size<(w.alloc (.cells (a0O x) t)).drew.heap.size:=by simp[World.drew]
 refine⟨?_,?_,?_,?_⟩
 ·rw[f.cell (p:=(a__ w.heap.size 0)) d];simp[go_sem]
 ·rw[f.cell (p:=(a__ w.heap.size 1)) d];simp[go_sem]
 ·rw[f.cell (p:=(a__ w.heap.size 2)) d];simp[go_sem]
 ·rw[f.cell (p:=(a__ w.heap.size 3)) d];simp[go_sem]
theorem c7C(g:Nat)(s:XS)(w:World)(j:a03 w g s.regs)(i:XOk s)(z:s.pc≤2000)(fs:List Int)(p:Option Addr)(F of f:Nat)(a b:Nat)(c:Int)(t:a<100)(u:b<100):
  Calls prog 93 #[icV ⟨3,a,b,c⟩,i_ s.pc,.slice (some (a__ g 0)) 100 100,.slice p fs.length f] w (a5i w g (a0m ⟨3,a,b,c⟩ fs s)):=by
 have l:Hid (a0m ⟨3,a,b,c⟩ fs s=⟨s.regs.set a (a4E (s.regs.getD b vl0)),s.notes,s.pc+1⟩):=by show _=_;unfold a0m;simp[a4U,a4G]
 rw[l.out];obtain⟨q,r⟩:=j.cell b (by rw[i.len];exact u);have m:=h__ j;have h:a<s.regs.length:=by rw[i.len];exact t
 have v:=j.lt;have n:a0S (s.regs.getD b vl0):=i.reg (b:Nat);generalize s.regs.getD b vl0=x at*;have o:Hid (a1U 114 #[.int .u8 45,vlV ⟨0,0⟩,vlV x] (a4E x)):=by
  have k:=a9u 45 ⟨0,0⟩ x ⟨by simp,by simp,by simp⟩ n;have e:opC 45 ⟨0,0⟩ x=a4E x:=by unfold opC a4E;simp
  rw[e]at k;exact k
 generalize A:a4E x=y at*;obtain⟨N,M⟩:=x;simp only at q r;clear j i l n A;go_enter func93,ntmps93;go_upto_region 16 with fail;go_region_with (go_at_call 114;refine(o.out _).mono ?_;rintro D L ⟨rfl,d⟩;obtain⟨B,C,E⟩:=c1a m.out d a h;obtain⟨G,H,I,J⟩:=c5e (x:=⟨3,a,b,c⟩) d);all_goals go_wp2_with fail
 all_goals go_ret
 all_goals exact⟨rfl,c3k m.out d a h y⟩
@[reducible] def b79:ByteArray:=⟨#[43,45,42,47,37,60,61]⟩
theorem c6n(k:Nat)(hk:k<7)(x y:Vl):opC (b79[k]'hk) x y=opV ((k:Int)+4) x y:=by
 match k,hk with
 |0,_=>rfl
 |1,_=>rfl
 |2,_=>rfl
 |3,_=>rfl
 |4,_=>rfl
 |5,_=>rfl
 |6,_=>rfl
theorem b2z{W a:World}{g:Nat}{l:List Vl}(h:a03 W g l)(b:Below W.drew.heap.size W.drew a)(i:Nat)(hi:i<l.length):
  a.cell? (a__ g (i*2))=some (i_ (l.getD i vl0).num)∧a.cell? (a__ g (i*2+1))=some (i_ (l.getD i vl0).fault)∧∀o,a.frozen? (a__ g o)=false:=by
 have k:=h.block (w':=a) (b.block g h.lt);exact⟨(k.cell i hi).1,(k.cell i hi).2,k.fz⟩
theorem b4c{w W b:World}{g:Nat}{l:List Vl}(h:a03 w g l)(d:B__ w W)(f:Below W.drew.heap.size W.drew b)(i:Nat)(hi:i<l.length)(x:Vl):
  a03 ((b.setCell (a__ g (i*2)) (i_ x.num)).setCell (a__ g (i*2+1)) (i_ x.fault)) g (l.set i x)∧But g w ((b.setCell (a__ g (i*2)) (i_ x.num)).setCell (a__ g (i*2+1)) (i_ x.fault)):=by
 have c:=h.lt;have a:B__ w b:=d.drew.trans (f.mono d.size);refine⟨(h.block (a.block g c)).set i hi x,?_⟩;have e:But g w b:=⟨a.os,a.tape,a.output,a.size,fun k j _=>a.block k j⟩
 exact(e.set _ _).set _ _
theorem c7M(g:Nat)(s:XS)(w:World)(hR:a03 w g s.regs)(hO:XOk s)(hpc:s.pc≤2000)(fs:List Int)(af:Option Addr)(gf of capf:Nat)(k a b c:Nat)(hk:k<7)(ha:a<100)(hb:b<100)(hc:c<100):
  Calls Tryz.prog 93 #[icV ⟨(k:Int)+4,a,b,c⟩,.int .i64 s.pc,.slice (some ⟨g,0,none⟩) 100 100,.slice af fs.length capf] w (a5i w g (a0m ⟨(k:Int)+4,a,b,c⟩ fs s)):=by
 have HE:Hid (a0m ⟨(k:Int)+4,a,b,c⟩ fs s=⟨s.regs.set a (opV ((k:Int)+4) (s.regs.getD b vl0) (s.regs.getD c vl0)),s.notes,s.pc+1⟩):=by
  show _=_
  unfold a0m
  simp only
  rw[if_neg (by omega),if_neg (by omega),if_neg (by omega),if_neg (by omega),if_neg (by omega),if_neg (by omega),if_neg (by omega),if_neg (by omega),a4U,a4G,a4G]
 rw[HE.out]
 obtain⟨d0,d1⟩:=hR.cell b (by rw[hO.len];exact hb)
 obtain⟨f0,f1⟩:=hR.cell c (by rw[hO.len];exact hc)
 have HR:Hid (a03 w g s.regs):=hR
 have hal:a<s.regs.length:=by rw[hO.len];exact ha
 have hlt:=hR.lt
 have hx:a0S (s.regs.getD b vl0):=hO.reg (b:Nat)
 have hy:a0S (s.regs.getD c vl0):=hO.reg (c:Nat)
 generalize s.regs.getD b vl0=x at*
 generalize s.regs.getD c vl0=y at*
 have HN:Hid (a1U 114 #[.int .u8 (b79[k]'hk).toNat,vlV x,vlV y] (opV ((k:Int)+4) x y)):=by
  have q:=a9u (b79[k]'hk) x y hx hy
  rw[c6n k hk]at q
  exact q
 generalize hz:opV ((k:Int)+4) x y=z at*
 obtain⟨xn,xf⟩:=x
 obtain⟨yn,yf⟩:=y
 simp only at d0 d1 f0 f1
 have hltW:w.heap.size<(w.alloc (.cells (a0O ⟨(k:Int)+4,a,b,c⟩) 87)).heap.size:=by simp
 have k0:(w.alloc (.cells (a0O ⟨(k:Int)+4,a,b,c⟩) 87)).cell? ⟨w.heap.size,0,none⟩=some (.int .i64 ((k:Int)+4)):=by simp[go_sem]
 have k1:(w.alloc (.cells (a0O ⟨(k:Int)+4,a,b,c⟩) 87)).cell? ⟨w.heap.size,1,none⟩=some (.int .i64 a):=by simp[go_sem]
 have k2:(w.alloc (.cells (a0O ⟨(k:Int)+4,a,b,c⟩) 87)).cell? ⟨w.heap.size,2,none⟩=some (.int .i64 b):=by simp[go_sem]
 have k3:(w.alloc (.cells (a0O ⟨(k:Int)+4,a,b,c⟩) 87)).cell? ⟨w.heap.size,3,none⟩=some (.int .i64 c):=by simp[go_sem]
 have hB:Below w.heap.size w (w.alloc (.cells (a0O ⟨(k:Int)+4,a,b,c⟩) 87)):=(Below.refl _ _).alloc (Nat.le_refl _) _
 have e1:((k:Int)+4==12)=false:=by rw[beq_eq_false_iff_ne];omega
 have e2:((k:Int)+4==13)=false:=by rw[beq_eq_false_iff_ne];omega
 have e3:((k:Int)+4==1)=false:=by rw[beq_eq_false_iff_ne];omega
 have e4:((k:Int)+4==2)=false:=by rw[beq_eq_false_iff_ne];omega
 have e5:((k:Int)+4==3)=false:=by rw[beq_eq_false_iff_ne];omega
 have e6:((k:Int)+4==11)=false:=by rw[beq_eq_false_iff_ne];omega
 have e7:((k:Int)+4==14)=false:=by rw[beq_eq_false_iff_ne];omega
 have e8:((k:Int)+4==15)=false:=by rw[beq_eq_false_iff_ne];omega
 have ik0:(0:Int)≤(k:Int):=by omega
 have ik1:(k:Int)<7:=by omega
 have ia0:(0:Int)≤(a:Int):=by omega
 have ia1:(a:Int)<100:=by omega
 have ib0:(0:Int)≤(b:Int):=by omega
 have ib1:(b:Int)<100:=by omega
 have ic0:(0:Int)≤(c:Int):=by omega
 have ic1:(c:Int)<100:=by omega
 have hne:¬g=w.heap.size:=by omega
 have hne2:w.heap.size≠g:=by omega
 rw[←hB.cell (p:=⟨g,_,none⟩) hlt]at d0 d1 f0 f1
 clear hR hO HE hx hz hy
 go_enter Tryz.func93,Tryz.ntmps93
 go_upto_region 2 with fail
 generalize (w.alloc (.cells (a0O ⟨(k:Int)+4,a,b,c⟩) 87))=W at*
 have HRW:Hid (a03 W g s.regs):=HR.out.block (hB.block g hlt)
 have HB:Hid (Below w.heap.size w W):=hB
 have HK:Hid (∀V:World,V.heap[w.heap.size]? =W.heap[w.heap.size]? →V.cell? ⟨w.heap.size,0,none⟩=some (.int .i64 ((k:Int)+4))∧V.cell? ⟨w.heap.size,1,none⟩=some (.int .i64 a)∧V.cell? ⟨w.heap.size,2,none⟩=some (.int .i64 b)∧V.cell? ⟨w.heap.size,3,none⟩=some (.int .i64 c)):=fun V e=>⟨(World.cell?_of_block (a:=⟨w.heap.size,0,none⟩) e).trans k0,(World.cell?_of_block (a:=⟨w.heap.size,1,none⟩) e).trans k1,(World.cell?_of_block (a:=⟨w.heap.size,2,none⟩) e).trans k2,(World.cell?_of_block (a:=⟨w.heap.size,3,none⟩) e).trans k3⟩
 have hgW:g<W.heap.size:=by have:=hB.size;omega
 clear hB k0 k1 k2 k3
 have hwk:IntKind.i64.wrap (k:Int)=k:=by rw[IntKind.wrap_i64];omega
 refine wp_region_held_drew (S:=fun w'=>w'.cell? ⟨w.heap.size,0,none⟩=some (.int .i64 ((k:Int)+4))∧w'.cell? ⟨w.heap.size,1,none⟩=some (.int .i64 a)∧w'.cell? ⟨w.heap.size,2,none⟩=some (.int .i64 b)∧w'.cell? ⟨w.heap.size,3,none⟩=some (.int .i64 c)) (by kernel_rfl) (HK.out _ rfl) (fun hHeld=> ?_)
 refine wpAnyH_take (i:=0) (v:= ?v0) rfl (by kernel_rfl) (by kernel_rfl) (by kernel_rfl) (fun _ _ _ h=>h) (Or.inl ⟨by rfl,?hy0⟩) (by assumption) ?rest0
 case hy0=>(intro w hSw;(try dsimp only at hSw);go_simp;(try with_reducible rfl))
 simp only[Act.put,List.setIfInBounds_toArray,List.set_cons_zero,List.set_cons_succ,List.getElem_toArray,List.getElem_cons_zero,List.getElem_cons_succ]
 refine wpAnyH_take (i:=1) (v:= ?v1) rfl (by kernel_rfl) (by kernel_rfl) (by kernel_rfl) (fun _ _ _ h=>h) (Or.inl ⟨by rfl,?hy1⟩) (by assumption) ?rest1
 case hy1=>(intro w hSw;(try dsimp only at hSw);go_simp;(try with_reducible rfl))
 simp only[Act.put,List.setIfInBounds_toArray,List.set_cons_zero,List.set_cons_succ,List.getElem_toArray,List.getElem_cons_zero,List.getElem_cons_succ]
 refine wpAnyH_take (i:=2) (v:= ?v2) rfl (by kernel_rfl) (by kernel_rfl) (by kernel_rfl) (fun _ _ _ h=>h) (Or.inl ⟨by rfl,?hy2⟩) (by assumption) ?rest2
 case hy2=>(intro w hSw;(try dsimp only at hSw);go_simp;(try with_reducible rfl))
 simp only[Act.put,List.setIfInBounds_toArray,List.set_cons_zero,List.set_cons_succ,List.getElem_toArray,List.getElem_cons_zero,List.getElem_cons_succ]
 refine wpAnyH_take (i:=3) (v:= ?v3) rfl (by kernel_rfl) (by kernel_rfl) (by kernel_rfl) (fun _ _ _ h=>h) (Or.inl ⟨by rfl,?hy3⟩) (by assumption) ?rest3
 case hy3=>(intro w hSw;(try dsimp only at hSw);go_simp;(try with_reducible rfl))
 simp only[Act.put,List.setIfInBounds_toArray,List.set_cons_zero,List.set_cons_succ,List.getElem_toArray,List.getElem_cons_zero,List.getElem_cons_succ]
 refine wpAnyH_take (i:=4) (v:= ?v4) rfl (by kernel_rfl) (by kernel_rfl) (by kernel_rfl) (fun _ _ _ h=>h) (Or.inl ⟨by rfl,?hy4⟩) (by assumption) ?rest4
 case hy4=>(intro w hSw;(try dsimp only at hSw);go_simp;(try with_reducible rfl))
 simp only[Act.put,List.setIfInBounds_toArray,List.set_cons_zero,List.set_cons_succ,List.getElem_toArray,List.getElem_cons_zero,List.getElem_cons_succ]
 refine wpAnyH_take (i:=5) (v:= ?v5) rfl (by kernel_rfl) (by kernel_rfl) (by kernel_rfl) (fun _ _ _ h=>h) (Or.inl ⟨by rfl,?hy5⟩) (by assumption) ?rest5
 case hy5=>(intro w hSw;(try dsimp only at hSw);go_simp;(try with_reducible rfl))
 simp only[Act.put,List.setIfInBounds_toArray,List.set_cons_zero,List.set_cons_succ,List.getElem_toArray,List.getElem_cons_zero,List.getElem_cons_succ]
 refine wpAnyH_take (i:=6) (v:= ?v6) rfl (by kernel_rfl) (by kernel_rfl) (by kernel_rfl) (fun _ _ _ h=>h) (Or.inl ⟨by rfl,?hy6⟩) (by assumption) ?rest6
 case hy6=>(intro w hSw;(try dsimp only at hSw);go_simp;rfl)
 simp only[Act.put,List.setIfInBounds_toArray,List.set_cons_zero,List.set_cons_succ,List.getElem_toArray,List.getElem_cons_zero,List.getElem_cons_succ]
 refine wpAnyH_take (i:=7) (v:= ?v7) rfl (by kernel_rfl) (by kernel_rfl) (by kernel_rfl) (fun _ _ _ h=>h) (Or.inl ⟨by rfl,?hy7⟩) (by assumption) ?rest7
 case hy7=>(intro w hSw;(try dsimp only at hSw);go_simp;(try with_reducible rfl))
 simp only[Act.put,List.setIfInBounds_toArray,List.set_cons_zero,List.set_cons_succ,List.getElem_toArray,List.getElem_cons_zero,List.getElem_cons_succ]
 refine wpAnyH_take (i:=8) (v:= ?v8) rfl (by kernel_rfl) (by kernel_rfl) (by kernel_rfl) (fun _ _ _ h=>h) (Or.inl ⟨by rfl,?hy8⟩) (by assumption) ?rest8
 case hy8=>(intro w hSw;(try dsimp only at hSw);go_simp;(try with_reducible rfl))
 simp only[Act.put,List.setIfInBounds_toArray,List.set_cons_zero,List.set_cons_succ,List.getElem_toArray,List.getElem_cons_zero,List.getElem_cons_succ]
 refine wpAnyH_take (i:=9) (v:= ?v9) rfl (by kernel_rfl) (by kernel_rfl) (by kernel_rfl) (fun _ _ _ h=>h) (Or.inl ⟨by rfl,?hy9⟩) (by assumption) ?rest9
 case hy9=>(intro w hSw;(try dsimp only at hSw);go_simp;(try with_reducible rfl))
 simp only[Act.put,List.setIfInBounds_toArray,List.set_cons_zero,List.set_cons_succ,List.getElem_toArray,List.getElem_cons_zero,List.getElem_cons_succ]
 refine wpAnyH_take (i:=10) (v:= ?v10) rfl (by kernel_rfl) (by kernel_rfl) (by kernel_rfl) (fun _ _ _ h=>h) (Or.inl ⟨by rfl,?hy10⟩) (by assumption) ?rest10
 case hy10=>(intro w hSw;(try dsimp only at hSw);go_simp;(try with_reducible rfl))
 simp only[Act.put,List.setIfInBounds_toArray,List.set_cons_zero,List.set_cons_succ,List.getElem_toArray,List.getElem_cons_zero,List.getElem_cons_succ]
 refine wpAnyH_take (i:=12) (v:= ?v12) rfl (by kernel_rfl) (by kernel_rfl) (by kernel_rfl) (fun _ _ _ h=>h) (Or.inl ⟨by rfl,?hy12⟩) (by assumption) ?rest12
 case hy12=>(intro w hSw;(try dsimp only at hSw);go_simp;(try with_reducible rfl))
 simp only[Act.put,List.setIfInBounds_toArray,List.set_cons_zero,List.set_cons_succ,List.getElem_toArray,List.getElem_cons_zero,List.getElem_cons_succ]
 refine wpAnyH_take (i:=13) (v:= ?v13) rfl (by kernel_rfl) (by kernel_rfl) (by kernel_rfl) (fun _ _ _ h=>h) (Or.inl ⟨by rfl,?hy13⟩) (by assumption) ?rest13
 case hy13=>(intro w hSw;(try dsimp only at hSw);go_simp;(try with_reducible rfl))
 simp only[Act.put,List.setIfInBounds_toArray,List.set_cons_zero,List.set_cons_succ,List.getElem_toArray,List.getElem_cons_zero,List.getElem_cons_succ]
 refine wpAnyH_take (i:=14) (v:= ?v14) rfl (by kernel_rfl) (by kernel_rfl) (by kernel_rfl) (fun _ _ _ h=>h) (Or.inl ⟨by rfl,?hy14⟩) (by assumption) ?rest14
 case hy14=>(intro w hSw;(try dsimp only at hSw);go_simp;(try with_reducible rfl))
 simp only[Act.put,List.setIfInBounds_toArray,List.set_cons_zero,List.set_cons_succ,List.getElem_toArray,List.getElem_cons_zero,List.getElem_cons_succ]
 refine wpAnyH_take (i:=15) (v:= ?v15) rfl (by kernel_rfl) (by kernel_rfl) (by kernel_rfl) (fun _ _ _ h=>h) (Or.inl ⟨by rfl,?hy15⟩) (by assumption) ?rest15
 case hy15=>(intro w hSw;(try dsimp only at hSw);go_simp;(try with_reducible rfl))
 simp only[Act.put,List.setIfInBounds_toArray,List.set_cons_zero,List.set_cons_succ,List.getElem_toArray,List.getElem_cons_zero,List.getElem_cons_succ]
 refine wpAnyH_ready (rs:= [11,16]) (by kernel_rfl) (by simp) ?_
 refine AllReadyH.cons rfl (fun K hK=> ?_) (AllReadyH.cons rfl (fun K hK=> ?_) AllReadyH.nil)
 ·go_simp
  refine hK.out _ _ (HK.out _ rfl) (fun hHeld=> ?_)
  clear hK K
  try simp only[Act.put,List.setIfInBounds_toArray,List.set_cons_zero,List.set_cons_succ,List.getElem_toArray,List.getElem_cons_zero,List.getElem_cons_succ]
  refine wpAnyH_ready (rs:= [16]) (by kernel_rfl) (by simp) ?_
  refine AllReadyH.cons rfl (fun K hK=> ?_) AllReadyH.nil
  go_simp
  refine hK.out _ _ (HK.out _ rfl) (fun hHeld=> ?_)
  clear hK K
  try simp only[Act.put,List.setIfInBounds_toArray,List.set_cons_zero,List.set_cons_succ,List.getElem_toArray,List.getElem_cons_zero,List.getElem_cons_succ]
  refine wpAnyH_ready (rs:= [17]) (by kernel_rfl) (by simp) ?_
  refine AllReadyH.cons rfl (fun K hK=> ?_) AllReadyH.nil
  go_simp
  refine(HN.out _).mono ?_
  rintro e5 w5 ⟨rfl,hb5⟩
  obtain⟨c0,c1,fz⟩:=b2z HRW.out hb5 a hal
  try go_simp
  refine hK.out _ _ (HK.out _ (hb5.block _ hltW)) (fun hHeld=> ?_)
  clear hK K
  try simp only[Act.put,List.setIfInBounds_toArray,List.set_cons_zero,List.set_cons_succ,List.getElem_toArray,List.getElem_cons_zero,List.getElem_cons_succ]
  refine wpAnyH_take (i:=18) (v:= ?v18a) rfl (by kernel_rfl) (by kernel_rfl) (by kernel_rfl) (fun _ _ _ h=>h) (Or.inl ⟨by rfl,?hy18a⟩) (by assumption) ?rest18a
  case hy18a=>(intro w hSw;(try dsimp only at hSw);go_simp;(try with_reducible rfl))
  simp only[Act.put,List.setIfInBounds_toArray,List.set_cons_zero,List.set_cons_succ,List.getElem_toArray,List.getElem_cons_zero,List.getElem_cons_succ]
  refine wpAnyH_ready (rs:= [19]) (by kernel_rfl) (by simp) ?_
  refine AllReadyH.cons rfl (fun K hK=> ?_) AllReadyH.nil
  go_simp
  refine hK.out _ _ (HK.out _ ((Below.heap_setCell _ _ _ _ hne2).trans ((Below.heap_setCell _ _ _ _ hne2).trans (hb5.block _ hltW)))) (fun hHeld=> ?_)
  clear hK K
  try simp only[Act.put,List.setIfInBounds_toArray,List.set_cons_zero,List.set_cons_succ,List.getElem_toArray,List.getElem_cons_zero,List.getElem_cons_succ]
  refine wpAnyH_done (by kernel_rfl) ?_ _
  go_wp2_with fail
  go_ret
  exact⟨rfl,b4c HR.out HB.out hb5 a hal z⟩
 ·go_simp
  refine hK.out _ _ (HK.out _ rfl) (fun hHeld=> ?_)
  clear hK K
  try simp only[Act.put,List.setIfInBounds_toArray,List.set_cons_zero,List.set_cons_succ,List.getElem_toArray,List.getElem_cons_zero,List.getElem_cons_succ]
  refine wpAnyH_ready (rs:= [11]) (by kernel_rfl) (by simp) ?_
  refine AllReadyH.cons rfl (fun K hK=> ?_) AllReadyH.nil
  go_simp
  refine hK.out _ _ (HK.out _ rfl) (fun hHeld=> ?_)
  clear hK K
  try simp only[Act.put,List.setIfInBounds_toArray,List.set_cons_zero,List.set_cons_succ,List.getElem_toArray,List.getElem_cons_zero,List.getElem_cons_succ]
  refine wpAnyH_ready (rs:= [17]) (by kernel_rfl) (by simp) ?_
  refine AllReadyH.cons rfl (fun K hK=> ?_) AllReadyH.nil
  go_simp
  refine(HN.out _).mono ?_
  rintro e5 w5 ⟨rfl,hb5⟩
  obtain⟨c0,c1,fz⟩:=b2z HRW.out hb5 a hal
  try go_simp
  refine hK.out _ _ (HK.out _ (hb5.block _ hltW)) (fun hHeld=> ?_)
  clear hK K
  try simp only[Act.put,List.setIfInBounds_toArray,List.set_cons_zero,List.set_cons_succ,List.getElem_toArray,List.getElem_cons_zero,List.getElem_cons_succ]
  refine wpAnyH_take (i:=18) (v:= ?v18b) rfl (by kernel_rfl) (by kernel_rfl) (by kernel_rfl) (fun _ _ _ h=>h) (Or.inl ⟨by rfl,?hy18b⟩) (by assumption) ?rest18b
  case hy18b=>(intro w hSw;(try dsimp only at hSw);go_simp;(try with_reducible rfl))
  simp only[Act.put,List.setIfInBounds_toArray,List.set_cons_zero,List.set_cons_succ,List.getElem_toArray,List.getElem_cons_zero,List.getElem_cons_succ]
  refine wpAnyH_ready (rs:= [19]) (by kernel_rfl) (by simp) ?_
  refine AllReadyH.cons rfl (fun K hK=> ?_) AllReadyH.nil
  go_simp
  refine hK.out _ _ (HK.out _ ((Below.heap_setCell _ _ _ _ hne2).trans ((Below.heap_setCell _ _ _ _ hne2).trans (hb5.block _ hltW)))) (fun hHeld=> ?_)
  clear hK K
  try simp only[Act.put,List.setIfInBounds_toArray,List.set_cons_zero,List.set_cons_succ,List.getElem_toArray,List.getElem_cons_zero,List.getElem_cons_succ]
  refine wpAnyH_done (by kernel_rfl) ?_ _
  go_wp2_with fail
  go_ret
  exact⟨rfl,b4c HR.out HB.out hb5 a hal z⟩
def b2H:Prop:=∀(n:Nat) (x:Ic) (g:Nat) (s:XS) (w:World) (fs:List Int) (b:Option Addr) (c of a:Nat),b08 n fs.length x→n≤2000→a03 w g s.regs→XOk s→s.pc≤2000→fs.length≤9223372036854775807→a0u w b c of fs→
 Calls prog 93 #[icV x,.int .i64 s.pc,.slice (some ⟨g,0,none⟩) 100 100,.slice b fs.length a] w (a5i w g (a0m x fs s))
theorem c4l:(prog.info? 59).map (fun i=>(i.zero,i.size,i.bytes))=some (some (.agg #[i_ 0,i_ 0]),2,16):=by kernel_rfl
theorem c2f:madeCells (Value.agg #[i_ 0,i_ 0]).cells (Int.toNat 100*2)=a3h a5q:=by kernel_rfl
theorem c2i(w:World):(Instr.makeSlice 162 (i_ 100) (i_ 100)).run prog w= .ok (.slice (some (a__ w.heap.size 0)) 100 100) (w.alloc (.cells (a3h a5q) 59)):=by
 obtain⟨i,b,d,c,a⟩:=a1v c4l;have k:=run_make (P:=prog) w 162 59 i _ underlying162 b d .i64 .i64 100 100 (by decide) (by decide) (by rw[a];decide) (by decide);rw[c,c2f]at k;exact k
theorem b87(l:List Ic)(fs:List Int)(p z:Option Addr)(g o j B of m:Nat)(w:World)(A:a0D w p g o l)(C:a0u w z B of fs)(D:fs.length≤9223372036854775807)(h:(a0x l).1≠0):
  Calls prog 60 #[.slice p l.length j,.slice z fs.length m] w (a3H w (a1R l fs)):=by
 have s:Hid (a1R l fs=((a0x l).1,[])):=by show _=_;unfold a1R;rw[n_ h]
 rw[s.out];have u:Hid (Calls prog 58 #[.slice p l.length j] w fun e E=>e= .returned (.tuple #[i_ (a0x l).1,i_ (a0x l).2])∧B__ w E):=a5Z l p g o j w A;clear A C s;generalize a0x l=y at*;obtain⟨F,H⟩:=y;simp only at u h⊢;have t:(F !=0)=true:=by simpa using h
 go_enter func60,ntmps60;go_wp2_with (go_at_call 58;refine u.out.mono ?_;rintro e G ⟨rfl,r⟩);go_ret2;exact⟨⟨_,rfl,fun _=>rfl,E_ ..⟩,r⟩
theorem b6r(l:List Ic)(fs:List Int)(y M:Option Addr)(g o m gf of z:Nat)(w:World)(E:a0D w y g o l)(hf:a0u w M gf of fs)(Aa:fs.length≤9223372036854775807)(h:(a0x l).1=0)(C:a5d l fs.length=false):
  Calls prog 60 #[.slice y l.length m,.slice M fs.length z] w (a3H w (a1R l fs)):=by
 have J:Hid (a1R l fs=(6,[])):=by show _=_;unfold a1R;rw[f_ (by omega),f_ (by rw[C];decide)]
 rw[J.out];have L:Hid (Calls prog 58 #[.slice y l.length m] w fun e H=>e= .returned (.tuple #[i_ (a0x l).1,i_ (a0x l).2])∧B__ w H):=a5Z l y g o m w E;obtain⟨_,Ac,_⟩:=a8f h;have T:Hid (a0D w y g o l):=E;have S:Hid (a5d l fs.length=false):=C;clear E hf J C;rw[h]at L;clear h;generalize hy:(a0x l).2=y2 at*;clear hy;go_enter func60,ntmps60;go_wp2_with (go_at_call 58;refine L.out.mono ?_;rintro e R ⟨rfl,A⟩;have u:Hid (B__ w R):=A;clear A);go_loopw [8] (fun x H=>∃k:Nat,x=i_ k∧k≤l.length∧H=R∧Hid (∀j,∀t:j<l.length,j<k→¬(l[j].op=11∧(fs.length:Int)≤l[j].b))) (fun x _=>l.length-(intOf x).toNat);case atStart=>exact⟨0,rfl,by omega,rfl,fun j t h=>absurd h (by omega)⟩
 case round=>
  obtain⟨k,rfl,hk,rfl,I⟩:=hrel;by_cases F:k<l.length
  ·have tk:decide ((k:Int)<(l.length:Int))=true:=by simp;omega
   obtain⟨Z,hg,U,V,X,Y⟩:=T.out.below u.out k F;have s:Hid (¬(l[k].op=11∧(fs.length:Int)≤l[k].b)→∀j,∀t:j<l.length,j<k+1→¬(l[j].op=11∧(fs.length:Int)≤l[j].b)):=by
    intro hn j t Ab;rcases Nat.lt_or_ge j k with N|N
    ·exact I.out j t N
    ·have:j=k:=by omega
     subst this;exact hn
   generalize l[k]=p at*;obtain⟨O,pa,G,pc⟩:=p;simp only at U V X Y s;subst Z;by_cases r:O=11
   ·subst r;by_cases D:(fs.length:Int)≤G
    ·have P:decide ((fs.length:Int)≤G)=true:=by simpa using D
     clear s;go_wp2_with fail;go_ret2;exact⟨⟨_,rfl,fun _=>rfl,E_ ..⟩,u.out⟩
    ·have P:decide ((fs.length:Int)≤G)=false:=by simpa using D
     have B:Hid _:=s.out (fun h=>D h.2);clear s;go_wp2_with fail;go_roundw;case rel=>exact⟨k+1,by go_num,by omega,trivial,B⟩
     case measure=>simp[intOf];omega
   ·have P:(O==11)=false:=by rw[p_];exact r
    have B:Hid _:=s.out (fun h=>r h.1);clear s;go_wp2_with fail;go_roundw;case rel=>exact⟨k+1,by go_num,by omega,trivial,B⟩
    case measure=>simp[intOf];omega
  ·exfalso;have:=b7b (l:=l) (n:=fs.length) (fun j t=>I.out j t (by omega));rw[S.out]at this;cases this
structure a9d(l:List Ic)(fs:List Int)(w0:World)(G:Nat)(y:Option (List Nt))(v:Value)(w:World)(s:XS)(d:Nat):Prop where
 ok:XOk s
 regs:a03 w G s.regs
 notes:w.ownsRow (G+1) 61 5 v s.notes.length (a0B s.notes)
 low:Below w0.heap.size w0 w
 rest:a2X l fs (50000-d) s=y
 few:s.notes.length≤d
 inn:s.pc<l.length
theorem a9d.turn{l:List Ic}{fs:List Int}{i w W w':World}{G:Nat}{y:Option (List Nt)}{v o:Value}{s:XS}{d:Nat}(t:(a0x l).1=0)(q:∀x∈l,-9223372036854775808≤x.b∧x.b≤9223372036854775807)(p:a3I fs)(h:a9d l fs i G y v w s d)(z:d<49999)(m:(l[s.pc]'h.inn).op≠0)(u:i.heap.size≤G)
  (a:B__ i W) (n:W.ownsRow (G+1) 61 5 o (a0m (l[s.pc]'h.inn) fs s).notes.length (a0B (a0m (l[s.pc]'h.inn) fs s).notes)) (r:a03 w' G (a0m (l[s.pc]'h.inn) fs s).regs) (c:But G W w'):a9d l fs i G y o w' (a0m (l[s.pc]'h.inn) fs s) (d+1):=by
 refine⟨b8g h.ok (q _ (P_ _)) p,r,?_,?_,?_,?_,b8h t h.inn m fs⟩
 ·exact a5o n fun k g j=>c.block k j (fun e=>by have:=(n.lt k g).1;cases e;omega)
 ·refine⟨c.os.trans a.os,c.tape.trans a.tape,c.output.trans a.output,K_ a.size c.size,fun k g=> ?_⟩;exact(c.block k (Q_ g a.size) (fun e=>by cases e;omega)).trans (a.block k g)
 ·have:=b0m (fs:=fs) (f:=50000-d) (by omega) h.inn m;rw[h.rest]at this;have e:50000-d-1=50000-(d+1):=by omega
  rw[e]at this;exact this.symm
 ·have:=a9P (l[s.pc]'h.inn) fs s;have:=h.few;omega
theorem c07{x:Ic}{fs:List Int}{s:XS}(h:x.op≠14)(j:x.op≠15):(a0m x fs s).notes=s.notes:=by
 unfold a0m XS.give;repeat' split
 all_goals first|rfl|(exfalso;omega)
theorem a7a{W c:World}{f:Obj}{a:Option Nat}{k:Nat}(h:((W.alloc f).drew).grownBy c a)(d:k<W.heap.size)(b:a≠some k):c.heap[k]? =W.heap[k]? :=
 (h.block k (by simp[World.drew];omega) (fun e=>b e.symm)).trans (q_ _ _ _ d)
theorem b5B{w W d:World}{i:Obj}{c:Option Nat}(a:B__ w W)(b:((W.alloc i).drew).grownBy d c)(g:∀k,c=some k→w.heap.size≤k):B__ w d:=by
 have j:=a.size;have h:W.heap.size+1≤d.heap.size:=by have:=b.size;simpa[World.drew]using this
 exact⟨b.os.trans a.os,b.tape.trans a.tape,b.output.trans a.output,by omega,fun k f=>(a7a b (by omega) (fun e=>by have:=g k e;omega)).trans (a.block k f)⟩
theorem b88(HT:b2H)(l:List Ic)(fs:List Int)(ao af:Option Addr)(g o At gf of X:Nat)(w:World)(hc:a0D w ao g o l)(hf:a0u w af gf of fs)(Ay:fs.length≤9223372036854775807)(AI:∀x∈l,-9223372036854775808≤x.b∧x.b≤9223372036854775807)(AG:a3I fs)(h:(a0x l).1=0)(h2:a5d l fs.length=true):
  Calls prog 60 #[.slice ao l.length At,.slice af fs.length X] w (a3H w (a1R l fs)):=by
 have hE:a1R l fs=(match a2X l fs 50000 x0 with|none=>(8,[])|some n=>(0,n)):=by
  unfold a1R;rw[f_ (by omega),n_ h2];generalize a2X l fs 50000 x0=Y;cases Y<;>rfl
 generalize hR:a1R l fs=R at*;obtain⟨AY,AA,Af⟩:=a8f h;have U:Hid (∀k,∀hk:k<l.length,l[k].op≠0→b08 l.length fs.length l[k]):=by
  intro k hk h0;refine⟨(Af k hk).1,h0,fun Ad=> ?_⟩;have a1:=b4u h2 hk Ad;have a2:=(Af k hk).1;unfold a0I at a2;simp[Ad,bel]at a2;omega
 generalize hY:a2X l fs 50000 x0=Y at*;have HY:Hid (a2X l fs (50000-0) x0=Y):=hY;have HE:=h__ hE;have HV:Hid (Calls prog 58 #[.slice ao l.length At] w fun e t=>e= .returned (.tuple #[i_ (a0x l).1,i_ (a0x l).2])∧B__ w t):=a5Z l ao g o At w hc;have HC:Hid (a0D w ao g o l):=hc;have HF:Hid (a0u w af gf of fs):=hf;have H0:Hid ((a0x l).1=0):=h;have H2:Hid (a5d l fs.length=true):=h2;have As:Hid b2H:=HT;have AO:Hid (∀x∈l,-9223372036854775808≤x.b∧x.b≤9223372036854775807):=AI;have AN:Hid (a3I fs):=AG;have AR:=c2i;obtain⟨iV,AH,AL,AK,AE⟩:=a1v b0w;rw[h]at HV;generalize AV:(a0x l).2=y2 at*;clear hc hf h2 h AV hE hY Af HT AI AG hR;go_enter func60,ntmps60;go_wp2_with (go_at_call 58;refine HV.out.mono ?_;rintro e w1 ⟨rfl,AD⟩;have Ap:Hid (B__ w w1):=AD;clear AD);go_loopw [8] (fun x t=>∃k:Nat,x=i_ k∧k≤l.length∧t=w1) (fun x _=>l.length-(intOf x).toNat);case atStart=>exact⟨0,rfl,by omega,rfl⟩
 case round=>
  obtain⟨k,rfl,hk,rfl⟩:=hrel;by_cases AJ:k<l.length
  ·have tk:decide ((k:Int)<(l.length:Int))=true:=by simp;omega
   obtain⟨e0,hg,c0,c1,c2,c3⟩:=HC.out.below Ap.out k AJ;have An:l[k].op=11→l[k].b<fs.length:=fun h=>b4u H2.out AJ h
   generalize l[k]=p at*;obtain⟨po,pa,pb,pc⟩:=p;simp only at c0 c1 c2 c3 An;subst e0;by_cases Ad:po=11
   ·subst Ad;have tb:decide ((fs.length:Int)≤pb)=false:=by have:=An rfl;simp;omega
    clear An;go_wp2_with fail;go_roundw;case rel=>exact⟨k+1,by go_num,by omega,trivial⟩
    case measure=>simp[intOf];omega
   ·have tb:(po==11)=false:=by rw[p_];exact Ad
    clear An;go_wp2_with fail;go_roundw;case rel=>exact⟨k+1,by go_num,by omega,trivial⟩
    case measure=>simp[intOf];omega
  ·have tk:decide ((k:Int)<(l.length:Int))=false:=by simp;omega
   have AT:=Ap.out.size;have AC:Hid (a9d l fs w wr.heap.size Y (.slice none 0 0) (wr.alloc (.cells (a3h a5q) 59)) x0 0):=
    ⟨c5s,⟨R_ _ _⟩,E_ ..,Ap.out.alloc AT _,HY.out,by simp[x0],by simp[x0];omega⟩
   go_wp2_with fail;generalize (wr.alloc (.cells (a3h a5q) 59))=W at*;generalize hG:wr.heap.size=G at*;go_loopw [10,11,12] (fun x y z t=>∃(Z:Option Addr) (nn cn:Nat) (s:XS) (d:Nat),x= .slice Z nn cn∧y=i_ s.pc∧z=i_ d∧d<50000∧Hid (a9d l fs w G Y (.slice Z nn cn) t s d)) (fun _ _ z _=>50000-(intOf z).toNat);case atStart=>exact⟨none,0,0,x0,0,rfl,rfl,rfl,by omega,AC⟩
   case round=>
    obtain⟨Z,nn,cn,s,d,rfl,rfl,rfl,hd,A⟩:=hrel;clear AC AR;have Ao:=A.out.inn;have Ak:s.pc≤2000:=by omega
    have AU:w.heap.size≤G:=by omega
    have Aj:=A.out.low.size;obtain⟨e0,hg,c0,c1,c2,c3⟩:=(HC.out.below A.out.low) s.pc Ao;have AM:Hid (a0u wr af gf of fs):=HF.out.below A.out.low;have F:Hid (l[s.pc].op≠0→b08 l.length fs.length l[s.pc]):=U.out s.pc Ao;have H:Hid (l[s.pc].op=0→Y=some s.notes):=fun h0=>by
     have:=A.out.rest;rw[b49 (by omega) Ao h0]at this;exact this.symm
    have B:Hid (d=49999→l[s.pc].op≠0→Y=none):=fun AF h0=>by
     have:=A.out.rest;rw[b0m (by omega) Ao h0,show 50000-d-1=0 by omega]at this;exact this.symm
    have u:Hid (∀T W t,d<49999→l[s.pc].op≠0→B__ w W→W.ownsRow (G+1) 61 5 T (a0m l[s.pc] fs s).notes.length (a0B (a0m l[s.pc] fs s).notes)→a03 t G (a0m l[s.pc] fs s).regs→But G W t→a9d l fs w G Y T t (a0m l[s.pc] fs s) (d+1)):=fun T W t a1 a2 a3 a4 a5 a6=>A.out.turn H0.out AO.out AN.out a1 a2 AU a3 a4 a5 a6
    generalize l[s.pc]=p at*;obtain⟨po,pa,pb,pp⟩:=p;simp only at c0 c1 c2 c3 F H B u;subst e0;by_cases h0:po=0
    ·have hR:=HE.out;rw[H.out h0]at hR;simp only at hR;subst h0;clear H B u F HE;go_wp2_with fail;rw[hR];go_ret2;exact⟨⟨_,rfl,fun h=>absurd rfl h,b5O A.out.notes (by omega)⟩,A.out.low⟩
    have t0:(po !=0)=true:=by simpa using h0
    by_cases AF:d=49999
    ·have hR:=HE.out;rw[B.out AF h0]at hR;simp only at hR;have td:decide ((50000:Int)≤(d:Int)+1)=true:=by simp;omega
     clear H B u F HE;go_wp2_with fail;rw[hR];go_ret2;exact⟨⟨_,rfl,fun _=>rfl,E_ ..⟩,A.out.low⟩
    have td:decide ((50000:Int)≤(d:Int)+1)=false:=by simp;omega
    have Ax:d<49999:=by omega
    by_cases Au:po=14
    ·subst Au;have M:=(F.out (by simp)).fit;simp[a0I,bel]at M;obtain⟨m,rfl⟩:∃m:Nat,pa=m:=⟨pa.toNat,by omega⟩
     obtain⟨r,rfl⟩:∃r:Nat,pb=r:=⟨pb.toNat,by omega⟩
     obtain⟨j,rfl⟩:∃j:Nat,pp=j:=⟨pp.toNat,by omega⟩
     have AB:j<100:=by omega
     clear M;have HS:Hid (∀T W t,d<49999→B__ w W→W.ownsRow (G+1) 61 5 T (s.notes++ [(⟨0,m,r,s.regs.getD j vl0⟩:Nt)]).length (a0B (s.notes++ [(⟨0,m,r,s.regs.getD j vl0⟩:Nt)]))→a03 t G (a0m ⟨14,m,r,j⟩ fs s).regs→But G W t→a9d l fs w G Y T t (a0m ⟨14,m,r,j⟩ fs s) (d+1)):=by
      intro T W t a1 a2 a3 a4 a5;refine u.out T W t a1 (by simp) a2 ?_ a4 a5;have e:(a0m ⟨14,(m:Int),(r:Int),(j:Int)⟩ fs s).notes=s.notes++ [(⟨0,m,r,s.regs.getD j vl0⟩:Nt)]:=by unfold a0m;simp[XS.reg]
      rw[e];exact a3
     obtain⟨r0,r1⟩:=A.out.regs.cell j (by rw[A.out.ok.len];exact AB);have HO:Hid (wr.ownsRow (G+1) 61 5 (.slice Z nn cn) s.notes.length (a0B s.notes)):=A.out.notes;have S:Hid (a03 wr G s.regs):=A.out.regs;have O:Hid (B__ w wr):=A.out.low;have AS:s.notes.length≤50000:=by have:=A.out.few;omega
     have E:G<wr.heap.size:=A.out.regs.lt;have Ab:Hid (XOk s):=A.out.ok;have J:Hid (b08 l.length fs.length ⟨14,m,r,j⟩):=F.out (by simp);have C:B__ wr (wr.alloc (.cells #[i_ 14,i_ m,i_ r,i_ j] 87)):=(g_ _ _).alloc (a_ _) _;have k0:(wr.alloc (.cells #[i_ 14,i_ m,i_ r,i_ j] 87)).cell? (a__ wr.heap.size 0)=some (i_ 14):=by simp[go_sem]
     have k1:(wr.alloc (.cells #[i_ 14,i_ m,i_ r,i_ j] 87)).cell? (a__ wr.heap.size 1)=some (i_ m):=by simp[go_sem]
     have k2:(wr.alloc (.cells #[i_ 14,i_ m,i_ r,i_ j] 87)).cell? (a__ wr.heap.size 2)=some (i_ r):=by simp[go_sem]
     have k3:(wr.alloc (.cells #[i_ 14,i_ m,i_ r,i_ j] 87)).cell? (a__ wr.heap.size 3)=some (i_ j):=by simp[go_sem]
     have Aw:(wr.alloc (.cells #[i_ 14,i_ m,i_ r,i_ j] 87)).heap.size=wr.heap.size+1:=by simp
     rw[←C.cell (p:=((a__ G (j*2)):Addr)) E]at r0;rw[←C.cell (p:=((a__ G (j*2+1)):Addr)) E]at r1;have AW:(0:Int)≤(j:Int):=by omega
     have AX:(j:Int)<100:=by omega
     clear A u H B F U;go_upto_region 19 with fail;generalize (wr.alloc (.cells #[i_ 14,i_ m,i_ r,i_ j] 87))=W at*;have Aa:Hid (W.ownsRow (G+1) 61 5 (.slice Z nn cn) s.notes.length (a0B s.notes)):=a1C HO.out C (a_ _);have Ar:Hid (a03 W G s.regs):=S.out.block (C.block G E);have Aq:Hid (B__ w W):=O.out.trans (C.mono Aj);have HK:Hid (∀V:World,V.heap[wr.heap.size]? =W.heap[wr.heap.size]? →V.heap[G]? =W.heap[G]? →V.cell? (a__ wr.heap.size 0)=some (i_ 14)∧V.cell? (a__ wr.heap.size 1)=some (i_ m)∧V.cell? (a__ wr.heap.size 2)=some (i_ r)∧V.cell? (a__ wr.heap.size 3)=some (i_ j)∧V.cell? (a__ G (j*2))=some (i_ (s.regs.getD j vl0).num)∧V.cell? (a__ G (j*2+1))=some (i_ (s.regs.getD j vl0).fault)):=fun V e e'=>⟨(e_ (a:=(a__ wr.heap.size 0)) e).trans k0,(e_ (a:=(a__ wr.heap.size 1)) e).trans k1,(e_ (a:=(a__ wr.heap.size 2)) e).trans k2,(e_ (a:=(a__ wr.heap.size 3)) e).trans k3,(e_ (a:=(a__ G (j*2))) e').trans r0,(e_ (a:=(a__ G (j*2+1))) e').trans r1⟩
     have Ah:wr.heap.size<W.heap.size:=by omega
     have Ae:G<W.heap.size:=by omega
     have KB:Hid (W.heap[wr.heap.size]? =W.heap[wr.heap.size]?):=rfl;have AP:Hid (B__ wr W):=C;have P:Hid (∀k,(Value.slice Z nn cn).ownBlock=some k→G+1≤k∧k<wr.heap.size):=fun k hk=>HO.out.lt k hk
     clear C k0 k1 k2 k3 Aw r0 r1 HO S O
     go_region_held3 (fun t=>t.cell? (a__ wr.heap.size 0)=some (i_ 14)∧t.cell? (a__ wr.heap.size 1)=some (i_ m)∧t.cell? (a__ wr.heap.size 2)=some (i_ r)∧t.cell? (a__ wr.heap.size 3)=some (i_ j)∧t.cell? (a__ G (j*2))=some (i_ (s.regs.getD j vl0).num)∧t.cell? (a__ G (j*2+1))=some (i_ (s.regs.getD j vl0).fault)) (first|exact HK.out _ rfl rfl|exact HK.out _ (q_ _ _ _ Ah) (q_ _ _ _ Ae)|exact HK.out _ Az Ai) ((refine a4S rfl (.tmp 67) (.tmp 81) 51 rfl (G+1) 61 iV (.agg #[i_ 0,i_ 0,i_ 0,i_ 0,i_ 0]) 5 40 underlying51 AH AL AK AE rfl (by decide) (.slice Z nn cn) s.notes.length (a0B s.notes) (by simp[Act.eval,Act.put]) (by exact(Aa.out.alloc _).drew) (a__ W.heap.size 0) 1 1 (a1J ⟨0,m,r,s.regs.getD j vl0⟩) (by simp[Act.eval,Act.put]) rfl (by exact a77 W ⟨0,m,r,s.regs.getD j vl0⟩ 61) (by intro q hq;simp[a1J]at hq;rcases hq with rfl|rfl|rfl|rfl|rfl<;>rfl) (by unfold maxLen;omega) (by omega) (by simp;omega) (by decide) ?_;intro T w2 N D AQ;have Az:w2.heap[wr.heap.size]? =W.heap[wr.heap.size]? :=a7a D Ah (fun e=>by have:=(P.out _ e).2;omega);have Ai:w2.heap[G]? =W.heap[G]? :=a7a D Ae (fun e=>by have:=(P.out _ e).1;omega);have I:=b5B Aq.out D (fun k e=>by have:=(P.out _ e).1;omega);obtain⟨gn,Ac,rfl⟩:=Joins.ownsRow_form N (by omega)))
     all_goals (go_wp2_with (go_at_call 93;refine(As.out l.length _ G s _ fs af gf of X J.out AA (Ar.out.block Ai) Ab.out Ak Ay (HF.out.below I)).mono ?_;rintro e5 w5 ⟨rfl,Al,Ag⟩))
     have L:Hid _:=HS.out _ _ _ Ax I (by rw[a7Y];simpa[a0B]using N) Al Ag;go_roundw;case rel=>exact⟨some (a__ gn 0),_,Ac,_,d+1,rfl,rfl,by go_num,by omega,L⟩
     case measure=>simp[intOf];omega
    by_cases Av:po=15
    ·subst Av;have M:=(F.out (by simp)).fit;simp[a0I,bel]at M;obtain⟨m,rfl⟩:∃m:Nat,pa=m:=⟨pa.toNat,by omega⟩
     obtain⟨r,rfl⟩:∃r:Nat,pb=r:=⟨pb.toNat,by omega⟩
     obtain⟨j,rfl⟩:∃j:Nat,pp=j:=⟨pp.toNat,by omega⟩
     have AB:j<100:=by omega
     clear M;have HS:Hid (∀T W t,d<49999→B__ w W→W.ownsRow (G+1) 61 5 T (s.notes++ [(⟨1,m,r,s.regs.getD j vl0⟩:Nt)]).length (a0B (s.notes++ [(⟨1,m,r,s.regs.getD j vl0⟩:Nt)]))→a03 t G (a0m ⟨15,m,r,j⟩ fs s).regs→But G W t→a9d l fs w G Y T t (a0m ⟨15,m,r,j⟩ fs s) (d+1)):=by
      intro T W t a1 a2 a3 a4 a5;refine u.out T W t a1 (by simp) a2 ?_ a4 a5;have e:(a0m ⟨15,(m:Int),(r:Int),(j:Int)⟩ fs s).notes=s.notes++ [(⟨1,m,r,s.regs.getD j vl0⟩:Nt)]:=by unfold a0m;simp[XS.reg]
      rw[e];exact a3
     obtain⟨r0,r1⟩:=A.out.regs.cell j (by rw[A.out.ok.len];exact AB);have HO:Hid (wr.ownsRow (G+1) 61 5 (.slice Z nn cn) s.notes.length (a0B s.notes)):=A.out.notes;have S:Hid (a03 wr G s.regs):=A.out.regs;have O:Hid (B__ w wr):=A.out.low;have AS:s.notes.length≤50000:=by have:=A.out.few;omega
     have E:G<wr.heap.size:=A.out.regs.lt;have Ab:Hid (XOk s):=A.out.ok;have J:Hid (b08 l.length fs.length ⟨15,m,r,j⟩):=F.out (by simp);have C:B__ wr (wr.alloc (.cells #[i_ 15,i_ m,i_ r,i_ j] 87)):=(g_ _ _).alloc (a_ _) _;have k0:(wr.alloc (.cells #[i_ 15,i_ m,i_ r,i_ j] 87)).cell? (a__ wr.heap.size 0)=some (i_ 15):=by simp[go_sem]
     have k1:(wr.alloc (.cells #[i_ 15,i_ m,i_ r,i_ j] 87)).cell? (a__ wr.heap.size 1)=some (i_ m):=by simp[go_sem]
     have k2:(wr.alloc (.cells #[i_ 15,i_ m,i_ r,i_ j] 87)).cell? (a__ wr.heap.size 2)=some (i_ r):=by simp[go_sem]
     have k3:(wr.alloc (.cells #[i_ 15,i_ m,i_ r,i_ j] 87)).cell? (a__ wr.heap.size 3)=some (i_ j):=by simp[go_sem]
     have Aw:(wr.alloc (.cells #[i_ 15,i_ m,i_ r,i_ j] 87)).heap.size=wr.heap.size+1:=by simp
     rw[←C.cell (p:=((a__ G (j*2)):Addr)) E]at r0;rw[←C.cell (p:=((a__ G (j*2+1)):Addr)) E]at r1;have AW:(0:Int)≤(j:Int):=by omega
     have AX:(j:Int)<100:=by omega
     clear A u H B F U;go_upto_region 19 with fail;generalize (wr.alloc (.cells #[i_ 15,i_ m,i_ r,i_ j] 87))=W at*;have Aa:Hid (W.ownsRow (G+1) 61 5 (.slice Z nn cn) s.notes.length (a0B s.notes)):=a1C HO.out C (a_ _);have Ar:Hid (a03 W G s.regs):=S.out.block (C.block G E);have Aq:Hid (B__ w W):=O.out.trans (C.mono Aj);have HK:Hid (∀V:World,V.heap[wr.heap.size]? =W.heap[wr.heap.size]? →V.heap[G]? =W.heap[G]? →V.cell? (a__ wr.heap.size 0)=some (i_ 15)∧V.cell? (a__ wr.heap.size 1)=some (i_ m)∧V.cell? (a__ wr.heap.size 2)=some (i_ r)∧V.cell? (a__ wr.heap.size 3)=some (i_ j)∧V.cell? (a__ G (j*2))=some (i_ (s.regs.getD j vl0).num)∧V.cell? (a__ G (j*2+1))=some (i_ (s.regs.getD j vl0).fault)):=fun V e e'=>⟨(e_ (a:=(a__ wr.heap.size 0)) e).trans k0,(e_ (a:=(a__ wr.heap.size 1)) e).trans k1,(e_ (a:=(a__ wr.heap.size 2)) e).trans k2,(e_ (a:=(a__ wr.heap.size 3)) e).trans k3,(e_ (a:=(a__ G (j*2))) e').trans r0,(e_ (a:=(a__ G (j*2+1))) e').trans r1⟩
     have Ah:wr.heap.size<W.heap.size:=by omega
     have Ae:G<W.heap.size:=by omega
     have KB:Hid (W.heap[wr.heap.size]? =W.heap[wr.heap.size]?):=rfl;have AP:Hid (B__ wr W):=C;have P:Hid (∀k,(Value.slice Z nn cn).ownBlock=some k→G+1≤k∧k<wr.heap.size):=fun k hk=>HO.out.lt k hk
     clear C k0 k1 k2 k3 Aw r0 r1 HO S O
     go_region_held3 (fun t=>t.cell? (a__ wr.heap.size 0)=some (i_ 15)∧t.cell? (a__ wr.heap.size 1)=some (i_ m)∧t.cell? (a__ wr.heap.size 2)=some (i_ r)∧t.cell? (a__ wr.heap.size 3)=some (i_ j)∧t.cell? (a__ G (j*2))=some (i_ (s.regs.getD j vl0).num)∧t.cell? (a__ G (j*2+1))=some (i_ (s.regs.getD j vl0).fault)) (first|exact HK.out _ rfl rfl|exact HK.out _ (q_ _ _ _ Ah) (q_ _ _ _ Ae)|exact HK.out _ Az Ai) ((refine a4S rfl (.tmp 67) (.tmp 81) 51 rfl (G+1) 61 iV (.agg #[i_ 0,i_ 0,i_ 0,i_ 0,i_ 0]) 5 40 underlying51 AH AL AK AE rfl (by decide) (.slice Z nn cn) s.notes.length (a0B s.notes) (by simp[Act.eval,Act.put]) (by exact(Aa.out.alloc _).drew) (a__ W.heap.size 0) 1 1 (a1J ⟨1,m,r,s.regs.getD j vl0⟩) (by simp[Act.eval,Act.put]) rfl (by exact a77 W ⟨1,m,r,s.regs.getD j vl0⟩ 61) (by intro q hq;simp[a1J]at hq;rcases hq with rfl|rfl|rfl|rfl|rfl<;>rfl) (by unfold maxLen;omega) (by omega) (by simp;omega) (by decide) ?_;intro T w2 N D AQ;have Az:w2.heap[wr.heap.size]? =W.heap[wr.heap.size]? :=a7a D Ah (fun e=>by have:=(P.out _ e).2;omega);have Ai:w2.heap[G]? =W.heap[G]? :=a7a D Ae (fun e=>by have:=(P.out _ e).1;omega);have I:=b5B Aq.out D (fun k e=>by have:=(P.out _ e).1;omega);obtain⟨gn,Ac,rfl⟩:=Joins.ownsRow_form N (by omega)))
     all_goals (go_wp2_with (go_at_call 93;refine(As.out l.length _ G s _ fs af gf of X J.out AA (Ar.out.block Ai) Ab.out Ak Ay (HF.out.below I)).mono ?_;rintro e5 w5 ⟨rfl,Al,Ag⟩))
     have L:Hid _:=HS.out _ _ _ Ax I (by rw[a7Y];simpa[a0B]using N) Al Ag;go_roundw;case rel=>exact⟨some (a__ gn 0),_,Ac,_,d+1,rfl,rfl,by go_num,by omega,L⟩
     case measure=>simp[intOf];omega
    have AZ:(po==14)=false:=by rw[p_];exact Au
    have A0:(po==15)=false:=by rw[p_];exact Av
    have J:Hid (b08 l.length fs.length ⟨po,pa,pb,pp⟩):=F.out h0;have Aa:Hid (∀W,B__ wr W→W.ownsRow (G+1) 61 5 (.slice Z nn cn) (a0m ⟨po,pa,pb,pp⟩ fs s).notes.length (a0B (a0m ⟨po,pa,pb,pp⟩ fs s).notes)):=by
     intro W hb;rw[c07 Au Av];exact a1C A.out.notes hb (a_ _)
    have S:Hid (a03 wr G s.regs):=A.out.regs;have E:G<wr.heap.size:=A.out.regs.lt;have O:Hid (B__ w wr):=A.out.low;have Ab:Hid (XOk s):=A.out.ok;have Am:Hid (∀ob,B__ wr (wr.alloc ob)):=fun ob=>(g_ _ _).alloc (a_ _) _
    clear A H B F U;go_wp2_with (go_at_call 93;refine(As.out l.length ⟨po,pa,pb,pp⟩ G s _ fs af gf of X J.out AA (S.out.block ((Am.out _).block G E)) Ab.out Ak Ay (AM.out.below (Am.out _))).mono ?_;rintro e5 w5 ⟨rfl,Al,Ag⟩);have L:Hid _:=u.out _ _ _ Ax h0 (O.out.trans ((Am.out _).mono Aj)) (Aa.out _ (Am.out _)) Al Ag;go_roundw;case rel=>exact⟨Z,nn,cn,_,d+1,rfl,rfl,by go_num,by omega,L⟩
    case measure=>simp[intOf];omega
theorem a5z{z:Int}{n:Nat}(h:bel z n=true):∃k:Nat,z=k∧k<n:=by
 unfold bel at h;simp at h;exact⟨z.toNat,by omega,by omega⟩
theorem c5d:b2H:=by
 intro n x g s w m l p u e J M r q h A L;obtain⟨d,C,v⟩:=J;obtain⟨o,a,b,c⟩:=x;simp only at C v;unfold a0I at d;simp only[f_ C]at d;by_cases D:o=1
 ·subst D;simp at d;obtain⟨j,rfl,f⟩:=a5z (n:=100) d.1;exact c7D g s w r q h m l p u e j b c f
 rw[f_ D]at d;by_cases z:o=2∨o=3
 ·rw[n_ z]at d;simp only[Z_]at d;obtain⟨j,rfl,f⟩:=a5z (n:=100) d.1.1;obtain⟨t,rfl,i⟩:=a5z (n:=100) d.1.2;rcases z with rfl|rfl
  ·exact c7c g s w r q h m l p u e j t c f i
  ·exact c7C g s w r q h m l p u e j t c f i
 rw[f_ z]at d;by_cases E:4≤o∧o≤10
 ·rw[n_ E]at d;simp only[Z_]at d;obtain⟨j,rfl,f⟩:=a5z (n:=100) d.1.1;obtain⟨t,rfl,i⟩:=a5z (n:=100) d.1.2;obtain⟨B,rfl,y⟩:=a5z (n:=100) d.2;obtain⟨k,rfl⟩:∃k:Nat,o=(k:Int)+4:=⟨(o-4).toNat,by omega⟩
  exact c7M g s w r q h m l p u e k j t B (by omega) f i y
 rw[f_ E]at d;by_cases F:o=11
 ·subst F;simp only[a_b,Z_]at d;obtain⟨j,rfl,f⟩:=a5z (n:=100) d.1.1;obtain⟨t,rfl,i⟩:=a5z (n:=26) d.1.2;have:=v rfl;exact c7L g s w r q h m l p u e j t c f (by omega) A L
 rw[f_ F]at d;by_cases G:o=12
 ·subst G;simp only[a_b,Z_]at d;obtain⟨j,rfl,f⟩:=a5z (n:=n) d.1.1;exact c7d g s w r q h m l p u e j b c
 rw[f_ G]at d;by_cases H:o=13
 ·subst H;simp only[a_b,Z_]at d;obtain⟨j,rfl,f⟩:=a5z (n:=100) d.1.1;obtain⟨t,rfl,i⟩:=a5z (n:=n) d.1.2;obtain⟨B,rfl,y⟩:=a5z (n:=n) d.2;exact c7f g s w r q h m l p u e j t B f
 rw[f_ H]at d;by_cases I:o=14∨o=15
 ·exact c7e g s w r q h m l p u e o a b c I
 ·rw[f_ I]at d;cases d
theorem b2v(l:List Ic)(fs:List Int)(f e:Option Addr)(g o c i of a:Nat)(w:World)(j:a0D w f g o l)(k:a0u w e i of fs)(d:fs.length≤9223372036854775807)(n:∀x∈l,-9223372036854775808≤x.b∧x.b≤9223372036854775807)(m:a3I fs):
  Calls prog 60 #[.slice f l.length c,.slice e fs.length a] w (a3H w (a1R l fs)):=by
 by_cases h:(a0x l).1=0
 ·cases p:a5d l fs.length with
  |false=>exact b6r l fs f e g o c i of a w j k d h p
  |true=>exact b88 c5d l fs f e g o c i of a w j k d n m h p
 ·exact b87 l fs f e g o c i of a w j k d h
end Go.Proofs.YtdgmoiflahoihaaGreatDoor
