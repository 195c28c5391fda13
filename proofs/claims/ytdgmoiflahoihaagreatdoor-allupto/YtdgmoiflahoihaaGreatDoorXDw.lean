import Derived.Test.YtdgmoiflahoihaaGreatDoorXPw
import Derived.Test.YtdgmoiflahoihaaGreatDoorVFw

set_option linter.unusedSimpArgs false
set_option linter.unusedVariables false
set_option maxRecDepth 100000
set_option maxHeartbeats 8000000
namespace Go.Proofs.YtdgmoiflahoihaaGreatDoor
open Go.Proofs.Tryz
open Go.RowKit
structure XAt(w:World)(b:Nat)(s:XS):Prop where
 cell:∀k,k<100→w.cell? ⟨b,k*2,none⟩=some (.int .i64 (s.regs.getD k vl0).num)∧w.cell? ⟨b,k*2+1,none⟩=some (.int .i64 (s.regs.getD k vl0).fault)
 row:∃v,w.cell? ⟨b,200,none⟩=some v∧w.ownsRow (b+1) 61 5 v s.notes.length (a0B s.notes)
 pc:w.cell? ⟨b,201,none⟩=some (.int .i64 s.pc)
 fz:∀o,w.frozen? ⟨b,o,none⟩=false
theorem XAt.lt{w:World}{b:Nat}{s:XS}(h:XAt w b s):b<w.heap.size:=r_ w _ h.pc
theorem XAt.keep{w w':World}{b B:Nat}{s:XS}(h:XAt w b s)(a:Below B w w')(g:w.heap.size≤B):XAt w' b s:=by
 have i:=h.lt;obtain⟨d,⟨v,c,j⟩,l,f⟩:=h;exact⟨fun k e=>⟨(a.cell (p:=(a__ b (k*2))) (by simp only;omega)).trans (d k e).1,(a.cell (p:=(a__ b (k*2+1))) (by simp only;omega)).trans (d k e).2⟩,⟨v,(a.cell (p:=(a__ b 200)) (by simp only;omega)).trans c,a1C j a g⟩,(a.cell (p:=(a__ b 201)) (by simp only;omega)).trans l,fun o=>(a.frozen (p:=(a__ b o)) (by simp only;omega)).trans (f o)⟩
theorem XAt.goto{w:World}{b:Nat}{s:XS}(h:XAt w b s)(n:Nat):XAt (w.setCell (a__ b 201) (i_ n)) b ⟨s.regs,s.notes,n⟩:=by
 obtain⟨g,⟨v,c,j⟩,l,f⟩:=h;refine⟨fun k i=> ?_,⟨v,by simp[go_sem,c],a_d j (a:=(a__ b 201)) (by simp) _⟩,by simp[go_sem,l],fun o=>by simp[go_sem,f]⟩;obtain⟨d,e⟩:=g k i;have m:¬201=k*2:=by omega
 have p:¬201=k*2+1:=by omega
 constructor
 ·simp[go_sem,d,m]
 ·simp[go_sem,e,p]
theorem XAt.set{w:World}{b:Nat}{s:XS}(h:XAt w b s)(hl:s.regs.length=100)(i:Nat)(hi:i<100)(x:Vl):XAt ((w.setCell ⟨b,i*2,none⟩ (.int .i64 x.num)).setCell ⟨b,i*2+1,none⟩ (.int .i64 x.fault)) b ⟨s.regs.set i x,s.notes,s.pc⟩:=by
 obtain⟨hc,⟨v,c,ho⟩,hp,fz⟩:=h
 refine⟨fun k hk=> ?_,⟨v,?_,?_⟩,?_,fun o=>by simp[go_sem,fz]⟩
 ·obtain⟨e0,e1⟩:=hc k hk
  obtain⟨f0,f1⟩:=hc i hi
  by_cases hik:i=k
  ·subst hik
   have e:(s.regs.set i x).getD i vl0=x:=by rw[List.getD_eq_getElem?_getD,List.getElem?_set_self (by omega)];rfl
   simp only[e]
   constructor<;>simp[go_sem,f0,f1]
  ·have e:(s.regs.set i x).getD k vl0=s.regs.getD k vl0:=by rw[List.getD_eq_getElem?_getD,List.getElem?_set_ne hik,List.getD_eq_getElem?_getD]
   simp only[e]
   have n1:¬i*2=k*2:=by omega
   have n2:¬i*2+1=k*2:=by omega
   have n3:¬i*2=k*2+1:=by omega
   have n4:¬i*2+1=k*2+1:=by omega
   constructor
   ·simp[go_sem,e0,n1,n2]
   ·simp[go_sem,e1,n3,n4,hik]
 ·have n1:¬i*2=200:=by omega
  have n2:¬i*2+1=200:=by omega
  simp[go_sem,c,n1,n2]
 ·exact ownsRow_setCell_below (ownsRow_setCell_below ho (a:=⟨b,i*2,none⟩) (by simp) _) (a:=⟨b,i*2+1,none⟩) (by simp) _
 ·have n1:¬i*2=201:=by omega
  have n2:¬i*2+1=201:=by omega
  simp[go_sem,hp,n1,n2]
def a3k(w:World)(b:Nat)(s:XS)(e:Ending)(w':World):Prop:=e= .returned (.tuple #[])∧XAt w' b s∧Below b w w'
structure c6B(w W:World)(b:Nat)(s:XS)(x:Ic):Prop where
 k0:W.cell? ⟨w.heap.size,0,none⟩=some (.int .i64 x.op)
 k1:W.cell? ⟨w.heap.size,1,none⟩=some (.int .i64 x.a)
 k2:W.cell? ⟨w.heap.size,2,none⟩=some (.int .i64 x.b)
 k3:W.cell? ⟨w.heap.size,3,none⟩=some (.int .i64 x.c)
 st:XAt W b ⟨s.regs,s.notes,s.pc+1⟩
 low:Below b w W
 size:W.heap.size=w.heap.size+1
theorem a68{w:World}{b:Nat}{s:XS}(h:XAt w b s)(x:Ic):c6B w ((w.setCell (a__ b 201) (i_ ((s.pc:Int)+1))).alloc (.cells (a0O x) 87)) b s x:=by
 have a:=h.lt;have c:(w.setCell (a__ b 201) (i_ ((s.pc:Int)+1))).heap.size=w.heap.size:=by simp
 refine⟨?_,?_,?_,?_,?_,?_,?_⟩
 ·simp[go_sem]
 ·simp[go_sem]
 ·simp[go_sem]
 ·simp[go_sem]
 ·have k:=h.goto (s.pc+1);exact k.keep ((g_ _ _).alloc (a_ _) _) (a_ _)
 ·exact((g_ b w).setCell (by simp) _).alloc (by rw[c];omega) _
 ·simp
theorem c6H(b:Nat)(s:XS)(w:World)(h:XAt w b s)(n:XOk s)(r:s.pc≤2000)(fs:List Int)(z:Value)(a:Nat)(c d:Int):
  Calls prog 99 #[.pointer (some (a__ b 0)),icV ⟨12,a,c,d⟩,z] w (a3k w b (a0m ⟨12,a,c,d⟩ fs s)):=by
 have k:Hid (a0m ⟨12,a,c,d⟩ fs s=⟨s.regs,s.notes,a⟩):=by show _=_;unfold a0m;simp
 rw[k.out];have j:Hid _:=a68 h ⟨12,a,c,d⟩;have p:=h.pc;have l:=h.fz;have o:=h.lt;clear n k h;go_enter func99,ntmps99;go_upto_region 2 with fail;generalize ((w.setCell (a__ b 201) (i_ ((s.pc:Int)+1))).alloc (.cells (a0O ⟨12,a,c,d⟩) 87))=W at*;obtain⟨u,v,x,y,e,f,t⟩:=j.out;simp only at u v x y;have q:=e.pc;have m:=e.fz;have i:=h__ e;have g:=h__ f;clear e f j p l;go_wp2_with fail;go_end0;exact⟨rfl,i.out.goto a,g.out.setCell (by simp) _⟩
theorem c0l(b:Nat)(s:XS)(w:World)(B:XAt w b s)(a c d:Nat)(M:a<100):
  Calls prog 132 #[.pointer (some (a__ b 0)),icV ⟨13,a,c,d⟩] w (a3k w b ⟨s.regs,s.notes,if(s.regs.getD a vl0).fault≠0 then d else if(s.regs.getD a vl0).num=0 then c else s.pc⟩):=by
 have N:=B.lt;have A:B__ w (w.alloc (.cells (a0O ⟨13,a,c,d⟩) 87)):=(g_ _ _).alloc (a_ _) _;have k:=B.keep A (a_ _);obtain⟨E,F⟩:=k.cell a M;have L:(w.alloc (.cells (a0O ⟨13,a,c,d⟩) 87)).cell? (a__ w.heap.size 1)=some (i_ a):=by simp[go_sem]
 have R:(w.alloc (.cells (a0O ⟨13,a,c,d⟩) 87)).cell? (a__ w.heap.size 2)=some (i_ c):=by simp[go_sem]
 have S:(w.alloc (.cells (a0O ⟨13,a,c,d⟩) 87)).cell? (a__ w.heap.size 3)=some (i_ d):=by simp[go_sem]
 have C:(w.alloc (.cells (a0O ⟨13,a,c,d⟩) 87)).heap.size=w.heap.size+1:=by simp
 have O:(0:Int)≤(a:Int):=by omega
 have P:(a:Int)<100:=by omega
 generalize s.regs.getD a vl0=x at*;obtain⟨u,r⟩:=x;simp only at E F⊢;clear B;go_enter func132,ntmps132;go_upto_region 1 with fail;generalize (w.alloc (.cells (a0O ⟨13,a,c,d⟩) 87))=W at*;have l:=h__ k;have I:=h__ A;have v:Hid (∀V:World,V.heap[w.heap.size]? =W.heap[w.heap.size]? →V.heap[b]? =W.heap[b]? →V.cell? (a__ w.heap.size 1)=some (i_ a)∧V.cell? (a__ b (a*2))=some (i_ u)∧V.cell? (a__ b (a*2+1))=some (i_ r)):=fun V e J=>⟨(e_ (a:=(a__ w.heap.size 1)) e).trans L,(e_ (a:=(a__ b (a*2))) J).trans E,(e_ (a:=(a__ b (a*2+1))) J).trans F⟩
 have h:w.heap.size<W.heap.size:=by omega
 have n:b<W.heap.size:=by omega
 have o:w.heap.size≠W.heap.size:=by omega
 have q:b≠W.heap.size:=by omega
 clear k A C
 go_cut [4]from 4 to 12 (fun y H=>y= .pointer (some (a__ W.heap.size 0))∧B__ W H∧H.cell? (a__ W.heap.size 0)=some (i_ u)∧H.cell? (a__ W.heap.size 1)=some (i_ r))
 case first=>
  go_region_held3 (fun G=>G.cell? (a__ w.heap.size 1)=some (i_ a)∧G.cell? (a__ b (a*2))=some (i_ u)∧G.cell? (a__ b (a*2+1))=some (i_ r)) (first|exact v.out _ rfl rfl|exact v.out _ (q_ _ _ _ h) (q_ _ _ _ n)|exact v.out _ ((o_ _ _ _ _ o).trans ((o_ _ _ _ _ o).trans (q_ _ _ _ h))) ((o_ _ _ _ _ q).trans ((o_ _ _ _ _ q).trans (q_ _ _ _ n)))) (fail)
  all_goals (go_wp2_with fail;go_meet)
  all_goals exact⟨rfl,((g_ _ _).alloc (a_ _) _).drew,by simp[go_sem],by simp[go_sem]⟩
 case rest=>
  obtain⟨rfl,f,X,Y⟩:=hcut;have g:XAt wc b s:=l.out.keep f (a_ _);have m:B__ w wc:=I.out.trans (f.mono (by omega));have U:=g.pc;have T:=g.fz;rw[←f.cell (p:=(a__ w.heap.size 2)) h]at R;rw[←f.cell (p:=(a__ w.heap.size 3)) h]at S;have j:=h__ g;have i:=h__ m;clear f l I v g m E F L;by_cases z:r=0
  ·subst z;by_cases D:u=0
   ·subst D;go_wp2_with fail;go_end0;unfold a3k;simp only[ne_eq,not_true_eq_false,a_g,a_b];exact⟨trivial,j.out.goto c,(i.out.mono (by omega)).setCell (by simp) _⟩
   ·have t:(u==0)=false:=by simpa using D
    go_wp2_with fail;go_end0;unfold a3k;simp only[ne_eq,not_true_eq_false,a_g,D];exact⟨trivial,j.out,i.out.mono (by omega)⟩
  ·have t:(r !=0)=true:=by simpa using z
   go_wp2_with fail;go_end0;unfold a3k;simp only[ne_eq,z,not_false_eq_true,a_b];exact⟨trivial,j.out.goto d,(i.out.mono (by omega)).setCell (by simp) _⟩
theorem c6A{w W g:World}{b:Nat}{s:XS}{v:Value}(h:XAt w b s)(l:w.ownsRow (b+1) 61 5 v s.notes.length (a0B s.notes))(a:B__ w W)(c:W.grownBy g v.ownBlock):
  g.heap[b]? =w.heap[b]? ∧Below b w g:=by
 have j:=h.lt;have d:∀k,k≤b→some k≠v.ownBlock:=by
  intro k i e;have:=(l.lt k e.symm).1;omega
 have f:=a.size;refine⟨(c.block b (by omega) (d b (a_ _))).trans (a.block b (by omega)),?_⟩;exact⟨c.os.trans a.os,c.tape.trans a.tape,c.output.trans a.output,K_ f c.size,fun k i=>(c.block k (by omega) (d k (by omega))).trans (a.block k (by omega))⟩
theorem c7m{w d:World}{b:Nat}{s:XS}{x:Nt}{e:Value}(h:XAt w b s)(i:d.heap[b]? =w.heap[b]?)(q:d.ownsRow (b+1) 61 5 e (s.notes.length+1) (a0B s.notes++a1J x)):XAt (d.setCell (a__ b 200) e) b ⟨s.regs,s.notes++ [x],s.pc⟩:=by
 have c:∀o,d.cell? (a__ b o)=w.cell? (a__ b o):=fun o=>e_ (a:=(a__ b o)) i
 have f:∀o,d.frozen? (a__ b o)=w.frozen? (a__ b o):=fun o=>I_ (a:=(a__ b o)) i
 obtain⟨n,⟨v,g,_⟩,r,m⟩:=h;refine⟨fun k p=> ?_,⟨e,by simp[go_sem,c,g],?_⟩,by simp[go_sem,c,r],fun o=>by simp[go_sem,f,m]⟩
 ·obtain⟨j,l⟩:=n k p;have t:¬200=k*2:=by omega
  have u:¬200=k*2+1:=by omega
  constructor
  ·simp[go_sem,c,j,t]
  ·simp[go_sem,c,l,u]
 ·have:=a_d q (a:=(a__ b 200)) (by simp) e;rw[a7Y];simpa[a0B]using this
theorem b3D(b:Nat)(s:XS)(kind:Int)(w:World)(hS:XAt w b s)(hnl:s.notes.length≤100000)(op:Int)(a c d:Nat)(hd:d<100):
  Calls prog 133 #[.pointer (some ⟨b,0,none⟩),.int .i64 kind,icV ⟨op,a,c,d⟩] w (a3k w b ⟨s.regs,s.notes++ [⟨kind,a,c,s.regs.getD d vl0⟩],s.pc⟩):=by
 have hlt:=hS.lt
 have hB:Below w.heap.size w (w.alloc (.cells (a0O ⟨op,a,c,d⟩) 87)):=(g_ _ _).alloc (a_ _) _
 have hst:=hS.keep hB (a_ _)
 obtain⟨r0,r1⟩:=hst.cell d hd
 have k1:(w.alloc (.cells (a0O ⟨op,a,c,d⟩) 87)).cell? ⟨w.heap.size,1,none⟩=some (.int .i64 a):=by simp[go_sem]
 have k2:(w.alloc (.cells (a0O ⟨op,a,c,d⟩) 87)).cell? ⟨w.heap.size,2,none⟩=some (.int .i64 c):=by simp[go_sem]
 have k3:(w.alloc (.cells (a0O ⟨op,a,c,d⟩) 87)).cell? ⟨w.heap.size,3,none⟩=some (.int .i64 d):=by simp[go_sem]
 have hWs:(w.alloc (.cells (a0O ⟨op,a,c,d⟩) 87)).heap.size=w.heap.size+1:=by simp
 have ia0:(0:Int)≤(d:Int):=by omega
 have ia1:(d:Int)<100:=by omega
 obtain⟨iV,hiV,hzV,hsV,hbV⟩:=a1v b0w
 generalize s.regs.getD d vl0=x at*
 clear hS
 go_enter func133,ntmps133
 go_upto_region 1 with fail
 generalize (w.alloc (.cells (a0O ⟨op,a,c,d⟩) 87))=W at*
 have HST:Hid (XAt W b s):=hst
 have HB:Hid (Below w.heap.size w W):=hB
 have HK:Hid (∀V:World,V.heap[w.heap.size]? =W.heap[w.heap.size]? →V.heap[b]? =W.heap[b]? →V.cell? ⟨w.heap.size,1,none⟩=some (.int .i64 a)∧V.cell? ⟨w.heap.size,2,none⟩=some (.int .i64 c)∧V.cell? ⟨w.heap.size,3,none⟩=some (.int .i64 d)∧V.cell? ⟨b,d*2,none⟩=some (.int .i64 x.num)∧V.cell? ⟨b,d*2+1,none⟩=some (.int .i64 x.fault)):=fun V e e'=>⟨(e_ (a:=⟨w.heap.size,1,none⟩) e).trans k1,(e_ (a:=⟨w.heap.size,2,none⟩) e).trans k2,(e_ (a:=⟨w.heap.size,3,none⟩) e).trans k3,(e_ (a:=⟨b,d*2,none⟩) e').trans r0,(e_ (a:=⟨b,d*2+1,none⟩) e').trans r1⟩
 have hbW:w.heap.size<W.heap.size:=by omega
 have hbb:b<W.heap.size:=by omega
 have hn1:w.heap.size≠W.heap.size:=by omega
 have hn2:b≠W.heap.size:=by omega
 clear hst hB hWs r0 r1 k1 k2 k3
 go_cut [6]from 6 to 19 (fun y wx=>y= .pointer (some ⟨W.heap.size,0,none⟩)∧Below W.heap.size W wx∧wx.heap.size=W.heap.size+1∧wx.cell? ⟨W.heap.size,0,none⟩=some (.int .i64 kind)∧wx.cell? ⟨W.heap.size,1,none⟩=some (.int .i64 a)∧wx.cell? ⟨W.heap.size,2,none⟩=some (.int .i64 c)∧wx.cell? ⟨W.heap.size,3,none⟩=some (.int .i64 x.num)∧wx.cell? ⟨W.heap.size,4,none⟩=some (.int .i64 x.fault))
 case first=>
  go_region_held3 (fun w'=>w'.cell? ⟨w.heap.size,1,none⟩=some (.int .i64 a)∧w'.cell? ⟨w.heap.size,2,none⟩=some (.int .i64 c)∧w'.cell? ⟨w.heap.size,3,none⟩=some (.int .i64 d)∧w'.cell? ⟨b,d*2,none⟩=some (.int .i64 x.num)∧w'.cell? ⟨b,d*2+1,none⟩=some (.int .i64 x.fault)) (first|exact HK.out _ rfl rfl|exact HK.out _ (q_ _ _ _ hbW) (q_ _ _ _ hbb)) (fail)
  all_goals (go_wp2_with fail;go_meet)
  all_goals exact⟨rfl,((g_ _ _).alloc (a_ _) _).drew,by simp,by simp[go_sem],by simp[go_sem],by simp[go_sem],by simp[go_sem],by simp[go_sem]⟩
 case rest=>
  obtain⟨rfl,hbx,hxs,m0,m1,m2,m3,m4⟩:=hcut
  have hSX:XAt wc b s:=HST.out.keep hbx (a_ _)
  have HBX:Hid (Below w.heap.size w wc):=HB.out.trans (hbx.mono (by omega))
  obtain⟨v,hv,ho⟩:=hSX.row
  have fz:=hSX.fz
  have HSX:Hid (XAt wc b s):=hSX
  have HO:Hid (wc.ownsRow (b+1) 61 5 v s.notes.length (a0B s.notes)):=ho
  have hn1:¬b=wc.heap.size:=by omega
  have hn3:b<wc.heap.size:=by omega
  have hn4:W.heap.size<wc.heap.size:=by omega
  have hn5:¬W.heap.size=wc.heap.size:=by omega
  clear hbx HST HB HK hSX ho
  go_upto_region 2 with fail
  go_region_law (refine a4S rfl (.tmp 24) (.tmp 26) 51 rfl (b+1) 61 iV (.agg #[.int .i64 0,.int .i64 0,.int .i64 0,.int .i64 0,.int .i64 0]) 5 40 underlying51 hiV hzV hsV hbV rfl (by decide) v s.notes.length (a0B s.notes) (by simp[Act.eval,Act.put]) (by exact(HO.out.alloc _).drew) ⟨wc.heap.size,0,none⟩ 1 1 (a1J ⟨kind,a,c,x⟩) (by simp[Act.eval,Act.put]) rfl (by exact a77 wc ⟨kind,a,c,x⟩ 61) (by intro q hq;simp[a1J]at hq;rcases hq with rfl|rfl|rfl|rfl|rfl<;>rfl) (by unfold maxLen;omega) (by omega) (by simp;omega) (by decide) ?_;intro v' w2 hown hgrow hfr;have hk:=c6A HSX.out HO.out (W:=(wc.alloc (.cells #[.int .i64 kind,.int .i64 a,.int .i64 c,.int .i64 x.num,.int .i64 x.fault] 61)).drew) (((g_ _ _).alloc (a_ _) _).drew) hgrow;have q0:w2.cell? ⟨b,200,none⟩=some v:=(e_ (a:=⟨b,200,none⟩) hk.1).trans hv;have q1:∀o,w2.frozen? ⟨b,o,none⟩=false:=(fun o=>(I_ (a:=⟨b,o,none⟩) hk.1).trans (fz o));obtain⟨g,cap,rfl⟩:=Joins.ownsRow_form hown (by omega))
  all_goals go_wp2_with fail
  all_goals go_end0
  all_goals exact⟨rfl,c7m HSX.out hk.1 hown,((HBX.out.mono (by omega)).trans hk.2).setCell (by simp) _⟩
theorem c6I(b:Nat)(s:XS)(w:World)(o:XAt w b s)(r:XOk s)(L:s.pc≤2000)(fs:List Int)(S:Value)(a c d:Nat)(D:a<100):
  Calls prog 99 #[.pointer (some (a__ b 0)),icV ⟨13,a,c,d⟩,S] w (a3k w b (a0m ⟨13,a,c,d⟩ fs s)):=by
 have z:Hid (a0m ⟨13,a,c,d⟩ fs s=⟨s.regs,s.notes,if(s.regs.getD a vl0).fault≠0 then d else if(s.regs.getD a vl0).num=0 then c else s.pc+1⟩):=by show _=_;unfold a0m;simp[a4G]
 rw[z.out];have y:Hid _:=a68 o ⟨13,a,c,d⟩;have I:=o.pc;have B:=o.fz;have H:=o.lt;have T:Hid (XOk s):=r;have G:s.regs.length=100:=r.len;clear r z o;go_enter func99,ntmps99;go_upto_region 2 with fail;generalize ((w.setCell (a__ b 201) (i_ ((s.pc:Int)+1))).alloc (.cells (a0O ⟨13,a,c,d⟩) 87))=W at*;obtain⟨N,O,P,R,j,l,M⟩:=y.out;simp only at N O P R;have J:=j.pc;have C:=j.fz;have A:Hid (XAt W b ⟨s.regs,s.notes,s.pc+1⟩):=j;have m:Hid (Below b w W):=l;have E:w.heap.size<W.heap.size:=by omega
 have F:b<W.heap.size:=by omega
 clear l y I B;have p:Hid (Calls prog 132 #[.pointer (some (a__ b 0)),icV ⟨13,a,c,d⟩] W (a3k W b ⟨s.regs,s.notes,if(s.regs.getD a vl0).fault≠0 then d else if(s.regs.getD a vl0).num=0 then c else s.pc+1⟩)):=c0l b ⟨s.regs,s.notes,s.pc+1⟩ W j a c d D;clear j;generalize (if(s.regs.getD a vl0).fault≠0 then d else if(s.regs.getD a vl0).num=0 then c else s.pc+1)=V at*;go_wp2_with (go_at_call 132;refine p.out.mono ?_;rintro U X ⟨rfl,u,t⟩);go_end0;exact⟨rfl,u,m.out.trans t⟩
theorem c3Z(b:Nat)(s:XS)(w:World)(o:XAt w b s)(r:XOk s)(M:s.pc≤2000)(fs:List Int)(T:Value)(u:s.notes.length≤100000)(a c d:Nat)(G:d<100):
  Calls prog 99 #[.pointer (some (a__ b 0)),icV ⟨14,a,c,d⟩,T] w (a3k w b (a0m ⟨14,a,c,d⟩ fs s)):=by
 have A:Hid (a0m ⟨14,a,c,d⟩ fs s=⟨s.regs,s.notes++ [⟨0,a,c,s.regs.getD d vl0⟩],s.pc+1⟩):=by show _=_;unfold a0m;simp[a4G]
 rw[A.out];have z:Hid _:=a68 o ⟨14,a,c,d⟩;have J:=o.pc;have C:=o.fz;have I:=o.lt;have U:Hid (XOk s):=r;have H:s.regs.length=100:=r.len;clear r A o;go_enter func99,ntmps99;go_upto_region 2 with fail;generalize ((w.setCell (a__ b 201) (i_ ((s.pc:Int)+1))).alloc (.cells (a0O ⟨14,a,c,d⟩) 87))=W at*;obtain⟨O,P,R,S,j,l,N⟩:=z.out;simp only at O P R S;have L:=j.pc;have D:=j.fz;have B:Hid (XAt W b ⟨s.regs,s.notes,s.pc+1⟩):=j;have m:Hid (Below b w W):=l;have E:w.heap.size<W.heap.size:=by omega
 have F:b<W.heap.size:=by omega
 clear l z J C;have p:Hid (Calls prog 133 #[.pointer (some (a__ b 0)),i_ 0,icV ⟨14,a,c,d⟩] W (a3k W b ⟨s.regs,s.notes++ [⟨0,a,c,s.regs.getD d vl0⟩],s.pc+1⟩)):=b3D b ⟨s.regs,s.notes,s.pc+1⟩ 0 W j u 14 a c d G;clear j;go_wp2_with (go_at_call 133;refine p.out.mono ?_;rintro V X ⟨rfl,y,t⟩);go_end0;exact⟨rfl,y,m.out.trans t⟩
theorem c30(b:Nat)(s:XS)(w:World)(o:XAt w b s)(r:XOk s)(M:s.pc≤2000)(fs:List Int)(T:Value)(u:s.notes.length≤100000)(a c d:Nat)(G:d<100):
  Calls prog 99 #[.pointer (some (a__ b 0)),icV ⟨15,a,c,d⟩,T] w (a3k w b (a0m ⟨15,a,c,d⟩ fs s)):=by
 have A:Hid (a0m ⟨15,a,c,d⟩ fs s=⟨s.regs,s.notes++ [⟨1,a,c,s.regs.getD d vl0⟩],s.pc+1⟩):=by show _=_;unfold a0m;simp[a4G]
 rw[A.out];have z:Hid _:=a68 o ⟨15,a,c,d⟩;have J:=o.pc;have C:=o.fz;have I:=o.lt;have U:Hid (XOk s):=r;have H:s.regs.length=100:=r.len;clear r A o;go_enter func99,ntmps99;go_upto_region 2 with fail;generalize ((w.setCell (a__ b 201) (i_ ((s.pc:Int)+1))).alloc (.cells (a0O ⟨15,a,c,d⟩) 87))=W at*;obtain⟨O,P,R,S,j,l,N⟩:=z.out;simp only at O P R S;have L:=j.pc;have D:=j.fz;have B:Hid (XAt W b ⟨s.regs,s.notes,s.pc+1⟩):=j;have m:Hid (Below b w W):=l;have E:w.heap.size<W.heap.size:=by omega
 have F:b<W.heap.size:=by omega
 clear l z J C;have p:Hid (Calls prog 133 #[.pointer (some (a__ b 0)),i_ 1,icV ⟨15,a,c,d⟩] W (a3k W b ⟨s.regs,s.notes++ [⟨1,a,c,s.regs.getD d vl0⟩],s.pc+1⟩)):=b3D b ⟨s.regs,s.notes,s.pc+1⟩ 1 W j u 15 a c d G;clear j;go_wp2_with (go_at_call 133;refine p.out.mono ?_;rintro V X ⟨rfl,y,t⟩);go_end0;exact⟨rfl,y,m.out.trans t⟩
theorem c6G(b:Nat)(s:XS)(w:World)(h:XAt w b s)(j:XOk s)(D:s.pc≤2000)(fs:List Int)(N:Value)(a c:Nat)(d:Int)(n:a<100)(z:c<100):
  Calls prog 99 #[.pointer (some (a__ b 0)),icV ⟨2,a,c,d⟩,N] w (a3k w b (a0m ⟨2,a,c,d⟩ fs s)):=by
 have m:Hid (a0m ⟨2,a,c,d⟩ fs s=⟨s.regs.set a (s.regs.getD c vl0),s.notes,s.pc+1⟩):=by show _=_;unfold a0m;simp[a4U,a4G]
 rw[m.out];have l:Hid _:=a68 h ⟨2,a,c,d⟩;have F:(0:Int)≤(a:Int):=by omega
 have G:(a:Int)<100:=by omega
 have ic0:(0:Int)≤(c:Int):=by omega
 have H:(c:Int)<100:=by omega
 have B:=h.pc;have t:=h.fz;have A:=h.lt;have O:=h__ j;have k:s.regs.length=100:=j.len;clear j m h;go_enter func99,ntmps99;go_upto_region 2 with fail;generalize ((w.setCell (a__ b 201) (i_ ((s.pc:Int)+1))).alloc (.cells (a0O ⟨2,a,c,d⟩) 87))=W at*;obtain⟨I,J,L,M,e,f,E⟩:=l.out;simp only at I J L M;have C:=e.pc;have u:=e.fz;have i:=h__ e;have g:=h__ f;have v:w.heap.size<W.heap.size:=by omega
 have y:b<W.heap.size:=by omega
 clear f l B t;obtain⟨o,p⟩:=e.cell a n;obtain⟨q,r⟩:=e.cell c z;simp only at o p q r;clear e;generalize s.regs.getD c vl0=x at*;go_upto_region 7 with fail;go_region;all_goals go_wp2_with fail
 all_goals go_end0
 all_goals exact⟨rfl,(i.out.set k a n x).keep (g_ _ _).drew (a_ _),((g.out.setCell (by simp) _).setCell (by simp) _).drew⟩
theorem b0b{W c:World}{b:Nat}{s:XS}(h:XAt W b s)(a:Below W.drew.heap.size W.drew c):XAt c b s∧B__ W c:=
 ⟨h.keep (B:=W.heap.size) ⟨a.os,a.tape,a.output,a.size,a.block⟩ (a_ _),⟨a.os,a.tape,a.output,a.size,a.block⟩⟩
theorem c7o(b:Nat)(s:XS)(w:World)(l:XAt w b s)(r:XOk s)(M:s.pc≤2000)(fs:List Int)(R:Value)(a:Nat)(c d:Int)(C:a<100):
  Calls prog 99 #[.pointer (some (a__ b 0)),icV ⟨1,a,c,d⟩,R] w (a3k w b (a0m ⟨1,a,c,d⟩ fs s)):=by
 have B:Hid (a0m ⟨1,a,c,d⟩ fs s=⟨s.regs.set a ⟨c,0⟩,s.notes,s.pc+1⟩):=by show _=_;unfold a0m;simp[a4U]
 rw[B.out];have A:Hid _:=a68 l ⟨1,a,c,d⟩;have O:(0:Int)≤(a:Int):=by omega
 have P:(a:Int)<100:=by omega
 have D:Hid _:=a1a c;have J:=l.pc;have E:=l.fz;have I:=l.lt;have S:=h__ r;have t:s.regs.length=100:=r.len;clear r B l;go_enter func99,ntmps99;go_upto_region 2 with fail;generalize ((w.setCell (a__ b 201) (i_ ((s.pc:Int)+1))).alloc (.cells (a0O ⟨1,a,c,d⟩) 87))=W at*;obtain⟨v,x,y,z,g,h,N⟩:=A.out;simp only at v x y z;have L:=g.pc;have F:=g.fz;have p:=h__ g;have k:=h__ h;have m:w.heap.size<W.heap.size:=by omega
 have H:b<W.heap.size:=by omega
 clear h A J E;clear g;have n:Hid (∀f:World,f.heap[w.heap.size]? =W.heap[w.heap.size]? →f.cell? (a__ w.heap.size 0)=some (i_ 1)∧f.cell? (a__ w.heap.size 1)=some (i_ a)∧f.cell? (a__ w.heap.size 2)=some (i_ c)∧f.cell? (a__ w.heap.size 3)=some (i_ d)):=fun V e=>⟨(e_ (a:=(a__ w.heap.size 0)) e).trans v,(e_ (a:=(a__ w.heap.size 1)) e).trans x,(e_ (a:=(a__ w.heap.size 2)) e).trans y,(e_ (a:=(a__ w.heap.size 3)) e).trans z⟩
 have i:w.heap.size≠b:=by omega
 clear v x y z;have u:=n.out W rfl
 go_split_ands
 go_upto_region 5 with fail
 go_region_held3 (fun f=>f.cell? (a__ w.heap.size 0)=some (i_ 1)∧f.cell? (a__ w.heap.size 1)=some (i_ a)∧f.cell? (a__ w.heap.size 2)=some (i_ c)∧f.cell? (a__ w.heap.size 3)=some (i_ d)) (first|exact n.out _ rfl|exact n.out _ (j.block _ m)|exact n.out _ ((o_ _ _ _ _ i).trans ((o_ _ _ _ _ i).trans (j.block _ m)))) ((go_at_call 100;refine(D.out _).mono ?_;rintro T Y ⟨rfl,j⟩;have o:=b0b p.out j;have q:=o.1.cell a C;have G:=o.1.fz;obtain⟨U,X⟩:=q))
 all_goals go_wp2_with fail
 all_goals go_end0
 all_goals exact⟨rfl,o.1.set t a C ⟨c,0⟩,((k.out.trans (o.2.mono (by omega))).setCell (by simp) _).setCell (by simp) _⟩
theorem c7H(b:Nat)(s:XS)(w:World)(r:XAt w b s)(C:XOk s)(Ag:s.pc≤2000)(fs:List Int)(O:Option Addr)(g of q:Nat)(S:a0u w O g of fs)(v:∀i,i<fs.length→g<b)(Ac:fs.length≤9223372036854775807)(a c:Nat)(d:Int)(T:a<100)(D:c<fs.length):
  Calls prog 99 #[.pointer (some (a__ b 0)),icV ⟨11,a,c,d⟩,.slice O fs.length q] w (a3k w b (a0m ⟨11,a,c,d⟩ fs s)):=by
 obtain⟨rfl,Ad,P⟩:=S c D;have E:=v c D;have N:Hid (a0m ⟨11,a,c,d⟩ fs s=⟨s.regs.set a ⟨fs[c],0⟩,s.notes,s.pc+1⟩):=by
  show _=_;unfold a0m;simp[a4U,s_ D]
 rw[N.out];have M:Hid _:=a68 r ⟨11,a,c,d⟩;have Ai:(0:Int)≤(a:Int):=by omega
 have Aj:(a:Int)<100:=by omega
 have ic0:(0:Int)≤(c:Int):=by omega
 have Ak:(c:Int)<(fs.length:Int):=by omega
 generalize fs[c]=x at*;generalize fs.length=n at*;have U:Hid _:=a1a x;clear S v;have hp:=r.pc;have Y:=r.fz;have Ae:=r.lt;have HO:=h__ C;have F:s.regs.length=100:=C.len;clear C N r;go_enter func99,ntmps99;go_upto_region 2 with fail;generalize ((w.setCell (a__ b 201) (i_ ((s.pc:Int)+1))).alloc (.cells (a0O ⟨11,a,c,d⟩) 87))=W at*;obtain⟨H,I,J,L,j,l,Ah⟩:=M.out;simp only at H I J L;have Af:=j.pc;have Z:=j.fz;have A:=h__ j;have k:=h__ l;have t:w.heap.size<W.heap.size:=by omega
 have Ab:b<W.heap.size:=by omega
 clear l M hp Y;clear j;have R:W.cell? (a__ g (of+c))=some (i_ x):=(k.out.cell (p:=(a__ g (of+c))) E).trans P;have y:Hid (∀f:World,f.heap[w.heap.size]? =W.heap[w.heap.size]? →f.heap[g]? =W.heap[g]? →f.cell? (a__ w.heap.size 0)=some (i_ 11)∧f.cell? (a__ w.heap.size 1)=some (i_ a)∧f.cell? (a__ w.heap.size 2)=some (i_ c)∧f.cell? (a__ w.heap.size 3)=some (i_ d)∧f.cell? (a__ g (of+c))=some (i_ x)):=fun V e X=>⟨(e_ (a:=(a__ w.heap.size 0)) e).trans H,(e_ (a:=(a__ w.heap.size 1)) e).trans I,(e_ (a:=(a__ w.heap.size 2)) e).trans J,(e_ (a:=(a__ w.heap.size 3)) e).trans L,(e_ (a:=(a__ g (of+c))) X).trans R⟩
 have m:w.heap.size≠b:=by omega
 have o:g≠b:=by omega
 have u:g<W.heap.size:=by omega
 clear H I J L P R;have G:=y.out W rfl rfl
 go_split_ands
 go_upto_region 11 with fail
 go_region_held3 (fun f=>f.cell? (a__ w.heap.size 0)=some (i_ 11)∧f.cell? (a__ w.heap.size 1)=some (i_ a)∧f.cell? (a__ w.heap.size 2)=some (i_ c)∧f.cell? (a__ w.heap.size 3)=some (i_ d)∧f.cell? (a__ g (of+c))=some (i_ x)) (first|exact y.out _ rfl rfl|exact y.out _ (h.block _ t) (h.block _ u)|exact y.out _ ((o_ _ _ _ _ m).trans ((o_ _ _ _ _ m).trans (h.block _ t))) ((o_ _ _ _ _ o).trans ((o_ _ _ _ _ o).trans (h.block _ u)))) ((go_at_call 100;refine(U.out _).mono ?_;rintro e5 w5 ⟨rfl,h⟩;have z:=b0b A.out h;have B:=z.1.cell a T;have Aa:=z.1.fz;obtain⟨q0,q1⟩:=B))
 all_goals go_wp2_with fail
 all_goals go_end0
 all_goals exact⟨rfl,z.1.set F a T ⟨x,0⟩,((k.out.trans (z.2.mono (by omega))).setCell (by simp) _).setCell (by simp) _⟩
theorem c7n(b:Nat)(s:XS)(w:World)(q:XAt w b s)(u:XOk s)(Ab:s.pc≤2000)(fs:List Int)(vf:Value)(a c:Nat)(d:Int)(M:a<100)(X:c<100):
  Calls prog 99 #[.pointer (some (a__ b 0)),icV ⟨3,a,c,d⟩,vf] w (a3k w b (a0m ⟨3,a,c,d⟩ fs s)):=by
 have I:Hid (a0m ⟨3,a,c,d⟩ fs s=⟨s.regs.set a (a4E (s.regs.getD c vl0)),s.notes,s.pc+1⟩):=by show _=_;unfold a0m;simp[a4U,a4G]
 rw[I.out];have H:Hid _:=a68 q ⟨3,a,c,d⟩;have Ad:(0:Int)≤(a:Int):=by omega
 have Ae:(a:Int)<100:=by omega
 have ic0:(0:Int)≤(c:Int):=by omega
 have Af:(c:Int)<100:=by omega
 have N:a0S (s.regs.getD c vl0):=u.reg (c:Nat);have Z:=q.pc;have P:=q.fz;have Y:=q.lt;have HO:=h__ u;have B:s.regs.length=100:=u.len;clear u I q;go_enter func99,ntmps99;go_upto_region 2 with fail;generalize ((w.setCell (a__ b 201) (i_ ((s.pc:Int)+1))).alloc (.cells (a0O ⟨3,a,c,d⟩) 87))=W at*;obtain⟨D,E,F,G,g,l,Ac⟩:=H.out;simp only at D E F G;have Aa:=g.pc;have R:=g.fz;have z:=h__ g;have p:=h__ l;have r:w.heap.size<W.heap.size:=by omega
 have U:b<W.heap.size:=by omega
 clear l H Z P;obtain⟨J,L⟩:=g.cell c X;simp only at J L;clear g;generalize s.regs.getD c vl0=x at*;have O:Hid _:=b9G x N;generalize a4E x=y at*;obtain⟨xn,xf⟩:=x;simp only at J L;have o:Hid (∀j:World,j.heap[w.heap.size]? =W.heap[w.heap.size]? →j.cell? (a__ w.heap.size 0)=some (i_ 3)∧j.cell? (a__ w.heap.size 1)=some (i_ a)∧j.cell? (a__ w.heap.size 2)=some (i_ c)∧j.cell? (a__ w.heap.size 3)=some (i_ d)):=fun V e=>⟨(e_ (a:=(a__ w.heap.size 0)) e).trans D,(e_ (a:=(a__ w.heap.size 1)) e).trans E,(e_ (a:=(a__ w.heap.size 2)) e).trans F,(e_ (a:=(a__ w.heap.size 3)) e).trans G⟩
 have m:w.heap.size≠b:=by omega
 clear D E F G N;have C:=o.out W rfl
 go_split_ands
 go_upto_region 9 with fail;refine wp_region_held_drew (S:=fun j=>j.cell? (a__ w.heap.size 0)=some (i_ 3)∧j.cell? (a__ w.heap.size 1)=some (i_ a)∧j.cell? (a__ w.heap.size 2)=some (i_ c)∧j.cell? (a__ w.heap.size 3)=some (i_ d)) (by kernel_rfl) (o.out _ rfl) (fun f=> ?_);refine wpAnyH_take (i:=0) (v:= ?v0) rfl (by kernel_rfl) (by kernel_rfl) (by kernel_rfl) (fun _ _ _ h=>h) (Or.inl ⟨by rfl,?hy0⟩) (by assumption) ?rest0;case hy0=>(intro w hSw;(try dsimp only at hSw);go_simp;(try with_reducible rfl))
 simp only[Act.put,b_,l_,j_,h_,c_,d_];refine wpAnyH_take (i:=1) (v:= ?v1) rfl (by kernel_rfl) (by kernel_rfl) (by kernel_rfl) (fun _ _ _ h=>h) (Or.inl ⟨by rfl,?hy1⟩) (by assumption) ?rest1;case hy1=>(intro w hSw;(try dsimp only at hSw);go_simp;(try with_reducible rfl))
 simp only[Act.put,b_,l_,j_,h_,c_,d_];refine wpAnyH_take (i:=2) (v:= ?v2) rfl (by kernel_rfl) (by kernel_rfl) (by kernel_rfl) (fun _ _ _ h=>h) (Or.inl ⟨by rfl,?hy2⟩) (by assumption) ?rest2;case hy2=>(intro w hSw;(try dsimp only at hSw);go_simp;(try with_reducible rfl))
 simp only[Act.put,b_,l_,j_,h_,c_,d_];refine wpAnyH_take (i:=3) (v:= ?v3) rfl (by kernel_rfl) (by kernel_rfl) (by kernel_rfl) (fun _ _ _ h=>h) (Or.inl ⟨by rfl,?hy3⟩) (by assumption) ?rest3;case hy3=>(intro w hSw;(try dsimp only at hSw);go_simp;(try with_reducible rfl))
 simp only[Act.put,b_,l_,j_,h_,c_,d_];refine wpAnyH_take (i:=4) (v:= ?v4) rfl (by kernel_rfl) (by kernel_rfl) (by kernel_rfl) (fun _ _ _ h=>h) (Or.inl ⟨by rfl,?hy4⟩) (by assumption) ?rest4;case hy4=>(intro w hSw;(try dsimp only at hSw);go_simp;(try with_reducible rfl))
 simp only[Act.put,b_,l_,j_,h_,c_,d_];refine wpAnyH_take (i:=5) (v:= ?v5) rfl (by kernel_rfl) (by kernel_rfl) (by kernel_rfl) (fun _ _ _ h=>h) (Or.inl ⟨by rfl,?hy5⟩) (by assumption) ?rest5;case hy5=>(intro w hSw;(try dsimp only at hSw);go_simp;(try with_reducible rfl))
 simp only[Act.put,b_,l_,j_,h_,c_,d_];refine wpAnyH_take (i:=6) (v:= ?v6) rfl (by kernel_rfl) (by kernel_rfl) (by kernel_rfl) (fun _ _ _ h=>h) (Or.inl ⟨by rfl,?hy6⟩) (by assumption) ?rest6;case hy6=>(intro w hSw;(try dsimp only at hSw);go_simp;(try with_reducible rfl))
 simp only[Act.put,b_,l_,j_,h_,c_,d_];refine wpAnyH_take (i:=7) (v:= ?v7) rfl (by kernel_rfl) (by kernel_rfl) (by kernel_rfl) (fun _ _ _ h=>h) (Or.inl ⟨by rfl,?hy7⟩) (by assumption) ?rest7;case hy7=>(intro w hSw;(try dsimp only at hSw);go_simp;(try with_reducible rfl))
 simp only[Act.put,b_,l_,j_,h_,c_,d_];refine wpAnyH_take (i:=8) (v:= ?v8) rfl (by kernel_rfl) (by kernel_rfl) (by kernel_rfl) (fun _ _ _ h=>h) (Or.inl ⟨by rfl,?hy8⟩) (by assumption) ?rest8;case hy8=>(intro w hSw;(try dsimp only at hSw);go_simp;(try with_reducible rfl))
 simp only[Act.put,b_,l_,j_,h_,c_,d_];refine wpAnyH_take (i:=11) (v:= ?v11e) rfl (by kernel_rfl) (by kernel_rfl) (by kernel_rfl) (fun _ _ _ h=>h) (Or.inl ⟨by rfl,?hy11e⟩) (by assumption) ?rest11e;case hy11e=>(intro w hSw;(try dsimp only at hSw);go_simp;(try with_reducible rfl))
 simp only[Act.put,b_,l_,j_,h_,c_,d_];refine wpAnyH_take (i:=12) (v:= ?v12e) rfl (by kernel_rfl) (by kernel_rfl) (by kernel_rfl) (fun _ _ _ h=>h) (Or.inl ⟨by rfl,?hy12e⟩) (by assumption) ?rest12e;case hy12e=>(intro w hSw;(try dsimp only at hSw);go_simp;(try with_reducible rfl))
 simp only[Act.put,b_,l_,j_,h_,c_,d_];refine wpAnyH_ready (rs:= [9]) (by kernel_rfl) (by simp) ?_;refine AllReadyH.cons rfl (fun K k=> ?_) AllReadyH.nil;go_simp;refine k.out _ _ (o.out _ rfl) (fun f=> ?_);clear k K;try simp only[Act.put,b_,l_,j_,h_,c_,d_]
 refine wpAnyH_ready (rs:= [10]) (by kernel_rfl) (by simp) ?_;refine AllReadyH.cons rfl (fun K k=> ?_) AllReadyH.nil;go_simp;refine(O.out _).mono ?_;rintro e5 w5 ⟨rfl,n⟩;have t:=b0b z.out n;have A:=t.1.cell a M;have T:=t.1.fz;obtain⟨q0,q1⟩:=A;try go_simp
 refine k.out _ _ (o.out _ (n.block _ r)) (fun f=> ?_);clear k K;try simp only[Act.put,b_,l_,j_,h_,c_,d_]
 refine wpAnyH_take (i:=13) (v:= ?v13t) rfl (by kernel_rfl) (by kernel_rfl) (by kernel_rfl) (fun _ _ _ h=>h) (Or.inl ⟨by rfl,?hy13t⟩) (by assumption) ?rest13t;case hy13t=>(intro w hSw;(try dsimp only at hSw);go_simp;(try with_reducible rfl))
 simp only[Act.put,b_,l_,j_,h_,c_,d_];refine wpAnyH_ready (rs:= [14]) (by kernel_rfl) (by simp) ?_;refine AllReadyH.cons rfl (fun K k=> ?_) AllReadyH.nil;go_simp;refine k.out _ _ (o.out _ ((o_ _ _ _ _ m).trans ((o_ _ _ _ _ m).trans (n.block _ r)))) (fun f=> ?_);clear k K;try simp only[Act.put,b_,l_,j_,h_,c_,d_]
 refine wpAnyH_done (by kernel_rfl) ?_ _;go_wp2_with fail;go_end0;exact⟨rfl,t.1.set B a M y,((p.out.trans (t.2.mono (by omega))).setCell (by simp) _).setCell (by simp) _⟩
theorem c7I(b:Nat)(s:XS)(w:World)(C:XAt w b s)(B:XOk s)(Ae:s.pc≤2000)(fs:List Int)(vf:Value)(k a c d:Nat)(hk:k<7)(E:a<100)(hc:c<100)(hd:d<100):
  Calls prog 99 #[.pointer (some (a__ b 0)),icV ⟨(k:Int)+4,a,c,d⟩,vf] w (a3k w b (a0m ⟨(k:Int)+4,a,c,d⟩ fs s)):=by
 have N:Hid (a0m ⟨(k:Int)+4,a,c,d⟩ fs s=⟨s.regs.set a (opV ((k:Int)+4) (s.regs.getD c vl0) (s.regs.getD d vl0)),s.notes,s.pc+1⟩):=by
  show _=_;unfold a0m;simp only;rw[f_ (by omega),f_ (by omega),f_ (by omega),f_ (by omega),f_ (by omega),f_ (by omega),f_ (by omega),f_ (by omega),a4U,a4G,a4G]
 rw[N.out];have M:Hid _:=a68 C ⟨(k:Int)+4,a,c,d⟩;have Ag:(0:Int)≤(a:Int):=by omega
 have Ah:(a:Int)<100:=by omega
 have ic0:(0:Int)≤(c:Int):=by omega
 have Ai:(c:Int)<100:=by omega
 have Aj:(0:Int)≤(d:Int):=by omega
 have Ak:(d:Int)<100:=by omega
 have e1:((k:Int)+4==12)=false:=by rw[p_];omega
 have e2:((k:Int)+4==13)=false:=by rw[p_];omega
 have e3:((k:Int)+4==1)=false:=by rw[p_];omega
 have e4:((k:Int)+4==2)=false:=by rw[p_];omega
 have X:((k:Int)+4==3)=false:=by rw[p_];omega
 have e6:((k:Int)+4==11)=false:=by rw[p_];omega
 have e7:((k:Int)+4==14)=false:=by rw[p_];omega
 have e8:((k:Int)+4==15)=false:=by rw[p_];omega
 have Y:a0S (s.regs.getD c vl0):=B.reg (c:Nat);have Z:a0S (s.regs.getD d vl0):=B.reg (d:Nat);have hp:=C.pc;have fz:=C.fz;have Ac:=C.lt;have HO:=h__ B;have D:s.regs.length=100:=B.len;clear B N C;go_enter func99,ntmps99;go_upto_region 2 with fail;generalize ((w.setCell (a__ b 201) (i_ ((s.pc:Int)+1))).alloc (.cells (a0O ⟨(k:Int)+4,a,c,d⟩) 87))=W at*;obtain⟨H,I,J,L,m,t,Af⟩:=M.out;simp only at H I J L;have Ad:=m.pc;have Aa:=m.fz;have A:=h__ m;have r:=h__ t;have q:w.heap.size<W.heap.size:=by omega
 have Ab:b<W.heap.size:=by omega
 clear t M hp fz;obtain⟨P,R⟩:=m.cell c hc;obtain⟨T,U⟩:=m.cell d hd;simp only at P R T U;clear m;generalize s.regs.getD c vl0=x at*;generalize s.regs.getD d vl0=y at*;have O:Hid _:=c2v ((k:Int)+4) x y Y Z;generalize opV ((k:Int)+4) x y=z at*;obtain⟨xn,xf⟩:=x;obtain⟨yn,yf⟩:=y;simp only at P R T U;have n:Hid (∀o:World,o.heap[w.heap.size]? =W.heap[w.heap.size]? →o.cell? (a__ w.heap.size 0)=some (i_ ((k:Int)+4))∧o.cell? (a__ w.heap.size 1)=some (i_ a)∧o.cell? (a__ w.heap.size 2)=some (i_ c)∧o.cell? (a__ w.heap.size 3)=some (i_ d)):=fun V e=>⟨(e_ (a:=(a__ w.heap.size 0)) e).trans H,(e_ (a:=(a__ w.heap.size 1)) e).trans I,(e_ (a:=(a__ w.heap.size 2)) e).trans J,(e_ (a:=(a__ w.heap.size 3)) e).trans L⟩
 have l:w.heap.size≠b:=by omega
 clear H I J L Y Z;have G:=n.out W rfl
 go_split_ands
 go_upto_region 3 with fail;refine wp_region_held_drew (S:=fun o=>o.cell? (a__ w.heap.size 0)=some (i_ ((k:Int)+4))∧o.cell? (a__ w.heap.size 1)=some (i_ a)∧o.cell? (a__ w.heap.size 2)=some (i_ c)∧o.cell? (a__ w.heap.size 3)=some (i_ d)) (by kernel_rfl) (n.out _ rfl) (fun f=> ?_);refine wpAnyH_take (i:=0) (v:= ?v0) rfl (by kernel_rfl) (by kernel_rfl) (by kernel_rfl) (fun _ _ _ h=>h) (Or.inl ⟨by rfl,?hy0⟩) (by assumption) ?rest0;case hy0=>(intro w hSw;(try dsimp only at hSw);go_simp;(try with_reducible rfl))
 simp only[Act.put,b_,l_,j_,h_,c_,d_];refine wpAnyH_take (i:=1) (v:= ?v1) rfl (by kernel_rfl) (by kernel_rfl) (by kernel_rfl) (fun _ _ _ h=>h) (Or.inl ⟨by rfl,?hy1⟩) (by assumption) ?rest1;case hy1=>(intro w hSw;(try dsimp only at hSw);go_simp;(try with_reducible rfl))
 simp only[Act.put,b_,l_,j_,h_,c_,d_];refine wpAnyH_take (i:=2) (v:= ?v2) rfl (by kernel_rfl) (by kernel_rfl) (by kernel_rfl) (fun _ _ _ h=>h) (Or.inl ⟨by rfl,?hy2⟩) (by assumption) ?rest2;case hy2=>(intro w hSw;(try dsimp only at hSw);go_simp;(try with_reducible rfl))
 simp only[Act.put,b_,l_,j_,h_,c_,d_];refine wpAnyH_take (i:=3) (v:= ?v3) rfl (by kernel_rfl) (by kernel_rfl) (by kernel_rfl) (fun _ _ _ h=>h) (Or.inl ⟨by rfl,?hy3⟩) (by assumption) ?rest3;case hy3=>(intro w hSw;(try dsimp only at hSw);go_simp;(try with_reducible rfl))
 simp only[Act.put,b_,l_,j_,h_,c_,d_];refine wpAnyH_take (i:=4) (v:= ?v4) rfl (by kernel_rfl) (by kernel_rfl) (by kernel_rfl) (fun _ _ _ h=>h) (Or.inl ⟨by rfl,?hy4⟩) (by assumption) ?rest4;case hy4=>(intro w hSw;(try dsimp only at hSw);go_simp;(try with_reducible rfl))
 simp only[Act.put,b_,l_,j_,h_,c_,d_];refine wpAnyH_take (i:=5) (v:= ?v5) rfl (by kernel_rfl) (by kernel_rfl) (by kernel_rfl) (fun _ _ _ h=>h) (Or.inl ⟨by rfl,?hy5⟩) (by assumption) ?rest5;case hy5=>(intro w hSw;(try dsimp only at hSw);go_simp;(try with_reducible rfl))
 simp only[Act.put,b_,l_,j_,h_,c_,d_];refine wpAnyH_take (i:=6) (v:= ?v6) rfl (by kernel_rfl) (by kernel_rfl) (by kernel_rfl) (fun _ _ _ h=>h) (Or.inl ⟨by rfl,?hy6⟩) (by assumption) ?rest6;case hy6=>(intro w hSw;(try dsimp only at hSw);go_simp;(try with_reducible rfl))
 simp only[Act.put,b_,l_,j_,h_,c_,d_];refine wpAnyH_take (i:=7) (v:= ?v7) rfl (by kernel_rfl) (by kernel_rfl) (by kernel_rfl) (fun _ _ _ h=>h) (Or.inl ⟨by rfl,?hy7⟩) (by assumption) ?rest7;case hy7=>(intro w hSw;(try dsimp only at hSw);go_simp;(try with_reducible rfl))
 simp only[Act.put,b_,l_,j_,h_,c_,d_];refine wpAnyH_take (i:=8) (v:= ?v8) rfl (by kernel_rfl) (by kernel_rfl) (by kernel_rfl) (fun _ _ _ h=>h) (Or.inl ⟨by rfl,?hy8⟩) (by assumption) ?rest8;case hy8=>(intro w hSw;(try dsimp only at hSw);go_simp;(try with_reducible rfl))
 simp only[Act.put,b_,l_,j_,h_,c_,d_];refine wpAnyH_take (i:=9) (v:= ?v9) rfl (by kernel_rfl) (by kernel_rfl) (by kernel_rfl) (fun _ _ _ h=>h) (Or.inl ⟨by rfl,?hy9⟩) (by assumption) ?rest9;case hy9=>(intro w hSw;(try dsimp only at hSw);go_simp;(try with_reducible rfl))
 simp only[Act.put,b_,l_,j_,h_,c_,d_];refine wpAnyH_take (i:=10) (v:= ?v10) rfl (by kernel_rfl) (by kernel_rfl) (by kernel_rfl) (fun _ _ _ h=>h) (Or.inl ⟨by rfl,?hy10⟩) (by assumption) ?rest10;case hy10=>(intro w hSw;(try dsimp only at hSw);go_simp;(try with_reducible rfl))
 simp only[Act.put,b_,l_,j_,h_,c_,d_];refine wpAnyH_take (i:=12) (v:= ?v12) rfl (by kernel_rfl) (by kernel_rfl) (by kernel_rfl) (fun _ _ _ h=>h) (Or.inl ⟨by rfl,?hy12⟩) (by assumption) ?rest12;case hy12=>(intro w hSw;(try dsimp only at hSw);go_simp;(try with_reducible rfl))
 simp only[Act.put,b_,l_,j_,h_,c_,d_];refine wpAnyH_take (i:=13) (v:= ?v13) rfl (by kernel_rfl) (by kernel_rfl) (by kernel_rfl) (fun _ _ _ h=>h) (Or.inl ⟨by rfl,?hy13⟩) (by assumption) ?rest13;case hy13=>(intro w hSw;(try dsimp only at hSw);go_simp;(try with_reducible rfl))
 simp only[Act.put,b_,l_,j_,h_,c_,d_];refine wpAnyH_take (i:=14) (v:= ?v14) rfl (by kernel_rfl) (by kernel_rfl) (by kernel_rfl) (fun _ _ _ h=>h) (Or.inl ⟨by rfl,?hy14⟩) (by assumption) ?rest14;case hy14=>(intro w hSw;(try dsimp only at hSw);go_simp;(try with_reducible rfl))
 simp only[Act.put,b_,l_,j_,h_,c_,d_];refine wpAnyH_take (i:=15) (v:= ?v15) rfl (by kernel_rfl) (by kernel_rfl) (by kernel_rfl) (fun _ _ _ h=>h) (Or.inl ⟨by rfl,?hy15⟩) (by assumption) ?rest15;case hy15=>(intro w hSw;(try dsimp only at hSw);go_simp;(try with_reducible rfl))
 simp only[Act.put,b_,l_,j_,h_,c_,d_];refine wpAnyH_take (i:=16) (v:= ?v16) rfl (by kernel_rfl) (by kernel_rfl) (by kernel_rfl) (fun _ _ _ h=>h) (Or.inl ⟨by rfl,?hy16⟩) (by assumption) ?rest16;case hy16=>(intro w hSw;(try dsimp only at hSw);go_simp;(try with_reducible rfl))
 simp only[Act.put,b_,l_,j_,h_,c_,d_];refine wpAnyH_take (i:=17) (v:= ?v17) rfl (by kernel_rfl) (by kernel_rfl) (by kernel_rfl) (fun _ _ _ h=>h) (Or.inl ⟨by rfl,?hy17⟩) (by assumption) ?rest17;case hy17=>(intro w hSw;(try dsimp only at hSw);go_simp;(try with_reducible rfl))
 simp only[Act.put,b_,l_,j_,h_,c_,d_];refine wpAnyH_take (i:=20) (v:= ?v20e) rfl (by kernel_rfl) (by kernel_rfl) (by kernel_rfl) (fun _ _ _ h=>h) (Or.inl ⟨by rfl,?hy20e⟩) (by assumption) ?rest20e;case hy20e=>(intro w hSw;(try dsimp only at hSw);go_simp;(try with_reducible rfl))
 simp only[Act.put,b_,l_,j_,h_,c_,d_];refine wpAnyH_take (i:=21) (v:= ?v21e) rfl (by kernel_rfl) (by kernel_rfl) (by kernel_rfl) (fun _ _ _ h=>h) (Or.inl ⟨by rfl,?hy21e⟩) (by assumption) ?rest21e;case hy21e=>(intro w hSw;(try dsimp only at hSw);go_simp;(try with_reducible rfl))
 simp only[Act.put,b_,l_,j_,h_,c_,d_];refine wpAnyH_ready (rs:= [11,18]) (by kernel_rfl) (by simp) ?_;refine AllReadyH.cons rfl (fun K g=> ?_) (AllReadyH.cons rfl (fun K g=> ?_) AllReadyH.nil)
 ·go_simp;refine g.out _ _ (n.out _ rfl) (fun f=> ?_);clear g K;try simp only[Act.put,b_,l_,j_,h_,c_,d_]
  refine wpAnyH_ready (rs:= [18]) (by kernel_rfl) (by simp) ?_;refine AllReadyH.cons rfl (fun K g=> ?_) AllReadyH.nil;go_simp;refine g.out _ _ (n.out _ rfl) (fun f=> ?_);clear g K;try simp only[Act.put,b_,l_,j_,h_,c_,d_]
  refine wpAnyH_ready (rs:= [19]) (by kernel_rfl) (by simp) ?_;refine AllReadyH.cons rfl (fun K g=> ?_) AllReadyH.nil;go_simp;refine(O.out _).mono ?_;rintro X w5 ⟨rfl,j⟩;have p:=b0b A.out j;have u:=p.1.cell a E;have F:=p.1.fz;obtain⟨q0,q1⟩:=u;try go_simp
  refine g.out _ _ (n.out _ (j.block _ q)) (fun f=> ?_);clear g K;try simp only[Act.put,b_,l_,j_,h_,c_,d_]
  refine wpAnyH_take (i:=22) (v:= ?v22p) rfl (by kernel_rfl) (by kernel_rfl) (by kernel_rfl) (fun _ _ _ h=>h) (Or.inl ⟨by rfl,?hy22p⟩) (by assumption) ?rest22p;case hy22p=>(intro w hSw;(try dsimp only at hSw);go_simp;(try with_reducible rfl))
  simp only[Act.put,b_,l_,j_,h_,c_,d_];refine wpAnyH_ready (rs:= [23]) (by kernel_rfl) (by simp) ?_;refine AllReadyH.cons rfl (fun K g=> ?_) AllReadyH.nil;go_simp;refine g.out _ _ (n.out _ ((o_ _ _ _ _ l).trans ((o_ _ _ _ _ l).trans (j.block _ q)))) (fun f=> ?_);clear g K;try simp only[Act.put,b_,l_,j_,h_,c_,d_]
  refine wpAnyH_done (by kernel_rfl) ?_ _;go_wp2_with fail;go_end0;exact⟨rfl,p.1.set D a E z,((r.out.trans (p.2.mono (by omega))).setCell (by simp) _).setCell (by simp) _⟩
 ·go_simp;refine g.out _ _ (n.out _ rfl) (fun f=> ?_);clear g K;try simp only[Act.put,b_,l_,j_,h_,c_,d_]
  refine wpAnyH_ready (rs:= [11]) (by kernel_rfl) (by simp) ?_;refine AllReadyH.cons rfl (fun K g=> ?_) AllReadyH.nil;go_simp;refine g.out _ _ (n.out _ rfl) (fun f=> ?_);clear g K;try simp only[Act.put,b_,l_,j_,h_,c_,d_]
  refine wpAnyH_ready (rs:= [19]) (by kernel_rfl) (by simp) ?_;refine AllReadyH.cons rfl (fun K g=> ?_) AllReadyH.nil;go_simp;refine(O.out _).mono ?_;rintro X w5 ⟨rfl,j⟩;have p:=b0b A.out j;have u:=p.1.cell a E;have F:=p.1.fz;obtain⟨q0,q1⟩:=u;try go_simp
  refine g.out _ _ (n.out _ (j.block _ q)) (fun f=> ?_);clear g K;try simp only[Act.put,b_,l_,j_,h_,c_,d_]
  refine wpAnyH_take (i:=22) (v:= ?v22q) rfl (by kernel_rfl) (by kernel_rfl) (by kernel_rfl) (fun _ _ _ h=>h) (Or.inl ⟨by rfl,?hy22q⟩) (by assumption) ?rest22q;case hy22q=>(intro w hSw;(try dsimp only at hSw);go_simp;(try with_reducible rfl))
  simp only[Act.put,b_,l_,j_,h_,c_,d_];refine wpAnyH_ready (rs:= [23]) (by kernel_rfl) (by simp) ?_;refine AllReadyH.cons rfl (fun K g=> ?_) AllReadyH.nil;go_simp;refine g.out _ _ (n.out _ ((o_ _ _ _ _ l).trans ((o_ _ _ _ _ l).trans (j.block _ q)))) (fun f=> ?_);clear g K;try simp only[Act.put,b_,l_,j_,h_,c_,d_]
  refine wpAnyH_done (by kernel_rfl) ?_ _;go_wp2_with fail;go_end0;exact⟨rfl,p.1.set D a E z,((r.out.trans (p.2.mono (by omega))).setCell (by simp) _).setCell (by simp) _⟩
theorem a3K{z:Int}{n:Nat}(h:bel z n=true):∃k:Nat,z=k∧k<n:=by
 unfold bel at h;simp at h;exact⟨z.toNat,by omega,by omega⟩
theorem c6K(n:Nat)(x:Ic)(b:Nat)(s:XS)(w:World)(fs:List Int)(y:Option Addr)(z of r:Nat)(L:b08 n fs.length x)(N:n≤2000)(q:XAt w b s)(p:XOk s)(g:s.pc≤2000)(v:s.notes.length≤100000)(C:fs.length≤9223372036854775807)(M:a0u w y z of fs)(D:∀i,i<fs.length→z<b):
  Calls prog 99 #[.pointer (some (a__ b 0)),icV x,.slice y fs.length r] w (a3k w b (a0m x fs s)):=by
 obtain⟨e,E,u⟩:=L;obtain⟨o,a,c,d⟩:=x;simp only at E u;unfold a0I at e;simp only[f_ E]at e;by_cases F:o=1
 ·subst F;simp at e;obtain⟨j,rfl,f⟩:=a3K (n:=100) e.1;exact c7o b s w q p g fs _ j c d f
 rw[f_ F]at e;by_cases A:o=2∨o=3
 ·rw[n_ A]at e;simp only[Z_]at e;obtain⟨j,rfl,f⟩:=a3K (n:=100) e.1.1;obtain⟨m,rfl,h⟩:=a3K (n:=100) e.1.2;rcases A with rfl|rfl
  ·exact c6G b s w q p g fs _ j m d f h
  ·exact c7n b s w q p g fs _ j m d f h
 rw[f_ A]at e;by_cases G:4≤o∧o≤10
 ·rw[n_ G]at e;simp only[Z_]at e;obtain⟨j,rfl,f⟩:=a3K (n:=100) e.1.1;obtain⟨m,rfl,h⟩:=a3K (n:=100) e.1.2;obtain⟨t,rfl,l⟩:=a3K (n:=100) e.2;obtain⟨k,rfl⟩:∃k:Nat,o=(k:Int)+4:=⟨(o-4).toNat,by omega⟩
  exact c7I b s w q p g fs _ k j m t (by omega) f h l
 rw[f_ G]at e;by_cases H:o=11
 ·subst H;simp only[a_b,Z_]at e;obtain⟨j,rfl,f⟩:=a3K (n:=100) e.1.1;obtain⟨m,rfl,h⟩:=a3K (n:=26) e.1.2;have:=u rfl;exact c7H b s w q p g fs y z of r M D C j m d f (by omega)
 rw[f_ H]at e;by_cases I:o=12
 ·subst I;simp only[a_b,Z_]at e;obtain⟨j,rfl,f⟩:=a3K (n:=n) e.1.1;exact c6H b s w q p g fs _ j c d
 rw[f_ I]at e;by_cases J:o=13
 ·subst J;simp only[a_b,Z_]at e;obtain⟨j,rfl,f⟩:=a3K (n:=100) e.1.1;obtain⟨m,rfl,h⟩:=a3K (n:=n) e.1.2;obtain⟨t,rfl,l⟩:=a3K (n:=n) e.2;exact c6I b s w q p g fs _ j m t f
 rw[f_ J]at e;by_cases B:o=14∨o=15
 ·rw[n_ B]at e;simp only[Z_]at e;obtain⟨j,rfl,f⟩:=a3K (n:=401) e.1.1;obtain⟨m,rfl,h⟩:=a3K (n:=16) e.1.2;obtain⟨t,rfl,l⟩:=a3K (n:=100) e.2;rcases B with rfl|rfl
  ·exact c3Z b s w q p g fs _ v j m t l
  ·exact c30 b s w q p g fs _ v j m t l
 ·rw[f_ B]at e;cases e
theorem b04(l:List Ic)(C:Option Addr)(g o D n:Nat)(w:World)(M:a0D w C g o l)(hl:l.length≤2000):
  Calls prog 98 #[.slice C l.length D,i_ n] w fun e w'=>e= .returned (.bool (a5d l n))∧B__ w w':=by
 have P:Hid (a0D w C g o l):=M;generalize L:a5d l n=R;have I:Hid (a5d l n=R):=L;clear M L;go_enter func98,ntmps98;go_wp2_with fail;go_loopw [9] (fun x w'=>∃k:Nat,x=i_ k∧k≤l.length∧Hid (B__ w w')∧Hid (∀j,∀t:j<l.length,j<k→¬(l[j].op=11∧(n:Int)≤l[j].b))) (fun x _=>l.length-(intOf x).toNat);case atStart=>exact⟨0,rfl,by omega,g_ _ _,fun j t h=>absurd h (by omega)⟩
 case round=>
  obtain⟨k,rfl,hk,A,H⟩:=hrel;have E:=A.out.size;have m:Hid (∀F,B__ w (wr.alloc F)):=fun F=>A.out.alloc E F
  by_cases z:k<l.length
  ·have tk:decide ((k:Int)<(l.length:Int))=true:=by simp;omega
   obtain⟨X,hg,S,T,U,V⟩:=P.out.below A.out k z;have s:Hid (¬(l[k].op=11∧(n:Int)≤l[k].b)→∀j,∀t:j<l.length,j<k+1→¬(l[j].op=11∧(n:Int)≤l[j].b)):=by
    intro hn j t Aa;rcases Nat.lt_or_ge j k with J|J
    ·exact H.out j t J
    ·have:j=k:=by omega
     subst this;exact hn
   have u:Hid (l[k].op=11→(n:Int)≤l[k].b→R=false):=fun Y Z=>by rw[←I.out];exact c4b z Y Z
   generalize l[k]=p at*;obtain⟨N,pa,G,pc⟩:=p;simp only at S T U V s u;subst X;by_cases r:N=11
   ·subst r;by_cases B:(n:Int)≤G
    ·have O:decide ((n:Int)≤G)=true:=by simpa using B
     have y:Hid _:=u.out rfl B;clear s u;go_wp2_with fail;rw[y.out];go_ret;exact⟨rfl,m.out _⟩
    ·have O:decide ((n:Int)≤G)=false:=by simpa using B
     have y:Hid _:=s.out (fun h=>B h.2);clear s u;go_wp2_with fail;go_roundw;case rel=>exact⟨k+1,by go_num,by omega,m.out _,y⟩
     case measure=>simp[intOf];omega
   ·have O:(N==11)=false:=by rw[p_];exact r
    have y:Hid _:=s.out (fun h=>r h.1);clear s u;go_wp2_with fail;go_roundw;case rel=>exact⟨k+1,by go_num,by omega,m.out _,y⟩
    case measure=>simp[intOf];omega
  ·have tk:decide ((k:Int)<(l.length:Int))=false:=by simp;omega
   have hT:R=true:=by rw[←I.out];exact b7b (fun j t=>H.out j t (by omega))
   go_wp2_with fail;rw[hT];go_ret;exact⟨rfl,A.out⟩
def a8G:List Value:=a0N a5q++ [.slice none 0 0,.int .i64 0]
theorem c25:Tryz.zeroCells172=a8G.toArray:=by kernel_rfl
theorem c26{W:World}{g:Nat}(b:W.heap[g]? =some (.cells a8G.toArray 172 (0,0))):XAt W g x0:=by
 have f:a5q.length=100:=by simp[a5q]
 have a:(a0N a5q).length=200:=by rw[a3j,f]
 refine⟨fun k h=> ?_,⟨.slice none 0 0,?_,E_ ..⟩,?_,fun o=>by simp[World.frozen?,b]⟩
 ·obtain⟨c,d⟩:=a6o a5q k (by omega);have e:x0.regs.getD k vl0=a5q[k]'(by omega):=by show a5q.getD k vl0=_;rw[t_,s_ (by omega)];rfl
  rw[e];constructor
  ·rw[F_ _ _ _ _ _ _ b];simp only[a_h];unfold a8G;rw[S_ (by omega)];exact c
  ·rw[F_ _ _ _ _ _ _ b];simp only[a_h];unfold a8G;rw[S_ (by omega)];exact d
 ·rw[F_ _ _ _ _ _ _ b];simp only[a_h];unfold a8G;rw[V_ (by omega),a];rfl
 ·rw[F_ _ _ _ _ _ _ b];simp only[a_h];unfold a8G;rw[V_ (by omega),a];rfl
theorem c43(w:World):XAt (w.alloc (.cells a8G.toArray 172)) w.heap.size x0:=c26 (R_ w _)
structure b6F(l:List Ic)(fs:List Int)(w0:World)(b:Nat)(y:Option (List Nt))(w:World)(s:XS)(d:Nat):Prop where
 ok:XOk s
 st:XAt w b s
 low:Below w0.heap.size w0 w
 rest:a2X l fs (50000-d) s=y
 few:s.notes.length≤d
 inn:s.pc<l.length
theorem b7U(l:List Ic)(fs:List Int)(s C:Option Addr)(g o j F of p:Nat)(w:World)(D:a0D w s g o l)(G:a0u w C F of fs)(H:fs.length≤9223372036854775807)(h:(a0x l).1≠0):
  Calls prog 65 #[.slice s l.length j,.slice C fs.length p] w (a3H w (a1R l fs)):=by
 have A:Hid (a1R l fs=((a0x l).1,[])):=by show _=_;unfold a1R;rw[n_ h]
 rw[A.out];have B:Hid (Calls prog 89 #[.slice s l.length j] w fun e I=>e= .returned (a7R (a0x l))∧B__ w I):=a9n l s g o j w D;clear D G A;generalize a0x l=y at*;obtain⟨r,z⟩:=y;simp only at B h⊢;have t:(r !=0)=true:=by simpa using h
 go_enter func65,ntmps65;go_upto_region 2 with(go_at_call 89;refine B.out.mono ?_;rintro e u ⟨rfl,m⟩);have J:(u.alloc (.cells #[i_ r,i_ z] 158)).cell? (a__ u.heap.size 0)=some (i_ r):=by simp[go_sem]
 have E:Hid (B__ w (u.alloc (.cells #[i_ r,i_ z] 158))):=m.alloc m.size _;generalize (u.alloc (.cells #[i_ r,i_ z] 158))=W at*;clear m;go_wp2_with fail;go_region;all_goals go_wp2_with fail
 all_goals go_ret2
 all_goals exact⟨⟨_,rfl,fun _=>rfl,E_ ..⟩,E.out.drew⟩
theorem b4z(l:List Ic)(fs:List Int)(p F:Option Addr)(g o j I of r:Nat)(w:World)(z:a0D w p g o l)(L:a0u w F I of fs)(M:fs.length≤9223372036854775807)(h:(a0x l).1=0)(G:a5d l fs.length=false):
  Calls prog 65 #[.slice p l.length j,.slice F fs.length r] w (a3H w (a1R l fs)):=by
 have D:Hid (a1R l fs=(6,[])):=by show _=_;unfold a1R;rw[f_ (by omega),f_ (by rw[G];decide)]
 rw[D.out];have E:Hid (Calls prog 89 #[.slice p l.length j] w fun e B=>e= .returned (a7R (a0x l))∧B__ w B):=a9n l p g o j w z;obtain⟨_,A,_⟩:=a8f h;have H:Hid (∀W,B__ w W→Calls prog 98 #[.slice p l.length j,i_ (fs.length:Nat)] W fun e B=>e= .returned F__∧B__ W B):=fun W J=>by
  have:=b04 l p g o j fs.length W (z.below J) A;rw[G]at this;exact this
 clear z L D;generalize a0x l=y at*;obtain⟨P,C⟩:=y;simp only at E h;subst h;go_enter func65,ntmps65;go_upto_region 2 with(go_at_call 89;refine E.out.mono ?_;rintro e s ⟨rfl,m⟩);have N:(s.alloc (.cells #[i_ 0,i_ C] 158)).cell? (a__ s.heap.size 0)=some (i_ 0):=by simp[go_sem]
 have t:Hid (B__ w (s.alloc (.cells #[i_ 0,i_ C] 158))):=m.alloc m.size _;generalize (s.alloc (.cells #[i_ 0,i_ C] 158))=W at*;clear m;go_wp2_with (go_at_call 98;refine(H.out _ t.out).mono ?_;rintro e O ⟨rfl,u⟩);go_ret2;exact⟨⟨_,rfl,fun _=>rfl,E_ ..⟩,t.out.trans (u.mono t.out.size)⟩
theorem b7V(l:List Ic)(fs:List Int)(L U:Option Addr)(g o y X of z:Nat)(w:World)(hc:a0D w L g o l)(hf:a0u w U X of fs)(Am:fs.length≤9223372036854775807)(Ab:∀i,i<fs.length→X<w.heap.size)(Ad:∀x∈l,-9223372036854775808≤x.b∧x.b≤9223372036854775807)(Aa:a3I fs)(h:(a0x l).1=0)(h2:a5d l fs.length=true):
  Calls prog 65 #[.slice L l.length y,.slice U fs.length z] w (a3H w (a1R l fs)):=by
 have hE:a1R l fs=(match a2X l fs 50000 x0 with|none=>(8,[])|some n=>(0,n)):=by
  unfold a1R;rw[f_ (by omega),n_ h2];generalize a2X l fs 50000 x0=Y;cases Y<;>rfl
 generalize G:a1R l fs=R at*;obtain⟨Aq,Ac,A⟩:=a8f h;have N:Hid (∀k,∀hk:k<l.length,l[k].op≠0→b08 l.length fs.length l[k]):=by
  intro k hk u;refine⟨(A k hk).1,u,fun Z=> ?_⟩;have a1:=b4u h2 hk Z;have a2:=(A k hk).1;unfold a0I at a2;simp[Z,bel]at a2;omega
 generalize hY:a2X l fs 50000 x0=Y at*;have HY:Hid (a2X l fs (50000-0) x0=Y):=hY;have O:=h__ hE;have HV:Hid (Calls prog 89 #[.slice L l.length y] w fun e E=>e= .returned (a7R (a0x l))∧B__ w E):=a9n l L g o y w hc;have HH:Hid (∀W,B__ w W→Calls prog 98 #[.slice L l.length y,i_ (fs.length:Nat)] W fun e E=>e= .returned T__∧B__ W E):=fun W hb=>by
  have:=b04 l L g o y fs.length W (hc.below hb) Ac;rw[h2]at this;exact this
 have HC:Hid (a0D w L g o l):=hc;have HF:Hid (a0u w U X of fs):=hf;have H0:Hid ((a0x l).1=0):=h;have Aj:Hid (∀x∈l,-9223372036854775808≤x.b∧x.b≤9223372036854775807):=Ad;have Ah:Hid (a3I fs):=Aa;have Ai:Hid (∀i,i<fs.length→X<w.heap.size):=Ab;have Ag:a0x l=(0,(a0x l).2):=by rw[←h]
 rw[Ag]at HV;generalize Ao:(a0x l).2=y2 at*;clear hc hf h2 Ao hE hY A Ad Aa G Ab Ag h;go_enter func65,ntmps65;go_upto_region 2 with(go_at_call 89;refine HV.out.mono ?_;rintro e w1 ⟨rfl,m⟩);have q0:(w1.alloc (.cells #[i_ 0,i_ y2] 158)).cell? (a__ w1.heap.size 0)=some (i_ 0):=by simp[go_sem]
 have HB:Hid (B__ w (w1.alloc (.cells #[i_ 0,i_ y2] 158))):=m.alloc m.size _;generalize (w1.alloc (.cells #[i_ 0,i_ y2] 158))=W at*;clear m;go_upto_region 7 with(go_at_call 98;refine(HH.out _ HB.out).mono ?_;rintro e M ⟨rfl,B⟩);rw[c25];have Af:w.heap.size≤M.heap.size:=K_ HB.out.size B.size;have T:Hid (b6F l fs w M.heap.size Y (M.alloc (.cells a8G.toArray 172)) x0 0):=
  ⟨c5s,c43 M,(HB.out.trans (B.mono HB.out.size)).alloc Af _,HY.out,by simp[x0],by simp[x0];omega⟩
 generalize (M.alloc (.cells a8G.toArray 172))=V at*;generalize hb:M.heap.size=b at*;clear B hb q0;go_wp2_with fail;go_loopw [8] (fun x E=>∃(s:XS) (k:Nat),x=i_ k∧k≤50000∧Hid (b6F l fs w b Y E s k)) (fun x _=>50000-(intOf x).toNat);case atStart=>exact⟨x0,0,rfl,by omega,T⟩
 case round=>
  obtain⟨s,k,rfl,hk,j⟩:=hrel;clear T;by_cases Ar:k<50000
  ·have tk:decide ((k:Int)<50000)=true:=by simp;omega
   have C:=j.out.inn;have Ae:s.pc≤2000:=by omega
   have H:=j.out.low.size;have hp:=j.out.st.pc;obtain⟨v,hv,I⟩:=j.out.st.row;have S:Hid (wr.ownsRow (b+1) 61 5 v s.notes.length (a0B s.notes)):=I;have Ap:=j.out.st.lt;clear I;obtain⟨e0,hg,c0,c1,c2,c3⟩:=(HC.out.below j.out.low) s.pc C;have As:(0:Int)≤(s.pc:Int):=by omega
   have At:(s.pc:Int)<(l.length:Int):=by omega
   have F:Hid (∀ob,B__ wr (wr.alloc ob)):=fun ob=>(g_ _ _).alloc (a_ _) _
   have t:Hid (l[s.pc].op=0→Y=some s.notes):=fun u=>by
    have:=j.out.rest;rw[b49 (by omega) C u]at this;exact this.symm
   have r:Hid (∀V E,l[s.pc].op≠0→B__ w V→XAt E b (a0m l[s.pc] fs s)→Below b V E→b6F l fs w b Y E (a0m l[s.pc] fs s) (k+1)):=fun V E u m hx B=>by
    refine⟨b8g j.out.ok (Aj.out _ (P_ _)) Ah.out,hx,m.trans (B.mono (by omega)),?_,?_,b8h H0.out C u fs⟩
    ·have:=b0m (fs:=fs) (f:=50000-k) (by omega) C u;rw[j.out.rest]at this;rw[this,show 50000-k-1=50000-(k+1)by omega]
    ·have:=a9P l[s.pc] fs s;have:=j.out.few;omega
   have J:Hid (∀V,l[s.pc].op≠0→B__ wr V→Calls prog 99 #[.pointer (some (a__ b 0)),icV l[s.pc],.slice U fs.length z] V (a3k V b (a0m l[s.pc] fs s))):=fun V u m=>
    c6K l.length l[s.pc] b s V fs U X of z (N.out s.pc C u) Ac (j.out.st.keep m (a_ _)) j.out.ok Ae (by have:=j.out.few;omega) Am ((HF.out.below j.out.low).below m) (fun i hi=>Q_ (Ai.out i hi) Af)
   generalize l[s.pc]=p at*;obtain⟨po,pa,pb,pp⟩:=p;simp only at c0 c1 c2 c3 t r J;subst e0;by_cases u:po=0
   ·have G:=O.out;rw[t.out u]at G;simp only at G;subst u;clear t r J O;go_wp2_with fail;rw[G];go_ret2;exact⟨⟨v,rfl,fun h=>absurd rfl h,a1C (b5O S.out (by omega)) (F.out _) (a_ _)⟩,j.out.low.trans ((F.out _).mono H)⟩
   ·have t0:(po==0)=false:=by rw[p_];exact u
    clear t O;go_wp2_with (go_at_call 99;refine(J.out _ u (F.out _)).mono ?_;rintro e5 w5 ⟨rfl,An,Al⟩);have P:Hid _:=r.out _ _ u (j.out.low.trans ((F.out _).mono H)) An Al;go_roundw;case rel=>exact⟨_,k+1,by go_num,by omega,P⟩
    case measure=>simp[intOf];omega
  ·have tk:decide ((k:Int)<50000)=false:=by simp;omega
   have G:=O.out;have D:=j.out.rest;rw[show 50000-k=0 by omega]at D;have Ak:Y=none:=D.symm;rw[Ak]at G;simp only at G;clear O;go_wp2_with fail;rw[G];go_ret2;exact⟨⟨_,rfl,fun _=>rfl,E_ ..⟩,j.out.low⟩
theorem b5a(l:List Ic)(fs:List Int):∀(f:Nat) (s:XS) (N:List Nt),a2X l fs f s=some N→N.length≤s.notes.length+f
 |0,s,N,h=>by cases h
 |f+1,s,N,h=>by
  rw[a2X]at h
  split at h
  ·cases h;omega
  ·have:=b5a l fs f _ N h;have:=a9P (l.getD s.pc ⟨0,0,0,0⟩) fs s;omega
theorem c1N(l:List Ic)(fs:List Int):(a1R l fs).2.length≤50000:=by
 unfold a1R
 split
 ·simp
 split
 ·cases h:a2X l fs 50000 x0 with
  |none=>simp
  |some N=>
   have:=b5a l fs 50000 x0 N h;simp[x0]at this;simpa using this
 ·simp
theorem b7T(l:List Ic)(fs:List Int)(f e:Option Addr)(g o c j of a:Nat)(w:World)(m:a0D w f g o l)(k:a0u w e j of fs)(d:fs.length≤9223372036854775807)(p:∀x∈l,-9223372036854775808≤x.b∧x.b≤9223372036854775807)(n:a3I fs):
  Calls prog 65 #[.slice f l.length c,.slice e fs.length a] w (a3H w (a1R l fs)):=by
 by_cases h:(a0x l).1=0
 ·cases q:a5d l fs.length with
  |false=>exact b4z l fs f e g o c j of a w m k d h q
  |true=>exact b7V l fs f e g o c j of a w m k d (fun i r=>(k i r).2.1) p n h q
 ·exact b7U l fs f e g o c j of a w m k d h
theorem b4M(l:List Ic)(fs:List Int)(t s:Option Addr)(g o m y of j:Nat)(w:World)(z:a0D w t g o l)(A:a0u w s y of fs)(u:fs.length≤9223372036854775807)(r:∀x∈l,-9223372036854775808≤x.b∧x.b≤9223372036854775807)(p:a3I fs):
  Calls prog 40 #[.slice t l.length m,.slice s fs.length j] w (a3H w (a1R l fs)):=by
 have B:Hid (Calls prog 65 #[.slice t l.length m,.slice s fs.length j] w (a3H w (a1R l fs))):=b7T l fs t s g o m y of j w z A u r p;generalize a1R l fs=R at*;clear z A r p;go_enter func40,ntmps40;go_wp2_with fail;refine B.out.mono ?_;rintro e G ⟨⟨F,rfl,C,D⟩,E⟩;go_wp2_with fail;go_ret2;exact⟨⟨F,rfl,C,D⟩,E⟩
open Go.WideShapes (add_plain)
theorem c2h(n:Nat)(e:8*(n+2)≤281474976710656):∃Z:List Value,Z.length=n+2∧∀w:World,(Instr.makeSlice 22 (i_ ((n:Int)+2)) (i_ ((n:Int)+2))).run prog w= .ok (.slice (some (a__ w.heap.size 0)) (n+2) (n+2)) (w.alloc (.cells Z.toArray 3)):=by
 obtain⟨i,b,d,c,a⟩:=a4k b7h;refine⟨(madeCells #[i_ 0] (n+2)).toList,by simp[size_madeCells],fun w=> ?_⟩;have k:=run_make (P:=prog) w 22 3 i _ underlying22 b d .i64 .i64 ((n:Int)+2) ((n:Int)+2) (by omega) (by omega) (by rw[a];omega) (by omega);rw[c,show((n:Int)+2).toNat=n+2 by omega,Nat.mul_one]at k;rw[k];rfl
@[reducible] def a7X:List Value:= [.int .i64 77,.int .i64 77]
theorem c0K(cs:List Value)(n:Nat)(h:cs.length=n)(a b:Value):((cs++ [a,b]).set n (i_ 77)).set (n+1) (i_ 77)=cs++a7X:=by
 rw[←h];have k:=a35 cs [a,b] 0 (i_ 77);rw[a_P]at k;rw[k,a35];rfl
theorem c7q(z:List Value)(h:z.length=2):∃a b,z= [a,b]:=by
 match z,h with
 | [a,b],_=>exact⟨a,b,rfl⟩
theorem a5U(l:List Int)(z:Option Addr)(g o s:Nat)(w:World)(D:a0u w z g o l)(Y:8*(l.length+2)≤281474976710656):
  Calls prog 6 #[.slice z l.length s] w fun e w'=>e= .returned (.slice (some (a__ w.heap.size 0)) l.length (l.length+2))∧w'.heap[w.heap.size]? =some (.cells (a2k l++a7X).toArray 3 (0,0))∧B__ w w':=by
 obtain⟨Z,hZ,F⟩:=c2h l.length Y;have r:=a8k l;have H:Hid (0<l.length→∃J,z=some J∧∀j v,(a2k l)[j]? =some v→(w.alloc (.cells Z.toArray 3)).cell? (J.add j)=some v):=by
  intro T;obtain⟨S,_⟩:=D 0 T;refine⟨_,S,fun j v B=> ?_⟩;have V:B__ w (w.alloc (.cells Z.toArray 3)):=(g_ _ _).alloc (a_ _) _;have u:j<l.length:=by rw[←r];exact(k_.mp B).1
  obtain⟨_,X,R⟩:=D j u;rw[b_A,V.cell (p:=(a__ g (o+j))) X,R,←B];simp[a2k,s_ u]
 have O:Hid _:=c0Q l;have N:Hid (l.length=0→a2k l= []):=fun h=>a_o (by omega)
 generalize a2k l=A at*;generalize U:l.length=n at*;clear U D;have I:Hid ((w.alloc (.cells Z.toArray 3)).heap[w.heap.size]? =some (.cells Z.toArray 3 (0,0))):=R_ w _;have G:Hid (B__ w (w.alloc (.cells Z.toArray 3))):=(g_ _ _).alloc (a_ _) _;go_enter func6,ntmps6;go_upto_region 3 with fail;generalize (w.alloc (.cells Z.toArray 3))=W at*;obtain⟨y,E,m,t⟩:=b0j (P:=prog) W 22 22 3 3 1 underlying22 c4j z w.heap.size (n+2) (n+2) n s Z 3 I.out A (by omega) (by omega) N.out H.out (by omega) O.out w.heap.size w G.out (a_ _);go_upto_region 4 with fail;obtain⟨a,b,L⟩:=c7q (Z.drop A.length) (by simp;omega);rw[L]at m;have q:∀j v,([a,b]:List Value)[j]? =some v→y.cell? (a__ w.heap.size (n+j))=some v:=by
  intro j v B;rw[F_ _ _ _ _ _ _ m,←r];simp[V_,B]
 have fz:∀o,y.frozen? (a__ w.heap.size o)=false:=by intro o;simp[World.frozen?,m]
 have q0:=q 0 a rfl;have q1:=q 1 b rfl;rw[a_P]at q0;have M:Hid (y.heap[w.heap.size]? =some (.cells (A++ [a,b]).toArray 3 (0,0))):=m;have C:Hid (B__ w y):=t;clear q E m t L F H I G;go_wp2_with fail;go_ret;refine⟨rfl,?_,?_⟩
 ·have k:=a1p (a1p M.out n (i_ 77)) (n+1) (i_ 77);rw[c0K A n r]at k;exact k
 ·exact(C.out.setCell (by simp) _).setCell (by simp) _
theorem b75(l:List Int)(m n:Option Addr)(g o q r z d:Nat)(w:World)(v:a0u w m g o l)(y:a0u w n r z l)(I:8*(l.length+2)≤281474976710656):
  Calls prog 25 #[.slice m l.length q,.slice n l.length d] w fun e w'=>e= .returned T__∧B__ w w':=by
 have t:Hid (∀w',B__ w w'→a0u w' m g o l):=fun w' f i s=>by
  obtain⟨a,b,c⟩:=v i s;exact⟨a,Q_ b f.size,(f.cell (p:=(a__ g _)) b).trans c⟩
 have u:Hid (∀w',B__ w w'→a0u w' n r z l):=fun w' f i s=>by
  obtain⟨a,b,c⟩:=y i s;exact⟨a,Q_ b f.size,(f.cell (p:=(a__ r _)) b).trans c⟩
 clear v y;have J:((l.length:Int) !=(l.length:Int))=false:=by simp
 go_enter func25,ntmps25;go_wp2_with fail;go_loopw [5] (fun x w'=>∃k:Nat,x=i_ k∧k≤l.length∧Hid (B__ w w')) (fun x _=>l.length-(intOf x).toNat);case atStart=>exact⟨0,rfl,by omega,g_ _ _⟩
 case round=>
  obtain⟨k,rfl,H,j⟩:=hrel;by_cases h:k<l.length
  ·have D:decide ((k:Int)<(l.length:Int))=true:=by simp;omega
   obtain⟨A,G,E⟩:=t.out _ j.out k h;obtain⟨B,C,F⟩:=u.out _ j.out k h;clear t u;subst A B;generalize l[k]=p at*;go_upto_region 6 with fail;go_region;all_goals go_wp2_with fail
   all_goals go_roundw
   case rel=>exact⟨k+1,by go_num,by omega,j.out.drew⟩
   case measure=>simp[intOf];omega
  ·have D:decide ((k:Int)<(l.length:Int))=false:=by simp;omega
   go_wp2_with fail;go_ret;exact⟨rfl,j.out⟩
theorem a5A(l:List Int)(m:Nat)(y:Option Addr)(g o s:Nat)(w:World)(u:w.heap[m]? =some (.cells (a2k l++a7X).toArray 3 (0,0)))(A:a0u w y g o l)(G:8*(l.length+2)≤281474976710656):
  Calls prog 9 #[.slice (some (a__ m 0)) l.length (l.length+2),.slice y l.length s] w fun e w'=>e= .returned T__∧B__ w w':=by
 have C:Hid (Calls prog 25 #[.slice (some (a__ m 0)) l.length (l.length+2),.slice y l.length s] w fun e w'=>e= .returned T__∧B__ w w'):=b75 l _ _ m 0 _ g o _ w (a6h u) A G;have t:m<w.heap.size:=(z_.mp u).1;have F:=a8k l;have q:∀j v,a7X[j]? =some v→w.cell? (a__ m (l.length+j))=some v:=by
  intro j v E;rw[F_ _ _ _ _ _ _ u,←F];simp only[a_h];rw[V_ (by omega),a_I];exact E
 generalize D:l.length=n at*;have z:Hid (∀j v,a7X[j]? =some v→w.cell? (a__ m (n+j))=some v):=q;clear D q A u;go_enter func9,ntmps9;go_wp2_with (go_at_call 25;refine C.out.mono ?_;rintro e I ⟨rfl,r⟩;have B:Hid (B__ w I):=r;have H:=(r.cell (p:=(a__ m (n+0))) t).trans (z.out 0 _ rfl);rw[a_P]at H;have J:=(r.cell (p:=(a__ m (n+1))) t).trans (z.out 1 _ rfl);clear r);go_ret;exact⟨rfl,B.out⟩
theorem a8o(l:List Nt)(r s:Option Addr)(g t z j:Nat)(w:World)(A:a1H w r g l)(B:a1H w s z l)(U:l.length≤1000000):
  Calls prog 55 #[.slice r l.length t,.slice s l.length j] w fun e w'=>e= .returned T__∧B__ w w':=by
 have u:Hid (a1H w r g l):=A;have y:Hid (a1H w s z l):=B;clear A B;have t0:((l.length:Int) !=(l.length:Int))=false:=by simp
 go_enter func55,ntmps55;go_wp2_with fail;go_loopw [5] (fun x w'=>∃k:Nat,x=i_ k∧k≤l.length∧Hid (B__ w w')) (fun x _=>l.length-(intOf x).toNat);case atStart=>exact⟨0,rfl,by omega,g_ _ _⟩
 case round=>
  obtain⟨k,rfl,T,o⟩:=hrel;by_cases m:k<l.length
  ·have R:decide ((k:Int)<(l.length:Int))=true:=by simp;omega
   obtain⟨N,S,C,D,E,F,G⟩:=u.out.below o.out k m;obtain⟨O,P,H,I,J,L,M⟩:=y.out.below o.out k m;clear u y;subst N O;generalize l[k]=p at*;obtain⟨V,X,Y,⟨Z,p4⟩⟩:=p;simp only at C D E F G H I J L M;go_upto_region 6 with fail;go_region;all_goals go_wp2_with fail
   all_goals go_roundw
   case rel=>exact⟨k+1,by go_num,by omega,o.out.drew⟩
   case measure=>simp[intOf];omega
  ·have R:decide ((k:Int)<(l.length:Int))=false:=by simp;omega
   go_wp2_with fail;go_ret;exact⟨rfl,o.out⟩
end Go.Proofs.YtdgmoiflahoihaaGreatDoor
