import Derived.Test.YtdgmoiflahoihaaGreatDoorRAFw
import Derived.BigRegion

set_option linter.unusedSimpArgs false
set_option linter.unusedVariables false
set_option maxRecDepth 100000
set_option maxHeartbeats 8000000
namespace Go.Proofs.YtdgmoiflahoihaaGreatDoor
open Go.Proofs.Tryz
open Go.RowKit
theorem b7P{C:List UInt8}{A:List Int}{f lo hi:Nat}{s a:SR}(h:a2n C A f lo hi s=some a)(b:¬lo<hi):a=s:=by
 cases f with
 |zero=>cases h
 |succ f=>
  rw[b1J C A f lo hi s b]at h;cases h;rfl
theorem b5P{C:List UInt8}{A:List Int}{f lo hi:Nat}{s F:SR}(h:a2n C A f lo hi s=some F)(G:lo<hi):
  ∃g o e t k,∃(z:lo<C.length) (B:lo<A.length),f=g+1∧a0W C lo=some o∧a1K C lo=some e∧a2b C lo=some t∧a2n C A g o hi k=some F∧
   ((C[lo]=42∧∃D:lo+1<C.length,48≤C[lo+1].toNat∧a7K (fun s=>a2n C A g t.p t.q s) (C[lo+1].toNat-48) s=some k)∨
    (C[lo]≠42∧∃v,a3v C s.1 (C.length+1) e.lo e.hi=some v∧e.hi≤C.length∧e.name<26∧0≤A[lo]∧a70 (fun s=>a2n C A g t.p t.q s) (fun s=>a2n C A g t.r t.s s) C[lo] A[lo] e v s=some k)):=by
 cases f with
 |zero=>cases h
 |succ f=>
  unfold a2n at h;rw[n_ G]at h;cases y:a0W C lo with
  |none=>rw[y]at h;simp at h
  |some o=>
  cases b:b15 C A (a2n C A f) lo s with
  |none=>rw[y,b]at h;simp at h
  |some k=>
  rw[y,b]at h;simp only at h;unfold b15 at b;cases j:a1K C lo with
  |none=>rw[j]at b;simp at b
  |some e=>
  cases m:a2b C lo with
  |none=>rw[j,m]at b;simp at b
  |some t=>
  cases l:C[lo]? with
  |none=>rw[j,m,l]at b;simp at b
  |some c=>
  cases u:A[lo]? with
  |none=>rw[j,m,l,u]at b;simp at b
  |some a=>
  rw[j,m,l,u]at b;simp only at b;obtain⟨z,rfl⟩:=k_.mp l;obtain⟨B,rfl⟩:=k_.mp u;refine⟨f,o,e,t,k,z,B,rfl,rfl,rfl,rfl,h,?_⟩;by_cases i:C[lo]=42
  ·rw[n_ i]at b;cases w:C[lo+1]? with
   |none=>rw[w]at b;simp at b
   |some d=>
    rw[w]at b;simp only at b;obtain⟨D,rfl⟩:=k_.mp w
    split at b
    ·rename_i n;exact .inl ⟨i,D,n,b⟩
    ·cases b
  ·rw[f_ i]at b;cases E:a3v C s.1 (C.length+1) e.lo e.hi with
   |none=>rw[E]at b;simp at b
   |some v=>
    rw[E]at b;simp only at b
    split at b
    ·rename_i x;exact .inr ⟨i,v,rfl,x.1,x.2.1,x.2.2,b⟩
    ·cases b
def a9S(f:SR→Option SR):Prop:=∀s a,a1h s→f s=some a→a1h a∧s.2.length≤a.2.length
theorem b3Z{f:SR→Option SR}(i:a9S f):∀n,a9S (a7K f n)
 |0=>fun s j g h=>by cases h;exact⟨g,a_ _⟩
 |n+1=>fun s j g h=>by
  unfold a7K at h;cases e:f s with
  |none=>rw[e]at h;simp at h
  |some s1=>
   rw[e]at h;simp only at h;obtain⟨a,b⟩:=i s s1 g e;obtain⟨c,d⟩:=b3Z i n s1 j a h;exact⟨c,by omega⟩
theorem a7C{s:SR}(h:a1h s)(e:Rest){v:Vl}(a:a0S v)(l:List Nt):a1h (a3B e v s,l):=by
 unfold a3B
 split
 ·exact h.set a _ _
 ·exact⟨h.len,h.ok⟩
theorem b9R{f g:SR→Option SR}(j:a9S f)(k:a9S g){c:UInt8}{a:Int}{e:Rest}{v:Vl}(d:a0S v):a9S (a70 f g c a e v):=by
 intro s i b h;unfold a70 at h
 split at h
 ·split at h
  ·cases h;exact⟨a7C b e d _,by simp⟩
  ·cases h
 split at h
 ·split at h
  ·cases h;exact⟨a7C b e d _,by simp⟩
  ·cases h
 split at h
 ·split at h
  ·split at h
   ·exact j (a3B e v s,s.2) i (a7C b e d s.2) h
   ·exact k (a3B e v s,s.2) i (a7C b e d s.2) h
  ·cases h;exact⟨a7C b e d s.2,a_ _⟩
 ·cases h;exact⟨a7C b e d s.2,a_ _⟩
theorem a6Z(C:List UInt8)(A:List Int):∀(f lo hi:Nat),a9S (a2n C A f lo hi)
 |0,lo,hi=>fun s n a h=>by cases h
 |f+1,lo,hi=>fun s n a h=>by
  by_cases m:lo<hi
  ·obtain⟨g,o,e,t,b,z,B,F,G,E,H,w,j⟩:=b5P h m;have d:f=g:=by omega
   subst d;have c:=fun lo hi=>a6Z C A f lo hi
   have k:a1h b∧s.2.length≤b.2.length:=by
    rcases j with⟨_,D,_,i⟩|⟨_,v,x,u,_,_,i⟩
    ·exact b3Z (c t.p t.q) _ s b a i
    ·have l:=(b1V 0 0 C A s.1 a.ok _ _ _ v x u).1;exact b9R (c t.p t.q) (c t.r t.s) l s b a i
   have y:=c o hi b n k.1 w;exact⟨y.1,by omega⟩
  ·rw[b7P h m];exact⟨a,a_ _⟩
def b4Q(b g:Nat)(a:World)(lo hi:Nat)(s c:SR):Prop:=
 ∀(S:Nat→Prop) (w:World),Below a.heap.size a w→a0E w g S s→(∀k,S k→g<k)→
  Calls prog 46 #[.pointer (some ⟨b,0,none⟩),.pointer (some ⟨g,0,none⟩),.int .i64 lo,.int .i64 hi] w fun e d=>e= .returned (.tuple #[])∧a0y g S w d c
theorem a0E.vals{w:World}{g:Nat}{S:Nat→Prop}{s:SR}(h:a0E w g S s):a5w w g s.1:=h.cell
theorem a4v{g:Nat}{S:Nat→Prop}{b w w':World}(a:B__ b w)(h:Onto g S w w')(i:b.heap.size≤g)(c:∀k,S k→g<k):B__ b w':=by
 have f:=a.size;exact⟨h.os.trans a.os,h.tape.trans a.tape,h.output.trans a.output,K_ f h.size,fun k d=>(h.block k (by omega) (by omega) (fun e=>by have:=c k e;omega)).trans (a.block k d)⟩
theorem a0y.wider{b:Nat}{R S:Nat→Prop}{w w':World}{s:SR}(h:a0y b R w w' s)(c:∀k,R k→S k):a0y b S w w' s:=
 ⟨h.state.weak (fun i a _ _=>by rcases a with a|a;exact .inl (c i a);exact .inr a),⟨h.onto.os,h.onto.tape,h.onto.output,h.onto.size,fun k f d g=>h.onto.block k f d (fun e=>g (c k e))⟩⟩
theorem a0A.low{f w:World}{b:Nat}{C:List UInt8}{A:List Int}(h:a0A f b C A)(o:B__ f w):
  ∃(n m:Option Addr) (j g d a:Nat),b<f.heap.size∧w.cell? (a__ b 0)=some (.slice n C.length d)∧w.cell? (a__ b 1)=some (.slice m C.length a)∧
   (∀i,∀h:i<C.length,n=some (a__ j 0)∧j<f.heap.size∧w.cell? (a__ j i)=some (.int .u8 C[i].toNat))∧
   (∀i,∀h:i<A.length,m=some (a__ g 0)∧g<f.heap.size∧w.cell? (a__ g i)=some (i_ A[i])):=by
 obtain⟨_,_,n,m,j,g,d,a,r,s,u,t⟩:=h;have k:b<f.heap.size:=r_ f _ r;refine⟨n,m,j,g,d,a,k,(o.cell (p:=(a__ b 0)) k).trans r,(o.cell (p:=(a__ b 1)) k).trans s,fun i q=> ?_,fun i q=> ?_⟩
 ·obtain⟨e,c⟩:=u i q;have l:j<f.heap.size:=r_ f _ c;exact⟨e,l,(o.cell (p:=(a__ j i)) l).trans c⟩
 ·obtain⟨e,c⟩:=t i q;have l:g<f.heap.size:=r_ f _ c;exact⟨e,l,(o.cell (p:=(a__ g i)) l).trans c⟩
theorem c4T{f:SR→Option SR}{n:Nat}{s c:SR}(h:a7K f (n+1) s=some c):∃a,f s=some a∧a7K f n a=some c:=by
 unfold a7K at h;cases b:f s with
 |none=>rw[b]at h;simp at h
 |some a=>
  rw[b]at h;exact⟨a,rfl,h⟩
theorem c4Q(b g:Nat)(C:List UInt8)(A:List Int)(w0:World)(Bs:a0A w0 b C A)(Ae:w0.heap.size≤g):∀(F lo hi:Nat) (s s':SR),a2n C A F lo hi s=some s'→a1h s→s'.2.length≤100000→lo≤500→hi≤500→b4Q b g w0 lo hi s s':=by
 intro F;induction F using Nat.strongRecOn with
 |ind F ih=>
 intro lo hi s s' hp hs Cg BZ Cf S w Bv hS Bt;have IH:Hid (∀m,m<F→_):=ih;clear ih;have Aa:Hid (a0A w0 b C A):=Bs;have HP:Hid (a2n C A F lo hi s=some s'):=hp;have BN:Hid (a1h s):=hs;have Bo:Hid (a0y g S w w s):=a0y.still hS (g_ _ _);have Ab:Hid (B__ w0 w):=Bv;have Z:Hid (∀k,S k→g<k):=Bt;have B6:=hS.lt;clear hp hs Bv hS Bt Bs;go_enter func46,ntmps46;go_wp2_with fail;go_loopw [8] (fun x N=>∃(k f:Nat) (J:SR),x=i_ k∧k≤500∧f≤F∧Hid (a2n C A f k hi J=some s')∧Hid (a1h J)∧Hid (a0y g S w N J)) (fun x _=>1000-(intOf x).toNat);case atStart=>exact⟨lo,F,s,rfl,BZ,a_ _,HP,BN,Bo⟩
 case round=>
  obtain⟨k,f,J,rfl,hk,hf,Bk,Ay,Aj⟩:=hrel;by_cases BB:k<hi
  ·have tk:decide ((k:Int)<(hi:Int))=true:=by simp;omega
   obtain⟨f',o,e,t,R,h0,h1,Cd,ho,he,ht,AL,Ba⟩:=b5P Bk.out BB;have AR:B__ w0 wr:=a4v Ab.out Aj.out.onto Ae Z.out;have BK:Hid (B__ w0 wr):=AR;have A8:a0A wr b C A:=Aa.out.below AR;have AC:Hid (a0A wr b C A):=A8;have Ci:=a07 ho;have Cj:=a2z ho;have hC:=A8.small;obtain⟨b1,b2,b3,b4⟩:=a72 ht hC;have HV:Hid (a0W C k=some o):=ho;have HT:Hid (a2b C k=some t):=ht;have HE:Hid (a1K C k=some e):=he;have Ai:Hid (a2n C A f' o hi R=some s'):=AL;obtain⟨_,_,ac,aa,bc,ba,Br,Au,q0,q1,hc,ha⟩:=A8;obtain⟨rfl,Aq⟩:=hc k h0;obtain⟨rfl,AA⟩:=ha k h1;have hz:w.heap.size≤wr.heap.size:=Aj.out.onto.size;have Ao:Hid (∀i,(S i∨w.heap.size≤i)→g<i):=fun i hi=>by
    rcases hi with hi|hi
    ·exact Z.out i hi
    ·omega
   rcases Ba with⟨AP,h2,Ca,AN⟩|⟨AP,v,hv,BG,B0,BX,As⟩
   ·obtain⟨_,Cc⟩:=hc (k+1) h2;have Cb:=C[k+1].toNat_lt;rw[AP]at Aq;have Aq:wr.cell? (a__ bc k)=some (.int .u8 42):=Aq;generalize Bz:C[k+1].toNat=d at*;have BM:Hid (C[k+1].toNat=d):=Bz;have Bl:Hid (a7K (fun s=>a2n C A f' t.p t.q s) (d-48) J=some R):=AN;have Ax:Hid (R.2.length≤100000):=by
     have h5:=b3Z (a6Z C A f' t.p t.q) _ _ _ Ay.out AN;have h6:=a6Z C A f' o hi _ _ h5.1 AL;show _≤_;omega
    clear hc ha AN Bz AL ho he ht AR;go_wp2_with (first|(go_at_call 78;refine(a3O b k t C A _ AC.out HT.out).mono ?_;rintro x1 N ⟨rfl,y⟩;rw[y];clear y));go_loopw [13] (fun x N=>∃(m:Nat) (sm:SR),x= .int .u8 (48+m:Nat)∧48+m≤d∧Hid (a7K (fun s=>a2n C A f' t.p t.q s) (d-48-m) sm=some R)∧Hid (a1h sm)∧Hid (a0y g S w N sm)) (fun x _=>d-(intOf x).toNat);case atStart=>exact⟨0,J,rfl,by omega,Bl,Ay,Aj⟩
    case round=>
     obtain⟨m,sm,rfl,hm,A2,A3,At⟩:=hrel;have A7:=a4v Ab.out At.out.onto Ae Z.out;have Bi:Hid (a0A wr b C A):=Aa.out.below A7;have BJ:Hid (B__ w0 wr):=A7;obtain⟨_,_,ac,aa,B9,B8,BU,BT,r0,r1,Bw,BW⟩:=Bi.out;obtain⟨rfl,Bx⟩:=Bw (k+1) h2;rw[BM.out]at Bx;clear Bw BW A7;by_cases Ch:48+m<d
     ·obtain⟨j,hj⟩:∃j,d-48-m=j+1:=⟨d-48-m-1,by omega⟩
      have Bc:=A2.out;rw[hj]at Bc;obtain⟨s2,Be,AO⟩:=c4T Bc;have AM:=a6Z C A f' t.p t.q _ _ A3.out Be;have BD:=b3Z (a6Z C A f' t.p t.q) _ _ _ AM.1 AO;have AD:Hid (∀N:World,_):=fun N=>IH.out f' (by omega) t.p t.q sm s2 Be A3.out (by have:=Ax.out;omega) b1 b2 (fun i=>S i∨w.heap.size≤i) N
      have Bm:Hid (a7K (fun s=>a2n C A f' t.p t.q s) (d-48-(m+1)) s2=some R):=by rw[show d-48-(m+1)=j by omega];exact AO
      have BO:Hid (a1h s2):=AM.1;have tm:decide (((48+m:Nat):Int)<(d:Int))=true:=by simp;omega
      clear Bc Be AO AM BD A2;go_wp2_with (first|(go_at_call 46;refine(AD.out _ BJ.out At.out.state Ao.out).mono ?_;rintro x1 Y ⟨rfl,BE⟩;have BP:Hid (a0y g S w Y s2):=At.out.trans BE;clear BE));go_roundw;case rel=>exact⟨m+1,s2,by go_num,by omega,Bm,BO,BP⟩
      case measure=>simp[intOf];omega
     ·have tm:decide (((48+m:Nat):Int)<(d:Int))=false:=by simp;omega
      have An:Hid (sm=R):=by
       have:=A2.out;rw[show d-48-m=0 by omega]at this;show _=_;cases this;rfl
      have Ag:Hid (a1h R):=by have:=A3.out;rw[An.out]at this;exact this
      have T:Hid (a0y g S w wr R):=by have:=At.out;rw[An.out]at this;exact this
      go_wp2_with (first|(go_at_call 77;refine(a0Z b k o C A _ Bi.out HV.out).mono ?_;rintro x1 N ⟨rfl,y⟩;rw[y];clear y));go_roundw;case rel=>exact⟨o,f',R,by go_num,by omega,by omega,Ai,Ag,T⟩
      case measure=>simp[intOf];omega
   ·obtain⟨AY,BF⟩:=b1V b g C A J.1 Ay.out.ok _ _ _ v hv BG;have BS:Hid (a4q b g C A J.1 e.lo e.hi v):=BF;have Bd:=b9R (a6Z C A f' t.p t.q) (a6Z C A f' t.r t.s) (c:=C[k]) (a:=A[k]) (e:=e) AY _ _ Ay.out As;have AM:=a6Z C A f' o hi _ _ Bd.1 AL;have Ag:Hid (a1h R):=Bd.1;have Ax:Hid (R.2.length≤100000):=by show _≤_;omega
    have Af:Hid (a70 (fun s=>a2n C A f' t.p t.q s) (fun s=>a2n C A f' t.r t.s s) C[k] A[k] e v J=some R):=As;have Cn:((C[k].toNat:Int)==42)=false:=a1e (b:=42) AP;have Bj:Hid (a1h (a3B e v J,J.2)):=a7C Ay.out e AY _;have BY:bc<wr.heap.size:=r_ wr _ Aq;have O:ba<wr.heap.size:=r_ wr _ AA;have P:b<wr.heap.size:=r_ wr _ q0;generalize By:C[k]=c at*;generalize Bu:A[k]=av at*;have BL:Hid (C[k]=c):=By;obtain⟨pl,rfl⟩:∃pl:Nat,av=pl:=⟨av.toNat,by omega⟩
    have BI:Hid (A[k]=(pl:Int)):=Bu;obtain⟨en,el,AG,AF⟩:=e;simp only at B0 BG;have B7:Hid (a0S v):=AY;obtain⟨X,vf⟩:=v;clear hc ha Bu By As Bd AM AL ho he ht AR BF hv AY AP BX;go_upto_if 73 with(first|(go_at_call 78;refine(a3O b k t C A _ AC.out HT.out).mono ?_;rintro x1 N ⟨rfl,y⟩;rw[y];clear y)|(go_at_call 79;refine(a82 b k ⟨en,el,AG,AF⟩ C A _ AC.out HE.out).mono ?_;rintro x1 N ⟨rfl,y⟩;rw[y];clear y)|(go_at_call 80;refine(BS.out _ AC.out Aj.out.state.vals).mono ?_;rintro x1 Y ⟨rfl,M⟩;have A1:Hid (B__ wr Y):=M;clear M));have B2:=A1.out.size;generalize hW:Y.alloc (.cells #[i_ X,i_ vf] 59)=W;have Ap:B__ wr W:=by rw[←hW];exact A1.out.alloc B2 _
    have y0:W.cell? (a__ Y.heap.size 0)=some (i_ X):=by rw[←hW];simp[go_sem]
    have y1:W.cell? (a__ Y.heap.size 1)=some (i_ vf):=by rw[←hW];simp[go_sem]
    have BV:W.heap.size=Y.heap.size+1:=by rw[←hW];simp
    have Az:a0E W g (fun k=>S k∨w.heap.size≤k) J:=Aj.out.state.keep Ap (a_ _);have AE:Hid (a0y g S w W J):=Aj.out.trans (a0y.still Az Ap);have A0:g<wr.heap.size:=Aj.out.state.lt;have Aw:¬g=Y.heap.size:=by omega
    obtain⟨vr,U,AK,AS⟩:=Aj.out.state.row;have Bq:Hid (∀q,vr.ownBlock=some q→q<Y.heap.size):=fun q hq=>by have:=(AK.lt q hq).2;omega
    have A4:Hid (W.cell? (a__ g 52)=some vr):=(Ap.cell (p:=(a__ g 52)) A0).trans U;clear hW A1 U AK AS
    go_cut []from 73 to 79 (fun wx=>Hid (a0y g S w wx (a3B ⟨en,el,AG,AF⟩ ⟨X,vf⟩ J,J.2))∧wx.cell? (a__ Y.heap.size 0)=some (i_ X)∧wx.cell? (a__ Y.heap.size 1)=some (i_ vf)∧Hid (wx.cell? (a__ g 52)=some vr))
    case first=>
     by_cases Bb:0≤en
     ·obtain⟨nn,rfl⟩:∃nn:Nat,en=nn:=⟨en.toNat,by omega⟩
      have BC:nn<26:=by omega
      obtain⟨e0,e1⟩:=Az.cell nn BC;have fz:=Az.fz;have HG:Hid (a3B ⟨(nn:Int),el,AG,AF⟩ ⟨X,vf⟩ J=J.1.set nn ⟨X,vf⟩):=by show _=_;unfold a3B;rw[n_ Bb];rfl
      have BR:Hid (a0E W g (fun k=>S k∨w.heap.size≤k) J):=Az;have tn:decide ((0:Int)≤(nn:Int))=true:=by simp
      rw[tn];clear Az Ap tn;go_wp2_with fail;go_region;all_goals (go_wp2_with fail;go_meet)
      all_goals rw[HG.out]
      all_goals refine⟨⟨((BR.out.set Ay.out.len nn BC ⟨X,vf⟩).drew),(((AE.out.onto).setCell _ _).setCell _ _).drew⟩,by simp[go_sem,y0,Aw],by simp[go_sem,y1,Aw],?_⟩
      all_goals exact(show _=_ by rw[←A4.out];simp[go_sem,show¬nn*2=52 by omega,show¬nn*2+1=52 by omega])
     ·have HG:Hid (a3B ⟨en,el,AG,AF⟩ ⟨X,vf⟩ J=J.1):=by show _=_;unfold a3B;rw[f_ Bb]
      have tn:decide ((0:Int)≤en)=false:=by simpa using Bb
      rw[tn];clear tn Ap Az;go_wp2_with fail
      go_meet
      rw[HG.out];exact⟨AE.out,y0,y1,A4⟩
    case rest=>
    obtain⟨H,y0,y1,Bp⟩:=hcut;clear AA Aq q0 q1 AC BK AE A4 BY O P BV A0;have A6:=a4v Ab.out H.out.onto Ae Z.out;have Bh:Hid (B__ w0 wc):=A6;obtain⟨ac,aa,bc,ba,Br,Au,B5,q0,q1,hc,ha⟩:=Aa.out.low A6;obtain⟨rfl,_,Aq⟩:=hc k h0;obtain⟨rfl,B4,AA⟩:=ha k h1;rw[BL.out]at Aq;rw[BI.out]at AA;have Ce:g<wc.heap.size:=H.out.state.lt;have AH:=H.out.state.fz;obtain⟨I,U,AK,AS⟩:=H.out.state.row;have B1:I=vr:=by have:=Bp.out;rw[U]at this;cases this;rfl
    subst B1;have Ah:Hid (wc.ownsRow (g+1) 61 5 I J.2.length (a0B J.2)):=AK;have T:Hid (∀k,I.ownBlock=some k→S k∨w.heap.size≤k):=AS;have P:b<wc.heap.size:=r_ wc _ q0;have O:ba<wc.heap.size:=r_ wc _ AA;have M:Y.heap.size<wc.heap.size:=r_ wc _ y0;obtain⟨iV,AW,AZ,AX,AT⟩:=a1v b0w;have Am:Hid (I.ownBlock≠some b):=fun e=>by have:=Ao.out b (T.out b e);omega
    have Al:Hid (I.ownBlock≠some ba):=fun e=>by have:=Ao.out ba (T.out ba e);omega
    have Ak:Hid (I.ownBlock≠some Y.heap.size):=fun e=>by have:=Bq.out _ e;omega
    have AV:b≠g:=by omega
    have Av:ba≠g:=by omega
    have AU:Y.heap.size≠g:=fun e=>Aw e.symm
    have L:Hid (∀V:World,V.heap[b]? =wc.heap[b]? →V.heap[ba]? =wc.heap[ba]? →V.heap[Y.heap.size]? =wc.heap[Y.heap.size]? →V.cell? (a__ b 1)=some (.slice (some (a__ ba 0)) C.length Au)∧V.cell? (a__ ba k)=some (i_ pl)∧V.cell? (a__ Y.heap.size 0)=some (i_ X)∧V.cell? (a__ Y.heap.size 1)=some (i_ vf)):=fun V e1 e2 e3=>⟨(e_ (a:=(a__ b 1)) e1).trans q1,(e_ (a:=(a__ ba k)) e2).trans AA,(e_ (a:=(a__ Y.heap.size 0)) e3).trans y0,(e_ (a:=(a__ Y.heap.size 1)) e3).trans y1⟩
    have Ck:(0:Int)≤(k:Int):=by omega
    have Cl:(k:Int)<(C.length:Int):=by omega
    clear hc ha A6 AK AS Bp;by_cases AI:c=62
    ·subst AI;have l:=Af.out;unfold a70 at l;rw[n_ rfl]at l
     split at l
     case isFalse=>cases l
     rename_i AJ;simp only at AJ;obtain⟨ll,rfl⟩:∃ll:Nat,el=ll:=⟨el.toNat,by omega⟩
     simp only[U_,W_]at l;have BA:J.2.length≤100000:=by have:=Ax.out;rw[←l]at this;simp at this;omega
     have An:=h__ l;clear l Af AJ;go_upto_region 15 with fail;refine wp_region_held_drew (S:=fun N=>N.cell? (a__ b 1)=some (.slice (some (a__ ba 0)) C.length Au)∧N.cell? (a__ ba k)=some (i_ pl)∧N.cell? (a__ Y.heap.size 0)=some (i_ X)∧N.cell? (a__ Y.heap.size 1)=some (i_ vf)) (by kernel_rfl) (L.out _ rfl rfl rfl) (fun u=> ?_);refine wpAnyH_take (i:=0) (v:= ?v0n0) rfl (by kernel_rfl) (by kernel_rfl) (by kernel_rfl) (fun _ _ _ h=>h) (Or.inl ⟨by rfl,?hy0n0⟩) (by assumption) ?rest0n0;case hy0n0=>(intro w hSw;(try dsimp only at hSw);go_simp;(try with_reducible rfl))
     simp only[Act.put,b_,l_,j_,h_,c_,d_];refine wpAnyH_take (i:=1) (v:= ?v1n0) rfl (by kernel_rfl) (by kernel_rfl) (by kernel_rfl) (fun _ _ _ h=>h) (Or.inl ⟨by rfl,?hy1n0⟩) (by assumption) ?rest1n0;case hy1n0=>(intro w hSw;(try dsimp only at hSw);go_simp;(try with_reducible rfl))
     simp only[Act.put,b_,l_,j_,h_,c_,d_];refine wpAnyH_take (i:=2) (v:= ?v2n0) rfl (by kernel_rfl) (by kernel_rfl) (by kernel_rfl) (fun _ _ _ h=>h) (Or.inl ⟨by rfl,?hy2n0⟩) (by assumption) ?rest2n0;case hy2n0=>(intro w hSw;(try dsimp only at hSw);go_simp;(try with_reducible rfl))
     simp only[Act.put,b_,l_,j_,h_,c_,d_];refine wpAnyH_take (i:=3) (v:= ?v3n0) rfl (by kernel_rfl) (by kernel_rfl) (by kernel_rfl) (fun _ _ _ h=>h) (Or.inl ⟨by rfl,?hy3n0⟩) (by assumption) ?rest3n0;case hy3n0=>(intro w hSw;(try dsimp only at hSw);go_simp;(try with_reducible rfl))
     simp only[Act.put,b_,l_,j_,h_,c_,d_];refine wpAnyH_take (i:=5) (v:= ?v5n0) rfl (by kernel_rfl) (by kernel_rfl) (by kernel_rfl) (fun _ _ _ h=>h) (Or.inl ⟨by rfl,?hy5n0⟩) (by assumption) ?rest5n0;case hy5n0=>(intro w hSw;(try dsimp only at hSw);go_simp;(try with_reducible rfl))
     simp only[Act.put,b_,l_,j_,h_,c_,d_];refine wpAnyH_take (i:=6) (v:= ?v6n0) rfl (by kernel_rfl) (by kernel_rfl) (by kernel_rfl) (fun _ _ _ h=>h) (Or.inl ⟨by rfl,?hy6n0⟩) (by assumption) ?rest6n0;case hy6n0=>(intro w hSw;(try dsimp only at hSw);go_simp;(try with_reducible rfl))
     simp only[Act.put,b_,l_,j_,h_,c_,d_];refine wpAnyH_take (i:=7) (v:= ?v7n0) rfl (by kernel_rfl) (by kernel_rfl) (by kernel_rfl) (fun _ _ _ h=>h) (Or.inl ⟨by rfl,?hy7n0⟩) (by assumption) ?rest7n0;case hy7n0=>(intro w hSw;(try dsimp only at hSw);go_simp;(try with_reducible rfl))
     simp only[Act.put,b_,l_,j_,h_,c_,d_];refine wpAnyH_take (i:=8) (v:= ?v8n0) rfl (by kernel_rfl) (by kernel_rfl) (by kernel_rfl) (fun _ _ _ h=>h) (Or.inl ⟨by rfl,?hy8n0⟩) (by assumption) ?rest8n0;case hy8n0=>(intro w hSw;(try dsimp only at hSw);go_simp;(try with_reducible rfl))
     simp only[Act.put,b_,l_,j_,h_,c_,d_];refine wpAnyH_take (i:=9) (v:= ?v9n0) rfl (by kernel_rfl) (by kernel_rfl) (by kernel_rfl) (fun _ _ _ h=>h) (Or.inl ⟨by rfl,?hy9n0⟩) (by assumption) ?rest9n0;case hy9n0=>(intro w hSw;(try dsimp only at hSw);go_simp;(try with_reducible rfl))
     simp only[Act.put,b_,l_,j_,h_,c_,d_];refine wpAnyH_take (i:=10) (v:= ?v10n0) rfl (by kernel_rfl) (by kernel_rfl) (by kernel_rfl) (fun _ _ _ h=>h) (Or.inl ⟨by rfl,?hy10n0⟩) (by assumption) ?rest10n0;case hy10n0=>(intro w hSw;(try dsimp only at hSw);go_simp;(try with_reducible rfl))
     simp only[Act.put,b_,l_,j_,h_,c_,d_];refine wpAnyH_take (i:=11) (v:= ?v11n0) rfl (by kernel_rfl) (by kernel_rfl) (by kernel_rfl) (fun _ _ _ h=>h) (Or.inl ⟨by rfl,?hy11n0⟩) (by assumption) ?rest11n0;case hy11n0=>(intro w hSw;(try dsimp only at hSw);go_simp;(try with_reducible rfl))
     simp only[Act.put,b_,l_,j_,h_,c_,d_];refine wpAnyH_take (i:=12) (v:= ?v12n0) rfl (by kernel_rfl) (by kernel_rfl) (by kernel_rfl) (fun _ _ _ h=>h) (Or.inl ⟨by rfl,?hy12n0⟩) (by assumption) ?rest12n0;case hy12n0=>(intro w hSw;(try dsimp only at hSw);go_simp;(try with_reducible rfl))
     simp only[Act.put,b_,l_,j_,h_,c_,d_];refine wpAnyH_take (i:=13) (v:= ?v13n0) rfl (by kernel_rfl) (by kernel_rfl) (by kernel_rfl) (fun _ _ _ h=>h) (Or.inl ⟨by rfl,?hy13n0⟩) (by assumption) ?rest13n0;case hy13n0=>(intro w hSw;(try dsimp only at hSw);go_simp;(try with_reducible rfl))
     simp only[Act.put,b_,l_,j_,h_,c_,d_];refine wpAnyH_take (i:=14) (v:= ?v14n0) rfl (by kernel_rfl) (by kernel_rfl) (by kernel_rfl) (fun _ _ _ h=>h) (Or.inl ⟨by rfl,?hy14n0⟩) (by assumption) ?rest14n0;case hy14n0=>(intro w hSw;(try dsimp only at hSw);go_simp;(try with_reducible rfl))
     simp only[Act.put,b_,l_,j_,h_,c_,d_];refine wpAnyH_ready (rs:= [4,15]) (by kernel_rfl) (by simp) ?_;refine AllReadyH.cons rfl (fun K E=> ?_) (AllReadyH.cons rfl (fun K E=> ?_) AllReadyH.nil)
     ·go_simp;refine E.out _ _ (L.out _ rfl rfl rfl) (fun u=> ?_);clear E K;try simp only[Act.put,b_,l_,j_,h_,c_,d_]
      refine wpAnyH_ready (rs:= [15]) (by kernel_rfl) (by simp) ?_;refine AllReadyH.cons rfl (fun K E=> ?_) AllReadyH.nil;go_simp;refine E.out _ _ (L.out _ (q_ _ _ _ P) (q_ _ _ _ O) (q_ _ _ _ M)) (fun u=> ?_);clear E K;try simp only[Act.put,b_,l_,j_,h_,c_,d_]
      refine wpAnyH_ready (rs:= [16]) (by kernel_rfl) (by simp) ?_;refine AllReadyH.cons rfl (fun K E=> ?_) AllReadyH.nil;refine a4S rfl (.tmp 93) (.tmp 104) 51 rfl (g+1) 61 iV (.agg #[i_ 0,i_ 0,i_ 0,i_ 0,i_ 0]) 5 40 underlying51 AW AZ AX AT rfl (by decide) I J.2.length (a0B J.2) (by simp[Act.eval,Act.put]) (by exact(Ah.out.alloc _).drew) (a__ wc.heap.size 0) 1 1 (a1J ⟨0,pl,ll,⟨X,vf⟩⟩) (by simp[Act.eval,Act.put]) rfl (by exact a77 wc ⟨0,pl,ll,⟨X,vf⟩⟩ 61) (by intro q hq;simp[a1J]at hq;rcases hq with rfl|rfl|rfl|rfl|rfl<;>rfl) (by unfold maxLen;omega) (by omega) (by simp;omega) (by decide) ?_;intro v' w2 G z Ad;have hk:=a6A H.out.state U Ah.out T.out (W:=(wc.alloc (.cells #[i_ 0,i_ pl,i_ ll,i_ X,i_ vf] 61)).drew) (((g_ _ _).alloc (a_ _) _).drew) z;have Bf:w2.cell? (a__ g 52)=some I:=(e_ (a:=(a__ g 52)) hk.1).trans U;have Bg:∀o,w2.frozen? (a__ g o)=false:=(fun o=>(I_ (a:=(a__ g o)) hk.1).trans (AH o))
      obtain⟨gn,Ac,rfl⟩:=Joins.ownsRow_form G (by omega);have D:Hid (a0y g S w (w2.setCell (a__ g 52) (.slice (some (a__ gn 0)) (J.2.length+1) Ac)) R):=by
       rw[←An.out];exact H.out.trans ⟨a7l H.out.state T.out (by simp) hk.1 G Ad,hk.2.setCell _ _⟩
      have B:∀q,q<wc.heap.size→I.ownBlock≠some q→w2.heap[q]? =wc.heap[q]? :=fun q hq Ar=>(z.block q (by simp;omega) (fun e=>Ar e.symm)).trans (q_ _ _ _ hq)
      refine E.out _ _ (L.out _ (B b P Am.out) (B ba O Al.out) (B _ M Ak.out)) (fun u=> ?_);clear E K;try simp only[Act.put,b_,l_,j_,h_,c_,d_]
      refine wpAnyH_take (i:=17) (v:= ?v17p0) rfl (by kernel_rfl) (by kernel_rfl) (by kernel_rfl) (fun _ _ _ h=>h) (Or.inl ⟨by rfl,?hy17p0⟩) (by assumption) ?rest17p0;case hy17p0=>(intro w hSw;(try dsimp only at hSw);go_simp;(try with_reducible rfl))
      simp only[Act.put,b_,l_,j_,h_,c_,d_];refine wpAnyH_take (i:=18) (v:= ?v18p0) rfl (by kernel_rfl) (by kernel_rfl) (by kernel_rfl) (fun _ _ _ h=>h) (Or.inl ⟨by rfl,?hy18p0⟩) (by assumption) ?rest18p0;case hy18p0=>(intro w hSw;(try dsimp only at hSw);go_simp;(try with_reducible rfl))
      simp only[Act.put,b_,l_,j_,h_,c_,d_];refine wpAnyH_ready (rs:= [19]) (by kernel_rfl) (by simp) ?_;refine AllReadyH.cons rfl (fun K E=> ?_) AllReadyH.nil;go_simp;refine E.out _ _ (L.out _ ((o_ _ _ _ _ AV).trans (B b P Am.out)) ((o_ _ _ _ _ Av).trans (B ba O Al.out)) ((o_ _ _ _ _ AU).trans (B _ M Ak.out))) (fun u=> ?_);clear E K B hk z Ad G;try simp only[Act.put,b_,l_,j_,h_,c_,d_]
      refine wpAnyH_done (by kernel_rfl) ?_ _
      (go_wp2_with (first|(go_at_call 77;refine(a0Z b k o C A _ (Aa.out.below (a4v Ab.out D.out.onto Ae Z.out)) HV.out).mono ?_;rintro x1 N ⟨rfl,y⟩;rw[y];clear y));go_roundw;(case rel=>exact⟨o,f',R,by go_num,by omega,by omega,Ai,Ag,D⟩);(case measure=>simp[intOf];omega))
     ·go_simp;refine E.out _ _ (L.out _ (q_ _ _ _ P) (q_ _ _ _ O) (q_ _ _ _ M)) (fun u=> ?_);clear E K;try simp only[Act.put,b_,l_,j_,h_,c_,d_]
      refine wpAnyH_ready (rs:= [4]) (by kernel_rfl) (by simp) ?_;refine AllReadyH.cons rfl (fun K E=> ?_) AllReadyH.nil;go_simp;refine E.out _ _ (L.out _ (q_ _ _ _ P) (q_ _ _ _ O) (q_ _ _ _ M)) (fun u=> ?_);clear E K;try simp only[Act.put,b_,l_,j_,h_,c_,d_]
      refine wpAnyH_ready (rs:= [16]) (by kernel_rfl) (by simp) ?_;refine AllReadyH.cons rfl (fun K E=> ?_) AllReadyH.nil;refine a4S rfl (.tmp 93) (.tmp 104) 51 rfl (g+1) 61 iV (.agg #[i_ 0,i_ 0,i_ 0,i_ 0,i_ 0]) 5 40 underlying51 AW AZ AX AT rfl (by decide) I J.2.length (a0B J.2) (by simp[Act.eval,Act.put]) (by exact(Ah.out.alloc _).drew) (a__ wc.heap.size 0) 1 1 (a1J ⟨0,pl,ll,⟨X,vf⟩⟩) (by simp[Act.eval,Act.put]) rfl (by exact a77 wc ⟨0,pl,ll,⟨X,vf⟩⟩ 61) (by intro q hq;simp[a1J]at hq;rcases hq with rfl|rfl|rfl|rfl|rfl<;>rfl) (by unfold maxLen;omega) (by omega) (by simp;omega) (by decide) ?_;intro v' w2 G z Ad;have hk:=a6A H.out.state U Ah.out T.out (W:=(wc.alloc (.cells #[i_ 0,i_ pl,i_ ll,i_ X,i_ vf] 61)).drew) (((g_ _ _).alloc (a_ _) _).drew) z;have Bf:w2.cell? (a__ g 52)=some I:=(e_ (a:=(a__ g 52)) hk.1).trans U;have Bg:∀o,w2.frozen? (a__ g o)=false:=(fun o=>(I_ (a:=(a__ g o)) hk.1).trans (AH o))
      obtain⟨gn,Ac,rfl⟩:=Joins.ownsRow_form G (by omega);have D:Hid (a0y g S w (w2.setCell (a__ g 52) (.slice (some (a__ gn 0)) (J.2.length+1) Ac)) R):=by
       rw[←An.out];exact H.out.trans ⟨a7l H.out.state T.out (by simp) hk.1 G Ad,hk.2.setCell _ _⟩
      have B:∀q,q<wc.heap.size→I.ownBlock≠some q→w2.heap[q]? =wc.heap[q]? :=fun q hq Ar=>(z.block q (by simp;omega) (fun e=>Ar e.symm)).trans (q_ _ _ _ hq)
      refine E.out _ _ (L.out _ (B b P Am.out) (B ba O Al.out) (B _ M Ak.out)) (fun u=> ?_);clear E K;try simp only[Act.put,b_,l_,j_,h_,c_,d_]
      refine wpAnyH_take (i:=17) (v:= ?v17q0) rfl (by kernel_rfl) (by kernel_rfl) (by kernel_rfl) (fun _ _ _ h=>h) (Or.inl ⟨by rfl,?hy17q0⟩) (by assumption) ?rest17q0;case hy17q0=>(intro w hSw;(try dsimp only at hSw);go_simp;(try with_reducible rfl))
      simp only[Act.put,b_,l_,j_,h_,c_,d_];refine wpAnyH_take (i:=18) (v:= ?v18q0) rfl (by kernel_rfl) (by kernel_rfl) (by kernel_rfl) (fun _ _ _ h=>h) (Or.inl ⟨by rfl,?hy18q0⟩) (by assumption) ?rest18q0;case hy18q0=>(intro w hSw;(try dsimp only at hSw);go_simp;(try with_reducible rfl))
      simp only[Act.put,b_,l_,j_,h_,c_,d_];refine wpAnyH_ready (rs:= [19]) (by kernel_rfl) (by simp) ?_;refine AllReadyH.cons rfl (fun K E=> ?_) AllReadyH.nil;go_simp;refine E.out _ _ (L.out _ ((o_ _ _ _ _ AV).trans (B b P Am.out)) ((o_ _ _ _ _ Av).trans (B ba O Al.out)) ((o_ _ _ _ _ AU).trans (B _ M Ak.out))) (fun u=> ?_);clear E K B hk z Ad G;try simp only[Act.put,b_,l_,j_,h_,c_,d_]
      refine wpAnyH_done (by kernel_rfl) ?_ _
      (go_wp2_with (first|(go_at_call 77;refine(a0Z b k o C A _ (Aa.out.below (a4v Ab.out D.out.onto Ae Z.out)) HV.out).mono ?_;rintro x1 N ⟨rfl,y⟩;rw[y];clear y));go_roundw;(case rel=>exact⟨o,f',R,by go_num,by omega,by omega,Ai,Ag,D⟩);(case measure=>simp[intOf];omega))
    have BH:((c.toNat:Int)==62)=false:=a1e (b:=62) AI;by_cases AQ:c=94
    ·subst AQ;have l:=Af.out;unfold a70 at l;rw[f_ (by decide),n_ rfl]at l
     split at l
     case isFalse=>cases l
     rename_i AJ;simp only at AJ;obtain⟨ll,rfl⟩:∃ll:Nat,el=ll:=⟨el.toNat,by omega⟩
     simp only[U_,W_]at l;have BA:J.2.length≤100000:=by have:=Ax.out;rw[←l]at this;simp at this;omega
     have An:=h__ l;clear l Af AJ BH AI;go_upto_region 17 with fail;refine wp_region_held_drew (S:=fun N=>N.cell? (a__ b 1)=some (.slice (some (a__ ba 0)) C.length Au)∧N.cell? (a__ ba k)=some (i_ pl)∧N.cell? (a__ Y.heap.size 0)=some (i_ X)∧N.cell? (a__ Y.heap.size 1)=some (i_ vf)) (by kernel_rfl) (L.out _ rfl rfl rfl) (fun u=> ?_);refine wpAnyH_take (i:=0) (v:= ?v0n1) rfl (by kernel_rfl) (by kernel_rfl) (by kernel_rfl) (fun _ _ _ h=>h) (Or.inl ⟨by rfl,?hy0n1⟩) (by assumption) ?rest0n1;case hy0n1=>(intro w hSw;(try dsimp only at hSw);go_simp;(try with_reducible rfl))
     simp only[Act.put,b_,l_,j_,h_,c_,d_];refine wpAnyH_take (i:=1) (v:= ?v1n1) rfl (by kernel_rfl) (by kernel_rfl) (by kernel_rfl) (fun _ _ _ h=>h) (Or.inl ⟨by rfl,?hy1n1⟩) (by assumption) ?rest1n1;case hy1n1=>(intro w hSw;(try dsimp only at hSw);go_simp;(try with_reducible rfl))
     simp only[Act.put,b_,l_,j_,h_,c_,d_];refine wpAnyH_take (i:=2) (v:= ?v2n1) rfl (by kernel_rfl) (by kernel_rfl) (by kernel_rfl) (fun _ _ _ h=>h) (Or.inl ⟨by rfl,?hy2n1⟩) (by assumption) ?rest2n1;case hy2n1=>(intro w hSw;(try dsimp only at hSw);go_simp;(try with_reducible rfl))
     simp only[Act.put,b_,l_,j_,h_,c_,d_];refine wpAnyH_take (i:=3) (v:= ?v3n1) rfl (by kernel_rfl) (by kernel_rfl) (by kernel_rfl) (fun _ _ _ h=>h) (Or.inl ⟨by rfl,?hy3n1⟩) (by assumption) ?rest3n1;case hy3n1=>(intro w hSw;(try dsimp only at hSw);go_simp;(try with_reducible rfl))
     simp only[Act.put,b_,l_,j_,h_,c_,d_];refine wpAnyH_take (i:=5) (v:= ?v5n1) rfl (by kernel_rfl) (by kernel_rfl) (by kernel_rfl) (fun _ _ _ h=>h) (Or.inl ⟨by rfl,?hy5n1⟩) (by assumption) ?rest5n1;case hy5n1=>(intro w hSw;(try dsimp only at hSw);go_simp;(try with_reducible rfl))
     simp only[Act.put,b_,l_,j_,h_,c_,d_];refine wpAnyH_take (i:=6) (v:= ?v6n1) rfl (by kernel_rfl) (by kernel_rfl) (by kernel_rfl) (fun _ _ _ h=>h) (Or.inl ⟨by rfl,?hy6n1⟩) (by assumption) ?rest6n1;case hy6n1=>(intro w hSw;(try dsimp only at hSw);go_simp;(try with_reducible rfl))
     simp only[Act.put,b_,l_,j_,h_,c_,d_];refine wpAnyH_take (i:=7) (v:= ?v7n1) rfl (by kernel_rfl) (by kernel_rfl) (by kernel_rfl) (fun _ _ _ h=>h) (Or.inl ⟨by rfl,?hy7n1⟩) (by assumption) ?rest7n1;case hy7n1=>(intro w hSw;(try dsimp only at hSw);go_simp;(try with_reducible rfl))
     simp only[Act.put,b_,l_,j_,h_,c_,d_];refine wpAnyH_take (i:=8) (v:= ?v8n1) rfl (by kernel_rfl) (by kernel_rfl) (by kernel_rfl) (fun _ _ _ h=>h) (Or.inl ⟨by rfl,?hy8n1⟩) (by assumption) ?rest8n1;case hy8n1=>(intro w hSw;(try dsimp only at hSw);go_simp;(try with_reducible rfl))
     simp only[Act.put,b_,l_,j_,h_,c_,d_];refine wpAnyH_take (i:=9) (v:= ?v9n1) rfl (by kernel_rfl) (by kernel_rfl) (by kernel_rfl) (fun _ _ _ h=>h) (Or.inl ⟨by rfl,?hy9n1⟩) (by assumption) ?rest9n1;case hy9n1=>(intro w hSw;(try dsimp only at hSw);go_simp;(try with_reducible rfl))
     simp only[Act.put,b_,l_,j_,h_,c_,d_];refine wpAnyH_take (i:=10) (v:= ?v10n1) rfl (by kernel_rfl) (by kernel_rfl) (by kernel_rfl) (fun _ _ _ h=>h) (Or.inl ⟨by rfl,?hy10n1⟩) (by assumption) ?rest10n1;case hy10n1=>(intro w hSw;(try dsimp only at hSw);go_simp;(try with_reducible rfl))
     simp only[Act.put,b_,l_,j_,h_,c_,d_];refine wpAnyH_take (i:=11) (v:= ?v11n1) rfl (by kernel_rfl) (by kernel_rfl) (by kernel_rfl) (fun _ _ _ h=>h) (Or.inl ⟨by rfl,?hy11n1⟩) (by assumption) ?rest11n1;case hy11n1=>(intro w hSw;(try dsimp only at hSw);go_simp;(try with_reducible rfl))
     simp only[Act.put,b_,l_,j_,h_,c_,d_];refine wpAnyH_take (i:=12) (v:= ?v12n1) rfl (by kernel_rfl) (by kernel_rfl) (by kernel_rfl) (fun _ _ _ h=>h) (Or.inl ⟨by rfl,?hy12n1⟩) (by assumption) ?rest12n1;case hy12n1=>(intro w hSw;(try dsimp only at hSw);go_simp;(try with_reducible rfl))
     simp only[Act.put,b_,l_,j_,h_,c_,d_];refine wpAnyH_take (i:=13) (v:= ?v13n1) rfl (by kernel_rfl) (by kernel_rfl) (by kernel_rfl) (fun _ _ _ h=>h) (Or.inl ⟨by rfl,?hy13n1⟩) (by assumption) ?rest13n1;case hy13n1=>(intro w hSw;(try dsimp only at hSw);go_simp;(try with_reducible rfl))
     simp only[Act.put,b_,l_,j_,h_,c_,d_];refine wpAnyH_take (i:=14) (v:= ?v14n1) rfl (by kernel_rfl) (by kernel_rfl) (by kernel_rfl) (fun _ _ _ h=>h) (Or.inl ⟨by rfl,?hy14n1⟩) (by assumption) ?rest14n1;case hy14n1=>(intro w hSw;(try dsimp only at hSw);go_simp;(try with_reducible rfl))
     simp only[Act.put,b_,l_,j_,h_,c_,d_];refine wpAnyH_ready (rs:= [4,15]) (by kernel_rfl) (by simp) ?_;refine AllReadyH.cons rfl (fun K E=> ?_) (AllReadyH.cons rfl (fun K E=> ?_) AllReadyH.nil)
     ·go_simp;refine E.out _ _ (L.out _ rfl rfl rfl) (fun u=> ?_);clear E K;try simp only[Act.put,b_,l_,j_,h_,c_,d_]
      refine wpAnyH_ready (rs:= [15]) (by kernel_rfl) (by simp) ?_;refine AllReadyH.cons rfl (fun K E=> ?_) AllReadyH.nil;go_simp;refine E.out _ _ (L.out _ (q_ _ _ _ P) (q_ _ _ _ O) (q_ _ _ _ M)) (fun u=> ?_);clear E K;try simp only[Act.put,b_,l_,j_,h_,c_,d_]
      refine wpAnyH_ready (rs:= [16]) (by kernel_rfl) (by simp) ?_;refine AllReadyH.cons rfl (fun K E=> ?_) AllReadyH.nil;refine a4S rfl (.tmp 114) (.tmp 125) 51 rfl (g+1) 61 iV (.agg #[i_ 0,i_ 0,i_ 0,i_ 0,i_ 0]) 5 40 underlying51 AW AZ AX AT rfl (by decide) I J.2.length (a0B J.2) (by simp[Act.eval,Act.put]) (by exact(Ah.out.alloc _).drew) (a__ wc.heap.size 0) 1 1 (a1J ⟨1,pl,ll,⟨X,vf⟩⟩) (by simp[Act.eval,Act.put]) rfl (by exact a77 wc ⟨1,pl,ll,⟨X,vf⟩⟩ 61) (by intro q hq;simp[a1J]at hq;rcases hq with rfl|rfl|rfl|rfl|rfl<;>rfl) (by unfold maxLen;omega) (by omega) (by simp;omega) (by decide) ?_;intro v' w2 G z Ad;have hk:=a6A H.out.state U Ah.out T.out (W:=(wc.alloc (.cells #[i_ 1,i_ pl,i_ ll,i_ X,i_ vf] 61)).drew) (((g_ _ _).alloc (a_ _) _).drew) z;have Bf:w2.cell? (a__ g 52)=some I:=(e_ (a:=(a__ g 52)) hk.1).trans U;have Bg:∀o,w2.frozen? (a__ g o)=false:=(fun o=>(I_ (a:=(a__ g o)) hk.1).trans (AH o))
      obtain⟨gn,Ac,rfl⟩:=Joins.ownsRow_form G (by omega);have D:Hid (a0y g S w (w2.setCell (a__ g 52) (.slice (some (a__ gn 0)) (J.2.length+1) Ac)) R):=by
       rw[←An.out];exact H.out.trans ⟨a7l H.out.state T.out (by simp) hk.1 G Ad,hk.2.setCell _ _⟩
      have B:∀q,q<wc.heap.size→I.ownBlock≠some q→w2.heap[q]? =wc.heap[q]? :=fun q hq Ar=>(z.block q (by simp;omega) (fun e=>Ar e.symm)).trans (q_ _ _ _ hq)
      refine E.out _ _ (L.out _ (B b P Am.out) (B ba O Al.out) (B _ M Ak.out)) (fun u=> ?_);clear E K;try simp only[Act.put,b_,l_,j_,h_,c_,d_]
      refine wpAnyH_take (i:=17) (v:= ?v17p1) rfl (by kernel_rfl) (by kernel_rfl) (by kernel_rfl) (fun _ _ _ h=>h) (Or.inl ⟨by rfl,?hy17p1⟩) (by assumption) ?rest17p1;case hy17p1=>(intro w hSw;(try dsimp only at hSw);go_simp;(try with_reducible rfl))
      simp only[Act.put,b_,l_,j_,h_,c_,d_];refine wpAnyH_take (i:=18) (v:= ?v18p1) rfl (by kernel_rfl) (by kernel_rfl) (by kernel_rfl) (fun _ _ _ h=>h) (Or.inl ⟨by rfl,?hy18p1⟩) (by assumption) ?rest18p1;case hy18p1=>(intro w hSw;(try dsimp only at hSw);go_simp;(try with_reducible rfl))
      simp only[Act.put,b_,l_,j_,h_,c_,d_];refine wpAnyH_ready (rs:= [19]) (by kernel_rfl) (by simp) ?_;refine AllReadyH.cons rfl (fun K E=> ?_) AllReadyH.nil;go_simp;refine E.out _ _ (L.out _ ((o_ _ _ _ _ AV).trans (B b P Am.out)) ((o_ _ _ _ _ Av).trans (B ba O Al.out)) ((o_ _ _ _ _ AU).trans (B _ M Ak.out))) (fun u=> ?_);clear E K B hk z Ad G;try simp only[Act.put,b_,l_,j_,h_,c_,d_]
      refine wpAnyH_done (by kernel_rfl) ?_ _
      (go_wp2_with (first|(go_at_call 77;refine(a0Z b k o C A _ (Aa.out.below (a4v Ab.out D.out.onto Ae Z.out)) HV.out).mono ?_;rintro x1 N ⟨rfl,y⟩;rw[y];clear y));go_roundw;(case rel=>exact⟨o,f',R,by go_num,by omega,by omega,Ai,Ag,D⟩);(case measure=>simp[intOf];omega))
     ·go_simp;refine E.out _ _ (L.out _ (q_ _ _ _ P) (q_ _ _ _ O) (q_ _ _ _ M)) (fun u=> ?_);clear E K;try simp only[Act.put,b_,l_,j_,h_,c_,d_]
      refine wpAnyH_ready (rs:= [4]) (by kernel_rfl) (by simp) ?_;refine AllReadyH.cons rfl (fun K E=> ?_) AllReadyH.nil;go_simp;refine E.out _ _ (L.out _ (q_ _ _ _ P) (q_ _ _ _ O) (q_ _ _ _ M)) (fun u=> ?_);clear E K;try simp only[Act.put,b_,l_,j_,h_,c_,d_]
      refine wpAnyH_ready (rs:= [16]) (by kernel_rfl) (by simp) ?_;refine AllReadyH.cons rfl (fun K E=> ?_) AllReadyH.nil;refine a4S rfl (.tmp 114) (.tmp 125) 51 rfl (g+1) 61 iV (.agg #[i_ 0,i_ 0,i_ 0,i_ 0,i_ 0]) 5 40 underlying51 AW AZ AX AT rfl (by decide) I J.2.length (a0B J.2) (by simp[Act.eval,Act.put]) (by exact(Ah.out.alloc _).drew) (a__ wc.heap.size 0) 1 1 (a1J ⟨1,pl,ll,⟨X,vf⟩⟩) (by simp[Act.eval,Act.put]) rfl (by exact a77 wc ⟨1,pl,ll,⟨X,vf⟩⟩ 61) (by intro q hq;simp[a1J]at hq;rcases hq with rfl|rfl|rfl|rfl|rfl<;>rfl) (by unfold maxLen;omega) (by omega) (by simp;omega) (by decide) ?_;intro v' w2 G z Ad;have hk:=a6A H.out.state U Ah.out T.out (W:=(wc.alloc (.cells #[i_ 1,i_ pl,i_ ll,i_ X,i_ vf] 61)).drew) (((g_ _ _).alloc (a_ _) _).drew) z;have Bf:w2.cell? (a__ g 52)=some I:=(e_ (a:=(a__ g 52)) hk.1).trans U;have Bg:∀o,w2.frozen? (a__ g o)=false:=(fun o=>(I_ (a:=(a__ g o)) hk.1).trans (AH o))
      obtain⟨gn,Ac,rfl⟩:=Joins.ownsRow_form G (by omega);have D:Hid (a0y g S w (w2.setCell (a__ g 52) (.slice (some (a__ gn 0)) (J.2.length+1) Ac)) R):=by
       rw[←An.out];exact H.out.trans ⟨a7l H.out.state T.out (by simp) hk.1 G Ad,hk.2.setCell _ _⟩
      have B:∀q,q<wc.heap.size→I.ownBlock≠some q→w2.heap[q]? =wc.heap[q]? :=fun q hq Ar=>(z.block q (by simp;omega) (fun e=>Ar e.symm)).trans (q_ _ _ _ hq)
      refine E.out _ _ (L.out _ (B b P Am.out) (B ba O Al.out) (B _ M Ak.out)) (fun u=> ?_);clear E K;try simp only[Act.put,b_,l_,j_,h_,c_,d_]
      refine wpAnyH_take (i:=17) (v:= ?v17q1) rfl (by kernel_rfl) (by kernel_rfl) (by kernel_rfl) (fun _ _ _ h=>h) (Or.inl ⟨by rfl,?hy17q1⟩) (by assumption) ?rest17q1;case hy17q1=>(intro w hSw;(try dsimp only at hSw);go_simp;(try with_reducible rfl))
      simp only[Act.put,b_,l_,j_,h_,c_,d_];refine wpAnyH_take (i:=18) (v:= ?v18q1) rfl (by kernel_rfl) (by kernel_rfl) (by kernel_rfl) (fun _ _ _ h=>h) (Or.inl ⟨by rfl,?hy18q1⟩) (by assumption) ?rest18q1;case hy18q1=>(intro w hSw;(try dsimp only at hSw);go_simp;(try with_reducible rfl))
      simp only[Act.put,b_,l_,j_,h_,c_,d_];refine wpAnyH_ready (rs:= [19]) (by kernel_rfl) (by simp) ?_;refine AllReadyH.cons rfl (fun K E=> ?_) AllReadyH.nil;go_simp;refine E.out _ _ (L.out _ ((o_ _ _ _ _ AV).trans (B b P Am.out)) ((o_ _ _ _ _ Av).trans (B ba O Al.out)) ((o_ _ _ _ _ AU).trans (B _ M Ak.out))) (fun u=> ?_);clear E K B hk z Ad G;try simp only[Act.put,b_,l_,j_,h_,c_,d_]
      refine wpAnyH_done (by kernel_rfl) ?_ _
      (go_wp2_with (first|(go_at_call 77;refine(a0Z b k o C A _ (Aa.out.below (a4v Ab.out D.out.onto Ae Z.out)) HV.out).mono ?_;rintro x1 N ⟨rfl,y⟩;rw[y];clear y));go_roundw;(case rel=>exact⟨o,f',R,by go_num,by omega,by omega,Ai,Ag,D⟩);(case measure=>simp[intOf];omega))
    have B3:((c.toNat:Int)==94)=false:=a1e (b:=94) AQ;by_cases A5:c=40
    ·subst A5;have l:=Af.out;unfold a70 at l;rw[f_ (by decide),f_ (by decide),n_ rfl]at l;simp only at l;clear BH B3 AI AQ;by_cases f0:vf=0
     ·subst f0;rw[n_ rfl]at l;by_cases n0:X=0
      ·subst n0;rw[f_ (by simp)]at l;have AD:Hid (∀N:World,_):=fun N=>IH.out f' (by omega) t.r t.s _ R l Bj.out Ax.out b3 b4 (fun i=>S i∨w.heap.size≤i) N
       clear l Af;go_wp2_with (first|(go_at_call 46;refine(AD.out _ Bh.out H.out.state Ao.out).mono ?_;rintro x1 w6 ⟨rfl,AB⟩;have D:Hid (a0y g S w w6 R):=H.out.trans AB;clear AB)|(go_at_call 77;refine(a0Z b k o C A _ (Aa.out.below (a4v Ab.out D.out.onto Ae Z.out)) HV.out).mono ?_;rintro x1 N ⟨rfl,y⟩;rw[y];clear y));go_roundw;case rel=>exact⟨o,f',R,by go_num,by omega,by omega,Ai,Ag,D⟩
       case measure=>simp[intOf];omega
      ·have tn:(X !=0)=true:=by simpa using n0
       have Co:(X==0)=false:=by simpa using n0
       rw[n_ n0]at l;have AD:Hid (∀N:World,_):=fun N=>IH.out f' (by omega) t.p t.q _ R l Bj.out Ax.out b1 b2 (fun i=>I.ownBlock=some i) N
       have BQ:Hid (a0E wc g (fun i=>I.ownBlock=some i) (a3B ⟨en,el,AG,AF⟩ ⟨X,0⟩ J,J.2)):=⟨H.out.state.cell,⟨I,U,Ah.out,fun _ h=>h⟩,AH⟩
       have Bn:Hid (∀i,I.ownBlock=some i→g<i):=fun i hi=>Ao.out i (T.out i hi)
       clear l Af n0;go_wp2_with (first|(go_at_call 46;refine(AD.out _ Bh.out BQ.out Bn.out).mono ?_;rintro x1 w6 ⟨rfl,AB⟩;have D:Hid (a0y g S w w6 R):=H.out.trans (AB.wider T.out);have A9:=AB.onto.block Y.heap.size M (fun h=>Aw h.symm) (fun e=>by have:=Bq.out _ e;omega);have Cp:=(e_ (a:=(a__ Y.heap.size 0)) A9).trans y0;have Cq:=(e_ (a:=(a__ Y.heap.size 1)) A9).trans y1;clear AB A9)|(go_at_call 77;refine(a0Z b k o C A _ (Aa.out.below (a4v Ab.out D.out.onto Ae Z.out)) HV.out).mono ?_;rintro x1 N ⟨rfl,y⟩;rw[y];clear y));go_roundw;case rel=>exact⟨o,f',R,by go_num,by omega,by omega,Ai,Ag,D⟩
       case measure=>simp[intOf];omega
     ·have tf:(vf==0)=false:=by simpa using f0
      rw[f_ f0]at l;simp only[U_]at l;have D:Hid (a0y g S w wc R):=by rw[←l];exact H
      clear l Af f0
      (go_wp2_with (first|(go_at_call 77;refine(a0Z b k o C A _ (Aa.out.below (a4v Ab.out D.out.onto Ae Z.out)) HV.out).mono ?_;rintro x1 N ⟨rfl,y⟩;rw[y];clear y));go_roundw;(case rel=>exact⟨o,f',R,by go_num,by omega,by omega,Ai,Ag,D⟩);(case measure=>simp[intOf];omega))
    ·have Cm:((c.toNat:Int)==40)=false:=a1e (b:=40) A5;have l:=Af.out;unfold a70 at l;rw[f_ AI,f_ AQ,f_ A5]at l;simp only[U_]at l;have D:Hid (a0y g S w wc R):=by rw[←l];exact H
     clear l Af
     (go_wp2_with (first|(go_at_call 77;refine(a0Z b k o C A _ (Aa.out.below (a4v Ab.out D.out.onto Ae Z.out)) HV.out).mono ?_;rintro x1 N ⟨rfl,y⟩;rw[y];clear y));go_roundw;(case rel=>exact⟨o,f',R,by go_num,by omega,by omega,Ai,Ag,D⟩);(case measure=>simp[intOf];omega))
  ·have tk:decide ((k:Int)<(hi:Int))=false:=by simp;omega
   have HF:Hid (s'=J):=b7P Bk.out BB;go_wp2_with fail;go_end0;rw[HF.out];exact⟨rfl,Aj.out⟩
end Go.Proofs.YtdgmoiflahoihaaGreatDoor
