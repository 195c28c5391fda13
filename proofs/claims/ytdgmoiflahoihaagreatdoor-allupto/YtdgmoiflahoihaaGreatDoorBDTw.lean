import Derived.Test.YtdgmoiflahoihaaGreatDoorBDSw
import Derived.Deep.AppendSrc

set_option linter.unusedSimpArgs false
set_option linter.unusedVariables false
set_option maxRecDepth 100000
set_option maxHeartbeats 8000000
namespace Go.Proofs.YtdgmoiflahoihaaGreatDoor
open Go.Proofs.Tryz
open Go.RowKit
abbrev lnV(l:Ln):Value:= .agg #[.int .i64 l.place,.int .i64 l.val.num,.int .i64 l.val.fault]
def a5y(l:Ln):List Value:= [.int .i64 l.place,.int .i64 l.val.num,.int .i64 l.val.fault]
def a06(l:List Ln):List Value:=l.flatMap a5y
structure BdK(w W:World)(b:Nat)(s:ByteArray)(x:Sc)(v0 v1 v2:Value):Prop where
 sc:a0H W b s x
 g0:W.cell? ⟨w.heap.size+1,0,none⟩=some v0
 g1:W.cell? ⟨w.heap.size+1,1,none⟩=some v1
 g2:W.cell? ⟨w.heap.size+1,2,none⟩=some v2
 gf:∀o,W.frozen? ⟨w.heap.size+1,o,none⟩=false
 h0:W.cell? ⟨w.heap.size,0,none⟩=some (.int .i64 0)
 h1:W.cell? ⟨w.heap.size,1,none⟩=some (.int .i64 0)
 h2:W.cell? ⟨w.heap.size,2,none⟩=some (.int .i64 0)
 hf:∀o,W.frozen? ⟨w.heap.size,o,none⟩=false
 but:But b w W
 size:w.heap.size+2≤W.heap.size
 lt:b<w.heap.size
theorem BdK.start{w:World}{b:Nat}{s:ByteArray}{x:Sc}(h:a0H w b s x)(t a:TypeId):BdK w ((w.alloc (.cells #[i_ 0,i_ 0,i_ 0] t)).alloc (.cells #[i_ 0,i_ 0,i_ 0] a)) b s x (i_ 0) (i_ 0) (i_ 0):=by
 refine⟨(h.alloc _).alloc _,?_,?_,?_,fun o=> ?_,?_,?_,?_,fun o=> ?_,((But.refl _ _).alloc _).alloc _,by simp,h.lt⟩;all_goals simp[go_sem]
theorem BdK.call{w W c:World}{b:Nat}{s:ByteArray}{x y:Sc}{i j k:Value}(L:BdK w W b s x i j k)(h:a0H c b s y)(d:But b W c):BdK w c b s y i j k:=by
 have m:=L.size;have l:=L.lt;have g:c.heap[w.heap.size+1]? =W.heap[w.heap.size+1]? :=d.block _ (by omega) (fun e=>by cases e;omega);have f:c.heap[w.heap.size]? =W.heap[w.heap.size]? :=d.block _ (by omega) (fun e=>by cases e;omega);exact⟨h,(e_ (a:=⟨w.heap.size+1,0,none⟩) g).trans L.g0,(e_ (a:=⟨w.heap.size+1,1,none⟩) g).trans L.g1,(e_ (a:=⟨w.heap.size+1,2,none⟩) g).trans L.g2,fun o=>(I_ (a:=⟨w.heap.size+1,o,none⟩) g).trans (L.gf o),
  (e_ (a:=(a__ w.heap.size 0)) f).trans L.h0,(e_ (a:=(a__ w.heap.size 1)) f).trans L.h1,(e_ (a:=(a__ w.heap.size 2)) f).trans L.h2,fun o=>(I_ (a:=(a__ w.heap.size o)) f).trans (L.hf o),L.but.trans d,K_ m d.size,l⟩
theorem a0H.setNew{w:World}{b:Nat}{s:ByteArray}{x:Sc}(h:a0H w b s x)(a:Addr)(u:Value)(c:a.block≠b):a0H (w.setCell a u) b s x:=h.block (o_ _ _ _ _ (fun e=>c e.symm))
theorem BdK.set0{w W:World}{b:Nat}{s:ByteArray}{x:Sc}{q d e:Value}(L:BdK w W b s x q d e)(u:Value):BdK w (W.setCell ⟨w.heap.size+1,0,none⟩ u) b s x u d e:=by
 obtain⟨p,f,g,h,i,j,k,l,m,c,a,n⟩:=L;refine⟨p.setNew _ _ (by simp only;omega),?_,?_,?_,fun o=> ?_,?_,?_,?_,fun o=> ?_,c.setNew _ _ (by simp),by simpa using a,n⟩;all_goals simp[go_sem,f,g,h,i,j,k,l,m]
theorem BdK.set12{w W:World}{b:Nat}{s:ByteArray}{x:Sc}{d p q:Value}(L:BdK w W b s x d p q)(u v:Value):BdK w ((W.setCell ⟨w.heap.size+1,1,none⟩ u).setCell ⟨w.heap.size+1,2,none⟩ v) b s x d u v:=by
 obtain⟨n,e,f,g,h,i,j,k,l,c,a,m⟩:=L;refine⟨(n.setNew _ _ (by simp only;omega)).setNew _ _ (by simp only;omega),?_,?_,?_,fun o=> ?_,?_,?_,?_,fun o=> ?_,(c.setNew _ _ (by simp)).setNew _ _ (by simp),by simpa using a,m⟩;all_goals simp[go_sem,e,f,g,h,i,j,k,l]
theorem BdK.done{w W:World}{b:Nat}{s:ByteArray}{x:Sc}{a c d:Value}(L:BdK w W b s x a c d)(u0 u1 u2:Value):a0H (((W.setCell (a__ w.heap.size 0) u0).setCell (a__ w.heap.size 1) u1).setCell (a__ w.heap.size 2) u2) b s x∧But b w (((W.setCell (a__ w.heap.size 0) u0).setCell (a__ w.heap.size 1) u1).setCell (a__ w.heap.size 2) u2):=by
 have e:=L.lt;exact⟨((L.sc.setNew _ _ (by simp only;omega)).setNew _ _ (by simp only;omega)).setNew _ _ (by simp only;omega),((L.but.setNew _ _ (a_ _)).setNew _ _ (a_ _)).setNew _ _ (a_ _)⟩
theorem c0a(b:Nat)(s:ByteArray)(x:Sc)(w:World)(h:a0H w b s x)(S:s.size≤100000000):
  Calls prog 97 #[.pointer (some (a__ b 0))] w fun e w'=>e= .returned (lnV x.line.1)∧a0H w' b s x.line.2∧But b w w':=by
 have C:Hid (BdK w ((w.alloc (.cells #[i_ 0,i_ 0,i_ 0] 89)).alloc (.cells #[i_ 0,i_ 0,i_ 0] 89)) b s x (i_ 0) (i_ 0) (i_ 0)):=BdK.start h _ _;clear h;have V:Hid (∀w,a0H w b s x→Calls prog 128 #[.pointer (some (a__ b 0)),i_ 400] w fun e w'=>e= .returned (i_ ((x.number 400).1:Nat))∧a0H w' b s (x.number 400).2∧But b w w'):=fun w h=>b1f b s x 400 w h S (by decide) (by decide)
 have O:Hid (∀y w,a0H w b s y→Calls prog 129 #[.pointer (some (a__ b 0)),.int .u8 58] w fun e w'=>e= .returned (.tuple #[])∧a0H w' b s (y.take 58 58).2∧But b w w'):=fun y w h=>a66 b s y 58 w h S
 have P:Hid (∀y w,a0H w b s y→Calls prog 130 #[.pointer (some (a__ b 0))] w fun e w'=>e= .returned (vlV y.value.1)∧a0H w' b s y.value.2∧But b w w'):=fun y w h=>b8B b s y w h S
 have R:Hid (∀y w,a0H w b s y→Calls prog 129 #[.pointer (some (a__ b 0)),.int .u8 10] w fun e w'=>e= .returned (.tuple #[])∧a0H w' b s (y.take 10 10).2∧But b w w'):=fun y w h=>a66 b s y 10 w h S
 have X:x.line=(⟨((x.number 400).1:Nat),((x.number 400).2.take 58 58).2.value.1⟩,(((x.number 400).2.take 58 58).2.value.2.take 10 10).2):=rfl;rw[X];clear X;generalize x.number 400=p at*;obtain⟨n,y⟩:=p;have r:=O.out y;have O:=h__ r;generalize (y.take 58 58).2=z at*;have A:=P.out z;have P:=h__ A;generalize z.value=v at*;obtain⟨v,u⟩:=v;have B:=R.out u;have R:=h__ B;generalize (u.take 10 10).2=t at*;simp only at V O P R;clear r A B;go_enter func97,ntmps97;go_wp2_with (first|(go_at_call 128;refine(V.out _ C.out.sc).mono ?_;rintro e wa ⟨rfl,J,F⟩;have m:Hid _:=C.out.call J F;have T:=m.out.g0;have U:=m.out.gf;clear J F)|(go_at_call 129;have D:Hid _:=m.out.set0 (i_ n);refine(O.out _ D.out.sc).mono ?_;rintro e wb ⟨rfl,L,G⟩;have o:Hid _:=D.out.call L G;clear L G m T U)|(go_at_call 130;refine(P.out _ o.out.sc).mono ?_;rintro e wc ⟨rfl,M,H⟩;have l:Hid _:=o.out.call M H;have T:=l.out.g1;have Y:=l.out.g2;have U:=l.out.gf;clear M H o)|(go_at_call 129;have E:Hid _:=l.out.set12 (i_ v.num) (i_ v.fault);refine(R.out _ E.out.sc).mono ?_;rintro e wd ⟨rfl,N,I⟩;have j:Hid _:=E.out.call N I;clear N I l T Y U;have Z:=j.out.g0;have g1:=j.out.g1;have g2:=j.out.g2;have gf:=j.out.gf;have h0:=j.out.h0;have h1:=j.out.h1;have h2:=j.out.h2;have hf:=j.out.hf));obtain⟨r1,r2⟩:=j.out.done (i_ n) (i_ v.num) (i_ v.fault);exact m_ (v:=lnV ⟨n,v⟩) (by simp[results,results97,go_sem,Z,g1,g2,gf,h0,h1,h2,hf]) rfl ⟨rfl,r1,r2⟩
theorem b7i:(prog.info? 89).map (fun i=>(i.zero,i.size,i.bytes))=some (some (.agg #[i_ 0,i_ 0,i_ 0]),3,24):=by kernel_rfl
theorem take_len(x:Sc)(lo hi:UInt8):(x.take lo hi).2.rest.length≤x.rest.length:=by
 unfold Sc.take
 split
 ·rename_i e;rw[e];exact a_ _
 ·rename_i c r e;rw[e]
  split
  ·simp only[B_];omega
  ·exact a_ _
theorem b7z(B:Nat):∀(r:List UInt8) (v:Nat),(a2h B r v).2.1.length≤r.length
 | [],v=>a_ _
 |c::r,v=>by
  unfold a2h
  split
  ·split
   ·simp only[B_];omega
   ·have:=b7z B r (10*v+(c.toNat-48));simp only[B_];omega
  ·exact a_ _
theorem b5C(x:Sc)(B:Nat):(x.minus B).2.rest.length≤x.rest.length:=by
 unfold Sc.minus;exact K_ (b7z B _ _) (take_len _ _ _)
theorem b3R(x:Sc)(B:Nat):(x.number B).2.rest.length≤x.rest.length:=by
 unfold Sc.number
 split
 ·exact take_len _ _ _
 ·exact b5C _ _
theorem c3u(x:Sc):x.value.2.rest.length≤x.rest.length:=by
 unfold Sc.value
 split
 ·exact K_ (take_len _ _ _) (take_len _ _ _)
 ·split
  ·exact K_ (b5C _ _) (take_len _ _ _)
  ·exact b3R _ _
theorem c4t(x:Sc):x.line.2.rest.length≤x.rest.length:=by
 unfold Sc.line;exact K_ (take_len _ _ _) (K_ (c3u _) (K_ (take_len _ _ _) (b3R _ _)))
theorem b1x{x:Sc}(h:x.line.2.bad=false):x.line.2.rest.length+2≤x.rest.length:=by
 have:=a_w List.length (b3F h).2.1;simp only[x_,B_,a2K]at this;omega
def b4b(s:ByteArray)(b:Nat)(w:World):Nat:=2*(s.size-(intOf ((w.cell? ⟨b,1,none⟩).getD undef)).toNat)+(match w.cell? ⟨b,2,none⟩with|some (.bool true)=>0|_=>1)
theorem b92{w:World}{b:Nat}{s:ByteArray}{x:Sc}(h:a0H w b s x):b4b s b w=2*x.rest.length+(if x.bad then 0 else 1):=by
 obtain⟨p,c,a⟩:=h.len;unfold b4b;rw[a,h.c2];have e:s.size-(intOf ((some (Value.int .i64 (p:Nat))).getD undef)).toNat=x.rest.length:=by simp[intOf];omega
 rw[e];cases x.bad<;>rfl
theorem b8q(w:World)(g:Nat)(d:g=w.heap.size)(a b c:Value)(t:TypeId):∀j u,[a,b,c][j]? =some u→(w.alloc (.cells #[a,b,c] t)).cell? (((a__ g 0):Addr).add j)=some u:=by
 subst d;intro j u h
 match j,h with
 |0,h=>simp at h;subst h;simp[go_sem,Addr.add]
 |1,h=>simp at h;subst h;simp[go_sem,Addr.add]
 |2,h=>simp at h;subst h;simp[go_sem,Addr.add]
 |j+3,h=>simp at h
theorem b7u{w f W d:World}{s:ByteArray}{x:Sc}{v m:Value}{l:List Ln}{q:Ln}{i j:Obj}(n:W=(f.alloc i).alloc j)
  (c:B__ w f) (h:a0H f w.heap.size s x) (p:f.ownsRow (w.heap.size+1) 89 3 v l.length (a06 l))
  (r:d.ownsRow (w.heap.size+1) 89 3 m (l.length+1) (a06 l++a5y q)) (b:W.grownBy d v.ownBlock):
  d.ownsRow (w.heap.size+1) 89 3 m (l++ [q]).length (a06 (l++ [q]))∧a0H d w.heap.size s x∧B__ w d:=by
 subst n;have t:=c.size;have o:=h.lt;have a:∀k,v.ownBlock=some k→w.heap.size+1≤k:=fun k g=>(p.lt k g).1
 refine⟨?_,?_,?_⟩
 ·rw[x_];have:a06 (l++ [q])=a06 l++a5y q:=by simp[a06]
  rw[this];exact r
 ·refine((h.alloc i).alloc j).block (b.block _ (by simp;omega) (fun e=> ?_));have:=a _ e.symm;omega
 ·exact⟨b.os.trans c.os,b.tape.trans c.tape,b.output.trans c.output,by have:=b.size;simp at this;omega,fun k g=>((b.block k (by simp;omega) (fun e=>by have:=a k e.symm;omega)).trans (by rw[q_ _ _ _ (by simp;omega),q_ _ _ _ (by omega)])).trans (c.block k g)⟩
theorem c54{w w1 c:World}{b:Nat}(h:Below b w w1)(a:But b w1 c)(g:b≤w1.heap.size)(d:b≤w.heap.size):Below b w c:=
 ⟨a.os.trans h.os,a.tape.trans h.tape,a.output.trans h.output,K_ h.size a.size,fun k f=>(a.block k (by omega) (fun e=>by cases e;omega)).trans (h.block k f)⟩
theorem c4W(w:World)(s:ByteArray)(t:TypeId):a0H (w.alloc (.cells #[.string s,i_ 0,F__] t)) w.heap.size s ⟨s.data.toList,false⟩:=by
 refine⟨⟨0,a_j _,rfl,?_⟩,?_,?_,fun o=> ?_⟩;all_goals simp[go_sem]
def a5M(w:World)(r:Option (List Ln))(e:Ending)(w':World):Prop:=
 (match r with
  |none=>e= .returned (.tuple #[.slice none 0 0,.int .i64 10])
  |some l=>∃v,e= .returned (.tuple #[v,.int .i64 0])∧w'.ownsRow (w.heap.size+1) 89 3 v l.length (a06 l))∧Below w.heap.size w w'
theorem b5S{x:Sc}(h:x.bad=true):∀n,a2B n x=([],x)
 |0=>rfl
 |n+1=>by
  unfold a2B;rw[h];rfl
theorem b7Y{s:List UInt8}{n:Nat}{x:Sc}{M:List Ln}(c:x.rest.length<n)(a:(x.bad||x.rest.isEmpty)=true)(h:(M++(a2B n x).1,(a2B n x).2)=a2B (s.length+1) ⟨s,false⟩):a4B s=if x.bad then none else some M:=by
 cases n with
 |zero=>omega
 |succ n=>
  unfold a4B;generalize a2B (s.length+1) ⟨s,false⟩=b at h⊢;unfold a2B at h;rw[n_ a]at h;rw[←h];simp
theorem c0b(s:ByteArray)(w:World)(hs:s.size≤100000000):
  Calls prog 64 #[.string s] w (a5M w (a4B s.data.toList)):=by
 obtain⟨iV,Al,Ao,An,Aj⟩:=a1v b7i;have u:Hid (∀x m,a0H m w.heap.size s x→Calls prog 97 #[.pointer (some (a__ w.heap.size 0))] m fun e D=>e= .returned (lnV x.line.1)∧a0H D w.heap.size s x.line.2∧But w.heap.size m D):=fun x m h=>c0a w.heap.size s x m h hs
 have o:Hid (∀x m,a0H m w.heap.size s x→Calls prog 96 #[.pointer (some (a__ w.heap.size 0))] m fun e D=>e= .returned (.bool x.rest.isEmpty)∧∃n,D=m.drewN n):=fun x m h=>b1c w.heap.size s x m h hs
 have Ai:=c4W w s 167;have Ah:B__ w (w.alloc (.cells #[.string s,i_ 0,F__] 167)):=(g_ _ _).alloc (a_ _) _;have HP:Hid (a5M w (a4B s.data.toList)=a5M w (a4B s.data.toList)):=rfl;generalize Z:a5M w (a4B s.data.toList)=PP at HP;have z:Hid (a5M w (a4B s.data.toList)=PP):=Z;clear Z HP;go_enter func64,ntmps64;go_wp2_with fail;go_loopw [5] (fun v m=>∃(H:Option Addr) (O I:Nat) (M:List Ln) (x:Sc),v= .slice H O I∧Hid (m.ownsRow (w.heap.size+1) 89 3 (.slice H O I) M.length (a06 M))∧Hid (a0H m w.heap.size s x)∧Hid (B__ w m)∧M.length+x.rest.length≤s.size+(if x.bad then 1 else 0)∧Hid (∃n,x.rest.length<n∧(M++(a2B n x).1,(a2B n x).2)=a2B (s.data.toList.length+1) ⟨s.data.toList,false⟩)) (fun _ m=>b4b s w.heap.size m);case atStart=>
  refine⟨none,0,0,[],⟨s.data.toList,false⟩,rfl,E_ ..,Ai,Ah,by simp,⟨s.data.toList.length+1,by simp,?_⟩⟩;rw[a_t]
 case round=>
  obtain⟨H,O,I,M,x,rfl,HO,T,HW,hM,S⟩:=hrel;have c2:=T.out.c2;have Au:=HW.out.size;have As:x.rest.length≤s.size:=by obtain⟨p,hp,_⟩:=T.out.len;omega
  cases B:x.bad
  ·rw[B]at c2;cases he:x.rest.isEmpty
   ·have Am:(x.bad||x.rest.isEmpty)=false:=by rw[B,he];rfl
    have Aa:=c4t x;have Y:M.length+1+x.line.2.rest.length≤s.size+(if x.line.2.bad then 1 else 0):=by
     rw[B]at hM;simp only[D_,a_g]at hM;cases L:x.line.2.bad
     ·have:=b1x L;simp only[D_,a_g];omega
     ·simp only[a_b];omega
    have Ad:2*x.line.2.rest.length+(if x.line.2.bad then 0 else 1)<2*x.rest.length+(if x.bad then 0 else 1):=by
     rw[B];cases L:x.line.2.bad
     ·have:=b1x L;simp only[D_,a_g];omega
     ·simp only[D_,a_g,a_b];omega
    have U:Hid (∃n,x.line.2.rest.length<n∧((M++ [x.line.1])++(a2B n x.line.2).1,(a2B n x.line.2).2)=a2B (s.data.toList.length+1) ⟨s.data.toList,false⟩):=by
     obtain⟨n,C,j⟩:=S.out;generalize a2B (s.data.toList.length+1) ⟨s.data.toList,false⟩=RR at j⊢;cases n with
     |zero=>omega
     |succ n=>
      unfold a2B at j;rw[f_ (by rw[Am];exact b_v)]at j;cases L:x.line.2.bad
      ·have:=b1x L;exact⟨n,by omega,by rw[←j];simp⟩
      ·rw[b5S L n]at j;exact⟨x.line.2.rest.length+1,by omega,by rw[←j,b5S L];simp⟩
    have HL:=u.out x;have E:=o.out x;rw[he]at E;have HT:Hid (b4b s w.heap.size wr=2*x.rest.length+(if x.bad then 0 else 1)):=b92 T.out;generalize x.line=R at*;obtain⟨q,y⟩:=R;simp only at HL U Aa Y Ad;have Ae:=h__ HL;have F:=h__ E;clear HL E u o S;have Ar:M.length≤100000000:=by rw[B]at hM;simp only[D_,a_g]at hM;omega
    have Ab:0<M.length+1:=by omega
    have m1:M.length+1≤maxLen:=by unfold maxLen;omega
    have m2:(M.length+1)*24≤140737488355328:=by omega
    go_wp2_with (first|(go_at_call 96;refine(F.out _ T.out).mono ?_;rintro e P ⟨rfl,na,l⟩;have Af:Hid (a0H P w.heap.size s x):=(by subst l;exact T.out.drewN na);have G:Hid (P.ownsRow (w.heap.size+1) 89 3 (.slice H O I) M.length (a06 M)):=(by subst l;exact HO.out);have A:Hid (B__ w P):=(by subst l;exact HW.out.trans ⟨rfl,rfl,rfl,a_ _,fun _ _=>rfl⟩);clear l)|(go_at_call 97;refine(Ae.out _ Af.out).mono ?_;rintro e wb ⟨rfl,Ac,J⟩;have Ag:Hid (a0H wb w.heap.size s y):=Ac;have V:Hid (wb.ownsRow (w.heap.size+1) 89 3 (.slice H O I) M.length (a06 M)):=b9J G.out J (Nat.lt_succ_self _);have X:Hid (B__ w wb):=c54 A.out J A.out.size (a_ _);clear Ac J;have At:=X.out.size)|(at_builtin;refine a0X rfl (.tmp 17) (.tmp 19) 82 rfl (w.heap.size+1) 89 iV (.agg #[i_ 0,i_ 0,i_ 0]) 3 24 underlying82 Al Ao An Aj rfl (by decide) (.slice H O I) M.length (a06 M) (by rfl) (by exact(V.out.alloc _).alloc _) ⟨wb.heap.size+1,0,none⟩ 1 1 (a5y q) (by rfl) rfl (by exact b8q _ _ (by simp) _ _ _ 89) (by intro q hq;simp[a5y]at hq;rcases hq with rfl|rfl|rfl<;>rfl) m1 m2 (by simp;omega) (by decide) ?_;intro v' w4 t r Ak;obtain⟨a1,a2,a3⟩:=b7u rfl X.out Ag.out V.out t r;clear Ak r;obtain⟨gn,Ap,rfl⟩:=Joins.ownsRow_form t Ab;have A1:=h__ a1;have A2:Hid (a0H w4 w.heap.size s y):=a2;have A3:Hid (B__ w w4):=a3;clear t a1 a2 a3));refine⟨⟨_,_,_,M++ [q],y,rfl,?_,A2,A3,?_,U⟩,?_⟩
    ·exact A1.out
    ·rw[x_];exact Y
    ·rw[HT.out,b92 A2.out];exact Ad
   ·have hx:(x.bad||x.rest.isEmpty)=true:=by rw[he,Bool.or_true]
    obtain⟨n,C,j⟩:=S.out;have N:=b7Y C hx j;rw[B]at N;simp only[D_,a_g]at N;rw[N]at z;have E:=o.out x;rw[he]at E;have F:=h__ E;clear E o j S u;go_wp2_with (first|(go_at_call 96;refine(F.out _ T.out).mono ?_;rintro e P ⟨rfl,na,l⟩;have Aq:P.cell? (a__ w.heap.size 2)=some F__:=(by subst l;exact c2);have G:Hid (P.ownsRow (w.heap.size+1) 89 3 (.slice H O I) M.length (a06 M)):=(by subst l;exact HO.out);have A:Hid (B__ w P):=(by subst l;exact HW.out.trans ⟨rfl,rfl,rfl,a_ _,fun _ _=>rfl⟩);clear l));rw[←z.out];exact⟨⟨_,rfl,G.out⟩,A.out⟩
  ·have hx:(x.bad||x.rest.isEmpty)=true:=by rw[B];rfl
   obtain⟨n,C,j⟩:=S.out;have N:=b7Y C hx j;rw[B]at N;simp only[a_b]at N;rw[N]at z;rw[B]at c2;clear o j S u;go_wp2_with fail;rw[←z.out];exact⟨rfl,HW.out⟩
theorem b4N(s:ByteArray)(w:World)(u:s.size≤100000000):
  Calls prog 39 #[.string s] w (a5M w (a4B s.data.toList)):=by
 have m:Hid (∀w,Calls prog 64 #[.string s] w (a5M w (a4B s.data.toList))):=fun w=>c0b s w u
 cases r:a4B s.data.toList with
 |none=>
  rw[r]at m;go_enter func39,ntmps39;go_wp2_with (go_at_call 64;refine(m.out _).mono ?_;rintro e y ⟨rfl,j⟩;have o:=h__ j;clear j);go_ret2;exact⟨rfl,o.out⟩
 |some l=>
  rw[r]at m;go_enter func39,ntmps39;go_wp2_with (go_at_call 64;refine(m.out _).mono ?_;rintro e y ⟨⟨v,rfl,p⟩,j⟩;have o:=h__ j;have t:=h__ p;clear j p);go_ret2;exact⟨⟨_,rfl,t.out⟩,o.out⟩
end Go.Proofs.YtdgmoiflahoihaaGreatDoor
