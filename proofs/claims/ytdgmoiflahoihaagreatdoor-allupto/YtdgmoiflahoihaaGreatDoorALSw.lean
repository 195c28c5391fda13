import Derived.Test.YtdgmoiflahoihaaGreatDoorALNw
import Derived.Test.YtdgmoiflahoihaaGreatDoorALUw
import Derived.Test.YtdgmoiflahoihaaGreatDoorALCkw
import Derived.Test.YtdgmoiflahoihaaGreatDoorALCrw
import Derived.Test.YtdgmoiflahoihaaGreatDoorALCdw
import Derived.Test.YtdgmoiflahoihaaGreatDoorBLRw
import Derived.Test.YtdgmoiflahoihaaGreatDoorALKw

set_option linter.unusedSimpArgs false
set_option linter.unusedVariables false
set_option maxRecDepth 100000
set_option maxHeartbeats 8000000
namespace Go.Proofs.YtdgmoiflahoihaaGreatDoor
open Go.Proofs.Tryz
open Go.RowKit
structure OpR where
 kind:Int
 text:ByteArray
 fs:List Int
 af:Option Addr
 gf:Nat
 of:Nat
 capf:Nat
 rd:Int
 cs:List Ic
 ac:Option Addr
 gc:Nat
 oc:Nat
 capc:Nat
@[reducible] def OpR.cells(o:OpR):Array Value:= #[.int .i64 o.kind,.string o.text,.slice o.af o.fs.length o.capf,.int .i64 o.rd,.slice o.ac o.cs.length o.capc]
structure b2F(w:World)(o:OpR):Prop where
 text:o.text.size≤1048576
 fs:a0u w o.af o.gf o.of o.fs
 few:o.fs.length≤1048576
 fok:a3I o.fs
 cs:a0D w o.ac o.gc o.oc o.cs
 cfew:o.cs.length≤1048576
 cok:∀x∈o.cs,-9223372036854775808≤x.b∧x.b≤9223372036854775807
theorem b2F.below{w w':World}{o:OpR}(h:b2F w o)(a:B__ w w'):b2F w' o:=⟨h.text,h.fs.below a,h.few,h.fok,h.cs.below a,h.cfew,h.cok⟩
def Inv(lo:Nat)(w:World)(b:Nat)(d c LS:List Sl):Prop:=∃a C,a2H lo w b a d c LS∧a6u w a C∧C.length≤2000∧∀x∈C,-9223372036854775808≤x.b∧x.b≤9223372036854775807
theorem Inv.keep{lo:Nat}{w w':World}{b:Nat}{c a LS:List Sl}(h:Inv lo w b c a LS)(d:B__ w w'):Inv lo w' b c a LS:=by
 obtain⟨l,C,e,f,i,j⟩:=h;exact⟨l,C,e.keep d,f.keep fun g m n k=>d.block g (z_.mp k).1,i,j⟩
theorem a9p{W b c:World}{m v:Value}{C:List Ic}{t l:TypeId}{s n:Nat}{xs:List Value}(h:a6u W m C)(i:B__ W b)(q:b.ownsRow W.heap.size t s v n xs)(p:b6H v l b c)(r:87≠l):a6u c m C:=by
 have a:∀(g:Nat) (d:Array Value) (f:Nat×Nat),W.heap[g]? =some (.cells d 87 f)→c.heap[g]? =W.heap[g]? :=fun g d f j=>by
  have k:=(z_.mp j).1;have o:=(i.block g k).trans j;exact(p g _ _ _ o (fun e=>by have:=(q.lt g e).1;omega) r (by decide)).trans (i.block g k)
 exact h.keep a
def a2p(f:World)(b:Nat)(h g LS:List Sl)(e:Ending)(w':World):Prop:=
 e= .returned (.bool true)∧Below f.heap.size f w'∧∃d a c,Inv f.heap.size w' b d a c∧d.length≤h.length+1∧a.length≤g.length+1∧c.length≤LS.length+1
theorem a2p.still{d w':World}{b:Nat}{c a LS:List Sl}(h:Inv d.heap.size w' b c a LS)(e:B__ d w'):a2p d b c a LS (.returned T__) w':=⟨rfl,e,c,a,LS,h,by omega,by omega,by omega⟩
theorem c44(P:World)(b:Nat)(E D LS:List Sl)(o:OpR)(w:World)(ho:b2F P o)(ht:a2c P)(h:Inv P.heap.size w b E D LS)(hb:B__ P w)(nN:E.length≤1500000)(nC:D.length≤1500000)(nL:LS.length≤1500000):
  Calls prog 11 #[.pointer (some (a__ b 0)),.agg o.cells] w (a2p P b E D LS):=by
 obtain⟨j,s,I,L,gf,of,m,S,H,R,gc,oc,p⟩:=o;have Ab:B__ w (w.alloc (.cells #[i_ j,.string s,.slice L I.length m,i_ S,.slice R H.length p] 41)):=(g_ _ _).alloc (a_ _) _;have Y:=hb.trans (Ab.mono hb.size);have r:Hid (b2F (w.alloc (.cells #[i_ j,.string s,.slice L I.length m,i_ S,.slice R H.length p] 41)) ⟨j,s,I,L,gf,of,m,S,H,R,gc,oc,p⟩):=ho.below Y;have J:Hid (a2c (w.alloc (.cells #[i_ j,.string s,.slice L I.length m,i_ S,.slice R H.length p] 41))):=ht.below Y;have G:Hid (B__ P (w.alloc (.cells #[i_ j,.string s,.slice L I.length m,i_ S,.slice R H.length p] 41))):=Y;have hI:=h.keep Ab;have hq:∀k,(w.alloc (.cells #[i_ j,.string s,.slice L I.length m,i_ S,.slice R H.length p] 41)).cell? (a__ w.heap.size k)=(#[i_ j,.string s,.slice L I.length m,i_ S,.slice R H.length p]:Array Value)[k]? :=fun k=>F_ _ _ _ _ _ _ (R_ w _)
 have d0:(w.alloc (.cells #[i_ j,.string s,.slice L I.length m,i_ S,.slice R H.length p] 41)).cell? (a__ w.heap.size 0)=some (i_ j):=hq 0;have d1:(w.alloc (.cells #[i_ j,.string s,.slice L I.length m,i_ S,.slice R H.length p] 41)).cell? (a__ w.heap.size 1)=some (.string s):=hq 1;have d2:(w.alloc (.cells #[i_ j,.string s,.slice L I.length m,i_ S,.slice R H.length p] 41)).cell? (a__ w.heap.size 2)=some (.slice L I.length m):=hq 2;have d3:(w.alloc (.cells #[i_ j,.string s,.slice L I.length m,i_ S,.slice R H.length p] 41)).cell? (a__ w.heap.size 3)=some (i_ S):=hq 3;have d4:(w.alloc (.cells #[i_ j,.string s,.slice L I.length m,i_ S,.slice R H.length p] 41)).cell? (a__ w.heap.size 4)=some (.slice R H.length p):=hq 4;have M:=Y.size;have o1:=r.out.text;have o2:=r.out.few;have o3:=r.out.cfew;simp only at o1 o2 o3;have m0:s.size≤maxLen:=by unfold maxLen;omega
 have m1:8*(I.length+2)≤281474976710656:=by omega
 have m2:32*(H.length+2)≤281474976710656:=by omega
 clear Ab Y hq h hb ho ht;go_enter func11,ntmps11;go_upto_region 2 with fail;generalize w.alloc (.cells #[i_ j,.string s,.slice L I.length m,i_ S,.slice R H.length p] 41)=W at*;generalize w.heap.size=B at*;have HI:Hid (Inv P.heap.size W b E D LS):=hI;obtain⟨vl,C,hH,hL,Aa,Ac⟩:=hI;have V:Hid (a2H P.heap.size W b vl E D LS):=hH;have X:Hid (a6u W vl C):=hL;have F:Hid (∀x∈C,-9223372036854775808≤x.b∧x.b≤9223372036854775807):=Ac;clear hH hL Ac;rcases(by omega:j=1∨j=2∨j=3∨j=4∨j=5∨j=6∨j=7∨j=8∨(j≠1∧j≠2∧j≠3∧j≠4∧j≠5∧j≠6∧j≠7∧j≠8))with rfl|rfl|rfl|rfl|rfl|rfl|rfl|rfl|⟨e1,e2,e3,e4,e5,e6,e7,e8⟩
 ·clear r J V X F;go_wp2_with (go_at_call 27;refine(b8D s m0 _).mono ?_;rintro e A ⟨rfl,l⟩;have O:Hid (a2p P b E D LS (.returned T__) A):=a2p.still (HI.out.keep l) (G.out.trans (l.mono M));clear l);go_ret;exact O.out
 ·clear r J V X F;go_wp2_with (go_at_call 28;refine(b6k s m0 _).mono ?_;rintro e A ⟨rfl,l⟩;have O:Hid (a2p P b E D LS (.returned T__) A):=a2p.still (HI.out.keep l) (G.out.trans (l.mono M));clear l);go_ret;exact O.out
 ·clear J HI;go_wp2_with (first|(go_at_call 29;refine(c4V s I L gf of m _ m0 r.out.fs m1 r.out.fok).mono ?_;rintro e A ⟨⟨v,N,rfl,T⟩,l⟩;have z:Hid (A.ownsRow W.heap.size 61 5 v N.length (a0B N)):=T;have y:Hid (B__ W A):=l;clear T l)|(go_at_call 30;refine(a8q _ b vl E D LS W A v _ _ V.out y.out z.out M (by omega)).mono ?_;rintro e w3 ⟨rfl,⟨x,U⟩,t,Z⟩;have O:Hid (a2p P b E D LS (.returned T__) w3):=⟨rfl,G.out.trans t,E++ [x],D,LS,⟨vl,C,U,a9p X.out y.out z.out Z (by decide),Aa,F.out⟩,(by simp),(by omega),(by omega)⟩;clear U t Z));go_ret;exact O.out
 ·clear J V X F;go_wp2_with (go_at_call 31;refine(b9m H R gc oc p _ r.out.cs m2).mono ?_;rintro e A ⟨rfl,l⟩;have O:Hid (a2p P b E D LS (.returned T__) A):=a2p.still (HI.out.keep l) (G.out.trans (l.mono M));clear l);go_ret;exact O.out
 ·clear J HI;by_cases hz:H= []
  ·subst hz;obtain⟨ao,gl,cl,rfl,Af⟩:=X.out.cells;have Ag:Hid (a0D W ao gl 0 C):=Af;have c3:W.cell? (a__ b 3)=some (.slice ao C.length cl):=by
    obtain⟨_,_,_,hB,_⟩:=V.out.here;exact F_ _ _ _ _ _ _ hB
   have m3:32*(C.length+2)≤281474976710656:=by omega
   clear Af;go_wp2_with (first|(go_at_call 32;refine(b5b C I ao L gl 0 cl gf of m _ Ag.out r.out.fs m3 m1 F.out r.out.fok).mono ?_;rintro e A ⟨⟨v,N,rfl,T⟩,l⟩;have z:Hid (A.ownsRow W.heap.size 61 5 v N.length (a0B N)):=T;have y:Hid (B__ W A):=l;clear T l)|(go_at_call 30;refine(a8q _ b (.slice ao C.length cl) E D LS W A v _ _ V.out y.out z.out M (by omega)).mono ?_;rintro e w3 ⟨rfl,⟨x,U⟩,t,Z⟩;have O:Hid (a2p P b E D LS (.returned T__) w3):=⟨rfl,G.out.trans t,E++ [x],D,LS,⟨.slice ao C.length cl,C,U,a9p X.out y.out z.out Z (by decide),Aa,F.out⟩,(by simp),(by omega),(by omega)⟩;clear U t Z));go_ret;exact O.out
  ·have tz:((H.length:Int)==0)=false:=by
    have:0<H.length:=List.length_pos_iff.mpr hz;simp;omega
   go_wp2_with (first|(go_at_call 32;refine(b5b H I R L gc oc p gf of m _ r.out.cs r.out.fs m2 m1 r.out.cok r.out.fok).mono ?_;rintro e A ⟨⟨v,N,rfl,T⟩,l⟩;have z:Hid (A.ownsRow W.heap.size 61 5 v N.length (a0B N)):=T;have y:Hid (B__ W A):=l;clear T l)|(go_at_call 30;refine(a8q _ b vl E D LS W A v _ _ V.out y.out z.out M (by omega)).mono ?_;rintro e w3 ⟨rfl,⟨x,U⟩,t,Z⟩;have O:Hid (a2p P b E D LS (.returned T__) w3):=⟨rfl,G.out.trans t,E++ [x],D,LS,⟨vl,C,U,a9p X.out y.out z.out Z (by decide),Aa,F.out⟩,(by simp),(by omega),(by omega)⟩;clear U t Z));go_ret;exact O.out
 ·clear J HI X F;go_wp2_with (first|(go_at_call 33;refine(b6h s I L gf of m _ m0 r.out.fs m1 r.out.fok).mono ?_;rintro e A ⟨⟨v,N,rfl,T,Ad,Ae⟩,l⟩;have z:Hid (A.ownsRow W.heap.size 87 4 v N.length (a0Q N)):=T;have Ah:Hid (∀x∈N,-9223372036854775808≤x.b∧x.b≤9223372036854775807):=Ae;have y:Hid (B__ W A):=l;clear T l Ae)|(go_at_call 34;refine(b8l _ b vl E D LS W A v N V.out y.out z.out M (by omega) Ad).mono ?_;rintro e w3 ⟨rfl,⟨x,u,U,hl⟩,t⟩;have O:Hid (a2p P b E D LS (.returned T__) w3):=⟨rfl,G.out.trans t,E,D++ [x],LS,⟨u,N,U,hl,Ad,Ah.out⟩,(by omega),(by simp),(by omega)⟩;clear U t hl));go_ret;exact O.out
 ·clear V X F;go_wp2_with (go_at_call 3;refine(c0d s I L gf of m S _ m0 r.out.fs m1 r.out.fok J.out).mono ?_;rintro e A ⟨rfl,l⟩;have O:Hid (a2p P b E D LS (.returned T__) A):=a2p.still (HI.out.keep l) (G.out.trans (l.mono M));clear l);go_ret;exact O.out
 ·clear J HI;go_wp2_with (first|(go_at_call 35;refine(c2G s _ (by omega)).mono ?_;rintro e A ⟨⟨v,N,rfl,T⟩,l⟩;have z:Hid (A.ownsRow W.heap.size 89 3 v N.length (a06 N)):=T;have y:Hid (B__ W A):=l;clear T l)|(go_at_call 36;refine(b6w _ b vl E D LS W A v _ _ V.out y.out z.out M (by omega)).mono ?_;rintro e w3 ⟨rfl,⟨x,U⟩,t,Z⟩;have O:Hid (a2p P b E D LS (.returned T__) w3):=⟨rfl,G.out.trans t,E,D,LS++ [x],⟨vl,C,U,a9p X.out y.out z.out Z (by decide),Aa,F.out⟩,(by omega),(by omega),(by simp)⟩;clear U t Z));go_ret;exact O.out
 ·have f1:(j==1)=false:=by simpa using e1
  have f2:(j==2)=false:=by simpa using e2
  have f3:(j==3)=false:=by simpa using e3
  have f4:(j==4)=false:=by simpa using e4
  have f5:(j==5)=false:=by simpa using e5
  have f6:(j==6)=false:=by simpa using e6
  have f7:(j==7)=false:=by simpa using e7
  have f8:(j==8)=false:=by simpa using e8
  clear e1 e2 e3 e4 e5 e6 e7 e8 r J V X F;go_wp2_with fail;go_ret;exact a2p.still HI.out G.out
def b96(w:World)(a:Option Addr)(g o:Nat)(l:List OpR):Prop:=∀i,∀hi:i<l.length,a=some ⟨g,o,none⟩∧g<w.heap.size∧(∀j u,l[i].cells[j]? =some u→w.cell? ⟨g,o+i*5+j,none⟩=some u)∧b2F w l[i]
def c5o:ByteArray:=⟨#[63,97,58,65,59,62,45,97,59]⟩
theorem b8L:a0s c5o.data.toList=(5,5):=by kernel_rfl
theorem c52{W w:World}(a:B__ W w):Inv W.heap.size (w.alloc (.cells #[.slice none 0 0,.slice none 0 0,.slice none 0 0,.slice none 0 0] 38)) w.heap.size [] [] []:=
 ⟨.slice none 0 0,[],⟨a.size,⟨_,_,_,R_ w _,E_ ..,E_ ..,E_ ..⟩,fun k x h=>by simp at h,fun k x h=>by simp at h,fun k x h=>by simp at h⟩,.inl ⟨rfl,rfl⟩,by simp,by simp⟩
theorem c3F(l:List OpR)(U:Option Addr)(g o V:Nat)(W:World)(hl:b96 W U g o l)(hn:l.length≤1048576)(ht:a2c W):
  Calls prog 4 #[.slice U l.length V] W fun e w'=>e= .returned T__∧B__ W w':=by
 have G:Hid (∀w,Calls prog 10 #[.string ⟨#[63,97,58,65,59,62,45,97,59]⟩] w fun e w'=>e= .returned (.tuple #[i_ 5,i_ 5])∧B__ w w'):=fun w=>by
  have:=a9x c5o w (by unfold maxLen;decide) (fun h hb=>a24 (by simpa using h) hb);rw[b8L]at this;exact this
 have T:Hid (b96 W U g o l):=hl;have HT:Hid (a2c W):=ht;clear hl ht;go_enter func4,ntmps4;go_upto_region 5 with(go_at_call 10;refine(G.out _).mono ?_;rintro e D ⟨rfl,J⟩;have r:Hid (B__ W D):=J;clear J);have H:Hid (Inv W.heap.size (D.alloc (.cells #[.slice none 0 0,.slice none 0 0,.slice none 0 0,.slice none 0 0] 38)) D.heap.size [] [] []):=c52 r.out;have F:Hid (B__ W (D.alloc (.cells #[.slice none 0 0,.slice none 0 0,.slice none 0 0,.slice none 0 0] 38))):=r.out.alloc r.out.size _;generalize D.alloc (.cells #[.slice none 0 0,.slice none 0 0,.slice none 0 0,.slice none 0 0] 38)=w2 at*;generalize D.heap.size=b at*;clear r G;go_wp2_with fail;go_loopw [6] (fun x w'=>∃(i:Nat) (I E LS:List Sl),x=i_ i∧i≤l.length∧I.length≤i∧E.length≤i∧LS.length≤i∧Hid (Inv W.heap.size w' b I E LS)∧Hid (B__ W w')) (fun x _=>l.length-(intOf x).toNat);case atStart=>exact⟨0,[],[],[],rfl,by omega,by simp,by simp,by simp,H.out,F.out⟩
 case round=>
  obtain⟨i,I,E,LS,rfl,hi,n1,n2,n3,Y,O⟩:=hrel;clear H F;by_cases X:i<l.length
  ·have ti:decide ((i:Int)<(l.length:Int))=true:=by simp;omega
   obtain⟨rfl,hg,hc,M⟩:=T.out i X;have y:Hid (Calls prog 11 #[.pointer (some (a__ b 0)),.agg l[i].cells] wr (a2p W b I E LS)):=c44 W b I E LS l[i] wr M HT.out Y.out O.out (by omega) (by omega) (by omega);have m:∀j u,l[i].cells[j]? =some u→wr.cell? (a__ g (o+i*5+j))=some u:=fun j u h=>(O.out.cell (p:=(a__ g _)) hg).trans (hc j u h)
   have Z:=m 0 _ rfl;have c1:=m 1 _ rfl;have c2:=m 2 _ rfl;have c3:=m 3 _ rfl;have c4:=m 4 _ rfl;rw[a_P]at Z;have i0:(0:Int)≤i:=by omega
   have i1:(i:Int)<(l.length:Int):=by omega
   clear hc m M Y O;unfold OpR.cells at y;generalize l[i]=x at*;obtain⟨Ac,s,fs,af,gf,of,Ab,rd,cs,ac,gc,oc,Aa⟩:=x;simp only at Z c1 c2 c3 c4 y;go_wp2_with (first|(go_at_call 11;refine y.out.mono ?_;rintro e N ⟨rfl,L,A,t,z,B,k1,k2,k3⟩;have R:Hid (Inv W.heap.size N b A t z):=B;have P:Hid (B__ W N):=L;have S:Hid (Calls prog 12 #[.pointer (some (a__ b 0))] N fun e w'=>e= .returned T__∧w'=N):=(by obtain⟨vl,C,h1,_⟩:=B;exact c2e _ b vl A t z N h1 (by omega) (by omega) (by omega));clear B L)|(go_at_call 12;refine S.out.mono ?_;rintro e w4 ⟨rfl,rfl⟩));go_roundw;case rel=>exact⟨i+1,A,t,z,by go_num,by omega,by omega,by omega,by omega,R.out,P.out⟩
   case measure=>simp[intOf];omega
  ·have ti:decide ((i:Int)<(l.length:Int))=false:=by simp;omega
   go_wp2_with fail;go_ret;exact⟨rfl,O.out⟩
end Go.Proofs.YtdgmoiflahoihaaGreatDoor
