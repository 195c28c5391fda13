import Derived.Test.YtdgmoiflahoihaaGreatDoorROpenw
import Derived.RegionTactic
import Derived.ChangeAlike

set_option linter.unusedSimpArgs false
set_option linter.unusedVariables false
set_option maxRecDepth 100000
set_option maxHeartbeats 8000000
namespace Go.Proofs.YtdgmoiflahoihaaGreatDoor
open Go.Proofs.Tryz
open Go.RowKit
theorem a8K{W w:World}{b:Nat}{s:ByteArray}{r:Rd}{c d e f g i j m:Value}(L:Loc W w b s r c d e f g i j m)(u0 u1 u2 u3 u4 u5 u6 u7:Value):
  a0b (((((((((W).setCell (a__ w.heap.size 0) u0).setCell (a__ w.heap.size 1) u1).setCell (a__ w.heap.size 2) u2).setCell (a__ w.heap.size 3) u3).setCell (a__ w.heap.size 4) u4).setCell (a__ w.heap.size 5) u5).setCell (a__ w.heap.size 6) u6).setCell (a__ w.heap.size 7) u7) b s r a0j∧But b w (((((((((W).setCell (a__ w.heap.size 0) u0).setCell (a__ w.heap.size 1) u1).setCell (a__ w.heap.size 2) u2).setCell (a__ w.heap.size 3) u3).setCell (a__ w.heap.size 4) u4).setCell (a__ w.heap.size 5) u5).setCell (a__ w.heap.size 6) u6).setCell (a__ w.heap.size 7) u7)∧
  (∀v l,a02 W (a1u w) v l→a02 (((((((((W).setCell (a__ w.heap.size 0) u0).setCell (a__ w.heap.size 1) u1).setCell (a__ w.heap.size 2) u2).setCell (a__ w.heap.size 3) u3).setCell (a__ w.heap.size 4) u4).setCell (a__ w.heap.size 5) u5).setCell (a__ w.heap.size 6) u6).setCell (a__ w.heap.size 7) u7) (fun k=>w.heap.size≤k) v l)∧
  (∀n v l,a0l n W (a1u w) v l→a0l n (((((((((W).setCell (a__ w.heap.size 0) u0).setCell (a__ w.heap.size 1) u1).setCell (a__ w.heap.size 2) u2).setCell (a__ w.heap.size 3) u3).setCell (a__ w.heap.size 4) u4).setCell (a__ w.heap.size 5) u5).setCell (a__ w.heap.size 6) u6).setCell (a__ w.heap.size 7) u7) (fun k=>w.heap.size≤k) v l):=by
 have o:=L.lt;have a:∀k,a1u w k→k<W.heap.size→w.heap.size≤k∧(((((((((W).setCell (a__ w.heap.size 0) u0).setCell (a__ w.heap.size 1) u1).setCell (a__ w.heap.size 2) u2).setCell (a__ w.heap.size 3) u3).setCell (a__ w.heap.size 4) u4).setCell (a__ w.heap.size 5) u5).setCell (a__ w.heap.size 6) u6).setCell (a__ w.heap.size 7) u7).heap[k]? =W.heap[k]? :=by
  intro k a _;unfold a1u at a;refine⟨by omega,?_⟩;repeat rw[o_ _ _ _ _ (by simp only;omega)]
 refine⟨?_,?_,fun v l h=>a4x h a,fun n v l h=>a1A a n v l h⟩
 ·repeat (refine a15 ?_ _ _ (by simp only;omega))
  exact L.rd
 ·repeat (refine But.setNew ?_ _ _ (by simp))
  exact L.but
def a11(s:ByteArray)(n:Nat):Prop:=∀(b:Nat) (r:Rd) (w:World),a0b w b s r a0j→a1W s.data.toList r→8≤r.depth+n→
 Calls prog 184 #[.pointer (some ⟨b,0,none⟩)] w fun e a=>∃v,e= .returned v∧a0l n a (fun k=>w.heap.size≤k) v (a08 s.data.toList n r).2∧a0b a b s (a08 s.data.toList n r).1 a0j∧But b w a
theorem a0h{n:Nat}{w:World}{P:Nat→Prop}{v:Value}{l:List (RT n)}(h:a0l n w P v l):∃b e c,v= .slice b e c:=by
 cases n with
 |zero=>
  rcases Joins.ownsRow_forms h.1 with⟨rfl,_⟩|⟨g,a,rfl⟩<;>exact⟨_,_,_,rfl⟩
 |succ n=>
  obtain⟨f,d,_⟩:=h;rcases Joins.ownsRow_forms d with⟨rfl,_⟩|⟨g,a,rfl⟩<;>exact⟨_,_,_,rfl⟩
theorem a1d(b:Nat)(s:ByteArray)(r:Rd)(a:Value)(c:UInt8)(w:World)(h:a0b w b s r a)(f:s.size≤400)(d:r.pos≤s.size):
  Calls prog 117 #[.pointer (some (a__ b 0)),.int .u8 c.toNat] w fun e w'=>e= .returned (.bool (r.seesOne s.data.toList c c))∧a0b w' b s r a∧But b w w':=by
 refine(a3L b s r a c w h f d).mono ?_;rintro e w' ⟨rfl,n,rfl⟩;exact⟨rfl,h.drewN n,(But.refl b _).drewN n⟩
theorem b6x(t:List UInt8)(r:Rd)(a b:UInt8):0≤(r.takeOne t a b).2∧(r.takeOne t a b).2≤255:=by
 unfold Rd.takeOne
 split
 ·rename_i h;have c:=(a4m h).1;have d:a≤t[r.pos]:=by
   unfold Rd.seesOne at h;rw[s_ c]at h;simp at h;exact h.2.1
  have f:=H_.mp d;have g:=(t[r.pos]).toNat_lt;have e:t.getD r.pos 0=t[r.pos]:=by simp[c]
  simp only[e];omega
 ·simp
theorem b69(s:ByteArray)(hs:s.size≤400)(b:Nat)(r:Rd)(w:World)(h:a0b w b s r a0j)(f:a1W s.data.toList r)(n:Nat)(Ah:r.seesOne s.data.toList 97 122=true):
  Calls prog 159 #[.pointer (some (a__ b 0))] w fun e w'=>∃cs,e= .returned (.agg cs.toArray)∧a1Z n w' (fun k=>w.heap.size≤k) cs (a0r s.data.toList n r).2∧a0b w' b s (a0r s.data.toList n r).1 a0j∧But b w w':=by
 unfold a0r a3g;rw[n_ Ah];simp only;have Ao:s.data.toList.length=s.size:=by simp
 have p0:r.pos≤s.size:=by have:=f.le;omega
 have a1:=a0o 97 122 f.le;have a2:=a0o 61 61 a1.le;have f2:=((a1.trans a2).fitB f).fitR;have a3:=a4u f2;generalize d:r.takeOne s.data.toList 97 122=S at*;have T:=h__ d;clear d;generalize j:(S.1.takeOne s.data.toList 61 61).1=r2 at*;have V:=h__ j;clear j;generalize i:a00 s.data.toList r2=q3 at*;have U:=h__ i;clear i;have F2:=h__ f2;have p1:S.1.pos≤s.size:=by have:=a1.le;omega
 have p3:q3.1.pos≤s.size:=by have:=a3.le;omega
 clear a1 a2 a3 f2 Ah;have HH:=h__ h;obtain⟨c0,c1,c2,c3,c4,fz⟩:=h;have hb:b<w.heap.size:=r_ w _ c0;have An:¬b=w.heap.size:=by omega
 have Al:¬b=w.heap.size+1:=by omega
 go_enter func159,ntmps159;go_wp2_with fail;refine(a52 b s r a0j _ (a3x HH.out _ _ _ _ _ _ _ _ _ _).rd hs p0).mono ?_;rw[T.out];rintro e w1 ⟨rfl,Ad,Aa⟩;have L1:=(a3x HH.out _ _ _ _ _ _ _ _ _ _).call Ad Aa;have p:=h__ L1;clear c0 c1 c2 c3 c4 fz Ad Aa;obtain⟨P,t,u,x,y,z,A,B,C,D,E,F,G,H,I,J,L,M,O,c,a,R⟩:=L1;clear P c;go_wp2_with fail;refine(a1B b s S.1 a0j 61 _ (p.out.set2 _).rd hs p1).mono ?_;rw[V.out];rintro e w2 ⟨rfl,Ae,Ab⟩;have L2:=(p.out.set2 _).call Ae Ab;have l:=h__ L2;clear p t u x y z A B C D E F G H I J L M O a R Ae Ab;obtain⟨P,t,u,x,y,z,A,B,C,D,E,F,G,H,I,J,L,M,O,c,a,R⟩:=L2;clear P c;go_wp2_with fail;refine(a50 s hs b r2 a0j _ l.out.rd F2.out).mono ?_;rw[U.out];rintro e w3 ⟨ve,rfl,Af,m,Ac⟩;have L3:=l.out.call Af Ac;have q:=h__ L3;have Ai:=Joins.ownsRow_forms m;have o:Hid (a02 w3 (a1u w) ve q3.2):=⟨a80 m (a_j _),fun k hk=>by have j1:=(m.lt k hk).1;have j2:=l.out.size;(try simp at j1);unfold a1u;omega⟩
 clear m;clear l t u x y z A B C D E F G H I J L M O a R Af Ac;obtain⟨P,t,u,x,y,z,A,B,C,D,E,F,G,H,I,J,L,M,O,c,a,R⟩:=L3;clear P c;obtain⟨Y,nn,Z,Ak⟩:∃Y nn Z,ve= .slice Y nn Z:=by
  rcases Ai with⟨rfl,_⟩|⟨g,Am,rfl⟩<;>exact⟨_,_,_,rfl⟩
 subst Ak;clear Ai;go_wp2_with fail;refine(a1B b s q3.1 a0j 59 _ (q.out.set5 _).rd hs p3).mono ?_;rintro e w4 ⟨rfl,Ag,N⟩;have L4:=(q.out.set5 _).call Ag N;have Aj:=h__ L4;have X:Hid _:=a3r (a4R o.out _ _ (fun k hk=>by unfold a1u at hk;simp only;omega)) N (fun k hk=>by unfold a1u at hk;omega);clear o;clear q t u x y z A B C D E F G H I J L M O a R Ag N;obtain⟨P,t,u,x,y,z,A,B,C,D,E,F,G,H,I,J,L,M,O,c,a,R⟩:=L4;clear P c;go_wp2_with fail;refine m_ (v:= .agg #[i_ 0,i_ r.pos,i_ S.2,i_ 0,i_ 0,.slice Y nn Z,.slice none 0 0,.slice none 0 0]) (by simp[results,results159,go_sem,t,u,x,y,z,A,B,C,E,F,G,H,I,J,L,M,D,O]) rfl ?_;obtain⟨e1,e2,e3,e4⟩:=a8K Aj.out (i_ 0) (i_ r.pos) (i_ S.2) (i_ 0) (i_ 0) (.slice Y nn Z) (.slice none 0 0) (.slice none 0 0);exact⟨[i_ 0,i_ r.pos,i_ S.2,i_ 0,i_ 0,.slice Y nn Z,.slice none 0 0,.slice none 0 0],rfl,⟨_,_,_,rfl,e3 _ _ X.out,a3R _ _ _,a3R _ _ _⟩,e1,e2⟩
theorem b7I(s:ByteArray)(Z:s.size≤400)(b:Nat)(r:Rd)(w:World)(h:a0b w b s r a0j)(f:a1W s.data.toList r)(n:Nat)(Au:r.seesOne s.data.toList 97 122=false)(Av:r.seesOne s.data.toList 94 94=true):
  Calls prog 160 #[.pointer (some (a__ b 0))] w fun e w'=>∃cs,e= .returned (.agg cs.toArray)∧a1Z n w' (fun k=>w.heap.size≤k) cs (a0r s.data.toList n r).2∧a0b w' b s (a0r s.data.toList n r).1 a0j∧But b w w':=by
 unfold a0r a3g;rw[f_ (by rw[Au];decide),n_ Av];simp only;have AD:s.data.toList.length=s.size:=by simp
 have p0:r.pos≤s.size:=by have:=f.le;omega
 have a0:=a0o 94 94 f.le;have a1:=a0o 97 122 a0.le;have a2:=a0o 58 58 a1.le;have a3:=a4h a2.le;have a4:=a0o 61 61 a3.le;have f4:=((((a0.trans a1).trans a2).trans a3).trans a4).fitB f|>.fitR
 have a5:=a4u f4;generalize L:(r.takeOne s.data.toList 94 94).1=r0 at*;have Ad:=h__ L;clear L;generalize H:r0.takeOne s.data.toList 97 122=q1 at*;have Aa:=h__ H;clear H;generalize M:(q1.1.takeOne s.data.toList 58 58).1=r2 at*;have Ae:=h__ M;clear M;generalize I:r2.label s.data.toList=q3 at*;have Ab:=h__ I;clear I;generalize N:(q3.1.takeOne s.data.toList 61 61).1=r4 at*;have Af:=h__ N;clear N;generalize J:a00 s.data.toList r4=q5 at*;have Ac:=h__ J;clear J;have F4:=h__ f4;have Az:r0.pos≤s.size:=by have:=a0.le;omega
 have p1:q1.1.pos≤s.size:=by have:=a1.le;omega
 have p2:r2.pos≤s.size:=by have:=a2.le;omega
 have p3:q3.1.pos≤s.size:=by have:=a3.le;omega
 have p5:q5.1.pos≤s.size:=by have:=a5.le;omega
 clear a0 a1 a2 a3 a4 a5 f4 Av Au;have HH:=h__ h;obtain⟨c0,c1,c2,c3,c4,fz⟩:=h;have hb:b<w.heap.size:=r_ w _ c0;have AC:¬b=w.heap.size:=by omega
 have AA:¬b=w.heap.size+1:=by omega
 go_enter func160,ntmps160;go_wp2_with fail;refine(a1B b s r a0j 94 _ (a3x HH.out _ _ _ _ _ _ _ _ _ _).rd Z p0).mono ?_;rw[Ad.out];rintro e w1 ⟨rfl,An,Ah⟩;have L1:=(a3x HH.out _ _ _ _ _ _ _ _ _ _).call An Ah;have S:=h__ L1;clear c0 c1 c2 c3 c4 fz An Ah;obtain⟨F,d,i,j,l,m,o,p,q,t,u,x,y,z,A,B,C,D,E,c,a,G⟩:=L1;clear F c;go_wp2_with fail;refine(a52 b s r0 a0j _ S.out.rd Z Az).mono ?_;rw[Aa.out];rintro e w2 ⟨rfl,Ao,Ai⟩;have L2:=S.out.call Ao Ai;have T:=h__ L2;clear S d i j l m o p q t u x y z A B C D E a G Ao Ai;obtain⟨F,d,i,j,l,m,o,p,q,t,u,x,y,z,A,B,C,D,E,c,a,G⟩:=L2;clear F c;go_wp2_with fail;refine(a1B b s q1.1 a0j 58 _ (T.out.set2 _).rd Z p1).mono ?_;rw[Ae.out];rintro e w3 ⟨rfl,Ap,Aj⟩;have L3:=(T.out.set2 _).call Ap Aj;have U:=h__ L3;clear T d i j l m o p q t u x y z A B C D E a G Ap Aj;obtain⟨F,d,i,j,l,m,o,p,q,t,u,x,y,z,A,B,C,D,E,c,a,G⟩:=L3;clear F c;go_wp2_with fail;refine(b0A b s r2 a0j _ U.out.rd Z p2).mono ?_;rw[Ab.out];rintro e w4 ⟨rfl,Aq,Ak⟩;have L4:=U.out.call Aq Ak;have V:=h__ L4;clear U d i j l m o p q t u x y z A B C D E a G Aq Ak;obtain⟨F,d,i,j,l,m,o,p,q,t,u,x,y,z,A,B,C,D,E,c,a,G⟩:=L4;clear F c;go_wp2_with fail;refine(a1B b s q3.1 a0j 61 _ (V.out.set3 _).rd Z p3).mono ?_;rw[Af.out];rintro e w5 ⟨rfl,Ar,Al⟩;have L5:=(V.out.set3 _).call Ar Al;have O:=h__ L5;clear V d i j l m o p q t u x y z A B C D E a G Ar Al;obtain⟨F,d,i,j,l,m,o,p,q,t,u,x,y,z,A,B,C,D,E,c,a,G⟩:=L5;clear F c;go_wp2_with fail;refine(a50 s Z b r4 a0j _ O.out.rd F4.out).mono ?_;rw[Ac.out];rintro e w6 ⟨ve,rfl,As,P,Am⟩;have L6:=O.out.call As Am;have X:=h__ L6;have Aw:=Joins.ownsRow_forms P;have R:Hid (a02 w6 (a1u w) ve q5.2):=⟨a80 P (a_j _),fun k hk=>by have j1:=(P.lt k hk).1;have j2:=O.out.size;(try simp at j1);unfold a1u;omega⟩
 clear P;clear O d i j l m o p q t u x y z A B C D E a G As Am;obtain⟨F,d,i,j,l,m,o,p,q,t,u,x,y,z,A,B,C,D,E,c,a,G⟩:=L6;clear F c;obtain⟨aa,nn,cc,Ay⟩:∃aa nn cc,ve= .slice aa nn cc:=by
  rcases Aw with⟨rfl,_⟩|⟨g,AB,rfl⟩<;>exact⟨_,_,_,rfl⟩
 subst Ay;clear Aw;go_wp2_with fail;refine(a1B b s q5.1 a0j 59 _ (X.out.set5 _).rd Z p5).mono ?_;rintro e w7 ⟨rfl,At,Y⟩;have L7:=(X.out.set5 _).call At Y;have Ax:=h__ L7;have Ag:Hid _:=a3r (a4R R.out _ _ (fun k hk=>by unfold a1u at hk;simp only;omega)) Y (fun k hk=>by unfold a1u at hk;omega);clear R;clear X d i j l m o p q t u x y z A B C D E a G At Y;obtain⟨F,d,i,j,l,m,o,p,q,t,u,x,y,z,A,B,C,D,E,c,a,G⟩:=L7;clear F c;go_wp2_with fail;refine m_ (v:= .agg #[i_ 1,i_ r.pos,i_ q1.2,i_ q3.2,i_ 0,.slice aa nn cc,.slice none 0 0,.slice none 0 0]) (by simp[results,results160,go_sem,d,i,j,l,m,o,p,q,u,x,y,z,A,B,C,D,t,E]) rfl ?_;obtain⟨e1,e2,e3,e4⟩:=a8K Ax.out (i_ 1) (i_ r.pos) (i_ q1.2) (i_ q3.2) (i_ 0) (.slice aa nn cc) (.slice none 0 0) (.slice none 0 0);exact⟨[i_ 1,i_ r.pos,i_ q1.2,i_ q3.2,i_ 0,.slice aa nn cc,.slice none 0 0,.slice none 0 0],rfl,⟨_,_,_,rfl,e3 _ _ Ag.out,a3R _ _ _,a3R _ _ _⟩,e1,e2⟩
theorem b8n(s:ByteArray)(hs:s.size≤400)(b:Nat)(r:Rd)(w:World)(h:a0b w b s r a0j)(f:a1W s.data.toList r)(n:Nat)(Ag:r.seesOne s.data.toList 97 122=false)(Ah:r.seesOne s.data.toList 94 94=false)(Ai:r.seesOne s.data.toList 62 62=true):
  Calls prog 161 #[.pointer (some (a__ b 0))] w fun e w'=>∃cs,e= .returned (.agg cs.toArray)∧a1Z n w' (fun k=>w.heap.size≤k) cs (a0r s.data.toList n r).2∧a0b w' b s (a0r s.data.toList n r).1 a0j∧But b w w':=by
 unfold a0r a3g;rw[f_ (by rw[Ag];decide),f_ (by rw[Ah];decide),n_ Ai];simp only;have Aq:s.data.toList.length=s.size:=by simp
 have p0:r.pos≤s.size:=by have:=f.le;omega
 have a0:=a0o 62 62 f.le;have a3:=a4h a0.le;have f4:=(a0.trans a3).fitB f|>.fitR
 have a5:=a4u f4;generalize j:(r.takeOne s.data.toList 62 62).1=r0 at*;have U:=h__ j;clear j;generalize d:r0.label s.data.toList=q3 at*;have S:=h__ d;clear d;generalize i:a00 s.data.toList q3.1=q5 at*;have T:=h__ i;clear i;have F4:=h__ f4;have Am:r0.pos≤s.size:=by have:=a0.le;omega
 have p5:q5.1.pos≤s.size:=by have:=a5.le;omega
 clear a0 a3 a5 f4 Ai Ag Ah;have HH:=h__ h;obtain⟨c0,c1,c2,c3,c4,fz⟩:=h;have hb:b<w.heap.size:=r_ w _ c0;have Ap:¬b=w.heap.size:=by omega
 have An:¬b=w.heap.size+1:=by omega
 go_enter func161,ntmps161;go_wp2_with fail;refine(a1B b s r a0j 62 _ (a3x HH.out _ _ _ _ _ _ _ _ _ _).rd hs p0).mono ?_;rw[U.out];rintro e w1 ⟨rfl,Ac,Z⟩;have L1:=(a3x HH.out _ _ _ _ _ _ _ _ _ _).call Ac Z;have p:=h__ L1;clear c0 c1 c2 c3 c4 fz Ac Z;obtain⟨P,t,u,x,y,z,A,B,C,D,E,F,G,H,I,J,L,M,O,c,a,R⟩:=L1;clear P c;go_wp2_with fail;refine(b0A b s r0 a0j _ p.out.rd hs Am).mono ?_;rw[S.out];rintro e w2 ⟨rfl,Ad,Aa⟩;have L2:=p.out.call Ad Aa;have l:=h__ L2;clear p t u x y z A B C D E F G H I J L M O a R Ad Aa;obtain⟨P,t,u,x,y,z,A,B,C,D,E,F,G,H,I,J,L,M,O,c,a,R⟩:=L2;clear P c;go_wp2_with fail;refine(a50 s hs b q3.1 a0j _ (l.out.set3 _).rd F4.out).mono ?_;rw[T.out];rintro e w3 ⟨ve,rfl,Ae,m,Ab⟩;have L3:=(l.out.set3 _).call Ae Ab;have q:=h__ L3;have Aj:=Joins.ownsRow_forms m;have o:Hid (a02 w3 (a1u w) ve q5.2):=⟨a80 m (a_j _),fun k hk=>by have j1:=(m.lt k hk).1;have j2:=l.out.size;(try simp at j1);unfold a1u;omega⟩
 clear m;clear l t u x y z A B C D E F G H I J L M O a R Ae Ab;obtain⟨P,t,u,x,y,z,A,B,C,D,E,F,G,H,I,J,L,M,O,c,a,R⟩:=L3;clear P c;obtain⟨X,nn,Y,Al⟩:∃X nn Y,ve= .slice X nn Y:=by
  rcases Aj with⟨rfl,_⟩|⟨g,Ao,rfl⟩<;>exact⟨_,_,_,rfl⟩
 subst Al;clear Aj;go_wp2_with fail;refine(a1B b s q5.1 a0j 59 _ (q.out.set5 _).rd hs p5).mono ?_;rintro e w4 ⟨rfl,Af,N⟩;have L4:=(q.out.set5 _).call Af N;have Ak:=h__ L4;have V:Hid _:=a3r (a4R o.out _ _ (fun k hk=>by unfold a1u at hk;simp only;omega)) N (fun k hk=>by unfold a1u at hk;omega);clear o;clear q t u x y z A B C D E F G H I J L M O a R Af N;obtain⟨P,t,u,x,y,z,A,B,C,D,E,F,G,H,I,J,L,M,O,c,a,R⟩:=L4;clear P c;go_wp2_with fail;refine m_ (v:= .agg #[i_ 2,i_ r.pos,i_ 0,i_ q3.2,i_ 0,.slice X nn Y,.slice none 0 0,.slice none 0 0]) (by simp[results,results161,go_sem,t,u,x,y,z,A,B,C,E,F,G,H,I,J,L,M,D,O]) rfl ?_;obtain⟨e1,e2,e3,e4⟩:=a8K Ak.out (i_ 2) (i_ r.pos) (i_ 0) (i_ q3.2) (i_ 0) (.slice X nn Y) (.slice none 0 0) (.slice none 0 0);exact⟨[i_ 2,i_ r.pos,i_ 0,i_ q3.2,i_ 0,.slice X nn Y,.slice none 0 0,.slice none 0 0],rfl,⟨_,_,_,rfl,e3 _ _ V.out,a3R _ _ _,a3R _ _ _⟩,e1,e2⟩
theorem b6i(s:ByteArray)(hs:s.size≤400)(b:Nat)(r:Rd)(w:World)(h:a0b w b s r a0j)(f:a1W s.data.toList r)(n:Nat)(hB:a11 s n)(hn:8≤r.depth+n)(Az:r.seesOne s.data.toList 97 122=false)(AA:r.seesOne s.data.toList 94 94=false)(AB:r.seesOne s.data.toList 62 62=false)(AC:r.seesOne s.data.toList 40 40=true)
  (Ac:(a08 s.data.toList n ((a00 s.data.toList (r.opening s.data.toList 40)).1.closing s.data.toList 41)).1.seesOne s.data.toList 123 123=false):
  Calls prog 162 #[.pointer (some (a__ b 0))] w fun e w'=>∃cs,e= .returned (.agg cs.toArray)∧a1Z n w' (fun k=>w.heap.size≤k) cs (a0r s.data.toList n r).2∧a0b w' b s (a0r s.data.toList n r).1 a0j∧But b w w':=by
 unfold a0r a3g;rw[f_ (by rw[Az];decide),f_ (by rw[AA];decide),f_ (by rw[AB];decide),n_ AC];simp only;rw[f_ (by rw[Ac];decide)];have AK:s.data.toList.length=s.size:=by simp
 have p0:r.pos≤s.size:=by have:=f.le;omega
 have d0:=f.d0;have d8:=f.d8;have f1:=a7g 40 f;have a2:=a4u f1;have a3:=a7G 40 41 f a2;have f3:=a3.fitB f;have a4:=a67 s.data.toList n _ f3;have f4:=a4.fitB f3;have o3:=(a10 40 f.le).2.2.1;have e3:=a2.depth;have e4:=a4.depth;generalize t:r.opening s.data.toList 40=r1 at*;have Ap:Hid (r.opening s.data.toList 40=r1):=t;clear t;generalize o:a00 s.data.toList r1=q2 at*;have An:Hid (a00 s.data.toList r1=q2):=o;clear o;generalize u:q2.1.closing s.data.toList 41=r3 at*;have Aq:Hid (q2.1.closing s.data.toList 41=r3):=u;clear u;generalize p:a08 s.data.toList n r3=q4 at*;have Ao:Hid (a08 s.data.toList n r3=q4):=p;clear p;have F1:Hid (a9A s.data.toList r1):=f1;have F3:Hid (a1W s.data.toList r3):=f3;have F4:Hid (a1W s.data.toList q4.1):=f4;have HB:Hid (a11 s n):=hB;have d3:r3.depth=r.depth:=a3.depth;have p2:q2.1.pos≤s.size:=by have:=a2.le;omega
 have p4:q4.1.pos≤s.size:=by have:=a4.le;omega
 clear a2 a3 a4 f1 f3 f4 AC Az AA AB hB;have HH:Hid (a0b w b s r a0j):=h;obtain⟨c0,c1,c2,c3,c4,fz⟩:=h;have hb:b<w.heap.size:=r_ w _ c0;have AJ:¬b=w.heap.size:=by omega
 have AH:¬b=w.heap.size+1:=by omega
 go_enter func162,ntmps162;go_wp2_with fail;refine(a6w b s r a0j 40 _ (a3x HH.out _ _ _ _ _ _ _ _ _ _).rd hs p0 (by omega) (by omega)).mono ?_;rw[Ap.out];rintro e w1 ⟨rfl,Au,As⟩;have L1:=(a3x HH.out _ _ _ _ _ _ _ _ _ _).call Au As;have y:=h__ L1;clear c0 c1 c2 c3 c4 fz Au As;obtain⟨X,A,B,C,D,E,F,G,H,I,J,L,M,N,O,P,R,S,U,l,j,lt⟩:=L1;clear X l;go_wp2_with fail;refine(a50 s hs b r1 a0j _ y.out.rd F1.out).mono ?_;rw[An.out];rintro e w2 ⟨ve,rfl,Av,V,At⟩;have L2:=y.out.call Av At;have Ad:=h__ L2;have AD:=Joins.ownsRow_forms V;have Z:Hid (a02 w2 (a1u w) ve q2.2):=⟨a80 V (a_j _),fun k m=>by have j1:=(V.lt k m).1;have j2:=y.out.size;(try simp at j1);unfold a1u;omega⟩
 clear V;clear y A B C D E F G H I J L M N O P R S U j lt Av At;obtain⟨X,A,B,C,D,E,F,G,H,I,J,L,M,N,O,P,R,S,U,l,j,lt⟩:=L2;clear X l;obtain⟨aa,nn,cc,Ak⟩:∃aa nn cc,ve= .slice aa nn cc:=by
  rcases AD with⟨rfl,_⟩|⟨g,AI,rfl⟩<;>exact⟨_,_,_,rfl⟩
 subst Ak;clear AD;go_wp2_with fail;refine(a5D b s q2.1 a0j 41 _ (Ad.out.set5 _).rd hs p2 (by omega) (by omega)).mono ?_;rw[Aq.out];rintro e w3 ⟨rfl,Aw,Ah⟩;have L3:=(Ad.out.set5 _).call Aw Ah;have z:=h__ L3;have Aa:Hid _:=a3r (a4R Z.out _ _ (fun k m=>by unfold a1u at m;simp only;omega)) Ah (fun k m=>by unfold a1u at m;omega);clear Z;clear Ad A B C D E F G H I J L M N O P R S U j lt Aw Ah;obtain⟨X,A,B,C,D,E,F,G,H,I,J,L,M,N,O,P,R,S,U,l,j,lt⟩:=L3;clear X l;go_wp2_with fail;refine(HB.out b r3 _ z.out.rd F3.out (by omega)).mono ?_;rw[Ao.out];rintro e w4 ⟨AG,rfl,Aj,Ax,Ai⟩;have L4:=z.out.call Ax Ai;have Ae:=h__ L4;have AF:=a0h Aj;have Y:Hid (a0l n w4 (a1u w) AG q4.2):=a6x Aj (fun k m=>by have j2:=z.out.size;(try simp at m);unfold a1u;omega);clear Aj;have Ab:Hid _:=a3r Aa.out Ai (fun k m=>by unfold a1u at m;omega);clear Aa;clear z A B C D E F G H I J L M N O P R S U j lt Ax Ai;obtain⟨X,A,B,C,D,E,F,G,H,I,J,L,M,N,O,P,R,S,U,l,j,lt⟩:=L4;clear X l;obtain⟨Af,Al,Ag,Ak⟩:=AF;subst Ak;go_wp2_with fail;refine(a1d b s q4.1 a0j 123 _ (Ae.out.set6 _).rd hs p4).mono ?_;rw[Ac];rintro e w5 ⟨rfl,Ay,T⟩;have L5:=(Ae.out.set6 _).call Ay T;have AE:=h__ L5;have Ar:Hid _:=a3r (a4R Ab.out _ _ (fun k m=>by unfold a1u at m;simp only;omega)) T (fun k m=>by unfold a1u at m;omega);have Am:Hid _:=a6l (a7k Y.out _ _ (fun k m=>by unfold a1u at m;simp only;omega)) T (fun k m=>by unfold a1u at m;omega);clear Ab;clear Y;clear Ae A B C D E F G H I J L M N O P R S U j lt Ay T;obtain⟨X,A,B,C,D,E,F,G,H,I,J,L,M,N,O,P,R,S,U,l,j,lt⟩:=L5;clear X l;go_wp2_with fail;refine m_ (v:= .agg #[i_ 3,i_ r.pos,i_ 0,i_ 0,i_ 0,.slice aa nn cc,.slice Af Al Ag,.slice none 0 0]) (by simp[results,results162,go_sem,A,B,C,D,E,F,G,H,J,L,M,N,O,P,R,S,I,U]) rfl ?_;obtain⟨e1,e2,e3,e4⟩:=a8K AE.out (i_ 3) (i_ r.pos) (i_ 0) (i_ 0) (i_ 0) (.slice aa nn cc) (.slice Af Al Ag) (.slice none 0 0);exact⟨[i_ 3,i_ r.pos,i_ 0,i_ 0,i_ 0,.slice aa nn cc,.slice Af Al Ag,.slice none 0 0],rfl,⟨_,_,_,rfl,e3 _ _ Ar.out,e4 _ _ _ Am.out,a3R _ _ _⟩,e1,e2⟩
theorem b6j(s:ByteArray)(hs:s.size≤400)(b:Nat)(r:Rd)(w:World)(h:a0b w b s r a0j)(f:a1W s.data.toList r)(n:Nat)(hB:a11 s n)(hn:8≤r.depth+n)(AL:r.seesOne s.data.toList 97 122=false)(AM:r.seesOne s.data.toList 94 94=false)(AN:r.seesOne s.data.toList 62 62=false)(AO:r.seesOne s.data.toList 40 40=true)
  (Ai:(a08 s.data.toList n ((a00 s.data.toList (r.opening s.data.toList 40)).1.closing s.data.toList 41)).1.seesOne s.data.toList 123 123=true):
  Calls prog 162 #[.pointer (some (a__ b 0))] w fun e w'=>∃cs,e= .returned (.agg cs.toArray)∧a1Z n w' (fun k=>w.heap.size≤k) cs (a0r s.data.toList n r).2∧a0b w' b s (a0r s.data.toList n r).1 a0j∧But b w w':=by
 unfold a0r a3g;rw[f_ (by rw[AL];decide),f_ (by rw[AM];decide),f_ (by rw[AN];decide),n_ AO];simp only;rw[n_ Ai];have AW:s.data.toList.length=s.size:=by simp
 have p0:r.pos≤s.size:=by have:=f.le;omega
 have d0:=f.d0;have d8:=f.d8;have f1:=a7g 40 f;have a2:=a4u f1;have a3:=a7G 40 41 f a2;have f3:=a3.fitB f;have a4:=a67 s.data.toList n _ f3;have f4:=a4.fitB f3;have o3:=(a10 40 f.le).2.2.1;have e3:=a2.depth;have e4:=a4.depth;generalize P:r.opening s.data.toList 40=r1 at*;have AA:Hid (r.opening s.data.toList 40=r1):=P;clear P;generalize N:a00 s.data.toList r1=q2 at*;have Ay:Hid (a00 s.data.toList r1=q2):=N;clear N;generalize R:q2.1.closing s.data.toList 41=r3 at*;have AB:Hid (q2.1.closing s.data.toList 41=r3):=R;clear R;generalize O:a08 s.data.toList n r3=q4 at*;have Az:Hid (a08 s.data.toList n r3=q4):=O;clear O;have F1:Hid (a9A s.data.toList r1):=f1;have F3:Hid (a1W s.data.toList r3):=f3;have F4:Hid (a1W s.data.toList q4.1):=f4;have HB:Hid (a11 s n):=hB;have d3:r3.depth=r.depth:=a3.depth;have p2:q2.1.pos≤s.size:=by have:=a2.le;omega
 have p4:q4.1.pos≤s.size:=by have:=a4.le;omega
 clear a2 a3 a4 f1 f3 f4 AO AL AM AN hB;have HH:Hid (a0b w b s r a0j):=h;obtain⟨c0,c1,c2,c3,c4,fz⟩:=h;have hb:b<w.heap.size:=r_ w _ c0;have AV:¬b=w.heap.size:=by omega
 have AT:¬b=w.heap.size+1:=by omega
 go_enter func162,ntmps162;go_wp2_with fail;refine(a6w b s r a0j 40 _ (a3x HH.out _ _ _ _ _ _ _ _ _ _).rd hs p0 (by omega) (by omega)).mono ?_;rw[AA.out];rintro e w1 ⟨rfl,AF,AD⟩;have L1:=(a3x HH.out _ _ _ _ _ _ _ _ _ _).call AF AD;have V:=h__ L1;clear c0 c1 c2 c3 c4 fz AF AD;obtain⟨T,o,p,t,u,y,z,A,B,C,D,E,F,G,H,I,J,L,M,m,j,U⟩:=L1;clear T m;go_wp2_with fail;refine(a50 s hs b r1 a0j _ V.out.rd F1.out).mono ?_;rw[Ay.out];rintro e w2 ⟨ve,rfl,AG,Ab,AE⟩;have L2:=V.out.call AG AE;have Aj:=h__ L2;have AP:=Joins.ownsRow_forms Ab;have Ae:Hid (a02 w2 (a1u w) ve q2.2):=⟨a80 Ab (a_j _),fun k l=>by have j1:=(Ab.lt k l).1;have j2:=V.out.size;(try simp at j1);unfold a1u;omega⟩
 clear Ab;clear V o p t u y z A B C D E F G H I J L M j U AG AE;obtain⟨T,o,p,t,u,y,z,A,B,C,D,E,F,G,H,I,J,L,M,m,j,U⟩:=L2;clear T m;obtain⟨aa,nn,cc,S⟩:∃aa nn cc,ve= .slice aa nn cc:=by
  rcases AP with⟨rfl,_⟩|⟨g,AU,rfl⟩<;>exact⟨_,_,_,rfl⟩
 subst S;clear AP;go_wp2_with fail;refine(a5D b s q2.1 a0j 41 _ (Aj.out.set5 _).rd hs p2 (by omega) (by omega)).mono ?_;rw[AB.out];rintro e w3 ⟨rfl,AH,Ap⟩;have L3:=(Aj.out.set5 _).call AH Ap;have X:=h__ L3;have Af:Hid _:=a3r (a4R Ae.out _ _ (fun k l=>by unfold a1u at l;simp only;omega)) Ap (fun k l=>by unfold a1u at l;omega);clear Ae;clear Aj o p t u y z A B C D E F G H I J L M j U AH Ap;obtain⟨T,o,p,t,u,y,z,A,B,C,D,E,F,G,H,I,J,L,M,m,j,U⟩:=L3;clear T m;go_wp2_with fail;refine(HB.out b r3 _ X.out.rd F3.out (by omega)).mono ?_;rw[Az.out];rintro e w4 ⟨AR,rfl,Ar,AI,Aq⟩;have L4:=X.out.call AI Aq;have Ak:=h__ L4;have At:=a0h Ar;have Ac:Hid (a0l n w4 (a1u w) AR q4.2):=a6x Ar (fun k l=>by have j2:=X.out.size;(try simp at l);unfold a1u;omega);clear Ar;have Ag:Hid _:=a3r Af.out Aq (fun k l=>by unfold a1u at l;omega);clear Af;clear X o p t u y z A B C D E F G H I J L M j U AI Aq;obtain⟨T,o,p,t,u,y,z,A,B,C,D,E,F,G,H,I,J,L,M,m,j,U⟩:=L4;clear T m;obtain⟨Al,Au,An,S⟩:=At;subst S;go_wp2_with fail;refine(a1d b s q4.1 a0j 123 _ (Ak.out.set6 _).rd hs p4).mono ?_;rw[Ai];rintro e w5 ⟨rfl,AJ,Z⟩;have L5:=(Ak.out.set6 _).call AJ Z;have Y:=h__ L5;have Ah:Hid _:=a3r (a4R Ag.out _ _ (fun k l=>by unfold a1u at l;simp only;omega)) Z (fun k l=>by unfold a1u at l;omega);have Ad:Hid _:=a6l (a7k Ac.out _ _ (fun k l=>by unfold a1u at l;simp only;omega)) Z (fun k l=>by unfold a1u at l;omega);clear Ag;clear Ac;clear Ak o p t u y z A B C D E F G H I J L M j U AJ Z;obtain⟨T,o,p,t,u,y,z,A,B,C,D,E,F,G,H,I,J,L,M,m,j,U⟩:=L5;clear T m;go_wp2_with fail;refine(HB.out b q4.1 _ Y.out.rd F4.out (by omega)).mono ?_;rintro e w6 ⟨AS,rfl,As,AK,Aa⟩;have L6:=Y.out.call AK Aa;have AQ:=h__ L6;have At:=a0h As;have Ax:Hid (a0l n w6 (a1u w) AS (a08 s.data.toList n q4.1).2):=a6x As (fun k l=>by have j2:=Y.out.size;(try simp at l);unfold a1u;omega);clear As;have AC:Hid _:=a3r Ah.out Aa (fun k l=>by unfold a1u at l;omega);have Aw:Hid _:=a6l Ad.out Aa (fun k l=>by unfold a1u at l;omega);clear Ah;clear Ad;clear Y o p t u y z A B C D E F G H I J L M j U AK Aa;obtain⟨T,o,p,t,u,y,z,A,B,C,D,E,F,G,H,I,J,L,M,m,j,U⟩:=L6;clear T m;obtain⟨Am,Av,Ao,S⟩:=At;subst S;go_wp2_with fail;refine m_ (v:= .agg #[i_ 3,i_ r.pos,i_ 0,i_ 0,i_ 0,.slice aa nn cc,.slice Al Au An,.slice Am Av Ao]) (by simp[results,results162,go_sem,o,p,t,u,y,z,A,B,D,E,F,G,H,I,J,L,C,M]) rfl ?_;obtain⟨e1,e2,e3,e4⟩:=a8K (AQ.out.set7 _) (i_ 3) (i_ r.pos) (i_ 0) (i_ 0) (i_ 0) (.slice aa nn cc) (.slice Al Au An) (.slice Am Av Ao);exact⟨[i_ 3,i_ r.pos,i_ 0,i_ 0,i_ 0,.slice aa nn cc,.slice Al Au An,.slice Am Av Ao],rfl,⟨_,_,_,rfl,e3 _ _ (a4R AC.out _ _ (fun k l=>by unfold a1u at l;simp only;omega)),e4 _ _ _ (a7k Aw.out _ _ (fun k l=>by unfold a1u at l;simp only;omega)),e4 _ _ _ (a7k Ax.out _ _ (fun k l=>by unfold a1u at l;simp only;omega))⟩,e1,e2⟩
theorem b7w(s:ByteArray)(hs:s.size≤400)(b:Nat)(r:Rd)(w:World)(h:a0b w b s r a0j)(f:a1W s.data.toList r)(n:Nat)(hB:a11 s n)(hn:8≤r.depth+n)(Am:r.seesOne s.data.toList 97 122=false)(An:r.seesOne s.data.toList 94 94=false)(Ao:r.seesOne s.data.toList 62 62=false)(Ap:r.seesOne s.data.toList 40 40=false)(Aq:r.seesOne s.data.toList 42 42=true):
  Calls prog 163 #[.pointer (some (a__ b 0))] w fun e w'=>∃cs,e= .returned (.agg cs.toArray)∧a1Z n w' (fun k=>w.heap.size≤k) cs (a0r s.data.toList n r).2∧a0b w' b s (a0r s.data.toList n r).1 a0j∧But b w w':=by
 unfold a0r a3g;rw[f_ (by rw[Am];decide),f_ (by rw[An];decide),f_ (by rw[Ao];decide),f_ (by rw[Ap];decide),n_ Aq];simp only;have AA:s.data.toList.length=s.size:=by simp
 have p0:r.pos≤s.size:=by have:=f.le;omega
 have a0:=b0N (t:=s.data.toList) f.le;have a1:=a0o 42 42 a0.le;have a2:=a0o 49 57 a1.le;have f2:=((a0.trans a1).trans a2).fitB f;have e2:=((a0.trans a1).trans a2).depth;have cr:=b6x s.data.toList (r.room.takeOne s.data.toList 42 42).1 49 57;generalize o:r.room=r0 at*;have Ac:Hid (r.room=r0):=o;clear o;generalize p:(r0.takeOne s.data.toList 42 42).1=r1 at*;have Ad:Hid ((r0.takeOne s.data.toList 42 42).1=r1):=p;clear p;generalize m:r1.takeOne s.data.toList 49 57=Z at*;have Ab:Hid (r1.takeOne s.data.toList 49 57=Z):=m;clear m;have F2:Hid (a1W s.data.toList Z.1):=f2;have HB:Hid (a11 s n):=hB;have Au:r0.pos≤s.size:=by have:=a0.le;omega
 have p1:r1.pos≤s.size:=by have:=a1.le;omega
 obtain⟨Ax,Ay⟩:=cr;clear a0 a1 a2 f2 Aq Am An Ao Ap hB;have HH:Hid (a0b w b s r a0j):=h;obtain⟨c0,c1,c2,c3,c4,fz⟩:=h;have hb:b<w.heap.size:=r_ w _ c0;have Az:¬b=w.heap.size:=by omega
 have Aw:¬b=w.heap.size+1:=by omega
 go_enter func163,ntmps163;go_wp2_with fail;refine(b1A b s r a0j _ (a3x HH.out _ _ _ _ _ _ _ _ _ _).rd).mono ?_;rw[Ac.out];rintro e w1 ⟨rfl,Ai,Ae⟩;have L1:=(a3x HH.out _ _ _ _ _ _ _ _ _ _).call Ai Ae;have y:=h__ L1;clear c0 c1 c2 c3 c4 fz Ai Ae;obtain⟨rd,C,D,E,F,G,H,I,J,L,M,N,O,P,R,S,T,U,V,l,j,lt⟩:=L1;clear rd l;go_wp2_with fail;refine(a1B b s r0 a0j 42 _ y.out.rd hs Au).mono ?_;rw[Ad.out];rintro e w2 ⟨rfl,Aj,Af⟩;have L2:=y.out.call Aj Af;have z:=h__ L2;clear y C D E F G H I J L M N O P R S T U V j lt Aj Af;obtain⟨rd,C,D,E,F,G,H,I,J,L,M,N,O,P,R,S,T,U,V,l,j,lt⟩:=L2;clear rd l;go_wp2_with fail;refine(a6B b s r1 a0j 49 57 _ z.out.rd hs p1).mono ?_;rw[Ab.out];rintro e w3 ⟨rfl,Ak,Ag⟩;have L3:=z.out.call Ak Ag;have u:=h__ L3;clear z C D E F G H I J L M N O P R S T U V j lt Ak Ag;obtain⟨rd,C,D,E,F,G,H,I,J,L,M,N,O,P,R,S,T,U,V,l,j,lt⟩:=L3;clear rd l;go_wp2_with fail;refine(HB.out b Z.1 _ (u.out.set4 _).rd F2.out (by omega)).mono ?_;rintro e w4 ⟨Av,rfl,X,Al,Ah⟩;have L4:=(u.out.set4 _).call Al Ah;have Ar:=h__ L4;have As:=a0h X;have Aa:Hid (a0l n w4 (a1u w) Av (a08 s.data.toList n Z.1).2):=a6x X (fun k hk=>by have j2:=u.out.size;(try simp at hk);unfold a1u;omega);clear X;clear u C D E F G H I J L M N O P R S T U V j lt Al Ah;obtain⟨rd,C,D,E,F,G,H,I,J,L,M,N,O,P,R,S,T,U,V,l,j,lt⟩:=L4;clear rd l;obtain⟨A,Y,B,At⟩:=As;subst At;go_wp2_with fail;refine m_ (v:= .agg #[i_ 4,i_ r.pos,i_ 0,i_ 0,i_ (1+Z.2),.slice none 0 0,.slice A Y B,.slice none 0 0]) (by simp[results,results163,go_sem,C,D,E,F,G,H,I,J,M,N,O,P,R,S,T,U,L,V]) rfl ?_;obtain⟨e1,e2,e3,e4⟩:=a8K (Ar.out.set6 _) (i_ 4) (i_ r.pos) (i_ 0) (i_ 0) (i_ (1+Z.2)) (.slice none 0 0) (.slice A Y B) (.slice none 0 0);exact⟨[i_ 4,i_ r.pos,i_ 0,i_ 0,i_ (1+Z.2),.slice none 0 0,.slice A Y B,.slice none 0 0],rfl,⟨_,_,_,rfl,b3T _ _,e4 _ _ _ (a7k Aa.out _ _ (fun k hk=>by unfold a1u at hk;simp only;omega)),a3R _ _ _⟩,e1,e2⟩
structure Res(W w:World)(b:Nat)(s:ByteArray)(r:Rd):Prop where
 rd:a0b W b s r a0j
 h0:W.cell? ⟨w.heap.size,0,none⟩=some (.int .i64 0)
 h1:W.cell? ⟨w.heap.size,1,none⟩=some (.int .i64 0)
 h2:W.cell? ⟨w.heap.size,2,none⟩=some (.int .i64 0)
 h3:W.cell? ⟨w.heap.size,3,none⟩=some (.int .i64 0)
 h4:W.cell? ⟨w.heap.size,4,none⟩=some (.int .i64 0)
 h5:W.cell? ⟨w.heap.size,5,none⟩=some (.slice none 0 0)
 h6:W.cell? ⟨w.heap.size,6,none⟩=some (.slice none 0 0)
 h7:W.cell? ⟨w.heap.size,7,none⟩=some (.slice none 0 0)
 hf:∀o,W.frozen? ⟨w.heap.size,o,none⟩=false
 but:But b w W
 size:w.heap.size+1≤W.heap.size
 lt:b<w.heap.size
theorem a2R{w:World}{b:Nat}{s:ByteArray}{r:Rd}(h:a0b w b s r a0j)(t:TypeId):Res (w.alloc (.cells #[i_ 0,i_ 0,i_ 0,i_ 0,i_ 0,.slice none 0 0,.slice none 0 0,.slice none 0 0] t)) w b s r:=by
 have a:b<w.heap.size:=r_ w _ h.c0;refine⟨a2M h _,?_,?_,?_,?_,?_,?_,?_,?_,fun o=> ?_,(But.refl b w).alloc _,by simp,a⟩;all_goals simp[go_sem]
theorem Res.call{W d w:World}{b:Nat}{s:ByteArray}{r g:Rd}(L:Res W w b s r)(i:a0b d b s g a0j)(f:But b W d):Res d w b s g:=by
 have j:=L.size;have h:=L.lt;have c:d.heap[w.heap.size]? =W.heap[w.heap.size]? :=f.block _ (by omega) (fun e=>by cases e;omega);exact⟨i,(e_ (a:=(a__ w.heap.size 0)) c).trans L.h0,(e_ (a:=(a__ w.heap.size 1)) c).trans L.h1,(e_ (a:=(a__ w.heap.size 2)) c).trans L.h2,(e_ (a:=(a__ w.heap.size 3)) c).trans L.h3,(e_ (a:=(a__ w.heap.size 4)) c).trans L.h4,(e_ (a:=(a__ w.heap.size 5)) c).trans L.h5,(e_ (a:=(a__ w.heap.size 6)) c).trans L.h6,(e_ (a:=(a__ w.heap.size 7)) c).trans L.h7,fun o=>(I_ (a:=(a__ w.heap.size o)) c).trans (L.hf o),L.but.trans f,K_ j f.size,h⟩
theorem a7M{W w:World}{b:Nat}{s:ByteArray}{r:Rd}(L:Res W w b s r)(u0 u1 u2 u3 u4 u5 u6 u7:Value):
  a0b (((((((((W).setCell (a__ w.heap.size 0) u0).setCell (a__ w.heap.size 1) u1).setCell (a__ w.heap.size 2) u2).setCell (a__ w.heap.size 3) u3).setCell (a__ w.heap.size 4) u4).setCell (a__ w.heap.size 5) u5).setCell (a__ w.heap.size 6) u6).setCell (a__ w.heap.size 7) u7) b s r a0j∧But b w (((((((((W).setCell (a__ w.heap.size 0) u0).setCell (a__ w.heap.size 1) u1).setCell (a__ w.heap.size 2) u2).setCell (a__ w.heap.size 3) u3).setCell (a__ w.heap.size 4) u4).setCell (a__ w.heap.size 5) u5).setCell (a__ w.heap.size 6) u6).setCell (a__ w.heap.size 7) u7)∧
  (∀n cs q,a1Z n W (fun k=>w.heap.size+1≤k) cs q→a1Z n (((((((((W).setCell (a__ w.heap.size 0) u0).setCell (a__ w.heap.size 1) u1).setCell (a__ w.heap.size 2) u2).setCell (a__ w.heap.size 3) u3).setCell (a__ w.heap.size 4) u4).setCell (a__ w.heap.size 5) u5).setCell (a__ w.heap.size 6) u6).setCell (a__ w.heap.size 7) u7) (fun k=>w.heap.size≤k) cs q):=by
 have c:=L.lt;have a:∀k,w.heap.size+1≤k→k<W.heap.size→w.heap.size≤k∧(((((((((W).setCell (a__ w.heap.size 0) u0).setCell (a__ w.heap.size 1) u1).setCell (a__ w.heap.size 2) u2).setCell (a__ w.heap.size 3) u3).setCell (a__ w.heap.size 4) u4).setCell (a__ w.heap.size 5) u5).setCell (a__ w.heap.size 6) u6).setCell (a__ w.heap.size 7) u7).heap[k]? =W.heap[k]? :=by
  intro k a _;refine⟨by omega,?_⟩;repeat rw[o_ _ _ _ _ (by simp only;omega)]
 refine⟨?_,?_,fun n cs q h=>a1P h a⟩
 ·repeat (refine a15 ?_ _ _ (by simp only;omega))
  exact L.rd
 ·repeat (refine But.setNew ?_ _ _ (by simp))
  exact L.but
theorem a40(b:Nat)(s:ByteArray)(r:Rd)(a:Value)(c d:UInt8)(w:World)(h:a0b w b s r a)(g:s.size≤400)(f:r.pos≤s.size):
  Calls prog 155 #[.pointer (some (a__ b 0)),.int .u8 c.toNat,.int .u8 d.toNat] w fun e w'=>e= .returned (.bool (r.seesOne s.data.toList c d))∧a0b w' b s r a∧But b w w':=by
 refine(a4Z b s r a c d w h g f).mono ?_;rintro e w' ⟨rfl,n,rfl⟩;exact⟨rfl,h.drewN n,(But.refl b _).drewN n⟩
theorem c2M(s:ByteArray)(hs:s.size≤400)(b:Nat)(r:Rd)(w:World)(h:a0b w b s r a0j)(f:a1W s.data.toList r)(n:Nat)(hB:a11 s n)(hn:8≤r.depth+n)(t0:r.seesOne s.data.toList 97 122=true):
  Calls prog 120 #[.pointer (some (a__ b 0))] w fun e w'=>∃cs,e= .returned (.agg cs.toArray)∧a1Z n w' (fun k=>w.heap.size≤k) cs (a0r s.data.toList n r).2∧a0b w' b s (a0r s.data.toList n r).1 a0j∧But b w w':=by
 have Ac:s.data.toList.length=s.size:=by simp
 have p0:r.pos≤s.size:=by have:=f.le;omega
 have HB:=h__ hB;have HH:=h__ h;have hb:b<w.heap.size:=r_ w _ h.c0;have Ab:¬b=w.heap.size:=by omega
 clear hB h;go_enter func120,ntmps120;go_wp2_with fail;refine(a40 b s r a0j 97 122 _ (a2R HH.out _).rd hs p0).mono ?_;rw[t0];rintro e w1 ⟨rfl,q,m⟩;have L1:=(a2R HH.out _).call q m;have c:=h__ L1;clear q m;obtain⟨Z,G,H,I,J,L,M,N,O,R,j,i,lt⟩:=L1;clear Z j;go_wp2_with fail;refine(b69 s hs b r _ c.out.rd f n t0).mono ?_;rintro e w2 ⟨cs,rfl,y,t,o⟩;have L2:=c.out.call t o;have z:=h__ L2;have d:a1Z n w2 (fun k=>w.heap.size+1≤k) cs (a0r s.data.toList n r).2:=a1P y (fun k hk _=>⟨by have j2:=c.out.size;(try simp at hk);omega,rfl⟩);clear y;generalize hq:(a0r s.data.toList n r).2=a at*;have HQ:=h__ hq;clear hq;have A:=h__ d;obtain⟨ve,va,vb,P,p,u,x⟩:=d;subst P;obtain⟨C,Y,F,U⟩:∃l nn cc,ve= .slice l nn cc:=by
  rcases Joins.ownsRow_forms p.1 with⟨rfl,_⟩|⟨g,Aa,rfl⟩<;>exact⟨_,_,_,rfl⟩
 obtain⟨l,V,D,S⟩:=a0h u;obtain⟨B,X,E,T⟩:=a0h x;subst U S T;clear p u x;clear c G H I J L M N O R i lt t o;obtain⟨Z,G,H,I,J,L,M,N,O,R,j,i,lt⟩:=L2;clear Z j;simp only[a45,O_,a_t];go_wp2_with fail;refine m_ (v:= .agg #[i_ a.1.kind,i_ a.1.place,i_ a.1.name,i_ a.1.label,i_ a.1.count,.slice C Y F,.slice l V D,.slice B X E]) (by simp[results,results120,go_sem,G,H,I,J,L,M,N,O,R]) rfl ?_;obtain⟨e1,e2,e3⟩:=a7M z.out (i_ a.1.kind) (i_ a.1.place) (i_ a.1.name) (i_ a.1.label) (i_ a.1.count) (.slice C Y F) (.slice l V D) (.slice B X E);rw[HQ.out];exact⟨[i_ a.1.kind,i_ a.1.place,i_ a.1.name,i_ a.1.label,i_ a.1.count,.slice C Y F,.slice l V D,.slice B X E],rfl,e3 _ _ _ A.out,e1,e2⟩
theorem c2R(s:ByteArray)(Y:s.size≤400)(b:Nat)(r:Rd)(w:World)(h:a0b w b s r a0j)(f:a1W s.data.toList r)(n:Nat)(hB:a11 s n)(hn:8≤r.depth+n)(t0:r.seesOne s.data.toList 97 122=false)(t1:r.seesOne s.data.toList 94 94=true):
  Calls prog 120 #[.pointer (some (a__ b 0))] w fun e w'=>∃cs,e= .returned (.agg cs.toArray)∧a1Z n w' (fun k=>w.heap.size≤k) cs (a0r s.data.toList n r).2∧a0b w' b s (a0r s.data.toList n r).1 a0j∧But b w w':=by
 have Ae:s.data.toList.length=s.size:=by simp
 have p0:r.pos≤s.size:=by have:=f.le;omega
 have HB:=h__ hB;have HH:=h__ h;have hb:b<w.heap.size:=r_ w _ h.c0;have Ad:¬b=w.heap.size:=by omega
 clear hB h;go_enter func120,ntmps120;go_wp2_with fail;refine(a40 b s r a0j 97 122 _ (a2R HH.out _).rd Y p0).mono ?_;rw[t0];rintro e w1 ⟨rfl,F,A⟩;have L1:=(a2R HH.out _).call F A;have l:=h__ L1;clear F A;obtain⟨M,o,p,q,t,u,x,y,z,D,d,c,N⟩:=L1;clear M d;go_wp2_with fail;refine(a1d b s r a0j 94 _ l.out.rd Y p0).mono ?_;rw[t1];rintro e w2 ⟨rfl,G,B⟩;have L2:=l.out.call G B;have i:=h__ L2;clear l o p q t u x y z D c N;clear G B;obtain⟨M,o,p,q,t,u,x,y,z,D,d,c,N⟩:=L2;clear M d;go_wp2_with fail;refine(b7I s Y b r _ i.out.rd f n t0 t1).mono ?_;rintro e w3 ⟨cs,rfl,L,H,C⟩;have L3:=i.out.call H C;have O:=h__ L3;have j:a1Z n w3 (fun k=>w.heap.size+1≤k) cs (a0r s.data.toList n r).2:=a1P L (fun k hk _=>⟨by have j2:=i.out.size;(try simp at hk);omega,rfl⟩);clear L;generalize hq:(a0r s.data.toList n r).2=a at*;have HQ:=h__ hq;clear hq;have P:=h__ j;obtain⟨ve,va,vb,X,E,I,J⟩:=j;subst X;obtain⟨S,ne,V,Ab⟩:∃m nn cc,ve= .slice m nn cc:=by
  rcases Joins.ownsRow_forms E.1 with⟨rfl,_⟩|⟨g,Ac,rfl⟩<;>exact⟨_,_,_,rfl⟩
 obtain⟨m,na,T,Z⟩:=a0h I;obtain⟨R,nb,U,Aa⟩:=a0h J;subst Ab Z Aa;clear E I J;clear i o p q t u x y z D c N H C;obtain⟨M,o,p,q,t,u,x,y,z,D,d,c,N⟩:=L3;clear M d;simp only[a45,O_,a_t];go_wp2_with fail;refine m_ (v:= .agg #[i_ a.1.kind,i_ a.1.place,i_ a.1.name,i_ a.1.label,i_ a.1.count,.slice S ne V,.slice m na T,.slice R nb U]) (by simp[results,results120,go_sem,o,p,q,t,u,x,y,z,D]) rfl ?_;obtain⟨e1,e2,e3⟩:=a7M O.out (i_ a.1.kind) (i_ a.1.place) (i_ a.1.name) (i_ a.1.label) (i_ a.1.count) (.slice S ne V) (.slice m na T) (.slice R nb U);rw[HQ.out];exact⟨[i_ a.1.kind,i_ a.1.place,i_ a.1.name,i_ a.1.label,i_ a.1.count,.slice S ne V,.slice m na T,.slice R nb U],rfl,e3 _ _ _ P.out,e1,e2⟩
theorem c2V(s:ByteArray)(S:s.size≤400)(b:Nat)(r:Rd)(w:World)(h:a0b w b s r a0j)(f:a1W s.data.toList r)(n:Nat)(hB:a11 s n)(hn:8≤r.depth+n)(t0:r.seesOne s.data.toList 97 122=false)(t1:r.seesOne s.data.toList 94 94=false)(t2:r.seesOne s.data.toList 62 62=true):
  Calls prog 120 #[.pointer (some (a__ b 0))] w fun e w'=>∃cs,e= .returned (.agg cs.toArray)∧a1Z n w' (fun k=>w.heap.size≤k) cs (a0r s.data.toList n r).2∧a0b w' b s (a0r s.data.toList n r).1 a0j∧But b w w':=by
 have Ag:s.data.toList.length=s.size:=by simp
 have p0:r.pos≤s.size:=by have:=f.le;omega
 have HB:=h__ hB;have HH:=h__ h;have hb:b<w.heap.size:=r_ w _ h.c0;have Af:¬b=w.heap.size:=by omega
 clear hB h;go_enter func120,ntmps120;go_wp2_with fail;refine(a40 b s r a0j 97 122 _ (a2R HH.out _).rd S p0).mono ?_;rw[t0];rintro e w1 ⟨rfl,J,E⟩;have L1:=(a2R HH.out _).call J E;have l:=h__ L1;clear J E;obtain⟨B,o,p,q,t,u,x,y,z,A,d,c,C⟩:=L1;clear B d;go_wp2_with fail;refine(a1d b s r a0j 94 _ l.out.rd S p0).mono ?_;rw[t1];rintro e w2 ⟨rfl,L,F⟩;have L2:=l.out.call L F;have m:=h__ L2;clear l o p q t u x y z A c C;clear L F;obtain⟨B,o,p,q,t,u,x,y,z,A,d,c,C⟩:=L2;clear B d;go_wp2_with fail;refine(a1d b s r a0j 62 _ m.out.rd S p0).mono ?_;rw[t2];rintro e w3 ⟨rfl,M,G⟩;have L3:=m.out.call M G;have i:=h__ L3;clear m o p q t u x y z A c C;clear M G;obtain⟨B,o,p,q,t,u,x,y,z,A,d,c,C⟩:=L3;clear B d;go_wp2_with fail;refine(b8n s S b r _ i.out.rd f n t0 t1 t2).mono ?_;rintro e w4 ⟨cs,rfl,R,N,H⟩;have L4:=i.out.call N H;have T:=h__ L4;have j:a1Z n w4 (fun k=>w.heap.size+1≤k) cs (a0r s.data.toList n r).2:=a1P R (fun k hk _=>⟨by have j2:=i.out.size;(try simp at hk);omega,rfl⟩);clear R;generalize hq:(a0r s.data.toList n r).2=a at*;have HQ:=h__ hq;clear hq;have U:=h__ j;obtain⟨ve,va,vb,Aa,I,O,P⟩:=j;subst Aa;obtain⟨X,ne,ce,Ad⟩:∃D nn cc,ve= .slice D nn cc:=by
  rcases Joins.ownsRow_forms I.1 with⟨rfl,_⟩|⟨g,Ae,rfl⟩<;>exact⟨_,_,_,rfl⟩
 obtain⟨D,na,Y,Ab⟩:=a0h O;obtain⟨V,nb,Z,Ac⟩:=a0h P;subst Ad Ab Ac;clear I O P;clear i o p q t u x y z A c C N H;obtain⟨B,o,p,q,t,u,x,y,z,A,d,c,C⟩:=L4;clear B d;simp only[a45,O_,a_t];go_wp2_with fail;refine m_ (v:= .agg #[i_ a.1.kind,i_ a.1.place,i_ a.1.name,i_ a.1.label,i_ a.1.count,.slice X ne ce,.slice D na Y,.slice V nb Z]) (by simp[results,results120,go_sem,o,p,q,t,u,x,y,z,A]) rfl ?_;obtain⟨e1,e2,e3⟩:=a7M T.out (i_ a.1.kind) (i_ a.1.place) (i_ a.1.name) (i_ a.1.label) (i_ a.1.count) (.slice X ne ce) (.slice D na Y) (.slice V nb Z);rw[HQ.out];exact⟨[i_ a.1.kind,i_ a.1.place,i_ a.1.name,i_ a.1.label,i_ a.1.count,.slice X ne ce,.slice D na Y,.slice V nb Z],rfl,e3 _ _ _ U.out,e1,e2⟩
theorem c02(s:ByteArray)(V:s.size≤400)(b:Nat)(r:Rd)(w:World)(h:a0b w b s r a0j)(f:a1W s.data.toList r)(n:Nat)(hB:a11 s n)(hn:8≤r.depth+n)(t0:r.seesOne s.data.toList 97 122=false)(t1:r.seesOne s.data.toList 94 94=false)(t2:r.seesOne s.data.toList 62 62=false)(t3:r.seesOne s.data.toList 40 40=true)(X:(a08 s.data.toList n ((a00 s.data.toList (r.opening s.data.toList 40)).1.closing s.data.toList 41)).1.seesOne s.data.toList 123 123=false):
  Calls prog 120 #[.pointer (some (a__ b 0))] w fun e w'=>∃cs,e= .returned (.agg cs.toArray)∧a1Z n w' (fun k=>w.heap.size≤k) cs (a0r s.data.toList n r).2∧a0b w' b s (a0r s.data.toList n r).1 a0j∧But b w w':=by
 have Ah:s.data.toList.length=s.size:=by simp
 have Y:r.pos≤s.size:=by have:=f.le;omega
 have HB:=h__ hB;have HH:=h__ h;have hb:b<w.heap.size:=r_ w _ h.c0;have Ag:¬b=w.heap.size:=by omega
 clear hB h;go_enter func120,ntmps120;go_wp2_with fail;refine(a40 b s r a0j 97 122 _ (a2R HH.out _).rd V Y).mono ?_;rw[t0];rintro e w1 ⟨rfl,M,F⟩;have L1:=(a2R HH.out _).call M F;have B:=h__ L1;clear M F;obtain⟨y,j,l,m,o,p,q,t,u,x,d,c,A⟩:=L1;clear y d;go_wp2_with fail;refine(a1d b s r a0j 94 _ B.out.rd V Y).mono ?_;rw[t1];rintro e w2 ⟨rfl,N,G⟩;have L2:=B.out.call N G;have C:=h__ L2;clear B j l m o p q t u x c A;clear N G;obtain⟨y,j,l,m,o,p,q,t,u,x,d,c,A⟩:=L2;clear y d;go_wp2_with fail;refine(a1d b s r a0j 62 _ C.out.rd V Y).mono ?_;rw[t2];rintro e w3 ⟨rfl,O,H⟩;have L3:=C.out.call O H;have D:=h__ L3;clear C j l m o p q t u x c A;clear O H;obtain⟨y,j,l,m,o,p,q,t,u,x,d,c,A⟩:=L3;clear y d;go_wp2_with fail;refine(a1d b s r a0j 40 _ D.out.rd V Y).mono ?_;rw[t3];rintro e w4 ⟨rfl,P,I⟩;have L4:=D.out.call P I;have i:=h__ L4;clear D j l m o p q t u x c A;clear P I;obtain⟨y,j,l,m,o,p,q,t,u,x,d,c,A⟩:=L4;clear y d;go_wp2_with fail;refine(b6i s V b r _ i.out.rd f n HB.out hn t0 t1 t2 t3 X).mono ?_;rintro e w5 ⟨cs,rfl,U,R,J⟩;have L5:=i.out.call R J;have Z:=h__ L5;have z:a1Z n w5 (fun k=>w.heap.size+1≤k) cs (a0r s.data.toList n r).2:=a1P U (fun k hk _=>⟨by have j2:=i.out.size;(try simp at hk);omega,rfl⟩);clear U;generalize hq:(a0r s.data.toList n r).2=a at*;have HQ:=h__ hq;clear hq;have Aa:=h__ z;obtain⟨ve,va,vb,Ab,L,S,T⟩:=z;subst Ab;obtain⟨ae,ne,ce,Ae⟩:∃E nn cc,ve= .slice E nn cc:=by
  rcases Joins.ownsRow_forms L.1 with⟨rfl,_⟩|⟨g,Af,rfl⟩<;>exact⟨_,_,_,rfl⟩
 obtain⟨E,na,ca,Ac⟩:=a0h S;obtain⟨ab,nb,cb,Ad⟩:=a0h T;subst Ae Ac Ad;clear L S T;clear i j l m o p q t u x c A R J;obtain⟨y,j,l,m,o,p,q,t,u,x,d,c,A⟩:=L5;clear y d;simp only[a45,O_,a_t];go_wp2_with fail;refine m_ (v:= .agg #[i_ a.1.kind,i_ a.1.place,i_ a.1.name,i_ a.1.label,i_ a.1.count,.slice ae ne ce,.slice E na ca,.slice ab nb cb]) (by simp[results,results120,go_sem,j,l,m,o,p,q,t,u,x]) rfl ?_;obtain⟨e1,e2,e3⟩:=a7M Z.out (i_ a.1.kind) (i_ a.1.place) (i_ a.1.name) (i_ a.1.label) (i_ a.1.count) (.slice ae ne ce) (.slice E na ca) (.slice ab nb cb);rw[HQ.out];exact⟨[i_ a.1.kind,i_ a.1.place,i_ a.1.name,i_ a.1.label,i_ a.1.count,.slice ae ne ce,.slice E na ca,.slice ab nb cb],rfl,e3 _ _ _ Aa.out,e1,e2⟩
theorem c03(s:ByteArray)(V:s.size≤400)(b:Nat)(r:Rd)(w:World)(h:a0b w b s r a0j)(f:a1W s.data.toList r)(n:Nat)(hB:a11 s n)(hn:8≤r.depth+n)(t0:r.seesOne s.data.toList 97 122=false)(t1:r.seesOne s.data.toList 94 94=false)(t2:r.seesOne s.data.toList 62 62=false)(t3:r.seesOne s.data.toList 40 40=true)(X:(a08 s.data.toList n ((a00 s.data.toList (r.opening s.data.toList 40)).1.closing s.data.toList 41)).1.seesOne s.data.toList 123 123=true):
  Calls prog 120 #[.pointer (some (a__ b 0))] w fun e w'=>∃cs,e= .returned (.agg cs.toArray)∧a1Z n w' (fun k=>w.heap.size≤k) cs (a0r s.data.toList n r).2∧a0b w' b s (a0r s.data.toList n r).1 a0j∧But b w w':=by
 have Ah:s.data.toList.length=s.size:=by simp
 have Y:r.pos≤s.size:=by have:=f.le;omega
 have HB:=h__ hB;have HH:=h__ h;have hb:b<w.heap.size:=r_ w _ h.c0;have Ag:¬b=w.heap.size:=by omega
 clear hB h;go_enter func120,ntmps120;go_wp2_with fail;refine(a40 b s r a0j 97 122 _ (a2R HH.out _).rd V Y).mono ?_;rw[t0];rintro e w1 ⟨rfl,M,F⟩;have L1:=(a2R HH.out _).call M F;have B:=h__ L1;clear M F;obtain⟨y,j,l,m,o,p,q,t,u,x,d,c,A⟩:=L1;clear y d;go_wp2_with fail;refine(a1d b s r a0j 94 _ B.out.rd V Y).mono ?_;rw[t1];rintro e w2 ⟨rfl,N,G⟩;have L2:=B.out.call N G;have C:=h__ L2;clear B j l m o p q t u x c A;clear N G;obtain⟨y,j,l,m,o,p,q,t,u,x,d,c,A⟩:=L2;clear y d;go_wp2_with fail;refine(a1d b s r a0j 62 _ C.out.rd V Y).mono ?_;rw[t2];rintro e w3 ⟨rfl,O,H⟩;have L3:=C.out.call O H;have D:=h__ L3;clear C j l m o p q t u x c A;clear O H;obtain⟨y,j,l,m,o,p,q,t,u,x,d,c,A⟩:=L3;clear y d;go_wp2_with fail;refine(a1d b s r a0j 40 _ D.out.rd V Y).mono ?_;rw[t3];rintro e w4 ⟨rfl,P,I⟩;have L4:=D.out.call P I;have i:=h__ L4;clear D j l m o p q t u x c A;clear P I;obtain⟨y,j,l,m,o,p,q,t,u,x,d,c,A⟩:=L4;clear y d;go_wp2_with fail;refine(b6j s V b r _ i.out.rd f n HB.out hn t0 t1 t2 t3 X).mono ?_;rintro e w5 ⟨cs,rfl,U,R,J⟩;have L5:=i.out.call R J;have Z:=h__ L5;have z:a1Z n w5 (fun k=>w.heap.size+1≤k) cs (a0r s.data.toList n r).2:=a1P U (fun k hk _=>⟨by have j2:=i.out.size;(try simp at hk);omega,rfl⟩);clear U;generalize hq:(a0r s.data.toList n r).2=a at*;have HQ:=h__ hq;clear hq;have Aa:=h__ z;obtain⟨ve,va,vb,Ab,L,S,T⟩:=z;subst Ab;obtain⟨ae,ne,ce,Ae⟩:∃E nn cc,ve= .slice E nn cc:=by
  rcases Joins.ownsRow_forms L.1 with⟨rfl,_⟩|⟨g,Af,rfl⟩<;>exact⟨_,_,_,rfl⟩
 obtain⟨E,na,ca,Ac⟩:=a0h S;obtain⟨ab,nb,cb,Ad⟩:=a0h T;subst Ae Ac Ad;clear L S T;clear i j l m o p q t u x c A R J;obtain⟨y,j,l,m,o,p,q,t,u,x,d,c,A⟩:=L5;clear y d;simp only[a45,O_,a_t];go_wp2_with fail;refine m_ (v:= .agg #[i_ a.1.kind,i_ a.1.place,i_ a.1.name,i_ a.1.label,i_ a.1.count,.slice ae ne ce,.slice E na ca,.slice ab nb cb]) (by simp[results,results120,go_sem,j,l,m,o,p,q,t,u,x]) rfl ?_;obtain⟨e1,e2,e3⟩:=a7M Z.out (i_ a.1.kind) (i_ a.1.place) (i_ a.1.name) (i_ a.1.label) (i_ a.1.count) (.slice ae ne ce) (.slice E na ca) (.slice ab nb cb);rw[HQ.out];exact⟨[i_ a.1.kind,i_ a.1.place,i_ a.1.name,i_ a.1.label,i_ a.1.count,.slice ae ne ce,.slice E na ca,.slice ab nb cb],rfl,e3 _ _ _ Aa.out,e1,e2⟩
theorem c2P(s:ByteArray)(F:s.size≤400)(b:Nat)(r:Rd)(w:World)(h:a0b w b s r a0j)(f:a1W s.data.toList r)(n:Nat)(hB:a11 s n)(hn:8≤r.depth+n)(t0:r.seesOne s.data.toList 97 122=false)(t1:r.seesOne s.data.toList 94 94=false)(t2:r.seesOne s.data.toList 62 62=false)(t3:r.seesOne s.data.toList 40 40=false)(t4:r.seesOne s.data.toList 42 42=true):
  Calls prog 120 #[.pointer (some (a__ b 0))] w fun e w'=>∃cs,e= .returned (.agg cs.toArray)∧a1Z n w' (fun k=>w.heap.size≤k) cs (a0r s.data.toList n r).2∧a0b w' b s (a0r s.data.toList n r).1 a0j∧But b w w':=by
 have Ai:s.data.toList.length=s.size:=by simp
 have p0:r.pos≤s.size:=by have:=f.le;omega
 have HB:=h__ hB;have HH:=h__ h;have hb:b<w.heap.size:=r_ w _ h.c0;have Ah:¬b=w.heap.size:=by omega
 clear hB h;go_enter func120,ntmps120;go_wp2_with fail;refine(a40 b s r a0j 97 122 _ (a2R HH.out _).rd F p0).mono ?_;rw[t0];rintro e w1 ⟨rfl,P,H⟩;have L1:=(a2R HH.out _).call P H;have B:=h__ L1;clear P H;obtain⟨x,i,j,l,m,o,p,q,t,u,d,c,y⟩:=L1;clear x d;go_wp2_with fail;refine(a1d b s r a0j 94 _ B.out.rd F p0).mono ?_;rw[t1];rintro e w2 ⟨rfl,R,I⟩;have L2:=B.out.call R I;have C:=h__ L2;clear B i j l m o p q t u c y;clear R I;obtain⟨x,i,j,l,m,o,p,q,t,u,d,c,y⟩:=L2;clear x d;go_wp2_with fail;refine(a1d b s r a0j 62 _ C.out.rd F p0).mono ?_;rw[t2];rintro e w3 ⟨rfl,S,J⟩;have L3:=C.out.call S J;have D:=h__ L3;clear C i j l m o p q t u c y;clear S J;obtain⟨x,i,j,l,m,o,p,q,t,u,d,c,y⟩:=L3;clear x d;go_wp2_with fail;refine(a1d b s r a0j 40 _ D.out.rd F p0).mono ?_;rw[t3];rintro e w4 ⟨rfl,T,L⟩;have L4:=D.out.call T L;have E:=h__ L4;clear D i j l m o p q t u c y;clear T L;obtain⟨x,i,j,l,m,o,p,q,t,u,d,c,y⟩:=L4;clear x d;go_wp2_with fail;refine(a1d b s r a0j 42 _ E.out.rd F p0).mono ?_;rw[t4];rintro e w5 ⟨rfl,U,M⟩;have L5:=E.out.call U M;have z:=h__ L5;clear E i j l m o p q t u c y;clear U M;obtain⟨x,i,j,l,m,o,p,q,t,u,d,c,y⟩:=L5;clear x d;go_wp2_with fail;refine(b7w s F b r _ z.out.rd f n HB.out hn t0 t1 t2 t3 t4).mono ?_;rintro e w6 ⟨cs,rfl,Z,V,N⟩;have L6:=z.out.call V N;have Aa:=h__ L6;have A:a1Z n w6 (fun k=>w.heap.size+1≤k) cs (a0r s.data.toList n r).2:=a1P Z (fun k hk _=>⟨by have j2:=z.out.size;(try simp at hk);omega,rfl⟩);clear Z;generalize hq:(a0r s.data.toList n r).2=a at*;have HQ:=h__ hq;clear hq;have Ab:=h__ A;obtain⟨ve,va,vb,Ac,O,X,Y⟩:=A;subst Ac;obtain⟨ae,ne,ce,Af⟩:∃G nn cc,ve= .slice G nn cc:=by
  rcases Joins.ownsRow_forms O.1 with⟨rfl,_⟩|⟨g,Ag,rfl⟩<;>exact⟨_,_,_,rfl⟩
 obtain⟨G,na,ca,Ad⟩:=a0h X;obtain⟨ab,nb,cb,Ae⟩:=a0h Y;subst Af Ad Ae;clear O X Y;clear z i j l m o p q t u c y V N;obtain⟨x,i,j,l,m,o,p,q,t,u,d,c,y⟩:=L6;clear x d;simp only[a45,O_,a_t];go_wp2_with fail;refine m_ (v:= .agg #[i_ a.1.kind,i_ a.1.place,i_ a.1.name,i_ a.1.label,i_ a.1.count,.slice ae ne ce,.slice G na ca,.slice ab nb cb]) (by simp[results,results120,go_sem,i,j,l,m,o,p,q,t,u]) rfl ?_;obtain⟨e1,e2,e3⟩:=a7M Aa.out (i_ a.1.kind) (i_ a.1.place) (i_ a.1.name) (i_ a.1.label) (i_ a.1.count) (.slice ae ne ce) (.slice G na ca) (.slice ab nb cb);rw[HQ.out];exact⟨[i_ a.1.kind,i_ a.1.place,i_ a.1.name,i_ a.1.label,i_ a.1.count,.slice ae ne ce,.slice G na ca,.slice ab nb cb],rfl,e3 _ _ _ Ab.out,e1,e2⟩
theorem c2Q(s:ByteArray)(P:s.size≤400)(b:Nat)(r:Rd)(w:World)(h:a0b w b s r a0j)(f:a1W s.data.toList r)(n:Nat)(hB:a11 s n)(hn:8≤r.depth+n)(t0:r.seesOne s.data.toList 97 122=false)(t1:r.seesOne s.data.toList 94 94=false)(t2:r.seesOne s.data.toList 62 62=false)(t3:r.seesOne s.data.toList 40 40=false)(t4:r.seesOne s.data.toList 42 42=false):
  Calls prog 120 #[.pointer (some (a__ b 0))] w fun e w'=>∃cs,e= .returned (.agg cs.toArray)∧a1Z n w' (fun k=>w.heap.size≤k) cs (a0r s.data.toList n r).2∧a0b w' b s (a0r s.data.toList n r).1 a0j∧But b w w':=by
 unfold a0r a3g;rw[f_ (by rw[t0];decide),f_ (by rw[t1];decide),f_ (by rw[t2];decide),f_ (by rw[t3];decide),f_ (by rw[t4];decide)];have Ab:s.data.toList.length=s.size:=by simp
 have R:r.pos≤s.size:=by have:=f.le;omega
 have HB:=h__ hB;have T:=h__ h;have hb:b<w.heap.size:=r_ w _ h.c0;have Aa:¬b=w.heap.size:=by omega
 clear hB h;go_enter func120,ntmps120;go_wp2_with fail;refine(a40 b s r a0j 97 122 _ (a2R T.out _).rd P R).mono ?_;rw[t0];rintro e w1 ⟨rfl,I,C⟩;have U:=(a2R T.out _).call I C;have x:=h__ U;clear I C;obtain⟨t,d,g,i,j,l,m,o,p,q,c,a,u⟩:=U;clear t c;go_wp2_with fail;refine(a1d b s r a0j 94 _ x.out.rd P R).mono ?_;rw[t1];rintro e w2 ⟨rfl,J,D⟩;have V:=x.out.call J D;have y:=h__ V;clear x d g i j l m o p q a u;clear J D;obtain⟨t,d,g,i,j,l,m,o,p,q,c,a,u⟩:=V;clear t c;go_wp2_with fail;refine(a1d b s r a0j 62 _ y.out.rd P R).mono ?_;rw[t2];rintro e w3 ⟨rfl,L,E⟩;have X:=y.out.call L E;have z:=h__ X;clear y d g i j l m o p q a u;clear L E;obtain⟨t,d,g,i,j,l,m,o,p,q,c,a,u⟩:=X;clear t c;go_wp2_with fail;refine(a1d b s r a0j 40 _ z.out.rd P R).mono ?_;rw[t3];rintro e w4 ⟨rfl,M,F⟩;have Y:=z.out.call M F;have A:=h__ Y;clear z d g i j l m o p q a u;clear M F;obtain⟨t,d,g,i,j,l,m,o,p,q,c,a,u⟩:=Y;clear t c;go_wp2_with fail;refine(a1d b s r a0j 42 _ A.out.rd P R).mono ?_;rw[t4];rintro e w5 ⟨rfl,N,G⟩;have Z:=A.out.call N G;have B:=h__ Z;clear A d g i j l m o p q a u;clear N G;obtain⟨t,d,g,i,j,l,m,o,p,q,c,a,u⟩:=Z;clear t c;go_wp2_with fail;refine(a8U b s r a0j _ B.out.rd).mono ?_;rintro e w6 ⟨rfl,O,H⟩;have L6:=B.out.call O H;have S:=h__ L6;clear B d g i j l m o p q a u;clear O H;obtain⟨t,d,g,i,j,l,m,o,p,q,c,a,u⟩:=L6;clear t c;go_wp2_with fail;refine m_ (v:= .agg #[i_ 0,i_ 0,i_ 0,i_ 0,i_ 0,.slice none 0 0,.slice none 0 0,.slice none 0 0]) (by simp[results,results120,go_sem,d,g,i,j,l,m,o,p,q]) rfl ?_;obtain⟨e1,e2,e3⟩:=a7M S.out (i_ 0) (i_ 0) (i_ 0) (i_ 0) (i_ 0) (.slice none 0 0) (.slice none 0 0) (.slice none 0 0);exact⟨[i_ 0,i_ 0,i_ 0,i_ 0,i_ 0,.slice none 0 0,.slice none 0 0,.slice none 0 0],rfl,⟨_,_,_,rfl,b3T _ _,a3R _ _ _,a3R _ _ _⟩,e1,e2⟩
theorem b9S(s:ByteArray)(g:s.size≤400)(b:Nat)(r:Rd)(w:World)(h:a0b w b s r a0j)(f:a1W s.data.toList r)(n:Nat)(c:a11 s n)(d:8≤r.depth+n):
  Calls prog 120 #[.pointer (some (a__ b 0))] w fun e w'=>∃cs,e= .returned (.agg cs.toArray)∧a1Z n w' (fun k=>w.heap.size≤k) cs (a0r s.data.toList n r).2∧a0b w' b s (a0r s.data.toList n r).1 a0j∧But b w w':=by
 cases i:r.seesOne s.data.toList 97 122;case true=>exact c2M s g b r w h f n c d i
 cases j:r.seesOne s.data.toList 94 94;case true=>exact c2R s g b r w h f n c d i j
 cases l:r.seesOne s.data.toList 62 62;case true=>exact c2V s g b r w h f n c d i j l
 cases m:r.seesOne s.data.toList 40 40;case true=>
  cases a:(a08 s.data.toList n ((a00 s.data.toList (r.opening s.data.toList 40)).1.closing s.data.toList 41)).1.seesOne s.data.toList 123 123
  ·exact c02 s g b r w h f n c d i j l m a
  ·exact c03 s g b r w h f n c d i j l m a
 cases o:r.seesOne s.data.toList 42 42;case true=>exact c2P s g b r w h f n c d i j l m o
 exact c2Q s g b r w h f n c d i j l m o
def a3T(n:Nat)(w:World)(B:Nat)(v:Value)(l:List (RT (n+1))):Prop:=
 a63 (α:=RT (n+1)) (fun a q=>a1Z n w (fun k=>B≤k∧some k≠v.ownBlock) a q) w (fun k=>B≤k) v l
def a7d:Value→Nat
 | .slice _ n _=>n
 |_=>0
theorem b3J(n:Nat)(w:World)(B:Nat):a3T n w B a0j []:=⟨[],E_ ..,fun k e=>(by cases e),rfl,fun i h=>(by cases h)⟩
theorem a7W{n:Nat}{w:World}{B:Nat}{v:Value}{l:List (RT (n+1))}(h:a3T n w B v l):a0l (n+1) w (fun k=>B≤k) v l:=
 a9K (one:=fun b (q:RT (n+1))=>a1Z n w (fun k=>B≤k∧some k≠v.ownBlock) b q) h (fun k a _=>⟨a,rfl⟩) (fun b q c=>a1P c (fun k a _=>⟨a.1,rfl⟩))
theorem b7y{n:Nat}{w w':World}{B:Nat}{v:Value}{l:List (RT (n+1))}(h:a3T n w B v l)(d:∀k,B≤k→k<w.heap.size→w'.heap[k]? =w.heap[k]?):a3T n w' B v l:=
 a9K (one:=fun c (q:RT (n+1))=>a1Z n w (fun k=>B≤k∧some k≠v.ownBlock) c q) h (fun k a b=>⟨a,d k a b⟩) (fun c q e=>a1P e (fun k a b=>⟨a,d k a.1 b⟩))
theorem a4N{n:Nat}{w w':World}{B b:Nat}{v:Value}{l:List (RT (n+1))}(h:a3T n w B v l)(c:But b w w')(f:b<B):a3T n w' B v l:=
 b7y h (fun k d a=>c.block k a (fun e=>by cases e;omega))
theorem b8V{n:Nat}{w w':World}{B:Nat}{v a:Value}{l:List (RT (n+1))}{q:RT (n+1)}{xs:List (List Value)}{cs:List Value}(C:B≤w.heap.size)
  (t:∀k,v.ownBlock=some k→B≤k∧k<w.heap.size) (d:xs.length=l.length) (u:∀i (h:i<l.length) (s:i<xs.length),a1Z n w (fun k=>B≤k∧some k≠v.ownBlock) xs[i] l[i])
  (A:a1Z n w (fun k=>B≤k∧some k≠v.ownBlock) cs q)
  (z:w'.ownsRow 0 149 8 a (l.length+1) (xs.flatten++cs)) (x:w.grownBy w' v.ownBlock) (m:a.ownBlock=v.ownBlock∨∃g,a.ownBlock=some g∧w.heap.size≤g):a3T n w' B a (l++ [q]):=by
 have p:∀k,(B≤k∧some k≠v.ownBlock)→k<w.heap.size→(B≤k∧some k≠a.ownBlock)∧w'.heap[k]? =w.heap[k]? :=by
  intro k c y;refine⟨⟨c.1,?_⟩,x.block k y c.2⟩;rcases m with e|⟨g,e,f⟩
  ·rw[e];exact c.2
  ·rw[e];intro r;cases r;omega
 refine⟨xs++ [cs],by simpa using z,?_,by simp[d],?_⟩
 ·intro k e;rcases m with b|⟨g,b,f⟩
  ·rw[b]at e;exact(t k e).1
  ·rw[b]at e;cases e;omega
 ·intro i h s;by_cases o:i<l.length
  ·have:=a1P (u i o (by omega)) p;simpa[List.getElem_append,o,d]using this
  ·have j:i=l.length:=by simp at h;omega
   subst j;have:=a1P A p;simpa[List.getElem_append,d]using this
theorem a9N{α:Type}{rule:Rd→Rd×α}{halt:Rd→Bool}{k:Nat}{r:Rd}(h:halt r=true):a1m rule halt (k+1) r=(r,[]):=by
 unfold a1m;rw[h];simp
theorem a9M{α:Type}{rule:Rd→Rd×α}{halt:Rd→Bool}{k:Nat}{r:Rd}(a:r.bad=false)(h:halt r=false):a1m rule halt (k+1) r=((a1m rule halt k (rule r).1).1,(rule r).2::(a1m rule halt k (rule r).1).2):=by
 conv=>lhs;unfold a1m
 rw[h,a];simp
theorem c1J(w:World)(a b c d e f g i:Value)(t:TypeId):∀j u,[a,b,c,d,e,f,g,i][j]? =some u→(w.alloc (.cells #[a,b,c,d,e,f,g,i] t)).cell? (((a__ w.heap.size 0):Addr).add j)=some u:=by
 intro j u h
 match j,h with
 |0,h=>simp at h;subst h;simp[go_sem,Addr.add]
 |1,h=>simp at h;subst h;simp[go_sem,Addr.add]
 |2,h=>simp at h;subst h;simp[go_sem,Addr.add]
 |3,h=>simp at h;subst h;simp[go_sem,Addr.add]
 |4,h=>simp at h;subst h;simp[go_sem,Addr.add]
 |5,h=>simp at h;subst h;simp[go_sem,Addr.add]
 |6,h=>simp at h;subst h;simp[go_sem,Addr.add]
 |7,h=>simp at h;subst h;simp[go_sem,Addr.add]
 |j+8,h=>simp at h
theorem b6Y(w:World)(g:Nat)(k:g=w.heap.size)(a b c d e f h i:Value)(t:TypeId):∀j u,[a,b,c,d,e,f,h,i][j]? =some u→(w.alloc (.cells #[a,b,c,d,e,f,h,i] t)).cell? (((a__ g 0):Addr).add j)=some u:=by
 subst k;exact c1J w a b c d e f h i t
theorem But.grown{b:Nat}{w W w':World}{a:Option Nat}(h:But b w W)(j:W.grownBy w' a)(m:∀k,a=some k→w.heap.size≤k):But b w w':=by
 obtain⟨d,f,g,r,i⟩:=h;obtain⟨n,o,p,s,q⟩:=j;refine⟨n.trans d,o.trans f,p.trans g,by omega,fun k l c=> ?_⟩;rw[q k (by omega) (fun e=>by have:=m k e.symm;omega)];exact i k l c
theorem a8A{n:Nat}{w:World}{B:Nat}{v:Value}{l:List (RT (n+1))}(h:a3T n w B v l):a7d v=l.length:=by
 obtain⟨c,b,_⟩:=h;rcases Joins.ownsRow_forms b with⟨rfl,e⟩|⟨g,a,rfl⟩
 ·rw[e];rfl
 ·rfl
theorem b05{n:Nat}{w a W d:World}{b:Nat}{s:ByteArray}{r:Rd}{v c:Value}{l:List (RT (n+1))}{q:RT (n+1)}{cs:List Value}{f j:Obj}(z:W=(a.alloc f).alloc j)
  (L:b<w.heap.size) (u:But b w a) (F:a0b a b s r a0j) {xs:List (List Value)} (H:a.ownsRow 0 149 8 v l.length xs.flatten) (p:∀k,v.ownBlock=some k→w.heap.size≤k) (I:xs.length=l.length)
  (J:∀i (h:i<l.length) (t:i<xs.length),a1Z n a (fun k=>w.heap.size≤k∧some k≠v.ownBlock) xs[i] l[i])
  (E:a1Z n a (fun k=>w.heap.size≤k∧some k≠v.ownBlock) cs q)
  (D:d.ownsRow 0 149 8 c (l.length+1) (xs.flatten++cs)) (o:W.grownBy d v.ownBlock) (m:c.ownBlock=v.ownBlock∨∃g,c.ownBlock=some g∧a.heap.size+1+1≤g):
  a3T n d w.heap.size c (l++ [q])∧a0b d b s r a0j∧But b w d:=by
 subst z;have G:=u.size;have A:c.ownBlock=v.ownBlock∨∃g,c.ownBlock=some g∧((a.alloc f).alloc j).heap.size≤g:=by
  rcases m with e|⟨g,e,B⟩
  ·exact .inl e
  ·exact .inr ⟨g,e,by simp;omega⟩
 have x:∀k,(w.heap.size≤k∧some k≠v.ownBlock)→k<a.heap.size→(w.heap.size≤k∧some k≠v.ownBlock)∧((a.alloc f).alloc j).heap[k]? =a.heap[k]? :=by
  intro k y C;refine⟨y,?_⟩;rw[q_ _ _ _ (by simp;omega),q_ _ _ _ C]
 refine⟨b8V (w:=(a.alloc f).alloc j) (by simp;omega) (fun k e=>⟨p k e,by have:=(H.lt k e).2;simp;omega⟩) I (fun i h t=>a1P (J i h t) x) (a1P E x) D o A,?_,?_⟩
 ·refine a7I (a2M (a2M F _) _) o ?_;intro e;have:=p b e.symm;omega
 ·exact But.grown ((u.alloc _).alloc _) o p
theorem c0f(s:ByteArray)(Z:s.size≤400)(n:Nat)(hB:a11 s n):a11 s (n+1):=by
 intro b r w h f hn;have AL:s.data.toList.length=s.size:=by simp
 have d0:=f.d0;have d8:=f.d8;have p0:r.pos≤s.size:=by have:=f.le;omega
 have Y:b<w.heap.size:=r_ w _ h.c0;obtain⟨o1,o2,o3,o4,o5⟩:=a10 (t:=s.data.toList) 123 f.le;obtain⟨iR,Au,AE,Ay,Ar⟩:=a1v b7j;show Calls _ _ _ _ fun e U=>∃v,e= .returned v∧a0l (n+1) U _ v (a4I s.data.toList (fun r=>a0r s.data.toList n r) r).2∧a0b U b s (a4I s.data.toList (fun r=>a0r s.data.toList n r) r).1 a0j∧But b w U
 unfold a4I;simp only;generalize hR:a1m (fun r=>a0r s.data.toList n r) (fun r=>r.seesOne s.data.toList 125 125) (s.data.toList.length+1) (r.opening s.data.toList 123)=R;generalize hO:r.opening s.data.toList 123=ro at*;have HO:Hid (r.opening s.data.toList 123=ro):=hO;have HR:Hid (a1m (fun r=>a0r s.data.toList n r) (fun r=>r.seesOne s.data.toList 125 125) (s.data.toList.length+1) ro=R):=hR;have HB:Hid (a11 s n):=hB;have HH:Hid (a0b w b s r a0j):=h;have Al:Hid (8≤r.depth→ro.bad=true):=o5;clear hR hO hB h o4 o5;go_enter func184,ntmps184;go_wp2_with fail;refine(a6w b s r a0j 123 _ HH.out Z p0 (by omega) (by omega)).mono ?_;rw[HO.out];rintro e w1 ⟨rfl,Ax,Aq⟩;go_wp2_with fail;go_loopw [3] (fun x U=>∃(j:Nat) (p:Rd) (l:List (RT (n+1))) (v:Value),v=x∧Hid (a0b U b s p a0j)∧Hid (But b w U)∧Hid (a3T n U w.heap.size v l)∧p.pos≤s.data.toList.length∧p.depth=r.depth+1∧Hid (8≤r.depth→p.bad=true)∧l.length+j=s.data.toList.length+1∧Hid (p.bad=false→s.data.toList.length-p.pos<j)∧Hid ((a1m (fun r=>a0r s.data.toList n r) (fun r=>r.seesOne s.data.toList 125 125) j p).1=R.1∧l++(a1m (fun r=>a0r s.data.toList n r) (fun r=>r.seesOne s.data.toList 125 125) j p).2=R.2)) (fun x _=>1000-a7d x);case atStart=>exact⟨s.data.toList.length+1,ro,[],_,rfl,Ax,Aq,b3J _ _ _,o2,o3,Al,by simp,fun _=>by omega,by show _∧_;rw[HR.out];exact⟨rfl,rfl⟩⟩
 case round=>
  obtain⟨j,p,l,v,rfl,I,C,HM,Aw,At,Aj,AK,HJ,HQ⟩:=hrel;have AM:w.heap.size≤wr.heap.size:=C.out.size;have J:p.pos≤s.size:=by omega
  obtain⟨c0,c1,c2,c3,X,fz⟩:=id I.out;cases o:p.bad
  ·have hj:=HJ.out o;obtain⟨j',rfl⟩:∃j',j=j'+1:=⟨j-1,by omega⟩
   have AJ:r.depth<8:=by
    apply a_F;intro hc;have:=Aj.out (by omega);rw[o]at this;cases this
   rw[o]at X;cases M:p.seesOne s.data.toList 125 125
   ·have u:=HQ.out;rw[a9M o M]at u;simp only at u;go_wp2_with fail;refine(a1d b s p a0j 125 _ I.out Z J).mono ?_;rw[M];rintro e V ⟨rfl,L,A⟩;have fb:a1W s.data.toList p:=⟨Aw,by omega,by omega⟩
    have T:=b1P s.data.toList n fb;have E:Hid (a3T n V w.heap.size v l):=a4N HM.out A Y;have D:Hid (But b w V):=C.out.trans A;clear HM C c0 c1 c2 c3 X fz A;go_wp2_with fail;refine(b9S s Z b p _ L fb n HB.out (by omega)).mono ?_;rintro e N ⟨cs,rfl,S,B,m⟩;generalize hz:a0r s.data.toList n p=z at*;clear hz L;obtain⟨z1,rule⟩:=z;simp only at S B T u;have AI:V.heap.size≤N.heap.size:=m.size;have Az:=D.out.size;have AG:b<N.heap.size:=by omega
    have Aa:Hid (a3T n N w.heap.size v l):=a4N E.out m Y;have Ah:Hid (But b w N):=D.out.trans m;obtain⟨xs,m1,m2,m3,m4⟩:=Aa.out;have P:∀k,v.ownBlock=some k→k<V.heap.size:=by
     obtain⟨ys,y1,_⟩:=E.out;exact fun k e=>(y1.lt k e).2
    have O:a1Z n N (fun k=>w.heap.size≤k∧some k≠v.ownBlock) cs rule:=a1P S (fun k hk _=>⟨⟨by omega,fun e=>by have:=P k e.symm;omega⟩,rfl⟩);have Ao:=h__ O;obtain⟨ve,va,vb,As,Ad,Af,Ag⟩:=S;subst As;obtain⟨ae,ne,ce,AD⟩:∃aa nn cc,ve= .slice aa nn cc:=by
     rcases Joins.ownsRow_forms Ad.1 with⟨rfl,_⟩|⟨g,Ap,rfl⟩<;>exact⟨_,_,_,rfl⟩
    obtain⟨aa,na,ca,AB⟩:=a0h Af;obtain⟨ab,nb,cb,AC⟩:=a0h Ag;subst AD AB AC;clear Ad Af Ag m E D O;have y:=h__ u;have F:=h__ T;have Am:=h__ B;obtain⟨c0,c1,c2,c3,X,fz⟩:=B;have M1:Hid (N.ownsRow 0 149 8 v l.length xs.flatten):=m1;have M2:Hid (∀k,v.ownBlock=some k→w.heap.size≤k):=m2;have M4:=h__ m4;clear m1 m2 m4 u T;simp only[a45,O_,a_t];go_wp2_with (at_builtin;refine a0X rfl (.tmp 19) (.tmp 21) 66 rfl 0 149 iR (.agg #[i_ 0,i_ 0,i_ 0,i_ 0,i_ 0,.slice none 0 0,.slice none 0 0,.slice none 0 0]) 8 112 underlying66 Au AE Ay Ar rfl (by decide) v l.length xs.flatten (by rfl) (by exact(M1.out.alloc _).alloc _) ⟨N.heap.size+1,0,none⟩ 1 1 [i_ rule.1.kind,i_ rule.1.place,i_ rule.1.name,i_ rule.1.label,i_ rule.1.count,.slice ae ne ce,.slice aa na ca,.slice ab nb cb] (by rfl) rfl (by exact b6Y _ _ (by simp) _ _ _ _ _ _ _ _ 149) (by intro q u;simp at u;rcases u with rfl|rfl|rfl|rfl|rfl|rfl|rfl|rfl<;>rfl) (by unfold maxLen;omega) (by omega) (a_j _) (by decide) ?nxt);case nxt=>
     intro v' w4 H G Ac;obtain⟨mk,Ae,Ab⟩:=b05 rfl Y Ah.out Am.out M1.out M2.out m3 M4.out Ao.out H G Ac;have Ak:=h__ mk;have Av:=a8A Aa.out;have AH:=a8A mk;obtain⟨g,Ap,AA⟩:=Joins.ownsRow_form H (by omega);subst AA;have An:=h__ Ae;have Ai:=h__ Ab;clear c0 c1 c2 c3 X fz G Ac H Ae Ab mk;go_wp2_with fail;go_roundw;case rel=>
      refine⟨j',z1,l++ [rule],_,rfl,An,Ai,Ak,F.out.1.le,by rw[F.out.1.depth];exact At,fun h8=>by omega,by simp;omega,fun AF=> ?_,?_⟩
      ·have:=F.out.2;have:=F.out.1.le;rcases F.out.2 with h5|h5
       ·rw[AF]at h5;cases h5
       ·omega
      ·have:=y.out;exact⟨this.1,by rw[a_y];exact this.2⟩
     case measure=>
      rw[Av];simp only[a7d];omega
   ·have u:=HQ.out;rw[a9N (rule:=fun r=>a0r s.data.toList n r) (halt:=fun r=>r.seesOne s.data.toList 125 125) M]at u;simp only[a_i]at u;have y:=h__ u;clear u;go_wp2_with fail;refine(a1d b s p a0j 125 _ I.out Z J).mono ?_;rw[M];rintro e V ⟨rfl,L,A⟩;have E:Hid (a3T n V w.heap.size v l):=a4N HM.out A Y;have D:Hid (But b w V):=C.out.trans A;clear HM C c0 c1 c2 c3 X fz A;go_wp2_with fail;refine(a5D b s p a0j 125 _ L Z J (by omega) (by omega)).mono ?_;rintro e N ⟨rfl,B,m⟩;go_wp2_with fail;go_ret;refine⟨v,rfl,?_,?_,D.out.trans m⟩
    ·rw[←y.out.2];exact a7W (a4N E.out m Y)
    ·rw[←y.out.1];exact B
  ·have u:=HQ.out;rw[a5r o]at u;simp only[a_i]at u;have y:=h__ u;rw[o]at X;clear u;go_wp2_with fail;refine(a5D b s p a0j 125 _ I.out Z J (by omega) (by omega)).mono ?_;rintro e N ⟨rfl,B,m⟩;go_wp2_with fail;go_ret;refine⟨v,rfl,?_,?_,C.out.trans m⟩
   ·rw[←y.out.2];exact a7W (a4N HM.out m Y)
   ·rw[←y.out.1];exact B
theorem c0g(s:ByteArray)(p:s.size≤400):a11 s 0:=by
 intro b r w h f N;have A:s.data.toList.length=s.size:=by simp
 have I:=f.d0;have J:=f.d8;have C:r.pos≤s.size:=by have:=f.le;omega
 have M:b<w.heap.size:=r_ w _ h.c0;obtain⟨O,P,R,B,q⟩:=a10 (t:=s.data.toList) 123 f.le;show Calls _ _ _ _ fun e d=>∃v,e= .returned v∧a0l 0 d _ v _∧a0b d b s ((r.opening s.data.toList 123).closing s.data.toList 125) a0j∧But b w d
 generalize o:r.opening s.data.toList 123=n at*;have y:=h__ o;have a:n.bad=true:=q (by omega);have u:=h__ h;have l:n.pos≤s.size:=by omega
 clear o h B q;go_enter func184,ntmps184;go_wp2_with fail;refine(a6w b s r a0j 123 _ u.out p C (by omega) (by omega)).mono ?_;rw[y.out];rintro e D ⟨rfl,c,i⟩;go_wp2_with fail;go_loopw [3] (fun x d=>x=a0j∧d=D) (fun x _=>0);case atStart=>exact⟨rfl,rfl⟩
 case round=>
  obtain⟨rfl,rfl⟩:=hrel;have g:=h__ c;obtain⟨E,F,G,H,z,L⟩:=c;rw[a]at z;go_wp2_with fail;refine(a5D b s n a0j 125 _ g.out p l (by omega) (by omega)).mono ?_;rintro e S ⟨rfl,m,j⟩;go_wp2_with fail;go_ret;exact⟨a0j,rfl,⟨E_ ..,fun k e=>(by cases e)⟩,m,i.trans j⟩
theorem b4X(s:ByteArray)(a:s.size≤400):∀n,a11 s n
 |0=>c0g s a
 |n+1=>c0f s a n (b4X s a n)
theorem b4S(b:Nat)(s:ByteArray)(r:Rd)(a:Value)(w:World)(h:a0b w b s r a)(d:s.size≤400)(c:r.pos≤s.size):
  Calls prog 119 #[.pointer (some (a__ b 0))] w fun e w'=>e= .returned (.bool (decide (s.size≤r.pos)))∧a0b w' b s r a∧But b w w':=by
 refine(c1o b s r a w h d c).mono ?_;rintro e w' ⟨rfl,n,rfl⟩;exact⟨rfl,h.drewN n,(But.refl b _).drewN n⟩
theorem b8t(s:ByteArray)(hs:s.size≤400)(n b:Nat)(AE:n=8)(r:Rd)(w:World)(h:a0b w b s r a0j)(f:r.pos≤s.data.toList.length)(hd:r.depth=0):
  Calls prog 83 #[.pointer (some (a__ b 0))] w fun e w'=>∃v,e= .returned v∧a0l (n+1) w' (fun k=>w.heap.size≤k) v (a1m (fun r=>a0r s.data.toList n r) (fun r=>decide (s.data.toList.length≤r.pos)) (s.data.toList.length+1) r).2∧a0b w' b s (a1m (fun r=>a0r s.data.toList n r) (fun r=>decide (s.data.toList.length≤r.pos)) (s.data.toList.length+1) r).1 a0j∧But b w w':=by
 have Ae:s.data.toList.length=s.size:=by simp
 have p0:r.pos≤s.size:=by omega
 have hb:b<w.heap.size:=r_ w _ h.c0;obtain⟨iR,Ap,Ay,As,Am⟩:=a1v b7j;generalize hR:a1m (fun r=>a0r s.data.toList n r) (fun r=>decide (s.data.toList.length≤r.pos)) (s.data.toList.length+1) r=R;have HR:Hid (a1m (fun r=>a0r s.data.toList n r) (fun r=>decide (s.data.toList.length≤r.pos)) (s.data.toList.length+1) r=R):=hR;have HB:Hid (a11 s n):=b4X s hs n;have HH:Hid (a0b w b s r a0j):=h;clear hR h;go_enter func83,ntmps83;go_wp2_with fail;go_loopw [3] (fun x w'=>∃(j:Nat) (o:Rd) (l:List (RT (n+1))) (v:Value),v=x∧Hid (a0b w' b s o a0j)∧Hid (But b w w')∧Hid (a3T n w' w.heap.size v l)∧o.pos≤s.data.toList.length∧o.depth=0∧l.length+j=s.data.toList.length+1∧Hid (o.bad=false→s.data.toList.length-o.pos<j)∧Hid ((a1m (fun r=>a0r s.data.toList n r) (fun r=>decide (s.data.toList.length≤r.pos)) j o).1=R.1∧l++(a1m (fun r=>a0r s.data.toList n r) (fun r=>decide (s.data.toList.length≤r.pos)) j o).2=R.2)) (fun x _=>1000-a7d x);case atStart=>exact⟨s.data.toList.length+1,r,[],a0j,rfl,HH,But.refl _ _,b3J _ _ _,f,hd,by simp,fun _=>by omega,by show _∧_;rw[HR.out];exact⟨rfl,rfl⟩⟩
 case round=>
  obtain⟨j,o,l,v,rfl,F,y,U,Ar,Ao,AD,HJ,HQ⟩:=hrel;have AF:w.heap.size≤wr.heap.size:=y.out.size;have Aa:o.pos≤s.size:=by omega
  obtain⟨c0,c1,c2,c3,T,fz⟩:=id F.out;cases p:o.bad
  ·have hj:=HJ.out p;obtain⟨j',rfl⟩:∃j',j=j'+1:=⟨j-1,by omega⟩
   rw[p]at T;cases I:decide (s.data.toList.length≤o.pos)
   ·have m:=HQ.out;rw[a9M p I]at m;simp only at m;go_wp2_with fail;refine(b4S b s o a0j _ F.out hs Aa).mono ?_;rw[show decide (s.size≤o.pos)=_ from Ae▸I];rintro e P ⟨rfl,H,u⟩;have fb:a1W s.data.toList o:=⟨Ar,by omega,by omega⟩
    have O:=b1P s.data.toList n fb;have B:Hid (a3T n P w.heap.size v l):=a4N U.out u hb;have A:Hid (But b w P):=y.out.trans u;clear U y c0 c1 c2 c3 T fz u;go_wp2_with fail;refine(b9S s hs b o _ H fb n HB.out (by omega)).mono ?_;rintro e S ⟨cs,rfl,N,M,G⟩;generalize hz:a0r s.data.toList n o=z at*;clear hz H;obtain⟨z1,rule⟩:=z;simp only at N M O m;have AC:P.heap.size≤S.heap.size:=G.size;have At:=A.out.size;have AA:b<S.heap.size:=by omega
    have V:Hid (a3T n S w.heap.size v l):=a4N B.out G hb;have Af:Hid (But b w S):=A.out.trans G;obtain⟨xs,m1,m2,m3,m4⟩:=V.out;have L:∀k,v.ownBlock=some k→k<P.heap.size:=by
     obtain⟨ys,y1,_⟩:=B.out;exact fun k e=>(y1.lt k e).2
    have J:a1Z n S (fun k=>w.heap.size≤k∧some k≠v.ownBlock) cs rule:=a1P N (fun k hk _=>⟨⟨by omega,fun e=>by have:=L k e.symm;omega⟩,rfl⟩);have Ak:=h__ J;obtain⟨ve,va,vb,An,Z,Ac,Ad⟩:=N;subst An;obtain⟨ae,ne,ce,Ax⟩:∃aa nn cc,ve= .slice aa nn cc:=by
     rcases Joins.ownsRow_forms Z.1 with⟨rfl,_⟩|⟨g,Al,rfl⟩<;>exact⟨_,_,_,rfl⟩
    obtain⟨aa,na,ca,Av⟩:=a0h Ac;obtain⟨ab,nb,cb,Aw⟩:=a0h Ad;subst Ax Av Aw;clear Z Ac Ad G B A J;have t:=h__ m;have C:=h__ O;have Ai:=h__ M;obtain⟨c0,c1,c2,c3,T,fz⟩:=M;have M1:Hid (S.ownsRow 0 149 8 v l.length xs.flatten):=m1;have M2:Hid (∀k,v.ownBlock=some k→w.heap.size≤k):=m2;have M4:=h__ m4;clear m1 m2 m4 m O;simp only[a45,O_,a_t];go_wp2_with (at_builtin;refine a0X rfl (.tmp 17) (.tmp 19) 66 rfl 0 149 iR (.agg #[i_ 0,i_ 0,i_ 0,i_ 0,i_ 0,.slice none 0 0,.slice none 0 0,.slice none 0 0]) 8 112 underlying66 Ap Ay As Am rfl (by decide) v l.length xs.flatten (by rfl) (by exact(M1.out.alloc _).alloc _) ⟨S.heap.size+1,0,none⟩ 1 1 [i_ rule.1.kind,i_ rule.1.place,i_ rule.1.name,i_ rule.1.label,i_ rule.1.count,.slice ae ne ce,.slice aa na ca,.slice ab nb cb] (by rfl) rfl (by exact b6Y _ _ (by simp) _ _ _ _ _ _ _ _ 149) (by intro q m;simp at m;rcases m with rfl|rfl|rfl|rfl|rfl|rfl|rfl|rfl<;>rfl) (by unfold maxLen;omega) (by omega) (a_j _) (by decide) ?nxt);case nxt=>
     intro v' w4 E D Y;obtain⟨mk,Ab,X⟩:=b05 rfl hb Af.out Ai.out M1.out M2.out m3 M4.out Ak.out E D Y;have Ah:=h__ mk;have Aq:=a8A V.out;have AB:=a8A mk;obtain⟨g,Al,Au⟩:=Joins.ownsRow_form E (by omega);subst Au;have Aj:=h__ Ab;have Ag:=h__ X;clear c0 c1 c2 c3 T fz D Y E Ab X mk;go_wp2_with fail;go_roundw;case rel=>
      refine⟨j',z1,l++ [rule],_,rfl,Aj,Ag,Ah,C.out.1.le,by rw[C.out.1.depth];exact Ao,by simp;omega,fun Az=> ?_,?_⟩
      ·have:=C.out.2;have:=C.out.1.le;rcases C.out.2 with h5|h5
       ·rw[Az]at h5;cases h5
       ·omega
      ·have:=t.out;exact⟨this.1,by rw[a_y];exact this.2⟩
     case measure=>
      rw[Aq];simp only[a7d];omega
   ·have m:=HQ.out;rw[a9N (rule:=fun r=>a0r s.data.toList n r) (halt:=fun r=>decide (s.data.toList.length≤r.pos)) I]at m;simp only[a_i]at m;have t:=h__ m;clear m;go_wp2_with fail;refine(b4S b s o a0j _ F.out hs Aa).mono ?_;rw[show decide (s.size≤o.pos)=_ from Ae▸I];rintro e P ⟨rfl,H,u⟩;have B:Hid (a3T n P w.heap.size v l):=a4N U.out u hb;have A:Hid (But b w P):=y.out.trans u;clear U y c0 c1 c2 c3 T fz u;go_wp2_with fail;go_ret;refine⟨v,rfl,?_,?_,A.out⟩
    ·rw[←t.out.2];exact a7W B.out
    ·rw[←t.out.1];exact H
  ·have m:=HQ.out;rw[a5r p]at m;simp only[a_i]at m;have t:=h__ m;rw[p]at T;clear m;go_wp2_with fail;go_ret;refine⟨v,rfl,?_,?_,y.out⟩
   ·rw[←t.out.2];exact a7W U.out
   ·rw[←t.out.1];exact F.out
structure Hd where
 field:Bool
 place:Nat
 name:Int
 label:Nat
def hdV(h:Hd):List Value:= [.bool h.field,.int .i64 h.place,.int .i64 h.name,.int .i64 h.label]
def a3J(l:List Hd):List Value:=l.flatMap hdV
theorem b8P(l r:List Hd):a3J (l++r)=a3J l++a3J r:=by simp[a3J]
def a6f(t:List UInt8)(r:Rd):Rd:=if r.seesOne t 63 63 then(r.takeOne t 63 63).1 else(r.takeOne t 33 33).1
def a3C(t:List UInt8)(r:Rd):Rd×Hd:=
 let b:=(a6f t r).takeOne t 97 122
 let a:=(b.1.takeOne t 58 58).1.label t
 ((a.1.takeOne t 59 59).1,⟨r.seesOne t 63 63,(a6f t r).pos,b.2,a.2⟩)
def a3p(t:List UInt8):Nat→Rd→Rd×List Hd
 |0,r=>(r,[])
 |k+1,r=>if r.seesOne t 63 63||r.seesOne t 33 33 then((a3p t k (a3C t r).1).1,(a3C t r).2::(a3p t k (a3C t r).1).2)else(r,[])
theorem a9m{t:List UInt8}{r:Rd}(h:r.pos≤t.length):Stp t r (a6f t r):=by
 unfold a6f
 split
 ·exact a0o _ _ h
 ·exact a0o _ _ h
theorem b5q{t:List UInt8}{r:Rd}(h:r.pos≤t.length):Stp t r (a3C t r).1:=by
 unfold a3C;have a:=a9m h;have b:=a.trans (a0o 97 122 a.le);have c:=b.trans (a0o 58 58 b.le);have d:=c.trans (a4h c.le);exact d.trans (a0o 59 59 d.le)
theorem c4e{t:List UInt8}{r:Rd}(j:(r.seesOne t 63 63||r.seesOne t 33 33)=true):r.pos<(a3C t r).1.pos:=by
 have i:r.pos<t.length:=by
  rcases a_B.mp j with h|h<;>exact(a4m h).1
 have a:=a9m (t:=t) (r:=r) (a_K i);have b:=a0o 97 122 a.le;have c:=b.trans (a0o 58 58 b.le);have d:=c.trans (a4h c.le);have e:=d.trans (a0o 59 59 d.le);have g:r.pos+1≤(a6f t r).pos:=by
  unfold a6f
  split
  ·rename_i h;exact a21 h
  ·rename_i h;rcases a_B.mp j with f|f
   ·exact absurd f h
   ·exact a21 f
 have:=e.pos;show r.pos<(Rd.takeOne t _ 59 59).1.pos;omega
theorem b3u{t:List UInt8} :∀(k:Nat) (r:Rd),r.pos≤t.length→Stp t r (a3p t k r).1
 |0,r,h=>a6R h
 |k+1,r,h=>by
  unfold a3p
  split
  ·have a:=b5q h;exact a.trans (b3u k _ a.le)
  ·exact a6R h
structure a5L(W w:World)(b:Nat)(s:ByteArray)(r:Rd)(v0 v1 v2 v3:Value):Prop where
 rd:a0b W b s r a0j
 g0:W.cell? ⟨w.heap.size+1,0,none⟩=some v0
 g1:W.cell? ⟨w.heap.size+1,1,none⟩=some v1
 g2:W.cell? ⟨w.heap.size+1,2,none⟩=some v2
 g3:W.cell? ⟨w.heap.size+1,3,none⟩=some v3
 gf:∀o,W.frozen? ⟨w.heap.size+1,o,none⟩=false
 h0:W.cell? ⟨w.heap.size,0,none⟩=some (.bool false)
 h1:W.cell? ⟨w.heap.size,1,none⟩=some (.int .i64 0)
 h2:W.cell? ⟨w.heap.size,2,none⟩=some (.int .i64 0)
 h3:W.cell? ⟨w.heap.size,3,none⟩=some (.int .i64 0)
 hf:∀o,W.frozen? ⟨w.heap.size,o,none⟩=false
 but:But b w W
 size:w.heap.size+2≤W.heap.size
 lt:b<w.heap.size
theorem a8z{w:World}{b:Nat}{s:ByteArray}{r:Rd}(h:a0b w b s r a0j)(t g:TypeId)(a c d e:Value):a5L ((w.alloc (.cells #[F__,i_ 0,i_ 0,i_ 0] t)).alloc (.cells #[a,c,d,e] g)) w b s r a c d e:=by
 have f:b<w.heap.size:=r_ w _ h.c0;refine⟨a2M (a2M h _) _,?_,?_,?_,?_,fun o=> ?_,?_,?_,?_,?_,fun o=> ?_,((But.refl b w).alloc _).alloc _,by simp,f⟩;all_goals simp[go_sem]
theorem a5L.call{W c w:World}{b:Nat}{s:ByteArray}{r h:Rd}{i j k l:Value}(L:a5L W w b s r i j k l)(n:a0b c b s h a0j)(g:But b W c):a5L c w b s h i j k l:=by
 have p:=L.size;have m:=L.lt;have f:c.heap[w.heap.size+1]? =W.heap[w.heap.size+1]? :=g.block _ (by omega) (fun e=>by cases e;omega);have d:c.heap[w.heap.size]? =W.heap[w.heap.size]? :=g.block _ (by omega) (fun e=>by cases e;omega);exact⟨n,(e_ (a:=⟨w.heap.size+1,0,none⟩) f).trans L.g0,(e_ (a:=⟨w.heap.size+1,1,none⟩) f).trans L.g1,(e_ (a:=⟨w.heap.size+1,2,none⟩) f).trans L.g2,(e_ (a:=⟨w.heap.size+1,3,none⟩) f).trans L.g3,fun o=>(I_ (a:=⟨w.heap.size+1,o,none⟩) f).trans (L.gf o),(e_ (a:=(a__ w.heap.size 0)) d).trans L.h0,(e_ (a:=(a__ w.heap.size 1)) d).trans L.h1,(e_ (a:=(a__ w.heap.size 2)) d).trans L.h2,(e_ (a:=(a__ w.heap.size 3)) d).trans L.h3,fun o=>(I_ (a:=(a__ w.heap.size o)) d).trans (L.hf o),L.but.trans g,K_ p g.size,m⟩
theorem a5L.set0{W w:World}{b:Nat}{s:ByteArray}{r:Rd}{x d e f:Value}(L:a5L W w b s r x d e f)(u:Value):a5L (W.setCell ⟨w.heap.size+1,0,none⟩ u) w b s r u d e f:=by
 obtain⟨v,g,h,i,j,k,l,m,n,p,q,c,a,t⟩:=L;refine⟨a15 v _ _ (by simp only;omega),?_,?_,?_,?_,fun o=> ?_,?_,?_,?_,?_,fun o=> ?_,c.setNew _ _ (by simp),by simpa using a,t⟩;all_goals simp[go_sem,g,h,i,j,k,l,m,n,p,q]
theorem a5L.set1{W w:World}{b:Nat}{s:ByteArray}{r:Rd}{d x e f:Value}(L:a5L W w b s r d x e f)(u:Value):a5L (W.setCell ⟨w.heap.size+1,1,none⟩ u) w b s r d u e f:=by
 obtain⟨v,g,h,i,j,k,l,m,n,p,q,c,a,t⟩:=L;refine⟨a15 v _ _ (by simp only;omega),?_,?_,?_,?_,fun o=> ?_,?_,?_,?_,?_,fun o=> ?_,c.setNew _ _ (by simp),by simpa using a,t⟩;all_goals simp[go_sem,g,h,i,j,k,l,m,n,p,q]
theorem a5L.set2{W w:World}{b:Nat}{s:ByteArray}{r:Rd}{d e x f:Value}(L:a5L W w b s r d e x f)(u:Value):a5L (W.setCell ⟨w.heap.size+1,2,none⟩ u) w b s r d e u f:=by
 obtain⟨v,g,h,i,j,k,l,m,n,p,q,c,a,t⟩:=L;refine⟨a15 v _ _ (by simp only;omega),?_,?_,?_,?_,fun o=> ?_,?_,?_,?_,?_,fun o=> ?_,c.setNew _ _ (by simp),by simpa using a,t⟩;all_goals simp[go_sem,g,h,i,j,k,l,m,n,p,q]
theorem a5L.set3{W w:World}{b:Nat}{s:ByteArray}{r:Rd}{d e f x:Value}(L:a5L W w b s r d e f x)(u:Value):a5L (W.setCell ⟨w.heap.size+1,3,none⟩ u) w b s r d e f u:=by
 obtain⟨v,g,h,i,j,k,l,m,n,p,q,c,a,t⟩:=L;refine⟨a15 v _ _ (by simp only;omega),?_,?_,?_,?_,fun o=> ?_,?_,?_,?_,?_,fun o=> ?_,c.setNew _ _ (by simp),by simpa using a,t⟩;all_goals simp[go_sem,g,h,i,j,k,l,m,n,p,q]
theorem b7v{W w:World}{b:Nat}{s:ByteArray}{r:Rd}{a c d e:Value}(L:a5L W w b s r a c d e)(u0 u1 u2 u3:Value):a0b (((((W).setCell (a__ w.heap.size 0) u0).setCell (a__ w.heap.size 1) u1).setCell (a__ w.heap.size 2) u2).setCell (a__ w.heap.size 3) u3) b s r a0j∧But b w (((((W).setCell (a__ w.heap.size 0) u0).setCell (a__ w.heap.size 1) u1).setCell (a__ w.heap.size 2) u2).setCell (a__ w.heap.size 3) u3):=by
 have f:=L.lt;refine⟨?_,?_⟩
 ·repeat (refine a15 ?_ _ _ (by simp only;omega))
  exact L.rd
 ·repeat (refine But.setNew ?_ _ _ (by simp))
  exact L.but
theorem c0x(s:ByteArray)(E:s.size≤400)(b:Nat)(r:Rd)(w:World)(h:a0b w b s r a0j)(hp:r.pos≤s.data.toList.length)(t0:r.seesOne s.data.toList 63 63=true):
  Calls prog 118 #[.pointer (some (a__ b 0))] w fun e w'=>e= .returned (.agg (hdV (a3C s.data.toList r).2).toArray)∧a0b w' b s (a3C s.data.toList r).1 a0j∧But b w w':=by
 have Ad:s.data.toList.length=s.size:=by simp
 have a1:=a9m hp;have a2:=a0o 97 122 a1.le;have a3:=a0o 58 58 a2.le;have a4:=a4h a3.le;have p0:r.pos≤s.size:=by omega
 unfold a3C;simp only[hdV,t0];have hO:a6f s.data.toList r=(r.takeOne s.data.toList 63 63).1:=by unfold a6f;rw[n_ t0]
 rw[hO]at a1 a2 a3 a4⊢;clear hO;generalize t:(r.takeOne s.data.toList 63 63).1=Z at*;have H:=h__ t;clear t;generalize p:Z.takeOne s.data.toList 97 122=Y at*;have F:=h__ p;clear p;generalize u:(Y.1.takeOne s.data.toList 58 58).1=r3 at*;have I:=h__ u;clear u;generalize q:r3.label s.data.toList=q4 at*;have G:=h__ q;clear q;have p1:Z.pos≤s.size:=by have:=a1.le;omega
 have p2:Y.1.pos≤s.size:=by have:=a2.le;omega
 have p3:r3.pos≤s.size:=by have:=a3.le;omega
 have p4:q4.1.pos≤s.size:=by have:=a4.le;omega
 have HH:=h__ h;have hb:b<w.heap.size:=r_ w _ h.c0;have Ac:¬b=w.heap.size:=by omega
 have Ab:¬b=w.heap.size+1:=by omega
 clear a1 a2 a3 a4 h;go_enter func118,ntmps118;go_wp2_with fail;refine(a1d b s r a0j 63 _ (a8z HH.out _ _ _ _ _ _).rd E p0).mono ?_;rw[t0];rintro e w1 ⟨rfl,R,J⟩;have L1:=(a8z HH.out _ _ _ _ _ _).call R J;have A:=h__ L1;clear R J;obtain⟨x,d,f,g,i,j,k,l,m,n,o,c,a,y⟩:=L1;clear x c;go_wp2_with fail;refine(a1B b s r a0j 63 _ (A.out.set0 _).rd E p0).mono ?_;rw[H.out];rintro e w2 ⟨rfl,S,L⟩;have L2:=(A.out.set0 _).call S L;have z:=h__ L2;clear A d f g i j k l m n o a y;clear S L;obtain⟨x,d,f,g,i,j,k,l,m,n,o,c,a,y⟩:=L2;clear x c;obtain⟨c0,c1,c2,c3,c4,fz⟩:=id z.out.rd;go_wp2_with fail;refine(a52 b s Z a0j _ (z.out.set1 _).rd E p1).mono ?_;rw[F.out];rintro e w3 ⟨rfl,T,M⟩;have L3:=(z.out.set1 _).call T M;have B:=h__ L3;clear z d f g i j k l m n o a y;clear T M;obtain⟨x,d,f,g,i,j,k,l,m,n,o,c,a,y⟩:=L3;clear x c;clear c0 c1 c2 c3 c4 fz;go_wp2_with fail;refine(a1B b s Y.1 a0j 58 _ (B.out.set2 _).rd E p2).mono ?_;rw[I.out];rintro e w4 ⟨rfl,U,N⟩;have L4:=(B.out.set2 _).call U N;have C:=h__ L4;clear B d f g i j k l m n o a y;clear U N;obtain⟨x,d,f,g,i,j,k,l,m,n,o,c,a,y⟩:=L4;clear x c;go_wp2_with fail;refine(b0A b s r3 a0j _ C.out.rd E p3).mono ?_;rw[G.out];rintro e w5 ⟨rfl,V,O⟩;have L5:=C.out.call V O;have D:=h__ L5;clear C d f g i j k l m n o a y;clear V O;obtain⟨x,d,f,g,i,j,k,l,m,n,o,c,a,y⟩:=L5;clear x c;go_wp2_with fail;refine(a1B b s q4.1 a0j 59 _ (D.out.set3 _).rd E p4).mono ?_;rintro e w6 ⟨rfl,X,P⟩;have L6:=(D.out.set3 _).call X P;have Aa:=h__ L6;clear D d f g i j k l m n o a y;clear X P;obtain⟨x,d,f,g,i,j,k,l,m,n,o,c,a,y⟩:=L6;clear x c;go_wp2_with fail;refine m_ (v:= .agg #[T__,i_ Z.pos,i_ Y.2,i_ q4.2]) (by simp[results,results118,go_sem,d,f,g,i,k,l,m,n,j,o]) rfl ?_;obtain⟨e1,e2⟩:=b7v Aa.out T__ (i_ Z.pos) (i_ Y.2) (i_ q4.2);exact⟨rfl,e1,e2⟩
theorem c13(s:ByteArray)(E:s.size≤400)(b:Nat)(r:Rd)(w:World)(h:a0b w b s r a0j)(hp:r.pos≤s.data.toList.length)(t0:r.seesOne s.data.toList 63 63=false):
  Calls prog 118 #[.pointer (some (a__ b 0))] w fun e w'=>e= .returned (.agg (hdV (a3C s.data.toList r).2).toArray)∧a0b w' b s (a3C s.data.toList r).1 a0j∧But b w w':=by
 have Ad:s.data.toList.length=s.size:=by simp
 have a1:=a9m hp;have a2:=a0o 97 122 a1.le;have a3:=a0o 58 58 a2.le;have a4:=a4h a3.le;have p0:r.pos≤s.size:=by omega
 unfold a3C;simp only[hdV,t0];have hO:a6f s.data.toList r=(r.takeOne s.data.toList 33 33).1:=by unfold a6f;rw[f_ (by rw[t0];decide)]
 rw[hO]at a1 a2 a3 a4⊢;clear hO;generalize t:(r.takeOne s.data.toList 33 33).1=Z at*;have H:=h__ t;clear t;generalize p:Z.takeOne s.data.toList 97 122=Y at*;have F:=h__ p;clear p;generalize u:(Y.1.takeOne s.data.toList 58 58).1=r3 at*;have I:=h__ u;clear u;generalize q:r3.label s.data.toList=q4 at*;have G:=h__ q;clear q;have p1:Z.pos≤s.size:=by have:=a1.le;omega
 have p2:Y.1.pos≤s.size:=by have:=a2.le;omega
 have p3:r3.pos≤s.size:=by have:=a3.le;omega
 have p4:q4.1.pos≤s.size:=by have:=a4.le;omega
 have HH:=h__ h;have hb:b<w.heap.size:=r_ w _ h.c0;have Ac:¬b=w.heap.size:=by omega
 have Ab:¬b=w.heap.size+1:=by omega
 clear a1 a2 a3 a4 h;go_enter func118,ntmps118;go_wp2_with fail;refine(a1d b s r a0j 63 _ (a8z HH.out _ _ _ _ _ _).rd E p0).mono ?_;rw[t0];rintro e w1 ⟨rfl,R,J⟩;have L1:=(a8z HH.out _ _ _ _ _ _).call R J;have A:=h__ L1;clear R J;obtain⟨x,d,f,g,i,j,k,l,m,n,o,c,a,y⟩:=L1;clear x c;go_wp2_with fail;refine(a1B b s r a0j 33 _ (A.out.set0 _).rd E p0).mono ?_;rw[H.out];rintro e w2 ⟨rfl,S,L⟩;have L2:=(A.out.set0 _).call S L;have z:=h__ L2;clear A d f g i j k l m n o a y;clear S L;obtain⟨x,d,f,g,i,j,k,l,m,n,o,c,a,y⟩:=L2;clear x c;obtain⟨c0,c1,c2,c3,c4,fz⟩:=id z.out.rd;go_wp2_with fail;refine(a52 b s Z a0j _ (z.out.set1 _).rd E p1).mono ?_;rw[F.out];rintro e w3 ⟨rfl,T,M⟩;have L3:=(z.out.set1 _).call T M;have B:=h__ L3;clear z d f g i j k l m n o a y;clear T M;obtain⟨x,d,f,g,i,j,k,l,m,n,o,c,a,y⟩:=L3;clear x c;clear c0 c1 c2 c3 c4 fz;go_wp2_with fail;refine(a1B b s Y.1 a0j 58 _ (B.out.set2 _).rd E p2).mono ?_;rw[I.out];rintro e w4 ⟨rfl,U,N⟩;have L4:=(B.out.set2 _).call U N;have C:=h__ L4;clear B d f g i j k l m n o a y;clear U N;obtain⟨x,d,f,g,i,j,k,l,m,n,o,c,a,y⟩:=L4;clear x c;go_wp2_with fail;refine(b0A b s r3 a0j _ C.out.rd E p3).mono ?_;rw[G.out];rintro e w5 ⟨rfl,V,O⟩;have L5:=C.out.call V O;have D:=h__ L5;clear C d f g i j k l m n o a y;clear V O;obtain⟨x,d,f,g,i,j,k,l,m,n,o,c,a,y⟩:=L5;clear x c;go_wp2_with fail;refine(a1B b s q4.1 a0j 59 _ (D.out.set3 _).rd E p4).mono ?_;rintro e w6 ⟨rfl,X,P⟩;have L6:=(D.out.set3 _).call X P;have Aa:=h__ L6;clear D d f g i j k l m n o a y;clear X P;obtain⟨x,d,f,g,i,j,k,l,m,n,o,c,a,y⟩:=L6;clear x c;go_wp2_with fail;refine m_ (v:= .agg #[F__,i_ Z.pos,i_ Y.2,i_ q4.2]) (by simp[results,results118,go_sem,d,f,g,i,k,l,m,n,j,o]) rfl ?_;obtain⟨e1,e2⟩:=b7v Aa.out F__ (i_ Z.pos) (i_ Y.2) (i_ q4.2);exact⟨rfl,e1,e2⟩
theorem b9A(s:ByteArray)(c:s.size≤400)(b:Nat)(r:Rd)(w:World)(h:a0b w b s r a0j)(a:r.pos≤s.data.toList.length):
  Calls prog 118 #[.pointer (some (a__ b 0))] w fun e w'=>e= .returned (.agg (hdV (a3C s.data.toList r).2).toArray)∧a0b w' b s (a3C s.data.toList r).1 a0j∧But b w w':=by
 cases d:r.seesOne s.data.toList 63 63
 ·exact c13 s c b r w h a d
 ·exact c0x s c b r w h a d
def a1k(w:World)(P:Nat→Prop)(v:Value)(l:List Hd):Prop:=w.ownsRow 0 146 4 v l.length (a3J l)∧∀k,v.ownBlock=some k→P k
theorem a0Y{w w':World}{P Q:Nat→Prop}{v:Value}{l:List Hd}(h:a1k w P v l)(a:∀k,P k→k<w.heap.size→Q k∧w'.heap[k]? =w.heap[k]?):a1k w' Q v l:=
 ⟨a5o h.1 (fun k e b=>(a k (h.2 k e) b).2),fun k e=>(a k (h.2 k e) (h.1.lt k e).2).1⟩
theorem a5l{w w':World}{b B:Nat}{v:Value}{l:List Hd}(h:a1k w (fun k=>B≤k) v l)(a:But b w w')(f:b<B):a1k w' (fun k=>B≤k) v l:=
 a0Y h (fun k c d=>⟨c,a.block k d (fun e=>by cases e;omega)⟩)
theorem b3w{w:World}{P:Nat→Prop}{v:Value}{l:List Hd}(h:a1k w P v l):a7d v=l.length:=by
 rcases Joins.ownsRow_forms h.1 with⟨rfl,e⟩|⟨g,a,rfl⟩
 ·rw[e];rfl
 ·rfl
theorem b3v{t:List UInt8}{r:Rd}(k:Nat)(h:(r.seesOne t 63 63||r.seesOne t 33 33)=true):a3p t (k+1) r=((a3p t k (a3C t r).1).1,(a3C t r).2::(a3p t k (a3C t r).1).2):=by
 conv=>lhs;unfold a3p
 rw[n_ h]
theorem b1n{t:List UInt8}{r:Rd}(k:Nat)(h:(r.seesOne t 63 63||r.seesOne t 33 33)=false):a3p t (k+1) r=(r,[]):=by
 conv=>lhs;unfold a3p
 rw[f_ (by rw[h];decide)]
theorem b9y(w:World)(g:Nat)(e:g=w.heap.size)(a b c d:Value)(t:TypeId):∀j u,[a,b,c,d][j]? =some u→(w.alloc (.cells #[a,b,c,d] t)).cell? (((a__ g 0):Addr).add j)=some u:=by
 subst e;intro j u h
 match j,h with
 |0,h=>simp at h;subst h;simp[go_sem,Addr.add]
 |1,h=>simp at h;subst h;simp[go_sem,Addr.add]
 |2,h=>simp at h;subst h;simp[go_sem,Addr.add]
 |3,h=>simp at h;subst h;simp[go_sem,Addr.add]
 |j+4,h=>simp at h
theorem b1o{w a W c:World}{b:Nat}{s:ByteArray}{r:Rd}{v d:Value}{l:List Hd}{q:Hd}{x y:Obj}(n:W=(a.alloc x).alloc y)
  (z:b<w.heap.size) (j:But b w a) (t:a0b a b s r a0j) (i:a1k a (fun k=>w.heap.size≤k) v l)
  (p:c.ownsRow 0 146 4 d (l.length+1) (a3J l++hdV q)) (m:W.grownBy c v.ownBlock) (h:d.ownBlock=v.ownBlock∨∃g,d.ownBlock=some g∧a.heap.size+1+1≤g):
  a1k c (fun k=>w.heap.size≤k) d (l++ [q])∧a0b c b s r a0j∧But b w c:=by
 subst n;have u:=j.size;refine⟨⟨?_,?_⟩,?_,?_⟩
 ·rw[x_,b8P];simpa[a3J]using p
 ·intro k e;rcases h with f|⟨g,f,o⟩
  ·rw[f]at e;exact i.2 k e
  ·rw[f]at e;cases e;omega
 ·refine a7I (a2M (a2M t _) _) m ?_;intro e;have:=i.2 b e.symm;omega
 ·exact But.grown ((j.alloc _).alloc _) m i.2
theorem c14(s:ByteArray)(X:s.size≤400)(b:Nat)(r:Rd)(w:World)(h:a0b w b s r a0j)(hp:r.pos≤s.data.toList.length):
  Calls prog 82 #[.pointer (some (a__ b 0))] w fun e w'=>∃v,e= .returned v∧a1k w' (fun k=>w.heap.size≤k) v (a3p s.data.toList (s.data.toList.length+1) r).2∧a0b w' b s (a3p s.data.toList (s.data.toList.length+1) r).1 a0j∧But b w w':=by
 have Aj:s.data.toList.length=s.size:=by simp
 have L:b<w.heap.size:=r_ w _ h.c0;obtain⟨iR,Ab,Af,Ac,Aa⟩:=a1v c4i;generalize hR:a3p s.data.toList (s.data.toList.length+1) r=R;have HR:=h__ hR;have HH:=h__ h;clear hR h;go_enter func82,ntmps82;go_wp2_with fail;go_loopw [3] (fun x w'=>∃(j:Nat) (i:Rd) (l:List Hd) (v:Value),v=x∧Hid (a0b w' b s i a0j)∧Hid (But b w w')∧Hid (a1k w' (fun k=>w.heap.size≤k) v l)∧i.pos≤s.data.toList.length∧l.length+j=s.data.toList.length+1∧s.data.toList.length-i.pos<j∧Hid ((a3p s.data.toList j i).1=R.1∧l++(a3p s.data.toList j i).2=R.2)) (fun x _=>1000-a7d x);case atStart=>exact⟨s.data.toList.length+1,r,[],a0j,rfl,HH,But.refl _ _,⟨E_ ..,fun k e=>(by cases e)⟩,hp,by simp,by omega,by show _∧_;rw[HR.out];exact⟨rfl,rfl⟩⟩
 case round=>
  obtain⟨j,i,l,v,rfl,P,t,HM,V,Ai,hj,HQ⟩:=hrel;have Ak:w.heap.size≤wr.heap.size:=t.out.size;have G:i.pos≤s.size:=by omega
  obtain⟨j',rfl⟩:∃j',j=j'+1:=⟨j-1,by omega⟩
  cases f:(i.seesOne s.data.toList 63 63||i.seesOne s.data.toList 33 33)
  ·have o:=HQ.out;rw[b1n j' f]at o;simp only[a_i]at o;have D:=h__ o;clear o;obtain⟨Z,t2⟩:=Bool.or_eq_false_iff.mp f;clear f;go_wp2_with fail;refine(a1d b s i a0j 63 _ P.out X G).mono ?_;rw[Z];rintro e w2 ⟨rfl,M,u⟩;go_wp2_with fail;refine(a1d b s i a0j 33 _ M X G).mono ?_;rw[t2];rintro e w3 ⟨rfl,p,d⟩;go_wp2_with fail;go_ret;refine⟨v,rfl,?_,?_,(t.out.trans u).trans d⟩
   ·rw[←D.out.2];exact a5l (a5l HM.out u L) d L
   ·rw[←D.out.1];exact p
  ·have Ah:=c4e f;have Ad:=b5q V;have o:=HQ.out;rw[b3v j' f]at o;simp only at o;have D:=h__ o;clear o;generalize hz:a3C s.data.toList i=z at*;have HZ:=h__ hz;have J:=h__ Ad;clear hz Ad;obtain⟨z1,y⟩:=z;simp only at Ah;cases Z:i.seesOne s.data.toList 63 63
   ·have t2:i.seesOne s.data.toList 33 33=true:=by rw[Z]at f;simpa using f
    clear f;go_wp2_with fail;refine(a1d b s i a0j 63 _ P.out X G).mono ?_;rw[Z];rintro e w2 ⟨rfl,M,u⟩;go_wp2_with fail;refine(a1d b s i a0j 33 _ M X G).mono ?_;rw[t2];rintro e w3 ⟨rfl,p,d⟩;have C:Hid _:=a5l (a5l HM.out u L) d L;have A:Hid _:=(t.out.trans u).trans d;clear HM t u d M Z t2;go_wp2_with fail;refine(b9A s X b i _ p V).mono ?_;rw[HZ.out];rintro e w4 ⟨rfl,H,n⟩;have m:Hid _:=a5l C.out n L;have B:Hid _:=A.out.trans n;have Ae:=B.out.size;clear n C A p;have S:=h__ H;clear H;simp only[hdV];go_wp2_with (at_builtin;refine a0X rfl (.tmp 13) (.tmp 15) 65 rfl 0 146 iR (.agg #[F__,i_ 0,i_ 0,i_ 0]) 4 32 underlying65 Ab Af Ac Aa rfl (by decide) v l.length (a3J l) (by rfl) (by exact(m.out.1.alloc _).alloc _) ⟨w4.heap.size+1,0,none⟩ 1 1 [.bool y.field,i_ y.place,i_ y.name,i_ y.label] (by rfl) rfl (by exact b9y _ _ (by simp) _ _ _ _ 146) (by intro q o;simp at o;rcases o with rfl|rfl|rfl|rfl<;>rfl) (by unfold maxLen;omega) (by omega) (a_j _) (by decide) ?nxt);case nxt=>
     intro v' w5 c a F;obtain⟨mk,I,E⟩:=b1o (q:=y) rfl L B.out S.out m.out c a F;have U:=b3w m.out;have O:=h__ mk;obtain⟨g,Ag,Y⟩:=Joins.ownsRow_form c (by omega);subst Y;have T:=h__ I;have N:=h__ E;clear a F c I E mk;go_wp2_with fail;go_roundw;case rel=>
      refine⟨j',z1,l++ [y],_,rfl,T,N,O,J.out.le,by simp;omega,by have:=J.out.le;omega,?_⟩;have:=D.out;exact⟨this.1,by rw[a_y];exact this.2⟩
     case measure=>
      rw[U];simp only[a7d];omega
   ·clear f;go_wp2_with fail;refine(a1d b s i a0j 63 _ P.out X G).mono ?_;rw[Z];rintro e w3 ⟨rfl,p,d⟩;have C:Hid _:=a5l HM.out d L;have A:Hid _:=t.out.trans d;clear HM t d Z;go_wp2_with fail;refine(b9A s X b i _ p V).mono ?_;rw[HZ.out];rintro e w4 ⟨rfl,H,n⟩;have m:Hid _:=a5l C.out n L;have B:Hid _:=A.out.trans n;have Ae:=B.out.size;clear n C A p;have S:=h__ H;clear H;simp only[hdV];go_wp2_with (at_builtin;refine a0X rfl (.tmp 13) (.tmp 15) 65 rfl 0 146 iR (.agg #[F__,i_ 0,i_ 0,i_ 0]) 4 32 underlying65 Ab Af Ac Aa rfl (by decide) v l.length (a3J l) (by rfl) (by exact(m.out.1.alloc _).alloc _) ⟨w4.heap.size+1,0,none⟩ 1 1 [.bool y.field,i_ y.place,i_ y.name,i_ y.label] (by rfl) rfl (by exact b9y _ _ (by simp) _ _ _ _ 146) (by intro q o;simp at o;rcases o with rfl|rfl|rfl|rfl<;>rfl) (by unfold maxLen;omega) (by omega) (a_j _) (by decide) ?nxt);case nxt=>
     intro v' w5 c a F;obtain⟨mk,I,E⟩:=b1o (q:=y) rfl L B.out S.out m.out c a F;have U:=b3w m.out;have O:=h__ mk;obtain⟨g,Ag,Y⟩:=Joins.ownsRow_form c (by omega);subst Y;have T:=h__ I;have N:=h__ E;clear a F c I E mk;go_wp2_with fail;go_roundw;case rel=>
      refine⟨j',z1,l++ [y],_,rfl,T,N,O,J.out.le,by simp;omega,by have:=J.out.le;omega,?_⟩;have:=D.out;exact⟨this.1,by rw[a_y];exact this.2⟩
     case measure=>
      rw[U];simp only[a7d];omega
def Rd.first:Rd:=⟨0,0,false⟩
def a0t(t:List UInt8):Rd×List Hd:=a3p t (t.length+1) (Rd.skip t Rd.first)
def a0n(t:List UInt8):Rd×List (RT 9):=a1m (fun r=>a0r t 8 r) (fun r=>decide (t.length≤r.pos)) (t.length+1) (a0t t).1
theorem b1F(t:List UInt8):(a0t t).1.pos≤t.length∧(a0t t).1.depth=0:=by
 have a:(Rd.skip t Rd.first).pos≤t.length:=b4H (t:=t) (k:=0) (a_j _);have h:=b3u (t.length+1) (Rd.skip t Rd.first) a;exact⟨h.le,h.depth⟩
theorem a78(s:ByteArray)(T:s.size≤400)(w:World):
  Calls prog 49 #[.string s] w fun e w'=>B__ w w'∧
   ((a0n s.data.toList).1.bad=true→e= .returned (.tuple #[.agg #[.slice none 0 0,.slice none 0 0],i_ (a0n s.data.toList).1.pos,F__]))∧
   ((a0n s.data.toList).1.bad=false→∃D F,e= .returned (.tuple #[.agg #[D,F],i_ 0,T__])∧a1k w' (fun k=>w.heap.size≤k) D (a0t s.data.toList).2∧a0l 9 w' (fun k=>w.heap.size≤k) F (a0n s.data.toList).2):=by
 have Ac:s.data.toList.length=s.size:=by simp
 obtain⟨P,M⟩:=b1F s.data.toList;have O:(Rd.skip s.data.toList Rd.first).pos≤s.data.toList.length:=b4H (t:=s.data.toList) (k:=0) (a_j _);generalize J:Rd.skip s.data.toList Rd.first=Z at*;generalize Y:a0n s.data.toList=R at*;generalize L:a0t s.data.toList=H at*;have HA:=h__ J;have HH:Hid (a3p s.data.toList (s.data.toList.length+1) Z=H):=by rw[←J];exact L
 have HR:Hid (a1m (fun r=>a0r s.data.toList 8 r) (fun r=>decide (s.data.toList.length≤r.pos)) (s.data.toList.length+1) H.1=R):=by rw[←L];exact Y
 clear J L Y;go_enter func49,ntmps49;go_wp2_with fail;generalize u:((w.alloc (.cells #[.slice none 0 0,.slice none 0 0] 68)).alloc (.cells #[.string s,i_ 0,i_ 0,.slice none 0 0,F__] 142))=q;have z:a0b q (w.heap.size+1) s Rd.first a0j:=by
  subst u;refine⟨?_,?_,?_,?_,?_,fun o=> ?_⟩;all_goals simp[go_sem,Rd.first,a0j]
 have x:B__ w q:=by
  subst u;exact((g_ _ _).alloc (a_ _) _).alloc (by simp) _
 have C:q.heap[w.heap.size]? =some (.cells #[.slice none 0 0,.slice none 0 0] 68):=by
  subst u;rw[q_ _ _ _ (by simp)];exact R_ w _
 have Ab:q.heap.size=w.heap.size+2:=by subst u;simp
 clear u;refine(a97 (w.heap.size+1) s Rd.first a0j _ z T (a_j _)).mono ?_;rw[HA.out];rintro e w1 ⟨rfl,A,j⟩;go_wp2_with fail;refine(c14 s T (w.heap.size+1) Z _ A O).mono ?_;rw[HH.out];rintro e w2 ⟨D,rfl,m,B,l⟩;go_wp2_with fail;refine(b8t s T 8 (w.heap.size+1) rfl H.1 _ B P M).mono ?_;rw[HR.out];rintro e h ⟨F,rfl,n,S,b⟩;have s1:=j.size;have s2:=l.size;have s3:=b.size;have i:But (w.heap.size+1) q h:=(j.trans l).trans b;have y:B__ w h:=x.trans ⟨i.os,i.tape,i.output,i.size,fun k E=>i.block k (by omega) (fun e=>by have:=a_E e;omega)⟩;have c:h.heap[w.heap.size]? =some (.cells #[.slice none 0 0,.slice none 0 0] 68):=by
  rw[i.block _ (by omega) (fun e=>by have:=a_E e;omega)];exact C
 have d:a1k h (fun k=>w.heap.size+1<k) D H.2:=a0Y m (fun k E N=>⟨by omega,b.block k N (fun e=>by have:=a_E e;omega)⟩);have f:a0l 9 h (fun k=>w.heap.size+1<k) F R.2:=a6x n (fun k E=>by omega);have z0:h.cell? (a__ w.heap.size 0)=some (.slice none 0 0):=by simp[World.cell?,c]
 have z1:h.cell? (a__ w.heap.size 1)=some (.slice none 0 0):=by simp[World.cell?,c]
 have zf:∀o,h.frozen? (a__ w.heap.size o)=false:=by intro o;simp[World.frozen?,c]
 have p:=h__ y;have G:=h__ d;have I:=h__ f;obtain⟨ah,nh,ch,U⟩:∃aa nn cc,D= .slice aa nn cc:=by
  rcases Joins.ownsRow_forms m.1 with⟨rfl,_⟩|⟨g,Aa,rfl⟩<;>exact⟨_,_,_,rfl⟩
 obtain⟨ar,nr,cr,V⟩:=a0h n;subst U V;obtain⟨c0,c1,c2,c3,X,fz⟩:=S;clear z x C A j B l b m n i y c d f;cases a:R.1.bad
 ·rw[a]at X;go_wp2_with fail;refine m_ (v:= .tuple #[.agg #[.slice ah nh ch,.slice ar nr cr],i_ 0,T__]) (by simp[results,results49,go_sem,z0,z1,zf]) rfl ?_;refine⟨(p.out.setCell (a_ _) _).setCell (a_ _) _,fun e=>(by rw[a]at e;cases e),fun _=>⟨_,_,rfl,?_,?_⟩⟩
  ·refine a0Y G.out (fun k E N=>⟨by omega,?_⟩);rw[o_ _ _ _ _ (by simp only;omega),o_ _ _ _ _ (by simp only;omega)]
  ·refine a1A (fun k E N=>⟨by omega,?_⟩) 9 _ _ I.out;rw[o_ _ _ _ _ (by simp only;omega),o_ _ _ _ _ (by simp only;omega)]
 ·rw[a]at X;go_wp2_with fail;go_region;all_goals go_wp2_with fail
  all_goals (refine m_ (v:= .tuple #[.agg #[.slice none 0 0,.slice none 0 0],i_ R.1.pos,F__]) (by simp[results,results49,go_sem,z0,z1,zf]) rfl ?_)
  all_goals exact⟨((p.out.setCell (a_ _) _).setCell (a_ _) _).drew,fun _=>rfl,fun e=>(by rw[a]at e;cases e)⟩
end Go.Proofs.YtdgmoiflahoihaaGreatDoor
