import Derived.Test.YtdgmoiflahoihaaGreatDoorPGenw

set_option linter.unusedSimpArgs false
set_option linter.unusedVariables false
set_option maxRecDepth 100000
set_option maxHeartbeats 8000000
namespace Go.Proofs.YtdgmoiflahoihaaGreatDoor
open Go.Proofs.Tryz
open Go.RowKit
theorem b5t:∀(l r:List Ic),a0Q (l++r)=a0Q l++a0Q r
 | [],r=>rfl
 |x::l,r=>by simp[a0Q,b5t l r]
structure a22(w:World)(b:Nat)(S:Nat→Prop)(l:List Ic):Prop where
 row:∃v,w.cell? ⟨b,0,none⟩=some v∧w.ownsRow (b+1) 87 4 v l.length (a0Q l)∧∀k,v.ownBlock=some k→S k
 fz:∀o,w.frozen? ⟨b,o,none⟩=false
theorem a22.lt{w:World}{b:Nat}{S:Nat→Prop}{l:List Ic}(h:a22 w b S l):b<w.heap.size:=by
 obtain⟨v,c,_⟩:=h.row;exact r_ w _ c
theorem a22.weak{w:World}{b:Nat}{S R:Nat→Prop}{l:List Ic}(h:a22 w b S l)(g:∀k,S k→R k):a22 w b R l:=by
 obtain⟨⟨v,c,f,d⟩,a⟩:=h;exact⟨⟨v,c,f,fun k e=>g k (d k e)⟩,a⟩
theorem a22.keep{w w':World}{b B:Nat}{S:Nat→Prop}{l:List Ic}(h:a22 w b S l)(a:Below B w w')(e:w.heap.size≤B):a22 w' b S l:=by
 have g:=h.lt;obtain⟨⟨v,c,i,f⟩,d⟩:=h;exact⟨⟨v,(a.cell (p:=(a__ b 0)) (by simp only;omega)).trans c,a1C i a e,f⟩,fun o=>(a.frozen (p:=(a__ b o)) (by simp only;omega)).trans (d o)⟩
structure a0K(b:Nat)(S:Nat→Prop)(w w':World)(l:List Ic):Prop where
 here:a22 w' b (fun k=>S k∨w.heap.size≤k) l
 onto:Onto b S w w'
theorem a0K.trans{b:Nat}{S:Nat→Prop}{w w1 c:World}{l m:List Ic}(h:a0K b S w w1 l)(k:a0K b (fun i=>S i∨w.heap.size≤i) w1 c m):a0K b S w c m:=
 ⟨k.here.weak (fun i a=>by rcases a with a|a;exact a;exact .inr (K_ h.onto.size a)),h.onto.trans k.onto⟩
theorem a0K.pre{b:Nat}{S:Nat→Prop}{w W w':World}{l:List Ic}(h:B__ w W)(k:a0K b S W w' l):a0K b S w w' l:=
 ⟨k.here.weak (fun i a=>by rcases a with a|a;exact .inl a;exact .inr (K_ h.size a)),k.onto.pre h⟩
theorem a0K.still{b:Nat}{S:Nat→Prop}{w w':World}{l:List Ic}(h:a22 w' b S l)(k:B__ w w'):a0K b S w w' l:=
 ⟨h.weak (fun i a=> .inl a),Onto.of_below k⟩
theorem c6Y(w:World)(x:Ic)(t:TypeId):∀j u,(a0Q [x])[j]? =some u→(w.alloc (.cells #[i_ x.op,i_ x.a,i_ x.b,i_ x.c] t)).cell? (((a__ w.heap.size 0):Addr).add j)=some u:=by
 intro j u h
 match j,h with
 |0,h=>simp[a0Q]at h;subst h;simp[go_sem,Addr.add]
 |1,h=>simp[a0Q]at h;subst h;simp[go_sem,Addr.add]
 |2,h=>simp[a0Q]at h;subst h;simp[go_sem,Addr.add]
 |3,h=>simp[a0Q]at h;subst h;simp[go_sem,Addr.add]
 |j+4,h=>simp[a0Q]at h
theorem a3c(b:Nat)(S:Nat→Prop)(l:List Ic)(D a e c:Int)(w:World)(h:a22 w b S l)(hl:l.length≤100000):
  Calls prog 126 #[.pointer (some (a__ b 0)),i_ D,i_ a,i_ e,i_ c] w fun r w'=>r= .returned (.tuple #[])∧a0K b S w w' (l++ [⟨D,a,e,c⟩]):=by
 have L:=h.lt;obtain⟨⟨v,Z,M,y⟩,U⟩:=h;have t:Hid (∀k,v.ownBlock=some k→S k):=y;have T:Hid (w.ownsRow (b+1) 87 4 v l.length (a0Q l)):=M;obtain⟨iV,I,O,N,H⟩:=a1v b4v;have F:Hid (v.ownBlock≠some b):=fun e=>by have:=(M.lt b e).1;omega
 have B:0<l.length+1:=by omega
 have m1:l.length+1≤maxLen:=by unfold maxLen;omega
 have m2:(l.length+1)*32≤140737488355328:=by omega
 have m3:∀R,b+1≤(w.alloc R).heap.size:=fun R=>by simp;omega
 clear M y;go_enter func126,ntmps126;go_wp2_with (at_builtin;refine a0X rfl (.tmp 14) (.tmp 20) 36 rfl (b+1) 87 iV (.agg #[i_ 0,i_ 0,i_ 0,i_ 0]) 4 32 underlying36 I O N H rfl (by decide) v l.length (a0Q l) (by rfl) (by exact T.out.alloc _) (a__ w.heap.size 0) 1 1 (a0Q [⟨D,a,e,c⟩]) (by rfl) rfl (by exact c6Y w ⟨D,a,e,c⟩ 87) (by intro q P;simp[a0Q]at P;rcases P with rfl|rfl|rfl|rfl<;>rfl) m1 m2 (m3 _) (by decide) ?_;intro v' C m j z;have p:C.heap[b]? =w.heap[b]? :=(j.block b (by simp;omega) (fun e=>F.out e.symm)).trans (q_ _ _ _ L);have q0:C.cell? (a__ b 0)=some v:=(e_ (a:=(a__ b 0)) p).trans Z;have q1:∀o,C.frozen? (a__ b o)=false:=(fun o=>(I_ (a:=(a__ b o)) p).trans (U o));have A:Onto b S w C:=⟨j.os,j.tape,j.output,(by have:=j.size;simp at this;omega),fun k p hb Y=>(j.block k (by simp;omega) (fun e=>Y (t.out k e.symm))).trans (q_ _ _ _ p)⟩;obtain⟨V,u,rfl⟩:=Joins.ownsRow_form m B;have s:=h__ m;have G:Hid (Onto b S w C):=A;have E:=h__ z;clear m A j p z);go_end0;refine⟨rfl,⟨⟨.slice (some (a__ V 0)) (l.length+1) u,by simp[go_sem,q0],?_,fun k p=> ?_⟩,fun o=>by simp[go_sem,q1]⟩,G.out.setCell _ _⟩
 ·rw[b5t,x_];exact a_d s.out (a:=(a__ b 0)) (by simp) _
 ·rcases E.out with e|⟨g,X,J⟩
  ·exact .inl (t.out k (by rw[←e];exact p))
  ·rw[X]at p;cases p;exact .inr (by simp at J;omega)
theorem b81{w:World}{P:Nat→Prop}{v:Value}{l:List Pt}(h:a02 w P v l):
  ∃b g a,v= .slice b l.length a∧∀i,∀hi:i<l.length,b=some (a__ g 0)∧P g∧w.cell? (a__ g (i*2))=some (i_ l[i].op)∧w.cell? (a__ g (i*2+1))=some (i_ l[i].num):=by
 obtain⟨b,g,a,d,j⟩:=a8D h;refine⟨b,g,a,d,fun i hi=> ?_⟩;obtain⟨c,_,e,f⟩:=j i hi;exact⟨c,h.2 g (by rw[d,c];rfl),e,f⟩
theorem c37{p:Pt}{r:List Pt}{a:Int}(b:¬(p.op=1∨p.op=2))(c:¬p.op=3):a0F (p::r) a=⟨p.op,a-1-1,a-1-1,a-1⟩::a0F r (a-1):=by
 conv=>lhs;unfold a0F
 rw[f_ b,f_ c]
theorem a9k(b:Nat)(S:Nat→Prop)(l:List Ic)(P:List Pt)(Q:Nat→Prop)(v:Value)(w:World)(h:a22 w b S l)(hl:l.length+P.length≤100000)(hP:P.length≤1000)(hv:a02 w Q v P)(hQ:∀k,Q k→k<b)(I:∀k,S k→b<k):
  Calls prog 186 #[.pointer (some (a__ b 0)),v] w fun r w'=>r= .returned (.tuple #[])∧a0K b S w w' (l++a0F P 35):=by
 obtain⟨ao,g,Aa,rfl,z⟩:=b81 hv;have M:=h.lt;have HC:=h__ z;have H:Hid (a0K b S w w l):=a0K.still h (g_ _ _);have HQ:Hid (∀k,Q k→k<b):=hQ;have T:Hid (∀k,S k→b<k):=I;generalize hR:l++a0F P 35=R;have HR:Hid (l++a0F (P.drop 0) 35=R):=hR;clear z hv hR h hQ I;go_enter func186,ntmps186;go_wp2_with fail;go_loopw [4,9] (fun t x w'=>∃(k:Nat) (j:Int) (m:List Ic),x=i_ k∧t=i_ j∧k≤P.length∧35-(k:Int)≤j∧j≤35+(k:Int)∧m.length=l.length+k∧Hid (a0K b S w w' m)∧Hid (m++a0F (P.drop k) j=R)) (fun _ x _=>P.length-(intOf x).toNat);case atStart=>exact⟨0,35,l,rfl,rfl,by omega,by omega,by omega,by omega,H,HR⟩
 case round=>
  obtain⟨k,j,m,rfl,rfl,hk,Ac,Ad,hm,u,G⟩:=hrel;by_cases L:k<P.length
  ·have tk:decide ((k:Int)<(P.length:Int))=true:=by simp;omega
   obtain⟨e0,X,Z,c1⟩:=HC.out k L;have J:g<b:=HQ.out g X;have E:Below b w wr:=u.out.onto.below M T.out;have Ab:b<wr.heap.size:=u.out.here.lt;rw[←E.cell (p:=(a__ g (k*2))) J]at Z;rw[←E.cell (p:=(a__ g (k*2+1))) J]at c1;have s:=G.out;rw[u_ L]at s;generalize P[k]=p at*;obtain⟨C,O⟩:=p;simp only at Z c1;have A:Hid (B__ wr (wr.alloc (.cells #[i_ C,i_ O] 195))):=(g_ _ _).alloc (a_ _) _;have B:Hid (a22 (wr.alloc (.cells #[i_ C,i_ O] 195)) b (fun k=>S k∨w.heap.size≤k) m):=u.out.here.keep A.out (a_ _);have i0:(0:Int)≤(k:Int):=by omega
   have i1:(k:Int)<(P.length:Int):=by omega
   subst e0;clear E;by_cases U:C=1
   ·subst U;have D:Hid ((m++ [⟨1,j,O,0⟩])++a0F (P.drop (k+1)) (j+1)=R):=by show _=_;rw[←s];simp[a0F]
    clear s G;go_wp2_with (go_at_call 126;refine(a3c b _ m _ _ _ _ _ B.out (by omega)).mono ?_;rintro Y F ⟨rfl,o⟩;have y:Hid (a0K b S w F _):=u.out.trans (o.pre A.out);clear o);go_roundw;case rel=>exact⟨k+1,j+1,_,by go_num,rfl,by omega,by omega,by omega,by simp;omega,y,D⟩
    case measure=>simp[intOf];omega
   by_cases V:C=2
   ·subst V;have D:Hid ((m++ [⟨2,j,O,0⟩])++a0F (P.drop (k+1)) (j+1)=R):=by show _=_;rw[←s];simp[a0F]
    clear s G;go_wp2_with (go_at_call 126;refine(a3c b _ m _ _ _ _ _ B.out (by omega)).mono ?_;rintro Y F ⟨rfl,o⟩;have y:Hid (a0K b S w F _):=u.out.trans (o.pre A.out);clear o);go_roundw;case rel=>exact⟨k+1,j+1,_,by go_num,rfl,by omega,by omega,by omega,by simp;omega,y,D⟩
    case measure=>simp[intOf];omega
   by_cases N:C=3
   ·subst N;have D:Hid ((m++ [⟨3,j-1,j-1,0⟩])++a0F (P.drop (k+1)) j=R):=by show _=_;rw[←s];simp[a0F]
    clear s G;go_wp2_with (go_at_call 126;refine(a3c b _ m _ _ _ _ _ B.out (by omega)).mono ?_;rintro Y F ⟨rfl,o⟩;have y:Hid (a0K b S w F _):=u.out.trans (o.pre A.out);clear o);go_roundw;case rel=>exact⟨k+1,j,_,by go_num,rfl,by omega,by omega,by omega,by simp;omega,y,D⟩
    case measure=>simp[intOf];omega
   ·have D:Hid ((m++ [⟨C,j-1-1,j-1-1,j-1⟩])++a0F (P.drop (k+1)) (j-1)=R):=by show _=_;rw[←s,c37 (by simp only;omega) N];simp
    have t1:(C==1)=false:=by simpa using U
    have t2:(C==2)=false:=by simpa using V
    have t3:(C==3)=false:=by simpa using N
    clear s G U V N;go_wp2_with (go_at_call 126;refine(a3c b _ m _ _ _ _ _ B.out (by omega)).mono ?_;rintro Y F ⟨rfl,o⟩;have y:Hid (a0K b S w F _):=u.out.trans (o.pre A.out);clear o);go_roundw;case rel=>exact⟨k+1,j-1,_,by go_num,rfl,by omega,by omega,by omega,by simp;omega,y,D⟩
    case measure=>simp[intOf];omega
  ·have tk:decide ((k:Int)<(P.length:Int))=false:=by simp;omega
   have HF:Hid (m=R):=by
    have:=G.out;rw[C_ (by omega)]at this;show _=_;simpa[a0F]using this
   go_wp2_with fail;go_end0;rw[←HF.out];exact⟨rfl,u.out⟩
def a6I(n:Nat):Prop:=∀(b:Nat) (S:Nat→Prop) (l:List Ic) (r:List (RT n)) (loops:Nat) (P:Nat→Prop) (v:Value) (w:World),a0v n r→l.length+(a0P n l.length loops r).length≤100000→loops+n≤100→a22 w b S l→a0l n w P v r→(∀k,P k→k<b)→(∀k,S k→b<k)→
 Calls prog 125 #[.pointer (some ⟨b,0,none⟩),v,.int .i64 loops] w fun e a=>e= .returned (.tuple #[])∧a0K b S w a (l++a0P n l.length loops r)
theorem c6f{w:World}{a b n g j:Nat}{e:TypeId}{v u:Value}{xs:List Value}(h:w.ownsRow a e b v n xs)(f:v.ownBlock=some g)(r:j<xs.length):(w.setCell (a__ g j) u).ownsRow a e b v n (xs.set j u):=by
 rcases h.2 with⟨rfl,_⟩|⟨i,c,d,rfl,p,q,k,l,m,o⟩
 ·simp[Value.ownBlock]at f
 ·simp[Value.ownBlock]at f;subst f;refine⟨by simp[h.1],.inr ⟨i,c,d.setIfInBounds j u,rfl,p,?_,k,l,by simp[m],?_⟩⟩
  ·unfold World.setCell;simp only[Array.getElem?_modify,q,a_b,b_t,Option.isSome_none,D_,a_g]
  ·rw[Array.toList_setIfInBounds,List.take_set,o]
theorem b9B:∀(A:List Ic) (x:Ic) (R:List Ic) (u:Int),(a0Q (A++x::R)).set (A.length*4+1) (i_ u)=a0Q (A++ { x with a:=u } ::R)
 | [],x,R,u=>rfl
 |y::A,x,R,u=>by
  simp only[O_,a0Q,B_];rw[show(A.length+1)*4+1=(A.length*4+1)+1+1+1+1 by omega];simp only[j_];rw[b9B A x R u]
theorem b9C:∀(A:List Ic) (x:Ic) (R:List Ic) (u:Int),(a0Q (A++x::R)).set (A.length*4+2) (i_ u)=a0Q (A++ { x with b:=u } ::R)
 | [],x,R,u=>rfl
 |y::A,x,R,u=>by
  simp only[O_,a0Q,B_];rw[show(A.length+1)*4+2=(A.length*4+2)+1+1+1+1 by omega];simp only[j_];rw[b9C A x R u]
theorem b9D:∀(A:List Ic) (x:Ic) (R:List Ic) (u:Int),(a0Q (A++x::R)).set (A.length*4+3) (i_ u)=a0Q (A++ { x with c:=u } ::R)
 | [],x,R,u=>rfl
 |y::A,x,R,u=>by
  simp only[O_,a0Q,B_];rw[show(A.length+1)*4+3=(A.length*4+3)+1+1+1+1 by omega];simp only[j_];rw[b9D A x R u]
theorem a22.narrow{w:World}{b:Nat}{S:Nat→Prop}{l:List Ic}(h:a22 w b S l):a22 w b (fun k=>S k∧k<w.heap.size) l:=by
 obtain⟨⟨v,c,d,f⟩,e⟩:=h;exact⟨⟨v,c,d,fun k a=>⟨f k a,(d.lt k a).2⟩⟩,e⟩
theorem a0K.wide{b:Nat}{R S:Nat→Prop}{w w':World}{l:List Ic}(h:a0K b R w w' l)(c:∀k,R k→S k):a0K b S w w' l:=
 ⟨h.here.weak (fun i a=>by rcases a with a|a;exact .inl (c i a);exact .inr a),⟨h.onto.os,h.onto.tape,h.onto.output,h.onto.size,fun k f d g=>h.onto.block k f d (fun e=>g (c k e))⟩⟩
theorem a22.form{w:World}{b:Nat}{S:Nat→Prop}{l:List Ic}(h:a22 w b S l):∃d a,w.cell? (a__ b 0)=some (.slice d l.length a):=by
 obtain⟨⟨v,c,f,_⟩,_⟩:=h;rcases Joins.ownsRow_forms f with⟨rfl,e⟩|⟨g,a,rfl⟩
 ·exact⟨none,0,by rw[c,e]⟩
 ·exact⟨_,_,c⟩
theorem a22.open{w:World}{b:Nat}{S:Nat→Prop}{l:List Ic}(h:a22 w b S l)(p:0<l.length):∃g a,w.cell? (a__ b 0)=some (.slice (some (a__ g 0)) l.length a)∧S g∧b<g∧g<w.heap.size∧(∀j,j<l.length*4→∃u,w.cell? (a__ g j)=some u)∧(∀o,w.frozen? (a__ g o)=false)∧w.ownsRow (b+1) 87 4 (.slice (some (a__ g 0)) l.length a) l.length (a0Q l):=by
 obtain⟨⟨v,c,d,m⟩,_⟩:=h;have q:=a3W l;obtain⟨g,a,rfl⟩:=Joins.ownsRow_form d p;obtain⟨s,k⟩:=d.lt g rfl;refine⟨g,a,c,m g rfl,by omega,k,fun j x=> ?_,fun o=> ?_,d⟩
 ·exact⟨_,(d.cellAt j (by omega)).trans (s_ (by omega))⟩
 ·rcases d.2 with⟨e,_⟩|⟨r,f,i,e,t,n,_⟩
  ·cases e
  ·cases e;simp[World.frozen?,n]
theorem a22.patch{w:World}{b g a j:Nat}{S:Nat→Prop}{l l':List Ic}{u:Value}(h:a22 w b S l)(e:w.cell? (a__ b 0)=some (.slice (some (a__ g 0)) l.length a))(r:j<l.length*4)(m:(a0Q l).set j u=a0Q l')(f:l'.length=l.length)(n:b<g):a22 (w.setCell (a__ g j) u) b S l'∧(w.setCell (a__ g j) u).cell? (a__ b 0)=some (.slice (some (a__ g 0)) l'.length a):=by
 have d:(w.setCell (a__ g j) u).cell? (a__ b 0)=some (.slice (some (a__ g 0)) l'.length a):=by
  rw[f];simp[go_sem,e,show¬g=b by omega]
 refine⟨?_,d⟩;obtain⟨⟨v,c,q,k⟩,i⟩:=h;rw[e]at c;cases c;have p:=a3W l;refine⟨⟨_,d,?_,k⟩,fun o=>by simp[go_sem,i]⟩;rw[←m,f];exact c6f q rfl (by omega)
theorem Onto.setRow{b g:Nat}{S:Nat→Prop}{w w':World}(h:Onto b S w w')(a:S g∨w.heap.size≤g)(o:Nat)(u:Value):Onto b S w (w'.setCell (a__ g o) u):=
 ⟨h.os,h.tape,h.output,by simpa using h.size,fun k i f c=>(o_ _ _ _ _ (fun e=>by have d:k=g:=e;rcases a with a|a;exact c (d▸a);omega)).trans (h.block k i f c)⟩
theorem c1X(n:Nat)(ih:a6I n)(b:Nat)(S:Nat→Prop)(l:List Ic)(q:a0C×List (RT n)×List (RT n))(loops:Nat)(P:Nat→Prop)(ve v1 v2:Value)(w:World)(hc:a1j q.1)(h1:a0v n q.2.1)(h2:a0v n q.2.2)(hw:l.length+(a1l (a0P n) l.length loops q).length≤100000)(AP:loops+n≤99)(hS:a22 w b S l)(Ab:a02 w P ve q.1.parts)(X:a0l n w P v1 q.2.1)(Y:a0l n w P v2 q.2.2)(hP:∀k,P k→k<b)(O:∀k,S k→b<k)(s:q.1.kind=3):
  Calls prog 187 #[.pointer (some (a__ b 0)),.agg #[i_ q.1.kind,i_ q.1.place,i_ q.1.name,i_ q.1.label,i_ q.1.count,ve,v1,v2],i_ loops] w fun e w'=>e= .returned (.tuple #[])∧a0K b S w w' (l++a1l (a0P n) l.length loops q):=by
 obtain⟨c,t,l2⟩:=q;simp only at*;have AQ:=hS.lt;have V:=a5T c.parts 35;have hG:a1l (a0P n) l.length loops (c,t,l2)=a0F c.parts 35++(⟨13,35,(l.length+(a0F c.parts 35).length+1+(a0P n (l.length+(a0F c.parts 35).length+1) loops t).length+1:Nat),(l.length+(a0F c.parts 35).length+1+(a0P n (l.length+(a0F c.parts 35).length+1) loops t).length+1+(a0P n (l.length+(a0F c.parts 35).length+1+(a0P n (l.length+(a0F c.parts 35).length+1) loops t).length+1) loops l2).length:Nat)⟩::
   (a0P n (l.length+(a0F c.parts 35).length+1) loops t++(⟨12,(l.length+(a0F c.parts 35).length+1+(a0P n (l.length+(a0F c.parts 35).length+1) loops t).length+1+(a0P n (l.length+(a0F c.parts 35).length+1+(a0P n (l.length+(a0F c.parts 35).length+1) loops t).length+1) loops l2).length:Nat),0,0⟩::
    a0P n (l.length+(a0F c.parts 35).length+1+(a0P n (l.length+(a0F c.parts 35).length+1) loops t).length+1) loops l2))):=by
  unfold a1l;simp only[s];rfl
 rw[hG]at hw⊢;obtain⟨ae,ne,ce,Ap⟩:∃aa nn cc,ve= .slice aa nn cc:=by
  rcases Joins.ownsRow_forms Ab.1 with⟨rfl,_⟩|⟨g,AI,rfl⟩<;>exact⟨_,_,_,rfl⟩
 subst Ap;obtain⟨a1,n1,c1,An⟩:=a0h X;obtain⟨a2,n2,c2,Ao⟩:=a0h Y;have Ay:v1= .slice a1 n1 c1∧v2= .slice a2 n2 c2:=⟨An,Ao⟩
 clear An Ao;obtain⟨rfl,rfl⟩:=Ay;generalize T:w.alloc (.cells #[i_ c.kind,i_ c.place,i_ c.name,i_ c.label,i_ c.count,.slice ae ne ce,.slice a1 n1 c1,.slice a2 n2 c2] 149)=W;have Ax:=h__ T;have p:B__ w W:=by rw[←T];exact(g_ _ _).alloc (a_ _) _
 have AM:W.heap.size=w.heap.size+1:=by rw[←T];simp
 have q5:W.cell? (a__ w.heap.size 5)=some (.slice ae ne ce):=by rw[←T];simp[go_sem]
 have q6:W.cell? (a__ w.heap.size 6)=some (.slice a1 n1 c1):=by rw[←T];simp[go_sem]
 have q7:W.cell? (a__ w.heap.size 7)=some (.slice a2 n2 c2):=by rw[←T];simp[go_sem]
 have Av:Hid _:=a0U Ab p;have At:Hid _:=a0g X p;have Au:Hid _:=a0g Y p;have Aw:Hid _:=hS.narrow.keep p (a_ _);have Aq:=h__ p;have H1:=h__ h1;have H2:=h__ h2;have HP:=h__ hP;have Ag:Hid (∀k,(S k∧k<w.heap.size)→b<k):=fun k s=>O k s.1
 have D:Hid (∀k,((S k∧k<w.heap.size)∨W.heap.size≤k)→b<k):=fun k s=>by rcases s with s|s;exact O k s.1;omega
 have r:Hid (∀(w':World) (m:List Ic),a0K b (fun k=>S k∧k<w.heap.size) W w' m→∀o,w'.cell? (a__ w.heap.size o)=W.cell? (a__ w.heap.size o)):=fun w' m h o=>e_ (a:=(a__ w.heap.size o)) (h.onto.block w.heap.size (by omega) (by omega) (fun e=>absurd e.2 (a_s _)))
 have IH:=h__ ih;have Aj:=hc.few;have Ac:Hid (∀(w':World) (m:List Ic),a0K b (fun k=>S k∧k<w.heap.size) W w' m→Below b W w'):=fun w' m h=>h.onto.below (by omega) Ag.out
 clear Ab X Y hS hc h1 h2 hP O ih p T hG s;simp only[x_,B_]at hw;rw[V]at hw⊢;generalize z:l++a0F c.parts 35=d;have E:d.length=l.length+c.parts.length:=by rw[←z];simp[V]
 have As:=h__ z;generalize hF:a0P n (l.length+c.parts.length+1) loops t=F at*;generalize Az:l.length+c.parts.length+1+F.length+1=i at*;generalize hG:a0P n i loops l2=G at*;have HF:Hid (a0P n (d.length+1) loops t=F):=by rw[E];exact hF
 have HG:=h__ hG;obtain⟨J,hJ⟩:∃J,J=d.length+1+F.length:=⟨_,rfl⟩
 have HJ:=h__ hJ;have AJ:d.length<J:=by omega
 have AK:J<i+G.length:=by omega
 have C:Hid (i=d.length+1+F.length+1):=by show _=_;omega
 have AR:d.length+1+F.length+1+G.length≤100000:=by omega
 have AS:i+G.length≤100000:=by omega
 have B:Hid (d++⟨13,35,(i:Nat),(i+G.length:Nat)⟩::(F++(⟨12,(i+G.length:Nat),0,0⟩::G))=l++(a0F c.parts 35++(⟨13,35,(i:Nat),(i+G.length:Nat)⟩::(F++(⟨12,(i+G.length:Nat),0,0⟩::G))))):=by show _=_;rw[←z];simp
 rw[←B.out];have AT:l.length+c.parts.length≤100000:=by omega
 clear z hF hG Az B E hw V hJ;go_enter func187,ntmps187;go_upto_region 1 with fail;rw[Ax.out];go_upto_region 5 with(first|(go_at_call 186;refine(a9k b _ l c.parts P _ _ Aw.out (by omega) Aj Av.out HP.out Ag.out).mono ?_;rw[As.out];rintro r1 w1 ⟨rfl,Z⟩;obtain⟨AF,AA,d1⟩:=Z.here.form;have Ad:=h__ Z;clear Z)|(go_at_call 126;refine(a3c b _ d _ _ _ _ _ Ad.out.here (by omega)).mono ?_;rintro r2 w2 ⟨rfl,Al⟩;have v:Hid _:=Ad.out.trans Al;have d2:=(r.out _ _ v.out 6).trans q6;clear Al)|(go_at_call 125;refine(IH.out b _ (d++ [⟨13,35,0,0⟩]) t loops P _ _ H1.out (by simp only[x_,B_,a_r];rw[HF.out];omega) (by omega) v.out.here (a2V At.out HP.out (Ac.out _ _ v.out)) HP.out D.out).mono ?_;rw[show(d++ [(⟨13,35,0,0⟩:Ic)]).length=d.length+1 by simp,HF.out];rintro r3 w3 ⟨rfl,Am⟩;have L:Hid _:=v.out.trans Am;clear Am));obtain⟨AG,AB,d3⟩:=L.out.here.form;rw[show(d++ [(⟨13,35,0,0⟩:Ic)]++F).length=J by have h9:=HJ.out;simp;omega]at d3;go_upto_region 6 with fail;go_wp2_with fail;refine(a3c b _ _ _ _ _ _ _ L.out.here (by simp;omega)).mono ?_;rintro r4 w4 ⟨rfl,Aa⟩;have y:Hid _:=L.out.trans Aa;obtain⟨AH,AC,d4⟩:=Aa.here.form;have E4:Hid ((d++ [(⟨13,35,0,0⟩:Ic)]++F++ [(⟨12,0,0,0⟩:Ic)]).length=i):=by have h9:=C.out;show _=_;simp;omega
 rw[E4.out]at d4;have d7:=(r.out _ _ y.out 7).trans q7;clear Aa;go_wp2_with fail;refine(IH.out b _ _ l2 loops P _ _ H2.out (by rw[E4.out,HG.out];omega) (by omega) y.out.here (a2V Au.out HP.out (Ac.out _ _ y.out)) HP.out D.out).mono ?_;rw[E4.out,HG.out];rintro r5 w5 ⟨rfl,H⟩;have Ae:Hid _:=y.out.trans H;clear H;have e5:d++ [(⟨13,35,0,0⟩:Ic)]++F++ [⟨12,0,0,0⟩]++G=d++⟨13,35,0,0⟩::(F++⟨12,0,0,0⟩::G):=by simp
 have A:=Ae.out;rw[e5]at A;have e6:(d++(⟨13,35,0,0⟩:Ic)::(F++⟨12,0,0,0⟩::G)).length=i+G.length:=by have h9:=C.out;simp;omega
 obtain⟨g5,AD,d5,Ah,U,AO,f,AN,Ak⟩:=A.here.open (by rw[e6];omega);have Ai:=d5;rw[e6]at d5 f;obtain⟨u2,k2⟩:=f (d.length*4+2) (by omega);obtain⟨u3,k3⟩:=f (d.length*4+3) (by omega);obtain⟨u1,k1⟩:=f (J*4+1) (by omega);have n1:¬d.length*4+2=J*4+1:=by omega
 have n2:¬d.length*4+3=J*4+1:=by omega
 have n3:¬g5=b:=by omega
 have z1:(0:Int)≤(d.length:Int):=by omega
 have z2:(d.length:Int)<((i+G.length:Nat):Int):=by omega
 have z3:(0:Int)≤(J:Int):=by omega
 have z4:(J:Int)<((i+G.length:Nat):Int):=by omega
 obtain⟨N,hN⟩:∃N,N=i+G.length:=⟨_,rfl⟩
 rw[←hN]at d5 z2 z4;have Af:=h__ A;have Ar:=h__ Ai;have AE:=h__ f;have HN:=h__ hN;have M:=h__ Ah;have E6:=h__ e6;have AL:N≤100000:=by omega
 clear A Ae e5 Ak Ai f hN Ah e6;go_wp2_with fail;go_end0;rw[←HN.out];refine⟨rfl,a0K.pre Aq.out (a0K.wide (R:=fun k=>S k∧k<w.heap.size) ?_ (fun k s=>s.1))⟩;obtain⟨p1,x1⟩:=Af.out.here.patch Ar.out (j:=d.length*4+2) (u:=i_ i) (l':=d++⟨13,35,i,0⟩::(F++⟨12,0,0,0⟩::G)) (by rw[E6.out];omega) (b9C d ⟨13,35,0,0⟩ _ i) (by simp) U;obtain⟨p2,x2⟩:=p1.patch x1 (j:=d.length*4+3) (u:=i_ N) (l':=d++⟨13,35,i,N⟩::(F++⟨12,0,0,0⟩::G)) (by have:=E6.out;simp at this⊢;omega) (b9D d ⟨13,35,i,0⟩ _ N) (by simp) U;have e7:∀x:Ic,d++(⟨13,35,i,N⟩:Ic)::(F++x::G)=(d++⟨13,35,i,N⟩::F)++x::G:=fun x=>by simp
 have e8:(d++(⟨13,35,i,N⟩:Ic)::F).length=J:=by have:=HJ.out;simp;omega
 have I:=b9B (d++⟨13,35,i,N⟩::F) ⟨12,0,0,0⟩ G N;rw[e8,←e7,←e7]at I;obtain⟨p3,x3⟩:=p2.patch x2 (j:=J*4+1) (u:=i_ N) (l':=d++⟨13,35,i,N⟩::(F++⟨12,N,0,0⟩::G)) (by have:=E6.out;simp at this⊢;omega) I (by simp) U;exact⟨p3,((Af.out.onto.setRow M.out _ _).setRow M.out _ _).setRow M.out _ _⟩
theorem c1Z(n:Nat)(ih:a6I n)(b:Nat)(S:Nat→Prop)(l:List Ic)(q:a0C×List (RT n)×List (RT n))(loops:Nat)(P:Nat→Prop)(ve v1 v2:Value)(w:World)(hc:a1j q.1)(h1:a0v n q.2.1)(h2:a0v n q.2.2)(hw:l.length+(a1l (a0P n) l.length loops q).length≤100000)(Ao:loops+n≤99)(hS:a22 w b S l)(y:a02 w P ve q.1.parts)(t:a0l n w P v1 q.2.1)(u:a0l n w P v2 q.2.2)(hP:∀k,P k→k<b)(s:∀k,S k→b<k)(i:q.1.kind=4):
  Calls prog 188 #[.pointer (some (a__ b 0)),.agg #[i_ q.1.kind,i_ q.1.place,i_ q.1.name,i_ q.1.label,i_ q.1.count,ve,v1,v2],i_ loops] w fun e w'=>e= .returned (.tuple #[])∧a0K b S w w' (l++a1l (a0P n) l.length loops q):=by
 obtain⟨c,z,l2⟩:=q;simp only at*;have Ap:=hS.lt;have hG:a1l (a0P n) l.length loops (c,z,l2)=⟨1,26,1,0⟩::⟨1,(27+loops:Nat),c.count,0⟩::(a0P n (l.length+2) (loops+1) z++
   [⟨5,(27+loops:Nat),(27+loops:Nat),26⟩,⟨13,(27+loops:Nat),(l.length+2+(a0P n (l.length+2) (loops+1) z).length+3:Nat),(l.length+2+(a0P n (l.length+2) (loops+1) z).length+3:Nat)⟩,⟨12,(l.length+2:Nat),0,0⟩]):=by
  unfold a1l;simp only[i];rfl
 rw[hG]at hw⊢;obtain⟨ae,ne,ce,U⟩:∃aa nn cc,ve= .slice aa nn cc:=by
  rcases Joins.ownsRow_forms y.1 with⟨rfl,_⟩|⟨g,Am,rfl⟩<;>exact⟨_,_,_,rfl⟩
 subst U;obtain⟨a1,n1,c1,O⟩:=a0h t;obtain⟨a2,n2,c2,T⟩:=a0h u;have Ae:v1= .slice a1 n1 c1∧v2= .slice a2 n2 c2:=⟨O,T⟩
 clear O T;obtain⟨rfl,rfl⟩:=Ae;generalize p:w.alloc (.cells #[i_ c.kind,i_ c.place,i_ c.name,i_ c.label,i_ c.count,.slice ae ne ce,.slice a1 n1 c1,.slice a2 n2 c2] 149)=W;have Ad:=h__ p;have d:B__ w W:=by rw[←p];exact(g_ _ _).alloc (a_ _) _
 have An:W.heap.size=w.heap.size+1:=by rw[←p];simp
 have q5:W.cell? (a__ w.heap.size 5)=some (.slice ae ne ce):=by rw[←p];simp[go_sem]
 have q6:W.cell? (a__ w.heap.size 6)=some (.slice a1 n1 c1):=by rw[←p];simp[go_sem]
 have q7:W.cell? (a__ w.heap.size 7)=some (.slice a2 n2 c2):=by rw[←p];simp[go_sem]
 have Aj:Hid _:=a0U y d;have Z:Hid _:=a0g t d;have Ai:Hid _:=a0g u d;have Ac:Hid _:=hS.narrow.keep d (a_ _);have X:=h__ d;have H1:=h__ h1;have H2:=h__ h2;have HP:=h__ hP;have Ab:Hid (∀k,(S k∧k<w.heap.size)→b<k):=fun k i=>s k i.1
 have G:Hid (∀k,((S k∧k<w.heap.size)∨W.heap.size≤k)→b<k):=fun k i=>by rcases i with i|i;exact s k i.1;omega
 have f:Hid (∀(w':World) (m:List Ic),a0K b (fun k=>S k∧k<w.heap.size) W w' m→∀o,w'.cell? (a__ w.heap.size o)=W.cell? (a__ w.heap.size o)):=fun w' m h o=>e_ (a:=(a__ w.heap.size o)) (h.onto.block w.heap.size (by omega) (by omega) (fun e=>absurd e.2 (a_s _)))
 have IH:=h__ ih;have Ah:=hc.few;have Y:Hid (∀(w':World) (m:List Ic),a0K b (fun k=>S k∧k<w.heap.size) W w' m→Below b W w'):=fun w' m h=>h.onto.below (by omega) Ab.out
 have q4:W.cell? (a__ w.heap.size 4)=some (i_ c.count):=by rw[←p];simp[go_sem]
 simp only[x_,B_,a_r]at hw;generalize hF:a0P n (l.length+2) (loops+1) z=F at*;have HF:=h__ hF;obtain⟨C,hC⟩:∃C:Nat,C=27+loops:=⟨_,rfl⟩
 obtain⟨B,hB⟩:∃B:Nat,B=l.length+2+F.length+3:=⟨_,rfl⟩
 rw[←hC,←hB];have Aq:l.length+2+F.length+3≤100000:=by omega
 have HC:=h__ hC;have HB:=h__ hB;have tC:(27:Int)+(loops:Int)=(C:Int):=by omega
 have tB:((l.length+2+F.length+1:Nat):Int)+2=(B:Int):=by omega
 clear y t u hS hc h1 h2 hP s ih d p hG i hF hC hB hw;go_enter func188,ntmps188;go_upto_region 1 with fail;rw[Ad.out];go_wp2_with fail;refine(a3c b _ l _ _ _ _ _ Ac.out (by omega)).mono ?_;rintro r1 w1 ⟨rfl,J⟩;have r:=h__ J;have d4:=(f.out _ _ r.out 4).trans q4;clear J;go_wp2_with fail;refine(a3c b _ _ _ _ _ _ _ r.out.here (by simp;omega)).mono ?_;rintro r2 w2 ⟨rfl,v⟩;have j:Hid _:=r.out.trans v;obtain⟨Ak,Af,d2⟩:=v.here.form;have V:Hid ((l++ [(⟨1,26,1,0⟩:Ic)]++ [(⟨1,C,c.count,0⟩:Ic)]).length=l.length+2):=by show _=_;simp
 rw[V.out]at d2;have d6:=(f.out _ _ j.out 6).trans q6;clear v;go_wp2_with fail;have I:((loops:Int)+1)=((loops+1:Nat):Int):=by omega
 rw[I];clear I;refine(IH.out b _ _ z (loops+1) P _ _ H1.out (by rw[V.out,HF.out];omega) (by omega) j.out.here (a2V Z.out HP.out (Y.out _ _ j.out)) HP.out G.out).mono ?_;rw[V.out,HF.out];rintro r3 w3 ⟨rfl,L⟩;have A:Hid _:=j.out.trans L;clear L;go_wp2_with fail;refine(a3c b _ _ _ _ _ _ _ A.out.here (by simp;omega)).mono ?_;rintro r4 w4 ⟨rfl,x⟩;have D:Hid _:=A.out.trans x;obtain⟨Al,Ag,d5⟩:=x.here.form;have e4:(l++ [(⟨1,26,1,0⟩:Ic)]++ [(⟨1,C,c.count,0⟩:Ic)]++F++ [(⟨5,C,C,26⟩:Ic)]).length=l.length+2+F.length+1:=by simp;omega
 rw[e4]at d5;clear x e4;go_wp2_with fail;refine(a3c b _ _ _ _ _ _ _ D.out.here (by simp;omega)).mono ?_;rintro r5 w5 ⟨rfl,M⟩;have E:Hid (a0K b (fun k=>S k∧k<w.heap.size) W w5 (l++ [⟨1,26,1,0⟩]++ [⟨1,C,c.count,0⟩]++F++ [⟨5,C,C,26⟩]++ [⟨13,C,B,B⟩])):=by
  have H:=D.out.trans M;rw[show((l.length:Int)+2+F.length+1+2)=(B:Int)by have:=HB.out;omega]at H;exact H
 clear M;go_wp2_with fail;refine(a3c b _ _ _ _ _ _ _ E.out.here (by simp;omega)).mono ?_;rintro r6 w6 ⟨rfl,N⟩;have Aa:Hid (a0K b (fun k=>S k∧k<w.heap.size) W w6 (l++ [⟨1,26,1,0⟩]++ [⟨1,C,c.count,0⟩]++F++ [⟨5,C,C,26⟩]++ [⟨13,C,B,B⟩]++ [⟨12,(l.length+2:Nat),0,0⟩])):=by
  have H:=E.out.trans N;rw[show((l.length:Int)+2)=((l.length+2:Nat):Int)by omega]at H;exact H
 clear N;go_wp2_with fail;go_end0;refine⟨rfl,a0K.pre X.out (a0K.wide (R:=(fun k=>S k∧k<w.heap.size)) ?_ (fun k i=>i.1))⟩;have e9:l++((⟨1,26,1,0⟩:Ic)::⟨1,(C:Int),c.count,0⟩::(F++ [⟨5,C,C,26⟩,⟨13,C,B,B⟩,⟨12,(l.length+2:Nat),0,0⟩]))=l++ [⟨1,26,1,0⟩]++ [⟨1,C,c.count,0⟩]++F++ [⟨5,C,C,26⟩]++ [⟨13,C,B,B⟩]++ [⟨12,(l.length+2:Nat),0,0⟩]:=by simp
 rw[e9];exact Aa.out
theorem c12(n:Nat)(ih:a6I n)(b:Nat)(S:Nat→Prop)(l:List Ic)(q:a0C×List (RT n)×List (RT n))(loops:Nat)(P:Nat→Prop)(ve v1 v2:Value)(w:World)(Y:a1j q.1)(h1:a0v n q.2.1)(h2:a0v n q.2.2)(J:l.length+(a1l (a0P n) l.length loops q).length≤100000)(Ad:loops+n≤99)(V:a22 w b S l)(C:a02 w P ve q.1.parts)(A:a0l n w P v1 q.2.1)(B:a0l n w P v2 q.2.2)(hP:∀k,P k→k<b)(z:∀k,S k→b<k):
  Calls prog 168 #[.pointer (some (a__ b 0)),.agg #[i_ q.1.kind,i_ q.1.place,i_ q.1.name,i_ q.1.label,i_ q.1.count,ve,v1,v2],i_ loops] w fun e w'=>e= .returned (.tuple #[])∧a0K b S w w' (l++a1l (a0P n) l.length loops q):=by
 obtain⟨k0,k4⟩:=Y.kind;have H:Hid (∀w',q.1.kind=3→_):=fun(w':World) F (X:B__ w w')=>c1X n ih b S l q loops P ve v1 v2 w' Y h1 h2 J Ad (V.keep X (a_ _)) (a0U C X) (a0g A X) (a0g B X) hP z F
 have I:Hid (∀w',q.1.kind=4→_):=fun(w':World) F (X:B__ w w')=>c1Z n ih b S l q loops P ve v1 v2 w' Y h1 h2 J Ad (V.keep X (a_ _)) (a0U C X) (a0g A X) (a0g B X) hP z F
 obtain⟨c,l1,l2⟩:=q;simp only at*;have As:=V.lt;have u:=a5T c.parts 35;generalize p:a1l (a0P n) l.length loops (c,l1,l2)=GT at*;unfold a1l at p;simp only at p;obtain⟨ae,ne,ce,Ah⟩:∃aa nn cc,ve= .slice aa nn cc:=by
  rcases Joins.ownsRow_forms C.1 with⟨rfl,_⟩|⟨g,Aq,rfl⟩<;>exact⟨_,_,_,rfl⟩
 subst Ah;obtain⟨a1,n1,c1,Af⟩:=a0h A;obtain⟨a2,n2,c2,Ag⟩:=a0h B;have Ak:v1= .slice a1 n1 c1∧v2= .slice a2 n2 c2:=⟨Af,Ag⟩
 clear Af Ag;obtain⟨rfl,rfl⟩:=Ak;generalize E:w.alloc (.cells #[i_ c.kind,i_ c.place,i_ c.name,i_ c.label,i_ c.count,.slice ae ne ce,.slice a1 n1 c1,.slice a2 n2 c2] 149)=W;have M:=h__ E;have y:B__ w W:=by rw[←E];exact(g_ _ _).alloc (a_ _) _
 have Ar:W.heap.size=w.heap.size+1:=by rw[←E];simp
 have q5:W.cell? (a__ w.heap.size 5)=some (.slice ae ne ce):=by rw[←E];simp[go_sem]
 have q6:W.cell? (a__ w.heap.size 6)=some (.slice a1 n1 c1):=by rw[←E];simp[go_sem]
 have q7:W.cell? (a__ w.heap.size 7)=some (.slice a2 n2 c2):=by rw[←E];simp[go_sem]
 have Ab:Hid (a02 W P (.slice ae ne ce) c.parts):=a0U C y;have Ao:Hid (a0l n W P (.slice a1 n1 c1) l1):=a0g A y;have Ap:Hid (a0l n W P (.slice a2 n2 c2) l2):=a0g B y;have Ac:Hid (a22 W b (fun k=>S k∧k<w.heap.size) l):=V.narrow.keep y (a_ _);have G:Hid (B__ w W):=y;have H1:Hid (a0v n l1):=h1;have H2:Hid (a0v n l2):=h2;have HP:Hid (∀k,P k→k<b):=hP;have T:Hid (∀k,(S k∧k<w.heap.size)→b<k):=fun k F=>z k F.1
 have Am:Hid (∀k,((S k∧k<w.heap.size)∨W.heap.size≤k)→b<k):=fun k F=>by rcases F with F|F;exact z k F.1;omega
 have j:Hid (∀(w':World) (m:List Ic),a0K b (fun k=>S k∧k<w.heap.size) W w' m→∀o,w'.cell? (a__ w.heap.size o)=W.cell? (a__ w.heap.size o)):=fun w' m h o=>e_ (a:=(a__ w.heap.size o)) (h.onto.block w.heap.size (by omega) (by omega) (fun e=>absurd e.2 (a_s _)))
 have IH:Hid (a6I n):=ih;have O:=Y.few;have An:Hid (∀(w':World) (m:List Ic),a0K b (fun k=>S k∧k<w.heap.size) W w' m→Below b W w'):=fun w' m h=>h.onto.below (by omega) T.out
 have q0:W.cell? (a__ w.heap.size 0)=some (i_ c.kind):=by rw[←E];simp[go_sem]
 have q1:W.cell? (a__ w.heap.size 1)=some (i_ c.place):=by rw[←E];simp[go_sem]
 have q2:W.cell? (a__ w.heap.size 2)=some (i_ c.name):=by rw[←E];simp[go_sem]
 have q3:W.cell? (a__ w.heap.size 3)=some (i_ c.label):=by rw[←E];simp[go_sem]
 have q4:W.cell? (a__ w.heap.size 4)=some (i_ c.count):=by rw[←E];simp[go_sem]
 by_cases U:c.kind=0
 ·rw[n_ U]at p;have L:Hid (l++a0F c.parts 35++ [⟨2,c.name,35,0⟩]=l++GT):=by show _=_;rw[←p];simp
  have Ai:l.length+c.parts.length+1≤100000:=by rw[←p]at J;simp[u]at J;omega
  have N:(l++a0F c.parts 35).length≤100000:=by simp[u];omega
  have t0:(c.kind==0)=true:=by simp[U]
  clear C A B V Y h1 h2 hP z ih y E p J H I U u;go_enter func168,ntmps168;go_upto_region 1 with fail;rw[M.out];go_wp2_with (first|(go_at_call 186;refine(a9k b _ l c.parts P _ _ Ac.out (by omega) O Ab.out HP.out T.out).mono ?_;rintro r1 w1 ⟨rfl,D⟩;have r:Hid (a0K b (fun k=>S k∧k<w.heap.size) W w1 (l++a0F c.parts 35)):=D;have k1:=(j.out _ _ r.out 1).trans q1;have k2:=(j.out _ _ r.out 2).trans q2;have k3:=(j.out _ _ r.out 3).trans q3;clear D)|(go_at_call 126;refine(a3c b _ _ _ _ _ _ _ r.out.here N).mono ?_;rintro r2 Z ⟨rfl,s⟩;have t:Hid (a0K b (fun k=>S k∧k<w.heap.size) W Z _):=r.out.trans s;clear s));go_end0;refine⟨rfl,a0K.pre G.out (a0K.wide (R:=(fun k=>S k∧k<w.heap.size)) ?_ (fun k F=>F.1))⟩;rw[←L.out];exact t.out
 have t0:(c.kind==0)=false:=by simpa using U
 rw[f_ U]at p;by_cases e1:c.kind=1
 ·rw[n_ e1]at p;have L:Hid (l++a0F c.parts 35++ [⟨2,c.name,35,0⟩]++ [⟨15,c.place,c.label,35⟩]=l++GT):=by show _=_;rw[←p];simp
  have Ai:l.length+c.parts.length+2≤100000:=by rw[←p]at J;simp[u]at J;omega
  have N:(l++a0F c.parts 35).length≤100000:=by simp[u];omega
  have Al:(l++a0F c.parts 35++ [(⟨2,c.name,35,0⟩:Ic)]).length≤100000:=by simp[u];omega
  have t1:(c.kind==1)=true:=by simp[e1]
  clear C A B V Y h1 h2 hP z ih y E p J H I U e1 u;go_enter func168,ntmps168;go_upto_region 1 with fail;rw[M.out];go_upto_region 8 with(first|(go_at_call 186;refine(a9k b _ l c.parts P _ _ Ac.out (by omega) O Ab.out HP.out T.out).mono ?_;rintro r1 w1 ⟨rfl,D⟩;have r:Hid (a0K b (fun k=>S k∧k<w.heap.size) W w1 (l++a0F c.parts 35)):=D;have k1:=(j.out _ _ r.out 1).trans q1;have k2:=(j.out _ _ r.out 2).trans q2;have k3:=(j.out _ _ r.out 3).trans q3;clear D)|(go_at_call 126;refine(a3c b _ _ _ _ _ _ _ r.out.here N).mono ?_;rintro r2 Z ⟨rfl,s⟩;have t:Hid (a0K b (fun k=>S k∧k<w.heap.size) W Z (l++a0F c.parts 35++ [⟨2,c.name,35,0⟩])):=r.out.trans s;have j1:=(j.out _ _ t.out 1).trans q1;have j3:=(j.out _ _ t.out 3).trans q3;clear s));go_wp2_with (first|(go_at_call 126;refine(a3c b _ _ _ _ _ _ _ t.out.here Al).mono ?_;rintro r3 w3 ⟨rfl,Ae⟩;have Aj:Hid (a0K b (fun k=>S k∧k<w.heap.size) W w3 _):=t.out.trans Ae;clear Ae));go_end0;refine⟨rfl,a0K.pre G.out (a0K.wide (R:=(fun k=>S k∧k<w.heap.size)) ?_ (fun k F=>F.1))⟩;rw[←L.out];exact Aj.out
 have t1:(c.kind==1)=false:=by simpa using e1
 rw[f_ e1]at p;by_cases e2:c.kind=2
 ·rw[n_ e2]at p;have L:Hid (l++a0F c.parts 35++ [⟨14,c.place,c.label,35⟩]=l++GT):=by show _=_;rw[←p];simp
  have Ai:l.length+c.parts.length+1≤100000:=by rw[←p]at J;simp[u]at J;omega
  have N:(l++a0F c.parts 35).length≤100000:=by simp[u];omega
  have t2:(c.kind==2)=true:=by simp[e2]
  clear C A B V Y h1 h2 hP z ih y E p J H I U e1 e2 u;go_enter func168,ntmps168;go_upto_region 1 with fail;rw[M.out];go_wp2_with (first|(go_at_call 186;refine(a9k b _ l c.parts P _ _ Ac.out (by omega) O Ab.out HP.out T.out).mono ?_;rintro r1 w1 ⟨rfl,D⟩;have r:Hid (a0K b (fun k=>S k∧k<w.heap.size) W w1 (l++a0F c.parts 35)):=D;have k1:=(j.out _ _ r.out 1).trans q1;have k2:=(j.out _ _ r.out 2).trans q2;have k3:=(j.out _ _ r.out 3).trans q3;clear D)|(go_at_call 126;refine(a3c b _ _ _ _ _ _ _ r.out.here N).mono ?_;rintro r2 Z ⟨rfl,s⟩;have t:Hid (a0K b (fun k=>S k∧k<w.heap.size) W Z _):=r.out.trans s;clear s));go_end0;refine⟨rfl,a0K.pre G.out (a0K.wide (R:=(fun k=>S k∧k<w.heap.size)) ?_ (fun k F=>F.1))⟩;rw[←L.out];exact t.out
 have t2:(c.kind==2)=false:=by simpa using e2
 by_cases e3:c.kind=3
 ·have t3:(c.kind==3)=true:=by simp[e3]
  have Aa:Hid (Calls prog 187 #[.pointer (some (a__ b 0)),.agg #[i_ c.kind,i_ c.place,i_ c.name,i_ c.label,i_ c.count,.slice ae ne ce,.slice a1 n1 c1,.slice a2 n2 c2],i_ loops] W fun e w'=>e= .returned (.tuple #[])∧a0K b S W w' (l++GT)):=H.out W e3 G.out;clear C A B V Y h1 h2 hP z ih y E p J H I U e1 e2 e3 u;go_enter func168,ntmps168;go_upto_region 1 with fail;rw[M.out];go_wp2_with (first|(go_at_call 187;refine Aa.out.mono ?_;rintro r2 Z ⟨rfl,s⟩;have t:Hid (a0K b S W Z _):=s;clear s));go_end0;exact⟨rfl,a0K.pre G.out t.out⟩
 ·have t3:(c.kind==3)=false:=by simpa using e3
  have e4:c.kind=4:=by omega
  have t4:(c.kind==4)=true:=by simp[e4]
  have Aa:Hid (Calls prog 188 #[.pointer (some (a__ b 0)),.agg #[i_ c.kind,i_ c.place,i_ c.name,i_ c.label,i_ c.count,.slice ae ne ce,.slice a1 n1 c1,.slice a2 n2 c2],i_ loops] W fun e w'=>e= .returned (.tuple #[])∧a0K b S W w' (l++GT)):=I.out W e4 G.out;clear C A B V Y h1 h2 hP z ih y E p J H I U e1 e2 e3 e4 u;go_enter func168,ntmps168;go_upto_region 1 with fail;rw[M.out];go_wp2_with (first|(go_at_call 188;refine Aa.out.mono ?_;rintro r2 Z ⟨rfl,s⟩;have t:Hid (a0K b S W Z _):=s;clear s));go_end0;exact⟨rfl,a0K.pre G.out t.out⟩
theorem b8N:a6I 0:=by
 intro b S l r c P v w n o m f h q j;obtain⟨d,a,rfl⟩:∃d a,v= .slice d 0 a:=by
  rcases Joins.ownsRow_forms h.1 with⟨rfl,_⟩|⟨g,a,rfl⟩<;>exact⟨_,_,rfl⟩
 clear h;have e:l++a0P 0 l.length c r=l:=by simp[a0P]
 rw[e];have i:=h__ f;clear f o n e;go_enter func125,ntmps125;go_wp2_with fail;go_loopw [10] (fun x p=>x=i_ 0∧p=w) (fun _ _=>0);case atStart=>exact⟨rfl,rfl⟩
 case round=>
  obtain⟨rfl,k⟩:=hrel;rw[k];go_wp2_with fail;go_end0;exact⟨rfl,a0K.still i.out (g_ _ _)⟩
theorem c1Y{α:Type}(a:Nat→Nat→List α→List Ic)(p loops:Nat)(q:a0C×List α×List α)(r:List (a0C×List α×List α)):a4C a p loops (q::r)=a1l a p loops q++a4C a (p+(a1l a p loops q).length) loops r:=rfl
theorem b8M(n:Nat)(ih:a6I n)(b:Nat)(S:Nat→Prop)(l:List Ic)(r:List (a0C×List (RT n)×List (RT n)))(loops:Nat)(P:Nat→Prop)(v:Value)(w:World)(hl:r.length≤1000)(N:∀q∈r,a1j q.1∧a0v n q.2.1∧a0v n q.2.2)(hw:l.length+(a4C (a0P n) l.length loops r).length≤100000)(Ap:loops+n≤99)(hS:a22 w b S l)(hv:a63 (fun cs q=>a5I (a0l n w P) w P cs q) w P v r)(hP:∀k,P k→k<b)(H:∀k,S k→b<k):
  Calls prog 125 #[.pointer (some (a__ b 0)),v,i_ loops] w fun e w'=>e= .returned (.tuple #[])∧a0K b S w w' (l++a4C (a0P n) l.length loops r):=by
 obtain⟨ao,o,Am,rfl,f⟩:=b5X hv;have M:=hS.lt;have Ab:=h__ N;have HC:=h__ f;have IH:=h__ ih;have F:Hid _:=a0K.still hS (g_ _ _);have Af:=h__ hw;have C:=h__ hP;have D:=h__ H;generalize hR:l++a4C (a0P n) l.length loops r=R at*;have HR:=h__ hR;clear f N ih hR hv hw hS hP H;go_enter func125,ntmps125;go_wp2_with fail;go_loopw [10] (fun x w'=>∃(k:Nat) (m:List Ic),x=i_ k∧k≤r.length∧Hid (m.length+(a4C (a0P n) m.length loops (r.drop k)).length≤100000)∧Hid (a0K b S w w' m)∧Hid (m++a4C (a0P n) m.length loops (r.drop k)=R)) (fun x _=>r.length-(intOf x).toNat);case atStart=>exact⟨0,l,rfl,by omega,Af,F,HR⟩
 case round=>
  obtain⟨k,m,rfl,hk,Ag,a,HL⟩:=hrel;by_cases u:k<r.length
  ·have tk:decide ((k:Int)<(r.length:Int))=true:=by simp;omega
   obtain⟨e0,Ao,cs,Aq,I⟩:=HC.out k u;obtain⟨Z,X,Y⟩:=Ab.out r[k] (P_ u);have c:=HL.out;have B:=Ag.out;rw[u_ u,c1Y]at c B;have s:Below b w wr:=a.out.onto.below M D.out;generalize hq:r[k]=q at*;obtain⟨ve,v1,v2,J,y,z,A⟩:=Aq;subst J;obtain⟨ae,ne,ce,V⟩:∃aa nn cc,ve= .slice aa nn cc:=by
    rcases Joins.ownsRow_forms y.1 with⟨rfl,_⟩|⟨g,Am,rfl⟩<;>exact⟨_,_,_,rfl⟩
   obtain⟨a1,n1,c1,T⟩:=a0h z;obtain⟨a2,n2,c2,U⟩:=a0h A;have An:ve= .slice ae ne ce∧v1= .slice a1 n1 c1∧v2= .slice a2 n2 c2:=⟨V,T,U⟩
   clear V T U;obtain⟨rfl,rfl,rfl⟩:=An;have L:o<b:=C.out o Ao;have d:∀j,j<8→wr.cell? (a__ o (k*8+j))=(a45 q.1++ [.slice ae ne ce,.slice a1 n1 c1,.slice a2 n2 c2])[j]? :=fun j hj=>(s.cell (p:=(a__ o (k*8+j))) L).trans (I j hj)
   have d0:wr.cell? (a__ o (k*8))=some (i_ q.1.kind):=d 0 (by omega);have d1:wr.cell? (a__ o (k*8+1))=some (i_ q.1.place):=d 1 (by omega);have d2:wr.cell? (a__ o (k*8+2))=some (i_ q.1.name):=d 2 (by omega);have d3:wr.cell? (a__ o (k*8+3))=some (i_ q.1.label):=d 3 (by omega);have d4:wr.cell? (a__ o (k*8+4))=some (i_ q.1.count):=d 4 (by omega);have d5:wr.cell? (a__ o (k*8+5))=some (.slice ae ne ce):=d 5 (by omega);have d6:wr.cell? (a__ o (k*8+6))=some (.slice a1 n1 c1):=d 6 (by omega);have d7:wr.cell? (a__ o (k*8+7))=some (.slice a2 n2 c2):=d 7 (by omega);subst e0;have hz:w.heap.size≤wr.heap.size:=a.out.onto.size;have Ar:b<wr.heap.size:=a.out.here.lt;have Al:=h__ Z;have Aj:=h__ X;have Ak:=h__ Y;have Ac:Hid _:=b1G y C.out s;have Ad:Hid _:=a2V z C.out s;have Ae:Hid _:=a2V A C.out s;have E:Hid (∀i,(S i∨w.heap.size≤i)→b<i):=fun i hi=>by
    rcases hi with hi|hi
    ·exact D.out i hi
    ·omega
   rw[x_]at B;have Aa:Hid ((m++a1l (a0P n) m.length loops q)++a4C (a0P n) (m++a1l (a0P n) m.length loops q).length loops (r.drop (k+1))=R):=by
    show _=_;rw[←c,x_];simp
   have Ai:Hid (m.length+(a1l (a0P n) m.length loops q).length≤100000):=by show _≤_;omega
   have Ah:Hid ((m++a1l (a0P n) m.length loops q).length+(a4C (a0P n) (m++a1l (a0P n) m.length loops q).length loops (r.drop (k+1))).length≤100000):=by
    show _≤_;rw[x_];omega
   clear c B Z X Y y z A I d hq s;go_wp2_with fail;have h:B__ wr (wr.alloc (.cells #[i_ q.1.kind,i_ q.1.place,i_ q.1.name,i_ q.1.label,i_ q.1.count,.slice ae ne ce,.slice a1 n1 c1,.slice a2 n2 c2] 149)):=(g_ _ _).alloc (a_ _) _;refine(c12 n IH.out b _ m q loops P _ _ _ _ Al.out Aj.out Ak.out Ai.out Ap (a.out.here.keep h (a_ _)) (a0U Ac.out h) (a0g Ad.out h) (a0g Ae.out h) C.out E.out).mono ?_;rintro e w1 ⟨rfl,O⟩;have G:Hid _:=a.out.trans (O.pre h);clear O h a d0 d1 d2 d3 d4 d5 d6 d7;go_wp2_with fail;go_roundw;case rel=>exact⟨k+1,_,by go_num,by omega,Ah,G,Aa⟩
   case measure=>simp[intOf];omega
  ·have tk:decide ((k:Int)<(r.length:Int))=false:=by simp;omega
   have t:m=R:=by
    have:=HL.out;rw[C_ (by omega)]at this;simpa[a4C]using this
   have HF:=h__ t;clear t;go_wp2_with fail;go_end0;rw[←HF.out];exact⟨rfl,a.out⟩
theorem b3t:∀n,a6I n
 |0=>b8N
 |n+1=>fun b S l r loops P v w c h f e g d a=>b8M n (b3t n) b S l r loops P v w c.1 c.2 h (by omega) e g d a
theorem b62(h:Hd)(r:List Hd)(k:Nat):a1n (h::r) k=if h.field then⟨11,h.name,k,0⟩::a1n r (k+1)else a1n r k:=rfl
theorem b8K(b:Nat)(S P:Nat→Prop)(l:List Ic)(r:List Hd)(vh:Value)(w:World)(hl:r.length≤1000)(Ac:l.length≤1000)(O:a22 w b S l)(T:a1k w P vh r)(hP:∀k,P k→k<b)(F:∀k,S k→b<k):
  Calls prog 124 #[.pointer (some (a__ b 0)),vh] w fun e w'=>e= .returned (.tuple #[])∧a0K b S w w' (l++a1n r 0):=by
 have H:=O.lt;obtain⟨ao,g,Ab,rfl,Aa,t⟩:=a7b T;have HC:Hid (∀i,∀hi:i<r.length,ao=some (a__ g 0)∧g<b∧w.cell? (a__ g (i*4))=some (.bool r[i].field)∧w.cell? (a__ g (i*4+1))=some (i_ r[i].place)∧w.cell? (a__ g (i*4+2))=some (i_ r[i].name)∧w.cell? (a__ g (i*4+3))=some (i_ r[i].label)):=by
  intro i hi;obtain⟨J,_,c⟩:=t i hi;exact⟨J,hP g (T.2 g (by rw[J];rfl)),c⟩
 have D:Hid (a0K b S w w l):=a0K.still O (g_ _ _);have N:Hid (∀k,S k→b<k):=F;generalize hR:l++a1n r 0=R at*;have HR:Hid (l++a1n (r.drop 0) 0=R):=hR;clear t T O hR F hP;go_enter func124,ntmps124;go_wp2_with fail;go_loopw [4,9] (fun x y w'=>∃(k j:Nat) (m:List Ic),y=i_ k∧x=i_ j∧k≤r.length∧j≤k∧m.length≤l.length+k∧Hid (a0K b S w w' m)∧Hid (m++a1n (r.drop k) j=R)) (fun _ y _=>r.length-(intOf y).toNat);case atStart=>exact⟨0,0,l,rfl,rfl,by omega,by omega,by omega,D,HR⟩
 case round=>
  obtain⟨k,j,m,rfl,rfl,hk,hj,hm,s,U⟩:=hrel;by_cases G:k<r.length
  ·have tk:decide ((k:Int)<(r.length:Int))=true:=by simp;omega
   obtain⟨J,A,V,X,Y,Z⟩:=HC.out k G;have u:Below b w wr:=s.out.onto.below H N.out;rw[←u.cell (p:=(a__ g (k*4))) A]at V;rw[←u.cell (p:=(a__ g (k*4+1))) A]at X;rw[←u.cell (p:=(a__ g (k*4+2))) A]at Y;rw[←u.cell (p:=(a__ g (k*4+3))) A]at Z;have Ad:b<wr.heap.size:=s.out.here.lt;have o:=U.out;rw[u_ G,b62]at o;generalize hp:r[k]=p at*;subst J;obtain⟨fd,pl,L,lb⟩:=p;simp only at V X Y Z o;have z:Hid (B__ wr (wr.alloc (.cells #[.bool fd,i_ pl,i_ L,i_ lb] 146))):=(g_ _ _).alloc (a_ _) _;cases fd
   ·have C:Hid (m++a1n (r.drop (k+1)) j=R):=by show _=_;simpa using o
    have E:Hid (a0K b S w (wr.alloc (.cells #[F__,i_ pl,i_ L,i_ lb] 146)) m):=s.out.trans (a0K.still (s.out.here.keep z.out (a_ _)) z.out);clear o hp u;go_wp2_with fail;go_roundw;case rel=>exact⟨k+1,j,m,by go_num,rfl,by omega,by omega,by omega,E,C⟩
    case measure=>simp[intOf];omega
   ·have C:Hid ((m++ [⟨11,L,j,0⟩])++a1n (r.drop (k+1)) (j+1)=R):=by show _=_;simp only[a_b]at o;rw[←o];simp
    clear o hp u;go_wp2_with (first|(go_at_call 126;refine(a3c b _ m _ _ _ _ _ (s.out.here.keep z.out (a_ _)) (by omega)).mono ?_;rintro r1 w1 ⟨rfl,I⟩;have M:Hid (a0K b S w w1 (m++ [⟨11,L,j,0⟩])):=s.out.trans (I.pre z.out);clear I));go_roundw;case rel=>exact⟨k+1,j+1,_,by go_num,by go_num,by omega,by omega,by simp;omega,M,C⟩
    case measure=>simp[intOf];omega
  ·have tk:decide ((k:Int)<(r.length:Int))=false:=by simp;omega
   have B:m=R:=by
    have:=U.out;rw[C_ (by omega)]at this;simpa[a1n]using this
   have HF:=h__ B;clear B;go_wp2_with fail;go_end0;rw[←HF.out];exact⟨rfl,s.out⟩
def a7q(w:World)(r:Int×List Ic)(x:Ending)(w':World):Prop:=
 (∃a,x= .returned (.tuple #[a,.int .i64 r.1])∧(r.1≠0→a= .slice none 0 0)∧w'.ownsRow w.heap.size 87 4 a r.2.length (a0Q r.2))∧Below w.heap.size w w'
theorem b6P(s:ByteArray)(w:World)(e:Int)(D:s.size≤maxLen)(p:s.size≤400→(a0n s.data.toList).1.bad=false→a31 s.data.toList)(B:(a0s s.data.toList).1=e)(A:e≠0):
  Calls prog 94 #[.string s] w fun x w'=>x= .returned (.tuple #[.slice none 0 0,i_ e])∧B__ w w':=by
 have y:=h__ p;have C:=h__ B;clear p B;have I:(e !=0)=true:=by simpa using A
 go_enter func94,ntmps94;go_upto_region 2 with(first|(go_at_call 26;refine(b0W s _ D y.out).mono ?_;rintro J m ⟨t,rfl,r,o⟩;have j:=h__ r;clear r)|(refine a_k rfl 71 (.tmp 4) (.tmp 7) rfl m.heap.size t.toArray rfl rfl 71 (e30 0 0).toArray (by exact a3y m) (by rw[a1Y,j.out.size]) (by rw[j.out.size];rfl) j.out.one ?_;rw[World.setRow_alloc_new];simp only[Act.put]));have E:=o.size;have l:B__ w (m.alloc (.cells t.toArray 71)):=o.alloc (by omega) _;have F:(m.alloc (.cells t.toArray 71)).cell? (a__ m.heap.size 0)=some (i_ (a0s s.data.toList).1):=by rw[F_ _ _ _ _ _ _ (R_ m _)];simpa using j.out.cell0
 rw[C.out]at F;generalize z:m.heap.size=H at*;generalize m.alloc (.cells t.toArray 71)=G at*;have u:=h__ l;clear l o z;go_wp2_with fail;go_region;all_goals go_wp2_with fail
 all_goals go_ret2
 all_goals exact⟨rfl,u.out.drew⟩
theorem b8F(s:ByteArray)(w:World)(hs:s.size≤maxLen)(h0:(a0s s.data.toList).1=0):
  Calls prog 94 #[.string s] w (a7q w (0,a2e s.data.toList)):=by
 obtain⟨h1,h2,h3,h4,h5⟩:=a5P h0;have Au:s.data.toList.length=s.size:=by simp
 have Ae:=a24 h1 h2;have Ad:=b5i h0;have HT:Hid _:=fun w=>b54 s w hs (fun h hb=>a24 (by omega) hb) h0
 have v:a2e s.data.toList= []++a1n (a0t s.data.toList).2 0++a0P 9 ([]++a1n (a0t s.data.toList).2 0).length 0 (a0n s.data.toList).2++ [⟨0,0,0,0⟩]:=by unfold a2e;simp
 have d:=Ad.short;rw[v]at d⊢;generalize X:a0t s.data.toList=H at*;generalize Aa:a0n s.data.toList=R at*;obtain⟨C,u,c,L⟩:=Ae;rw[X]at C u;rw[Aa]at c L;generalize Y:a13 H.2 R.2=Lb at*;have Z:Lb.length=26:=by rw[←Y];exact(a5m C c).len
 have Am:=h__ c;generalize hG:a0P 9 ([]++a1n H.2 0).length 0 R.2=G at*;have HG:=h__ hG;generalize hF:([]:List Ic)++a1n H.2 0=F at*;have HF:=h__ hF;simp only[x_,B_,a_r]at d;clear h0 h1 h2 h3 h5 C c v X Aa Y hs hG hF Ad;go_enter func94,ntmps94;go_upto_region 2 with(first|(go_at_call 26;refine(HT.out _).mono ?_;rintro x1 i ⟨vh,vr,rfl,A,I,J⟩;obtain⟨ah,nh,ch,Ag⟩:∃aa nn cc,vh= .slice aa nn cc:=(by rcases Joins.ownsRow_forms I.1 with⟨rfl,_⟩|⟨g,At,rfl⟩<;>exact⟨_,_,_,rfl⟩);obtain⟨U,nr,V,Ah⟩:=a0h J;subst Ag;subst Ah)|(refine a_k rfl 71 (.tmp 4) (.tmp 7) rfl i.heap.size (a5X (.slice ah nh ch) (.slice U nr V) Lb).toArray rfl rfl 71 (e30 0 0).toArray (by exact a3y i) (by rw[a1Y,a5Y _ _ _ Z]) (by rw[a5Y _ _ _ Z];rfl) (b2X _ _ _ _ _ _ _) ?_;rw[World.setRow_alloc_new];simp only[Act.put]));have As:=A.size;generalize M:i.alloc (.cells (a5X (.slice ah nh ch) (.slice U nr V) Lb).toArray 71)=f;have q:B__ i f:=by rw[←M];exact(g_ _ _).alloc (a_ _) _
 have An:f.heap.size=i.heap.size+1:=by rw[←M];simp
 have q0:f.cell? (a__ i.heap.size 0)=some (i_ 0):=by rw[←M,F_ _ _ _ _ _ _ (R_ i _)];rfl
 have q2:f.cell? (a__ i.heap.size 2)=some (.slice ah nh ch):=by rw[←M,F_ _ _ _ _ _ _ (R_ i _)];rfl
 have q3:f.cell? (a__ i.heap.size 3)=some (.slice U nr V):=by rw[←M,F_ _ _ _ _ _ _ (R_ i _)];rfl
 have O:Hid _:=a0Y I (fun k a t=>⟨a,q.block k t⟩);have S:Hid _:=a1A (fun k a t=>⟨a,q.block k t⟩) 9 _ _ J;have x:Hid _:=A.trans (q.mono (by omega));generalize Aq:i.heap.size=z at*;have B:z<f.heap.size:=by omega
 clear I J q M A Aq An;go_upto_region 5 with fail;generalize r:f.alloc (.cells #[.slice none 0 0] 199)=n;have e:B__ f n:=by rw[←r];exact(g_ _ _).alloc (a_ _) _
 have Ac:n.heap.size=f.heap.size+1:=by rw[←r];simp
 have Ab:a22 n f.heap.size (fun _=>False) []:=by
  rw[←r];exact⟨⟨.slice none 0 0,by simp[go_sem],E_ ..,fun k a=>by cases a⟩,fun o=>by simp[go_sem]⟩
 have r2:n.cell? (a__ z 2)=some (.slice ah nh ch):=(e.cell (p:=(a__ z 2)) B).trans q2;have r3:n.cell? (a__ z 3)=some (.slice U nr V):=(e.cell (p:=(a__ z 3)) B).trans q3;have Aw:w.heap.size≤f.heap.size:=x.out.size;have Ai:Hid _:=x.out.trans (e.mono (by omega));have P:Hid _:=a0Y O.out (fun k a t=>⟨t,e.block k t⟩);have T:Hid _:=a1A (fun k a t=>⟨t,e.block k t⟩) 9 _ _ S.out;generalize Ap:f.heap.size=b at*;have Ao:b<n.heap.size:=by omega
 have Aj:=h__ Ab;have Al:Hid (∀k,(False∨n.heap.size≤k)→b<k):=fun k a=>by rcases a with a|a;exact a.elim;omega
 have j:Hid (∀(w':World) (m:List Ic),a0K b (fun _=>False) n w' m→Below b n w'):=fun w' m h=>h.onto.below Ao (fun k a=>a.elim)
 clear Ab r e Ac Ap q0 q2 q3 O S x As;go_wp2_with fail;refine(b8K b _ (fun k=>k<b) [] H.2 _ _ u (by simp) Aj.out P.out (fun k a=>a) (fun k a=>a.elim)).mono ?_;rw[HF.out];rintro x1 w4 ⟨rfl,D⟩;have y:=h__ D;have r4:w4.cell? (a__ z 3)=some (.slice U nr V):=((j.out _ _ D).cell (p:=(a__ z 3)) B).trans r3;clear D;go_wp2_with fail;refine(b3t 9 b _ F R.2 0 (fun k=>k<b) _ _ Am.out (by rw[HG.out];omega) (by omega) y.out.here (a2V T.out (fun k a=>a) (j.out _ _ y.out)) (fun k a=>a) Al.out).mono ?_;rw[HG.out];rintro x2 w5 ⟨rfl,Af⟩;have N:Hid _:=y.out.trans Af;clear Af;go_wp2_with fail;refine(a3c b _ _ _ _ _ _ _ N.out.here (by simp;omega)).mono ?_;rintro x3 w6 ⟨rfl,E⟩;have Ak:Hid _:=N.out.trans E;obtain⟨⟨vn,Av,Ar,_⟩,_⟩:=E.here;clear E;go_wp2_with fail;go_ret2;refine⟨⟨vn,rfl,fun hx=>absurd rfl hx,?_⟩,Ai.out.trans ((j.out _ _ Ak.out).mono (by omega))⟩;have l:w6.ownsRow (b+1) 87 4 vn (F++G++ [(⟨0,0,0,0⟩:Ic)]).length (a0Q (F++G++ [⟨0,0,0,0⟩])):=Ar;first
 |exact a4w l (by omega)
 |(rw[a_y]at l;exact a4w l (by omega))
theorem a8r(s:ByteArray)(w:World)(m:s.size≤maxLen):
  Calls prog 61 #[.string s] w (a7q w (a6b s.data.toList)):=by
 have t:s.data.toList.length=s.size:=by simp
 have H:Calls prog 94 #[.string s] w (a7q w (a6b s.data.toList)):=by
  by_cases l:(a0s s.data.toList).1=0
  ·have e:a6b s.data.toList=(0,a2e s.data.toList):=by unfold a6b;rw[f_ (by simpa using l)]
   rw[e];exact b8F s w m l
  ·have e:a6b s.data.toList=((a0s s.data.toList).1,[]):=by unfold a6b;rw[n_ l]
   rw[e];refine(b6P s w _ m (fun h j=>a24 (by omega) j) rfl l).mono ?_;rintro x y ⟨rfl,j⟩;exact⟨⟨_,rfl,fun _=>rfl,E_ ..⟩,j⟩
 generalize a6b s.data.toList=RP at*;have o:Hid (Calls prog 94 #[.string s] w (a7q w RP)):=H;clear H;go_enter func61,ntmps61;go_wp2_with fail;refine o.out.mono ?_;rintro e z ⟨⟨u,rfl,p,r⟩,j⟩;go_wp2_with fail;go_ret2;exact⟨⟨u,rfl,p,r⟩,j⟩
end Go.Proofs.YtdgmoiflahoihaaGreatDoor
