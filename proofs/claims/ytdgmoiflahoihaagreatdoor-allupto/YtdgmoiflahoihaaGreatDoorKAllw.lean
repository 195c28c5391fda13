import Derived.Test.YtdgmoiflahoihaaGreatDoorRRuw
import Derived.Test.YtdgmoiflahoihaaGreatDoorCFloww
import Derived.Deep.MidRow

set_option linter.unusedSimpArgs false
set_option linter.unusedVariables false
set_option maxRecDepth 100000
set_option maxHeartbeats 8000000
namespace Go.Proofs.YtdgmoiflahoihaaGreatDoor
open Go.Proofs.Tryz
open Go.RowKit
theorem b2R(a b:Nat)(w:World)(c:a<16)(d:b<16):
  Calls prog 102 #[i_ a,i_ b] w fun e w'=>e= .returned (.bool (a1I a b))∧w'=w:=by
 have f:=a2u a b (by omega) (by omega);go_enter func102,ntmps102
 go_wp2
 go_ret;exact⟨b70 (by rw[M_];simp[a1I];omega),rfl⟩
def a1D(of:List Nat):List Pt→Nat→Nat
 | [],a=>a
 |p::r,a=>a1D of r (if p.op=2 then a|||of.getD p.num.toNat 0 else a)
theorem a5V(of:List Nat)(p:Pt)(r:List Pt)(a:Nat):a1D of (p::r) a=a1D of r (if p.op=2 then a|||of.getD p.num.toNat 0 else a):=rfl
def a6K(p:Pt):Prop:=p.op=2→0≤p.num∧p.num<26
theorem b3W(l:List Pt):∀(i:Nat) (h:i<l.length),(a4l l)[i*2]? =some (i_ l[i].op)∧(a4l l)[i*2+1]? =some (i_ l[i].num):=by
 induction l with
 |nil=>intro i h;cases h
 |cons p r ih=>
  intro i h;cases i with
  |zero=>simp[a4l,ptV]
  |succ i=>
   have:=ih i (by simpa using h);simp only[a4l,List.flatMap_cons,ptV]at this⊢;rw[show(i+1)*2=i*2+2 by omega,show i*2+2+1=(i*2+1)+2 by omega];simpa using this
theorem a8D{w:World}{P:Nat→Prop}{v:Value}{l:List Pt}(h:a02 w P v l):
  ∃c g a,v= .slice c l.length a∧∀i,∀hi:i<l.length,c=some (a__ g 0)∧g<w.heap.size∧w.cell? (a__ g (i*2))=some (i_ l[i].op)∧w.cell? (a__ g (i*2+1))=some (i_ l[i].num):=by
 obtain⟨b,_⟩:=h;rcases Joins.ownsRow_forms b with⟨rfl,d⟩|⟨g,a,rfl⟩
 ·exact⟨none,0,0,by rw[d],fun i hi=>absurd hi (by omega)⟩
 ·refine⟨some (a__ g 0),g,a,rfl,fun i hi=>⟨rfl,(b.lt g rfl).2,?_,?_⟩⟩
  ·rw[b.cellAt (i*2) (by omega)];exact(b3W l i hi).1
  ·rw[b.cellAt (i*2+1) (by omega)];exact(b3W l i hi).2
theorem a9G(of:List Nat)(l:List Pt)(P:Nat→Prop)(v:Value)(w:World)(D:of.length=26)(m:∀x∈of,x<16)(hl:l.length≤1000)(n:∀p∈l,a6K p)(O:a02 w P v l):
  Calls prog 88 #[v,.agg (a0i of)] w fun e w'=>e= .returned (i_ (a1D of l 0))∧B__ w w':=by
 have Z:(a0i of).size=26:=by simp[a0i,D]
 obtain⟨ao,g,V,rfl,c⟩:=a8D O;clear O;go_enter func88,ntmps88;go_wp2_with fail;have A:a0w (w.alloc (.cells (a0i of) 69)) w.heap.size of:=a0w.new w of;have F:B__ w (w.alloc (.cells (a0i of) 69)):=(g_ _ _).alloc (a_ _) _;have T:=h__ c;have u:=h__ n;have t:=h__ m;clear c n m;go_loopw [5,10] (fun x y w'=>∃(k a:Nat),y=i_ k∧x=i_ a∧k≤l.length∧a<16∧Hid (a0w w' w.heap.size of)∧Hid (B__ w w')∧Hid (a1D of (l.drop k) a=a1D of l 0)) (fun _ y _=>l.length-(intOf y).toNat);case atStart=>exact⟨0,0,rfl,rfl,by omega,by omega,A,F,rfl⟩
 case round=>
  obtain⟨k,a,rfl,rfl,hk,L,r,j,H⟩:=hrel;by_cases h:k<l.length
  ·obtain⟨X,M,I,J⟩:=T.out k h;have G:=u.out l[k] (P_ h);rw[←j.out.cell (p:=(a__ g (k*2))) M]at I;rw[←j.out.cell (p:=(a__ g (k*2+1))) M]at J;have R:w.heap.size<wr.heap.size:=r.out.lt;have b:=H.out;rw[u_ h,a5V]at b;generalize N:l[k]=p at*;obtain⟨S,o⟩:=p;simp only at I J b;have tk:decide ((k:Int)<(l.length:Int))=true:=by simp;omega
   subst X;have s:=h__ b;by_cases z:S=2
   ·subst z;obtain⟨n0,n1⟩:=G rfl;simp only at n0 n1;obtain⟨i,rfl⟩:∃i:Nat,o=i:=⟨o.toNat,by omega⟩
    have B:=r.out.cell i (by omega);have E:of.getD i 0<16:=by
     rw[t_,s_ (by omega)];exact t.out _ (P_ _)
    have f:Hid (a1D of (l.drop (k+1)) (a|||of.getD i 0)=a1D of l 0):=by show _=_;have:=s.out;simpa using this
    generalize of.getD i 0=q at*;have ho:=a2u a q (by omega) (by omega);have C:=a34 L E;have Y:¬w.heap.size=wr.heap.size:=by omega
    clear b s G N;go_wp2_with fail;go_roundw;case rel=>exact⟨k+1,a|||q,by go_num,rfl,by omega,C,r.out.keep (K:=wr.heap.size) ((g_ _ _).alloc (a_ _) _) R,j.out.alloc (by omega) _,f⟩
    case measure=>simp[intOf];omega
   ·have f:Hid (a1D of (l.drop (k+1)) a=a1D of l 0):=by show _=_;have:=s.out;simpa[z]using this
    have t2:(S==2)=false:=by simpa using z
    clear b s G N;go_wp2_with fail;go_roundw;case rel=>exact⟨k+1,a,by go_num,rfl,by omega,L,r.out.keep (K:=wr.heap.size) ((g_ _ _).alloc (a_ _) _) R,j.out.alloc (by omega) _,f⟩
    case measure=>simp[intOf];omega
  ·have tk:decide ((k:Int)<(l.length:Int))=false:=by simp;omega
   have d:a=a1D of l 0:=by
    have:=H.out;rw[C_ (by omega)]at this;exact this
   have U:=h__ d;clear d;go_wp2_with fail;go_ret;exact⟨a0R (by rw[U.out]),j.out⟩
def a3m(of:List Nat)(g:Nat)(c:a0C):Bool:=
 if c.kind=0 then a1I (g|||a1D of c.parts 0) (of.getD c.name.toNat 0)
 else if c.kind=1 then a1I g c.label&&a1I c.label (of.getD c.name.toNat 0)
 else if c.kind=2 then a1I (g|||a1D of c.parts 0) c.label
 else true
structure a1j(c:a0C):Prop where
 name:c.kind=0∨c.kind=1→0≤c.name∧c.name<26
 label:c.label<16
 parts:∀p∈c.parts,a6K p
 few:c.parts.length≤1000
 place:c.place≤400
 count:0≤c.count∧c.count≤9
 once:c.kind=4→1≤c.count
 kind:0≤c.kind∧c.kind≤4
theorem a8J{of:List Nat}(h:∀x∈of,x<16):∀(l:List Pt) (a:Nat),a<16→a1D of l a<16
 | [],a,ha=>ha
 |p::r,a,ha=>by
  rw[a5V];refine a8J h r _ ?_
  split
  ·exact a34 ha (a7B h _)
  ·exact ha
theorem a7z(a b:Nat)(r:Bool)(w:World)(c:a<16)(d:b<16)(f:a1I a b=r):
  Calls prog 102 #[i_ a,i_ b] w fun e w'=>e= .returned (.bool r)∧w'=w:=by
 rw[←f];exact b2R a b w c d
theorem b8Q(of:List Nat)(g:Nat)(c:a0C)(P:Nat→Prop)(G v1 v2:Value)(w:World)(Y:of.length=26)(B:∀x∈of,x<16)(hg:g<16)(hc:a1j c)(hv:a02 w P G c.parts):
  Calls prog 87 #[.agg (a45 c++ [G,v1,v2]).toArray,i_ g,.agg (a0i of)] w fun e w'=>e= .returned (.bool (a3m of g c))∧B__ w w':=by
 have Ad:(a0i of).size=26:=by simp[a0i,Y]
 have M:a0w ((w.alloc (.cells #[i_ c.kind,i_ c.place,i_ c.name,i_ c.label,i_ c.count,G,v1,v2] 149)).alloc (.cells (a0i of) 69)) (w.heap.size+1) of:=by
  have:=a0w.new (w.alloc (.cells #[i_ c.kind,i_ c.place,i_ c.name,i_ c.label,i_ c.count,G,v1,v2] 149)) of;simpa using this
 have hL:=a8J B c.parts 0 (by omega);obtain⟨j,D,m,Aa,Ac,Ab,Af,Ae⟩:=hc;simp only[a45,O_,a_t];generalize F:((w.alloc (.cells #[i_ c.kind,i_ c.place,i_ c.name,i_ c.label,i_ c.count,G,v1,v2] 149)).alloc (.cells (a0i of) 69))=W at M;have HW:=h__ F;have J:B__ w W:=by rw[←F];exact((g_ _ _).alloc (a_ _) _).alloc (by simp) _
 have Ah:W.heap.size=w.heap.size+2:=by rw[←F];simp
 have V:a02 W P G c.parts:=a4x hv (fun k hk hl=>⟨hk,J.block k hl⟩);have q0:W.cell? (a__ w.heap.size 0)=some (i_ c.kind):=by rw[←F];simp[go_sem]
 have q2:W.cell? (a__ w.heap.size 2)=some (i_ c.name):=by rw[←F];simp[go_sem]
 have q3:W.cell? (a__ w.heap.size 3)=some (i_ c.label):=by rw[←F];simp[go_sem]
 have q5:W.cell? (a__ w.heap.size 5)=some G:=by rw[←F];simp[go_sem]
 have H:Hid (a0w W (w.heap.size+1) of):=M;have HP:Hid (∀p∈c.parts,a6K p):=m;clear m F M;generalize hl:a1D of c.parts 0=L at*;have HL:Hid (a1D of c.parts 0=L):=hl;clear hl;have I:Hid (of.length=26):=Y;go_enter func87,ntmps87;go_wp2_with (refine a_l rfl 69 (.tmp 5) rfl (w.heap.size+1) rfl 69 (a0i of) (0,0) _ (by rw[HW.out];exact H.out) underlying69 rfl (by rw[a0V,Ad]) ?_);rw[HW.out];refine(a9G of c.parts P G _ I.out B Aa HP.out V).mono ?_;rw[HL.out];rintro e w1 ⟨rfl,o⟩;have t:w.heap.size<W.heap.size:=by omega
 rw[←o.cell (p:=(a__ w.heap.size 0)) t]at q0;rw[←o.cell (p:=(a__ w.heap.size 2)) t]at q2;rw[←o.cell (p:=(a__ w.heap.size 3)) t]at q3;have E:Hid (a0w w1 (w.heap.size+1) of):=H.out.keep o (by omega);have l:Hid (B__ w w1):=J.trans (o.mono (by omega));have Ai:=a2u g L (by omega) (by omega);have s:=a34 hg hL;clear o H J V q5;generalize U:g|||L=A at*
 have T:Hid (g|||a1D of c.parts 0=A):=by show _=_;rw[HL.out];exact U
 clear U;by_cases u:c.kind=0
 ·obtain⟨n0,n1⟩:=j (.inl u);have r:Hid (a1I A (of.getD c.name.toNat 0)=a3m of g c):=by show _=_;unfold a3m;rw[n_ u,T.out]
  rw[u]at q0;generalize O:c.name=nm at*;obtain⟨y,rfl⟩:∃y:Nat,nm=y:=⟨nm.toNat,by omega⟩
  have N:=E.out.cell y (by rw[I.out];omega);have Z:=a7B B y;simp only[W_]at r;generalize of.getD y 0=q at*;clear j O u;go_wp2_with fail;refine(b2R A q _ s Z).mono ?_;rintro e w2 ⟨rfl,rfl⟩;go_wp2_with fail;go_ret;exact⟨a3d r.out,l.out⟩
 by_cases C:c.kind=1
 ·obtain⟨n0,n1⟩:=j (.inr C);have r:Hid ((a1I g c.label&&a1I c.label (of.getD c.name.toNat 0))=a3m of g c):=by show _=_;unfold a3m;rw[f_ u,n_ C]
  rw[C]at q0;generalize O:c.name=nm at*;obtain⟨y,rfl⟩:∃y:Nat,nm=y:=⟨nm.toNat,by omega⟩
  have N:=E.out.cell y (by rw[I.out];omega);have Z:=a7B B y;simp only[W_]at r;generalize of.getD y 0=q at*;clear j O u C;generalize X:c.label=lb at*;have Ag:Hid (c.label=lb):=X;clear X;cases R:a1I lb q
  ·cases z:a1I g lb
   ·go_wp2_with fail;go_quiet ((go_at_call 102;exact Calls.quiet_of_same (a7z _ _ _ _ (by assumption) (by assumption) (by first|exact z|exact R))));go_wp2_with fail;go_ret;exact⟨a3d (by have:=r.out;rw[z]at this;simpa using this),below_drewN l.out _⟩
   ·go_wp2_with fail;go_quiet ((go_at_call 102;exact Calls.quiet_of_same (a7z _ _ _ _ (by assumption) (by assumption) (by first|exact z|exact R))));go_wp2_with fail;go_ret;exact⟨a3d (by have:=r.out;rw[z,R]at this;simpa using this),below_drewN l.out _⟩
  ·cases z:a1I g lb
   ·go_wp2_with fail;go_quiet ((go_at_call 102;exact Calls.quiet_of_same (a7z _ _ _ _ (by assumption) (by assumption) (by first|exact z|exact R))));go_wp2_with fail;go_ret;exact⟨a3d (by have:=r.out;rw[z]at this;simpa using this),below_drewN l.out _⟩
   ·go_wp2_with fail;go_quiet ((go_at_call 102;exact Calls.quiet_of_same (a7z _ _ _ _ (by assumption) (by assumption) (by first|exact z|exact R))));go_wp2_with fail;go_ret;exact⟨a3d (by have:=r.out;rw[z,R]at this;simpa using this),below_drewN l.out _⟩
 by_cases S:c.kind=2
 ·have r:Hid (a1I A c.label=a3m of g c):=by show _=_;unfold a3m;rw[f_ u,f_ C,n_ S,T.out]
  rw[S]at q0;clear j u C S;go_wp2_with fail;refine(b2R A c.label _ s D).mono ?_;rintro e w2 ⟨rfl,rfl⟩;go_wp2_with fail;go_ret;exact⟨a3d r.out,l.out⟩
 have r:Hid (true=a3m of g c):=by show _=_;unfold a3m;rw[f_ u,f_ C,f_ S]
 have t0:(c.kind==0)=false:=by simpa using u
 have z:(c.kind==1)=false:=by simpa using C
 have R:(c.kind==2)=false:=by simpa using S
 clear j u C S;go_wp2_with fail;go_ret;exact⟨a3d r.out,l.out⟩
def a3U{α:Type}(a:Nat→List α→Option Nat)(of:List Nat)(g:Nat):List (a0C×List α×List α)→Option Nat
 | []=>none
 |q::r=>
  if a3m of g q.1 then
   match a (g|||a1D of q.1.parts 0) q.2.1 with
   |some p=>some p
   |none=>
    match a (g|||a1D of q.1.parts 0) q.2.2 with
    |some p=>some p
    |none=>a3U a of g r
  else some q.1.place
def a28(of:List Nat)(n:Nat):Nat→List (RT n)→Option Nat:=
 match n with
 |0=>fun _ _=>none
 |n+1=>fun g l=>a3U (a28 of n) of g l
def a0v(n:Nat):List (RT n)→Prop:=
 match n with
 |0=>fun _=>True
 |n+1=>fun l=>l.length≤1000∧∀q∈(l:List (a0C×List (RT n)×List (RT n))),a1j q.1∧a0v n q.2.1∧a0v n q.2.2
theorem c5n:∀(xs:List (List Value)),(∀x∈xs,x.length=8)→∀i (h:i<xs.length) j,j<8→xs.flatten[i*8+j]? =xs[i][j]?
 | [],_,i,h,_,_=>by cases h
 |x::r,h8,0,h,j,hj=>by
  have a:=h8 x (by simp);simp only[List.flatten_cons,Nat.zero_mul,a_m,c_];rw[S_ (by omega)]
 |x::r,h8,i+1,h,j,hj=>by
  have a:=h8 x (by simp);simp only[List.flatten_cons,d_];rw[V_ (by omega),show(i+1)*8+j-x.length=i*8+j by omega];exact c5n r (fun y b=>h8 y (by simp[b])) i (by simpa using h) j hj
theorem b0P{n:Nat}{w:World}{P:Nat→Prop}{v:Value}{l:List (a0C×List (RT n)×List (RT n))}(h:a63 (fun cs q=>a5I (a0l n w P) w P cs q) w P v l):
  ∃e g a,v= .slice e l.length a∧∀i,∀hi:i<l.length,e=some (a__ g 0)∧g<w.heap.size∧∃cs,a5I (a0l n w P) w P cs l[i]∧∀j,j<8→w.cell? (a__ g (i*8+j))=cs[j]? :=by
 obtain⟨d,b,r,s,f⟩:=h;have m:∀x∈d,x.length=8:=by
  intro x p;obtain⟨i,hi,rfl⟩:=b_q p;obtain⟨y,t,u,c,_⟩:=f i (by omega) hi;rw[c];rfl
 rcases Joins.ownsRow_forms b with⟨rfl,k⟩|⟨g,a,rfl⟩
 ·exact⟨none,0,0,by rw[k],fun i hi=>absurd hi (by omega)⟩
 ·refine⟨some (a__ g 0),g,a,rfl,fun i hi=>⟨rfl,(b.lt g rfl).2,d[i],f i hi (by omega),fun j o=> ?_⟩⟩;rw[b.cellAt (i*8+j) (by omega),c5n d m i (by omega) j o]
def a7j(o:Option Nat):Value:= .tuple #[.int .i64 ((o.getD 0:Nat):Int),.bool o.isNone]
def a7o(of:List Nat)(n:Nat):Prop:=∀(g:Nat) (l:List (RT n)) (P:Nat→Prop) (v:Value) (w:World),g<16→a0v n l→a0l n w P v l→
 Calls prog 53 #[v,.int .i64 g,.agg (a0i of)] w fun e a=>e= .returned (a7j (a28 of n g l))∧Below w.heap.size w a
theorem all_zero(of:List Nat)(b:of.length=26):a7o of 0:=by
 intro g l P v w k m f;have j:(a0i of).size=26:=by simp[a0i,b]
 have c:B__ w (w.alloc (.cells (a0i of) 69)):=(g_ _ _).alloc (a_ _) _;obtain⟨d,a,rfl⟩:∃d a,v= .slice d 0 a:=by
  rcases Joins.ownsRow_forms f.1 with⟨rfl,_⟩|⟨g,a,rfl⟩<;>exact⟨_,_,rfl⟩
 clear f;show Calls _ _ _ _ fun e h=>e= .returned (.tuple #[i_ 0,T__])∧_
 go_enter func53,ntmps53;go_wp2_with fail;go_loopw [15] (fun x h=>x=i_ 0∧B__ w h) (fun _ _=>0);case atStart=>exact⟨rfl,c⟩
 case round=>
  obtain⟨rfl,i⟩:=hrel;go_wp2_with fail;go_ret2;exact⟨rfl,i⟩
theorem c0y(of:List Nat)(g:Nat)(c:a0C)(P:Nat→Prop)(d f h:Value)(w:World)(b:of.length=26)(a:∀x∈of,x<16)(j:g<16)(i:a1j c)(k:a02 w P d c.parts):
  Calls prog 87 #[.agg #[i_ c.kind,i_ c.place,i_ c.name,i_ c.label,i_ c.count,d,f,h],i_ g,.agg (a0i of)] w fun e w'=>e= .returned (.bool (a3m of g c))∧B__ w w':=
 b8Q of g c P d f h w b a j i k
theorem a0U{w w':World}{P:Nat→Prop}{v:Value}{l:List Pt}(h:a02 w P v l)(a:B__ w w'):a02 w' P v l:=a4x h (fun k b c=>⟨b,a.block k c⟩)
theorem a0g{n:Nat}{w w':World}{P:Nat→Prop}{v:Value}{l:List (RT n)}(h:a0l n w P v l)(a:B__ w w'):a0l n w' P v l:=a1A (fun k b c=>⟨b,a.block k c⟩) n v l h
theorem b3h{α:Type}{a:Nat→List α→Option Nat}{of:List Nat}{g:Nat}{q:a0C×List α×List α}{r:List (a0C×List α×List α)}(h:a3m of g q.1=false):a3U a of g (q::r)=some q.1.place:=by
 unfold a3U;rw[f_ (by rw[h];decide)]
theorem b1h{α:Type}{a:Nat→List α→Option Nat}{of:List Nat}{g p:Nat}{q:a0C×List α×List α}{r:List (a0C×List α×List α)}(h:a3m of g q.1=true)(b:a (g|||a1D of q.1.parts 0) q.2.1=some p):a3U a of g (q::r)=some p:=by
 unfold a3U;rw[n_ h,b]
theorem b02{α:Type}{a:Nat→List α→Option Nat}{of:List Nat}{g p:Nat}{q:a0C×List α×List α}{r:List (a0C×List α×List α)}(h:a3m of g q.1=true)(b:a (g|||a1D of q.1.parts 0) q.2.1=none)(c:a (g|||a1D of q.1.parts 0) q.2.2=some p):a3U a of g (q::r)=some p:=by
 unfold a3U;rw[n_ h,b];simp only;rw[c]
theorem b2e{α:Type}{a:Nat→List α→Option Nat}{of:List Nat}{g:Nat}{q:a0C×List α×List α}{r:List (a0C×List α×List α)}(h:a3m of g q.1=true)(b:a (g|||a1D of q.1.parts 0) q.2.1=none)(c:a (g|||a1D of q.1.parts 0) q.2.2=none):a3U a of g (q::r)=a3U a of g r:=by
 conv=>lhs;unfold a3U
 rw[n_ h,b];simp only;rw[c]
theorem b13{o:Option Nat}{p:Nat}(h:some p=o):Ending.returned (.tuple #[i_ (p:Nat),F__])= .returned (a7j o):=by rw[←h];rfl
theorem c3E(of:List Nat)(Al:of.length=26)(Y:∀x∈of,x<16)(n:Nat)(ih:a7o of n)(g:Nat)(l:List (a0C×List (RT n)×List (RT n)))(P:Nat→Prop)(v:Value)(w:World)(hg:g<16)(hl:l.length≤1000)(Am:∀q∈l,a1j q.1∧a0v n q.2.1∧a0v n q.2.2)
  (hv:a63 (fun cs q=>a5I (a0l n w P) w P cs q) w P v l):
  Calls prog 53 #[v,i_ g,.agg (a0i of)] w fun e w'=>e= .returned (a7j (a3U (a28 of n) of g l))∧B__ w w':=by
 have O:(a0i of).size=26:=by simp[a0i,Al]
 have Az:a0w (w.alloc (.cells (a0i of) 69)) w.heap.size of:=a0w.new w of;have AC:B__ w (w.alloc (.cells (a0i of) 69)):=(g_ _ _).alloc (a_ _) _;obtain⟨ao,D,Ax,rfl,s⟩:=b0P hv;have As:=h__ Am;have HC:=h__ s;have IH:Hid (a7o of n):=ih;have Ae:Hid (of.length=26):=Al;generalize hR:a3U (a28 of n) of g l=R;have HR:Hid (a3U (a28 of n) of g l=R):=hR;clear s Am ih hR hv;go_enter func53,ntmps53;go_wp2_with fail;go_loopw [15] (fun x w'=>∃(k:Nat),x=i_ k∧k≤l.length∧Hid (a0w w' w.heap.size of)∧Hid (B__ w w')∧Hid (a3U (a28 of n) of g (l.drop k)=R)) (fun x _=>l.length-(intOf x).toNat);case atStart=>exact⟨0,rfl,by omega,Az,AC,HR⟩
 case round=>
  obtain⟨k,rfl,hk,HB,HW,HL⟩:=hrel;by_cases Aa:k<l.length
  ·have tk:decide ((k:Int)<(l.length:Int))=true:=by simp;omega
   obtain⟨e0,AA,cs,AB,Aj⟩:=HC.out k Aa;obtain⟨S,Ab,Ac⟩:=As.out l[k] (P_ Aa);have o:=HL.out;rw[u_ Aa]at o;generalize hq:l[k]=q at*;obtain⟨c,l1,l2⟩:=q;obtain⟨ve,v1,v2,Ak,J,M,N⟩:=AB;subst Ak;simp only at J M N S Ab Ac;obtain⟨ae,ne,ce,Ap⟩:∃aa nn cc,ve= .slice aa nn cc:=by
    rcases Joins.ownsRow_forms J.1 with⟨rfl,_⟩|⟨g,Ax,rfl⟩<;>exact⟨_,_,_,rfl⟩
   obtain⟨a1,n1,c1,An⟩:=a0h M;obtain⟨a2,n2,c2,Ao⟩:=a0h N;have Ay:ve= .slice ae ne ce∧v1= .slice a1 n1 c1∧v2= .slice a2 n2 c2:=⟨Ap,An,Ao⟩
   clear Ap An Ao;obtain⟨rfl,rfl,rfl⟩:=Ay;have hz:w.heap.size<wr.heap.size:=HB.out.lt;have AG:¬w.heap.size=wr.heap.size:=by omega
   have d:∀j,j<8→wr.cell? (a__ D (k*8+j))=(a45 c++ [.slice ae ne ce,.slice a1 n1 c1,.slice a2 n2 c2])[j]? :=fun j hj=>(HW.out.cell (p:=(a__ D (k*8+j))) AA).trans (Aj j hj)
   have d0:wr.cell? (a__ D (k*8))=some (i_ c.kind):=d 0 (by omega);have d1:wr.cell? (a__ D (k*8+1))=some (i_ c.place):=d 1 (by omega);have d2:wr.cell? (a__ D (k*8+2))=some (i_ c.name):=d 2 (by omega);have d3:wr.cell? (a__ D (k*8+3))=some (i_ c.label):=d 3 (by omega);have d4:wr.cell? (a__ D (k*8+4))=some (i_ c.count):=d 4 (by omega);have d5:wr.cell? (a__ D (k*8+5))=some (.slice ae ne ce):=d 5 (by omega);have d6:wr.cell? (a__ D (k*8+6))=some (.slice a1 n1 c1):=d 6 (by omega);have d7:wr.cell? (a__ D (k*8+7))=some (.slice a2 n2 c2):=d 7 (by omega);subst e0;have HS:=h__ o;have X:Hid (a1j c):=S;have Av:Hid (a0v n l1):=Ab;have Aw:Hid (a0v n l2):=Ac;have Af:Hid (a02 w P (.slice ae ne ce) c.parts):=J;have At:Hid (a0l n w P (.slice a1 n1 c1) l1):=M;have Au:Hid (a0l n w P (.slice a2 n2 c2) l2):=N;have hL:=a8J Y c.parts 0 (by omega);have AH:=S.place;clear o S Ab Ac J M N Aj d hq;have T:a0w (wr.alloc (.cells #[i_ c.kind,i_ c.place,i_ c.name,i_ c.label,i_ c.count,.slice ae ne ce,.slice a1 n1 c1,.slice a2 n2 c2] 149)) w.heap.size of:=HB.out.keep (K:=wr.heap.size) ((g_ _ _).alloc (a_ _) _) hz;have y:=h__ T;clear T;go_wp2_with (refine a_l rfl 69 (.tmp 5) rfl w.heap.size rfl 69 (a0i of) (0,0) _ y.out underlying69 rfl (by rw[a0V,O]) ?_);refine(c0y of g c P _ _ _ _ Ae.out Y hg X.out (a0U Af.out (HW.out.alloc (by omega) _))).mono ?_;rintro e w1 ⟨rfl,m⟩;have F:Hid (B__ w w1):=(HW.out.alloc (by omega) _).trans (m.mono (by simp;omega));have z:Hid (a0w w1 w.heap.size of):=a0w.keep y.out m (by simp;omega);have q1:w1.cell? (a__ wr.heap.size 1)=some (i_ c.place):=by rw[m.cell (by simp)];simp[go_sem]
   have q5:w1.cell? (a__ wr.heap.size 5)=some (.slice ae ne ce):=by rw[m.cell (by simp)];simp[go_sem]
   have q6:w1.cell? (a__ wr.heap.size 6)=some (.slice a1 n1 c1):=by rw[m.cell (by simp)];simp[go_sem]
   have q7:w1.cell? (a__ wr.heap.size 7)=some (.slice a2 n2 c2):=by rw[m.cell (by simp)];simp[go_sem]
   have Aq:wr.heap.size<w1.heap.size:=by have:=m.size;simp at this;omega
   clear m y HB HW d0 d1 d2 d3 d4 d5 d6 d7;cases I:a3m of g c
   ·have E:Hid (some c.place=R):=by show _=_;have:=HS.out;rw[b3h I]at this;exact this
    go_wp2_with fail;go_ret2;exact⟨b13 E.out,F.out⟩
   ·go_wp2_with (refine a_l rfl 69 (.tmp 5) rfl w.heap.size rfl 69 (a0i of) (0,0) _ z.out underlying69 rfl (by rw[a0V,O]) ?_);refine(a9G of c.parts P _ _ Ae.out Y X.out.few X.out.parts (a0U Af.out F.out)).mono ?_;rintro e w2 ⟨rfl,t⟩;generalize Ai:a1D of c.parts 0=L at*;have Ar:Hid (a1D of c.parts 0=L):=Ai;have AF:=a2u g L (by omega) (by omega);have C:=a34 hg hL;have V:Hid (B__ w w2):=F.out.trans (t.mono (by omega));have B:Hid (a0w w2 w.heap.size of):=z.out.keep t (by omega);rw[←t.cell (p:=(a__ wr.heap.size 6)) Aq]at q6;rw[←t.cell (p:=(a__ wr.heap.size 7)) Aq]at q7;have AD:wr.heap.size<w2.heap.size:=by have:=t.size;omega
    clear t z F q1 q5 Ai;generalize Ah:g|||L=A at*
    have u:Hid (g|||a1D of c.parts 0=A):=by show _=_;rw[Ar.out];exact Ah
    clear Ah;go_wp2_with (refine a_l rfl 69 (.tmp 5) rfl w.heap.size rfl 69 (a0i of) (0,0) _ B.out underlying69 rfl (by rw[a0V,O]) ?_);refine(IH.out A l1 P _ _ C Av.out (a0g At.out V.out)).mono ?_;rintro e w3 ⟨rfl,H⟩;have G:Hid (B__ w w3):=V.out.trans (H.mono (by omega));have r:Hid (a0w w3 w.heap.size of):=B.out.keep H (by omega);rw[←H.cell (p:=(a__ wr.heap.size 7)) AD]at q7;clear H B V q6;cases hx:a28 of n A l1 with
    |some p=>
     have E:Hid (some p=R):=by show _=_;have:=HS.out;rw[b1h I (by rw[u.out];exact hx)]at this;exact this
     simp only[a7j,Option.getD_some,b_y];go_wp2_with fail;go_ret2;exact⟨b13 E.out,G.out⟩
    |none=>
     simp only[a7j,a_8,a_X];go_wp2_with (refine a_l rfl 69 (.tmp 5) rfl w.heap.size rfl 69 (a0i of) (0,0) _ r.out underlying69 rfl (by rw[a0V,O]) ?_);refine(IH.out A l2 P _ _ C Aw.out (a0g Au.out G.out)).mono ?_;rintro e w4 ⟨rfl,Z⟩;have AE:w.heap.size<w3.heap.size:=r.out.lt;have Ag:Hid (B__ w w4):=G.out.trans (Z.mono (by omega));have Ad:Hid (a0w w4 w.heap.size of):=r.out.keep Z AE;clear Z r G q7;cases hy:a28 of n A l2 with
     |some p=>
      have E:Hid (some p=R):=by show _=_;have:=HS.out;rw[b02 I (by rw[u.out];exact hx) (by rw[u.out];exact hy)]at this;exact this
      simp only[a7j,Option.getD_some,b_y];go_wp2_with fail;go_ret2;exact⟨b13 E.out,Ag.out⟩
     |none=>
      have E:Hid (a3U (a28 of n) of g (l.drop (k+1))=R):=by show _=_;have:=HS.out;rw[b2e I (by rw[u.out];exact hx) (by rw[u.out];exact hy)]at this;exact this
      simp only[a7j,a_8,a_X];go_wp2_with fail;go_roundw;case rel=>exact⟨k+1,by go_num,by omega,Ad,Ag,E⟩
      case measure=>simp[intOf];omega
  ·have tk:decide ((k:Int)<(l.length:Int))=false:=by simp;omega
   have U:none=R:=by
    have:=HL.out;rw[C_ (by omega)]at this;exact this
   have E:=h__ U;clear U;go_wp2_with fail;go_ret2;refine⟨?_,HW.out⟩;rw[←E.out];rfl
theorem all_succ(of:List Nat)(b:of.length=26)(a:∀x∈of,x<16)(n:Nat)(f:a7o of n):a7o of (n+1):=
 fun g l P v w d c e=>c3E of b a n f g l P v w d c.1 c.2 e
theorem a8Q(of:List Nat)(a:of.length=26)(b:∀x∈of,x<16):∀n,a7o of n
 |0=>all_zero of a
 |n+1=>all_succ of a b n (a8Q of a b n)
def a1y{α:Type}(a:List α→Nat)(q:a0C×List α×List α):Nat:=
 if q.1.kind=4 then 1+q.1.count.toNat*(1+a q.2.1)else 1+q.1.parts.length+a q.2.1+a q.2.2
def a48{α:Type}(a:List α→Nat):List (a0C×List α×List α)→Nat
 | []=>0
 |q::r=>a1y a q+a48 a r
def a0z(n:Nat):List (RT n)→Nat:=
 match n with
 |0=>fun _=>0
 |n+1=>fun l=>a48 (a0z n) l
def a6T(n:Nat):Prop:=∀(l:List (RT n)) (P:Nat→Prop) (v:Value) (w:World),a0v n l→a0z n l<1099511627776→a0l n w P v l→
 Calls prog 51 #[v] w fun e a=>e= .returned (.int .i64 (a0z n l:Nat))∧Below w.heap.size w a
theorem c3y:a6T 0:=by
 intro l P v w h i c;obtain⟨b,a,rfl⟩:∃b a,v= .slice b 0 a:=by
  rcases Joins.ownsRow_forms c.1 with⟨rfl,_⟩|⟨g,a,rfl⟩<;>exact⟨_,_,rfl⟩
 clear c;show Calls _ _ _ _ fun e d=>e= .returned (i_ 0)∧_
 go_enter func51,ntmps51;go_wp2_with fail;go_loopw [3,8] (fun x y d=>x=i_ 0∧y=i_ 0∧B__ w d) (fun _ _ _=>0);case atStart=>exact⟨rfl,rfl,g_ _ _⟩
 case round=>
  obtain⟨rfl,rfl,f⟩:=hrel;go_wp2_with fail;go_ret;exact⟨rfl,f⟩
theorem b9o(n:Nat)(S:a6T n)(q:a0C×List (RT n)×List (RT n))(P:Nat→Prop)(B A o:Value)(w:World)(G:a1j q.1)(Y:a0v n q.2.1)(Z:a0v n q.2.2)(k:a1y (a0z n) q<1099511627776)
  (L:a02 w P B q.1.parts) (I:a0l n w P A q.2.1) (J:a0l n w P o q.2.2):
  Calls prog 85 #[.agg #[i_ q.1.kind,i_ q.1.place,i_ q.1.name,i_ q.1.label,i_ q.1.count,B,A,o]] w fun e w'=>e= .returned (i_ (a1y (a0z n) q:Nat))∧B__ w w':=by
 obtain⟨c,l,z⟩:=q;simp only at*;have h:B__ w (w.alloc (.cells #[i_ c.kind,i_ c.place,i_ c.name,i_ c.label,i_ c.count,B,A,o] 149)):=(g_ _ _).alloc (a_ _) _;go_enter func85,ntmps85;go_wp2_with fail;have d:w.heap.size<(w.alloc (.cells #[i_ c.kind,i_ c.place,i_ c.name,i_ c.label,i_ c.count,B,A,o] 149)).heap.size:=by simp
 have N:a0z n l<1099511627776:=by
  unfold a1y at k;simp only at k
  split at k
  ·rename_i m;have h5:=G.once m;have h6:1≤c.count.toNat:=by omega
   have h7:1+a0z n l≤c.count.toNat*(1+a0z n l):=Nat.le_mul_of_pos_left _ h6;omega
  ·omega
 generalize t:a0z n l=x at*;have f:=h__ t;clear t;refine(S l P A _ Y (by rw[f.out];exact N) (a0g I h)).mono ?_;rw[f.out];rintro e r ⟨rfl,b⟩;have R:B__ w r:=h.trans (b.mono (by omega));have T:r.cell? (a__ w.heap.size 0)=some (i_ c.kind):=by rw[b.cell d];simp[go_sem]
 have q4:r.cell? (a__ w.heap.size 4)=some (i_ c.count):=by rw[b.cell d];simp[go_sem]
 have q5:r.cell? (a__ w.heap.size 5)=some B:=by rw[b.cell d];simp[go_sem]
 have q7:r.cell? (a__ w.heap.size 7)=some o:=by rw[b.cell d];simp[go_sem]
 have M:w.heap.size<r.heap.size:=by have:=b.size;omega
 have D:=h__ R;obtain⟨c0,c9⟩:=G.count;have Ac:=G.few;clear R b h;by_cases m:c.kind=4
 ·have i:a1y (a0z n) (c,l,z)=1+c.count.toNat*(1+x):=by unfold a1y;rw[n_ m,f.out]
  have C:=h__ i;rw[i]at k;clear i;rw[m]at T;generalize v:c.count=O at*;obtain⟨a,rfl⟩:∃a:Nat,O=a:=⟨O.toNat,by omega⟩
  have U:=h__ v;clear v;simp only[W_]at k C;have E:((a:Int)*(1+(x:Int)))=((a*(1+x):Nat):Int):=by simp[Int.natCast_mul,Int.natCast_add]
  generalize H:a*(1+x)=pr at*;have Ab:(a:Int)*(1+(x:Int))≤1099511627776:=by rw[E];omega
  have Aa:0≤(a:Int)*(1+(x:Int)):=by rw[E];omega
  have V:=h__ E;clear E H k;go_wp2_with fail;go_ret;refine⟨a0R ?_,D.out⟩;rw[C.out,V.out];omega
 ·have i:a1y (a0z n) (c,l,z)=1+c.parts.length+x+a0z n z:=by unfold a1y;rw[f_ m,f.out]
  have C:=h__ i;rw[i]at k;clear i;have t4:(c.kind==4)=false:=by simpa using m
  generalize u:a0z n z=y at*;have s:=h__ u;clear u;obtain⟨ae,g,X,rfl,_⟩:=a8D L;go_wp2_with fail;refine(S z P o _ Z (by rw[s.out];omega) (a0g J D.out)).mono ?_;rw[s.out];rintro e w2 ⟨rfl,j⟩;rw[←j.cell (p:=(a__ w.heap.size 5)) M]at q5;have F:Hid _:=D.out.trans (j.mono (by omega));clear j T q4 q7 D;go_wp2_with fail;go_ret;refine⟨a0R ?_,F.out⟩;rw[C.out];omega
theorem a6p{α:Type}(a:List α→Nat)(q:a0C×List α×List α)(r:List (a0C×List α×List α)):a48 a (q::r)=a1y a q+a48 a r:=rfl
theorem c1i(n:Nat)(ih:a6T n)(l:List (a0C×List (RT n)×List (RT n)))(P:Nat→Prop)(v:Value)(w:World)(hl:l.length≤1000)(C:∀q∈l,a1j q.1∧a0v n q.2.1∧a0v n q.2.2)(hw:a48 (a0z n) l<1099511627776)
  (hv:a63 (fun cs q=>a5I (a0l n w P) w P cs q) w P v l):
  Calls prog 51 #[v] w fun e w'=>e= .returned (i_ (a48 (a0z n) l:Nat))∧B__ w w':=by
 obtain⟨ao,h,Af,rfl,b⟩:=b0P hv;have X:=h__ C;have HC:=h__ b;have IH:=h__ ih;generalize hR:a48 (a0z n) l=R at*;have HR:Hid (0+a48 (a0z n) l=R):=by show _=_;omega
 clear b C ih hR hv;go_enter func51,ntmps51;go_wp2_with fail;go_loopw [3,8] (fun x y w'=>∃(k a:Nat),y=i_ k∧x=i_ a∧k≤l.length∧a<1099511627776∧Hid (B__ w w')∧Hid (a+a48 (a0z n) (l.drop k)=R)) (fun _ y _=>l.length-(intOf y).toNat);case atStart=>exact⟨0,0,rfl,rfl,by omega,by omega,g_ _ _,HR⟩
 case round=>
  obtain⟨k,a,rfl,rfl,hk,ha,u,HL⟩:=hrel;by_cases m:k<l.length
  ·have tk:decide ((k:Int)<(l.length:Int))=true:=by simp;omega
   obtain⟨e0,Ai,cs,Aj,A⟩:=HC.out k m;obtain⟨I,G,H⟩:=X.out l[k] (P_ m);have f:=HL.out;rw[u_ m,a6p]at f;generalize hq:l[k]=q at*;obtain⟨ve,v1,v2,B,o,r,s⟩:=Aj;subst B;obtain⟨M,V,S,F⟩:∃aa nn cc,ve= .slice aa nn cc:=by
    rcases Joins.ownsRow_forms o.1 with⟨rfl,_⟩|⟨g,Af,rfl⟩<;>exact⟨_,_,_,rfl⟩
   obtain⟨J,T,N,D⟩:=a0h r;obtain⟨L,U,O,E⟩:=a0h s;have Ag:ve= .slice M V S∧v1= .slice J T N∧v2= .slice L U O:=⟨F,D,E⟩
   clear F D E;obtain⟨rfl,rfl,rfl⟩:=Ag;have d:∀j,j<8→wr.cell? (a__ h (k*8+j))=(a45 q.1++ [.slice M V S,.slice J T N,.slice L U O])[j]? :=fun j hj=>(u.out.cell (p:=(a__ h (k*8+j))) Ai).trans (A j hj)
   have d0:wr.cell? (a__ h (k*8))=some (i_ q.1.kind):=d 0 (by omega);have d1:wr.cell? (a__ h (k*8+1))=some (i_ q.1.place):=d 1 (by omega);have d2:wr.cell? (a__ h (k*8+2))=some (i_ q.1.name):=d 2 (by omega);have d3:wr.cell? (a__ h (k*8+3))=some (i_ q.1.label):=d 3 (by omega);have d4:wr.cell? (a__ h (k*8+4))=some (i_ q.1.count):=d 4 (by omega);have d5:wr.cell? (a__ h (k*8+5))=some (.slice M V S):=d 5 (by omega);have d6:wr.cell? (a__ h (k*8+6))=some (.slice J T N):=d 6 (by omega);have d7:wr.cell? (a__ h (k*8+7))=some (.slice L U O):=d 7 (by omega);subst e0;have hz:w.heap.size≤wr.heap.size:=u.out.size;have Ae:=h__ I;have Ac:=h__ G;have Ad:=h__ H;have Y:=h__ o;have Z:=h__ r;have Aa:=h__ s;generalize hT:a1y (a0z n) q=t at*;have HT:=h__ hT;have Ah:a+t<1099511627776:=by omega
   have HS:Hid (a+t+a48 (a0z n) (l.drop (k+1))=R):=by show _=_;omega
   clear f I G H o r s A d hq hT;go_wp2_with fail;have c:=u.out.alloc (by omega) (.cells #[i_ q.1.kind,i_ q.1.place,i_ q.1.name,i_ q.1.label,i_ q.1.count,.slice M V S,.slice J T N,.slice L U O] 149);refine(b9o n IH.out q P _ _ _ _ Ae.out Ac.out Ad.out (by rw[HT.out];omega) (a0U Y.out c) (a0g Z.out c) (a0g Aa.out c)).mono ?_;rw[HT.out];rintro e w1 ⟨rfl,z⟩;have Ab:Hid _:=c.trans (z.mono (by simp;omega));clear z c u d0 d1 d2 d3 d4 d5 d6 d7;go_wp2_with fail;go_roundw;case rel=>exact⟨k+1,a+t,by go_num,by go_num,by omega,Ah,Ab,HS⟩
   case measure=>simp[intOf];omega
  ·have tk:decide ((k:Int)<(l.length:Int))=false:=by simp;omega
   have i:a=R:=by
    have:=HL.out;rw[C_ (by omega)]at this;exact this
   have HF:=h__ i;clear i;go_wp2_with fail;go_ret;exact⟨a0R (by rw[HF.out]),u.out⟩
theorem c3x(n:Nat)(d:a6T n):a6T (n+1):=
 fun l P v w a c b=>c1i n d l P v w a.1 a.2 c b
theorem a6G:∀n,a6T n
 |0=>c3y
 |n+1=>c3x n (a6G n)
def a2o(w:World)(a:Option Addr)(g:Nat)(l:List Hd):Prop:=∀i,∀hi:i<l.length,a=some ⟨g,0,none⟩∧g<w.heap.size∧
 w.cell? ⟨g,i*4,none⟩=some (.bool l[i].field)∧w.cell? ⟨g,i*4+1,none⟩=some (.int .i64 l[i].place)∧w.cell? ⟨g,i*4+2,none⟩=some (.int .i64 l[i].name)∧w.cell? ⟨g,i*4+3,none⟩=some (.int .i64 l[i].label)
theorem a8y(l:List Hd):∀(i:Nat) (h:i<l.length),(a3J l)[i*4]? =some (.bool l[i].field)∧(a3J l)[i*4+1]? =some (i_ l[i].place)∧(a3J l)[i*4+2]? =some (i_ l[i].name)∧(a3J l)[i*4+3]? =some (i_ l[i].label):=by
 induction l with
 |nil=>intro i h;cases h
 |cons p r ih=>
  intro i h;cases i with
  |zero=>simp[a3J,hdV]
  |succ i=>
   have:=ih i (by simpa using h);rw[show(i+1)*4=i*4+1+1+1+1 by omega];simpa[a3J,hdV]using this
theorem a7b{w:World}{P:Nat→Prop}{v:Value}{l:List Hd}(h:a1k w P v l):∃d g a,v= .slice d l.length a∧l.length≤a∧a2o w d g l:=by
 obtain⟨c,_⟩:=h;rcases c.2 with⟨rfl,f⟩|⟨g,a,e,rfl,m,n,j,o,k,p⟩
 ·exact⟨none,0,0,by rw[f],by omega,fun i b=>absurd b (by omega)⟩
 ·refine⟨some (a__ g 0),g,a,rfl,j,fun i b=>⟨rfl,(c.lt g rfl).2,?_,?_,?_,?_⟩⟩
  ·rw[c.cellAt (i*4) (by omega)];exact(a8y l i b).1
  ·rw[c.cellAt (i*4+1) (by omega)];exact(a8y l i b).2.1
  ·rw[c.cellAt (i*4+2) (by omega)];exact(a8y l i b).2.2.1
  ·rw[c.cellAt (i*4+3) (by omega)];exact(a8y l i b).2.2.2
theorem a2o.below{w w':World}{c:Option Addr}{g:Nat}{l:List Hd}(h:a2o w c g l)(a:B__ w w'):a2o w' c g l:=by
 intro i m;obtain⟨e,b,d,f,j,k⟩:=h i m;exact⟨e,Q_ b a.size,(a.cell b).trans d,(a.cell b).trans f,(a.cell b).trans j,(a.cell b).trans k⟩
theorem a2o.take{w:World}{a:Option Addr}{g:Nat}{l:List Hd}(h:a2o w a g l)(k:Nat):a2o w a g (l.take k):=by
 intro i b;have:=h i (by simp at b;omega);simpa using this
def a4V(l:List Hd)(a:Int):Bool:=l.any fun h=>decide (h.name=a)
theorem b5n(h:Hd)(r:List Hd)(a:Int):a4V (h::r) a=(decide (h.name=a)||a4V r a):=rfl
theorem b8O(l:List Hd)(n:Option Addr)(g i:Nat)(a:Int)(w:World)(C:l.length≤1000)(o:a2o w n g l):
  Calls prog 84 #[.slice n l.length i,i_ a] w fun e w'=>e= .returned (.bool (a4V l a))∧B__ w w':=by
 have q:=h__ o;clear o;go_enter func84,ntmps84;go_wp2_with fail;go_loopw [9] (fun x w'=>∃(k:Nat),x=i_ k∧k≤l.length∧Hid (B__ w w')∧Hid (a4V (l.drop k) a=a4V l a)) (fun x _=>l.length-(intOf x).toNat);case atStart=>exact⟨0,rfl,by omega,g_ _ _,rfl⟩
 case round=>
  obtain⟨k,rfl,B,d,m⟩:=hrel;by_cases f:k<l.length
  ·have z:decide ((k:Int)<(l.length:Int))=true:=by simp;omega
   obtain⟨v,y,r,s,t,u⟩:=q.out k f;rw[←d.out.cell y]at r s t u;have p:w.heap.size≤wr.heap.size:=d.out.size;have b:=m.out;rw[u_ f,b5n]at b;subst v;generalize l[k]=j at*;by_cases h:j.name=a
   ·have c:Hid (true=a4V l a):=by show _=_;rw[←b,h];simp
    have A:(j.name==a)=true:=by simpa using h
    clear b;go_wp2_with fail;go_ret;exact⟨a3d c.out,d.out.alloc p _⟩
   ·have c:Hid (a4V (l.drop (k+1)) a=a4V l a):=by show _=_;rw[←b];simp[h]
    have A:(j.name==a)=false:=by simpa using h
    clear b;go_wp2_with fail;go_roundw;case rel=>exact⟨k+1,by go_num,by omega,d.out.alloc p _,c⟩
    case measure=>simp[intOf];omega
  ·have z:decide ((k:Int)<(l.length:Int))=false:=by simp;omega
   have c:Hid (false=a4V l a):=by
    show _=_;have:=m.out;rw[C_ (by omega)]at this;exact this
   go_wp2_with fail;go_ret;exact⟨a3d c.out,d.out⟩
theorem b5o(l:List Hd)(c:Option Addr)(g k b:Nat)(a:Int)(r:Bool)(w:World)(d:l.length=k)(f:l.length≤1000)(h:a4V l a=r)(i:a2o w c g l):
  Calls prog 84 #[.slice c k b,i_ a] w fun e w'=>e= .returned (.bool r)∧B__ w w':=by
 subst d h;exact b8O l c g b a w f i
def a1N(a:List Hd):List Hd→Option Nat
 | []=>none
 |h::r=>if a4V a h.name then some h.place else a1N (a++ [h]) r
theorem a6C(a:List Hd)(h:Hd)(r:List Hd):a1N a (h::r)=if a4V a h.name then some h.place else a1N (a++ [h]) r:=rfl
theorem a5K(l:List Hd)(P:Nat→Prop)(v:Value)(w:World)(Z:l.length≤1000)(J:a1k w P v l):
  Calls prog 50 #[v] w fun e w'=>e= .returned (a7j (a1N [] l))∧B__ w w':=by
 obtain⟨N,g,y,rfl,I,j⟩:=a7b J;clear J;have F:=h__ j;clear j;go_enter func50,ntmps50;go_wp2_with fail;go_loopw [8] (fun x w'=>∃(k:Nat),x=i_ k∧k≤l.length∧Hid (B__ w w')∧Hid (a1N (l.take k) (l.drop k)=a1N [] l)) (fun x _=>l.length-(intOf x).toNat);case atStart=>exact⟨0,rfl,by omega,g_ _ _,rfl⟩
 case round=>
  obtain⟨k,rfl,Y,s,G⟩:=hrel;by_cases p:k<l.length
  ·have X:decide ((k:Int)<(l.length:Int))=true:=by simp;omega
   obtain⟨U,V,O,R,S,T⟩:=F.out k p;rw[←s.out.cell V]at O R S T;have L:w.heap.size≤wr.heap.size:=s.out.size;have m:=G.out;rw[u_ p,a6C]at m;have B:l.take k++ [l[k]]=l.take (k+1):=by rw[List.take_succ_eq_append_getElem p]
   rw[B]at m;have j:a2o wr N g (l.take k):=a2o.take (a2o.below F.out s.out) k;have C:(l.take k).length=k:=by simp;omega
   subst U;generalize E:l[k]=z at*;have H:=h__ m;have t:Hid (a2o wr (some (a__ g 0)) g (l.take k)):=j;generalize A:l.take k=r at*;clear m B j E A;cases D:a4V r z.name
   ·have u:Hid (a1N (l.take (k+1)) (l.drop (k+1))=a1N [] l):=by show _=_;rw[←H.out,D];rfl
    go_wp2_with fail;go_region_with (go_at_call 84;refine(b5o r _ g k y z.name false _ C (by omega) D (a2o.below t.out (((g_ _ _).alloc (a_ _) _).drew))).mono ?_;rintro e M ⟨rfl,o⟩);all_goals go_wp2_with fail
    all_goals go_roundw
    all_goals (first|exact⟨k+1,by go_num,by omega,((s.out.alloc L _).drew).trans (o.mono (by simp;omega)),u⟩|(simp[intOf];omega))
   ·have u:Hid (some z.place=a1N [] l):=by show _=_;rw[←H.out,D];rfl
    go_wp2_with fail;go_region_with (go_at_call 84;refine(b5o r _ g k y z.name true _ C (by omega) D (a2o.below t.out (((g_ _ _).alloc (a_ _) _).drew))).mono ?_;rintro e M ⟨rfl,o⟩);all_goals (have q1:M.cell? (a__ wr.heap.size 1)=some (i_ z.place):=by rw[o.cell (by simp)];simp[go_sem])
    all_goals go_wp2_with fail
    all_goals go_ret2
    all_goals exact⟨b13 u.out,((s.out.alloc L _).drew).trans (o.mono (by simp;omega))⟩
  ·have X:decide ((k:Int)<(l.length:Int))=false:=by simp;omega
   have u:Hid (none=a1N [] l):=by
    show _=_;have:=G.out;rw[C_ (by omega)]at this;exact this
   go_wp2_with fail;go_ret2;refine⟨?_,s.out⟩;rw[←u.out];rfl
abbrev LS:=List Nat×Bool
def a7x(fx:List Bool)(st:LS)(k lab:Nat):LS:=
 if fx.getD k false||a1I lab (st.1.getD k 0)then st else(st.1.set k (st.1.getD k 0|||lab),true)
def a5S{α:Type}(a:LS→List α→Nat→LS)(fx:List Bool)(st:LS)(q:a0C×List α×List α)(g:Nat):LS:=
 if q.1.kind=0 then a7x fx st q.1.name.toNat (g|||a1D st.1 q.1.parts 0)
 else if q.1.kind=1 then a7x fx st q.1.name.toNat (g|||q.1.label)
 else if q.1.kind=3∨q.1.kind=4 then a (a st q.2.1 (g|||a1D st.1 q.1.parts 0)) q.2.2 (g|||a1D st.1 q.1.parts 0)
 else st
def a8i{α:Type}(a:LS→List α→Nat→LS)(fx:List Bool):LS→List (a0C×List α×List α)→Nat→LS
 |st,[],_=>st
 |st,q::r,g=>a8i a fx (a5S a fx st q g) r g
def a3A(fx:List Bool)(n:Nat):LS→List (RT n)→Nat→LS:=
 match n with
 |0=>fun a _ _=>a
 |n+1=>fun a l g=>a8i (a3A fx n) fx a l g
structure a2T(of:List Nat):Prop where
 len:of.length=26
 lt:∀x∈of,x<16
theorem a2T.set{of:List Nat}(h:a2T of)(k m:Nat)(b:m<16):a2T (of.set k m):=by
 refine⟨by simp[h.len],fun x c=> ?_⟩;rcases List.mem_or_eq_of_mem_set c with a|rfl
 ·exact h.lt x a
 ·exact b
theorem c7x{a b:Nat}(h:¬a|||b=b):b<b|||a:=by
 have c:b≤b|||a:=Nat.left_le_or
 have d:b≠b|||a:=fun e=>h (by rw[Nat.or_comm];exact e.symm)
 omega
theorem c6q(of:List Nat):∀(k m:Nat),k<of.length→(of.set k m).sum+of.getD k 0=of.sum+m:=by
 induction of with
 |nil=>intro k m h;cases h
 |cons a r ih=>
  intro k m h;cases k with
  |zero=>simp;omega
  |succ k=>
   have:=ih k m (by simpa using h);simp at this⊢;omega
structure a6q(a b:LS):Prop where
 ok:a2T b.1
 le:a.1.sum≤b.1.sum
 more:b.2=true→a.2=true∨a.1.sum<b.1.sum
 same:a.2=false→b.2=false→b.1=a.1
 keep:a.2=true→b.2=true
theorem a6q.refl{a:LS}(h:a2T a.1):a6q a a:=⟨h,a_ _,.inl,fun _ _=>rfl,id⟩
theorem a6q.trans{a b c:LS}(h:a6q a b)(k:a6q b c):a6q a c:=by
 refine⟨k.ok,K_ h.le k.le,fun e=> ?_,fun j f=> ?_,fun e=>k.keep (h.keep e)⟩
 ·rcases k.more e with g|g
  ·rcases h.more g with i|i
   ·exact .inl i
   ·have:=k.le;exact .inr (by omega)
  ·have:=h.le;exact .inr (by omega)
 ·have d:b.2=false:=by
   cases d:b.2 with
   |false=>rfl
   |true=>rw[k.keep d]at f;cases f
  rw[k.same d f,h.same j d]
theorem b47{fx:List Bool}{st:LS}(h:a2T st.1){k lab:Nat}(f:k<26)(g:lab<16):a6q st (a7x fx st k lab):=by
 unfold a7x
 split
 ·exact a6q.refl h
 ·rename_i c;have a:a1I lab (st.1.getD k 0)=false:=by
   cases a:a1I lab (st.1.getD k 0)with
   |false=>rfl
   |true=>rw[a]at c;simp at c
  have b:¬lab|||st.1.getD k 0=st.1.getD k 0:=by simpa[a1I]using a
  have i:=c7x b;have j:=c6q st.1 k (st.1.getD k 0|||lab) (by rw[h.len];exact f);have d:=a7B h.lt k;refine⟨h.set k _ (a34 d g),?_,fun _=> .inr ?_,fun _ e=>(by cases e),fun _=>rfl⟩
  ·simp only;omega
  ·simp only;omega
def a8I{α:Type}(ok:List α→Prop)(a:LS→List α→Nat→LS):Prop:=∀st l g,a2T st.1→ok l→g<16→a6q st (a st l g)
theorem b1l{α:Type}{ok:List α→Prop}{b:LS→List α→Nat→LS}(i:a8I ok b){fx:List Bool}{st:LS}(h:a2T st.1){q:a0C×List α×List α}(e:a1j q.1)(j:ok q.2.1)(k:ok q.2.2){g:Nat}(f:g<16):a6q st (a5S b fx st q g):=by
 have c:=a34 f (a8J h.lt q.1.parts 0 (by omega));unfold a5S
 split
 ·rename_i d;obtain⟨l,m⟩:=e.name (.inl d);exact b47 h (by omega) c
 split
 ·rename_i d;obtain⟨l,m⟩:=e.name (.inr d);exact b47 h (by omega) (a34 f e.label)
 split
 ·have a:=i st q.2.1 _ h j c;exact a.trans (i _ q.2.2 _ a.ok k c)
 ·exact a6q.refl h
theorem b1k{α:Type}{ok:List α→Prop}{d:LS→List α→Nat→LS}(e:a8I ok d){fx:List Bool} :∀(l:List (a0C×List α×List α)) (st:LS) (g:Nat),a2T st.1→(∀q∈l,a1j q.1∧ok q.2.1∧ok q.2.2)→g<16→a6q st (a8i d fx st l g)
 | [],st,g,h,_,_=>a6q.refl h
 |q::r,st,g,h,hq,hg=>by
  obtain⟨a,b,c⟩:=hq q (by simp);have k:=b1l e (fx:=fx) h a b c hg;exact k.trans (b1k e r _ g k.ok (fun x f=>hq x (by simp[f])) hg)
theorem a5h(fx:List Bool):∀n,a8I (a0v n) (a3A fx n)
 |0=>fun st l g h _ _=>a6q.refl h
 |n+1=>fun st l g h b a=>b1k (a5h fx n) l st g h b.2 a
theorem b7G:∀(of:List Nat),(∀x∈of,x<16)→of.sum≤15*of.length
 | [],_=>by simp
 |a::r,h=>by
  have:=b7G r (fun x b=>h x (by simp[b]));have:=h a (by simp);simp;omega
theorem a2T.sum_le{of:List Nat}(h:a2T of):of.sum≤390:=by
 have:=b7G of h.lt;rw[h.len]at this;exact this
def a5F(fx:List Bool)(l:List (RT 9)):Nat→List Nat→List Nat
 |0,of=>of
 |k+1,of=>if(a3A fx 9 (of,false) l 0).2 then a5F fx l k (a3A fx 9 (of,false) l 0).1 else(a3A fx 9 (of,false) l 0).1
def a2I:List Hd→List Nat×List Bool→List Nat×List Bool
 | [],x=>x
 |h::r,x=>a2I r (x.1.set h.name.toNat h.label,x.2.set h.name.toNat true)
def a4D:List Nat×List Bool:=(List.replicate 26 0,List.replicate 26 false)
def a13(a:List Hd)(l:List (RT 9)):List Nat:=a5F (a2I a a4D).2 l 400 (a2I a a4D).1
structure a1q(w:World)(b:Nat)(of:List Nat)(fx:List Bool)(gr:Bool):Prop where
 lab:∀k,k<26→w.cell? ⟨b,k,none⟩=some (.int .i64 (of.getD k 0:Nat))
 fix:∀k,k<26→w.cell? ⟨b,26+k,none⟩=some (.bool (fx.getD k false))
 gro:w.cell? ⟨b,52,none⟩=some (.bool gr)
 fz:∀o,w.frozen? ⟨b,o,none⟩=false
theorem a1q.lt{w:World}{b:Nat}{of:List Nat}{fx:List Bool}{a:Bool}(h:a1q w b of fx a):b<w.heap.size:=r_ w _ h.gro
theorem a1q.range{w:World}{b:Nat}{of:List Nat}{fx:List Bool}{c:Bool}(h:a1q w b of fx c)(f:of.length=26):w.rangeAt b 0 (of.map a23):=by
 intro j v a;rw[List.getElem?_map]at a;cases e:of[j]? with
 |none=>rw[e]at a;cases a
 |some x=>
  rw[e]at a;cases a;have d:j<26:=by have:=(k_.mp e).1;omega
  have:=h.lab j d;rw[t_,e]at this;simpa[a23]using this
theorem a1q.block{w w':World}{b:Nat}{of:List Nat}{fx:List Bool}{e:Bool}(h:a1q w b of fx e)(c:w'.heap[b]? =w.heap[b]?):a1q w' b of fx e:=
 ⟨fun k d=>(e_ (a:=(a__ b k)) c).trans (h.lab k d),fun k d=>(e_ (a:=(a__ b (26+k))) c).trans (h.fix k d),(e_ (a:=(a__ b 52)) c).trans h.gro,fun o=>(I_ (a:=(a__ b o)) c).trans (h.fz o)⟩
theorem a1q.below{w w':World}{b:Nat}{of:List Nat}{fx:List Bool}{a:Bool}(h:a1q w b of fx a)(c:B__ w w'):a1q w' b of fx a:=h.block (c.block b h.lt)
theorem a1q.setGro{w:World}{b:Nat}{of:List Nat}{fx:List Bool}{d:Bool}(h:a1q w b of fx d)(u:Bool):a1q (w.setCell (a__ b 52) (.bool u)) b of fx u:=by
 refine⟨fun k c=> ?_,fun k c=> ?_,?_,fun o=> ?_⟩
 ·rw[a_x _ _ _ _ (by intro e;have a:=a_w Addr.off e;simp only at a;omega)];exact h.lab k c
 ·rw[a_x _ _ _ _ (by intro e;have a:=a_w Addr.off e;simp only at a;omega)];exact h.fix k c
 ·exact World.cell?_setCell_same _ _ _ h.gro
 ·simpa using h.fz o
theorem a1q.setLab{w:World}{b:Nat}{of:List Nat}{fx:List Bool}{f:Bool}(h:a1q w b of fx f)(d:of.length=26)(k m:Nat)(g:k<26):a1q (w.setCell (a__ b k) (i_ (m:Nat))) b (of.set k m) fx f:=by
 refine⟨fun j c=> ?_,fun j c=> ?_,?_,fun o=> ?_⟩
 ·by_cases e:j=k
  ·subst e;rw[World.cell?_setCell_same _ _ _ (h.lab j c)];simp[t_,d,c]
  ·rw[a_x _ _ _ _ (by intro e;have a:=a_w Addr.off e;simp only at a;omega),h.lab j c];simp[t_,List.getElem?_set,Ne.symm e]
 ·rw[a_x _ _ _ _ (by intro e;have a:=a_w Addr.off e;simp only at a;omega)];exact h.fix j c
 ·rw[a_x _ _ _ _ (by intro e;have a:=a_w Addr.off e;simp only at a;omega)];exact h.gro
 ·simpa using h.fz o
theorem a1q.setFix{w:World}{b:Nat}{of:List Nat}{fx:List Bool}{f:Bool}(h:a1q w b of fx f)(d:fx.length=26)(k:Nat)(u:Bool)(g:k<26):a1q (w.setCell (a__ b (26+k)) (.bool u)) b of (fx.set k u) f:=by
 refine⟨fun j c=> ?_,fun j c=> ?_,?_,fun o=> ?_⟩
 ·rw[a_x _ _ _ _ (by intro e;have a:=a_w Addr.off e;simp only at a;omega)];exact h.lab j c
 ·by_cases e:j=k
  ·subst e;rw[World.cell?_setCell_same _ _ _ (h.fix j c)];simp[t_,d,c]
  ·rw[a_x _ _ _ _ (by intro e;have a:=a_w Addr.off e;simp only at a;omega),h.fix j c];simp[t_,List.getElem?_set,Ne.symm e]
 ·rw[a_x _ _ _ _ (by intro e;have a:=a_w Addr.off e;simp only at a;omega)];exact h.gro
 ·simpa using h.fz o
theorem b2j(b k lab:Nat)(of:List Nat)(fx:List Bool)(g:Bool)(w:World)(a:a2T of)(i:k<26)(j:lab<16)(h:a1q w b of fx g):
  Calls prog 165 #[.pointer (some (a__ b 0)),i_ k,i_ lab] w fun e w'=>e= .returned (.tuple #[])∧a1q w' b (a7x fx (of,g) k lab).1 fx (a7x fx (of,g) k lab).2∧But b w w':=by
 have s:=h.lab k i;have t:=h.fix k i;have p:=h.gro;have o:=h.fz;have c:=a7B a.lt k;have d:=h__ h;have f:=h__ a;unfold a7x;simp only;generalize of.getD k 0=q at*;generalize fx.getD k false=m at*;clear h a;cases m
 ·simp only[Bool.false_or];cases l:a1I lab q
  ·simp only[D_,a_g];have r:=a2u q lab (by omega) (by omega);go_enter func165,ntmps165;go_wp2_with fail;refine(a7z lab q false _ j c l).mono ?_;rintro e n ⟨rfl,rfl⟩;go_wp2_with fail;go_region;all_goals go_wp2_with fail
   all_goals go_end0
   all_goals exact⟨rfl,a1q.block ((d.out.setLab f.out.len k (q|||lab) i).setGro true) rfl,(((But.refl _ _).set k _).set 52 _).drewN 1⟩
  ·simp only[a_b];go_enter func165,ntmps165;go_wp2_with fail;refine(a7z lab q true _ j c l).mono ?_;rintro e n ⟨rfl,rfl⟩;go_wp2_with fail;refine m_ (results_none rfl _ _ _) rfl ?_;exact⟨rfl,d.out,But.refl _ _⟩
 ·simp only[Bool.true_or,a_b];go_enter func165,ntmps165;go_wp2_with fail;refine m_ (results_none rfl _ _ _) rfl ?_;exact⟨rfl,d.out,But.refl _ _⟩
def a7s(fx:List Bool)(n:Nat):Prop:=∀(b g:Nat) (of:List Nat) (a:Bool) (l:List (RT n)) (P:Nat→Prop) (v:Value) (w:World),a2T of→a0v n l→g<16→a1q w b of fx a→a0l n w P v l→(∀k,P k→k≠b)→
 Calls prog 86 #[.pointer (some ⟨b,0,none⟩),v,.int .i64 g] w fun e c=>e= .returned (.tuple #[])∧a1q c b (a3A fx n (of,a) l g).1 fx (a3A fx n (of,a) l g).2∧But b w c
theorem b3p(fx:List Bool)(n:Nat)(ih:a7s fx n)(b g:Nat)(of:List Nat)(m:Bool)(q:a0C×List (RT n)×List (RT n))(P:Nat→Prop)(ve v1 v2:Value)(w:World)(B:a2T of)(hc:a1j q.1)(h1:a0v n q.2.1)(h2:a0v n q.2.2)(hg:g<16)(hL:a1q w b of fx m)
  (M:a02 w P ve q.1.parts) (Ae:a0l n w P v1 q.2.1) (Af:a0l n w P v2 q.2.2) (hP:∀k,P k→k≠b):
  Calls prog 121 #[.pointer (some (a__ b 0)),.agg #[i_ q.1.kind,i_ q.1.place,i_ q.1.name,i_ q.1.label,i_ q.1.count,ve,v1,v2],i_ g] w fun e w'=>e= .returned (.tuple #[])∧a1q w' b (a5S (a3A fx n) fx (of,m) q g).1 fx (a5S (a3A fx n) fx (of,m) q g).2∧But b w w':=by
 obtain⟨c,l1,l2⟩:=q;simp only at*;have Az:=hL.lt;have Ar:=hc.label;have Ao:=a8J B.lt c.parts 0 (by omega);obtain⟨ae,ne,ce,Aj⟩:∃aa D cc,ve= .slice aa D cc:=by
  rcases Joins.ownsRow_forms M.1 with⟨rfl,_⟩|⟨g,Ax,rfl⟩<;>exact⟨_,_,_,rfl⟩
 subst Aj;generalize o:w.alloc (.cells #[i_ c.kind,i_ c.place,i_ c.name,i_ c.label,i_ c.count,.slice ae ne ce,v1,v2] 149)=W;have An:=h__ o;have I:a1q W b of fx m:=by rw[←o];exact hL.below ((g_ _ _).alloc (a_ _) _)
 have Z:But b w W:=by rw[←o];exact(But.refl _ _).alloc _
 have y:B__ w W:=by rw[←o];exact(g_ _ _).alloc (a_ _) _
 have Ay:W.heap.size=w.heap.size+1:=by rw[←o];simp
 have q0:W.cell? (a__ w.heap.size 0)=some (i_ c.kind):=by rw[←o];simp[go_sem]
 have q2:W.cell? (a__ w.heap.size 2)=some (i_ c.name):=by rw[←o];simp[go_sem]
 have q3:W.cell? (a__ w.heap.size 3)=some (i_ c.label):=by rw[←o];simp[go_sem]
 have q5:W.cell? (a__ w.heap.size 5)=some (.slice ae ne ce):=by rw[←o];simp[go_sem]
 have q6:W.cell? (a__ w.heap.size 6)=some v1:=by rw[←o];simp[go_sem]
 have q7:W.cell? (a__ w.heap.size 7)=some v2:=by rw[←o];simp[go_sem]
 have Am:Hid _:=a0U M y;have T:Hid _:=a0g Ae y;have U:Hid _:=a0g Af y;have R:=h__ I;have O:=h__ Z;have Ag:=I.range B.len;have j:=h__ B;have HC:=h__ hc;have H1:=h__ h1;have H2:=h__ h2;have HP:=h__ hP;have IH:=h__ ih;have Ai:=underlying69;have Ad:(prog.info? 69).map (fun i=>i.size)=some (of.map a23).length:=by rw[a0V,a_Z,j.out.len]
 have d:w.heap.size<W.heap.size:=by omega
 have Au:b<W.heap.size:=by omega
 generalize H:a5S (a3A fx n) fx (of,m) (c,l1,l2) g=E;have l:=h__ H;generalize Aa:a1D of c.parts 0=L at*;have S:=h__ Aa;clear M Ae Af hL B hc h1 h2 hP ih I Z y o H Aa;go_enter func121,ntmps121;go_upto_region 3 with fail;rw[An.out]
 go_region_held3 (fun w'=>w'.rangeAt b 0 (of.map a23)∧w'.cell? (a__ w.heap.size 5)=some (.slice ae ne ce)) (first|go_keep|exact⟨b3X h Ag,(h.cell (p:=(a__ w.heap.size 5)) d).trans q5⟩) ((go_at_call 88;refine(a9G of c.parts P _ _ j.out.len j.out.lt HC.out.few HC.out.parts (a0U Am.out (g_ _ _).drew)).mono ?_;rintro x1 w5 ⟨rfl,h⟩;rw[S.out]))
 have a:B__ W w5:=⟨h.os,h.tape,h.output,h.size,h.block⟩
 have x:Hid _:=R.out.below a;have u:Hid _:=O.out.trans ⟨a.os,a.tape,a.output,a.size,fun k hk _=>a.block k hk⟩;have F:Hid _:=a0g T.out a;have G:Hid _:=a0g U.out a;rw[←a.cell (p:=(a__ w.heap.size 0)) d]at q0;rw[←a.cell (p:=(a__ w.heap.size 2)) d]at q2;rw[←a.cell (p:=(a__ w.heap.size 3)) d]at q3;rw[←a.cell (p:=(a__ w.heap.size 6)) d]at q6;rw[←a.cell (p:=(a__ w.heap.size 7)) d]at q7;have Aw:w.heap.size<w5.heap.size:=by have:=a.size;omega
 have Ac:=a2u g L (by omega) (by omega);have Av:=a2u g c.label (by omega) (by omega);have f:=a34 hg Ao;have z:=a34 hg Ar;rw[Ac];clear h a R O T U Ag q5 Ai Ad Ac;generalize X:g|||L=A at*
 have N:Hid (g|||a1D of c.parts 0=A):=by show _=_;rw[S.out];exact X
 clear X;by_cases r:c.kind=0
 ·obtain⟨n0,n1⟩:=HC.out.name (.inl r);have v:Hid (a7x fx (of,m) c.name.toNat A=E):=by show _=_;rw[←l.out];unfold a5S;simp only;rw[n_ r,N.out]
  rw[r]at q0;generalize J:c.name=nm at*;obtain⟨D,rfl⟩:∃D:Nat,nm=D:=⟨nm.toNat,by omega⟩
  simp only[W_]at v;clear J r;go_wp2_with fail;refine(b2j b D A of fx m _ j.out (by omega) f x.out).mono ?_;rw[v.out];rintro e w6 ⟨rfl,s,a⟩;go_wp2_with fail;go_end0;exact⟨rfl,s,u.out.trans a⟩
 by_cases t:c.kind=1
 ·obtain⟨n0,n1⟩:=HC.out.name (.inr t);have v:Hid (a7x fx (of,m) c.name.toNat (g|||c.label)=E):=by show _=_;rw[←l.out];unfold a5S;simp only;rw[f_ r,n_ t]
  rw[t]at q0;generalize J:c.name=nm at*;obtain⟨D,rfl⟩:∃D:Nat,nm=D:=⟨nm.toNat,by omega⟩
  simp only[W_]at v;clear J r t;generalize g|||c.label=Y at*
  go_wp2_with fail;refine(b2j b D Y of fx m _ j.out (by omega) z x.out).mono ?_;rw[v.out];rintro e w6 ⟨rfl,s,a⟩;go_wp2_with fail;go_end0;exact⟨rfl,s,u.out.trans a⟩
 by_cases C:c.kind=3∨c.kind=4
 ·have v:Hid (a3A fx n (a3A fx n (of,m) l1 A) l2 A=E):=by show _=_;rw[←l.out];unfold a5S;simp only;rw[f_ r,f_ t,n_ C,N.out]
  have Ab:=a5h fx n (of,m) l1 A j.out H1.out f;generalize Ah:a3A fx n (of,m) l1 A=s1 at*;have Al:=h__ Ah;have Ak:=h__ Ab.ok;have t0:(c.kind==0)=false:=by simpa using r
  have t1:(c.kind==1)=false:=by simpa using t
  obtain⟨a1,n1,c1,As⟩:=a0h F.out;obtain⟨a2,n2,c2,At⟩:=a0h G.out;subst As At;clear Ah Ab r t;rcases C with k3|k3
  all_goals
   rw[k3]at q0;clear k3 t0 t1;go_wp2_with fail;refine(IH.out b A of m l1 P _ _ j.out H1.out f x.out F.out HP.out).mono ?_;rw[Al.out];rintro e w6 ⟨rfl,s,a⟩;have AA:w6.cell? (a__ w.heap.size 7)=some (.slice a2 n2 c2):=a.cell q7 (fun e=>by have:=a_E e;simp only at this;omega);have V:Hid _:=a6l G.out a HP.out;clear q0 q2 q3 q6 q7;go_wp2_with fail;refine(IH.out b A s1.1 s1.2 l2 P _ _ Ak.out H2.out f s V.out HP.out).mono ?_;rw[v.out];rintro e w7 ⟨rfl,Aq,Ap⟩;go_wp2_with fail;go_end0;exact⟨rfl,Aq,(u.out.trans a).trans Ap⟩
 ·have v:Hid ((of,m)=E):=by show _=_;rw[←l.out];unfold a5S;simp only;rw[f_ r,f_ t,f_ C]
  have t0:(c.kind==0)=false:=by simpa using r
  have t1:(c.kind==1)=false:=by simpa using t
  have t3:(c.kind==3)=false:=by simp;omega
  have t4:(c.kind==4)=false:=by simp;omega
  clear r t C;go_wp2_with fail;go_end0;rw[←v.out];exact⟨rfl,x.out,u.out⟩
theorem c36(fx:List Bool):a7s fx 0:=by
 intro b g n i l P v w f m k e d j;obtain⟨c,a,rfl⟩:∃c a,v= .slice c 0 a:=by
  rcases Joins.ownsRow_forms d.1 with⟨rfl,_⟩|⟨g,a,rfl⟩<;>exact⟨_,_,rfl⟩
 clear d;go_enter func86,ntmps86;go_wp2_with fail;go_loopw [10] (fun x h=>x=i_ 0∧h=w) (fun _ _=>0);case atStart=>exact⟨rfl,rfl⟩
 case round=>
  obtain⟨rfl,rfl⟩:=hrel;go_wp2_with fail;go_end0;exact⟨rfl,e,But.refl _ _⟩
theorem c1L{α:Type}(a:LS→List α→Nat→LS)(fx:List Bool)(st:LS)(q:a0C×List α×List α)(r:List (a0C×List α×List α))(g:Nat):a8i a fx st (q::r) g=a8i a fx (a5S a fx st q g) r g:=rfl
theorem c34(fx:List Bool)(n:Nat)(ih:a7s fx n)(b g:Nat)(of:List Nat)(E:Bool)(l:List (a0C×List (RT n)×List (RT n)))(P:Nat→Prop)(v:Value)(w:World)(N:a2T of)(hl:l.length≤1000)(O:∀q∈l,a1j q.1∧a0v n q.2.1∧a0v n q.2.2)(hg:g<16)(hL:a1q w b of fx E)
  (hv:a63 (fun cs q=>a5I (a0l n w P) w P cs q) w P v l) (hP:∀k,P k→k≠b):
  Calls prog 86 #[.pointer (some (a__ b 0)),v,i_ g] w fun e w'=>e= .returned (.tuple #[])∧a1q w' b (a8i (a3A fx n) fx (of,E) l g).1 fx (a8i (a3A fx n) fx (of,E) l g).2∧But b w w':=by
 obtain⟨ao,f,Ao,rfl,c⟩:=b0P hv;have I:∀i,i<l.length→P f:=by
  intro i hi;obtain⟨xs,o1,o2,_⟩:=hv;exact o2 f (by rw[(c i hi).1];rfl)
 have Af:=h__ O;have HC:=h__ c;have IH:=h__ ih;have D:=h__ hP;have Aa:=h__ I;have Au:=hL.lt;generalize hR:a8i (a3A fx n) fx (of,E) l g=R at*;have HR:=h__ hR;have Ab:=h__ hL;have Ae:=h__ N;clear c O ih hR hv hP I hL N;go_enter func86,ntmps86;go_wp2_with fail;go_loopw [10] (fun x w'=>∃(k:Nat) (p:LS),x=i_ k∧k≤l.length∧Hid (a2T p.1)∧Hid (a1q w' b p.1 fx p.2)∧Hid (But b w w')∧Hid (a8i (a3A fx n) fx p (l.drop k) g=R)) (fun x _=>l.length-(intOf x).toNat);case atStart=>exact⟨0,(of,E),rfl,by omega,Ae,Ab,But.refl _ _,HR⟩
 case round=>
  obtain⟨k,p,rfl,hk,HO,HL,t,HS⟩:=hrel;by_cases o:k<l.length
  ·have tk:decide ((k:Int)<(l.length:Int))=true:=by simp;omega
   obtain⟨e0,Aq,cs,Ar,G⟩:=HC.out k o;obtain⟨C,A,B⟩:=Af.out l[k] (P_ o);have J:=D.out f (Aa.out k o);have h:=HS.out;rw[u_ o,c1L]at h;generalize hq:l[k]=q at*;obtain⟨ve,v1,v2,H,u,y,z⟩:=Ar;subst H;obtain⟨Y,ne,ce,U⟩:∃aa nn cc,ve= .slice aa nn cc:=by
    rcases Joins.ownsRow_forms u.1 with⟨rfl,_⟩|⟨g,Ao,rfl⟩<;>exact⟨_,_,_,rfl⟩
   obtain⟨V,n1,Z,S⟩:=a0h y;obtain⟨X,n2,c2,T⟩:=a0h z;have Ap:ve= .slice Y ne ce∧v1= .slice V n1 Z∧v2= .slice X n2 c2:=⟨U,S,T⟩
   clear U S T;obtain⟨rfl,rfl,rfl⟩:=Ap;have s:wr.heap[f]? =w.heap[f]? :=t.out.block f Aq (fun e=>J (a_E e));have d:∀j,j<8→wr.cell? (a__ f (k*8+j))=(a45 q.1++ [.slice Y ne ce,.slice V n1 Z,.slice X n2 c2])[j]? :=fun j hj=>(e_ (a:=(a__ f (k*8+j))) s).trans (G j hj)
   have d0:wr.cell? (a__ f (k*8))=some (i_ q.1.kind):=d 0 (by omega);have d1:wr.cell? (a__ f (k*8+1))=some (i_ q.1.place):=d 1 (by omega);have d2:wr.cell? (a__ f (k*8+2))=some (i_ q.1.name):=d 2 (by omega);have d3:wr.cell? (a__ f (k*8+3))=some (i_ q.1.label):=d 3 (by omega);have d4:wr.cell? (a__ f (k*8+4))=some (i_ q.1.count):=d 4 (by omega);have d5:wr.cell? (a__ f (k*8+5))=some (.slice Y ne ce):=d 5 (by omega);have d6:wr.cell? (a__ f (k*8+6))=some (.slice V n1 Z):=d 6 (by omega);have d7:wr.cell? (a__ f (k*8+7))=some (.slice X n2 c2):=d 7 (by omega);subst e0;have An:=h__ C;have Al:=h__ A;have Am:=h__ B;have Ag:Hid _:=a3r u t.out D.out;have Ah:Hid _:=a6l y t.out D.out;have Ai:Hid _:=a6l z t.out D.out;have L:=b1l (a5h fx n) (fx:=fx) HO.out C A B hg;generalize hT:a5S (a3A fx n) fx p q g=As at*;have HT:=h__ hT;have Ad:=h__ L.ok;have Aj:=h__ h;have At:¬b=wr.heap.size:=by have:=HL.out.lt;omega
   clear h C A B u y z G d hq hT L s;go_wp2_with fail;have m:B__ wr (wr.alloc (.cells #[i_ q.1.kind,i_ q.1.place,i_ q.1.name,i_ q.1.label,i_ q.1.count,.slice Y ne ce,.slice V n1 Z,.slice X n2 c2] 149)):=(g_ _ _).alloc (a_ _) _;refine(b3p fx n IH.out b g p.1 p.2 q P _ _ _ _ HO.out An.out Al.out Am.out hg (HL.out.below m) (a0U Ag.out m) (a0g Ah.out m) (a0g Ai.out m) D.out).mono ?_;rw[HT.out];rintro e w1 ⟨rfl,M,F⟩;have Ak:Hid _:=(t.out.alloc _).trans F;have Ac:=h__ M;clear M F m t d0 d1 d2 d3 d4 d5 d6 d7;go_wp2_with fail;go_roundw;case rel=>exact⟨k+1,As,by go_num,by omega,Ad,Ac,Ak,Aj⟩
   case measure=>simp[intOf];omega
  ·have tk:decide ((k:Int)<(l.length:Int))=false:=by simp;omega
   have r:p=R:=by
    have:=HS.out;rw[C_ (by omega)]at this;exact this
   have HF:=h__ r;clear r;go_wp2_with fail;go_end0;rw[←HF.out];exact⟨rfl,HL.out,t.out⟩
theorem c35(fx:List Bool)(n:Nat)(j:a7s fx n):a7s fx (n+1):=
 fun b g k d l P v w a c h e i f=>c34 fx n j b g k d l P v w a c.1 c.2 h e i f
theorem a91(fx:List Bool):∀n,a7s fx n
 |0=>c36 fx
 |n+1=>c35 fx n (a91 fx n)
def b0d(h:Hd):Prop:=0≤h.name∧h.name<26∧h.label<16∧h.place≤400
def b3I:List Value:=List.replicate 26 (Value.int .i64 0)++(List.replicate 26 (Value.bool false)++ [Value.bool false])
theorem c7p:(#[i_ 0,i_ 0,i_ 0,i_ 0,i_ 0,i_ 0,i_ 0,i_ 0,i_ 0,i_ 0,i_ 0,i_ 0,i_ 0,i_ 0,i_ 0,i_ 0,i_ 0,i_ 0,i_ 0,i_ 0,i_ 0,i_ 0,i_ 0,i_ 0,i_ 0,i_ 0,F__,F__,F__,F__,F__,F__,F__,F__,F__,F__,F__,F__,F__,F__,F__,F__,F__,F__,F__,F__,F__,F__,F__,F__,F__,F__,F__]:Array Value)=b3I.toArray:=by rfl
theorem b0K{α:Type}(v d:α)(n k:Nat)(h:k<n):(List.replicate n v).getD k d=v:=by
 rw[t_,List.getElem?_replicate,n_ h];rfl
theorem b9Q(v:Value)(k n:Nat)(h:k<n)(r:List Value):(List.replicate n v++r)[k]? =some v:=by
 rw[S_ (by simpa using h)];simp[h]
theorem c0D(w:World)(b a:Value):a1q (((w.alloc (.cells #[b,a] 68)).alloc (.cells #[i_ 0,i_ 0,i_ 0,i_ 0,i_ 0,i_ 0,i_ 0,i_ 0,i_ 0,i_ 0,i_ 0,i_ 0,i_ 0,i_ 0,i_ 0,i_ 0,i_ 0,i_ 0,i_ 0,i_ 0,i_ 0,i_ 0,i_ 0,i_ 0,i_ 0,i_ 0] 69)).alloc (.cells #[i_ 0,i_ 0,i_ 0,i_ 0,i_ 0,i_ 0,i_ 0,i_ 0,i_ 0,i_ 0,i_ 0,i_ 0,i_ 0,i_ 0,i_ 0,i_ 0,i_ 0,i_ 0,i_ 0,i_ 0,i_ 0,i_ 0,i_ 0,i_ 0,i_ 0,i_ 0,F__,F__,F__,F__,F__,F__,F__,F__,F__,F__,F__,F__,F__,F__,F__,F__,F__,F__,F__,F__,F__,F__,F__,F__,F__,F__,F__] 153)) (w.heap.size+1+1) a4D.1 a4D.2 false∧a0w (((w.alloc (.cells #[b,a] 68)).alloc (.cells #[i_ 0,i_ 0,i_ 0,i_ 0,i_ 0,i_ 0,i_ 0,i_ 0,i_ 0,i_ 0,i_ 0,i_ 0,i_ 0,i_ 0,i_ 0,i_ 0,i_ 0,i_ 0,i_ 0,i_ 0,i_ 0,i_ 0,i_ 0,i_ 0,i_ 0,i_ 0] 69)).alloc (.cells #[i_ 0,i_ 0,i_ 0,i_ 0,i_ 0,i_ 0,i_ 0,i_ 0,i_ 0,i_ 0,i_ 0,i_ 0,i_ 0,i_ 0,i_ 0,i_ 0,i_ 0,i_ 0,i_ 0,i_ 0,i_ 0,i_ 0,i_ 0,i_ 0,i_ 0,i_ 0,F__,F__,F__,F__,F__,F__,F__,F__,F__,F__,F__,F__,F__,F__,F__,F__,F__,F__,F__,F__,F__,F__,F__,F__,F__,F__,F__] 153)) (w.heap.size+1) a0L∧(((w.alloc (.cells #[b,a] 68)).alloc (.cells #[i_ 0,i_ 0,i_ 0,i_ 0,i_ 0,i_ 0,i_ 0,i_ 0,i_ 0,i_ 0,i_ 0,i_ 0,i_ 0,i_ 0,i_ 0,i_ 0,i_ 0,i_ 0,i_ 0,i_ 0,i_ 0,i_ 0,i_ 0,i_ 0,i_ 0,i_ 0] 69)).alloc (.cells #[i_ 0,i_ 0,i_ 0,i_ 0,i_ 0,i_ 0,i_ 0,i_ 0,i_ 0,i_ 0,i_ 0,i_ 0,i_ 0,i_ 0,i_ 0,i_ 0,i_ 0,i_ 0,i_ 0,i_ 0,i_ 0,i_ 0,i_ 0,i_ 0,i_ 0,i_ 0,F__,F__,F__,F__,F__,F__,F__,F__,F__,F__,F__,F__,F__,F__,F__,F__,F__,F__,F__,F__,F__,F__,F__,F__,F__,F__,F__] 153)).cell? (a__ w.heap.size 0)=some b∧(((w.alloc (.cells #[b,a] 68)).alloc (.cells #[i_ 0,i_ 0,i_ 0,i_ 0,i_ 0,i_ 0,i_ 0,i_ 0,i_ 0,i_ 0,i_ 0,i_ 0,i_ 0,i_ 0,i_ 0,i_ 0,i_ 0,i_ 0,i_ 0,i_ 0,i_ 0,i_ 0,i_ 0,i_ 0,i_ 0,i_ 0] 69)).alloc (.cells #[i_ 0,i_ 0,i_ 0,i_ 0,i_ 0,i_ 0,i_ 0,i_ 0,i_ 0,i_ 0,i_ 0,i_ 0,i_ 0,i_ 0,i_ 0,i_ 0,i_ 0,i_ 0,i_ 0,i_ 0,i_ 0,i_ 0,i_ 0,i_ 0,i_ 0,i_ 0,F__,F__,F__,F__,F__,F__,F__,F__,F__,F__,F__,F__,F__,F__,F__,F__,F__,F__,F__,F__,F__,F__,F__,F__,F__,F__,F__] 153)).cell? (a__ w.heap.size 1)=some a∧B__ w (((w.alloc (.cells #[b,a] 68)).alloc (.cells #[i_ 0,i_ 0,i_ 0,i_ 0,i_ 0,i_ 0,i_ 0,i_ 0,i_ 0,i_ 0,i_ 0,i_ 0,i_ 0,i_ 0,i_ 0,i_ 0,i_ 0,i_ 0,i_ 0,i_ 0,i_ 0,i_ 0,i_ 0,i_ 0,i_ 0,i_ 0] 69)).alloc (.cells #[i_ 0,i_ 0,i_ 0,i_ 0,i_ 0,i_ 0,i_ 0,i_ 0,i_ 0,i_ 0,i_ 0,i_ 0,i_ 0,i_ 0,i_ 0,i_ 0,i_ 0,i_ 0,i_ 0,i_ 0,i_ 0,i_ 0,i_ 0,i_ 0,i_ 0,i_ 0,F__,F__,F__,F__,F__,F__,F__,F__,F__,F__,F__,F__,F__,F__,F__,F__,F__,F__,F__,F__,F__,F__,F__,F__,F__,F__,F__] 153))∧(((w.alloc (.cells #[b,a] 68)).alloc (.cells #[i_ 0,i_ 0,i_ 0,i_ 0,i_ 0,i_ 0,i_ 0,i_ 0,i_ 0,i_ 0,i_ 0,i_ 0,i_ 0,i_ 0,i_ 0,i_ 0,i_ 0,i_ 0,i_ 0,i_ 0,i_ 0,i_ 0,i_ 0,i_ 0,i_ 0,i_ 0] 69)).alloc (.cells #[i_ 0,i_ 0,i_ 0,i_ 0,i_ 0,i_ 0,i_ 0,i_ 0,i_ 0,i_ 0,i_ 0,i_ 0,i_ 0,i_ 0,i_ 0,i_ 0,i_ 0,i_ 0,i_ 0,i_ 0,i_ 0,i_ 0,i_ 0,i_ 0,i_ 0,i_ 0,F__,F__,F__,F__,F__,F__,F__,F__,F__,F__,F__,F__,F__,F__,F__,F__,F__,F__,F__,F__,F__,F__,F__,F__,F__,F__,F__] 153)).heap.size=w.heap.size+1+1+1:=by
 have h:∀(W:World) (t:TypeId) (o:Nat),(W.alloc (.cells #[i_ 0,i_ 0,i_ 0,i_ 0,i_ 0,i_ 0,i_ 0,i_ 0,i_ 0,i_ 0,i_ 0,i_ 0,i_ 0,i_ 0,i_ 0,i_ 0,i_ 0,i_ 0,i_ 0,i_ 0,i_ 0,i_ 0,i_ 0,i_ 0,i_ 0,i_ 0,F__,F__,F__,F__,F__,F__,F__,F__,F__,F__,F__,F__,F__,F__,F__,F__,F__,F__,F__,F__,F__,F__,F__,F__,F__,F__,F__] t)).cell? (a__ W.heap.size o)=b3I[o]? :=by
  intro W t o;rw[c7p,F_ _ _ _ _ _ _ (R_ W _)];simp
 have f:((w.alloc (.cells #[b,a] 68)).alloc (.cells #[i_ 0,i_ 0,i_ 0,i_ 0,i_ 0,i_ 0,i_ 0,i_ 0,i_ 0,i_ 0,i_ 0,i_ 0,i_ 0,i_ 0,i_ 0,i_ 0,i_ 0,i_ 0,i_ 0,i_ 0,i_ 0,i_ 0,i_ 0,i_ 0,i_ 0,i_ 0] 69)).heap.size=w.heap.size+1+1:=by simp
 have c:=h ((w.alloc (.cells #[b,a] 68)).alloc (.cells #[i_ 0,i_ 0,i_ 0,i_ 0,i_ 0,i_ 0,i_ 0,i_ 0,i_ 0,i_ 0,i_ 0,i_ 0,i_ 0,i_ 0,i_ 0,i_ 0,i_ 0,i_ 0,i_ 0,i_ 0,i_ 0,i_ 0,i_ 0,i_ 0,i_ 0,i_ 0] 69)) 153;rw[f]at c;refine⟨⟨fun k d=> ?_,fun k d=> ?_,?_,fun o=> ?_⟩,?_,?_,?_,?_,?_⟩
 ·rw[c k];unfold b3I;rw[b9Q _ _ _ d];have e:a4D.1.getD k 0=0:=b0K 0 0 26 k d;rw[e];rfl
 ·rw[c (26+k)];unfold b3I;rw[V_ (by simp),b_f,show 26+k-26=k by omega,b9Q _ _ _ d];have e:a4D.2.getD k false=false:=b0K false false 26 k d;rw[e]
 ·rw[c 52];rfl
 ·have:=R_ ((w.alloc (.cells #[b,a] 68)).alloc (.cells #[i_ 0,i_ 0,i_ 0,i_ 0,i_ 0,i_ 0,i_ 0,i_ 0,i_ 0,i_ 0,i_ 0,i_ 0,i_ 0,i_ 0,i_ 0,i_ 0,i_ 0,i_ 0,i_ 0,i_ 0,i_ 0,i_ 0,i_ 0,i_ 0,i_ 0,i_ 0] 69)) (.cells #[i_ 0,i_ 0,i_ 0,i_ 0,i_ 0,i_ 0,i_ 0,i_ 0,i_ 0,i_ 0,i_ 0,i_ 0,i_ 0,i_ 0,i_ 0,i_ 0,i_ 0,i_ 0,i_ 0,i_ 0,i_ 0,i_ 0,i_ 0,i_ 0,i_ 0,i_ 0,F__,F__,F__,F__,F__,F__,F__,F__,F__,F__,F__,F__,F__,F__,F__,F__,F__,F__,F__,F__,F__,F__,F__,F__,F__,F__,F__] 153);rw[f]at this;simp only[World.frozen?,this];simp
 ·have:=a5k (w.alloc (.cells #[b,a] 68));have g:=this.keep (K:=w.heap.size+1+1) (w':=((w.alloc (.cells #[b,a] 68)).alloc (.cells #[i_ 0,i_ 0,i_ 0,i_ 0,i_ 0,i_ 0,i_ 0,i_ 0,i_ 0,i_ 0,i_ 0,i_ 0,i_ 0,i_ 0,i_ 0,i_ 0,i_ 0,i_ 0,i_ 0,i_ 0,i_ 0,i_ 0,i_ 0,i_ 0,i_ 0,i_ 0] 69)).alloc (.cells #[i_ 0,i_ 0,i_ 0,i_ 0,i_ 0,i_ 0,i_ 0,i_ 0,i_ 0,i_ 0,i_ 0,i_ 0,i_ 0,i_ 0,i_ 0,i_ 0,i_ 0,i_ 0,i_ 0,i_ 0,i_ 0,i_ 0,i_ 0,i_ 0,i_ 0,i_ 0,F__,F__,F__,F__,F__,F__,F__,F__,F__,F__,F__,F__,F__,F__,F__,F__,F__,F__,F__,F__,F__,F__,F__,F__,F__,F__,F__] 153)) ((g_ _ _).alloc (by simp) _) (by simp<;>omega);simpa using g
 ·rw[T_ _ _ _ (by simp<;>omega),T_ _ _ _ (by simp)];simp[go_sem]
 ·rw[T_ _ _ _ (by simp<;>omega),T_ _ _ _ (by simp)];simp[go_sem]
 ·exact(((g_ _ _).alloc (a_ _) _).alloc (by simp) _).alloc (by simp;omega) _
 ·simp
theorem a8W(h:Hd)(r:List Hd)(x:List Nat×List Bool):a2I (h::r) x=a2I r (x.1.set h.name.toNat h.label,x.2.set h.name.toNat true):=rfl
def b7o(w:World)(b:Nat):Nat:=((List.range 26).map fun k=>(intOf ((w.cell? ⟨b,k,none⟩).getD undef)).toNat).sum
theorem a1q.sum{w:World}{b:Nat}{of:List Nat}{fx:List Bool}{d:Bool}(h:a1q w b of fx d)(a:of.length=26):b7o w b=of.sum:=by
 unfold b7o;have e:(List.range 26).map (fun k=>(intOf ((w.cell? (a__ b k)).getD undef)).toNat)=of:=by
  apply List.ext_getElem
  ·simp[a]
  ·intro i c f;simp at c;rw[List.getElem_map,b_x,h.lab i c];simp[intOf,t_,s_ f]
 rw[e]
def c0w(w:World)(b:Nat):Nat:=match w.cell? ⟨b,52,none⟩with|some (.bool true)=>1|_=>0
theorem a1q.gro1{w:World}{b:Nat}{of:List Nat}{fx:List Bool}{a:Bool}(h:a1q w b of fx a):c0w w b=if a then 1 else 0:=by
 unfold c0w;rw[h.gro];cases a<;>rfl
theorem b1v(u:List Hd)(l:List (RT 9))(P:Nat→Prop)(vh vr:Value)(w:World)(hh:u.length≤1000)(J:∀h∈u,b0d h)(ht:a0v 9 l)(Am:a1k w P vh u)(V:a0l 9 w P vr l):
  Calls prog 52 #[.agg #[vh,vr]] w fun e w'=>e= .returned (.agg (a0i (a13 u l)))∧B__ w w':=by
 obtain⟨ao,gb,Aa,rfl,AH,A⟩:=a7b Am;obtain⟨ar,nr,cr,An⟩:=a0h V;subst An;unfold a13;generalize hH:a2I u a4D=O;have Aq:Hid (a2I u a4D=O):=hH;generalize Ae:a5F O.2 l 400 O.1=R;have At:Hid (a5F O.2 l 400 O.1=R):=Ae;clear hH Ae;go_enter func52,ntmps52;go_wp2_with fail;have AF:=c0D w (.slice ao u.length Aa) (.slice ar nr cr);generalize ((w.alloc (.cells #[.slice ao u.length Aa,.slice ar nr cr] 68)).alloc (.cells #[i_ 0,i_ 0,i_ 0,i_ 0,i_ 0,i_ 0,i_ 0,i_ 0,i_ 0,i_ 0,i_ 0,i_ 0,i_ 0,i_ 0,i_ 0,i_ 0,i_ 0,i_ 0,i_ 0,i_ 0,i_ 0,i_ 0,i_ 0,i_ 0,i_ 0,i_ 0] 69)).alloc (.cells #[i_ 0,i_ 0,i_ 0,i_ 0,i_ 0,i_ 0,i_ 0,i_ 0,i_ 0,i_ 0,i_ 0,i_ 0,i_ 0,i_ 0,i_ 0,i_ 0,i_ 0,i_ 0,i_ 0,i_ 0,i_ 0,i_ 0,i_ 0,i_ 0,i_ 0,i_ 0,F__,F__,F__,F__,F__,F__,F__,F__,F__,F__,F__,F__,F__,F__,F__,F__,F__,F__,F__,F__,F__,F__,F__,F__,F__,F__,F__] 153)=W0 at*;obtain⟨AA,Ao,AN,AG,Af,AM⟩:=AF;have HC:Hid (a2o w ao gb u):=A;have Ar:Hid (∀h∈u,b0d h):=J;have HT:Hid (a0v 9 l):=ht;have HV:Hid (a0l 9 w P (.slice ar nr cr) l):=V;have M:Hid (B__ w W0):=Af;have Ax:Hid (a0w W0 (w.heap.size+1) a0L):=Ao;clear A J ht V Af Ao Am;go_loopw [9] (fun x w'=>∃(k:Nat) (X:List Nat) (z:List Bool),x=i_ k∧k≤u.length∧Hid (a1q w' (w.heap.size+1+1) X z false)∧Hid (a2T X)∧z.length=26∧Hid (Below (w.heap.size+1+1) W0 w')∧Hid (a2I (u.drop k) (X,z)=O)) (fun x _=>u.length-(intOf x).toNat);case atStart=>exact⟨0,a4D.1,a4D.2,rfl,by omega,AA,⟨rfl,by decide⟩,rfl,g_ _ _,Aq⟩
 case round=>
  obtain⟨k,X,z,rfl,hk,y,G,Ah,H,HS⟩:=hrel;have Ac:=y.out.lt;by_cases T:k<u.length
  ·have tk:decide ((k:Int)<(u.length:Int))=true:=by simp;omega
   obtain⟨e0,hg,c0,c1,c2,c3⟩:=HC.out k T;have J:=Ar.out u[k] (P_ T);have Ag:∀o,wr.cell? (a__ gb o)=w.cell? (a__ gb o):=fun o=>(H.out.cell (p:=(a__ gb o)) (by simp only;omega)).trans (M.out.cell (p:=(a__ gb o)) hg)
   rw[←Ag]at c0 c1 c2 c3;have r:=HS.out;rw[u_ T,a8W]at r;subst e0;generalize u[k]=hd at*;obtain⟨AB,AC,Aj,AL⟩:=J;obtain⟨I,AD⟩:∃I:Nat,hd.name=I:=⟨hd.name.toNat,by omega⟩
   rw[AD]at c2 r AB AC;simp only[W_]at r;have Au:=h__ r;have t:I<26:=by omega
   have q1:=y.out.lab I t;have q2:=y.out.fix I t;have qf:=y.out.fz;have AK:¬w.heap.size+1+1=wr.heap.size:=by omega
   clear r Ag;go_wp2_with fail;go_roundw;case rel=>
    exact⟨k+1,X.set I hd.label,z.set I true,by go_num,by omega,((y.out.setLab G.out.len I hd.label t).setFix Ah I true t).below ((g_ _ _).alloc (a_ _) _),G.out.set I _ Aj,by simpa using Ah,((H.out.setCell (a_ _) _).setCell (a_ _) _).alloc (by simp;omega) _,Au⟩
   case measure=>simp[intOf];omega
  ·have tk:decide ((k:Int)<(u.length:Int))=false:=by simp;omega
   have s:(X,z)=O:=by
    have:=HS.out;rw[C_ (by omega)]at this;exact this
   have HF:=h__ s;have qg:=y.out.gro;have qf:=y.out.fz;clear s;go_wp2_with fail;have Ay:=HF.out;subst Ay;have AI:=G.out.sum_le;go_loopw [] (fun w'=>∃(j:Nat) (m:List Nat) (gr:Bool),Hid (a1q w' (w.heap.size+1+1) m z gr)∧Hid (a2T m)∧Hid (Below (w.heap.size+1+1) W0 w')∧Hid ((gr=true→390-m.sum<j∧a5F z l j m=R)∧(gr=false→m=R))) (fun w'=>2*(391-b7o w' (w.heap.size+1+1))+c0w w' (w.heap.size+1+1));case atStart=>exact⟨400,X,true,y.out.setGro true,G,H.out.setCell (a_ _) _,⟨fun _=>⟨by omega,At.out⟩,fun e=>(by cases e)⟩⟩
   case round=>
    clear y H HF Ac qg qf G;obtain⟨j,m,gr,y,G,H,HQ⟩:=hrel;have qg:=y.out.gro;have qf:=y.out.fz;have Ac:=y.out.lt;have B:=G.out.len;have AE:=y.out.sum B;have Az:=y.out.gro1;have AJ:wr.cell? (a__ w.heap.size 1)=some (.slice ar nr cr):=(H.out.cell (p:=(a__ w.heap.size 1)) (by simp only;omega)).trans AG;cases gr
    ·have s:m=R:=HQ.out.2 rfl;subst s;have Ak:=y.out.range B;have Ap:a0w wr (w.heap.size+1) a0L:=Ax.out.keep H.out (by omega);have U:(a0i m).size=26:=by simp[a0i,B]
     have Al:(a0i a0L).size=26:=by rfl
     have Z:=h__ Ap;have As:Hid (wr.rangeAt (w.heap.size+1+1) 0 (m.map a23)):=Ak;clear Ak Ap;go_upto_region 12 with fail;go_wp2_with (first|(refine wpList_load_mid rfl 69 (.tmp 31) rfl (w.heap.size+1+1) 0 rfl (m.map a23) _ As.out underlying69 rfl (by rw[a0V,a_Z,B]) ?_)|(refine a_k rfl 69 (.tmp 2) (.tmp 32) rfl (w.heap.size+1) (a0i m) rfl rfl 69 (a0i a0L) Z.out (by rw[a0V,U]) (by rw[U,Al]) (a6a m) ?_));have s:=a0w.setRow m Z.out;exact m_ (v:= .agg (a0i m)) (a_O rfl _ _ (w.heap.size+1) 69 (a0i m) (0,0) _ rfl s underlying69 rfl (by rw[a0V,U])) rfl ⟨rfl,below_setRow (M.out.trans (H.out.mono (by omega))) (by omega)⟩
    ·obtain⟨hj,F⟩:=HQ.out.1 rfl;obtain⟨j',rfl⟩:∃j',j=j'+1:=⟨j-1,by omega⟩
     have E:=a5h z 9 (m,false) l 0 G.out HT.out (by omega);have C:(if(a3A z 9 (m,false) l 0).2 then a5F z l j' (a3A z 9 (m,false) l 0).1 else(a3A z 9 (m,false) l 0).1)=R:=F;clear F;generalize L:a3A z 9 (m,false) l 0=st at*;have Av:Hid (a3A z 9 (m,false) l 0=st):=L;have N:=h__ E;have Y:=h__ C;clear L E C;go_wp2_with fail;have Ad:=y.out.setGro false;have Ab:B__ w (wr.setCell ⟨w.heap.size+1+1,52,none⟩ F__):=M.out.trans ((H.out.setCell (a_ _) _).mono (by omega));refine(a91 z 9 (w.heap.size+1+1) 0 m false l (fun k=>k<w.heap.size) _ _ G.out HT.out (by omega) Ad (a1A (fun k hk hl=>⟨hl,Ab.block k hl⟩) 9 _ _ HV.out) (fun k hk=>by omega)).mono ?_;rw[Av.out];rintro e w2 ⟨rfl,Ai,D⟩;have S:=h__ Ai;have Aw:Hid (Below (w.heap.size+1+1) W0 w2):=(H.out.setCell (a_ _) _).trans ⟨D.os,D.tape,D.output,D.size,fun k hk=>D.block k (by simp;omega) (fun e=>by have:=a_E e;omega)⟩;clear Ai D Ad Ab;go_wp2_with fail;go_roundw;case rel=>
      refine⟨j',st.1,st.2,S,N.out.ok,Aw,⟨fun e=> ?_,fun e=> ?_⟩⟩
      ·have h1:=Y.out;rw[n_ e]at h1;refine⟨?_,h1⟩;have h2:=N.out.more e;have h3:=G.out.sum_le;have h9:=N.out.ok.sum_le;simp at h2;omega
      ·have h1:=Y.out;rw[f_ (by rw[e];decide)]at h1;exact h1
     case measure=>
      have h5:=a1q.sum S.out N.out.ok.len;have h6:=a1q.gro1 S.out;have h7:=N.out.ok.sum_le;have h8:=N.out.le;simp only at h8;rw[AE,Az,h5,h6];cases e:st.2
      ·simp;omega
      ·have h2:=N.out.more e;simp at h2;simp;omega
def e30(e p:Int):List Value:= [Value.int .i64 e,Value.int .i64 p,Value.slice none 0 0,Value.slice none 0 0]++a0L.map a23
theorem a1Y:(prog.info? 71).map (·.size)=some 30:=by kernel_rfl
theorem a90(e p:Int):(e30 e p).toArray.all (·.oneCell')=true:=by
 apply all_oneCell_toArray;intro v a;unfold e30 at a;rcases G_.mp a with h|h
 ·simp at h;rcases h with rfl|rfl|rfl<;>rfl
 ·obtain⟨n,_,rfl⟩:=b_m.mp h;rfl
theorem a4T(e p:Int):(e30 e p).toArray.size=30:=by rfl
theorem a3y(w:World):(w.alloc (.cells #[i_ 0,i_ 0,.slice none 0 0,.slice none 0 0,i_ 0,i_ 0,i_ 0,i_ 0,i_ 0,i_ 0,i_ 0,i_ 0,i_ 0,i_ 0,i_ 0,i_ 0,i_ 0,i_ 0,i_ 0,i_ 0,i_ 0,i_ 0,i_ 0,i_ 0,i_ 0,i_ 0,i_ 0,i_ 0,i_ 0,i_ 0] 71)).heap[w.heap.size]? =some (.cells (e30 0 0).toArray 71 (0,0)):=R_ w _
theorem c3h(s:ByteArray)(w:World)(f:s.size≤maxLen)(h:400<s.size):
  Calls prog 26 #[.string s] w fun e w'=>e= .returned (.agg (e30 1 0).toArray)∧B__ w w':=by
 unfold maxLen at f;have c:=a3y w;have d:=(g_ w.heap.size w).alloc (a_ _) (.cells #[i_ 0,i_ 0,.slice none 0 0,.slice none 0 0,i_ 0,i_ 0,i_ 0,i_ 0,i_ 0,i_ 0,i_ 0,i_ 0,i_ 0,i_ 0,i_ 0,i_ 0,i_ 0,i_ 0,i_ 0,i_ 0,i_ 0,i_ 0,i_ 0,i_ 0,i_ 0,i_ 0,i_ 0,i_ 0,i_ 0,i_ 0] 71);go_enter func26,ntmps26;go_upto_region 2 with fail;generalize (w.alloc (.cells #[i_ 0,i_ 0,.slice none 0 0,.slice none 0 0,i_ 0,i_ 0,i_ 0,i_ 0,i_ 0,i_ 0,i_ 0,i_ 0,i_ 0,i_ 0,i_ 0,i_ 0,i_ 0,i_ 0,i_ 0,i_ 0,i_ 0,i_ 0,i_ 0,i_ 0,i_ 0,i_ 0,i_ 0,i_ 0,i_ 0,i_ 0] 71))=W at*;have b:=h__ c;clear c;go_wp2_with (refine a_k rfl 71 (.tmp 2) (.tmp 10) rfl w.heap.size (e30 1 0).toArray rfl rfl 71 (e30 0 0).toArray b.out (by rw[a1Y,a4T]) rfl (a90 1 0) ?_);have a:(W.setRow w.heap.size (e30 1 0).toArray).heap[w.heap.size]? =some (.cells (e30 1 0).toArray 71 (0,0)):=a_N W _ _ _ _ _ b.out;exact m_ (v:= .agg (e30 1 0).toArray) (a_O rfl _ _ w.heap.size 71 (e30 1 0).toArray (0,0) _ rfl a underlying71 rfl (by rw[a1Y,a4T])) rfl ⟨rfl,below_setRow d (a_ _)⟩
structure a31(t:List UInt8):Prop where
 heads:∀h∈(a0t t).2,b0d h
 few:(a0t t).2.length≤1000
 tree:a0v 9 (a0n t).2
 work:a0z 9 (a0n t).2<1099511627776
theorem b8p(s:ByteArray)(w:World)(x:s.size≤400)(b:(a0n s.data.toList).1.bad=true):
  Calls prog 26 #[.string s] w fun e w'=>e= .returned (.agg (e30 2 (a0n s.data.toList).1.pos).toArray)∧B__ w w':=by
 have r:=a3y w;have u:=(g_ w.heap.size w).alloc (a_ _) (.cells #[i_ 0,i_ 0,.slice none 0 0,.slice none 0 0,i_ 0,i_ 0,i_ 0,i_ 0,i_ 0,i_ 0,i_ 0,i_ 0,i_ 0,i_ 0,i_ 0,i_ 0,i_ 0,i_ 0,i_ 0,i_ 0,i_ 0,i_ 0,i_ 0,i_ 0,i_ 0,i_ 0,i_ 0,i_ 0,i_ 0,i_ 0] 71);have t:(w.alloc (.cells #[i_ 0,i_ 0,.slice none 0 0,.slice none 0 0,i_ 0,i_ 0,i_ 0,i_ 0,i_ 0,i_ 0,i_ 0,i_ 0,i_ 0,i_ 0,i_ 0,i_ 0,i_ 0,i_ 0,i_ 0,i_ 0,i_ 0,i_ 0,i_ 0,i_ 0,i_ 0,i_ 0,i_ 0,i_ 0,i_ 0,i_ 0] 71)).heap.size=w.heap.size+1:=by simp
 have y:decide (400<(s.size:Int))=false:=by simp;omega
 generalize i:(a0n s.data.toList).1.pos=l;have n:=h__ i;have c:=h__ b;clear i b;go_enter func26,ntmps26;go_upto_region 2 with fail;generalize (w.alloc (.cells #[i_ 0,i_ 0,.slice none 0 0,.slice none 0 0,i_ 0,i_ 0,i_ 0,i_ 0,i_ 0,i_ 0,i_ 0,i_ 0,i_ 0,i_ 0,i_ 0,i_ 0,i_ 0,i_ 0,i_ 0,i_ 0,i_ 0,i_ 0,i_ 0,i_ 0,i_ 0,i_ 0,i_ 0,i_ 0,i_ 0,i_ 0] 71))=W at*;have p:=h__ r;clear r;go_wp2_with fail;refine(a78 s x _).mono ?_;rintro e m ⟨a,f,_⟩;have g:=f c.out;rw[n.out]at g;subst g;have j:m.heap[w.heap.size]? =some (.cells (e30 0 0).toArray 71 (0,0)):=by rw[a.block _ (by omega)];exact p.out
 have o:B__ w m:=u.trans (a.mono (by omega));have q:=a.size;have k:(m.alloc (.cells #[.slice none 0 0,.slice none 0 0] 68)).heap[w.heap.size]? =some (.cells (e30 0 0).toArray 71 (0,0)):=by rw[q_ _ _ _ (by omega)];exact j
 have d:=h__ k;clear a f j p k;go_wp2_with (refine a_k rfl 71 (.tmp 2) _ rfl w.heap.size (e30 2 l).toArray rfl rfl 71 (e30 0 0).toArray d.out (by rw[a1Y,a4T]) rfl (a90 _ _) ?_);have h:((m.alloc (.cells #[.slice none 0 0,.slice none 0 0] 68)).setRow w.heap.size (e30 2 l).toArray).heap[w.heap.size]? =some (.cells (e30 2 l).toArray 71 (0,0)):=a_N _ _ _ _ _ _ d.out;exact m_ (v:= .agg (e30 2 l).toArray) (a_O rfl _ _ w.heap.size 71 (e30 2 l).toArray (0,0) _ rfl h underlying71 rfl (by rw[a1Y,a4T])) rfl ⟨rfl,below_setRow (o.alloc (by omega) _) (a_ _)⟩
structure b0e(H:Rd×List Hd)(R:Rd×List (RT 9)):Prop where
 heads:∀h∈H.2,b0d h
 few:H.2.length≤1000
 tree:a0v 9 R.2
 work:a0z 9 R.2<1099511627776
theorem c3i(s:ByteArray)(w:World)(hs:s.size≤400)(b:a31 s.data.toList)(i:(a0n s.data.toList).1.bad=false)(p:Nat)(B:a1N [] (a0t s.data.toList).2=some p):
  Calls prog 26 #[.string s] w fun e w'=>e= .returned (.agg (e30 3 p).toArray)∧B__ w w':=by
 have hz:=a3y w;have hb:=(g_ w.heap.size w).alloc (a_ _) (.cells #[i_ 0,i_ 0,.slice none 0 0,.slice none 0 0,i_ 0,i_ 0,i_ 0,i_ 0,i_ 0,i_ 0,i_ 0,i_ 0,i_ 0,i_ 0,i_ 0,i_ 0,i_ 0,i_ 0,i_ 0,i_ 0,i_ 0,i_ 0,i_ 0,i_ 0,i_ 0,i_ 0,i_ 0,i_ 0,i_ 0,i_ 0] 71);have Ad:(w.alloc (.cells #[i_ 0,i_ 0,.slice none 0 0,.slice none 0 0,i_ 0,i_ 0,i_ 0,i_ 0,i_ 0,i_ 0,i_ 0,i_ 0,i_ 0,i_ 0,i_ 0,i_ 0,i_ 0,i_ 0,i_ 0,i_ 0,i_ 0,i_ 0,i_ 0,i_ 0,i_ 0,i_ 0,i_ 0,i_ 0,i_ 0,i_ 0] 71)).heap.size=w.heap.size+1:=by simp
 have tl:decide (400<(s.size:Int))=false:=by simp;omega
 have u:=b;generalize d:a0t s.data.toList=H at*;generalize f:a0n s.data.toList=R at*;have I:=h__ d;have L:=h__ f;have J:Hid (b0e H R):=⟨by rw[←d];exact b.heads,by rw[←d];exact b.few,by rw[←f];exact b.tree,by rw[←f];exact b.work⟩
 have r:=h__ i;have M:=h__ B;clear d f b i B u;go_enter func26,ntmps26;go_upto_region 2 with fail;generalize (w.alloc (.cells #[i_ 0,i_ 0,.slice none 0 0,.slice none 0 0,i_ 0,i_ 0,i_ 0,i_ 0,i_ 0,i_ 0,i_ 0,i_ 0,i_ 0,i_ 0,i_ 0,i_ 0,i_ 0,i_ 0,i_ 0,i_ 0,i_ 0,i_ 0,i_ 0,i_ 0,i_ 0,i_ 0,i_ 0,i_ 0,i_ 0,i_ 0] 71))=W at*;have U:=h__ hz;clear hz;go_wp2_with fail;refine(a78 s hs _).mono ?_;rw[L.out,I.out];rintro e o ⟨h,_,S⟩;obtain⟨vh,vr,rfl,m,n⟩:=S r.out;obtain⟨V,nh,Y,C⟩:∃aa nn cc,vh= .slice aa nn cc:=by
  rcases Joins.ownsRow_forms m.1 with⟨rfl,_⟩|⟨g,Ac,rfl⟩<;>exact⟨_,_,_,rfl⟩
 obtain⟨X,nr,Z,D⟩:=a0h n;subst C D;have Aa:=h.size;have E:o.heap[w.heap.size]? =some (.cells (e30 0 0).toArray 71 (0,0)):=by rw[h.block _ (by omega)];exact U.out
 have y:B__ w o:=hb.trans (h.mono (by omega));generalize a:o.alloc (.cells #[.slice V nh Y,.slice X nr Z] 68)=q;have O:=h__ a;have c:B__ o q:=by rw[←a];exact(g_ _ _).alloc (a_ _) _
 have Ae:q.heap.size=o.heap.size+1:=by rw[←a];simp
 have t0:q.cell? (a__ o.heap.size 0)=some (.slice V nh Y):=by rw[←a];simp[go_sem]
 have t1:q.cell? (a__ o.heap.size 1)=some (.slice X nr Z):=by rw[←a];simp[go_sem]
 have F:q.heap[w.heap.size]? =some (.cells (e30 0 0).toArray 71 (0,0)):=by rw[c.block _ (by omega)];exact E
 have j:B__ w q:=y.trans (c.mono (by omega));have N:Hid _:=a0Y m (fun k hk hl=>⟨hk,c.block k hl⟩);have Ab:Hid _:=a0g n c;have P:=h__ F;have t:=h__ j;clear h E U m n y a c F j hb;go_upto_region 6 with fail;rw[O.out];go_wp2_with fail;refine(a5K H.2 _ _ _ J.out.few N.out).mono ?_;rw[M.out];rintro e T ⟨rfl,l⟩;have G:T.heap[w.heap.size]? =some (.cells (e30 0 0).toArray 71 (0,0)):=by rw[l.block _ (by omega)];exact P.out
 have x:=h__ G;have z:B__ w T:=t.out.trans (l.mono (by omega));clear G l;simp only[a7j,Option.getD_some,b_y];go_wp2_with (refine a_k rfl 71 (.tmp 2) _ rfl w.heap.size (e30 3 p).toArray rfl rfl 71 (e30 0 0).toArray x.out (by rw[a1Y,a4T]) rfl (a90 _ _) ?_);have A:((T).setRow w.heap.size (e30 3 p).toArray).heap[w.heap.size]? =some (.cells (e30 3 p).toArray 71 (0,0)):=a_N _ _ _ _ _ _ x.out;exact m_ (v:= .agg (e30 3 p).toArray) (a_O rfl _ _ w.heap.size 71 (e30 3 p).toArray (0,0) _ rfl A underlying71 rfl (by rw[a1Y,a4T])) rfl ⟨rfl,below_setRow z (a_ _)⟩
theorem c09(s:ByteArray)(w:World)(hs:s.size≤400)(c:a31 s.data.toList)(j:(a0n s.data.toList).1.bad=false)(I:a1N [] (a0t s.data.toList).2=none)(Ai:5000<a0z 9 (a0n s.data.toList).2):
  Calls prog 26 #[.string s] w fun e w'=>e= .returned (.agg (e30 4 0).toArray)∧B__ w w':=by
 have hz:=a3y w;have hb:=(g_ w.heap.size w).alloc (a_ _) (.cells #[i_ 0,i_ 0,.slice none 0 0,.slice none 0 0,i_ 0,i_ 0,i_ 0,i_ 0,i_ 0,i_ 0,i_ 0,i_ 0,i_ 0,i_ 0,i_ 0,i_ 0,i_ 0,i_ 0,i_ 0,i_ 0,i_ 0,i_ 0,i_ 0,i_ 0,i_ 0,i_ 0,i_ 0,i_ 0,i_ 0,i_ 0] 71);have Af:(w.alloc (.cells #[i_ 0,i_ 0,.slice none 0 0,.slice none 0 0,i_ 0,i_ 0,i_ 0,i_ 0,i_ 0,i_ 0,i_ 0,i_ 0,i_ 0,i_ 0,i_ 0,i_ 0,i_ 0,i_ 0,i_ 0,i_ 0,i_ 0,i_ 0,i_ 0,i_ 0,i_ 0,i_ 0,i_ 0,i_ 0,i_ 0,i_ 0] 71)).heap.size=w.heap.size+1:=by simp
 have tl:decide (400<(s.size:Int))=false:=by simp;omega
 have A:=c;generalize f:a0t s.data.toList=H at*;generalize h:a0n s.data.toList=R at*;have S:=h__ f;have T:=h__ h;have n:Hid (b0e H R):=⟨by rw[←f];exact c.heads,by rw[←f];exact c.few,by rw[←h];exact c.tree,by rw[←h];exact c.work⟩
 have u:=h__ j;have U:=h__ I;have Ac:a0z 9 R.2<1099511627776:=n.out.work;generalize G:a0z 9 R.2=k at*;have z:=h__ G;clear f h c j I A G;go_enter func26,ntmps26;go_upto_region 2 with fail;generalize (w.alloc (.cells #[i_ 0,i_ 0,.slice none 0 0,.slice none 0 0,i_ 0,i_ 0,i_ 0,i_ 0,i_ 0,i_ 0,i_ 0,i_ 0,i_ 0,i_ 0,i_ 0,i_ 0,i_ 0,i_ 0,i_ 0,i_ 0,i_ 0,i_ 0,i_ 0,i_ 0,i_ 0,i_ 0,i_ 0,i_ 0,i_ 0,i_ 0] 71))=W at*;have HZ:=h__ hz;clear hz;go_wp2_with fail;refine(a78 s hs _).mono ?_;rw[T.out,S.out];rintro e m ⟨i,_,Ab⟩;obtain⟨vh,vr,rfl,q,r⟩:=Ab u.out;obtain⟨ah,nh,ch,J⟩:∃aa nn cc,vh= .slice aa nn cc:=by
  rcases Joins.ownsRow_forms q.1 with⟨rfl,_⟩|⟨g,Ae,rfl⟩<;>exact⟨_,_,_,rfl⟩
 obtain⟨ar,nr,cr,L⟩:=a0h r;subst J L;have Ad:=i.size;have M:m.heap[w.heap.size]? =some (.cells (e30 0 0).toArray 71 (0,0)):=by rw[i.block _ (by omega)];exact HZ.out
 have D:B__ w m:=hb.trans (i.mono (by omega));generalize a:m.alloc (.cells #[.slice ah nh ch,.slice ar nr cr] 68)=t;have Y:=h__ a;have d:B__ m t:=by rw[←a];exact(g_ _ _).alloc (a_ _) _
 have Ag:t.heap.size=m.heap.size+1:=by rw[←a];simp
 have t0:t.cell? (a__ m.heap.size 0)=some (.slice ah nh ch):=by rw[←a];simp[go_sem]
 have t1:t.cell? (a__ m.heap.size 1)=some (.slice ar nr cr):=by rw[←a];simp[go_sem]
 have N:t.heap[w.heap.size]? =some (.cells (e30 0 0).toArray 71 (0,0)):=by rw[d.block _ (by omega)];exact M
 have l:B__ w t:=D.trans (d.mono (by omega));have V:Hid _:=a0Y q (fun k hk hl=>⟨hk,d.block k hl⟩);have X:Hid _:=a0g r d;have Z:=h__ N;have x:=h__ l;clear i M HZ q r D a d N l hb;go_upto_region 6 with fail;rw[Y.out];go_wp2_with fail;refine(a5K H.2 _ _ _ n.out.few V.out).mono ?_;rw[U.out];rintro e w3 ⟨rfl,b⟩;have O:w3.heap[w.heap.size]? =some (.cells (e30 0 0).toArray 71 (0,0)):=by rw[b.block _ (by omega)];exact Z.out
 have Aa:=h__ O;have y:Hid _:=x.out.trans (b.mono (by omega));have B:Hid _:=a0g X.out b;rw[←b.cell (p:=(a__ m.heap.size 1)) (by simp only;omega)]at t1;have Ah:=b.size;clear O b t0;simp only[a7j,a_8,a_X];go_wp2_with fail;refine(a6G 9 R.2 _ _ _ n.out.tree (by rw[z.out];exact Ac) B.out).mono ?_;rw[z.out];rintro e w4 ⟨rfl,o⟩;have tk:decide (5000<(k:Int))=true:=by simp;omega
 have P:w4.heap[w.heap.size]? =some (.cells (e30 0 0).toArray 71 (0,0)):=by rw[o.block _ (by omega)];exact Aa.out
 have C:=h__ P;have E:B__ w w4:=y.out.trans (o.mono (by omega));clear P o;go_wp2_with (refine a_k rfl 71 (.tmp 2) _ rfl w.heap.size (e30 4 0).toArray rfl rfl 71 (e30 0 0).toArray C.out (by rw[a1Y,a4T]) rfl (a90 _ _) ?_);have F:((w4).setRow w.heap.size (e30 4 0).toArray).heap[w.heap.size]? =some (.cells (e30 4 0).toArray 71 (0,0)):=a_N _ _ _ _ _ _ C.out;exact m_ (v:= .agg (e30 4 0).toArray) (a_O rfl _ _ w.heap.size 71 (e30 4 0).toArray (0,0) _ rfl F underlying71 rfl (by rw[a1Y,a4T])) rfl ⟨rfl,below_setRow E (a_ _)⟩
theorem b3z{fx:List Bool}{l:List (RT 9)}(a:a0v 9 l):∀(k:Nat) (of:List Nat),a2T of→a2T (a5F fx l k of)
 |0,of,h=>h
 |k+1,of,h=>by
  have g:=a5h fx 9 (of,false) l 0 h a (by omega);unfold a5F
  split
  ·exact b3z a k _ g.ok
  ·exact g.ok
theorem b0v:∀(b:List Hd) (x:List Nat×List Bool),(∀h∈b,b0d h)→a2T x.1→a2T (a2I b x).1
 | [],x,_,h=>h
 |a::r,x,hk,h=>by
  rw[a8W];exact b0v r _ (fun y c=>hk y (by simp[c])) (h.set _ _ (hk a (by simp)).2.2.1)
def a5X(a b:Value)(L:List Nat):List Value:= [Value.int .i64 0,Value.int .i64 0,a,b]++L.map a23
theorem b68:∀(xs:List Value) (j:Nat) (a b:List Value),a.length=4+j→b.length=xs.length→
  List.foldl (fun(cs:Array Value) (x:Value×Nat)=>cs.setIfInBounds (4+x.2) x.1) (a++b).toArray (xs.zipIdx j)=(a++xs).toArray
 | [],j,a,b,hp,hm=>by
  have:b= []:=a_o (by simpa using hm);subst this;rfl
 |x::r,j,a,[],hp,hm=>by simp at hm
 |x::r,j,a,m::ms,hp,hm=>by
  rw[List.zipIdx_cons,List.foldl_cons];have e:((a++m::ms).toArray).setIfInBounds (4+j) x=((a++ [x])++ms).toArray:=by
   rw[b_,List.set_append_right _ _ (by omega),hp,b_c,l_];simp
  simp only;rw[e,b68 r (j+1) (a++ [x]) ms (by simp;omega) (by simpa using hm)];simp
theorem c6U(a b:Value)(L:List Nat)(h:L.length=26):
  Array.foldl (fun(cs:Array Value) (x:Value×Nat)=>cs.setIfInBounds (4+x.2) x.1) #[i_ 0,i_ 0,a,b,i_ 0,i_ 0,i_ 0,i_ 0,i_ 0,i_ 0,i_ 0,i_ 0,i_ 0,i_ 0,i_ 0,i_ 0,i_ 0,i_ 0,i_ 0,i_ 0,i_ 0,i_ 0,i_ 0,i_ 0,i_ 0,i_ 0,i_ 0,i_ 0,i_ 0,i_ 0] (a0i L).zipIdx 0 26=(a5X a b L).toArray:=by
 have c:(a0i L).zipIdx.size=26:=by simp[a0i,h]
 have e:=Array.foldl_toList (fun(cs:Array Value) (x:Value×Nat)=>cs.setIfInBounds (4+x.2) x.1) (init:= #[i_ 0,i_ 0,a,b,i_ 0,i_ 0,i_ 0,i_ 0,i_ 0,i_ 0,i_ 0,i_ 0,i_ 0,i_ 0,i_ 0,i_ 0,i_ 0,i_ 0,i_ 0,i_ 0,i_ 0,i_ 0,i_ 0,i_ 0,i_ 0,i_ 0,i_ 0,i_ 0,i_ 0,i_ 0]) (xs:=(a0i L).zipIdx);rw[c]at e;rw[←e,Array.toList_zipIdx];exact b68 (L.map a23) 0 [i_ 0,i_ 0,a,b] (List.replicate 26 (i_ 0)) rfl (by simp[h])
theorem a5Y(a b:Value)(L:List Nat)(h:L.length=26):(a5X a b L).toArray.size=30:=by simp[a5X,h]
theorem b2X(b ab:Option Addr)(e f c d:Nat)(L:List Nat):(a5X (.slice b e c) (.slice ab f d) L).toArray.all (·.oneCell')=true:=by
 apply all_oneCell_toArray;intro v a;unfold a5X at a;rcases G_.mp a with h|h
 ·simp at h;rcases h with rfl|rfl|rfl<;>rfl
 ·obtain⟨n,_,rfl⟩:=b_m.mp h;rfl
theorem b9E:a2T a4D.1:=⟨rfl,by decide⟩
theorem a5m{a:List Hd}{l:List (RT 9)}(b:∀h∈a,b0d h)(c:a0v 9 l):a2T (a13 a l):=b3z c _ _ (b0v a a4D b b9E)
theorem c3g(s:ByteArray)(w:World)(hs:s.size≤400)(A:a31 s.data.toList)(Ad:(a0n s.data.toList).1.bad=false)(AA:a1N [] (a0t s.data.toList).2=none)(A3:¬5000<a0z 9 (a0n s.data.toList).2)(p:Nat)(Ax:a28 (a13 (a0t s.data.toList).2 (a0n s.data.toList).2) 9 0 (a0n s.data.toList).2=some p):
  Calls prog 26 #[.string s] w fun e w'=>e= .returned (.agg (e30 5 p).toArray)∧B__ w w':=by
 have hz:=a3y w;have hb:=(g_ w.heap.size w).alloc (a_ _) (.cells #[i_ 0,i_ 0,.slice none 0 0,.slice none 0 0,i_ 0,i_ 0,i_ 0,i_ 0,i_ 0,i_ 0,i_ 0,i_ 0,i_ 0,i_ 0,i_ 0,i_ 0,i_ 0,i_ 0,i_ 0,i_ 0,i_ 0,i_ 0,i_ 0,i_ 0,i_ 0,i_ 0,i_ 0,i_ 0,i_ 0,i_ 0] 71);have AW:(w.alloc (.cells #[i_ 0,i_ 0,.slice none 0 0,.slice none 0 0,i_ 0,i_ 0,i_ 0,i_ 0,i_ 0,i_ 0,i_ 0,i_ 0,i_ 0,i_ 0,i_ 0,i_ 0,i_ 0,i_ 0,i_ 0,i_ 0,i_ 0,i_ 0,i_ 0,i_ 0,i_ 0,i_ 0,i_ 0,i_ 0,i_ 0,i_ 0] 71)).heap.size=w.heap.size+1:=by simp
 have tl:decide (400<(s.size:Int))=false:=by simp;omega
 have Ao:=A;generalize P:a0t s.data.toList=H at*;generalize S:a0n s.data.toList=R at*;have AH:Hid (a0t s.data.toList=H):=P;have AJ:Hid (a0n s.data.toList=R):=S;have j:Hid (b0e H R):=⟨by rw[←P];exact A.heads,by rw[←P];exact A.few,by rw[←S];exact A.tree,by rw[←S];exact A.work⟩
 have Aj:Hid (R.1.bad=false):=Ad;have AK:Hid (a1N [] H.2=none):=AA;have AQ:a0z 9 R.2<1099511627776:=j.out.work;generalize Az:a0z 9 R.2=k at*;have Am:Hid (a0z 9 R.2=k):=Az;have Ag:=a5m j.out.heads j.out.tree;generalize Av:a13 H.2 R.2=L at*;have AI:Hid (a13 H.2 R.2=L):=Av;have An:Hid (a2T L):=Ag;have N:(a0i L).size=26:=by simp[a0i,Ag.len]
 have AG:=h__ Ax;clear P S A Ad AA Ao Az Av Ag Ax;go_enter func26,ntmps26;go_upto_region 2 with fail;generalize (w.alloc (.cells #[i_ 0,i_ 0,.slice none 0 0,.slice none 0 0,i_ 0,i_ 0,i_ 0,i_ 0,i_ 0,i_ 0,i_ 0,i_ 0,i_ 0,i_ 0,i_ 0,i_ 0,i_ 0,i_ 0,i_ 0,i_ 0,i_ 0,i_ 0,i_ 0,i_ 0,i_ 0,i_ 0,i_ 0,i_ 0,i_ 0,i_ 0] 71))=W at*;have HZ:=h__ hz;clear hz;go_wp2_with fail;refine(a78 s hs _).mono ?_;rw[AJ.out,AH.out];rintro e t ⟨T,_,AP⟩;obtain⟨vh,vr,rfl,Ah,Ai⟩:=AP Aj.out;obtain⟨ah,nh,ch,AB⟩:∃aa nn cc,vh= .slice aa nn cc:=by
  rcases Joins.ownsRow_forms Ah.1 with⟨rfl,_⟩|⟨g,AV,rfl⟩<;>exact⟨_,_,_,rfl⟩
 obtain⟨ar,nr,cr,AC⟩:=a0h Ai;subst AB AC;have AU:=T.size;have AD:t.heap[w.heap.size]? =some (.cells (e30 0 0).toArray 71 (0,0)):=by rw[T.block _ (by omega)];exact HZ.out
 have Aw:B__ w t:=hb.trans (T.mono (by omega));generalize z:t.alloc (.cells #[.slice ah nh ch,.slice ar nr cr] 68)=O;have AM:=h__ z;have I:B__ t O:=by rw[←z];exact(g_ _ _).alloc (a_ _) _
 have AX:O.heap.size=t.heap.size+1:=by rw[←z];simp
 have t0:O.cell? (a__ t.heap.size 0)=some (.slice ah nh ch):=by rw[←z];simp[go_sem]
 have t1:O.cell? (a__ t.heap.size 1)=some (.slice ar nr cr):=by rw[←z];simp[go_sem]
 have AE:O.heap[w.heap.size]? =some (.cells (e30 0 0).toArray 71 (0,0)):=by rw[I.block _ (by omega)];exact AD
 have Ae:B__ w O:=Aw.trans (I.mono (by omega));have Ap:Hid (a1k O (fun k=>W.heap.size≤k) (.slice ah nh ch) H.2):=a0Y Ah (fun k J M=>⟨J,I.block k M⟩);have AL:Hid (a0l 9 O (fun k=>W.heap.size≤k) (.slice ar nr cr) R.2):=a0g Ai I;have AO:Hid (O.heap[w.heap.size]? =some (.cells (e30 0 0).toArray 71 (0,0))):=AE;have Ak:Hid (B__ w O):=Ae;clear T AD HZ Ah Ai Aw z I AE Ae hb;go_upto_region 6 with fail;rw[AM.out];go_wp2_with fail;refine(a5K H.2 _ _ _ j.out.few Ap.out).mono ?_;rw[AK.out];rintro e w3 ⟨rfl,m⟩;have AF:w3.heap[w.heap.size]? =some (.cells (e30 0 0).toArray 71 (0,0)):=by rw[m.block _ (by omega)];exact AO.out
 have Aq:Hid (w3.heap[w.heap.size]? =some (.cells (e30 0 0).toArray 71 (0,0))):=AF;have U:Hid (B__ w w3):=Ak.out.trans (m.mono (by omega));have D:Hid (a0l 9 w3 (fun k=>W.heap.size≤k) (.slice ar nr cr) R.2):=a0g AL.out m;have Z:Hid (a1k w3 (fun k=>W.heap.size≤k) (.slice ah nh ch) H.2):=a0Y Ap.out (fun k J M=>⟨J,m.block k M⟩);rw[←m.cell (p:=(a__ t.heap.size 1)) (by simp only;omega)]at t1;rw[←m.cell (p:=(a__ t.heap.size 0)) (by simp only;omega)]at t0;have AY:=m.size;clear AF m;simp only[a7j,a_8,a_X];go_wp2_with fail;refine(a6G 9 R.2 _ _ _ j.out.tree (by rw[Am.out];exact AQ) D.out).mono ?_;rw[Am.out];rintro e w4 ⟨rfl,o⟩;have tk:decide (5000<(k:Int))=false:=by simp;omega
 have Ar:Hid (w4.heap[w.heap.size]? =some (.cells (e30 0 0).toArray 71 (0,0))):=by show _=_;rw[o.block _ (by omega)];exact Aq.out
 have V:Hid (B__ w w4):=U.out.trans (o.mono (by omega));have E:Hid (a0l 9 w4 (fun k=>W.heap.size≤k) (.slice ar nr cr) R.2):=a0g D.out o;have C:Hid (a1k w4 (fun k=>W.heap.size≤k) (.slice ah nh ch) H.2):=a0Y Z.out (fun k J M=>⟨J,o.block k M⟩);rw[←o.cell (p:=(a__ t.heap.size 1)) (by simp only;omega)]at t1;rw[←o.cell (p:=(a__ t.heap.size 0)) (by simp only;omega)]at t0;have AZ:=o.size;clear o Aq U D Z;go_wp2_with fail;refine(b1v H.2 R.2 (fun k=>W.heap.size≤k) _ _ _ j.out.few j.out.heads j.out.tree C.out E.out).mono ?_;rw[AI.out];rintro e y ⟨rfl,r⟩;have As:Hid (y.heap[w.heap.size]? =some (.cells (e30 0 0).toArray 71 (0,0))):=by show _=_;rw[r.block _ (by omega)];exact Ar.out
 have X:Hid (B__ w y):=V.out.trans (r.mono (by omega));have Ac:Hid (a0l 9 y (fun k=>W.heap.size≤k) (.slice ar nr cr) R.2):=a0g E.out r;have Aa:Hid (a1k y (fun k=>W.heap.size≤k) (.slice ah nh ch) H.2):=a0Y C.out (fun k J M=>⟨J,r.block k M⟩);rw[←r.cell (p:=(a__ t.heap.size 1)) (by simp only;omega)]at t1;rw[←r.cell (p:=(a__ t.heap.size 0)) (by simp only;omega)]at t0;have A0:=r.size;clear r Ar V E C;generalize G:y.alloc (.cells (a0i L) 69)=W6;have AN:=h__ G;have Af:a0w W6 y.heap.size L:=by rw[←G];exact a0w.new y L
 have u:B__ y W6:=by rw[←G];exact(g_ _ _).alloc (a_ _) _
 have A1:W6.heap.size=y.heap.size+1:=by rw[←G];simp
 have B:Hid (a0w W6 y.heap.size L):=Af;have At:Hid (W6.heap[w.heap.size]? =some (.cells (e30 0 0).toArray 71 (0,0))):=by show _=_;rw[u.block _ (by omega)];exact As.out
 have Y:Hid (B__ w W6):=X.out.trans (u.mono (by omega));have F:Hid (a0l 9 W6 (fun k=>W.heap.size≤k) (.slice ar nr cr) R.2):=a0g Ac.out u;have Ab:Hid (a1k W6 (fun k=>W.heap.size≤k) (.slice ah nh ch) H.2):=a0Y Aa.out (fun k J M=>⟨J,u.block k M⟩);rw[←u.cell (p:=(a__ t.heap.size 1)) (by simp only;omega)]at t1;rw[←u.cell (p:=(a__ t.heap.size 0)) (by simp only;omega)]at t0;clear G Af u As X Ac Aa;go_wp2_with (first|(refine a_k rfl 69 _ _ rfl y.heap.size (a0i L) rfl rfl 69 (a0i a0L) (by exact a5k y) (by rw[a0V,N]) (by rw[N];rfl) (a6a L) ?_;rw[World.setRow_alloc_new,AN.out];simp only[Act.put])|(refine a_l rfl 69 _ rfl y.heap.size rfl 69 (a0i L) (0,0) _ B.out underlying69 rfl (by rw[a0V,N]) ?_));refine(a8Q L An.out.len An.out.lt 9 0 R.2 (fun k=>W.heap.size≤k) _ _ (by omega) j.out.tree F.out).mono ?_;rw[AG.out];rintro e w7 ⟨rfl,l⟩;have Au:Hid (w7.heap[w.heap.size]? =some (.cells (e30 0 0).toArray 71 (0,0))):=by show _=_;rw[l.block _ (by omega)];exact At.out
 have Al:Hid (B__ w w7):=Y.out.trans (l.mono (by omega));have AT:Hid (a0l 9 w7 (fun k=>W.heap.size≤k) (.slice ar nr cr) R.2):=a0g F.out l;have AS:Hid (a1k w7 (fun k=>W.heap.size≤k) (.slice ah nh ch) H.2):=a0Y Ab.out (fun k J M=>⟨J,l.block k M⟩);rw[←l.cell (p:=(a__ t.heap.size 1)) (by simp only;omega)]at t1;rw[←l.cell (p:=(a__ t.heap.size 0)) (by simp only;omega)]at t0;have AR:Hid (a0w w7 y.heap.size L):=B.out.keep l (by omega);have A2:=l.size;clear l At Y F Ab B;simp only[a7j,Option.getD_some,b_y];go_wp2_with (refine a_k rfl 71 (.tmp 2) _ rfl w.heap.size (e30 5 p).toArray rfl rfl 71 (e30 0 0).toArray Au.out (by rw[a1Y,a4T]) rfl (a90 _ _) ?_);have Ay:((w7).setRow w.heap.size (e30 5 p).toArray).heap[w.heap.size]? =some (.cells (e30 5 p).toArray 71 (0,0)):=a_N _ _ _ _ _ _ Au.out;exact m_ (v:= .agg (e30 5 p).toArray) (a_O rfl _ _ w.heap.size 71 (e30 5 p).toArray (0,0) _ rfl Ay underlying71 rfl (by rw[a1Y,a4T])) rfl ⟨rfl,below_setRow Al.out (a_ _)⟩
theorem b9W(s:ByteArray)(w:World)(hs:s.size≤400)(O:a31 s.data.toList)(Al:(a0n s.data.toList).1.bad=false)(AL:a1N [] (a0t s.data.toList).2=none)(Bc:¬5000<a0z 9 (a0n s.data.toList).2)(AI:a28 (a13 (a0t s.data.toList).2 (a0n s.data.toList).2) 9 0 (a0n s.data.toList).2=none):
  Calls prog 26 #[.string s] w fun e w'=>∃vh vr,e= .returned (.agg (a5X vh vr (a13 (a0t s.data.toList).2 (a0n s.data.toList).2)).toArray)∧B__ w w'∧a1k w' (fun k=>w.heap.size≤k) vh (a0t s.data.toList).2∧a0l 9 w' (fun k=>w.heap.size≤k) vr (a0n s.data.toList).2:=by
 have hz:=a3y w;have hb:=(g_ w.heap.size w).alloc (a_ _) (.cells #[i_ 0,i_ 0,.slice none 0 0,.slice none 0 0,i_ 0,i_ 0,i_ 0,i_ 0,i_ 0,i_ 0,i_ 0,i_ 0,i_ 0,i_ 0,i_ 0,i_ 0,i_ 0,i_ 0,i_ 0,i_ 0,i_ 0,i_ 0,i_ 0,i_ 0,i_ 0,i_ 0,i_ 0,i_ 0,i_ 0,i_ 0] 71);have A5:(w.alloc (.cells #[i_ 0,i_ 0,.slice none 0 0,.slice none 0 0,i_ 0,i_ 0,i_ 0,i_ 0,i_ 0,i_ 0,i_ 0,i_ 0,i_ 0,i_ 0,i_ 0,i_ 0,i_ 0,i_ 0,i_ 0,i_ 0,i_ 0,i_ 0,i_ 0,i_ 0,i_ 0,i_ 0,i_ 0,i_ 0,i_ 0,i_ 0] 71)).heap.size=w.heap.size+1:=by simp
 have tl:decide (400<(s.size:Int))=false:=by simp;omega
 have Ax:=O;generalize Aa:a0t s.data.toList=H at*;generalize Ab:a0n s.data.toList=R at*;have AS:Hid (a0t s.data.toList=H):=Aa;have AU:Hid (a0n s.data.toList=R):=Ab;have l:Hid (b0e H R):=⟨by rw[←Aa];exact O.heads,by rw[←Aa];exact O.few,by rw[←Ab];exact O.tree,by rw[←Ab];exact O.work⟩
 have As:Hid (R.1.bad=false):=Al;have AV:Hid (a1N [] H.2=none):=AL;have A1:a0z 9 R.2<1099511627776:=l.out.work;generalize AK:a0z 9 R.2=k at*;have Aw:Hid (a0z 9 R.2=k):=AK;have Ap:=a5m l.out.heads l.out.tree;generalize AG:a13 H.2 R.2=L at*;have AT:Hid (a13 H.2 R.2=L):=AG;have y:Hid (a2T L):=Ap;have F:(a0i L).size=26:=by simp[a0i,Ap.len]
 have AR:=h__ AI;clear Aa Ab O Al AL Ax AK AG Ap AI;go_enter func26,ntmps26;go_upto_region 2 with fail;generalize (w.alloc (.cells #[i_ 0,i_ 0,.slice none 0 0,.slice none 0 0,i_ 0,i_ 0,i_ 0,i_ 0,i_ 0,i_ 0,i_ 0,i_ 0,i_ 0,i_ 0,i_ 0,i_ 0,i_ 0,i_ 0,i_ 0,i_ 0,i_ 0,i_ 0,i_ 0,i_ 0,i_ 0,i_ 0,i_ 0,i_ 0,i_ 0,i_ 0] 71))=W at*;have HZ:=h__ hz;clear hz;go_wp2_with fail;refine(a78 s hs _).mono ?_;rw[AU.out,AS.out];rintro e u ⟨Ac,_,A0⟩;obtain⟨vh,vr,rfl,Aq,Ar⟩:=A0 As.out;obtain⟨B,G,D,AM⟩:∃aa nn cc,vh= .slice aa nn cc:=by
  rcases Joins.ownsRow_forms Aq.1 with⟨rfl,_⟩|⟨g,A4,rfl⟩<;>exact⟨_,_,_,rfl⟩
 obtain⟨C,I,E,AN⟩:=a0h Ar;subst AM AN;have A3:=Ac.size;have AO:u.heap[w.heap.size]? =some (.cells (e30 0 0).toArray 71 (0,0)):=by rw[Ac.block _ (by omega)];exact HZ.out
 have AH:B__ w u:=hb.trans (Ac.mono (by omega));generalize J:u.alloc (.cells #[.slice B G D,.slice C I E] 68)=Z;have AX:=h__ J;have Y:B__ u Z:=by rw[←J];exact(g_ _ _).alloc (a_ _) _
 have A6:Z.heap.size=u.heap.size+1:=by rw[←J];simp
 have t0:Z.cell? (a__ u.heap.size 0)=some (.slice B G D):=by rw[←J];simp[go_sem]
 have t1:Z.cell? (a__ u.heap.size 1)=some (.slice C I E):=by rw[←J];simp[go_sem]
 have AP:Z.heap[w.heap.size]? =some (.cells (e30 0 0).toArray 71 (0,0)):=by rw[Y.block _ (by omega)];exact AO
 have Am:B__ w Z:=AH.trans (Y.mono (by omega));have Ay:Hid (a1k Z (fun k=>W.heap.size≤k) (.slice B G D) H.2):=a0Y Aq (fun k M N=>⟨M,Y.block k N⟩);have AW:Hid (a0l 9 Z (fun k=>W.heap.size≤k) (.slice C I E) R.2):=a0g Ar Y;have AZ:Hid (Z.heap[w.heap.size]? =some (.cells (e30 0 0).toArray 71 (0,0))):=AP;have At:Hid (B__ w Z):=Am;clear Ac AO HZ Aq Ar AH J Y AP Am hb;go_upto_region 6 with fail;rw[AX.out];go_wp2_with fail;refine(a5K H.2 _ _ _ l.out.few Ay.out).mono ?_;rw[AV.out];rintro e w3 ⟨rfl,o⟩;have AQ:w3.heap[w.heap.size]? =some (.cells (e30 0 0).toArray 71 (0,0)):=by rw[o.block _ (by omega)];exact AZ.out
 have AB:Hid (w3.heap[w.heap.size]? =some (.cells (e30 0 0).toArray 71 (0,0))):=AQ;have Ad:Hid (B__ w w3):=At.out.trans (o.mono (by omega));have T:Hid (a0l 9 w3 (fun k=>W.heap.size≤k) (.slice C I E) R.2):=a0g AW.out o;have Ah:Hid (a1k w3 (fun k=>W.heap.size≤k) (.slice B G D) H.2):=a0Y Ay.out (fun k M N=>⟨M,o.block k N⟩);rw[←o.cell (p:=(a__ u.heap.size 1)) (by simp only;omega)]at t1;rw[←o.cell (p:=(a__ u.heap.size 0)) (by simp only;omega)]at t0;have A7:=o.size;clear AQ o;simp only[a7j,a_8,a_X];go_wp2_with fail;refine(a6G 9 R.2 _ _ _ l.out.tree (by rw[Aw.out];exact A1) T.out).mono ?_;rw[Aw.out];rintro e w4 ⟨rfl,r⟩;have tk:decide (5000<(k:Int))=false:=by simp;omega
 have AC:Hid (w4.heap[w.heap.size]? =some (.cells (e30 0 0).toArray 71 (0,0))):=by show _=_;rw[r.block _ (by omega)];exact AB.out
 have Ae:Hid (B__ w w4):=Ad.out.trans (r.mono (by omega));have U:Hid (a0l 9 w4 (fun k=>W.heap.size≤k) (.slice C I E) R.2):=a0g T.out r;have S:Hid (a1k w4 (fun k=>W.heap.size≤k) (.slice B G D) H.2):=a0Y Ah.out (fun k M N=>⟨M,r.block k N⟩);rw[←r.cell (p:=(a__ u.heap.size 1)) (by simp only;omega)]at t1;rw[←r.cell (p:=(a__ u.heap.size 0)) (by simp only;omega)]at t0;have A8:=r.size;clear r AB Ad T Ah;go_wp2_with fail;refine(b1v H.2 R.2 (fun k=>W.heap.size≤k) _ _ _ l.out.few l.out.heads l.out.tree S.out U.out).mono ?_;rw[AT.out];rintro e A ⟨rfl,t⟩;have AD:Hid (A.heap[w.heap.size]? =some (.cells (e30 0 0).toArray 71 (0,0))):=by show _=_;rw[t.block _ (by omega)];exact AC.out
 have Af:Hid (B__ w A):=Ae.out.trans (t.mono (by omega));have Ak:Hid (a0l 9 A (fun k=>W.heap.size≤k) (.slice C I E) R.2):=a0g U.out t;have Ai:Hid (a1k A (fun k=>W.heap.size≤k) (.slice B G D) H.2):=a0Y S.out (fun k M N=>⟨M,t.block k N⟩);rw[←t.cell (p:=(a__ u.heap.size 1)) (by simp only;omega)]at t1;rw[←t.cell (p:=(a__ u.heap.size 0)) (by simp only;omega)]at t0;have A9:=t.size;clear t AC Ae U S;generalize X:A.alloc (.cells (a0i L) 69)=W6;have AY:=h__ X;have An:a0w W6 A.heap.size L:=by rw[←X];exact a0w.new A L
 have z:B__ A W6:=by rw[←X];exact(g_ _ _).alloc (a_ _) _
 have Ba:W6.heap.size=A.heap.size+1:=by rw[←X];simp
 have P:Hid (a0w W6 A.heap.size L):=An;have AE:Hid (W6.heap[w.heap.size]? =some (.cells (e30 0 0).toArray 71 (0,0))):=by show _=_;rw[z.block _ (by omega)];exact AD.out
 have Ag:Hid (B__ w W6):=Af.out.trans (z.mono (by omega));have V:Hid (a0l 9 W6 (fun k=>W.heap.size≤k) (.slice C I E) R.2):=a0g Ak.out z;have Aj:Hid (a1k W6 (fun k=>W.heap.size≤k) (.slice B G D) H.2):=a0Y Ai.out (fun k M N=>⟨M,z.block k N⟩);rw[←z.cell (p:=(a__ u.heap.size 1)) (by simp only;omega)]at t1;rw[←z.cell (p:=(a__ u.heap.size 0)) (by simp only;omega)]at t0;clear X An z AD Af Ak Ai;go_wp2_with (first|(refine a_k rfl 69 _ _ rfl A.heap.size (a0i L) rfl rfl 69 (a0i a0L) (by exact a5k A) (by rw[a0V,F]) (by rw[F];rfl) (a6a L) ?_;rw[World.setRow_alloc_new,AY.out];simp only[Act.put])|(refine a_l rfl 69 _ rfl A.heap.size rfl 69 (a0i L) (0,0) _ P.out underlying69 rfl (by rw[a0V,F]) ?_));refine(a8Q L y.out.len y.out.lt 9 0 R.2 (fun k=>W.heap.size≤k) _ _ (by omega) l.out.tree V.out).mono ?_;rw[AR.out];rintro e w7 ⟨rfl,m⟩;have AF:Hid (w7.heap[w.heap.size]? =some (.cells (e30 0 0).toArray 71 (0,0))):=by show _=_;rw[m.block _ (by omega)];exact AE.out
 have Au:Hid (B__ w w7):=Ag.out.trans (m.mono (by omega));have AA:Hid (a0l 9 w7 (fun k=>W.heap.size≤k) (.slice C I E) R.2):=a0g V.out m;have Az:Hid (a1k w7 (fun k=>W.heap.size≤k) (.slice B G D) H.2):=a0Y Aj.out (fun k M N=>⟨M,m.block k N⟩);rw[←m.cell (p:=(a__ u.heap.size 1)) (by simp only;omega)]at t1;rw[←m.cell (p:=(a__ u.heap.size 0)) (by simp only;omega)]at t0;have Av:Hid (a0w w7 A.heap.size L):=P.out.keep m (by omega);have Bb:=m.size;clear m AE Ag V Aj P;simp only[a7j,a_8,a_X];have A2:=y.out.len;go_wp2_with (first|(refine a_l rfl 69 _ rfl A.heap.size rfl 69 (a0i L) (0,0) _ Av.out underlying69 rfl (by rw[a0V,F]) ?_)|(refine a_k rfl 71 (.tmp 2) (.tmp 51) rfl w.heap.size (a5X (.slice B G D) (.slice C I E) L).toArray rfl (by exact a_w Value.agg (c6U _ _ L y.out.len)) 71 (e30 0 0).toArray AF.out (by rw[a1Y,a5Y _ _ _ y.out.len]) (by rw[a5Y _ _ _ y.out.len];rfl) (b2X _ _ _ _ _ _ _) ?_));have AJ:(w7.setRow w.heap.size (a5X (.slice B G D) (.slice C I E) L).toArray).heap[w.heap.size]? =some (.cells (a5X (.slice B G D) (.slice C I E) L).toArray 71 (0,0)):=a_N _ _ _ _ _ _ AF.out;have Ao:∀j,j≠w.heap.size→(w7.setRow w.heap.size (a5X (.slice B G D) (.slice C I E) L).toArray).heap[j]? =w7.heap[j]? :=fun j hj=>setRow_other w7 _ _ _ hj
 exact m_ (v:= .agg (a5X (.slice B G D) (.slice C I E) L).toArray) (a_O rfl _ _ w.heap.size 71 (a5X (.slice B G D) (.slice C I E) L).toArray (0,0) _ rfl AJ underlying71 rfl (by rw[a1Y,a5Y _ _ _ y.out.len])) rfl ⟨_,_,rfl,below_setRow Au.out (a_ _),a0Y Az.out (fun k M N=>⟨by omega,Ao k (by omega)⟩),a1A (fun k M N=>⟨by omega,Ao k (by omega)⟩) 9 _ _ AA.out⟩
def a0s(t:List UInt8):Int×Int:=
 if 400<t.length then(1,0)
 else if(a0n t).1.bad then(2,((a0n t).1.pos:Int))
 else
  match a1N [] (a0t t).2 with
  |some p=>(3,(p:Int))
  |none=>
   if 5000<a0z 9 (a0n t).2 then(4,0)
   else
    match a28 (a13 (a0t t).2 (a0n t).2) 9 0 (a0n t).2 with
    |some p=>(5,(p:Int))
    |none=>(0,0)
def a4M(t:List UInt8):List Nat:=if(a0s t).1=0 then a13 (a0t t).2 (a0n t).2 else a0L
structure a6D(t:List UInt8)(cs:List Value):Prop where
 rest:∃vh vr aa ab na nb ca cb,vh=Value.slice aa na ca∧vr=Value.slice ab nb cb∧cs= [Value.int .i64 (a0s t).1,Value.int .i64 (a0s t).2,vh,vr]++(a4M t).map a23
 len:(a4M t).length=26
theorem a8d{t:List UInt8}{e p:Int}(h:a0s t=(e,p))(b:e≠0):a6D t (e30 e p):=by
 have a:a4M t=a0L:=by unfold a4M;rw[h];simp[b]
 exact⟨⟨_,_,_,_,_,_,_,_,rfl,rfl,by rw[a,h];rfl⟩,by rw[a];rfl⟩
theorem b0W(s:ByteArray)(w:World)(D:s.size≤maxLen)(q:s.size≤400→(a0n s.data.toList).1.bad=false→a31 s.data.toList):
  Calls prog 26 #[.string s] w fun e w'=>∃cs,e= .returned (.agg cs.toArray)∧a6D s.data.toList cs∧B__ w w':=by
 have a:s.data.toList.length=s.size:=by simp
 by_cases i:400<s.size
 ·refine(c3h s w D i).mono ?_;rintro e w' ⟨rfl,b⟩;exact⟨_,rfl,a8d (by unfold a0s;rw[a,n_ i]) (by decide),b⟩
 have h:s.size≤400:=by omega
 cases d:(a0n s.data.toList).1.bad;case true=>
  refine(b8p s w h d).mono ?_;rintro e w' ⟨rfl,b⟩;exact⟨_,rfl,a8d (by unfold a0s;rw[a,f_ i,n_ d]) (by decide),b⟩
 have k:=q h d;have c:¬(a0n s.data.toList).1.bad=true:=by rw[d];decide
 cases f:a1N [] (a0t s.data.toList).2 with
 |some p=>
  refine(c3i s w h k d p f).mono ?_;rintro e w' ⟨rfl,b⟩;exact⟨_,rfl,a8d (by unfold a0s;rw[a,f_ i,f_ c,f]) (by decide),b⟩
 |none=>
 by_cases j:5000<a0z 9 (a0n s.data.toList).2
 ·refine(c09 s w h k d f j).mono ?_;rintro e w' ⟨rfl,b⟩;exact⟨_,rfl,a8d (by unfold a0s;rw[a,f_ i,f_ c,f];simp only;rw[n_ j]) (by decide),b⟩
 cases n:a28 (a13 (a0t s.data.toList).2 (a0n s.data.toList).2) 9 0 (a0n s.data.toList).2 with
 |some p=>
  refine(c3g s w h k d f j p n).mono ?_;rintro e w' ⟨rfl,b⟩;exact⟨_,rfl,a8d (by unfold a0s;rw[a,f_ i,f_ c,f];simp only;rw[f_ j,n]) (by decide),b⟩
 |none=>
  refine(b9W s w h k d f j n).mono ?_;rintro e w' ⟨x,H,rfl,b,r,t⟩;have u:a0s s.data.toList=(0,0):=by unfold a0s;rw[a,f_ i,f_ c,f];simp only;rw[f_ j,n]
  have v:a4M s.data.toList=a13 (a0t s.data.toList).2 (a0n s.data.toList).2:=by unfold a4M;rw[u];simp
  obtain⟨y,F,B,m⟩:=a0h t;obtain⟨o,E,z,l⟩:∃o G C,x= .slice o G C:=by
   rcases Joins.ownsRow_forms r.1 with⟨rfl,_⟩|⟨g,A,rfl⟩<;>exact⟨_,_,_,rfl⟩
  refine⟨_,rfl,⟨⟨x,H,o,y,E,F,z,B,l,m,by rw[u,v];rfl⟩,?_⟩,b⟩;rw[v];exact(a5m k.heads k.tree).len
theorem a6D.size{t:List UInt8}{cs:List Value}(h:a6D t cs):cs.toArray.size=30:=by
 obtain⟨g,i,a,b,e,f,c,d,rfl,rfl,rfl⟩:=h.rest;simp[h.len]
theorem a6D.one{t:List UInt8}{cs:List Value}(h:a6D t cs):cs.toArray.all (·.oneCell')=true:=by
 obtain⟨i,j,b,c,f,g,d,e,rfl,rfl,rfl⟩:=h.rest;apply all_oneCell_toArray;intro v a;rcases G_.mp a with h|h
 ·simp at h;rcases h with rfl|rfl|rfl|rfl<;>rfl
 ·obtain⟨n,_,rfl⟩:=b_m.mp h;rfl
theorem a6D.cell0{t:List UInt8}{cs:List Value}(h:a6D t cs):cs[0]? =some (i_ (a0s t).1):=by
 obtain⟨g,i,a,b,e,f,c,d,rfl,rfl,rfl⟩:=h.rest;rfl
theorem a6D.cell1{t:List UInt8}{cs:List Value}(h:a6D t cs):cs[1]? =some (i_ (a0s t).2):=by
 obtain⟨g,i,a,b,e,f,c,d,rfl,rfl,rfl⟩:=h.rest;rfl
theorem a6D.labs{t:List UInt8}{cs:List Value}(h:a6D t cs)(j:Nat):cs[4+j]? =((a4M t).map a23)[j]? :=by
 obtain⟨g,i,a,b,e,f,c,d,rfl,rfl,rfl⟩:=h.rest;rw[V_ (by simp)];simp
theorem a9x(s:ByteArray)(w:World)(B:s.size≤maxLen)(p:s.size≤400→(a0n s.data.toList).1.bad=false→a31 s.data.toList):
  Calls prog 10 #[.string s] w fun e w'=>e= .returned (.tuple #[i_ (a0s s.data.toList).1,i_ (a0s s.data.toList).2])∧B__ w w':=by
 have z:=h__ p;clear p;generalize o:a0s s.data.toList=E;have y:=h__ o;clear o;go_enter func10,ntmps10;go_upto_region 2 with(first|(go_at_call 26;refine(b0W s _ B z.out).mono ?_;rintro e m ⟨A,rfl,r,l⟩;have j:=h__ r;clear r)|(refine a_k rfl 71 (.tmp 4) (.tmp 6) rfl m.heap.size A.toArray rfl rfl 71 (e30 0 0).toArray (by exact a3y m) (by rw[a1Y,j.out.size]) (by rw[j.out.size];rfl) j.out.one ?_;rw[World.setRow_alloc_new];simp only[Act.put]));generalize t:m.alloc (.cells A.toArray 71)=W;have C:W.cell? (a__ m.heap.size 0)=some (i_ (a0s s.data.toList).1):=by rw[←t,F_ _ _ _ _ _ _ (R_ m _)];simpa using j.out.cell0
 have D:W.cell? (a__ m.heap.size 1)=some (i_ (a0s s.data.toList).2):=by rw[←t,F_ _ _ _ _ _ _ (R_ m _)];simpa using j.out.cell1
 have u:Hid (B__ w W):=by rw[←t];exact l.alloc (by have:=l.size;omega) _
 rw[y.out]at C D;clear t l;go_region;all_goals go_wp2_with fail
 all_goals go_ret2
 all_goals exact⟨rfl,u.out.drew⟩
end Go.Proofs.YtdgmoiflahoihaaGreatDoor
