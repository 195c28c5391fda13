import Derived.Test.YtdgmoiflahoihaaGreatDoorXPw

set_option linter.unusedSimpArgs false
set_option linter.unusedVariables false
set_option maxRecDepth 100000
set_option maxHeartbeats 8000000
namespace Go.Proofs.YtdgmoiflahoihaaGreatDoor
def ic0:Ic:=⟨0,0,0,0⟩
def a0F:List Pt→Int→List Ic
 | [],_=> []
 |p::r,top=>
  if p.op=1∨p.op=2 then⟨p.op,top,p.num,0⟩::a0F r (top+1)
  else if p.op=3 then⟨3,top-1,top-1,0⟩::a0F r top
  else⟨p.op,top-1-1,top-1-1,top-1⟩::a0F r (top-1)
def a1l{α:Type}(a:Nat→Nat→List α→List Ic)(p loops:Nat)(q:a0C×List α×List α):List Ic:=
 if q.1.kind=0 then a0F q.1.parts 35++ [⟨2,q.1.name,35,0⟩]
 else if q.1.kind=1 then a0F q.1.parts 35++ [⟨2,q.1.name,35,0⟩,⟨15,q.1.place,q.1.label,35⟩]
 else if q.1.kind=2 then a0F q.1.parts 35++ [⟨14,q.1.place,q.1.label,35⟩]
 else if q.1.kind=3 then
  a0F q.1.parts 35++(⟨13,35,(p+(a0F q.1.parts 35).length+1+(a (p+(a0F q.1.parts 35).length+1) loops q.2.1).length+1:Nat),(p+(a0F q.1.parts 35).length+1+(a (p+(a0F q.1.parts 35).length+1) loops q.2.1).length+1+(a (p+(a0F q.1.parts 35).length+1+(a (p+(a0F q.1.parts 35).length+1) loops q.2.1).length+1) loops q.2.2).length:Nat)⟩::
   (a (p+(a0F q.1.parts 35).length+1) loops q.2.1++(⟨12,(p+(a0F q.1.parts 35).length+1+(a (p+(a0F q.1.parts 35).length+1) loops q.2.1).length+1+(a (p+(a0F q.1.parts 35).length+1+(a (p+(a0F q.1.parts 35).length+1) loops q.2.1).length+1) loops q.2.2).length:Nat),0,0⟩::
    a (p+(a0F q.1.parts 35).length+1+(a (p+(a0F q.1.parts 35).length+1) loops q.2.1).length+1) loops q.2.2)))
 else
  ⟨1,26,1,0⟩::⟨1,(27+loops:Nat),q.1.count,0⟩::(a (p+2) (loops+1) q.2.1++
   [⟨5,(27+loops:Nat),(27+loops:Nat),26⟩,⟨13,(27+loops:Nat),(p+2+(a (p+2) (loops+1) q.2.1).length+3:Nat),(p+2+(a (p+2) (loops+1) q.2.1).length+3:Nat)⟩,⟨12,(p+2:Nat),0,0⟩])
def a4C{α:Type}(a:Nat→Nat→List α→List Ic):Nat→Nat→List (a0C×List α×List α)→List Ic
 |_,_,[]=> []
 |p,loops,q::r=>a1l a p loops q++a4C a (p+(a1l a p loops q).length) loops r
def a0P(n:Nat):Nat→Nat→List (RT n)→List Ic:=
 match n with
 |0=>fun _ _ _=> []
 |n+1=>fun p a l=>a4C (a0P n) p a l
def a1n:List Hd→Nat→List Ic
 | [],_=> []
 |h::r,k=>if h.field then⟨11,h.name,k,0⟩::a1n r (k+1)else a1n r k
def a2e(t:List UInt8):List Ic:=a1n (a0t t).2 0++(a0P 9 (a1n (a0t t).2 0).length 0 (a0n t).2++ [⟨0,0,0,0⟩])
def a6b(t:List UInt8):Int×List Ic:=if(a0s t).1≠0 then((a0s t).1,[])else(0,a2e t)
theorem a5T:∀(P:List Pt) (a:Int),(a0F P a).length=P.length
 | [],_=>rfl
 |p::r,a=>by
  unfold a0F
  split
  ·simp[a5T r]
  split<;>simp[a5T r]
def AtP(l:List Ic)(p:Nat)(g:List Ic):Prop:=∀i,i<g.length→l.getD (p+i) ⟨0,0,0,0⟩=g.getD i ⟨0,0,0,0⟩
theorem AtP.left{l a b:List Ic}{p:Nat}(h:AtP l p (a++b)):AtP l p a:=by
 intro i c;rw[h i (by simp;omega)];simp[S_ c]
theorem AtP.right{l a b:List Ic}{p:Nat}(h:AtP l p (a++b)):AtP l (p+a.length) b:=by
 intro i c;have:=h (a.length+i) (by simp;omega);rw[show p+a.length+i=p+(a.length+i)by omega,this];simp[V_]
theorem AtP.head{l b:List Ic}{x:Ic}{p:Nat}(h:AtP l p (x::b)):l.getD p ⟨0,0,0,0⟩=x:=by
 have:=h 0 (by simp);simpa using this
theorem AtP.tail{l b:List Ic}{x:Ic}{p:Nat}(h:AtP l p (x::b)):AtP l (p+1) b:=by
 have:=AtP.right (a:= [x]) (b:=b) (p:=p) (l:=l) (by simpa using h);simpa using this
def a4z(l:List Ic)(fs:List Int):Nat→XS→XS→Prop
 |0,s,s'=>s'=s
 |k+1,s,s'=>(l.getD s.pc ⟨0,0,0,0⟩).op≠0∧a4z l fs k (a0m (l.getD s.pc ⟨0,0,0,0⟩) fs s) s'
theorem b38{l:List Ic}{fs:List Int} :∀(k f:Nat) (s a:XS),a4z l fs k s a→a2X l fs (k+f) s=a2X l fs f a
 |0,f,s,a,h=>by cases h;rw[a_m]
 |k+1,f,s,a,h=>by
  obtain⟨b,c⟩:=h;rw[show k+1+f=(k+f)+1 by omega]
  conv=>lhs;unfold a2X
  rw[f_ b];exact b38 k f _ _ c
theorem a04{l:List Ic}{fs:List Int} :∀(k m:Nat) (s a b:XS),a4z l fs k s a→a4z l fs m a b→a4z l fs (k+m) s b
 |0,m,s,a,b,h,g=>by cases h;rw[a_m];exact g
 |k+1,m,s,a,b,h,g=>by
  rw[show k+1+m=(k+m)+1 by omega];exact⟨h.1,a04 k m _ _ _ h.2 g⟩
theorem a3e{l:List Ic}{fs:List Int}{s:XS}{x:Ic}(h:l.getD s.pc ⟨0,0,0,0⟩=x)(a:x.op≠0):a4z l fs 1 s (a0m x fs s):=by
 refine⟨by rw[h];exact a,?_⟩;rw[h];rfl
theorem a36{l:List Vl}{i j:Nat}{v:Vl}(hi:i<l.length):(l.set i v).getD j vl0=if i=j then v else l.getD j vl0:=by
 rw[t_,List.getElem?_set,t_];by_cases e:i=j
 ·subst e;simp[hi]
 ·simp[e]
def a9c(a:List Vl)(st:List Vl):Prop:=∀j,j<st.length→a.getD (35+j) vl0=st.getD j vl0
theorem b21{a st:List Vl}{v:Vl}(h:a9c a st)(c:a.length=100)(d:st.length<65):a9c (a.set (35+st.length) v) (st++ [v]):=by
 intro j b;rw[a36 (by omega)];simp at b;by_cases e:j=st.length
 ·subst e;simp
 ·rw[f_ (by omega),h j (by omega)];simp only[t_];rw[S_ (by omega)]
theorem b20{a st:List Vl}(h:a9c a st){r:List Vl}(c:∃u,st=r++u):a9c a r:=by
 obtain⟨u,rfl⟩:=c;intro j b;rw[h j (by simp;omega)];simp only[t_];rw[S_ b]
theorem a8T(st:List Vl):∃u,st=st.dropLast++u:=by
 by_cases h:st= []
 ·subst h;exact⟨[],rfl⟩
 ·exact⟨[st.getLast h],(List.dropLast_concat_getLast h).symm⟩
theorem b16{st:List Vl}(h:st≠ []):a2F st=st.getD (st.length-1) vl0:=by
 unfold a2F;rw[List.getLast?_eq_getElem?,t_]
theorem c3c{names:List Vl}{p:Pt}{st:List Vl} :a3s names [p] st=(a1w names p st).2++ [(a1w names p st).1]:=rfl
theorem c2A{l:List Ic}{fs:List Int}{names:List Vl}(p:Pt)(r:List Pt)(st:List Vl)(x:XS)(k:Nat)(B:a6K p)(I:st.length≤65)(b:a5c 65 (p::r) st.length=some k)(a:AtP l x.pc (a0F (p::r) (35+st.length)))(A:x.regs.length=100)(u:a9c x.regs st)(F:∀i,i<26→x.regs.getD i vl0=names.getD i vl0):
  ∃i v,i<100∧35≤i∧a4z l fs 1 x ⟨x.regs.set i v,x.notes,x.pc+1⟩∧a9c (x.regs.set i v) (a3s names [p] st)∧(a3s names [p] st).length≤65∧a5c 65 r (a3s names [p] st).length=some k∧AtP l (x.pc+1) (a0F r (35+(a3s names [p] st).length)):=by
 rw[c3c];unfold a5c at b;unfold a0F at a;by_cases n:p.op=1∨p.op=2
 ·rw[n_ n]at b a;by_cases C:st.length+1≤65
  ·rw[n_ C]at b;have t:∃v,a1w names p st=(v,st)∧a0m ⟨p.op,35+st.length,p.num,0⟩ fs x=⟨x.regs.set (35+st.length) v,x.notes,x.pc+1⟩:=by
    rcases n with m|g
    ·refine⟨⟨p.num,0⟩,by unfold a1w;rw[n_ m],?_⟩;unfold a0m XS.give;rw[n_ m];simp only;congr 2
    ·refine⟨names.getD p.num.toNat vl0,by unfold a1w;rw[f_ (by omega),n_ g],?_⟩;have G:=B g;unfold a0m XS.give XS.reg;rw[f_ (by simp only;omega),n_ g];simp only;rw[F p.num.toNat (by omega)];congr 2
   obtain⟨v,y,f⟩:=t;have j:=a3e (fs:=fs) (s:=x) a.head (by simp only;omega);rw[f]at j;rw[y];refine⟨35+st.length,v,by omega,by omega,j,b21 u A (by omega),by simp;omega,by simpa using b,?_⟩;have:=a.tail;simp only[x_,B_,a_r];rw[show((35:Int)+((st.length+(0+1):Nat):Int))=35+(st.length:Int)+1 by omega];exact this
  ·rw[f_ C]at b;cases b
 rw[f_ n]at b a;by_cases z:p.op=3
 ·rw[n_ z]at b a;by_cases m:1≤st.length
  ·rw[n_ m]at b;have o:st≠ []:=by intro e;rw[e]at m;simp at m
   have y:a1w names p st=(a4E (a2F st),st.dropLast):=by unfold a1w;rw[f_ (by omega),f_ (by omega),n_ z]
   have f:a0m ⟨3,35+st.length-1,35+st.length-1,0⟩ fs x=⟨x.regs.set (35+(st.length-1)) (a4E (a2F st)),x.notes,x.pc+1⟩:=by
    unfold a0m XS.give XS.reg;simp only;rw[f_ (by decide),f_ (by decide),n_ trivial,show((35:Int)+(st.length:Int)-1).toNat=35+(st.length-1)by omega,u _ (by omega),b16 o]
   have j:=a3e (fs:=fs) (s:=x) a.head (by simp);rw[f]at j;rw[y];have h:=b20 u (a8T st);have c:st.dropLast.length=st.length-1:=by simp
   refine⟨35+(st.length-1),_,by omega,by omega,j,?_,by simp;omega,?_,?_⟩
   ·have:=b21 (v:=a4E (a2F st)) h A (by omega);rw[c]at this;exact this
   ·simp only[x_,B_,a_r,c];rw[show st.length-1+(0+1)=st.length by omega];exact b
   ·have:=a.tail;simp only[x_,B_,a_r,c];rw[show st.length-1+(0+1)=st.length by omega];exact this
  ·rw[f_ m]at b;cases b
 ·rw[f_ z]at b a;by_cases g:2≤st.length∧4≤p.op∧p.op≤10
  ·rw[n_ g]at b;obtain⟨g,J,H⟩:=g;have c:st.dropLast.length=st.length-1:=by simp
   have d:st.dropLast.dropLast.length=st.length-2:=by simp;omega
   have o:st≠ []:=by intro e;rw[e]at g;simp at g
   have q:st.dropLast≠ []:=by intro e;rw[e]at c;simp at c;omega
   have h:=b20 u (a8T st);have w:=b20 h (a8T st.dropLast);have y:a1w names p st=(opV p.op (a2F st.dropLast) (a2F st),st.dropLast.dropLast):=by unfold a1w;rw[f_ (by omega),f_ (by omega),f_ z]
   have E:x.regs.getD (35+(st.length-1)) vl0=a2F st:=by rw[u _ (by omega),b16 o]
   have D:x.regs.getD (35+(st.length-2)) vl0=a2F st.dropLast:=by rw[h _ (by omega),b16 q,c,show st.length-1-1=st.length-2 by omega]
   have f:a0m ⟨p.op,35+st.length-1-1,35+st.length-1-1,35+st.length-1⟩ fs x=⟨x.regs.set (35+(st.length-2)) (opV p.op (a2F st.dropLast) (a2F st)),x.notes,x.pc+1⟩:=by
    unfold a0m XS.give XS.reg;simp only;rw[f_ (by omega),f_ (by omega),f_ (by omega),f_ (by omega),f_ (by omega),f_ (by omega),f_ (by omega),f_ (by omega),show((35:Int)+(st.length:Int)-1-1).toNat=35+(st.length-2)by omega,show((35:Int)+(st.length:Int)-1).toNat=35+(st.length-1)by omega,D,E]
   have j:=a3e (fs:=fs) (s:=x) a.head (by simp only;omega);rw[f]at j;rw[y];refine⟨35+(st.length-2),_,by omega,by omega,j,?_,by simp only[x_,B_,a_r,d];omega,?_,?_⟩
   ·have:=b21 (v:=opV p.op (a2F st.dropLast) (a2F st)) w A (by omega);rw[d]at this;exact this
   ·simp only[x_,B_,a_r,d];rw[show st.length-2+(0+1)=st.length-1 by omega];exact b
   ·have:=a.tail;simp only[x_,B_,a_r,d];rw[show((35:Int)+((st.length-2+(0+1):Nat):Int))=35+(st.length:Int)-1 by omega];exact this
  ·rw[f_ g]at b;cases b
theorem b5c{l:List Ic}{fs:List Int}{names:List Vl} :∀(P:List Pt) (st:List Vl) (x:XS) (k:Nat),(∀p∈P,a6K p)→st.length≤65→a5c 65 P st.length=some k→AtP l x.pc (a0F P (35+st.length))→x.regs.length=100→a9c x.regs st→(∀i,i<26→x.regs.getD i vl0=names.getD i vl0)→
  ∃b,a4z l fs P.length x b∧b.pc=x.pc+P.length∧b.notes=x.notes∧b.regs.length=100∧a9c b.regs (a3s names P st)∧(a3s names P st).length=k∧(∀i,i<35→b.regs.getD i vl0=x.regs.getD i vl0)
 | [],st,x,k,_,_,hk,_,hl,hp,_=>by
  cases hk;exact⟨x,rfl,rfl,rfl,hl,hp,rfl,fun _ _=>rfl⟩
 |p::r,st,x,k,hok,hs,hk,hat,hl,hp,hn=>by
  obtain⟨i,v,A,B,z,t,u,w,y⟩:=c2A (fs:=fs) (names:=names) p r st x k (hok p (by simp)) hs hk hat hl hp hn;have a:∀j,j<35→(x.regs.set i v).getD j vl0=x.regs.getD j vl0:=fun j c=>by rw[a36 (by omega),f_ (by omega)]
  obtain⟨b,d,f,g,h,m,n,o⟩:=b5c (l:=l) (fs:=fs) (names:=names) r (a3s names [p] st) ⟨x.regs.set i v,x.notes,x.pc+1⟩ k (fun q s=>hok q (by simp[s])) u w y (by simp[hl]) t (fun j c=>by simp only;rw[a j (by omega)];exact hn j c);have e:a3s names (p::r) st=a3s names r (a3s names [p] st):=rfl;rw[e];refine⟨b,by rw[B_,Nat.add_comm];exact a04 _ _ _ _ _ z d,by rw[f,B_];simp only;omega,g,h,m,n,fun j c=> ?_⟩;rw[o j c];exact a j c
structure Rel(s:SR)(x:XS):Prop where
 len:x.regs.length=100
 all:s.1.length=26
 names:∀i,i<26→x.regs.getD i vl0=s.1.getD i vl0
 notes:x.notes=s.2
theorem a8w{l:List Ic}{fs:List Int}{s:SR}{P:List Pt}{x:XS}(f:∀p∈P,a6K p)(q:Hg 34 P)(d:AtP l x.pc (a0F P 35))(b:Rel s x):
  ∃a,a4z l fs P.length x a∧a.pc=x.pc+P.length∧Rel s a∧a.regs.getD 35 vl0=a1O s.1 P∧(∀i,i<35→a.regs.getD i vl0=x.regs.getD i vl0):=by
 obtain⟨a,h,k,m,n,o,c,g⟩:=b5c (l:=l) (fs:=fs) (names:=s.1) P [] x 1 f (by simp) (q 65 0 (by omega)) (by simpa using d) b.len (fun j t=>absurd t (by simp)) b.names;refine⟨a,h,k,⟨n,b.all,fun i r=>(g i (by omega)).trans (b.names i r),m.trans b.notes⟩,?_,g⟩;have:=o 0 (by omega);rw[show 35+0=35 from rfl]at this;rw[this];unfold a1O;rw[b16 (by intro e;rw[e]at c;simp at c),c]
theorem b40{l:List Ic}{fs:List Int}{s:SR}{x:XS}{b:Int}(a:Rel s x)(d:l.getD x.pc ⟨0,0,0,0⟩=⟨2,b,35,0⟩)(j:0≤b)(h:b<26):
  ∃c,a4z l fs 1 x c∧c.pc=x.pc+1∧Rel (s.1.set b.toNat (x.regs.getD 35 vl0),s.2) c∧(∀i,26≤i→c.regs.getD i vl0=x.regs.getD i vl0):=by
 have g:=a3e (fs:=fs) d (by simp);have e:a0m ⟨2,b,35,0⟩ fs x=⟨x.regs.set b.toNat (x.regs.getD 35 vl0),x.notes,x.pc+1⟩:=by
  unfold a0m XS.give XS.reg;simp only;rw[f_ (by decide),n_ trivial];rfl
 rw[e]at g;refine⟨_,g,rfl,⟨by simp[a.len],by simp[a.all],fun i f=> ?_,a.notes⟩,fun i f=> ?_⟩
 ·simp only;rw[a36 (by rw[a.len];omega),a36 (by rw[a.all];omega),a.names i f]
 ·simp only;rw[a36 (by rw[a.len];omega),f_ (by omega)]
theorem b5L{l:List Ic}{fs:List Int}{s:SR}{x:XS}{c:Int}{b a:Nat}(d:Rel s x)(f:l.getD x.pc ⟨0,0,0,0⟩=⟨c,b,a,35⟩)(i:c=14∨c=15):
  ∃e,a4z l fs 1 x e∧e.pc=x.pc+1∧Rel (s.1,s.2++ [⟨c-14,b,a,x.regs.getD 35 vl0⟩]) e∧e.regs=x.regs:=by
 have h:=a3e (fs:=fs) f (by simp only;omega);have g:a0m ⟨c,b,a,35⟩ fs x=⟨x.regs,x.notes++ [⟨c-14,b,a,x.regs.getD 35 vl0⟩],x.pc+1⟩:=by
  unfold a0m XS.give XS.reg;rcases i with rfl|rfl
  ·simp
  ·simp
 rw[g]at h;refine⟨_,h,rfl,⟨d.len,d.all,d.names,?_⟩,rfl⟩;simp only;rw[d.notes]
structure Kept(loops:Nat)(x x':XS):Prop where
 low:∀j,j<loops→x'.regs.getD (27+j) vl0=x.regs.getD (27+j) vl0
 one:x.regs.getD 26 vl0=⟨1,0⟩→x'.regs.getD 26 vl0=⟨1,0⟩
theorem Kept.refl(loops:Nat)(x:XS):Kept loops x x:=⟨fun _ _=>rfl,id⟩
theorem Kept.trans{loops:Nat}{x y z:XS}(h:Kept loops x y)(g:Kept loops y z):Kept loops x z:=⟨fun j a=>(g.low j a).trans (h.low j a),fun e=>g.one (h.one e)⟩
theorem Kept.of{loops:Nat}{x y:XS}(h:∀i,26≤i→i<27+loops→y.regs.getD i vl0=x.regs.getD i vl0):Kept loops x y:=⟨fun j a=>h _ (by omega) (by omega),fun e=>(h 26 (by omega) (by omega)).trans e⟩
def b4j{α:Type}(ok:List α→Prop)(wk:List α→Nat)(b:Nat→Nat→List α→List Ic)(act:SR→List α→SR)(m:Nat):Prop:=
 ∀(l:List Ic) (d:List Int) (r:List α) (p a:Nat) (x:XS) (s:SR),ok r→a≤m→AtP l p (b p a r)→Rel s x→x.pc=p→
  ∃k c,k≤3*wk r∧a4z l d k x c∧c.pc=p+(b p a r).length∧Rel (act s r) c∧Kept a x c
theorem b31{α:Type}{ok:List α→Prop}{wk:List α→Nat}{a:Nat→Nat→List α→List Ic}{act:SR→List α→SR}{m:Nat}(C:b4j ok wk a act m){l:List Ic}{fs:List Int}{r:List α}{p loops:Nat}(o:ok r)(E:loops+1≤m)
  (g:AtP l p (a p (loops+1) r++ [⟨5,(27+loops:Nat),(27+loops:Nat),26⟩,⟨13,(27+loops:Nat),(p+(a p (loops+1) r).length+3:Nat),(p+(a p (loops+1) r).length+3:Nat)⟩,⟨12,(p:Nat),0,0⟩])) (A:27+loops<100):
  ∀(c:Nat) (x:XS) (s:SR),Rel s x→x.pc=p→x.regs.getD (27+loops) vl0=⟨((c+1:Nat):Int),0⟩→c≤100→x.regs.getD 26 vl0=⟨1,0⟩→
   ∃k v,k≤(c+1)*(3*wk r+3)∧a4z l fs k x v∧v.pc=p+(a p (loops+1) r).length+3∧Rel (a7L (fun s=>act s r) (c+1) s) v∧Kept loops x v
 |c,x,s,hr,hp,hc,hc9,h1=>by
  obtain⟨k,d,k1,I,p1,n,q⟩:=C l fs r p (loops+1) x s o E g.left hr hp;have z:=g.right;have T:=z.head;have U:=z.tail.head;have V:=z.tail.tail.head;have O:d.regs.getD (27+loops) vl0=⟨((c+1:Nat):Int),0⟩:=(q.low loops (by omega)).trans hc;have F:=q.one h1
  -- Sub
  have t:=a3e (l:=l) (fs:=fs) (s:=d) (x:=⟨5,(27+loops:Nat),(27+loops:Nat),26⟩) (by rw[p1];exact T) (by simp);have P:a0m ⟨5,(27+loops:Nat),(27+loops:Nat),26⟩ fs d=⟨d.regs.set (27+loops) ⟨(c:Int),0⟩,d.notes,d.pc+1⟩:=by
   unfold a0m XS.give XS.reg;simp only;rw[f_ (by decide),f_ (by decide),f_ (by decide),f_ (by decide),f_ (by decide),f_ (by decide),f_ (by decide),f_ (by decide)];rw[show(((27+loops:Nat):Int)).toNat=27+loops by omega,show(26:Int).toNat=26 by rfl,O,F];have:opV 5 ⟨((c+1:Nat):Int),0⟩ ⟨1,0⟩=⟨(c:Int),0⟩:=by
    unfold opV a6i;simp only;rw[f_ (by decide),f_ (by decide),f_ (by decide),n_ trivial,a9z ⟨by omega,by omega⟩];congr 1;omega
   rw[this]
  rw[P]at t;generalize e:(⟨d.regs.set (27+loops) ⟨(c:Int),0⟩,d.notes,d.pc+1⟩:XS)=b at t;have G:b.pc=p+(a p (loops+1) r).length+1:=by rw[←e];simp only;omega
  have f:Rel (act s r) b:=by
   rw[←e];refine⟨by simp[n.len],n.all,fun i D=> ?_,n.notes⟩;simp only;rw[a36 (by rw[n.len];omega),f_ (by omega)];exact n.names i D
  have w:b.regs.getD (27+loops) vl0=⟨(c:Int),0⟩:=by rw[←e];simp only;rw[a36 (by rw[n.len];omega),n_ rfl]
  have H:Kept loops d b:=Kept.of fun i S D=>by rw[←e];simp only;rw[a36 (by rw[n.len];omega),f_ (by omega)]
  have Z:=H.one F
  -- When
  have u:=a3e (l:=l) (fs:=fs) (s:=b) (x:=⟨13,(27+loops:Nat),(p+(a p (loops+1) r).length+3:Nat),(p+(a p (loops+1) r).length+3:Nat)⟩) (by rw[G];exact U) (by simp);have h:Kept loops x b:=(Kept.trans ⟨fun j hj=>q.low j (by omega),q.one⟩ H)
  have Y:(c+1)*(3*wk r+3)=c*(3*wk r+3)+(3*wk r+3):=b_d ..;cases c with
  |zero=>
   have y:a0m ⟨13,(27+loops:Nat),(p+(a p (loops+1) r).length+3:Nat),(p+(a p (loops+1) r).length+3:Nat)⟩ fs b= { b with pc:=p+(a p (loops+1) r).length+3 } :=by
    unfold a0m XS.reg;simp only;rw[f_ (by decide),f_ (by decide),f_ (by decide),f_ (by decide),f_ (by decide),n_ trivial,show(((27+loops:Nat):Int)).toNat=27+loops by omega,w];simp;omega
   rw[y]at u;refine⟨k+1+1,_,by omega,a04 _ _ _ _ _ (a04 _ _ _ _ _ I t) u,rfl,⟨f.len,f.all,f.names,f.notes⟩,⟨h.low,h.one⟩⟩
  |succ c=>
   have y:a0m ⟨13,(27+loops:Nat),(p+(a p (loops+1) r).length+3:Nat),(p+(a p (loops+1) r).length+3:Nat)⟩ fs b= { b with pc:=b.pc+1 } :=by
    unfold a0m XS.reg;simp only;rw[f_ (by decide),f_ (by decide),f_ (by decide),f_ (by decide),f_ (by decide),n_ trivial,show(((27+loops:Nat):Int)).toNat=27+loops by omega,w];simp only;rw[f_ (by decide),f_ (by omega)]
   rw[y]at u;have J:=a3e (l:=l) (fs:=fs) (s:= { b with pc:=b.pc+1 }) (x:=⟨12,(p:Nat),0,0⟩) (by simp only;rw[G];exact V) (by simp);have R:a0m ⟨12,(p:Nat),0,0⟩ fs { b with pc:=b.pc+1 } = { b with pc:=p } :=by
    unfold a0m;simp only;rw[f_ (by decide),f_ (by decide),f_ (by decide),f_ (by decide),n_ trivial];simp
   rw[R]at J;obtain⟨X,x4,b1,L,M,N,B⟩:=b31 C o E g A c { b with pc:=p } (act s r) ⟨f.len,f.all,f.names,f.notes⟩ rfl w (by omega) Z;refine⟨k+1+1+1+X,x4,by omega,a04 _ _ _ _ _ (a04 _ _ _ _ _ (a04 _ _ _ _ _ (a04 _ _ _ _ _ I t) u) J) L,M,N,h.trans ⟨B.low,B.one⟩⟩
theorem c2S{α:Type}{ok:List α→Prop}{wk:List α→Nat}{u:Nat→Nat→List α→List Ic}{act:SR→List α→SR}{m:Nat}(hg:b4j ok wk u act (m+1))(l:List Ic)(fs:List Int)(q:a0C×List α×List α)(p loops:Nat)(x:XS)(s:SR)(H:a1j q.1)(hh:q.1.kind≠4→Hg 34 q.1.parts)(h1:ok q.2.1)(h2:ok q.2.2)(hm:loops≤m)(An:m≤8)(a:AtP l p (a1l u p loops q))(D:Rel s x)(hp:x.pc=p):
  ∃k Z,k≤3*a1y wk q∧a4z l fs k x Z∧Z.pc=p+(a1l u p loops q).length∧Rel (doT act s q) Z∧Kept loops x Z:=by
 obtain⟨k0,k4⟩:=H.kind;have L:q.1.kind≠4→a1y wk q=1+q.1.parts.length+wk q.2.1+wk q.2.2:=fun h=>by unfold a1y;rw[f_ h]
 subst hp;have d:=a5T q.1.parts 35;by_cases w:q.1.kind=0
 ·obtain⟨O,U⟩:=H.name (.inl w);have hw:=L (by omega);unfold a1l at a⊢;rw[n_ w]at a⊢;obtain⟨A,E,v,f,N,P⟩:=a8w (fs:=fs) H.parts (hh (by omega)) a.left D;have g:=a.right;rw[d,←v]at g;obtain⟨M,V,C,o,t⟩:=b40 (fs:=fs) f g.head O U;rw[N]at o;refine⟨_,M,by omega,a04 _ _ _ _ _ E V,by rw[C,v];simp[d];omega,?_,(Kept.of fun i b I=>P i (by omega)).trans (Kept.of fun i b I=>t i b)⟩;unfold doT;rw[n_ w];exact o
 by_cases G:q.1.kind=1
 ·obtain⟨O,U⟩:=H.name (.inr G);have hw:=L (by omega);unfold a1l at a⊢;rw[f_ w,n_ G]at a⊢;obtain⟨A,E,v,f,N,P⟩:=a8w (fs:=fs) H.parts (hh (by omega)) a.left D;have g:=a.right;rw[d,←v]at g;obtain⟨M,V,C,o,t⟩:=b40 (fs:=fs) f g.head O U;rw[N]at o;obtain⟨x3,d1,d2,d3,d4⟩:=b5L (fs:=fs) o (by rw[C];exact g.tail.head) (.inr rfl);have Ae:M.regs.getD 35 vl0=a1O s.1 q.1.parts:=(t 35 (by omega)).trans N;rw[Ae]at d3;refine⟨_,x3,by omega,a04 _ _ _ _ _ (a04 _ _ _ _ _ E V) d1,by rw[d2,C,v];simp[d];omega,?_,((Kept.of fun i b I=>P i (by omega)).trans (Kept.of fun i b I=>t i b)).trans (Kept.of fun i b I=>by rw[d4])⟩;unfold doT;rw[f_ w,n_ G];exact d3
 by_cases X:q.1.kind=2
 ·have hw:=L (by omega);unfold a1l at a⊢;rw[f_ w,f_ G,n_ X]at a⊢;obtain⟨A,E,v,f,N,P⟩:=a8w (fs:=fs) H.parts (hh (by omega)) a.left D;have g:=a.right;rw[d,←v]at g;obtain⟨x3,d1,d2,d3,d4⟩:=b5L (fs:=fs) f g.head (.inl rfl);rw[N]at d3;refine⟨_,x3,by omega,a04 _ _ _ _ _ E d1,by rw[d2,v];simp[d];omega,?_,(Kept.of fun i b I=>P i (by omega)).trans (Kept.of fun i b I=>by rw[d4])⟩;unfold doT;rw[f_ w,f_ G,n_ X];exact d3
 by_cases Y:q.1.kind=3
 ·have hw:=L (by omega);unfold a1l at a⊢;rw[f_ w,f_ G,f_ X,n_ Y]at a⊢;unfold doT;rw[f_ w,f_ G,f_ X,n_ Y];rw[d]at a⊢;generalize Af:x.pc+q.1.parts.length+1=P1 at a⊢;generalize hF:u P1 loops q.2.1=F at a⊢;generalize Ag:P1+F.length+1=n at a⊢;generalize hS:u n loops q.2.2=S at a⊢;obtain⟨A,E,v,f,N,P⟩:=a8w (fs:=fs) H.parts (hh (by omega)) a.left D;have g:=a.right;rw[d,←v]at g;have J:Kept loops x A:=Kept.of fun i b I=>P i (by omega)
  have z:=a3e (l:=l) (fs:=fs) (s:=A) g.head (by simp);have Aa:=g.tail.left;have hJ:=g.tail.right.head;have T:=g.tail.right.tail;rw[v,Af]at Aa hJ T;rw[Ag]at T;have Ab:x.pc+(a0F q.1.parts 35++(⟨13,35,(n:Nat),(n+S.length:Nat)⟩::(F++(⟨12,(n+S.length:Nat),0,0⟩::S)))).length=n+S.length:=by
   simp only[x_,B_,d];omega
  rw[Ab];have e:a0m ⟨13,35,(n:Nat),(n+S.length:Nat)⟩ fs A= { A with pc:=if(a1O s.1 q.1.parts).fault≠0 then n+S.length else if(a1O s.1 q.1.parts).num=0 then n else A.pc+1 } :=by
   unfold a0m XS.reg;simp only;rw[f_ (by decide),f_ (by decide),f_ (by decide),f_ (by decide),f_ (by decide),n_ trivial,show(35:Int).toNat=35 by rfl,N];simp only[W_]
  rw[e]at z;by_cases f0:(a1O s.1 q.1.parts).fault≠0
  ·rw[n_ f0]at z⊢;exact⟨_,_,by omega,a04 _ _ _ _ _ E z,rfl,⟨f.len,f.all,f.names,f.notes⟩,⟨J.low,J.one⟩⟩
  rw[f_ f0]at z⊢;by_cases O:(a1O s.1 q.1.parts).num=0
  ·rw[n_ O]at z;rw[f_ (by simpa using O)];obtain⟨k,M,V,C,o,t,R⟩:=hg l fs q.2.2 n loops { A with pc:=n } s h2 (by omega) (by rw[hS];exact T) ⟨f.len,f.all,f.names,f.notes⟩ rfl;rw[hS]at o;exact⟨_,M,by omega,a04 _ _ _ _ _ (a04 _ _ _ _ _ E z) C,o,t,J.trans ⟨R.low,R.one⟩⟩
  ·rw[f_ O]at z;rw[n_ O];obtain⟨k,M,V,C,o,t,R⟩:=hg l fs q.2.1 P1 loops { A with pc:=A.pc+1 } s h1 (by omega) (by rw[hF];exact Aa) ⟨f.len,f.all,f.names,f.notes⟩ (by simp only;omega);rw[hF]at o;have t3:=a3e (l:=l) (fs:=fs) (s:=M) (x:=⟨12,(n+S.length:Nat),0,0⟩) (by rw[o];exact hJ) (by simp);have Y:a0m ⟨12,(n+S.length:Nat),0,0⟩ fs M= { M with pc:=n+S.length } :=by
    unfold a0m;simp only;rw[f_ (by decide),f_ (by decide),f_ (by decide),f_ (by decide),n_ trivial,W_]
   rw[Y]at t3;exact⟨_,_,by omega,a04 _ _ _ _ _ (a04 _ _ _ _ _ (a04 _ _ _ _ _ E z) C) t3,rfl,⟨t.len,t.all,t.names,t.notes⟩,J.trans ⟨R.low,R.one⟩⟩
 ·have e4:q.1.kind=4:=by omega
  have hw:a1y wk q=1+q.1.count.toNat*(1+wk q.2.1):=by unfold a1y;rw[n_ e4]
  have Al:=H.once e4;have Aj:=H.count;unfold a1l at a⊢;rw[f_ w,f_ G,f_ X,f_ Y]at a⊢;unfold doT;rw[f_ w,f_ G,f_ X,f_ Y];obtain⟨c,Ai⟩:∃c:Nat,q.1.count.toNat=c+1:=⟨q.1.count.toNat-1,by omega⟩
  have Ah:q.1.count=((c+1:Nat):Int):=by omega
  rw[Ai]at hw⊢;generalize hB:u (x.pc+2) (loops+1) q.2.1=B at a⊢;have z:=a3e (l:=l) (fs:=fs) (s:=x) a.head (by simp);have Ac:a0m ⟨1,26,1,0⟩ fs x=⟨x.regs.set 26 ⟨1,0⟩,x.notes,x.pc+1⟩:=by
   unfold a0m XS.give;simp only;rw[n_ trivial];rfl
  rw[Ac]at z;have t2:=a3e (l:=l) (fs:=fs) (s:=⟨x.regs.set 26 ⟨1,0⟩,x.notes,x.pc+1⟩) a.tail.head (by simp);have Ad:a0m ⟨1,(27+loops:Nat),q.1.count,0⟩ fs ⟨x.regs.set 26 ⟨1,0⟩,x.notes,x.pc+1⟩=⟨(x.regs.set 26 ⟨1,0⟩).set (27+loops) ⟨q.1.count,0⟩,x.notes,x.pc+1+1⟩:=by
   unfold a0m XS.give;simp only;rw[n_ trivial];rw[W_]
  rw[Ad]at t2;have Am:(x.regs.set 26 (⟨1,0⟩:Vl)).length=100:=by simp[D.len]
  have g2:∀i,((x.regs.set 26 (⟨1,0⟩:Vl)).set (27+loops) ⟨q.1.count,0⟩).getD i vl0=if 27+loops=i then⟨q.1.count,0⟩else if 26=i then⟨1,0⟩else x.regs.getD i vl0:=by
   intro i;rw[a36 (by omega),a36 (by rw[D.len];omega)]
  have y:=a.tail.tail;rw[show x.pc+1+1=x.pc+2 from rfl]at y t2;obtain⟨k,Z,V,C,o,t,R⟩:=b31 hg (l:=l) (fs:=fs) (r:=q.2.1) (p:=x.pc+2) (loops:=loops) h1 (by omega) (by rw[hB];exact y) (by omega) c ⟨(x.regs.set 26 ⟨1,0⟩).set (27+loops) ⟨q.1.count,0⟩,x.notes,x.pc+2⟩ s ⟨by simp[D.len],D.all,fun i I=>by simp only;rw[g2,f_ (by omega),f_ (by omega)];exact D.names i I,D.notes⟩ rfl (by simp only;rw[g2,n_ rfl,Ah]) (by omega) (by simp only;rw[g2,f_ (by omega),n_ rfl]);rw[hB]at o;have Ak:(c+1)*(3*wk q.2.1+3)=3*((c+1)*(1+wk q.2.1)):=by
   rw[show 3*wk q.2.1+3=3*(1+wk q.2.1)by omega,Nat.mul_left_comm]
  refine⟨1+1+k,Z,by omega,a04 _ _ _ _ _ (a04 _ _ _ _ _ z t2) C,?_,t,?_⟩
  ·rw[o];simp only[x_,B_,a_r];omega
  ·refine Kept.trans ⟨fun j hj=> ?_,fun _=> ?_⟩ R
   ·simp only;rw[g2,f_ (by omega),f_ (by omega)]
   ·simp only;rw[g2,f_ (by omega),n_ rfl]
def a9B(n:Nat):List (RT n)→Prop:=
 match n with
 |0=>fun _=>True
 |n+1=>fun l=>∀q∈(l:List (a0C×List (RT n)×List (RT n))),(q.1.kind≠4→Hg 34 q.1.parts)∧a9B n q.2.1∧a9B n q.2.2
theorem b5Y:∀(n:Nat),n≤9→b4j (fun l=>a0v n l∧a9B n l) (a0z n) (a0P n) (doF n) (9-n)
 |0,_=>by
  intro l fs r p loops x s a i c h g;exact⟨0,x,a_j _,rfl,g,h,Kept.refl _ _⟩
 |n+1,hn=>by
  have D:=b5Y n (by omega);intro l fs r;induction (r:List (a0C×List (RT n)×List (RT n)))with
  |nil=>
   intro p loops x s a i c h g;exact⟨0,x,a_j _,rfl,g,h,Kept.refl _ _⟩
  |cons q r ihr=>
   intro p loops x s a i c h g;have j:=a.1.2 q (by simp);have d:=a.2 q (by simp);have b:AtP l p (a1l (a0P n) p loops q++a4C (a0P n) (p+(a1l (a0P n) p loops q).length) loops r):=c;obtain⟨E,G,I,o,t,u,v⟩:=c2S (ok:=fun l=>a0v n l∧a9B n l) (wk:=a0z n) (act:=doF n) (m:=9-(n+1)) (by rw[show 9-(n+1)+1=9-n by omega];exact D) l fs q p loops x s j.1 d.1 ⟨j.2.1,d.2.1⟩ ⟨j.2.2,d.2.2⟩ i (by omega) b.left h g;have f:a0v (n+1) r∧a9B (n+1) r:=by
    refine⟨⟨?_,fun y k=>a.1.2 y (a_0 _ k)⟩,fun y k=>a.2 y (a_0 _ k)⟩;have C:=a.1.1;simp at C;omega
   obtain⟨F,H,J,w,z,A,B⟩:=ihr (p+(a1l (a0P n) p loops q).length) loops G _ f i b.right u t;refine⟨E+F,H,?_,a04 _ _ _ _ _ o w,?_,A,v.trans B⟩
   ·have e:a0z (n+1) (q::r)=a1y (a0z n) q+a0z (n+1) r:=a6p ..;rw[e];omega
   ·rw[z];show _=p+(a1l (a0P n) p loops q++a4C (a0P n) (p+(a1l (a0P n) p loops q).length) loops r).length;rw[x_];show p+(a1l (a0P n) p loops q).length+(a4C (a0P n) (p+(a1l (a0P n) p loops q).length) loops r).length=_;omega
structure a62(N:Nat)(x:Ic):Prop where
 fit:a0I x N=true
 noin:x.op≠11
 lo: -9223372036854775808≤x.b
 hi:x.b≤9223372036854775807
theorem a4t{a n:Int}(b:0≤a)(c:a<n):bel a n=true:=by simp[bel,b,c]
theorem b2S{N:Nat}{a b:Int}(c:0≤a)(d:a<100)(f: -9223372036854775808≤b)(e:b≤9223372036854775807):a62 N ⟨1,a,b,0⟩:=
 ⟨by simp[a0I,a4t c d],by simp,f,e⟩
theorem b0u{N:Nat}{c a b:Int}(h:c=2∨c=3)(f:0≤a)(g:a<100)(d:0≤b)(e:b<100):a62 N ⟨c,a,b,0⟩:=by
 refine⟨?_,by simp only;omega,by simp only;omega,by simp only;omega⟩;unfold a0I;simp only;rw[f_ (by omega),f_ (by omega),n_ h,a4t f g,a4t d e];rfl
theorem b9z{N:Nat}{d a b c:Int}(i:4≤d∧d≤10)(g:0≤a)(h:a<100)(e:0≤b)(f:b<100)(j:0≤c)(k:c<100):a62 N ⟨d,a,b,c⟩:=by
 refine⟨?_,by simp only;omega,by simp only;omega,by simp only;omega⟩;unfold a0I;simp only;rw[f_ (by omega),f_ (by omega),f_ (by omega),n_ i,a4t g h,a4t e f,a4t j k];rfl
theorem b5j{N a:Nat}(h:a<N)(b:N≤1000000):a62 N ⟨12,(a:Nat),0,0⟩:=
 ⟨by simp[a0I,a4t (show(0:Int)≤(a:Int)by omega) (show(a:Int)<(N:Int)by omega)],by simp,by simp,by simp⟩
theorem b5l{N b c:Nat}{a:Int}(d:0≤a)(e:a<100)(g:b<N)(h:c<N)(f:N≤1000000):a62 N ⟨13,a,(b:Nat),(c:Nat)⟩:=
 ⟨by simp[a0I,a4t d e,a4t (show(0:Int)≤(b:Int)by omega) (show(b:Int)<(N:Int)by omega),a4t (show(0:Int)≤(c:Int)by omega) (show(c:Int)<(N:Int)by omega)],by simp,by simp only;omega,by simp only;omega⟩
theorem b5k{N p l:Nat}{a:Int}(b:a=14∨a=15)(d:p≤400)(c:l<16):a62 N ⟨a,(p:Nat),(l:Nat),35⟩:=by
 refine⟨?_,by simp only;omega,by simp only;omega,by simp only;omega⟩;unfold a0I;simp only;rw[f_ (by omega),f_ (by omega),f_ (by omega),f_ (by omega),f_ (by omega),f_ (by omega),f_ (by omega),n_ b,a4t (by omega) (by omega),a4t (by omega) (by omega),a4t (by omega) (by omega)];rfl
theorem a9j{N:Nat} :∀(P:List Pt) (k c:Nat),(∀p∈P,a6K p)→(∀p∈P,a2q p)→k≤65→a5c 65 P k=some c→∀x∈a0F P (35+k),a62 N x
 | [],k,c,_,_,_,_=>fun x a=>absurd a (by simp[a0F])
 |p::r,k,c,h1,h2,hk,hr=>by
  have m:=h1 p (by simp);have l:=h2 p (by simp);have h:∀p∈r,a6K p:=fun q g=>h1 q (by simp[g])
  have i:∀p∈r,a2q p:=fun q g=>h2 q (by simp[g])
  unfold a5c at hr;unfold a0F;by_cases b:p.op=1∨p.op=2
  ·rw[n_ b]at hr⊢
   split at hr
   ·rename_i f;have d:=a9j (N:=N) r (k+1) c h i (by omega) hr;intro x a;rcases X_.mp a with rfl|a
    ·rcases b with e|e
     ·rw[e];exact b2S (by omega) (by omega) l.1 l.2
     ·rw[e];have:=m e;exact b0u (.inl rfl) (by omega) (by omega) (by omega) (by omega)
    ·rw[show(35:Int)+(k:Int)+1=35+((k+1:Nat):Int)by omega]at a;exact d x a
   ·cases hr
  rw[f_ b]at hr⊢;by_cases j:p.op=3
  ·rw[n_ j]at hr⊢
   split at hr
   ·rename_i f;have d:=a9j (N:=N) r k c h i hk hr;intro x a;rcases X_.mp a with rfl|a
    ·exact b0u (.inr rfl) (by omega) (by omega) (by omega) (by omega)
    ·exact d x a
   ·cases hr
  ·rw[f_ j]at hr⊢
   split at hr
   ·rename_i f;have d:=a9j (N:=N) r (k-1) c h i (by omega) hr;intro x a;rcases X_.mp a with rfl|a
    ·exact b9z f.2 (by omega) (by omega) (by omega) (by omega) (by omega) (by omega)
    ·rw[show(35:Int)+(k:Int)-1=35+((k-1:Nat):Int)by omega]at a;exact d x a
   ·cases hr
def b9r{α:Type}(ok:List α→Prop)(b:Nat→Nat→List α→List Ic)(m:Nat):Prop:=
 ∀(r:List α) (p a N:Nat),ok r→a≤m→p+(b p a r).length<N→N≤1000000→∀x∈b p a r,a62 N x
theorem c2N{α:Type}{ok:List α→Prop}{d:Nat→Nat→List α→List Ic}{m:Nat}(n:b9r ok d (m+1))(q:a0C×List α×List α)(p loops N:Nat)(e:a1j q.1)(G:q.1.kind≠4→Hg 34 q.1.parts)(J:∀p∈q.1.parts,a2q p)(v:ok q.2.1)(C:ok q.2.2)(L:loops≤m)(I:m≤8)(c:p+(a1l d p loops q).length<N)(b:N≤1000000):∀x∈a1l d p loops q,a62 N x:=by
 obtain⟨M,O⟩:=e.kind;have i:q.1.kind≠4→∀x∈a0F q.1.parts 35,a62 N x:=fun H=>by
  have:=a9j (N:=N) q.1.parts 0 1 e.parts J (by omega) (G H 65 0 (by omega));simpa using this
 have g:=a5T q.1.parts 35;have h:=e.place;have f:=e.label;unfold a1l at c⊢;by_cases k:q.1.kind=0
 ·obtain⟨o,r⟩:=e.name (.inl k);rw[n_ k];intro x a;rcases G_.mp a with a|a
  ·exact i (by omega) x a
  ·rw[a_A]at a;subst a;exact b0u (.inl rfl) o (by omega) (by omega) (by omega)
 rw[f_ k]at c⊢;by_cases l:q.1.kind=1
 ·obtain⟨o,r⟩:=e.name (.inr l);rw[n_ l];intro x a;rcases G_.mp a with a|a
  ·exact i (by omega) x a
  ·rcases X_.mp a with rfl|a
   ·exact b0u (.inl rfl) o (by omega) (by omega) (by omega)
   ·rw[a_A]at a;subst a;exact b5k (.inr rfl) h f
 rw[f_ l]at c⊢;by_cases t:q.1.kind=2
 ·rw[n_ t];intro x a;rcases G_.mp a with a|a
  ·exact i (by omega) x a
  ·rw[a_A]at a;subst a;exact b5k (.inl rfl) h f
 rw[f_ t]at c⊢;by_cases u:q.1.kind=3
 ·rw[n_ u]at c⊢;rw[g]at c⊢;generalize D:p+q.1.parts.length+1=j at c⊢;generalize y:d j loops q.2.1=F at c⊢;generalize E:j+F.length+1=s at c⊢;generalize z:d s loops q.2.2=S at c⊢;simp only[x_,B_,g]at c;intro x a;rcases G_.mp a with a|a
  ·exact i (by omega) x a
  rcases X_.mp a with rfl|a
  ·exact b5l (by omega) (by omega) (by omega) (by omega) b
  rcases G_.mp a with a|a
  ·exact n q.2.1 j loops N v (by omega) (by rw[y];omega) b x (by rw[y];exact a)
  rcases X_.mp a with rfl|a
  ·exact b5j (by omega) b
  ·exact n q.2.2 s loops N C (by omega) (by rw[z];omega) b x (by rw[z];exact a)
 ·rw[f_ u]at c⊢;have A:=e.count;generalize w:d (p+2) (loops+1) q.2.1=B at c⊢;simp only[x_,B_,a_r]at c;intro x a;rcases X_.mp a with rfl|a
  ·exact b2S (by omega) (by omega) (by omega) (by omega)
  rcases X_.mp a with rfl|a
  ·exact b2S (by omega) (by omega) (by omega) (by omega)
  rcases G_.mp a with a|a
  ·exact n q.2.1 (p+2) (loops+1) N v (by omega) (by rw[w];omega) b x (by rw[w];exact a)
  rcases X_.mp a with rfl|a
  ·exact b9z (by omega) (by omega) (by omega) (by omega) (by omega) (by omega) (by omega)
  rcases X_.mp a with rfl|a
  ·exact b5l (by omega) (by omega) (by omega) (by omega) b
  ·rw[a_A]at a;subst a;exact b5j (by omega) b
theorem b33:∀(n:Nat),n≤9→b9r (fun l=>a0v n l∧a9B n l∧a05 n l) (a0P n) (9-n)
 |0,_=>fun r p loops N _ _ _ _ x f=>absurd f (by simp[a0P])
 |n+1,hn=>by
  have s:=b33 n (by omega);intro r;induction (r:List (a0C×List (RT n)×List (RT n)))with
  |nil=>intro p loops N _ _ _ _ x f;exact absurd f (by simp[a0P,a4C])
  |cons q r ihr=>
   intro p loops N a j k e x f;have i:=a.1.2 q (by simp);have c:=a.2.1 q (by simp);have d:=a.2.2 q (by simp);have b:x∈a1l (a0P n) p loops q++a4C (a0P n) (p+(a1l (a0P n) p loops q).length) loops r:=f;have h:p+(a1l (a0P n) p loops q++a4C (a0P n) (p+(a1l (a0P n) p loops q).length) loops r).length<N:=k;rw[x_]at h;rcases G_.mp b with b|b
   ·exact c2N (ok:=fun l=>a0v n l∧a9B n l∧a05 n l) (m:=9-(n+1)) (by rw[show 9-(n+1)+1=9-n by omega];exact s) q p loops N i.1 c.1 d.1 ⟨i.2.1,c.2.1,d.2.1⟩ ⟨i.2.2,c.2.2,d.2.2⟩ j (by omega) (by omega) e x b
   ·refine ihr (p+(a1l (a0P n) p loops q).length) loops N ⟨⟨?_,fun y g=>a.1.2 y (a_0 _ g)⟩,fun y g=>a.2.1 y (a_0 _ g),fun y g=>a.2.2 y (a_0 _ g)⟩ j ?_ e x b
    ·have o:=a.1.1;simp at o;omega
    ·show p+(a1l (a0P n) p loops q).length+(a4C (a0P n) (p+(a1l (a0P n) p loops q).length) loops r).length<N;omega
theorem b1m{C:List UInt8}{A:List Int} :∀(n:Nat) (l:List (RT n)) (lo hi p loops:Nat),a3i C A n lo hi l→(a0P n p loops l).length≤2*(hi-lo)
 |0,l,lo,hi,p,loops,_=>by simp[a0P]
 |n+1,l,lo,hi,p,loops,h=>by
  have v:∀(l:List (a0C×List (RT n)×List (RT n))) (lo p:Nat),a7r (fun i o q=>a49 C A (a3i C A n) i o q) lo hi l→(a4C (a0P n) p loops l).length≤2*(hi-lo):=by
   intro l;induction l with
   |nil=>intro lo p _;simp[a4C]
   |cons q r ih=>
    intro lo p h;obtain⟨L,o,a,x⟩:=h;obtain⟨e,H,I,J,S,_,_,_⟩:=a.rest;obtain⟨m,y,g,t⟩:=a.blocks;obtain⟨c,G,j,z,B,D⟩:=a.byte;have R:=a8M a.over H y;have M:=a07 a.over;have N:=(a6c r o _ (fun i o q O=>a07 O.over) x).1;have X:=ih o (p+(a1l (a0P n) p loops q).length) x;have P:=b27 C e.lo e.hi;have F:=fun p loops=>b1m n q.2.1 m.p m.q p loops g
    have U:=fun p loops=>b1m n q.2.2 m.r m.s p loops t
    have b:=a5T q.1.parts 35;have E:(a1l (a0P n) p loops q).length≤2*(o-lo):=by
     unfold a1l
     split
     ·simp[b];omega
     split
     ·simp[b];omega
     split
     ·simp[b];omega
     split
     ·have w:=F (p+q.1.parts.length+1) loops;rw[b];have V:=U (p+q.1.parts.length+1+(a0P n (p+q.1.parts.length+1) loops q.2.1).length+1) loops;simp only[x_,B_,b];omega
     ·rename_i Y Z k2 k3;have w:=F (p+2) (loops+1);have T:q.1.kind=4:=by
       have:=a.kind;omega
      have u:=c5C g;have d:C[lo]'(a2A a.over)=42:=by
       have:=j.mpr T;subst this;exact(k_.mp G).2
      have k:=a.over;rw[a5f (a2A a.over),f_ (by rw[d];decide),n_ d]at k;cases k;have f:=y;rw[a2a a.over (a2A a.over),f_ (by rw[d];decide),n_ d,n_ rfl]at f;cases f;simp only at w u;simp only[x_,B_,a_r];omega
    show(a1l (a0P n) p loops q++a4C (a0P n) (p+(a1l (a0P n) p loops q).length) loops r).length≤_;rw[x_];omega
  exact v l lo p h
theorem b6S{C:List UInt8}{A:List Int} :∀(n:Nat) (l:List (RT n)) (lo hi:Nat),a3i C A n lo hi l→a9B n l
 |0,l,lo,hi,_=>trivial
 |n+1,l,lo,hi,h=>by
  have f:∀(l:List (a0C×List (RT n)×List (RT n))) (lo:Nat),a7r (fun i o q=>a49 C A (a3i C A n) i o q) lo hi l→∀q∈l,(q.1.kind≠4→Hg 34 q.1.parts)∧a9B n q.2.1∧a9B n q.2.2:=by
   intro l;induction l with
   |nil=>intro lo _ q p;cases p
   |cons q r ih=>
    intro lo h y d;obtain⟨m,o,g,j⟩:=h;rcases X_.mp d with rfl|d
    ·obtain⟨u,s,a,b⟩:=g.blocks;refine⟨fun k=> ?_,b6S n _ _ _ a,b6S n _ _ _ b⟩;obtain⟨e,_,t,c⟩:=g.val k;exact c.2
    ·exact ih o j y d
  exact f l lo h
theorem b5d:∀(n:Nat) (l:List Int),l.Nodup→(∀x∈l,0≤x∧x<n)→l.length≤n
 |0,l,_,h=>by
  cases l with
  |nil=>simp
  |cons x r=>exact absurd (h x (by simp)) (by omega)
 |n+1,l,hd,h=>by
  have c:=b5d n (l.filter (fun x=>decide (x≠(n:Int)))) (hd.filter _) (fun x d=>by
   have:=List.mem_filter.mp d;have g:=h x this.1;have i:x≠(n:Int):=by simpa using this.2
   omega)
  have j:l.length≤(l.filter (fun x=>decide (x≠(n:Int)))).length+1:=by
   clear c h;induction l with
   |nil=>simp
   |cons x r ih=>
    have a:=List.nodup_cons.mp hd;by_cases e:x=(n:Int)
    ·have:r.filter (fun x=>decide (x≠(n:Int)))=r:=by
      rw[List.filter_eq_self];intro y f;simp;intro b;exact a.1 (by rw[e,←b];exact f)
     rw[List.filter_cons_of_neg (by simp[e]),this];simp
    ·rw[List.filter_cons_of_pos (by simp[e])];simp only[B_];have:=ih a.2;omega
  omega
theorem b2A:∀(l c:List Hd),a1N c l=none→(l.map (·.name)).Nodup∧∀h∈l,∀g∈c,g.name≠h.name
 | [],c,_=>⟨by simp,fun h j=>by cases j⟩
 |h::r,c,ht=>by
  rw[a6C]at ht
  split at ht
  ·cases ht
  ·rename_i m;obtain⟨a,b⟩:=b2A r (c++ [h]) ht;have d:∀g∈c,g.name≠h.name:=by
    intro g e f;apply m;unfold a4V;rw[List.any_eq_true];exact⟨g,e,by simpa using f⟩
   refine⟨?_,fun x i g e=> ?_⟩
   ·rw[List.map_cons,List.nodup_cons];refine⟨fun k=> ?_,a⟩;obtain⟨y,n,f⟩:=b_m.mp k;exact b y n h (by simp) f.symm
   ·rcases X_.mp i with rfl|i
    ·exact d g e
    ·exact b x i g (by simp[e])
theorem c15{l:List Hd}(h:a1N [] l=none)(a:∀h∈l,0≤h.name∧h.name<26):l.length≤26:=by
 have:=b5d 26 (l.map (·.name)) (b2A l [] h).1 (fun x b=>by
  obtain⟨y,c,rfl⟩:=b_m.mp b;exact a y c)
 simpa using this
theorem a9D:∀(l:List Hd) (k:Nat),(a1n l k).length=a1s l
 | [],k=>rfl
 |h::r,k=>by
  unfold a1n;rw[a7S]
  split
  ·rename_i e;simp[e,a9D r (k+1)];omega
  ·rename_i e;simp[e,a9D r k]
theorem a8V{N:Nat} :∀(l:List Hd) (k:Nat),(∀h∈l,0≤h.name∧h.name<26)→k+a1s l≤26→∀x∈a1n l k,a0I x N=true∧x.op=11∧0≤x.b∧x.b<k+a1s l
 | [],k,_,_=>fun x a=>absurd a (by simp[a1n])
 |h::r,k,hn,hk=>by
  have d:=hn h (by simp);have c:∀h∈r,0≤h.name∧h.name<26:=fun y f=>hn y (by simp[f])
  unfold a1n;rw[a7S]at hk⊢
  split
  ·rename_i e;rw[n_ e]at hk;intro x a;rcases X_.mp a with rfl|a
   ·refine⟨?_,rfl,by simp only;omega,by simp only;omega⟩;simp[a0I,a4t d.1 (show h.name<100 by omega),a4t (show(0:Int)≤(k:Int)by omega) (show(k:Int)<26 by omega)]
   ·have:=a8V (N:=N) r (k+1) c (by omega) x a;refine⟨this.1,this.2.1,this.2.2.1,by omega⟩
  ·rename_i e;rw[f_ e]at hk;intro x a;have:=a8V (N:=N) r k c (by omega) x a;refine⟨this.1,this.2.1,this.2.2.1,by omega⟩
theorem b0o{l:List Ic}{fs:List Int}{M:List Nt} :∀(b:List Hd) (k:Nat) (x:XS) (a:List Vl),(∀h∈b,0≤h.name∧h.name<26)→AtP l x.pc (a1n b k)→k+a1s b≤fs.length→Rel (a,M) x→
  ∃f,a4z l fs (a1s b) x f∧f.pc=x.pc+a1s b∧Rel (a2d b (fs.drop k) a,M) f
 | [],k,x,a,_,_,_,hr=>⟨x,rfl,rfl,hr⟩
 |h::r,k,x,a,hn,hat,hk,hr=>by
  have v:=hn h (by simp);have d:∀h∈r,0≤h.name∧h.name<26:=fun y u=>hn y (by simp[u])
  unfold a1n at hat;rw[a7S]at hk⊢;cases e:h.field
  ·rw[e]at hat hk;simp only[D_,a_g]at hat hk⊢;rw[a69 e,a_m];exact b0o r k x a d hat (by omega) hr
  ·rw[e]at hat hk;simp only[a_b]at hat hk⊢;have c:k<fs.length:=by omega
   rw[u_ c,a8x e];have m:=a3e (l:=l) (fs:=fs) (s:=x) hat.head (by simp);have j:a0m ⟨11,h.name,(k:Int),0⟩ fs x=⟨x.regs.set h.name.toNat ⟨fs[k],0⟩,x.notes,x.pc+1⟩:=by
    unfold a0m XS.give;simp only;rw[f_ (by decide),f_ (by decide),f_ (by decide),n_ trivial];simp[s_ c]
   rw[j]at m;have g:Rel (a.set h.name.toNat ⟨fs[k],0⟩,M) ⟨x.regs.set h.name.toNat ⟨fs[k],0⟩,x.notes,x.pc+1⟩:=by
    refine⟨by simp[hr.len],by have:=hr.all;simpa using this,fun i t=> ?_,hr.notes⟩;have q:=hr.all;simp only at q⊢;rw[a36 (by rw[hr.len];omega),a36 (l:=a) (by omega),hr.names i t]
   obtain⟨f,n,o,p⟩:=b0o (l:=l) (fs:=fs) (M:=M) r (k+1) ⟨x.regs.set h.name.toNat ⟨fs[k],0⟩,x.notes,x.pc+1⟩ _ d hat.tail (by omega) g;exact⟨f,a04 _ _ _ _ _ m n,by rw[o];simp only;omega,p⟩
theorem b8y{n:Nat}{e:Ic}(a:a4A e=true)(b:a0I e n=true):∀(l:List Ic) (k:Nat),(∀x∈l,a0I x n=true)→a4e n (l++ [e]) k=(0,0)
 | [],k,_=>by
  show(if a0I e n&&(!true||a4A e)then a4e n [] (k+1)else _)=_;rw[a,b];rfl
 |x::r,k,h=>by
  have c:=h x (by simp);have f:(r++ [e]).isEmpty=false:=by cases r<;>rfl
  show(if a0I x n&&(!(r++ [e]).isEmpty||a4A x)then a4e n (r++ [e]) (k+1)else _)=_;rw[c,f];exact b8y a b r (k+1) (fun y d=>h y (by simp[d]))
structure c3A(t:List UInt8):Prop where
 valid:a0x (a2e t)=(0,0)
 short:(a2e t).length≤2000
 bound:∀x∈a2e t,-9223372036854775808≤x.b∧x.b≤9223372036854775807
 few:a1s (a0t t).2≤26
 runs:∀fs:List Int,fs.length=a1s (a0t t).2→a1R (a2e t) fs=(0,(a1L t fs).2)
theorem c3H(l:List Ic):AtP l 0 l:=fun i _=>by rw[a_m]
theorem b5i{t:List UInt8}(h:(a0s t).1=0):c3A t:=by
 obtain⟨hl,e,H,Ab,_⟩:=a5P h;have c:=a24 hl e;have u:=a7h t;obtain⟨_,B,Y,hH,J⟩:=(a6k t).2 e;have hB:=a5j Y;have hk:=a4F t;have m:∀x∈(a0t t).2,0≤x.name∧x.name<26:=fun x a=>⟨(c.heads x a).1,(c.heads x a).2.1⟩
 have y:=c15 H m;have A:a1s (a0t t).2≤26:=K_ (b_g _ _) y;have C:=a9D (a0t t).2 0;have r:=b6S 9 _ _ _ J;have Aa:=b1m 9 (a0n t).2 B (a0a t).length (a1n (a0t t).2 0).length 0 J;generalize o:a0P 9 (a1n (a0t t).2 0).length 0 (a0n t).2=G at*;generalize z:a1n (a0t t).2 0=F at*;have n:a2e t=F++(G++ [⟨0,0,0,0⟩]):=by unfold a2e;rw[z,o]
 have L:(a2e t).length=F.length+G.length+1:=by rw[n];simp;omega
 have j:(a2e t).length≤2000:=by omega
 have w:∀x∈F,a0I x (a2e t).length=true∧x.op=11∧0≤x.b∧x.b<0+a1s (a0t t).2:=by
  rw[←z];exact a8V (N:=(a2e t).length) (a0t t).2 0 m (by omega)
 have v:∀x∈G,a62 (a2e t).length x:=by
  have:=b33 9 (by omega) (a0n t).2 F.length 0 (a2e t).length ⟨c.tree,r,u⟩ (by omega) (by rw[o];omega) (by omega);rw[o]at this;exact this
 have g:a0x (a2e t)=(0,0):=by
  unfold a0x;rw[f_ (by omega),f_ (by omega)];have V:a2e t=(F++G)++ [⟨0,0,0,0⟩]:=by rw[n];simp
  generalize hN:(a2e t).length=N at*;rw[V];refine b8y (by rfl) (by rfl) _ _ (fun x a=> ?_);rcases G_.mp a with a|a
  ·exact(w x a).1
  ·exact(v x a).fit
 refine⟨g,j,fun x a=> ?_,A,fun fs D=> ?_⟩
 ·rw[n]at a;rcases G_.mp a with a|a
  ·have:=w x a;omega
  rcases G_.mp a with a|a
  ·exact⟨(v x a).lo,(v x a).hi⟩
  ·rw[a_A]at a;subst a;simp
 ·have q:a5d (a2e t) fs.length=true:=by
   unfold a5d;rw[b_n];intro x a;rw[n]at a;rcases G_.mp a with a|a
   ·have:=w x a;have X:¬((fs.length:Int)≤x.b):=by omega
    simp[X]
   rcases G_.mp a with a|a
   ·have:=(v x a).noin;simp[this]
   ·rw[a_A]at a;subst a;simp
  have p:AtP (a2e t) 0 (F++(G++ [⟨0,0,0,0⟩])):=by
   have:=c3H (a2e t);rw[n]at this⊢;exact this
  have r0:Rel (a1x,[]) x0:=⟨by simp[x0,a5q],by simp[a1x],fun i Z=>by simp only[x0,a5q,a1x,t_];rw[List.getElem?_replicate,List.getElem?_replicate,n_ (by omega),n_ Z],rfl⟩
  obtain⟨O,P,R,S⟩:=b0o (l:=a2e t) (fs:=fs) (M:= []) (a0t t).2 0 x0 a1x m (by rw[z];exact p.left) (by omega) r0;have E:O.pc=F.length:=by rw[R,C];show 0+_=_;omega
  have d:AtP (a2e t) F.length (G++ [⟨0,0,0,0⟩]):=by have:=p.right;rwa[a_m]at this
  obtain⟨k,x2,b1,T,I,U,b5⟩:=b5Y 9 (by omega) (a2e t) fs (a0n t).2 F.length 0 O _ ⟨c.tree,r⟩ (by omega) (by rw[o];exact d.left) S E;rw[o]at I;have f:=d.right.head;rw[←I]at f;have a:a2X (a2e t) fs 50000 x0=some x2.notes:=by
   have s:=a04 _ _ _ _ _ P T;rw[show 50000=(a1s (a0t t).2+k)+((50000-(a1s (a0t t).2+k)-1)+1)by omega,b38 _ _ _ _ s];unfold a2X;rw[f,n_ rfl]
  unfold a1R;rw[f_ (by rw[g];simp),n_ q,a];simp only;rw[U.notes];unfold a1L;rw[f_ (by simpa using h),f_ (by simpa using D)];simp
end Go.Proofs.YtdgmoiflahoihaaGreatDoor
