import Derived.Test.YtdgmoiflahoihaaGreatDoorRUPw

set_option linter.unusedSimpArgs false
set_option linter.unusedVariables false
set_option maxRecDepth 100000
set_option maxHeartbeats 8000000
namespace Go.Proofs.YtdgmoiflahoihaaGreatDoor
def a4W:List UInt8→Int→Int
 | [],n=>n
 |c::l,n=>a4W l (10*n+((c.toNat:Int)-48))
def a3v(C:List UInt8)(names:List Vl):Nat→Nat→Nat→Option Vl
 |0,_,_=>none
 |f+1,lo,hi=>
  if hi≤lo then none
  else if 0≤a1c C lo hi then
   match a3v C names f lo (a1c C lo hi).toNat,a3v C names f ((a1c C lo hi).toNat+1) hi,C[(a1c C lo hi).toNat]? with
   |some x,some y,some c=>some (opC c x y)
   |_,_,_=>none
  else
   match C[lo]? with
   |none=>none
   |some c=>
    if c==45 then(match a3v C names f (lo+1) hi with|some x=>some (opC 45 ⟨0,0⟩ x)|none=>none)
    else if c==40 then a3v C names f (lo+1) (hi-1)
    else if nmB c then some (names.getD (c.toNat-97) vl0)
    else if(seg C lo hi).all dgB&&decide (hi≤lo+18)then some ⟨a4W (seg C lo hi) 0,0⟩else none
theorem a9w:∀(a b:List UInt8) (i:Nat) (s:Sp),a1b (a++b) i s=a1b b (i+a.length) (a1b a i s)
 | [],b,i,s=>by simp[a1b]
 |c::l,b,i,s=>by
  simp only[O_,a1b,a9w l b,B_];congr 1;omega
theorem a8F{C:List UInt8}{i j:Nat}(h:j≤C.length):(seg C i j).length=j-i:=by unfold seg;simp;omega
def a4b(s:Option (Nat×Nat))(b:Int)(r:Nat):Int×Nat:=
 match s with
 |none=>(b,r)
 |some (k,q)=>if r≤q then((k:Int),q)else(b,r)
structure Ev(C:List UInt8)(i j:Nat)(s:Option (Nat×Nat))(P:List Pt):Prop where
 lt:i<j
 le:j≤C.length
 scan:∀b r,a1b (seg C i j) i ⟨0,false,b,r⟩=⟨0,true,(a4b s b r).1,(a4b s b r).2⟩
 deep:∀d p b r,1≤d→a1b (seg C i j) i ⟨d,p,b,r⟩=⟨d,true,b,r⟩
 val:∃v:List Vl→Vl,(∀names f,j-i≤f→a3v C names f i j=some (v names))∧∀names st,a3s names P st=st++ [v names]
theorem a9q(names:List Vl):∀(P Q:List Pt) (st:List Vl),a3s names (P++Q) st=a3s names Q (a3s names P st)
 | [],Q,st=>rfl
 |p::r,Q,st=>a9q names r Q _
theorem Ev.bin{C:List UInt8}{i k j q:Nat}{c:UInt8}{m:Int}{s u:Option (Nat×Nat)}{P Q:List Pt}(a:Ev C i k s P)(b:Ev C (k+1) j u Q)(U:C[k]? =some c)(hq:a1f c=q)(N:0<q)
  (Y:∀x,s=some x→x.2≤q) (hu:∀x,u=some x→x.2<q) (n:c≠40∧c≠41∧a2t c=false) (M:∀x y,opC c x y=opV m x y) (L:m≠1∧m≠2∧m≠3):Ev C i j (some (k,q)) (P++Q++ [⟨m,0⟩]):=by
 have ha:=a.lt;have hb:=b.lt;have S:seg C i j=seg C i k++(c::seg C (k+1) j):=by
  rw[a6m (show i≤k by omega) (show k≤j by omega)];congr 1;rw[a25 (show k<j by omega) b.le];obtain⟨D,E⟩:=k_.mp U;rw[E]
 have T:(seg C i k).length=k-i:=a8F a.le;have V:∀d,a2m c d=d:=fun d=>by simp[a2m,n.1,n.2.1]
 have l:∀g r,a1b (seg C i j) i ⟨0,false,g,r⟩=⟨0,true,(a4b (some (k,q)) g r).1,(a4b (some (k,q)) g r).2⟩:=by
  intro g r;rw[S,a9w,a.scan,T];simp only[a1b];rw[show i+(k-i)=k by omega];have t:a2l ⟨0,true,(a4b s g r).1,(a4b s g r).2⟩ k c=⟨0,false,(a4b (some (k,q)) g r).1,(a4b (some (k,q)) g r).2⟩:=by
   have X:(a4b s g r).2≤q↔r≤q:=by
    cases s with
    |none=>simp[a4b]
    |some x=>
     obtain⟨R,B⟩:=x;have:=Y _ rfl;simp only at this;simp only[a4b]
     split<;>simp<;>omega
   unfold a2l a3Z;simp only[V,hq,Int.le_refl,decide_true,a_J,N,n.2.2];by_cases o:r≤q
   ·have h9:=X.mpr o;generalize a4b s g r=z at*;simp[h9,a4b,o]
   ·have E:¬(a4b s g r).2≤q:=fun h=>o (X.mp h)
    have h3:a4b s g r=(g,r):=by
     cases s with
     |none=>rfl
     |some x=>
      obtain⟨R,B⟩:=x;have:=Y _ rfl;simp only at this;simp only[a4b];rw[f_ (by omega)]
    rw[h3]at E⊢;simp[o,a4b]
  rw[t,b.scan];have J:a4b u (a4b (some (k,q)) g r).1 (a4b (some (k,q)) g r).2=a4b (some (k,q)) g r:=by
   cases u with
   |none=>rfl
   |some x=>
    obtain⟨R,B⟩:=x;have:=hu _ rfl;simp only at this;show(if(a4b (some (k,q)) g r).2≤B then((R:Int),B)else _)=_;rw[f_];simp only[a4b]
    split<;>simp<;>omega
  rw[J]
 refine⟨by omega,b.le,l,fun d p g r D=> ?_,?_⟩
 ·rw[S,a9w,a.deep d p g r D,T];simp only[a1b];have t:a2l ⟨d,true,g,r⟩ (i+(k-i)) c=⟨d,false,g,r⟩:=by
   unfold a2l a3Z;simp only[V];rw[f_ (by simp;omega),n.2.2]
  rw[t,show i+(k-i)+1=k+1 by omega];exact b.deep d false g r D
 ·obtain⟨v,F,G⟩:=a.val;obtain⟨w,H,I⟩:=b.val;refine⟨fun e=>opV m (v e) (w e),fun e f hf=> ?_,fun e A=> ?_⟩
  ·cases f with
   |zero=>omega
   |succ f=>
    have O:a1c C i j=(k:Int):=by
     unfold a1c sp0;rw[l];simp[a4b]
    unfold a3v;rw[f_ (by omega),O];simp only[W_];rw[n_ (by omega),F e f (by omega),H e f (by omega),U];simp only[M]
  ·rw[a9q,a9q,G,I];show(a1w e ⟨m,0⟩ (A++ [v e]++ [w e])).2++ [(a1w e ⟨m,0⟩ (A++ [v e]++ [w e])).1]=_;have Z:a1w e ⟨m,0⟩ (A++ [v e]++ [w e])=(opV m (v e) (w e),A):=by
    unfold a1w;simp[L.1,L.2.1,L.2.2,a2F]
   rw[Z]
theorem b8d{s:Sp}{i:Nat}{c:UInt8}(f:a1f c=0)(a:a2m c s.d=s.d)(e:a2t c=true):a2l s i c=⟨s.d,true,s.b,s.r⟩:=by
 unfold a2l a3Z;rw[f_ (by simp[f]),a,e]
theorem b8e:∀(l:List UInt8) (i:Nat) (s:Sp),(∀c∈l,a1f c=0∧(∀d,a2m c d=d)∧a2t c=true)→l≠ []→a1b l i s=⟨s.d,true,s.b,s.r⟩
 | [],i,s,h,hn=>absurd rfl hn
 | [c],i,s,h,hn=>by
  obtain⟨a,b,d⟩:=h c (by simp);simp only[a1b];exact b8d a (b _) d
 |c::e::l,i,s,h,hn=>by
  obtain⟨a,b,d⟩:=h c (by simp);simp only[a1b];rw[b8d a (b _) d];exact b8e (e::l) (i+1) _ (fun x f=>h x (by simp[f])) (by simp)
theorem b0k{c:UInt8}(h:dgB c=true):a1f c=0∧(∀d,a2m c d=d)∧a2t c=true∧(c==45)=false∧(c==40)=false∧nmB c=false:=by
 have f:48≤c.toNat∧c.toNat≤57:=by simpa[dgB]using h
 have a:∀k:UInt8,(k.toNat<48∨57<k.toNat)→(c==k)=false:=by intro k b;simp;intro e;subst e;omega
 refine⟨?_,fun d=> ?_,by simp[a2t,h],a 45 (by decide),a 40 (by decide),by simp[nmB];omega⟩
 ·unfold a1f;rw[a 60 (by decide),a 61 (by decide),a 43 (by decide),a 45 (by decide),a 42 (by decide),a 47 (by decide),a 37 (by decide)];rfl
 ·unfold a2m;rw[a 40 (by decide),a 41 (by decide)];rfl
theorem c4C{c:UInt8}(h:nmB c=true):a1f c=0∧(∀d,a2m c d=d)∧a2t c=true∧(c==45)=false∧(c==40)=false:=by
 have f:97≤c.toNat∧c.toNat≤122:=by simpa[nmB]using h
 have a:∀k:UInt8,(k.toNat<97∨122<k.toNat)→(c==k)=false:=by intro k b;simp;intro e;subst e;omega
 refine⟨?_,fun d=> ?_,by simp[a2t,h],a 45 (by decide),a 40 (by decide)⟩
 ·unfold a1f;rw[a 60 (by decide),a 61 (by decide),a 43 (by decide),a 45 (by decide),a 42 (by decide),a 47 (by decide),a 37 (by decide)];rfl
 ·unfold a2m;rw[a 40 (by decide),a 41 (by decide)];rfl
theorem c6j{C:List UInt8}{i j:Nat}{p:UInt8→Prop}(g:j≤C.length)(h:∀k,i≤k→k<j→∃c,C[k]? =some c∧p c):∀c∈seg C i j,p c:=by
 intro c e;unfold seg at e;obtain⟨k,f,rfl⟩:=b_q e;simp at f;obtain⟨d,a,b⟩:=h (i+k) (by omega) (by omega);simp only[List.getElem_take,List.getElem_drop];have:C[i+k]? =some C[i+k]:=s_ (by omega);rw[a]at this;cases this;exact b
theorem c69{C:List UInt8}{i j:Nat}(h:i<j)(a:j≤C.length):seg C i j≠ []:=by rw[a25 h a];simp
theorem Ev.number{C:List UInt8}{i j:Nat}(g:i<j)(m:j≤C.length)(t:j≤i+18)(h:∀k,i≤k→k<j→∃c,C[k]? =some c∧dgB c=true):Ev C i j none [⟨1,a4W (seg C i j) 0⟩]:=by
 have a:=c6j m h;have n:∀s,a1b (seg C i j) i s=⟨s.d,true,s.b,s.r⟩:=fun s=>b8e _ i s (fun c l=>⟨(b0k (a c l)).1,(b0k (a c l)).2.1,(b0k (a c l)).2.2.1⟩) (c69 g m)
 refine⟨g,m,fun b r=>n _,fun d p b r _=>n _,fun e=>⟨a4W (seg C i j) 0,0⟩,fun e f v=> ?_,fun e w=> ?_⟩
 ·cases f with
  |zero=>omega
  |succ f=>
   have o:a1c C i j= -1:=by unfold a1c;rw[n];rfl
   obtain⟨c,l,q⟩:=h i (a_ _) g;have k:=b0k q;unfold a3v;rw[f_ (by omega),o,f_ (by decide),l];have u:((seg C i j).all dgB&&decide (j≤i+18))=true:=by
    simp only[Z_,a_e];exact⟨b_n.mpr a,t⟩
   simp only[k.2.2.2.1,k.2.2.2.2.1,k.2.2.2.2.2,D_,a_g,u,a_b]
 ·simp[a3s,a1w]
theorem Ev.name{C:List UInt8}{i:Nat}{c:UInt8}(g:C[i]? =some c)(m:nmB c=true):Ev C i (i+1) none [⟨2,(c.toNat:Int)-97⟩]:=by
 have o:=(k_.mp g).1;have k:=c4C m;have j:=a6n g;have h:∀s,a1b (seg C i (i+1)) i s=⟨s.d,true,s.b,s.r⟩:=fun s=>by
  rw[j];simp only[a1b];exact b8d k.1 (k.2.1 _) k.2.2.1
 refine⟨by omega,by omega,fun b r=>h _,fun d p b r _=>h _,fun a=>a.getD (c.toNat-97) vl0,fun a f n=> ?_,fun a q=> ?_⟩
 ·cases f with
  |zero=>omega
  |succ f=>
   have l:a1c C i (i+1)= -1:=by unfold a1c;rw[h];rfl
   unfold a3v;rw[f_ (by omega),l,f_ (by decide),g];simp only[k.2.2.2.1,k.2.2.2.2,D_,a_g,m,a_b]
 ·have e:((c.toNat:Int)-97).toNat=c.toNat-97:=by omega
  simp[a3s,a1w,e]
theorem Ev.paren{C:List UInt8}{i j:Nat}{s:Option (Nat×Nat)}{P:List Pt}(a:Ev C (i+1) j s P)(m:C[i]? =some 40)(l:C[j]? =some 41):Ev C i (j+1) none P:=by
 have w:=a.lt;have u:=(k_.mp l).1;obtain⟨z,t⟩:=k_.mp m;have n:seg C i (j+1)=40::(seg C (i+1) j++ [41]):=by
  rw[a25 (show i<j+1 by omega) (by omega),t,a6m (show i+1≤j by omega) (show j≤j+1 by omega),a6n l]
 have x:(seg C (i+1) j).length=j-(i+1):=a8F a.le;have h:∀d p b r,0≤d→a1b (seg C i (j+1)) i ⟨d,p,b,r⟩=⟨d,true,b,r⟩:=by
  intro d p b r q;rw[n];simp only[a1b];have e:a2l ⟨d,p,b,r⟩ i 40=⟨d+1,false,b,r⟩:=by
   unfold a2l a3Z;have:a1f 40=0:=by decide
   rw[f_ (by simp[this])];rfl
  rw[e,a9w,a.deep (d+1) false b r (by omega)];simp only[a1b];unfold a2l a3Z;have g:a1f 41=0:=by decide
  rw[f_ (by simp[g])];have o:a2m 41 (d+1)=d:=by show d+1-1=d;omega
  simp only[o];rfl
 obtain⟨v,e,g⟩:=a.val;refine⟨by omega,by omega,fun b r=>h 0 false b r (by omega),fun d p b r q=>h d p b r (by omega),v,fun c f y=> ?_,g⟩;cases f with
 |zero=>omega
 |succ f=>
  have k:a1c C i (j+1)= -1:=by unfold a1c sp0;rw[h 0 false _ _ (by omega)]
  unfold a3v;rw[f_ (by omega),k,f_ (by decide),m];simp only[show((40:UInt8)==45)=false by decide,show((40:UInt8)==40)=true by decide,D_,a_g,a_b];exact e c f (by omega)
theorem Ev.neg{C:List UInt8}{i j:Nat}{P:List Pt}(a:Ev C (i+1) j none P)(m:C[i]? =some 45):Ev C i j none (P++ [⟨3,0⟩]):=by
 have w:=a.lt;have u:=a.le;obtain⟨y,t⟩:=k_.mp m;have l:seg C i j=45::seg C (i+1) j:=by rw[a25 (show i<j by omega) a.le,t]
 have g:∀b r,a1b (seg C i j) i ⟨0,false,b,r⟩=⟨0,true,b,r⟩:=by
  intro b r;rw[l];simp only[a1b];have e:a2l ⟨0,false,b,r⟩ i 45=⟨0,false,b,r⟩:=by
   unfold a2l a3Z;rw[f_ (by simp)];rfl
  rw[e];exact a.scan b r
 obtain⟨v,e,o⟩:=a.val;refine⟨by omega,a.le,g,fun d p b r s=> ?_,fun c=>a4E (v c),fun c f x=> ?_,fun c h=> ?_⟩
 ·rw[l];simp only[a1b];have e:a2l ⟨d,p,b,r⟩ i 45=⟨d,false,b,r⟩:=by
   unfold a2l a3Z;have q:a2m 45 d=d:=rfl;simp only[q];rw[f_ (by simp;omega)];rfl
  rw[e];exact a.deep d false b r s
 ·cases f with
  |zero=>omega
  |succ f=>
   have k:a1c C i j= -1:=by unfold a1c sp0;rw[g]
   unfold a3v;rw[f_ (by omega),k,f_ (by decide),m];simp only[show((45:UInt8)==45)=true by decide,a_b,e c f (by omega)];rw[c57];unfold opC opV a6i;simp
 ·rw[a9q,o];show(a1w c ⟨3,0⟩ (h++ [v c])).2++ [(a1w c ⟨3,0⟩ (h++ [v c])).1]=_;have n:a1w c ⟨3,0⟩ (h++ [v c])=(a4E (v c),h):=by
   unfold a1w;simp[a2F]
  rw[n]
theorem Ev.negs{C:List UInt8}{j:Nat}{P:List Pt} :∀(k i:Nat),Ev C (i+k) j none P→(∀q,q<k→C[i+q]? =some 45)→Ev C i j none (P++negs k)
 |0,i,a,h=>by simpa[Go.Proofs.YtdgmoiflahoihaaGreatDoor.negs]using a
 |k+1,i,a,h=>by
  have b:Ev C (i+1) j none (P++Go.Proofs.YtdgmoiflahoihaaGreatDoor.negs k):=Ev.negs k (i+1) (by rw[show i+1+k=i+(k+1)by omega];exact a) (fun q d=>by rw[show i+1+q=i+(q+1)by omega];exact h (q+1) (by omega));have c:=Ev.neg b (h 0 (by omega));have e:P++Go.Proofs.YtdgmoiflahoihaaGreatDoor.negs (k+1)=P++Go.Proofs.YtdgmoiflahoihaaGreatDoor.negs k++ [⟨3,0⟩]:=by
   unfold Go.Proofs.YtdgmoiflahoihaaGreatDoor.negs;rw[List.replicate_succ',a_y]
  rw[e];exact c
def a5c(B:Nat):List Pt→Nat→Option Nat
 | [],k=>some k
 |p::r,k=>
  if p.op=1∨p.op=2 then(if k+1≤B then a5c B r (k+1)else none)
  else if p.op=3 then(if 1≤k then a5c B r k else none)
  else(if 2≤k∧4≤p.op∧p.op≤10 then a5c B r (k-1)else none)
theorem b5m(B:Nat)(p:Pt)(r:List Pt)(k:Nat):a5c B (p::r) k=if p.op=1∨p.op=2 then(if k+1≤B then a5c B r (k+1)else none)else if p.op=3 then(if 1≤k then a5c B r k else none)else(if 2≤k∧4≤p.op∧p.op≤10 then a5c B r (k-1)else none):=rfl
theorem a7D{B:Nat} :∀(P Q:List Pt) (k b:Nat),a5c B P k=some b→a5c B (P++Q) k=a5c B Q b
 | [],Q,k,b,h=>by cases h;rfl
 |p::r,Q,k,b,h=>by
  rw[O_,b5m];rw[b5m]at h
  split at h
  ·rename_i c;rw[n_ c]
   split at h
   ·rename_i a;rw[n_ a];exact a7D r Q _ _ h
   ·cases h
  ·rename_i c;rw[f_ c]
   split at h
   ·rename_i d;rw[n_ d]
    split at h
    ·rename_i a;rw[n_ a];exact a7D r Q _ _ h
    ·cases h
   ·rename_i d;rw[f_ d]
    split at h
    ·rename_i a;rw[n_ a];exact a7D r Q _ _ h
    ·cases h
def Hg(m:Nat)(P:List Pt):Prop:=∀B k,k+m≤B→a5c B P k=some (k+1)
theorem Hg.mono{m n:Nat}{P:List Pt}(h:Hg m P)(b:m≤n):Hg n P:=fun B k a=>h B k (by omega)
theorem Hg.leaf{m:Nat}{p:Pt}(h:p.op=1∨p.op=2)(b:1≤m):Hg m [p]:=by
 intro B k a;unfold a5c;rw[n_ h,n_ (by omega)];rfl
theorem Hg.negs{m:Nat}{P:List Pt}(h:Hg m P)(j:Nat):Hg m (P++negs j):=by
 intro B k a;rw[a7D _ _ _ _ (h B k a)];induction j with
 |zero=>rfl
 |succ j ih=>
  unfold Go.Proofs.YtdgmoiflahoihaaGreatDoor.negs at ih⊢;rw[a_4];unfold a5c;rw[f_ (by decide),n_ rfl,n_ (by omega)];exact ih
theorem Hg.bin{m n:Nat}{P Q:List Pt}{a:Int}(h:Hg m P)(g:Hg n Q)(d:n+1≤m)(c:4≤a∧a≤10):Hg m (P++Q++ [⟨a,0⟩]):=by
 intro B k b;rw[a_y,a7D _ _ _ _ (h B k b),a7D _ _ _ _ (g B (k+1) (by omega))];unfold a5c;rw[f_ (by simp only;omega),f_ (by simp only;omega),n_ ⟨by omega,c⟩];rfl
theorem b6K{t:List UInt8}{r:Rd}{i:Nat}(h:AtI t r i)(d:Int):AtI t { r with depth:=d } i:=⟨h.pos,h.le⟩
theorem b7A{t:List UInt8} :∀(n:Nat) (r:Rd) (i:Nat),AtI t r i→r.bad=false→AtI t (a01 t n r).1 (i+(a01 t n r).2)∧(a01 t n r).1.bad=false∧(∀q,q<(a01 t n r).2→(a0a t)[i+q]? =some 45)∧(a01 t n r).1.depth=r.depth
 |0,r,i,h,hb=>⟨h,hb,fun q j=>absurd j (by simp[a01]),rfl⟩
 |n+1,r,i,h,hb=>by
  unfold a01;cases m:r.seesOne t 45 45
  ·simp only[D_,a_g];exact⟨h,hb,fun q j=>absurd j (by omega),by trivial⟩
  ·simp only[a_b];obtain⟨o,p,s,_⟩:=a16 h m;obtain⟨u,y,z,A⟩:=b7A n _ (i+1) o p;have l:=(a1r h hb 45).mp m;refine⟨by rw[show i+((a01 t n (r.takeOne t 45 45).1).2+1)=i+1+(a01 t n (r.takeOne t 45 45).1).2 by omega];exact u,y,fun q j=> ?_,A.trans s⟩;cases q with
   |zero=>exact l
   |succ q=>rw[show i+(q+1)=i+1+q by omega];exact z q (by omega)
theorem c5l{c:UInt8}(a:48≤c)(b:c≤57):dgB c=true:=by
 rw[H_]at a b;have d:(48:UInt8).toNat=48:=rfl;have e:(57:UInt8).toNat=57:=rfl;simp[dgB];omega
theorem c7t{c:UInt8}(a:97≤c)(b:c≤122):nmB c=true:=by
 rw[H_]at a b;have d:(97:UInt8).toNat=97:=rfl;have e:(122:UInt8).toNat=122:=rfl;simp[nmB];omega
theorem c2q{t:List UInt8} :∀(n:Nat) (r:Rd) (v:Int) (i:Nat),AtI t r i→r.bad=false→∃j,i≤j∧j≤i+n∧AtI t (Rd.numF t n r v).1 j∧(Rd.numF t n r v).1.bad=false∧(∀k,i≤k→k<j→∃c,(a0a t)[k]? =some c∧dgB c=true)∧(Rd.numF t n r v).2=a4W (seg (a0a t) i j) v∧(Rd.numF t n r v).1.depth=r.depth
 |0,r,v,i,h,hb=>⟨i,a_ _,by omega,h,hb,fun k o l=>absurd l (by omega),by rw[a4n (a_ _)];rfl,rfl⟩
 |n+1,r,v,i,h,hb=>by
  unfold Rd.numF;cases J:r.seesOne t 48 57
  ·simp only[D_,a_g];exact⟨i,a_ _,by omega,h,hb,fun k o l=>absurd l (by omega),by rw[a4n (a_ _)];rfl,by trivial⟩
  ·simp only[a_b];obtain⟨s,u,y,c,p,E,F,L⟩:=a16 h J;obtain⟨j,M,z,m,A,B,C,D⟩:=c2q n _ (v*10+(r.takeOne t 48 57).2) (i+1) s u;obtain⟨N,H⟩:=k_.mp p;refine⟨j,by omega,by omega,m,A,fun k o l=> ?_,?_,D.trans y⟩
   ·by_cases I:k=i
    ·subst I;exact⟨c,p,c5l E F⟩
    ·exact B k (by omega) l
   ·rw[C,a25 (show i<j by omega) m.le,H];show a4W (seg (a0a t) (i+1) j) _=a4W (seg (a0a t) (i+1) j) _;rw[L];congr 1;have G:((48:UInt8).toNat:Int)=48:=rfl;rw[G];omega
theorem b9L(l:List UInt8)(k i:Nat)(h:i<(a0a l).length):a14 l k i<a14 l k (i+1):=by
 obtain⟨_,_,a,_⟩:=a2L l k i h;rw[←a];exact Q_ (Nat.lt_succ_self _) (a7O _ _).1
theorem b1L(l:List UInt8)(k:Nat):∀(d i:Nat),i+d≤(a0a l).length→0<d→a14 l k i<a14 l k (i+d)
 |0,i,h,hd=>absurd hd (by decide)
 |1,i,h,hd=>b9L l k i (by omega)
 |d+2,i,h,hd=>Nat.lt_trans (b1L l k (d+1) i (by omega) (by omega)) (b9L l k (i+(d+1)) (by omega))
theorem c6E{t:List UInt8}{r:Rd}{i j:Nat}(h:AtI t r i)(k:AtI t r j):i=j:=by
 have e:a5p t i=a5p t j:=h.pos.symm.trans k.pos;have a:=h.le;have b:=k.le;unfold a5p at e;rcases Nat.lt_trichotomy i j with c|c|c
 ·have:=b1L t 0 (j-i) i (by omega) (by omega);rw[show i+(j-i)=j by omega]at this;omega
 ·exact c
 ·have:=b1L t 0 (i-j) j (by omega) (by omega);rw[show j+(i-j)=i by omega]at this;omega
def a65(t:List UInt8)(n q:Nat)(F:RP→RP):Prop:=∀(x:RP) (i:Nat),AtI t x.1 i→x.1.bad=false→x.1.depth≤8→9≤x.1.depth+n→(F x).1.bad=false→
 ∃a s P,AtI t (F x).1 a∧(F x).2=x.2++P∧Ev (a0a t) i a s P∧(∀y,s=some y→y.2<q)∧(F x).1.depth=x.1.depth∧Hg (3*n+q) P
def b97(t:List UInt8)(n:Nat)(F:RP→RP):Prop:=∀(x:RP) (i:Nat),AtI t x.1 i→x.1.bad=false→x.1.depth≤8→9≤x.1.depth+n→(F x).1.bad=false→
 ∃a P,AtI t (F x).1 a∧(F x).2=x.2++P∧Ev (a0a t) i a none P∧(F x).1.depth=x.1.depth∧Hg (3*n+1) P
theorem c6g{t:List UInt8}{a:RP→RP}{n:Nat}(hc:a65 t n 4 a)(D:a4p a):b97 t (n+1) (a3b t a):=by
 intro x i h Z L h9 b;unfold a3b at b⊢;cases G:x.1.seesOne t 48 57
 ·simp only[G,D_,a_g]at b⊢;cases H:x.1.seesOne t 97 122
  ·simp only[H,D_,a_g]at b⊢;cases v:x.1.seesOne t 40 40
   ·simp only[v,D_,a_g]at b;cases b
   ·simp only[v,a_b]at b⊢;have B:=(a1r h Z 40).mp v;have p:¬8≤x.1.depth:=by
      intro L;have F:(x.1.opening t 40).bad=true:=by
       have M:x.1.room.bad=true:=by unfold Rd.room;rw[n_ L]
       show(x.1.room.takeOne t 40 40).1.bad=true;rw[a18 M];exact M
      rw[D (x.1.opening t 40,x.2) F]at b;have m:((x.1.opening t 40).closing t 41).bad=true:=by
       show((x.1.opening t 40).takeOne t 41 41).1.bad=true;rw[a18 F];exact F
      rw[m]at b;cases b
    have d:x.1.room=x.1:=by unfold Rd.room;rw[f_ p]
    obtain⟨f,r,g,_⟩:=a16 h v;have ad:(x.1.opening t 40).depth=x.1.depth+1:=by
     show(x.1.room.takeOne t 40 40).1.depth+1=_;rw[d,g]
    have R:AtI t (x.1.opening t 40) (i+1):=by
     unfold Rd.opening;rw[d];exact b6K f _
    have O:(x.1.opening t 40).bad=false:=by
     show(x.1.room.takeOne t 40 40).1.bad=false;rw[d];exact r
    have o:(a (x.1.opening t 40,x.2)).1.bad=false:=by
     cases N:(a (x.1.opening t 40,x.2)).1.bad
     ·rfl
     ·exfalso;have m:((a (x.1.opening t 40,x.2)).1.closing t 41).bad=true:=by
       show((a (x.1.opening t 40,x.2)).1.takeOne t 41 41).1.bad=true;rw[a18 N];exact N
      rw[m]at b;cases b
    obtain⟨j,s,P,u,l,J,_,w,y⟩:=hc (x.1.opening t 40,x.2) (i+1) R O (by simp only;omega) (by simp only;omega) o;cases I:(a (x.1.opening t 40,x.2)).1.seesOne t 41 41
    ·exfalso;have:=a93 u I;have m:((a (x.1.opening t 40,x.2)).1.closing t 41).bad=true:=by
      show((a (x.1.opening t 40,x.2)).1.takeOne t 41 41).1.bad=true;rw[this.1]
     rw[m]at b;cases b
    ·have C:=(a1r u o 41).mp I;obtain⟨U,d2,V,_⟩:=a16 u I;refine⟨j+1,P,b6K U _,l,Ev.paren J B C,?_,y.mono (by omega)⟩;show((a (x.1.opening t 40,x.2)).1.takeOne t 41 41).1.depth-1=x.1.depth;rw[V,w];simp only;omega
  ·simp only[H,a_b]at b⊢;obtain⟨f,r,g,c,e,z,A,E⟩:=a16 h H;refine⟨i+1,[⟨2,(c.toNat:Int)-97⟩],f,?_,Ev.name e (c7t z A),g,Hg.leaf (.inr rfl) (by omega)⟩;rw[E];rfl
 ·simp only[G,a_b]at b⊢;obtain⟨f,r,g,c,e,z,A,E⟩:=a16 h G;obtain⟨j,u,S,l,J,T,w,y⟩:=c2q 17 _ (x.1.takeOne t 48 57).2 (i+1) f r;obtain⟨hl,he⟩:=k_.mp e;have q:(x.1.number t).2=a4W (seg (a0a t) i j) 0:=by
   unfold Rd.number;rw[w,a25 (show i<j by omega) l.le,he,E];show a4W (seg (a0a t) (i+1) j) _=a4W (seg (a0a t) (i+1) j) _;congr 1;have X:((48:UInt8).toNat:Int)=48:=rfl;rw[X];omega
  refine⟨j,[⟨1,a4W (seg (a0a t) i j) 0⟩],l,by rw[q],Ev.number (by omega) l.le (by omega) (fun k h1 Y=> ?_),y.trans g,Hg.leaf (.inl rfl) (by omega)⟩;by_cases hk:k=i
  ·subst hk;exact⟨c,e,c5l z A⟩
  ·exact T k (by omega) Y
theorem c3q{t:List UInt8}{a:RP→RP}{n:Nat}(p:a65 t n 4 a)(b:a4p a):b97 t (n+1) (a2C t a):=by
 intro x i h o l m q;obtain⟨r,s,u,c⟩:=b7A (t.length+1) x.1 i h o;obtain⟨j,P,d,e,f,g,k⟩:=c6g p b ((a01 t (t.length+1) x.1).1,x.2) _ r s (by simp only;rw[c];exact l) (by simp only;rw[c];exact m) q;refine⟨j,P++negs (a01 t (t.length+1) x.1).2,d,?_,Ev.negs _ i f u,g.trans c,k.negs _⟩;show(a3b t a ((a01 t (t.length+1) x.1).1,x.2)).2++_=_;rw[e];simp
def VOp(t:List UInt8)(q:Nat)(opf:Rd→Rd×Int):Prop:=∀(r:Rd) (i:Nat),AtI t r i→r.bad=false→
 ((opf r).2=0∧(opf r).1=r)∨∃c,(a0a t)[i]? =some c∧AtI t (opf r).1 (i+1)∧(opf r).1.bad=false∧(opf r).2≠0∧a1f c=q∧(c≠40∧c≠41∧a2t c=false)∧(∀x y,opC c x y=opV (opf r).2 x y)∧(4≤(opf r).2∧(opf r).2≤10)∧(opf r).1.depth=r.depth
theorem b7K{t:List UInt8}(q:Nat)(a b:UInt8)(p o:Int)(d:a1f a=q∧(a≠40∧a≠41∧a2t a=false)∧(∀x y,opC a x y=opV p x y)∧p≠0∧(4≤p∧p≤10))(e:a1f b=q∧(b≠40∧b≠41∧a2t b=false)∧(∀x y,opC b x y=opV o x y)∧o≠0∧(4≤o∧o≤10)):VOp t q (fun r=>r.oper t a p b o):=by
 intro r i h c;unfold Rd.oper;simp only;cases k:r.seesOne t a a
 ·cases l:r.seesOne t b b
  ·left;simp
  ·right;simp only[D_,a_g,a_b];obtain⟨f,g,j,_⟩:=a16 h l;exact⟨b,(a1r h c b).mp l,f,g,e.2.2.2.1,e.1,e.2.1,e.2.2.1,e.2.2.2.2,j⟩
 ·right;simp only[a_b];obtain⟨f,g,j,_⟩:=a16 h k;exact⟨a,(a1r h c a).mp k,f,g,d.2.2.2.1,d.1,d.2.1,d.2.2.1,d.2.2.2.2,j⟩
theorem a7F(c:UInt8)(a:Int)(h:∀x y:Vl,(if c==43 then a1X (x.num+y.num)else if c==45 then a1X (x.num-y.num)else if c==42 then a1X (x.num*y.num)
 else if c==60 then⟨if x.num<y.num then 1 else 0,0⟩else if c==61 then⟨if x.num=y.num then 1 else 0,0⟩
 else if c==47 then a6M x.num y.num else a7J x.num y.num)=a6i a x.num y.num):∀x y,opC c x y=opV a x y:=by
 intro x y;unfold opC opV;rw[h x y]
theorem c7B{t:List UInt8} :VOp t 2 (fun r=>r.oper t 43 4 45 5):=
 b7K 2 43 45 4 5 ⟨by decide,⟨by decide,by decide,by decide⟩,a7F 43 4 (fun x y=>rfl),by decide,by decide,by decide⟩ ⟨by decide,⟨by decide,by decide,by decide⟩,a7F 45 5 (fun x y=>rfl),by decide,by decide,by decide⟩
theorem c7z{t:List UInt8} :VOp t 3 (fun r=>r.oper t 60 9 61 10):=
 b7K 3 60 61 9 10 ⟨by decide,⟨by decide,by decide,by decide⟩,a7F 60 9 (fun x y=>rfl),by decide,by decide,by decide⟩ ⟨by decide,⟨by decide,by decide,by decide⟩,a7F 61 10 (fun x y=>rfl),by decide,by decide,by decide⟩
theorem c68{t:List UInt8} :VOp t 1 (fun r=>r.prodOper t):=by
 intro r i h a;unfold Rd.prodOper;simp only;cases b:r.seesOne t 37 37
 ·simp only[D_,a_g];exact b7K (t:=t) 1 42 47 6 7 ⟨by decide,⟨by decide,by decide,by decide⟩,a7F 42 6 (fun x y=>rfl),by decide,by decide,by decide⟩ ⟨by decide,⟨by decide,by decide,by decide⟩,a7F 47 7 (fun x y=>rfl),by decide,by decide,by decide⟩ r i h a
 ·right;simp only[a_b];obtain⟨c,d,e,_⟩:=a16 h b;exact⟨37,(a1r h a 37).mp b,c,d,by decide,by decide,⟨by decide,by decide,by decide⟩,a7F 37 8 (fun x y=>rfl),⟨by decide,by decide⟩,e⟩
theorem b1y{opf:Rd→Rd×Int}{F:RP→RP}(a:∀r,r.bad=true→opf r=(r,0)):∀(k:Nat) (x:RP),x.1.bad=true→a33 opf F k x=x
 |0,x,_=>rfl
 |k+1,x,h=>by
  unfold a33;rw[a x.1 h];simp
theorem b7x{t:List UInt8}{n q:Nat}(g:0<q){opf:Rd→Rd×Int}{F:RP→RP}(B:VOp t q opf)(A:a65 t n q F)(v:a4p F)(f:∀r,r.bad=true→opf r=(r,0)):
  ∀(k:Nat) (x:RP) (i m:Nat) (s:Option (Nat×Nat)) (L P:List Pt),AtI t x.1 m→x.1.bad=false→x.1.depth≤8→9≤x.1.depth+n→x.2=L++P→Ev (a0a t) i m s P→(∀y,s=some y→y.2≤q)→Hg (3*n+(q+1)) P→(a33 opf F k x).1.bad=false→
   ∃l o b,AtI t (a33 opf F k x).1 l∧(a33 opf F k x).2=L++b∧Ev (a0a t) i l o b∧(∀y,o=some y→y.2≤q)∧(a33 opf F k x).1.depth=x.1.depth∧Hg (3*n+(q+1)) b
 |0,x,i,m,s,L,P,h,hb,h8,h9,hx,he,hs,hg,hf=>⟨m,s,P,h,hx,he,hs,rfl,hg⟩
 |k+1,x,i,m,s,L,P,h,hb,h8,h9,hx,he,hs,hg,hf=>by
  unfold a33 at hf⊢;rcases B x.1 m h hb with⟨e0,z⟩|⟨c,hc,D,E,G,H,I,J,M,p⟩
  ·rw[n_ e0]at hf⊢;refine⟨m,s,P,?_,hx,he,hs,by simp only;rw[z],hg⟩;simp only;rw[z];exact h
  ·rw[f_ G]at hf⊢;have d:(F ((opf x.1).1,x.2)).1.bad=false:=by
    cases C:(F ((opf x.1).1,x.2)).1.bad
    ·rfl
    ·exfalso;have w:=b1y (F:=F) f k ((F ((opf x.1).1,x.2)).1,(F ((opf x.1).1,x.2)).2++ [⟨(opf x.1).2,0⟩]) C;rw[w]at hf;simp only at hf;rw[C]at hf;cases hf
   obtain⟨j,u,Q,N,O,R,S,T,U⟩:=A ((opf x.1).1,x.2) (m+1) D E (by simp only;rw[p];exact h8) (by simp only;rw[p];exact h9) d;have e:=Ev.bin he R hc H g hs S I J ⟨by omega,by omega,by omega⟩;have a:(F ((opf x.1).1,x.2)).1.depth=x.1.depth:=T.trans p;obtain⟨l,o,b,V,X,Y,Z,c5,c6⟩:=b7x g B A v f k ((F ((opf x.1).1,x.2)).1,(F ((opf x.1).1,x.2)).2++ [⟨(opf x.1).2,0⟩]) i j (some (m,q)) L (P++Q++ [⟨(opf x.1).2,0⟩]) N d (by simp only;rw[a];exact h8) (by simp only;rw[a];exact h9) (by simp only;rw[O];simp only;rw[hx];simp) e (fun y hy=>by cases hy;exact a_ _) (hg.bin U (by omega) M) hf;exact⟨l,o,b,V,X,Y,Z,c5.trans a,c6⟩
theorem b9k{t:List UInt8}{n:Nat}{F:RP→RP}(h:b97 t n F):a65 t n 1 F:=by
 intro x i f g l m k;obtain⟨j,P,a,b,c,d,e⟩:=h x i f g l m k;exact⟨j,none,P,a,b,c,fun y o=>(by cases o),d,e⟩
theorem b9M{t:List UInt8}{a:RP→RP}{n:Nat}(l:a65 t n 4 a)(b:a4p a):a65 t (n+1) 2 (a2Y t a):=by
 intro x i h G g k c;unfold a2Y at c⊢;rw[b0G]at c⊢;have d:(a2C t a x).1.bad=false:=by
  cases o:(a2C t a x).1.bad
  ·rfl
  ·rw[b1y (fun r h=>a7i h) _ _ o,o]at c;cases c
 obtain⟨m,P,u,v,w,e,z⟩:=c3q l b x i h G g k d;obtain⟨j,s,p,A,B,C,D,E,F⟩:=b7x (q:=1) (by decide) c68 (b9k (c3q l b)) b2B (fun r h=>a7i h) (t.length+1) (a2C t a x) i m none x.2 P u d (by rw[e];exact g) (by rw[e];exact k) v w (fun y f=>by cases f) (z.mono (by omega)) c;exact⟨j,s,p,A,B,C,fun y f=>(by have:=D y f;omega),E.trans e,F⟩
theorem c28{t:List UInt8}{a:RP→RP}{n:Nat}(l:a65 t n 4 a)(b:a4p a):a65 t (n+1) 3 (a1E t a):=by
 intro x i h H g k c;unfold a1E at c⊢;rw[a60]at c⊢;have d:(a2Y t a x).1.bad=false:=by
  cases o:(a2Y t a x).1.bad
  ·rfl
  ·rw[b1y (fun r h=>a5n h 43 45 4 5) _ _ o,o]at c;cases c
 obtain⟨m,s,P,u,v,w,z,e,A⟩:=b9M l b x i h H g k d;obtain⟨j,I,p,B,C,D,E,F,G⟩:=b7x (q:=2) (by decide) c7B (b9M l b) (fun x h=>b1M h) (fun r h=>a5n h 43 45 4 5) (t.length+1) (a2Y t a x) i m s x.2 P u d (by rw[e];exact g) (by rw[e];exact k) v w (fun y f=>by have:=z y f;omega) (A.mono (by omega)) c;exact⟨j,I,p,B,C,D,fun y f=>(by have:=E y f;omega),F.trans e,G⟩
theorem c6F{t:List UInt8}{a:RP→RP}{n:Nat}(C:a65 t n 4 a)(d:a4p a):a65 t (n+1) 4 (a6L t a):=by
 intro x i h S A B b;unfold a6L at b⊢;simp only at b⊢;have e:(a1E t a x).1.bad=false:=by
  cases D:(a1E t a x).1.bad
  ·rfl
  ·rw[a5n D 60 61 9 10]at b;simp[D]at b
 obtain⟨m,s,P,p,q,r,v,g,w⟩:=c28 C d x i h S A B e;rcases c7z (a1E t a x).1 m p e with⟨z,l⟩|⟨c,o,E,F,G,T,U,H,I,k⟩
 ·simp only at z l;rw[n_ z]at b⊢;refine⟨m,s,P,?_,q,r,fun y f=>(by have:=v y f;omega),by simp only;rw[l];exact g,w.mono (by omega)⟩;simp only;rw[l];exact p
 ·simp only at E F G H I k;rw[f_ G]at b⊢;obtain⟨j,u,Q,J,L,M,N,O,R⟩:=c28 C d (((a1E t a x).1.oper t 60 9 61 10).1,(a1E t a x).2) (m+1) E F (by simp only;rw[k,g];exact A) (by simp only;rw[k,g];exact B) b;refine⟨j,some (m,3),P++Q++ [⟨((a1E t a x).1.oper t 60 9 61 10).2,0⟩],J,?_,Ev.bin r M o T (by decide) (fun y f=>by have:=v y f;omega) N U H ⟨by omega,by omega,by omega⟩,fun y f=>(by cases f;omega),O.trans (k.trans g),(w.mono (by omega)).bin R (by omega) I⟩;simp only;rw[L];simp only;rw[q];simp
theorem c1u(t:List UInt8):∀n,a65 t n 4 (a5G t n)
 |0=>fun x i h c b a d=>by simp at a;omega
 |n+1=>c6F (c1u t n) (b2L t n)
def EvH(C:List UInt8)(i j:Nat)(s:Option (Nat×Nat))(P:List Pt):Prop:=Ev C i j s P∧Hg 34 P
theorem c5L{t:List UInt8}{r:Rd}{i:Nat}(h:AtI t r i)(j:r.bad=false)(l:0≤r.depth)(g:r.depth≤8)(k:(a00 t r).1.bad=false):
  ∃f s,AtI t (a00 t r).1 f∧EvH (a0a t) i f s (a00 t r).2:=by
 obtain⟨f,s,P,a,b,c,_,_,d⟩:=c1u t 10 (r,[]) i h j g (by simp only;omega) k;refine⟨f,s,a,?_⟩;have e:(a00 t r).2=P:=by unfold a00;rw[b];rfl
 rw[e];exact⟨c,d⟩
theorem c0N{f:Fm}(h:f.st=0)(c:Int):f.next c=f.rule c:=by unfold Fm.next;simp[h]
theorem c5p{f:Fm}(h:f.st=1){c:UInt8}(a:c≠123):f.next (c.toNat:Int)=f.rule (c.toNat:Int):=by
 have k:=a1V a;simp at k;unfold Fm.next;simp[h];intro e;omega
theorem a4O{f:Fm}(h:f.st=2∨f.st=3∨f.st=4∨f.st=5∨f.st=6∨f.st=13∨f.st=14)(c:Int):f.next c=f.fixed c:=by
 unfold Fm.next;rcases h with h|h|h|h|h|h|h<;>simp[h]
structure a5v(C:List UInt8)(i:Nat)(f:Fm):Prop where
 st:f.st=0∨(f.st=1∧C[i]? ≠some 123)
 hd:f.body=true∨(C[i]? ≠some 63∧C[i]? ≠some 33)
 pr:f.paren=false
 sh:C[i]? ≠some 125∨f.op= []
 nd:C[i]? =none→f.done=false
theorem a5v.nx{C:List UInt8}{i:Nat}{f:Fm}(h:a5v C i f){c:UInt8}(d:C[i]? =some c):f.next (c.toNat:Int)=f.rule (c.toNat:Int):=by
 rcases h.st with a|⟨a,b⟩
 ·exact c0N a _
 ·exact c5p a (fun e=>b (by rw[d,e]))
theorem b5W{f:Fm}{c:UInt8}(b:f.body=true∨(c≠63∧c≠33))(l:c≠125∨f.op= []):f.rule (c.toNat:Int)=
  (let f:= { f with body:=true,related:=false }
  if a2f (c.toNat:Int)=true then f.to 2
  else if(c.toNat:Int)=94 then f.to 3
  else if(c.toNat:Int)=62 then { f with purpose:=2 }.to 7
  else if(c.toNat:Int)=40∧f.op.length<8 then { f with op:=99::f.op }.to 10
  else if(c.toNat:Int)=42∧f.op.length<8 then f.to 13
  else(f,false)):=by
 have i:¬(((c.toNat:Int)=63∨(c.toNat:Int)=33)∧f.body=false):=by
  rintro⟨d,a⟩;rcases b with b|⟨b,m⟩
  ·rw[b]at a;cases a
  ·have:=a1V b;have:=a1V m;simp at*;omega
 have g:c≠125∨f.top=0:=l.imp id (fun e=>by unfold Fm.top;rw[e];rfl);have j:¬((c.toNat:Int)=125∧f.top=49):=by
  rintro⟨d,a⟩;rcases g with h|h
  ·have:=a1V h;simp at this;omega
  ·rw[h]at a;revert a;decide
 have k:¬((c.toNat:Int)=125∧(f.top=50∨f.top=108)):=by
  rintro⟨d,a⟩;rcases g with h|h
  ·have:=a1V h;simp at this;omega
  ·rw[h]at a;revert a;decide
 unfold Fm.rule;rw[f_ i,f_ j,f_ k]
def Rz(t:List UInt8)(r:Rd)(i:Nat)(f:Fm)(Q:Nat→Fm→Prop):Prop:=
 ∃a g,AtI t r a∧GoC (a0a t) i f a g∧(r.bad=true→a2r (a0a t) a g)∧(r.bad=false→Q a g)
theorem Rz.bind{t:List UInt8}{b c:Rd}{i:Nat}{f:Fm}{l m:Nat→Fm→Prop}(h:Rz t b i f l)(A:b.bad=true→c.pos=b.pos∧c.bad=true)
  (k:∀j g,AtI t b j→b.bad=false→l j g→Rz t c j g m):Rz t c i f m:=by
 obtain⟨p,o,d,n,q,r⟩:=h;cases a:b.bad
 ·obtain⟨B,z,s,u,v,w⟩:=k p o d a (r a);exact⟨B,z,s,n.trans u,v,w⟩
 ·obtain⟨x,y⟩:=A a;exact⟨p,o,⟨x.trans d.pos,d.le⟩,n,fun _=>q a,fun e=>by rw[y]at e;cases e⟩
theorem a38{t:List UInt8}{r:Rd}{i:Nat}{f:Fm}(h:AtI t r i)(c:r.bad=false)(k:UInt8)(g:Fm)(n:(a0a t)[i]? =some k→f.next (k.toNat:Int)=(g,true))(m:(a0a t)[i]? ≠some k→a2r (a0a t) i f):
  Rz t (r.takeOne t k k).1 i f fun o l=>o=i+1∧l=g∧(a0a t)[i]? =some k:=by
 cases a:r.seesOne t k k
 ·obtain⟨e,_⟩:=a93 h a;rw[e];exact⟨i,f,⟨h.pos,h.le⟩,GoC.refl _ _ _,fun _=>m (a1M h c a),fun e=>by cases e⟩
 ·have b:=(a1r h c k).mp a;obtain⟨d,j,p,_⟩:=a16 h a;exact⟨i+1,g,d,GoC.one ⟨k,b,n b⟩,fun e=>(by rw[j]at e;cases e),fun _=>⟨rfl,rfl,b⟩⟩
theorem b2W{t:List UInt8}{r:Rd}{i:Nat}{f:Fm}(h:AtI t r i)(j:r.bad=false)(g:Fm)(p:∀c,(a0a t)[i]? =some c→nmB c=true→f.next (c.toNat:Int)=(g,true))(n:(∀c,(a0a t)[i]? =some c→nmB c=false)→a2r (a0a t) i f):
  Rz t (r.takeOne t 97 122).1 i f fun q m=>q=i+1∧m=g∧∃c,(a0a t)[i]? =some c∧nmB c=true∧(r.takeOne t 97 122).2=(c.toNat:Int)-97:=by
 cases b:r.seesOne t 97 122
 ·obtain⟨e,_⟩:=a93 h b;rw[e];refine⟨i,f,⟨h.pos,h.le⟩,GoC.refl _ _ _,fun _=>n fun c a=> ?_,fun e=>by cases e⟩;rw[a3M h,j,a,a94]at b;simpa using b
 ·obtain⟨k,l,s,c,a,_,_,o⟩:=a16 h b;have d:nmB c=true:=by
   rw[a3M h,j,a,a94]at b;simpa using b
  exact⟨i+1,g,k,GoC.one ⟨c,a,p c a d⟩,fun e=>(by rw[l]at e;cases e),fun _=>⟨rfl,rfl,c,a,d,o⟩⟩
theorem a41{C:List UInt8}{i:Nat}{f:Fm}(h:f.st=2∨f.st=3∨f.st=4∨f.st=5∨f.st=6∨f.st=13∨f.st=14)(b:∀c,C[i]? =some c→(f.fixed (c.toNat:Int)).2=false):a2r C i f:=by
 unfold a2r;cases a:C[i]? with
 |none=>exact a6W (by rcases h with h|h|h|h|h|h|h<;>rw[h]<;>decide)
 |some c=>simp only;rw[a4O h];exact b c a
theorem b0n{t:List UInt8}{r:Rd}{i:Nat}{f:Fm}(h:AtI t r i)(b:r.bad=false)(v:r.depth=f.op.length)(d:a9A t r)(x:a5a (a0a t) i f)(w:f.related=false):
  Rz t (a00 t r).1 i f fun a g=>a7n (a0a t) a f g∧(∀c,(a0a t)[a]? =some c→opB c=false∧((c=60∨c=61)→g.related=true))∧Sg (a0a t) i a (a00 t r).2∧i<a∧∃s,EvH (a0a t) i a s (a00 t r).2:=by
 obtain⟨a,g,P,j,m,n,o,p⟩:=b4Y t 10 (r,[]) i f h b v d.fit x w;refine⟨a,g,j,m,o,fun e=> ?_⟩;obtain⟨⟨z,A⟩,B,C⟩:=p e;have u:r.depth≤8:=by
  obtain⟨_,_,F,q⟩:=d;rcases Int.lt_or_le r.depth 9 with k|k
  ·omega
  ·have:=q (by omega);rw[b]at this;cases this
 obtain⟨y,s,D,E⟩:=c5L h b d.d0 u e;obtain rfl:=c6E D j;have l:∃s,EvH (a0a t) i y s (a00 t r).2:=⟨s,E⟩
 have:(a00 t r).2=P:=by unfold a00;simpa using n
 rw[this]at l⊢;exact⟨z,A,B,C,l⟩
theorem c1P{t:List UInt8}{r:Rd}(h:r.bad=true):a00 t r=(r,[]):=b2L t 10 (r,[]) h
theorem b24{t:List UInt8}{r:Rd}{i:Nat}{f g:Fm}(h:AtI t r i)(o:r.bad=false)(d:a7n (a0a t) i f g)(p:∀c,(a0a t)[i]? =some c→opB c=false∧((c=60∨c=61)→g.related=true))(m:f.paren=false):
  Rz t (r.takeOne t 59 59).1 i g fun q n=>q=i+1∧n= { g with st:=0 } ∧(a0a t)[i]? =some 59:=by
 have k:g.paren=false:=by
  unfold Fm.paren Fm.top at m⊢;rw[d.op];exact m
 refine a38 h o 59 { g with st:=0 } (fun l=> ?_) (fun l=> ?_)
 ·rw[d.nx 59 l (by decide)];exact b98 k
 ·unfold a2r;cases a:(a0a t)[i]? with
  |none=>exact d.nd
  |some c=>
   simp only;cases j:dgB c
   ·rw[d.nx c a j];obtain⟨s,u⟩:=p c a;by_cases b:c=41
    ·subst b;exact b4n k
    ·exact b2I s u (fun e=>by subst e;exact l a) b
   ·exact d.dg c a j
structure a49{α:Type}(C:List UInt8)(A:List Int)(rows:Nat→Nat→List α→Prop)(i o:Nat)(q:a0C×List α×List α):Prop where
 over:a0W C i=some o
 rest:∃e,a1K C i=some e∧e.lo≤e.hi∧e.hi≤C.length∧a2w C e.lo e.hi=q.1.parts.length∧a1F C e.lo e.hi=a09 q.1.parts∧e.name=(if q.1.kind=0∨q.1.kind=1 then q.1.name else-1)∧e.label=(if q.1.kind=1∨q.1.kind=2 then(q.1.label:Int)else-1)
 blocks:∃t,a2b C i=some t∧rows t.p t.q q.2.1∧rows t.r t.s q.2.2
 byte:∃c,C[i]? =some c∧(c=42↔q.1.kind=4)∧(c=40↔q.1.kind=3)∧(c=62↔q.1.kind=2)∧(c=94↔q.1.kind=1)
 place:A[i]? =some (q.1.place:Int)
 times:q.1.kind=4→∃d,C[i+1]? =some d∧49≤d.toNat∧d.toNat≤57∧q.1.count=(d.toNat:Int)-48
 name:q.1.kind=0∨q.1.kind=1→0≤q.1.name∧q.1.name<26
 label:q.1.label<16
 parts:∀p∈q.1.parts,a6K p
 kind:0≤q.1.kind∧q.1.kind≤4
 count:0≤q.1.count∧q.1.count≤9
 val:q.1.kind≠4→∃e,a1K C i=some e∧∃s,EvH C e.lo e.hi s q.1.parts
def a7r{α:Type}(one:Nat→Nat→α→Prop):Nat→Nat→List α→Prop
 |lo,hi,[]=>lo=hi
 |lo,hi,q::r=>lo<hi∧∃o,one lo o q∧a7r one o hi r
def a3i(C:List UInt8)(A:List Int)(n:Nat):Nat→Nat→List (RT n)→Prop:=
 match n with
 |0=>fun b a _=>b=a
 |n+1=>fun b a l=>a7r (α:=RT (n+1)) (fun i o q=>a49 C A (a3i C A n) i o q) b a l
theorem a5Q(C:List UInt8)(A:List Int)(n i:Nat):a3i C A n i i []:=by
 cases n with
 |zero=>rfl
 |succ n=>rfl
def a1Q(C:List UInt8)(i j:Nat):Prop:=∀n:Int,1≤n→a2N (C.drop i) n i=a2N (C.drop j) n j
theorem a1Q.trans{C:List UInt8}{i j k:Nat}(a:a1Q C i j)(b:a1Q C j k):a1Q C i k:=fun n c=>(a n c).trans (b n c)
theorem a1Q.byte{C:List UInt8}{i:Nat}{c:UInt8}(h:C[i]? =some c)(a:dl c=0):a1Q C i (i+1):=b2Z h a
theorem a1Q.pair{C:List UInt8}{i j:Nat}{a b:UInt8}(m:C[i]? =some a)(g:C[j]? =some b)(e:dl a=1)(f:dl b= -1)(h:a1Q C (i+1) j):a1Q C i (j+1):=by
 intro n o;obtain⟨l,k⟩:=k_.mp m;obtain⟨d,c⟩:=k_.mp g;rw[a3u l,k,e,f_ (by omega),h (n+1) (by omega),a3u d,c,f,f_ (by omega),show n+1+ -1=n by omega]
theorem shut_pair{C:List UInt8}{i j:Nat}{a b:UInt8}(m:C[i]? =some a)(g:C[j]? =some b)(e:dl a=1)(f:dl b= -1)(h:a1Q C (i+1) j):a0q C i=j+1:=by
 obtain⟨l,k⟩:=k_.mp m;obtain⟨d,c⟩:=k_.mp g;unfold a0q;rw[n_ (by omega),a3u l,k,e,f_ (by decide)];rw[show(0:Int)+1=1 by rfl,h 1 (by omega),a3u d,c,f,n_ (by decide)]
theorem c0P{c:UInt8}(h:nmB c=true):dl c=0∧c≠59∧c≠40∧c≠42∧c≠62∧c≠94∧dgB c=false:=by
 simp[nmB]at h;have a:∀k:UInt8,(k.toNat<97∨122<k.toNat)→c≠k:=by intro k i e;subst e;omega
 refine⟨?_,a 59 (by decide),a 40 (by decide),a 42 (by decide),a 62 (by decide),a 94 (by decide),by simp[dgB];omega⟩;have b:=a 40 (by decide);have d:=a 123 (by decide);have f:=a 41 (by decide);have g:=a 125 (by decide);simp[dl,b,d,f,g]
def a8O(t:List UInt8)(i:Nat)(f:Fm)(n:Nat)(q:RT (n+1))(a:Nat)(g:Fm):Prop:=
 g.op=f.op∧g.body=true∧(g.st=0∨(g.st=1∧(a0a t)[a]? ≠some 123))∧i<a∧a1Q (a0a t) i a∧a49 (a0a t) (atL t 0) (a3i (a0a t) (atL t 0) n) i a q
theorem a0M{t:List UInt8}{r:Rd}(a b:UInt8)(h:r.bad=true):(r.takeOne t a b).1.pos=r.pos∧(r.takeOne t a b).1.bad=true:=by rw[a18 h];exact⟨rfl,h⟩
theorem a3V{t:List UInt8}{r:Rd}(h:r.bad=true):(a00 t r).1.pos=r.pos∧(a00 t r).1.bad=true:=by rw[c1P h];exact⟨rfl,h⟩
theorem c6P{f:Fm}(h:f.st=2):f.fixed ((61:UInt8).toNat:Int)=({ f with st:=10 },true):=by simp[Fm.fixed,Fm.to,h]
theorem c1Q{f:Fm}(h:f.st=2){c:UInt8}(a:c≠61):(f.fixed (c.toNat:Int)).2=false:=by
 have k:=a1V a;simp at k;have b:¬(c.toNat:Int)=61:=by omega
 unfold Fm.fixed;simp[h,b]
theorem c4a{t:List UInt8}{n:Nat}{r:Rd}{i:Nat}{f:Fm}(h:AtI t r i)(z:r.bad=false)(X:r.depth=f.op.length)(O:a1W t r)(y:a5v (a0a t) i f)(m:r.seesOne t 97 122=true):
  Rz t (a0r t n r).1 i f (a8O t i f n (a0r t n r).2):=by
 unfold a0r a3g;rw[n_ m];simp only;have G:i<(a0a t).length:=by
  rw[a3M h,z]at m;cases b:(a0a t)[i]? with
  |none=>rw[b]at m;simp[inR]at m
  |some c=>exact(k_.mp b).1
 refine(b2W h z { f with body:=true,related:=false,st:=2 } (fun c b I=> ?_) (fun I=> ?_)).bind (fun e=> ?_) (fun i1 g1 S A Z=> ?_)
 ·rw[y.nx b,b5W (y.hd.imp id (fun k=>⟨fun e=>k.1 (by rw[b,e]),fun e=>k.2 (by rw[b,e])⟩)) (y.sh.imp (fun k e=>k (by rw[b,e])) id)];simp only;rw[a75,n_ I];rfl
 ·rw[a3M h,z]at m;cases b:(a0a t)[i]? with
  |none=>rw[b]at m;simp[inR]at m
  |some c=>
   rw[b,a94]at m;rw[I c b]at m;simp at m
 ·have N:=a0M (t:=t) 61 61 e;have p:=a3V (t:=t) N.2;have q:=a0M (t:=t) 59 59 p.2;exact⟨q.1.trans (p.1.trans N.1),q.2⟩
 obtain⟨rfl,rfl,c,b,u,P⟩:=Z;have a:=c0P u;refine(a38 S A 61 { f with body:=true,related:=false,st:=10 } (fun s=> ?_) (fun s=> ?_)).bind (fun e=> ?_) (fun i2 g2 T B q2=> ?_)
 ·rw[a4O (.inl rfl)];exact c6P rfl
 ·refine a41 (.inl rfl) (fun d E=>c1Q rfl (fun e=>s (by rw[E,e])))
 ·have p:=a3V (t:=t) e;have q:=a0M (t:=t) 59 59 p.2;exact⟨q.1.trans p.1,q.2⟩
 obtain⟨rfl,rfl,l⟩:=q2;have w:=a0o (t:=t) (r:=r) 97 122 O.le;have x:=w.trans (a0o 61 61 w.le);refine(b0n T B (by rw[x.depth];exact X) (x.fitB O).fitR (a9a rfl ⟨61,l,by decide⟩) rfl).bind (fun e=>a0M 59 59 e) (fun L g3 U C q3=> ?_);obtain⟨M,qn,v,ql,qv⟩:=q3;refine(b24 U C M qn ?_).bind (fun e=>⟨rfl,e⟩) (fun Y R V D q4=>⟨Y,R,V,GoC.refl _ _ _,fun e=>(by rw[D]at e;cases e),fun _=> ?_⟩)
 ·have:=y.pr;unfold Fm.paren Fm.top at this⊢;exact this
 obtain⟨rfl,rfl,j⟩:=q4;have H:=(k_.mp j).1;have g:a0W (a0a t) i=some (L+1):=by
  rw[a5f G];have F:(a0a t)[i]=c:=(k_.mp b).2;rw[F,f_ a.2.2.1,f_ a.2.2.2.1,a2P b a.2.1,a2P l (by decide),v.semi];rw[u_ H,(k_.mp j).2];rfl
 have J:=u;simp[nmB]at J;refine⟨M.op,M.body,.inl rfl,by omega,((a1Q.byte b a.1).trans ((a1Q.byte l (by decide)).trans v.pass)).trans (a1Q.byte j (by decide)),?_⟩;have o:a1K (a0a t) i=some ⟨(c.toNat:Int)-97,-1,i+1+1,L+1-1⟩:=by
  unfold a1K;rw[g,b];simp only;rw[f_ a.2.2.2.2.1,f_ a.2.2.2.2.2.1,f_ a.2.2.1,f_ a.2.2.2.1]
 refine⟨g,?_,?_,⟨c,b,?_⟩,?_,fun e=>(by simp at e),fun _=> ?_,by simp,v.ok,by simp,by simp,fun _=>⟨_,o,by simpa using qv⟩⟩
 ·refine⟨⟨(c.toNat:Int)-97,-1,i+1+1,L+1-1⟩,?_,?_,?_,?_,?_,?_,?_⟩
  ·exact o
  ·simp only;omega
  ·simp only;omega
  ·simp only[a_D];exact v.size
  ·simp only[a_D];unfold a1F;rw[v.names];simp
  ·simp[P]
  ·simp
 ·refine⟨⟨i,i,i,i⟩,?_,a5Q _ _ _ _,a5Q _ _ _ _⟩;rw[a2a g G];have F:(a0a t)[i]=c:=(k_.mp b).2;rw[F,f_ a.2.2.1,f_ a.2.2.2.1]
 ·refine⟨⟨fun e=>absurd e a.2.2.2.1,fun e=>by simp at e⟩,⟨fun e=>absurd e a.2.2.1,fun e=>by simp at e⟩,⟨fun e=>absurd e a.2.2.2.2.1,fun e=>by simp at e⟩,⟨fun e=>absurd e a.2.2.2.2.2.1,fun e=>by simp at e⟩⟩
 ·rw[a5O G,h.pos]
 ·show 0≤(r.takeOne t 97 122).2∧(r.takeOne t 97 122).2<26;rw[P];omega
theorem b3O{f:Fm}(h:f.st=7∨f.st=8)(c:Int):f.next c=f.letters c:=by
 unfold Fm.next;rcases h with h|h<;>simp[h]
theorem c7s{f:Fm}(h:f.st=9)(c:Int):f.next c=f.labeled c:=by
 unfold Fm.next;simp[h]
theorem c0G{f:Fm}{c:UInt8}(b:scB c=true)(h:f.st=7∨(f.st=8∧f.last<(c.toNat:Int))):f.letters (c.toNat:Int)=({ f with last:=(c.toNat:Int),st:=8 },true):=by
 have a:¬(c.toNat:Int)=45:=by simp[scB]at b;omega
 unfold Fm.letters Fm.to;rw[b7l,f_ (fun e=>a e.2),n_ ⟨b,h.imp id (fun k=>k.2)⟩]
theorem b6l{f:Fm}(h:f.st=7):f.letters ((45:UInt8).toNat:Int)=({ f with st:=9 },true):=by
 simp[Fm.letters,Fm.to,h]
theorem c0F{f:Fm}(h:f.st=7){c:UInt8}(a:c≠45)(b:scB c=false):(f.letters (c.toNat:Int)).2=false:=by
 have k:=a1V a;simp at k;have d:¬(c.toNat:Int)=45:=by omega
 unfold Fm.letters;rw[b7l];simp[h,d,b]
theorem b3E{f:Fm}(h:f.st=8){c:UInt8}(b:scB c=true→(c.toNat:Int)≤f.last):f.letters (c.toNat:Int)=f.labeled (c.toNat:Int):=by
 unfold Fm.letters;rw[b7l,f_ (by rw[h];simp),f_ ?_,n_ h];rintro⟨d,a⟩;have:=b d;rcases a with a|a
 ·rw[h]at a;revert a;decide
 ·omega
theorem c66{l j:Nat}(h:l<2^j):l|||2^j=l+2^j:=by
 have e:=Nat.two_pow_add_eq_or_of_lt h 1;rw[Nat.mul_one]at e;rw[Nat.or_comm,←e,Nat.add_comm]
theorem b1r{t:List UInt8} :∀(m:Nat) (r:Rd) (l k:Nat) (f:Fm),m≤4→AtI t r k→r.bad=false→((f.st=7∧l=0)∨(f.st=8∧f.last<69-(m:Int)∧l≠0))→l<2^(4-m)→
  ∃a g,AtI t (Rd.labF t m r l).1 a∧(Rd.labF t m r l).1.bad=false∧(Rd.labF t m r l).1.depth=r.depth∧GoC (a0a t) k f a g∧g.op=f.op∧g.body=f.body∧g.related=f.related∧g.purpose=f.purpose∧
   ((a=k∧g=f∧(Rd.labF t m r l).2=l)∨(k<a∧g.st=8∧69-(m:Int)≤g.last∧(Rd.labF t m r l).2≠0))∧
   (∀c,(a0a t)[a]? =some c→scB c=true→69-(m:Int)≤(c.toNat:Int)→g.st=8∧(c.toNat:Int)≤g.last)∧
   a3a ((a0a t).drop k) l k=a3a ((a0a t).drop a) (Rd.labF t m r l).2 a∧(Rd.labF t m r l).2<16∧a1Q (a0a t) k a∧a17 ((a0a t).drop k) k=a17 ((a0a t).drop a) a∧(k<a→∃d,(a0a t)[a-1]? =some d∧dgB d=false)
 |0,r,l,k,f,hm,h,hb,hst,hl=>by
  refine⟨k,f,h,hb,rfl,GoC.refl _ _ _,rfl,rfl,rfl,rfl,.inl ⟨rfl,rfl,rfl⟩,fun c j z x=> ?_,rfl,by simpa[Rd.labF]using hl,fun _ _=>rfl,rfl,fun e=>by omega⟩;simp[scB]at z;omega
 |m+1,r,l,k,f,hm,h,hb,hst,hl=>by
  have u:(UInt8.ofNat (68-m)).toNat=68-m:=by simp;omega
  have n:scB (UInt8.ofNat (68-m))=true:=by simp[scB,u];omega
  unfold Rd.labF;cases z:r.seesOne t (UInt8.ofNat (68-m)) (UInt8.ofNat (68-m))
  ·rw[f_ (by decide)];have X:=a1M h hb z;have y:2^(4-(m+1))≤2^(4-m):=a_n (by omega) (by omega);obtain⟨a,g,B,G,H,I,J,L,M,N,w,o,p⟩:=b1r m r l k f (by omega) h hb (hst.imp id (fun e=>⟨e.1,by omega,e.2.2⟩)) (by omega);refine⟨a,g,B,G,H,I,J,L,M,N,w.imp id (fun e=>⟨e.1,e.2.1,by omega,e.2.2.2⟩),fun c j v x=> ?_,p⟩;by_cases s:69-(m:Int)≤(c.toNat:Int)
   ·exact o c j v s
   ·have R:c=UInt8.ofNat (68-m):=a_p.mp (by rw[u];omega);rcases w with⟨i,_,_⟩|⟨_,b,q,_⟩
    ·subst i;exact absurd (by rw[j,R]) X
    ·exact⟨b,by omega⟩
  ·rw[n_ rfl];have j:=(a1r h hb _).mp z;obtain⟨Z,a2,a3,_⟩:=a16 h z;have T:dl (UInt8.ofNat (68-m))=0:=c0o (by omega) (by omega) (by omega) (by omega);have P:UInt8.ofNat (68-m)≠59:=by intro e;have:=a_w UInt8.toNat e;rw[u]at this;simp at this;omega
   have A:a7t (a0a t) k f { f with last:=((68-m:Nat):Int),st:=8 } :=by
    refine⟨_,j,?_⟩;rw[b3O (hst.imp (fun e=>e.1) (fun e=>e.1)),c0G n (hst.imp (fun e=>e.1) (fun e=>⟨e.1,by rw[u];omega⟩)),u]
   have y:2^(4-m)=2^(4-(m+1))*2:=by rw[show 4-m=(4-(m+1))+1 by omega,b_l]
   have Y:0<2^(3-m):=Nat.two_pow_pos _;rw[show 4-(m+1)=3-m by omega]at hl y;obtain⟨a,g,B,G,H,I,J,L,M,N,w,o,p,C,D,E,F⟩:=b1r m (r.takeOne t (UInt8.ofNat (68-m)) (UInt8.ofNat (68-m))).1 (l+2^(3-m)) (k+1) { f with last:=((68-m:Nat):Int),st:=8 } (by omega) Z a2 (.inr ⟨rfl,by simp only;omega,by omega⟩) (by omega);refine⟨a,g,B,G,H.trans a3,(GoC.one A).trans I,J,L,M,N,.inr ?_,fun c S v x=> ?_,?_,C,(a1Q.byte j T).trans D,(a2P j P).trans E,fun _=> ?_⟩
   ·rcases w with⟨i,b,q⟩|⟨i,b,q,O⟩
    ·subst i;subst b;exact⟨by omega,rfl,by simp only;omega,by rw[q];omega⟩
    ·exact⟨by omega,b,by omega,O⟩
   ·by_cases s:69-(m:Int)≤(c.toNat:Int)
    ·exact o c S v s
    ·rcases w with⟨i,b,q⟩|⟨i,b,q,O⟩
     ·subst b;exact⟨rfl,by simp only;omega⟩
     ·exact⟨b,by omega⟩
   ·rw[←p];obtain⟨V,U⟩:=k_.mp j;rw[u_ V,U];simp only[a3a,n,a_b,u];rw[show 68-m-65=3-m by omega,c66 hl]
   ·rcases w with⟨i,b,q⟩|⟨i,b,q,O⟩
    ·subst i;exact⟨_,by simpa using j,by simp[dgB,u];omega⟩
    ·exact F i
structure c5i(C:List UInt8)(i:Nat)(f g:Fm):Prop where
 op:g.op=f.op
 body:g.body=f.body
 related:g.related=f.related
 purpose:g.purpose=f.purpose
 nd:g.done=false
 nx:∀c,C[i]? =some c→g.next (c.toNat:Int)=g.labeled (c.toNat:Int)
theorem a5W{t:List UInt8}{r:Rd}(h:r.bad=true):(r.label t).1.pos=r.pos∧(r.label t).1.bad=true:=by
 have a:∀m l,Rd.labF t m r l=(r,l):=by
  intro m;induction m with
  |zero=>intro l;rfl
  |succ m ih=>intro l;unfold Rd.labF;rw[a4r h];simp[ih]
 unfold Rd.label;rw[a4r h,a];simp[h]
theorem b1u{t:List UInt8}{r:Rd}{i:Nat}{f:Fm}(h:AtI t r i)(z:r.bad=false)(m:f.st=7):
  Rz t (r.label t).1 i f fun l g=>c5i (a0a t) l f g∧i<l∧(r.label t).2<16∧a1Q (a0a t) i l∧a17 ((a0a t).drop i) i=a17 ((a0a t).drop l) l∧(∃d,(a0a t)[l-1]? =some d∧dgB d=false)∧∀c,(a0a t)[l]? =some c→scB c=false→a3q (a0a t) i=some ((r.label t).2,l):=by
 unfold Rd.label;cases C:r.seesOne t 45 45
 ·rw[f_ (by decide)];have p:=a1M h z C;obtain⟨D,g,q,H,S,I,J,L,M,N,O,n,u,v,w,x,y⟩:=b1r 4 r 0 i f (by omega) h z (.inl ⟨m,rfl⟩) (by decide);rcases O with⟨s,o,E⟩|⟨s,o,E,P⟩
  ·rw[n_ E];subst s;subst o;refine⟨D,g,⟨q.pos,q.le⟩,GoC.refl _ _ _,fun _=> ?_,fun e=>by cases e⟩;unfold a2r;cases b:(a0a t)[D]? with
   |none=>exact a6W (by rw[m];decide)
   |some c=>
    simp only;rw[b3O (.inl m)];refine c0F m (fun e=>by subst e;exact p b) ?_;cases a:scB c with
    |false=>rfl
    |true=>
     have j:=a;simp[scB]at j;have:=(n c b a (by omega)).1;rw[m]at this
     revert this;decide
  ·rw[f_ P];have k:i<(a0a t).length:=by have:=q.le;omega
   refine⟨D,g,q,I,fun e=>(by rw[H]at e;cases e),fun _=>⟨⟨J,L,M,N,a6W (by rw[o];decide),fun c b=> ?_⟩,s,v,w,x,y s,fun c b a=> ?_⟩⟩
   ·rw[b3O (.inr o)];refine b3E o (fun a=> ?_);have j:=a;simp[scB]at j;exact(n c b a (by omega)).2
   ·rw[a76 k,f_ (fun e=>p (by rw[s_ k,e])),u];obtain⟨B,A⟩:=k_.mp b;rw[u_ B,A];simp[a3a,a]
 ·rw[n_ rfl];have b:=(a1r h z 45).mp C;have k:=(k_.mp b).1;obtain⟨F,G,R,_⟩:=a16 h C;refine⟨i+1,{ f with st:=9 },F,GoC.one ⟨45,b,by rw[b3O (.inl m)];exact b6l m⟩,fun e=>(by simp only at e;rw[G]at e;cases e),fun _=>⟨⟨rfl,rfl,rfl,rfl,a6W ⟨by simp,by simp⟩,fun c _=>c7s rfl _⟩,by omega,by simp,a1Q.byte b (by decide),a2P b (by decide),⟨45,by simpa using b,by decide⟩,fun c _ _=> ?_⟩⟩;rw[a76 k,n_ (k_.mp b).2]
theorem b7q{f:Fm}(h:f.purpose=1):f.labeled ((61:UInt8).toNat:Int)=({ f with st:=10 },true):=by simp[Fm.labeled,Fm.to,h]
theorem b3B{f:Fm}(h:f.purpose=1){c:UInt8}(a:c≠61):(f.labeled (c.toNat:Int)).2=false:=by
 have k:=a1V a;simp at k;have b:¬(c.toNat:Int)=61:=by omega
 simp[Fm.labeled,h,b]
theorem b7r{f:Fm}(h:f.purpose=2)(c:Int):f.labeled c=f.unit c:=by simp[Fm.labeled,h]
theorem b7p{f:Fm}(h:f.purpose=0):f.labeled ((59:UInt8).toNat:Int)=({ f with st:=0 },true):=by simp[Fm.labeled,Fm.to,h]
theorem b3A{f:Fm}(h:f.purpose=0){c:UInt8}(a:c≠59):(f.labeled (c.toNat:Int)).2=false:=by
 have k:=a1V a;simp at k;have b:¬(c.toNat:Int)=59:=by omega
 simp[Fm.labeled,h,b]
theorem c6Q{f:Fm}(h:f.st=3){c:UInt8}(a:nmB c=true):f.fixed (c.toNat:Int)=({ f with st:=4 },true):=by
 unfold Fm.fixed;rw[a75];simp[Fm.to,h,a]
theorem c1R{f:Fm}(h:f.st=3){c:UInt8}(a:nmB c=false):(f.fixed (c.toNat:Int)).2=false:=by
 unfold Fm.fixed;rw[a75];simp[Fm.to,h,a]
theorem c6R{f:Fm}(h:f.st=4):f.fixed ((58:UInt8).toNat:Int)=({ f with purpose:=1,st:=7 },true):=by simp[Fm.fixed,Fm.to,h]
theorem c1S{f:Fm}(h:f.st=4){c:UInt8}(a:c≠58):(f.fixed (c.toNat:Int)).2=false:=by
 have k:=a1V a;simp at k;have b:¬(c.toNat:Int)=58:=by omega
 simp[Fm.fixed,Fm.to,h,b]
theorem a5v.body{C:List UInt8}{i:Nat}{f:Fm}(h:a5v C i f){c:UInt8}(a:C[i]? =some c):f.next (c.toNat:Int)=
  (let f:= { f with body:=true,related:=false }
  if a2f (c.toNat:Int)=true then f.to 2
  else if(c.toNat:Int)=94 then f.to 3
  else if(c.toNat:Int)=62 then { f with purpose:=2 }.to 7
  else if(c.toNat:Int)=40∧f.op.length<8 then { f with op:=99::f.op }.to 10
  else if(c.toNat:Int)=42∧f.op.length<8 then f.to 13
  else(f,false)):=by
 rw[h.nx a,b5W (h.hd.imp id (fun k=>⟨fun e=>k.1 (by rw[a,e]),fun e=>k.2 (by rw[a,e])⟩)) (h.sh.imp (fun k e=>k (by rw[a,e])) id)]
theorem b1D{C:List UInt8}{i j:Nat}{c:UInt8}(e:C[i]? =some c)(a:c≠40)(b:c≠42)(l:a17 (C.drop i) i=a17 (C.drop j) j)(h:C[j]? =some 59):a0W C i=some (j+1):=by
 obtain⟨g,f⟩:=k_.mp e;obtain⟨k,d⟩:=k_.mp h;rw[a5f g,f,f_ a,f_ b,l,u_ k,d];rfl
theorem c4L{t:List UInt8}{n:Nat}{r:Rd}{i:Nat}{f:Fm}(h:AtI t r i)(hb:r.bad=false)(hd:r.depth=f.op.length)(hf:a1W t r)(hR:a5v (a0a t) i f)(s1:r.seesOne t 97 122=false)(s2:r.seesOne t 94 94=true):
  Rz t (a0r t n r).1 i f (a8O t i f n (a0r t n r).2):=by
 unfold a0r a3g;rw[f_ (by rw[s1];decide),n_ s2];simp only;have o:=(a1r h hb 94).mp s2;have hi:=(k_.mp o).1;refine(a38 h hb 94 { f with body:=true,related:=false,st:=3 } (fun o=> ?_) (fun A=>absurd o A)).bind (fun e=> ?_) (fun i1 g1 h1 L q1=> ?_)
 ·rw[hR.body o];simp[a2f,Fm.to]
 ·have Y:=a0M (t:=t) 97 122 e;have x:=a0M (t:=t) 58 58 Y.2;have s:=a5W (t:=t) x.2;have k:=a0M (t:=t) 61 61 s.2;have g:=a3V (t:=t) k.2;have j:=a0M (t:=t) 59 59 g.2;exact⟨j.1.trans (g.1.trans (k.1.trans (s.1.trans (x.1.trans Y.1)))),j.2⟩
 obtain⟨rfl,rfl,_⟩:=q1;refine(b2W h1 L { f with body:=true,related:=false,st:=4 } (fun c q A=> ?_) (fun A=> ?_)).bind (fun e=> ?_) (fun i2 g2 h2 M q2=> ?_)
 ·rw[a4O (.inr (.inl rfl))];exact c6Q rfl A
 ·exact a41 (.inr (.inl rfl)) (fun d v=>c1R rfl (A d v))
 ·have x:=a0M (t:=t) 58 58 e;have s:=a5W (t:=t) x.2;have k:=a0M (t:=t) 61 61 s.2;have g:=a3V (t:=t) k.2;have j:=a0M (t:=t) 59 59 g.2;exact⟨j.1.trans (g.1.trans (k.1.trans (s.1.trans x.1))),j.2⟩
 obtain⟨rfl,rfl,c,q,B,hv⟩:=q2;have C:=c0P B;refine(a38 h2 M 58 { f with body:=true,related:=false,purpose:=1,st:=7 } (fun l=> ?_) (fun l=> ?_)).bind (fun e=> ?_) (fun i3 g3 h3 N q3=> ?_)
 ·rw[a4O (.inr (.inr (.inl rfl)))];exact c6R rfl
 ·exact a41 (.inr (.inr (.inl rfl))) (fun d v=>c1S rfl (fun e=>l (by rw[v,e])))
 ·have s:=a5W (t:=t) e;have k:=a0M (t:=t) 61 61 s.2;have g:=a3V (t:=t) k.2;have j:=a0M (t:=t) 59 59 g.2;exact⟨j.1.trans (g.1.trans (k.1.trans s.1)),j.2⟩
 obtain⟨rfl,rfl,l⟩:=q3;refine(b1u h3 N rfl).bind (fun e=> ?_) (fun U Z h4 O q4=> ?_)
 ·have k:=a0M (t:=t) 61 61 e;have g:=a3V (t:=t) k.2;have j:=a0M (t:=t) 59 59 g.2;exact⟨j.1.trans (g.1.trans k.1),j.2⟩
 obtain⟨p,Ac,V,qp,qs,qd,qc⟩:=q4;refine(a38 h4 O 61 { Z with st:=10 } (fun a=> ?_) (fun a=> ?_)).bind (fun e=> ?_) (fun i5 g5 h5 P q5=> ?_)
 ·rw[p.nx 61 a];exact b7q p.purpose
 ·unfold a2r;cases y:(a0a t)[U]? with
  |none=>exact p.nd
  |some d=>simp only;rw[p.nx d y];exact b3B p.purpose (fun e=>a (by rw[y,e]))
 ·have g:=a3V (t:=t) e;have j:=a0M (t:=t) 59 59 g.2;exact⟨j.1.trans g.1,j.2⟩
 obtain⟨rfl,rfl,a⟩:=q5;have F:=a0o (t:=t) (r:=r) 94 94 hf.le;have G:=F.trans (a0o 97 122 F.le);have H:=G.trans (a0o 58 58 G.le);have I:=H.trans (a4h H.le);have J:=I.trans (a0o 61 61 I.le);refine(b0n (f:= { Z with st:=10 }) h5 P (by rw[J.depth,hd];simp only[p.op]) (J.fitB hf).fitR (a9a rfl ⟨61,a,by decide⟩) p.related).bind (fun e=>a0M 59 59 e) (fun D g6 h6 R q6=> ?_);obtain⟨X,qn,E,Ab,qv⟩:=q6;refine(b24 h6 R X qn ?_).bind (fun e=>⟨rfl,e⟩) (fun i7 g7 h7 S q7=>⟨i7,g7,h7,GoC.refl _ _ _,fun e=>(by rw[S]at e;cases e),fun _=> ?_⟩)
 ·have:=hR.pr;unfold Fm.paren Fm.top at this⊢;simp only[p.op];exact this
 obtain⟨rfl,rfl,m⟩:=q7;have Aa:=(k_.mp m).1;have w:a17 ((a0a t).drop i) i=a17 ((a0a t).drop D) D:=by
  rw[a2P o (by decide),a2P q C.2.1,a2P l (by decide),qs,a2P a (by decide),E.semi]
 have b:a0W (a0a t) i=some (D+1):=b1D o (by decide) (by decide) w m;have z:=qc 61 a (by decide);have T:=B;simp[nmB]at T;refine⟨X.op.trans p.op,X.body.trans p.body,.inl rfl,by omega,(((a1Q.byte o (by decide)).trans ((a1Q.byte q C.1).trans (a1Q.byte l (by decide)))).trans (qp.trans ((a1Q.byte a (by decide)).trans E.pass))).trans (a1Q.byte m (by decide)),?_⟩;have u:a1K (a0a t) i=some ⟨(c.toNat:Int)-97,((((((r.takeOne t 94 94).1.takeOne t 97 122).1.takeOne t 58 58).1.label t).2:Nat):Int),U+1,D+1-1⟩:=by
  unfold a1K;rw[b,o];simp only;rw[f_ (by decide),n_ trivial,show i+3=i+1+1+1 by rfl,z,q]
 refine⟨b,?_,?_,⟨94,o,by simp⟩,?_,fun e=>(by simp at e),fun _=> ?_,V,E.ok,by simp,by simp,fun _=>⟨_,u,by simpa using qv⟩⟩
 ·refine⟨⟨(c.toNat:Int)-97,((((((r.takeOne t 94 94).1.takeOne t 97 122).1.takeOne t 58 58).1.label t).2:Nat):Int),U+1,D+1-1⟩,?_,?_,?_,?_,?_,?_,?_⟩
  ·exact u
  ·simp only;omega
  ·simp only;omega
  ·simp only[a_D];exact E.size
  ·simp only[a_D];unfold a1F;rw[E.names];simp
  ·simp[hv]
  ·simp
 ·refine⟨⟨i,i,i,i⟩,?_,a5Q _ _ _ _,a5Q _ _ _ _⟩;rw[a2a b hi,(k_.mp o).2];simp
 ·rw[a5O hi,h.pos]
 ·show 0≤((r.takeOne t 94 94).1.takeOne t 97 122).2∧((r.takeOne t 94 94).1.takeOne t 97 122).2<26;rw[hv];omega
theorem c3e{C:List UInt8}{i:Nat}{f g:Fm}(h:c5i C i f g)(e:f.purpose=2)(b:∃d,C[i-1]? =some d∧dgB d=false):a5a C i g:=
 ⟨h.nd,fun c a=>by rw[h.nx c a];exact b7r (h.purpose.trans e) _,fun _=>b⟩
theorem c4Y{t:List UInt8}{r:Rd}{i:Nat}(h:AtI t r i)(p:r.bad=false){hi:i<(a0a t).length}(k:scB (a0a t)[i]=true)(j:(a00 t r).1.bad=false):False:=by
 have g:(a0a t)[i]? =some (a0a t)[i]:=s_ hi;generalize (a0a t)[i]=c at k g;simp[scB]at k;have d:∀a b:UInt8,(c.toNat<a.toNat∨b.toNat<c.toNat)→r.seesOne t a b=false:=by
  intro a b o;rw[a3M h,p,g];simp only[inR,H_];simp;omega
 have q:∀e l,(a2C t e (r,l)).1.bad=true:=by
  intro e l;unfold a2C;rw[b0D _ (d 45 45 (.inr (by simp;omega)))];simp only;unfold a3b;simp only;rw[d 48 57 (.inr (by simp;omega)),d 97 122 (.inl (by simp;omega)),d 40 40 (.inr (by simp;omega))];simp
 have:(a00 t r).1.bad=true:=by
  show(a6L t (a5G t 9) (r,[])).1.bad=true;have f:=q (a5G t 9) [];have m:a2Y t (a5G t 9) (r,[])=a2C t (a5G t 9) (r,[]):=by unfold a2Y;exact b5R f _
  have n:a1E t (a5G t 9) (r,[])=a2C t (a5G t 9) (r,[]):=by unfold a1E;rw[m];exact b8j f _
  unfold a6L;rw[n];simp only;rw[a5n f];exact f
 rw[this]at j;cases j
theorem c5a{t:List UInt8}{n:Nat}{r:Rd}{i:Nat}{f:Fm}(h:AtI t r i)(H:r.bad=false)(R:r.depth=f.op.length)(I:a1W t r)(G:a5v (a0a t) i f)(s1:r.seesOne t 97 122=false)(s2:r.seesOne t 94 94=false)(L:r.seesOne t 62 62=true):
  Rz t (a0r t n r).1 i f (a8O t i f n (a0r t n r).2):=by
 unfold a0r a3g;rw[f_ (by rw[s1];decide),f_ (by rw[s2];decide),n_ L];simp only;have d:=(a1r h H 62).mp L;have J:=(k_.mp d).1;refine(a38 h H 62 { f with body:=true,related:=false,purpose:=2,st:=7 } (fun d=> ?_) (fun T=>absurd d T)).bind (fun e=> ?_) (fun i3 g3 N y V=> ?_)
 ·rw[G.body d];simp[a2f,Fm.to]
 ·have E:=a5W (t:=t) e;have l:=a3V (t:=t) E.2;have m:=a0M (t:=t) 59 59 l.2;exact⟨m.1.trans (l.1.trans E.1),m.2⟩
 obtain⟨rfl,rfl,_⟩:=V;refine(b1u N y rfl).bind (fun e=> ?_) (fun s g4 F o X=> ?_)
 ·have l:=a3V (t:=t) e;have m:=a0M (t:=t) 59 59 l.2;exact⟨m.1.trans l.1,m.2⟩
 obtain⟨k,Ab,C,qp,qs,qd,qc⟩:=X;have w:=a0o (t:=t) (r:=r) 62 62 I.le;have x:=w.trans (a4h w.le);refine(b0n F o (by rw[x.depth,R];simp only[k.op]) (x.fitB I).fitR (c3e k rfl qd) k.related).bind (fun e=>a0M 59 59 e) (fun u g6 O p Y=> ?_);obtain⟨D,qn,v,Aa,qv⟩:=Y;refine(b24 O p D qn ?_).bind (fun e=>⟨rfl,e⟩) (fun U M P z Z=>⟨U,M,P,GoC.refl _ _ _,fun e=>(by rw[z]at e;cases e),fun _=> ?_⟩)
 ·have:=G.pr;unfold Fm.paren Fm.top at this⊢;rw[k.op];exact this
 obtain⟨rfl,rfl,c⟩:=Z;have S:=(k_.mp c).1;have j:a17 ((a0a t).drop i) i=a17 ((a0a t).drop u) u:=by
  rw[a2P d (by decide),qs,v.semi]
 have b:a0W (a0a t) i=some (u+1):=b1D d (by decide) (by decide) j c
 -- the byte behind the label begins a unit: it is no secret
 have A:s<(a0a t).length:=by omega
 have q:a3q (a0a t) (i+1)=some (((r.takeOne t 62 62).1.label t).2,s):=by
  refine qc _ (s_ A) ?_;cases B:scB (a0a t)[s]with
  |false=>rfl
  |true=>exact(c4Y F o B p).elim
 refine⟨D.op.trans k.op,D.body.trans k.body,.inl rfl,by omega,((a1Q.byte d (by decide)).trans (qp.trans v.pass)).trans (a1Q.byte c (by decide)),?_⟩;have g:a1K (a0a t) i=some ⟨-1,((((r.takeOne t 62 62).1.label t).2:Nat):Int),s,u+1-1⟩:=by
  unfold a1K;rw[b,d];simp only;rw[n_ trivial,q]
 refine⟨b,?_,?_,⟨62,d,by simp⟩,?_,fun e=>(by simp at e),fun e=>(by simp at e),C,v.ok,by simp,by simp,fun _=>⟨_,g,by simpa using qv⟩⟩
 ·refine⟨⟨-1,((((r.takeOne t 62 62).1.label t).2:Nat):Int),s,u+1-1⟩,?_,?_,?_,?_,?_,?_,?_⟩
  ·exact g
  ·simp only;omega
  ·simp only;omega
  ·simp only[a_D];exact v.size
  ·simp only[a_D];unfold a1F;rw[v.names];simp
  ·simp
  ·simp
 ·refine⟨⟨i,i,i,i⟩,?_,a5Q _ _ _ _,a5Q _ _ _ _⟩;rw[a2a b J,(k_.mp d).2];simp
 ·rw[a5O J,h.pos]
theorem b80{t:List UInt8}{r:Rd}(c:UInt8)(h:r.bad=true):(r.opening t c).pos=r.pos∧(r.opening t c).bad=true:=by
 have a:=b71 h;unfold Rd.opening;rw[a18 a];exact⟨a4Y r,a⟩
theorem a5E{t:List UInt8}{r:Rd}(c:UInt8)(h:r.bad=true):(r.closing t c).pos=r.pos∧(r.closing t c).bad=true:=by
 unfold Rd.closing;rw[a18 h];exact⟨rfl,h⟩
theorem a8v{t:List UInt8}{n:Nat}{r:Rd}(h:r.bad=true):(a08 t n r).1.pos=r.pos∧(a08 t n r).1.bad=true:=by
 have a:=b80 (t:=t) 123 h;have b:=a5E (t:=t) 125 a.2;cases n with
 |zero=>exact⟨b.1.trans a.1,b.2⟩
 |succ n=>
  show(a4I t (fun r=>a0r t n r) r).1.pos=_∧(a4I t (fun r=>a0r t n r) r).1.bad=true;unfold a4I;simp only;rw[a5r a.2];exact⟨b.1.trans a.1,b.2⟩
def b9q(t:List UInt8)(i:Nat)(f:Fm)(k:UInt8)(n:Nat)(l:List (RT n))(a:Nat)(g:Fm):Prop:=
 g.op=f.op∧g.body=true∧g.st=(if k=49 then 1 else 0)∧i+2≤a∧(a0a t)[i]? =some 123∧(a0a t)[a-1]? =some 125∧a1Q (a0a t) (i+1) (a-1)∧a3i (a0a t) (atL t 0) n (i+1) (a-1) l
def a8H(t:List UInt8)(n:Nat):Prop:=∀(r:Rd) (i:Nat) (f a:Fm) (k:UInt8),AtI t r i→r.bad=false→r.depth=f.op.length→a1W t r→8≤r.depth+n→f.op.length<8→(k=49∨k=50∨k=108)→a.op=k::f.op→a.st=0→a.body=true→
 ((a0a t)[i]? =some 123→f.next ((123:UInt8).toNat:Int)=(a,true))→((a0a t)[i]? ≠some 123→a2r (a0a t) i f)→Rz t (a08 t n r).1 i f (b9q t i f k n (a08 t n r).2)
theorem b2r{t:List UInt8}{r:Rd}{i:Nat}{f:Fm}(h:AtI t r i)(m:r.bad=false)(p:r.depth<8)(k:UInt8)(g:Fm)(o:(a0a t)[i]? =some k→f.next (k.toNat:Int)=(g,true))(n:(a0a t)[i]? ≠some k→a2r (a0a t) i f):
  Rz t (r.opening t k) i f fun c b=>c=i+1∧b=g∧(a0a t)[i]? =some k:=by
 have a:r.room=r:=by unfold Rd.room;rw[f_ (by omega)]
 obtain⟨c,b,d,e,j,l⟩:=a38 h m k g o n;have:r.opening t k= { (r.takeOne t k k).1 with depth:=(r.takeOne t k k).1.depth+1 } :=by unfold Rd.opening;rw[a]
 rw[this];exact⟨c,b,⟨d.pos,d.le⟩,e,j,l⟩
theorem b2f{t:List UInt8}{r:Rd}{i:Nat}{f:Fm}(h:AtI t r i)(l:r.bad=false)(k:UInt8)(g:Fm)(n:(a0a t)[i]? =some k→f.next (k.toNat:Int)=(g,true))(m:(a0a t)[i]? ≠some k→a2r (a0a t) i f):
  Rz t (r.closing t k) i f fun b a=>b=i+1∧a=g∧(a0a t)[i]? =some k:=by
 obtain⟨b,a,c,d,e,j⟩:=a38 h l k g n m;exact⟨b,a,⟨c.pos,c.le⟩,d,e,j⟩
theorem c2z{f:Fm}{k:UInt8}{r:List UInt8}(h:f.op=k::r)(a:k=49∨k=50∨k=108):f.paren=false:=by
 unfold Fm.paren Fm.top;rw[h];rcases a with rfl|rfl|rfl<;>simp
def b0f(t:List UInt8)(n:Nat):Prop:=∀(r:Rd) (i:Nat) (f:Fm),AtI t r i→r.bad=false→r.depth=f.op.length→a1W t r→8≤r.depth+n→a5v (a0a t) i f→Rz t (a0r t n r).1 i f (a8O t i f n (a0r t n r).2)
theorem a9L{t:List UInt8}{n:Nat}(C:b0f t n)(halt:Rd→Bool)(f:Fm)(d:Int)(D:d=f.op.length)(w:d≤8)(U:8≤d+n)(y:f.paren=false)
  (E:∀(r:Rd) (j:Nat),AtI t r j→r.bad=false→halt r=false→((a0a t)[j]? ≠some 125∨f.op= [])∧((a0a t)[j]? =none→¬f.op= [])):
  ∀(k:Nat) (r:Rd) (j:Nat) (g:Fm),AtI t r j→r.bad=false→r.depth=d→a1W t r→g.op=f.op→(g.body=true∨((a0a t)[j]? ≠some 63∧(a0a t)[j]? ≠some 33))→(g.st=0∨(g.st=1∧(a0a t)[j]? ≠some 123))→(a0a t).length-j<k→
  Rz t (a1m (fun r=>a0r t n r) halt k r).1 j g fun s m=>halt (a1m (fun r=>a0r t n r) halt k r).1=true∧m.op=f.op∧(m.body=true∨m=g)∧(m.st=0∨(m.st=1∧(a0a t)[s]? ≠some 123))∧j≤s∧a1Q (a0a t) j s∧a7r (fun i o (q:RT (n+1))=>a49 (a0a t) (atL t 0) (a3i (a0a t) (atL t 0) n) i o q) j s (a1m (fun r=>a0r t n r) halt k r).2
 |0,r,j,g,h,hb,hdd,hf,hg,hbd,hst,hk=>by omega
 |k+1,r,j,g,h,hb,hdd,hf,hg,hbd,hst,hk=>by
  cases p:halt r
  ·rw[a9M hb p];obtain⟨z,A⟩:=E r j h hb p;have u:a5v (a0a t) j g:=⟨hst,hbd,by unfold Fm.paren Fm.top at y⊢;rw[hg];exact y,by rw[hg];exact z,fun e=>by
    have:=A e;unfold Fm.done;rw[hg];cases x:f.op with
    |nil=>exact absurd x this
    |cons a b=>simp⟩
   have c:=(b1P t n hf)
   refine(C r j g h hb (by rw[hdd,D,hg]) hf (by omega) u).bind (fun e=> ?_) (fun F S B v q1=> ?_)
   ·rw[a5r e];exact⟨rfl,e⟩
   obtain⟨X,G,Y,p4,Z,p6⟩:=q1;obtain⟨V,T,H,I,J,L⟩:=a9L C halt f d D w U y E k (a0r t n r).1 F S B v (c.1.depth.trans hdd) (c.1.fitB hf) (X.trans hg) (.inl G) Y (by have:=B.le;omega);refine⟨V,T,H,I,J,fun e=> ?_⟩;obtain⟨M,N,l,O,e5,P,R⟩:=L e;refine⟨M,N,.inl ?_,O,by omega,Z.trans P,⟨by omega,F,p6,R⟩⟩;rcases l with l|l
   ·exact l
   ·rw[l];exact G
  ·rw[a9N (rule:=fun r=>a0r t n r) p];exact⟨j,g,h,GoC.refl _ _ _,fun e=>(by simp only at e;rw[hb]at e;cases e),fun _=>⟨p,hg,.inr rfl,hst,a_ _,fun _ _=>rfl,rfl⟩⟩
theorem c2T{f:Fm}{k:UInt8}{r:List UInt8}(a:f.st=0∨f.st=1)(h:f.op=k::r)(b:k=49∨k=50∨k=108):f.next ((125:UInt8).toNat:Int)=({ f with op:=r,st:=(if k=49 then 1 else 0) },true):=by
 have e:f.next ((125:UInt8).toNat:Int)=f.rule ((125:UInt8).toNat:Int):=by
  rcases a with h|h
  ·exact c0N h _
  ·exact c5p h (by decide)
 rw[e];unfold Fm.rule Fm.top Fm.to;rw[h];rcases b with rfl|rfl|rfl<;>simp
theorem c3M(t:List UInt8):a8H t 0:=fun r i f a k h c d e g b=>by omega
theorem c3L{t:List UInt8}{n:Nat}(E:b0f t n):a8H t (n+1):=by
 intro r i f z k h F H x hn h8 y b u d L v;show Rz t (a4I t (fun r=>a0r t n r) r).1 i f (b9q t i f k (n+1) (a4I t (fun r=>a0r t n r) r).2);unfold a4I;simp only;have I:=a4F t;obtain⟨o1,N,O,o4,o5⟩:=a10 (t:=t) (r:=r) 123 x.le;have Z:=x.d0;refine(b2r h F (by omega) 123 z L v).bind (fun e=> ?_) (fun i1 o C q V=> ?_)
 ·rw[a5r e];exact a5E 125 e
 obtain⟨rfl,rfl,G⟩:=V;have l:o.op.length=f.op.length+1:=by rw[b];rfl
 refine(a9L E (fun r=>r.seesOne t 125 125) o (r.depth+1) (by rw[l,H];simp) (by omega) (by omega) (c2z b y) (fun r' j B p J=>⟨.inl (a1M B p J),fun _ e=>by rw[b]at e;cases e⟩) (t.length+1) (r.opening t 123) (i+1) o C q O ⟨N,by omega,by omega⟩ rfl (.inl d) (.inl u) (by omega)).bind (fun e=>a5E 125 e) (fun j g w c X=> ?_);obtain⟨P,R,m,S,p5,T,U⟩:=X;have a:=(a1r w c 125).mp P;refine(b2f w c 125 { g with op:=f.op,st:=(if k=49 then 1 else 0) } (fun _=>c2T (S.imp id (fun e=>e.1)) (R.trans b) y) (fun e=>absurd a e)).bind (fun e=>⟨rfl,e⟩) (fun M A D s Y=>⟨M,A,D,GoC.refl _ _ _,fun e=>(by rw[s]at e;cases e),fun _=> ?_⟩);obtain⟨rfl,rfl,_⟩:=Y;refine⟨rfl,?_,rfl,by omega,G,by simpa using a,by simpa using T,by simp only[a_D];exact U⟩;rcases m with m|m
 ·exact m
 ·rw[m];exact d
theorem b9w{f:Fm}{k:UInt8}(h:f.st=14)(a:f.block= [k]):f.next ((123:UInt8).toNat:Int)=({ f with op:=k::f.op,st:=0 },true):=by
 rw[a4O (.inr (.inr (.inr (.inr (.inr (.inr h))))))];simp[Fm.fixed,Fm.to,h,a]
theorem b3r{C:List UInt8}{i:Nat}{f:Fm}(h:f.st=14)(b:C[i]? ≠some 123):a2r C i f:=by
 refine a41 (.inr (.inr (.inr (.inr (.inr (.inr h)))))) (fun c a=> ?_);have k:=a1V (c:=c) (k:=123) (fun e=>b (by rw[a,e]));simp at k;have d:¬(c.toNat:Int)=123:=by omega
 simp[Fm.fixed,Fm.to,h,d]
theorem c5U{f:Fm}{c:UInt8}(h:f.st=13)(b:dgB c=true)(a:c≠48):f.next (c.toNat:Int)=({ f with block:= [108],st:=14 },true):=by
 have k:=a1V a;simp at k;have d:¬(c.toNat:Int)=48:=by omega
 rw[a4O (.inr (.inr (.inr (.inr (.inr (.inl h))))))];unfold Fm.fixed;rw[a8Z];simp[Fm.to,h,b,d]
theorem c0u{C:List UInt8}{i:Nat}{f:Fm}(h:f.st=13)(b:∀c,C[i]? =some c→¬(dgB c=true∧c≠48)):a2r C i f:=by
 refine a41 (.inr (.inr (.inr (.inr (.inr (.inl h)))))) (fun c a=> ?_);have k:=b c a;unfold Fm.fixed;rw[a8Z];cases d:dgB c
 ·simp[Fm.to,h]
 ·have:c=48:=a_F fun e=>k ⟨d,e⟩
  subst this;simp[Fm.to,h]
theorem c0O{f:Fm}(h:f.st=1)(a:f.op.length<8):f.next ((123:UInt8).toNat:Int)=({ f with op:=50::f.op,st:=0 },true):=by
 unfold Fm.next;simp[h,a,Fm.to]
theorem c4D{t:List UInt8}{n:Nat}{r:Rd}{i:Nat}{f:Fm}(h:AtI t r i)(b:r.bad=false)(g:a5v (a0a t) i f)(d:r.seesOne t 97 122=false)(j:r.seesOne t 94 94=false)(l:r.seesOne t 62 62=false)(m:r.seesOne t 40 40=false)(o:r.seesOne t 42 42=false):
  Rz t (a0r t n r).1 i f (a8O t i f n (a0r t n r).2):=by
 unfold a0r a3g;rw[f_ (by rw[d];decide),f_ (by rw[j];decide),f_ (by rw[l];decide),f_ (by rw[m];decide),f_ (by rw[o];decide)];refine⟨i,f,⟨h.pos,h.le⟩,GoC.refl _ _ _,fun _=> ?_,fun e=>by cases e⟩;unfold a2r;cases a:(a0a t)[i]? with
 |none=>exact g.nd a
 |some c=>
  simp only;have q:=a1V (c:=c) (k:=94) (fun e=>a1M h b j (by rw[a,e]));have s:=a1V (c:=c) (k:=62) (fun e=>a1M h b l (by rw[a,e]));have u:=a1V (c:=c) (k:=40) (fun e=>a1M h b m (by rw[a,e]));have v:=a1V (c:=c) (k:=42) (fun e=>a1M h b o (by rw[a,e]));have p:nmB c=false:=by rw[a3M h,b,a,a94]at d;simpa using d
  simp at q s u v;rw[g.body a];simp only;rw[a75,f_ (by rw[p];decide),f_ (by omega),f_ (by omega),f_ (fun e=>by omega),f_ (fun e=>by omega)]
theorem b2J{t:List UInt8}{i c:Nat}(h:i+2≤c)(d:(a0a t)[i]? =some 123)(e:(a0a t)[c-1]? =some 125)(f:a1Q (a0a t) (i+1) (c-1)):a1Q (a0a t) i c∧a0q (a0a t) i=c:=by
 have a:=a1Q.pair d e (by decide) (by decide) f;have b:=shut_pair d e (by decide) (by decide) f;rw[show c-1+1=c by omega]at a b;exact⟨a,b⟩
theorem c4v{t:List UInt8}{n:Nat}(hB:a8H t n){r:Rd}{i:Nat}{f:Fm}(h:AtI t r i)(R:r.bad=false)(hd:r.depth=f.op.length)(S:a1W t r)(M:8≤r.depth+n)(P:a5v (a0a t) i f)(s1:r.seesOne t 97 122=false)(s2:r.seesOne t 94 94=false)(s3:r.seesOne t 62 62=false)(s4:r.seesOne t 40 40=false)(T:r.seesOne t 42 42=true):
  Rz t (a0r t n r).1 i f (a8O t i f n (a0r t n r).2):=by
 unfold a0r a3g
 rw[f_ (by rw[s1];decide),f_ (by rw[s2];decide),f_ (by rw[s3];decide),f_ (by rw[s4];decide),n_ T]
 simp only
 have d:=(a1r h R 42).mp T
 have L:=(k_.mp d).1
 by_cases E:f.op.length<8
 ·have o:r.room=r:=by unfold Rd.room;rw[f_ (by omega)]
  rw[o]
  refine(a38 h R 42 { f with body:=true,related:=false,st:=13 } (fun d=> ?_) (fun M=>absurd d M)).bind (fun e=> ?_) (fun i1 g1 v F q1=> ?_)
  ·rw[P.body d];simp[a2f,Fm.to,E]
  ·have s:=a0M (t:=t) 49 57 e
   have u:=a8v (t:=t) (n:=n) s.2
   exact⟨u.1.trans s.1,u.2⟩
  obtain⟨rfl,rfl,_⟩:=q1
  have C:=a0o (t:=t) (r:=r) 42 42 S.le
  have q:=C.trans (a0o 49 57 C.le)
  have x:Rz t ((r.takeOne t 42 42).1.takeOne t 49 57).1 (i+1) { f with body:=true,related:=false,st:=13 } fun i' g=>i'=i+1+1∧g= { f with body:=true,related:=false,block:= [108],st:=14 } ∧∃c,(a0a t)[i+1]? =some c∧dgB c=true∧c≠48∧((r.takeOne t 42 42).1.takeOne t 49 57).2=(c.toNat:Int)-49:=by
   cases A:(r.takeOne t 42 42).1.seesOne t 49 57
   ·obtain⟨e,_⟩:=a93 v A
    rw[e]
    refine⟨i+1,_,⟨v.pos,v.le⟩,GoC.refl _ _ _,fun _=>c0u rfl (fun c a hh=> ?_),fun e=>by cases e⟩
    rw[a3M v,F,a]at A
    simp only[inR,H_]at A
    obtain⟨I,J⟩:=hh
    simp[dgB]at I
    have:=a1V J
    simp at A this
    omega
   ·obtain⟨U,V,a3,c,a,m,z,D⟩:=a16 v A
    rw[H_]at m z
    simp at m z
    have j:dgB c=true:=by simp[dgB];omega
    have l:c≠48:=by intro e;subst e;simp at m
    exact⟨i+1+1,_,U,GoC.one ⟨c,a,c5U rfl j l⟩,fun e=>(by rw[V]at e;cases e),fun _=>⟨rfl,rfl,c,a,j,l,D⟩⟩
  refine x.bind (fun e=>a8v e) (fun i2 g2 h2 G q2=> ?_)
  obtain⟨rfl,rfl,c,a,j,l,D⟩:=q2
  have Y:=b3j j
  refine(hB _ (i+1+1) { f with body:=true,related:=false,block:= [108],st:=14 } { f with body:=true,related:=false,block:= [108],op:=108::f.op,st:=0 } 108 h2 G (by rw[q.depth];exact hd) (q.fitB S) (by rw[q.depth];exact M) E (.inr (.inr rfl)) rfl rfl rfl (fun _=>b9w rfl rfl) (fun e=>b3r rfl e)).bind (fun e=>⟨rfl,e⟩) (fun B Z h3 H q3=>⟨B,Z,h3,GoC.refl _ _ _,fun e=>(by rw[H]at e;cases e),fun _=> ?_⟩)
  obtain⟨p1,p2,p3,p4,p5,p6,p7,p8⟩:=q3
  obtain⟨X,bs⟩:=b2J p4 p5 p6 p7
  have b:a0W (a0a t) i=some B:=by
   rw[a5f L,(k_.mp d).2,f_ (by decide),n_ rfl,show i+2=i+1+1 by rfl,bs]
  refine⟨p1,p2,.inl (by rw[p3];rfl),by omega,(a1Q.byte d (by decide)).trans ((a1Q.byte a Y.1).trans X),?_⟩
  have y:=j
  simp[dgB]at y
  have w:=a1V l
  simp at w
  refine⟨b,?_,?_,⟨42,d,by simp⟩,?_,fun _=>⟨c,a,by omega,by omega,?_⟩,fun e=>(by simp at e),by simp,fun p hp=>(by cases hp),by simp,?_,fun k=>absurd rfl k⟩
  ·refine⟨⟨-1,-1,i,i⟩,?_,a_ _,by simp only;omega,?_,?_,by simp,by simp⟩
   ·unfold a1K
    rw[b,d]
    simp
   ·unfold a2w;rw[a4n (a_ _)];rfl
   ·unfold a1F;rw[a4n (a_ _)];rfl
  ·refine⟨⟨i+3,B-1,B,B⟩,?_,p8,a5Q _ _ _ _⟩
   rw[a2a b L,(k_.mp d).2,f_ (by decide),n_ rfl,show i+2=i+1+1 by rfl,bs,n_ rfl]
  ·rw[a5O L,h.pos]
  ·show(1+((r.takeOne t 42 42).1.takeOne t 49 57).2:Int)=_
   rw[D];omega
  ·show 0≤(1+((r.takeOne t 42 42).1.takeOne t 49 57).2:Int)∧(1+((r.takeOne t 42 42).1.takeOne t 49 57).2:Int)≤9
   rw[D];omega
 ·have N:r.room.bad=true:=by unfold Rd.room;rw[n_ (by omega)]
  have O:=a0M (t:=t) 42 42 N
  have s:=a0M (t:=t) 49 57 O.2
  have u:=a8v (t:=t) (n:=n) s.2
  refine⟨i,f,⟨u.1.trans (s.1.trans (O.1.trans ((a4Y r).trans h.pos))),h.le⟩,GoC.refl _ _ _,fun _=> ?_,fun e=> ?_⟩
  ·unfold a2r
   rw[d]
   simp only
   rw[P.body d]
   simp[a2f,E]
  ·exact absurd (u.2.symm.trans e) (by decide)
theorem c3W{t:List UInt8}{n:Nat}(hB:a8H t n){r:Rd}{i:Nat}{f:Fm}(h:AtI t r i)(hb:r.bad=false)(hd:r.depth=f.op.length)(X:a1W t r)(Y:8≤r.depth+n)(hR:a5v (a0a t) i f)(s1:r.seesOne t 97 122=false)(s2:r.seesOne t 94 94=false)(s3:r.seesOne t 62 62=false)(s4:r.seesOne t 40 40=true):
  Rz t (a0r t n r).1 i f (a8O t i f n (a0r t n r).2):=by
 unfold a0r a3g
 rw[f_ (by rw[s1];decide),f_ (by rw[s2];decide),f_ (by rw[s3];decide),n_ s4]
 simp only
 have g:=(a1r h hb 40).mp s4
 have G:=(k_.mp g).1
 have fo:=a7g 40 X
 obtain⟨o1,o2,o3,o4,o5⟩:=a10 (t:=t) (r:=r) 40 X.le
 have ae:=a4u fo
 have H:=a7G 40 41 X ae
 have fp:=H.fitB X
 -- what follows from a bad reader
 have q:∀j:Rd,j.bad=true→(if(a08 t n j).1.seesOne t 123 123=true then((a08 t n (a08 t n j).1).1,((⟨3,r.pos,0,0,0,(a00 t (r.opening t 40)).2⟩:a0C),(a08 t n j).2,(a08 t n (a08 t n j).1).2))else((a08 t n j).1,((⟨3,r.pos,0,0,0,(a00 t (r.opening t 40)).2⟩:a0C),(a08 t n j).2,[]))).1.pos=j.pos∧(if(a08 t n j).1.seesOne t 123 123=true then((a08 t n (a08 t n j).1).1,((⟨3,r.pos,0,0,0,(a00 t (r.opening t 40)).2⟩:a0C),(a08 t n j).2,(a08 t n (a08 t n j).1).2))else((a08 t n j).1,((⟨3,r.pos,0,0,0,(a00 t (r.opening t 40)).2⟩:a0C),(a08 t n j).2,[]))).1.bad=true:=by
  intro j Ag
  have e:=a8v (t:=t) (n:=n) Ag
  rw[a4r e.2,f_ (by decide)]
  exact e
 by_cases M:f.op.length<8
 ·refine(b2r h hb (by omega) 40 { f with body:=true,related:=false,op:=99::f.op,st:=10 } (fun g=> ?_) (fun Y=>absurd g Y)).bind (fun e=> ?_) (fun i1 g1 h1 Ac q1=> ?_)
  ·rw[hR.body g];simp[a2f,Fm.to,M]
  ·have I:=a3V (t:=t) e
   have u:=a5E (t:=t) 41 I.2
   have v:=q _ u.2
   exact⟨v.1.trans (u.1.trans I.1),v.2⟩
  obtain⟨rfl,rfl,_⟩:=q1
  refine(b0n (f:= { f with body:=true,related:=false,op:=99::f.op,st:=10 }) h1 Ac (by rw[o3,hd];simp) fo (a9a rfl ⟨40,g,by decide⟩) rfl).bind (fun e=> ?_) (fun A U h2 Ad q2=> ?_)
  ·have u:=a5E (t:=t) 41 e
   have v:=q _ u.2
   exact⟨v.1.trans u.1,v.2⟩
  obtain⟨D,qn,E,Ai,qv⟩:=q2
  have y:U.top=99:=by unfold Fm.top;rw[D.op];rfl
  refine(b2f h2 Ad 41 { U with op:=f.op,related:=false,block:= [49],st:=14 } (fun C=> ?_) (fun C=> ?_)).bind (fun e=>q _ e) (fun i3 g3 h3 Ae q3=> ?_)
  ·rw[D.nx 41 C (by decide),b6e y,D.op];rfl
  ·unfold a2r
   cases p:(a0a t)[A]? with
   |none=>exact D.nd
   |some c=>
    simp only
    cases O:dgB c
    ·rw[D.nx c p O]
     obtain⟨k1,k2⟩:=qn c p
     by_cases L:c=59
     ·subst L
      refine b01 ?_
      unfold Fm.paren
      rw[y];rfl
     ·exact b2I k1 k2 L (fun e=>C (by rw[p,e]))
    ·exact D.dg c p O
  obtain⟨rfl,rfl,w⟩:=q3
  have d:a0q (a0a t) i=A+1:=shut_pair g w (by decide) (by decide) E.pass
  have x:a1Q (a0a t) i (A+1):=a1Q.pair g w (by decide) (by decide) E.pass
  have N:=hB ((a00 t (r.opening t 40)).1.closing t 41) (A+1) { U with op:=f.op,related:=false,block:= [49],st:=14 } { U with op:=49::f.op,related:=false,block:= [49],st:=0 } 49 h3 Ae (by rw[H.depth];exact hd) fp (by rw[H.depth];exact Y) M (.inl rfl) rfl rfl D.body (fun _=>b9w rfl rfl) (fun e=>b3r rfl e)
  have F:=a67 t n _ fp
  generalize Ah:a08 t n ((a00 t (r.opening t 40)).1.closing t 41)=Z at*
  refine N.bind (fun e=> ?_) (fun B J V m q4=> ?_)
  ·rw[a4r e,f_ (by decide)]
   exact⟨rfl,e⟩
  obtain⟨T,p2,p3,p4,p5,p6,p7,p8⟩:=q4
  obtain⟨bp,bs⟩:=b2J p4 p5 p6 p7
  have l:∀o,a0W (a0a t) i=some o→∃e,a1K (a0a t) i=some e∧e.lo≤e.hi∧e.hi≤(a0a t).length∧a2w (a0a t) e.lo e.hi=(a00 t (r.opening t 40)).2.length∧a1F (a0a t) e.lo e.hi=a09 (a00 t (r.opening t 40)).2∧e.name= -1∧e.label= -1:=by
   intro o ho
   refine⟨⟨-1,-1,i+1,A+1-1⟩,?_,by simp only;omega,by have:=E.hj;simp only;omega,?_,?_,rfl,rfl⟩
   ·unfold a1K
    rw[ho,g]
    simp[d]
   ·simp only[a_D];exact E.size
   ·simp only[a_D];unfold a1F;rw[E.names];simp
  have z:∀o,a0W (a0a t) i=some o→∃e,a1K (a0a t) i=some e∧∃s,EvH (a0a t) e.lo e.hi s (a00 t (r.opening t 40)).2:=by
   intro o ho
   refine⟨⟨-1,-1,i+1,A+1-1⟩,?_,by simpa using qv⟩
   unfold a1K
   rw[ho,g]
   simp[d]
  cases s6:Z.1.seesOne t 123 123
  ·rw[f_ (by decide)]
   have R:=a1M V m s6
   refine⟨B,J,V,GoC.refl _ _ _,fun e=>absurd (m.symm.trans e) (by decide),fun _=> ?_⟩
   have b:a0W (a0a t) i=some B:=by
    rw[a5f G,(k_.mp g).2,n_ rfl,d,bs,f_ R]
   refine⟨T,p2,.inr ⟨by rw[p3];rfl,R⟩,by omega,x.trans bp,?_⟩
   refine⟨b,?_,?_,⟨40,g,by simp⟩,?_,fun e=>(by simp at e),fun e=>(by simp at e),by simp,E.ok,by simp,by simp,fun _=>z _ b⟩
   ·obtain⟨e,a1,a2,a3,a4,a5,a6,a7⟩:=l _ b
    exact⟨e,a1,a2,a3,a4,a5,by simp[a6],by simp[a7]⟩
   ·refine⟨⟨A+1+1,B-1,B,B⟩,?_,p8,a5Q _ _ _ _⟩
    rw[a2a b G,(k_.mp g).2,n_ rfl,d,bs,n_ rfl]
   ·rw[a5O G,h.pos]
  ·rw[n_ rfl]
   have k:=(a1r V m 123).mp s6
   have P:Z.1.depth=J.op.length:=by rw[F.depth,H.depth,hd,T]
   refine(hB Z.1 B J { J with op:=50::J.op,st:=0 } 50 V m P (F.fitB fp) (by rw[F.depth,H.depth];exact Y) (by rw[T];exact M) (.inr (.inl rfl)) rfl rfl p2 (fun _=>c0O (by rw[p3];rfl) (by rw[T];exact M)) (fun e=>absurd k e)).bind (fun e=>⟨rfl,e⟩) (fun i5 g5 h5 Af q5=>⟨i5,g5,h5,GoC.refl _ _ _,fun e=>(by rw[Af]at e;cases e),fun _=> ?_⟩)
   obtain⟨r1,r2,r3,r4,r5,r6,r7,r8⟩:=q5
   obtain⟨Aa,Ab⟩:=b2J r4 r5 r6 r7
   have b:a0W (a0a t) i=some i5:=by
    rw[a5f G,(k_.mp g).2,n_ rfl,d,bs,n_ k,Ab]
   refine⟨r1.trans T,r2,.inl (by rw[r3];rfl),by omega,(x.trans bp).trans Aa,?_⟩
   refine⟨b,?_,?_,⟨40,g,by simp⟩,?_,fun e=>(by simp at e),fun e=>(by simp at e),by simp,E.ok,by simp,by simp,fun _=>z _ b⟩
   ·obtain⟨e,a1,a2,a3,a4,a5,a6,a7⟩:=l _ b
    exact⟨e,a1,a2,a3,a4,a5,by simp[a6],by simp[a7]⟩
   ·refine⟨⟨A+1+1,B-1,B+1,i5-1⟩,?_,p8,r8⟩
    rw[a2a b G,(k_.mp g).2,n_ rfl,d,bs,f_ (by omega)]
   ·rw[a5O G,h.pos]
 ·have S:r.room.bad=true:=by unfold Rd.room;rw[n_ (by omega)]
  have e0:(r.opening t 40).pos=r.pos∧(r.opening t 40).bad=true:=by
   unfold Rd.opening
   rw[a18 S]
   exact⟨a4Y r,S⟩
  have I:=a3V (t:=t) e0.2
  have u:=a5E (t:=t) 41 I.2
  have v:=q _ u.2
  refine⟨i,f,⟨v.1.trans (u.1.trans (I.1.trans (e0.1.trans h.pos))),h.le⟩,GoC.refl _ _ _,fun _=> ?_,fun e=> ?_⟩
  ·unfold a2r
   rw[g]
   simp only
   rw[hR.body g]
   simp[a2f,M]
  ·exact absurd (v.2.symm.trans e) (by decide)
theorem b73{t:List UInt8}{n:Nat}(l:a8H t n):b0f t n:=by
 intro r i f h b d e m a;cases c:r.seesOne t 97 122;case true=>exact c4a h b d e a c
 cases g:r.seesOne t 94 94;case true=>exact c4L h b d e a c g
 cases j:r.seesOne t 62 62;case true=>exact c5a h b d e a c g j
 cases k:r.seesOne t 40 40;case true=>exact c3W l h b d e m a c g j k
 cases o:r.seesOne t 42 42;case true=>exact c4v l h b d e m a c g j k o
 exact c4D h b a c g j k o
theorem b6M(t:List UInt8):∀n,a8H t n
 |0=>c3M t
 |n+1=>c3L (b73 (b6M t n))
theorem c2U(t:List UInt8)(n:Nat):b0f t n:=b73 (b6M t n)
structure b4k(C:List UInt8)(A:List Int)(i o:Nat)(h:Hd):Prop where
 over:a0W C i=some o
 byte:∃c,C[i]? =some c∧(c=63∨c=33)∧(c=63↔h.field=true)
 name:∃c,C[i+1]? =some c∧h.name=(c.toNat:Int)-97
 label:∃j,a3q C (i+3)=some (h.label,j)
 place:A[i+1]? =some (h.place:Int)
 ok:0≤h.name∧h.name<26∧h.label<16
def a44(C:List UInt8)(A:List Int):Nat→Nat→List Hd→Prop
 |lo,hi,[]=>lo=hi
 |lo,hi,h::r=>lo<hi∧∃o,b4k C A lo o h∧a44 C A o hi r
theorem c2O{f:Fm}(a:f.body=false){c:UInt8}(b:c=63∨c=33):f.rule (c.toNat:Int)=({ f with st:=5 },true):=by
 rcases b with rfl|rfl<;>simp[Fm.rule,Fm.to,a]
theorem c6S{f:Fm}(h:f.st=5){c:UInt8}(a:nmB c=true):f.fixed (c.toNat:Int)=({ f with st:=6 },true):=by
 unfold Fm.fixed;rw[a75];simp[Fm.to,h,a]
theorem c1T{f:Fm}(h:f.st=5){c:UInt8}(a:nmB c=false):(f.fixed (c.toNat:Int)).2=false:=by
 unfold Fm.fixed;rw[a75];simp[Fm.to,h,a]
theorem c6T{f:Fm}(h:f.st=6):f.fixed ((58:UInt8).toNat:Int)=({ f with purpose:=0,st:=7 },true):=by simp[Fm.fixed,Fm.to,h]
theorem c1U{f:Fm}(h:f.st=6){c:UInt8}(a:c≠58):(f.fixed (c.toNat:Int)).2=false:=by
 have k:=a1V a;simp at k;have b:¬(c.toNat:Int)=58:=by omega
 simp[Fm.fixed,Fm.to,h,b]
theorem c4f{t:List UInt8}{r:Rd}{i:Nat}{f:Fm}(h:AtI t r i)(D:r.bad=false)(P:f.st=0)(v:f.body=false)(O:(r.seesOne t 63 63||r.seesOne t 33 33)=true):
  Rz t (a3C t r).1 i f fun V g=>g.st=0∧g.op=f.op∧g.body=false∧i<V∧b4k (a0a t) (atL t 0) i V (a3C t r).2:=by
 have J:∃c,(a0a t)[i]? =some c∧(c=63∨c=33)∧(c=63↔r.seesOne t 63 63=true)∧a6f t r=(r.takeOne t c c).1:=by
  cases C:r.seesOne t 63 63
  ·rw[C]at O;simp at O;exact⟨33,(a1r h D 33).mp O,.inr rfl,by simp,by unfold a6f;rw[f_ (by rw[C];decide)]⟩
  ·exact⟨63,(a1r h D 63).mp C,.inl rfl,by simp,by unfold a6f;rw[n_ C]⟩
 obtain⟨b,w,a,j,ho⟩:=J;have hi:=(k_.mp w).1;have o:dl b=0∧b≠59∧b≠40∧b≠42:=by rcases a with rfl|rfl<;>decide
 unfold a3C;rw[ho];simp only;refine(a38 h D b { f with st:=5 } (fun _=> ?_) (fun z=>absurd w z)).bind (fun e=> ?_) (fun i1 g1 T E q1=> ?_)
 ·rw[c0N P];exact c2O v a
 ·have S:=a0M (t:=t) 97 122 e;have u:=a0M (t:=t) 58 58 S.2;have l:=a5W (t:=t) u.2;have m:=a0M (t:=t) 59 59 l.2;exact⟨m.1.trans (l.1.trans (u.1.trans S.1)),m.2⟩
 obtain⟨rfl,rfl,_⟩:=q1;refine(b2W T E { f with st:=6 } (fun c k z=> ?_) (fun z=> ?_)).bind (fun e=> ?_) (fun i2 g2 Z F q2=> ?_)
 ·rw[a4O (.inr (.inr (.inr (.inl rfl))))];exact c6S rfl z
 ·exact a41 (.inr (.inr (.inr (.inl rfl)))) (fun d p=>c1T rfl (z d p))
 ·have u:=a0M (t:=t) 58 58 e;have l:=a5W (t:=t) u.2;have m:=a0M (t:=t) 59 59 l.2;exact⟨m.1.trans (l.1.trans u.1),m.2⟩
 obtain⟨rfl,rfl,c,k,A,U⟩:=q2;have N:=c0P A;have L:=(k_.mp k).1;refine(a38 Z F 58 { f with purpose:=0,st:=7 } (fun a=> ?_) (fun a=> ?_)).bind (fun e=> ?_) (fun i3 g3 h3 G q3=> ?_)
 ·rw[a4O (.inr (.inr (.inr (.inr (.inl rfl)))))];exact c6T rfl
 ·exact a41 (.inr (.inr (.inr (.inr (.inl rfl))))) (fun d p=>c1U rfl (fun e=>a (by rw[p,e])))
 ·have l:=a5W (t:=t) e;have m:=a0M (t:=t) 59 59 l.2;exact⟨m.1.trans l.1,m.2⟩
 obtain⟨rfl,rfl,x⟩:=q3;refine(b1u h3 G rfl).bind (fun e=>a0M 59 59 e) (fun B X h4 H q4=> ?_);obtain⟨s,Aa,R,qp,qs,qd,qc⟩:=q4;refine(a38 h4 H 59 { X with st:=0 } (fun j=> ?_) (fun j=> ?_)).bind (fun e=>⟨rfl,e⟩) (fun i5 Y h5 I q5=>⟨i5,Y,h5,GoC.refl _ _ _,fun e=>absurd (I.symm.trans e) (by decide),fun _=> ?_⟩)
 ·rw[s.nx 59 j];exact b7p s.purpose
 ·unfold a2r;cases y:(a0a t)[B]? with
  |none=>exact s.nd
  |some d=>simp only;rw[s.nx d y];exact b3A s.purpose (fun e=>j (by rw[y,e]))
 obtain⟨rfl,rfl,n⟩:=q5;have M:=A;simp[nmB]at M;have q:a17 ((a0a t).drop i) i=a17 ((a0a t).drop B) B:=by
  rw[a2P w o.2.1,a2P k N.2.1,a2P x (by decide),qs]
 refine⟨rfl,s.op,s.body.trans v,by omega,⟨b1D w o.2.2.1 o.2.2.2 q n,⟨b,w,a,j⟩,⟨c,k,U⟩,⟨B,qc 59 n (by decide)⟩,?_,?_⟩⟩
 ·show(atL t 0)[i+1]? =some (((r.takeOne t b b).1.pos:Nat):Int);rw[a5O L,T.pos]
 ·show 0≤((r.takeOne t b b).1.takeOne t 97 122).2∧((r.takeOne t b b).1.takeOne t 97 122).2<26∧_;rw[U];exact⟨by omega,by omega,R⟩
theorem b5s{t:List UInt8} :∀(k:Nat) (r:Rd) (i:Nat) (f:Fm),AtI t r i→r.bad=false→f.st=0→f.body=false→f.op= []→(a0a t).length-i<k→
  Rz t (a3p t k r).1 i f fun b g=>g.st=0∧g.op= []∧g.body=false∧i≤b∧(a0a t)[b]? ≠some 63∧(a0a t)[b]? ≠some 33∧a44 (a0a t) (atL t 0) i b (a3p t k r).2
 |0,r,i,f,h,hb,h1,h2,h3,hk=>by omega
 |k+1,r,i,f,h,hb,h1,h2,h3,hk=>by
  cases a:(r.seesOne t 63 63||r.seesOne t 33 33)
  ·rw[b1n k a];obtain⟨F,G⟩:=Bool.or_eq_false_iff.mp a;exact⟨i,f,h,GoC.refl _ _ _,fun e=>absurd (hb.symm.trans e) (by decide),fun _=>⟨h1,h3,h2,a_ _,a1M h hb F,a1M h hb G,rfl⟩⟩
  ·rw[b3v k a];refine(c4f h hb h1 h2 a).bind (fun e=> ?_) (fun j x d c E=> ?_)
   ·cases k with
    |zero=>exact⟨rfl,e⟩
    |succ k=>rw[b1n k (by rw[a4r e,a4r e];rfl)];exact⟨rfl,e⟩
   obtain⟨A,B,C,I,D⟩:=E;obtain⟨z,y,l,m,n,o⟩:=b5s k (a3C t r).1 j x d c A C (B.trans h3) (by have:=d.le;omega);refine⟨z,y,l,m,n,fun e=> ?_⟩;obtain⟨p,q,s,H,u,v,w⟩:=o e;exact⟨p,q,s,by omega,u,v,⟨by omega,j,D,w⟩⟩
theorem b2g{C:List UInt8}{A:List Int} :∀(l:List Hd) (lo hi f:Nat),a44 C A lo hi l→C.length-lo<f→lo≤C.length→(C[hi]? ≠some 63∧C[hi]? ≠some 33)→a4s C f lo=some hi
 | [],lo,hi,0,h,hf,_,_=>by omega
 | [],lo,hi,f+1,h,hf,_,hn=>by
  have i:lo=hi:=h;subst i;unfold a4s;cases d:C[lo]? with
  |none=>rfl
  |some c=>
   rw[d]at hn;simp at hn;simp[hn.1,hn.2]
 |a::r,lo,hi,0,h,hf,_,_=>by omega
 |a::r,lo,hi,f+1,h,hf,hl,hn=>by
  obtain⟨k,o,b,j⟩:=h;obtain⟨c,d,e,_⟩:=b.byte;have m:=a07 b.over;have g:=a2z b.over;unfold a4s;rw[d];simp only;rw[n_ e,b.over];exact b2g r o hi f j (by omega) g hn
theorem a6k(t:List UInt8):((a0n t).1.bad=true→placeOf t=((a0n t).1.pos:Int))∧
  ((a0n t).1.bad=false→placeOf t= -1∧∃B,a2U (a0a t)=some B∧a44 (a0a t) (atL t 0) 0 B (a0t t).2∧a3i (a0a t) (atL t 0) 9 B (a0a t).length (a0n t).2):=by
 have hk:=a4F t;obtain⟨s,p⟩:=b1F t;have R:=b5s (t.length+1) (Rd.skip t Rd.first) 0 Fm.start (c38 t) rfl rfl rfl rfl (by omega);have c:Rz t (a0n t).1 0 Fm.start fun A g=>A=(a0a t).length∧g.done=true∧∃B,a2U (a0a t)=some B∧a44 (a0a t) (atL t 0) 0 B (a0t t).2∧a3i (a0a t) (atL t 0) 9 B (a0a t).length (a0n t).2:=by
  refine R.bind (fun e=> ?_) (fun i z P n Y=> ?_)
  ·show(a1m _ _ _ (a0t t).1).1.pos=_∧_;unfold a0n;rw[a5r (r:=(a0t t).1) e];exact⟨rfl,e⟩
  obtain⟨H,h,e3,e4,w,x,y⟩:=Y;have d:a2U (a0a t)=some i:=b2g _ 0 i _ y (by omega) (a_j _) ⟨w,x⟩;refine(a9L (c2U t 8) (fun r=>decide (t.length≤r.pos)) z 0 (by rw[h];rfl) (by omega) (by omega) (by unfold Fm.paren Fm.top;rw[h];rfl) (fun r' j O S X=>⟨.inr h,fun I=> ?_⟩) (t.length+1) (a0t t).1 i z P n p ⟨s,by omega,by omega⟩ rfl (.inr ⟨w,x⟩) (.inl H) (by omega)).bind (fun e=>⟨rfl,e⟩) (fun k N m o Z=>⟨k,N,m,GoC.refl _ _ _,fun e=>absurd (o.symm.trans e) (by decide),fun _=> ?_⟩)
  ·have T:=List.getElem?_eq_none_iff.mp I;have:=O.pos;rw[b0F T]at this;simp at X;omega
  obtain⟨J,L,f3,b,f5,f6,M⟩:=Z;have f:k=(a0a t).length:=by
   have U:=m.le;apply a_F;intro V;have q:k<(a0a t).length:=by omega
   have:=(a2L t 0 k q).1;have a:=m.pos;unfold a5p at a;have l:t.length≤(a1m (fun r=>a0r t 8 r) (fun r=>decide (t.length≤r.pos)) (t.length+1) (a0t t).1).1.pos:=by simpa using J
   rw[a]at l;omega
  subst f;refine⟨rfl,?_,i,d,y,M⟩;unfold Fm.done;rw[L,h];rcases b with b|b
  ·simp[b]
  ·simp[b.1]
 obtain⟨A,g,u,v,C,D⟩:=c;refine⟨fun e=> ?_,fun e=> ?_⟩
 ·rw[b9g v u.le (C e),u.pos]
 ·obtain⟨E,F,G⟩:=D e;subst E;exact⟨c0r v F,G⟩
theorem b8a:∀(l:List UInt8) (d:Bool),a1S d l≤l.length
 | [],d=>a_ _
 |c::r,d=>by
  have:=b8a r (dgB c);unfold a1S;simp only[B_]
  split<;>omega
theorem c6k(C:List UInt8)(lo hi:Nat):(seg C lo hi).length≤hi-lo:=by unfold seg;simp;omega
theorem b27(C:List UInt8)(lo hi:Nat):a2w C lo hi≤hi-lo:=K_ (b8a _ _) (c6k _ _ _)
theorem a8M{C:List UInt8}{i o:Nat}{e:Rest}{t:Two}(u:a0W C i=some o)(a:a1K C i=some e)(f:a2b C i=some t):1+(e.hi-e.lo)+(t.q-t.p)+(t.s-t.r)≤o-i:=by
 have v:=a2A u;have J:=a07 u;have y:=a3t C;have A:=fun j h=>b76 (C:=C) (i:=j) h
 have B:=y i;have D:=y (a0q C i);have G:=y (i+2);have H:=A (a0q C i) B;rw[a2a u v]at f;have b:=u;rw[a5f v]at b;have w:C[i]? =some C[i]:=s_ v;unfold a1K at a;rw[u,w]at a;simp only at a;by_cases c:C[i]=40
 ·have E:=b26 v c;have I:=A (a0q C (a0q C i)) D;rw[n_ c]at f b;rw[c]at a;simp at a;subst a;have F:a0q C (a0q C i)≤o:=by split at b<;>(cases b;omega)
  split at f<;>(cases f;simp only;omega)
 ·rw[f_ c]at f b;by_cases g:C[i]=42
  ·rw[n_ g]at f b;rw[g]at a;simp at a;subst a;cases b;rw[n_ rfl]at f;cases f;simp only;omega
  ·rw[f_ g]at f;cases f;simp only;by_cases m:C[i]=62
   ·rw[n_ m]at a;cases k:a3q C (i+1)with
    |none=>rw[k]at a;cases a
    |some x=>
     rw[k]at a;cases a;have:=b1s (l:=x.1) (j:=x.2) k;simp only;omega
   ·rw[f_ m]at a;by_cases n:C[i]=94
    ·rw[n_ n]at a;cases k:a3q C (i+3)with
     |none=>rw[k]at a;cases a
     |some x=>
      cases z:C[i+1]? with
      |none=>rw[k,z]at a;cases a
      |some d=>
       rw[k,z]at a;cases a;have:=b1s (l:=x.1) (j:=x.2) k;simp only;omega
    ·rw[f_ n,f_ c,f_ g]at a;cases a;simp only;omega
theorem a6c{α:Type}{one:Nat→Nat→α→Prop} :∀(l:List α) (lo hi:Nat),(∀i o q,one i o q→i<o)→a7r one lo hi l→lo≤hi∧l.length≤hi-lo
 | [],lo,hi,_,h=>by have:lo=hi:=h;subst this;simp
 |q::r,lo,hi,ho,h=>by
  obtain⟨c,o,a,b⟩:=h;have:=ho _ _ _ a;have:=a6c r o hi ho b;simp only[B_];omega
theorem c5C{C:List UInt8}{A:List Int}{n lo hi:Nat}{l:List (RT n)}(h:a3i C A n lo hi l):lo≤hi:=by
 cases n with
 |zero=>exact Nat.le_of_eq h
 |succ n=>exact(a6c _ _ _ (fun i o q a=>a07 a.over) h).1
theorem c1y{C:List UInt8}{A:List Int}{n lo:Nat}{l:List (RT n)}(h:a3i C A n lo lo l):a0z n l=0:=by
 cases n with
 |zero=>rfl
 |succ n=>
  cases l with
  |nil=>rfl
  |cons q r=>exact absurd h.1 (a_s _)
theorem c5k{t:List UInt8}{i p:Nat}(h:(atL t 0)[i]? =some (p:Int)):p<t.length:=by
 have e:∀(l:List UInt8) (k:Nat),(atL l k).length=(a0a l).length:=by
  intro l;induction l with
  |nil=>intro k;rfl
  |cons c r ih=>intro k;unfold atL a0a;split<;>simp[ih]
 have a:i<(a0a t).length:=by
  have:=(k_.mp h).1;rwa[e]at this
 rw[a5O a]at h;have d:((a5p t i:Nat):Int)=(p:Int):=by simpa using h
 have b:a5p t i=p:=by omega
 have:=(a2L t 0 i a).1;unfold a5p at b;omega
theorem c1x{α:Type}{t:List UInt8}{a:Nat→Nat→List α→Prop}{i o:Nat}{q:a0C×List α×List α}(p:t.length≤400)(h:a49 (a0a t) (atL t 0) a i o q):a1j q.1:=by
 obtain⟨e,_,j,k,l,_⟩:=h.rest;have m:=a4F t;have:=b27 (a0a t) e.lo e.hi;have n:=c5k h.place;refine⟨h.name,h.label,h.parts,by omega,by omega,h.count,fun b=> ?_,h.kind⟩;obtain⟨d,_,c,f,g⟩:=h.times b;omega
theorem b4q{t:List UInt8}(z:t.length≤400):∀(n lo hi:Nat) (l:List (RT n)),hi≤400→a3i (a0a t) (atL t 0) n lo hi l→a0v n l
 |0,_,_,_,_,_=>trivial
 |n+1,lo,hi,l,hh,h=>by
  have E:=a6c _ _ _ (fun i o q j=>a07 j.over) h;refine⟨by omega,?_⟩;have M:=a4F t;have A:∀(l:List (a0C×List (RT n)×List (RT n))) (lo hi:Nat),a7r (fun i o q=>a49 (a0a t) (atL t 0) (a3i (a0a t) (atL t 0) n) i o q) lo hi l→∀q∈l,a1j q.1∧a0v n q.2.1∧a0v n q.2.2:=by
   intro l;induction l with
   |nil=>intro lo hi _ q j;cases j
   |cons a r ih=>
    intro lo hi h q j;obtain⟨F,o,m,D⟩:=h;rcases X_.mp j with rfl|j
    ·obtain⟨C,p,u,y⟩:=m.blocks;have G:=a2z m.over;obtain⟨e,L,_⟩:=m.rest;have H:=a72 p (by omega);have N:C.q≤(a0a t).length∧C.s≤(a0a t).length:=by
      have hi:=a2A m.over;have B:=a3t (a0a t);have I:=B (a0q (a0a t) lo);have J:=B (lo+2);rw[a2a m.over hi]at p;repeat' split at p
      all_goals (cases p;simp only;omega)
     exact⟨c1x z m,b4q z n _ _ _ (by omega) u,b4q z n _ _ _ (by omega) y⟩
    ·exact ih o hi D q j
  exact A l lo hi h
theorem b00{C:List UInt8}{A:List Int} :∀(n lo hi:Nat) (l:List (RT n)),a3i C A n lo hi l→a0z n l≤10^n*(hi-lo)
 |0,lo,hi,l,h=>a_j _
 |n+1,lo,hi,l,h=>by
  have v:∀(l:List (a0C×List (RT n)×List (RT n))) (lo hi:Nat),a7r (fun i o q=>a49 C A (a3i C A n) i o q) lo hi l→a48 (a0z n) l≤10^(n+1)*(hi-lo):=by
   intro l;induction l with
   |nil=>intro lo hi _;exact a_j _
   |cons q r ih=>
    intro lo hi h;obtain⟨J,o,d,w⟩:=h;have U:=ih o hi w;obtain⟨e,D,E,F,G,_⟩:=d.rest;obtain⟨c,B,f,g⟩:=d.blocks;have t:=a8M d.over D B;have V:=b00 n _ _ _ f;have X:=b00 n _ _ _ g;have N:=b27 C e.lo e.hi;have M:=(a6c r o hi (fun i o q z=>a07 z.over) w).1;have T:0<10^n:=Nat.pow_pos (by omega);rw[a6p];have z:a1y (a0z n) q≤10^(n+1)*(o-lo):=by
     have k:10^(n+1)=10*10^n:=by rw[b_l,Nat.mul_comm]
     rw[k];have L:∀x y:Nat,x≤y→10*10^n*x≤10*10^n*y:=fun x y u=>Nat.mul_le_mul_left _ u
     have m:=L (1+(e.hi-e.lo)+(c.q-c.p)+(c.s-c.r)) (o-lo) t;refine K_ ?_ m;generalize 10^n=K at*;generalize P:c.q-c.p=a at*;generalize R:c.s-c.r=b at*;have O:10*K*(1+(e.hi-e.lo)+a+b)=10*K+10*K*(e.hi-e.lo)+10*(K*a)+10*(K*b):=by
      rw[Nat.mul_add,Nat.mul_add,Nat.mul_add,Nat.mul_one,Nat.mul_assoc 10 K a,Nat.mul_assoc 10 K b]
     rw[O];have I:e.hi-e.lo≤10*K*(e.hi-e.lo):=Nat.le_mul_of_pos_left _ (by omega);unfold a1y
     split
     ·rename_i H;have S:=d.count;have j:q.1.count.toNat≤9:=by omega
      have:q.1.count.toNat*(1+a0z n q.2.1)≤9*(1+a0z n q.2.1):=a_H _ j;omega
     ·omega
    have:10^(n+1)*(hi-lo)=10^(n+1)*(o-lo)+10^(n+1)*(hi-o):=by
     rw[←Nat.mul_add];congr 1;have:=a07 d.over;omega
    omega
  exact v l lo hi h
theorem b6c{C:List UInt8}{A:List Int}{n lo hi:Nat}{l:List (RT n)}(h:a3i C A n lo hi l)(c:n≤9)(b:hi-lo≤400):a0z n l<1099511627776:=by
 have d:=b00 n lo hi l h;have a:10^n≤10^9:=a_n (by omega) c;have e:10^n*(hi-lo)≤10^9*400:=Nat.mul_le_mul a b;omega
theorem b4P{C:List UInt8}{A:List Int}(Z:C.length≤400):∀(n:Nat),n≤9→∀(l:List (RT n)) (lo hi f:Nat),a3i C A n lo hi l→hi≤C.length→hi-lo<f→a2S C f lo hi=some (a0z n l)
 |0,_,l,lo,hi,0,h,_,H=>by omega
 |0,_,l,lo,hi,f+1,h,_,H=>by
  have N:lo=hi:=h;subst N;unfold a2S;rw[f_ (a_s _)];rfl
 |n+1,hn,l,lo,hi,f,h,hh,H=>by
  have X:∀(l:List (a0C×List (RT n)×List (RT n))) (lo f:Nat),a7r (fun i o q=>a49 C A (a3i C A n) i o q) lo hi l→hi-lo<f→a2S C f lo hi=some (a48 (a0z n) l):=by
   intro l;induction l with
   |nil=>
    intro lo f h H;have N:lo=hi:=h;subst N;cases f with
    |zero=>omega
    |succ f=>unfold a2S;rw[f_ (a_s _)];rfl
   |cons q r ih=>
    intro lo f h H;have z:a48 (a0z n) (q::r)<1099511627776:=b6c (C:=C) (A:=A) (n:=n+1) (lo:=lo) (hi:=hi) (l:=q::r) h hn (by omega);obtain⟨V,o,j,Y⟩:=h;obtain⟨e,S,T,U,G,_⟩:=j.rest;obtain⟨D,E,P,F⟩:=j.blocks;obtain⟨c,R,u,_⟩:=j.byte;have Ad:=a8M j.over S E;have Aa:=a07 j.over;have hi:=a2A j.over;have hx:D.q≤C.length∧D.s≤C.length:=by
     have s1:=a3t C;have a2:=s1 (a0q C lo);have a3:=s1 (lo+2);have Ac:=a2z j.over;have y:=E;rw[a2a j.over hi]at y;repeat' split at y
     all_goals (cases y;simp only;omega)
    have Ab:=(a6c r o _ (fun i o q hq=>a07 hq.over) Y).1;cases f with
    |zero=>omega
    |succ f=>
    have w1:=b4P Z n (by omega) q.2.1 D.p D.q f P hx.1 (by omega);have w2:=b4P Z n (by omega) q.2.2 D.r D.s f F hx.2 (by omega);have w3:=ih o f Y (by omega);rw[a6p]at z⊢;unfold a2S;rw[n_ V,S,E,j.over,R];simp only;rw[w1,w2,w3];simp only;rw[n_ ⟨T,U⟩,G];by_cases B:c=42
    ·rw[n_ B];have I:=u.mp B;obtain⟨d,hd,d1,d2,d3⟩:=j.times I;rw[hd];simp only;have t:q.1.parts.length=0:=by
      rw[←G];have M:=S;unfold a1K at M;rw[j.over,R,B]at M;simp at M;subst M;unfold a2w;rw[a4n (a_ _)];rfl
     have L:a0z n q.2.2=0:=by
      have m:C[lo]=42:=by rw[←B];exact(k_.mp R).2
      have J:=j.over;rw[a5f hi,f_ (by rw[m];decide),n_ m]at J;cases J;rw[a2a j.over hi,f_ (by rw[m];decide),n_ m,n_ rfl]at E;cases E;exact c1y F
     have O:a1y (a0z n) q=1+(d.toNat-48)*(1+a0z n q.2.1):=by
      unfold a1y;rw[n_ I,show q.1.count.toNat=d.toNat-48 by omega]
     rw[O]at z⊢;rw[t,L];rw[n_ ⟨by omega,by omega⟩];congr 1
    ·rw[f_ B];have O:a1y (a0z n) q=1+q.1.parts.length+a0z n q.2.1+a0z n q.2.2:=by
      unfold a1y;rw[f_ (fun e=>B (u.mpr e))]
     rw[O]at z⊢;rw[n_ (by omega)]
  exact X l lo f h H
theorem a7v{C:List UInt8}{A:List Int} :∀(l:List Hd) (lo hi:Nat),a44 C A lo hi l→lo≤hi∧l.length≤hi-lo
 | [],lo,hi,h=>by have:lo=hi:=h;subst this;simp
 |a::r,lo,hi,h=>by
  obtain⟨d,o,b,c⟩:=h;have:=a07 b.over;have:=a7v r o hi c;simp only[B_];omega
theorem b42{C:List UInt8}{A:List Int}{h:Hd}{o:Nat} :∀(l:List Hd) (lo i:Nat),a44 C A lo i l→b4k C A i o h→a44 C A lo o (l++ [h])
 | [],lo,i,hl,ho=>by
  have:lo=i:=hl;subst this;exact⟨a07 ho.over,o,ho,rfl⟩
 |a::r,lo,i,hl,ho=>by
  obtain⟨e,b,c,d⟩:=hl;have:=a07 ho.over;exact⟨by omega,b,c,b42 r b i d ho⟩
theorem b4d{C:List UInt8}{A:List Int}{i:Nat}{c:UInt8}(p:C[i+1]? =some c):∀(l:List Hd) (k f:Nat),a44 C A k i l→i-k<f→a4o C i f k=some (a4V l ((c.toNat:Int)-97))
 | [],k,0,h,hf=>by omega
 | [],k,f+1,h,hf=>by
  have:k=i:=h;subst this;unfold a4o;rw[f_ (a_s _)];rfl
 |a::r,k,0,h,hf=>by omega
 |a::r,k,f+1,h,hf=>by
  obtain⟨j,o,g,n⟩:=h;obtain⟨d,s,q⟩:=g.name;have t:=a07 g.over;have u:=(a7v r o i n).1;unfold a4o;rw[n_ j,s,p,g.over];simp only;rw[b5n];by_cases b:d=c
  ·subst b;rw[n_ rfl];simp[q]
  ·rw[f_ b,b4d p r o f n (by omega)];have m:¬a.name=(c.toNat:Int)-97:=by
    rw[q];intro e;exact b (a_p.mp (by omega))
   simp[m]
theorem b8v{C:List UInt8}{A:List Int}{B:Nat}(k:B≤C.length):∀(l:List Hd) (b:List Hd) (i f:Nat),a44 C A 0 i b→a44 C A i B l→B-i<f→a55 C A B f i=some (match a1N b l with|some p=>(p:Int)|none=> -1)
 | [],b,i,0,hp,h,hf=>by omega
 | [],b,i,f+1,hp,h,hf=>by
  have:i=B:=h;subst this;unfold a55;rw[f_ (a_s _)];rfl
 |a::r,b,i,0,hp,h,hf=>by omega
 |a::r,b,i,f+1,hp,h,hf=>by
  obtain⟨e,o,c,g⟩:=h;obtain⟨d,m,n⟩:=c.name;have q:=a07 c.over;have s:=(a7v r o B g).1;have j:=b4d m b 0 (C.length+1) hp (by omega);rw[←n]at j;unfold a55;rw[n_ e,j,c.over,a6C];cases t:a4V b a.name
  ·simp only[D_,a_g];exact b8v k r (b++ [a]) o f (b42 b 0 i hp c) g (by omega)
  ·simp only[a_b];exact c.place
theorem b91(of:List Nat)(a b:Nat):∀(n l m:Nat),a5t of (a|||b) n (l|||m)=a5t of a n l|||a5t of b n m
 |0,l,m=>rfl
 |n+1,l,m=>by
  unfold a5t;have g:(a|||b)&&&2^(25-n)=(a&&&2^(25-n))|||(b&&&2^(25-n)):=Nat.and_or_distrib_right ..
  have e:(if(a|||b)&&&2^(25-n)≠0 then l|||m|||of.getD (25-n) 0 else l|||m)=(if a&&&2^(25-n)≠0 then l|||of.getD (25-n) 0 else l)|||(if b&&&2^(25-n)≠0 then m|||of.getD (25-n) 0 else m):=by
   rw[g];by_cases d:a&&&2^(25-n)=0
   ·by_cases c:b&&&2^(25-n)=0
    ·simp[d,c]
    ·simp[d,c,b_B]
   ·have f:¬((a&&&2^(25-n))|||(b&&&2^(25-n)))=0:=by
     intro e;have:=Nat.left_le_or (n:=a&&&2^(25-n)) (m:=b&&&2^(25-n));omega
    rw[n_ f,n_ d];by_cases c:b&&&2^(25-n)=0
    ·simp only[c,ne_eq,not_true_eq_false,a_g];rw[b_B,Nat.or_comm m,←b_B]
    ·simp only[ne_eq,c,not_false_eq_true,a_b];generalize of.getD (25-n) 0=x;apply Nat.eq_of_testBit_eq;intro j;simp only[a_z];cases l.testBit j<;>cases m.testBit j<;>cases x.testBit j<;>rfl
  rw[e];exact b91 of a b n _ _
theorem b9Z(of:List Nat)(a b:Nat):a2y of (a|||b)=a2y of a|||a2y of b:=by
 have:=b91 of a b 26 0 0;simpa[a2y]using this
theorem a9y(of:List Nat):∀n l,a5t of 0 n l=l
 |0,l=>rfl
 |n+1,l=>by unfold a5t;simp[a9y of n]
theorem b8s(of:List Nat)(k:Nat)(d:k<26):∀n l,n≤26→a5t of (2^k) n l=if 26-n≤k then l|||of.getD k 0 else l
 |0,l,_=>by rw[f_ (by omega)];rfl
 |n+1,l,hn=>by
  unfold a5t;rw[b8s of k d n _ (by omega)];by_cases c:25-n=k
  ·have a:(2^k&&&2^(25-n))≠0:=by rw[c,Nat.and_self];exact Nat.ne_of_gt (Nat.two_pow_pos _)
   rw[n_ a,c,f_ (by omega),n_ (by omega)]
  ·have a:¬(2^k&&&2^(25-n))≠0:=by
    simp only[ne_eq,Decidable.not_not];apply Nat.eq_of_testBit_eq;intro j;simp only[Nat.testBit_and,a_U,Nat.zero_testBit];by_cases b:k=j
    ·subst b;simp[c]
    ·simp[b]
   rw[f_ a];by_cases b:26-(n+1)≤k
   ·rw[n_ b,n_ (by omega)]
   ·rw[f_ b,f_ (by omega)]
theorem c5b(of:List Nat){k:Nat}(a:k<26):a2y of (2^k)=of.getD k 0:=by
 unfold a2y;rw[b8s of k a 26 0 (by omega),n_ (by omega),Nat.zero_or]
theorem a95(of:List Nat):∀(P:List Pt) (a:Nat),a1D of P a=a|||a1D of P 0
 | [],a=>by simp[a1D]
 |p::r,a=>by
  rw[a5V,a5V,a95 of r,a95 of r (if p.op=2 then 0|||of.getD p.num.toNat 0 else 0)]
  split
  ·rw[Nat.zero_or,b_B]
  ·rw[Nat.zero_or]
theorem b56(of:List Nat):∀(P:List Pt),(∀p∈P,a6K p)→a2y of (a09 P)=a1D of P 0
 | [],_=>by unfold a2y a09;rw[a9y];rfl
 |p::r,h=>by
  have d:=b56 of r (fun x c=>h x (by simp[c]));unfold a09;have b:=a95 of r (if p.op=2 then 0|||of.getD p.num.toNat 0 else 0);rw[b9Z,d,a5V,b];by_cases a:p.op=2
  ·obtain⟨e,f⟩:=h p (by simp) a;rw[n_ a,n_ a,c5b of (by omega),Nat.zero_or]
  ·rw[f_ a,f_ a];unfold a2y;rw[a9y]
theorem b2O{C:List UInt8}{A:List Int}{of:List Nat}(O:a2T of):∀(n:Nat) (l:List (RT n)) (lo hi g f:Nat),a3i C A n lo hi l→hi≤C.length→hi-lo<f→a2D C A of f lo hi g=some (match a28 of n (a2y of g) l with|some p=>(p:Int)|none=> -1)
 |0,l,lo,hi,g,0,h,_,N=>by omega
 |0,l,lo,hi,g,f+1,h,_,N=>by
  have T:lo=hi:=h;subst T;unfold a2D;rw[f_ (a_s _)];rfl
 |n+1,l,lo,hi,g,f,h,hh,N=>by
  have Ac:∀(l:List (a0C×List (RT n)×List (RT n))) (lo f:Nat),a7r (fun i o q=>a49 C A (a3i C A n) i o q) lo hi l→hi-lo<f→a2D C A of f lo hi g=some (match a3U (a28 of n) of (a2y of g) l with|some p=>(p:Int)|none=> -1):=by
   intro l;induction l with
   |nil=>
    intro lo f h N;have T:lo=hi:=h;subst T;cases f with
    |zero=>omega
    |succ f=>unfold a2D;rw[f_ (a_s _)];rfl
   |cons q r ih=>
    intro lo f h N;obtain⟨Ab,o,j,h2⟩:=h;obtain⟨e,he,Y,Z,Ad,Aa,L,M⟩:=j.rest;obtain⟨J,U,V,X⟩:=j.blocks;obtain⟨c,hc,z,y,B,D⟩:=j.byte;have Aj:=a8M j.over he U;have Ag:=a07 j.over;have hi:=a2A j.over;have hx:J.q≤C.length∧J.s≤C.length:=by
     have s1:=a3t C;have a2:=s1 (a0q C lo);have a3:=s1 (lo+2);have Ai:=a2z j.over;have E:=U;rw[a2a j.over hi]at E;repeat' split at E
     all_goals (cases E;simp only;omega)
    have Ah:=(a6c r o _ (fun i o q hq=>a07 hq.over) h2).1;cases f with
    |zero=>omega
    |succ f=>
    have hE:a2y of (a1F C e.lo e.hi)=a1D of q.1.parts 0:=by rw[Aa];exact b56 of _ j.parts
    have hG:a2y of (g|||a1F C e.lo e.hi)=a2y of g|||a1D of q.1.parts 0:=by rw[b9Z,hE]
    have w1:=b2O O n q.2.1 J.p J.q (g|||a1F C e.lo e.hi) f V hx.1 (by omega);have w2:=b2O O n q.2.2 J.r J.s (g|||a1F C e.lo e.hi) f X hx.2 (by omega);have w3:=ih o f h2 (by omega);rw[hG]at w1 w2;have u:a9Y of c e (a2y of (a1F C e.lo e.hi)) (a2y of g)=some (a3m of (a2y of g) q.1):=by
     rw[hE];have Af:=j.label;have Ae:=j.kind;unfold a9Y a3m;by_cases R:q.1.kind=2
     ·have F:=B.mpr R;have hl:e.label=(q.1.label:Int):=by rw[M,n_ (.inr R)]
      rw[n_ F,hl,n_ ⟨by omega,by omega⟩,f_ (by omega),f_ (by omega),n_ R];simp[Nat.or_comm]
     ·rw[f_ (fun e=>R (B.mp e))];by_cases I:q.1.kind=1
      ·have F:=D.mpr I;have m:=j.name (.inr I);have hl:e.label=(q.1.label:Int):=by rw[M,n_ (.inl I)]
       have G:e.name=q.1.name:=by rw[L,n_ (.inr I)]
       rw[n_ F,hl,G,n_ ⟨by omega,by omega,m.1,m.2⟩,f_ (by omega),n_ I];simp
      ·rw[f_ (fun e=>I (D.mp e))];by_cases S:q.1.kind=3∨q.1.kind=4
       ·rw[n_ (S.imp y.mpr z.mpr),f_ (by omega),f_ I,f_ R]
       ·have k0:q.1.kind=0:=by omega
        have m:=j.name (.inl k0);have G:e.name=q.1.name:=by rw[L,n_ (.inl k0)]
        rw[f_ (fun e=>S (e.imp y.mp z.mp)),G,n_ ⟨m.1,m.2⟩,n_ k0,Nat.or_comm]
    unfold a2D;rw[n_ Ab,he,U,j.over,hc];simp only;rw[n_ ⟨Y,Z⟩,u];cases t:a3m of (a2y of g) q.1
    ·simp only;rw[b3h t];exact j.place
    ·simp only;rw[w1];cases H:a28 of n (a2y of g|||a1D of q.1.parts 0) q.2.1 with
     |some p=>
      rw[b1h t H];simp only;rw[f_ (by omega)]
     |none=>
      simp only;rw[n_ (by decide),w2];cases P:a28 of n (a2y of g|||a1D of q.1.parts 0) q.2.2 with
      |some p=>
       rw[b02 t H P];simp only;rw[f_ (by omega)]
      |none=>
       rw[b2e t H P];simp only;rw[n_ (by decide)];exact w3
  exact Ac l lo f h N
def a19:List Hd→Nat→Option Nat
 | [],_=>none
 |h::r,x=>if h.name=(x:Int)then some h.label else a19 r x
theorem b7c{C:List UInt8}{A:List Int}{B x:Nat} :∀(l:List Hd) (i f:Nat),a44 C A i B l→B-i<f→a6e C B (x:Int) f i=some (match a19 l x with|some m=>(m:Int)|none=> -1)
 | [],i,0,h,hf=>by omega
 | [],i,f+1,h,hf=>by
  have:i=B:=h;subst this;unfold a6e;rw[f_ (a_s _)];rfl
 |a::r,i,0,h,hf=>by omega
 |a::r,i,f+1,h,hf=>by
  obtain⟨e,o,b,g⟩:=h;obtain⟨d,k,p⟩:=b.name;obtain⟨j,n⟩:=b.label;have q:=a07 b.over;have s:=(a7v r o B g).1;unfold a6e a19;rw[n_ e,k,b.over];simp only;rw[←p];by_cases c:a.name=(x:Int)
  ·rw[n_ c,n_ c,n]
  ·rw[f_ c,f_ c];exact b7c r o f g (by omega)
theorem c4c{C:List UInt8}{A:List Int}{B x:Nat}{a:List Hd}(b:a2U C=some B)(h:a44 C A 0 B a):a6d C (x:Int)=some (match a19 a x with|some m=>(m:Int)|none=> -1):=by
 have:=a5j b;unfold a6d;rw[b];exact b7c a 0 _ h (by omega)
def a2J(c:a0C)(g:Nat):Nat:=if c.kind=1∨c.kind=2 then g else g|||a09 c.parts
def a5H(c:a0C)(g:Nat):List Fl:=
 if c.kind=0∨c.kind=1 then a2v c.name (a2J c g) 26++(if c.kind=1∧0<c.label then [⟨c.name,-1,(c.label:Int)⟩]else [])else []
def flL{α:Type}(a:Nat→List α→List Fl)(g:Nat):List (a0C×List α×List α)→List Fl
 | []=> []
 |q::r=>a5H q.1 g++a (a2J q.1 g) q.2.1++a (a2J q.1 g) q.2.2++flL a g r
def flT(n:Nat):Nat→List (RT n)→List Fl:=
 match n with
 |0=>fun _ _=> []
 |n+1=>fun g l=>flL (flT n) g l
theorem b3M(dst:Int)(a:Nat):∀n,(a2v dst a n).length≤n
 |0=>a_ _
 |n+1=>by
  have:=b3M dst a n;unfold a2v
  split<;>simp<;>omega
theorem c7y(c:a0C)(g:Nat):(a5H c g).length≤27:=by
 have:=b3M c.name (a2J c g) 26;unfold a5H
 split
 ·split<;>simp<;>omega
 ·simp
theorem b2Q{C:List UInt8}{A:List Int}(Y:C.length≤400):∀(n:Nat) (l:List (RT n)) (lo hi g f:Nat),a3i C A n lo hi l→hi≤C.length→hi-lo<f→a2j C f lo hi g=some (flT n g l)∧(flT n g l).length≤27*(hi-lo)
 |0,l,lo,hi,g,0,h,_,F=>by omega
 |0,l,lo,hi,g,f+1,h,_,F=>by
  have J:lo=hi:=h;subst J;unfold a2j;rw[f_ (a_s _)];exact⟨rfl,by simp[flT]⟩
 |n+1,l,lo,hi,g,f,h,hh,F=>by
  generalize hH:hi=H at*;have V:∀(l:List (a0C×List (RT n)×List (RT n))) (lo f:Nat),a7r (fun i o q=>a49 C A (a3i C A n) i o q) lo H l→H-lo<f→a2j C f lo H g=some (flL (flT n) g l)∧(flL (flT n) g l).length≤27*(H-lo):=by
   intro l;induction l with
   |nil=>
    intro lo f h F;have J:lo=H:=h;subst J;cases f with
    |zero=>omega
    |succ f=>unfold a2j;rw[f_ (a_s _)];exact⟨rfl,by simp[flL]⟩
   |cons q r ih=>
    intro lo f h F;obtain⟨T,o,j,X⟩:=h;obtain⟨e,Z,O,P,Aa,R,E,z⟩:=j.rest;obtain⟨D,L,M,N⟩:=j.blocks;have Af:=a8M j.over Z L;have Ad:=a07 j.over;have hi:=a2A j.over;have hx:D.q≤C.length∧D.s≤C.length:=by
     have s1:=a3t C;have a2:=s1 (a0q C lo);have a3:=s1 (lo+2);have U:=a2z j.over;have y:=L;rw[a2a j.over hi]at y;repeat' split at y
     all_goals (cases y;simp only;omega)
    have Ae:=(a6c r o _ (fun i o q hq=>a07 hq.over) X).1;cases f with
    |zero=>omega
    |succ f=>
    have Ab:=j.label;have t:a4K C e g=a2J q.1 g:=by
     unfold a4K a2J;rw[z,R];by_cases m:q.1.kind=1∨q.1.kind=2
     ·rw[n_ m,n_ m,f_ (by omega)]
     ·rw[f_ m,f_ m,n_ (by omega)]
    have I:a4Q e (a4K C e g)=a5H q.1 g:=by
     rw[t];unfold a4Q a5H;by_cases m:q.1.kind=0∨q.1.kind=1
     ·have hn:e.name=q.1.name:=by rw[E,n_ m]
      have Ac:=j.name m;rw[n_ (by omega),n_ m,hn];congr 1;by_cases B:q.1.kind=1
      ·have S:e.label=(q.1.label:Int):=by rw[z,n_ (.inl B)]
       rw[S];by_cases G:0<q.1.label
       ·rw[n_ (by omega),n_ ⟨B,G⟩]
       ·rw[f_ (by omega),f_ (fun e=>G e.2)]
      ·have S:e.label= -1:=by rw[z,f_ (by omega)]
       rw[S,f_ (by omega),f_ (fun e=>B e.1)]
     ·have hn:e.name= -1:=by rw[E,f_ m]
      rw[f_ (by omega),f_ m]
    obtain⟨w1,l1⟩:=b2Q Y n q.2.1 D.p D.q (a2J q.1 g) f M hx.1 (by omega);obtain⟨w2,l2⟩:=b2Q Y n q.2.2 D.r D.s (a2J q.1 g) f N hx.2 (by omega);obtain⟨w3,l3⟩:=ih o f X (by omega);have U:=c7y q.1 g;have u:(a5H q.1 g++flT n (a2J q.1 g) q.2.1++flT n (a2J q.1 g) q.2.2++flL (flT n) g r).length≤27*(H-lo):=by
     simp only[x_];omega
    refine⟨?_,u⟩;unfold a2j;rw[n_ T,Z,L,j.over];simp only;rw[n_ ⟨O,P⟩,I,t,w1,w2,w3];simp only;rw[n_]
    ·rfl
    ·have:=u;simp only[x_]at this⊢;omega
  exact V l lo f h F
structure Shut(hs:List Hd)(E:List Fl)(s:Nat)(P:Nat→Prop):Prop where
 head:∀x m:Nat,a19 hs x=some m→m&&&s≠0→P x
 sec:∀(x:Nat) (fl:Fl),a19 hs x=none→fl∈E→fl.dst=(x:Int)→fl.frm<0→fl.sec.toNat&&&s≠0→P x
 edge:∀(x y:Nat) (fl:Fl),a19 hs x=none→fl∈E→fl.dst=(x:Int)→fl.frm=(y:Int)→P y→P x
def Has(a:List Hd)(E:List Fl)(s x:Nat):Prop:=∀P,Shut a E s P→P x
theorem Has.head{a:List Hd}{E:List Fl}{s x m:Nat}(h:a19 a x=some m)(b:m&&&s≠0):Has a E s x:=fun P c=>c.head x m h b
theorem Has.sec{a:List Hd}{E:List Fl}{s x:Nat}{fl:Fl}(h:a19 a x=none)(f:fl∈E)(d:fl.dst=(x:Int))(e:fl.frm<0)(b:fl.sec.toNat&&&s≠0):Has a E s x:=fun P c=>c.sec x fl h f d e b
theorem Has.edge{a:List Hd}{E:List Fl}{s x y:Nat}{fl:Fl}(h:a19 a x=none)(e:fl∈E)(b:fl.dst=(x:Int))(d:fl.frm=(y:Int))(f:Has a E s y):Has a E s x:=fun P c=>c.edge x y fl h e b d (f P c)
theorem a5b(S y:Nat):S&&&2^y≠0↔S.testBit y=true:=by
 constructor
 ·intro h;obtain⟨j,a⟩:=Nat.exists_testBit_of_ne_zero h;rw[Nat.testBit_and,a_U]at a;simp at a;obtain⟨b,rfl⟩:=a;exact b
 ·intro h e;have:=a_w (fun n=>n.testBit y) e;simp[Nat.testBit_and,a_U,h]at this
theorem a9W(S x y:Nat):(S|||2^x).testBit y=true↔S.testBit y=true∨x=y:=by
 rw[a_z,a_U];simp
def un(S:Nat):Nat:=(List.range 26).countP fun i=> !S.testBit i
theorem b41{p q:Nat→Bool} :∀(l:List Nat) (a:Nat),(∀i∈l,p i=true→q i=true)→a∈l→q a=true→p a=false→l.countP p<l.countP q
 | [],a,_,h,_,_=>by cases h
 |b::r,a,hm,h,hq,hp=>by
  rw[List.countP_cons,List.countP_cons];rcases X_.mp h with rfl|h
  ·have:=List.countP_mono_left (l:=r) (p:=p) (q:=q) (fun i hi=>hm i (by simp[hi]));rw[hq,hp];simp;omega
  ·have:=b41 r a (fun i hi=>hm i (by simp[hi])) h hq hp;have:=hm b (by simp);cases c:p b<;>cases d:q b<;>simp_all<;>omega
theorem c7E{S T:Nat}(h:∀y,S.testBit y=true→T.testBit y=true):un T≤un S:=by
 refine List.countP_mono_left fun i _ a=> ?_
 cases b:S.testBit i with
 |false=>rfl
 |true=>rw[h i b]at a;exact a
theorem c7F{S x:Nat}(c:x<26)(h:S.testBit x=false):un (S|||2^x)<un S:=by
 refine b41 _ x (fun i _ a=> ?_) (by simpa using c) (by rw[h];rfl) ?_
 ·cases b:S.testBit i with
  |false=>rfl
  |true=>rw[(a9W S x i).mpr (.inl b)]at a;exact a
 ·rw[(a9W S x x).mpr (.inr rfl)];rfl
theorem c7j(S:Nat):un S≤26:=by
 have:=List.countP_le_length (p:=fun i=> !S.testBit i) (l:=List.range 26);simpa[un]using this
def b1a(a:List Hd)(s S z:Nat):Prop:=S.testBit z=true∨∃m,a19 a z=some m∧¬m&&&s≠0
def b09(a:List Hd)(s S:Nat)(fl:Fl):Prop:=¬(fl.frm<0∧fl.sec.toNat&&&s≠0)∧(0≤fl.frm→b1a a s S fl.frm.toNat)
def b6E(a:List Hd)(E:List Fl)(s S y:Nat):Prop:=a19 a y=none∧∀fl∈E,fl.dst=(y:Int)→b09 a s S fl
theorem b1a.mono{a:List Hd}{s S T z:Nat}(h:b1a a s S z)(b:∀y,S.testBit y=true→T.testBit y=true):b1a a s T z:=h.imp (b z) id
theorem b09.mono{a:List Hd}{s S T:Nat}{fl:Fl}(h:b09 a s S fl)(b:∀y,S.testBit y=true→T.testBit y=true):b09 a s T fl:=⟨h.1,fun e=>(h.2 e).mono b⟩
theorem b6E.mono{a:List Hd}{E:List Fl}{s S T y:Nat}(h:b6E a E s S y)(d:∀y,S.testBit y=true→T.testBit y=true):b6E a E s T y:=⟨h.1,fun fl c b=>(h.2 fl c b).mono d⟩
structure a8P(hs:List Hd)(E:List Fl)(s S T:Nat):Prop where
 more:∀y,S.testBit y=true→T.testBit y=true
 done:∀y,T.testBit y=true→S.testBit y=false→b6E hs E s T y
theorem a8P.refl(b:List Hd)(E:List Fl)(s S:Nat):a8P b E s S S:=⟨fun _=>id,fun y h a=>by rw[h]at a;cases a⟩
theorem a8P.trans{a:List Hd}{E:List Fl}{s S T U:Nat}(h:a8P a E s S T)(k:a8P a E s T U):a8P a E s S U:=by
 refine⟨fun y e=>k.more y (h.more y e),fun y c d=> ?_⟩;cases b:T.testBit y with
 |false=>exact k.done y c b
 |true=>exact(h.done y b d).mono k.more
def c5j(a:List Hd)(E:List Fl)(s f:Nat)(c:Nat→Nat→Option (Bool×Nat)):Prop:=
 ∀x S,x<26→S.testBit x=false→un S<f→∃b T,c x S=some (b,T)∧(b=true→Has a E s x)∧(b=false→a8P a E s S T∧b1a a s T x)
theorem b9T{t:List Hd}{E:List Fl}{s f x:Nat}{v:Nat→Nat→Option (Bool×Nat)}(G:c5j t E s f v)(C:a19 t x=none)(F:∀fl∈E,fl.frm<26):∀(l:List Fl) (S:Nat),(∀fl∈l,fl∈E)→un S<f→∃b T,a6F v x s l S=some (b,T)∧(b=true→Has t E s x)∧(b=false→a8P t E s S T∧∀fl∈l,fl.dst=(x:Int)→b09 t s T fl)
 | [],S,_,_=>⟨false,S,rfl,fun e=>(by cases e),fun _=>⟨a8P.refl ..,fun fl h=>(by cases h)⟩⟩
 |fl::r,S,hl,hf=>by
  have D:=fun S=>b9T G C F r S (fun q d=>hl q (by simp[d]))
  have j:=hl fl (by simp);unfold a6F;by_cases p:fl.dst=(x:Int)
  ·rw[f_ (by simpa using p)];by_cases k:fl.frm<0∧fl.sec.toNat&&&s≠0
   ·rw[n_ k];exact⟨true,S,rfl,fun _=> .sec C j p k.1 k.2,fun e=>(by cases e)⟩
   ·rw[f_ k];by_cases w:0≤fl.frm∧S&&&2^fl.frm.toNat=0
    ·rw[n_ w];have z:S.testBit fl.frm.toNat=false:=by
      cases z:S.testBit fl.frm.toNat with
      |false=>rfl
      |true=>exact absurd w.2 ((a5b _ _).mpr z)
     have I:=F fl j;obtain⟨b,T,e,J,A⟩:=G fl.frm.toNat S (by omega) z hf;rw[e];cases b with
     |true=>exact⟨true,T,rfl,fun _=> .edge C j p (y:=fl.frm.toNat) (by omega) (J rfl),fun e=>(by cases e)⟩
     |false=>
      obtain⟨u,B⟩:=A rfl;have:=c7E u.more;obtain⟨b,U,n,i,g⟩:=D T (by omega);refine⟨b,U,n,i,fun o=> ?_⟩;obtain⟨c,a⟩:=g o;refine⟨u.trans c,fun q d m=> ?_⟩;rcases X_.mp d with rfl|d
      ·exact⟨k,fun _=>B.mono c.more⟩
      ·exact a q d m
    ·rw[f_ w];obtain⟨b,U,n,i,g⟩:=D S hf;refine⟨b,U,n,i,fun o=> ?_⟩;obtain⟨c,a⟩:=g o;refine⟨c,fun q d m=> ?_⟩;rcases X_.mp d with rfl|d
     ·refine⟨k,fun H=> .inl (c.more _ ((a5b _ _).mp fun e=>w ⟨H,e⟩))⟩
     ·exact a q d m
  ·rw[n_ p];obtain⟨b,U,n,i,g⟩:=D S hf;refine⟨b,U,n,i,fun o=> ?_⟩;obtain⟨c,a⟩:=g o;refine⟨c,fun q d m=> ?_⟩;rcases X_.mp d with rfl|d
   ·exact absurd m p
   ·exact a q d m
theorem b8o{C:List UInt8}{i:List Hd}{E:List Fl}{s:Nat}(n:∀x:Nat,a6d C (x:Int)=some (match a19 i x with|some m=>(m:Int)|none=> -1))(l:∀fl∈E,fl.frm<26):∀f,c5j i E s f (a54 C E s f)
 |0=>fun x S _ _ h=>by omega
 |f+1=>fun x S v r w=>by
  unfold a54;rw[n x];cases c:a19 i x with
  |some m=>
   simp only;rw[n_ (by omega)];refine⟨_,S,rfl,fun e=> .head c (by simpa using e),fun e=>⟨a8P.refl ..,.inr ⟨m,c,by simpa using e⟩⟩⟩
  |none=>
   simp only;rw[f_ (by omega)];have z:=c7F v r;obtain⟨b,T,e,u,g⟩:=b9T (b8o n l f) c l E (S|||2^x) (fun _=>id) (by omega);refine⟨b,T,e,u,fun p=> ?_⟩;obtain⟨d,q⟩:=g p;have j:T.testBit x=true:=d.more x ((a9W S x x).mpr (.inr rfl));refine⟨⟨fun y k=>d.more y ((a9W S x y).mpr (.inl k)),fun y k o=> ?_⟩,.inl j⟩;by_cases a:x=y
   ·subst a;exact⟨c,q⟩
   ·refine d.done y k ?_;cases t:(S|||2^x).testBit y with
    |false=>rfl
    |true=>
     rcases(a9W S x y).mp t with h|h
     ·rw[h]at o;cases o
     ·exact absurd h a
theorem c58{e:List Hd}{E:List Fl}{s T:Nat}(h:a8P e E s 0 T){x:Nat}(n:Has e E s x):b1a e s T x→False:=by
 have k:∀y,a19 e y=none→b1a e s T y→b6E e E s T y:=by
  intro y g b;rcases b with b|⟨m,d,_⟩
  ·exact h.done y b (by simp)
  ·rw[g]at d;cases d
 refine n (fun x=>b1a e s T x→False) ⟨?_,?_,?_⟩
 ·intro z m d i b;rcases b with b|⟨p,f,j⟩
  ·have:=(h.done z b (by simp)).1;rw[this]at d;cases d
  ·rw[d]at f;cases f;exact j i
 ·intro z l g d a c i b;exact((k _ g b).2 _ d a).1 ⟨c,i⟩
 ·intro z y l g d a c o b;have:=((k _ g b).2 _ d a).2 (by omega);rw[c]at this;exact o this
theorem c3f{C:List UInt8}{a:List Hd}{E:List Fl}{s x:Nat}(g:∀x:Nat,a6d C (x:Int)=some (match a19 a x with|some m=>(m:Int)|none=> -1))(f:∀fl∈E,fl.frm<26)(i:x<26):∃b T,a54 C E s 27 x 0=some (b,T)∧(b=true↔Has a E s x):=by
 have l:=c7j 0;obtain⟨b,T,e,c,d⟩:=b8o (s:=s) g f 27 x 0 i (by simp) (by omega);refine⟨b,T,e,c,fun h=> ?_⟩;cases b with
 |true=>rfl
 |false=>
  obtain⟨j,k⟩:=d rfl;exact(c58 j h k).elim
theorem b4D{C:List UInt8}{l:List Hd}{E:List Fl}{x:Nat}(f:∀x:Nat,a6d C (x:Int)=some (match a19 l x with|some m=>(m:Int)|none=> -1))(d:∀fl∈E,fl.frm<26)(i:x<26):∀(n m:Nat),n≤4→∃M,a6Q C E x n m=some M∧∀k,M.testBit k=true↔m.testBit k=true∨(4-n≤k∧k<4∧Has l E (2^k) x)
 |0,m,_=>⟨m,rfl,fun k=>⟨.inl,fun h=>h.elim id fun h=>by omega⟩⟩
 |n+1,m,hn=>by
  obtain⟨b,T,e,j⟩:=c3f (s:=2^(3-n)) f d i;unfold a6Q;rw[e];cases b with
  |true=>
   obtain⟨M,a,c⟩:=b4D f d i n (m|||2^(3-n)) (by omega);refine⟨M,a,fun k=> ?_⟩;rw[c k,a9W];constructor
   ·rintro((h|h)|h)
    ·exact .inl h
    ·refine .inr ⟨by omega,by omega,?_⟩;rw[←h];exact j.mp rfl
    ·exact .inr ⟨by omega,h.2⟩
   ·rintro(h|h)
    ·exact .inl (.inl h)
    ·by_cases g:3-n=k
     ·exact .inl (.inr g)
     ·exact .inr ⟨by omega,h.2⟩
  |false=>
   obtain⟨M,a,c⟩:=b4D f d i n m (by omega);refine⟨M,a,fun k=> ?_⟩;rw[c k];constructor
   ·rintro(h|h)
    ·exact .inl h
    ·exact .inr ⟨by omega,h.2⟩
   ·rintro(h|h)
    ·exact .inl h
    ·by_cases g:3-n=k
     ·have:=h.2.2;rw[←g]at this;exact absurd (j.mpr this) (by decide)
     ·exact .inr ⟨by omega,h.2⟩
theorem b7s{C:List UInt8}{c:List Hd}{E:List Fl}(b:∀x:Nat,a6d C (x:Int)=some (match a19 c x with|some m=>(m:Int)|none=> -1))(a:∀fl∈E,fl.frm<26):∀n,n≤26→∃R,a4L C E n=some R∧∀j,j<n→∀k,(R.getD j 0).testBit k=true↔k<4∧Has c E (2^k) (26-n+j)
 |0,_=>⟨[],rfl,fun j h=>by omega⟩
 |n+1,hn=>by
  obtain⟨M,e,h⟩:=b4D b a (x:=25-n) (by omega) 4 0 (by omega);obtain⟨R,d,f⟩:=b7s b a n (by omega);refine⟨M::R,by unfold a4L;rw[e,d],fun j g k=> ?_⟩;cases j with
  |zero=>
   simp only[List.getD_cons_zero];rw[h k,show 26-(n+1)+0=25-n by omega];simp
  |succ j=>
   simp only[List.getD_cons_succ];rw[f j (by omega) k,show 26-(n+1)+(j+1)=26-n+j by omega]
theorem b0E{dst:Int}{a y:Nat} :∀n,n≤26→26-n≤y→y<26→a&&&2^y≠0→(⟨dst,(y:Int),0⟩:Fl)∈a2v dst a n
 |0,_,h1,h2,_=>by omega
 |n+1,hn,h1,h2,hb=>by
  unfold a2v;by_cases e:25-n=y
  ·subst e;rw[n_ hb];simp
  ·exact List.mem_append_right _ (b0E n (by omega) (by omega) h2 hb)
theorem b5E{dst:Int}{a:Nat}{fl:Fl} :∀n,fl∈a2v dst a n→fl.dst=dst∧∃y:Nat,y<26∧fl.frm=(y:Int)∧a&&&2^y≠0
 |0,h=>by cases h
 |n+1,h=>by
  unfold a2v at h;rcases G_.mp h with h|h
  ·split at h
   ·rename_i b;simp at h;subst h;exact⟨rfl,25-n,by omega,rfl,b⟩
   ·cases h
  ·exact b5E n h
theorem b7n{of:List Nat}{k:Nat} :∀(P:List Pt),(a1D of P 0).testBit k=true→∃p∈P,p.op=2∧(of.getD p.num.toNat 0).testBit k=true
 | [],h=>by simp[a1D]at h
 |p::r,h=>by
  rw[a5V,a95]at h;rw[a_z]at h;rcases a_B.mp h with h|h
  ·split at h
   ·rename_i a;exact⟨p,by simp,a,by simpa using h⟩
   ·simp at h
  ·obtain⟨q,b,a⟩:=b7n r h;exact⟨q,by simp[b],a⟩
theorem b3P:∀ {P:List Pt} {p:Pt},p∈P→p.op=2→(a09 P).testBit p.num.toNat=true
 | [],p,h,_=>by cases h
 |q::r,p,h,h2=>by
  unfold a09;rw[a_z];rcases X_.mp h with rfl|h
  ·rw[n_ h2,a_U];simp
  ·rw[b3P h h2];simp
theorem b5J{of:List Nat}{k y:Nat} :∀ {P:List Pt},(a09 P).testBit y=true→(of.getD y 0).testBit k=true→(a1D of P 0).testBit k=true
 | [],h,_=>by simp[a09]at h
 |q::r,h,hk=>by
  unfold a09 at h;rw[a_z]at h;rw[a5V,a95,a_z];rcases a_B.mp h with h|h
  ·split at h
   ·rename_i a;rw[n_ a];rw[a_U]at h;have e:q.num.toNat=y:=by simpa using h
    rw[e,Nat.zero_or,hk];rfl
   ·simp at h
  ·rw[b5J h hk];simp
def Snd(a:List Hd)(E:List Fl)(of:List Nat):Prop:=∀x k,x<26→(of.getD x 0).testBit k=true→Has a E (2^k) x
def GdS(a:List Hd)(E:List Fl)(g G:Nat):Prop:=∀k,g.testBit k=true→∃y,y<26∧G&&&2^y≠0∧Has a E (2^k) y
structure Step(hs:List Hd)(E:List Fl)(fx:List Bool)(a b:LS):Prop where
 len:b.1.length=26
 snd:Snd hs E b.1
 fix:∀x,fx.getD x false=true→b.1.getD x 0=a.1.getD x 0
theorem Step.refl{b:List Hd}{E:List Fl}{fx:List Bool}{a:LS}(c:a.1.length=26)(h:Snd b E a.1):Step b E fx a a:=⟨c,h,fun _ _=>rfl⟩
theorem Step.trans{d:List Hd}{E:List Fl}{fx:List Bool}{a b c:LS}(h:Step d E fx a b)(k:Step d E fx b c):Step d E fx a c:=⟨k.len,k.snd,fun x e=>(k.fix x e).trans (h.fix x e)⟩
theorem b0t{α:Type}(l:List α)(i j:Nat)(v d:α)(hi:i<l.length):(l.set i v).getD j d=if i=j then v else l.getD j d:=by
 rw[t_,t_,List.getElem?_set]
 split
 ·rename_i h;subst h;simp[hi]
 ·rfl
theorem b48{d:List Hd}{E:List Fl}{fx:List Bool}{st:LS}(g:st.1.length=26)(h:Snd d E st.1){k lab:Nat}(m:k<26)(i:fx.getD k false=false→∀j,lab.testBit j=true→Has d E (2^j) k):Step d E fx st (a7x fx st k lab):=by
 unfold a7x
 split
 ·exact Step.refl g h
 ·rename_i f;have b:fx.getD k false=false:=by
   cases l:fx.getD k false with
   |false=>rfl
   |true=>rw[l]at f;simp at f
  refine⟨by simp[g],fun x j c a=> ?_,fun x c=> ?_⟩
  ·simp only at a;rw[b0t _ _ _ _ _ (by omega)]at a
   split at a
   ·rename_i e;subst e;rw[a_z]at a;rcases a_B.mp a with a|a
    ·exact h _ j c a
    ·exact i b j a
   ·exact h x j c a
  ·simp only;rw[b0t _ _ _ _ _ (by omega),f_];intro e;subst e;rw[b]at c;cases c
theorem c6W{b:List Hd}{E:List Fl}{g G:Nat}{of:List Nat}{P:List Pt}(e:∀p∈P,a6K p)(i:GdS b E g G)(h:Snd b E of):GdS b E (g|||a1D of P 0) (G|||a09 P):=by
 intro k a;rw[a_z]at a;rcases a_B.mp a with a|a
 ·obtain⟨y,j,l,m⟩:=i k a;refine⟨y,j,(a5b _ _).mpr ?_,m⟩;rw[a_z,(a5b _ _).mp l];rfl
 ·obtain⟨p,d,c,f⟩:=b7n P a;obtain⟨n,o⟩:=e p d c;refine⟨p.num.toNat,by omega,(a5b _ _).mpr ?_,h _ k (by omega) f⟩;rw[a_z,b3P d c];simp
def b4m{α:Type}(b:List Hd)(E:List Fl)(fx:List Bool)(ok:List α→Prop)(fl:Nat→List α→List Fl)(c:LS→List α→Nat→LS):Prop:=
 ∀a l g G,a.1.length=26→Snd b E a.1→ok l→GdS b E g G→(∀q∈fl G l,q∈E)→Step b E fx a (c a l g)
theorem c1M{α:Type}{m:List Hd}{E:List Fl}{fx:List Bool}{ok:List α→Prop}{e:Nat→List α→List Fl}{n:LS→List α→Nat→LS}(i:∀x,x<26→fx.getD x false=false→a19 m x=none)(z:b4m m E fx ok e n){st:LS}(p:st.1.length=26)(h:Snd m E st.1){q:a0C×List α×List α}(s:a1j q.1)(C:ok q.2.1)(D:ok q.2.2){g G:Nat}(w:GdS m E g G)(r:∀f∈a5H q.1 G,f∈E)(A:∀f∈e (a2J q.1 G) q.2.1,f∈E)(B:∀f∈e (a2J q.1 G) q.2.2,f∈E):Step m E fx st (a5S n fx st q g):=by
 have c:=c6W s.parts w h;unfold a5S
 split
 ·rename_i d;obtain⟨I,J⟩:=s.name (.inl d);refine b48 p h (by omega) fun o j b=> ?_
  obtain⟨y,t,u,v⟩:=c j b;have k:a2J q.1 G=G|||a09 q.1.parts:=by unfold a2J;rw[f_ (by omega)]
  refine .edge (fl:=⟨q.1.name,(y:Int),0⟩) (y:=y) (i _ (by omega) o) (r _ ?_) (by simp only;omega) rfl v;unfold a5H;rw[n_ (.inl d),k];exact List.mem_append_left _ (b0E 26 (a_ _) (by omega) t u)
 split
 ·rename_i F d;obtain⟨I,J⟩:=s.name (.inr d);have k:a2J q.1 G=G:=by unfold a2J;rw[n_ (.inl d)]
  refine b48 p h (by omega) fun o j b=> ?_
  rw[a_z]at b;rcases a_B.mp b with b|b
  ·obtain⟨y,t,u,v⟩:=w j b;refine .edge (fl:=⟨q.1.name,(y:Int),0⟩) (y:=y) (i _ (by omega) o) (r _ ?_) (by simp only;omega) rfl v;unfold a5H;rw[n_ (.inr d),k];exact List.mem_append_left _ (b0E 26 (a_ _) (by omega) t u)
  ·have l:0<q.1.label:=by
    cases H:q.1.label with
    |zero=>rw[H]at b;simp at b
    |succ _=>omega
   refine .sec (fl:=⟨q.1.name,-1,(q.1.label:Int)⟩) (i _ (by omega) o) (r _ ?_) (by simp only;omega) (show(-1:Int)<0 by decide) ?_
   ·unfold a5H;rw[n_ (.inr d),n_ ⟨d,l⟩];exact List.mem_append_right _ (by simp)
   ·exact(a5b _ _).mpr (by simpa using b)
 split
 ·rename_i d;have k:a2J q.1 G=G|||a09 q.1.parts:=by unfold a2J;rw[f_ (by omega)]
  rw[←k]at c;have a:=z st q.2.1 _ _ p h C c A;exact a.trans (z _ q.2.2 _ _ a.len a.snd D c B)
 ·exact Step.refl p h
theorem b46{α:Type}{m:List Hd}{E:List Fl}{fx:List Bool}{ok:List α→Prop}{d:Nat→List α→List Fl}{n:LS→List α→Nat→LS}(j:∀x,x<26→fx.getD x false=false→a19 m x=none)(o:b4m m E fx ok d n):∀(l:List (a0C×List α×List α)) (st:LS) (g G:Nat),st.1.length=26→Snd m E st.1→(∀q∈l,a1j q.1∧ok q.2.1∧ok q.2.2)→GdS m E g G→(∀f∈flL d G l,f∈E)→Step m E fx st (a8i n fx st l g)
 | [],st,g,G,hl,h,_,_,_=>Step.refl hl h
 |q::r,st,g,G,hl,h,hq,hg,he=>by
  obtain⟨a,b,c⟩:=hq q (by simp);have e:∀f∈a5H q.1 G++d (a2J q.1 G) q.2.1++d (a2J q.1 G) q.2.2++flL d G r,f∈E:=he;have k:=c1M j o hl h a b c hg (fun f i=>e f (by simp[i])) (fun f i=>e f (by simp[i])) (fun f i=>e f (by simp[i]));exact k.trans (b46 j o r _ g G k.len k.snd (fun x p=>hq x (by simp[p])) hg (fun f i=>e f (by simp[i])))
theorem b45{c:List Hd}{E:List Fl}{fx:List Bool}(a:∀x,x<26→fx.getD x false=false→a19 c x=none):∀n,b4m c E fx (a0v n) (flT n) (a3A fx n)
 |0=>fun st l g G b h _ _ _=>Step.refl b h
 |n+1=>fun st l g G b h f e d=>b46 a (b45 a n) l st g G b h f.2 e d
theorem b2n{n:List Hd}{E:List Fl}{fx:List Bool}{l:List (RT 9)}(g:∀x,x<26→fx.getD x false=false→a19 n x=none)(o:a0v 9 l)(p:∀f∈flT 9 0 l,f∈E):∀(k:Nat) (of:List Nat),a2T of→Snd n E of→391≤k+of.sum→
  ∃a,a5F fx l k of=a∧a2T a∧Snd n E a∧(∀x,fx.getD x false=true→a.getD x 0=of.getD x 0)∧(a3A fx 9 (a,false) l 0).2=false
 |0,of,ho,_,j=>by have:=ho.sum_le;omega
 |k+1,of,ho,h,j=>by
  have b:=a5h fx 9 (of,false) l 0 ho o (by omega);have c:=b45 (E:=E) g 9 (of,false) l 0 0 ho.len h o (fun k j=>by simp at j) p;unfold a5F;cases i:(a3A fx 9 (of,false) l 0).2 with
  |false=>
   have d:=b.same rfl i;simp only[D_,a_g];refine⟨_,rfl,b.ok,c.snd,c.fix,?_⟩;rw[d];exact i
  |true=>
   simp only[a_b];have m:of.sum<(a3A fx 9 (of,false) l 0).1.sum:=by
    rcases b.more i with h|h
    ·cases h
    ·exact h
   obtain⟨a,e,r,s,t,u⟩:=b2n g o p k _ b.ok c.snd (by omega);exact⟨a,e,r,s,fun x q=>(t x q).trans (c.fix x q),u⟩
def b1X(fx:List Bool)(of:List Nat)(fl:Fl):Prop:=
 fx.getD fl.dst.toNat false=true∨∀k,(0≤fl.frm→(of.getD fl.frm.toNat 0).testBit k=true→(of.getD fl.dst.toNat 0).testBit k=true)∧(fl.frm<0→fl.sec.toNat.testBit k=true→(of.getD fl.dst.toNat 0).testBit k=true)
theorem b7a{a b k:Nat}(h:a1I a b=true)(c:a.testBit k=true):b.testBit k=true:=by
 have e:a|||b=b:=by simpa[a1I]using h
 rw[←e,a_z,c];rfl
def GdC(of:List Nat)(g G:Nat):Prop:=∀y k,y<26→G&&&2^y≠0→(of.getD y 0).testBit k=true→g.testBit k=true
theorem c6V{of:List Nat}{g G:Nat}{P:List Pt}(h:GdC of g G):GdC of (g|||a1D of P 0) (G|||a09 P):=by
 intro y k e d c;have a:=(a5b _ _).mp d;rw[a_z]at a⊢;rcases a_B.mp a with b|b
 ·rw[h y k e ((a5b _ _).mpr b) c];rfl
 ·rw[b5J b c];simp
theorem b3o{fx:List Bool}{of:List Nat}{k lab:Nat}(h:(a7x fx (of,false) k lab).2=false):fx.getD k false=true∨a1I lab (of.getD k 0)=true:=by
 unfold a7x at h
 split at h
 ·rename_i a;exact a_B.mp a
 ·cases h
theorem b9K{fx:List Bool}{of:List Nat}{c:a0C}{g G lab:Nat}(p:0≤c.name∧c.name<26)(l:c.kind=0∨c.kind=1)(j:GdC of lab (a2J c G))(d:c.kind=1→∀k,c.label.testBit k=true→lab.testBit k=true)(h:fx.getD c.name.toNat false=true∨a1I lab (of.getD c.name.toNat 0)=true):∀fl∈a5H c G,b1X fx of fl:=by
 intro fl a;unfold a5H at a;rw[n_ l]at a;rcases G_.mp a with a|a
 ·obtain⟨i,y,m,n,o⟩:=b5E 26 a;unfold b1X;rw[i];refine h.imp id fun h k=>⟨fun _ e=> ?_,fun b=>by omega⟩
  rw[n]at e;exact b7a h (j y k m o (by simpa using e))
 ·split at a
  ·rename_i f;simp at a;subst a;refine h.imp id fun h k=>⟨fun b=>(by simp only at b;omega),fun _ e=> ?_⟩
   exact b7a h (d f.1 k (by simpa using e))
  ·cases a
def b2G{α:Type}(fx:List Bool)(of:List Nat)(ok:List α→Prop)(b:Nat→List α→List Fl)(a:LS→List α→Nat→LS):Prop:=
 ∀l g G,ok l→g<16→GdC of g G→(a (of,false) l g).2=false→a (of,false) l g=(of,false)∧∀c∈b G l,b1X fx of c
theorem b3S{a:LS}{of:List Nat}(h:a6q (of,false) a)(e:a.2=false):a=(of,false):=Prod.ext (h.same rfl e) e
theorem b5f{a b:LS}(h:a6q a b)(e:b.2=false):a.2=false:=by
 cases c:a.2 with
 |false=>rfl
 |true=>rw[h.keep c]at e;cases e
theorem c0t{α:Type}{fx:List Bool}{of:List Nat}{ok:List α→Prop}{b:Nat→List α→List Fl}{h:LS→List α→Nat→LS}(z:a2T of)(j:a8I ok h)(B:b2G fx of ok b h){q:a0C×List α×List α}(A:a1j q.1)(v:ok q.2.1)(w:ok q.2.2)(f:¬(q.1.kind=3∨q.1.kind=4)→∀G,b G q.2.1= []∧b G q.2.2= []){g G:Nat}(i:g<16)(x:GdC of g G)(c:(a5S h fx (of,false) q g).2=false):
  ∀fl∈a5H q.1 G++b (a2J q.1 G) q.2.1++b (a2J q.1 G) q.2.2,b1X fx of fl:=by
 have s:=a34 i (a8J z.lt q.1.parts 0 (by omega));have d:=c6V (P:=q.1.parts) x;intro fl a;unfold a5S at c;by_cases t:q.1.kind=0
 ·rw[n_ t]at c;obtain⟨p,r⟩:=f (by omega) (a2J q.1 G);rw[p,r,a_i,a_i]at a;have l:a2J q.1 G=G|||a09 q.1.parts:=by unfold a2J;rw[f_ (by omega)]
  exact b9K (lab:=g|||a1D of q.1.parts 0) (g:=g) (A.name (.inl t)) (.inl t) (by rw[l];exact d) (fun e=>by omega) (b3o c) fl a
 rw[f_ t]at c;by_cases n:q.1.kind=1
 ·rw[n_ n]at c;obtain⟨p,r⟩:=f (by omega) (a2J q.1 G);rw[p,r,a_i,a_i]at a;have l:a2J q.1 G=G:=by unfold a2J;rw[n_ (.inl n)]
  refine b9K (lab:=g|||q.1.label) (g:=g) (A.name (.inr n)) (.inr n) ?_ (fun _ k u=> ?_) (b3o c) fl a
  ·rw[l];intro y k H F u;rw[a_z,x y k H F u];rfl
  ·rw[a_z,u];simp
 rw[f_ n]at c;by_cases o:q.1.kind=3∨q.1.kind=4
 ·rw[n_ o]at c;have l:a2J q.1 G=G|||a09 q.1.parts:=by unfold a2J;rw[f_ (by omega)]
  rw[←l]at d;have D:=j (of,false) q.2.1 _ z v s;have E:=j _ q.2.2 _ D.ok w s;obtain⟨C,I⟩:=B q.2.1 _ _ v s d (b5f E c);rw[C]at c;obtain⟨L,J⟩:=B q.2.2 _ _ w s d c;have m:a5H q.1 G= []:=by unfold a5H;rw[f_ (by omega)]
  rw[m,a_t]at a;rcases G_.mp a with a|a
  ·exact I fl a
  ·exact J fl a
 ·obtain⟨p,r⟩:=f o (a2J q.1 G);rw[p,r,a_i,a_i]at a;unfold a5H at a;rw[f_ (by omega)]at a;cases a
def b95{α:Type}(a:Nat→List α→List Fl)(b:List α→Prop):List (a0C×List α×List α)→Prop:=fun l=>∀q∈l,(¬(q.1.kind=3∨q.1.kind=4)→∀G,a G q.2.1= []∧a G q.2.2= [])∧b q.2.1∧b q.2.2
def b6z(n:Nat):List (RT n)→Prop:=
 match n with
 |0=>fun _=>True
 |n+1=>fun l=>b95 (flT n) (b6z n) l
theorem b3n{α:Type}{fx:List Bool}{of:List Nat}{ok i:List α→Prop}{e:Nat→List α→List Fl}{f:LS→List α→Nat→LS}(s:a2T of)(j:a8I ok f)(v:b2G fx of (fun l=>ok l∧i l) e f):∀(l:List (a0C×List α×List α)) (g G:Nat),(∀q∈l,a1j q.1∧ok q.2.1∧ok q.2.2)→b95 e i l→g<16→GdC of g G→(a8i f fx (of,false) l g).2=false→∀fl∈flL e G l,b1X fx of fl
 | [],g,G,_,_,_,_,_=>fun fl o=>by cases o
 |q::r,g,G,hq,hb,hg16,hg,hs=>by
  obtain⟨a,b,c⟩:=hq q (by simp);obtain⟨d,w,y⟩:=hb q (by simp);have k:(a8i f fx (a5S f fx (of,false) q g) r g).2=false:=hs;have u:=b1l j (fx:=fx) (st:=(of,false)) s a b c hg16;have z:=b1k j (fx:=fx) r _ g u.ok (fun x n=>hq x (by simp[n])) hg16;have t:=b5f z k;have m:a8I (fun l=>ok l∧i l) f:=fun st l g A B C=>j st l g A B.1 C
  have D:=c0t s m v a ⟨b,w⟩ ⟨c,y⟩ d hg16 hg t;rw[b3S u t]at k;have E:=b3n s j v r g G (fun x n=>hq x (by simp[n])) (fun x n=>hb x (by simp[n])) hg16 hg k;intro fl o;have p:fl∈a5H q.1 G++e (a2J q.1 G) q.2.1++e (a2J q.1 G) q.2.2++flL e G r:=o;rcases G_.mp p with h|h
  ·exact D fl h
  ·exact E fl h
theorem b3m{fx:List Bool}{of:List Nat}(c:a2T of):∀n,b2G fx of (fun l=>a0v n l∧b6z n l) (flT n) (a3A fx n)
 |0=>fun l g G _ _ _ _=>⟨rfl,fun fl f=>by cases f⟩
 |n+1=>fun l g G b a h d=>by
  have e:=a5h fx (n+1) (of,false) l g c b.1 a;exact⟨b3S e d,b3n c (a5h fx n) (b3m c n) l g G b.1.2 b.2 a h d⟩
theorem c6X{i:List Hd}{E:List Fl}{fx:List Bool}{of:List Nat}(f:∀x m,a19 i x=some m→of.getD x 0=m)(c:∀x,a19 i x=none→fx.getD x false=false)(j:∀fl∈E,b1X fx of fl){k x:Nat}(h:Has i E (2^k) x):(of.getD x 0).testBit k=true:=by
 refine h (fun x=>(of.getD x 0).testBit k=true) ⟨?_,?_,?_⟩
 ·intro x m h d;rw[f _ _ h];exact(a5b _ _).mp d
 ·intro x fl h g b e d;rcases j _ g with a|a
  ·rw[b,W_,c _ h]at a;cases a
  ·have:=(a k).2 e ((a5b _ _).mp d);rwa[b,W_]at this
 ·intro x y fl h g b e l;rcases j _ g with a|a
  ·rw[b,W_,c _ h]at a;cases a
  ·have:=(a k).1 (by omega);rw[b,e,W_,W_]at this;exact this l
theorem b4e{n:Int} :∀(l b:List Hd),a1N b l=none→a4V b n=true→∀h∈l,¬h.name=n
 | [],b,_,_,h,c=>by cases c
 |a::r,b,ht,hp,h,c=>by
  rw[a6C]at ht;cases d:a4V b a.name with
  |true=>rw[d,n_ rfl]at ht;cases ht
  |false=>
   rw[d]at ht;simp only[D_,a_g]at ht;rcases X_.mp c with rfl|c
   ·intro e;rw[e,hp]at d;cases d
   ·exact b4e r _ ht (by unfold a4V at hp⊢;rw[List.any_append,hp];rfl) h c
theorem b5p{k:Nat} :∀(l:List Hd),(∀h∈l,¬h.name=(k:Int))→a19 l k=none
 | [],_=>rfl
 |a::r,h=>by
  unfold a19;rw[f_ (h a (by simp))];exact b5p r fun x b=>h x (by simp[b])
theorem b2l{k:Nat} :∀(l b:List Hd) (x:List Nat×List Bool),a1N b l=none→(∀h∈l,b0d h)→x.1.length=26→x.2.length=26→
  (a2I l x).1.getD k 0=(match a19 l k with|some m=>m|none=>x.1.getD k 0)∧(a2I l x).2.getD k false=((a19 l k).isSome||x.2.getD k false)∧(a2I l x).2.length=26
 | [],b,x,_,_,_,h2=>⟨rfl,by simp[a2I,a19],h2⟩
 |a::r,b,x,ht,hh,h1,h2=>by
  obtain⟨n,o,_,_⟩:=hh a (by simp);rw[a6C]at ht;cases c:a4V b a.name with
  |true=>rw[c,n_ rfl]at ht;cases ht
  |false=>
  rw[c]at ht;simp only[D_,a_g]at ht;obtain⟨g,i,j⟩:=b2l r (b++ [a]) (x.1.set a.name.toNat a.label,x.2.set a.name.toNat true) ht (fun h f=>hh h (by simp[f])) (by simp[h1]) (by simp[h2]);rw[a8W];refine⟨?_,?_,j⟩
  ·rw[g];simp only;rw[b0t _ _ _ _ _ (by omega)];by_cases e:a.name=(k:Int)
   ·have d:a19 r k=none:=b5p r (by
     rw[←e];exact b4e r _ ht (by unfold a4V;rw[List.any_append];simp))
    rw[d];unfold a19;rw[n_ e,n_ (by omega)]
   ·rw[f_ (by omega)]
    conv=>rhs;unfold a19
    rw[f_ e]
  ·rw[i];simp only;rw[b0t _ _ _ _ _ (by omega)];by_cases e:a.name=(k:Int)
   ·unfold a19;rw[n_ e,n_ (by omega)];simp
   ·rw[f_ (by omega)]
    conv=>rhs;unfold a19
    rw[f_ e]
theorem b43{C:List UInt8}{A:List Int}{n lo G:Nat}{l:List (RT n)}(h:a3i C A n lo lo l):flT n G l= []:=by
 cases n with
 |zero=>rfl
 |succ n=>
  cases l with
  |nil=>rfl
  |cons q r=>exact absurd h.1 (a_s _)
theorem b1i{C:List UInt8}{A:List Int} :∀(n lo hi:Nat) (l:List (RT n)),a3i C A n lo hi l→b6z n l
 |0,_,_,_,_=>trivial
 |n+1,lo,hi,l,h=>by
  have p:∀(l:List (a0C×List (RT n)×List (RT n))) (lo hi:Nat),a7r (fun i o q=>a49 C A (a3i C A n) i o q) lo hi l→b95 (flT n) (b6z n) l:=by
   intro l;induction l with
   |nil=>intro lo hi _ q k;cases k
   |cons a r ih=>
    intro lo hi h q k;obtain⟨w,o,m,u⟩:=h;rcases X_.mp k with rfl|k
    ·obtain⟨x,s,b,d⟩:=m.blocks;refine⟨fun t G=> ?_,b1i n _ _ _ b,b1i n _ _ _ d⟩;obtain⟨c,v,g,f,_,_⟩:=m.byte;have hi:=a2A m.over;have j:C[lo]=c:=(k_.mp v).2;rw[a2a m.over hi,f_ (by rw[j];exact fun e=>t (.inl (f.mp e))),f_ (by rw[j];exact fun e=>t (.inr (g.mp e)))]at s;cases s;exact⟨b43 b,b43 d⟩
    ·exact ih o hi u q k
  exact p l lo hi h
theorem b6R{t:List UInt8}(i:t.length≤400):∀(l:List Hd) (lo hi:Nat),a44 (a0a t) (atL t 0) lo hi l→∀h∈l,b0d h
 | [],_,_,_,h,b=>by cases b
 |a::r,lo,hi,hc,h,b=>by
  obtain⟨g,o,c,e⟩:=hc;rcases X_.mp b with rfl|b
  ·obtain⟨d,k,m⟩:=c.name;obtain⟨j,f⟩:=c.label;have n:=c5k c.place;have:=a7U f;have p:=c.ok;exact⟨by omega,by omega,this,by omega⟩
  ·exact b6R i r o hi e h b
theorem c5K{a b:Nat}(e:a<16)(f:b<16)(h:∀k,k<4→(a.testBit k=true↔b.testBit k=true)):a=b:=by
 apply Nat.eq_of_testBit_eq;intro k;by_cases g:k<4
 ·have:=h k g;cases c:a.testBit k<;>cases d:b.testBit k<;>simp_all
 ·have c:a.testBit k=false:=Nat.testBit_lt_two_pow (Q_ e (a_n (n:=2) (by omega) (show 4≤k by omega)));have d:b.testBit k=false:=Nat.testBit_lt_two_pow (Q_ f (a_n (n:=2) (by omega) (show 4≤k by omega)));rw[c,d]
theorem b5x{C:List UInt8}{A:List Int}{B:Nat}{a:List Hd}{l:List (RT 9)}(X:C.length≤400)(c:a2U C=some B)(V:a44 C A 0 B a)(L:a3i C A 9 B C.length l)(O:∀h∈a,b0d h)(P:a0v 9 l)(G:a1N [] a=none):
  a5x C=some (flT 9 0 l)∧a7E C=some (a13 a l):=by
 have hB:=a5j c;obtain⟨o,_⟩:=b2Q X 9 l B C.length 0 (C.length+1) L (a_ _) (by omega);have n:a5x C=some (flT 9 0 l):=by unfold a5x;rw[c];exact o
 refine⟨n,?_⟩;have E:=a7A _ _ _ _ _ o;have v:∀x:Nat,a6d C (x:Int)=some (match a19 a x with|some m=>(m:Int)|none=> -1):=fun x=>c4c c V
 obtain⟨R,M,t⟩:=b7s v (fun q Z=>(E.frm q Z).2) 26 (a_ _);obtain⟨rl,J⟩:=b0B 26 R M;have d:=fun k=>b2l (k:=k) a [] a4D G O rfl rfl
 have u:∀x,a19 a x=none→x<26→(a2I a a4D).2.getD x false=false:=by
  intro x f b;have:=(d x).2.1;rw[this,f];have e:a4D.2.getD x false=false:=b0K false false 26 x b;rw[e];rfl
 have p:∀x,x<26→(a2I a a4D).2.getD x false=false→a19 a x=none:=by
  intro x b h;have:=(d x).2.1;rw[h]at this;cases j:a19 a x with
  |none=>rfl
  |some m=>rw[j]at this;simp at this
 have s:Snd a (flT 9 0 l) (a2I a a4D).1:=by
  intro x k f c;rw[(d x).1]at c;cases j:a19 a x with
  |none=>
   rw[j]at c;have e:a4D.1.getD x 0=0:=b0K 0 0 26 x f;simp only at c;rw[e]at c;simp at c
  |some m=>
   rw[j]at c;exact .head j ((a5b _ _).mpr c)
 obtain⟨I,U,H,o2,o3,o4⟩:=b2n (fx:=(a2I a a4D).2) p P (fun _=>id) 400 _ (b0v a a4D O b9E) s (by omega);have F:=(b3m H 9 l 0 0 ⟨P,b1i 9 _ _ _ L⟩ (by omega) (fun y k _ hy=>absurd (Nat.zero_and _) hy) o4).2;have r:a13 a l=I:=U;unfold a7E;rw[n,r];simp only;rw[M];congr 1;refine List.ext_getElem (by rw[rl,H.len]) fun i w z=> ?_
 have N:i<26:=by omega
 have S:R.getD i 0=R[i]:=by simp[t_,w]
 have T:I.getD i 0=I[i]:=by simp[t_,z]
 refine c5K (J _ (P_ _)) (H.lt _ (P_ _)) fun k D=> ?_
 have g:=t i N k;rw[S,show 26-26+i=i by omega]at g;rw[g,←T];constructor
 ·rintro⟨_,v⟩;refine c6X (fx:=(a2I a a4D).2) (fun x m f=> ?_) (fun x f=> ?_) F v
  ·have Y:(a2I a a4D).2.getD x false=true:=by rw[(d x).2.1,f];rfl
   rw[o3 x Y,(d x).1,f]
  ·by_cases b:x<26
   ·exact u x f b
   ·rw[t_,a_Y (by rw[(d x).2.2];omega)];rfl
 ·intro c;exact⟨D,o2 i k N c⟩
theorem a24{t:List UInt8}(d:t.length≤400)(a:(a0n t).1.bad=false):a31 t:=by
 obtain⟨_,B,e,b,c⟩:=(a6k t).2 a;have h:=a4F t;have g:=a5j e;have f:=(a7v _ _ _ b).2;exact⟨b6R d _ _ _ b,by omega,b4q d 9 _ _ _ (by omega) c,b6c c (a_ _) (by omega)⟩
theorem a7u(t:List UInt8):a8R t=some (a0s t):=by
 unfold a8R a0s;by_cases d:400<t.length
 ·rw[n_ d,n_ d]
 rw[f_ d,f_ d];have q:t.length≤400:=by omega
 have n:=a4F t;cases a:(a0n t).1.bad with
 |true=>
  have:=(a6k t).1 a;rw[this,n_ (by omega)];rfl
 |false=>
  obtain⟨o,B,c,i,e⟩:=(a6k t).2 a;have b:=a24 q a;have m:=a5j c;have h:=b8v m _ [] 0 ((a0a t).length+1) rfl i (by omega);have f:a7m (a0a t) (atL t 0)=some (match a1N [] (a0t t).2 with|some p=>(p:Int)|none=> -1):=by
   unfold a7m;rw[c];exact h
  rw[o,f_ (by decide),f];simp only[D_,a_g];cases g:a1N [] (a0t t).2 with
  |some p=>
   simp only;rw[n_ (by omega)]
  |none=>
   simp only;rw[f_ (by decide),c];simp only;rw[b4P (by omega) 9 (a_ _) _ B _ _ e (a_ _) (by omega)];simp only
   split
   ·rfl
   ·obtain⟨k,l⟩:=b5x (by omega) c i e b.heads b.tree g;rw[k,l];simp only;rw[b2O (a5m b.heads b.tree) 9 _ B _ 0 _ e (a_ _) (by omega)];have j:a2y (a13 (a0t t).2 (a0n t).2) 0=0:=by unfold a2y;exact a9y _ _ _
    rw[j];simp only;cases a28 (a13 (a0t t).2 (a0n t).2) 9 0 (a0n t).2 with
    |some p=>simp only;rw[n_ (by omega)]
    |none=>simp only;rw[f_ (by decide)]
end Go.Proofs.YtdgmoiflahoihaaGreatDoor
