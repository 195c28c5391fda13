import Derived.Test.YtdgmoiflahoihaaGreatDoorVPw

set_option linter.unusedSimpArgs false
set_option linter.unusedVariables false
set_option maxRecDepth 100000
set_option maxHeartbeats 8000000
namespace Go.Proofs.YtdgmoiflahoihaaGreatDoor
def a1i(n:Nat):List UInt8:=if h:n<10 then [UInt8.ofNat (48+n)]else a1i (n/10)++ [UInt8.ofNat (48+n%10)]
decreasing_by omega
theorem a2s{n:Nat}(h:n<10):a1i n= [UInt8.ofNat (48+n)]:=by rw[a1i,dif_pos h]
theorem c1z{n d:Nat}(b:1≤n)(a:d<10):a1i (10*n+d)=a1i n++ [UInt8.ofNat (48+d)]:=by
 rw[a1i,dif_neg (by omega),show(10*n+d)/10=n by omega,show(10*n+d)%10=d by omega]
def a0T(x:Int):List UInt8:=if x<0 then 45::a1i x.natAbs else a1i x.natAbs
def a0J(v:Vl):List UInt8:=if v.fault≠0 then 33::a0T v.fault else a0T v.num
structure Ln where
 place:Int
 val:Vl
structure a9C(l:Ln):Prop where
 lo:0≤l.place
 hi:l.place≤400
 val:a0S l.val
def a2K(l:Ln):List UInt8:=a0T l.place++58::a0J l.val
def a3Y:List Ln→List UInt8
 | []=> []
 |l::r=>a2K l++10::a3Y r
def a3f(c:UInt8):Bool:=decide (48≤c)&&decide (c≤57)
def a7Q:Nat→List UInt8→Nat
 |v,[]=>v
 |v,c::r=>a7Q (10*v+(c.toNat-48)) r
theorem b2C:∀(v:Nat) (a b:List UInt8),a7Q v (a++b)=a7Q (a7Q v a) b
 |v,[],b=>rfl
 |v,c::r,b=>b2C _ r b
theorem a9Z{d:Nat}(h:d<10):a3f (UInt8.ofNat (48+d))=true∧(UInt8.ofNat (48+d)).toNat-48=d∧(UInt8.ofNat (48+d)).toNat=48+d:=by
 have:∀d,d<10→a3f (UInt8.ofNat (48+d))=true∧(UInt8.ofNat (48+d)).toNat-48=d∧(UInt8.ofNat (48+d)).toNat=48+d:=by decide
 exact this d h
theorem a9i(n:Nat):1≤n→∃(d:Nat) (a:List UInt8),1≤d∧d<10∧a1i n=UInt8.ofNat (48+d)::a∧(∀c∈a,a3f c=true)∧a7Q d a=n:=by
 induction n using Nat.strongRecOn with
 |_ n ih=>
  intro o;by_cases h:n<10
  ·exact⟨n,[],o,h,a2s h,by simp,rfl⟩
  ·obtain⟨d,a,i,j,k,l,m⟩:=ih (n/10) (by omega) (by omega);have e:a1i n=a1i (n/10)++ [UInt8.ofNat (48+n%10)]:=by rw[a1i,dif_neg h]
   obtain⟨f,g,_⟩:=a9Z (d:=n%10) (by omega);refine⟨d,a++ [UInt8.ofNat (48+n%10)],i,j,by rw[e,k];rfl,?_,?_⟩
   ·intro c b;rcases G_.mp b with b|b
    ·exact l c b
    ·rw[a_A.mp b];exact f
   ·rw[b2C,m];show 10*(n/10)+_=n;rw[g];omega
theorem a8S:∀(k n:Nat),n<10^(k+1)→(a1i n).length≤k+1
 |0,n,h=>by rw[a2s (by simpa using h)];simp
 |k+1,n,h=>by
  by_cases a:n<10
  ·rw[a2s a];simp
  ·rw[a1i,dif_neg a];have:=a8S k (n/10) (by rw[b_l]at h;omega);simp;omega
theorem a5R(n:Nat):∀c∈a1i n,a3f c=true:=by
 intro c a;by_cases h:1≤n
 ·obtain⟨d,g,i,b,e,f,j⟩:=a9i n h;rw[e]at a;rcases X_.mp a with rfl|a
  ·exact(a9Z b).1
  ·exact f c a
 ·rw[a2s (by omega)]at a;rw[a_A.mp a];exact(a9Z (by omega)).1
structure Sc where
 rest:List UInt8
 bad:Bool
def Sc.sees(x:Sc)(lo hi:UInt8):Bool:=match x.rest with| []=>false|c::_=>decide (lo≤c)&&decide (c≤hi)
def Sc.take(x:Sc)(lo hi:UInt8):Nat×Sc:=match x.rest with| []=>(0,⟨[],true⟩)|c::r=>if decide (lo≤c)&&decide (c≤hi)then(c.toNat-lo.toNat,⟨r,x.bad⟩)else(0,⟨c::r,true⟩)
def a2h(B:Nat):List UInt8→Nat→Nat×List UInt8×Bool
 | [],v=>(v,[],false)
 |c::r,v=>if a3f c then(if B<10*v+(c.toNat-48)then(0,r,true)else a2h B r (10*v+(c.toNat-48)))else(v,c::r,false)
def Sc.minus(x:Sc)(B:Nat):Nat×Sc:=
 let p:=x.take 49 57
 let q:=a2h B p.2.rest (p.1+1)
 (q.1,⟨q.2.1,p.2.bad||q.2.2⟩)
def Sc.number(x:Sc)(B:Nat):Nat×Sc:=if x.sees 48 48 then(0,(x.take 48 48).2)else x.minus B
def Sc.value(x:Sc):Vl×Sc:=
 if x.sees 33 33 then
  let p:=(x.take 33 33).2.take 49 50
  (⟨0,1+(p.1:Int)⟩,p.2)
 else if x.sees 45 45 then
  let p:=(x.take 45 45).2.minus 9223372036854775808
  (⟨-(p.1:Int),0⟩,p.2)
 else
  let p:=x.number 9223372036854775807
  (⟨p.1,0⟩,p.2)
def Sc.line(x:Sc):Ln×Sc:=
 let p:=x.number 400
 let q:=(p.2.take 58 58).2.value
 (⟨p.1,q.1⟩,(q.2.take 10 10).2)
def a2B:Nat→Sc→List Ln×Sc
 |0,x=>([],x)
 |n+1,x=>if x.bad||x.rest.isEmpty then([],x)else((x.line.1::(a2B n x.line.2).1),(a2B n x.line.2).2)
def a4B(t:List UInt8):Option (List Ln):=if(a2B (t.length+1) ⟨t,false⟩).2.bad then none else some (a2B (t.length+1) ⟨t,false⟩).1
theorem b1S{x:Sc}{lo hi:UInt8}(h:(x.take lo hi).2.bad=false):x.bad=false∧∃c,x.rest=c::(x.take lo hi).2.rest∧lo≤c∧c≤hi∧(x.take lo hi).1=c.toNat-lo.toNat:=by
 unfold Sc.take at h⊢
 split at h
 ·simp at h
 ·rename_i c r e
  split at h
  ·rename_i k;rw[Z_,a_e,a_e]at k;refine⟨h,c,?_,k.1,k.2,?_⟩<;>simp[e,k.1,k.2]
  ·simp at h
theorem take_one{x:Sc}{c:UInt8}(h:(x.take c c).2.bad=false):x.bad=false∧x.rest=c::(x.take c c).2.rest:=by
 obtain⟨a,d,b,e,f,_⟩:=b1S h;have:d=c:=UInt8.le_antisymm f e;subst this;exact⟨a,b⟩
theorem b2N{c:UInt8}(h:a3f c=true):∃d,d<10∧c=UInt8.ofNat (48+d)∧c.toNat-48=d:=by
 unfold a3f at h;rw[Z_,a_e,a_e,H_,H_]at h;have a:(48:UInt8).toNat=48:=rfl;have b:(57:UInt8).toNat=57:=rfl;rw[a,b]at h;refine⟨c.toNat-48,by omega,?_,rfl⟩;rw[show 48+(c.toNat-48)=c.toNat by omega];simp
theorem b1e(B:Nat):∀(r:List UInt8) (v:Nat),1≤v→(a2h B r v).2.2=false→∃a,r=a++(a2h B r v).2.1∧a1i (a2h B r v).1=a1i v++a∧v≤(a2h B r v).1∧(v≤B→(a2h B r v).1≤B)
 | [],v,hv,h=>⟨[],rfl,by simp[a2h],a_ _,fun h=>h⟩
 |c::r,v,hv,h=>by
  unfold a2h at h⊢;by_cases b:a3f c=true
  ·rw[n_ b]at h⊢;by_cases e:B<10*v+(c.toNat-48)
   ·rw[n_ e]at h;cases h
   ·rw[f_ e]at h⊢;obtain⟨d,f,g,i⟩:=b2N b;obtain⟨a,j,k,m,l⟩:=b1e B r _ (by omega) h;refine⟨c::a,by rw[O_,←j],?_,by omega,fun _=>l (by omega)⟩;rw[k,i,c1z hv f,←g];simp
  ·rw[f_ b];exact⟨[],rfl,by simp,a_ _,fun h=>h⟩
theorem b2p{x:Sc}{B:Nat}(o:9≤B)(h:(x.minus B).2.bad=false):x.bad=false∧x.rest=a1i (x.minus B).1++(x.minus B).2.rest∧1≤(x.minus B).1∧(x.minus B).1≤B:=by
 unfold Sc.minus at h⊢;simp only[Bool.or_eq_false_iff]at h⊢;obtain⟨k,c,l,d,e,a⟩:=b1S h.1;rw[H_]at d e;have f:(49:UInt8).toNat=49:=rfl;have g:(57:UInt8).toNat=57:=rfl;rw[f]at d a;rw[g]at e;obtain⟨m,b,i,n,j⟩:=b1e B _ _ (by omega) h.2;refine⟨k,?_,by omega,j (by omega)⟩;rw[i,l,a2s (by omega),a,show 48+(c.toNat-49+1)=c.toNat by omega];simp only[UInt8.ofNat_toNat,List.singleton_append,O_,a_u,true_and];rw[a]at b;exact b
theorem b1B{x:Sc}{B:Nat}(e:9≤B)(h:(x.number B).2.bad=false):x.bad=false∧x.rest=a1i (x.number B).1++(x.number B).2.rest∧(x.number B).1≤B:=by
 unfold Sc.number at h⊢;by_cases c:x.sees 48 48=true
 ·rw[n_ c]at h⊢;obtain⟨a,b⟩:=take_one h;exact⟨a,by rw[b,a2s (by omega)];rfl,by omega⟩
 ·rw[f_ c]at h⊢;obtain⟨a,b,f,d⟩:=b2p e h;exact⟨a,b,d⟩
theorem a8Y(n:Nat):a0T (n:Int)=a1i n:=by
 unfold a0T;rw[f_ (by omega)];rfl
theorem b7k{n:Nat}(h:1≤n):a0T (-(n:Int))=45::a1i n:=by
 unfold a0T;rw[n_ (by omega)];simp
theorem b9n{x:Sc}(h:x.value.2.bad=false):x.bad=false∧x.rest=a0J x.value.1++x.value.2.rest∧a0S x.value.1:=by
 unfold Sc.value at h⊢;by_cases a:x.sees 33 33=true
 ·rw[n_ a]at h⊢;simp only at h⊢;obtain⟨d,c,e,f,j,k⟩:=b1S h;obtain⟨g,i⟩:=take_one d;rw[H_]at f j;have l:(49:UInt8).toNat=49:=rfl;have m:(50:UInt8).toNat=50:=rfl;rw[l]at f k;rw[m]at j;have n:a0J ⟨0,1+((((x.take 33 33).2.take 49 50).1:Nat):Int)⟩= [33,c]:=by
   rw[k];unfold a0J;rw[n_ (by simp only;omega)];simp only;rw[show(1:Int)+((c.toNat-49:Nat):Int)=((c.toNat-48:Nat):Int)by omega,a8Y,a2s (by omega),show 48+(c.toNat-48)=c.toNat by omega];simp
  refine⟨g,?_,⟨?_,?_,?_⟩⟩
  ·rw[n,i,e];rfl
  ·simp only;omega
  ·simp only;rw[k];omega
  ·intro _;rfl
 ·rw[f_ a]at h⊢;by_cases b:x.sees 45 45=true
  ·rw[n_ b]at h⊢;simp only at h⊢;obtain⟨d,e,f,j⟩:=b2p (by decide) h;obtain⟨g,i⟩:=take_one d;refine⟨g,?_,⟨?_,?_,?_⟩⟩
   ·unfold a0J;rw[f_ (by simp)];simp only;rw[b7k f,i,e];rfl
   ·simp only;omega
   ·simp only;omega
   ·intro h;exact absurd rfl h
  ·rw[f_ b]at h⊢;simp only at h⊢;obtain⟨d,e,f⟩:=b1B (by decide) h;refine⟨d,?_,⟨?_,?_,?_⟩⟩
   ·unfold a0J;rw[f_ (by simp)];simp only;rw[a8Y];exact e
   ·simp only;omega
   ·simp only;omega
   ·intro h;exact absurd rfl h
theorem b3F{x:Sc}(h:x.line.2.bad=false):x.bad=false∧x.rest=a2K x.line.1++10::x.line.2.rest∧a9C x.line.1:=by
 unfold Sc.line at h⊢;simp only at h⊢;obtain⟨a,b⟩:=take_one h;obtain⟨c,d,e⟩:=b9n a;obtain⟨f,g⟩:=take_one c;obtain⟨i,j,k⟩:=b1B (by decide) f;refine⟨i,?_,⟨by simp only;omega,by simp only;omega,e⟩⟩;unfold a2K;simp only;rw[a8Y,j,g,d,b];simp
theorem b2u:∀(n:Nat) (x:Sc),x.rest.length<n→(a2B n x).2.bad=false→x.bad=false∧x.rest=a3Y (a2B n x).1∧∀l∈(a2B n x).1,a9C l
 |0,x,hn,h=>by omega
 |n+1,x,hn,h=>by
  unfold a2B at h⊢;by_cases c:(x.bad||x.rest.isEmpty)=true
  ·rw[n_ c]at h⊢;simp only at h⊢;rw[h,Bool.false_or,a_9]at c;exact⟨h,by rw[c];rfl,by simp⟩
  ·rw[f_ c]at h⊢;simp only at h⊢;by_cases a:x.line.2.bad=true
   ·exfalso;cases n with
    |zero=>unfold a2B at h;rw[a]at h;cases h
    |succ n=>
     unfold a2B at h;rw[a]at h;simp only[Bool.true_or,a_b]at h;rw[a]at h;cases h
   ·rw[Bool.not_eq_true]at a;obtain⟨e,d,f⟩:=b3F a;have b:=a_w List.length d;simp only[x_,B_]at b;obtain⟨j,g,i⟩:=b2u n x.line.2 (by omega) h;refine⟨e,?_,?_⟩
    ·rw[d];show _=a2K _++10::a3Y _;rw[g]
    ·intro l b;rcases X_.mp b with rfl|b
     ·exact f
     ·exact i l b
theorem b0V(x:Sc)(c:UInt8)(r:List UInt8)(lo hi:UInt8)(h:x.rest=c::r)(a:lo≤c)(b:c≤hi):x.take lo hi=(c.toNat-lo.toNat,⟨r,x.bad⟩):=by
 unfold Sc.take;rw[h];simp[a,b]
theorem b19(B:Nat)(c:UInt8)(r:List UInt8)(f:a3f c=false):∀(b:List UInt8) (v:Nat),(∀c∈b,a3f c=true)→a7Q v b≤B→a2h B (b++c::r) v=(a7Q v b,c::r,false)
 | [],v,hd,hB=>by
  rw[a_t,a2h,f_ (by rw[f];exact b_v)];rfl
 |e::b,v,hd,hB=>by
  have h:=hd e (by simp);have d:∀(b:List UInt8) (v:Nat),v≤a7Q v b:=by
   intro b;induction b with
   |nil=>intro v;exact a_ _
   |cons a r ih=>intro v;exact K_ (by omega) (ih _)
  have i:=d b (10*v+(e.toNat-48));have g:a7Q v (e::b)=a7Q (10*v+(e.toNat-48)) b:=rfl;rw[g]at hB;rw[O_,a2h,n_ h,f_ (by omega),g];exact b19 B c r f b _ (fun c f=>hd c (by simp[f])) hB
theorem b3K{B n:Nat}(c:UInt8)(r:List UInt8)(j:a3f c=false)(k:1≤n)(p:n≤B):Sc.minus ⟨a1i n++c::r,false⟩ B=(n,⟨c::r,false⟩):=by
 obtain⟨d,b,o,f,g,h,i⟩:=a9i n k;obtain⟨l,m,a⟩:=a9Z f;unfold Sc.minus;rw[b0V ⟨a1i n++c::r,false⟩ (UInt8.ofNat (48+d)) (b++c::r) 49 57 (by rw[g];rfl) (by rw[H_,a];show 49≤_;omega) (by rw[H_,a];show _≤57;omega)];simp only[a];have e:(49:UInt8).toNat=49:=rfl;rw[e,show 48+d-49+1=d by omega,b19 B c r j b d h (by omega),i];rfl
theorem b2q{B n:Nat}(c:UInt8)(r:List UInt8)(h:a3f c=false)(g:n≤B):Sc.number ⟨a1i n++c::r,false⟩ B=(n,⟨c::r,false⟩):=by
 by_cases a:1≤n
 ·have i:Sc.sees ⟨a1i n++c::r,false⟩ 48 48=false:=by
   obtain⟨d,j,m,e,f,o,p⟩:=a9i n a;obtain⟨k,l,b⟩:=a9Z e;unfold Sc.sees;rw[f];simp only[O_,b_h,N_,H_,b];right;show¬(48+d≤48);omega
  unfold Sc.number;rw[i];exact b3K c r h a g
 ·obtain rfl:n=0:=by omega
  rw[a2s (by omega)];rfl
theorem c1h(v:Vl)(r:List UInt8)(y:a0S v):Sc.value ⟨a0J v++10::r,false⟩=(v,⟨10::r,false⟩):=by
 obtain⟨b,a⟩:=v;obtain⟨s,t,h⟩:=y;simp only at s t h;by_cases k:a=0
 ·subst k;have z:a0J ⟨b,0⟩=a0T b:=by unfold a0J;simp
  rw[z];by_cases B:b<0
  ·obtain⟨n,f,rfl⟩:∃n:Nat,1≤n∧b= -(n:Int):=⟨b.natAbs,by omega,by omega⟩
   rw[b7k f];unfold Sc.value;rw[f_ (by simp[Sc.sees]),n_ (by rfl)];rw[b0V ⟨45::a1i n++10::r,false⟩ 45 (a1i n++10::r) 45 45 rfl (by decide) (by decide)];simp only;have d:n≤9223372036854775808:=by omega
   generalize u:(9223372036854775808:Nat)=A at d⊢;rw[b3K 10 r (by decide) f d]
  ·obtain⟨n,rfl⟩:∃n:Nat,b=(n:Int):=⟨b.toNat,by omega⟩
   rw[a8Y];have o:∀c:UInt8,a3f c=false→Sc.sees ⟨a1i n++10::r,false⟩ c c=false:=by
    intro c i;have j:=a5R n;have g:a1i n≠ []:=by
     rw[a1i];split<;>simp
    unfold Sc.sees;cases m:a1i n with
    |nil=>exact absurd m g
    |cons e l=>
     rw[m]at j;have w:=j e (by simp);simp only[O_];rw[b_h,N_,N_];by_cases p:c≤e
     ·by_cases q:e≤c
      ·have:e=c:=UInt8.le_antisymm q p;subst this;rw[w]at i;cases i
      ·exact .inr q
     ·exact .inl p
   unfold Sc.value;rw[f_ (by rw[o 33 (by decide)];simp),f_ (by rw[o 45 (by decide)];simp),b2q 10 r (by decide) (by omega)]
 ·have x:=h k;subst x;have:a=1∨a=2:=by omega
  rcases this with rfl|rfl
  ·have:a0J ⟨0,1⟩= [33,49]:=by unfold a0J;simp[a0T,a2s]
   rw[this];rfl
  ·have:a0J ⟨0,2⟩= [33,50]:=by unfold a0J;simp[a0T,a2s]
   rw[this];rfl
theorem c2c(l:Ln)(r:List UInt8)(d:a9C l):Sc.line ⟨a2K l++10::r,false⟩=(l,⟨r,false⟩):=by
 obtain⟨p,v⟩:=l;obtain⟨b,c,a⟩:=d;simp only at b c a;obtain⟨n,rfl⟩:∃n:Nat,p=(n:Int):=⟨p.toNat,by omega⟩
 unfold Sc.line a2K;simp only;rw[a8Y,a_y,O_,b2q 58 _ (by decide) (by omega)];simp only;rw[b0V ⟨58::(a0J v++10::r),false⟩ 58 _ 58 58 rfl (by decide) (by decide)];simp only;rw[c1h v r a];simp only;rw[b0V ⟨10::r,false⟩ 10 _ 10 10 rfl (by decide) (by decide)]
theorem b3Y:∀(a:List Ln) (n:Nat),(a3Y a).length<n→(∀l∈a,a9C l)→a2B n ⟨a3Y a,false⟩=(a,⟨[],false⟩)
 | [],n,hn,h=>by
  cases n with
  |zero=>omega
  |succ n=>rfl
 |l::a,n,hn,h=>by
  cases n with
  |zero=>omega
  |succ n=>
   have e:a3Y (l::a)=a2K l++10::a3Y a:=rfl;rw[e]at hn⊢;simp only[x_,B_]at hn;unfold a2B;rw[f_ (by simp),c2c l _ (h l (by simp))];simp only;rw[b3Y a n (by omega) (fun x b=>h x (by simp[b]))]
theorem b0H{t:List UInt8}{b:List Ln} :a4B t=some b↔t=a3Y b∧∀l∈b,a9C l:=by
 unfold a4B;constructor
 ·intro h;by_cases a:(a2B (t.length+1) ⟨t,false⟩).2.bad=true
  ·rw[n_ a]at h;cases h
  ·rw[f_ a,U_]at h;subst h;rw[Bool.not_eq_true]at a;exact(b2u _ _ (by simp) a).2
 ·rintro⟨rfl,h⟩;rw[b3Y b _ (by omega) h];rfl
open Go.RowKit
def a6E:Nat→List UInt8→Option Nat
 |n,[]=>some n
 |n,c::r=>if a3f c then a6E (10*n+(c.toNat-48)) r else none
def b4F(n:Nat)(a:Bool):Int×Bool:=(wrap64 (if a then-(n:Int)else n),if a then decide ((n:Int)≤9223372036854775808)else decide ((n:Int)<9223372036854775808))
def b6V(f:Option Nat)(a:Bool):Int×Bool:=match f with|none=>(0,false)|some n=>b4F n a
def a7w(b:List UInt8)(a:Bool):Int×Bool:=if b.length=0∨19<b.length then(0,false)else b6V (a6E 0 b) a
def a3n:List UInt8→Int×Bool
 | []=>(0,false)
 |c::r=>if c=45 then a7w r true else a7w (c::r) false
def a6S(v:List UInt8):Vl×Bool:=
 if v.length=2∧v.getD 0 0=33 then(⟨0,((v.getD 1 0).toNat:Int)-48⟩,decide ((v.getD 1 0).toNat=49)||decide ((v.getD 1 0).toNat=50))
 else(⟨(a3n v).1,0⟩,(a3n v).2)
def a3G:List UInt8→List UInt8×Option (List UInt8)
 | []=>([],none)
 |c::r=>if c=58 then([],some r)else(c::(a3G r).1,(a3G r).2)
def a3P(s:List UInt8):Ln×Bool:=
 match a3G s with
 |(_,none)=>(⟨0,⟨0,0⟩⟩,false)
 |(a,some v)=>(⟨(a3n a).1,(a6S v).1⟩,(a3n a).2&&(a6S v).2&&decide (0≤(a3n a).1)&&decide ((a3n a).1≤400)&&decide (a2K ⟨(a3n a).1,(a6S v).1⟩=s))
def a4d:List UInt8→List UInt8→Option (List Ln)
 |cur,[]=>if cur.isEmpty then some []else none
 |cur,c::r=>if c=10 then(if(a3P cur).2 then(a4d [] r).map ((a3P cur).1:: ·)else none)else a4d (cur++ [c]) r
theorem b2M(s:List UInt8): -9223372036854775808≤(a3n s).1∧(a3n s).1≤9223372036854775807:=by
 have a:∀b m,-9223372036854775808≤(a7w b m).1∧(a7w b m).1≤9223372036854775807:=by
  intro b m;unfold a7w
  split
  ·simp
  ·unfold b6V
   split
   ·simp
   ·unfold b4F;simp only;unfold wrap64;omega
 unfold a3n
 split
 ·simp
 ·split<;>exact a _ _
theorem c6z{v:List UInt8}(h:(a6S v).2=true):a0S (a6S v).1:=by
 unfold a6S at h⊢
 split
 ·rename_i k;rw[n_ k]at h;simp only[Bool.or_eq_true,a_e]at h;exact⟨by simp only;omega,by simp only;omega,fun _=>rfl⟩
 ·exact⟨b2M v,by simp,fun h=>absurd rfl h⟩
theorem b8S{s:List UInt8}(h:(a3P s).2=true):s=a2K (a3P s).1∧a9C (a3P s).1:=by
 unfold a3P at h⊢
 split at h
 ·cases h
 ·rename_i a v e;simp only[Z_,a_e]at h;obtain⟨⟨⟨⟨g,b⟩,c⟩,d⟩,f⟩:=h;exact⟨f.symm,⟨c,d,c6z b⟩⟩
theorem b0I:∀(r a:List UInt8) (b:List Ln),a4d a r=some b→a++r=a3Y b∧∀l∈b,a9C l
 | [],a,b,h=>by
  unfold a4d at h
  split at h
  ·rename_i e;rw[a_9]at e;cases h;exact⟨by rw[e];rfl,by simp⟩
  ·cases h
 |c::r,a,b,h=>by
  unfold a4d at h
  split at h
  ·rename_i e;subst e
   split at h
   ·rename_i m;cases i:a4d [] r with
    |none=>rw[i]at h;cases h
    |some l2=>
     rw[i]at h;simp only[b_t,U_]at h;subst h;obtain⟨d,f⟩:=b0I r [] l2 i;obtain⟨j,k⟩:=b8S m;refine⟨?_,?_⟩
     ·show _=a2K _++10::a3Y _;rw[←d,←j];rfl
     ·intro l g;rcases X_.mp g with rfl|g
      ·exact k
      ·exact f l g
   ·cases h
  ·obtain⟨d,f⟩:=b0I r _ b h;exact⟨by rw[←d];simp,f⟩
theorem b5h:∀(a:List UInt8) (v:Nat),(∀c∈a,a3f c=true)→a6E v a=some (a7Q v a)
 | [],v,h=>rfl
 |c::r,v,h=>by
  unfold a6E;rw[n_ (h c (by simp)),b5h r _ (fun x b=>h x (by simp[b]))];rfl
theorem c5g(n:Nat):a7Q 0 (a1i n)=n:=by
 by_cases f:1≤n
 ·obtain⟨d,a,g,b,c,h,e⟩:=a9i n f;rw[c];show a7Q (10*0+_) a=n;rw[(a9Z b).2.1,Nat.mul_zero,a_m];exact e
 ·obtain rfl:n=0:=by omega
  rw[a2s (by omega)];rfl
theorem b4r(n:Nat):a1i n≠ []:=by rw[a1i];split<;>simp
theorem b6W{n:Nat}(m:Bool)(h:n≤9223372036854775808):a7w (a1i n) m=b4F n m:=by
 have a:(a1i n).length≠0:=fun e=>b4r n (a_6.mp e)
 have b:=a8S 18 n (b_w h (by decide));unfold a7w;rw[f_ (by omega),b5h _ _ (a5R n),c5g];rfl
theorem b6X{x:Int}(h: -9223372036854775808≤x∧x≤9223372036854775807):a3n (a0T x)=(x,true):=by
 unfold a0T
 split
 ·rename_i i;show a7w (a1i x.natAbs) true=_;rw[b6W _ (by omega)];unfold b4F wrap64;simp only[a_b];refine Prod.ext ?_ ?_
  ·simp only;omega
  ·simp only[a_e];omega
 ·rename_i i;have a:=b4r x.natAbs;have b:=a5R x.natAbs;have f:=b6W (n:=x.natAbs) false (by omega);cases d:a1i x.natAbs with
  |nil=>exact absurd d a
  |cons c r=>
   rw[d]at b f;have g:¬c=45:=by
    intro e;have:=b c (by simp);subst e;cases this
   unfold a3n;simp only;rw[f_ g,f];unfold b4F wrap64;simp only[D_,a_g];refine Prod.ext ?_ ?_
   ·simp only;omega
   ·simp only[a_e];omega
theorem c3t{v:Vl}(h:a0S v):a6S (a0J v)=(v,true):=by
 obtain⟨b,a⟩:=v;obtain⟨f,d,g⟩:=h;simp only at f d g;by_cases j:a=0
 ·subst j;have o:a0J ⟨b,0⟩=a0T b:=by unfold a0J;simp
  rw[o];have m:¬((a0T b).length=2∧(a0T b).getD 0 0=33):=by
   rintro⟨_,e⟩;unfold a0T at e
   split at e
   ·cases e
   ·have i:=a5R b.natAbs;cases k:a1i b.natAbs with
    |nil=>exact absurd k (b4r _)
    |cons c r=>
     rw[k]at i e;have d:=i c (by simp);have l:c=33:=e;subst l;cases d
  unfold a6S;rw[f_ m,b6X f]
 ·have n:=g j;subst n;have:a=1∨a=2:=by omega
  rcases this with rfl|rfl
  ·have:a0J ⟨0,1⟩= [33,49]:=by unfold a0J;simp[a0T,a2s]
   rw[this];rfl
  ·have:a0J ⟨0,2⟩= [33,50]:=by unfold a0J;simp[a0T,a2s]
   rw[this];rfl
theorem b4f:∀(a v:List UInt8),(∀c∈a,c≠58)→a3G (a++58::v)=(a,some v)
 | [],v,h=>rfl
 |c::a,v,h=>by
  rw[O_,a3G,f_ (h c (by simp)),b4f a v (fun x b=>h x (by simp[b]))]
theorem b3k{c e:UInt8}(h:a3f c=true)(a:a3f e=false):c≠e:=by
 intro k;subst k;rw[a]at h;cases h
theorem c0I{l:Ln}(h:a9C l):a3P (a2K l)=(l,true):=by
 obtain⟨p,v⟩:=l;obtain⟨b,d,e⟩:=h;simp only at b d e;have a:a3G (a2K ⟨p,v⟩)=(a0T p,some (a0J v)):=by
  refine b4f _ _ ?_;intro c a;simp only at a;unfold a0T at a;rw[f_ (by omega)]at a;exact b3k (a5R _ c a) (by decide)
 unfold a3P;rw[a];simp only;rw[b6X (by omega),c3t e];simp[b,d]
theorem c1k(v:Vl):∀c∈a0J v,c≠10:=by
 have b:∀x:Int,∀c∈a0T x,c≠10:=by
  intro x c a;unfold a0T at a
  split at a
  ·rcases X_.mp a with rfl|a
   ·decide
   ·exact b3k (a5R _ c a) (by decide)
  ·exact b3k (a5R _ c a) (by decide)
 intro c a;unfold a0J at a
 split at a
 ·rcases X_.mp a with rfl|a
  ·decide
  ·exact b _ c a
 ·exact b _ c a
theorem c2d{l:Ln}(h:a9C l):∀c∈a2K l,c≠10:=by
 intro c a;unfold a2K at a;rcases G_.mp a with a|a
 ·unfold a0T at a;have:=h.lo;rw[f_ (by omega)]at a;exact b3k (a5R _ c a) (by decide)
 ·rcases X_.mp a with rfl|a
  ·decide
  ·exact c1k _ c a
theorem b6T{x:UInt8} :∀(a c b d:List UInt8),(∀e∈a,e≠x)→(∀e∈c,e≠x)→a++x::b=c++x::d→a=c∧b=d
 | [],[],b,d,_,_,h=>by simp at h;exact⟨rfl,h⟩
 | [],e::c,b,d,_,hc,h=>by
  simp only[a_t,O_,a_u]at h;exact absurd h.1.symm (hc e (by simp))
 |e::a,[],b,d,ha,_,h=>by
  simp only[a_t,O_,a_u]at h;exact absurd h.1 (ha e (by simp))
 |e::a,f::c,b,d,ha,hc,h=>by
  simp only[O_,a_u]at h;obtain⟨i,j⟩:=b6T a c b d (fun q g=>ha q (by simp[g])) (fun q g=>hc q (by simp[g])) h.2;exact⟨by rw[h.1,i],j⟩
theorem b1N:∀(r a:List UInt8) (b:List Ln),(∀c∈a,c≠10)→a++r=a3Y b→(∀l∈b,a9C l)→a4d a r=some b
 | [],a,b,hc,h,hl=>by
  cases b with
  |nil=>
   have:a= []:=by simpa[a3Y]using h
   subst this;rfl
  |cons l b=>
   exfalso;rw[a_i]at h;exact hc 10 (by rw[h];simp[a3Y]) rfl
 |c::r,a,b,hc,h,hl=>by
  unfold a4d;by_cases d:c=10
  ·subst d;rw[n_ rfl];cases b with
   |nil=>exfalso;simp[a3Y]at h
   |cons l b=>
    obtain⟨g,i⟩:=b6T a (a2K l) r (a3Y b) hc (c2d (hl l (by simp))) h;subst g;rw[c0I (hl l (by simp)),n_ rfl,b1N r [] b (by simp) (by simpa using i) (fun x j=>hl x (by simp[j]))];rfl
  ·rw[f_ d];refine b1N r _ b ?_ (by rw[←h];simp) hl;intro e f;rcases G_.mp f with f|f
   ·exact hc e f
   ·rw[a_A.mp f];exact d
theorem c4S(t:List UInt8):a4d [] t=a4B t:=by
 cases h:a4d [] t with
 |some ls=>exact((b0H).mpr (b0I t [] ls h)).symm
 |none=>
  cases k:a4B t with
  |none=>rfl
  |some ls=>
   obtain⟨a,b⟩:=b0H.mp k;rw[b1N t [] ls (by simp) a b]at h;cases h
theorem c1c{S:ByteArray}{l:List UInt8}(h:S.data.toList=l):S=⟨l.toArray⟩:=by
 subst h;simp
def txt(l:List UInt8):ByteArray:=⟨l.toArray⟩
theorem a2x(a b:List UInt8):txt a++txt b=txt (a++b):=by
 refine(c1c (l:=a++b) ?_);rw[ByteArray.data_append,Array.toList_append];rfl
end Go.Proofs.YtdgmoiflahoihaaGreatDoor
