import Derived.Test.YtdgmoiflahoihaaGreatDoorFNextw
import Derived.Laws.BitsAllLaws
import Derived.Deep.QuietTactic
import Derived.BigQuiet

set_option linter.unusedSimpArgs false
set_option linter.unusedVariables false
set_option maxRecDepth 100000
set_option maxHeartbeats 8000000
namespace Go.Proofs.YtdgmoiflahoihaaGreatDoor
open Go.Proofs.Tryz
open Go.RowKit
structure a0A(w:World)(b:Nat)(C:List UInt8)(A:List Int):Prop where
 small:C.length≤400
 same:A.length=C.length
 here:∃(ac aa:Option Addr) (bc ba capc capa:Nat),w.cell? ⟨b,0,none⟩=some (.slice ac C.length capc)∧w.cell? ⟨b,1,none⟩=some (.slice aa C.length capa)∧
  (∀i,∀h:i<C.length,ac=some ⟨bc,0,none⟩∧w.cell? ⟨bc,i,none⟩=some (.int .u8 C[i].toNat))∧
  (∀i,∀h:i<A.length,aa=some ⟨ba,0,none⟩∧w.cell? ⟨ba,i,none⟩=some (.int .i64 A[i]))
theorem a26(b i:Nat)(C:List UInt8)(A:List Int)(w:World)(u:a0A w b C A)(hi:i≤1000):
  Calls prog 111 #[.pointer (some (a__ b 0)),i_ i] w fun e w'=>e= .returned (i_ (a0q C i))∧w'=w:=by
 obtain⟨L,J,F,E,H,G,r,q,c,I,v,M⟩:=u;go_enter func111,ntmps111
 go_wp2
 go_loop [5,6] (fun n k=>∃(j:Nat) (l:Int),k=i_ j∧n=i_ l∧i≤j∧(i≤C.length→j≤C.length)∧ -(j-i:Int)≤l∧l≤j-i∧(C.length<i→j=i)∧Hid (a2N (C.drop j) l j=a2N (C.drop i) 0 i)) (fun _ k=>C.length-(intOf k).toNat)
 case atStart=>exact⟨i,0,rfl,rfl,by omega,by omega,by omega,by omega,by omega,rfl⟩
 case round=>
  obtain⟨k,n,rfl,rfl,h,o,z,B,y,g⟩:=hrel;by_cases a:k<C.length
  ·obtain⟨rfl,x⟩:=v k a;rcases c32 C[k]with⟨m,f⟩|⟨m,p,f⟩|⟨m,p,s,f⟩|⟨m,p,s,D,f⟩|⟨m,p,s,D,f⟩
   ·
    have Hd:=h__ f;clear f;cases d:(n+1==0)
    ·have c:¬n+(1)=0:=by have:=a_M d;omega
     go_wp2
     exact⟨⟨k+1,_,by go_num,rfl,by omega,by omega,by omega,by omega,by omega,a8a a g.out Hd.out c⟩,by simp[intOf];omega⟩
    ·have c:n+(1)=0:=by have:=a_S d;omega
     go_wp2
     go_ret;exact⟨a0R (a8b a h g.out Hd.out c),rfl⟩
   ·
    have Hd:=h__ f;clear f;cases d:(n+1==0)
    ·have c:¬n+(1)=0:=by have:=a_M d;omega
     go_wp2
     exact⟨⟨k+1,_,by go_num,rfl,by omega,by omega,by omega,by omega,by omega,a8a a g.out Hd.out c⟩,by simp[intOf];omega⟩
    ·have c:n+(1)=0:=by have:=a_S d;omega
     go_wp2
     go_ret;exact⟨a0R (a8b a h g.out Hd.out c),rfl⟩
   ·
    have Hd:=h__ f;clear f;cases d:(n-1==0)
    ·have c:¬n+(-1)=0:=by have:=a_M d;omega
     go_wp2
     exact⟨⟨k+1,_,by go_num,rfl,by omega,by omega,by omega,by omega,by omega,a8a a g.out Hd.out c⟩,by simp[intOf];omega⟩
    ·have c:n+(-1)=0:=by have:=a_S d;omega
     go_wp2
     go_ret;exact⟨a0R (a8b a h g.out Hd.out c),rfl⟩
   ·
    have Hd:=h__ f;clear f;cases d:(n-1==0)
    ·have c:¬n+(-1)=0:=by have:=a_M d;omega
     go_wp2
     exact⟨⟨k+1,_,by go_num,rfl,by omega,by omega,by omega,by omega,by omega,a8a a g.out Hd.out c⟩,by simp[intOf];omega⟩
    ·have c:n+(-1)=0:=by have:=a_S d;omega
     go_wp2
     go_ret;exact⟨a0R (a8b a h g.out Hd.out c),rfl⟩
   ·
    have Hd:=h__ f;clear f;cases d:(n==0)
    ·have c:¬n+(0)=0:=by have:=a_M d;omega
     go_wp2
     exact⟨⟨k+1,_,by go_num,rfl,by omega,by omega,by omega,by omega,by omega,(by have t:=a8a a g.out Hd.out c;rw[Int.add_zero]at t;exact t)⟩,by simp[intOf];omega⟩
    ·have c:n+(0)=0:=by have:=a_S d;omega
     go_wp2
     go_ret;exact⟨a0R (a8b a h g.out Hd.out c),rfl⟩
  ·go_wp2
   go_ret;exact⟨a0R (c40 (by omega) o g.out),rfl⟩
theorem a2O{a b:UInt8}(h:a=b):((a.toNat:Int)==(b.toNat:Int))=true:=by
 subst h;simp
theorem a0Z(b i k:Nat)(C:List UInt8)(A:List Int)(w:World)(H:a0A w b C A)(h:a0W C i=some k):
  Calls prog 77 #[.pointer (some (a__ b 0)),i_ i] w fun e w'=>e= .returned (i_ k)∧w'=w:=by
 have I:=a2A h;rw[a5f I]at h;have d:=H;obtain⟨hC,hA,U,T,X,V,G,F,Y,Z,z,ha⟩:=H;obtain⟨rfl,N⟩:=z i I;have L:=a3t C;by_cases a:C[i]=40
 ·have u:((C[i].toNat:Int)==40)=true:=a2O (b:=40) a;rw[n_ a]at h;have l2:=L (a0q C i);have l1:=L i;by_cases J:a0q C (a0q C i)<C.length
  ·obtain⟨_,P⟩:=z _ J;rw[s_ J]at h;by_cases c:C[a0q C (a0q C i)]=123
   ·have t:((C[a0q C (a0q C i)].toNat:Int)==123)=true:=a2O (b:=123) c;have p:k=a0q C (a0q C (a0q C i)):=by simpa[c]using h.symm
    subst p;clear h a c;generalize f:a0q C i=o at*;generalize g:a0q C o=B at*;have n:=h__ d;have r:=h__ f;have s:=h__ g;clear d f g;go_enter func77,ntmps77;go_wp2_with fail;refine(a26 b i C A _ n.out (by omega)).mono ?_;rintro e w' ⟨rfl,rfl⟩;rw[r.out];go_wp2_with fail;refine(a26 b o C A _ n.out (by omega)).mono ?_;rintro e w' ⟨rfl,rfl⟩;rw[s.out];go_wp2_with fail;refine(a26 b B C A _ n.out (by omega)).mono ?_;rintro e w' ⟨rfl,rfl⟩;go_wp2_with fail;go_ret;exact⟨rfl,rfl⟩
   ·have t:((C[a0q C (a0q C i)].toNat:Int)==123)=false:=a1e (b:=123) c;have p:k=a0q C (a0q C i):=by simpa[c]using h.symm
    subst p;clear h a c;generalize f:a0q C i=o at*;generalize g:a0q C o=B at*;have n:=h__ d;have r:=h__ f;have s:=h__ g;clear d f g;go_enter func77,ntmps77;go_wp2_with fail;refine(a26 b i C A _ n.out (by omega)).mono ?_;rintro e w' ⟨rfl,rfl⟩;rw[r.out];go_wp2_with fail;refine(a26 b o C A _ n.out (by omega)).mono ?_;rintro e w' ⟨rfl,rfl⟩;rw[s.out];go_wp2_with fail;go_ret;exact⟨rfl,rfl⟩
  ·rw[a_Y (by omega)]at h;have p:k=a0q C (a0q C i):=by simpa using h.symm
   subst p;clear h a;generalize f:a0q C i=o at*;generalize g:a0q C o=B at*;have n:=h__ d;have r:=h__ f;have s:=h__ g;clear d f g;go_enter func77,ntmps77;go_wp2_with fail;refine(a26 b i C A _ n.out (by omega)).mono ?_;rintro e w' ⟨rfl,rfl⟩;rw[r.out];go_wp2_with fail;refine(a26 b o C A _ n.out (by omega)).mono ?_;rintro e w' ⟨rfl,rfl⟩;rw[s.out];go_wp2_with fail;go_ret;exact⟨rfl,rfl⟩
 by_cases l:C[i]=42
 ·have u:((C[i].toNat:Int)==40)=false:=a1e (b:=40) a;have D:((C[i].toNat:Int)==42)=true:=a2O (b:=42) l;rw[f_ a,n_ l]at h;have p:k=a0q C (i+2):=by simpa using h.symm
  subst p;clear h a l;have n:=h__ d;clear d;go_enter func77,ntmps77;go_wp2_with fail;rw[show((i:Int)+2)=((i+2:Nat):Int)by omega];refine(a26 b (i+2) C A _ n.out (by omega)).mono ?_;rintro e w' ⟨rfl,rfl⟩;go_wp2_with fail;go_ret;exact⟨rfl,rfl⟩
 ·have u:((C[i].toNat:Int)==40)=false:=a1e (b:=40) a;have D:((C[i].toNat:Int)==42)=false:=a1e (b:=42) l;rw[f_ a,f_ l]at h;have M:=h__ h;clear h a l d;go_enter func77,ntmps77
  go_wp2
  go_loop [6] (fun x=>∃j:Nat,x=i_ j∧i≤j∧j≤C.length∧Hid (a17 (C.drop j) j=some k)) (fun x=>C.length-(intOf x).toNat)
  case atStart=>exact⟨i,rfl,by omega,by omega,M⟩
  case round=>
   obtain⟨j,rfl,R,S,y⟩:=hrel;have q:=c6m y.out;obtain⟨_,O⟩:=z j q;by_cases m:C[j]=59
   ·have E:((C[j].toNat:Int) !=59)=false:=by have:=a2O (b:=59) m;simpa using this
    have v:Hid _:=c4Z y.out q m;clear m
    go_wp2
    go_ret;exact⟨a0R v.out,rfl⟩
   ·have E:((C[j].toNat:Int) !=59)=true:=by have:=a1e (b:=59) m;simpa using this
    have v:Hid _:=c22 y.out q m;clear m
    go_wp2
    exact⟨⟨j+1,by go_num,by omega,by omega,v⟩,by simp[intOf];omega⟩
theorem a4g(b k:Nat)(C:List UInt8)(A:List Int)(w:World)(y:a0A w b C A)(z:a2U C=some k):
  Calls prog 47 #[.pointer (some (a__ b 0))] w fun e w'=>e= .returned (i_ k)∧w'=w:=by
 have t:=h__ y;obtain⟨O,N,H,G,J,I,v,u,L,M,D,P⟩:=y;have B:=h__ z;clear z;go_enter func47,ntmps47
 go_wp2
 go_loop [3] (fun x=>∃(j f:Nat),x=i_ j∧j≤C.length∧Hid (a4s C f j=some k)) (fun x=>C.length+1-(intOf x).toNat)
 case atStart=>exact⟨0,C.length+1,rfl,by omega,B⟩
 case round=>
  obtain⟨j,f,rfl,F,n⟩:=hrel;by_cases d:j<C.length
  ·obtain⟨rfl,E⟩:=D j d;by_cases a:C[j]=63
   ·have s:((C[j].toNat:Int)==63)=true:=a2O (b:=63) a;obtain⟨m,p,g,l⟩:=b4U n.out d (.inl a);clear a;have o:=h__ g;have h:=h__ l;have q:=a07 g;have i:=a2z g;clear g l;go_wp2_with fail;refine(a0Z b j m C A _ t.out o.out).mono ?_;rintro e w' ⟨rfl,rfl⟩;go_wp2_with fail;exact⟨⟨m,p,rfl,i,h⟩,by simp[intOf];omega⟩
   have s:((C[j].toNat:Int)==63)=false:=a1e (b:=63) a;by_cases c:C[j]=33
   ·have r:((C[j].toNat:Int)==33)=true:=a2O (b:=33) c;obtain⟨m,p,g,l⟩:=b4U n.out d (.inr c);clear c a;have o:=h__ g;have h:=h__ l;have q:=a07 g;have i:=a2z g;clear g l;go_wp2_with fail;refine(a0Z b j m C A _ t.out o.out).mono ?_;rintro e w' ⟨rfl,rfl⟩;go_wp2_with fail;exact⟨⟨m,p,rfl,i,h⟩,by simp[intOf];omega⟩
   ·have r:((C[j].toNat:Int)==33)=false:=a1e (b:=33) c;have h:Hid _:=c3K n.out d a c;clear c a
    go_wp2
    go_ret;exact⟨a0R h.out,rfl⟩
  ·have h:Hid _:=c1p n.out (by omega)
   go_wp2
   go_ret;exact⟨a0R h.out,rfl⟩
theorem a2u(a b:Nat)(c:a<4294967296)(d:b<4294967296):bits .or .i64 (a:Int) (b:Int)=((a|||b:Nat):Int):=by
 have e:a|||b<2^32:=a_R (by omega) (by omega)
 show IntKind.i64.wrap ((BitVec.ofInt 64 (a:Int)|||BitVec.ofInt 64 (b:Int)).toNat:Int)=_;rw[BitVec.toNat_or,Go.ofInt_u64 a (by omega),Go.ofInt_u64 b (by omega)];exact b_j _ ⟨by omega,by omega⟩
theorem a9E(a b:Nat)(c:a<4294967296)(d:b<4294967296):bits .and .i64 (a:Int) (b:Int)=((a&&&b:Nat):Int):=by
 have e:a&&&b<2^32:=Nat.and_lt_two_pow _ (by omega);show IntKind.i64.wrap ((BitVec.ofInt 64 (a:Int)&&&BitVec.ofInt 64 (b:Int)).toNat:Int)=_;rw[BitVec.toNat_and,Go.ofInt_u64 a (by omega),Go.ofInt_u64 b (by omega)];exact b_j _ ⟨by omega,by omega⟩
theorem b7L(m n e:Nat)(f:m<2^e)(g:n<e)(d:e≤26):bits .or .i64 (m:Int) (wrap64 (2^n))=((m|||2^n:Nat):Int)∧m|||2^n<2^e:=by
 have a:2^n<2^e:=a_1 (by omega) g;have h:2^e≤2^26:=a_n (by omega) d;have c:((2^n:Nat):Int)=(2:Int)^n:=by simp
 have b:wrap64 (2^n)=((2^n:Nat):Int):=by
  rw[←IntWalk.i64_left,←c];generalize 2^n=q at a;exact b_j _ ⟨by omega,by omega⟩
 rw[b];exact⟨a2u m (2^n) (by omega) (by omega),a_R f a⟩
theorem c5q(c:UInt8):a2f (c.toNat:Int)=nmB c:=by
 unfold a2f nmB;rw[M_];simp;omega
theorem b6B(c:UInt8):a4c (c.toNat:Int)=dgB c:=by
 unfold a4c dgB;rw[M_];simp;omega
theorem c5r(c:UInt8):a8j (c.toNat:Int)=scB c:=by
 unfold a8j scB;rw[M_];simp;omega
theorem b4O{k:IntKind}{a b:Int}(h:a=b):Value.int k a=Value.int k b:=by rw[h]
theorem b5H(b lo hi:Nat)(C:List UInt8)(A:List Int)(w:World)(q:a0A w b C A)(J:lo≤hi)(j:hi≤C.length):
  Calls prog 109 #[.pointer (some (a__ b 0)),i_ lo,i_ hi] w fun e w'=>e= .returned (i_ (a1F C lo hi))∧w'=w:=by
 obtain⟨H,G,z,y,D,B,h,g,E,F,s,I⟩:=q;go_enter func109,ntmps109
 go_wp2
 go_loop [7,8] (fun n x=>∃(k m:Nat),x=i_ k∧n=i_ m∧lo≤k∧k≤hi∧m<2^26∧Hid (a2E (seg C k hi) m=a1F C lo hi)) (fun _ x=>hi-(intOf x).toNat)
 case atStart=>exact⟨lo,0,rfl,rfl,by omega,by omega,by omega,rfl⟩
 case round=>
  obtain⟨k,m,rfl,rfl,u,v,l,f⟩:=hrel;by_cases c:k<hi
  ·obtain⟨rfl,t⟩:=s k (by omega);have r:=C[k].toNat_lt;cases d:a2f (C[k].toNat:Int)
   ·have a:Hid _:=c4y (m:=m) c j ((c5q _).symm.trans d);go_wp2_with (first|(go_at_call 115;refine(a0d _ _).mono ?_;rintro e w' ⟨rfl,rfl⟩));exact⟨⟨k+1,m,by go_num,rfl,by omega,by omega,l,a.out.trans f.out⟩,by simp[intOf];omega⟩
   ·have p:97≤C[k].toNat:=by simp[a2f]at d;omega
    have i:C[k].toNat≤122:=by simp[a2f]at d;omega
    have a:Hid _:=c2m (m:=m) c j ((c5q _).symm.trans d);go_wp2_with (first|(go_at_call 115;refine(a0d _ _).mono ?_;rintro e w' ⟨rfl,rfl⟩));have o:=b7L m (C[k].toNat-97) 26 l (by omega) (by omega);exact⟨⟨k+1,m|||2^(C[k].toNat-97),by go_num,b4O o.1,by omega,by omega,o.2,a.out.trans f.out⟩,by simp[intOf];omega⟩
  ·have a:Hid (m=a1F C lo hi):=by
    have:=f.out;rw[a4n (by omega)]at this;exact this
   go_wp2
   go_ret;exact⟨a0R (by rw[a.out]),rfl⟩
theorem b1t(b i l j:Nat)(C:List UInt8)(A:List Int)(w:World)(y:a0A w b C A)(c:a3q C i=some (l,j)):
  Calls prog 112 #[.pointer (some (a__ b 0)),i_ i] w fun e w'=>e= .returned (.tuple #[i_ l,i_ j])∧w'=w:=by
 have s:=a9o c;rw[a76 s]at c;obtain⟨O,N,H,G,J,I,q,p,L,M,r,P⟩:=y;obtain⟨rfl,B⟩:=r i s;by_cases a:C[i]=45
 ·have o:((C[i].toNat:Int)==45)=true:=a2O (b:=45) a;rw[n_ a]at c;obtain⟨rfl,rfl⟩:0=l∧i+1=j:=by simpa using c
  clear c a;go_enter func112,ntmps112
  go_wp2
  go_ret2;exact⟨by go_num,rfl⟩
 ·have o:((C[i].toNat:Int)==45)=false:=a1e (b:=45) a;rw[f_ a]at c;have t:=h__ c;clear c a;go_enter func112,ntmps112
  go_wp2
  go_loop [1,6] (fun x n=>∃(k m:Nat),x=i_ k∧n=i_ m∧k≤C.length∧m<2^4∧Hid (a3a (C.drop k) m k=some (l,j))) (fun x _=>C.length-(intOf x).toNat)
  case atStart=>exact⟨i,0,rfl,rfl,by omega,by omega,t⟩
  case round=>
   obtain⟨k,m,rfl,rfl,E,F,h⟩:=hrel;have d:=c4q h.out;obtain⟨_,D⟩:=r k d;have z:=C[k].toNat_lt;cases f:a8j (C[k].toNat:Int)
   ·have g:Hid _:=c4r h.out d ((c5r _).symm.trans f);go_wp2_with (first|(go_at_call 149;refine(a0e _ _).mono ?_;rintro e w' ⟨rfl,rfl⟩));go_ret2;have:=g.out;simp only[a_V]at this;obtain⟨rfl,rfl⟩:=this;exact⟨rfl,rfl⟩
   ·have u:65≤C[k].toNat:=by simp[a8j]at f;omega
    have v:C[k].toNat≤68:=by simp[a8j]at f;omega
    have g:Hid _:=c18 h.out d ((c5r _).symm.trans f);go_wp2_with (first|(go_at_call 149;refine(a0e _ _).mono ?_;rintro e w' ⟨rfl,rfl⟩));have c:=b7L m (C[k].toNat-65) 4 F (by omega) (by omega);exact⟨⟨k+1,m|||2^(C[k].toNat-65),by go_num,b4O c.1,by omega,c.2,g⟩,by simp[intOf];omega⟩
theorem b8b(b lo hi:Nat)(C:List UInt8)(A:List Int)(w:World)(G:a0A w b C A)(hl:lo≤hi)(M:hi≤C.length):
  Calls prog 106 #[.pointer (some (a__ b 0)),i_ lo,i_ hi] w fun e w'=>e= .returned (i_ (a2w C lo hi))∧w'=w:=by
 obtain⟨Y,X,R,P,T,S,B,z,U,V,D,Z⟩:=G;go_enter func106,ntmps106
 go_wp2
 go_loop [7,8] (fun n x=>∃(k m:Nat) (d:Bool),x=i_ k∧n=i_ m∧lo≤k∧k≤hi∧m≤k∧(k=lo→d=false)∧(∀h:k-1<C.length,lo<k→dgB C[k-1]=d)∧Hid (m+a1S d (seg C k hi)=a2w C lo hi)) (fun _ x=>hi-(intOf x).toNat)
 case atStart=>exact⟨lo,0,false,rfl,rfl,by omega,by omega,by omega,fun _=>rfl,fun _ h=>absurd h (by omega),by show 0+_=_;rw[a_m];rfl⟩
 case round=>
  obtain⟨k,m,d,rfl,rfl,N,O,hm,o,p,y⟩:=hrel;by_cases v:k<hi
  ·obtain⟨rfl,J⟩:=D k (by omega);have I:=C[k].toNat_lt;have l:Hid (m+((if C[k]≠40∧C[k]≠41∧(d&&dgB C[k])=false then 1 else 0)+a1S (dgB C[k]) (seg C (k+1) hi))=a2w C lo hi):=by
    have t:=y.out;rw[c24 v M]at t;exact t
   by_cases s:k=lo
   ·have u:=o s;have g:(d&&dgB C[k])=false:=by rw[u];rfl
    have r:¬lo<k:=by omega
    clear o p s;by_cases a:C[k]=40
    ·have i:((C[k].toNat:Int) !=40)=false:=by have:=a2O (b:=40) a;simpa using this
     have f:Hid (m+0+a1S (dgB C[k]) (seg C (k+1) hi)=a2w C lo hi):=by have t:=l.out;rw[f_ (fun h=>h.1 a)]at t;show _=_;omega
     go_wp2_with (first|(go_at_call 145;refine(a0c _ _).mono ?_;rintro e w' ⟨rfl,rfl⟩));exact⟨⟨k+1,m+0,dgB C[k],by go_num,by go_num,by omega,by omega,by omega,by omega,fun _ _=>rfl,f⟩,by simp[intOf];omega⟩
    have i:((C[k].toNat:Int) !=40)=true:=by have:=a1e (b:=40) a;simpa using this
    by_cases c:C[k]=41
    ·have j:((C[k].toNat:Int) !=41)=false:=by have:=a2O (b:=41) c;simpa using this
     have f:Hid (m+0+a1S (dgB C[k]) (seg C (k+1) hi)=a2w C lo hi):=by have t:=l.out;rw[f_ (fun h=>h.2.1 c)]at t;show _=_;omega
     go_wp2_with (first|(go_at_call 145;refine(a0c _ _).mono ?_;rintro e w' ⟨rfl,rfl⟩));exact⟨⟨k+1,m+0,dgB C[k],by go_num,by go_num,by omega,by omega,by omega,by omega,fun _ _=>rfl,f⟩,by simp[intOf];omega⟩
    ·have j:((C[k].toNat:Int) !=41)=true:=by have:=a1e (b:=41) c;simpa using this
     have f:Hid (m+1+a1S (dgB C[k]) (seg C (k+1) hi)=a2w C lo hi):=by have t:=l.out;rw[n_ ⟨a,c,g⟩]at t;show _=_;omega
     go_wp2_with (first|(go_at_call 145;refine(a0c _ _).mono ?_;rintro e w' ⟨rfl,rfl⟩));exact⟨⟨k+1,m+1,dgB C[k],by go_num,by go_num,by omega,by omega,by omega,by omega,fun _ _=>rfl,f⟩,by simp[intOf];omega⟩
   have r:lo<k:=by omega
   have q:=p (by omega) r;obtain⟨_,L⟩:=D (k-1) (by omega);have H:=C[k-1].toNat_lt;clear o p;cases E:a4c (C[k].toNat:Int)
   ·have g:(d&&dgB C[k])=false:=by rw[←b6B,E,Bool.and_false]
    by_cases a:C[k]=40
    ·have i:((C[k].toNat:Int) !=40)=false:=by have:=a2O (b:=40) a;simpa using this
     have f:Hid (m+0+a1S (dgB C[k]) (seg C (k+1) hi)=a2w C lo hi):=by have t:=l.out;rw[f_ (fun h=>h.1 a)]at t;show _=_;omega
     go_wp2_with (first|(go_at_call 145;refine(a0c _ _).mono ?_;rintro e w' ⟨rfl,rfl⟩));exact⟨⟨k+1,m+0,dgB C[k],by go_num,by go_num,by omega,by omega,by omega,by omega,fun _ _=>rfl,f⟩,by simp[intOf];omega⟩
    have i:((C[k].toNat:Int) !=40)=true:=by have:=a1e (b:=40) a;simpa using this
    by_cases c:C[k]=41
    ·have j:((C[k].toNat:Int) !=41)=false:=by have:=a2O (b:=41) c;simpa using this
     have f:Hid (m+0+a1S (dgB C[k]) (seg C (k+1) hi)=a2w C lo hi):=by have t:=l.out;rw[f_ (fun h=>h.2.1 c)]at t;show _=_;omega
     go_wp2_with (first|(go_at_call 145;refine(a0c _ _).mono ?_;rintro e w' ⟨rfl,rfl⟩));exact⟨⟨k+1,m+0,dgB C[k],by go_num,by go_num,by omega,by omega,by omega,by omega,fun _ _=>rfl,f⟩,by simp[intOf];omega⟩
    ·have j:((C[k].toNat:Int) !=41)=true:=by have:=a1e (b:=41) c;simpa using this
     have f:Hid (m+1+a1S (dgB C[k]) (seg C (k+1) hi)=a2w C lo hi):=by have t:=l.out;rw[n_ ⟨a,c,g⟩]at t;show _=_;omega
     go_wp2_with (first|(go_at_call 145;refine(a0c _ _).mono ?_;rintro e w' ⟨rfl,rfl⟩));exact⟨⟨k+1,m+1,dgB C[k],by go_num,by go_num,by omega,by omega,by omega,by omega,fun _ _=>rfl,f⟩,by simp[intOf];omega⟩
   cases F:a4c (C[k-1].toNat:Int)
   ·have g:(d&&dgB C[k])=false:=by rw[←q,←b6B (C[k-1]),F,a_W]
    by_cases a:C[k]=40
    ·have i:((C[k].toNat:Int) !=40)=false:=by have:=a2O (b:=40) a;simpa using this
     have f:Hid (m+0+a1S (dgB C[k]) (seg C (k+1) hi)=a2w C lo hi):=by have t:=l.out;rw[f_ (fun h=>h.1 a)]at t;show _=_;omega
     go_wp2_with (first|(go_at_call 145;refine(a0c _ _).mono ?_;rintro e w' ⟨rfl,rfl⟩));exact⟨⟨k+1,m+0,dgB C[k],by go_num,by go_num,by omega,by omega,by omega,by omega,fun _ _=>rfl,f⟩,by simp[intOf];omega⟩
    have i:((C[k].toNat:Int) !=40)=true:=by have:=a1e (b:=40) a;simpa using this
    by_cases c:C[k]=41
    ·have j:((C[k].toNat:Int) !=41)=false:=by have:=a2O (b:=41) c;simpa using this
     have f:Hid (m+0+a1S (dgB C[k]) (seg C (k+1) hi)=a2w C lo hi):=by have t:=l.out;rw[f_ (fun h=>h.2.1 c)]at t;show _=_;omega
     go_wp2_with (first|(go_at_call 145;refine(a0c _ _).mono ?_;rintro e w' ⟨rfl,rfl⟩));exact⟨⟨k+1,m+0,dgB C[k],by go_num,by go_num,by omega,by omega,by omega,by omega,fun _ _=>rfl,f⟩,by simp[intOf];omega⟩
    ·have j:((C[k].toNat:Int) !=41)=true:=by have:=a1e (b:=41) c;simpa using this
     have f:Hid (m+1+a1S (dgB C[k]) (seg C (k+1) hi)=a2w C lo hi):=by have t:=l.out;rw[n_ ⟨a,c,g⟩]at t;show _=_;omega
     go_wp2_with (first|(go_at_call 145;refine(a0c _ _).mono ?_;rintro e w' ⟨rfl,rfl⟩));exact⟨⟨k+1,m+1,dgB C[k],by go_num,by go_num,by omega,by omega,by omega,by omega,fun _ _=>rfl,f⟩,by simp[intOf];omega⟩
   ·have g:(d&&dgB C[k])=true:=by rw[←q,←b6B,←b6B (C[k]),F,E];rfl
    by_cases a:C[k]=40
    ·have i:((C[k].toNat:Int) !=40)=false:=by have:=a2O (b:=40) a;simpa using this
     have f:Hid (m+0+a1S (dgB C[k]) (seg C (k+1) hi)=a2w C lo hi):=by have t:=l.out;rw[f_ (fun h=>h.1 a)]at t;show _=_;omega
     go_wp2_with (first|(go_at_call 145;refine(a0c _ _).mono ?_;rintro e w' ⟨rfl,rfl⟩));exact⟨⟨k+1,m+0,dgB C[k],by go_num,by go_num,by omega,by omega,by omega,by omega,fun _ _=>rfl,f⟩,by simp[intOf];omega⟩
    have i:((C[k].toNat:Int) !=40)=true:=by have:=a1e (b:=40) a;simpa using this
    by_cases c:C[k]=41
    ·have j:((C[k].toNat:Int) !=41)=false:=by have:=a2O (b:=41) c;simpa using this
     have f:Hid (m+0+a1S (dgB C[k]) (seg C (k+1) hi)=a2w C lo hi):=by have t:=l.out;rw[f_ (fun h=>h.2.1 c)]at t;show _=_;omega
     go_wp2_with (first|(go_at_call 145;refine(a0c _ _).mono ?_;rintro e w' ⟨rfl,rfl⟩));exact⟨⟨k+1,m+0,dgB C[k],by go_num,by go_num,by omega,by omega,by omega,by omega,fun _ _=>rfl,f⟩,by simp[intOf];omega⟩
    ·have j:((C[k].toNat:Int) !=41)=true:=by have:=a1e (b:=41) c;simpa using this
     have f:Hid (m+0+a1S (dgB C[k]) (seg C (k+1) hi)=a2w C lo hi):=by have t:=l.out;rw[f_ (fun h=>absurd h.2.2 (by rw[g];decide))]at t;show _=_;omega
     go_wp2_with (first|(go_at_call 145;refine(a0c _ _).mono ?_;rintro e w' ⟨rfl,rfl⟩));exact⟨⟨k+1,m+0,dgB C[k],by go_num,by go_num,by omega,by omega,by omega,by omega,fun _ _=>rfl,f⟩,by simp[intOf];omega⟩
  ·have f:Hid (m=a2w C lo hi):=by
    have:=y.out;rw[a4n (by omega)]at this;exact this
   go_wp2
   go_ret;exact⟨a0R (by rw[f.out]),rfl⟩
theorem a4X{a b c d e f g h:Int}(i:a=e)(j:b=f)(k:c=g)(l:d=h):
  Ending.returned (.tuple #[i_ a,i_ b,i_ c,i_ d])= .returned (.tuple #[i_ e,i_ f,i_ g,i_ h]):=by rw[i,j,k,l]
theorem a82(b i:Nat)(e:Rest)(C:List UInt8)(A:List Int)(w:World)(D:a0A w b C A)(a:a1K C i=some e):
  Calls prog 79 #[.pointer (some (a__ b 0)),i_ i] w fun x w'=>x= .returned (.tuple #[i_ e.name,i_ e.label,i_ e.lo,i_ e.hi])∧w'=w:=by
 unfold a1K at a;cases g:a0W C i with
 |none=>rw[g]at a;cases a
 |some o=>
 have q:=a2A g;have N:=a07 g;have O:=a2z g;rw[g,s_ q]at a;simp only at a;have m:=h__ D;obtain⟨hC,Z,T,S,V,U,B,z,X,Y,E,ha⟩:=D;obtain⟨rfl,J⟩:=E i q;have H:=C[i].toNat_lt;have n:=h__ g;clear g;by_cases c:C[i]=62
 ·have u:((C[i].toNat:Int)==62)=true:=a2O (b:=62) c;rw[n_ c]at a;cases k:a3q C (i+1)with
  |none=>rw[k]at a;cases a
  |some r=>
  obtain⟨l,j⟩:=r;rw[k]at a;simp only[U_]at a;subst a;have p:=h__ k;clear k c;go_enter func79,ntmps79;go_wp2_with fail;refine(a0Z b i o C A _ m.out n.out).mono ?_;rintro x w' ⟨rfl,rfl⟩;go_wp2_with fail;rw[show((i:Int)+1)=((i+1:Nat):Int)by omega];refine(b1t b (i+1) l j C A _ m.out p.out).mono ?_;rintro x w' ⟨rfl,rfl⟩;go_wp2_with fail;exact m_ (v:= .tuple #[i_ (-1),i_ l,i_ j,i_ (o-1)]) (by simp[results,results79,go_sem]) rfl ⟨a4X rfl rfl rfl (by omega),rfl⟩
 have u:((C[i].toNat:Int)==62)=false:=a1e (b:=62) c;rw[f_ c]at a;by_cases f:C[i]=94
 ·have y:((C[i].toNat:Int)==94)=true:=a2O (b:=94) f;rw[n_ f]at a;cases k:a3q C (i+3)with
  |none=>rw[k]at a;cases a
  |some r=>
  obtain⟨l,j⟩:=r;have M:=a9o k;have F:i+1<C.length:=by omega
  rw[k,s_ F]at a;simp only[U_]at a;subst a;obtain⟨_,I⟩:=E (i+1) F;have G:=C[i+1].toNat_lt;have L:=b1s k;have p:=h__ k;clear k f c;go_enter func79,ntmps79;go_wp2_with fail;refine(a0Z b i o C A _ m.out n.out).mono ?_;rintro x w' ⟨rfl,rfl⟩;go_wp2_with fail;rw[show((i:Int)+3)=((i+3:Nat):Int)by omega];refine(b1t b (i+3) l j C A _ m.out p.out).mono ?_;rintro x w' ⟨rfl,rfl⟩;go_wp2_with fail;exact m_ (v:= .tuple #[i_ ((C[i+1].toNat:Int)-97),i_ l,i_ (j+1),i_ (o-1)]) (by simp[results,results79,go_sem]) rfl ⟨a4X rfl rfl (by omega) (by omega),rfl⟩
 have y:((C[i].toNat:Int)==94)=false:=a1e (b:=94) f;rw[f_ f]at a;by_cases d:C[i]=40
 ·have s:((C[i].toNat:Int)==40)=true:=a2O (b:=40) d;have P:=b26 q d;have R:=a3t C i;rw[n_ d]at a;simp only[U_]at a;subst a;clear c f d;go_enter func79,ntmps79;go_wp2_with fail;refine(a0Z b i o C A _ m.out n.out).mono ?_;rintro x w' ⟨rfl,rfl⟩;go_wp2_with fail;refine(a26 b i C A _ m.out (by omega)).mono ?_;rintro x w' ⟨rfl,rfl⟩;go_wp2_with fail;exact m_ (v:= .tuple #[i_ (-1),i_ (-1),i_ (i+1),i_ (a0q C i-1)]) (by simp[results,results79,go_sem]) rfl ⟨a4X rfl rfl (by omega) (by omega),rfl⟩
 have s:((C[i].toNat:Int)==40)=false:=a1e (b:=40) d;rw[f_ d]at a;by_cases h:C[i]=42
 ·have t:((C[i].toNat:Int)==42)=true:=a2O (b:=42) h;rw[n_ h]at a;simp only[U_]at a;subst a;clear c f d h;go_enter func79,ntmps79;go_wp2_with fail;refine(a0Z b i o C A _ m.out n.out).mono ?_;rintro x w' ⟨rfl,rfl⟩;go_wp2_with fail;exact m_ (v:= .tuple #[i_ (-1),i_ (-1),i_ i,i_ i]) (by simp[results,results79,go_sem]) rfl ⟨a4X rfl rfl rfl rfl,rfl⟩
 ·have t:((C[i].toNat:Int)==42)=false:=a1e (b:=42) h;rw[f_ h]at a;simp only[U_]at a;subst a;clear c f d h;go_enter func79,ntmps79;go_wp2_with fail;refine(a0Z b i o C A _ m.out n.out).mono ?_;rintro x w' ⟨rfl,rfl⟩;go_wp2_with fail;exact m_ (v:= .tuple #[i_ ((C[i].toNat:Int)-97),i_ (-1),i_ (i+2),i_ (o-1)]) (by simp[results,results79,go_sem]) rfl ⟨a4X rfl rfl (by omega) (by omega),rfl⟩
theorem a3O(b i:Nat)(t:Two)(C:List UInt8)(A:List Int)(w:World)(H:a0A w b C A)(a:a2b C i=some t):
  Calls prog 78 #[.pointer (some (a__ b 0)),i_ i] w fun x w'=>x= .returned (.tuple #[i_ t.p,i_ t.q,i_ t.r,i_ t.s])∧w'=w:=by
 cases e:a0W C i with
 |none=>unfold a2b at a;rw[e]at a;cases a
 |some o=>
 have u:=a2A e;have O:=a07 e;have P:=a2z e;rw[a2a e u]at a;have g:=h__ H;obtain⟨Z,Y,S,R,U,T,G,F,V,X,J,ha⟩:=H;obtain⟨rfl,L⟩:=J i u;have n:=h__ e;clear e;by_cases d:C[i]=40
 ·have B:((C[i].toNat:Int)==40)=true:=a2O (b:=40) d;rw[n_ d]at a;have M:=b26 u d;have N:=a3t C i;have y:=a3t C (a0q C i);have z:=b77 (C:=C) (k:=a0q C i) (by omega) (by omega);clear d;generalize I:a0q C i=k at*;have E:=h__ I;clear I;generalize l:a0q C k=m at*;have j:=h__ l;clear l;by_cases c:o=m
  ·rw[n_ c]at a;simp only[U_]at a;subst a;have h:((o:Int)==(m:Int))=true:=by simp;omega
   clear c;go_enter func78,ntmps78;go_wp2_with fail;refine(a26 b i C A _ g.out (by omega)).mono ?_;rintro x w' ⟨rfl,rfl⟩;rw[E.out];go_wp2_with fail;refine(a26 b (k) C A _ g.out (by omega)).mono ?_;rintro x w' ⟨rfl,rfl⟩;rw[j.out];go_wp2_with fail;refine(a0Z b i o C A _ g.out n.out).mono ?_;rintro x w' ⟨rfl,rfl⟩;go_wp2_with fail;exact m_ (v:= .tuple #[i_ ((k:Nat)+1),i_ (m-1),i_ m,i_ m]) (by simp[results,results78,go_sem]) rfl ⟨a4X (by omega) (by omega) rfl rfl,rfl⟩
  ·rw[f_ c]at a;simp only[U_]at a;subst a;have h:((o:Int)==(m:Int))=false:=by simp;omega
   clear c;go_enter func78,ntmps78;go_wp2_with fail;refine(a26 b i C A _ g.out (by omega)).mono ?_;rintro x w' ⟨rfl,rfl⟩;rw[E.out];go_wp2_with fail;refine(a26 b (k) C A _ g.out (by omega)).mono ?_;rintro x w' ⟨rfl,rfl⟩;rw[j.out];go_wp2_with fail;refine(a0Z b i o C A _ g.out n.out).mono ?_;rintro x w' ⟨rfl,rfl⟩;go_wp2_with fail;exact m_ (v:= .tuple #[i_ ((k:Nat)+1),i_ (m-1),i_ (m+1),i_ (o-1)]) (by simp[results,results78,go_sem]) rfl ⟨a4X (by omega) (by omega) (by omega) (by omega),rfl⟩
 have B:((C[i].toNat:Int)==40)=false:=a1e (b:=40) d;rw[f_ d]at a;by_cases f:C[i]=42
 ·have D:((C[i].toNat:Int) !=42)=false:=by have:=a2O (b:=42) f;simpa using this
  rw[n_ f]at a;have y:=a3t C (i+2);have z:=b77 (C:=C) (k:=i+2) (by omega) (by omega);clear d f;generalize l:a0q C (i+2)=m at*;have j:=h__ l;clear l;by_cases c:o=m
  ·rw[n_ c]at a;simp only[U_]at a;subst a;have h:((o:Int)==(m:Int))=true:=by simp;omega
   clear c;go_enter func78,ntmps78;go_wp2_with fail;rw[show((i:Int)+2)=((i+2:Nat):Int)by omega];refine(a26 b ((i+2)) C A _ g.out (by omega)).mono ?_;rintro x w' ⟨rfl,rfl⟩;rw[j.out];go_wp2_with fail;refine(a0Z b i o C A _ g.out n.out).mono ?_;rintro x w' ⟨rfl,rfl⟩;go_wp2_with fail;exact m_ (v:= .tuple #[i_ (((i+2):Nat)+1),i_ (m-1),i_ m,i_ m]) (by simp[results,results78,go_sem]) rfl ⟨a4X (by omega) (by omega) rfl rfl,rfl⟩
  ·rw[f_ c]at a;simp only[U_]at a;subst a;have h:((o:Int)==(m:Int))=false:=by simp;omega
   clear c;go_enter func78,ntmps78;go_wp2_with fail;rw[show((i:Int)+2)=((i+2:Nat):Int)by omega];refine(a26 b ((i+2)) C A _ g.out (by omega)).mono ?_;rintro x w' ⟨rfl,rfl⟩;rw[j.out];go_wp2_with fail;refine(a0Z b i o C A _ g.out n.out).mono ?_;rintro x w' ⟨rfl,rfl⟩;go_wp2_with fail;exact m_ (v:= .tuple #[i_ (((i+2):Nat)+1),i_ (m-1),i_ (m+1),i_ (o-1)]) (by simp[results,results78,go_sem]) rfl ⟨a4X (by omega) (by omega) (by omega) (by omega),rfl⟩
 ·have D:((C[i].toNat:Int) !=42)=true:=by have:=a1e (b:=42) f;simpa using this
  rw[f_ f]at a;simp only[U_]at a;subst a;clear d f;go_enter func78,ntmps78;go_wp2_with fail;exact m_ (v:= .tuple #[i_ i,i_ i,i_ i,i_ i]) (by simp[results,results78,go_sem]) rfl ⟨a4X rfl rfl rfl rfl,rfl⟩
theorem b8z{n:Int}(a: -9223372036854775808≤n)(b:n≤9223372036854775807):wrap64 n=n:=by
 rw[←IntWalk.i64_left];exact b_j n ⟨a,b⟩
theorem c5h(m a x y d:Nat)(c:48≤d)(f:m+1+a+(d-48)*(1+x)+y<2199023255552):
  wrap64 (wrap64 ((m:Int)+1+a+wrap64 (((d:Int)-48)*(1+(x:Int))))+y)=((m+1+a+(d-48)*(1+x)+y:Nat):Int):=by
 have e:((d:Int)-48)*(1+(x:Int))=(((d-48)*(1+x):Nat):Int):=by
  have b:((d:Int)-48)=((d-48:Nat):Int):=by omega
  rw[b]
  push_cast
  rfl
 rw[e];generalize (d-48)*(1+x)=q at*;rw[b8z (n:=(q:Int)) (by omega) (by omega),b8z (n:=(m:Int)+1+a+q) (by omega) (by omega),b8z (by omega) (by omega)];omega
theorem b8A(F:Nat):∀(b lo hi r:Nat) (C:List UInt8) (A:List Int) (w:World) (O:a0A w b C A) (J:a2S C F lo hi=some r) (R:lo≤500) (P:hi≤500),
  Calls prog 73 #[.pointer (some (a__ b 0)),i_ lo,i_ hi] w fun x w'=>x= .returned (i_ r)∧w'=w:=by
 induction F using Nat.strongRecOn with
 |ind F ih=>
 intro b lo hi r C A w O J R P;have I:=h__ ih;clear ih;have c:=h__ O;obtain⟨hC,hA,ac,aa,bc,ba,Ab,Aa,h0,h1,hc,ha⟩:=O;have hr:=b17 J;have HO:=h__ J;clear J;go_enter func73,ntmps73
 go_wp2
 go_loop [7,8] (fun n x=>∃(k m f z:Nat),x=i_ k∧n=i_ m∧lo≤k∧k≤500∧f≤F∧m+z=r∧Hid (a2S C f k hi=some z)) (fun _ x=>500-(intOf x).toNat)
 case atStart=>exact⟨lo,0,F,r,rfl,rfl,by omega,by omega,by omega,by omega,HO⟩
 case round=>
  obtain⟨k,m,f,z,rfl,rfl,Af,Ag,hf,hm,HW⟩:=hrel;by_cases S:k<hi
  ·obtain⟨g,e,t,o,x,y,z',rfl,G,v,h,U,hy,hz,E,D,Ak,u,d⟩:=c3w HW.out S;have B:=a2A h;have Ah:=a07 h;have Ai:=a2z h;obtain⟨rfl,Ae⟩:=hc k B;obtain⟨b1,b2,b3,b4⟩:=a72 v hC;have Aj:=b17 U;have HX:=h__ U;have HY:=h__ hy;have HZ:=h__ hz;have X:=h__ G;have Y:=h__ v;have Z:=h__ h;clear U hy hz G v h;by_cases a:C[k]=42
   ·obtain⟨M,N,T⟩:=u B a;have V:((C[k].toNat:Int)==42)=true:=a2O (b:=42) a;obtain⟨_,Ad⟩:=hc (k+1) M;have Ac:=C[k+1].toNat_lt;generalize i:a2w C e.lo e.hi=L at*;have l:=h__ i;clear i;clear u d a;go_wp2_with fail;refine(a82 b k e C A _ c.out X.out).mono ?_;rintro j w' ⟨rfl,rfl⟩;go_wp2_with fail;refine(b8b b e.lo e.hi C A _ c.out E D).mono ?_;rintro j w' ⟨rfl,rfl⟩;rw[l.out];go_wp2_with fail;refine(a3O b k t C A _ c.out Y.out).mono ?_;rintro j w' ⟨rfl,rfl⟩;go_wp2_with fail;refine(I.out g (by omega) b t.p t.q x C A _ c.out HX.out b1 b2).mono ?_;rintro j w' ⟨rfl,rfl⟩;go_wp2_with fail;refine(I.out g (by omega) b t.r t.s y C A _ c.out HY.out b3 b4).mono ?_;rintro j w' ⟨rfl,rfl⟩;go_wp2_with fail;refine(a0Z b k o C A _ c.out Z.out).mono ?_;rintro j w' ⟨rfl,rfl⟩;go_wp2_with fail;have H:=c5h m L x y C[k+1].toNat N (by omega);exact⟨⟨o,m+1+L+(C[k+1].toNat-48)*(1+x)+y,g,z',rfl,b4O H,by omega,by omega,by omega,by omega,HZ⟩,by simp[intOf];omega⟩
   ·have V:((C[k].toNat:Int)==42)=false:=a1e (b:=42) a;have T:=d B a;generalize i:a2w C e.lo e.hi=L at*;have l:=h__ i;clear i;clear u d a;go_wp2_with fail;refine(a82 b k e C A _ c.out X.out).mono ?_;rintro j w' ⟨rfl,rfl⟩;go_wp2_with fail;refine(b8b b e.lo e.hi C A _ c.out E D).mono ?_;rintro j w' ⟨rfl,rfl⟩;rw[l.out];go_wp2_with fail;refine(a3O b k t C A _ c.out Y.out).mono ?_;rintro j w' ⟨rfl,rfl⟩;go_wp2_with fail;refine(I.out g (by omega) b t.p t.q x C A _ c.out HX.out b1 b2).mono ?_;rintro j w' ⟨rfl,rfl⟩;go_wp2_with fail;refine(I.out g (by omega) b t.r t.s y C A _ c.out HY.out b3 b4).mono ?_;rintro j w' ⟨rfl,rfl⟩;go_wp2_with fail;refine(a0Z b k o C A _ c.out Z.out).mono ?_;rintro j w' ⟨rfl,rfl⟩;go_wp2_with fail;exact⟨⟨o,m+1+L+x+y,g,z',rfl,by go_num,by omega,by omega,by omega,by omega,HZ⟩,by simp[intOf];omega⟩
  ·have HF:Hid ((m:Int)=(r:Int)):=by
    have h1:=c3v HW.out (by omega);show _=_;omega
   go_wp2
   go_ret;exact⟨a0R HF.out,rfl⟩
theorem a0A.below{w w':World}{b:Nat}{C:List UInt8}{A:List Int}(h:a0A w b C A)(t:B__ w w'):a0A w' b C A:=by
 obtain⟨s,r,l,j,n,m,c,a,o,q,g,f⟩:=h;have k:=fun(p:Addr) (v:Value) (e:w.cell? p=some v)=>(t.cell (b_p e)).trans e
 exact⟨s,r,l,j,n,m,c,a,k _ _ o,k _ _ q,fun i d=>⟨(g i d).1,k _ _ (g i d).2⟩,fun i d=>⟨(f i d).1,k _ _ (f i d).2⟩⟩
theorem b7e(b:Nat)(a r:Int)(C:List UInt8)(A:List Int)(w:World)(D:a0A w b C A)(g:a6d C a=some r):
  Calls prog 148 #[.pointer (some (a__ b 0)),i_ a] w fun x w'=>x= .returned (i_ r)∧w'=w:=by
 unfold a6d at g;cases e:a2U C with
 |none=>rw[e]at g;cases g
 |some B=>
 rw[e]at g;have i:=h__ D;have m:=h__ e;have H:=h__ g;obtain⟨hC,hA,U,T,X,V,z,y,Y,Z,N,ha⟩:=D;clear e g;go_enter func148,ntmps148;go_wp2_with fail
 go_loop [5] (fun x=>∃(k f:Nat),x=i_ k∧k≤C.length∧Hid (a6e C B a f k=some r)) (fun x=>500-(intOf x).toNat)
 case atStart=>exact⟨0,C.length+1,rfl,by omega,H⟩
 case round=>
  obtain⟨k,f,rfl,P,v⟩:=hrel;go_wp2_with fail;refine(a4g b B C A _ i.out m.out).mono ?_;rintro x w' ⟨rfl,rfl⟩;by_cases q:k<B
  ·obtain⟨p,o,d,t,s⟩:=b5r v.out q;have R:=a07 d;have S:=a2z d;obtain⟨rfl,O⟩:=N (k+1) p;have M:=C[k+1].toNat_lt;by_cases c:(C[k+1].toNat:Int)-97=a
   ·obtain⟨l,j,F,h⟩:=t c;have G:=h__ F;have I:=h__ h;have u:((C[k+1].toNat:Int)-97==a)=true:=by simp[c]
    clear F h t s c d;go_wp2_with fail;rw[show((k:Int)+3)=((k+3:Nat):Int)by omega];refine(b1t b (k+3) l j C A _ i.out G.out).mono ?_;rintro x w' ⟨rfl,rfl⟩;go_wp2_with fail;go_ret;exact⟨a0R I.out,rfl⟩
   ·obtain⟨L,E⟩:=s c;have n:=h__ E;have J:=h__ d;have u:((C[k+1].toNat:Int)-97==a)=false:=by simp[c]
    clear E t s c d;go_wp2_with fail;refine(a0Z b k o C A _ i.out J.out).mono ?_;rintro x w' ⟨rfl,rfl⟩;go_wp2_with fail;exact⟨⟨o,L,rfl,by omega,n⟩,by simp[intOf];omega⟩
  ·have n:Hid _:=b7f v.out (by omega);go_wp2_with fail;go_ret;exact⟨a0R n.out,rfl⟩
theorem a0A.drewN{w:World}{b:Nat}{C:List UInt8}{A:List Int}(h:a0A w b C A)(n:Nat):a0A (w.drewN n) b C A:=
 h.below (below_drewN (g_ _ _) n)
theorem b1U(b:Nat)(r:Int)(C:List UInt8)(A:List Int)(w:World)(T:a0A w b C A)(l:a7m C A=some r):
  Calls prog 72 #[.pointer (some (a__ b 0))] w fun x w'=>x= .returned (i_ r)∧∃n,w'=w.drewN n:=by
 unfold a7m at l;cases e:a2U C with
 |none=>rw[e]at l;cases l
 |some B=>
 rw[e]at l;have v:=h__ T;have y:=h__ e;have HO:=h__ l;obtain⟨hC,hA,ac,aa,bc,ba,R,P,h0,h1,U,ha⟩:=T;clear e l;go_enter func72,ntmps72;go_wp2_with fail;go_loopw [3] (fun x w'=>∃(k f n:Nat),x=i_ k∧k≤C.length∧w'=w.drewN n∧Hid (a55 C A B f k=some r)) (fun x w'=>500-(intOf x).toNat);case atStart=>exact⟨0,C.length+1,0,rfl,by omega,rfl,HO⟩
 case round=>
  obtain⟨i,f,L,rfl,Ad,rfl,N⟩:=hrel;go_wp2_with fail;refine(a4g b B C A _ (v.out.drewN L) y.out).mono ?_;rintro x w' ⟨rfl,d⟩;subst d;by_cases J:i<B
  ·obtain⟨t,o,s,g,Z,V⟩:=c1b N.out J;have Af:=a07 g;have Ag:=a2z g;have z:=h__ s;have HV:=h__ g;have HY:=h__ Z;have HN:=h__ V;clear s g Z V;go_wp2_with fail;go_loopw [4] (fun x w'=>∃(k f n:Nat),x=i_ k∧k≤C.length∧w'=w.drewN n∧Hid (a4o C i f k=some t)) (fun x w'=>500-(intOf x).toNat);case atStart=>exact⟨0,C.length+1,L,rfl,by omega,rfl,z⟩
   case round=>
    obtain⟨k,f2,n1,rfl,Ae,rfl,O⟩:=hrel;by_cases I:k<i
    ·obtain⟨F,G,o2,a,j,h⟩:=b8u O.out I;have X:=a07 a;have Y:=a2z a;obtain⟨rfl,Aa⟩:=U (k+1) F;obtain⟨_,Ab⟩:=U (i+1) G;by_cases c:C[k+1]=C[i+1]
     ·have ht:=j c;have u:=HY.out ht;obtain⟨H,S⟩:=k_.mp u;obtain⟨rfl,Ac⟩:=ha (i+1) H;have M:((C[k+1].toNat:Int)==(C[i+1].toNat:Int))=true:=a2O c;have H4:=h__ S;clear u S j h a c;go_wp2_with fail;go_quiet (fail)
      go_wp2
      go_ret;exact⟨a0R H4.out,_,rfl⟩
     ·obtain⟨E,p⟩:=h c;have m:=h__ p;have D:=h__ a;have M:((C[k+1].toNat:Int)==(C[i+1].toNat:Int))=false:=a1e c;clear p j h a c;go_wp2_with fail;go_quiet (fail);go_wp2_with fail;refine(a0Z b k o2 C A _ (by first|exact(v.out.drewN n1).drewN _|exact v.out.drewN _) D.out).mono ?_;rintro x w' ⟨rfl,d⟩;subst d;go_wp2_with fail;exact⟨⟨o2,E,_,rfl,by omega,rfl,m⟩,by simp[intOf];omega⟩
    ·have p:=b9j O.out (by omega);obtain⟨E,q⟩:=HN.out p;have m:=h__ q;clear q p;go_wp2_with fail;refine(a0Z b i o C A _ (v.out.drewN _) HV.out).mono ?_;rintro x w' ⟨rfl,d⟩;subst d;go_wp2_with fail;exact⟨⟨o,E,_,rfl,by omega,rfl,m⟩,by simp[intOf];omega⟩
  ·have m:Hid _:=c3l N.out (by omega);go_wp2_with fail;go_ret;exact⟨a0R m.out,L,rfl⟩
end Go.Proofs.YtdgmoiflahoihaaGreatDoor
