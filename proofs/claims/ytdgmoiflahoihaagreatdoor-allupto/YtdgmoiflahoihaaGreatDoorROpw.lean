import Derived.Test.YtdgmoiflahoihaaGreatDoorVPw
import Derived.OwnWalk
import Derived.Deep.Cut
import Derived.Deep.CutRange

set_option linter.unusedSimpArgs false
set_option linter.unusedVariables false
set_option maxRecDepth 100000
set_option maxHeartbeats 8000000
namespace Go.Proofs.YtdgmoiflahoihaaGreatDoor
open Go.Proofs.Tryz
open Go.RowKit
theorem a8C{x:Int}(h: -9223372036854775808≤x∧x≤9223372036854775807):(BitVec.ofInt 64 x).toInt=x:=by
 rw[BitVec.toInt_ofInt];rw[Int.bmod_def];have e:((2^64:Nat):Int)=18446744073709551616:=by decide
 rw[e]
 split<;>omega
theorem b4i(v:BitVec 64):IntKind.i64.wrap (v.toNat:Int)=v.toInt:=by
 rw[IntKind.wrap_i64,BitVec.toInt_eq_toNat_bmod,Int.bmod_def];have h:=v.isLt;have e:((2^64:Nat):Int)=18446744073709551616:=by decide
 rw[e];have a:(v.toNat:Int)<18446744073709551616:=by
  have:v.toNat<18446744073709551616:=h;omega
 split<;>omega
theorem b8r(v:BitVec 64): -9223372036854775808≤v.toInt∧v.toInt≤9223372036854775807:=by
 have a:=BitVec.le_toInt v;have b:=BitVec.toInt_lt (x:=v);have e:(2:Int)^(64-1)=9223372036854775808:=by decide
 rw[e]at a b;omega
theorem b18{x y:Int}(d: -9223372036854775808≤x∧x≤9223372036854775807)(f: -9223372036854775808≤y∧y≤9223372036854775807):(-9223372036854775808≤bits .xor .i64 x y∧bits .xor .i64 x y≤9223372036854775807)∧(bits .xor .i64 x y<0↔ ¬(x<0↔y<0)):=by
 have e:bits .xor .i64 x y=(BitVec.ofInt 64 x^^^BitVec.ofInt 64 y).toInt:=b4i _;rw[e];refine⟨b8r _,?_⟩;have m:(BitVec.ofInt 64 x^^^BitVec.ofInt 64 y).msb=((BitVec.ofInt 64 x).msb^^(BitVec.ofInt 64 y).msb):=BitVec.msb_xor;rw[a_T,a_T,a_T,a8C d,a8C f]at m;have c:=a_w (· =true) m;simp only[a_e,eq_iff_iff]at c;rw[c];by_cases a:x<0<;>by_cases b:y<0<;>simp[a,b]
theorem b9s{x y:Int}(b: -9223372036854775808≤x∧x≤9223372036854775807)(c: -9223372036854775808≤y∧y≤9223372036854775807):(-9223372036854775808≤bits .and .i64 x y∧bits .and .i64 x y≤9223372036854775807)∧(bits .and .i64 x y<0↔(x<0∧y<0)):=by
 have e:bits .and .i64 x y=(BitVec.ofInt 64 x&&&BitVec.ofInt 64 y).toInt:=b4i _;rw[e];refine⟨b8r _,?_⟩;have m:(BitVec.ofInt 64 x&&&BitVec.ofInt 64 y).msb=((BitVec.ofInt 64 x).msb&&(BitVec.ofInt 64 y).msb):=BitVec.msb_and;rw[a_T,a_T,a_T,a8C b,a8C c]at m;have a:=a_w (· =true) m;simp only[Z_,a_e,eq_iff_iff]at a;exact a
theorem b4h(x:Int): -9223372036854775808≤wrap64 x∧wrap64 x≤9223372036854775807:=by unfold wrap64;omega
theorem c1l(a b:Int)(g: -9223372036854775808≤a∧a≤9223372036854775807)(h: -9223372036854775808≤b∧b≤9223372036854775807)(w:World):
  Calls prog 150 #[i_ a,i_ b] w fun e w'=>e= .returned (.tuple #[i_ (wrap64 (a+b)),.bool (fits (a+b))])∧w'=w:=by
 have d:=b4h (a+b);have c:fits (a+b)=true↔wrap64 (a+b)=a+b:=by
  rw[a3o];unfold wrap64;omega
 have i:wrap64 (a+b)=a+b∨wrap64 (a+b)=a+b-18446744073709551616∨wrap64 (a+b)=a+b+18446744073709551616:=by unfold wrap64;omega
 have f:Hid (∀x:Int,IntKind.i64.wrap x=wrap64 x):=fun x=>by rw[IntKind.wrap_i64];unfold wrap64;omega
 have l:decide (0≤bits .and .i64 (bits .xor .i64 a (wrap64 (a+b))) (bits .xor .i64 b (wrap64 (a+b))))=fits (a+b):=by
  obtain⟨j,m⟩:=b18 g d;obtain⟨k,n⟩:=b18 h d;obtain⟨o,p⟩:=b9s j k;rw[M_,Y_,c];clear c f;generalize wrap64 (a+b)=s at*;generalize bits .and .i64 (bits .xor .i64 a s) (bits .xor .i64 b s)=z at*;generalize bits .xor .i64 a s=x at*;generalize bits .xor .i64 b s=y at*;omega
 go_enter func150,ntmps150;go_wp2_with fail;go_ret2;exact⟨rfl,rfl⟩
theorem c3d(a b:Int)(c: -9223372036854775808≤a∧a≤9223372036854775807)(g: -9223372036854775808≤b∧b≤9223372036854775807)(w:World):
  Calls prog 151 #[i_ a,i_ b] w fun e w'=>e= .returned (.tuple #[i_ (wrap64 (a-b)),.bool (fits (a-b))])∧w'=w:=by
 have h:=b4h (a-b);have d:fits (a-b)=true↔wrap64 (a-b)=a-b:=by
  rw[a3o];unfold wrap64;omega
 have i:wrap64 (a-b)=a-b∨wrap64 (a-b)=a-b-18446744073709551616∨wrap64 (a-b)=a-b+18446744073709551616:=by unfold wrap64;omega
 have f:Hid (∀x:Int,IntKind.i64.wrap x=wrap64 x):=fun x=>by rw[IntKind.wrap_i64];unfold wrap64;omega
 have l:decide (0≤bits .and .i64 (bits .xor .i64 a b) (bits .xor .i64 a (wrap64 (a-b))))=fits (a-b):=by
  obtain⟨j,m⟩:=b18 c g;obtain⟨k,n⟩:=b18 c h;obtain⟨o,p⟩:=b9s j k;rw[M_,Y_,d];clear d f;generalize wrap64 (a-b)=s at*;generalize bits .and .i64 (bits .xor .i64 a b) (bits .xor .i64 a s)=z at*;generalize bits .xor .i64 a b=x at*;generalize bits .xor .i64 a s=y at*;omega
 go_enter func151,ntmps151;go_wp2_with fail;go_ret2;exact⟨rfl,rfl⟩
theorem c2Y{k:IntKind}{a b:Int}(h:a=b):Ending.returned (.int k a)= .returned (.int k b):=by rw[h]
theorem c7A{a b:Int}{p q:Bool}(h:a=b)(k:p=q):Ending.returned (.tuple #[i_ a,.bool p])= .returned (.tuple #[i_ b,.bool q]):=by rw[h,k]
theorem b0Y(x:Int):IntKind.u64.wrap x=x%18446744073709551616:=by
 simp[IntKind.wrap,IntKind.bits,IntKind.signed]
theorem b50(a:Int)(b: -9223372036854775808≤a∧a≤9223372036854775807)(w:World):
  Calls prog 48 #[i_ a] w fun e w'=>e= .returned (.int .u64 (a.natAbs:Nat))∧w'=w:=by
 obtain⟨d,f⟩:=b;by_cases c:a<0
 ·obtain⟨n,rfl⟩:∃n:Nat,a= -(n:Int):=⟨a.natAbs,by omega⟩
  have e:(-(n:Int)).natAbs=n:=by omega
  rw[e];go_enter func48,ntmps48;go_wp2_with fail;go_ret;refine⟨c2Y ?_,rfl⟩;simp only[b0Y];omega
 ·obtain⟨n,rfl⟩:∃n:Nat,a=(n:Int):=⟨a.natAbs,by omega⟩
  have e:(n:Int).natAbs=n:=by omega
  rw[e];go_enter func48,ntmps48;go_wp2_with fail;go_ret;refine⟨c2Y ?_,rfl⟩;try simp only[b0Y]
  try omega
def c5t(a:Int)(n:Nat):Prop:=∀w,Calls prog 48 #[.int .i64 a] w fun e w'=>e= .returned (.int .u64 n)∧w'=w
theorem b0S{a:Int}{n:Nat}(b: -9223372036854775808≤a∧a≤9223372036854775807)(c:a.natAbs=n):Hid (c5t a n):=fun w=>by
 have k:=b50 a b w;rw[c]at k;exact k
theorem b9c(n:Int)(a:0≤n)(b:n<18446744073709551616)(w:World):
  Calls prog 169 #[.int .u64 n,F__] w fun e w'=>e= .returned (.tuple #[i_ (wrap64 n),.bool (decide (n<9223372036854775808))])∧w'=w:=by
 go_enter func169,ntmps169;go_wp2_with fail;go_ret2;exact⟨rfl,rfl⟩
theorem b78(n:Int)(a:0≤n)(b:n<18446744073709551616)(w:World):
  Calls prog 169 #[.int .u64 n,T__] w fun e w'=>e= .returned (.tuple #[i_ (wrap64 (-n)),.bool (decide (n≤9223372036854775808))])∧w'=w:=by
 go_enter func169,ntmps169;go_wp2_with fail;go_ret2;refine⟨c7A ?_ rfl,rfl⟩;simp only[b0Y,wrap64];omega
theorem b0R(n:Int)(s:Bool)(a:0≤n)(b:n<18446744073709551616)(w:World):
  Calls prog 169 #[.int .u64 n,.bool s] w fun e w'=>e= .returned (.tuple #[i_ (wrap64 (if s then-n else n)),.bool (if s then decide (n≤9223372036854775808)else decide (n<9223372036854775808))])∧w'=w:=by
 cases s
 ·exact b9c n a b w
 ·exact b78 n a b w
theorem c2k(a b:Int):(a*b).natAbs=a.natAbs*b.natAbs∧((a<0↔b<0)→0≤a*b)∧(¬(a<0↔b<0)→a*b≤0):=by
 refine⟨Int.natAbs_mul a b,fun h=> ?_,fun h=> ?_⟩
 ·by_cases c:a<0
  ·exact Int.mul_nonneg_of_nonpos_of_nonpos (by omega) (by omega)
  ·exact Int.mul_nonneg (by omega) (by omega)
 ·by_cases c:a<0
  ·exact Int.mul_nonpos_of_nonpos_of_nonneg (by omega) (by omega)
  ·exact Int.mul_nonpos_of_nonneg_of_nonpos (by omega) (by omega)
theorem c3j(a b:Int)(L: -9223372036854775808≤a∧a≤9223372036854775807)(M: -9223372036854775808≤b∧b≤9223372036854775807)(w:World):
  Calls prog 152 #[i_ a,i_ b] w fun e w'=>∃v,e= .returned (.tuple #[i_ v,.bool (fits (a*b))])∧(fits (a*b)=true→v=a*b)∧w'=w:=by
 obtain⟨T,U,V⟩:=c2k a b;have r:=a3o (a*b);have hp:a.natAbs≤9223372036854775808:=by omega
 have hq:b.natAbs≤9223372036854775808:=by omega
 have g:a.natAbs≠0→(9223372036854775808/a.natAbs<b.natAbs↔9223372036854775808<a.natAbs*b.natAbs):=fun h=>by
  rw[Nat.div_lt_iff_lt_mul (by omega),Nat.mul_comm]
 have ta:decide (a<0)=true∨decide (a<0)=false:=by cases decide (a<0)<;>simp
 have tb:decide (b<0)=true∨decide (b<0)=false:=by cases decide (b<0)<;>simp
 generalize n:a.natAbs=p at*;generalize o:b.natAbs=q at*;generalize a*b=t at*;have G:=b0S L n;have H:=b0S M o;have D:(decide (a<0) !=decide (b<0))=true∨(decide (a<0) !=decide (b<0))=false:=by cases (decide (a<0) !=decide (b<0))<;>simp
 have i:(decide (a<0) !=decide (b<0))=false↔(a<0↔b<0):=by by_cases x:a<0<;>by_cases y:b<0<;>simp[x,y]
 by_cases d:0<p∧9223372036854775808/p<q
 ·obtain⟨Aa,B⟩:=d;have h1:=(g (by omega)).mp B;have C:fits t=false:=by
   rw[c39];omega
  have J:(9223372036854775808:Int)/(p:Int)<(q:Int):=by
   have:=Int.ofNat_lt.mpr B;rw[b_o]at this;exact this
  rw[C];clear T U V r g n o ta tb D i h1 L M;go_enter func152,ntmps152;go_upto_region 2 with(first|(go_at_call 48;refine(G.out _).mono ?_;rintro e F ⟨rfl,c⟩;rw[c];clear c));go_upto_region 3 with(first|(go_at_call 48;refine(H.out _).mono ?_;rintro e F ⟨rfl,c⟩;rw[c];clear c));go_wp2_with fail;go_ret2;exact⟨0,rfl,fun h=>(by cases h),rfl⟩
 ·have Ac:p*q≤9223372036854775808:=by
   by_cases A:p=0
   ·subst A;simp
   ·have:=g A;omega
  have J:0<p→¬(9223372036854775808:Int)/(p:Int)<(q:Int):=fun A=>by
   have I:¬9223372036854775808/p<q:=fun h=>d ⟨A,h⟩
   intro h3;apply I;have h4:((9223372036854775808/p:Nat):Int)<(q:Int):=by rw[b_o];exact h3
   exact Int.ofNat_lt.mp h4
  have N:0≤(p:Int)*(q:Int):=Int.mul_nonneg (by omega) (by omega);have Ab:(p:Int)*(q:Int)≤9223372036854775808:=by
   have:((p*q:Nat):Int)≤9223372036854775808:=by omega
   rwa[Int.natCast_mul]at this
  have O:(p:Int)*(q:Int)=(t.natAbs:Int):=by rw[T,Int.natCast_mul]
  generalize Ad:(p:Int)*(q:Int)=l at*;have j:∀s:Bool,(decide (a<0) !=decide (b<0))=s→(if s then decide (l≤9223372036854775808)else decide (l<9223372036854775808))=fits t∧(fits t=true→wrap64 (if s then-l else l)=t):=by
   intro s Y;cases s
   ·have I:=U (i.mp Y);simp only[D_,a_g];refine⟨?_,fun C=> ?_⟩
    ·rw[M_,Y_,r];omega
    ·have:=r.mp C;unfold wrap64;omega
   ·have I:=V (fun k=>by have:=i.mpr k;rw[Y]at this;cases this);simp only[a_b];refine⟨?_,fun C=> ?_⟩
    ·rw[M_,Y_,r];omega
    ·have:=r.mp C;unfold wrap64;omega
  have m:decide ((p:Int)>0)=true→decide ((9223372036854775808:Int)/(p:Int)<(q:Int))=false:=fun h=>by
   simp at h;have:=J (by omega);simpa using this
  generalize R:(decide (a<0) !=decide (b<0))=s at*;obtain⟨Z,X⟩:=j s rfl;generalize E:wrap64 (if s then-l else l)=v at X;have z:Hid (∀w,Calls prog 169 #[.int .u64 l,.bool (!(decide (a<0)==decide (b<0)))] w fun e w'=>e= .returned (.tuple #[i_ v,.bool (fits t)])∧w'=w):=fun w=>by
   have k:=b0R l s N (by omega) w;rw[Z,E]at k;have S:(!(decide (a<0)==decide (b<0)))=s:=R;rw[S];exact k
  have u:=h__ X;clear T U V r g n o ta tb D i L M j Z X J O d E;by_cases A:0<p
  ·have Ae:decide ((9223372036854775808:Int)/(p:Int)<(q:Int))=false:=m (by simp;omega);have P:decide ((0:Int)<(p:Int))=true:=by simp;omega
   clear m;go_enter func152,ntmps152;go_upto_region 2 with(first|(go_at_call 48;refine(G.out _).mono ?_;rintro e F ⟨rfl,c⟩;rw[c];clear c));go_upto_region 3 with(first|(go_at_call 48;refine(H.out _).mono ?_;rintro e F ⟨rfl,c⟩;rw[c];clear c));go_wp2_with (first|(go_at_call 169;refine(z.out _).mono ?_;rintro e w2 ⟨rfl,f⟩;rw[f];clear f));go_ret2;exact⟨_,rfl,u.out,rfl⟩
  ·have P:decide ((0:Int)<(p:Int))=false:=by simp;omega
   clear m;go_enter func152,ntmps152;go_upto_region 2 with(first|(go_at_call 48;refine(G.out _).mono ?_;rintro e F ⟨rfl,c⟩;rw[c];clear c));go_upto_region 3 with(first|(go_at_call 48;refine(H.out _).mono ?_;rintro e F ⟨rfl,c⟩;rw[c];clear c));go_wp2_with (first|(go_at_call 169;refine(z.out _).mono ?_;rintro e w2 ⟨rfl,f⟩;rw[f];clear f));go_ret2;exact⟨_,rfl,u.out,rfl⟩
theorem c1E(a b:Int):(a.tdiv b).natAbs=a.natAbs/b.natAbs∧((a<0↔b<0)→0≤a.tdiv b)∧(¬(a<0↔b<0)→a.tdiv b≤0)
  ∧(a.tmod b).natAbs=a.natAbs%b.natAbs∧(a<0→a.tmod b≤0)∧(¬a<0→0≤a.tmod b):=by
 have c:∀x y:Int,0≤x→0≤y→0≤x.tdiv y:=fun x y e f=>Int.tdiv_nonneg e f
 refine⟨Int.natAbs_tdiv a b,fun h=> ?_,fun h=> ?_,Int.natAbs_tmod a b,fun h=> ?_,fun h=> ?_⟩
 ·by_cases d:a<0
  ·have k:=c (-a) (-b) (by omega) (by omega);rw[Int.neg_tdiv,Int.tdiv_neg]at k;omega
  ·exact c a b (by omega) (by omega)
 ·by_cases d:a<0
  ·have k:=c (-a) b (by omega) (by omega);rw[Int.neg_tdiv]at k;omega
  ·have k:=c a (-b) (by omega) (by omega);rw[Int.tdiv_neg]at k;omega
 ·have k:=Int.tmod_nonneg (a:= -a) b (by omega);rw[Int.neg_tmod]at k;omega
 ·exact Int.tmod_nonneg b (by omega)
theorem b5Z{ab n:Int}{s:Bool}(g:n=(ab.natAbs:Int))(f:n≤9223372036854775808)(b:s=false→0≤ab)(c:s=true→ab≤0):
  ∃v,(fits ab=true→v=ab)∧∀w,Calls prog 169 #[.int .u64 n,.bool s] w fun e w'=>e= .returned (.tuple #[i_ v,.bool (fits ab)])∧w'=w:=by
 have a:=a3o ab;refine⟨wrap64 (if s then-n else n),fun d=> ?_,fun w=> ?_⟩
 ·have:=a.mp d;cases s
  ·have:=b rfl;simp only[D_,a_g];unfold wrap64;omega
  ·have:=c rfl;simp only[a_b];unfold wrap64;omega
 ·have k:=b0R n s (by omega) (by omega) w;have e:(if s then decide (n≤9223372036854775808)else decide (n<9223372036854775808))=fits ab:=by
   cases s
   ·have:=b rfl;simp only[D_,a_g];rw[M_,Y_,a];omega
   ·have:=c rfl;simp only[a_b];rw[M_,Y_,a];omega
  rw[e]at k;exact k
theorem b34(a b:Int)(C: -9223372036854775808≤a∧a≤9223372036854775807)(D: -9223372036854775808≤b∧b≤9223372036854775807)(r:b≠0)(w:World):
  Calls prog 154 #[i_ a,i_ b] w fun e w'=>∃v,e= .returned (.tuple #[i_ v,i_ (a.tmod b),.bool (fits (a.tdiv b))])∧(fits (a.tdiv b)=true→v=a.tdiv b)∧w'=w:=by
 obtain⟨G,H,I,J,L,M⟩:=c1E a b;have U:a.natAbs≤9223372036854775808:=by omega
 have V:b.natAbs≤9223372036854775808:=by omega
 have A:0<b.natAbs:=by omega
 have d:(!(decide (a<0)==decide (b<0)))=false↔(a<0↔b<0):=by by_cases x:a<0<;>by_cases y:b<0<;>simp[x,y]
 have t:a.natAbs/b.natAbs≤a.natAbs:=Nat.div_le_self _ _;have u:a.natAbs%b.natAbs<b.natAbs:=Nat.mod_lt _ A;have z:a.natAbs%b.natAbs≤a.natAbs:=Nat.mod_le _ _;have f:fits (a.tmod b)=true:=by rw[a3o];omega
 generalize g:a.natAbs=p at*;generalize i:b.natAbs=q at*;generalize a.tdiv b=ab at*;generalize a.tmod b=R at*;have N:=b0S C g;have O:=b0S D i;obtain⟨v,F,E⟩:=b5Z (ab:=ab) (n:=(p:Int)/(q:Int)) (s:= !(decide (a<0)==decide (b<0))) (by rw[G,b_o]) (by
  have:((p/q:Nat):Int)≤9223372036854775808:=by omega
  rwa[b_o]at this) (fun h=>H (d.mp h)) (fun h=>I (fun k=>by have:=d.mpr k;rw[h]at this;cases this))
 obtain⟨X,l,j⟩:=b5Z (ab:=R) (n:=(p:Int)%(q:Int)) (s:=decide (a<0)) (by rw[J,Int.natCast_emod]) (by
  have:((p%q:Nat):Int)≤9223372036854775808:=by omega
  rwa[Int.natCast_emod]at this) (fun h=>M (by simpa using h)) (fun h=>L (by simpa using h))
 have S:=l f;subst S;have c:IntKind.u64.wrap ((p:Int)/(q:Int))=(p:Int)/(q:Int):=by
  rw[b0Y,←b_o];omega
 have m:Hid (∀w,Calls prog 169 #[.int .u64 (IntKind.u64.wrap ((p:Int)/(q:Int))),.bool (!(decide (a<0)==decide (b<0)))] w fun e w'=>e= .returned (.tuple #[i_ v,.bool (fits ab)])∧w'=w):=by rw[c];exact E
 have o:=h__ j;have P:=h__ F;have T:(0:Int)<(q:Int):=by omega
 clear G H I J L M d t u z f g i F E l j C D r c;go_enter func154,ntmps154;go_upto_region 2 with(first|(go_at_call 48;refine(N.out _).mono ?_;rintro e B ⟨rfl,c⟩;rw[c];clear c));go_upto_region 3 with(first|(go_at_call 48;refine(O.out _).mono ?_;rintro e B ⟨rfl,c⟩;rw[c];clear c));go_upto_region 4 with(first|(go_at_call 169;refine(m.out _).mono ?_;rintro e B ⟨rfl,c⟩;rw[c];clear c));go_wp2_with (first|(go_at_call 169;refine(o.out _).mono ?_;rintro e B ⟨rfl,c⟩;rw[c];clear c));refine m_ (results_tmp3 rfl _ _ _) rfl ?_;exact⟨_,rfl,P.out,rfl⟩
theorem c3B(a b:Int)(c: -9223372036854775808≤a∧a≤9223372036854775807)(d: -9223372036854775808≤b∧b≤9223372036854775807)(w:World):
  Calls prog 150 #[i_ a,i_ b] w fun e w'=>∃v,e= .returned (.tuple #[i_ v,.bool (fits (a+b))])∧(fits (a+b)=true→v=a+b)∧w'=w:=by
 refine(c1l a b c d w).mono ?_;rintro e w' ⟨rfl,rfl⟩;exact⟨_,rfl,fun h=>b0a _ ((a3o _).mp h),rfl⟩
theorem c47(a b:Int)(c: -9223372036854775808≤a∧a≤9223372036854775807)(d: -9223372036854775808≤b∧b≤9223372036854775807)(w:World):
  Calls prog 151 #[i_ a,i_ b] w fun e w'=>∃v,e= .returned (.tuple #[i_ v,.bool (fits (a-b))])∧(fits (a-b)=true→v=a-b)∧w'=w:=by
 refine(c3d a b c d w).mono ?_;rintro e w' ⟨rfl,rfl⟩;exact⟨_,rfl,fun h=>b0a _ ((a3o _).mp h),rfl⟩
theorem b11(b:Bool)(w:World):
  Calls prog 153 #[.bool b] w fun e w'=>e= .returned (i_ (if b then 1 else 0))∧w'=w:=by
 cases b
 ·go_enter func153,ntmps153;go_wp2_with fail;go_ret;exact⟨rfl,rfl⟩
 ·go_enter func153,ntmps153;go_wp2_with fail;go_ret;exact⟨rfl,rfl⟩
theorem c6c(c:UInt8)(x y:Vl)(h:(x.fault==0)=false):a1U 114 #[.int .u8 c.toNat,vlV x,vlV y] x:=by
 intro w;obtain⟨b,a⟩:=x;obtain⟨e,d⟩:=y;simp only at h;go_enter func114,ntmps114;go_wp2_with fail;exact m_ (v:=vlV ⟨b,a⟩) (by simp[results,results114,go_sem]) rfl ⟨rfl,by exact(((g_ _ _).alloc (a_ _) _).alloc (by simp) _).alloc (by simp;omega) _⟩
theorem c4H(c:UInt8)(a:Int)(y:Vl)(h:(y.fault==0)=false):a1U 114 #[.int .u8 c.toNat,vlV ⟨a,0⟩,vlV y] y:=by
 intro w;obtain⟨d,b⟩:=y;simp only at h;go_enter func114,ntmps114;go_wp2_with fail;exact m_ (v:=vlV ⟨d,b⟩) (by simp[results,results114,go_sem]) rfl ⟨rfl,by exact(((g_ _ _).alloc (a_ _) _).alloc (by simp) _).alloc (by simp;omega) _⟩
theorem c61(a b:Int)(k: -9223372036854775808≤a∧a≤9223372036854775807)(l: -9223372036854775808≤b∧b≤9223372036854775807):a1U 114 #[.int .u8 43,vlV ⟨a,0⟩,vlV ⟨b,0⟩] (a1X (a+b)):=by
 intro w;have g:=c3B a b k l;have i:a1X (a+b)=if fits (a+b)then⟨a+b,0⟩else⟨0,1⟩:=rfl;generalize a1X (a+b)=r at*;generalize a+b=s at*;cases d:fits s with
 |true=>
  rw[d,n_ rfl]at i;subst i;have j:Hid (∀w,Calls prog 150 #[i_ a,i_ b] w fun e f=>e= .returned (.tuple #[i_ s,T__])∧f=w):=fun w=>by
   refine(g w).mono ?_;rintro e f ⟨v,rfl,h,rfl⟩;rw[d,h d];exact⟨rfl,rfl⟩
  clear g d k l;go_enter func114,ntmps114;go_wp2_with (first|(go_at_call 150;refine(j.out _).mono ?_;rintro e m ⟨rfl,c⟩;rw[c];clear c));exact m_ (v:=vlV ⟨s,0⟩) (by simp[results,results114,go_sem]) rfl ⟨rfl,by exact(((g_ _ _).alloc (a_ _) _).alloc (by simp) _).alloc (by simp;omega) _⟩
 |false=>
  rw[d,f_ (by simp)]at i;subst i;have j:Hid (∀w,Calls prog 150 #[i_ a,i_ b] w fun e f=>∃v,e= .returned (.tuple #[i_ v,F__])∧f=w):=fun w=>by
   refine(g w).mono ?_;rintro e f ⟨v,rfl,h,rfl⟩;rw[d];exact⟨v,rfl,rfl⟩
  clear g d k l;go_enter func114,ntmps114;go_wp2_with (first|(go_at_call 150;refine(j.out _).mono ?_;rintro e m ⟨v,rfl,c⟩;rw[c];clear c));exact m_ (v:=vlV ⟨0,1⟩) (by simp[results,results114,go_sem]) rfl ⟨rfl,by exact(((g_ _ _).alloc (a_ _) _).alloc (by simp) _).alloc (by simp;omega) _⟩
theorem c65(a b:Int)(k: -9223372036854775808≤a∧a≤9223372036854775807)(l: -9223372036854775808≤b∧b≤9223372036854775807):a1U 114 #[.int .u8 45,vlV ⟨a,0⟩,vlV ⟨b,0⟩] (a1X (a-b)):=by
 intro w;have g:=c47 a b k l;have i:a1X (a-b)=if fits (a-b)then⟨a-b,0⟩else⟨0,1⟩:=rfl;generalize a1X (a-b)=r at*;generalize a-b=s at*;cases d:fits s with
 |true=>
  rw[d,n_ rfl]at i;subst i;have j:Hid (∀w,Calls prog 151 #[i_ a,i_ b] w fun e f=>e= .returned (.tuple #[i_ s,T__])∧f=w):=fun w=>by
   refine(g w).mono ?_;rintro e f ⟨v,rfl,h,rfl⟩;rw[d,h d];exact⟨rfl,rfl⟩
  clear g d k l;go_enter func114,ntmps114;go_wp2_with (first|(go_at_call 151;refine(j.out _).mono ?_;rintro e m ⟨rfl,c⟩;rw[c];clear c));exact m_ (v:=vlV ⟨s,0⟩) (by simp[results,results114,go_sem]) rfl ⟨rfl,by exact(((g_ _ _).alloc (a_ _) _).alloc (by simp) _).alloc (by simp;omega) _⟩
 |false=>
  rw[d,f_ (by simp)]at i;subst i;have j:Hid (∀w,Calls prog 151 #[i_ a,i_ b] w fun e f=>∃v,e= .returned (.tuple #[i_ v,F__])∧f=w):=fun w=>by
   refine(g w).mono ?_;rintro e f ⟨v,rfl,h,rfl⟩;rw[d];exact⟨v,rfl,rfl⟩
  clear g d k l;go_enter func114,ntmps114;go_wp2_with (first|(go_at_call 151;refine(j.out _).mono ?_;rintro e m ⟨v,rfl,c⟩;rw[c];clear c));exact m_ (v:=vlV ⟨0,1⟩) (by simp[results,results114,go_sem]) rfl ⟨rfl,by exact(((g_ _ _).alloc (a_ _) _).alloc (by simp) _).alloc (by simp;omega) _⟩
theorem c63(a b:Int)(k: -9223372036854775808≤a∧a≤9223372036854775807)(l: -9223372036854775808≤b∧b≤9223372036854775807):a1U 114 #[.int .u8 42,vlV ⟨a,0⟩,vlV ⟨b,0⟩] (a1X (a*b)):=by
 intro w;have g:=c3j a b k l;have i:a1X (a*b)=if fits (a*b)then⟨a*b,0⟩else⟨0,1⟩:=rfl;generalize a1X (a*b)=r at*;generalize a*b=s at*;cases d:fits s with
 |true=>
  rw[d,n_ rfl]at i;subst i;have j:Hid (∀w,Calls prog 152 #[i_ a,i_ b] w fun e f=>e= .returned (.tuple #[i_ s,T__])∧f=w):=fun w=>by
   refine(g w).mono ?_;rintro e f ⟨v,rfl,h,rfl⟩;rw[d,h d];exact⟨rfl,rfl⟩
  clear g d k l;go_enter func114,ntmps114;go_wp2_with (first|(go_at_call 152;refine(j.out _).mono ?_;rintro e m ⟨rfl,c⟩;rw[c];clear c));exact m_ (v:=vlV ⟨s,0⟩) (by simp[results,results114,go_sem]) rfl ⟨rfl,by exact(((g_ _ _).alloc (a_ _) _).alloc (by simp) _).alloc (by simp;omega) _⟩
 |false=>
  rw[d,f_ (by simp)]at i;subst i;have j:Hid (∀w,Calls prog 152 #[i_ a,i_ b] w fun e f=>∃v,e= .returned (.tuple #[i_ v,F__])∧f=w):=fun w=>by
   refine(g w).mono ?_;rintro e f ⟨v,rfl,h,rfl⟩;rw[d];exact⟨v,rfl,rfl⟩
  clear g d k l;go_enter func114,ntmps114;go_wp2_with (first|(go_at_call 152;refine(j.out _).mono ?_;rintro e m ⟨v,rfl,c⟩;rw[c];clear c));exact m_ (v:=vlV ⟨0,1⟩) (by simp[results,results114,go_sem]) rfl ⟨rfl,by exact(((g_ _ _).alloc (a_ _) _).alloc (by simp) _).alloc (by simp;omega) _⟩
theorem c7w(a b:Int):a1U 114 #[.int .u8 60,vlV ⟨a,0⟩,vlV ⟨b,0⟩] ⟨if a<b then 1 else 0,0⟩:=by
 intro w;have d:=b11 (decide (a<b));have f:(if(decide (a<b))=true then(1:Int)else 0)=if a<b then 1 else 0:=by simp
 rw[f]at d;generalize (if a<b then(1:Int)else 0)=s at*;have g:=h__ d;clear d f;go_enter func114,ntmps114;go_wp2_with (first|(go_at_call 153;refine(g.out _).mono ?_;rintro e h ⟨rfl,c⟩;rw[c];clear c));exact m_ (v:=vlV ⟨s,0⟩) (by simp[results,results114,go_sem]) rfl ⟨rfl,by exact(((g_ _ _).alloc (a_ _) _).alloc (by simp) _).alloc (by simp;omega) _⟩
theorem c7v(a b:Int):a1U 114 #[.int .u8 61,vlV ⟨a,0⟩,vlV ⟨b,0⟩] ⟨if a=b then 1 else 0,0⟩:=by
 intro w;have d:=b11 (a==b);have f:(if(a==b)=true then(1:Int)else 0)=if a=b then 1 else 0:=by simp
 rw[f]at d;generalize (if a=b then(1:Int)else 0)=s at*;have g:=h__ d;clear d f;go_enter func114,ntmps114;go_wp2_with (first|(go_at_call 153;refine(g.out _).mono ?_;rintro e h ⟨rfl,c⟩;rw[c];clear c));exact m_ (v:=vlV ⟨s,0⟩) (by simp[results,results114,go_sem]) rfl ⟨rfl,by exact(((g_ _ _).alloc (a_ _) _).alloc (by simp) _).alloc (by simp;omega) _⟩
theorem c6d(c:UInt8)(b:((c.toNat:Int)==43)=false)(d:((c.toNat:Int)==45)=false)(e:((c.toNat:Int)==42)=false)(f:((c.toNat:Int)==60)=false)(g:((c.toNat:Int)==61)=false)(a:Int):a1U 114 #[.int .u8 c.toNat,vlV ⟨a,0⟩,vlV ⟨0,0⟩] ⟨0,2⟩:=by
 intro w;go_enter func114,ntmps114;go_wp2_with fail;exact m_ (v:=vlV ⟨0,2⟩) (by simp[results,results114,go_sem]) rfl ⟨rfl,by exact(((g_ _ _).alloc (a_ _) _).alloc (by simp) _).alloc (by simp;omega) _⟩
theorem c62(a b:Int)(l: -9223372036854775808≤a∧a≤9223372036854775807)(n: -9223372036854775808≤b∧b≤9223372036854775807)(d:b≠0):a1U 114 #[.int .u8 47,vlV ⟨a,0⟩,vlV ⟨b,0⟩] (a1X (a.tdiv b)):=by
 intro w;have i:=b34 a b l n d;have j:a1X (a.tdiv b)=if fits (a.tdiv b)then⟨a.tdiv b,0⟩else⟨0,1⟩:=rfl;have p:(b==0)=false:=by simpa using d
 generalize a1X (a.tdiv b)=r at*;generalize a.tdiv b=s at*;generalize a.tmod b=m at*;cases f:fits s with
 |true=>
  rw[f,n_ rfl]at j;subst j;have k:Hid (∀w,Calls prog 154 #[i_ a,i_ b] w fun e g=>e= .returned (.tuple #[i_ s,i_ m,T__])∧g=w):=fun w=>by
   refine(i w).mono ?_;rintro e g ⟨v,rfl,h,rfl⟩;rw[f,h f];exact⟨rfl,rfl⟩
  clear i f l n d;go_enter func114,ntmps114;go_wp2_with (first|(go_at_call 154;refine(k.out _).mono ?_;rintro e o ⟨rfl,c⟩;rw[c];clear c));exact m_ (v:=vlV ⟨s,0⟩) (by simp[results,results114,go_sem]) rfl ⟨rfl,by exact(((g_ _ _).alloc (a_ _) _).alloc (by simp) _).alloc (by simp;omega) _⟩
 |false=>
  rw[f,f_ (by simp)]at j;subst j;have k:Hid (∀w,Calls prog 154 #[i_ a,i_ b] w fun e g=>∃v,e= .returned (.tuple #[i_ v,i_ m,F__])∧g=w):=fun w=>by
   refine(i w).mono ?_;rintro e g ⟨v,rfl,h,rfl⟩;rw[f];exact⟨v,rfl,rfl⟩
  clear i f l n d;go_enter func114,ntmps114;go_wp2_with (first|(go_at_call 154;refine(k.out _).mono ?_;rintro e o ⟨v,rfl,c⟩;rw[c];clear c));exact m_ (v:=vlV ⟨0,1⟩) (by simp[results,results114,go_sem]) rfl ⟨rfl,by exact(((g_ _ _).alloc (a_ _) _).alloc (by simp) _).alloc (by simp;omega) _⟩
theorem c64(c:UInt8)(o:((c.toNat:Int)==43)=false)(p:((c.toNat:Int)==45)=false)(r:((c.toNat:Int)==42)=false)(s:((c.toNat:Int)==60)=false)(t:((c.toNat:Int)==61)=false)(u:((c.toNat:Int)==47)=false)(a b:Int)(i: -9223372036854775808≤a∧a≤9223372036854775807)(j: -9223372036854775808≤b∧b≤9223372036854775807)(d:b≠0):a1U 114 #[.int .u8 c.toNat,vlV ⟨a,0⟩,vlV ⟨b,0⟩] ⟨a.tmod b,0⟩:=by
 intro w;have g:=b34 a b i j d;have n:(b==0)=false:=by simpa using d
 generalize a.tmod b=m at*;have l:Hid (∀w,Calls prog 154 #[i_ a,i_ b] w fun e k=>∃v q,e= .returned (.tuple #[i_ v,i_ m,.bool q])∧k=w):=fun w=>by
  refine(g w).mono ?_;rintro e k ⟨v,rfl,h,rfl⟩;exact⟨v,_,rfl,rfl⟩
 clear g i j d;go_enter func114,ntmps114;go_wp2_with (first|(go_at_call 154;refine(l.out _).mono ?_;rintro e x ⟨v,q,rfl,f⟩;rw[f];clear f));exact m_ (v:=vlV ⟨m,0⟩) (by simp[results,results114,go_sem]) rfl ⟨rfl,by exact(((g_ _ _).alloc (a_ _) _).alloc (by simp) _).alloc (by simp;omega) _⟩
theorem c1t{c k:UInt8} :((c.toNat:Int)==(k.toNat:Int))=(c==k):=by
 rw[M_];simp only[b_k];constructor
 ·intro h;exact a_p.mp (by omega)
 ·rintro rfl;rfl
theorem a9u(c:UInt8)(x y:Vl)(q:a0S x)(r:a0S y):a1U 114 #[.int .u8 c.toNat,vlV x,vlV y] (opC c x y):=by
 unfold opC;by_cases x0:x.fault=0
 ·rw[f_ (by simpa using x0)];by_cases i:y.fault=0
  ·rw[f_ (by simpa using i)];have a:=q.num;have b:=r.num;obtain⟨f,s⟩:=x;obtain⟨g,t⟩:=y;simp only at x0 i a b⊢;subst x0;subst i;have e:∀k:UInt8,(c==k)=false→((c.toNat:Int)==(k.toNat:Int))=false:=fun k h=>by rw[c1t];exact h
   cases j:c==43 with
   |true=>have:=a_S j;subst this;exact c61 f g a b
   |false=>
   cases l:c==45 with
   |true=>have:=a_S l;subst this;exact c65 f g a b
   |false=>
   cases m:c==42 with
   |true=>have:=a_S m;subst this;exact c63 f g a b
   |false=>
   cases n:c==60 with
   |true=>have:=a_S n;subst this;exact c7w f g
   |false=>
   cases o:c==61 with
   |true=>have:=a_S o;subst this;exact c7v f g
   |false=>
   simp only[D_,a_g];by_cases d:g=0
   ·subst d;have k:=c6d c (e 43 j) (e 45 l) (e 42 m) (e 60 n) (e 61 o) f;simpa[a6M,a7J]using k
   ·cases p:c==47 with
    |true=>
     have:=a_S p;subst this;have k:=c62 f g a b d;simp only[a_b,a6M,f_ d];exact k
    |false=>
     have k:=c64 c (e 43 j) (e 45 l) (e 42 m) (e 60 n) (e 61 o) (e 47 p) f g a b d;simp only[D_,a_g,a7J,f_ d];exact k
  ·rw[n_ i];obtain⟨f,s⟩:=x;simp only at x0;subst x0;exact c4H c f y (by simpa using i)
 ·rw[n_ x0];exact c6c c x y (by simpa using x0)
end Go.Proofs.YtdgmoiflahoihaaGreatDoor
