import Derived.Test.YtdgmoiflahoihaaGreatDoorBDPw

set_option linter.unusedSimpArgs false
set_option linter.unusedVariables false
set_option maxRecDepth 100000
set_option maxHeartbeats 8000000
namespace Go.Proofs.YtdgmoiflahoihaaGreatDoor
open Go.Proofs.Tryz
open Go.RowKit
structure a0H(w:World)(b:Nat)(s:ByteArray)(x:Sc):Prop where
 p:∃p:Nat,p≤s.size∧s.data.toList.drop p=x.rest∧w.cell? ⟨b,1,none⟩=some (.int .i64 p)
 c0:w.cell? ⟨b,0,none⟩=some (.string s)
 c2:w.cell? ⟨b,2,none⟩=some (.bool x.bad)
 fz:∀o,w.frozen? ⟨b,o,none⟩=false
theorem a0H.drewN{w:World}{b:Nat}{s:ByteArray}{x:Sc}(h:a0H w b s x)(n:Nat):a0H (w.drewN n) b s x:=by
 obtain⟨⟨p,e,f,g⟩,a,c,d⟩:=h;exact⟨⟨p,e,f,g⟩,a,c,d⟩
theorem b2P{s:ByteArray}{p:Nat}{r:List UInt8}(c:p≤s.size)(h:s.data.toList.drop p=r):(r.isEmpty=true↔p=s.size)∧(∀a:p<s.size,r=s[p]::s.data.toList.drop (p+1)):=by
 have b:s.data.toList.length=s.size:=by simp
 constructor
 ·rw[a_9,←h,List.drop_eq_nil_iff];omega
 ·intro a;rw[←h,u_ (by omega)];rfl
theorem b1c(b:Nat)(s:ByteArray)(x:Sc)(w:World)(h:a0H w b s x)(l:s.size≤100000000):
  Calls prog 96 #[.pointer (some (a__ b 0))] w fun e w'=>e= .returned (.bool x.rest.isEmpty)∧∃n,w'=w.drewN n:=by
 obtain⟨⟨p,d,f,i⟩,g,j,k⟩:=h;have a:decide ((s.size:Int)≤(p:Int))=x.rest.isEmpty:=by
  rw[M_,(b2P d f).1,Y_];omega
 generalize x.rest.isEmpty=e at a;have c:=h__ a;clear a;go_enter func96,ntmps96;go_wp2_with fail;go_quiet (fail)
 go_wp2
 go_ret;exact⟨a3d (by have:=c.out;rw[←this];simp),_,rfl⟩
theorem a8t(b:Nat)(s:ByteArray)(x:Sc)(lo hi:UInt8)(w:World)(h:a0H w b s x)(r:s.size≤100000000):
  Calls prog 189 #[.pointer (some (a__ b 0)),.int .u8 lo.toNat,.int .u8 hi.toNat] w fun e w'=>e= .returned (.bool (x.sees lo hi))∧∃n,w'=w.drewN n:=by
 have g:=h__ h;obtain⟨⟨p,A,B,o⟩,t,y,z⟩:=h;obtain⟨k,l⟩:=b2P A B;by_cases m:p<s.size
 ·have c:=l m;have i:x.rest.isEmpty=false:=by rw[c];rfl
  have d:x.sees lo hi=(decide (lo≤s[p])&&decide (s[p]≤hi)):=by unfold Sc.sees;rw[c]
  rw[d];clear d c k l;have q:(p:Int)<(s.size:Int):=by omega
  have C:(p:Int)≤(s.size:Int):=by omega
  go_enter func189,ntmps189;go_wp2_with (go_at_call 96;refine(b1c b s x _ g.out r).mono ?_;rintro e j ⟨rfl,a⟩;rw[i];have f:a0H j b s x:=by obtain⟨n,rfl⟩:=a;exact g.out.drewN n);have u:j.cell? (a__ b 0)=some (.string s):=f.c0;have v:j.cell? (a__ b 1)=some (i_ p):=by obtain⟨n,rfl⟩:=a;exact o
  clear f g t o y z i;go_quiet (fail)
  go_wp2
  all_goals go_ret
  all_goals (refine⟨a3d ?_,by obtain⟨n,rfl⟩:=a;exact⟨_,World.drewN_drewN ..⟩⟩;simp[H_];omega)
 ·have c:x.rest= []:=a_9.mp (k.mpr (by omega));have i:x.rest.isEmpty=true:=by rw[c];rfl
  have d:x.sees lo hi=false:=by unfold Sc.sees;rw[c]
  rw[d];clear d c k l;go_enter func189,ntmps189;go_wp2_with (go_at_call 96;refine(b1c b s x _ g.out r).mono ?_;rintro e j ⟨rfl,a⟩;rw[i]);go_ret;exact⟨rfl,a⟩
theorem b1g(b:Nat)(s:ByteArray)(x:Sc)(c:UInt8)(w:World)(h:a0H w b s x)(d:s.size≤100000000):
  Calls prog 170 #[.pointer (some (a__ b 0)),.int .u8 c.toNat] w fun e w'=>e= .returned (.bool (x.sees c c))∧∃n,w'=w.drewN n:=by
 have a:=h__ h;clear h;go_enter func170,ntmps170;go_wp2_with (go_at_call 189;refine(a8t b s x c c _ a.out d).mono ?_;rintro e w' ⟨rfl,n,rfl⟩);go_ret;exact⟨rfl,n,rfl⟩
theorem b3e(b:Nat)(s:ByteArray)(x:Sc)(w:World)(h:a0H w b s x):
  Calls prog 190 #[.pointer (some (a__ b 0))] w fun e w'=>e= .returned (.tuple #[])∧a0H w' b s ⟨x.rest,true⟩∧But b w w':=by
 obtain⟨⟨p,g,i,c⟩,a,d,f⟩:=h;go_enter func190,ntmps190
 go_wp2
 go_end0;refine⟨rfl,⟨⟨p,g,i,?_⟩,?_,?_,?_⟩,(But.refl _ _).set 2 _⟩;all_goals simp[go_sem,a,c,d,f]
theorem a8u(b:Nat)(s:ByteArray)(x:Sc)(lo hi:UInt8)(w:World)(h:a0H w b s x)(J:s.size≤100000000):
  Calls prog 172 #[.pointer (some (a__ b 0)),.int .u8 lo.toNat,.int .u8 hi.toNat] w fun e w'=>e= .returned (i_ ((x.take lo hi).1:Nat))∧a0H w' b s (x.take lo hi).2∧But b w w':=by
 have i:=h__ h;obtain⟨⟨p,L,M,t⟩,m,v,B⟩:=h;obtain⟨z,A⟩:=b2P L M;cases a:x.sees lo hi
 ·have k:x.take lo hi=(0,⟨x.rest,true⟩):=by
   unfold Sc.sees at a;unfold Sc.take
   split
   ·rename_i e;rw[e]
   ·rename_i c r e;rw[e]at a⊢;simp only at a;rw[f_ (by rw[a];exact b_v)]
  rw[k];clear k z A m t v B;go_enter func172,ntmps172;go_wp2_with fail;refine(a8t b s x lo hi _ i.out J).mono ?_;rintro e g ⟨rfl,n,rfl⟩;rw[a];go_wp2_with fail;refine(b3e b s x _ (by first|exact i.out.drewN _|exact i.out)).mono ?_;rintro e O ⟨rfl,F,E⟩;go_wp2_with fail;go_ret;exact⟨rfl,F,((But.refl _ _).drewN n).trans E⟩
 ·have f:p<s.size:=by
   by_cases f:p<s.size
   ·exact f
   ·have j:x.rest= []:=a_9.mp (z.mpr (by omega));unfold Sc.sees at a;rw[j]at a;cases a
  have j:=A f;have l:(decide (lo≤s[p])&&decide (s[p]≤hi))=true:=by unfold Sc.sees at a;rw[j]at a;exact a
  have H:lo.toNat≤s[p].toNat:=by
   rw[Z_,a_e]at l;exact H_.mp l.1
  have k:x.take lo hi=(s[p].toNat-lo.toNat,⟨s.data.toList.drop (p+1),x.bad⟩):=by
   unfold Sc.take;rw[j];simp only;rw[n_ l]
  rw[k];clear k l j z A;have N:=s[p].toNat_lt;have G:((s[p].toNat-lo.toNat:Nat):Int)=(s[p].toNat:Int)-(lo.toNat:Int):=by omega
  simp only[G];clear G;go_enter func172,ntmps172;go_wp2_with fail;refine(a8t b s x lo hi _ i.out J).mono ?_;rintro e g ⟨rfl,d⟩;rw[a];have D:But b w g:=by obtain⟨n,rfl⟩:=d;exact(But.refl _ _).drewN n
  have q:g.cell? (a__ b 0)=some (.string s):=by obtain⟨n,rfl⟩:=d;exact m
  have u:g.cell? (a__ b 1)=some (i_ p):=by obtain⟨n,rfl⟩:=d;exact t
  have y:g.cell? (a__ b 2)=some (.bool x.bad):=by obtain⟨n,rfl⟩:=d;exact v
  have C:∀o,g.frozen? (a__ b o)=false:=by obtain⟨n,rfl⟩:=d;exact B
  clear d i m t v B;go_wp2_with fail;have I:(p:Int)<(s.size:Int):=by omega
  go_quiet (fail);go_wp2_with fail;go_ret;refine⟨rfl,⟨⟨p+1,by omega,rfl,?_⟩,?_,?_,?_⟩,D.trans (((But.refl _ _).drewN _).set 1 _)⟩;all_goals simp[go_sem,q,u,y,C]
theorem a66(b:Nat)(s:ByteArray)(x:Sc)(c:UInt8)(w:World)(h:a0H w b s x)(g:s.size≤100000000):
  Calls prog 129 #[.pointer (some (a__ b 0)),.int .u8 c.toNat] w fun e w'=>e= .returned (.tuple #[])∧a0H w' b s (x.take c c).2∧But b w w':=by
 have a:=h__ h;clear h;go_enter func129,ntmps129;go_wp2_with (go_at_call 172;refine(a8u b s x c c _ a.out g).mono ?_;rintro e w' ⟨rfl,f,d⟩);go_end0;exact⟨rfl,f,d⟩
theorem b1d(B:Nat):∀(r:List UInt8) (v:Nat),v≤B→(a2h B r v).1≤B
 | [],v,h=>h
 |c::r,v,h=>by
  unfold a2h
  split
  ·split
   ·exact a_j _
   ·exact b1d B r _ (by omega)
  ·exact h
theorem c29(x:Sc):(x.take 49 57).1≤8:=by
 unfold Sc.take
 split
 ·exact a_j _
 ·rename_i c r e
  split
  ·rename_i h;rw[Z_,a_e,a_e,H_,H_]at h;have a:(49:UInt8).toNat=49:=rfl;have b:(57:UInt8).toNat=57:=rfl;rw[a,b]at h;simp only;rw[a];omega
  ·exact a_j _
theorem a9I(x:Sc){B:Nat}(a:9≤B):(x.minus B).1≤B:=by
 have:=c29 x;unfold Sc.minus;exact b1d B _ _ (by omega)
theorem b7E(x:Sc){B:Nat}(a:9≤B):(x.number B).1≤B:=by
 unfold Sc.number
 split
 ·exact a_j _
 ·exact a9I x a
theorem a0H.len{w:World}{b:Nat}{s:ByteArray}{x:Sc}(h:a0H w b s x):∃p:Nat,p+x.rest.length=s.size∧w.cell? (a__ b 1)=some (i_ p):=by
 obtain⟨⟨p,d,a,c⟩,_⟩:=h;refine⟨p,?_,c⟩;rw[←a,List.length_drop];have:s.data.toList.length=s.size:=by simp
 omega
theorem c20{x:Sc}(h:x.sees 48 57=true):∃c r,x.rest=c::r∧a3f c=true∧x.take 48 57=(c.toNat-48,⟨r,x.bad⟩):=by
 unfold Sc.sees at h
 split at h
 ·cases h
 ·rename_i c r e;refine⟨c,r,e,h,?_⟩;unfold Sc.take;rw[e];simp only;rw[n_ h];rfl
theorem c21{x:Sc}(B k:Nat)(h:x.sees 48 57=false):a2h B x.rest k=(k,x.rest,false):=by
 unfold Sc.sees at h
 split at h
 ·rename_i e;rw[e];rfl
 ·rename_i c r e;rw[e,a2h,f_ (by unfold a3f;rw[h];exact b_v)]
theorem b2a(b:Nat)(s:ByteArray)(x:Sc)(B:Nat)(w:World)(h:a0H w b s x)(hs:s.size≤100000000)(hB:9≤B)(Ae:B≤9223372036854775808):
  Calls prog 171 #[.pointer (some (a__ b 0)),i_ (-(B:Int))] w fun e w'=>e= .returned (i_ (-((x.minus B).1:Int)))∧a0H w' b s (x.minus B).2∧But b w w':=by
 have HH:=h__ h;clear h;have Y:=c29 x;have HR:Hid (((a2h B (x.take 49 57).2.rest ((x.take 49 57).1+1)).1,Sc.mk (a2h B (x.take 49 57).2.rest ((x.take 49 57).1+1)).2.1 ((x.take 49 57).2.bad||(a2h B (x.take 49 57).2.rest ((x.take 49 57).1+1)).2.2))=x.minus B):=rfl;have HT:Hid (∀w,a0H w b s x→Calls prog 172 #[.pointer (some (a__ b 0)),.int .u8 49,.int .u8 57] w fun e w'=>e= .returned (i_ ((x.take 49 57).1:Nat))∧a0H w' b s (x.take 49 57).2∧But b w w'):=fun w h=>a8u b s x 49 57 w h hs
 generalize x.minus B=R at*;generalize x.take 49 57=y at*;obtain⟨d,y⟩:=y;simp only at HR HT Y;go_enter func171,ntmps171;go_wp2_with (go_at_call 172;refine(HT.out _ HH.out).mono ?_;rintro e w1 ⟨rfl,N,L⟩;have T:=h__ N;have S:=h__ L;clear N L);go_loopw [5] (fun v w'=>∃(k:Nat) (z:Sc),v=i_ (-(k:Int))∧1≤k∧k≤B∧Hid (a0H w' b s z)∧Hid (But b w w')∧Hid (((a2h B z.rest k).1,Sc.mk (a2h B z.rest k).2.1 (z.bad||(a2h B z.rest k).2.2))=R)) (fun _ w'=>s.size-(intOf ((w'.cell? (a__ b 1)).getD undef)).toNat);case atStart=>exact⟨d+1,y,by go_num,by omega,by omega,T,S,HR⟩
 case round=>
  obtain⟨k,z,rfl,Af,Ag,F,U,P⟩:=hrel;have m:Hid (∀w,a0H w b s z→Calls prog 189 #[.pointer (some (a__ b 0)),.int .u8 48,.int .u8 57] w fun e w'=>e= .returned (.bool (z.sees 48 57))∧∃n,w'=w.drewN n):=fun w h=>a8t b s z 48 57 w h hs
  cases l:z.sees 48 57
  ·have Z:R=(k,z):=by rw[←P.out,c21 B k l];simp
   subst Z;rw[l]at m;go_wp2_with (go_at_call 189;refine(m.out _ F.out).mono ?_;rintro e I ⟨rfl,n,j⟩);go_ret;subst j;exact⟨rfl,F.out.drewN n,U.out.drewN n⟩
  ·obtain⟨c,r,e1,e2,e3⟩:=c20 l;obtain⟨A,f1,f2,f3⟩:=b2N e2;rw[l]at m;have J:Hid (∀w,a0H w b s z→Calls prog 172 #[.pointer (some (a__ b 0)),.int .u8 48,.int .u8 57] w fun e w'=>e= .returned (i_ (A:Nat))∧a0H w' b s ⟨r,z.bad⟩∧But b w w'):=fun w h=>by
    have:=a8u b s z 48 57 w h hs;rw[e3,f3]at this;exact this
   have H:=P.out;rw[e1,a2h,n_ e2,f3]at H;have hq:((-(B:Int)+(A:Int)).tdiv 10)= -(((B-A)/10:Nat):Int):=by
    rw[show(-(B:Int)+(A:Int))= -((B-A:Nat):Int)by omega,Int.neg_tdiv];rfl
   obtain⟨p,Aa,Ab⟩:=F.out.len;rw[e1,B_]at Aa;by_cases C:B<10*k+A
   ·rw[n_ C]at H;have Z:R=(0,⟨r,true⟩):=by rw[←H];simp
    subst Z;have tb:decide (-(k:Int)< -(((B-A)/10:Nat):Int))=true:=by rw[Y_];omega
    clear H P;go_wp2_with (first|(go_at_call 189;refine(m.out _ F.out).mono ?_;rintro e I ⟨rfl,n,j⟩;have G:Hid (a0H I b s z):=(by subst j;exact F.out.drewN n);have D:Hid (But b w I):=(by subst j;exact U.out.drewN n);clear j)|(go_at_call 172;refine(J.out _ G.out).mono ?_;rintro e w3 ⟨rfl,t,o⟩;have u:=h__ t;have E:Hid _:=D.out.trans o;clear t o)|(go_at_call 190;refine(b3e b s _ _ u.out).mono ?_;rintro e w4 ⟨rfl,O,M⟩;have X:=h__ O;have V:Hid _:=E.out.trans M;clear O M));go_ret;exact⟨rfl,X.out,V.out⟩
   ·rw[f_ C]at H;have HN:=h__ H;have tb:decide (-(k:Int)< -(((B-A)/10:Nat):Int))=false:=by rw[N_];omega
    clear H P;go_wp2_with (first|(go_at_call 189;refine(m.out _ F.out).mono ?_;rintro e I ⟨rfl,n,j⟩;have G:Hid (a0H I b s z):=(by subst j;exact F.out.drewN n);have D:Hid (But b w I):=(by subst j;exact U.out.drewN n);clear j)|(go_at_call 172;refine(J.out _ G.out).mono ?_;rintro e w3 ⟨rfl,t,o⟩;have u:=h__ t;have E:Hid _:=D.out.trans o;clear t o));obtain⟨p3,Ac,Ad⟩:=u.out.len;refine⟨⟨10*k+A,⟨r,z.bad⟩,by go_num,by omega,by omega,u,E,HN⟩,?_⟩;rw[Ab,Ad];simp only at Ac;simp[intOf];omega
theorem a0H.lt{w:World}{b:Nat}{s:ByteArray}{x:Sc}(h:a0H w b s x):b<w.heap.size:=r_ w _ h.c0
theorem a0H.block{w w':World}{b:Nat}{s:ByteArray}{x:Sc}(h:a0H w b s x)(c:w'.heap[b]? =w.heap[b]?):a0H w' b s x:=by
 obtain⟨⟨p,i,j,e⟩,d,f,g⟩:=h;exact⟨⟨p,i,j,(e_ (a:=(a__ b 1)) c).trans e⟩,(e_ (a:=(a__ b 0)) c).trans d,(e_ (a:=(a__ b 2)) c).trans f,fun o=>(I_ (a:=(a__ b o)) c).trans (g o)⟩
theorem a0H.alloc{w:World}{b:Nat}{s:ByteArray}{x:Sc}(h:a0H w b s x)(o:Obj):a0H (w.alloc o) b s x:=h.block (q_ _ _ _ (by have:=h.lt;omega))
theorem b1f(b:Nat)(s:ByteArray)(x:Sc)(B:Nat)(w:World)(h:a0H w b s x)(G:s.size≤100000000)(H:9≤B)(I:B≤9223372036854775807):
  Calls prog 128 #[.pointer (some (a__ b 0)),i_ (B:Int)] w fun e w'=>e= .returned (i_ ((x.number B).1:Nat))∧a0H w' b s (x.number B).2∧But b w w':=by
 have E:=h__ h;clear h;have p:Hid (∀w,a0H w b s x→Calls prog 170 #[.pointer (some (a__ b 0)),.int .u8 48] w fun e w'=>e= .returned (.bool (x.sees 48 48))∧∃n,w'=w.drewN n):=fun w h=>b1g b s x 48 w h G
 cases l:x.sees 48 48
 ·have A:x.number B=x.minus B:=by unfold Sc.number;rw[l];rfl
  have J:=a9I x H;have F:Hid (∀w,a0H w b s x→Calls prog 171 #[.pointer (some (a__ b 0)),i_ (-(B:Int))] w fun e w'=>e= .returned (i_ (-((x.minus B).1:Int)))∧a0H w' b s (x.minus B).2∧But b w w'):=fun w h=>b2a b s x B w h G H (by omega)
  rw[A];clear A;rw[l]at p;generalize x.minus B=R at*;obtain⟨n,y⟩:=R;simp only at F J;go_enter func128,ntmps128;go_wp2_with (first|(go_at_call 170;refine(p.out _ E.out).mono ?_;rintro e D ⟨rfl,C,j⟩;have u:Hid (a0H D b s x):=(by subst j;exact E.out.drewN C);have r:Hid (But b w D):=(by subst j;exact(But.refl _ _).drewN C);clear j)|(go_at_call 171;refine(F.out _ u.out).mono ?_;rintro e L ⟨rfl,o,m⟩;have z:=h__ o;have t:Hid _:=r.out.trans m;clear o m));go_ret;refine⟨?_,z.out,t.out⟩;first|rfl|(rw[Int.neg_neg])
 ·have A:x.number B=(0,(x.take 48 48).2):=by unfold Sc.number;rw[l];rfl
  have F:Hid (∀w,a0H w b s x→Calls prog 129 #[.pointer (some (a__ b 0)),.int .u8 48] w fun e w'=>e= .returned (.tuple #[])∧a0H w' b s (x.take 48 48).2∧But b w w'):=fun w h=>a66 b s x 48 w h G
  rw[A];clear A;rw[l]at p;generalize (x.take 48 48).2=y at*;go_enter func128,ntmps128;go_wp2_with (first|(go_at_call 170;refine(p.out _ E.out).mono ?_;rintro e D ⟨rfl,C,j⟩;have u:Hid (a0H D b s x):=(by subst j;exact E.out.drewN C);have r:Hid (But b w D):=(by subst j;exact(But.refl _ _).drewN C);clear j)|(go_at_call 129;refine(F.out _ u.out).mono ?_;rintro e L ⟨rfl,o,m⟩;have z:=h__ o;have t:Hid _:=r.out.trans m;clear o m));go_ret;exact⟨rfl,z.out,t.out⟩
structure BdL(w W:World)(b:Nat)(s:ByteArray)(x:Sc):Prop where
 sc:a0H W b s x
 c0:W.cell? ⟨w.heap.size,0,none⟩=some (.int .i64 0)
 c1:W.cell? ⟨w.heap.size,1,none⟩=some (.int .i64 0)
 fz:∀o,W.frozen? ⟨w.heap.size,o,none⟩=false
 but:But b w W
 size:w.heap.size+1≤W.heap.size
 lt:b<w.heap.size
theorem BdL.start{w:World}{b:Nat}{s:ByteArray}{x:Sc}(h:a0H w b s x)(t:TypeId):BdL w (w.alloc (.cells #[i_ 0,i_ 0] t)) b s x:=
 ⟨h.alloc _,by simp[go_sem],by simp[go_sem],fun o=>by simp[go_sem],(But.refl _ _).alloc _,by simp,h.lt⟩
theorem BdL.call{w W c:World}{b:Nat}{s:ByteArray}{x y:Sc}(L:BdL w W b s x)(h:a0H c b s y)(d:But b W c):BdL w c b s y:=by
 have i:=L.size;have g:=L.lt;have f:c.heap[w.heap.size]? =W.heap[w.heap.size]? :=d.block _ (by omega) (fun e=>by cases e;omega);exact⟨h,(e_ (a:=(a__ w.heap.size 0)) f).trans L.c0,(e_ (a:=(a__ w.heap.size 1)) f).trans L.c1,fun o=>(I_ (a:=(a__ w.heap.size o)) f).trans (L.fz o),L.but.trans d,K_ i d.size,g⟩
theorem BdL.drewN{w W:World}{b:Nat}{s:ByteArray}{x:Sc}(L:BdL w W b s x)(n:Nat):BdL w (W.drewN n) b s x:=L.call (L.sc.drewN n) ((But.refl _ _).drewN n)
theorem BdL.done{w W:World}{b:Nat}{s:ByteArray}{x:Sc}(L:BdL w W b s x)(u v:Value):a0H ((W.setCell (a__ w.heap.size 0) u).setCell (a__ w.heap.size 1) v) b s x∧But b w ((W.setCell (a__ w.heap.size 0) u).setCell (a__ w.heap.size 1) v):=by
 have a:=L.lt;refine⟨L.sc.block ?_,(L.but.setNew _ _ (a_ _)).setNew _ _ (a_ _)⟩;rw[o_ _ _ _ _ (by simp only;omega),o_ _ _ _ _ (by simp only;omega)]
theorem c7g(x:Sc):(x.take 49 50).1≤1:=by
 unfold Sc.take
 split
 ·exact a_j _
 ·rename_i c r e
  split
  ·rename_i h;rw[Z_,a_e,a_e,H_,H_]at h;have a:(49:UInt8).toNat=49:=rfl;have b:(50:UInt8).toNat=50:=rfl;rw[a,b]at h;simp only;rw[a];omega
  ·exact a_j _
theorem BdL.below{w W a:World}{b:Nat}{s:ByteArray}{x:Sc}(L:BdL w W b s x)(h:B__ W a):BdL w a b s x:=
 L.call (L.sc.block (h.block _ L.sc.lt)) ⟨h.os,h.tape,h.output,h.size,fun k c _=>h.block k c⟩
theorem b8B(b:Nat)(s:ByteArray)(x:Sc)(w:World)(h:a0H w b s x)(N:s.size≤100000000):
  Calls prog 130 #[.pointer (some (a__ b 0))] w fun e w'=>e= .returned (vlV x.value.1)∧a0H w' b s x.value.2∧But b w w':=by
 have u:Hid (BdL w (w.alloc (.cells #[i_ 0,i_ 0] 59)) b s x):=BdL.start h _;clear h;have C:Hid (∀w,a0H w b s x→Calls prog 170 #[.pointer (some (a__ b 0)),.int .u8 33] w fun e w'=>e= .returned (.bool (x.sees 33 33))∧∃n,w'=w.drewN n):=fun w h=>b1g b s x 33 w h N
 have J:Hid (∀w,a0H w b s x→Calls prog 170 #[.pointer (some (a__ b 0)),.int .u8 45] w fun e w'=>e= .returned (.bool (x.sees 45 45))∧∃n,w'=w.drewN n):=fun w h=>b1g b s x 45 w h N
 have Aa:Hid (∀w,a0H w b s x→Calls prog 129 #[.pointer (some (a__ b 0)),.int .u8 33] w fun e w'=>e= .returned (.tuple #[])∧a0H w' b s (x.take 33 33).2∧But b w w'):=fun w h=>a66 b s x 33 w h N
 have Ab:Hid (∀w,a0H w b s x→Calls prog 129 #[.pointer (some (a__ b 0)),.int .u8 45] w fun e w'=>e= .returned (.tuple #[])∧a0H w' b s (x.take 45 45).2∧But b w w'):=fun w h=>a66 b s x 45 w h N
 cases o:x.sees 33 33
 ·rw[o]at C;cases A:x.sees 45 45
  ·rw[A]at J;have M:x.value=(⟨((x.number 9223372036854775807).1:Nat),0⟩,(x.number 9223372036854775807).2):=by unfold Sc.value;rw[o,A];rfl
   have T:=b7E x (B:=9223372036854775807) (by decide);have L:Hid (∀w,a0H w b s x→Calls prog 128 #[.pointer (some (a__ b 0)),i_ 9223372036854775807] w fun e w'=>e= .returned (i_ ((x.number 9223372036854775807).1:Nat))∧a0H w' b s (x.number 9223372036854775807).2∧But b w w'):=fun w h=>b1f b s x 9223372036854775807 w h N (by decide) (by decide)
   rw[M];clear M o A;generalize x.number 9223372036854775807=R at*;obtain⟨n,y⟩:=R;simp only at L T;have HN:Hid (a1U 100 #[i_ n] ⟨n,0⟩):=a1a n;go_enter func130,ntmps130;go_wp2_with (first|(go_at_call 170;refine(J.out _ l.out.sc).mono ?_;rintro e wb ⟨rfl,nb,I⟩;have D:Hid (BdL w wb b s x):=(by subst I;exact l.out.drewN nb);clear I)|(go_at_call 170;refine(C.out _ u.out.sc).mono ?_;rintro e Y ⟨rfl,U,t⟩;have l:Hid (BdL w Y b s x):=(by subst t;exact u.out.drewN U);clear t)|(go_at_call 128;refine(L.out _ D.out.sc).mono ?_;rintro e Z ⟨rfl,r,p⟩;have m:Hid (BdL w Z b s y):=D.out.call r p;clear r p)|(go_at_call 100;refine(HN.out _).mono ?_;rintro e wd ⟨rfl,F⟩;have j:Hid (BdL w wd b s y):=m.out.below F;have O:=j.out.c0;have P:=j.out.c1;have S:=j.out.fz;clear F));obtain⟨V,X⟩:=j.out.done (i_ n) (i_ 0);exact m_ (v:=vlV ⟨n,0⟩) (by simp[results,results130,go_sem,O,P,S]) rfl ⟨rfl,V,X⟩
  ·rw[A]at J;have M:x.value=(⟨-(((x.take 45 45).2.minus 9223372036854775808).1:Int),0⟩,((x.take 45 45).2.minus 9223372036854775808).2):=by unfold Sc.value;rw[o,A];rfl
   rw[M];clear M o A;generalize (x.take 45 45).2=z at*;have T:=a9I z (B:=9223372036854775808) (by decide);have L:Hid (∀w,a0H w b s z→Calls prog 171 #[.pointer (some (a__ b 0)),i_ (-9223372036854775808)] w fun e w'=>e= .returned (i_ (-((z.minus 9223372036854775808).1:Int)))∧a0H w' b s (z.minus 9223372036854775808).2∧But b w w'):=fun w h=>b2a b s z 9223372036854775808 w h N (by decide) (by decide)
   generalize z.minus 9223372036854775808=R at*;obtain⟨n,y⟩:=R;simp only at L T;have HN:Hid (a1U 100 #[i_ (-(n:Int))] ⟨-(n:Int),0⟩):=a1a _;go_enter func130,ntmps130;go_wp2_with (first|(go_at_call 170;refine(J.out _ l.out.sc).mono ?_;rintro e wb ⟨rfl,nb,I⟩;have D:Hid (BdL w wb b s x):=(by subst I;exact l.out.drewN nb);clear I)|(go_at_call 170;refine(C.out _ u.out.sc).mono ?_;rintro e Y ⟨rfl,U,t⟩;have l:Hid (BdL w Y b s x):=(by subst t;exact u.out.drewN U);clear t)|(go_at_call 129;refine(Ab.out _ D.out.sc).mono ?_;rintro e wt ⟨rfl,H,G⟩;have E:Hid (BdL w wt b s z):=D.out.call H G;clear H G)|(go_at_call 171;refine(L.out _ E.out.sc).mono ?_;rintro e Z ⟨rfl,r,p⟩;have m:Hid (BdL w Z b s y):=E.out.call r p;clear r p)|(go_at_call 100;refine(HN.out _).mono ?_;rintro e wd ⟨rfl,F⟩;have j:Hid (BdL w wd b s y):=m.out.below F;have O:=j.out.c0;have P:=j.out.c1;have S:=j.out.fz;clear F));obtain⟨V,X⟩:=j.out.done (i_ (-(n:Int))) (i_ 0);exact m_ (v:=vlV ⟨-(n:Int),0⟩) (by simp[results,results130,go_sem,O,P,S]) rfl ⟨rfl,V,X⟩
 ·rw[o]at C;have M:x.value=(⟨0,1+(((x.take 33 33).2.take 49 50).1:Int)⟩,((x.take 33 33).2.take 49 50).2):=by unfold Sc.value;rw[o];rfl
  rw[M];clear M o;generalize (x.take 33 33).2=z at*;have T:=c7g z;have L:Hid (∀w,a0H w b s z→Calls prog 172 #[.pointer (some (a__ b 0)),.int .u8 49,.int .u8 50] w fun e w'=>e= .returned (i_ ((z.take 49 50).1:Nat))∧a0H w' b s (z.take 49 50).2∧But b w w'):=fun w h=>a8u b s z 49 50 w h N
  generalize z.take 49 50=R at*;obtain⟨n,y⟩:=R;simp only at L T;go_enter func130,ntmps130;go_wp2_with (first|(go_at_call 170;refine(C.out _ u.out.sc).mono ?_;rintro e Y ⟨rfl,U,t⟩;have l:Hid (BdL w Y b s x):=(by subst t;exact u.out.drewN U);clear t)|(go_at_call 129;refine(Aa.out _ l.out.sc).mono ?_;rintro e wt ⟨rfl,H,G⟩;have E:Hid (BdL w wt b s z):=l.out.call H G;clear H G)|(go_at_call 172;refine(L.out _ E.out.sc).mono ?_;rintro e Z ⟨rfl,r,p⟩;have m:Hid (BdL w Z b s y):=E.out.call r p;have O:=m.out.c0;have P:=m.out.c1;have S:=m.out.fz;clear r p));obtain⟨V,X⟩:=m.out.done (i_ 0) (i_ (1+(n:Int)));exact m_ (v:=vlV ⟨0,1+(n:Int)⟩) (by simp[results,results130,go_sem,O,P,S]) rfl ⟨rfl,V,X⟩
end Go.Proofs.YtdgmoiflahoihaaGreatDoor
