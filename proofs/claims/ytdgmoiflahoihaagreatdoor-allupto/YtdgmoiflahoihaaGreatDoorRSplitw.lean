import Derived.Test.YtdgmoiflahoihaaGreatDoorCOverw

set_option linter.unusedSimpArgs false
set_option linter.unusedVariables false
set_option maxRecDepth 100000
set_option maxHeartbeats 8000000
namespace Go.Proofs.YtdgmoiflahoihaaGreatDoor
open Go.Proofs.Tryz
open Go.RowKit
theorem c0s(p:UInt8):(((p.toNat:Int)==41)=true∧a2t p=true)∨(((p.toNat:Int)==41)=false∧a2f (p.toNat:Int)=true∧a2t p=true)
  ∨(((p.toNat:Int)==41)=false∧a2f (p.toNat:Int)=false∧a4c (p.toNat:Int)=a2t p):=by
 have c:a2f (p.toNat:Int)=nmB p:=by unfold a2f nmB;rw[M_];simp;omega
 have b:a4c (p.toNat:Int)=dgB p:=by unfold a4c dgB;rw[M_];simp;omega
 have a:((p.toNat:Int)==41)=(p==41):=by
  rw[M_];simp only[b_k];constructor
  ·intro h;exact a_p.mp (by simp;omega)
  ·rintro rfl;rfl
 rw[a,c,b];unfold a2t;cases p==41<;>cases nmB p<;>simp
theorem a5C{c k:UInt8} :((c.toNat:Int)==(k.toNat:Int))=(c==k):=by
 rw[M_];simp only[b_k];constructor
 ·intro h;exact a_p.mp (by omega)
 ·rintro rfl;rfl
theorem c1K(p:UInt8):(((p.toNat:Int)==41)=true∧a2t p=true)
  ∨(((p.toNat:Int)==41)=false∧Hid (∀w,Calls prog 115 #[i_ p.toNat] w fun e w'=>e= .returned T__∧w'=w)∧a2t p=true)
  ∨(((p.toNat:Int)==41)=false∧Hid (∀w,Calls prog 115 #[i_ p.toNat] w fun e w'=>e= .returned F__∧w'=w)∧Hid (∀w,Calls prog 145 #[i_ p.toNat] w fun e w'=>e= .returned T__∧w'=w)∧a2t p=true)
  ∨(((p.toNat:Int)==41)=false∧Hid (∀w,Calls prog 115 #[i_ p.toNat] w fun e w'=>e= .returned F__∧w'=w)∧Hid (∀w,Calls prog 145 #[i_ p.toNat] w fun e w'=>e= .returned F__∧w'=w)∧a2t p=false):=by
 have b:=a0d (p.toNat:Int);have a:=a0c (p.toNat:Int);rcases c0s p with⟨u1,u2⟩|⟨u1,u2,u3⟩|⟨u1,u2,u3⟩
 ·exact .inl ⟨u1,u2⟩
 ·rw[u2]at b;exact .inr (.inl ⟨u1,b,u3⟩)
 ·rw[u2]at b;rw[u3]at a;cases h:a2t p
  ·rw[h]at a;exact .inr (.inr (.inr ⟨u1,b,a,rfl⟩))
  ·rw[h]at a;exact .inr (.inr (.inl ⟨u1,b,a,rfl⟩))
theorem c48{d b:Int}{q:Bool}{r:Nat}{c:UInt8}(h:a2m c d≤0):a3Z ⟨d,q,b,r⟩ c=(q&&decide (0<a1f c)&&decide (r≤a1f c)):=by
 unfold a3Z;simp[h]
theorem a8c(b lo hi:Nat)(C:List UInt8)(A:List Int)(w:World)(hb:a0A w b C A)(hl:lo≤hi)(hh:hi≤C.length):
  Calls prog 113 #[.pointer (some (a__ b 0)),i_ lo,i_ hi] w fun e w'=>e= .returned (i_ (a1c C lo hi))∧w'=w:=by
 obtain⟨hC,hA,ac,aa,bc,ba,Ai,Ah,h0,h1,hc,ha⟩:=hb;have HB:Hid (pB C lo lo=false):=by show _=_;unfold pB;simp
 have HC:=h__ hc;generalize hY:a1c C lo hi=Y;have HY:Hid (a1c C lo hi=Y):=hY;clear hY hc ha;go_enter func113,ntmps113;go_wp2_with fail;go_loopw [7,8,9,10] (fun x1 x2 x3 x w'=>∃(k r:Nat) (d m:Int),x=i_ k∧x1=i_ m∧x2=i_ r∧x3=i_ d∧w'=w∧lo≤k∧k≤hi∧r≤3∧ -(k-lo:Int)≤d∧d≤k-lo∧Hid ((a1b (seg C k hi) k ⟨d,pB C lo k,m,r⟩).b=Y)) (fun _ _ _ x _=>hi-(intOf x).toNat);case atStart=>exact⟨lo,0,0,-1,rfl,rfl,rfl,rfl,rfl,by omega,by omega,by omega,by omega,by omega,by have:=HB.out;show(a1b (seg C lo hi) lo ⟨0,pB C lo lo,-1,0⟩).b=_;rw[this,←HY.out];rfl⟩
 case round=>
  obtain⟨k,r,d,m,rfl,rfl,rfl,rfl,rfl,Ad,An,hr,Ak,Al,HS⟩:=hrel;by_cases Ae:k<hi
  ·obtain⟨rfl,X⟩:=HC.out k (by omega);have NX:Hid (∀(d' b':Int) (r':Nat),a2l ⟨d,pB C lo k,m,r⟩ k C[k]=⟨d',a2t C[k],b',r'⟩→(a1b (seg C (k+1) hi) (k+1) ⟨d',pB C lo (k+1),b',r'⟩).b=Y):=fun d' b' r' h=>by
    have:=HS.out;rw[←HY.out]at this⊢;exact c6p Ad Ae hh this h
   have T:Hid (∀j,∀hj:j<C.length,wr.cell? (a__ bc j)=some (.int .u8 C[j].toNat)):=fun j hj=>(HC.out j hj).2
   have U:Hid (∀j,∀hj:j<C.length,k=j+1→k≠lo→pB C lo k=a2t C[j]):=fun j hj e hn=>by
    unfold pB;rw[f_ hn];subst e;simp[List.getD,s_ hj]
   have tk:decide ((k:Int)<(hi:Int))=true:=by simp;omega
   clear HS HC;generalize C[k]=c at X NX;go_upto_if 29 with fail
   go_cut [9]from 30 to 31 (fun y wx=>y=i_ (if c=40 then d+1 else d)∧wx=wr)
   case first=>
    by_cases R:c=40
    ·subst R;go_wp2_with fail
     go_meet
     exact⟨rfl,rfl⟩
    ·have Aq:((c.toNat:Int)==40)=false:=by exact(a5C (k:=40)).trans (by simpa using R)
     go_wp2_with fail
     go_meet
     exact⟨by rw[f_ R],rfl⟩
   obtain⟨rfl,rfl⟩:=hcut;have Ab:d≤(if c=40 then d+1 else d)∧(if c=40 then d+1 else d)≤d+1:=by split<;>omega
   generalize M:(if c=40 then d+1 else d)=d4 at Ab⊢;go_upto_if 33 with fail
   go_cut [9]from 34 to 35 (fun y wx=>y=i_ (a2m c d)∧wx=wc)
   case first=>
    by_cases S:c=41
    ·subst S;have e:a2m 41 d=d4-1:=by rw[←M];rfl
     have E:=h__ e;clear M e;go_wp2_with fail
     go_meet
     exact⟨by rw[E.out],rfl⟩
    ·have Ar:((c.toNat:Int)==41)=false:=by exact(a5C (k:=41)).trans (by simpa using S)
     have e:a2m c d=d4:=by rw[←M];unfold a2m;simp[S]
     have E:=h__ e;clear M e;go_wp2_with fail
     go_meet
     exact⟨by rw[E.out],rfl⟩
   obtain⟨rfl,rfl⟩:=hcut;have Am:a2m c d≤d+1∧d-1≤a2m c d:=by unfold a2m;split<;>(try split)<;>omega
   have s:Hid (a3Z ⟨d,pB C lo k,m,r⟩ c=false→(a1b (seg C (k+1) hi) (k+1) ⟨a2m c d,pB C lo (k+1),m,r⟩).b=Y):=fun h=>NX.out _ _ _ (c7a h)
   have u:Hid (a3Z ⟨d,pB C lo k,m,r⟩ c=true→(a1b (seg C (k+1) hi) (k+1) ⟨a2m c d,pB C lo (k+1),(k:Int),a1f c⟩).b=Y):=fun h=>NX.out _ _ _ (c7b h)
   have NP:Hid (0<a2m c d→(a1b (seg C (k+1) hi) (k+1) ⟨a2m c d,pB C lo (k+1),m,r⟩).b=Y):=fun h=>s.out (by unfold a3Z;simp;omega)
   have NL:Hid (k=lo→(a1b (seg C (k+1) hi) (k+1) ⟨a2m c d,pB C lo (k+1),m,r⟩).b=Y):=fun h=>s.out (by subst h;unfold a3Z;rw[HB.out];simp)
   have NR:Hid (a2m c d≤0→a3Z ⟨d,pB C lo k,m,r⟩ c=(pB C lo k&&decide (0<a1f c)&&decide (r≤a1f c))):=fun h=>c48 h
   generalize a2m c d=D at*;clear NX M;by_cases hD:0<D
   ·have tD:decide (0<D)=true:=by simpa using hD
    have o:Hid _:=NP.out hD;clear s u NP NL NR;go_wp2_with fail;go_roundw;case rel=>exact⟨k+1,r,D,m,by go_num,rfl,rfl,rfl,by trivial,by omega,by omega,hr,by omega,by omega,o⟩
    case measure=>simp[intOf];omega
   have tD:decide (0<D)=false:=by simpa using hD
   by_cases N:k=lo
   ·have Ag:((k:Int)==(lo:Int))=true:=by simp;omega
    have o:Hid _:=NL.out N;have Aj:Hid (k=lo):=N;clear s u NP NL NR N;go_wp2_with fail;go_roundw;case rel=>exact⟨k+1,r,D,m,by go_num,rfl,rfl,rfl,by trivial,by omega,by omega,hr,by omega,by omega,o⟩
    case measure=>simp[intOf];omega
   obtain⟨j,rfl⟩:∃j,k=j+1:=⟨k-1,by omega⟩
   have Ag:(((j:Int)+1)==(lo:Int))=false:=by simp;omega
   have Ac:=T.out j (by omega);have Aa:=U.out j (by omega) rfl N;have P:=NR.out (by omega);rw[Aa]at P s u;have Z:=c1K C[j];generalize C[j]=p at*;have l:=h__ P;clear NP NL NR Aa U T P;have Ao:wrap64 (p.toNat:Int)=(p.toNat:Int):=by have:=p.toNat_lt;unfold wrap64;omega
   generalize Af:a2t p=q at*;clear Af;go_upto_region 14 with fail
   go_cut [13]from 51 to 62 (fun y wx=>y= .bool q∧wx=wc)
   case first=>
    rcases Z with⟨u1,rfl⟩|⟨u1,V,rfl⟩|⟨u1,V,O,rfl⟩|⟨u1,V,O,rfl⟩
    ·go_wp2_with fail
     go_meet
     exact⟨rfl,rfl⟩
    ·go_wp2_with (first|(go_at_call 115;refine(V.out _).mono ?_;rintro e w' ⟨rfl,rfl⟩))
     go_meet
     exact⟨rfl,rfl⟩
    ·go_wp2_with (first|(go_at_call 115;refine(V.out _).mono ?_;rintro e w' ⟨rfl,rfl⟩)|(go_at_call 145;refine(O.out _).mono ?_;rintro e w' ⟨rfl,rfl⟩))
     go_meet
     exact⟨rfl,rfl⟩
    ·go_wp2_with (first|(go_at_call 115;refine(V.out _).mono ?_;rintro e w' ⟨rfl,rfl⟩)|(go_at_call 145;refine(O.out _).mono ?_;rintro e w' ⟨rfl,rfl⟩))
     go_meet
     exact⟨rfl,rfl⟩
   obtain⟨rfl,rfl⟩:=hcut;clear Z Ac X;by_cases I:c=60
   ·subst I;cases q
    ·have o:Hid _:=s.out (by rw[l.out];rfl);clear s u l;go_wp2_with fail;go_roundw;case rel=>exact⟨j+1+1,r,D,m,by go_num,rfl,rfl,rfl,by trivial,by omega,by omega,by omega,by omega,by omega,o⟩
     case measure=>simp[intOf];omega
    ·by_cases t:r≤3
     ·have o:Hid ((a1b (seg C (j+1+1) hi) (j+1+1) ⟨D,pB C lo (j+1+1),(j:Int)+1,3⟩).b=Y):=by
       have g:=u.out (by rw[l.out,show a1f 60=3 from rfl];simpa using t);rw[show((j+1:Nat):Int)=(j:Int)+1 by omega,show a1f 60=3 from rfl]at g;exact g
      have L:decide ((r:Int)≤3)=true:=by simp;omega
      clear s u l;go_wp2_with fail;go_roundw;case rel=>exact⟨j+1+1,3,D,((j:Int)+1),by go_num,rfl,rfl,rfl,by trivial,by omega,by omega,by omega,by omega,by omega,o⟩
      case measure=>simp[intOf];omega
     ·have o:Hid _:=s.out (by rw[l.out,show a1f 60=3 from rfl];simpa using t);have L:decide ((r:Int)≤3)=false:=by simp;omega
      clear s u l;go_wp2_with fail;go_roundw;case rel=>exact⟨j+1+1,r,D,m,by go_num,rfl,rfl,rfl,by trivial,by omega,by omega,by omega,by omega,by omega,o⟩
      case measure=>simp[intOf];omega
   by_cases J:c=61
   ·subst J;cases q
    ·have o:Hid _:=s.out (by rw[l.out];rfl);clear s u l;go_wp2_with fail;go_roundw;case rel=>exact⟨j+1+1,r,D,m,by go_num,rfl,rfl,rfl,by trivial,by omega,by omega,by omega,by omega,by omega,o⟩
     case measure=>simp[intOf];omega
    ·by_cases t:r≤3
     ·have o:Hid ((a1b (seg C (j+1+1) hi) (j+1+1) ⟨D,pB C lo (j+1+1),(j:Int)+1,3⟩).b=Y):=by
       have g:=u.out (by rw[l.out,show a1f 61=3 from rfl];simpa using t);rw[show((j+1:Nat):Int)=(j:Int)+1 by omega,show a1f 61=3 from rfl]at g;exact g
      have L:decide ((r:Int)≤3)=true:=by simp;omega
      clear s u l;go_wp2_with fail;go_roundw;case rel=>exact⟨j+1+1,3,D,((j:Int)+1),by go_num,rfl,rfl,rfl,by trivial,by omega,by omega,by omega,by omega,by omega,o⟩
      case measure=>simp[intOf];omega
     ·have o:Hid _:=s.out (by rw[l.out,show a1f 61=3 from rfl];simpa using t);have L:decide ((r:Int)≤3)=false:=by simp;omega
      clear s u l;go_wp2_with fail;go_roundw;case rel=>exact⟨j+1+1,r,D,m,by go_num,rfl,rfl,rfl,by trivial,by omega,by omega,by omega,by omega,by omega,o⟩
      case measure=>simp[intOf];omega
   by_cases F:c=43
   ·subst F;cases q
    ·have o:Hid _:=s.out (by rw[l.out];rfl);clear s u l;go_wp2_with fail;go_roundw;case rel=>exact⟨j+1+1,r,D,m,by go_num,rfl,rfl,rfl,by trivial,by omega,by omega,by omega,by omega,by omega,o⟩
     case measure=>simp[intOf];omega
    ·by_cases t:r≤2
     ·have o:Hid ((a1b (seg C (j+1+1) hi) (j+1+1) ⟨D,pB C lo (j+1+1),(j:Int)+1,2⟩).b=Y):=by
       have g:=u.out (by rw[l.out,show a1f 43=2 from rfl];simpa using t);rw[show((j+1:Nat):Int)=(j:Int)+1 by omega,show a1f 43=2 from rfl]at g;exact g
      have L:decide ((r:Int)≤2)=true:=by simp;omega
      clear s u l;go_wp2_with fail;go_roundw;case rel=>exact⟨j+1+1,2,D,((j:Int)+1),by go_num,rfl,rfl,rfl,by trivial,by omega,by omega,by omega,by omega,by omega,o⟩
      case measure=>simp[intOf];omega
     ·have o:Hid _:=s.out (by rw[l.out,show a1f 43=2 from rfl];simpa using t);have L:decide ((r:Int)≤2)=false:=by simp;omega
      clear s u l;go_wp2_with fail;go_roundw;case rel=>exact⟨j+1+1,r,D,m,by go_num,rfl,rfl,rfl,by trivial,by omega,by omega,by omega,by omega,by omega,o⟩
      case measure=>simp[intOf];omega
   by_cases G:c=45
   ·subst G;cases q
    ·have o:Hid _:=s.out (by rw[l.out];rfl);clear s u l;go_wp2_with fail;go_roundw;case rel=>exact⟨j+1+1,r,D,m,by go_num,rfl,rfl,rfl,by trivial,by omega,by omega,by omega,by omega,by omega,o⟩
     case measure=>simp[intOf];omega
    ·by_cases t:r≤2
     ·have o:Hid ((a1b (seg C (j+1+1) hi) (j+1+1) ⟨D,pB C lo (j+1+1),(j:Int)+1,2⟩).b=Y):=by
       have g:=u.out (by rw[l.out,show a1f 45=2 from rfl];simpa using t);rw[show((j+1:Nat):Int)=(j:Int)+1 by omega,show a1f 45=2 from rfl]at g;exact g
      have L:decide ((r:Int)≤2)=true:=by simp;omega
      clear s u l;go_wp2_with fail;go_roundw;case rel=>exact⟨j+1+1,2,D,((j:Int)+1),by go_num,rfl,rfl,rfl,by trivial,by omega,by omega,by omega,by omega,by omega,o⟩
      case measure=>simp[intOf];omega
     ·have o:Hid _:=s.out (by rw[l.out,show a1f 45=2 from rfl];simpa using t);have L:decide ((r:Int)≤2)=false:=by simp;omega
      clear s u l;go_wp2_with fail;go_roundw;case rel=>exact⟨j+1+1,r,D,m,by go_num,rfl,rfl,rfl,by trivial,by omega,by omega,by omega,by omega,by omega,o⟩
      case measure=>simp[intOf];omega
   by_cases B:c=42
   ·subst B;cases q
    ·have o:Hid _:=s.out (by rw[l.out];rfl);clear s u l;go_wp2_with fail;go_roundw;case rel=>exact⟨j+1+1,r,D,m,by go_num,rfl,rfl,rfl,by trivial,by omega,by omega,by omega,by omega,by omega,o⟩
     case measure=>simp[intOf];omega
    ·by_cases t:r≤1
     ·have o:Hid ((a1b (seg C (j+1+1) hi) (j+1+1) ⟨D,pB C lo (j+1+1),(j:Int)+1,1⟩).b=Y):=by
       have g:=u.out (by rw[l.out,show a1f 42=1 from rfl];simpa using t);rw[show((j+1:Nat):Int)=(j:Int)+1 by omega,show a1f 42=1 from rfl]at g;exact g
      have L:decide ((r:Int)≤1)=true:=by simp;omega
      clear s u l;go_wp2_with fail;go_roundw;case rel=>exact⟨j+1+1,1,D,((j:Int)+1),by go_num,rfl,rfl,rfl,by trivial,by omega,by omega,by omega,by omega,by omega,o⟩
      case measure=>simp[intOf];omega
     ·have o:Hid _:=s.out (by rw[l.out,show a1f 42=1 from rfl];simpa using t);have L:decide ((r:Int)≤1)=false:=by simp;omega
      clear s u l;go_wp2_with fail;go_roundw;case rel=>exact⟨j+1+1,r,D,m,by go_num,rfl,rfl,rfl,by trivial,by omega,by omega,by omega,by omega,by omega,o⟩
      case measure=>simp[intOf];omega
   by_cases H:c=47
   ·subst H;cases q
    ·have o:Hid _:=s.out (by rw[l.out];rfl);clear s u l;go_wp2_with fail;go_roundw;case rel=>exact⟨j+1+1,r,D,m,by go_num,rfl,rfl,rfl,by trivial,by omega,by omega,by omega,by omega,by omega,o⟩
     case measure=>simp[intOf];omega
    ·by_cases t:r≤1
     ·have o:Hid ((a1b (seg C (j+1+1) hi) (j+1+1) ⟨D,pB C lo (j+1+1),(j:Int)+1,1⟩).b=Y):=by
       have g:=u.out (by rw[l.out,show a1f 47=1 from rfl];simpa using t);rw[show((j+1:Nat):Int)=(j:Int)+1 by omega,show a1f 47=1 from rfl]at g;exact g
      have L:decide ((r:Int)≤1)=true:=by simp;omega
      clear s u l;go_wp2_with fail;go_roundw;case rel=>exact⟨j+1+1,1,D,((j:Int)+1),by go_num,rfl,rfl,rfl,by trivial,by omega,by omega,by omega,by omega,by omega,o⟩
      case measure=>simp[intOf];omega
     ·have o:Hid _:=s.out (by rw[l.out,show a1f 47=1 from rfl];simpa using t);have L:decide ((r:Int)≤1)=false:=by simp;omega
      clear s u l;go_wp2_with fail;go_roundw;case rel=>exact⟨j+1+1,r,D,m,by go_num,rfl,rfl,rfl,by trivial,by omega,by omega,by omega,by omega,by omega,o⟩
      case measure=>simp[intOf];omega
   by_cases z:c=37
   ·subst z;cases q
    ·have o:Hid _:=s.out (by rw[l.out];rfl);clear s u l;go_wp2_with fail;go_roundw;case rel=>exact⟨j+1+1,r,D,m,by go_num,rfl,rfl,rfl,by trivial,by omega,by omega,by omega,by omega,by omega,o⟩
     case measure=>simp[intOf];omega
    ·by_cases t:r≤1
     ·have o:Hid ((a1b (seg C (j+1+1) hi) (j+1+1) ⟨D,pB C lo (j+1+1),(j:Int)+1,1⟩).b=Y):=by
       have g:=u.out (by rw[l.out,show a1f 37=1 from rfl];simpa using t);rw[show((j+1:Nat):Int)=(j:Int)+1 by omega,show a1f 37=1 from rfl]at g;exact g
      have L:decide ((r:Int)≤1)=true:=by simp;omega
      clear s u l;go_wp2_with fail;go_roundw;case rel=>exact⟨j+1+1,1,D,((j:Int)+1),by go_num,rfl,rfl,rfl,by trivial,by omega,by omega,by omega,by omega,by omega,o⟩
      case measure=>simp[intOf];omega
     ·have o:Hid _:=s.out (by rw[l.out,show a1f 37=1 from rfl];simpa using t);have L:decide ((r:Int)≤1)=false:=by simp;omega
      clear s u l;go_wp2_with fail;go_roundw;case rel=>exact⟨j+1+1,r,D,m,by go_num,rfl,rfl,rfl,by trivial,by omega,by omega,by omega,by omega,by omega,o⟩
      case measure=>simp[intOf];omega
   have Aw:((c.toNat:Int)==60)=false:=by exact(a5C (k:=60)).trans (by simpa using I)
   have Ax:((c.toNat:Int)==61)=false:=by exact(a5C (k:=61)).trans (by simpa using J)
   have At:((c.toNat:Int)==43)=false:=by exact(a5C (k:=43)).trans (by simpa using F)
   have Au:((c.toNat:Int)==45)=false:=by exact(a5C (k:=45)).trans (by simpa using G)
   have As:((c.toNat:Int)==42)=false:=by exact(a5C (k:=42)).trans (by simpa using B)
   have Av:((c.toNat:Int)==47)=false:=by exact(a5C (k:=47)).trans (by simpa using H)
   have Ap:((c.toNat:Int)==37)=false:=by exact(a5C (k:=37)).trans (by simpa using z)
   have o:Hid _:=s.out (by rw[l.out,show a1f c=0 by unfold a1f;simp[I,J,F,G,B,H,z]];simp);clear s u l I J F G B H z;go_wp2_with fail;go_roundw;case rel=>exact⟨j+1+1,r,D,m,by go_num,rfl,rfl,rfl,by trivial,by omega,by omega,by omega,by omega,by omega,o⟩
   case measure=>simp[intOf];omega
  ·have tk:decide ((k:Int)<(hi:Int))=false:=by simp;omega
   have hY:m=Y:=by
    have:=HS.out;rw[show k=hi by omega]at this;simpa[seg,a1b]using this
   go_wp2_with fail;go_ret;rw[hY];exact⟨rfl,rfl⟩
end Go.Proofs.YtdgmoiflahoihaaGreatDoor
