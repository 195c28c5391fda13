import Derived.Test.YtdgmoiflahoihaaGreatDoorBDNw
import Derived.Test.YtdgmoiflahoihaaGreatDoorBDTw
import Derived.Deep.RegionWith
import Derived.Deep.RegionHeld3

set_option linter.unusedSimpArgs false
set_option linter.unusedVariables false
set_option maxRecDepth 100000
set_option maxHeartbeats 8000000
namespace Go.Proofs.YtdgmoiflahoihaaGreatDoor
open Go.Proofs.Tryz
open Go.RowKit
theorem c4n(c:UInt8):a4c (c.toNat:Int)=a3f c:=by
 unfold a4c a3f;rw[M_];simp only[Z_,a_e,H_];have a:(48:UInt8).toNat=48:=rfl;have b:(57:UInt8).toNat=57:=rfl;rw[a,b];omega
theorem b6A(s:ByteArray)(k:Nat)(h:k<s.size):s.data.toList.drop k=s[k]::s.data.toList.drop (k+1):=by
 rw[u_ (by simpa using h)];rfl
theorem b8H(s:ByteArray)(m:Bool)(a:Nat)(b:a=if m then 1 else 0)(f:s.size≤2000000)(c:a<s.size)(d:s.size-a≤19):
  a7w (s.data.toList.drop a) m=b6V (a6E 0 (s.data.toList.drop a)) m:=by
 have e:(s.data.toList.drop a).length=s.size-a:=by simp
 unfold a7w;rw[f_ (by omega)]
theorem c0Y(s:ByteArray)(w:World)(hs:s.size≤2000000):
  Calls prog 127 #[.string s] w fun e w'=>e= .returned (.tuple #[i_ (a3n s.data.toList).1,.bool (a3n s.data.toList).2])∧w'=w:=by
 by_cases h0:s.size=0
 ·obtain rfl:s=⟨#[]⟩:=by
   obtain⟨d⟩:=s;have:d= #[]:=Array.eq_empty_of_size_eq_zero h0;rw[this]
  go_enter func127,ntmps127;go_wp2_with (go_at_call 153;refine(b11 _ _).mono ?_;rintro e I ⟨rfl,o⟩;subst o);go_ret2;exact⟨rfl,rfl⟩
 ·have D:0<s.size:=by omega
  have S:=b6A s 0 D;rw[List.drop_zero]at S;have t0:decide ((0:Int)<(s.size:Int))=true:=by rw[Y_];omega
  generalize H:decide (s[0]=45)=m;generalize p:(if m then 1 else 0:Nat)=j;have Z:a3n s.data.toList=a7w (s.data.toList.drop j) m:=by
   rw[S];unfold a3n;simp only;subst p;cases m
   ·rw[f_ (by simpa using H)];rfl
   ·rw[n_ (by simpa using H)];rfl
  have tm:((s[0].toNat:Int)==45)=m:=by
   rw[←H,M_,Y_,b_k];constructor
   ·intro e;exact a_p.mp (by have V:(45:UInt8).toNat=45:=rfl;omega)
   ·intro e;rw[e];rfl
  have Ae:j≤1:=by subst p;split<;>omega
  have P:Hid (∀w,Calls prog 153 #[.bool m] w fun e w'=>e= .returned (i_ (j:Nat))∧w'=w):=fun w=>by
   have:=b11 m w;have e:(if m then(1:Int)else 0)=((j:Nat):Int):=by subst p;cases m<;>rfl
   rw[e]at this;exact this
  have HI:Hid (j=if m then 1 else 0):=p.symm;rw[Z];clear S Z H p;by_cases hc:j≥s.size∨19<s.size-j
  ·have Y:a7w (s.data.toList.drop j) m=(0,false):=by
    have hl:(s.data.toList.drop j).length=s.size-j:=by simp
    unfold a7w;rw[n_ (by omega)]
   rw[Y];clear Y;by_cases Ad:s.size≤j
   ·have t1:decide ((s.size:Int)≤(j:Int))=true:=by rw[Y_];omega
    go_enter func127,ntmps127;go_wp2_with (go_at_call 153;refine(P.out _).mono ?_;rintro e I ⟨rfl,o⟩;subst o);go_ret2;exact⟨rfl,rfl⟩
   ·have t1:decide ((s.size:Int)≤(j:Int))=false:=by rw[N_];omega
    have t2:decide ((19:Int)<(s.size:Int)-(j:Int))=true:=by rw[Y_];omega
    go_enter func127,ntmps127;go_wp2_with (go_at_call 153;refine(P.out _).mono ?_;rintro e I ⟨rfl,o⟩;subst o);go_ret2;exact⟨rfl,rfl⟩
  ·have g1:j<s.size:=by omega
   have g2:s.size-j≤19:=by omega
   rw[b8H s m j HI.out hs g1 g2];have t1:decide ((s.size:Int)≤(j:Int))=false:=by rw[N_];omega
   have t2:decide ((19:Int)<(s.size:Int)-(j:Int))=false:=by rw[N_];omega
   have t3:decide (s.size≤j)=false:=by rw[N_];omega
   have HF:Hid (a6E 0 (s.data.toList.drop j)=a6E 0 (s.data.toList.drop j)):=rfl;generalize B:a6E 0 (s.data.toList.drop j)=F;have J:Hid (a6E 0 (s.data.toList.drop j)=F):=B;clear B HF;have HP:Hid (∀k:Nat,k≤19→(10:Nat)^k≤10000000000000000000):=fun k hk=>K_ (a_n (by decide) hk) (by decide)
   generalize C:b6V F m=A;have z:Hid (b6V F m=A):=C;clear C;go_enter func127,ntmps127;go_wp2_with (go_at_call 153;refine(P.out _).mono ?_;rintro e I ⟨rfl,o⟩;subst o);go_loopw [5,6] (fun x y w'=>∃i n:Nat,x=i_ i∧y= .int .u64 n∧j≤i∧i≤s.size∧w'=I∧Hid (n<10^(i-j))∧Hid (a6E n (s.data.toList.drop i)=F)) (fun x _ _=>s.size-(intOf x).toNat);case atStart=>exact⟨j,0,rfl,rfl,a_ _,by omega,rfl,by show 0<10^(j-j);rw[b_c];decide,J⟩
   case round=>
    obtain⟨i,n,rfl,rfl,hi,Af,rfl,N,U⟩:=hrel;by_cases T:i<s.size
    ·have l:=U.out;rw[b6A s i T]at l;unfold a6E at l;have Ac:=s[i].toNat_lt;have E:Hid (∀w,Calls prog 145 #[i_ s[i].toNat] w fun e w'=>e= .returned (.bool (a3f s[i]))∧w'=w):=fun w=>by have:=a0c (s[i].toNat:Int) w;rw[c4n]at this;exact this
     have Aa:n<1000000000000000000:=by
      have X:=N.out;have h2:(10:Nat)^(i-j)≤10^18:=a_n (by decide) (by omega);have h3:(10:Nat)^18=1000000000000000000:=by decide
      omega
     cases t:a3f s[i]
     ·rw[t]at l E;simp only[D_,a_g]at l;have G:A=(0,false):=by rw[←z.out,←l];rfl
      subst G;clear l;go_wp2_with (go_at_call 145;refine(E.out _).mono ?_;rintro e w2 ⟨rfl,r⟩;subst r);go_ret2;exact⟨rfl,rfl⟩
     ·rw[t]at l E;simp only[a_b]at l;obtain⟨u,f1,f2,f3⟩:=b2N t;rw[f3]at l;have f4:s[i].toNat=48+u:=by
       have:=t;unfold a3f at this;rw[Z_,a_e,H_]at this;have V:(48:UInt8).toNat=48:=rfl;rw[V]at this;omega
      have O:Hid (10*n+u<10^(i+1-j)):=by
       have X:=N.out;show _<_;rw[show i+1-j=(i-j)+1 by omega,b_l];omega
      have M:Hid (a6E (10*n+u) (s.data.toList.drop (i+1))=F):=l;have L:Hid (∀w,Calls prog 145 #[i_ (48+(u:Int))] w fun e w'=>e= .returned T__∧w'=w):=fun w=>by
       have:=a0c (48+(u:Int)) w;rw[show a4c (48+(u:Int))=true by unfold a4c;simp;omega]at this;exact this
      clear l f2 E;go_wp2_with (go_at_call 145;refine(L.out _).mono ?_;rintro e w2 ⟨rfl,r⟩;subst r);go_roundw;case rel=>exact⟨i+1,10*n+u,by go_num,by go_num,by omega,by omega,by trivial,O,M⟩
      case measure=>simp[intOf];omega
    ·have l:=U.out;rw[C_ (by simp;omega)]at l;have G:b4F n m=A:=by rw[←z.out,←l];rfl
     have Ab:n<18446744073709551616:=by
      have X:=N.out;have h2:=HP.out (i-j) (by omega);omega
     have R:Hid (∀w,Calls prog 169 #[.int .u64 n,.bool m] w fun e w'=>e= .returned (.tuple #[i_ A.1,.bool A.2])∧w'=w):=fun w=>by rw[←G];exact b0R n m (by omega) (by omega) w
     clear l G;go_wp2_with (go_at_call 169;refine(R.out _).mono ?_;rintro e w2 ⟨rfl,r⟩;subst r);go_ret2;exact⟨rfl,rfl⟩
theorem c3s{c:UInt8}{r:List UInt8}(h:c≠58):a3G (c::r)=(c::(a3G r).1,(a3G r).2):=by rw[a3G,f_ h]
theorem c3r(r:List UInt8):a3G (58::r)=([],some r):=by rw[a3G,n_ rfl]
theorem c3b(s:ByteArray)(k:Nat)(h:k<s.size):s.data.toList.take (k+1)=s.data.toList.take k++ [s[k]]:=by
 rw[List.take_add_one,s_ (by simpa using h)];rfl
theorem c7i(l:List UInt8)(s:ByteArray):((txt l).toList==s.toList)=decide (l=s.data.toList):=by
 rw[ByteArray.toList_eq,ByteArray.toList_eq,M_,b_k,Y_];exact Iff.rfl
theorem c4u(p:Int)(v:Vl):txt (a0T p)++⟨#[58]⟩++txt (a0J v)=txt (a2K ⟨p,v⟩):=by
 have a:txt (a0T p)++⟨#[58]⟩=txt (a0T p++ [58]):=a2x (a0T p) [58];rw[a,a2x];unfold a2K;simp
theorem c1j(v:Vl)(a:(-9223372036854775808≤v.num∧v.num≤9223372036854775807)∧(-9223372036854775808≤v.fault∧v.fault≤9223372036854775807)):(a0J v).length≤21:=by
 have b:=b0x v.num a.1;have c:=b0x v.fault a.2;unfold a0J
 split
 ·simp only[B_];omega
 ·omega
structure a6J(w W:World)(p num fault:Int):Prop where
 g0:W.cell? ⟨w.heap.size+1,0,none⟩=some (.int .i64 p)
 g1:W.cell? ⟨w.heap.size+1,1,none⟩=some (.int .i64 num)
 g2:W.cell? ⟨w.heap.size+1,2,none⟩=some (.int .i64 fault)
 h0:W.cell? ⟨w.heap.size,0,none⟩=some (.int .i64 0)
 h1:W.cell? ⟨w.heap.size,1,none⟩=some (.int .i64 0)
 h2:W.cell? ⟨w.heap.size,2,none⟩=some (.int .i64 0)
 hf:∀o,W.frozen? ⟨w.heap.size,o,none⟩=false
 size:w.heap.size+2≤W.heap.size
 low:Below w.heap.size w W
theorem a6J.start(w:World)(p b a:Int)(t c:TypeId):a6J w ((w.alloc (.cells #[i_ 0,i_ 0,i_ 0] t)).alloc (.cells #[i_ p,i_ b,i_ a] c)) p b a:=by
 refine⟨?_,?_,?_,?_,?_,?_,fun o=> ?_,by simp,((g_ _ _).alloc (a_ _) _).alloc (by simp) _⟩;all_goals simp[go_sem]
theorem a6J.drew{w W:World}{p b a:Int}(h:a6J w W p b a):a6J w W.drew p b a:=by
 obtain⟨e,f,g,i,j,k,l,c,d⟩:=h;exact⟨e,f,g,i,j,k,l,c,d.drew⟩
theorem a6J.below{w W i:World}{p c a:Int}(h:a6J w W p c a)(b:B__ W i):a6J w i p c a:=by
 obtain⟨j,k,l,m,n,q,r,d,g⟩:=h;have e:w.heap.size<W.heap.size:=by omega
 have f:w.heap.size+1<W.heap.size:=by omega
 exact⟨(b.cell (p:=⟨w.heap.size+1,0,none⟩) f).trans j,(b.cell (p:=⟨w.heap.size+1,1,none⟩) f).trans k,(b.cell (p:=⟨w.heap.size+1,2,none⟩) f).trans l,(b.cell (p:=(a__ w.heap.size 0)) e).trans m,(b.cell (p:=(a__ w.heap.size 1)) e).trans n,(b.cell (p:=(a__ w.heap.size 2)) e).trans q,fun o=>(b.frozen (p:=(a__ w.heap.size o)) e).trans (r o),K_ d b.size,g.trans (b.mono (by omega))⟩
theorem a6J.done{w W:World}{p b a:Int}(h:a6J w W p b a):B__ w (((W.setCell (a__ w.heap.size 0) (i_ p)).setCell (a__ w.heap.size 1) (i_ b)).setCell (a__ w.heap.size 2) (i_ a)):=
 ((h.low.setCell (a_ _) _).setCell (a_ _) _).setCell (a_ _) _
theorem b89(s:ByteArray)(w:World)(hs:s.size≤2000000):
  Calls prog 95 #[.string s] w fun e w'=>e= .returned (.tuple #[lnV (a3P s.data.toList).1,.bool (a3P s.data.toList).2])∧Below w.heap.size w w':=by
 have p:Hid (∀(a:ByteArray) w,a.size≤2000000→Calls prog 127 #[.string a] w fun e w'=>e= .returned (.tuple #[.int .i64 (a3n a.data.toList).1,.bool (a3n a.data.toList).2])∧w'=w):=fun a w h=>c0Y a w h
 have X:Below w.heap.size w (w.alloc (.cells #[.int .i64 0,.int .i64 0,.int .i64 0] 89)):=(g_ _ _).alloc (a_ _) _
 generalize Z:a3P s.data.toList=L
 have q:Hid (a3P s.data.toList=L):=Z
 clear Z
 go_enter func95,ntmps95
 go_wp2_with fail
 go_loopw [4] (fun x w'=>∃k:Nat,x= .int .i64 k∧k≤s.size∧w'=w.alloc (.cells #[.int .i64 0,.int .i64 0,.int .i64 0] 89)∧Hid (a3G s.data.toList=(s.data.toList.take k++(a3G (s.data.toList.drop k)).1,(a3G (s.data.toList.drop k)).2))) (fun x _=>s.size-(intOf x).toNat)
 case atStart=>exact⟨0,rfl,a_j _,rfl,by show _=_;simp⟩
 case round=>
  obtain⟨k,rfl,hk,rfl,S⟩:=hrel
  by_cases Ae:k<s.size
  ·have l:=S.out
   rw[b6A s k Ae]at l
   by_cases hc:s[k]=58
   ·have tc:((s[k].toNat:Int) !=58)=false:=by rw[hc];rfl
    rw[hc,c3r,a_i]at l
    have te:((k:Int)==(s.size:Int))=false:=by rw[p_];omega
    have hA:(s.extract 0 k).data.toList=s.data.toList.take k:=by simp[b_e]
    have U:(s.extract 0 k).size≤2000000:=by simp[ByteArray.size_extract];omega
    have HA:Hid (∀w,Calls prog 127 #[.string (s.extract 0 k)] w fun e w'=>e= .returned (.tuple #[.int .i64 (a3n (s.data.toList.take k)).1,.bool (a3n (s.data.toList.take k)).2])∧w'=w):=fun w=>by
     have:=p.out (s.extract 0 k) w U
     rw[hA]at this
     exact this
    generalize hP:a3n (s.data.toList.take k)=P at*
    have A:=b2M (s.data.toList.take k)
    rw[hP]at A
    have HP:Hid (a3n (s.data.toList.take k)=P):=hP
    clear hP
    go_upto_region 10 with(first|(go_at_call 127;refine(HA.out _).mono ?_;rintro e w1 ⟨rfl,Al⟩;subst Al))
    have M:(s.extract (k+1) s.size).data.toList=s.data.toList.drop (k+1):=by
     simp only[b_e,Array.toList_extract]
     exact List.take_of_length_le (by simp)
    have Aa:(s.extract (k+1) s.size).size≤2000000:=by simp[ByteArray.size_extract];omega
    generalize s.extract (k+1) s.size=V at*
    have HV:Hid (∀w,Calls prog 127 #[.string V] w fun e w'=>e= .returned (.tuple #[.int .i64 (a3n (s.data.toList.drop (k+1))).1,.bool (a3n (s.data.toList.drop (k+1))).2])∧w'=w):=fun w=>by
     have:=p.out V w Aa
     rw[M]at this
     exact this
    have d:Hid ((⟨P.1,(a6S (s.data.toList.drop (k+1))).1⟩,P.2&&(a6S (s.data.toList.drop (k+1))).2&&decide (0≤P.1)&&decide (P.1≤400)&&decide (a2K ⟨P.1,(a6S (s.data.toList.drop (k+1))).1⟩=s.data.toList))=L):=by
     show _=_
     rw[←q.out]
     unfold a3P
     rw[l,←HP.out]
    have I:(s.data.toList.drop (k+1)).length=V.size:=by rw[←M];simp
    have D:a3n (s.data.toList.drop (k+1))=a3n V.data.toList:=by rw[M]
    generalize s.data.toList.drop (k+1)=j at*
    clear l S hA U HA p
    have Ao:(w.alloc (.cells #[.int .i64 0,.int .i64 0,.int .i64 0] 89)).heap.size=w.heap.size+1:=by simp
    generalize Y:(decide (V.size=2)&&decide (j.getD 0 0=33))=J
    have g:Hid ((decide (V.size=2)&&decide (j.getD 0 0=33))=J):=Y
    clear Y
    go_cut [50]from 43 to 49 (fun x wx=>x= .bool J∧wx=(w.alloc (.cells #[.int .i64 0,.int .i64 0,.int .i64 0] 89)).alloc (.cells #[.int .i64 P.1,.int .i64 0,.int .i64 0] 89))
    case first=>
     by_cases t:V.size=2
     ·have tf:((V.size:Int)==2)=true:=by simp[t]
      have Af:0<V.size:=by omega
      have e0:j.getD 0 0=V[0]:=by
       rw[←M,t_,s_ (by simpa using Af)]
       rfl
      have tg:((V[0].toNat:Int)==33)=J:=by
       rw[←g.out,b_a t,a_J,e0,M_,b_k,Y_]
       constructor
       ·intro e;exact a_p.mp (by have a1:(33:UInt8).toNat=33:=rfl;omega)
       ·intro e;rw[e];rfl
      clear t
      go_wp2_with fail
      all_goals go_meet
      all_goals exact⟨rfl,rfl⟩
     ·have tf:((V.size:Int)==2)=false:=by simp;omega
      have hb:J=false:=by rw[←g.out,b_u t,a_W]
      subst hb
      go_wp2_with fail
      all_goals go_meet
      all_goals exact⟨rfl,rfl⟩
    case rest=>
    obtain⟨rfl,rfl⟩:=hcut
    go_upto_if 50 with fail
    go_cut [9,10,11]from 51 to 75 (fun x y z wx=>∃(c b:Int) (r:Bool),x= .bool r∧(-9223372036854775808≤c∧c≤9223372036854775807)∧(-9223372036854775808≤b∧b≤9223372036854775807)∧wx=(w.alloc (.cells #[.int .i64 0,.int .i64 0,.int .i64 0] 89)).alloc (.cells #[.int .i64 P.1,.int .i64 c,.int .i64 b] 89)∧Hid (((⟨P.1,⟨c,b⟩⟩:Ln),P.2&&r&&decide (0≤P.1)&&decide (P.1≤400)&&decide (a2K ⟨P.1,⟨c,b⟩⟩=s.data.toList))=L))
    case first=>
     by_cases hf:V.size=2∧j.getD 0 0=33
     ·obtain⟨E,G⟩:=hf
      have t2:J=true:=by rw[←g.out,b_a E,b_a G];rfl
      have H:1<V.size:=by omega
      have An:(1:Int)<(V.size:Int):=by omega
      have e1:j.getD 1 0=V[1]:=by
       rw[←M,t_,s_ (by simpa using H)]
       rfl
      have i:a6S j=(⟨0,(V[1].toNat:Int)-48⟩,decide (V[1].toNat=49)||decide (V[1].toNat=50)):=by unfold a6S;rw[n_ ⟨by rw[I];exact E,G⟩,e1]
      rw[i]at d
      have Ah:=V[1].toNat_lt
      have Ab:(((V[1].toNat:Int)-48==1)||((V[1].toNat:Int)-48==2))=(decide (V[1].toNat=49)||decide (V[1].toNat=50)):=by
       rw[M_]
       simp only[Bool.or_eq_true,b_k,a_e]
       omega
      rw[←Ab]at d
      simp only at d
      clear Ab i D e1 HV E G
      clear g
      subst t2
      go_upto_region 12 with fail
      have u: -9223372036854775808≤(V[1].toNat:Int)-48∧(V[1].toNat:Int)-48≤9223372036854775807:=by omega
      generalize (V[1].toNat:Int)-48=F at*
      clear Ah
      cases k1:(F==1)
      ·cases k2:(F==2)
       ·rw[k1,k2]at d
        go_wp2_with fail
        go_meet
        exact⟨0,F,false,rfl,by omega,u,rfl,d⟩
       ·rw[k1,k2]at d
        go_wp2_with fail
        go_meet
        exact⟨0,F,true,rfl,by omega,u,rfl,d⟩
      ·rw[k1]at d
       go_wp2_with fail
       go_meet
       exact⟨0,F,true,rfl,by omega,u,rfl,d⟩
     ·have t2:J=false:=by
       rw[←g.out,b_h,N_,N_]
       by_cases t:V.size=2
       ·exact .inr fun h=>hf ⟨t,h⟩
       ·exact .inl t
      have i:a6S j=(⟨(a3n j).1,0⟩,(a3n j).2):=by unfold a6S;rw[f_ (by rw[I];exact hf)]
      rw[i]at d
      have Ac:=b2M j
      clear i D hf
      generalize a3n j=Q at*
      simp only at d
      clear g
      subst t2
      go_wp2_with (first|(go_at_call 127;refine(HV.out _).mono ?_;rintro e w2 ⟨rfl,Am⟩;subst Am))
      go_meet
      exact⟨Q.1,0,Q.2,rfl,Ac,by omega,rfl,d⟩
    case rest=>
    obtain⟨c,b,r,rfl,hn,Ai,rfl,HE⟩:=hcut
    clear HV d M Aa I D g
    have n:=(⟨hn,Ai⟩:(-9223372036854775808≤c∧c≤9223372036854775807)∧(-9223372036854775808≤b∧b≤9223372036854775807))
    have R:Hid (∀w,Calls prog 23 #[.int .i64 P.1] w fun e w'=>e= .returned (.string (txt (a0T P.1)))∧Below w.heap.size w w'):=fun w=>a8E P.1 A w
    have T:Hid (∀w,Calls prog 24 #[.agg #[.int .i64 c,.int .i64 b]] w fun e w'=>e= .returned (.string (txt (a0J ⟨c,b⟩)))∧Below w.heap.size w w'):=fun w=>b1O ⟨c,b⟩ n w
    have N:Hid (txt (a0T P.1)++⟨#[58]⟩++txt (a0J ⟨c,b⟩)=txt (a2K ⟨P.1,⟨c,b⟩⟩)):=c4u P.1 ⟨c,b⟩
    have Aj:(txt (a0T P.1)).size≤20:=b0x P.1 A
    have Ak:(txt (a0J ⟨c,b⟩)).size≤21:=c1j ⟨c,b⟩ n
    generalize txt (a0T P.1)=N1 at*
    generalize txt (a0J ⟨c,b⟩)=N2 at*
    have O:Hid (a6J w ((w.alloc (.cells #[.int .i64 0,.int .i64 0,.int .i64 0] 89)).alloc (.cells #[.int .i64 P.1,.int .i64 c,.int .i64 b] 89)) P.1 c b):=a6J.start w _ _ _ _ _
    generalize (w.alloc (.cells #[.int .i64 0,.int .i64 0,.int .i64 0] 89)).alloc (.cells #[.int .i64 P.1,.int .i64 c,.int .i64 b] 89)=W at*
    have c1:=O.out.g1
    have c2:=O.out.g2
    go_upto_region 16 with fail
    go_cut [12]from 76 to 100 (fun x wx=>x= .string (txt (a2K ⟨P.1,⟨c,b⟩⟩))∧Hid (a6J w wx P.1 c b))
    case first=>
     go_region_with (first|(go_at_call 23;refine(R.out _).mono ?_;rintro e w3 ⟨rfl,B⟩;have m:Hid (a6J w w3 P.1 c b):=(by first|exact O.out.below B|exact O.out.drew.below B);have d1:=m.out.g1;have d2:=m.out.g2;clear B)|(go_at_call 24;refine(T.out _).mono ?_;rintro e w4 ⟨rfl,C⟩;have f:Hid (a6J w w4 P.1 c b):=(by first|exact m.out.below C|exact m.out.drew.below C);clear C))
     all_goals go_wp2_with fail
     all_goals go_meet
     all_goals exact⟨by rw[N.out],f⟩
    case rest=>
    obtain⟨rfl,f⟩:=hcut
    clear c1 c2 O N R T Aj Ak
    have c0:=f.out.g0
    have c1:=f.out.g1
    have c2:=f.out.g2
    have z0:=f.out.h0
    have z1:=f.out.h1
    have z2:=f.out.h2
    have zf:=f.out.hf
    have Ad:=f.out.done
    have tq:=c7i (a2K ⟨P.1,⟨c,b⟩⟩) s
    have o:=HE.out
    clear q HE
    go_wp2_with fail
    all_goals (refine m_ (v:= .tuple #[lnV L.1,.bool L.2]) ?_ rfl ⟨rfl,Ad⟩;rw[←o];clear o;simp[results,results95,go_sem,c0,c1,c2,z0,z1,z2,zf, *];try (intros;omega))
   ·have tc:((s[k].toNat:Int) !=58)=true:=by
     rw[bne_iff_ne]
     intro e
     exact hc (a_p.mp (by have a1:(58:UInt8).toNat=58:=rfl;omega))
    have Ag:Hid (a3G s.data.toList=(s.data.toList.take (k+1)++(a3G (s.data.toList.drop (k+1))).1,(a3G (s.data.toList.drop (k+1))).2)):=by
     show _=_
     rw[l,c3s hc,c3b s k Ae]
     simp
    clear l S
    go_wp2_with fail
    go_roundw
    case rel=>exact⟨k+1,by go_num,by omega,by trivial,Ag⟩
    case measure=>simp[intOf];omega
  ·have l:=S.out
   rw[C_ (by simp;omega)]at l
   have hR:L=(⟨0,⟨0,0⟩⟩,false):=by
    rw[←q.out]
    unfold a3P
    rw[l]
    rfl
   subst hR
   have te:((k:Int)==(s.size:Int))=true:=by rw[b_k];omega
   clear l S
   go_wp2_with fail
   exact m_ (v:= .tuple #[lnV ⟨0,⟨0,0⟩⟩,.bool false]) (by simp[results,results95,go_sem]) rfl ⟨rfl,by first|exact X|exact((X.setCell (a_ _) _).setCell (a_ _) _).setCell (a_ _) _⟩
def a4f(w:World)(r:Option (List Ln))(e:Ending)(w':World):Prop:=
 (match r with
  |none=>e= .returned (.tuple #[.slice none 0 0,.int .i64 10])
  |some l=>∃v,e= .returned (.tuple #[v,.int .i64 0])∧w'.ownsRow w.heap.size 89 3 v l.length (a06 l))∧Below w.heap.size w w'
theorem b6m{w g W d:World}{v h:Value}{l:List Ln}{q:Ln}{o p:Obj}(i:W=(g.alloc o).alloc p)
  (a:B__ w g) (j:g.ownsRow w.heap.size 89 3 v l.length (a06 l))
  (m:d.ownsRow w.heap.size 89 3 h (l.length+1) (a06 l++a5y q)) (b:W.grownBy d v.ownBlock):
  d.ownsRow w.heap.size 89 3 h (l++ [q]).length (a06 (l++ [q]))∧B__ w d:=by
 subst i;have n:=a.size;have c:∀k,v.ownBlock=some k→w.heap.size≤k:=fun k f=>(j.lt k f).1
 refine⟨?_,?_⟩
 ·rw[x_];have:a06 (l++ [q])=a06 l++a5y q:=by simp[a06]
  rw[this];exact m
 ·exact⟨b.os.trans a.os,b.tape.trans a.tape,b.output.trans a.output,by have:=b.size;simp at this;omega,fun k f=>((b.block k (by simp;omega) (fun e=>by have:=c k e.symm;omega)).trans (by rw[q_ _ _ _ (by simp;omega),q_ _ _ _ (by omega)])).trans (a.block k f)⟩
theorem c4M{w w':World}{a b n:Nat}{e:TypeId}{v:Value}{xs:List Value}(h:w.ownsRow a e b v n xs)(c:B__ w w'):w'.ownsRow a e b v n xs:=
 a5o h (fun k e d=>c.block k d)
theorem b6Z(s:ByteArray)(a b:Nat):(s.extract a b).data.toList=(s.data.toList.drop a).take (b-a):=by
 simp only[b_e,Array.toList_extract]
theorem c2J(a:List UInt8)(c:UInt8)(r:List UInt8):a4d a (c::r)=if c=10 then(if(a3P a).2 then(a4d [] r).map ((a3P a).1:: ·)else none)else a4d (a++ [c]) r:=rfl
theorem c4R(a:List UInt8):a4d a []=if a.isEmpty then some []else none:=rfl
theorem c3Y(s:ByteArray)(a i:Nat)(b:a≤i)(hi:i<s.size):(s.data.toList.drop a).take (i+1-a)=(s.data.toList.drop a).take (i-a)++ [s[i]]:=by
 rw[show i+1-a=(i-a)+1 by omega,List.take_add_one,List.getElem?_drop,show a+(i-a)=i by omega,s_ (by simpa using hi)];rfl
theorem b7Z(s:ByteArray)(w:World)(hs:s.size≤2000000):
  Calls prog 62 #[.string s] w (a4f w (a4d [] s.data.toList)):=by
 obtain⟨iV,Ab,Af,Ad,Z⟩:=a1v b7i;have r:Hid (∀(x:ByteArray) (p:World),x.size≤2000000→Calls prog 95 #[.string x] p fun e D=>e= .returned (.tuple #[lnV (a3P x.data.toList).1,.bool (a3P x.data.toList).2])∧B__ p D):=fun x p h=>b89 x p h
 generalize L:a4f w (a4d [] s.data.toList)=B;have o:Hid (a4f w (a4d [] s.data.toList)=B):=L;clear L;go_enter func62,ntmps62;go_wp2_with fail;go_loopw [4,5,6] (fun v f j p=>∃(F:Option Addr) (H G a i:Nat) (M:List Ln),v= .slice F H G∧f=i_ a∧j=i_ i∧a≤i∧i≤s.size∧M.length≤i∧Hid (p.ownsRow w.heap.size 89 3 (.slice F H G) M.length (a06 M))∧Hid (B__ w p)∧Hid (a4d [] s.data.toList=(a4d ((s.data.toList.drop a).take (i-a)) (s.data.toList.drop i)).map (M++ ·))) (fun _ _ j _=>s.size-(intOf j).toNat);case atStart=>
  refine⟨none,0,0,0,0,[],rfl,rfl,rfl,a_ _,a_j _,a_ _,E_ ..,g_ _ _,?_⟩;show _=_;simp
 case round=>
  obtain⟨F,H,G,a,i,M,rfl,rfl,rfl,Y,Ah,hM,V,y,E⟩:=hrel;have Aj:=y.out.size;by_cases N:i<s.size
  ·have l:=E.out;rw[b6A s i N,c2J]at l;by_cases z:s[i]=10
   ·have tc:((s[i].toNat:Int)==10)=true:=by rw[z];rfl
    rw[n_ z]at l;have Ae:(s.extract a i).size≤2000000:=by simp[ByteArray.size_extract];omega
    have T:Hid (∀p,Calls prog 95 #[.string (s.extract a i)] p fun e D=>e= .returned (.tuple #[lnV (a3P ((s.data.toList.drop a).take (i-a))).1,.bool (a3P ((s.data.toList.drop a).take (i-a))).2])∧B__ p D):=fun p=>by
     have:=r.out (s.extract a i) p Ae;rw[b6Z]at this;exact this
    generalize a3P ((s.data.toList.drop a).take (i-a))=R at*;obtain⟨q,ok⟩:=R;simp only at T l;clear E r;cases ok
    ·have A:a4f w none=B:=by rw[←o.out,l];rfl
     have J:Hid (a4f w none=B):=A;clear A l o;go_wp2_with (first|(go_at_call 95;refine(T.out _).mono ?_;rintro e P ⟨rfl,m⟩;have S:Hid (B__ w (P.alloc (.cells #[i_ q.place,i_ q.val.num,i_ q.val.fault] 89))):=(y.out.trans (m.mono y.out.size)).alloc (K_ y.out.size m.size) _;clear m));rw[←J.out];exact⟨rfl,S.out⟩
    ·have U:Hid (a4d [] s.data.toList=(a4d ((s.data.toList.drop (i+1)).take (i+1-(i+1))) (s.data.toList.drop (i+1))).map ((M++ [q])++ ·)):=by
      show _=_;rw[l,b_c,List.take_zero];simp only[a_b];cases a4d [] (s.data.toList.drop (i+1))<;>simp
     clear l;have m1:M.length+1≤maxLen:=by unfold maxLen;omega
     have m2:(M.length+1)*24≤140737488355328:=by omega
     have O:0<M.length+1:=by omega
     go_wp2_with (first|(go_at_call 95;refine(T.out _).mono ?_;rintro e P ⟨rfl,m⟩;have S:Hid (B__ w P):=y.out.trans (m.mono y.out.size);have I:Hid (P.ownsRow w.heap.size 89 3 (.slice F H G) M.length (a06 M)):=c4M V.out m;clear m;have Ai:=S.out.size)|(at_builtin;refine a0X rfl (.tmp 29) (.tmp 31) 82 rfl w.heap.size 89 iV (.agg #[i_ 0,i_ 0,i_ 0]) 3 24 underlying82 Ab Af Ad Z rfl (by decide) (.slice F H G) M.length (a06 M) (by rfl) (by exact(I.out.alloc _).alloc _) ⟨P.heap.size+1,0,none⟩ 1 1 (a5y q) (by rfl) rfl (by exact b8q _ _ (by simp) _ _ _ 89) (by intro q hq;simp[a5y]at hq;rcases hq with rfl|rfl|rfl<;>rfl) m1 m2 (by simp;omega) (by decide) ?_;intro v' w4 u t Aa;obtain⟨X,a3⟩:=b6m rfl S.out I.out u t;clear Aa t;obtain⟨gn,Ag,rfl⟩:=Joins.ownsRow_form u O;have A1:=h__ X;have A3:Hid (B__ w w4):=a3;clear u X a3));refine⟨⟨_,_,_,i+1,i+1,M++ [q],rfl,by go_num,by go_num,a_ _,by omega,by simp;omega,A1.out,A3,U⟩,?_⟩;simp[intOf];omega
   ·have tc:((s[i].toNat:Int)==10)=false:=by
     rw[p_];intro e;exact z (a_p.mp (by have X:(10:UInt8).toNat=10:=rfl;omega))
    rw[f_ z]at l;have U:Hid (a4d [] s.data.toList=(a4d ((s.data.toList.drop a).take (i+1-a)) (s.data.toList.drop (i+1))).map (M++ ·)):=by
     show _=_;rw[c3Y s a i Y N];exact l
    clear l E r;go_wp2_with fail;refine⟨⟨F,H,G,a,i+1,M,rfl,rfl,by go_num,by omega,by omega,by omega,V,y,U⟩,?_⟩;simp[intOf];omega
  ·have l:=E.out;have Ac:(s.data.toList.drop i)= []:=C_ (by simp;omega);rw[Ac,c4R]at l;have C:((s.data.toList.drop a).take (i-a)).isEmpty=decide (s.size≤a):=by
    rw[M_,a_9,Y_,←a_6,List.length_take,List.length_drop];have:s.data.toList.length=s.size:=by simp
    omega
   rw[C]at l;by_cases ha:s.size≤a
   ·have ta:decide ((a:Int)<(s.size:Int))=false:=by rw[N_];omega
    have A:a4f w (some M)=B:=by
     rw[←o.out,l,b_a ha];simp
    have J:Hid (a4f w (some M)=B):=A;clear A l E r o C;go_wp2_with fail;rw[←J.out];exact⟨⟨_,rfl,V.out⟩,y.out⟩
   ·have ta:decide ((a:Int)<(s.size:Int))=true:=by rw[Y_];omega
    have A:a4f w none=B:=by
     rw[←o.out,l,b_u ha];simp
    have J:Hid (a4f w none=B):=A;clear A l E r o C;go_wp2_with fail;rw[←J.out];exact⟨rfl,y.out⟩
end Go.Proofs.YtdgmoiflahoihaaGreatDoor
