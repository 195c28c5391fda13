import Derived.Test.YtdgmoiflahoihaaGreatDoorALIw

set_option linter.unusedSimpArgs false
set_option linter.unusedVariables false
set_option maxRecDepth 100000
set_option maxHeartbeats 8000000
namespace Go.Proofs.YtdgmoiflahoihaaGreatDoor
open Go.Proofs.Tryz
open Go.RowKit
theorem b0O{w:World}{lo:Nat}{t:TypeId}{v:Value}{L:List Sl}(h:w.ownsRow lo t 1 v L.length (L.map slV)):∃c g a,v= .slice c L.length a∧∀k x,L[k]? =some x→c=some (a__ g 0)∧w.cell? (a__ g k)=some (slV x):=by
 rcases h.2 with⟨rfl,e⟩|⟨g,a,d,rfl,i,l,j,n,f,o⟩
 ·refine⟨none,0,0,by rw[e],fun k x b=> ?_⟩;have:=(k_.mp b).1;omega
 ·refine⟨some (a__ g 0),g,a,rfl,fun k x b=>⟨rfl,?_⟩⟩;have m:=(k_.mp b).1;rw[h.cellAt k (by omega),List.getElem?_map,b];rfl
theorem b0y{w:World}{t:TypeId}{one:Int→List Value}{k n i:Nat}{b:Option Nat}(h:a5u w t one k (b,n))(hi:i<n):∃g,b=some g∧n≤9223372036854775807∧∀j u,(one (-1-(k:Int)))[j]? =some u→w.cell? ⟨g,i*(one (-1-(k:Int))).length+j,none⟩=some u:=by
 rcases h with⟨_,c⟩|⟨g,d,f,e⟩
 ·simp only at c;omega
 ·refine⟨g,d,f,fun j u a=> ?_⟩;rw[F_ _ _ _ _ _ _ e];have:=b63 (one (-1-(k:Int))) j (k_.mp a).1 n i hi;simpa[this]using a
theorem c2e(lo b:Nat)(vl:Value)(q p LS:List Sl)(w:World)(h:a2H lo w b vl q p LS)(nN:q.length≤2000000)(nC:p.length≤2000000)(nL:LS.length≤2000000):
  Calls prog 12 #[.pointer (some (a__ b 0))] w fun e w'=>e= .returned T__∧w'=w:=by
 obtain⟨_,⟨vN,vC,vL,C,T,R,S⟩,t,r,s⟩:=h;obtain⟨aN,gN,cN,rfl,y⟩:=b0O T;obtain⟨Z,gC,cC,rfl,u⟩:=b0O R;obtain⟨aL,gL,cL,rfl,v⟩:=b0O S;have c0:w.cell? (a__ b 0)=some (.slice aN q.length cN):=F_ _ _ _ _ _ _ C;have c1:w.cell? (a__ b 1)=some (.slice Z p.length cC):=F_ _ _ _ _ _ _ C;have c2:w.cell? (a__ b 2)=some (.slice aL LS.length cL):=F_ _ _ _ _ _ _ C;have F:=h__ t;have D:=h__ r;have E:=h__ s;have I:=h__ y;have G:=h__ u;have H:=h__ v;clear C T R S t r s y u v;go_enter func12,ntmps12;go_wp2_with fail;go_loopw [3] (fun x w'=>∃k:Nat,x=i_ k∧k≤q.length∧Hid (w'=w)) (fun x _=>q.length-(intOf x).toNat);case atStart=>exact⟨0,rfl,by omega,rfl⟩
 case round=>
  obtain⟨k,rfl,L,a⟩:=hrel;obtain rfl:=a.out;clear a;by_cases m:k<q.length
  ·have B:decide ((k:Int)<(q.length:Int))=true:=by simp;omega
   have o:=s_ m;have d:=F.out k _ o;have n:=I.out k _ o;generalize q[k]=x at*;obtain⟨Y,c⟩:=x;obtain⟨rfl,j⟩:=n;unfold slV at j;simp only at j;clear o;have O:(0:Int)≤k:=by omega
   have P:(k:Int)<(q.length:Int):=by omega
   go_wp2_with fail;go_loopw [4] (fun x w'=>∃i:Nat,x=i_ i∧i≤c∧Hid (w'=wr)) (fun x _=>c-(intOf x).toNat);case atStart=>exact⟨0,rfl,by omega,rfl⟩
   case round=>
    obtain⟨i,rfl,J,a⟩:=hrel;obtain rfl:=a.out;clear a;by_cases l:i<c
    ·have A:decide ((i:Int)<(c:Int))=true:=by simp;omega
     obtain⟨g,rfl,z,f⟩:=b0y d l;have U:wr.cell? (a__ g (i*5))=some (i_ 0):=f 0 _ rfl;have V:wr.cell? (a__ g (i*5+1))=some (i_ (-1-(k:Int))):=f 1 _ rfl;have X:wr.cell? (a__ g (i*5+2))=some (i_ 0):=f 2 _ rfl;have q3:wr.cell? (a__ g (i*5+3))=some (i_ 0):=f 3 _ rfl;have q4:wr.cell? (a__ g (i*5+4))=some (i_ 0):=f 4 _ rfl;have M:(0:Int)≤i:=by omega
     have N:(i:Int)<(c:Int):=by omega
     simp only[b_t]at j;clear f d;go_wp2_with fail;go_roundw;case rel=>exact⟨i+1,by go_num,by omega,trivial⟩
     case measure=>simp[intOf];omega
    ·have A:decide ((i:Int)<(c:Int))=false:=by simp;omega
     go_wp2_with fail;go_roundw;case rel=>exact⟨k+1,by go_num,by omega,trivial⟩
     case measure=>simp[intOf];omega
  ·have B:decide ((k:Int)<(q.length:Int))=false:=by simp;omega
   go_wp2_with fail;go_loopw [5] (fun x w'=>∃k:Nat,x=i_ k∧k≤p.length∧Hid (w'=wr)) (fun x _=>p.length-(intOf x).toNat);case atStart=>exact⟨0,rfl,by omega,rfl⟩
   case round=>
    obtain⟨k,rfl,L,a⟩:=hrel;obtain rfl:=a.out;clear a;by_cases m:k<p.length
    ·have B:decide ((k:Int)<(p.length:Int))=true:=by simp;omega
     have o:=s_ m;have d:=D.out k _ o;have n:=G.out k _ o;generalize p[k]=x at*;obtain⟨Y,c⟩:=x;obtain⟨rfl,j⟩:=n;unfold slV at j;simp only at j;clear o;have O:(0:Int)≤k:=by omega
     have P:(k:Int)<(p.length:Int):=by omega
     go_wp2_with fail;go_loopw [6] (fun x w'=>∃i:Nat,x=i_ i∧i≤c∧Hid (w'=wr)) (fun x _=>c-(intOf x).toNat);case atStart=>exact⟨0,rfl,by omega,rfl⟩
     case round=>
      obtain⟨i,rfl,J,a⟩:=hrel;obtain rfl:=a.out;clear a;by_cases l:i<c
      ·have A:decide ((i:Int)<(c:Int))=true:=by simp;omega
       obtain⟨g,rfl,z,f⟩:=b0y d l;have U:wr.cell? (a__ g (i*4))=some (i_ (-1-(k:Int))):=f 0 _ rfl;have V:wr.cell? (a__ g (i*4+1))=some (i_ 0):=f 1 _ rfl;have X:wr.cell? (a__ g (i*4+2))=some (i_ 0):=f 2 _ rfl;have q3:wr.cell? (a__ g (i*4+3))=some (i_ 0):=f 3 _ rfl;have M:(0:Int)≤i:=by omega
       have N:(i:Int)<(c:Int):=by omega
       simp only[b_t]at j;clear f d;go_wp2_with fail;go_roundw;case rel=>exact⟨i+1,by go_num,by omega,trivial⟩
       case measure=>simp[intOf];omega
      ·have A:decide ((i:Int)<(c:Int))=false:=by simp;omega
       go_wp2_with fail;go_roundw;case rel=>exact⟨k+1,by go_num,by omega,trivial⟩
       case measure=>simp[intOf];omega
    ·have B:decide ((k:Int)<(p.length:Int))=false:=by simp;omega
     go_wp2_with fail;go_loopw [7] (fun x w'=>∃k:Nat,x=i_ k∧k≤LS.length∧Hid (w'=wr)) (fun x _=>LS.length-(intOf x).toNat);case atStart=>exact⟨0,rfl,by omega,rfl⟩
     case round=>
      obtain⟨k,rfl,L,a⟩:=hrel;obtain rfl:=a.out;clear a;by_cases m:k<LS.length
      ·have B:decide ((k:Int)<(LS.length:Int))=true:=by simp;omega
       have o:=s_ m;have d:=E.out k _ o;have n:=H.out k _ o;generalize LS[k]=x at*;obtain⟨Y,c⟩:=x;obtain⟨rfl,j⟩:=n;unfold slV at j;simp only at j;clear o;have O:(0:Int)≤k:=by omega
       have P:(k:Int)<(LS.length:Int):=by omega
       go_wp2_with fail;go_loopw [8] (fun x w'=>∃i:Nat,x=i_ i∧i≤c∧Hid (w'=wr)) (fun x _=>c-(intOf x).toNat);case atStart=>exact⟨0,rfl,by omega,rfl⟩
       case round=>
        obtain⟨i,rfl,J,a⟩:=hrel;obtain rfl:=a.out;clear a;by_cases l:i<c
        ·have A:decide ((i:Int)<(c:Int))=true:=by simp;omega
         obtain⟨g,rfl,z,f⟩:=b0y d l;have U:wr.cell? (a__ g (i*3))=some (i_ (-1-(k:Int))):=f 0 _ rfl;have V:wr.cell? (a__ g (i*3+1))=some (i_ 0):=f 1 _ rfl;have X:wr.cell? (a__ g (i*3+2))=some (i_ 0):=f 2 _ rfl;have M:(0:Int)≤i:=by omega
         have N:(i:Int)<(c:Int):=by omega
         simp only[b_t]at j;clear f d;go_wp2_with fail;go_roundw;case rel=>exact⟨i+1,by go_num,by omega,trivial⟩
         case measure=>simp[intOf];omega
        ·have A:decide ((i:Int)<(c:Int))=false:=by simp;omega
         go_wp2_with fail;go_roundw;case rel=>exact⟨k+1,by go_num,by omega,trivial⟩
         case measure=>simp[intOf];omega
      ·have B:decide ((k:Int)<(LS.length:Int))=false:=by simp;omega
       go_wp2_with fail;go_ret;exact⟨rfl,rfl⟩
end Go.Proofs.YtdgmoiflahoihaaGreatDoor
