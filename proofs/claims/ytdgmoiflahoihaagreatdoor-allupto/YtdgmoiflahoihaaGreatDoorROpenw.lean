import Derived.Test.YtdgmoiflahoihaaGreatDoorFWalkw
import Derived.Deep.QuietTactic
import Derived.BigQuiet
import Derived.Lib.SmallJoins

set_option linter.unusedSimpArgs false
set_option linter.unusedVariables false
set_option maxRecDepth 100000
set_option maxHeartbeats 8000000
namespace Go.Proofs.YtdgmoiflahoihaaGreatDoor
open Go.Proofs.Tryz
structure Rd where
 pos:Nat
 depth:Int
 bad:Bool
def a2Z:List UInt8→Nat→Nat
 | [],k=>k
 |c::r,k=>if a12 c then a2Z r (k+1)else k
def Rd.skip(t:List UInt8)(r:Rd):Rd:= { r with pos:=a2Z (t.drop r.pos) r.pos }
def Rd.seesOne(t:List UInt8)(r:Rd)(low high:UInt8):Bool:=
 !r.bad&&(match t[r.pos]? with|none=>false|some b=>decide (low≤b)&&decide (b≤high))
def Rd.takeOne(t:List UInt8)(r:Rd)(low high:UInt8):Rd×Int:=
 if r.seesOne t low high then(Rd.skip t { r with pos:=r.pos+1 },((t.getD r.pos 0).toNat:Int)-(low.toNat:Int))
 else({ r with bad:=true },0)
theorem a7O(l:List UInt8):∀k,k≤a2Z l k∧a2Z l k≤k+l.length:=by
 induction l with
 |nil=>intro k;simp[a2Z]
 |cons c r ih=>
  intro k;have:=ih (k+1);unfold a2Z
  split<;>simp<;>omega
theorem c41{t:List UInt8}{k:Nat}(h:t.length≤k):a2Z (t.drop k) k=k:=by
 rw[C_ h];rfl
theorem c42{t:List UInt8}{k:Nat}(h:k<t.length)(a:a12 t[k]=true):a2Z (t.drop (k+1)) (k+1)=a2Z (t.drop k) k:=by
 rw[u_ h];simp[a2Z,a]
theorem c6o{t:List UInt8}{k:Nat}(h:k<t.length)(a:a12 t[k]=false):a2Z (t.drop k) k=k:=by
 rw[u_ h];simp[a2Z,a]
open Go.RowKit
structure a0b(w:World)(b:Nat)(s:ByteArray)(r:Rd)(pv:Value):Prop where
 c0:w.cell? ⟨b,0,none⟩=some (.string s)
 c1:w.cell? ⟨b,1,none⟩=some (.int .i64 r.pos)
 c2:w.cell? ⟨b,2,none⟩=some (.int .i64 r.depth)
 c3:w.cell? ⟨b,3,none⟩=some pv
 c4:w.cell? ⟨b,4,none⟩=some (.bool r.bad)
 fz:∀o,w.frozen? ⟨b,o,none⟩=false
def But(b:Nat)(w w':World):Prop:=w.grownBy w' (some b)
theorem But.refl(b:Nat)(w:World):But b w w:=World.grownBy.refl w _
theorem But.set{b:Nat}{w w':World}(h:But b w w')(o:Nat)(v:Value):But b w (w'.setCell (a__ b o) v):=by
 obtain⟨c,d,f,g,i⟩:=h;refine⟨c,d,f,by simpa using g,fun k j a=> ?_⟩;rw[heap_setCell_other _ _ _ _ (by intro e;exact a (by rw[e]))];exact i k j a
theorem But.drewN{b:Nat}{w w':World}(h:But b w w')(n:Nat):But b w (w'.drewN n):=by
 obtain⟨a,c,d,e,f⟩:=h;exact⟨a,c,d,e,f⟩
theorem a9F(c:UInt8)(w:World):
  Calls prog 116 #[.int .u8 c.toNat] w fun e w'=>e= .returned (.bool (a12 c))∧w'=w:=by
 by_cases d:c=32
 ·subst d;go_enter func116,ntmps116
  go_wp2
  go_ret;exact⟨rfl,rfl⟩
 by_cases a:c=10
 ·subst a;go_enter func116,ntmps116
  go_wp2
  go_ret;exact⟨rfl,rfl⟩
 ·have h:((c.toNat:Int)==32)=false:=a1e (b:=32) d;have g:((c.toNat:Int)==10)=false:=a1e (b:=10) a;have f:a12 c=false:=by simp[a12,d,a]
  rw[f];go_enter func116,ntmps116
  go_wp2
  go_ret;exact⟨rfl,rfl⟩
theorem a97(b:Nat)(s:ByteArray)(r:Rd)(p:Value)(w:World)(h:a0b w b s r p)(D:s.size≤400)(z:r.pos≤s.size):
  Calls prog 81 #[.pointer (some (a__ b 0))] w fun e w'=>e= .returned (.tuple #[])∧a0b w' b s (r.skip s.data.toList) p∧But b w w':=by
 go_enter func81,ntmps81;go_wp2_with fail;have A:s.data.toList.length=s.size:=by simp
 have v:=h__ h;clear h;go_loopw [] (fun w'=>∃k:Nat,k≤s.size∧a0b w' b s { r with pos:=k } p∧But b w w'∧Hid (a2Z (s.data.toList.drop k) k=a2Z (s.data.toList.drop r.pos) r.pos)) (fun w'=>s.size-(intOf ((w'.cell? (a__ b 1)).getD undef)).toNat);case atStart=>exact⟨r.pos,z,v.out,But.refl _ _,rfl⟩
 case round=>
  obtain⟨k,C,f,a,n⟩:=hrel;have u:=f;obtain⟨g,i,j,l,m,o⟩:=f;simp only at g i j l m;by_cases y:k<s.size
  ·have x:=s[k].toNat_lt;have t:(k:Int)<(s.size:Int):=by omega
   cases q:a12 s[k]
   ·have d:Hid (k=a2Z (s.data.toList.drop r.pos) r.pos):=by
     have c:=n.out;rw[c6o (by omega) (by exact q)]at c;exact c
    go_wp2_with fail;go_quiet ((go_at_call 116;exact Calls.quiet_of_same (a9F _ _)))
    go_wp2
    go_end0;refine⟨rfl,?_,?_⟩
    ·have:=d.out;unfold Rd.skip;rw[←this];exact⟨g,i,j,l,m,o⟩
    ·exact a.drewN _
   ·have d:Hid (a2Z (s.data.toList.drop (k+1)) (k+1)=a2Z (s.data.toList.drop r.pos) r.pos):=by
     have c:=n.out;rw[←c42 (by omega) (by exact q)]at c;exact c
    go_wp2_with fail;go_quiet ((go_at_call 116;exact Calls.quiet_of_same (a9F _ _)))
    go_wp2
    refine⟨⟨k+1,by omega,⟨?_,?_,?_,?_,?_,?_⟩,(a.drewN _).set 1 _,d⟩,?_⟩;all_goals simp[go_sem,g,i,j,l,m,o,intOf]
    all_goals omega
  ·have B:decide ((k:Int)<(s.size:Int))=false:=by simp;omega
   have d:Hid (k=a2Z (s.data.toList.drop r.pos) r.pos):=by
    have c:=n.out;rw[c41 (by omega)]at c;exact c
   go_wp2_with fail;go_quiet ((go_at_call 116;exact Calls.quiet_of_same (a9F _ _)))
   go_wp2
   go_end0;refine⟨rfl,?_,?_⟩
   ·have:=d.out;unfold Rd.skip;rw[←this];exact⟨g,i,j,l,m,o⟩
   ·exact a.drewN _
theorem a0b.drewN{w:World}{b:Nat}{s:ByteArray}{r:Rd}{a:Value}(h:a0b w b s r a)(n:Nat):a0b (w.drewN n) b s r a:=by
 obtain⟨c,d,e,f,g,i⟩:=h;exact⟨c,d,e,f,g,i⟩
theorem a3d{a b:Bool}(h:a=b):Ending.returned (.bool a)= .returned (.bool b):=by rw[h]
theorem c7N(a b:UInt8):decide ((a.toNat:Int)≤(b.toNat:Int))=decide (a≤b):=by
 simp[H_]
theorem a4Z(b:Nat)(s:ByteArray)(r:Rd)(t:Value)(low high:UInt8)(w:World)(h:a0b w b s r t)(v:s.size≤400)(q:r.pos≤s.size):
  Calls prog 155 #[.pointer (some (a__ b 0)),.int .u8 low.toNat,.int .u8 high.toNat] w fun e w'=>e= .returned (.bool (r.seesOne s.data.toList low high))∧∃n,w'=w.drewN n:=by
 obtain⟨j,k,l,m,o,u⟩:=h;obtain⟨a,c,g⟩:=r;simp only at j k l m o q;cases g
 ·by_cases f:a<s.size
  ·have d:(Rd.seesOne s.data.toList ⟨a,c,false⟩ low high)=(decide (low≤s[a])&&decide (s[a]≤high)):=by
    simp[Rd.seesOne,f];rfl
   rw[d];clear d;have p:decide ((s.size:Int)≤(a:Int))=false:=by simp;omega
   have i:(a:Int)<(s.size:Int):=by omega
   go_enter func155,ntmps155;go_wp2_with fail;go_quiet (fail)
   go_wp2
   go_quiet (fail)
   go_wp2
   all_goals go_ret
   all_goals (refine⟨a3d ?_,_,rfl⟩;simp[H_];omega)
  ·have d:(Rd.seesOne s.data.toList ⟨a,c,false⟩ low high)=false:=by
    simp[Rd.seesOne,f]
   rw[d];clear d;have p:decide ((s.size:Int)≤(a:Int))=true:=by simp;omega
   go_enter func155,ntmps155;go_wp2_with fail;go_quiet (fail)
   go_wp2
   go_ret;exact⟨rfl,_,rfl⟩
 ·have d:(Rd.seesOne s.data.toList ⟨a,c,true⟩ low high)=false:=by simp[Rd.seesOne]
  rw[d];clear d;go_enter func155,ntmps155;go_wp2_with fail;go_quiet (fail)
  go_wp2
  go_ret;exact⟨rfl,_,rfl⟩
theorem a3L(b:Nat)(s:ByteArray)(r:Rd)(a:Value)(c:UInt8)(w:World)(h:a0b w b s r a)(g:s.size≤400)(f:r.pos≤s.size):
  Calls prog 117 #[.pointer (some (a__ b 0)),.int .u8 c.toNat] w fun e w'=>e= .returned (.bool (r.seesOne s.data.toList c c))∧∃n,w'=w.drewN n:=by
 have d:=h__ h;clear h;go_enter func117,ntmps117;go_wp2_with (go_at_call 155;refine(a4Z b s r a c c _ d.out g f).mono ?_;rintro e w' ⟨rfl,n,rfl⟩);go_ret;exact⟨rfl,n,rfl⟩
theorem a8U(b:Nat)(s:ByteArray)(r:Rd)(a:Value)(w:World)(h:a0b w b s r a):
  Calls prog 164 #[.pointer (some (a__ b 0))] w fun e w'=>e= .returned (.tuple #[])∧a0b w' b s { r with bad:=true } a∧But b w w':=by
 obtain⟨c,d,f,g,i,j⟩:=h;go_enter func164,ntmps164
 go_wp2
 go_end0;refine⟨rfl,⟨?_,?_,?_,?_,?_,?_⟩,(But.refl _ _).set 4 _⟩;all_goals simp[go_sem,c,d,f,g,i,j]
theorem But.trans{b:Nat}{w w1 c:World}(h:But b w w1)(k:But b w1 c):But b w c:=by
 obtain⟨d,e,f,p,g⟩:=h;obtain⟨l,m,n,q,o⟩:=k;refine⟨l.trans d,m.trans e,n.trans f,by omega,fun j i a=> ?_⟩;rw[o j (by omega) a,g j i a]
theorem b4H{t:List UInt8}{k:Nat}(h:k≤t.length):a2Z (t.drop k) k≤t.length:=by
 have:=(a7O (t.drop k) k).2;simp at this;omega
theorem a43{t:List UInt8}{r:Rd}{low high:UInt8}(d:r.pos≤t.length):(r.takeOne t low high).1.pos≤t.length:=by
 unfold Rd.takeOne
 split
 ·rename_i a;have b:r.pos<t.length:=by
   unfold Rd.seesOne at a;cases e:t[r.pos]? with
   |none=>rw[e]at a;simp at a
   |some c=>exact(k_.mp e).1
  exact b4H (by simp only;omega)
 ·exact d
theorem a6B(b:Nat)(s:ByteArray)(r:Rd)(i:Value)(low high:UInt8)(w:World)(h:a0b w b s r i)(D:s.size≤400)(H:r.pos≤s.size):
  Calls prog 180 #[.pointer (some (a__ b 0)),.int .u8 low.toNat,.int .u8 high.toNat] w fun e w'=>e= .returned (i_ (r.takeOne s.data.toList low high).2)∧a0b w' b s (r.takeOne s.data.toList low high).1 i∧But b w w':=by
 have f:=h__ h;clear h;cases a:r.seesOne s.data.toList low high
 ·have l:r.takeOne s.data.toList low high=({ r with bad:=true },0):=by simp[Rd.takeOne,a]
  rw[l];clear l;go_enter func180,ntmps180;go_wp2_with fail;refine(a4Z b s r i low high _ f.out D H).mono ?_;rintro e E ⟨rfl,n,rfl⟩;rw[a];go_wp2_with fail;refine(a8U b s r i _ (by first|exact f.out.drewN _|exact f.out)).mono ?_;rintro e J ⟨rfl,B,x⟩;go_wp2_with fail;go_ret;exact⟨rfl,B,((But.refl _ _).drewN n).trans x⟩
 ·have k:r.pos<s.size:=by
   unfold Rd.seesOne at a;cases e:s.data.toList[r.pos]? with
   |none=>rw[e]at a;simp at a
   |some c=>simpa using (k_.mp e).1
  have j:s.data.toList.getD r.pos 0=s[r.pos]:=by
   simp[k];rfl
  have d:low≤s[r.pos]:=by
   unfold Rd.seesOne at a;rw[s_ (by simpa using k)]at a;simp at a;exact a.2.1
  have l:r.takeOne s.data.toList low high=(Rd.skip s.data.toList { r with pos:=r.pos+1 },((s[r.pos]).toNat:Int)-(low.toNat:Int)):=by simp only[Rd.takeOne,a,a_b,j]
  rw[l];clear l j;have z:low.toNat≤s[r.pos].toNat:=H_.mp d;have I:=s[r.pos].toNat_lt;clear d;have F:=h__ f;obtain⟨m,o,p,q,t,u⟩:=F.out;clear F;go_enter func180,ntmps180;go_wp2_with fail;refine(a4Z b s r i low high _ f.out D H).mono ?_;rintro e E ⟨rfl,g⟩;rw[a];have A:a0b E b s r i:=by obtain⟨n,rfl⟩:=g;exact f.out.drewN n
  have v:But b w E:=by obtain⟨n,rfl⟩:=g;exact(But.refl _ _).drewN n
  clear g f m o p q t u;obtain⟨m,o,p,q,t,u⟩:=A;go_wp2_with fail;have G:(r.pos:Int)<(s.size:Int):=by omega
  go_quiet (fail);go_wp2_with fail;refine(a97 b s { r with pos:=r.pos+1 } i _ ?hr D (by simp only;omega)).mono ?_;case hr=>
   refine⟨?_,?_,?_,?_,?_,?_⟩;all_goals simp[go_sem,m,o,p,q,t,u]
  rintro e L ⟨rfl,C,y⟩;go_wp2_with fail;go_ret;exact⟨rfl,C,(v.trans (((But.refl _ _).drewN _).set 1 _)).trans y⟩
theorem a1B(b:Nat)(s:ByteArray)(r:Rd)(a:Value)(c:UInt8)(w:World)(h:a0b w b s r a)(j:s.size≤400)(g:r.pos≤s.size):
  Calls prog 156 #[.pointer (some (a__ b 0)),.int .u8 c.toNat] w fun e w'=>e= .returned (.tuple #[])∧a0b w' b s (r.takeOne s.data.toList c c).1 a∧But b w w':=by
 have d:=h__ h;clear h;go_enter func156,ntmps156;go_wp2_with (go_at_call 180;refine(a6B b s r a c c _ d.out j g).mono ?_;rintro e w' ⟨rfl,i,f⟩);go_end0;exact⟨rfl,i,f⟩
theorem a52(b:Nat)(s:ByteArray)(r:Rd)(a:Value)(w:World)(h:a0b w b s r a)(i:s.size≤400)(f:r.pos≤s.size):
  Calls prog 157 #[.pointer (some (a__ b 0))] w fun e w'=>e= .returned (i_ (r.takeOne s.data.toList 97 122).2)∧a0b w' b s (r.takeOne s.data.toList 97 122).1 a∧But b w w':=by
 have c:=h__ h;clear h;go_enter func157,ntmps157;go_wp2_with (go_at_call 180;refine(a6B b s r a 97 122 _ c.out i f).mono ?_;rintro e w' ⟨rfl,g,d⟩);go_ret;exact⟨rfl,g,d⟩
def Rd.room(r:Rd):Rd:=if 8≤r.depth then { r with bad:=true } else r
def Rd.opening(t:List UInt8)(r:Rd)(c:UInt8):Rd:= { (r.room.takeOne t c c).1 with depth:=(r.room.takeOne t c c).1.depth+1 }
def Rd.closing(t:List UInt8)(r:Rd)(c:UInt8):Rd:= { (r.takeOne t c c).1 with depth:=(r.takeOne t c c).1.depth-1 }
theorem a4Y(r:Rd):r.room.pos=r.pos:=by unfold Rd.room;split<;>rfl
theorem b0M(r:Rd):r.room.depth=r.depth:=by unfold Rd.room;split<;>rfl
theorem a3z(t:List UInt8)(r:Rd)(a b:UInt8):(r.takeOne t a b).1.depth=r.depth:=by
 unfold Rd.takeOne;split<;>rfl
theorem c1o(b:Nat)(s:ByteArray)(r:Rd)(a:Value)(w:World)(h:a0b w b s r a)(l:s.size≤400)(k:r.pos≤s.size):
  Calls prog 119 #[.pointer (some (a__ b 0))] w fun e w'=>e= .returned (.bool (decide (s.size≤r.pos)))∧∃n,w'=w.drewN n:=by
 obtain⟨c,d,f,g,i,j⟩:=h;go_enter func119,ntmps119;go_wp2_with fail;go_quiet (fail)
 go_wp2
 go_ret;exact⟨a3d (by simp),_,rfl⟩
theorem b1A(b:Nat)(s:ByteArray)(r:Rd)(a:Value)(w:World)(h:a0b w b s r a):
  Calls prog 185 #[.pointer (some (a__ b 0))] w fun e w'=>e= .returned (.tuple #[])∧a0b w' b s r.room a∧But b w w':=by
 have c:=h__ h;obtain⟨i,j,k,l,m,n⟩:=h;by_cases d:8≤r.depth
 ·rw[show r.room= { r with bad:=true } by simp[Rd.room,d]];go_enter func185,ntmps185;go_wp2_with (go_at_call 164;refine(a8U b s r a _ c.out).mono ?_;rintro e w' ⟨rfl,g,f⟩);go_end0;exact⟨rfl,g,f⟩
 ·rw[show r.room=r by simp[Rd.room,d]];go_enter func185,ntmps185
  go_wp2
  go_end0;exact⟨rfl,c.out,But.refl _ _⟩
theorem a6w(b:Nat)(s:ByteArray)(r:Rd)(j:Value)(c:UInt8)(w:World)(h:a0b w b s r j)(D:s.size≤400)(C:r.pos≤s.size)(F: -1000≤r.depth)(B:r.depth≤1000):
  Calls prog 182 #[.pointer (some (a__ b 0)),.int .u8 c.toNat] w fun e w'=>e= .returned (.tuple #[])∧a0b w' b s (r.opening s.data.toList c) j∧But b w w':=by
 have y:=h__ h;have d:(r.room.takeOne s.data.toList c c).1.depth=r.depth:=by rw[a3z,b0M]
 have o:r.room.pos≤s.size:=by rw[a4Y];exact C
 unfold Rd.opening;have a:=h__ d;clear h d;go_enter func182,ntmps182;go_wp2_with fail;refine(b1A b s r j _ y.out).mono ?_;rintro e J ⟨rfl,g,m⟩;have k:=h__ g;clear g;go_wp2_with fail;refine(a1B b s r.room j c _ k.out D o).mono ?_;rintro e L ⟨rfl,i,n⟩;generalize x:r.room.takeOne s.data.toList c c=q at i a;obtain⟨⟨G,E,H⟩,I⟩:=q;have z:=h__ x;clear x;obtain⟨p,t,l,u,v,A⟩:=i;have f:E=r.depth:=a.out;simp only at p t l u v;rw[f]at l;go_wp2_with fail;go_end0;refine⟨rfl,?_,(m.trans n).set 2 _⟩;rw[z.out];refine⟨?_,?_,?_,?_,?_,?_⟩;all_goals simp[go_sem,p,t,l,u,v,A,f]
theorem a5D(b:Nat)(s:ByteArray)(r:Rd)(k:Value)(c:UInt8)(w:World)(h:a0b w b s r k)(z:s.size≤400)(y:r.pos≤s.size)(B: -1000≤r.depth)(x:r.depth≤1000):
  Calls prog 183 #[.pointer (some (a__ b 0)),.int .u8 c.toNat] w fun e w'=>e= .returned (.tuple #[])∧a0b w' b s (r.closing s.data.toList c) k∧But b w w':=by
 have t:=h__ h;have d:(r.takeOne s.data.toList c c).1.depth=r.depth:=a3z ..;unfold Rd.closing;have a:=h__ d;clear h d;go_enter func183,ntmps183;go_wp2_with fail;refine(a1B b s r k c _ t.out z y).mono ?_;rintro e F ⟨rfl,g,j⟩;generalize p:r.takeOne s.data.toList c c=q at g a;obtain⟨⟨C,A,D⟩,E⟩:=q;have u:=h__ p;clear p;obtain⟨l,m,i,n,o,v⟩:=g;have f:A=r.depth:=a.out;simp only at l m i n o;rw[f]at i;go_wp2_with fail;go_end0;refine⟨rfl,?_,j.set 2 _⟩;rw[u.out];refine⟨?_,?_,?_,?_,?_,?_⟩;all_goals simp[go_sem,l,m,i,n,o,v,f]
def Rd.labF(t:List UInt8):Nat→Rd→Nat→Rd×Nat
 |0,r,l=>(r,l)
 |n+1,r,l=>
  if r.seesOne t (UInt8.ofNat (68-n)) (UInt8.ofNat (68-n))then Rd.labF t n (r.takeOne t (UInt8.ofNat (68-n)) (UInt8.ofNat (68-n))).1 (l+2^(3-n))
  else Rd.labF t n r l
def Rd.label(t:List UInt8)(r:Rd):Rd×Nat:=
 if r.seesOne t 45 45 then((r.takeOne t 45 45).1,0)
 else if(r.labF t 4 0).2=0 then({ (r.labF t 4 0).1 with bad:=true },0)
 else r.labF t 4 0
theorem c4p{t:List UInt8}{r:Rd}{j l:Nat}(a:j<4)(h:r.seesOne t (UInt8.ofNat (65+j)) (UInt8.ofNat (65+j))=true):
  Rd.labF t (4-j) r l=Rd.labF t (4-(j+1)) (r.takeOne t (UInt8.ofNat (65+j)) (UInt8.ofNat (65+j))).1 (l+2^j):=by
 rw[show 4-j=(4-(j+1))+1 by omega]
 conv=>lhs;unfold Rd.labF
 rw[show 68-(4-(j+1))=65+j by omega,show 3-(4-(j+1))=j by omega,n_ h]
theorem c53{t:List UInt8}{r:Rd}{j l:Nat}(a:j<4)(h:r.seesOne t (UInt8.ofNat (65+j)) (UInt8.ofNat (65+j))=false):
  Rd.labF t (4-j) r l=Rd.labF t (4-(j+1)) r l:=by
 rw[show 4-j=(4-(j+1))+1 by omega]
 conv=>lhs;unfold Rd.labF
 rw[show 68-(4-(j+1))=65+j by omega,f_ (by rw[h];decide)]
theorem b0A(b:Nat)(s:ByteArray)(r:Rd)(o:Value)(w:World)(h:a0b w b s r o)(M:s.size≤400)(Z:r.pos≤s.size):
  Calls prog 158 #[.pointer (some (a__ b 0))] w fun e w'=>e= .returned (i_ (r.label s.data.toList).2)∧a0b w' b s (r.label s.data.toList).1 o∧But b w w':=by
 have L:=h__ h;clear h;cases C:r.seesOne s.data.toList 45 45
 ·generalize E:r.labF s.data.toList 4 0=q;obtain⟨rq,lq⟩:=q;have a:r.label s.data.toList=if lq=0 then({ rq with bad:=true },0)else(rq,lq):=by simp[Rd.label,C,E]
  have k:=h__ a;have Aa:=h__ E;clear a E;go_enter func158,ntmps158;go_wp2_with fail;refine(a3L b s r o 45 _ L.out M Z).mono ?_;rintro e V ⟨rfl,f⟩;rw[C];have F:a0b V b s r o:=by obtain⟨n,rfl⟩:=f;exact L.out.drewN n
  have J:But b w V:=by obtain⟨n,rfl⟩:=f;exact(But.refl _ _).drewN n
  clear f L;go_wp2_with fail;go_loopw [3,4,5] (fun x y z w'=>∃(j l p:Nat) (c:UInt8) (i:Rd),x=i_ l∧y=i_ p∧z= .int .u8 c.toNat∧j≤4∧Hid (c=UInt8.ofNat (65+j))∧Hid (p=2^j)∧l<2^j∧i.pos≤s.size∧Hid (a0b w' b s i o)∧But b w w'∧Hid (Rd.labF s.data.toList (4-j) i l=(rq,lq))) (fun x y z w'=>69-(intOf z).toNat);case atStart=>exact⟨0,0,1,65,r,rfl,rfl,rfl,by omega,rfl,rfl,by omega,Z,F,J,Aa⟩
  case round=>
   obtain⟨j,l,p,c,i,rfl,rfl,rfl,hj,X,Y,hl,B,u,m,HL⟩:=hrel;have D:c.toNat=65+j:=by rw[X.out];simp;omega
   have Ao:=h__ D;have Aq:p≤16:=by have h9:2^j≤2^4:=a_n (by omega) hj;rw[Y.out];omega
   have E:l≤16:=by have h9:2^j≤2^4:=a_n (by omega) hj;omega
   by_cases S:j<4
   ·have Af:c.toNat≤68:=by omega
    have Ap:65≤c.toNat:=by omega
    have Aj:UInt8.ofNat (65+(j+1))=UInt8.ofNat (65+j+1):=rfl;have U:(UInt8.ofNat (65+(j+1))).toNat=c.toNat+1:=by rw[D];simp;omega
    have O:=h__ U;have Ak:2*p=2^(j+1):=by rw[Y.out,b_l];omega
    have P:Hid (p*2=2^(j+1)):=by show _=_;omega
    have Ah:l+p<2^(j+1):=by have:=Y.out;omega
    have Ai:l<2^(j+1):=by omega
    clear D Aj U Ak;cases G:i.seesOne s.data.toList c c
    ·have HF:Hid _:=c53 (l:=l) S (by rw[←X.out];exact G);go_wp2_with fail;refine(a3L b s i o c _ u.out M B).mono ?_;rintro e N ⟨rfl,g⟩;rw[G];have v:a0b N b s i o:=by obtain⟨n,rfl⟩:=g;exact u.out.drewN n
     have A:But b w N:=by obtain⟨n,rfl⟩:=g;exact m.drewN n
     clear g;go_wp2_with fail;go_roundw;case rel=>exact⟨j+1,l,p*2,UInt8.ofNat (65+(j+1)),i,rfl,by go_num,by rw[O.out];go_num,by omega,rfl,P,Ai,B,v,A,HF.out.symm.trans HL.out⟩
     case measure=>simp[intOf];omega
    ·have HF:Hid _:=c4p (l:=l) S (by rw[←X.out];exact G);have Al:=a43 (t:=s.data.toList) (r:=i) (low:=c) (high:=c) (by simpa using B);go_wp2_with fail;refine(a3L b s i o c _ u.out M B).mono ?_;rintro e N ⟨rfl,g⟩;rw[G];have v:a0b N b s i o:=by obtain⟨n,rfl⟩:=g;exact u.out.drewN n
     have A:But b w N:=by obtain⟨n,rfl⟩:=g;exact m.drewN n
     have Ac:=h__ v;clear g v;go_wp2_with fail;refine(a1B b s i o c _ Ac.out M B).mono ?_;rintro e w3 ⟨rfl,Am,Ad⟩;go_wp2_with fail;go_roundw;case rel=>exact⟨j+1,l+p,p*2,UInt8.ofNat (65+(j+1)),(i.takeOne s.data.toList c c).1,by go_num,by go_num,by rw[O.out];go_num,by omega,rfl,P,Ah,by simpa using Al,Am,A.trans Ad,by have R:=HF.out.symm.trans HL.out;rw[←X.out,←Y.out]at R;exact R⟩
     case measure=>simp[intOf];omega
   ·have Ag:j=4:=by omega
    have H:(i,l)=(rq,lq):=by have R:=HL.out;rw[Ag]at R;exact R
    simp only[a_V]at H;obtain⟨rfl,rfl⟩:=H;have Af:68<c.toNat:=by omega
    clear D;by_cases T:l=0
    ·subst T;have d:=k.out;rw[n_ rfl]at d;have I:=h__ d;clear d k;go_wp2_with fail;refine(a8U b s i o _ u.out).mono ?_;rintro e w4 ⟨rfl,An,Ae⟩;go_wp2_with fail;go_ret;rw[I.out];exact⟨rfl,An,m.trans Ae⟩
    ·have d:=k.out;rw[f_ T]at d;have I:=h__ d;have tl:((l:Int)==0)=false:=by simp;omega
     clear d k;go_wp2_with fail;go_ret;rw[I.out];exact⟨rfl,u.out,m⟩
 ·have a:r.label s.data.toList=((r.takeOne s.data.toList 45 45).1,0):=by simp[Rd.label,C]
  rw[a];clear a;go_enter func158,ntmps158;go_wp2_with fail;refine(a3L b s r o 45 _ L.out M Z).mono ?_;rintro e V ⟨rfl,f⟩;rw[C];have F:a0b V b s r o:=by obtain⟨n,rfl⟩:=f;exact L.out.drewN n
  have J:But b w V:=by obtain⟨n,rfl⟩:=f;exact(But.refl _ _).drewN n
  have Ab:=h__ F;clear f L F;go_wp2_with fail;refine(a1B b s r o 45 _ Ab.out M Z).mono ?_;rintro e N ⟨rfl,v,A⟩;go_wp2_with fail;go_ret;exact⟨rfl,v,J.trans A⟩
def Rd.numF(t:List UInt8):Nat→Rd→Int→Rd×Int
 |0,r,v=>(r,v)
 |n+1,r,v=>if r.seesOne t 48 57 then Rd.numF t n (r.takeOne t 48 57).1 (v*10+(r.takeOne t 48 57).2)else(r,v)
def Rd.number(t:List UInt8)(r:Rd):Rd×Int:=Rd.numF t 17 (r.takeOne t 48 57).1 (r.takeOne t 48 57).2
theorem b0l(t:List UInt8)(r:Rd):0≤(r.takeOne t 48 57).2∧(r.takeOne t 48 57).2≤9:=by
 unfold Rd.takeOne
 split
 ·rename_i h;unfold Rd.seesOne at h;cases e:t[r.pos]? with
  |none=>rw[e]at h;simp at h
  |some c=>
   rw[e]at h;simp[H_]at h;have:t.getD r.pos 0=c:=by rw[t_,e];rfl
   rw[this];simp;omega
 ·simp
theorem c4F{t:List UInt8}{r:Rd}{j:Nat}{v:Int}(a:j<18)(h:r.seesOne t 48 57=true):Rd.numF t (18-j) r v=Rd.numF t (18-(j+1)) (r.takeOne t 48 57).1 (v*10+(r.takeOne t 48 57).2):=by
 rw[show 18-j=(18-(j+1))+1 by omega]
 conv=>lhs;unfold Rd.numF
 rw[n_ h]
theorem c59{t:List UInt8}{r:Rd}{j:Nat}{v:Int}(a:j<18)(h:r.seesOne t 48 57=false):Rd.numF t (18-j) r v=(r,v):=by
 rw[show 18-j=(18-(j+1))+1 by omega]
 conv=>lhs;unfold Rd.numF
 rw[f_ (by rw[h];decide)]
theorem c2u(b:Nat)(s:ByteArray)(r:Rd)(m:Value)(w:World)(h:a0b w b s r m)(G:s.size≤400)(hp:r.pos≤s.size):
  Calls prog 217 #[.pointer (some (a__ b 0))] w fun e w'=>e= .returned (i_ (r.number s.data.toList).2)∧a0b w' b s (r.number s.data.toList).1 m∧But b w w':=by
 have HH:=h__ h;clear h;have Y:=b0l s.data.toList r;have a:=a43 (t:=s.data.toList) (r:=r) (low:=48) (high:=57) (by simpa using hp);unfold Rd.number;generalize hq:r.takeOne s.data.toList 48 57=q at*;obtain⟨T,v1⟩:=q;generalize Z:Rd.numF s.data.toList 17 T v1=z;obtain⟨rz,vz⟩:=z;have HN:=h__ Z;have HQ:=h__ hq;simp only at Y a;have P:T.pos≤s.size:=by simpa using a
 clear hq Z a;go_enter func217,ntmps217;go_wp2_with fail;refine(a6B b s r m 48 57 _ HH.out G hp).mono ?_;rw[HQ.out];rintro e w1 ⟨rfl,R,M⟩;go_wp2_with fail;go_loopw [3,4] (fun x y w'=>∃(j:Nat) (v:Int) (d:Rd),x=i_ v∧y=i_ j∧1≤j∧j≤18∧0≤v∧v<10^j∧d.pos≤s.size∧Hid (a0b w' b s d m)∧But b w w'∧Hid (Rd.numF s.data.toList (18-j) d v=(rz,vz))) (fun x y w'=>18-(intOf y).toNat);case atStart=>exact⟨1,v1,T,rfl,rfl,by omega,by omega,Y.1,by omega,P,R,M,HN⟩
 case round=>
  obtain⟨j,v,d,rfl,rfl,Ac,hj,Ad,u,i,f,g,H⟩:=hrel;by_cases o:j<18
  ·have Ae:v≤99999999999999999:=by
    have h9:(10:Nat)^j≤10^17:=a_n (by omega) (by omega);have h8:((10^j:Nat):Int)=(10:Int)^j:=by simp
    omega
   have tj:decide ((j:Int)<18)=true:=by simp;omega
   cases l:d.seesOne s.data.toList 48 57
   ·have B:=(c59 (v:=v) o l).symm.trans H.out;simp only[a_V]at B;obtain⟨rfl,rfl⟩:=B;clear u;go_wp2_with fail;refine(a4Z b s d m 48 57 _ f.out G i).mono ?_;rintro e F ⟨rfl,c⟩;rw[l];have k:a0b F b s d m:=by obtain⟨n,rfl⟩:=c;exact f.out.drewN n
    have p:But b w F:=by obtain⟨n,rfl⟩:=c;exact g.drewN n
    clear c;go_wp2_with fail;go_ret;exact⟨rfl,k,p⟩
   ·have U:Hid _:=(c4F (v:=v) o l).symm.trans H.out;have A:=b0l s.data.toList d;have a:=a43 (t:=s.data.toList) (r:=d) (low:=48) (high:=57) (by simpa using i);generalize E:d.takeOne s.data.toList 48 57=q2 at*;obtain⟨r2,V⟩:=q2;have J:=h__ E;simp only at A a U;obtain⟨Aa,Ab⟩:=A;have C:r2.pos≤s.size:=by simpa using a
    have D:v*10+V<10^(j+1):=by rw[Int.pow_succ];omega
    have I:=h__ D;clear E a D u;go_wp2_with fail;refine(a4Z b s d m 48 57 _ f.out G i).mono ?_;rintro e F ⟨rfl,c⟩;rw[l];have k:a0b F b s d m:=by obtain⟨n,rfl⟩:=c;exact f.out.drewN n
    have p:But b w F:=by obtain⟨n,rfl⟩:=c;exact g.drewN n
    have L:=h__ k;clear c k;go_wp2_with fail;refine(a6B b s d m 48 57 _ L.out G i).mono ?_;rw[J.out];rintro e w3 ⟨rfl,S,N⟩;go_wp2_with fail;go_roundw;case rel=>exact⟨j+1,v*10+V,r2,rfl,by go_num,by omega,by omega,by omega,I.out,C,S,p.trans N,U⟩
    case measure=>simp[intOf];omega
  ·have O:j=18:=by omega
   have B:(d,v)=(rz,vz):=by have X:=H.out;rw[O]at X;exact X
   simp only[a_V]at B;obtain⟨rfl,rfl⟩:=B;have tj:decide ((j:Int)<18)=false:=by simp;omega
   clear u;go_wp2_with fail;go_ret;exact⟨rfl,f.out,g⟩
def Rd.oper(t:List UInt8)(r:Rd)(a:UInt8)(c:Int)(b:UInt8)(d:Int):Rd×Int:=
 if r.seesOne t a a then((r.takeOne t a a).1,c)
 else if r.seesOne t b b then((r.takeOne t b b).1,d)
 else(r,0)
def Rd.prodOper(t:List UInt8)(r:Rd):Rd×Int:=
 if r.seesOne t 37 37 then((r.takeOne t 37 37).1,8)else r.oper t 42 6 47 7
theorem b7J(b:Nat)(s:ByteArray)(r:Rd)(j:Value)(f g:UInt8)(c d:Int)(w:World)(h:a0b w b s r j)(q:s.size≤400)(o:r.pos≤s.size):
  Calls prog 209 #[.pointer (some (a__ b 0)),.int .u8 f.toNat,i_ c,.int .u8 g.toNat,i_ d] w fun e w'=>e= .returned (i_ (r.oper s.data.toList f c g d).2)∧a0b w' b s (r.oper s.data.toList f c g d).1 j∧But b w w':=by
 have k:=h__ h;clear h;cases t:r.seesOne s.data.toList f f
 ·cases y:r.seesOne s.data.toList g g
  ·rw[show r.oper s.data.toList f c g d=(r,0)by simp[Rd.oper,t,y]];go_enter func209,ntmps209;go_wp2_with fail;refine(a3L b s r j f _ k.out q o).mono ?_;rintro e z ⟨rfl,x,rfl⟩;rw[t];go_wp2_with fail;refine(a3L b s r j g _ (k.out.drewN x) q o).mono ?_;rintro e v ⟨rfl,u,rfl⟩;rw[y];go_wp2_with fail;go_ret;exact⟨rfl,k.out.drewN _,(But.refl _ _).drewN _⟩
  ·rw[show r.oper s.data.toList f c g d=((r.takeOne s.data.toList g g).1,d)by simp[Rd.oper,t,y]];go_enter func209,ntmps209;go_wp2_with fail;refine(a3L b s r j f _ k.out q o).mono ?_;rintro e z ⟨rfl,x,rfl⟩;rw[t];go_wp2_with fail;refine(a3L b s r j g _ (k.out.drewN x) q o).mono ?_;rintro e v ⟨rfl,u,a⟩;have i:a0b v b s r j:=by rw[a];exact(k.out.drewN x).drewN u
   have m:But b w v:=by rw[a];exact((But.refl _ _).drewN x).drewN u
   have l:=h__ i;clear a i;rw[y];go_wp2_with fail;refine(a1B b s r j g _ l.out q o).mono ?_;rintro e A ⟨rfl,p,n⟩;go_wp2_with fail;go_ret;exact⟨rfl,p,m.trans n⟩
 ·rw[show r.oper s.data.toList f c g d=((r.takeOne s.data.toList f f).1,c)by simp[Rd.oper,t]];go_enter func209,ntmps209;go_wp2_with fail;refine(a3L b s r j f _ k.out q o).mono ?_;rintro e v ⟨rfl,u,a⟩;have i:a0b v b s r j:=by rw[a];exact k.out.drewN u
  have m:But b w v:=by rw[a];exact(But.refl _ _).drewN u
  have l:=h__ i;clear a i;rw[t];go_wp2_with fail;refine(a1B b s r j f _ l.out q o).mono ?_;rintro e A ⟨rfl,p,n⟩;go_wp2_with fail;go_ret;exact⟨rfl,p,m.trans n⟩
theorem b7R(b:Nat)(s:ByteArray)(r:Rd)(d:Value)(w:World)(h:a0b w b s r d)(p:s.size≤400)(o:r.pos≤s.size):
  Calls prog 215 #[.pointer (some (a__ b 0))] w fun e w'=>e= .returned (i_ (r.prodOper s.data.toList).2)∧a0b w' b s (r.prodOper s.data.toList).1 d∧But b w w':=by
 have m:=h__ h;clear h;cases n:r.seesOne s.data.toList 37 37
 ·rw[show r.prodOper s.data.toList=r.oper s.data.toList 42 6 47 7 by simp[Rd.prodOper,n]];go_enter func215,ntmps215;go_wp2_with fail;refine(a3L b s r d 37 _ m.out p o).mono ?_;rintro e l ⟨rfl,k,a⟩;have c:a0b l b s r d:=by rw[a];exact m.out.drewN k
  have g:But b w l:=by rw[a];exact(But.refl _ _).drewN k
  have f:=h__ c;clear a c;rw[n];go_wp2_with fail;refine(b7J b s r d 42 47 6 7 _ f.out p o).mono ?_;rintro e q ⟨rfl,j,i⟩;go_wp2_with fail;go_ret;exact⟨rfl,j,g.trans i⟩
 ·rw[show r.prodOper s.data.toList=((r.takeOne s.data.toList 37 37).1,8)by simp[Rd.prodOper,n]];go_enter func215,ntmps215;go_wp2_with fail;refine(a3L b s r d 37 _ m.out p o).mono ?_;rintro e l ⟨rfl,k,a⟩;have c:a0b l b s r d:=by rw[a];exact m.out.drewN k
  have g:But b w l:=by rw[a];exact(But.refl _ _).drewN k
  have f:=h__ c;clear a c;rw[n];go_wp2_with fail;refine(a1B b s r d 37 _ f.out p o).mono ?_;rintro e q ⟨rfl,j,i⟩;go_wp2_with fail;go_ret;exact⟨rfl,j,g.trans i⟩
structure Pt where
 op:Int
 num:Int
def ptV(p:Pt):List Value:= [.int .i64 p.op,.int .i64 p.num]
def a4l(l:List Pt):List Value:=l.flatMap ptV
theorem b85(l r:List Pt):a4l (l++r)=a4l l++a4l r:=by simp[a4l]
theorem c4k:(prog.info? 195).map (fun i=>(i.zero,i.size,i.bytes))=some (some (.agg #[i_ 0,i_ 0]),2,16):=by kernel_rfl
theorem b93(w:World)(a b:Value)(t:TypeId):∀j u,[a,b][j]? =some u→(w.alloc (.cells #[a,b] t)).cell? (((a__ w.heap.size 0):Addr).add j)=some u:=by
 intro j u h
 match j,h with
 |0,h=>simp at h;subst h;simp[go_sem,Addr.add]
 |1,h=>simp at h;subst h;simp[go_sem,Addr.add]
 |j+2,h=>simp at h
structure a1g(B b:Nat)(w w':World):Prop where
 os:w'.os=w.os
 tape:w'.tape=w.tape
 output:w'.output=w.output
 size:w.heap.size≤w'.heap.size
 block:∀k,k<B→k≠b→w'.heap[k]? =w.heap[k]?
theorem a1g.refl(B b:Nat)(w:World):a1g B b w w:=⟨rfl,rfl,rfl,a_ _,fun _ _ _=>rfl⟩
theorem a1g.trans{B b:Nat}{w w1 d:World}(h:a1g B b w w1)(k:a1g B b w1 d):a1g B b w d:=
 ⟨k.os.trans h.os,k.tape.trans h.tape,k.output.trans h.output,K_ h.size k.size,fun i a c=>(k.block i a c).trans (h.block i a c)⟩
theorem But.keep{B b:Nat}{w w':World}(h:But b w w')(j:B≤w.heap.size):a1g B b w w':=by
 obtain⟨a,c,d,f,g⟩:=h;exact⟨a,c,d,f,fun k l i=>g k (by omega) (by intro e;cases e;exact i rfl)⟩
theorem a1g.drewN{B b:Nat}{w w':World}(h:a1g B b w w')(n:Nat):a1g B b w (w'.drewN n):=⟨h.os,h.tape,h.output,h.size,h.block⟩
theorem a1g.alloc{B b:Nat}{w w':World}(h:a1g B b w w')(a:B≤w'.heap.size)(o:Obj):a1g B b w (w'.alloc o):=
 h.trans ⟨rfl,rfl,rfl,by simp,fun k c _=>q_ _ _ _ (by omega)⟩
theorem a1g.set{B b:Nat}{w w':World}(h:a1g B b w w')(o:Nat)(u:Value):a1g B b w (w'.setCell (a__ b o) u):=
 h.trans ⟨rfl,rfl,rfl,by simp[World.setCell],fun k c a=>o_ _ _ _ _ a⟩
theorem a1g.grown{B b:Nat}{a w w':World}{d:Option Nat}(h:a1g B b a w)(c:w.grownBy w' d)(g:B≤w.heap.size)(f:∀k,d=some k→B≤k):a1g B b a w':=
 h.trans ⟨c.os,c.tape,c.output,c.size,fun k i _=>c.block k (by omega) (fun e=>by have:=f k e.symm;omega)⟩
theorem b9J{w w':World}{a c n b:Nat}{e:TypeId}{v:Value}{xs:List Value}(h:w.ownsRow a e c v n xs)(f:But b w w')(i:b<a):w'.ownsRow a e c v n xs:=by
 refine h.kept f ?_;cases j:v.ownBlock with
 |none=>exact .inl rfl
 |some g=>
  refine .inr fun d=> ?_
  have:=(h.lt g j).1;cases d;omega
structure a1t(w:World)(base b:Nat)(s:ByteArray)(r:Rd)(l:List Pt):Prop where
 here:∃pv,a0b w b s r pv∧w.ownsRow base 195 2 pv l.length (a4l l)
 lt:b<base
 le:base≤w.heap.size
theorem a7I{w w':World}{b:Nat}{s:ByteArray}{r:Rd}{g:Value}{d:Option Nat}(h:a0b w b s r g)(a:w.grownBy w' d)(c:some b≠d):a0b w' b s r g:=by
 obtain⟨f,i,j,k,l,m⟩:=h;have e:=r_ w _ f;refine⟨a.cell f c,a.cell i c,a.cell j c,a.cell k c,a.cell l c,fun o=> ?_⟩;rw[I_ (w:=w) (a.block b e c)];exact m o
theorem a5B(c b:Nat)(s:ByteArray)(r:Rd)(l:List Pt)(L m:Int)(w:World)(h:a1t w c b s r l)(U:l.length≤1000):
  Calls prog 210 #[.pointer (some (a__ b 0)),i_ L,i_ m] w fun e w'=>e= .returned (.tuple #[])∧a1t w' c b s r (l++ [⟨L,m⟩])∧a1g c b w w':=by
 obtain⟨⟨M,P,G⟩,A,E⟩:=h;have N:=h__ P;obtain⟨n,t,u,v,x,y⟩:=P;obtain⟨j,D,f⟩:∃j,prog.info? 195=some j∧(j.zero,j.size,j.bytes)=(some (.agg #[i_ 0,i_ 0]),2,16):=by
  have:=c4k;cases e:prog.info? 195 with
  |none=>rw[e]at this;cases this
  |some j=>rw[e]at this;simp at this;exact⟨j,rfl,by simpa using this⟩
 simp only[a_V]at f;obtain⟨f,I,C⟩:=f;have p:b<w.heap.size:=r_ w _ n;go_enter func210,ntmps210;go_wp2_with (at_builtin;refine b_i _ rfl (.tmp 10) (.tmp 14) 140 rfl c 195 j (.agg #[i_ 0,i_ 0]) 2 16 underlying140 D f I C rfl (by decide) M l.length (a4l l) (by rfl) (by exact G.alloc _) (a__ w.heap.size 0) 1 1 [i_ L,i_ m] (by rfl) rfl (by exact b93 w _ _ 195) (by intro q O;simp at O;rcases O with rfl|rfl<;>rfl) (by unfold maxLen;omega) (by omega) (by simp;omega) ?nxt);case nxt=>
  intro V R i d _;have F:some b≠M.ownBlock:=by
   intro e;have:=(G.lt b e.symm).1;omega
  have H:a0b R b s r M:=by
   refine a7I ?_ d F;obtain⟨n,t,u,v,x,y⟩:=N.out;refine⟨?_,?_,?_,?_,?_,fun o=> ?_⟩
   ·exact(T_ _ _ _ p).trans n
   ·exact(T_ _ _ _ p).trans t
   ·exact(T_ _ _ _ p).trans u
   ·exact(T_ _ _ _ p).trans v
   ·exact(T_ _ _ _ p).trans x
   ·exact(a_3 _ _ _ p).trans (y o)
  have z:a1g c b w R:=by
   refine a1g.grown ((a1g.refl c b w).alloc E _) d (by simp;omega) ?_;intro k z;exact(G.lt k z).1
  have T:=z.size;clear n t u v x y N d;have S:=h__ z;clear z;obtain⟨n,t,u,v,x,y⟩:=H;obtain⟨g,B,J⟩:=Joins.ownsRow_form i (by omega);subst J
  go_wp2
  go_end0;refine⟨rfl,⟨⟨.slice (some (a__ g 0)) (l.length+1) B,⟨?_,?_,?_,?_,?_,?_⟩,?_⟩,A,by simp;omega⟩,S.out.set 3 _⟩;case _=>simp[go_sem,n]
  case _=>simp[go_sem,t]
  case _=>simp[go_sem,u]
  case _=>simp[go_sem,v]
  case _=>simp[go_sem,x]
  case _=>intro o;simp[go_sem,y]
  case _=>
   rw[x_,b85];exact a_d i (a:=(a__ b 3)) (by simpa using A) _
abbrev RP:=Rd×List Pt
def a01(t:List UInt8):Nat→Rd→Rd×Nat
 |0,r=>(r,0)
 |n+1,r=>if r.seesOne t 45 45 then((a01 t n (r.takeOne t 45 45).1).1,(a01 t n (r.takeOne t 45 45).1).2+1)else(r,0)
def a3b(t:List UInt8)(a:RP→RP)(x:RP):RP:=
 if x.1.seesOne t 48 57 then((x.1.number t).1,x.2++ [⟨1,(x.1.number t).2⟩])
 else if x.1.seesOne t 97 122 then((x.1.takeOne t 97 122).1,x.2++ [⟨2,(x.1.takeOne t 97 122).2⟩])
 else if x.1.seesOne t 40 40 then((a (x.1.opening t 40,x.2)).1.closing t 41,(a (x.1.opening t 40,x.2)).2)
 else({ x.1 with bad:=true },x.2)
def negs(k:Nat):List Pt:=List.replicate k ⟨3,0⟩
def a2C(t:List UInt8)(a:RP→RP)(x:RP):RP:=
 let m:=a01 t (t.length+1) x.1
 let y:=a3b t a (m.1,x.2)
 (y.1,y.2++negs m.2)
def a47(t:List UInt8)(a:RP→RP):Nat→RP→RP
 |0,x=>x
 |n+1,x=>
  let o:=x.1.prodOper t
  if o.2=0 then(o.1,x.2)
  else
   let y:=a2C t a (o.1,x.2)
   a47 t a n (y.1,y.2++ [⟨o.2,0⟩])
def a2Y(t:List UInt8)(a:RP→RP)(x:RP):RP:=a47 t a (t.length+1) (a2C t a x)
def a6s(t:List UInt8)(a:RP→RP):Nat→RP→RP
 |0,x=>x
 |n+1,x=>
  let o:=x.1.oper t 43 4 45 5
  if o.2=0 then(o.1,x.2)
  else
   let y:=a2Y t a (o.1,x.2)
   a6s t a n (y.1,y.2++ [⟨o.2,0⟩])
def a1E(t:List UInt8)(a:RP→RP)(x:RP):RP:=a6s t a (t.length+1) (a2Y t a x)
def a6L(t:List UInt8)(a:RP→RP)(x:RP):RP:=
 let y:=a1E t a x
 let o:=y.1.oper t 60 9 61 10
 if o.2=0 then(o.1,y.2)
 else
  let z:=a1E t a (o.1,y.2)
  (z.1,z.2++ [⟨o.2,0⟩])
def a5G(t:List UInt8):Nat→RP→RP
 |0,x=>x
 |n+1,x=>a6L t (a5G t n) x
structure Adv(t:List UInt8)(x y:RP):Prop where
 pos:x.1.pos≤y.1.pos
 le:y.1.pos≤t.length
 len:y.2.length+x.1.pos≤x.2.length+y.1.pos
 depth:y.1.depth=x.1.depth
 bad:x.1.bad=true→y.1.bad=true
structure Fit(t:List UInt8)(n:Nat)(x:RP):Prop where
 le:x.1.pos≤t.length
 len:x.2.length≤x.1.pos
 d0:0≤x.1.depth
 d9:x.1.depth≤9
 db:x.1.depth=9→x.1.bad=true
 fuel:9-x.1.depth<n
theorem Adv.trans{t:List UInt8}{x y z:RP}(h:Adv t x y)(k:Adv t y z):Adv t x z:=
 ⟨K_ h.pos k.pos,k.le,by have:=h.len;have:=k.len;omega,k.depth.trans h.depth,fun e=>k.bad (h.bad e)⟩
theorem Adv.fit{t:List UInt8}{n:Nat}{x y:RP}(h:Adv t x y)(f:Fit t n x):Fit t n y:=
 ⟨h.le,by have:=h.len;have:=f.len;omega,by rw[h.depth];exact f.d0,by rw[h.depth];exact f.d9,fun e=>h.bad (f.db (by rw[←h.depth];exact e)),by rw[h.depth];exact f.fuel⟩
theorem a5N{t:List UInt8}{x:RP}(h:x.1.pos≤t.length):Adv t x x:=⟨a_ _,h,a_ _,rfl,id⟩
theorem a4m{t:List UInt8}{r:Rd}{a b:UInt8}(h:r.seesOne t a b=true):r.pos<t.length∧r.bad=false:=by
 unfold Rd.seesOne at h;cases e:t[r.pos]? with
 |none=>rw[e]at h;simp at h
 |some c=>exact⟨(k_.mp e).1,by cases d:r.bad with|false=>rfl|true=>rw[d]at h;simp at h⟩
theorem b4G(t:List UInt8)(k:Nat):k≤a2Z (t.drop k) k:=(a7O _ _).1
theorem a21{t:List UInt8}{r:Rd}{a b:UInt8}(h:r.seesOne t a b=true):r.pos+1≤(r.takeOne t a b).1.pos:=by
 unfold Rd.takeOne;rw[n_ h];exact b4G t _
theorem a88{t:List UInt8}{r:Rd}{a b:UInt8}(h:r.seesOne t a b=true):(r.takeOne t a b).1.bad=false:=by
 unfold Rd.takeOne;rw[n_ h];exact(a4m h).2
theorem a4r{t:List UInt8}{r:Rd}(h:r.bad=true)(a b:UInt8):r.seesOne t a b=false:=by simp[Rd.seesOne,h]
theorem a18{t:List UInt8}{r:Rd}(h:r.bad=true)(a b:UInt8):(r.takeOne t a b).1=r:=by
 unfold Rd.takeOne;rw[a4r h];cases r;simp at h;simp[h]
theorem a42{t:List UInt8}{r:Rd}{l:List Pt}(a b:UInt8)(h:r.pos≤t.length):Adv t (r,l) ((r.takeOne t a b).1,l):=by
 refine⟨?_,a43 h,?_,a3z ..,?_⟩
 ·unfold Rd.takeOne;split
  ·exact K_ (b_z _) (b4G t _)
  ·exact a_ _
 ·have:r.pos≤(r.takeOne t a b).1.pos:=by
   unfold Rd.takeOne;split
   ·exact K_ (b_z _) (b4G t _)
   ·exact a_ _
  simp only;omega
 ·intro c;show(r.takeOne t a b).1.bad=true;rw[a18 c];exact c
theorem a87{t:List UInt8}{r:Rd}{l:List Pt}{a b:UInt8}(p:Pt)(c:r.seesOne t a b=true):Adv t (r,l) ((r.takeOne t a b).1,l++ [p]):=by
 have h:=(a4m c).1;have k:=a42 (l:=l) a b (a_K h);have g:=a21 c;exact⟨k.pos,k.le,by simp only[x_,B_,a_r];omega,k.depth,k.bad⟩
theorem b7C{t:List UInt8}{l:List Pt} :∀(n:Nat) (r:Rd) (v:Int),r.pos≤t.length→Adv t (r,l) ((Rd.numF t n r v).1,l)
 |0,r,v,h=>a5N h
 |n+1,r,v,h=>by
  unfold Rd.numF
  split
  ·have k:=a42 (l:=l) 48 57 h;exact k.trans (b7C n _ _ k.le)
  ·exact a5N h
theorem b8Y{t:List UInt8}{r:Rd}{l:List Pt}(p:Pt)(a:r.seesOne t 48 57=true):Adv t (r,l) ((r.number t).1,l++ [p]):=by
 have k:=a87 (l:=l) p a;exact k.trans (b7C 17 _ _ k.le)
theorem a7e{t:List UInt8}{l:List Pt} :∀(n:Nat) (r:Rd),r.pos≤t.length→Adv t (r,l) ((a01 t n r).1,l++negs (a01 t n r).2)
 |0,r,h=>by simpa[a01,negs]using a5N (x:=(r,l)) h
 |n+1,r,h=>by
  unfold a01
  split
  ·rename_i a;have k:=a87 (l:=l) ⟨3,0⟩ a;have q:=a7e (l:=l++ [⟨3,0⟩]) n _ k.le;have e:l++negs ((a01 t n (r.takeOne t 45 45).1).2+1)=l++ [⟨3,0⟩]++negs (a01 t n (r.takeOne t 45 45).1).2:=by
    simp[negs,a_4]
   simp only[e];exact k.trans q
  ·simpa[negs]using a5N (x:=(r,l)) h
def a3D(t:List UInt8)(n:Nat)(a:RP→RP):Prop:=∀x,Fit t n x→Adv t x (a x)
theorem a9J{t:List UInt8}{n:Nat}{r:Rd}{l:List Pt}(h:Fit t (n+1) (r,l))(p:r.seesOne t 40 40=true):Fit t n (r.opening t 40,l)∧(r.opening t 40).depth=r.depth+1∧r.pos≤(r.opening t 40).pos:=by
 have m:=(a4m p).2;have a:=h.le;have b:=h.len;have f:=h.d0;have g:=h.d9;have i:=h.fuel;simp only at a b f g i;have q:r.depth≤8:=by
  apply a_F;intro s;have:=h.db (by simp only;omega);simp only at this;rw[m]at this;cases this
 have k:=a42 (l:=l) (r:=r.room) 40 40 (by rw[a4Y];exact a);have o:(r.opening t 40).depth=r.depth+1:=by
  show(r.room.takeOne t 40 40).1.depth+1=_;rw[a3z,b0M]
 have d:r.pos≤(r.opening t 40).pos:=by
  have:=k.pos;simp only[a4Y]at this;exact this
 refine⟨⟨k.le,?_,by simp only;omega,by simp only;omega,fun e=> ?_,by simp only;omega⟩,o,d⟩
 ·simp only;omega
 ·show(r.room.takeOne t 40 40).1.bad=true;simp only at e;have j:8≤r.depth:=by omega
  have c:r.room.bad=true:=by unfold Rd.room;rw[n_ j]
  rw[a18 c];exact c
theorem b3U{t:List UInt8}{n:Nat}{a:RP→RP}(e:a3D t n a){x:RP}(h:Fit t (n+1) x):Adv t x (a3b t a x):=by
 obtain⟨r,l⟩:=x;unfold a3b
 split
 ·rename_i b;exact b8Y _ b
 split
 ·rename_i b;exact a87 _ b
 split
 ·rename_i b;obtain⟨d,o,f⟩:=a9J h b;have k:=e _ d;have q:=a42 (l:=(a (r.opening t 40,l)).2) (r:=(a (r.opening t 40,l)).1) 41 41 k.le;have g:=k.pos;have i:=k.len;have j:=k.depth;simp only at g i j;have m:=q.pos;simp only at m;refine⟨?_,q.le,?_,?_,?_⟩
  ·show r.pos≤((a (r.opening t 40,l)).1.takeOne t 41 41).1.pos;omega
  ·show(a (r.opening t 40,l)).2.length+r.pos≤l.length+((a (r.opening t 40,l)).1.takeOne t 41 41).1.pos;have:=a42 (l:=l) (r:=r.room) 40 40 (by rw[a4Y];exact h.le);omega
  ·show((a (r.opening t 40,l)).1.takeOne t 41 41).1.depth-1=r.depth;rw[a3z];omega
  ·intro c;have:=(a4m b).2;simp only at c this;rw[this]at c;cases c
 ·exact⟨a_ _,h.le,a_ _,rfl,fun _=>rfl⟩
theorem a9U{t:List UInt8}{x y z:RP}(h:Adv t x y)(k:Adv t (y.1,x.2) z)(p:Pt)(b:x.1.pos+1≤y.1.pos)(a:y.2=x.2):Adv t x (z.1,z.2++ [p]):=by
 refine⟨K_ h.pos k.pos,k.le,?_,k.depth.trans h.depth,fun e=>k.bad (h.bad e)⟩;have:=k.len;simp only[x_,B_,a_r]at this⊢;omega
theorem a8e{t:List UInt8}{n:Nat}{b:RP→RP}(d:a3D t n b){x:RP}(h:Fit t (n+1) x):Adv t x (a2C t b x):=by
 obtain⟨r,l⟩:=x;have k:=a7e (l:=l) (t.length+1) r h.le;have g:=a7e (l:= []) (t.length+1) r h.le;unfold a2C;simp only;generalize a01 t (t.length+1) r=m at*;have f:Adv t (r,l) (m.1,l):=⟨k.pos,k.le,by have:=k.pos;simp only at this⊢;omega,k.depth,k.bad⟩
 have q:=b3U d (f.fit h);generalize a3b t b (m.1,l)=y at*;refine⟨K_ k.pos q.pos,q.le,?_,q.depth.trans k.depth,fun e=>q.bad (k.bad e)⟩;have a:=k.len;have c:=q.len;simp only[x_,negs,b_f]at a c⊢;omega
theorem a6j(t:List UInt8)(r:Rd)(a b:UInt8)(p q:Int)(c:p≠0)(d:q≠0):
  (r.oper t a p b q=(r,0))∨((r.oper t a p b q).2≠0∧r.pos+1≤(r.oper t a p b q).1.pos∧(r.oper t a p b q).1.depth=r.depth∧(r.oper t a p b q).1.bad=false∧(r.oper t a p b q).1.pos≤t.length∧r.bad=false):=by
 unfold Rd.oper
 split
 ·rename_i h;exact .inr ⟨c,a21 h,a3z ..,a88 h,a43 (a_K (a4m h).1),(a4m h).2⟩
 split
 ·rename_i h;exact .inr ⟨d,a21 h,a3z ..,a88 h,a43 (a_K (a4m h).1),(a4m h).2⟩
 ·exact .inl rfl
theorem a7H(t:List UInt8)(r:Rd):
  (r.prodOper t=(r,0))∨((r.prodOper t).2≠0∧r.pos+1≤(r.prodOper t).1.pos∧(r.prodOper t).1.depth=r.depth∧(r.prodOper t).1.bad=false∧(r.prodOper t).1.pos≤t.length∧r.bad=false):=by
 unfold Rd.prodOper
 split
 ·rename_i h;exact .inr ⟨by simp,a21 h,a3z ..,a88 h,a43 (a_K (a4m h).1),(a4m h).2⟩
 ·exact a6j t r 42 47 6 7 (by decide) (by decide)
theorem a96{t:List UInt8}{r a:Rd}{l:List Pt}(h:r.pos+1≤a.pos∧a.depth=r.depth∧a.bad=false∧a.pos≤t.length∧r.bad=false):Adv t (r,l) (a,l):=
 ⟨by simp only;omega,h.2.2.2.1,by simp only;omega,h.2.1,fun e=>by simp only at e;rw[h.2.2.2.2]at e;cases e⟩
theorem b5Q{t:List UInt8}{n:Nat}{d:RP→RP}(g:a3D t n d):∀(k:Nat) (x:RP),Fit t (n+1) x→Adv t x (a47 t d k x)
 |0,x,h=>a5N h.le
 |k+1,x,h=>by
  obtain⟨r,l⟩:=x;unfold a47;simp only;rcases a7H t r with e|⟨i,f⟩
  ·rw[e];exact a5N h.le
  ·rw[f_ i];have a:=a96 (l:=l) f;have b:=a8e g (a.fit h);have c:=a9U a b ⟨(r.prodOper t).2,0⟩ f.1 rfl;exact c.trans (b5Q g k _ (c.fit h))
theorem a79{t:List UInt8}{n:Nat}{b:RP→RP}(c:a3D t n b){x:RP}(h:Fit t (n+1) x):Adv t x (a2Y t b x):=by
 have a:=a8e c h;exact a.trans (b5Q c _ _ (a.fit h))
theorem b8i{t:List UInt8}{n:Nat}{d:RP→RP}(g:a3D t n d):∀(k:Nat) (x:RP),Fit t (n+1) x→Adv t x (a6s t d k x)
 |0,x,h=>a5N h.le
 |k+1,x,h=>by
  obtain⟨r,l⟩:=x;unfold a6s;simp only;rcases a6j t r 43 45 4 5 (by decide) (by decide)with e|⟨i,f⟩
  ·rw[e];exact a5N h.le
  ·rw[f_ i];have a:=a96 (l:=l) f;have b:=a79 g (a.fit h);have c:=a9U a b ⟨(r.oper t 43 4 45 5).2,0⟩ f.1 rfl;exact c.trans (b8i g k _ (c.fit h))
theorem a86{t:List UInt8}{n:Nat}{b:RP→RP}(c:a3D t n b){x:RP}(h:Fit t (n+1) x):Adv t x (a1E t b x):=by
 have a:=a79 c h;exact a.trans (b8i c _ _ (a.fit h))
theorem c3S{t:List UInt8}{n:Nat}{c:RP→RP}(g:a3D t n c){x:RP}(h:Fit t (n+1) x):Adv t x (a6L t c x):=by
 have a:=a86 g h;unfold a6L;simp only;generalize a1E t c x=y at*;rcases a6j t y.1 60 61 9 10 (by decide) (by decide)with e|⟨i,f⟩
 ·rw[e];exact a
 ·rw[f_ i];have d:=a96 (l:=y.2) f;have b:=a86 g (d.fit (a.fit h));exact a.trans (a9U d b ⟨_,0⟩ f.1 rfl)
theorem b0h(t:List UInt8):∀n,a3D t n (a5G t n)
 |0=>fun x h=>by have:=h.fuel;have:=h.d9;omega
 |n+1=>fun x h=>c3S (b0h t n) h
theorem a6X{F:Nat}{c:Array Value}{v:Ending}{a b:Nat}{s:ByteArray}{r m:Rd}{l:List Pt}{w:World}(h:a1t w a b s r l)
  (n:∀g,a0b w b s r g→Calls prog F c w fun e w'=>e=v∧a0b w' b s m g∧But b w w'):
  Calls prog F c w fun e w'=>e=v∧a1t w' a b s m l∧a1g a b w w':=by
 obtain⟨⟨g,p,o⟩,f,d⟩:=h;refine(n g p).mono ?_;rintro e w' ⟨rfl,i,j⟩;have k:=j.keep d;exact⟨rfl,⟨⟨g,i,b9J o j f⟩,f,K_ d k.size⟩,k⟩
theorem a1t.drewN{w:World}{a b:Nat}{s:ByteArray}{r:Rd}{l:List Pt}(h:a1t w a b s r l)(n:Nat):a1t (w.drewN n) a b s r l:=by
 obtain⟨⟨g,f,e⟩,d,c⟩:=h;exact⟨⟨g,f.drewN n,e⟩,d,c⟩
theorem b7t{F:Nat}{c:Array Value}{v:Ending}{a b:Nat}{s:ByteArray}{r:Rd}{l:List Pt}{w:World}(h:a1t w a b s r l)
  (f:∀d,a0b w b s r d→Calls prog F c w fun e w'=>e=v∧∃n,w'=w.drewN n):
  Calls prog F c w fun e w'=>e=v∧a1t w' a b s r l∧a1g a b w w':=by
 obtain⟨⟨d,j,k⟩,i,g⟩:=id h;refine(f d j).mono ?_;rintro e w' ⟨rfl,n,rfl⟩;exact⟨rfl,h.drewN n,(a1g.refl _ _ _).drewN n⟩
section
variable {base b : Nat} {s : ByteArray} {r : Rd} {l : List Pt} {w : World}
theorem b14(c:UInt8)(h:a1t w base b s r l)(f:s.size≤400)(a:r.pos≤s.data.toList.length):
  Calls prog 117 #[.pointer (some (a__ b 0)),.int .u8 c.toNat] w fun e w'=>e= .returned (.bool (r.seesOne s.data.toList c c))∧a1t w' base b s r l∧a1g base b w w':=
 b7t h fun g d=>a3L b s r g c w d f (by simpa using a)
theorem a5s(c d:UInt8)(h:a1t w base b s r l)(g:s.size≤400)(a:r.pos≤s.data.toList.length):
  Calls prog 155 #[.pointer (some (a__ b 0)),.int .u8 c.toNat,.int .u8 d.toNat] w fun e w'=>e= .returned (.bool (r.seesOne s.data.toList c d))∧a1t w' base b s r l∧a1g base b w w':=
 b7t h fun i f=>a4Z b s r i c d w f g (by simpa using a)
theorem c6r(c:UInt8)(h:a1t w base b s r l)(f:s.size≤400)(a:r.pos≤s.data.toList.length):
  Calls prog 156 #[.pointer (some (a__ b 0)),.int .u8 c.toNat] w fun e w'=>e= .returned (.tuple #[])∧a1t w' base b s (r.takeOne s.data.toList c c).1 l∧a1g base b w w':=
 a6X h fun g d=>a1B b s r g c w d f (by simpa using a)
theorem b9i(h:a1t w base b s r l)(d:s.size≤400)(a:r.pos≤s.data.toList.length):
  Calls prog 157 #[.pointer (some (a__ b 0))] w fun e w'=>e= .returned (i_ (r.takeOne s.data.toList 97 122).2)∧a1t w' base b s (r.takeOne s.data.toList 97 122).1 l∧a1g base b w w':=
 a6X h fun f c=>a52 b s r f w c d (by simpa using a)
theorem c5M(h:a1t w base b s r l):
  Calls prog 164 #[.pointer (some (a__ b 0))] w fun e w'=>e= .returned (.tuple #[])∧a1t w' base b s { r with bad:=true } l∧a1g base b w w':=
 a6X h fun c a=>a8U b s r c w a
theorem c0R(c:UInt8)(h:a1t w base b s r l)(i:s.size≤400)(f:r.pos≤s.data.toList.length)(d: -1000≤r.depth)(a:r.depth≤1000):
  Calls prog 182 #[.pointer (some (a__ b 0)),.int .u8 c.toNat] w fun e w'=>e= .returned (.tuple #[])∧a1t w' base b s (r.opening s.data.toList c) l∧a1g base b w w':=
 a6X h fun j g=>a6w b s r j c w g i (by simpa using f) d a
theorem c0m(c:UInt8)(h:a1t w base b s r l)(i:s.size≤400)(f:r.pos≤s.data.toList.length)(d: -1000≤r.depth)(a:r.depth≤1000):
  Calls prog 183 #[.pointer (some (a__ b 0)),.int .u8 c.toNat] w fun e w'=>e= .returned (.tuple #[])∧a1t w' base b s (r.closing s.data.toList c) l∧a1g base b w w':=
 a6X h fun j g=>a5D b s r j c w g i (by simpa using f) d a
theorem c2s(h:a1t w base b s r l)(d:s.size≤400)(a:r.pos≤s.data.toList.length):
  Calls prog 217 #[.pointer (some (a__ b 0))] w fun e w'=>e= .returned (i_ (r.number s.data.toList).2)∧a1t w' base b s (r.number s.data.toList).1 l∧a1g base b w w':=
 a6X h fun f c=>c2u b s r f w c d (by simpa using a)
theorem b12(d f:UInt8)(a c:Int)(h:a1t w base b s r l)(j:s.size≤400)(g:r.pos≤s.data.toList.length):
  Calls prog 209 #[.pointer (some (a__ b 0)),.int .u8 d.toNat,i_ a,.int .u8 f.toNat,i_ c] w fun e w'=>e= .returned (i_ (r.oper s.data.toList d a f c).2)∧a1t w' base b s (r.oper s.data.toList d a f c).1 l∧a1g base b w w':=
 a6X h fun k i=>b7J b s r k d f a c w i j (by simpa using g)
theorem b2s(h:a1t w base b s r l)(d:s.size≤400)(a:r.pos≤s.data.toList.length):
  Calls prog 215 #[.pointer (some (a__ b 0))] w fun e w'=>e= .returned (i_ (r.prodOper s.data.toList).2)∧a1t w' base b s (r.prodOper s.data.toList).1 l∧a1g base b w w':=
 a6X h fun f c=>b7R b s r f w c d (by simpa using a)
end
def a6H(s:ByteArray)(n:Nat)(c:RP→RP):Prop:=∀(a b:Nat) (x:RP) (w:World),a1t w a b s x.1 x.2→Fit s.data.toList n x→
 Calls prog 201 #[.pointer (some ⟨b,0,none⟩)] w fun e d=>e= .returned (.tuple #[])∧a1t d a b s (c x).1 (c x).2∧a1g a b w d
theorem b6p(s:ByteArray)(n:Nat)(o:RP→RP)(R:a6H s n o)(P:a3D s.data.toList n o)(k:s.size≤400)(a b:Nat)(x:RP)(w:World)(h:a1t w a b s x.1 x.2)(y:Fit s.data.toList (n+1) x):
  Calls prog 216 #[.pointer (some (a__ b 0))] w fun e w'=>e= .returned (.tuple #[])∧a1t w' a b s (a3b s.data.toList o x).1 (a3b s.data.toList o x).2∧a1g a b w w':=by
 obtain⟨r,l⟩:=x;have m:r.pos≤s.data.toList.length:=y.le;have G:l.length≤r.pos:=y.len;have t:l.length≤1000:=by
  have:s.data.toList.length=s.size:=by simp
  omega
 have u:=h__ h;have A:=h__ y;have Z:=h__ R;have Y:=h__ P;have O:=h__ t;clear h y R P G t;unfold a3b;simp only;cases v:r.seesOne s.data.toList 48 57
 ·cases C:r.seesOne s.data.toList 97 122
  ·cases D:r.seesOne s.data.toList 40 40
   ·simp only[D_,a_g];go_enter func216,ntmps216;go_wp2_with fail;refine(a5s 48 57 u.out k m).mono ?_;rw[v];rintro e L ⟨rfl,g,c⟩;go_wp2_with fail;refine(a5s 97 122 g k m).mono ?_;rw[C];rintro e M ⟨rfl,i,d⟩;go_wp2_with fail;refine(b14 40 i k m).mono ?_;rw[D];rintro e N ⟨rfl,j,f⟩;go_wp2_with fail;refine(c5M j).mono ?_;rintro e V ⟨rfl,q,p⟩;go_wp2_with fail;go_end0;exact⟨rfl,q,((c.trans d).trans f).trans p⟩
   ·simp only[D_,a_g,a_b];obtain⟨B,Aa,S⟩:=a9J A.out D;have J:=Y.out _ B;have d0:=A.out.d0;have d9:=A.out.d9;simp only at d0 d9;have X:=h__ B;have U:=J.le;have kd:=J.depth;simp only at U kd;generalize T:o (r.opening s.data.toList 40,l)=z at*;have HZ:=h__ T;clear T B J;go_enter func216,ntmps216;go_wp2_with fail;refine(a5s 48 57 u.out k m).mono ?_;rw[v];rintro e L ⟨rfl,g,c⟩;go_wp2_with fail;refine(a5s 97 122 g k m).mono ?_;rw[C];rintro e M ⟨rfl,i,d⟩;go_wp2_with fail;refine(b14 40 i k m).mono ?_;rw[D];rintro e N ⟨rfl,j,f⟩;go_wp2_with fail;refine(c0R 40 j k m (by omega) (by omega)).mono ?_;rintro e V ⟨rfl,q,p⟩;go_wp2_with fail;refine(Z.out a b (r.opening s.data.toList 40,l) _ q X.out).mono ?_;rw[HZ.out];rintro e w5 ⟨rfl,H,E⟩;go_wp2_with fail;refine(c0m 41 H k U (by omega) (by omega)).mono ?_;rintro e w6 ⟨rfl,I,F⟩;go_wp2_with fail;go_end0;exact⟨rfl,I,((((c.trans d).trans f).trans p).trans E).trans F⟩
  ·simp only[D_,a_g,a_b];go_enter func216,ntmps216;go_wp2_with fail;refine(a5s 48 57 u.out k m).mono ?_;rw[v];rintro e L ⟨rfl,g,c⟩;go_wp2_with fail;refine(a5s 97 122 g k m).mono ?_;rw[C];rintro e M ⟨rfl,i,d⟩;go_wp2_with fail;refine(b9i i k m).mono ?_;rintro e N ⟨rfl,j,f⟩;go_wp2_with fail;refine(a5B a b s _ l 2 _ _ j O.out).mono ?_;rintro e V ⟨rfl,q,p⟩;go_wp2_with fail;go_end0;exact⟨rfl,q,((c.trans d).trans f).trans p⟩
 ·simp only[a_b];go_enter func216,ntmps216;go_wp2_with fail;refine(a5s 48 57 u.out k m).mono ?_;rw[v];rintro e L ⟨rfl,g,c⟩;go_wp2_with fail;refine(c2s g k m).mono ?_;rintro e M ⟨rfl,i,d⟩;go_wp2_with fail;refine(a5B a b s _ l 1 _ _ i O.out).mono ?_;rintro e N ⟨rfl,j,f⟩;go_wp2_with fail;go_end0;exact⟨rfl,j,(c.trans d).trans f⟩
theorem b5D{t:List UInt8}{r:Rd}(k:Nat)(h:r.seesOne t 45 45=true):a01 t (k+1) r=((a01 t k (r.takeOne t 45 45).1).1,(a01 t k (r.takeOne t 45 45).1).2+1):=by
 conv=>lhs;unfold a01
 rw[n_ h]
theorem b0D{t:List UInt8}{r:Rd}(k:Nat)(h:r.seesOne t 45 45=false):a01 t (k+1) r=(r,0):=by
 conv=>lhs;unfold a01
 rw[f_ (by rw[h];decide)]
theorem c2n(k:Nat):negs k++ [⟨3,0⟩]=negs (k+1):=by
 unfold negs;rw[List.replicate_succ']
theorem b94(s:ByteArray)(n:Nat)(c:RP→RP)(V:a6H s n c)(O:a3D s.data.toList n c)(I:s.size≤400)(a b:Nat)(x:RP)(w:World)(h:a1t w a b s x.1 x.2)(H:Fit s.data.toList (n+1) x):
  Calls prog 214 #[.pointer (some (a__ b 0))] w fun e w'=>e= .returned (.tuple #[])∧a1t w' a b s (a2C s.data.toList c x).1 (a2C s.data.toList c x).2∧a1g a b w w':=by
 obtain⟨r,l⟩:=x;have Ad:s.data.toList.length=s.size:=by simp
 have hp:r.pos≤s.data.toList.length:=H.le;have t:=a7e (l:=l) (s.data.toList.length+1) r H.le;unfold a2C;simp only;generalize U:a01 s.data.toList (s.data.toList.length+1) r=M at*;obtain⟨J,m⟩:=M;simp only at t;have kl:=t.len;have P:=t.le;simp only[x_,negs,b_f]at kl P;have Ac:m≤400:=by omega
 have F:Adv s.data.toList (r,l) (J,l):=⟨t.pos,t.le,by have:=t.pos;simp only at this⊢;omega,t.depth,t.bad⟩
 have G:=F.fit H;have Z:=b3U O G;simp only;generalize Y:a3b s.data.toList c (J,l)=y at*;have N:=Z.fit G;have yl:=N.len;have yp:=N.le;have HY:=h__ Y;have HM:=h__ U;have HH:=h__ h;have FM:=h__ G;have HC:=h__ V;have HA:=h__ O;clear h H V O Y U t F G Z N kl;go_enter func214,ntmps214;go_wp2_with fail;go_loopw [2] (fun x w'=>∃(k j:Nat) (f:Rd),x=i_ k∧f.pos≤s.data.toList.length∧Hid (a1t w' a b s f l)∧Hid (a1g a b w w')∧s.data.toList.length-f.pos<j∧k≤400∧Hid ((a01 s.data.toList j f).1=J∧(a01 s.data.toList j f).2+k=m)) (fun x _=>1000-(intOf x).toNat);case atStart=>exact⟨0,s.data.toList.length+1,r,rfl,hp,HH,a1g.refl _ _ _,by omega,by omega,by show _∧_;rw[HM.out];exact⟨rfl,rfl⟩⟩
 case round=>
  obtain⟨k,j,f,rfl,p,C,X,hj,Ab,T⟩:=hrel;obtain⟨A,rfl⟩:∃A,j=A+1:=⟨j-1,by omega⟩
  cases d:f.seesOne s.data.toList 45 45
  ·have v:=T.out;rw[b0D A d]at v;simp only[a_m]at v;obtain⟨rfl,rfl⟩:=v;go_wp2_with fail;refine(b14 45 C.out I p).mono ?_;rw[d];rintro e w2 ⟨rfl,q,g⟩;go_wp2_with fail;refine(b6p s n c HC.out HA.out I a b (f,l) _ q FM.out).mono ?_;rw[HY.out];rintro e w3 ⟨rfl,z,o⟩;have L:Hid _:=(X.out.trans g).trans o;clear g o q;go_wp2_with fail;go_loopw [2] (fun x w'=>∃(i:Nat),x=i_ i∧i≤k∧Hid (a1t w' a b s y.1 (y.2++negs (k-i)))∧Hid (a1g a b w w')) (fun x _=>(intOf x).toNat);case atStart=>exact⟨k,rfl,by omega,by show a1t _ _ _ _ _ _;rw[b_c];simpa[negs]using z,L⟩
   case round=>
    obtain⟨i,rfl,hi,R,S⟩:=hrel;by_cases h0:i=0
    ·subst h0;have t0:decide ((0:Int)<0)=false:=by decide
     go_wp2_with fail;go_end0;exact⟨rfl,R.out,S.out⟩
    ·have t0:decide ((0:Int)<(i:Int))=true:=by simp;omega
     go_wp2_with fail;refine(a5B a b s _ _ 3 0 _ R.out (by simp only[x_,negs,b_f];omega)).mono ?_;rintro e w5 ⟨rfl,E,u⟩;go_wp2_with fail;go_roundw;case rel=>
      refine⟨i-1,by go_num,by omega,?_,S.out.trans u⟩;show a1t _ _ _ _ _ _;rw[a_y,c2n,show k-i+1=k-(i-1)by omega]at E;exact E
     case measure=>simp[intOf];omega
  ·have D:=(a42 (l:=l) 45 45 p).le;have Aa:=a21 d;simp only at D;have B:Hid ((a01 s.data.toList A (f.takeOne s.data.toList 45 45).1).1=J∧(a01 s.data.toList A (f.takeOne s.data.toList 45 45).1).2+(k+1)=m):=by
    have v:=T.out;rw[b5D A d]at v;simp only at v;exact⟨v.1,by omega⟩
   have u:k+1≤400:=by have:=B.out.2;omega
   go_wp2_with fail;refine(b14 45 C.out I p).mono ?_;rw[d];rintro e w2 ⟨rfl,q,g⟩;go_wp2_with fail;refine(c6r 45 q I p).mono ?_;rintro e w3 ⟨rfl,z,o⟩;go_wp2_with fail;go_roundw;case rel=>exact⟨k+1,A,_,by go_num,D,z,(X.out.trans g).trans o,by omega,u,B⟩
   case measure=>simp[intOf];omega
def posAt(w:World)(b:Nat):Nat:=(intOf ((w.cell? ⟨b,1,none⟩).getD undef)).toNat
theorem a1t.posAt{w:World}{a b:Nat}{s:ByteArray}{r:Rd}{l:List Pt}(h:a1t w a b s r l):posAt w b=r.pos:=by
 obtain⟨⟨d,c,_⟩,_,_⟩:=h;unfold Go.Proofs.YtdgmoiflahoihaaGreatDoor.posAt;rw[c.c1];simp[intOf]
theorem b3V{t:List UInt8}{a:RP→RP}{x:RP}(k:Nat)(h:Rd.prodOper t x.1=(x.1,0)):a47 t a (k+1) x=x:=by
 conv=>lhs;unfold a47
 simp only[h,a_b]
theorem c0X{t:List UInt8}{a:RP→RP}{x:RP}(k:Nat)(h:¬(Rd.prodOper t x.1).2=0):a47 t a (k+1) x=a47 t a k ((a2C t a ((Rd.prodOper t x.1).1,x.2)).1,(a2C t a ((Rd.prodOper t x.1).1,x.2)).2++ [⟨(Rd.prodOper t x.1).2,0⟩]):=by
 conv=>lhs;unfold a47
 simp only[h,a_g]
theorem b2t(s:ByteArray)(n:Nat)(c:RP→RP)(hc:a6H s n c)(ha:a3D s.data.toList n c)(O:s.size≤400)(a b:Nat)(x:RP)(w:World)(h:a1t w a b s x.1 x.2)(N:Fit s.data.toList (n+1) x):
  Calls prog 213 #[.pointer (some (a__ b 0))] w fun e w'=>e= .returned (.tuple #[])∧a1t w' a b s (a2Y s.data.toList c x).1 (a2Y s.data.toList c x).2∧a1g a b w w':=by
 have Ag:s.data.toList.length=s.size:=by simp
 have k1:=a8e ha N;have f1:=k1.fit N;unfold a2Y;generalize hy:a2C s.data.toList c x=y at*;generalize hz:a47 s.data.toList c (s.data.toList.length+1) y=z;have HY:=h__ hy;have HZ:=h__ hz;have HH:=h__ h;have FX:=h__ N;have FY:=h__ f1;have HC:=h__ hc;have P:=h__ ha;have Ae:=f1.le;clear h N hc ha hy hz k1 f1;go_enter func213,ntmps213;go_wp2_with fail;refine(b94 s n c HC.out P.out O a b x _ HH.out FX.out).mono ?_;rw[HY.out];rintro e w1 ⟨rfl,D,r⟩;go_wp2_with fail;refine(b2s D O Ae).mono ?_;rintro e w2 ⟨rfl,E,t⟩;have Y:=h__ E;have S:Hid _:=r.trans t;clear D r E t;go_wp2_with fail;go_loopw [2] (fun v w'=>∃(j:Nat) (u:RP) (o:Rd) (q:Int),v=i_ q∧Hid (Rd.prodOper s.data.toList u.1=(o,q))∧Hid (Fit s.data.toList (n+1) u)∧Hid (a1t w' a b s o u.2)∧Hid (a1g a b w w')∧s.data.toList.length-u.1.pos<j∧Hid (a47 s.data.toList c j u=z)) (fun v w'=>2*(s.data.toList.length-posAt w' b)+(if intOf v=0 then 0 else 1));case atStart=>exact⟨s.data.toList.length+1,y,_,_,rfl,rfl,FY,Y,S,by omega,HZ⟩
 case round=>
  obtain⟨j,u,o,q,rfl,V,FU,R,HK,hj,U⟩:=hrel;obtain⟨J,rfl⟩:∃J,j=J+1:=⟨j-1,by omega⟩
  rcases a7H (s.data.toList) (u.1)with g|⟨d,f⟩
  ·have h9:=V.out;rw[g]at h9;cases h9;have i:=U.out;rw[b3V J g]at i;subst i;have t0:(((0:Int))==0)=true:=by decide
   go_wp2_with fail;go_end0;exact⟨rfl,R.out,HK.out⟩
  ·have i:=U.out;rw[c0X J d]at i;rw[V.out]at d f i;simp only at d f i;have Z:Adv s.data.toList u (o,u.2):=a96 (l:=u.2) f;have M:Fit s.data.toList (n+1) (o,u.2):=Z.fit FU.out;have L:=a8e P.out M;generalize hv:a2C s.data.toList c (o,u.2)=v at*;have a3:Adv s.data.toList u (v.1,v.2++ [⟨q,0⟩]):=a9U Z L ⟨q,0⟩ f.1 rfl;have fv:=a3.fit FU.out;have HV:=h__ hv;have FV:=h__ fv;have FO:=h__ M;have H8:=h__ i;have I:=a3.le;have Ad:=L.pos;have Ac:=(L.fit M).len;simp only at I Ad Ac;have Ab:v.2.length≤1000:=by omega
   obtain⟨Af,k⟩:=f;have X:=h__ R.out.posAt;clear hv i Z L a3 M fv k U V;have t0:(q==0)=false:=by simpa using d
   go_wp2_with fail;refine(b94 s n c HC.out P.out O a b (o,u.2) _ R.out FO.out).mono ?_;rw[HV.out];rintro e w3 ⟨rfl,F,A⟩;go_wp2_with fail;refine(a5B a b s _ _ q 0 _ F Ab).mono ?_;rintro e w4 ⟨rfl,G,B⟩;go_wp2_with fail;refine(b2s G O I).mono ?_;rintro e w5 ⟨rfl,H,C⟩;have p:=h__ H;have T:Hid (a1g a b w w5):=((HK.out.trans A).trans B).trans C;clear F A G B H C;go_wp2_with fail;go_roundw;case rel=>exact⟨J,(v.1,v.2++ [⟨q,0⟩]),(Rd.prodOper s.data.toList v.1).1,(Rd.prodOper s.data.toList v.1).2,rfl,rfl,FV,p,T,by simp only;omega,H8⟩
   case measure=>
    have Aa:=p.out.posAt;rw[Aa,X.out];simp only[intOf];rcases a7H (s.data.toList) (v.1)with g|⟨m,k⟩
    ·rw[g];simp[d];omega
    ·simp only[ne_eq]at m;simp[d,m];omega
theorem b52{t:List UInt8}{a:RP→RP}{x:RP}(k:Nat)(h:Rd.oper t x.1 43 4 45 5=(x.1,0)):a6s t a (k+1) x=x:=by
 conv=>lhs;unfold a6s
 simp only[h,a_b]
theorem c27{t:List UInt8}{a:RP→RP}{x:RP}(k:Nat)(h:¬(Rd.oper t x.1 43 4 45 5).2=0):a6s t a (k+1) x=a6s t a k ((a2Y t a ((Rd.oper t x.1 43 4 45 5).1,x.2)).1,(a2Y t a ((Rd.oper t x.1 43 4 45 5).1,x.2)).2++ [⟨(Rd.oper t x.1 43 4 45 5).2,0⟩]):=by
 conv=>lhs;unfold a6s
 simp only[h,a_g]
theorem b4K(s:ByteArray)(n:Nat)(c:RP→RP)(hc:a6H s n c)(ha:a3D s.data.toList n c)(O:s.size≤400)(a b:Nat)(x:RP)(w:World)(h:a1t w a b s x.1 x.2)(N:Fit s.data.toList (n+1) x):
  Calls prog 208 #[.pointer (some (a__ b 0))] w fun e w'=>e= .returned (.tuple #[])∧a1t w' a b s (a1E s.data.toList c x).1 (a1E s.data.toList c x).2∧a1g a b w w':=by
 have Ag:s.data.toList.length=s.size:=by simp
 have k1:=a79 ha N;have f1:=k1.fit N;unfold a1E;generalize hy:a2Y s.data.toList c x=y at*;generalize hz:a6s s.data.toList c (s.data.toList.length+1) y=z;have HY:=h__ hy;have HZ:=h__ hz;have HH:=h__ h;have FX:=h__ N;have FY:=h__ f1;have HC:=h__ hc;have P:=h__ ha;have Ae:=f1.le;clear h N hc ha hy hz k1 f1;go_enter func208,ntmps208;go_wp2_with fail;refine(b2t s n c HC.out P.out O a b x _ HH.out FX.out).mono ?_;rw[HY.out];rintro e w1 ⟨rfl,D,r⟩;go_wp2_with fail;refine(b12 43 45 4 5 D O Ae).mono ?_;rintro e w2 ⟨rfl,E,t⟩;have Y:=h__ E;have S:Hid _:=r.trans t;clear D r E t;go_wp2_with fail;go_loopw [2] (fun v w'=>∃(j:Nat) (u:RP) (o:Rd) (q:Int),v=i_ q∧Hid (Rd.oper s.data.toList u.1 43 4 45 5=(o,q))∧Hid (Fit s.data.toList (n+1) u)∧Hid (a1t w' a b s o u.2)∧Hid (a1g a b w w')∧s.data.toList.length-u.1.pos<j∧Hid (a6s s.data.toList c j u=z)) (fun v w'=>2*(s.data.toList.length-posAt w' b)+(if intOf v=0 then 0 else 1));case atStart=>exact⟨s.data.toList.length+1,y,_,_,rfl,rfl,FY,Y,S,by omega,HZ⟩
 case round=>
  obtain⟨j,u,o,q,rfl,V,FU,R,HK,hj,U⟩:=hrel;obtain⟨J,rfl⟩:∃J,j=J+1:=⟨j-1,by omega⟩
  rcases a6j (s.data.toList) (u.1) 43 45 4 5 (by decide) (by decide)with g|⟨d,f⟩
  ·have h9:=V.out;rw[g]at h9;cases h9;have i:=U.out;rw[b52 J g]at i;subst i;have t0:(((0:Int))==0)=true:=by decide
   go_wp2_with fail;go_end0;exact⟨rfl,R.out,HK.out⟩
  ·have i:=U.out;rw[c27 J d]at i;rw[V.out]at d f i;simp only at d f i;have Z:Adv s.data.toList u (o,u.2):=a96 (l:=u.2) f;have M:Fit s.data.toList (n+1) (o,u.2):=Z.fit FU.out;have L:=a79 P.out M;generalize hv:a2Y s.data.toList c (o,u.2)=v at*;have a3:Adv s.data.toList u (v.1,v.2++ [⟨q,0⟩]):=a9U Z L ⟨q,0⟩ f.1 rfl;have fv:=a3.fit FU.out;have HV:=h__ hv;have FV:=h__ fv;have FO:=h__ M;have H8:=h__ i;have I:=a3.le;have Ad:=L.pos;have Ac:=(L.fit M).len;simp only at I Ad Ac;have Ab:v.2.length≤1000:=by omega
   obtain⟨Af,k⟩:=f;have X:=h__ R.out.posAt;clear hv i Z L a3 M fv k U V;have t0:(q==0)=false:=by simpa using d
   go_wp2_with fail;refine(b2t s n c HC.out P.out O a b (o,u.2) _ R.out FO.out).mono ?_;rw[HV.out];rintro e w3 ⟨rfl,F,A⟩;go_wp2_with fail;refine(a5B a b s _ _ q 0 _ F Ab).mono ?_;rintro e w4 ⟨rfl,G,B⟩;go_wp2_with fail;refine(b12 43 45 4 5 G O I).mono ?_;rintro e w5 ⟨rfl,H,C⟩;have p:=h__ H;have T:Hid (a1g a b w w5):=((HK.out.trans A).trans B).trans C;clear F A G B H C;go_wp2_with fail;go_roundw;case rel=>exact⟨J,(v.1,v.2++ [⟨q,0⟩]),(Rd.oper s.data.toList v.1 43 4 45 5).1,(Rd.oper s.data.toList v.1 43 4 45 5).2,rfl,rfl,FV,p,T,by simp only;omega,H8⟩
   case measure=>
    have Aa:=p.out.posAt;rw[Aa,X.out];simp only[intOf];rcases a6j (s.data.toList) (v.1) 43 45 4 5 (by decide) (by decide)with g|⟨m,k⟩
    ·rw[g];simp[d];omega
    ·simp only[ne_eq]at m;simp[d,m];omega
theorem b4p(s:ByteArray)(n:Nat)(a:RP→RP)(F:a6H s n a)(k:a3D s.data.toList n a)(p:s.size≤400):a6H s (n+1) (a6L s.data.toList a):=by
 intro c b x w h m;have Y:s.data.toList.length=s.size:=by simp
 have N:=a86 k m;have u:=N.fit m;unfold a6L;generalize L:a1E s.data.toList a x=y at*;have R:=h__ L;have P:=h__ h;have O:=h__ m;have A:=h__ F;have v:=h__ k;have r:=u.le;simp only;rcases a6j s.data.toList y.1 60 61 9 10 (by decide) (by decide)with e|⟨t,D⟩
 ·rw[e];simp only[a_b];have B:=h__ e;clear h m F k L N u e;have t0:(((0:Int))==0)=true:=by decide
  go_enter func201,ntmps201;go_wp2_with fail;refine(b4K s n a A.out v.out p c b x _ P.out O.out).mono ?_;rw[R.out];rintro e w1 ⟨rfl,g,d⟩;go_wp2_with fail;refine(b12 60 61 9 10 g p r).mono ?_;rw[B.out];rintro e w2 ⟨rfl,i,f⟩;go_wp2_with fail;go_end0;exact⟨rfl,i,d.trans f⟩
 ·rw[f_ t];have C:=a96 (l:=y.2) D;have j:=C.fit u;generalize T:Rd.oper s.data.toList y.1 60 9 61 10=o at*;obtain⟨V,q⟩:=o;simp only at t D C j⊢;have S:=a86 k j;generalize U:a1E s.data.toList a (V,y.2)=z at*;have E:=S.fit j;have Z:=E.len;have Aa:=E.le;have M:z.2.length≤1000:=by omega
  have B:=h__ T;have X:=h__ U;have FO:=h__ j;have t0:(q==0)=false:=by simpa using t
  clear h m F k L N u T U C S j E D t;go_enter func201,ntmps201;go_wp2_with fail;refine(b4K s n a A.out v.out p c b x _ P.out O.out).mono ?_;rw[R.out];rintro e w1 ⟨rfl,g,d⟩;go_wp2_with fail;refine(b12 60 61 9 10 g p r).mono ?_;rw[B.out];rintro e w2 ⟨rfl,i,f⟩;go_wp2_with fail;refine(b4K s n a A.out v.out p c b (V,y.2) _ i FO.out).mono ?_;rw[X.out];rintro e w3 ⟨rfl,I,G⟩;go_wp2_with fail;refine(a5B c b s _ _ q 0 _ I M).mono ?_;rintro e w4 ⟨rfl,J,H⟩;go_wp2_with fail;go_end0;exact⟨rfl,J,((d.trans f).trans G).trans H⟩
theorem b3i(s:ByteArray)(d:s.size≤400):∀n,a6H s n (a5G s.data.toList n)
 |0=>fun a b x w h c=>by have:=c.fuel;have:=c.d9;omega
 |n+1=>b4p s n (a5G s.data.toList n) (b3i s d n) (b0h _ n) d
def a0j:Value:= .slice none 0 0
def a00(t:List UInt8)(r:Rd):RP:=a5G t 10 (r,[])
structure a9A(t:List UInt8)(r:Rd):Prop where
 le:r.pos≤t.length
 d0:0≤r.depth
 d9:r.depth≤9
 db:r.depth=9→r.bad=true
theorem a9A.fit{t:List UInt8}{r:Rd}(h:a9A t r):Fit t 10 (r,[]):=⟨h.le,by simp,h.d0,h.d9,h.db,by have:=h.d0;simp only;omega⟩
theorem c1O{t:List UInt8}{r:Rd}(h:a9A t r):Adv t (r,[]) (a00 t r):=b0h t 10 _ h.fit
theorem b7m{b:Nat}{w w':World}(h:a1g w.heap.size b w w'):But b w w':=by
 obtain⟨a,c,d,f,g⟩:=h;exact⟨a,c,d,f,fun k i j=>g k i (fun e=>j (by rw[e]))⟩
theorem a50(s:ByteArray)(X:s.size≤400)(b:Nat)(r:Rd)(Y:Value)(w:World)(h:a0b w b s r Y)(N:a9A s.data.toList r):
  Calls prog 181 #[.pointer (some (a__ b 0))] w fun e w'=>∃v,e= .returned v∧a0b w' b s (a00 s.data.toList r).1 a0j∧w'.ownsRow w.heap.size 195 2 v (a00 s.data.toList r).2.length (a4l (a00 s.data.toList r).2)∧But b w w':=by
 have G:b<w.heap.size:=r_ w _ h.c0;obtain⟨t,u,y,A,B,C⟩:=h;have R:Hid (Fit s.data.toList 10 (r,[])):=N.fit;clear N;unfold a00;generalize O:a5G s.data.toList 10 (r,[])=z;have S:Hid (a5G s.data.toList 10 (r,[])=z):=O;clear O;go_enter func181,ntmps181;go_wp2_with fail;generalize m:w.setCell (a__ b 3) (.slice none 0 0)=L at*;have U:a1t L w.heap.size b s r []:=by
  subst m;refine⟨⟨.slice none 0 0,⟨?_,?_,?_,?_,?_,?_⟩,E_ ..⟩,G,by simp⟩;case _=>simp[go_sem,t]
  case _=>simp[go_sem,u]
  case _=>simp[go_sem,y]
  case _=>simp[go_sem,A]
  case _=>simp[go_sem,B]
  case _=>intro o;simp[go_sem,C]
 have D:a1g w.heap.size b w L:=by
  subst m;exact(a1g.refl _ _ _).set 3 _
 have F:Hid (a1g w.heap.size b w L):=D;clear m D t u y A B C;refine(b3i s X 10 w.heap.size b (r,[]) _ U R.out).mono ?_;rw[S.out];rintro e P ⟨rfl,H,E⟩;have p:Hid (a1g w.heap.size b w P):=F.out.trans E;clear E;obtain⟨⟨J,I,j⟩,_,V⟩:=H;obtain⟨t,u,y,A,B,C⟩:=I;have M:Hid (P.ownsRow w.heap.size 195 2 J z.2.length (a4l z.2)):=j;have l:=Joins.ownsRow_forms j;clear j;rcases l with⟨rfl,Z⟩|⟨g,T,rfl⟩
 ·go_wp2_with fail;go_ret;refine⟨_,rfl,⟨?_,?_,?_,?_,?_,?_⟩,?_,?_⟩;case _=>simp[go_sem,t]
  case _=>simp[go_sem,u]
  case _=>simp[go_sem,y]
  case _=>simp[go_sem,A,a0j]
  case _=>simp[go_sem,B]
  case _=>intro o;simp[go_sem,C]
  case _=>exact a_d M.out (a:=(a__ b 3)) (by simpa using G) _
  case _=>exact b7m (p.out.set 3 _)
 ·go_wp2_with fail;go_ret;refine⟨_,rfl,⟨?_,?_,?_,?_,?_,?_⟩,?_,?_⟩;case _=>simp[go_sem,t]
  case _=>simp[go_sem,u]
  case _=>simp[go_sem,y]
  case _=>simp[go_sem,A,a0j]
  case _=>simp[go_sem,B]
  case _=>intro o;simp[go_sem,C]
  case _=>exact a_d M.out (a:=(a__ b 3)) (by simpa using G) _
  case _=>exact b7m (p.out.set 3 _)
structure a0C where
 kind:Int
 place:Nat
 name:Int
 label:Nat
 count:Int
 parts:List Pt
def a0C.none:a0C:=⟨0,0,0,0,0,[]⟩
def RT(n:Nat):Type:=Nat.rec Empty (fun _ a=>a0C×List a×List a) n
def a3g{α:Type}(t:List UInt8)(b:Rd→Rd×List α)(r:Rd):Rd×(a0C×List α×List α):=
 if r.seesOne t 97 122 then
  let f:=r.takeOne t 97 122
  let e:=a00 t (f.1.takeOne t 61 61).1
  ((e.1.takeOne t 59 59).1,⟨0,r.pos,f.2,0,0,e.2⟩,[],[])
 else if r.seesOne t 94 94 then
  let f:=(r.takeOne t 94 94).1.takeOne t 97 122
  let d:=(f.1.takeOne t 58 58).1.label t
  let e:=a00 t (d.1.takeOne t 61 61).1
  ((e.1.takeOne t 59 59).1,⟨1,r.pos,f.2,d.2,0,e.2⟩,[],[])
 else if r.seesOne t 62 62 then
  let d:=(r.takeOne t 62 62).1.label t
  let e:=a00 t d.1
  ((e.1.takeOne t 59 59).1,⟨2,r.pos,0,d.2,0,e.2⟩,[],[])
 else if r.seesOne t 40 40 then
  let e:=a00 t (r.opening t 40)
  let a:=b (e.1.closing t 41)
  if a.1.seesOne t 123 123 then
   let g:=b a.1
   (g.1,⟨3,r.pos,0,0,0,e.2⟩,a.2,g.2)
  else(a.1,⟨3,r.pos,0,0,0,e.2⟩,a.2,[])
 else if r.seesOne t 42 42 then
  let c:=(r.room.takeOne t 42 42).1.takeOne t 49 57
  let a:=b c.1
  (a.1,⟨4,r.pos,0,0,1+c.2,[]⟩,a.2,[])
 else({ r with bad:=true },a0C.none,[],[])
def a1m{α:Type}(rule:Rd→Rd×α)(halt:Rd→Bool):Nat→Rd→Rd×List α
 |0,r=>(r,[])
 |k+1,r=>if r.bad||halt r then(r,[])else((a1m rule halt k (rule r).1).1,(rule r).2::(a1m rule halt k (rule r).1).2)
def a4I{α:Type}(t:List UInt8)(rule:Rd→Rd×α)(r:Rd):Rd×List α:=
 let q:=a1m rule (fun r=>r.seesOne t 125 125) (t.length+1) (r.opening t 123)
 (q.1.closing t 125,q.2)
def a08(t:List UInt8)(n:Nat):Rd→Rd×List (RT n):=
 match n with
 |0=>fun r=>((r.opening t 123).closing t 125,[])
 |n+1=>fun r=>a4I t (α:=RT (n+1)) (fun r=>a3g t (a08 t n) r) r
def a0r(t:List UInt8)(n:Nat)(r:Rd):Rd×RT (n+1):=a3g t (a08 t n) r
structure Stp(t:List UInt8)(r r':Rd):Prop where
 pos:r.pos≤r'.pos
 le:r'.pos≤t.length
 depth:r'.depth=r.depth
 bad:r.bad=true→r'.bad=true
theorem Stp.trans{t:List UInt8}{x y z:Rd}(h:Stp t x y)(k:Stp t y z):Stp t x z:=
 ⟨K_ h.pos k.pos,k.le,k.depth.trans h.depth,fun e=>k.bad (h.bad e)⟩
theorem a6R{t:List UInt8}{r:Rd}(h:r.pos≤t.length):Stp t r r:=⟨a_ _,h,rfl,id⟩
theorem Adv.stp{t:List UInt8}{x y:RP}(h:Adv t x y):Stp t x.1 y.1:=⟨h.pos,h.le,h.depth,h.bad⟩
theorem a0o{t:List UInt8}{r:Rd}(a b:UInt8)(h:r.pos≤t.length):Stp t r (r.takeOne t a b).1:=(a42 (l:= []) a b h).stp
theorem b60{t:List UInt8}{r:Rd}(h:r.pos≤t.length):Stp t r { r with bad:=true } :=⟨a_ _,h,rfl,fun _=>rfl⟩
theorem b0z{t:List UInt8} :∀(n:Nat) (r:Rd) (l:Nat),r.pos≤t.length→Stp t r (Rd.labF t n r l).1
 |0,r,l,h=>a6R h
 |n+1,r,l,h=>by
  unfold Rd.labF
  split
  ·have k:=a0o (UInt8.ofNat (68-n)) (UInt8.ofNat (68-n)) h;exact k.trans (b0z n _ _ k.le)
  ·exact b0z n _ _ h
theorem a4h{t:List UInt8}{r:Rd}(h:r.pos≤t.length):Stp t r (r.label t).1:=by
 unfold Rd.label
 split
 ·exact a0o _ _ h
 split
 ·have k:=b0z 4 r 0 h;exact k.trans (b60 k.le)
 ·exact b0z 4 r 0 h
theorem b71{r:Rd}(h:r.bad=true):r.room.bad=true:=by unfold Rd.room;split<;>simp[h]
theorem b0N{t:List UInt8}{r:Rd}(h:r.pos≤t.length):Stp t r r.room:=⟨by rw[a4Y];exact a_ _,by rw[a4Y];exact h,b0M r,b71⟩
theorem a10{t:List UInt8}{r:Rd}(c:UInt8)(h:r.pos≤t.length):r.pos≤(r.opening t c).pos∧(r.opening t c).pos≤t.length∧(r.opening t c).depth=r.depth+1∧(r.bad=true→(r.opening t c).bad=true)∧(8≤r.depth→(r.opening t c).bad=true):=by
 have k:=(b0N h).trans (a0o c c (b0N h).le);refine⟨k.pos,k.le,?_,k.bad,fun b=> ?_⟩
 ·show(r.room.takeOne t c c).1.depth+1=_;rw[k.depth]
 ·show(r.room.takeOne t c c).1.bad=true;have a:r.room.bad=true:=by unfold Rd.room;rw[n_ b]
  rw[a18 a];exact a
theorem b03{t:List UInt8}{r:Rd}(c:UInt8)(h:r.pos≤t.length):r.pos≤(r.closing t c).pos∧(r.closing t c).pos≤t.length∧(r.closing t c).depth=r.depth-1∧(r.bad=true→(r.closing t c).bad=true):=by
 have k:=a0o c c h;refine⟨k.pos,k.le,?_,k.bad⟩;show(r.takeOne t c c).1.depth-1=_;rw[k.depth]
structure a1W(t:List UInt8)(r:Rd):Prop where
 le:r.pos≤t.length
 d0:0≤r.depth
 d8:r.depth≤8
theorem a1W.fitR{t:List UInt8}{r:Rd}(h:a1W t r):a9A t r:=⟨h.le,h.d0,by have:=h.d8;omega,fun e=>by have:=h.d8;omega⟩
theorem Stp.fitB{t:List UInt8}{r a:Rd}(h:Stp t r a)(f:a1W t r):a1W t a:=⟨h.le,by rw[h.depth];exact f.d0,by rw[h.depth];exact f.d8⟩
theorem a7g{t:List UInt8}{r:Rd}(c:UInt8)(f:a1W t r):a9A t (r.opening t c):=by
 obtain⟨d,a,g,h,b⟩:=a10 c f.le;have:=f.d0;have:=f.d8;exact⟨a,by omega,by omega,fun e=>b (by omega)⟩
theorem a4u{t:List UInt8}{r:Rd}(f:a9A t r):Stp t r (a00 t r).1:=(c1O f).stp
theorem a7G{t:List UInt8}{r a:Rd}(c d:UInt8)(f:a1W t r)(h:Stp t (r.opening t c) a):Stp t r (a.closing t d):=by
 obtain⟨l,m,b,g,n⟩:=a10 c f.le;obtain⟨o,i,j,k⟩:=b03 d h.le;exact⟨by have:=h.pos;omega,i,by rw[j,h.depth,b];omega,fun e=>k (h.bad (g e))⟩
theorem c4J{t:List UInt8}{r:Rd}(c:UInt8)(b:r.seesOne t c c=true):(r.opening t c).bad=true∨r.pos<(r.opening t c).pos:=by
 by_cases a:8≤r.depth
 ·exact .inl ((a10 c (a_K (a4m b).1)).2.2.2.2 a)
 ·refine .inr ?_;have e:r.room=r:=by unfold Rd.room;rw[f_ a]
  show r.pos<(r.room.takeOne t c c).1.pos;rw[e];have:=a21 b;omega
def b6D{α:Type}(t:List UInt8)(a:Rd→Rd×List α):Prop:=∀r,a1W t r→Stp t r (a r).1
theorem b5V{α:Type}{t:List UInt8}{b:Rd→Rd×List α}(u:b6D t b){r:Rd}(f:a1W t r):Stp t r (a3g t b r).1∧((a3g t b r).1.bad=true∨r.pos<(a3g t b r).1.pos):=by
 unfold a3g
 split
 ·rename_i d;have a:=a0o 97 122 f.le;have s:=a.trans (a0o 61 61 a.le);have z:=s.trans (a4u (s.fitB f).fitR);have g:=a21 d;have i:=(a0o 61 61 a.le).trans (a4u (s.fitB f).fitR);have c:=i.trans (a0o 59 59 z.le);exact⟨a.trans c,.inr (by have:=c.pos;simp only;omega)⟩
 split
 ·rename_i d;have a:=a0o 94 94 f.le;have g:=a21 d;have i:=a0o 97 122 a.le;have c:=i.trans (a0o 58 58 i.le);have j:=c.trans (a4h c.le);have x:=j.trans (a0o 61 61 j.le);have k:=x.trans (a4u ((a.trans x).fitB f).fitR);have l:=k.trans (a0o 59 59 k.le);exact⟨a.trans l,.inr (by have:=l.pos;simp only;omega)⟩
 split
 ·rename_i d;have a:=a0o 62 62 f.le;have g:=a21 d;have j:=a4h a.le;have k:=j.trans (a4u ((a.trans j).fitB f).fitR);have l:=k.trans (a0o 59 59 k.le);exact⟨a.trans l,.inr (by have:=l.pos;simp only;omega)⟩
 split
 ·rename_i d;have e:=a4u (a7g 40 f);have p:=a7G 40 41 f e;have q:=u _ (p.fitB f);have B:=c4J 40 d;have C:=(a10 40 f.le)
  have A:=b03 41 e.le;have v:((a00 t (r.opening t 40)).1.closing t 41).bad=true∨r.pos<((a00 t (r.opening t 40)).1.closing t 41).pos:=by
   rcases B with h|h
   ·exact .inl (A.2.2.2 (e.bad h))
   ·have:=e.pos;exact .inr (by omega)
  have n:(b ((a00 t (r.opening t 40)).1.closing t 41)).1.bad=true∨r.pos<(b ((a00 t (r.opening t 40)).1.closing t 41)).1.pos:=by
   rcases v with h|h
   ·exact .inl (q.bad h)
   ·have:=q.pos;exact .inr (by omega)
  simp only
  split
  ·have w:=u _ ((p.trans q).fitB f);refine⟨(p.trans q).trans w,?_⟩;rcases n with h|h
   ·exact .inl (w.bad h)
   ·have:=w.pos;exact .inr (by simp only;omega)
  ·exact⟨p.trans q,n⟩
 split
 ·rename_i d;have a:=b0N (t:=t) f.le;have o:=a.trans (a0o 42 42 a.le);have i:=a0o 49 57 o.le;have c:=i.trans (u _ ((o.trans i).fitB f));refine⟨o.trans c,?_⟩;by_cases y:8≤r.depth
  ·have m:r.room.bad=true:=by unfold Rd.room;rw[n_ y]
   refine .inl (c.bad ?_);rw[a18 m];exact m
  ·refine .inr ?_;have e:r.room=r:=by unfold Rd.room;rw[f_ y]
   have g:=a21 d;have:=c.pos;rw[e]at this;show r.pos<(b (((r.room.takeOne t 42 42).1.takeOne t 49 57).1)).1.pos;rw[e];omega
 ·exact⟨b60 f.le,.inl rfl⟩
theorem b32{α:Type}{t:List UInt8}{rule:Rd→Rd×α}{halt:Rd→Bool}(b:∀r,a1W t r→Stp t r (rule r).1):∀(k:Nat) (r:Rd),a1W t r→Stp t r (a1m rule halt k r).1
 |0,r,f=>a6R f.le
 |k+1,r,f=>by
  unfold a1m
  split
  ·exact a6R f.le
  ·have a:=b r f;exact a.trans (b32 b k _ (a.fitB f))
theorem a5r{α:Type}{rule:Rd→Rd×α}{halt:Rd→Bool}{k:Nat}{r:Rd}(h:r.bad=true):a1m rule halt k r=(r,[]):=by
 cases k with
 |zero=>rfl
 |succ k=>unfold a1m;rw[h];rfl
theorem c0e{α:Type}{t:List UInt8}{rule:Rd→Rd×α}(d:∀r,a1W t r→Stp t r (rule r).1):b6D t (a4I t rule):=by
 intro r f;unfold a4I;refine a7G 123 125 f ?_;obtain⟨e,a,g,h,b⟩:=a10 (t:=t) (r:=r) 123 f.le;by_cases c:8≤r.depth
 ·rw[a5r (b c)];exact a6R a
 ·exact b32 d _ _ ⟨a,by have:=f.d0;omega,by omega⟩
theorem a67(t:List UInt8):∀n,b6D t (a08 t n)
 |0=>fun r f=>a7G 123 125 f (a6R (a10 (t:=t) (r:=r) 123 f.le).2.1)
 |n+1=>c0e fun r f=>(b5V (a67 t n) f).1
theorem b1P(t:List UInt8)(n:Nat){r:Rd}(f:a1W t r):Stp t r (a0r t n r).1∧((a0r t n r).1.bad=true∨r.pos<(a0r t n r).1.pos):=b5V (a67 t n) f
theorem a83{P:Program}(w:World)(l:Nat)(t H e:TypeId)(i:TypeInfo)(z:Value)(d k:Nat)(J:P.underlying t=some (.slice e))(hi:P.info? e=some i)(O:i.zero=some z)
  (r:i.size=d) (E:i.bytes=k) (R:z.cells.size=d) (M:0<d)
  (v:Value) (n:Nat) (xs:List Value) (o:w.ownsRow l e d v n xs)
  (a:Addr) (m c:Nat) (b:List Value) (G:b.length=m*d) (h:∀j u,b[j]? =some u→w.cell? (a.add j)=some u) (S:∀u∈b,u.oneCell'=true)
  (D:n+m≤maxLen) (f:(n+m)*k≤140737488355328) (x:l≤w.heap.size) (hm:0<m):
  ∃B w',(Builtin.append_ #[t,t] H #[v,.slice (some a) m c]).run P w= .ok B w'∧w'.ownsRow l e d B (n+m) (xs++b)∧w.grownBy w' v.ownBlock∧(B.ownBlock=v.ownBlock∨∃g,B.ownBlock=some g∧w.heap.size≤g):=by
 obtain⟨B,w',A,T,U,_⟩:=run_append_own (P:=P) w l t H e i z d k J hi O r E R M v n xs o a m c b G h S D f x;refine⟨B,w',A,T,U,?_⟩;subst r;subst E;have I:n+m≤9223372036854775807:=by simp only[maxLen]at D;omega
 rcases o.2 with⟨rfl,rfl⟩|⟨g,s,C,rfl,X,Z,Aa,Y,L,N⟩
 ·have q:=Go.run_append_nil (P:=P) w t H e i z J hi O a m c b G h hm (by omega) (by have V:=f;simp only[a_m]at V;omega);rw[q]at A;cases A;exact .inr ⟨w.heap.size,rfl,a_ _⟩
 ·by_cases p:n+m≤s
  ·have F:n*i.size+b.length≤C.size:=by rw[G,L,←Nat.add_mul];exact a_H _ p
   have q:=run_append_room (P:=P) w t H e i J hi g n s C Z a m c b G h S p F;rw[q]at A;cases A;exact .inl rfl
  ·have y:∀j u,xs[j]? =some u→w.cell? (((a__ g 0):Addr).add j)=some u:=o.cells (g:=g) rfl;have q:=run_append_grow (P:=P) w t H e i z J hi O (a__ g 0) n s xs o.1 y a m c b G h (by omega) (by omega) (growslice_fits (by omega) f);rw[q]at A;cases A;exact .inr ⟨w.heap.size,rfl,a_ _⟩
theorem a0X{P:Program}{w:World}{B:Array Oper}{rest:List Oper}{o:Oper}{a:Act}{Q:Exit→Act→World→Prop}(G:o.guard=none)(s x:Operand)(t:TypeId)
  (V:o.op= .call { callee:= .builtin .append,args:= #[s,x],argTypes:= #[t,t] })
  (k:Nat) (e:TypeId) (i:TypeInfo) (z:Value) (b f:Nat) (Z:P.underlying t=some (.slice e)) (S:P.info? e=some i) (hz:i.zero=some z)
  (r:i.size=b) (F:i.bytes=f) (I:z.cells.size=b) (H:0<b)
  (v:Value) (n:Nat) (J:List Value) (Y:a.eval s=v) (A:w.ownsRow k e b v n J)
  (D:Addr) (m c:Nat) (d:List Value) (hx:a.eval x= .slice (some D) m c) (T:d.length=m*b) (q:∀j u,d[j]? =some u→w.cell? (D.add j)=some u) (L:∀u∈d,u.oneCell'=true)
  (E:n+m≤maxLen) (l:(n+m)*f≤140737488355328) (p:k≤w.heap.size) (U:0<m)
  (h:∀y C,C.ownsRow k e b y (n+m) (J++d)→w.grownBy C v.ownBlock→(y.ownBlock=v.ownBlock∨∃g,y.ownBlock=some g∧w.heap.size≤g)→wpList P B Q rest (a.put o.dst y) C):wpList P B Q (o::rest) a w:=by
 obtain⟨y,C,X,M,N,O⟩:=a83 (P:=P) w k t o.type e i z b f Z S hz r F I H v n J A D m c d T q L E l p U;refine wpList_plain G fun _ R=> ?_
 unfold Oper.wp;simp[execOp,V,resolve,invoke,builtin,Y,hx,X,Result.andThen];exact R _ _ (h y C M N O)
def a02(w:World)(P:Nat→Prop)(v:Value)(l:List Pt):Prop:=w.ownsRow 0 195 2 v l.length (a4l l)∧∀k,v.ownBlock=some k→P k
def a45(c:a0C):List Value:= [.int .i64 c.kind,.int .i64 c.place,.int .i64 c.name,.int .i64 c.label,.int .i64 c.count]
def a5I{α:Type}(a:Value→List α→Prop)(w:World)(P:Nat→Prop)(cs:List Value)(r:a0C×List α×List α):Prop:=
 ∃d b c,cs=a45 r.1++ [d,b,c]∧a02 w P d r.1.parts∧a b r.2.1∧a c r.2.2
def a63{α:Type}(one:List Value→α→Prop)(w:World)(P:Nat→Prop)(v:Value)(l:List α):Prop:=
 ∃a:List (List Value),w.ownsRow 0 149 8 v l.length a.flatten∧(∀k,v.ownBlock=some k→P k)∧a.length=l.length∧∀i (h:i<l.length) (b:i<a.length),one a[i] l[i]
def a0l(n:Nat)(w:World)(P:Nat→Prop):Value→List (RT n)→Prop:=
 match n with
 |0=>fun v _=>w.ownsRow 0 149 8 v 0 []∧∀k,v.ownBlock=some k→P k
 |n+1=>fun v l=>a63 (α:=RT (n+1)) (fun a r=>a5I (a0l n w P) w P a r) w P v l
theorem a5o{w w':World}{a b n:Nat}{e:TypeId}{v:Value}{xs:List Value}(h:w.ownsRow a e b v n xs)(o:∀k,v.ownBlock=some k→k<w.heap.size→w'.heap[k]? =w.heap[k]?):w'.ownsRow a e b v n xs:=by
 refine⟨h.1,?_⟩;rcases h.2 with j|⟨g,c,d,f,l,i,m⟩
 ·exact .inl j
 ·refine .inr ⟨g,c,d,f,l,?_,m⟩;rw[o g (by rw[f];rfl) (z_.mp i).1,i]
theorem a4x{w w':World}{P Q:Nat→Prop}{v:Value}{l:List Pt}(h:a02 w P v l)(a:∀k,P k→k<w.heap.size→Q k∧w'.heap[k]? =w.heap[k]?):a02 w' Q v l:=
 ⟨a5o h.1 (fun k e b=>(a k (h.2 k e) b).2),fun k e=>(a k (h.2 k e) (h.1.lt k e).2).1⟩
theorem a9K{α:Type}{one c:List Value→α→Prop}{w w':World}{P Q:Nat→Prop}{v:Value}{l:List α}(h:a63 one w P v l)(g:∀k,P k→k<w.heap.size→Q k∧w'.heap[k]? =w.heap[k]?)(o:∀cs r,one cs r→c cs r):a63 c w' Q v l:=by
 obtain⟨p,d,f,j,m⟩:=h;exact⟨p,a5o d (fun k e n=>(g k (f k e) n).2),fun k e=>(g k (f k e) (d.lt k e).2).1,j,fun i a b=>o _ _ (m i a b)⟩
theorem b2w{α:Type}{b a:Value→List α→Prop}{w w':World}{P Q:Nat→Prop}{cs:List Value}{r:a0C×List α×List α}(h:a5I b w P cs r)(i:∀k,P k→k<w.heap.size→Q k∧w'.heap[k]? =w.heap[k]?)(c:∀v l,b v l→a v l):a5I a w' Q cs r:=by
 obtain⟨n,j,m,d,e,f,g⟩:=h;exact⟨n,j,m,d,a4x e i,c _ _ f,c _ _ g⟩
theorem a1A{w w':World}{P Q:Nat→Prop}(a:∀k,P k→k<w.heap.size→Q k∧w'.heap[k]? =w.heap[k]?):∀(n:Nat) (v:Value) (l:List (RT n)),a0l n w P v l→a0l n w' Q v l
 |0,v,l,h=>⟨a5o h.1 (fun k e b=>(a k (h.2 k e) b).2),fun k e=>(a k (h.2 k e) (h.1.lt k e).2).1⟩
 |n+1,v,l,h=>a9K (one:=fun cs (r:RT (n+1))=>a5I (a0l n w P) w P cs r) h a fun cs r c=>b2w c a (a1A a n)
def a1Z(n:Nat)(w:World)(P:Nat→Prop)(cs:List Value)(r:RT (n+1)):Prop:=a5I (a0l n w P) w P cs r
theorem a1P{w w':World}{P Q:Nat→Prop}{n:Nat}{cs:List Value}{r:RT (n+1)}(h:a1Z n w P cs r)(a:∀k,P k→k<w.heap.size→Q k∧w'.heap[k]? =w.heap[k]?):a1Z n w' Q cs r:=
 b2w h a (a1A a n)
theorem a3R(n:Nat)(w:World)(P:Nat→Prop):a0l n w P a0j []:=by
 cases n with
 |zero=>exact⟨E_ ..,fun k e=>(by cases e)⟩
 |succ n=>exact⟨[],E_ ..,fun k e=>(by cases e),rfl,fun i h=>(by cases h)⟩
theorem b3T(w:World)(P:Nat→Prop):a02 w P a0j []:=⟨E_ ..,fun k e=>(by cases e)⟩
theorem b7j:(prog.info? 149).map (fun i=>(i.zero,i.size,i.bytes))=some (some (.agg #[i_ 0,i_ 0,i_ 0,i_ 0,i_ 0,.slice none 0 0,.slice none 0 0,.slice none 0 0]),8,112):=by kernel_rfl
theorem c4i:(prog.info? 146).map (fun i=>(i.zero,i.size,i.bytes))=some (some (.agg #[F__,i_ 0,i_ 0,i_ 0]),4,32):=by kernel_rfl
theorem a1v{p:Program}{t:TypeId}{z:Value}{a b:Nat}(h:(p.info? t).map (fun i=>(i.zero,i.size,i.bytes))=some (some z,a,b)):∃i,p.info? t=some i∧i.zero=some z∧i.size=a∧i.bytes=b:=by
 cases e:p.info? t with
 |none=>rw[e]at h;cases h
 |some i=>rw[e]at h;simp at h;exact⟨i,rfl,h.1,h.2.1,h.2.2⟩
theorem a15{w:World}{b:Nat}{s:ByteArray}{r:Rd}{d:Value}(h:a0b w b s r d)(a:Addr)(u:Value)(m:a.block≠b):a0b (w.setCell a u) b s r d:=by
 have c:(w.setCell a u).heap[b]? =w.heap[b]? :=o_ _ _ _ _ (fun e=>m e.symm);obtain⟨f,g,i,j,k,l⟩:=h;refine⟨?_,?_,?_,?_,?_,fun o=> ?_⟩
 ·exact(e_ (a:=(a__ b 0)) c).trans f
 ·exact(e_ (a:=(a__ b 1)) c).trans g
 ·exact(e_ (a:=(a__ b 2)) c).trans i
 ·exact(e_ (a:=(a__ b 3)) c).trans j
 ·exact(e_ (a:=(a__ b 4)) c).trans k
 ·exact(I_ (a:=(a__ b o)) c).trans (l o)
theorem a2M{w:World}{b:Nat}{s:ByteArray}{r:Rd}{d:Value}(h:a0b w b s r d)(o:Obj):a0b (w.alloc o) b s r d:=by
 obtain⟨c,e,f,g,i,j⟩:=h;have a:b<w.heap.size:=r_ w _ c;refine⟨?_,?_,?_,?_,?_,fun o=> ?_⟩
 ·exact(T_ _ _ _ a).trans c
 ·exact(T_ _ _ _ a).trans e
 ·exact(T_ _ _ _ a).trans f
 ·exact(T_ _ _ _ a).trans g
 ·exact(T_ _ _ _ a).trans i
 ·exact(a_3 _ _ _ a).trans (j o)
theorem But.setNew{b:Nat}{w W:World}(h:But b w W)(a:Addr)(u:Value)(l:w.heap.size≤a.block):But b w (W.setCell a u):=by
 obtain⟨d,e,f,g,i⟩:=h;refine⟨d,e,f,by simpa using g,fun k j c=> ?_⟩;rw[o_ _ _ _ _ (by omega)];exact i k j c
theorem But.alloc{b:Nat}{w W:World}(h:But b w W)(o:Obj):But b w (W.alloc o):=by
 obtain⟨c,d,e,i,f⟩:=h;refine⟨c,d,e,by simp;omega,fun k g a=> ?_⟩;rw[q_ _ _ _ (by omega)];exact f k g a
theorem a4R{W:World}{P:Nat→Prop}{v:Value}{l:List Pt}(h:a02 W P v l)(a:Addr)(u:Value)(c:∀k,P k→k≠a.block):a02 (W.setCell a u) P v l:=
 a4x h fun k b _=>⟨b,o_ _ _ _ _ (c k b)⟩
theorem a3r{W a:World}{b:Nat}{P:Nat→Prop}{v:Value}{l:List Pt}(h:a02 W P v l)(f:But b W a)(d:∀k,P k→k≠b):a02 a P v l:=
 a4x h fun k c g=>⟨c,f.block k g (fun e=>d k c (by cases e;rfl))⟩
theorem a7k{n:Nat}{W:World}{P:Nat→Prop}{v:Value}{l:List (RT n)}(h:a0l n W P v l)(a:Addr)(u:Value)(c:∀k,P k→k≠a.block):a0l n (W.setCell a u) P v l:=
 a1A (fun k b _=>⟨b,o_ _ _ _ _ (c k b)⟩) n v l h
theorem a6l{n:Nat}{W a:World}{b:Nat}{P:Nat→Prop}{v:Value}{l:List (RT n)}(h:a0l n W P v l)(f:But b W a)(d:∀k,P k→k≠b):a0l n a P v l:=
 a1A (fun k c g=>⟨c,f.block k g (fun e=>d k c (by cases e;rfl))⟩) n v l h
theorem a6x{n:Nat}{W:World}{P Q:Nat→Prop}{v:Value}{l:List (RT n)}(h:a0l n W P v l)(a:∀k,P k→Q k):a0l n W Q v l:=
 a1A (fun k b c=>⟨a k b,rfl⟩) n v l h
theorem a80{w:World}{b a:Nat}{e:TypeId}{c:Nat}{v:Value}{n:Nat}{xs:List Value}(h:w.ownsRow b e c v n xs)(m:a≤b):w.ownsRow a e c v n xs:=by
 refine⟨h.1,?_⟩;rcases h.2 with i|⟨g,d,f,j,k,l⟩
 ·exact .inl i
 ·exact .inr ⟨g,d,f,j,K_ m k,l⟩
def a1u(w:World)(k:Nat):Prop:=w.heap.size+2≤k
structure Loc(W w:World)(b:Nat)(s:ByteArray)(r:Rd)(v0 v1 v2 v3 v4 v5 v6 v7:Value):Prop where
 rd:a0b W b s r a0j
 g0:W.cell? ⟨w.heap.size+1,0,none⟩=some v0
 g1:W.cell? ⟨w.heap.size+1,1,none⟩=some v1
 g2:W.cell? ⟨w.heap.size+1,2,none⟩=some v2
 g3:W.cell? ⟨w.heap.size+1,3,none⟩=some v3
 g4:W.cell? ⟨w.heap.size+1,4,none⟩=some v4
 g5:W.cell? ⟨w.heap.size+1,5,none⟩=some v5
 g6:W.cell? ⟨w.heap.size+1,6,none⟩=some v6
 g7:W.cell? ⟨w.heap.size+1,7,none⟩=some v7
 gf:∀o,W.frozen? ⟨w.heap.size+1,o,none⟩=false
 h0:W.cell? ⟨w.heap.size,0,none⟩=some (.int .i64 0)
 h1:W.cell? ⟨w.heap.size,1,none⟩=some (.int .i64 0)
 h2:W.cell? ⟨w.heap.size,2,none⟩=some (.int .i64 0)
 h3:W.cell? ⟨w.heap.size,3,none⟩=some (.int .i64 0)
 h4:W.cell? ⟨w.heap.size,4,none⟩=some (.int .i64 0)
 h5:W.cell? ⟨w.heap.size,5,none⟩=some (.slice none 0 0)
 h6:W.cell? ⟨w.heap.size,6,none⟩=some (.slice none 0 0)
 h7:W.cell? ⟨w.heap.size,7,none⟩=some (.slice none 0 0)
 hf:∀o,W.frozen? ⟨w.heap.size,o,none⟩=false
 but:But b w W
 size:w.heap.size+2≤W.heap.size
 lt:b<w.heap.size
theorem a3x{w:World}{b:Nat}{s:ByteArray}{r:Rd}(h:a0b w b s r a0j)(t l:TypeId)(a c d e f g i j:Value):Loc ((w.alloc (.cells #[i_ 0,i_ 0,i_ 0,i_ 0,i_ 0,.slice none 0 0,.slice none 0 0,.slice none 0 0] t)).alloc (.cells #[a,c,d,e,f,g,i,j] l)) w b s r a c d e f g i j:=by
 have k:b<w.heap.size:=r_ w _ h.c0;refine⟨a2M (a2M h _) _,?_,?_,?_,?_,?_,?_,?_,?_,fun o=> ?_,?_,?_,?_,?_,?_,?_,?_,?_,fun o=> ?_,((But.refl b w).alloc _).alloc _,by simp,k⟩;all_goals simp[go_sem]
theorem Loc.call{W f w:World}{b:Nat}{s:ByteArray}{r h:Rd}{i j k l m n p q:Value}(L:Loc W w b s r i j k l m n p q)(u:a0b f b s h a0j)(g:But b W f):Loc f w b s h i j k l m n p q:=by
 have v:=L.size;have t:=L.lt;have d:f.heap[w.heap.size+1]? =W.heap[w.heap.size+1]? :=g.block _ (by omega) (fun e=>by cases e;omega);have c:f.heap[w.heap.size]? =W.heap[w.heap.size]? :=g.block _ (by omega) (fun e=>by cases e;omega);exact⟨u,(e_ (a:=⟨w.heap.size+1,0,none⟩) d).trans L.g0,(e_ (a:=⟨w.heap.size+1,1,none⟩) d).trans L.g1,(e_ (a:=⟨w.heap.size+1,2,none⟩) d).trans L.g2,(e_ (a:=⟨w.heap.size+1,3,none⟩) d).trans L.g3,(e_ (a:=⟨w.heap.size+1,4,none⟩) d).trans L.g4,(e_ (a:=⟨w.heap.size+1,5,none⟩) d).trans L.g5,(e_ (a:=⟨w.heap.size+1,6,none⟩) d).trans L.g6,(e_ (a:=⟨w.heap.size+1,7,none⟩) d).trans L.g7,fun o=>(I_ (a:=⟨w.heap.size+1,o,none⟩) d).trans (L.gf o),(e_ (a:=(a__ w.heap.size 0)) c).trans L.h0,(e_ (a:=(a__ w.heap.size 1)) c).trans L.h1,(e_ (a:=(a__ w.heap.size 2)) c).trans L.h2,(e_ (a:=(a__ w.heap.size 3)) c).trans L.h3,(e_ (a:=(a__ w.heap.size 4)) c).trans L.h4,(e_ (a:=(a__ w.heap.size 5)) c).trans L.h5,(e_ (a:=(a__ w.heap.size 6)) c).trans L.h6,(e_ (a:=(a__ w.heap.size 7)) c).trans L.h7,fun o=>(I_ (a:=(a__ w.heap.size o)) c).trans (L.hf o),L.but.trans g,K_ v g.size,t⟩
theorem Loc.set2{W w:World}{b:Nat}{s:ByteArray}{r:Rd}{d e J f g h i j:Value}(L:Loc W w b s r d e J f g h i j)(u:Value):Loc (W.setCell ⟨w.heap.size+1,2,none⟩ u) w b s r d e u f g h i j:=by
 obtain⟨I,k,l,m,n,p,q,t,v,x,y,z,A,B,C,D,E,F,G,c,a,H⟩:=L;refine⟨a15 I _ _ (by simp only;omega),?_,?_,?_,?_,?_,?_,?_,?_,fun o=> ?_,?_,?_,?_,?_,?_,?_,?_,?_,fun o=> ?_,c.setNew _ _ (by simp),by simpa using a,H⟩;all_goals simp[go_sem,k,l,m,n,p,q,t,v,x,y,z,A,B,C,D,E,F,G]
theorem Loc.set3{W w:World}{b:Nat}{s:ByteArray}{r:Rd}{d e f J g h i j:Value}(L:Loc W w b s r d e f J g h i j)(u:Value):Loc (W.setCell ⟨w.heap.size+1,3,none⟩ u) w b s r d e f u g h i j:=by
 obtain⟨I,k,l,m,n,p,q,t,v,x,y,z,A,B,C,D,E,F,G,c,a,H⟩:=L;refine⟨a15 I _ _ (by simp only;omega),?_,?_,?_,?_,?_,?_,?_,?_,fun o=> ?_,?_,?_,?_,?_,?_,?_,?_,?_,fun o=> ?_,c.setNew _ _ (by simp),by simpa using a,H⟩;all_goals simp[go_sem,k,l,m,n,p,q,t,v,x,y,z,A,B,C,D,E,F,G]
theorem Loc.set4{W w:World}{b:Nat}{s:ByteArray}{r:Rd}{d e f g J h i j:Value}(L:Loc W w b s r d e f g J h i j)(u:Value):Loc (W.setCell ⟨w.heap.size+1,4,none⟩ u) w b s r d e f g u h i j:=by
 obtain⟨I,k,l,m,n,p,q,t,v,x,y,z,A,B,C,D,E,F,G,c,a,H⟩:=L;refine⟨a15 I _ _ (by simp only;omega),?_,?_,?_,?_,?_,?_,?_,?_,fun o=> ?_,?_,?_,?_,?_,?_,?_,?_,?_,fun o=> ?_,c.setNew _ _ (by simp),by simpa using a,H⟩;all_goals simp[go_sem,k,l,m,n,p,q,t,v,x,y,z,A,B,C,D,E,F,G]
theorem Loc.set5{W w:World}{b:Nat}{s:ByteArray}{r:Rd}{d e f g h J i j:Value}(L:Loc W w b s r d e f g h J i j)(u:Value):Loc (W.setCell ⟨w.heap.size+1,5,none⟩ u) w b s r d e f g h u i j:=by
 obtain⟨I,k,l,m,n,p,q,t,v,x,y,z,A,B,C,D,E,F,G,c,a,H⟩:=L;refine⟨a15 I _ _ (by simp only;omega),?_,?_,?_,?_,?_,?_,?_,?_,fun o=> ?_,?_,?_,?_,?_,?_,?_,?_,?_,fun o=> ?_,c.setNew _ _ (by simp),by simpa using a,H⟩;all_goals simp[go_sem,k,l,m,n,p,q,t,v,x,y,z,A,B,C,D,E,F,G]
theorem Loc.set6{W w:World}{b:Nat}{s:ByteArray}{r:Rd}{d e f g h i J j:Value}(L:Loc W w b s r d e f g h i J j)(u:Value):Loc (W.setCell ⟨w.heap.size+1,6,none⟩ u) w b s r d e f g h i u j:=by
 obtain⟨I,k,l,m,n,p,q,t,v,x,y,z,A,B,C,D,E,F,G,c,a,H⟩:=L;refine⟨a15 I _ _ (by simp only;omega),?_,?_,?_,?_,?_,?_,?_,?_,fun o=> ?_,?_,?_,?_,?_,?_,?_,?_,?_,fun o=> ?_,c.setNew _ _ (by simp),by simpa using a,H⟩;all_goals simp[go_sem,k,l,m,n,p,q,t,v,x,y,z,A,B,C,D,E,F,G]
theorem Loc.set7{W w:World}{b:Nat}{s:ByteArray}{r:Rd}{d e f g h i j J:Value}(L:Loc W w b s r d e f g h i j J)(u:Value):Loc (W.setCell ⟨w.heap.size+1,7,none⟩ u) w b s r d e f g h i j u:=by
 obtain⟨I,k,l,m,n,p,q,t,v,x,y,z,A,B,C,D,E,F,G,c,a,H⟩:=L;refine⟨a15 I _ _ (by simp only;omega),?_,?_,?_,?_,?_,?_,?_,?_,fun o=> ?_,?_,?_,?_,?_,?_,?_,?_,?_,fun o=> ?_,c.setNew _ _ (by simp),by simpa using a,H⟩;all_goals simp[go_sem,k,l,m,n,p,q,t,v,x,y,z,A,B,C,D,E,F,G]
end Go.Proofs.YtdgmoiflahoihaaGreatDoor
