import Derived.Test.YtdgmoiflahoihaaGreatDoorBLSw
import Derived.Test.YtdgmoiflahoihaaGreatDoorBLPw
import Derived.Lib.LaidTab
import Derived.Lib.AppendStr

set_option linter.unusedSimpArgs false
set_option linter.unusedVariables false
set_option maxRecDepth 100000
set_option maxHeartbeats 8000000
namespace Go.Proofs.YtdgmoiflahoihaaGreatDoor
open Go.Proofs.Tryz
open Go.RowKit
def a2c (w : World) : Prop := Lib.TabIs prog w "internal/strconv.uint64pow10" .u64 Lib.pow10Tab
theorem a2c.below{w w':World}(h:a2c w)(d:B__ w w'):a2c w':=by
 unfold a2c Lib.TabIs World.var? at h⊢;cases c : prog.globalNamed "internal/strconv.uint64pow10" with
 |none=>rw[c]at h;cases h
 |some g=>
  rw[c]at h;simp only[Option.bind_some]at h⊢;have b:g<w.heap.size:=by
   rcases Nat.lt_or_ge g w.heap.size with a|a
   ·exact a
   ·rw[Array.getElem?_eq_none a]at h;cases h
  rw[d.block _ b];exact h
theorem b2V(n:Int)(a: -9223372036854775808≤n∧n≤9223372036854775807)(w:World)(d:a2c w):
  Calls prog 103 #[i_ n] w fun e w'=>e= .returned (.string (txt (a0T n)))∧B__ w w':=by
 have h:=Any.strconv_Itoa Tryz.laysItoa n a.1 a.2 w d;refine Calls.mono h ?_;rintro e w' ⟨rfl,k,b,rfl⟩;refine⟨by rw[c4o];rfl,rfl,rfl,rfl,?_,?_⟩
 ·show w.heap.size≤(w.heap++b).size;simp
 ·intro j c;show(w.heap++b)[j]? =w.heap[j]?;rw[Array.getElem?_append_left c]
theorem b0X(l:List UInt8):(txt l).data.toList=l:=by simp[txt]
theorem b9p(v:Vl)(t:a0S v)(w:World)(r:a2c w):
  Calls prog 104 #[vlV v] w fun e w'=>e= .returned (.string (txt (a0J v)))∧B__ w w':=by
 obtain⟨b,a⟩:=v;obtain⟨p,q,n⟩:=t;simp only at p q n;have d:B__ w (w.alloc (.cells #[i_ b,i_ a] 59)):=(g_ _ _).alloc (a_ _) _;have k:a2c (w.alloc (.cells #[i_ b,i_ a] 59)):=r.below d;have s:Hid (∀w,a2c w→Calls prog 103 #[i_ b] w fun e w'=>e= .returned (.string (txt (a0T b)))∧B__ w w'):=fun w h=>b2V b p w h
 have o:Hid (∀w,a2c w→Calls prog 103 #[i_ a] w fun e w'=>e= .returned (.string (txt (a0T a)))∧B__ w w'):=fun w h=>b2V a (by omega) w h
 have i:=h__ k;have g:=h__ d;have f:=a6g a (by omega);clear r k d;by_cases j:a=0
 ·have l:a0J ⟨b,a⟩=a0T b:=by unfold a0J;rw[f_ (by simpa using j)]
  rw[l];clear l o f q n;subst j;go_enter func104,ntmps104;go_wp2_with (go_at_call 103;refine(s.out _ i.out).mono ?_;rintro e u ⟨rfl,c⟩;have m:Hid _:=g.out.trans (c.mono (by simp));clear c);go_ret;exact⟨rfl,m.out⟩
 ·have l:txt (a0J ⟨b,a⟩)=⟨#[33]⟩++txt (a0T a):=by
   unfold a0J;rw[n_ j];exact(a2x [33] (a0T a)).symm
  rw[l];have y:(a !=0)=true:=by simp[j]
  have x:(txt (a0T a)).size≤20:=f;generalize txt (a0T a)=T at*;clear l j f n;go_enter func104,ntmps104;go_wp2_with (go_at_call 103;refine(o.out _ i.out).mono ?_;rintro e u ⟨rfl,c⟩;have m:Hid _:=g.out.trans (c.mono (by simp));clear c);go_ret;exact⟨rfl,m.out⟩
abbrev ntV(x:Nt):Value:= .agg #[.int .i64 x.kind,.int .i64 x.place,.int .i64 x.label,.int .i64 x.val.num,.int .i64 x.val.fault]
theorem c4E(x:Nt):txt (a0T (x.place:Int))++⟨#[58]⟩++txt (a0J x.val)++⟨#[10]⟩=txt (a2Q x):=by
 have a:txt (a0T (x.place:Int))++⟨#[58]⟩=txt (a0T (x.place:Int)++ [58]):=a2x _ [58];have b:txt ((a0T (x.place:Int)++ [58])++a0J x.val)++⟨#[10]⟩=txt (((a0T (x.place:Int)++ [58])++a0J x.val)++ [10]):=a2x _ [10];rw[a,a2x,b];unfold a2Q a2K;simp
theorem c0H(x:Nt)(t:a8h x)(w:World)(A:a2c w):
  Calls prog 70 #[ntV x] w fun e w'=>e= .returned (.string (txt (a2Q x)))∧B__ w w':=by
 have m:B__ w (w.alloc (.cells #[i_ x.kind,i_ x.place,i_ x.label,i_ x.val.num,i_ x.val.fault] 61)):=(g_ _ _).alloc (a_ _) _;have r:Hid (a2c (w.alloc (.cells #[i_ x.kind,i_ x.place,i_ x.label,i_ x.val.num,i_ x.val.fault] 61))):=A.below m;have u:Hid (B__ w (w.alloc (.cells #[i_ x.kind,i_ x.place,i_ x.label,i_ x.val.num,i_ x.val.fault] 61))):=m;have I:=t.place;have D:Hid (∀w,a2c w→Calls prog 103 #[i_ (x.place:Int)] w fun e w'=>e= .returned (.string (txt (a0T (x.place:Int))))∧B__ w w'):=fun w h=>b2V _ (by omega) w h
 have F:Hid (∀w,a2c w→Calls prog 104 #[.agg #[i_ x.val.num,i_ x.val.fault]] w fun e w'=>e= .returned (.string (txt (a0J x.val)))∧B__ w w'):=fun w h=>b9p x.val t.val w h
 have C:Hid (txt (a0T (x.place:Int))++⟨#[58]⟩++txt (a0J x.val)++⟨#[10]⟩=txt (a2Q x)):=c4E x;have G:(txt (a0T (x.place:Int))).size≤20:=a6g (x.place:Int) (by omega);have H:(txt (a0J x.val)).size≤21:=a9b t.val;generalize txt (a0T (x.place:Int))=L at*;generalize txt (a0J x.val)=M at*;have B:∀(l:World),Below (w.alloc (.cells #[i_ x.kind,i_ x.place,i_ x.label,i_ x.val.num,i_ x.val.fault] 61)).heap.size (w.alloc (.cells #[i_ x.kind,i_ x.place,i_ x.label,i_ x.val.num,i_ x.val.fault] 61)) l→l.cell? (a__ w.heap.size 3)=some (i_ x.val.num)∧l.cell? (a__ w.heap.size 4)=some (i_ x.val.fault):=fun l h=>by
  constructor
  ·rw[h.cell (p:=(a__ w.heap.size 3)) (by simp)];simp[go_sem]
  ·rw[h.cell (p:=(a__ w.heap.size 4)) (by simp)];simp[go_sem]
 have E:=h__ B;clear B A m t;go_enter func70,ntmps70;go_wp2_with (first|(go_at_call 103;refine(D.out _ r.out).mono ?_;rintro e l ⟨rfl,j⟩;obtain⟨N,O⟩:=E.out l j;have o:Hid (B__ w l):=u.out.trans (j.mono (by simp));have z:Hid (a2c l):=r.out.below j;clear j)|(go_at_call 104;refine(F.out _ z.out).mono ?_;rintro e J ⟨rfl,s⟩;have y:Hid (B__ w J):=o.out.trans (s.mono o.out.size);clear s));go_ret;refine⟨?_,y.out⟩;rw[←C.out];rfl
theorem c0v(a b:Int)(w:World):Calls prog 102 #[i_ a,i_ b] w fun e w'=>e= .returned (.bool (bits .or .i64 a b==b))∧w'=w:=by
 go_enter func102,ntmps102;go_wp2_with fail;go_ret;exact⟨rfl,rfl⟩
theorem b8R(x:Nt)(r:Int)(w:World):
  Calls prog 69 #[ntV x,i_ r] w fun e w'=>e= .returned (.bool (a84 r x))∧B__ w w':=by
 have b:B__ w (w.alloc (.cells #[i_ x.kind,i_ x.place,i_ x.label,i_ x.val.num,i_ x.val.fault] 61)):=(g_ _ _).alloc (a_ _) _;have d:Hid (∀w,Calls prog 102 #[i_ (x.label:Int),i_ r] w fun e w'=>e= .returned (.bool (bits .or .i64 (x.label:Int) r==r))∧w'=w):=fun w=>c0v _ _ w
 have a:=h__ b;clear b;unfold a84;cases f:(x.kind==0)
 ·go_enter func69,ntmps69;go_wp2_with fail;go_ret;exact⟨rfl,a.out⟩
 ·generalize (bits .or .i64 (x.label:Int) r==r)=G at*;go_enter func69,ntmps69;go_wp2_with (go_at_call 102;refine(d.out _).mono ?_;rintro e g ⟨rfl,c⟩;subst c);go_ret;exact⟨rfl,a.out⟩
theorem c6Z:(prog.info? 5).map (fun i=>(i.zero,i.size,i.bytes))=some (some (.int .u8 0),1,1):=by kernel_rfl
theorem b2Y{w w':World}{a b n:Nat}{e:TypeId}{v:Value}{xs:List Value}(h:w.ownsRow a e b v n xs)(c:B__ w w'):w'.ownsRow a e b v n xs:=
 a5o h (fun k e d=>c.block k d)
theorem c0J{w W d:World}{c:Option Nat}(a:B__ w W)(b:W.grownBy d c)(g:∀k,c=some k→w.heap.size≤k):B__ w d:=by
 have h:=a.size;exact⟨b.os.trans a.os,b.tape.trans a.tape,b.output.trans a.output,K_ h b.size,fun k f=>(b.block k (by omega) (fun e=>by have:=g k e.symm;omega)).trans (a.block k f)⟩
theorem b9f(l:List UInt8)(j:Nat)(a:j<l.length):(Lib.strCells (txt l))[j]? =some (.int .u8 (l[j].toNat:Int)):=by
 unfold Lib.strCells;rw[b0X];simp[a]
theorem c3X{W:World}{a:Nat}{v:Value}(l:List UInt8)(h:W.ownsRow a 5 1 v l.length (Lib.strCells (txt l))):(convert 107 9 v).run prog W= .ok (.string (txt l)) W:=by
 rcases h.2 with⟨rfl,e⟩|⟨g,c,d,rfl,k,n,m,o,f,p⟩
 ·have:l= []:=a_6.mp e;subst this;rw[run_convert_bytes_string W 107 9 5 none 0 0 underlying107 underlying5 underlying9];rfl
 ·refine run_convert_bytes_back (P:=prog) W 107 9 5 (a__ g 0) c l underlying107 underlying5 underlying9 ?_;intro j i;have:=h.cellAt j (by omega);rw[b9f l j i]at this;by_cases b:j=0
  ·subst b;simpa[Addr.add]using this
  ·simpa[Addr.add,b]using this
theorem b3f(r:Int)(N:List Nt)(k:Nat)(a:k<N.length):a3l r (N.drop k)=(if a84 r N[k]then a2Q N[k]else [])++a3l r (N.drop (k+1)):=by
 rw[u_ a];rfl
theorem b8Z(N:List Nt)(r:Int)(ao:Option Addr)(g Af:Nat)(w:World)(hN:a1H w ao g N)(Ap:N.length≤5000)(Y:∀x∈N,a8h x)(ht:a2c w):
  Calls prog 42 #[.slice ao N.length Af,i_ r] w fun e w'=>e= .returned (.string (txt (a3l r N)))∧B__ w w':=by
 obtain⟨iV,Ai,Ao,Am,Ag⟩:=a1v c6Z;have HN:Hid (a1H w ao g N):=hN;have G:Hid (∀x∈N,a8h x):=Y;have HT:Hid (a2c w):=ht;clear hN Y ht;generalize hR:a3l r N=R;have HR:Hid (([]:List UInt8)++a3l r (N.drop 0)=R):=hR;clear hR;go_enter func42,ntmps42;go_wp2_with fail;go_loopw [5,11] (fun v x w'=>∃(A:Option Addr) (E B k:Nat) (M:List UInt8),v= .slice A E B∧x=i_ k∧k≤N.length∧M.length≤50*k∧Hid (w'.ownsRow w.heap.size 5 1 (.slice A E B) M.length (Lib.strCells (txt M)))∧Hid (B__ w w')∧Hid (M++a3l r (N.drop k)=R)) (fun _ x _=>N.length-(intOf x).toNat);case atStart=>exact⟨none,0,0,0,[],rfl,rfl,a_j _,a_ _,E_ ..,g_ _ _,HR⟩
 case round=>
  obtain⟨A,E,B,k,M,rfl,rfl,hk,hM,HO,z,HF⟩:=hrel;have As:=z.out.size;by_cases L:k<N.length
  ·have tk:decide ((k:Int)<(N.length:Int))=true:=by rw[Y_];omega
   obtain⟨ea,hg,c0,c1,c2,c3,c4⟩:=HN.out.below z.out k L;have t:=G.out N[k] (P_ L);have H:=HF.out;rw[b3f r N k L]at H;subst ea;generalize N[k]=x at*;have y:Hid (∀w,Calls prog 69 #[.agg #[i_ x.kind,i_ x.place,i_ x.label,i_ x.val.num,i_ x.val.fault],i_ r] w fun e w'=>e= .returned (.bool (a84 r x))∧B__ w w'):=fun w=>b8R x r w
   have U:Hid (∀w,a2c w→Calls prog 70 #[.agg #[i_ x.kind,i_ x.place,i_ x.label,i_ x.val.num,i_ x.val.fault]] w fun e w'=>e= .returned (.string (txt (a2Q x)))∧B__ w w'):=fun w h=>c0H x t w h
   have Ak:=b5K t;have Ae:Hid (a2c wr):=HT.out.below z.out;have HA:Hid (∀j,Below (wr.alloc (.cells #[i_ x.kind,i_ x.place,i_ x.label,i_ x.val.num,i_ x.val.fault] 61)).heap.size (wr.alloc (.cells #[i_ x.kind,i_ x.place,i_ x.label,i_ x.val.num,i_ x.val.fault] 61)) j→B__ wr j∧j.cell? (a__ wr.heap.size 0)=some (i_ x.kind)∧j.cell? (a__ wr.heap.size 1)=some (i_ x.place)∧j.cell? (a__ wr.heap.size 2)=some (i_ x.label)∧j.cell? (a__ wr.heap.size 3)=some (i_ x.val.num)∧j.cell? (a__ wr.heap.size 4)=some (i_ x.val.fault)):=fun j h=>by
    refine⟨((g_ _ _).alloc (a_ _) _).trans (h.mono (by simp)),?_,?_,?_,?_,?_⟩
    ·rw[h.cell (p:=(a__ wr.heap.size 0)) (by simp)];simp[go_sem]
    ·rw[h.cell (p:=(a__ wr.heap.size 1)) (by simp)];simp[go_sem]
    ·rw[h.cell (p:=(a__ wr.heap.size 2)) (by simp)];simp[go_sem]
    ·rw[h.cell (p:=(a__ wr.heap.size 3)) (by simp)];simp[go_sem]
    ·rw[h.cell (p:=(a__ wr.heap.size 4)) (by simp)];simp[go_sem]
   clear HF HN G t;cases Aa:a84 r x
   ·rw[Aa]at H y;have m:Hid (M++a3l r (N.drop (k+1))=R):=by show _=_;simpa using H
    clear H U;go_wp2_with (first|(go_at_call 69;refine(y.out _).mono ?_;rintro e j ⟨rfl,o⟩;have C:=(HA.out j o).1;have u:Hid (B__ w j):=z.out.trans (C.mono z.out.size);have F:Hid (j.ownsRow w.heap.size 5 1 (.slice A E B) M.length (Lib.strCells (txt M))):=b2Y HO.out C;clear o C));refine⟨⟨A,E,B,k+1,M,rfl,by go_num,by omega,by omega,F,u,m⟩,?_⟩;simp[intOf];omega
   ·rw[Aa]at H y;have m:Hid ((M++a2Q x)++a3l r (N.drop (k+1))=R):=by show _=_;rw[←H];simp
    clear H;have An:(txt (a2Q x)).size=(a2Q x).length:=rfl;have m1:M.length+(txt (a2Q x)).size≤maxLen:=by unfold maxLen;omega
    have m2:M.length+(txt (a2Q x)).size≤140737488355328:=by omega
    have P:Hid (Lib.strCells (txt M)++Lib.strCells (txt (a2Q x))=Lib.strCells (txt (M++a2Q x))∧M.length+(txt (a2Q x)).size=(M++a2Q x).length):=by
     refine⟨?_,by rw[x_];rfl⟩;unfold Lib.strCells;rw[b0X,b0X,b0X,List.map_append]
    generalize hT:txt (a2Q x)=T at*;have Ar:T.size≤50:=by rw[←hT];exact Ak
    generalize I:M++a2Q x=O at*;have Aj:O.length≤50*(k+1):=by rw[←I,x_];omega
    have Z:0<O.length:=by rw[←I];unfold a2Q;simp;omega
    clear hT I An;go_wp2_with (first|(go_at_call 69;refine(y.out _).mono ?_;rintro e j ⟨rfl,o⟩;obtain⟨C,d0,d1,d2,d3,d4⟩:=HA.out j o;have u:Hid (B__ w j):=z.out.trans (C.mono z.out.size);have F:Hid (j.ownsRow w.heap.size 5 1 (.slice A E B) M.length (Lib.strCells (txt M))):=b2Y HO.out C;have Ad:Hid (a2c j):=Ae.out.below C;clear o C)|(go_at_call 70;refine(U.out _ Ad.out).mono ?_;rintro e w2 ⟨rfl,J⟩;have S:Hid (B__ w w2):=u.out.trans (J.mono u.out.size);have V:Hid (w2.ownsRow w.heap.size 5 1 (.slice A E B) M.length (Lib.strCells (txt M))):=b2Y F.out J;clear J;have Al:=S.out.size)|(at_builtin;refine Lib.wpList_append_own_string _ rfl (.tmp 20) (.tmp 21) 107 9 rfl w.heap.size 5 iV underlying107 underlying9 Ai Ao Am Ag (.slice A E B) M.length (Lib.strCells (txt M)) (by rfl) (by exact V.out) T (by rfl) m1 m2 Al ?_;intro v' w4 l s Ah;have D:=c0J S.out s (fun k hk=>(V.out.lt k hk).1);clear Ah s;rw[P.out.1,P.out.2]at l;have Ab:Hid (B__ w w4):=D;clear D;obtain⟨gn,X,rfl⟩:=Joins.ownsRow_form l Z;have Ac:Hid (w4.ownsRow w.heap.size 5 1 (.slice (some (a__ gn 0)) O.length X) O.length (Lib.strCells (txt O))):=l;clear l));refine⟨⟨_,_,_,k+1,O,rfl,by go_num,by omega,Aj,Ac,Ab,m⟩,?_⟩;simp[intOf];omega
  ·have tk:decide ((k:Int)<(N.length:Int))=false:=by rw[N_];omega
   have m:Hid (M=R):=by
    have:=HF.out;rw[C_ (by omega)]at this;show _=_;simpa[a3l]using this
   have Aq:=c3X M HO.out;clear HF HN G;go_wp2_with fail;go_ret;refine⟨?_,z.out⟩;rw[←m.out];rfl
def a8N(w:World)(b:Int×List UInt8)(e:Ending)(w':World):Prop:=e= .returned (.tuple #[.string (txt b.2),.int .i64 b.1])∧Below w.heap.size w w'
theorem b6L(s:ByteArray)(I:Value)(r:Int)(w:World)(R:Int×List Nt)(z:∀w',w'=w→Calls prog 41 #[.string s,I] w' (a3w w' R))(u:R.2.length≤5000)(D:∀x∈R.2,a8h x)(V:a2c w):
  Calls prog 7 #[.string s,I,i_ r] w (a8N w (a39 r R)):=by
 obtain⟨C,N⟩:=R;simp only at u D;have t:Hid (Calls prog 41 #[.string s,I] w (a3w w (C,N))):=z w rfl;have A:Hid (∀(m:World) (H:Option Addr) (g B:Nat),a1H m H g N→a2c m→Calls prog 42 #[.slice H N.length B,i_ r] m fun e w'=>e= .returned (.string (txt (a3l r N)))∧B__ m w'):=fun m H g B h1 h2=>b8Z N r H g B m h1 u D h2
 have Y:Hid (a2c w):=V;clear z D V;have Z:Hid (Calls prog 20 #[.string s,I,i_ r] w (a8N w (a39 r (C,N)))):=by
  by_cases O:C=0
  ·subst O;by_cases U:r<0∨15<r
   ·have E:a39 r (0,N)=(9,[]):=by unfold a39;rw[f_ (by simp),n_ U]
    rw[E];clear A;by_cases y:r<0
    ·have X:decide (r<0)=true:=b_a y;go_enter func20,ntmps20;go_wp2_with (first|(go_at_call 41;refine t.out.mono ?_;rintro e m ⟨⟨P,rfl,p,o⟩,j⟩;have l:Hid (B__ w m):=j;clear j p o));go_ret2;exact⟨rfl,l.out⟩
    ·have X:decide (r<0)=false:=b_u y;have t2:decide ((16:Int)≤r)=true:=by rw[Y_];omega
     go_enter func20,ntmps20;go_wp2_with (first|(go_at_call 41;refine t.out.mono ?_;rintro e m ⟨⟨P,rfl,p,o⟩,j⟩;have l:Hid (B__ w m):=j;clear j p o));go_ret2;exact⟨rfl,l.out⟩
   ·have E:a39 r (0,N)=(0,a3l r N):=by unfold a39;rw[f_ (by simp),f_ U]
    rw[E];have X:decide (r<0)=false:=by rw[N_];omega
    have t2:decide ((16:Int)≤r)=false:=by rw[N_];omega
    generalize a3l r N=BB at*;go_enter func20,ntmps20;go_wp2_with (first|(go_at_call 41;refine t.out.mono ?_;rintro e m ⟨⟨P,rfl,p,o⟩,j⟩;obtain⟨S,T,ca,rfl,G⟩:=a4P o;have L:Hid (a1H m S T N):=G;have l:Hid (B__ w m):=j;have M:Hid (a2c m):=Y.out.below j;clear j p o G)|(go_at_call 42;refine(A.out _ S T ca L.out M.out).mono ?_;rintro e w2 ⟨rfl,F⟩;have J:Hid (B__ w w2):=l.out.trans (F.mono l.out.size);clear F));go_ret2;exact⟨rfl,J.out⟩
  ·have E:a39 r (C,N)=(C,[]):=by unfold a39;rw[n_ (by simpa using O)]
   rw[E];have t0:(C !=0)=true:=by simpa using O
   clear A;go_enter func20,ntmps20;go_wp2_with (first|(go_at_call 41;refine t.out.mono ?_;rintro e m ⟨⟨P,rfl,p,o⟩,j⟩;have l:Hid (B__ w m):=j;clear j p o));go_ret2;exact⟨rfl,l.out⟩
 generalize a39 r (C,N)=BP at*;go_enter func7,ntmps7;go_wp2_with (first|(go_at_call 20;refine Z.out.mono ?_;rintro e m ⟨rfl,j⟩;have l:Hid (B__ w m):=j;clear j));go_ret2;exact⟨rfl,l.out⟩
end Go.Proofs.YtdgmoiflahoihaaGreatDoor
