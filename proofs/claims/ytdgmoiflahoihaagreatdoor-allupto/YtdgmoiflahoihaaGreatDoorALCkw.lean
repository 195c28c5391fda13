import Derived.Test.YtdgmoiflahoihaaGreatDoorIRefw
import Derived.ChangeKeysEq

set_option linter.unusedSimpArgs false
set_option linter.unusedVariables false
set_option maxRecDepth 100000
set_option maxHeartbeats 8000000
namespace Go.Proofs.YtdgmoiflahoihaaGreatDoor
open Go.Proofs.Tryz
open Go.ChangeShapes Go.WideShapes Go.ChangeAt Go.RowKit
theorem c0k(s:ByteArray)(w:World)(r:Int×Int)(c:s.size≤maxLen)(b:a0s s.data.toList=r):
  Calls prog 10 #[.string s] w fun e w'=>e= .returned (.tuple #[i_ r.1,i_ r.2])∧B__ w w':=by
 have d:s.data.toList.length=s.size:=by simp
 rw[←b];exact a9x s w c (fun h a=>a24 (by omega) a)
theorem b8D(s:ByteArray)(d:s.size≤maxLen)(w:World):
  Calls prog 27 #[.string s] w fun e w'=>e= .returned T__∧B__ w w':=by
 generalize c:a0s s.data.toList=r;have i:=h__ c;have h:Hid (a8R s.data.toList=some r):=by show _=_;rw[←c];exact a7u _
 clear c;obtain⟨f,g⟩:=r;go_enter func27,ntmps27;go_wp2_with (first|(go_at_call 10;refine(c0k s _ (f,g) d i.out).mono ?_;rintro j l ⟨rfl,a⟩)|(go_at_call 43;refine(a4y s _ (f,g) d h.out).mono ?_;rintro k m ⟨rfl,b⟩));go_ret;exact⟨rfl,a.trans (b.mono a.size)⟩
theorem b2d{t:List UInt8}(h:(a0s t).1=0):t.length≤400∧(a0n t).1.bad=false∧a1N [] (a0t t).2=none∧a0s t=(0,0):=by
 unfold a0s at h⊢;by_cases b:400<t.length
 ·rw[n_ b]at h;cases h
 rw[f_ b]at h⊢;cases a:(a0n t).1.bad with
 |true=>rw[a,n_ rfl]at h;cases h
 |false=>
  rw[a]at h;simp only[D_,a_g]at h⊢;cases c:a1N [] (a0t t).2 with
  |some p=>rw[c]at h;cases h
  |none=>
   rw[c]at h;simp only at h⊢;by_cases d:5000<a0z 9 (a0n t).2
   ·rw[n_ d]at h;cases h
   ·rw[f_ d]at h⊢;cases e:a28 (a13 (a0t t).2 (a0n t).2) 9 0 (a0n t).2 with
    |some p=>rw[e]at h;cases h
    |none=>exact⟨by omega,trivial,trivial,rfl⟩
theorem b6s(s:ByteArray)(w:World)(e:Int)(R:List Nat)(u:s.size≤maxLen)(d:(a0s s.data.toList).1=e)(k:a4M s.data.toList=R):
  Calls prog 54 #[.string s] w fun x w'=>x= .returned (.tuple #[.agg (a0i R),i_ e])∧B__ w w':=by
 have v:s.data.toList.length=s.size:=by simp
 have a:=a7u s.data.toList;by_cases h:e=0
 ·subst h;obtain⟨o,j,p,q⟩:=b2d d;have c:=a24 o j;obtain⟨_,B,l,m,n⟩:=(a6k s.data.toList).2 j;have r:=a4F s.data.toList;obtain⟨f,g⟩:=b5x (by omega) l m n c.heads c.tree p;have i:a8g (flT 9 0 (a0n s.data.toList).2):=by
   have b:=f;unfold a5x at b;rw[l]at b;exact a7A _ _ _ _ _ b
  have t:a4L (a0a s.data.toList) (flT 9 0 (a0n s.data.toList).2) 26=some R:=by
   unfold a7E at g;rw[f]at g;rw[←k];unfold a4M;rw[n_ d];exact g
  rw[q]at a;exact b4B s w _ R (by omega) a f i t
 ·have y:R=a0L:=by
   rw[←k];unfold a4M;rw[f_ (by rw[d];exact h)]
  subst y;have:a0s s.data.toList=(e,(a0s s.data.toList).2):=by rw[←d]
  rw[this]at a;exact b6t s w e _ u (by simpa using h) a
theorem b4A(s:ByteArray)(w:World)(e:Int)(R:List Nat)(d:s.size≤maxLen)(c:(a0s s.data.toList).1=e)(a:a4M s.data.toList=R):
  Calls prog 38 #[.string s] w fun x w'=>x= .returned (.tuple #[.agg (a0i R),i_ e])∧B__ w w':=by
 have f:s.data.toList.length=s.size:=by simp
 exact b28 s w e R d (fun h b=>a24 (by omega) b) c a
theorem c19(t:List UInt8):(a4M t).length=26:=by
 unfold a4M;by_cases h:(a0s t).1=0
 ·rw[n_ h];obtain⟨b,c,d,e⟩:=b2d h;have a:=a24 b c;exact(a5m a.heads a.tree).len
 ·rw[f_ h];rfl
theorem c4O:prog.plainKey 3=true:=by kernel_rfl
theorem b3y{R:List Nat}(b:R.length=26)(d:Nat)(w:World):∀(a:List Nat),(∀i∈a,i<26)→(Op.eqItems (d+1) 3 1 (a0i R) (a0i R) a).run prog w= .ok true w
 | [],_=>by simp[Op.eqItems]
 |i::a,h=>by
  have hi:i<R.length:=by rw[b];exact h i (by simp)
  have g:(a0i R)[i*1]? =some (i_ R[i]):=by
   rw[Nat.mul_one];simp[a0i,a23,s_ hi]
  have e:=run_part_plain w c4O g;have f:=run_equalIn_int w d 3 .i64 .i64 R[i] R[i] underlying3;have k:=b3y b d w a (fun j c=>h j (by simp[c]));simp only[Op.eqItems,Sem.run_bind,e,f,Result.andThen_ok,beq_self_eq_true,Bool.not_true,D_,a_g];exact k
theorem c3G{R:List Nat}(b:R.length=26)(w:World):(Op.equalIn 10000 69 (.agg (a0i R)) (.agg (a0i R))).run prog w= .ok true w:=by
 have c:prog.cellsOf 3=1:=by kernel_rfl
 obtain⟨i,a⟩:=info_of_underlying underlying3;rw[run_equalIn_array w 9999 (a0i R) (a0i R) underlying69 a,c];exact b3y b 9998 w _ (fun i a=>by simpa using a)
theorem b07{P:Program}{b:Array Oper}{rest:List Oper}{o:Oper}{a:Act}{w:World}{Q:Exit→Act→World→Prop}(d:Region.wanted o (yielded b a.tmps)=true)
  (h:∀K:Act→World→Prop,(∀a w,wpList P b Q rest a w→K a w)→o.wp P a w K Q):wpList P b Q (o::rest) a w:=
 wpList_step fun K c=>by rw[n_ d];exact h K c
theorem b6k(s:ByteArray)(t:s.size≤maxLen)(w:World):
  Calls prog 28 #[.string s] w fun e w'=>e= .returned T__∧B__ w w':=by
 have b:=c19 s.data.toList;generalize r:(a0s s.data.toList).1=e;generalize q:a4M s.data.toList=R at b;have o:=h__ r;have p:=h__ q;clear r q;have a:(a0i R).size=26:=by simp[a0i,b]
 have u:=c3G b;clear b;go_enter func28,ntmps28;go_upto_region 3 with(first|(go_at_call 38;refine(b4A s _ e R t o.out p.out).mono ?_;rintro z g ⟨rfl,f⟩)|(go_at_call 54;refine(b6s s _ e R t o.out p.out).mono ?_;rintro A d ⟨rfl,c⟩)|(refine a_k rfl 69 (.tmp 3) (.tmp 10) rfl g.heap.size (a0i R) rfl rfl 69 (a0i a0L) (by exact a5k g) (by rw[a0V,a]) (by rw[a];rfl) (a6a R) ?_;rw[World.setRow_alloc_new];simp only[Act.put])|(refine a_k rfl 69 (.tmp 5) (.tmp 15) rfl d.heap.size (a0i R) rfl rfl 69 (a0i a0L) (by exact a5k d) (by rw[a0V,a]) (by rw[a];rfl) (a6a R) ?_;rw[World.setRow_alloc_new];simp only[Act.put]));have v:=f.size;have x:=c.size;have j:(g.alloc (.cells (a0i R) 69)).heap.size=g.heap.size+1:=by simp
 have h:(d.alloc (.cells (a0i R) 69)).heap[g.heap.size]? =some (.cells (a0i R) 69 (0,0)):=by
  rw[heap_alloc_old _ _ (by omega),c.block _ (by omega)];exact R_ g _
 have i:(d.alloc (.cells (a0i R) 69)).heap[d.heap.size]? =some (.cells (a0i R) 69 (0,0)):=R_ d _;have n:B__ w (d.alloc (.cells (a0i R) 69)):=((f.alloc (by omega) _).trans (c.mono (by omega))).alloc (by omega) _;generalize d.alloc (.cells (a0i R) 69)=y at*;have k:=h__ h;have l:=h__ i;clear h i f c j;go_wp2_with (first|(refine b07 (by rfl) fun K m=>wp_load_row 69 (.tmp 3) rfl g.heap.size rfl 69 (a0i R) (0,0) _ k.out underlying69 rfl (by rw[a0V,a]) (m _ _ ?_);simp only[Act.put])|(refine b07 (by rfl) fun K m=>wp_load_row 69 (.tmp 5) rfl d.heap.size rfl 69 (a0i R) (0,0) _ l.out underlying69 rfl (by rw[a0V,a]) (m _ _ ?_);simp only[Act.put]));go_ret;exact⟨rfl,n⟩
end Go.Proofs.YtdgmoiflahoihaaGreatDoor
