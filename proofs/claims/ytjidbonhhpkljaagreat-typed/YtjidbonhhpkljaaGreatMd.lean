/- What the proof stands on, in short names. -/
import Derived.Test.YtjidbonhhpkljaaGreatMc
import Derived.Deep.CutRange
set_option linter.all false
open Array renaming getD_eq_getD_getElem? → SH, getElem?_eq_some_iff → R9, length_toList → T5, replicate → S8
open Bool renaming and_eq_true → Sz, false → R6, false_eq_true → SD, or_eq_true → UU, true → R7
open False renaming elim → VP
open Go renaming Act → T6, Addr → SL, Calls → SF, Code → U7, Deferred → Uc, Ending → UQ, Frame → Sn, Func → UB, Item → UC, Obj → U9, Oper → Tx, Operand → S3, PanicEntry → Tv, Program → Sd, TypeId → Sg, TypeInfo → UL, Value → R2, World → R3, bodyPost → TT, execOp → SE, heap_alloc_new → T8, heap_setCell_other → Sv, heap_setCell_same → Sq, info_parts → TB, lt_of_block → Sf, maxLen → Sw, results → SX, typeInfo → UX, undef → Tq, wpList_append_fits → TJ, wpList_make_own → Ui, yielded → Tc, zeroValue → T9
open Go.Act renaming put → Sy
open Go.Addr renaming add → V8, add_lit → TW, add_mid → Vl
open Go.ByteArray renaming toList_eq → Vi
open Go.Conc renaming G → Se
open Go.Frame renaming enter → SW, finish_at → Vg
open Go.Instr renaming makeSlice → Vx
open Go.IntKind renaming i64 → Wb, u64 → Ud
open Go.Lib renaming size_eq → VB
open Go.Proofs.Tryz renaming f116 → TI, f117 → Vp, f78 → S0, f79 → Up, isAgg3 → V2, prog → RY, sizeOf3 → VD, underlying115 → Uu, underlying139 → T2, underlying160 → Uv, underlying43 → Vf
open Go.Region renaming binds → Tn, ready → SY, wanted → SI
open Go.Region.linearise renaming go → S5
open Go.RowKit renaming Below → Si, Hid → Sb, intOf → S2, wrap64 → Tw
open Go.RowKit.Below renaming heap_alloc → SP, refl → So
open Go.Sem renaming run_bind → Uz
open Go.Value renaming bool → UD, cells → Uw, int → T7, slice → Te
open Go.World renaming cell? → Sr, frozen? → S4, ownsRow_nil → Ur
open Go.World.grownBy renaming block → Um
open List renaming all_eq_true → SC, append_assoc → SG, append_nil → Uy, eq_nil_of_length_eq_zero → TA, flatMap_append → Tf, flatMap_cons → UF, flatMap_singleton → Ta, getD_eq_getElem?_getD → Sj, getElem?_append_left → Ty, getElem?_append_right → To, getElem?_eq_getElem → Sk, getElem?_eq_some_iff → SA, getElem?_take → T3, getElem_map → Vq, getElem_mem → Sl, getElem_of_mem → TK, length → Vn, length_append → Sc, length_cons → T0, length_drop → UN, length_eq_zero_iff → Ua, length_map → SV, length_take → TO, map_append → Tb, map_cons → U8, map_singleton → Ug, mem_append → S7, mem_cons → TE, mem_map → Tu, mem_of_mem_take → UO, mem_range → TC, not_mem_nil → Vr, range → SS, setIfInBounds_toArray → R1, set_cons_succ → R4, set_cons_zero → R5, take_append_drop → UG, take_length → Tk, take_of_length_le → Tj, take_succ_eq_append_getElem → Su
open List.cons renaming injEq → UW
open Nat renaming add_assoc → Td, le_refl → R8, le_trans → Ss, lt_of_lt_of_le → Sa, lt_or_ge → TF, mul_one → VO, pow_le_pow_right → Uf, pow_succ → UT, zero_add → SZ, zero_le → SK
open Option renaming bind_eq_some_iff → SR, map_eq_some_iff → Uh, none → RZ, some → RX
open Prod renaming fst → SB, snd → T4
set_option maxRecDepth 100000
set_option maxHeartbeats 8000000
namespace Go.Proofs.YtjidbonhhpkljaaGreat
namespace Ec
open Go.RowKit Pk Pm
def Hj(L:List az)(d:∀ x∈L,VK 2 x):(L.map az.n).map yQ=L:=by
 rw[List.map_map]
 conv=>rhs;rw[← List.map_id L]
 apply List.map_congr_left;intro x e;have a:=d x e;have b:=a.there;have c:=(a.s2 rfl).2;cases x;simp at b c;simp[yQ,b,c]
def qW(a:List Int):(a.map yQ).map az.n=a:=by
 rw[List.map_map]
 conv=>rhs;rw[← List.map_id a]
 rfl
def MQ(b:List Int)(h:kE b):∀ x∈b.map yQ,VK 2 x:=by
 intro x d;obtain⟨a,e,rfl⟩:=Tu.1 d;have c:=h a e;exact⟨rfl,by show _≤a;omega,by show a≤_;omega,fun h=>by omega,fun _=>⟨c,rfl⟩,fun h=>by omega⟩
def D5(L:List az)(a:∀ x∈L,VK 2 x):kE (L.map az.n):=by
 intro d c;obtain⟨x,b,rfl⟩:=Tu.1 c;exact((a x b).s2 rfl).1
def Reads(s:ByteArray)(r p cn:Nat)(k:Int)(E:List az→List Nat)(w:R3)(e:UQ)(w':R3):Prop:=Kp r w w'∧
 ((∃ (b:List az) (v:R2),e= .returned v∧b.length=cn∧(∀ c∈b,VK k c)∧ag (bytesOf s) p (E b)∧(∀ a:List az,a.length=cn→(∀ c∈a,VK k c)→ag (bytesOf s) p (E a)→a=b)∧p+(E b).length≤s.size∧
   w'.heap[r]? =RX (bg s (p+(E b).length))∧w'.ownsRow w.heap.size 59 3 v b.length (aC b))∨
  (∃ d,e= .panicked (dU d)∧∀ a:List az,a.length=cn→(∀ c∈a,VK k c)→¬ ag (bytesOf s) p (E a)))
theorem vp(k e:Int)(B:aY k e=R7)(s:ByteArray)(r p cn:Nat)(w:R3)(q:s.size≤Sw)(n:cn≤100)(u:p≤s.size)(h:w.heap[r]? =RX (bg s p)):
 SF (aa.of RY) 165 #[.pointer (RX ⟨r,0,RZ⟩),.int .i64 k,.int .i64 e,.int .i64 cn] w fun x w'=>Reads s r p cn k (cQ k e) w x w':=by
 obtain⟨H,Y⟩:=zN B;have ad:r<w.heap.size:=Sf h;have m:Sb (w.heap[r]? =RX (bg s p)):=h;clear h;rcases Y with rfl|rfl|rfl|rfl
 ·have g:∀ a,cQ k 0 a=aE k a:=fun a=>rfl;have f:Sb (cQ k 0=aE k):=funext g;clear g;go_enter aa.func165,Tryz.ntmps165
  go_wp2_with fail
  refine(qI k H s r p cn _ q n u m.out).mono ?_;intro x d l;have j:Sb (Reads s r p cn k (cQ k 0) w x d):=by
   show Reads _ _ _ _ _ _ _ _ _;rw[f.out];exact l
  rcases l with⟨c,⟨a,v,rfl,_⟩|⟨y,rfl,_⟩⟩
  ·clear c;go_wp2;go_ret;exact j.out
  ·clear c;go_wp2;exact⟨rfl,j.out⟩
 ·have C:k=1:=by simp[aY] at B;omega
  subst C;have g:∀ a,cQ 1 1 a=bM 0 a:=fun a=>rfl;have f:Sb (cQ 1 1=bM 0):=funext g;clear g;go_enter aa.func165,Tryz.ntmps165
  go_wp2_with fail
  refine(zm s r p cn _ q n u m.out).mono ?_;intro x d l;have j:Sb (Reads s r p cn 1 (cQ 1 1) w x d):=by
   show Reads _ _ _ _ _ _ _ _ _;rw[f.out];exact l
  rcases l with⟨c,⟨a,v,rfl,_⟩|⟨y,rfl,_⟩⟩
  ·clear c;go_wp2;go_ret;exact j.out
  ·clear c;go_wp2;exact⟨rfl,j.out⟩
 ·have g:∀ a,cQ k 2 a=dZ k a:=fun a=>rfl;have f:Sb (cQ k 2=dZ k):=funext g;clear g;go_enter aa.func165,Tryz.ntmps165
  go_wp2_with fail
  refine(Bq k H s r p cn _ q n u m.out).mono ?_;intro x d l;have j:Sb (Reads s r p cn k (cQ k 2) w x d):=by
   show Reads _ _ _ _ _ _ _ _ _;rw[f.out];exact l
  rcases l with⟨c,⟨a,v,rfl,_⟩|⟨y,rfl,_⟩⟩
  ·clear c;go_wp2;go_ret;exact j.out
  ·clear c;go_wp2;exact⟨rfl,j.out⟩
 ·have C:k=2:=by simp[aY] at B;omega
  subst C;have g:∀ a,cQ 2 3 a=bC (a.map az.n):=fun a=>rfl;have f:Sb (∀ a,cQ 2 3 a=bC (a.map az.n)):=g;clear g;go_enter aa.func165,Tryz.ntmps165
  go_wp2_with fail
  refine(si s r p cn _ q n u m.out).mono ?_;rintro x d ⟨c,⟨i,v,rfl,O,N,L,M,Z,F,J⟩|⟨y,rfl,I⟩⟩
  ·have z:Sb (Kp r w d):=c;have X:Sb (kE i):=N;have V:Sb (ag (bytesOf s) p (bC i)):=L;have W:Sb (∀ b:List Int,b.length=cn→kE b→ag (bytesOf s) p (bC b)→b=i):=M;have U:Sb (d.heap[r]? =RX (bg s (p+(bC i).length))):=F;have R:Sb (qx d v i):=qx.cy J;have E:Sb (i.length=cn):=O;have ab:=c.size;clear c N L M F J O m
   go_wp2_with fail
   refine(BT v i _ (by rw[E.out];exact n) R.out).mono ?_;rintro x Q ⟨G,P,rfl,K⟩;have D:Sb (Si d.heap.size d Q):=G;have T:Sb (Q.ownsRow d.heap.size 59 3 P i.length (aC (i.map yQ))):=K;clear G K;go_wp2;go_ret;refine⟨z.out.trans (Kp.bS D.out),.inl ⟨i.map yQ,P,rfl,by rw[SV];exact E.out,MQ i X.out,?_,?_,?_,?_,?_⟩⟩
   ·rw[f.out,qW];exact V.out
   ·intro b A t o;rw[f.out] at o;rw[← W.out (b.map az.n) (by rw[SV];exact A) (D5 b t) o,Hj b t]
   ·rw[f.out,qW];exact Z
   ·rw[f.out,qW,D.out.block r (by omega)];exact U.out
   ·rw[SV];exact bn T.out ab
  ·have S:Sb (∀ b:List az,b.length=cn→(∀ x∈b,VK 2 x)→¬ ag (bytesOf s) p (cQ 2 3 b)):=by
    intro b A t o;rw[f.out] at o;exact I (b.map az.n) (by rw[SV];exact A) (D5 b t) o
   have z:Sb (Kp r w d):=c;clear I c;go_wp2;exact⟨rfl,z.out,.inr ⟨y,rfl,S.out⟩⟩
def zW:az:=⟨R7,0,⟨#[]⟩⟩
structure JO(k:Int)(zs:List Int)(pres:List az)(j nx:Nat)(l:List az):Prop where
 lv:l.map mG=zs.take j
 th:there l=pres.take nx
 Q0:nx=ki (zs.take j)
 ok:∀ x∈l,VC k x
def IE(a:List Int)(j:Nat):ki (a.take j)≤ki a:=by
 unfold ki;exact((List.take_sublist j a).filter _).length_le
def yy(l:List az)(x:az):there (l ++ [x])=if x.null then there l else there l ++ [x]:=by
 unfold there;rw[List.filter_append];cases a:x.null<;>simp[a]
def JO.null{k:Int}{a:List Int}{f:List az}{j e:Nat}{l:List az}(h:JO k a f j e l)(i:kE a)(c:j<a.length)(d:a.getD j 0=0):JO k a f (j+1) e (l ++ [zW]):=by
 have g:=pO a i j c;rw[d] at g;refine⟨?_,?_,?_,?_⟩
 ·rw[Tb,h.lv,Su c,← eJ c,d];rfl
 ·rw[yy];exact h.th
 ·rw[h.Q0];omega
 ·intro n m;rcases S7.1 m with b|b
  ·exact h.ok n b
  ·simp at b;subst b;exact .inl ⟨rfl,rfl,rfl⟩
def JO.lt{k:Int}{a:List Int}{c:List az}{j e:Nat}{l:List az}(h:JO k a c j e l)(d:kE a)(b:j<a.length)(o:a.getD j 0≠0)(n:c.length=ki a):e<c.length:=by
 have g:=pO a d j b;have i:=IE a (j+1);have f:=d _ (Sl b);rw[← eJ b] at f;have m:=h.Q0;omega
theorem JO.one{k:Int}{a:List Int}{d:List az}{j c:Nat}{l:List az}(h:JO k a d j c l)(i:kE a)(b:j<a.length)(r:a.getD j 0≠0)(o:c<d.length)(f:VK k d[c]):JO k a d (j+1) (c+1) (l ++ [d[c]]):=by
 have m:=pO a i j b;have n:=i _ (Sl b);rw[← eJ b] at n;have g:a.getD j 0=1:=by omega
 rw[g] at m;refine⟨?_,?_,?_,?_⟩
 ·rw[Tb,h.lv,Su b,← eJ b,g];congr 1;simp[mG,f.there]
 ·rw[yy,f.there,h.th,Su o];rfl
 ·rw[h.Q0];omega
 ·intro q p;rcases S7.1 p with e|e
  ·exact h.ok q e
  ·simp at e;subst e;exact .inr f
theorem xO(k e:Int)(c0:aY k e=R7)(s:ByteArray)(r p cn:Nat)(w:R3)(bl:s.size≤Sw)(cR:cn≤100)(c5:p≤s.size)(h:w.heap[r]? =RX (bg s p)):
 SF (aa.of RY) 156 #[.pointer (RX ⟨r,0,RZ⟩),.int .i64 k,.int .i64 e,.int .i64 cn] w fun x w'=>Kp r w w'∧
  ((∃ (l:List az) (v:R2),x= .returned v∧l.length=cn∧(∀ x∈l,VC k x)∧ag (bytesOf s) p (aX k e l)∧(∀ L:List az,L.length=cn→(∀ x∈L,VC k x)→ag (bytesOf s) p (aX k e L)→L=l)∧p+(aX k e l).length≤s.size∧
    w'.heap[r]? =RX (bg s (p+(aX k e l).length))∧w'.ownsRow w.heap.size 59 3 v l.length (aC l))∨
   (∃ q,x= .panicked (dU q)∧∀ L:List az,L.length=cn→(∀ x∈L,VC k x)→¬ ag (bytesOf s) p (aX k e L))):=by
 obtain⟨am,Y,c9,ad,da⟩:=TB aa.oU;have c6:r<w.heap.size:=Sf h;have a6:Sb (w.heap[r]? =RX (bg s p)):=h;clear h;go_enter aa.func156,Tryz.ntmps156
 go_wp2_with fail
 refine(si s r p cn _ bl cR c5 a6.out).mono ?_;rintro x H ⟨z,⟨b,v,rfl,b4,ae,bu,bB,c2,W,ab⟩|⟨q,rfl,C⟩⟩
 ·have o:Sb (Kp r w H):=z;have K:Sb (kE b):=ae;have ck:Sb (ag (bytesOf s) p (bC b)):=bu;have a8:Sb (∀ L:List Int,L.length=cn→kE L→ag (bytesOf s) p (bC L)→L=b):=bB;have a7:Sb (H.heap[r]? =RX (bg s (p+(bC b).length))):=W;have a4:Sb (H.ownsRow w.heap.size 3 1 v b.length (aW b)):=ab;have a1:Sb (qx H v b):=qx.cy ab;have t:Sb (b.length=cn):=b4;have du:=z.size;have c4:ki b≤100:=by have:=GA b;omega
  have aw:Sb (∀ w,qx w v b→SF (aa.of RY) 166 #[v] w fun e w'=>e= .returned (.int .i64 ((ki b:Nat):Int))∧w'=w):=fun w h=>yY v b w (by omega) ae h;have dt:=Sf W;clear z ae bu bB W ab b4 a6
  go_wp2_with (go_at_call 166;refine(aw.out _ a1.out).mono ?_;rintro x w' ⟨rfl,b2⟩;rw[b2];clear b2 w')
  refine(vp k e c0 s r (p+(bC b).length) (ki b) _ bl c4 c2 a7.out).mono ?_;rintro x c ⟨A,⟨f,dE,rfl,bt,bs,bv,b0,bi,bd,bo⟩|⟨q,rfl,C⟩⟩
  ·have J:Sb (Kp r w c):=o.out.trans A;have ch:Sb (∀ x∈f,VK k x):=bs;have cl:Sb (ag (bytesOf s) (p+(bC b).length) (cQ k e f)):=bv;have co:Sb (∀ L:List az,L.length=ki b→(∀ x∈L,VK k x)→ag (bytesOf s) (p+(bC b).length) (cQ k e L)→L=f):=b0;have ci:Sb (c.heap[r]? =RX (bg s (p+(bC b).length+(cQ k e f).length))):=bd;have a5:Sb (f.length=ki b):=bt;obtain⟨dv,N,O,dC,rfl,ca,cb,cc⟩:=qx.cy (A.own a4.out c6);have a0:Sb (∀ a,a<b.length→c.cell? ⟨N,O+a,RZ⟩=RX (.int .i64 (b.getD a 0))):=cc;obtain⟨cs,cu,dd,dq,rfl,b1⟩:=qV.cy bo;have cp:Sb (sM c cs cu dd f):=b1;have c7:=J.out.size;have c3:p+(bC b).length+(cQ k e f).length≤s.size:=bi;clear A bs bv b0 bd bt bo cc b1 a4 a1 o a7 aw bi;rw[t.out] at ca cb;have cf:Sb (∀ a,a<cn→c.cell? ⟨N,O+a,RZ⟩=RX (.int .i64 (b.getD a 0))):=by
    have:=a0.out;rw[t.out] at this;exact this
   clear a0;rw[t.out]
   go_wp2_with (at_make;refine Ui _ rfl _ _ 43 rfl c.heap.size 59 am _ 3 aa.underlying43 Y c9 ad .i64 .i64 _ cn rfl rfl rfl (by rw[da];omega) (by unfold Sw;omega) (R8 _) ?_;intro dp br be)
   have ar:Sb (Si c.heap.size c dp):=(So _ _).grown be (R8 _) (by simp);clear be
   go_loopw [11,12,28] (fun db dc al wr=>∃ (a d:Nat) (l:List az),a≤cn∧d≤a∧al= .int .i64 (a:Int)∧dc= .int .i64 (d:Int)∧db= .slice (RX ⟨c.heap.size,0,RZ⟩) a cn∧JO k b f a d l∧wr.ownsRow c.heap.size 59 3 (.slice (RX ⟨c.heap.size,0,RZ⟩) a cn) a (aC l)∧Si c.heap.size c wr) (fun _ _ al _=>cn - (S2 al).toNat)
   case atStart=>exact⟨0,0,[],SK _,R8 _,rfl,rfl,rfl,⟨rfl,rfl,rfl,fun x c8=>by simp at c8⟩,by simpa [aC] using br,ar.out⟩
   case round=>
    clear br ar;obtain⟨a,d,l,dr,ds,rfl,rfl,rfl,bc,E,U⟩:=hrel;have i:Sb (Si c.heap.size c wr):=U;have j:Sb (JO k b f a d l):=bc;have bx:=U.size;clear U bc;by_cases bj:a<cn
    ·have n:a<b.length:=by rw[t.out];exact bj
     obtain rfl:=ca (by omega);have c1:=cb (by omega);have M:wr.cell? ⟨N,O+a,RZ⟩=RX (.int .i64 (b.getD a 0)):=(i.out.cell (p:=⟨N,O+a,RZ⟩) c1).trans (cf.out a bj);by_cases u:b.getD a 0=0
     ·have Q:Sb (JO k b f (a+1) d (l ++ [zW])):=j.out.null K.out n u;rw[u] at M;have S:Sb (aC l ++ [.bool R7,.int .i64 0,.string ⟨#[]⟩]=aC (l ++ [zW])):=ew l zW;clear u n
      go_wp2_with (at_builtin;refine TJ _ rfl _ _ 43 rfl c.heap.size 59 am 3 aa.underlying43 Y ad c.heap.size a cn _ rfl (E.alloc _) ⟨wr.heap.size,0,RZ⟩ 1 1 [.bool R7,.int .i64 0,.string ⟨#[]⟩] rfl rfl (by exact js _ _ _ _ _) (gT zW) (by omega) ?_;intro ao F B)
      have P:Sb (Si c.heap.size c ao):=(i.out.alloc bx _).grown B (by simp;omega) (by intro cv X;simp at X;omega);rw[S.out] at F;clear E B i M;refine⟨⟨a+1,d,l ++ [zW],by omega,by omega,by go_num,rfl,rfl,Q.out,F,P.out⟩,by simp[S2];omega⟩
     ·have D:=j.out.lt K.out n u a5.out;have b3:b.getD a 0=1:=by
       have cx:=K.out _ (Sl n);rw[← eJ n] at cx;omega
      have Q:Sb (JO k b f (a+1) (d+1) (l ++ [f[d]])):=j.out.one K.out n u D (ch.out _ (Sl D));rw[b3] at M;have G:=cp.out.below i.out;obtain rfl:=G.addr (by omega);have df:=G.c0 d D;have dk:=G.c1 d D;have dl:=G.c2 d D;have S:Sb (aC l ++ [.bool f[d].null,.int .i64 f[d].n,.string f[d].s]=aC (l ++ [f[d]])):=ew l _;clear u b3 n G;generalize f[d]=I at*
      go_wp2_with (at_builtin;refine TJ _ rfl _ _ 43 rfl c.heap.size 59 am 3 aa.underlying43 Y ad c.heap.size a cn _ rfl (E.alloc _) ⟨wr.heap.size,0,RZ⟩ 1 1 [.bool I.null,.int .i64 I.n,.string I.s] rfl rfl (by exact js _ _ _ _ _) (gT I) (by omega) ?_;intro ao F B)
      have P:Sb (Si c.heap.size c ao):=(i.out.alloc bx _).grown B (by simp;omega) (by intro cv X;simp at X;omega);rw[S.out] at F;clear E B i M df dk dl;refine⟨⟨a+1,d+1,l ++ [I],by omega,by omega,by go_num,by go_num,rfl,Q.out,F,P.out⟩,by simp[S2];omega⟩
    ·obtain rfl:a=cn:=by omega
     have bA:b.take a=b:=Tj (by rw[t.out];omega);have m:=j.out.lv;have y:=j.out.th;have T:=j.out.Q0;rw[bA] at m T;rw[T,← a5.out,Tk] at y;have Z:l.length=a:=by rw[← t.out,← m,SV]
     obtain⟨ba,bb⟩:=Cs (k:=k) (e:=e) (s:=s) (p:=p) (cn:=a) (l:=l) Z j.out.ok (by rw[m];exact ck.out) (by rw[m];exact a8.out) (by rw[m,y];exact cl.out) (by rw[m,y];exact co.out);have cd:Sb (ag (bytesOf s) p (aX k e l)):=ba;have ce:Sb (∀ L:List az,L.length=a→(∀ x∈L,VC k x)→ag (bytesOf s) p (aX k e L)→L=l):=bb;have a3:Sb (p+(aX k e l).length=p+(bC b).length+(cQ k e f).length):=by
      show _=_;unfold aX;rw[Sc,m,y,Td]
     have a2:Sb (l.length=a):=Z;clear ba bb m y T bA Z;go_wp2;go_ret;exact⟨J.out.trans (Kp.bS i.out),.inl ⟨l,_,rfl,a2.out,j.out.ok,cd.out,ce.out,by rw[a3.out];exact c3,by rw[a3.out,i.out.block r (by omega)];exact ci.out,by rw[a2.out];exact bn E c7⟩⟩
  ·have R:Sb (∀ L:List az,L.length=cn→(∀ x∈L,VC k x)→¬ ag (bytesOf s) p (aX k e L)):=by
    intro L V bm g;unfold aX at g;rw[an] at g;have a9:=a8.out (L.map mG) (by rw[SV];exact V) (xj L) g.1;rw[a9] at g;exact C (there L) (by rw[yx,a9]) (DX bm) g.2
   have J:Sb (Kp r w c):=o.out.trans A;clear C A o;go_wp2;exact⟨rfl,J.out,.inr ⟨q,rfl,R.out⟩⟩
 ·have R:Sb (∀ L:List az,L.length=cn→(∀ x∈L,VC k x)→¬ ag (bytesOf s) p (aX k e L)):=by
   intro L V bm g;unfold aX at g;rw[an] at g;exact C (L.map mG) (by rw[SV];exact V) (xj L) g.1
  have o:Sb (Kp r w H):=z;clear C z;go_wp2;exact⟨rfl,o.out,.inr ⟨q,rfl,R.out⟩⟩
end Ec
namespace Pk
open Go.RowKit Pm
def BM(w:R3)(a b c:U9):(((w.alloc a).alloc b).alloc c).heap[w.heap.size]? =RX a:=by
 rw[SP _ _ _ (by simp;omega),SP _ _ _ (by simp)];exact T8 w a
def BN(w:R3)(a b c:U9):(((w.alloc a).alloc b).alloc c).heap[w.heap.size+1]? =RX b:=by
 rw[SP _ _ _ (by simp)];have:=T8 (w.alloc a) b;rwa [show(w.alloc a).heap.size=w.heap.size+1 from by simp] at this
def BO(w:R3)(a b c:U9):(((w.alloc a).alloc b).alloc c).heap[w.heap.size+1+1]? =RX c:=by
 have:=T8 ((w.alloc a).alloc b) c;rwa [show((w.alloc a).alloc b).heap.size=w.heap.size+1+1 from by simp] at this
end Pk
namespace Ec
open Go.RowKit Pk Pm
def cS{w:R3}{g:Nat}{v:R2}{t:Sg}(h:w.heap[g]? =RX (.cells #[v] t (0,0))):w.cell? ⟨g,0,RZ⟩=RX v∧w.frozen? ⟨g,0,RZ⟩=R6:=by
 constructor
 ·simp[Sr,h]
 ·simp[S4,h]
def rY{w:R3}{g:Nat}{v:R2}(u:R2){t:Sg}(h:w.heap[g]? =RX (.cells #[v] t (0,0))):(w.setCell ⟨g,0,RZ⟩ u).heap[g]? =RX (.cells #[u] t (0,0)):=by
 rw[Sq w g 0 _ _ _ h];rfl
theorem tc(a b:SL)(m l:R2)(u:Sg)(d:R2)(c:List Tv)(w:R3)(h:w.cell? a=RX m)(i:w.frozen? a=R6)
 (f:(w.setCell a (.slice RZ 0 0)).cell? b=RX l) (g:(w.setCell a (.slice RZ 0 0)).frozen? b=R6):
 CallsD (aa.of RY) 169 #[.pointer (RX a),.pointer (RX b)] (.panicking ({v:=.iface u d,recovered:=R6} :: c)) w fun e k w'=>
  e= .returned (.tuple #[])∧k= .panicking ({v:=.iface u d,recovered:=R7} :: c)∧w'=(w.setCell a (.slice RZ 0 0)).setCell b (.bool R6):=by
 refine callsD_of_wpS aa.func169 rfl fun o n j=>?_;apply wpS_seq;apply wpS_region;simp[wpOpsS,go_sem,recoverD,j,Tryz.ntmps169,Exit.thenS];refine wpS_cond (t:=R7) (by simp[Act.eval,S8]) ?_;simp only[if_true];apply wpS_seq;apply wpS_region;simp[wpOpsS,go_sem,Exit.thenS];apply wpS_region;simp[wpOpsS,go_sem,h,i,f,g,bodyPostS,SX,Tryz.results169]
theorem Cn(d c:SL)(w:R3):
 CallsD (aa.of RY) 169 #[.pointer (RX d),.pointer (RX c)] .returning w fun e f w'=>e= .returned (.tuple #[])∧f= .returning∧w'=w:=by
 refine callsD_of_wpS aa.func169 rfl fun a g b=>?_;apply wpS_seq;apply wpS_region;simp[wpOpsS,go_sem,recoverD,b,Tryz.ntmps169,Exit.thenS];refine wpS_cond (t:=R6) (by simp[Act.eval,S8]) ?_;simp only[SD,if_false];refine wpS_of_wp (wp_skip ?_);cases a;simp_all [bodyPostS,SX,Tryz.results169]
theorem zK{w w4:R3}{v:R2}{d b:Sg}{v2:R2}(q:Nat)(hL:w4.heap[w.heap.size]? =RX (.cells #[v] d (0,0)))(c:w4.heap[w.heap.size+1]? =RX (.cells #[v2] b (0,0))):
 CallsD (aa.of RY) 169 #[.pointer (RX ⟨w.heap.size,0,RZ⟩),.pointer (RX ⟨w.heap.size+1,0,RZ⟩)] (.panicking (dU q)) w4 fun e f w'=>
  e= .returned (.tuple #[])∧f= .panicking [{v:=.iface 205 (.agg #[.int .i64 (q:Int)]),recovered:=R7}]∧w'=(w4.setCell ⟨w.heap.size,0,RZ⟩ (.slice RZ 0 0)).setCell ⟨w.heap.size+1,0,RZ⟩ (.bool R6):=by
 have a:(w4.setCell ⟨w.heap.size,0,RZ⟩ (.slice RZ 0 0)).heap[w.heap.size+1]? =RX (.cells #[v2] b (0,0)):=by
  rw[Sv _ _ _ _ (by simp)];exact c
 exact tc _ _ _ _ _ _ [] w4 (cS hL).1 (cS hL).2 (cS a).1 (cS a).2
def uh{w w4:R3}{v v2:R2}{b c:Sg}(u1 u2:R2)(hL:w4.heap[w.heap.size]? =RX (.cells #[v] b (0,0)))(g:w4.heap[w.heap.size+1]? =RX (.cells #[v2] c (0,0)))(f:Si w.heap.size w w4):
 let a:=(w4.setCell ⟨w.heap.size,0,RZ⟩ u1).setCell ⟨w.heap.size+1,0,RZ⟩ u2
 a.cell? ⟨w.heap.size,0,RZ⟩=RX u1∧a.cell? ⟨w.heap.size+1,0,RZ⟩=RX u2∧Si w.heap.size w a:=by
 have d:=rY u1 hL;have e:(w4.setCell ⟨w.heap.size,0,RZ⟩ u1).heap[w.heap.size+1]? =RX (.cells #[v2] c (0,0)):=by
  rw[Sv _ _ _ _ (by simp)];exact g
 refine⟨?_,(cS (rY u2 e)).1,?_⟩
 ·refine(cS (t:=b) ?_).1;rw[Sv _ _ _ _ (by simp)];exact d
 ·exact(f.setCell (R8 _) _).setCell (Nat.le_succ _) _
theorem F5(c1 c2 L:R2)(s:ByteArray)(w:R3)(U:s.size≤Sw)(g j:Nat)(Q:Nat→List R2→Nat→Prop)(N:Prop)
 (S:∀ (k:R3) (r:Nat),Si w.heap.size w k→r=w.heap.size+1+1→k.heap[r]? =RX (bg s 0)→SF (aa.of RY) 155 #[.pointer (RX ⟨r,0,RZ⟩),c1,c2,L] k fun e w'=>Kp r k w'∧
   ((∃ v n d q,e= .returned v∧w'.heap[r]? =RX (bg s q)∧q≤s.size∧w'.ownsRow k.heap.size g j v n d∧Q n d q)∨(∃ q,e= .panicked (dU q)∧N))):
 SF (aa.of RY) 163 #[.string s,.func (.func 155) #[] #[c1,c2,L]] w fun e w'=>Si w.heap.size w w'∧
  ((∃ v n d,e= .returned (.tuple #[v,.bool R7])∧w'.ownsRow w.heap.size g j v n d∧Q n d s.size)∨(e= .returned (.tuple #[.slice RZ 0 0,.bool R6])∧(N∨∃ n d q,Q n d q∧q<s.size))):=by
 have Y:Sb _:=S;clear S;have a2:∀ (M:Fn) (first a:Array R2) (w:R3),(Instr.makeFunc M first a).run (aa.of RY) w= .ok (.func M first a) w:=fun _ _ _ _=>rfl
 go_enter_defers aa.func163,Tryz.ntmps163
 go_wp2_with (go_at_call 65;refine(mT s _).mono ?_;rintro e w' ⟨rfl,rfl⟩)
 have A:(((w.alloc (.cells #[.slice RZ 0 0] 43)).alloc (.cells #[.bool R6] 4)).alloc (bg s 0)).heap[w.heap.size]? =RX (.cells #[.slice RZ 0 0] 43 (0,0)):=BM _ _ _ _;have y:(((w.alloc (.cells #[.slice RZ 0 0] 43)).alloc (.cells #[.bool R6] 4)).alloc (bg s 0)).heap[w.heap.size+1]? =RX (.cells #[.bool R6] 4 (0,0)):=BN _ _ _ _;have F:(((w.alloc (.cells #[.slice RZ 0 0] 43)).alloc (.cells #[.bool R6] 4)).alloc (bg s 0)).heap[w.heap.size+1+1]? =RX (bg s 0):=BO _ _ _ _;have R:(((w.alloc (.cells #[.slice RZ 0 0] 43)).alloc (.cells #[.bool R6] 4)).alloc (bg s 0)).heap.size=w.heap.size+3:=by simp
 have t:Si w.heap.size w (((w.alloc (.cells #[.slice RZ 0 0] 43)).alloc (.cells #[.bool R6] 4)).alloc (bg s 0)):=(((So _ _).alloc (R8 _) _).alloc (by simp) _).alloc (by simp;omega) _;generalize (((w.alloc (.cells #[.slice RZ 0 0] 43)).alloc (.cells #[.bool R6] 4)).alloc (bg s 0))=D at*;refine(Y.out D (w.heap.size+1+1) t rfl F).mono ?_;rintro e c ⟨f,⟨v,n,d,q,rfl,P,a3,u,O⟩|⟨q,rfl,ab⟩⟩
 ·have i:c.heap[w.heap.size]? =RX (.cells #[.slice RZ 0 0] 43 (0,0)):=Kp.block f A (by omega);have h:c.heap[w.heap.size+1]? =RX (.cells #[.bool R6] 4 (0,0)):=Kp.block f y (by omega);have x:Si w.heap.size w c:=t.trans ((f.below (by omega)).mono (by omega));have V:v.ownBlock≠RX w.heap.size∧v.ownBlock≠RX (w.heap.size+1):=⟨fun e=>by have:=(u.lt _ e).1;omega,fun e=>by have:=(u.lt _ e).1;omega⟩;obtain⟨b,a,am⟩:=zY u;subst am;have Z:Sb (c.ownsRow w.heap.size g j (.slice b n a) n d):=bn u (by omega);have C:Sb _:=V;have J:Sb (Q n d q):=O;obtain⟨aw,a1⟩:=cS i;obtain⟨ar,a0⟩:=cS h;have I:Sb _:=i;have H:Sb _:=h;have G:Sb _:=x;have K:Sb (c.heap[w.heap.size+1+1]? =RX (bg s q)):=P;clear A y F R t i h f P u O x V;clear D;by_cases T:q<s.size
  ·go_wp2_with (go_at_call 93;refine(AY (w.heap.size+1+1) q s _ U T (by rw[Sv _ _ _ _ (by simp;omega)];exact K.out)).mono ?_;rintro e w' ⟨rfl,m,rfl⟩)
   have B:((c.setCell ⟨w.heap.size,0,RZ⟩ (.slice b n a)).drewN m).heap[w.heap.size]? =RX (.cells #[.slice b n a] 43 (0,0)):=rY _ I.out;have z:((c.setCell ⟨w.heap.size,0,RZ⟩ (.slice b n a)).drewN m).heap[w.heap.size+1]? =RX (.cells #[.bool R6] 4 (0,0)):=by
    show(c.setCell ⟨w.heap.size,0,RZ⟩ (.slice b n a)).heap[w.heap.size+1]? =_;rw[Sv _ _ _ _ (by simp)];exact H.out
   have E:=below_drewN (G.out.setCell (p:=⟨w.heap.size,0,RZ⟩) (R8 _) (.slice b n a)) m;generalize (c.setCell ⟨w.heap.size,0,RZ⟩ (.slice b n a)).drewN m=a4 at*;obtain⟨l,o,p⟩:=uh (.slice RZ 0 0) (.bool R6) B z E;refine leaves_cons (f:=169) (args:= #[.pointer (RX ⟨w.heap.size,0,RZ⟩),.pointer (RX ⟨w.heap.size+1,0,RZ⟩)]) (by simp) (by simp[go_sem]) ?_;refine(zK _ B z).mono ?_;rintro e W X ⟨rfl,rfl,rfl⟩;simp[Leaves,settle,SX,Tryz.results163,go_sem,l,o];exact⟨p,.inr ⟨n,d,q,J.out,T⟩⟩
  ·obtain rfl:q=s.size:=by omega
   go_wp2_with (go_at_call 93;refine(EL (w.heap.size+1+1) s.size s _ U (by omega) (by rw[Sv _ _ _ _ (by simp;omega)];exact K.out)).mono ?_;rintro e w' ⟨rfl,m,rfl⟩)
   have B:((c.setCell ⟨w.heap.size,0,RZ⟩ (.slice b n a)).drewN m).heap[w.heap.size]? =RX (.cells #[.slice b n a] 43 (0,0)):=rY _ I.out;have z:((c.setCell ⟨w.heap.size,0,RZ⟩ (.slice b n a)).drewN m).heap[w.heap.size+1]? =RX (.cells #[.bool R6] 4 (0,0)):=by
    show(c.setCell ⟨w.heap.size,0,RZ⟩ (.slice b n a)).heap[w.heap.size+1]? =_;rw[Sv _ _ _ _ (by simp)];exact H.out
   have E:=below_drewN (G.out.setCell (p:=⟨w.heap.size,0,RZ⟩) (R8 _) (.slice b n a)) m;have ad:((c.setCell ⟨w.heap.size,0,RZ⟩ (.slice b n a)).drewN m).ownsRow w.heap.size g j (.slice b n a) n d:=qF (ownsRow_setCell_other Z.out C.out.1 _) m;have ae:(((c.setCell ⟨w.heap.size,0,RZ⟩ (.slice b n a)).drewN m).setCell ⟨w.heap.size,0,RZ⟩ (.slice b n a)).ownsRow w.heap.size g j (.slice b n a) n d:=ownsRow_setCell_other ad C.out.1 _;have al:((((c.setCell ⟨w.heap.size,0,RZ⟩ (.slice b n a)).drewN m).setCell ⟨w.heap.size,0,RZ⟩ (.slice b n a)).setCell ⟨w.heap.size+1,0,RZ⟩ (.bool R7)).ownsRow w.heap.size g j (.slice b n a) n d:=ownsRow_setCell_other ae C.out.2 _;obtain⟨l,o,p⟩:=uh (.slice b n a) (.bool R7) B z E;generalize (((c.setCell ⟨w.heap.size,0,RZ⟩ (.slice b n a)).drewN m).setCell ⟨w.heap.size,0,RZ⟩ (.slice b n a)).setCell ⟨w.heap.size+1,0,RZ⟩ (.bool R7)=ao at*;refine leaves_cons (f:=169) (args:= #[.pointer (RX ⟨w.heap.size,0,RZ⟩),.pointer (RX ⟨w.heap.size+1,0,RZ⟩)]) (by simp) (by simp[go_sem]) ?_;refine(Cn ⟨w.heap.size,0,RZ⟩ ⟨w.heap.size+1,0,RZ⟩ _).mono ?_;rintro e W X ⟨rfl,rfl,rfl⟩;simp[Leaves,settle,SX,Tryz.results163,go_sem,l,o];exact⟨p,n,d,al,J.out⟩
 ·have i:c.heap[w.heap.size]? =RX (.cells #[.slice RZ 0 0] 43 (0,0)):=Kp.block f A (by omega);have h:c.heap[w.heap.size+1]? =RX (.cells #[.bool R6] 4 (0,0)):=Kp.block f y (by omega);have x:Si w.heap.size w c:=t.trans ((f.below (by omega)).mono (by omega));clear A y F R t f;clear D;obtain⟨l,o,p⟩:=uh (.slice RZ 0 0) (.bool R6) i h x;refine leaves_cons (f:=169) (args:= #[.pointer (RX ⟨w.heap.size,0,RZ⟩),.pointer (RX ⟨w.heap.size+1,0,RZ⟩)]) (by simp) (by simp[go_sem]) ?_;refine(zK _ i h).mono ?_;rintro e W X ⟨rfl,rfl,rfl⟩;simp[Leaves,settle,SX,Tryz.results163,go_sem,l,o];exact⟨p,.inl ab⟩
theorem Cz(k e:Int)(M:aY k e=R7)(s:ByteArray)(r cn x y z:Nat)(w:R3)(N:s.size≤Sw)(K:cn≤100)(h:w.heap[r]? =RX (bg s 0))
 (u:w.cell? ⟨x,0,RZ⟩=RX (.int .i64 k)) (A:w.cell? ⟨y,0,RZ⟩=RX (.int .i64 e)) (B:w.cell? ⟨z,0,RZ⟩=RX (.int .i64 cn)):
 SF (aa.of RY) 155 #[.pointer (RX ⟨r,0,RZ⟩),.pointer (RX ⟨x,0,RZ⟩),.pointer (RX ⟨y,0,RZ⟩),.pointer (RX ⟨z,0,RZ⟩)] w fun f w'=>Kp r w w'∧
  ((∃ v n C q,f= .returned v∧w'.heap[r]? =RX (bg s q)∧q≤s.size∧w'.ownsRow w.heap.size 59 3 v n C∧
    (∃ l:List az,n=cn∧l.length=cn∧C=aC l∧q=(aX k e l).length∧(∀ x∈l,VC k x)∧ag (bytesOf s) 0 (aX k e l)∧∀ L:List az,L.length=cn→(∀ x∈L,VC k x)→ag (bytesOf s) 0 (aX k e L)→L=l))∨
   (∃ q,f= .panicked (dU q)∧∀ L:List az,L.length=cn→(∀ x∈L,VC k x)→¬ ag (bytesOf s) 0 (aX k e L))):=by
 have G:Sb (w.heap[r]? =RX (bg s 0)):=h;clear h;go_enter aa.func155,Tryz.ntmps155
 go_wp2_with fail
 refine(xO k e M s r 0 cn _ N K (SK _) G.out).mono ?_;rintro f b ⟨a,⟨l,v,rfl,i,m,p,t,O,g,o⟩|⟨q,rfl,j⟩⟩
 ·have c:Sb (Kp r w b):=a;have d:Sb (l.length=cn):=i;have F:Sb (∀ x∈l,VC k x):=m;have I:Sb (ag (bytesOf s) 0 (aX k e l)):=p;have J:Sb (∀ L:List az,L.length=cn→(∀ x∈L,VC k x)→ag (bytesOf s) 0 (aX k e L)→L=l):=t;have H:Sb (b.heap[r]? =RX (bg s (0+(aX k e l).length))):=g;have E:Sb (b.ownsRow w.heap.size 59 3 v l.length (aC l)):=o;clear a i m p t g o u A B;go_wp2;go_ret;refine⟨c.out,.inl ⟨v,cn,aC l,(aX k e l).length,rfl,by simpa using H.out,by omega,by rw[← d.out];exact E.out,l,rfl,d.out,rfl,rfl,F.out,I.out,J.out⟩⟩
 ·have c:Sb (Kp r w b):=a;have D:Sb _:=j;clear a j u A B;go_wp2;exact⟨rfl,c.out,.inr ⟨q,rfl,D.out⟩⟩
theorem xS(c1 c2 h:R2)(s:ByteArray)(w:R3)(u:s.size≤Sw)(c f:Nat)(Q:Nat→List R2→Nat→Prop)(N:Prop)
 (k:∀ (b:R3) (r:Nat),Si w.heap.size w b→r=w.heap.size+1+1→b.heap[r]? =RX (bg s 0)→SF (aa.of RY) 155 #[.pointer (RX ⟨r,0,RZ⟩),c1,c2,h] b fun e w'=>Kp r b w'∧
   ((∃ v n a q,e= .returned v∧w'.heap[r]? =RX (bg s q)∧q≤s.size∧w'.ownsRow b.heap.size c f v n a∧Q n a q)∨(∃ q,e= .panicked (dU q)∧N))):
 SF (aa.of RY) 154 #[.string s,.func (.func 155) #[] #[c1,c2,h]] w fun e w'=>Si w.heap.size w w'∧
  ((∃ v n a,e= .returned (.tuple #[v,.int .i64 0])∧w'.ownsRow w.heap.size c f v n a∧Q n a s.size)∨(e= .returned (.tuple #[.slice RZ 0 0,.int .i64 3])∧(N∨∃ n a q,Q n a q∧q<s.size))):=by
 have m:Sb _:=k;clear k;go_enter aa.func154,Tryz.ntmps154
 go_wp2_with fail
 refine(F5 c1 c2 h s w u c f Q N m.out).mono ?_;rintro e x ⟨d,⟨v,n,a,rfl,l,j⟩|⟨rfl,i⟩⟩
 ·have g:Sb _:=d;have p:Sb (x.ownsRow w.heap.size c f v n a):=l;have t:Sb (Q n a s.size):=j;clear d l j;go_wp2
  go_ret2
  exact⟨g.out,.inl ⟨v,n,a,rfl,p.out,t.out⟩⟩
 ·have g:Sb _:=d;have o:Sb _:=i;clear d i;go_wp2
  go_ret2
  exact⟨g.out,.inr ⟨rfl,o.out⟩⟩
structure rC(s:ByteArray)(k e:Int)(cn:Nat)(l:List az):Prop where
 len:l.length=cn
 ok:∀ x∈l,VC k x
 eq:aX k e l=bytesOf s
 GW:∀ L:List az,L.length=cn→(∀ x∈L,VC k x)→ag (bytesOf s) 0 (aX k e L)→L=l
def vV (s:ByteArray)(k e:Int)(cn:Nat):Prop:=∀ a:List az,a.length=cn→(∀ b∈a,VC k b)→aX k e a≠bytesOf s
def Hu(cn k e:Int):iy cn k e≠0∨(iy cn k e=0∧aY k e=R7∧∃ c:Nat,cn=(c:Int)∧c≤100):=by
 unfold iy;by_cases a:cn<0∨100<cn
 ·left;rw[if_pos a];omega
 ·rw[if_neg a];cases b:aY k e with
  |false=>left;simp
  |true=>right;exact⟨by simp,rfl,cn.toNat,by omega,by omega⟩
def OY(w:R3)(a b c:U9):(((w.alloc a).alloc b).alloc c).heap.size=w.heap.size+3:=by simp
theorem oM(s:ByteArray)(k e cn:Int)(w:R3)(N:s.size≤Sw):
 SF (aa.of RY) 139 #[.string s,.int .i64 k,.int .i64 e,.int .i64 cn] w fun f w'=>Si w.heap.size w w'∧
  ((iy cn k e≠0∧f= .returned (.tuple #[.slice RZ 0 0,.int .i64 (iy cn k e)]))∨
   (∃ c:Nat,cn=(c:Int)∧c≤100∧iy cn k e=0∧aY k e=R7∧((∃ v l,f= .returned (.tuple #[v,.int .i64 0])∧w'.ownsRow w.heap.size 59 3 v l.length (aC l)∧rC s k e c l)∨(f= .returned (.tuple #[.slice RZ 0 0,.int .i64 3])∧vV s k e c)))):=by
 have K:Si w.heap.size w (((w.alloc (.cells #[.int .i64 k] 3)).alloc (.cells #[.int .i64 e] 3)).alloc (.cells #[.int .i64 cn] 3)):=(((So _ _).alloc (R8 _) _).alloc (by simp) _).alloc (by simp;omega) _;have p:Sb _:=K;have n:=oo cn k e;have al:∀ (J:Fn) (first I:Array R2) (w:R3),(Instr.makeFunc J first I).run (aa.of RY) w= .ok (.func J first I) w:=fun _ _ _ _=>rfl;clear K;rcases Hu cn k e with O|⟨t,M,c,rfl,u⟩
 ·generalize iy cn k e=U at*;have ad:(U != 0)=R7:=by simpa using O
  go_enter aa.func139,Tryz.ntmps139
  go_wp2_with (go_at_call 123;refine(n _).mono ?_;rintro B w' ⟨rfl,rfl⟩)
  go_ret2
  exact⟨p.out,.inl ⟨O,rfl⟩⟩
 ·rw[t] at n;have F:=(cS (BM w (.cells #[.int .i64 k] 3 (0,0)) (.cells #[.int .i64 e] 3 (0,0)) (.cells #[.int .i64 (c:Int)] 3 (0,0)))).1;have G:=(cS (BN w (.cells #[.int .i64 k] 3 (0,0)) (.cells #[.int .i64 e] 3 (0,0)) (.cells #[.int .i64 (c:Int)] 3 (0,0)))).1;have H:=(cS (BO w (.cells #[.int .i64 k] 3 (0,0)) (.cells #[.int .i64 e] 3 (0,0)) (.cells #[.int .i64 (c:Int)] 3 (0,0)))).1;have A:=OY w (.cells #[.int .i64 k] 3) (.cells #[.int .i64 e] 3) (.cells #[.int .i64 (c:Int)] 3);have R:Sb _:=F;have S:Sb _:=G;have T:Sb _:=H;have W:Sb _:=A;have E:Sb (iy (c:Int) k e=0):=t;have r:Sb (aY k e=R7):=M;clear F G H A t M;go_enter aa.func139,Tryz.ntmps139
  go_wp2_with (go_at_call 123;refine(n _).mono ?_;rintro B w' ⟨rfl,rfl⟩)
  generalize (((w.alloc (.cells #[.int .i64 k] 3)).alloc (.cells #[.int .i64 e] 3)).alloc (.cells #[.int .i64 (c:Int)] 3))=X at*;have A:=W.out;refine(xS (.pointer (RX ⟨w.heap.size,0,RZ⟩)) (.pointer (RX ⟨w.heap.size+1,0,RZ⟩)) (.pointer (RX ⟨w.heap.size+1+1,0,RZ⟩)) s X N 59 3
   (fun g D Q=>∃ l:List az,g=c∧l.length=c∧D=aC l∧Q=(aX k e l).length∧(∀ h∈l,VC k h)∧ag (bytesOf s) 0 (aX k e l)∧∀ a:List az,a.length=c→(∀ h∈a,VC k h)→ag (bytesOf s) 0 (aX k e a)→a=l)
   (∀ a:List az,a.length=c→(∀ h∈a,VC k h)→¬ ag (bytesOf s) 0 (aX k e a))
   (fun Y B b ao ab=>Cz k e r.out s B c _ _ _ Y N u ab ((b.cell (p:=⟨w.heap.size,0,RZ⟩) (by show w.heap.size<_;omega)).trans R.out) ((b.cell (p:=⟨w.heap.size+1,0,RZ⟩) (by show w.heap.size+1<_;omega)).trans S.out) ((b.cell (p:=⟨w.heap.size+1+1,0,RZ⟩) (by show w.heap.size+1+1<_;omega)).trans T.out))).mono ?_
  rintro f C ⟨b,⟨v,g,D,rfl,P,l,rfl,j,rfl,y,d,z,m⟩|⟨rfl,i⟩⟩
  ·have o:Sb (Si w.heap.size w C):=p.out.trans (b.mono (by omega));have V:Sb (C.ownsRow w.heap.size 59 3 v l.length (aC l)):=by rw[j];exact bn P (by omega)
   have q:Sb (rC s k e g l):=⟨j,d,BK z (by rw[ai];omega),m⟩;clear b P y d z m j;go_wp2
   go_ret2
   exact⟨o.out,.inr ⟨g,rfl,u,E.out,r.out,.inl ⟨v,l,rfl,V.out,q.out⟩⟩⟩
  ·have o:Sb (Si w.heap.size w C):=p.out.trans (b.mono (by omega));have q:Sb (vV s k e c):=by
    intro a L d x;rcases i with i|⟨g,D,Q,⟨l,rfl,j,rfl,y,am,z,m⟩,ae⟩
    ·exact i a L d (ei x)
    ·have Z:=m a L d (ei x);subst Z;rw[x,ai] at y;omega
   clear b i;go_wp2
   go_ret2
   exact⟨o.out,.inr ⟨c,rfl,u,E.out,r.out,.inr ⟨rfl,q.out⟩⟩⟩
def jV(n:Nat):∀ x∈ax n,x<256:=Mu 10 n
def Dv(f:Nat)(l:List Int):∀ x∈fR f l,x<256:=by
 induction f generalizing l with
 |zero=>simp[fR]
 |succ f c=>
  cases l with
  |nil=>simp[fR]
  |cons e d=>
   intro x b;simp only[fR] at b;rcases S7.1 b with a|a
   ·exact jV _ x a
   ·rcases S7.1 a with a|a
    ·simp at a;rw[a];exact m7 _
    ·exact c _ x a
def tJ(k:Int)(v:az):∀ x∈aL k v,x<256:=by
 intro x a;unfold aL at a
 split at a
 ·exact jV _ x a
 ·split at a
  ·simp at a;rw[a];exact m7 _
  ·rcases S7.1 a with b|b
   ·exact jV _ x b
   ·exact iK _ x b
def xF(k:Int)(l:List az):∀ x∈aE k l,x<256:=by
 intro x a;unfold aE at a;obtain⟨v,_,b⟩:=List.mem_flatMap.1 a;exact tJ k v x b
def H9(a:Int)(l:List az):∀ x∈bM a l,x<256:=by
 induction l generalizing a with
 |nil=>simp[bM]
 |cons f e d=>
  intro x c;simp only[bM] at c;rcases S7.1 c with b|b
  ·exact jV _ x b
  ·exact d _ x b
def EE(k e:Int)(l:List az):∀ x∈aX k e l,x<256:=by
 intro x b;unfold aX at b;rcases S7.1 b with a|a
 ·exact Dv _ _ x a
 ·unfold cQ at a
  split at a
  ·exact H9 _ _ x a
  ·split at a
   ·unfold dZ at a;rcases S7.1 a with a|a
    ·exact jV _ x a
    ·rcases S7.1 a with a|a
     ·exact xF _ _ x a
     ·exact r8 _ _ x a
   ·split at a
    ·exact Dv _ _ x a
    ·exact xF _ _ x a
def CZ{cs:List bG}(h:fB cs):∀ c∈cs,c.name.size≤16:=by
 intro c a;obtain⟨d,b,rfl⟩:=TK a;have:=(h.2.2 d b).1;simp[ot] at this;omega
def Ka{P:az→Prop}{b:kU}{v:az}(h1:P b.least)(a:P b.most)(c:P v):P (mC b v).least∧P (mC b v).most:=by
 unfold mC
 split
 ·exact⟨h1,a⟩
 ·dsimp only;constructor<;>split<;>assumption
theorem Eu{P:az→Prop}(d:P ⟨R6,0,⟨#[]⟩⟩)(l:List az)(h:∀ x∈l,P x):P (bO l).least∧P (bO l).most:=by
 have:∀ (l:List az) (a:kU),P a.least→P a.most→(∀ x∈l,P x)→P (l.foldl mC a).least∧P (l.foldl mC a).most:=by
  intro l
  induction l with
  |nil=>intro a b c _;exact⟨b,c⟩
  |cons x j g=>
   intro a b c h;rw[List.foldl_cons];have e:=Ka b c (h x (by simp));exact g _ e.1 e.2 (fun i f=>h i (by simp[f]))
 exact this l bX d d h
def yI:oG ⟨R6,0,⟨#[]⟩⟩:=⟨by decide,by decide,by decide⟩
def I8{l:List Int}(h:0<l.length):0<(bC l).length:=by
 cases l with
 |nil=>simp at h
 |cons b a=>
  unfold bC fR;simp;omega
def Cr{k e:Int}{l:List az}(h:0<l.length):0<(aX k e l).length:=by
 unfold aX;rw[Sc];have:=I8 (l:=l.map mG) (by simpa using h);omega
def ED{k e:Int}{l:List az}(h:∀ x∈l,oG x)(a:l.length≤100):(aX k e l).length≤110000:=by
 unfold aX;rw[Sc];have c:=nT (l.map mG) (by simpa using a);have d:=yX k e (there l) (fun x b=>h x (Av b)) (by have:=n6 l;omega);omega
structure qy(cs:List bG)(rows:List (List az))(es:List Int)(bd:Nat):Prop where
 table:fD cs rows
 mR:kH cs es
 lo:1≤bd
 hi:bd≤100
 vals:∀ r∈rows,∀ x∈r,Ek x
def qy.len{cs:List bG}{a:List (List az)}{es:List Int}{b:Nat}(h:qy cs a es b):∀ r∈a,r.length=cs.length:=by
 intro r d;obtain⟨e,c,rfl⟩:=TK d;exact(h.table.2.2 e c).1
def Cw{a:List (List az)}{b j:Nat}{r:List az}(h:r∈dI a b j):r∈a:=List.mem_of_mem_drop (UO h)
def qy.col{cs:List bG}{k:List (List az)}{es:List Int}{c:Nat}(h:qy cs k es c)(j p:Nat)(e:p<cs.length):∀ x∈bH (dI k c j) p,eU x cs[p].kind=R7∧oG x:=by
 intro x g;unfold bH at g;obtain⟨i,m,rfl⟩:=Tu.1 g;have f:=Cw m;obtain⟨o,l,n⟩:=TK f;have b:=h.table.2.2 o l;rw[n] at b;have a:p<i.length:=by rw[b.1];exact e
 have d:=b.2 p a e;rw[Sj,Sk a];exact⟨d,yH (h.vals i f _ (Sl a)) d⟩
def qy.cut{cs:List bG}{b:List (List az)}{es:List Int}{a:Nat}(h:qy cs b es a)(j p:Nat):(bH (dI b a j) p).length≤100:=by
 rw[iY,gw];have:=h.hi;omega
def qy.Ic{cs:List bG}{b:List (List az)}{es:List Int}{a:Nat}(h:qy cs b es a):es.length=cs.length:=h.mR.1.symm
def qy.j4{cs:List bG}{c:List (List az)}{es:List Int}{a:Nat}(h:qy cs c es a)(d:Bool)(j p:Nat)(b:p<cs.length):
 Cp (dI c a j) cs es d p=⟨strOf (aX cs[p].kind (es.getD p 0) (bH (dI c a j) p)),if d then bO (bH (dI c a j) p) else bX⟩:=by
 rw[Gh b (by rw[h.Ic];exact b)];have e:=h.col j p b;rw[KE (by have:=h.cut j p;omega) (h.mR.2 p b) (fun g f=>(e _ (Sl f)).1)]
theorem qy.chunks{cs:List bG}{d:List (List az)}{es:List Int}{a:Nat}(h:qy cs d es a)(e:Bool)(j:Nat):∀ c∈cB (dI d a j) cs es e cs.length,c.text.size≤110000∧oG c.dS.least∧oG c.dS.most∧(j*a<d.length→0<c.text.size):=by
 intro c k;unfold cB at k;obtain⟨b,f,rfl⟩:=Tu.1 k;have f:=TC.1 f;rw[h.j4 e j b f];have l:∀ g∈bH (dI d a j) b,oG g:=fun g n=>(h.col j b f g n).2;have m:=Eu yI _ l;have i:oG (if e=R7 then bO (bH (dI d a j) b) else bX).least∧oG (if e=R7 then bO (bH (dI d a j) b) else bX).most:=by
  cases e
  ·exact⟨yI,yI⟩
  ·exact m
 refine⟨?_,i.1,i.2,fun o=>?_⟩
 ·show(strOf _).size≤_;rw[mh];exact ED l (h.cut j b)
 ·show 0<(strOf _).size;rw[mh];refine Cr ?_;rw[iY,gw];have:=h.lo;omega
def qy.Re{cs:List bG}{e:List (List az)}{es:List Int}{c:Nat}(h:qy cs e es c)(f:Bool)(j:Nat):vT cs.length (mB (dI e c j) cs es f):=by
 have d:=h.chunks f j;refine⟨?_,dm _ _ _ _ _,fun a b=>?_,fun a b=>(d a b).2.1,fun a b=>(d a b).2.2.1⟩
 ·show(dI e c j).length<_;rw[gw];have:=h.hi;omega
 ·have:=(d a b).1;omega
theorem qy.nb{cs:List bG}{b:List (List az)}{es:List Int}{a:Nat}(h:qy cs b es a):eY b.length a≤2000:=by
 have d:=h.table.2.1;have e:=h.lo;unfold eY;have:=Nat.div_le_self (b.length+a - 1) a;rcases TF a 2 with c|c
 ·have:a=1:=by omega
  subst this;simp;omega
 ·have f:=Nat.div_mul_le_self (b.length+a - 1) a;have g:(b.length+a - 1) / a*2≤(b.length+a - 1) / a*a:=Nat.mul_le_mul_left _ c;have:=h.hi;omega
def qy.bP{cs:List bG}{e:List (List az)}{es:List Int}{a:Nat}(h:qy cs e es a)(c:Bool)(n:Nat):∀ b∈de e cs es c a n,vT cs.length b:=by
 intro b d;unfold de at d;obtain⟨f,-,rfl⟩:=Tu.1 d;exact h.Re c f
def qy.pos{cs:List bG}{d:List (List az)}{es:List Int}{a:Nat}(h:qy cs d es a)(e:Bool):∀ b∈de d cs es e a (eY d.length a),∀ c∈b.chunks,0<c.text.size:=by
 intro b f c i;unfold de at f;obtain⟨g,j,rfl⟩:=Tu.1 f;exact(h.chunks e g c i).2.2.2 ((oL h.lo g).2 (TC.1 j))
theorem qy.body{cs:List bG}{b:List (List az)}{es:List Int}{a:Nat}(h:qy cs b es a)(c:Bool):(bp (de b cs es c a (eY b.length a))).length≤10000000000:=by
 have i:=rO (fun f:Bd=>bL f.chunks) 880000 (de b cs es c a (eY b.length a)) (fun f g=>by
  unfold de at g;obtain⟨d,-,rfl⟩:=Tu.1 g;have j:=rO (fun e:jw=>bytesOf e.text) 110000 (cB (dI b a d) cs es c cs.length) (fun e k=>by rw[ai];exact(h.chunks c d e k).1);have l:=h.table.1.2.1;rw[dm] at j;show(List.flatMap _ _).length≤_;have:(mB (dI b a d) cs es c).chunks=cB (dI b a d) cs es c cs.length:=rfl;rw[this];omega)
 have m:=h.nb;rw[mP] at i;show(List.flatMap _ _).length≤_;omega
def jx (cs:List bG)(b:List (List az))(es:List Int)(c:Bool)(a:Nat):List Nat:=uu cs es (de b cs es c a (eY b.length a))
def JZ (cs:List bG)(a:List (List az))(b:Int)(es:List Int)(c:Bool)(s:ByteArray)(n:Int):Prop:=
 (¬ fD cs a∧s=⟨#[]⟩∧n=1)∨(fD cs a∧¬ kM b es cs∧s=⟨#[]⟩∧n=2)∨
 (fD cs a∧kM b es cs∧65536<(jx cs a es c b.toNat).length∧s=⟨#[]⟩∧n=6)∨
 (fD cs a∧kM b es cs∧¬ 65536<(jx cs a es c b.toNat).length∧s=strOf (jx cs a es c b.toNat)∧n=0)
end Ec
namespace Ec
open Go.RowKit Pk
def tP{w:R3}{g:Nat}{C:Array R2}{t:Sg}(h:w.heap[g]? =RX (.cells C t (0,0))):w.rangeAt g 0 C.toList:=by
 intro b v a;rw[SZ];simp only[Sr,h];simpa using a
def Ag{w:R3}{g:Nat}{C:Array R2}{t:Sg}(h:w.heap[g]? =RX (.cells C t (0,0))):w.there g 0 C.size:=by
 intro b a;rw[SZ];refine⟨?_,?_⟩
 ·simp[Sr,h,a]
 ·simp[S4,h]
theorem lJ{g k:Nat}(h:k≠g):∀ (vs:List R2) (o:Nat) (w:R3),(w.setCells g o vs).heap[k]? =w.heap[k]?
 | [],_,_=>rfl
 |v :: a,o,w=>by
  rw[World.setCells,lJ h a (o+1)];exact Sv _ _ _ _ (by simpa using h)
theorem zZ{P:Sd}{fn:UB}{R:UQ→R3→Prop}{a:T6}{w:R3}{p:Tmp}{ty:Sg}{g:Nat}{cs:List R2}{d:TypeDesc}(k:fn.results=#[.cell p ty])(c:a.defers=[])
 (i:a.tmps.getD p Tq= .pointer (RX ⟨g,0,RZ⟩)) (hc:w.rangeAt g 0 cs) (l:P.underlying ty=RX d) (e:d.isRow=R7) (f:(P.info? ty).map (·.size)=RX cs.length) (h:R (.returned (.agg cs.toArray)) w):TT P fn R .ret a w:=by
 refine bodyPost_ret (v:=.agg cs.toArray) ?_ c h;have b:=run_loadVar_mid w g 0 ty cs d hc l e f;have j:a.tmps[p]?.getD Tq= .pointer (RX ⟨g,0,RZ⟩):=by simpa using i
 simp[SX,k,j,asAddr,Uz,Result.andThen,b]
end Ec
namespace Ec
open Go.RowKit Pk Pm
def JN (k:Int)(b:kU):Prop:=b=bX∨(b.there=R7∧VK k b.least∧VK k b.most∧¬ 0<eD b.least b.most)
def aA (b:kU):Array R2:= #[.bool b.there,.bool b.least.null,.int .i64 b.least.n,.string b.least.s,.bool b.most.null,.int .i64 b.most.n,.string b.most.s]
theorem Kp.PB{r g:Nat}{w:R3}(c:w.heap.size≤g):∀ (vs:List R2) (o:Nat) (a:R3),Kp r w a→Kp r w (a.setCells g o vs)
 | [],_,_,b=>b
 |v :: e,o,a,b=>Kp.PB c e (o+1) _ (b.grown (aG a g o v) (fun f d=>by cases d;exact c))
theorem DD{w:R3}{g:Nat}{b:kU}{t:Sg}(h:w.heap[g]? =RX (.cells (aA b) t (0,0))):(w.cell? ⟨g,0,RZ⟩=RX (.bool b.there)∧w.cell? ⟨g,1,RZ⟩=RX (.bool b.least.null)∧w.cell? ⟨g,2,RZ⟩=RX (.int .i64 b.least.n)∧w.cell? ⟨g,3,RZ⟩=RX (.string b.least.s)∧w.cell? ⟨g,4,RZ⟩=RX (.bool b.most.null)∧w.cell? ⟨g,5,RZ⟩=RX (.int .i64 b.most.n)∧w.cell? ⟨g,6,RZ⟩=RX (.string b.most.s))∧∀ j,w.frozen? ⟨g,j,RZ⟩=R6:=by
 unfold aA at h;refine⟨⟨?_,?_,?_,?_,?_,?_,?_⟩,fun j=>by simp[S4,h]⟩<;>simp[Sr,h]
def Gb (w:R3)(r p:Nat)(s:ByteArray)(k:Int)(e:UQ)(w':R3):Prop:=
 Kp r w w'∧((∃ a:kU,e= .returned (Ev a)∧JN k a∧ag (bytesOf s) p (bJ k a)∧p+(bJ k a).length≤s.size∧w'.heap[r]? =RX (bg s (p+(bJ k a).length)))∨
  (∃ b,e= .panicked (dU b)∧∀ a:kU,JN k a→¬ ag (bytesOf s) p (bJ k a)))
theorem xN(k:Int)(K:k=1∨k=2∨k=3)(r p:Nat)(s:ByteArray)(w:R3)(bb:s.size≤Sw)(bc:p≤s.size)(h:w.heap[r]? =RX (bg s p)):
 SF (aa.of RY) 131 #[.pointer (RX ⟨r,0,RZ⟩),.int .i64 k] w (Gb w r p s k):=by
 have db:r<w.heap.size:=Sf h;have bs:Sb ((w.alloc (.cells (aA bX) 141)).heap[r]? =RX (bg s p)):=by
  show _=_;rw[SP _ _ r db];exact h
 have ao:Sb (Kp r w (w.alloc (.cells (aA bX) 141))):=(Kp.refl r w).alloc _;have df:Sb (∀ p,p≤s.size→∀ be,ag (bytesOf s) p be→p+be.length≤s.size):=fun p bc be d=>by have:=fO d (by rw[ai];exact bc);rwa [ai] at this
 clear h;go_enter aa.func131,Tryz.ntmps131
 go_wp2_with fail
 refine(AL r p s _ bb bc bs.out).mono ?_;rintro i A ⟨H,⟨dc,rfl,g,cb,b1,b3⟩|⟨x,rfl,t⟩⟩;rotate_left
 ·have y:Sb (∀ e:kU,JN k e→¬ ag (bytesOf s) p (bJ k e)):=fun e g d=>by
   rcases g with rfl|⟨u,-⟩
   ·exact t 0 (.inl rfl) d
   ·unfold bJ at d;rw[if_pos u] at d;exact t 1 (.inr rfl) (an.1 d).1
  have B:Sb (Kp r w A):=ao.out.trans H;clear t H;go_wp2;exact⟨rfl,B.out,.inr ⟨x,rfl,y.out⟩⟩
 ·have B:Sb (Kp r w A):=ao.out.trans H;have S:Sb (A.heap[w.heap.size]? =RX (.cells (aA bX) 141 (0,0))):=Kp.block H (T8 w _) (by omega);have ar:Sb (A.heap[r]? =RX (bg s (p+1))):=b1;have a0:Sb (ag (bytesOf s) p [dc.toNat]):=cb;clear cb b1 H bs ao;rcases g with rfl|rfl
  ·have cn:Sb (A.there w.heap.size 0 (aA bX).size):=Ag S.out;have a3:Sb ((A.setCells w.heap.size 0 (aA bX).toList).rangeAt w.heap.size 0 (aA bX).toList):=World.rangeAt_setCells_same _ _ _ _ cn.out;obtain⟨⟨co,cp,cs,cu,cv,cx,cR⟩,j⟩:=DD S.out;have c0:=j 0;have c1:=j 1;have c2:=j 2;have c3:=j 3;have c4:=j 4;have c5:=j 5;have c6:=j 6;have al:Sb (Gb w r p s k (.returned (.agg (aA bX).toList.toArray)) (A.setCells w.heap.size 0 (aA bX).toList)):=⟨Kp.PB (R8 _) _ _ _ B.out,.inl ⟨bX,rfl,.inl rfl,a0.out,b3,(lJ (by omega) _ _ _).trans ar.out⟩⟩;go_wp2;exact zZ Tryz.results131 rfl rfl a3.out aa.underlying141 rfl (by kernel_rfl) al.out
  ·have W:Sb (ag (bytesOf s) p [1]):=a0.out;clear a0
   go_upto_region 3 with fail
   have bo:Sb (∀ c,c.heap[r]? =RX (bg s (p+1))→SF (aa.of RY) 153 #[.pointer (RX ⟨r,0,RZ⟩),.int .i64 k] c fun i o=>Kp r c o∧((∃ v:az,i= .returned (.agg #[.bool v.null,.int .i64 v.n,.string v.s])∧VK k v∧ag (bytesOf s) (p+1) (aL k v)∧p+1+(aL k v).length≤s.size∧o.heap[r]? =RX (bg s (p+1+(aL k v).length)))∨(∃ x,i= .panicked (dU x)∧∀ v:az,VK k v→¬ ag (bytesOf s) (p+1) (aL k v)))):=fun c J=>jm k K r (p+1) s c bb b3 J
   go_wp2_with fail
   refine(bo.out _ ar.out).mono ?_;rintro i q ⟨I,⟨b,rfl,ce,cc,b4,a8⟩|⟨x,rfl,t⟩⟩;rotate_left
   ·have y:Sb (∀ e:kU,JN k e→¬ ag (bytesOf s) p (bJ k e)):=fun e g d=>by
     rcases g with rfl|⟨u,z,-⟩
     ·have:=gI W.out (show ag (bytesOf s) p [0] from d) rfl;simp at this
     ·unfold bJ at d;rw[if_pos u] at d;exact t _ z (an.1 (an.1 d).2).1
    have D:Sb (Kp r w q):=B.out.trans I;clear t I;go_wp2;exact⟨rfl,D.out,.inr ⟨x,rfl,y.out⟩⟩
   ·have a2:Sb (VK k b):=ce;have a1:Sb (ag (bytesOf s) (p+1) (aL k b)):=cc;obtain⟨f,bd⟩:∃ f,f=p+1+(aL k b).length:=⟨_,rfl⟩;have U:Sb (f=p+1+(aL k b).length):=bd;rw[← bd] at b4 a8;have D:Sb (Kp r w q):=B.out.trans I;have ad:Sb (q.heap[w.heap.size]? =RX (.cells (aA bX) 141 (0,0))):=Kp.block I S.out (by omega);have dq:w.heap.size<q.heap.size:=Sf ad.out;have bu:Sb ((q.alloc (.cells #[.bool b.null,.int .i64 b.n,.string b.s] 59)).heap[r]? =RX (bg s f)):=by
     show _=_;rw[SP _ _ r (by omega)];exact a8
    have br:Sb (∀ c,c.heap[r]? =RX (bg s f)→SF (aa.of RY) 153 #[.pointer (RX ⟨r,0,RZ⟩),.int .i64 k] c fun i o=>Kp r c o∧((∃ v:az,i= .returned (.agg #[.bool v.null,.int .i64 v.n,.string v.s])∧VK k v∧ag (bytesOf s) f (aL k v)∧f+(aL k v).length≤s.size∧o.heap[r]? =RX (bg s (f+(aL k v).length)))∨(∃ x,i= .panicked (dU x)∧∀ v:az,VK k v→¬ ag (bytesOf s) f (aL k v)))):=fun c J=>jm k K r f s c bb b4 J;clear ce cc bd I a8 bo ar S B
    go_upto_region 4 with fail
    go_wp2_with fail
    refine(br.out _ bu.out).mono ?_;rintro i l ⟨C,⟨a,rfl,cf,cd,da,b2⟩|⟨x,rfl,t⟩⟩;rotate_left
    ·have y:Sb (∀ e:kU,JN k e→¬ ag (bytesOf s) p (bJ k e)):=fun e g d=>by
      rcases g with rfl|⟨u,z,G,-⟩
      ·have:=gI W.out (show ag (bytesOf s) p [0] from d) rfl;simp at this
      ·unfold bJ at d;rw[if_pos u] at d;obtain⟨a9,g⟩:=an.1 (an.1 d).2;have:=lm K z a2.out a9 a1.out;rw[this] at g;refine t _ G ?_;rw[U.out];exact g
     have T:Sb (Kp r w l):=(D.out.alloc _).trans C;clear t C;go_wp2;exact⟨rfl,T.out,.inr ⟨x,rfl,y.out⟩⟩
    ·have bA:Sb (VK k a):=cf;have bv:Sb (ag (bytesOf s) f (aL k a)):=cd;have bt:Sb (l.heap[r]? =RX (bg s (f+(aL k a).length))):=b2;have T:Sb (Kp r w l):=(D.out.alloc _).trans C;have bi:Sb (l.heap[w.heap.size]? =RX (.cells (aA bX) 141 (0,0))):=Kp.block C (alloc_old _ (by omega) ad.out) (by omega);have a5:Sb (l.heap[q.heap.size]? =RX (.cells #[.bool b.null,.int .i64 b.n,.string b.s] 59 (0,0))):=Kp.block C (bw q _) (by omega);have cl:Sb (∀ e:kU,JN k e→ag (bytesOf s) p (bJ k e)→e=⟨R7,b,a⟩):=fun e g d=>by
      rcases g with rfl|⟨u,z,G,-⟩
      ·have:=gI W.out (show ag (bytesOf s) p [0] from d) rfl;simp at this
      ·unfold bJ at d;rw[if_pos u] at d;obtain⟨a9,g⟩:=an.1 (an.1 d).2;have a7:=lm K z a2.out a9 a1.out;rw[a7,show p+[1].length+(aL k b).length=f from U.out.symm] at g;have bB:=lm K G bA.out g bv.out;obtain⟨dp,dk,dl⟩:=e;simp only at u a7 bB;subst u a7 bB;rfl
     have ck:Sb (ag (bytesOf s) p (bJ k ⟨R7,b,a⟩)):=by
      show ag _ _ ([1] ++ (aL k b ++ aL k a));refine an.2 ⟨W.out,an.2 ⟨a1.out,?_⟩⟩;rw[show p+[1].length+(aL k b).length=f from U.out.symm];exact bv.out
     have dr:q.heap.size<l.heap.size:=Sf a5.out;have ae:Sb (∀ c,SF (aa.of RY) 125 #[.agg #[.bool b.null,.int .i64 b.n,.string b.s],.agg #[.bool a.null,.int .i64 a.n,.string a.s]] c fun i o=>i= .returned (.int .i64 (eD b a))∧Si c.heap.size c o):=fun c=>iQ b a c;clear cf cd b2 C br bu D ad
     go_upto_region 5 with fail
     have bl:Sb (Kp r w (l.alloc (.cells #[.bool a.null,.int .i64 a.n,.string a.s] 59))):=T.out.alloc _;have V:Sb ((l.alloc (.cells #[.bool a.null,.int .i64 a.n,.string a.s] 59)).heap[r]? =RX (bg s (f+(aL k a).length))):=alloc_old _ (by omega) bt.out;have R:Sb ((l.alloc (.cells #[.bool a.null,.int .i64 a.n,.string a.s] 59)).heap[w.heap.size]? =RX (.cells (aA bX) 141 (0,0))):=alloc_old _ (by omega) bi.out;have E:Sb ((l.alloc (.cells #[.bool a.null,.int .i64 a.n,.string a.s] 59)).heap[q.heap.size]? =RX (.cells #[.bool b.null,.int .i64 b.n,.string b.s] 59 (0,0))):=alloc_old _ (by omega) a5.out;have F:Sb ((l.alloc (.cells #[.bool a.null,.int .i64 a.n,.string a.s] 59)).heap[l.heap.size]? =RX (.cells #[.bool a.null,.int .i64 a.n,.string a.s] 59 (0,0))):=bw l _;clear T bt bi a5;generalize l.alloc (.cells #[.bool a.null,.int .i64 a.n,.string a.s] 59)=ds at*;generalize q.heap.size=Y at*;generalize l.heap.size=Z at*;obtain⟨L,M,N⟩:=bE E.out;obtain⟨O,P,Q⟩:=bE F.out;have ch:Sb (∀ c,c.heap[r]? =RX (bg s (f+(aL k a).length))→SF (aa.of RY) 97 #[.pointer (RX ⟨r,0,RZ⟩)] c fun i o=>i= .panicked (dU (f+(aL k a).length))∧Kp r c o):=fun c J=>(bN r _ s c J).mono (fun i o ⟨z,G⟩=>⟨z,by subst G;exact Kp.refl r _⟩);obtain⟨X,ba⟩:∃ X,X=eD b a:=⟨_,rfl⟩;rw[← ba] at ae;have bj:Sb (X=eD b a):=ba;clear ba;by_cases ca:0<X
     ·go_upto_region 6 with(go_at_call 125;refine(ae.out _).mono ?_;rintro i m ⟨rfl,n⟩;have a4:Sb (m.heap[Y]? =RX (.cells #[.bool b.null,.int .i64 b.n,.string b.s] 59 (0,0))):=(n.block Y (Sf E.out)).trans E.out;have a6:Sb (m.heap[Z]? =RX (.cells #[.bool a.null,.int .i64 a.n,.string a.s] 59 (0,0))):=(n.block Z (Sf F.out)).trans F.out;have ab:Sb (m.heap[w.heap.size]? =RX (.cells (aA bX) 141 (0,0))):=(n.block _ (Sf R.out)).trans R.out;have aw:Sb (m.heap[r]? =RX (bg s (f+(aL k a).length))):=(n.block _ (Sf V.out)).trans V.out;have am:Sb (Kp r w m):=bl.out.trans (Kp.bS n);clear L M N O P Q n;obtain⟨L,M,N⟩:=bE a4.out;obtain⟨O,P,Q⟩:=bE a6.out)
      go_wp2_with fail
      refine(ch.out _ aw.out).mono ?_;rintro i dd ⟨rfl,b0⟩;have y:Sb (∀ e:kU,JN k e→¬ ag (bytesOf s) p (bJ k e)):=fun e g d=>by
       have c9:=cl.out e g d;subst c9;rcases g with c7|⟨-,-,-,c8⟩
       ·simp[bX] at c7
       ·exact c8 (by rw[bj.out] at ca;exact ca)
      have ci:Sb (Kp r w dd):=am.out.trans b0;clear b0 L M N O P Q;go_wp2;exact⟨rfl,ci.out,.inr ⟨_,rfl,y.out⟩⟩
     ·go_upto_region 7 with(go_at_call 125;refine(ae.out _).mono ?_;rintro i m ⟨rfl,n⟩;have a4:Sb (m.heap[Y]? =RX (.cells #[.bool b.null,.int .i64 b.n,.string b.s] 59 (0,0))):=(n.block Y (Sf E.out)).trans E.out;have a6:Sb (m.heap[Z]? =RX (.cells #[.bool a.null,.int .i64 a.n,.string a.s] 59 (0,0))):=(n.block Z (Sf F.out)).trans F.out;have ab:Sb (m.heap[w.heap.size]? =RX (.cells (aA bX) 141 (0,0))):=(n.block _ (Sf R.out)).trans R.out;have aw:Sb (m.heap[r]? =RX (bg s (f+(aL k a).length))):=(n.block _ (Sf V.out)).trans V.out;have am:Sb (Kp r w m):=bl.out.trans (Kp.bS n);clear L M N O P Q n;obtain⟨L,M,N⟩:=bE a4.out;obtain⟨O,P,Q⟩:=bE a6.out)
      obtain⟨⟨co,cp,cs,cu,cv,cx,cR⟩,j⟩:=DD ab.out;have c0:=j 0;have c1:=j 1;have c2:=j 2;have c3:=j 3;have c4:=j 4;have c5:=j 5;have c6:=j 6;have bx:Sb (m.there w.heap.size 0 (aA ⟨R7,b,a⟩).size):=(show m.there w.heap.size 0 7 from Ag ab.out);have a3:Sb ((m.setCells w.heap.size 0 (aA ⟨R7,b,a⟩).toList).rangeAt w.heap.size 0 (aA ⟨R7,b,a⟩).toList):=World.rangeAt_setCells_same _ _ _ _ bx.out;have bm:Sb (p+(bJ k ⟨R7,b,a⟩).length=f+(aL k a).length):=by
       show p+([1] ++ (aL k b ++ aL k a)).length=_;have:=U.out;simp only[Sc,List.length_singleton];omega
      have al:Sb (Gb w r p s k (.returned (.agg (aA ⟨R7,b,a⟩).toList.toArray)) (m.setCells w.heap.size 0 (aA ⟨R7,b,a⟩).toList)):=⟨Kp.PB (R8 _) _ _ _ am.out,.inl ⟨⟨R7,b,a⟩,rfl,.inr ⟨rfl,a2.out,bA.out,by rw[← bj.out];omega⟩,ck.out,by rw[bm.out];exact da,(lJ (by omega) _ _ _).trans (by rw[bm.out];exact aw.out)⟩⟩;clear bx;go_wp2;exact zZ Tryz.results131 rfl rfl a3.out aa.underlying141 rfl (by kernel_rfl) al.out
theorem Dx(s:ByteArray)(w:R3)(E:s.size≤65536):SF (aa.of RY) 98 #[.string s] w fun e w'=>e= .returned (.string s)∧Si w.heap.size w w':=by
 by_cases j:s.size=0
 ·obtain rfl:s=⟨#[]⟩:=ByteArray.ext (Array.eq_empty_of_size_eq_zero j);go_enter aa.func98,Tryz.ntmps98;go_wp2;go_ret;exact⟨rfl,So _ _⟩
 ·obtain⟨m,g,x,h,y⟩:=TB aa.rT;have u:((aa.of RY).info? 5).map (·.size)=RX 1:=by rw[g];simp[h]
  have q:(aa.of RY).cellsOf 5=1:=by simp[Program.cellsOf,g,h]
  obtain⟨a,d⟩:∃ a,a=madeCells (T7 .u8 0).cells (((s.size:Nat):Int).toNat*m.size):=⟨_,rfl⟩;have A:a.size=s.size:=by rw[d,size_madeCells,h];simp
  have D:∀ c:R3,(Vx 133 (.int .i64 (s.size:Int)) (.int .i64 (s.size:Int))).run (aa.of RY) c= .ok (.slice (RX ⟨c.heap.size,0,RZ⟩) s.size s.size) (c.alloc (.cells a 5)):=fun c=>by
   have i:=run_make (P:=(aa.of RY)) c 133 5 m (.int .u8 0) aa.underlying133 g x .i64 .i64 (s.size:Int) (s.size:Int) (by omega) (by omega) (by rw[y];omega) (by omega);rw[← d] at i;simpa using i
  clear d;have r:=Lib.run_copy_row_string (P:=(aa.of RY)) (w.alloc (.cells a 5)) 133 9 3 5 w.heap.size 0 s.size s.size s a 5 aa.underlying133 u (T8 w _) (R8 _) (by omega);obtain⟨b,f⟩:∃ b,b=(a.toList.take 0 ++ Lib.byteCells s.data.toList ++ a.toList.drop (0+s.size)).toArray:=⟨_,rfl⟩;rw[← f] at r;have k:b.toList=Lib.byteCells s.data.toList:=by
   rw[f,List.toList_toArray,List.take_zero,List.nil_append,List.drop_of_length_le (by rw[T5];omega),Uy]
  have B:b.size=s.size:=by rw[← T5,k,Lib.byteCells_length,← VB]
  have l:((w.alloc (.cells a 5)).setRow w.heap.size b).heap[w.heap.size]? =RX (.cells b 5 (0,0)):=setRow_heap _ _ a _ 5 (0,0) (T8 w _);have t:s.data.toList≠[]:=fun e=>j (by rw[VB,e];rfl);have n:=Lib.run_unsafeString_row (P:=(aa.of RY)) ((w.alloc (.cells a 5)).setRow w.heap.size b) 206 3 9 5 aa.underlying206 q w.heap.size b.size (by unfold World.shape?;rw[l]) s.data.toList t (by rw[← VB];omega) (by rw[← VB];omega)
   (fun z G v=>Lib.cells_of_row l b.size z _ (by rw[Tj (by rw[T5];exact R8 _),k];simp[Lib.byteCells,v]))
  rw[← VB] at n;clear f;go_enter aa.func98,Tryz.ntmps98;go_wp2;go_ret;have o:Si w.heap.size w (w.alloc (.cells a 5)):=(So _ w).alloc (R8 _) _;have p:Si w.heap.size (w.alloc (.cells a 5)) ((w.alloc (.cells a 5)).setRow w.heap.size b):=⟨rfl,rfl,rfl,by simp,fun F C=>setRow_other _ _ _ _ (by omega)⟩;exact⟨rfl,Lib.below_freeze (o.trans p) (p:=⟨w.heap.size,0,RZ⟩) (R8 _) _⟩
def wC(s:ByteArray)(w:R3)(b:s.size≤65536):SF (aa.of RY) 66 #[.string s] w fun e w'=>e= .returned (.string s)∧Si w.heap.size w w':=by
 go_enter aa.func66,Tryz.ntmps66
 go_wp2_with fail
 refine(Dx s _ b).mono ?_;rintro e w' ⟨rfl,a⟩;go_wp2;go_ret;exact⟨rfl,a⟩
theorem zF(r p:Nat)(s:ByteArray)(w:R3)(d:s.size≤Sw)(f:p≤s.size)(h:w.heap[r]? =RX (bg s p)):
 SF (aa.of RY) 129 #[.pointer (RX ⟨r,0,RZ⟩)] w fun e w'=>Kp r w w'∧((∃ b:Nat,e= .returned (.int .u8 (b:Int))∧b<256∧ag (bytesOf s) p [b]∧p+1≤s.size∧w'.heap[r]? =RX (bg s (p+1)))∨
  (∃ q,e= .panicked (dU q)∧∀ b:Nat,¬ ag (bytesOf s) p [b])):=by
 by_cases a:p<s.size
 ·refine(vC r p s w d a h).mono ?_;rintro e w' ⟨rfl,c,rfl⟩;exact⟨(Kp.refl r w).set 1 _ c,.inl ⟨_,rfl,s[p].toNat_lt,cU.2 (rH s p a),a,k7 h c⟩⟩
 ·refine(rI r p s w d a f h).mono ?_;rintro e w' ⟨rfl,c,rfl⟩;refine⟨(Kp.refl r w).drewN c,.inr ⟨_,rfl,fun b g=>?_⟩⟩;have:=fO g (by rw[ai];exact f);rw[ai] at this;simp at this;omega
theorem Au(r p c:Nat)(s:ByteArray)(w:R3)(f:s.size≤Sw)(g:p≤s.size)(hc:c≤2147483648)(h:w.heap[r]? =RX (bg s p)):
 SF (aa.of RY) 128 #[.pointer (RX ⟨r,0,RZ⟩),.int .i64 (c:Int)] w fun e w'=>Kp r w w'∧((∃ x:ByteArray,e= .returned (.string x)∧x.size=c∧ag (bytesOf s) p (bytesOf x)∧p+c≤s.size∧w'.heap[r]? =RX (bg s (p+c)))∨
  (∃ q,e= .panicked (dU q)∧∀ d:List Nat,d.length=c→¬ ag (bytesOf s) p d)):=by
 by_cases b:p+c≤s.size
 ·refine(DW r p c s w f b h).mono ?_;rintro e w' ⟨rfl,a,rfl⟩;refine⟨(Kp.refl r w).set 1 _ a,.inl ⟨_,rfl,by rw[ByteArray.size_extract];omega,?_,b,k7 h a⟩⟩;rw[cN];exact List.take_prefix _ _
 ·refine(At r p c s w f hc b g h).mono ?_;rintro e w' ⟨rfl,a,rfl⟩;refine⟨(Kp.refl r w).drewN a,.inr ⟨_,rfl,fun d j i=>?_⟩⟩;have:=fO i (by rw[ai];exact g);rw[ai] at this;omega
def wQ{α d:Type}{f g:α→List d}{l:List α}(h:∀ x∈l,f x=g x):l.flatMap f=l.flatMap g:=by
 induction l with
 |nil=>rfl
 |cons x e b=>rw[UF,UF,h x (by simp),b (fun c a=>h c (by simp[a]))]
def rB {α:Type}(ok:Nat→α→Prop)(l:List α):Prop:=∀ a (b:a<l.length),ok a l[a]
def rB.snoc{α:Type}{ok:Nat→α→Prop}{l:List α}{x:α}(h:rB ok l)(d:ok l.length x):rB ok (l ++ [x]):=by
 intro b c;rcases TF b l.length with a|a
 ·rw[List.getElem_append_left a];exact h b a
 ·have:b=l.length:=by simp at c;omega
  subst this;simpa using d
def rB.at{α:Type}{ok:Nat→α→Prop}{l r:List α}{x:α}(h:rB ok (l ++ x :: r)):ok l.length x:=by
 have:=h l.length (by simp);simpa using this
structure Q2{α:Type}(E G:List α→List Nat)(ok:Nat→α→Prop)(B:List Nat)(p:Nat)(C:List Nat)(q cn:Nat)(l:List α):Prop where
 le:l.length≤cn
 Pq:rB ok l
 st:ag B p (E l)
 sc:ag C q (G l)
 GW:∀ L:List α,L.length=cn→rB ok L→ag B p (E L)→ag C q (G L)→∃ m,L=l ++ m
def Q2.zero{α:Type}{E G:List α→List Nat}{ok:Nat→α→Prop}{B C:List Nat}{p q cn:Nat}(b:E []=[])(h1:G []=[]):Q2 E G ok B p C q cn []:=
 ⟨SK _,fun d c=>by simp at c,by rw[b];exact me _ _,by rw[h1];exact me _ _,fun a _ _ _ _=>⟨a,rfl⟩⟩
theorem Q2.next{α:Type}{E G:List α→List Nat}{ok:Nat→α→Prop}{e g:List α→α→List Nat}{B C:List Nat}{p q cn:Nat}{l:List α}(h:Q2 E G ok B p C q cn l)(c:∀ l x,E (l ++ [x])=E l ++ e l x)(d:∀ l x,G (l ++ [x])=G l ++ g l x)(k:l.length<cn)
 (L:List α) (hL:L.length=cn) (f:rB ok L) (b:ag B p (E L)) (hc:ag C q (G L)):∃ x m,L=(l ++ [x]) ++ m∧ok l.length x∧ag B (p+(E l).length) (e l x)∧ag C (q+(G l).length) (g l x):=by
 obtain⟨m,rfl⟩:=h.GW L hL f b hc;cases m with
 |nil=>simp at hL;omega
 |cons x a=>
  obtain⟨n,i⟩:=ya c (l ++ [x]) a;obtain⟨o,j⟩:=ya d (l ++ [x]) a;refine⟨x,a,by simp,f.at,?_,?_⟩
  ·rw[show l ++ x :: a=l ++ [x] ++ a by simp,i,c,SG,an,an] at b;exact b.2.1
  ·rw[show l ++ x :: a=l ++ [x] ++ a by simp,j,d,SG,an,an] at hc;exact hc.2.1
theorem Q2.more{α:Type}{E G:List α→List Nat}{ok:Nat→α→Prop}{e g:List α→α→List Nat}{B C:List Nat}{p q cn:Nat}{l:List α}(h:Q2 E G ok B p C q cn l)(b:∀ l x,E (l ++ [x])=E l ++ e l x)(c:∀ l x,G (l ++ [x])=G l ++ g l x)(o:l.length<cn)
 {x:α} (v:ok l.length x) (s:ag B (p+(E l).length) (e l x)) (hc:ag C (q+(G l).length) (g l x)) (u:∀ y,ok l.length y→ag B (p+(E l).length) (e l y)→ag C (q+(G l).length) (g l y)→y=x):Q2 E G ok B p C q cn (l ++ [x]):=by
 refine⟨by simp;omega,h.Pq.snoc v,by rw[b,an];exact⟨h.st,s⟩,by rw[c,an];exact⟨h.sc,hc⟩,?_⟩;intro d k r t n;obtain⟨y,m,a,f,i,j⟩:=h.next b c o d k r t n;rw[u y f i j] at a;exact⟨m,a⟩
theorem Q2.fail{α:Type}{E G:List α→List Nat}{ok:Nat→α→Prop}{e g:List α→α→List Nat}{B C:List Nat}{p q cn:Nat}{l:List α}(h:Q2 E G ok B p C q cn l)(d:∀ l x,E (l ++ [x])=E l ++ e l x)(f:∀ l x,G (l ++ [x])=G l ++ g l x)(j:l.length<cn)
 (o:∀ y,ok l.length y→ag B (p+(E l).length) (e l y)→¬ ag C (q+(G l).length) (g l y)) (L:List α) (hL:L.length=cn) (k:rB ok L) (n:ag B p (E L)):¬ ag C q (G L):=by
 intro i;obtain⟨y,m,r,a,b,c⟩:=h.next d f j L hL k n i;exact o y a b c
def Q2.done{α:Type}{E G:List α→List Nat}{ok:Nat→α→Prop}{B C:List Nat}{p q cn:Nat}{l:List α}(h:Q2 E G ok B p C q cn l)(f:¬ l.length<cn):
 l.length=cn∧(∀ L:List α,L.length=cn→rB ok L→ag B p (E L)→ag C q (G L)→L=l):=by
 have d:l.length=cn:=by have:=h.le;omega
 refine⟨d,?_⟩;intro L a b e c;obtain⟨m,rfl⟩:=h.GW L a b e c;rw[Sc] at a;have:m=[]:=Ua.1 (by omega);rw[this];simp
structure iV(r q:Nat)(w w':R3):Prop where
 os:w'.os=w.os
 tape:w'.tape=w.tape
 output:w'.output=w.output
 size:w.heap.size≤w'.heap.size
 block:∀ i,i<w.heap.size→i≠r→i≠q→w'.heap[i]? =w.heap[i]?
def iV.refl(r q:Nat)(w:R3):iV r q w w:=⟨rfl,rfl,rfl,R8 _,fun _ _ _ _=>rfl⟩
def iV.trans{r q:Nat}{w e f:R3}(h:iV r q w e)(k:iV r q e f):iV r q w f:=
 ⟨k.os.trans h.os,k.tape.trans h.tape,k.output.trans h.output,Ss h.size k.size,fun d c a b=>(k.block d (Sa c h.size) a b).trans (h.block d c a b)⟩
def iV.iG{r q:Nat}{w a:R3}(h:Kp r w a):iV r q w a:=⟨h.os,h.tape,h.output,h.size,fun e d c _=>Um h e d (fun b=>c (by cases b;rfl))⟩
def iV.C5{r q:Nat}{w a:R3}(h:Kp q w a):iV r q w a:=⟨h.os,h.tape,h.output,h.size,fun e d _ c=>Um h e d (fun b=>c (by cases b;rfl))⟩
def iV.bS{r q:Nat}{w a:R3}(h:Si w.heap.size w a):iV r q w a:=⟨h.os,h.tape,h.output,h.size,fun c b _ _=>h.block c b⟩
def iV.alloc{r q:Nat}{w a:R3}(h:iV r q w a)(o:U9):iV r q w (a.alloc o):=h.trans (iV.iG (Kp.alloc (Kp.refl r a) o))
def iV.grown{r q:Nat}{w d e:R3}{c:Option Nat}(h:iV r q w d)(k:d.grownBy e c)(l:∀ g,c=RX g→w.heap.size≤g):iV r q w e:=
 ⟨k.os.trans h.os,k.tape.trans h.tape,k.output.trans h.output,Ss h.size k.size,fun a b i j=>(k.block a (Sa b h.size) (fun f=>by have:=l a f.symm;omega)).trans (h.block a b i j)⟩
def iV.keep{r q:Nat}{w a:R3}(k:iV r q w a){i:Nat}{o:U9}(h:w.heap[i]? =RX o)(h1:i≠r)(b:i≠q):a.heap[i]? =RX o:=by
 rw[k.block i (Sf h) h1 b];exact h
def iV.own{r q:Nat}{w d:R3}{base e c n:Nat}{v:R2}{f:List R2}(k:iV r q w d)(h:w.ownsRow base e c v n f)(p:r<base)(o:q<base):d.ownsRow base e c v n f:=by
 refine⟨h.1,?_⟩;rcases h.2 with l|⟨a,g,i,rfl,j,b,m⟩
 ·exact .inl l
 ·refine .inr ⟨a,g,i,rfl,j,?_,m⟩;rw[k.block a (Sf b) (by omega) (by omega)];exact b
def JR (cs:List bG)(l:List jw)(c:jw):List Nat:=ax c.text.size ++ bJ (cs.getD l.length ⟨⟨#[]⟩,0⟩).kind c.dS
def rK (cs:List bG)(l:List jw):List Nat:=eg cs l l.length
def tj(cs:List bG)(l:List jw)(c:jw):rK cs (l ++ [c])=rK cs l ++ JR cs l c:=by
 unfold rK;rw[Sc,List.length_singleton,uC];have b:eg cs (l ++ [c]) l.length=eg cs l l.length:=by
  unfold eg;refine wQ (fun e a=>?_);have a:=TC.1 a;unfold qH;rw[Sj,Ty a,← Sj]
 have d:qH cs (l ++ [c]) l.length=JR cs l c:=by
  unfold qH JR;rw[Sj (l:=l ++ [c]),To (R8 _)];simp
 rw[b,d]
structure B5(cs:List bG)(i:Nat)(c:jw):Prop where
 n:c.text.size<2147483648
 b:JN (cs.getD i ⟨⟨#[]⟩,0⟩).kind c.dS
structure ea(cs:List bG)(b:Bd):Prop where
 lo:1≤b.rows
 hi:b.rows≤100
 len:b.chunks.length=cs.length
 each:rB (B5 cs) b.chunks
theorem Ho{k:Int}(l:k=1∨k=2∨k=3){B:List Nat}{p:Nat}{b b':kU}(h:JN k b)(d:JN k b')(c:ag B p (bJ k b))(a:ag B p (bJ k b')):b=b':=by
 have m:∀ {b b':kU},b=bX→b'.there=R7→ag B p (bJ k b)→ag B p (bJ k b')→False:=by
  rintro b b' rfl w c a;unfold bJ at a;rw[if_pos w] at a;have:=gI (show ag B p [0] from c) (an.1 a).1 rfl;simp at this
 rcases h with h|⟨e,r,t,x⟩<;>rcases d with d|⟨f,s,u,y⟩
 ·rw[h,d]
 ·exact(m h f c a).elim
 ·exact(m d e a c).elim
 ·unfold bJ at c a;rw[if_pos e] at c;rw[if_pos f] at a;obtain⟨n,i⟩:=an.1 (an.1 c).2;obtain⟨o,q⟩:=an.1 (an.1 a).2;have g:=lm l r s n o;rw[g] at i;have j:=lm l t u i q;obtain⟨z,C,v⟩:=b;obtain⟨A,D,E⟩:=b';simp only at e f g j;rw[e,f,g,j]
theorem O2{cs:List bG}{l:List jw}(n:(cs.getD l.length ⟨⟨#[]⟩,0⟩).kind=1∨(cs.getD l.length ⟨⟨#[]⟩,0⟩).kind=2∨(cs.getD l.length ⟨⟨#[]⟩,0⟩).kind=3){B C:List Nat}{p q:Nat}{x y:jw}(g:B5 cs l.length x)(h:B5 cs l.length y)(e:ag B p (JR cs l x))(f:ag B p (JR cs l y))(hc:ag C q (bytesOf x.text))(m:ag C q (bytesOf y.text)):y=x:=by
 unfold JR at e f;obtain⟨i,j⟩:=an.1 e;obtain⟨k,a⟩:=an.1 f;have b:=bT (by have:=h.n;omega) (by have:=g.n;omega) k i;rw[b] at a;have c:=Ho n h.b g.b a j;have d:=mD (gI m hc (by rw[ai,ai,b]));obtain⟨o,s⟩:=x;obtain⟨r,t⟩:=y;simp only at c d;rw[c,d]
theorem vB.cy{w:R3}{base:Nat}{v:R2}{l:List bG}(h:w.ownsRow base 63 2 v l.length (dg l)):vB w v l:=by
 rcases h.2 with⟨rfl,g⟩|⟨c,f,j,rfl,k,o,i,m,n,p⟩
 ·have:l=[]:=TA g;subst this;exact⟨RZ,0,0,0,rfl,R8 _,⟨fun h=>by simp at h,fun h=>by simp at h,fun b h=>by simp at h,fun b h=>by simp at h⟩⟩
 ·have e:=h.cells (g:=c) rfl;refine⟨RX ⟨c,0,RZ⟩,c,0,f,rfl,i,⟨fun _=>rfl,fun _=>(h.lt c rfl).2,fun b d=>?_,fun b d=>?_⟩⟩
  ·have:=e _ _ (kY (fun a:bG=>[Value.string a.name,T7 .i64 a.kind]) 2 (fun _=>rfl) l b d 0 _ rfl);simpa [TW] using this
  ·have:=e _ _ (kY (fun a:bG=>[Value.string a.name,T7 .i64 a.kind]) 2 (fun _=>rfl) l b d 1 _ rfl);simpa [TW] using this
def ep (bs:List Bd):Nat:=(bs.map fun a=>a.rows).sum
def Fi(bs:List Bd)(b:Bd):ep (bs ++ [b])=ep bs+b.rows:=by simp[ep]
def Fj(bs:List Bd)(k:Nat)(h:k<bs.length):ep (bs.take (k+1))=ep (bs.take k)+bs[k].rows:=by
 rw[Su h,Fi]
def Dr(bs:List Bd)(h:∀ b∈bs,b.rows≤100):ep bs≤bs.length*100:=by
 induction bs with
 |nil=>simp[ep]
 |cons b g d=>
  have f:=h b (by simp);have a:=d (fun e c=>h e (by simp[c]));simp[ep] at a ⊢;omega
def sj(bs:List Bd)(h:∀ b∈bs,1≤b.rows):bs.length≤ep bs:=by
 induction bs with
 |nil=>simp[ep]
 |cons b g d=>
  have f:=h b (by simp);have a:=d (fun e c=>h e (by simp[c]));simp[ep] at a ⊢;omega
def yT(a b:List bG):dg (a ++ b)=dg a ++ dg b:=by simp[dg]
def zL(l:List bG)(j:Nat)(h:j<l.length):(dg l)[j*2]? =RX (.string l[j].name)∧(dg l)[j*2+1]? =RX (.int .i64 l[j].kind):=
 ⟨kY _ 2 (fun _=>rfl) l j h 0 _ rfl,kY _ 2 (fun _=>rfl) l j h 1 _ rfl⟩
def aa.Pc:((aa.of RY).info? 63).map (fun i=>(i.zero,i.size,i.bytes))=RX (RX (.agg #[.string ⟨#[]⟩,.int .i64 0]),2,24):=by kernel_rfl
def B3 (y:bG×Int):List Nat:=ax y.1.name.size ++ (bytesOf y.1.name ++ [byteOf y.1.kind,byteOf y.2])
def nJ (l:List (bG×Int)):List Nat:=l.flatMap B3
def pU(l:List (bG×Int))(y:bG×Int):nJ (l ++ [y])=nJ l ++ B3 y:=by
 unfold nJ;rw[Tf,Ta]
def NC(y:bG×Int):1≤(B3 y).length:=by unfold B3;simp;omega
def Lp(l:List (bG×Int)):l.length≤(nJ l).length:=by
 induction l with
 |nil=>simp
 |cons b c a=>
  have:=NC b;unfold nJ at a ⊢;rw[UF,Sc,T0];omega
structure Ca(y:bG×Int):Prop where
 n:y.1.name.size<2147483648
 k0:0≤y.1.kind
 k1:y.1.kind<256
 e0:0≤y.2
 e1:y.2<256
def zE{x:Int}(a:0≤x)(h1:x<256):(byteOf x:Int)=x:=by unfold byteOf;omega
def Bf{B:List Nat}{p v:Nat}{y:bG×Int}(b:Ca y)(c:v<2147483648)(a:ag B p (ax v))(h:ag B p (B3 y)):y.1.name.size=v:=by
 unfold B3 at h;exact bT (by have:=b.n;omega) (by omega) (an.1 h).1 a
def Bg{B:List Nat}{p v:Nat}{x:ByteArray}{y:bG×Int}(i:Ca y)(f:v<2147483648)(d:ag B p (ax v))(g:x.size=v)(e:ag B (p+(ax v).length) (bytesOf x))(h:ag B p (B3 y)):y.1.name=x∧ag B (p+(ax v).length+v) [byteOf y.1.kind,byteOf y.2]:=by
 have a:=Bf i f d h;unfold B3 at h;obtain⟨c,b⟩:=an.1 (an.1 h).2;rw[a] at c b;have:=mD (gI c e (by rw[ai,ai,a,g]));rw[ai,a] at b;exact⟨this,b⟩
theorem Px{B:List Nat}{p v e b:Nat}{x:ByteArray}{y:bG×Int}(a:Ca y)(r:v<2147483648)(m:ag B p (ax v))(s:x.size=v)(n:ag B (p+(ax v).length) (bytesOf x))(o:ag B (p+(ax v).length+v) [e])(q:ag B (p+(ax v).length+v+1) [b])(h:ag B p (B3 y)):y=(⟨x,(e:Int)⟩,(b:Int)):=by
 obtain⟨i,j⟩:=Bg a r m s n h;obtain⟨k,l⟩:=eu.1 j;have f:byteOf y.1.kind=e:=by have:=k.symm.trans (cU.1 o);simpa using this
 have g:byteOf y.2=b:=by have:=(cU.1 l).symm.trans (cU.1 q);simpa using this
 have c:=zE a.k0 a.k1;have d:=zE a.e0 a.e1;obtain⟨⟨w,u⟩,t⟩:=y;simp only at i f g c d;rw[f] at c;rw[g] at d;rw[i,c,d]
theorem IM{B:List Nat}{p v b a:Nat}{x:ByteArray}(f:ag B p (ax v))(c:x.size=v)(g:ag B (p+(ax v).length) (bytesOf x))(h:ag B (p+(ax v).length+v) [b])(i:ag B (p+(ax v).length+v+1) [a])(h1:b<256)(j:a<256):ag B p (B3 (⟨x,(b:Int)⟩,(a:Int)))∧(B3 (⟨x,(b:Int)⟩,(a:Int))).length=(ax v).length+v+1+1:=by
 have d:byteOf (b:Int)=b:=by unfold byteOf;omega
 have e:byteOf (a:Int)=a:=by unfold byteOf;omega
 unfold B3;simp only[d,e,c];refine⟨an.2 ⟨f,an.2 ⟨g,?_⟩⟩,by simp[ai,c];omega⟩;rw[ai,c];exact eu.2 ⟨cU.1 h,i⟩
def mr (l:List (bG×Int)):Prop:=fB (l.map SB)∧kH (l.map SB) (l.map T4)
theorem mr.each{l:List (bG×Int)}(h:mr l):(∀ y∈l,Ca y)∧l.length<2147483648:=by
 obtain⟨⟨j,e,f⟩,k,g⟩:=h;refine⟨fun y i=>?_,by simp at e;omega⟩;obtain⟨a,b,rfl⟩:=TK i;have d:=(f a (by simpa using b)).1;have c:=g a (by simpa using b);simp only[Vq,ot,fI,Sz,decide_eq_true_eq] at d;rw[show(l.map T4).getD a 0=l[a].2 by simp[b]] at c;simp only[Vq,aY,fI,UU,Sz,decide_eq_true_eq,beq_iff_eq] at c;exact⟨by omega,by omega,by omega,by omega,by omega⟩
def vM (l:List (bG×Int)):List Nat:=ax l.length ++ nJ l
def Cut (s:ByteArray)(C F:List Nat):Prop:=s.size≤65536∧bytesOf s=cW ++ (C ++ (F ++ (gb F.length ++ cW)))
def Cut.len{s:ByteArray}{C F:List Nat}(h:Cut s C F):s.size=C.length+F.length+12:=by
 have:=congrArg Vn h.2;rw[ai] at this;simp[cW,gb] at this;omega
def K9{a b:Nat}(c:a≤65536)(d:b≤65536)(h:gb a=gb b):a=b:=by
 unfold gb at h;simp at h;omega
theorem Cut.GW{s:ByteArray}{C F a F':List Nat}(h:Cut s C F)(b:Cut s a F'):C=a∧F=F':=by
 have k:=h.len;have l:=b.len;have j:=h.1;have c:=h.2.symm.trans b.2;have d:=List.append_cancel_left c;have e:(C ++ F) ++ (gb F.length ++ cW)=(a ++ F') ++ (gb F'.length ++ cW):=by rw[SG,SG];exact d
 obtain⟨f,g⟩:=List.append_inj' e (by simp[gb]);have i:=K9 (by omega) (by omega) (List.append_cancel_right g);exact List.append_inj' f i
def nB (l:List (bG×Int))(bs:List Bd):List Nat:=vM l ++ (ax bs.length ++ cr (l.map SB) bs)
structure sF(l:List (bG×Int))(bs:List Bd):Prop where
 pl:mr l
 bP:∀ b∈bs,ea (l.map SB) b
 rows:ep bs≤2000
def eP (s:ByteArray)(l:List (bG×Int))(bs:List Bd):Prop:=sF l bs∧Cut s (bp bs) (nB l bs)
def G3 (s:ByteArray)(cs:List bG)(n e:Nat):Prop:=
 (∃ b a,eP s b a∧cs=b.map SB∧n=ep a∧e=0∧∀ d c,eP s d c→d=b∧ep c=ep a)∨((∀ b a,¬ eP s b a)∧cs=[]∧n=0∧e=3)
def Hw(l:List (bG×Int)):∀ n,n≤l.length→gY (l.map SB) (l.map T4) n=nJ (l.take n):=by
 intro n
 induction n with
 |zero=>intro _;simp[gY,nJ]
 |succ n c=>
  intro d;rw[wF,c (by omega),Su (by omega),pU];congr 1;unfold AU B3;have a:(l.map SB).getD n ⟨⟨#[]⟩,0⟩=l[n].1:=by rw[Sj,Sk (by rw[SV];omega)];simp
  have b:(l.map T4).getD n 0=l[n].2:=by rw[Sj,Sk (by rw[SV];omega)];simp
  rw[a,b]
def KM(l:List (bG×Int))(bs:List Bd):iZ (l.map SB) (l.map T4) bs=nB l bs:=by
 unfold iZ nB vM;rw[Hw l _ (by simp),SV,Tk,SG]
structure kF(w W:R3)(g r q n:Nat)(kv:R2)(l:List jw):Prop where
 res:W.heap[w.heap.size]? =RX (.cells #[.int .i64 0,.slice RZ 0 0] 139 (0,0))
 box:W.heap[g]? =RX (.cells #[.int .i64 (n:Int),kv] 139 (0,0))
 own:W.ownsRow w.heap.size 143 8 kv l.length (dw l)
 kp:iV r q w W
def kF.step{w a b:R3}{g r q n:Nat}{c:R2}{l:List jw}(h:kF w a g r q n c l)(e:r<w.heap.size)(d:q<w.heap.size)(f:w.heap.size<g)(k:iV r q a b):kF w b g r q n c l:=
 ⟨k.keep h.res (by omega) (by omega),k.keep h.box (by omega) (by omega),k.own h.own e d,h.kp.trans k⟩
def kF.below{w b c:R3}{g r q n:Nat}{d:R2}{l:List jw}(h:kF w b g r q n d l)(a:Si b.heap.size b c):kF w c g r q n d l:=
 ⟨(a.block _ (Sf h.res)).trans h.res,(a.block _ (Sf h.box)).trans h.box,aM h.own a,h.kp.trans (iV.bS a)⟩
def kF.cells{w a:R3}{g r q n:Nat}{c:R2}{l:List jw}(h:kF w a g r q n c l):
 a.cell? ⟨g,0,RZ⟩=RX (.int .i64 (n:Int))∧a.cell? ⟨g,1,RZ⟩=RX c∧a.frozen? ⟨g,1,RZ⟩=R6:=by
 have b:=h.box;exact⟨by simp[Sr,b],by simp[Sr,b],by simp[S4,b]⟩
def kF.kept{w c a:R3}{g r q n:Nat}{b f:R2}{l:List jw}(h:kF w c g r q n b l)(e:aP c a b f):
 a.cell? ⟨g,1,RZ⟩=RX b∧a.frozen? ⟨g,1,RZ⟩=R6:=by
 have d:=(e.ij.block _ (Sf h.box) (bk h.own h.box (by decide))).trans h.box;exact⟨by simp[Sr,d],by simp[S4,d]⟩
theorem kF.kQ{w e b:R3}{g r q n:Nat}{k a:R2}{l d:List jw}(h:kF w e g r q n k l)(t:w.heap.size<g)(c:aP e b k a)(j:b.ownsRow w.heap.size 143 8 a d.length (dw d)):
 kF w (b.setCell ⟨g,1,RZ⟩ a) g r q n a d:=by
 have o:=(c.ij.block _ (Sf h.res) (bk h.own h.res (by decide))).trans h.res;have i:=(c.ij.block _ (Sf h.box) (bk h.own h.box (by decide))).trans h.box;have p:=Sq b g 1 _ _ a i;refine⟨?_,p,?_,?_⟩
 ·rw[Sv _ _ _ _ (by simp;omega)];exact o
 ·exact j.kept (aG b _ 1 a) (.inr (bk j i (by decide)).symm)
 ·exact(h.kp.grown c.ij (fun f s=>(h.own.lt f s).1)).grown (aG b g 1 a) (fun f m=>by cases m;omega)
def kF.reader{w a b:R3}{g r q n:Nat}{d e:R2}{l:List jw}(h:kF w a g r q n d l)(k:w.heap.size<g)(j:aP a b d e){i:Nat}{o:U9}(m:i<w.heap.size)(c:a.heap[i]? =RX o):(b.setCell ⟨g,1,RZ⟩ e).heap[i]? =RX o:=by
 rw[Sv _ _ _ _ (by simp;omega),j.ij.block i (Sf c) (fun f=>by have:=(h.own.lt i f.symm).1;omega)];exact c
def Ql (cs:List bG)(w:R3)(r p:Nat)(s:ByteArray)(q t:Nat)(z:ByteArray)(e:UQ)(w':R3):Prop:=
 iV r q w w'∧((∃ (a:Bd) (c:R2),e= .returned (.agg #[.int .i64 (a.rows:Int),c])∧ea cs a∧ag (bytesOf s) p (dV cs a)∧p+(dV cs a).length≤s.size∧w'.heap[r]? =RX (bg s (p+(dV cs a).length))∧ag (bytesOf z) t (bL a.chunks)∧t+(bL a.chunks).length≤z.size∧w'.heap[q]? =RX (bg z (t+(bL a.chunks).length))∧
  w'.ownsRow w.heap.size 143 8 c a.chunks.length (dw a.chunks)∧(∀ b,ea cs b→ag (bytesOf s) p (dV cs b)→ag (bytesOf z) t (bL b.chunks)→b=a))∨
  (∃ m,e= .panicked (dU m)∧∀ a,ea cs a→ag (bytesOf s) p (dV cs a)→¬ ag (bytesOf z) t (bL a.chunks)))
theorem zP(co E:Option SL)(cn B D C base:Nat)(t:R2)(L:List (Bd×R2))(w:R3)(m:iu w base t L)(W:L.length≤65536)(y:∀ b∈L.map SB,b.rows≤100):
 SF (aa.of RY) 45 #[.agg #[.slice co cn B,.slice E D C,t]] w fun e w'=>e= .returned (.int .i64 (ep (L.map SB):Int))∧Si w.heap.size w w':=by
 have u:∀ k∈L,∃ g f c,k.2= .slice g f c:=fun k K=>by
  obtain⟨g,c,F⟩:=dz (m.each k K);exact⟨g,_,c,F⟩
 obtain⟨A,P,H⟩:=dz m.own;have n:=ON.cy pJ m.own;subst H;obtain⟨O,h,j,S,I,n⟩:=n;cases I;have l:Sb (AF w kW 2 A h j L):=n;have z:Sb (∀ k∈L,∃ g f c,k.2= .slice g f c):=u;have s:Sb (∀ b∈L.map SB,b.rows≤100):=y;clear m n u y;go_enter aa.func45,Tryz.ntmps45
 go_wp2_with fail
 go_loopw [3,9] (fun f q wr=>∃ a:Nat,a≤L.length∧q= .int .i64 (a:Int)∧f= .int .i64 (ep ((L.map SB).take a):Int)∧Si w.heap.size w wr) (fun _ q _=>L.length - (S2 q).toNat)
 case atStart=>exact⟨0,SK _,rfl,rfl,(So _ _).alloc (R8 _) _⟩
 case round=>
  obtain⟨a,V,rfl,rfl,d⟩:=hrel;have r:Sb (Si w.heap.size w wr):=d;have M:=d.size;by_cases i:a<L.length
  ·have v:a<(L.map SB).length:=by rw[SV];exact i
   have o:Sb (ep ((L.map SB).take (a+1))=ep ((L.map SB).take a)+L[a].1.rows):=by
    show _=_;rw[Fj _ _ v];simp
   have Y:ep ((L.map SB).take a)≤65536*100:=by
    have T:=Dr ((L.map SB).take a) (fun b d=>s.out b (UO d));have G:((L.map SB).take a).length≤65536:=by simp;omega
    have U:=Nat.mul_le_mul_right 100 G;omega
   have X:L[a].1.rows≤100:=s.out _ (Tu.2 ⟨L[a],Sl i,rfl⟩);obtain⟨g,f,c,x⟩:=z.out L[a] (Sl i);have J:=l.out.addr (by omega);subst J;have p:=l.out.lt (by omega);have Q:wr.cell? ⟨h,j+a*2,RZ⟩=RX (.int .i64 (L[a].1.rows:Int)):=(d.cell (p:=⟨h,j+a*2,RZ⟩) p).trans (l.out.c a i 0 _ rfl);have R:wr.cell? ⟨h,j+a*2+1,RZ⟩=RX (.slice g f c):=(d.cell (p:=⟨h,j+a*2+1,RZ⟩) p).trans (by rw[← x];exact l.out.c a i 1 _ rfl);generalize L[a].1.rows=Z at*;generalize ep ((L.map SB).take a)=N at*;clear d x v p
   go_wp2_with fail
   go_roundw
   case rel=>exact⟨a+1,by omega,by go_num,by rw[o.out];go_num,r.out.alloc M _⟩
   case measure=>simp[S2];omega
  ·obtain rfl:a=L.length:=by omega
   have o:Sb ((L.map SB).take L.length=L.map SB):=by show _=_;rw[← SV (f:=SB),Tk]
   go_wp2;go_ret;exact⟨by first|rfl|(rw[o.out];rfl),r.out⟩
def OK{n:Nat}(h:n<256):Tw (n:Int)=(n:Int)∧Wb.wrap (n:Int)=(n:Int):=by
 constructor
 ·unfold Tw;omega
 ·rw[IntKind.wrap_i64];omega
def Qm (w:R3)(r p:Nat)(s:ByteArray)(e:UQ)(w':R3):Prop:=
 Kp r w w'∧((∃ (a:List (bG×Int)) (c d:R2),e= .returned (.tuple #[c,d])∧mr a∧ag (bytesOf s) p (vM a)∧p+(vM a).length≤s.size∧w'.heap[r]? =RX (bg s (p+(vM a).length))∧w'.ownsRow w.heap.size 63 2 c a.length (dg (a.map SB))∧w'.ownsRow w.heap.size 3 1 d a.length (aW (a.map T4))∧(∀ b,mr b→ag (bytesOf s) p (vM b)→b=a))∨
  (∃ f,e= .panicked (dU f)∧∀ a,mr a→¬ ag (bytesOf s) p (vM a)))
theorem vm(r p:Nat)(s:ByteArray)(w:R3)(e2:s.size≤65536)(gf:p≤s.size)(h:w.heap[r]? =RX (bg s p)):
 SF (aa.of RY) 94 #[.pointer (RX ⟨r,0,RZ⟩)] w (Qm w r p s):=by
 obtain⟨gv,f7,gr,gs,gt⟩:=TB aa.Pc;obtain⟨gx,gg,gl,gn,gq⟩:=TB aa.CP;have A:r<w.heap.size:=Sf h;have Y:s.size≤Sw:=by unfold Sw;omega
 have ds:Sb (w.heap[r]? =RX (bg s p)):=h;clear h;go_enter aa.func94,Tryz.ntmps94
 go_wp2_with fail
 refine(iR r p s _ Y gf ds.out).mono ?_;rintro d c1 ⟨a6,⟨x,rfl,e3,e8,er,cc⟩|⟨y,rfl,g⟩⟩;rotate_left
 ·have aw:Sb (∀ a,mr a→¬ ag (bytesOf s) p (vM a)):=fun a f8 c=>g _ f8.each.2 (an.1 c).1;have ar:Sb (Kp r w c1):=a6;clear g a6;go_wp2;exact⟨rfl,ar.out,.inr ⟨y,rfl,aw.out⟩⟩
 ·have b0:Sb (ag (bytesOf s) p (ax x)):=e8;have n:Sb (x<2147483648):=e3;obtain⟨m,cu⟩:∃ m,m=p+(ax x).length:=⟨_,rfl⟩;have bx:Sb (m=p+(ax x).length):=cu;rw[← cu] at er cc;have dt:Sb (c1.heap[r]? =RX (bg s m)):=cc;have ar:Sb (Kp r w c1):=a6;have e4:(x:Int)<2147483648:=by omega
  clear e8 cu cc a6 ds e3
  go_wp2_with fail
  go_loopw [2,3,7] (fun f5 f6 c0 wr=>∃ a:List (bG×Int),c0= .int .i64 (a.length:Int)∧vY nJ Ca (bytesOf s) m x a∧m+(nJ a).length≤s.size∧wr.heap[r]? =RX (bg s (m+(nJ a).length))∧wr.ownsRow w.heap.size 63 2 f5 a.length (dg (a.map SB))∧wr.ownsRow w.heap.size 3 1 f6 a.length (aW (a.map T4))∧Kp r w wr) (fun _ _ c0 _=>x - (S2 c0).toNat)
  case atStart=>exact⟨[],rfl,vY.zero rfl,by simpa [nJ] using er,by simpa [nJ] using dt.out,Ur _ _ _ _,Ur _ _ _ _,ar.out⟩
  case round=>
   clear ar dt;obtain⟨a,rfl,ce,Z,ec,e5,e6,eb⟩:=hrel;have a3:Sb (vY nJ Ca (bytesOf s) m x a):=ce;have O:Sb (wr.heap[r]? =RX (bg s (m+(nJ a).length))):=ec;have ao:Sb (Kp r w wr):=eb;have F:Sb (wr.ownsRow w.heap.size 63 2 u2 a.length (dg (a.map SB))):=e5;have G:Sb (wr.ownsRow w.heap.size 3 1 u3 a.length (aW (a.map T4))):=e6;have ba:a.length≤65536:=by have:=Lp a;omega
   have e0:=ce.le;obtain⟨i,cv⟩:∃ i,i=m+(nJ a).length:=⟨_,rfl⟩;have N:Sb (i=m+(nJ a).length):=cv;rw[← cv] at Z O;clear ce ec eb e5 e6 cv;by_cases cn:a.length<x
   ·have am:Sb ((∀ j,Ca j→¬ ag (bytesOf s) i (B3 j))→∀ b,mr b→¬ ag (bytesOf s) p (vM b)):=fun B b k c=>by
     obtain⟨R,z⟩:=an.1 c;have X:=bT (by have:=k.each.2;omega) (by omega) R b0.out;rw[X] at z;refine a3.out.fail (e:=fun _ j=>B3 j) pU cn (fun j t=>?_) b X k.each.1 (by rw[bx.out];exact z);rw[← N.out];exact B j t
    go_wp2_with fail
    refine(iR r i s _ Y Z O.out).mono ?_;rintro d ab ⟨J,⟨v,rfl,fe,e9,ck,cd⟩|⟨y,rfl,g⟩⟩;rotate_left
    ·have aw:=am.out (fun j t c=>g _ t.n (an.1 c).1);have n:Sb (∀ b,mr b→¬ ag (bytesOf s) p (vM b)):=aw;have K:Sb (Kp r w ab):=ao.out.trans J;clear g J aw;go_wp2;exact⟨rfl,K.out,.inr ⟨y,rfl,n.out⟩⟩
    ·have I:Sb (v<2147483648):=fe;have H:Sb (ag (bytesOf s) i (ax v)):=e9;have fg:v≤2147483648:=by omega
     have K:Sb (Kp r w ab):=ao.out.trans J;have db:Sb (ab.ownsRow w.heap.size 63 2 u2 a.length (dg (a.map SB))):=J.own F.out A;have dk:Sb (ab.ownsRow w.heap.size 3 1 u3 a.length (aW (a.map T4))):=J.own G.out A;obtain⟨e,cx⟩:∃ e,e=i+(ax v).length:=⟨_,rfl⟩;have o:Sb (e=i+(ax v).length):=cx;rw[← cx] at ck cd;have du:Sb (ab.heap[r]? =RX (bg s e)):=cd;clear e9 J cd cx ao F G O fe
     go_wp2_with fail
     refine(Au r e v s _ Y ck fg du.out).mono ?_;rintro d ad ⟨S,⟨f,rfl,fk,fa,es,ee⟩|⟨y,rfl,g⟩⟩;rotate_left
     ·have n:Sb (∀ b,mr b→¬ ag (bytesOf s) p (vM b)):=am.out (fun j t c=>g (bytesOf j.1.name) (by rw[ai];exact Bf t I.out H.out c) (by unfold B3 at c;rw[Bf t I.out H.out (by unfold B3;exact c)] at c;rw[o.out];exact(an.1 (an.1 c).2).1));have L:Sb (Kp r w ad):=K.out.trans S;clear g;go_wp2;exact⟨rfl,L.out,.inr ⟨y,rfl,n.out⟩⟩
     ·have a4:Sb (ag (bytesOf s) e (bytesOf f)):=fa;have P:Sb (f.size=v):=fk;have c8:Sb (Kp r w ad):=K.out.trans S;have dc:Sb (ad.ownsRow w.heap.size 63 2 u2 a.length (dg (a.map SB))):=S.own db.out A;have dl:Sb (ad.ownsRow w.heap.size 3 1 u3 a.length (aW (a.map T4))):=S.own dk.out A;have bB:Sb (ad.heap[r]? =RX (bg s (e+v))):=ee;have fi:f.size≤65536:=by omega
      have c5:Sb (∀ q,SF (aa.of RY) 66 #[.string f] q fun d C=>d= .returned (.string f)∧Si q.heap.size q C):=fun q=>wC f q fi;clear fa fk S ee K db dk du fi
      go_upto_region 4 with(go_at_call 66;refine(c5.out _).mono ?_;rintro d bb ⟨rfl,V⟩)
      have bm:Sb (Kp r w bb):=c8.out.trans (Kp.bS V);have dd:Sb (bb.ownsRow w.heap.size 63 2 u2 a.length (dg (a.map SB))):=aM dc.out V;have dp:Sb (bb.ownsRow w.heap.size 3 1 u3 a.length (aW (a.map T4))):=aM dl.out V;have dv:Sb (bb.heap[r]? =RX (bg s (e+v))):=(V.block _ (Sf bB.out)).trans bB.out;clear V c8 dc dl bB c5
      go_wp2_with fail
      refine(zF r (e+v) s _ Y es dv.out).mono ?_;rintro d D ⟨T,⟨l,rfl,ci,fb,et,ef⟩|⟨y,rfl,g⟩⟩;rotate_left
      ·have n:Sb (∀ b,mr b→¬ ag (bytesOf s) p (vM b)):=am.out (fun j t c=>g _ (cU.2 (eu.1 (by have:=(Bg t I.out H.out P.out (by rw[← o.out];exact a4.out) c).2;rw[← o.out] at this;exact this)).1));have L:Sb (Kp r w D):=bm.out.trans T;clear g;go_wp2;exact⟨rfl,L.out,.inr ⟨y,rfl,n.out⟩⟩
      ·have d0:Sb (ag (bytesOf s) (e+v) [l]):=fb;have bo:Sb (Kp r w D):=bm.out.trans T;have co:=T.own dd.out A;have a0:Sb (D.ownsRow w.heap.size 63 2 u2 a.length (dg (a.map SB))):=co;have bv:Sb (D.ownsRow w.heap.size 3 1 u3 a.length (aW (a.map T4))):=T.own dp.out A;have dC:Sb (D.heap[r]? =RX (bg s (e+v+1))):=ef;have gi:=bo.out.size;clear fb T ef bm dd dp dv;have g0:=(OK ci).2;have da:Sb (l<256):=ci;have M:Sb (a.length≤65536):=ba;have ft:Sb (e+v+1≤s.size):=et;clear fg ci ba e2 e4 et es ck Z e0
       go_upto_region 5 with(at_builtin;refine wpList_append_lies _ rfl _ _ 44 rfl w.heap.size 63 gv _ 2 24 aa.underlying44 f7 gr gs gt rfl (by decide) _ a.length _ rfl (co.alloc _) ⟨D.heap.size,0,RZ⟩ 1 1 [.string f,.int .i64 (l:Int)] rfl rfl (GS D _ _ _) (by intro gy B;simp at B;rcases B with rfl|rfl<;>rfl) (by decide) (by have:=M.out;unfold Sw;omega) (by have:=M.out;omega) (by simp;omega) _ rfl ?_;intro d5 b2 bc e7 eo em f9)
       have a8:=aP.j9 (n:=a.length+1) (cap:=b2) eo em;have br:Sb (Kp r w bc):=bo.out.grown a8.ij (fun cb ch=>(a0.out.lt cb ch).1);have dE:Sb (bc.heap[r]? =RX (bg s (e+v+1))):=(a8.ij.block r (by omega) (fun d=>by have:=(a0.out.lt r d.symm).1;omega)).trans dC.out;have df:Sb (bc.ownsRow w.heap.size 63 2 (.slice (RX ⟨d5,0,RZ⟩) (a.length+1) b2) (a.length+1) (dg (a.map SB) ++ [.string f,.int .i64 (l:Int)])):=e7;have dq:Sb (bc.ownsRow w.heap.size 3 1 u3 a.length (aW (a.map T4))):=eG bv.out a8 (oJ bv.out a0.out (by decide));clear e7 eo em f9 a8 co a0 bv bo dC gi;generalize Te (RX ⟨d5,0,RZ⟩) (a.length+1) b2=d4 at*
       go_wp2_with fail
       refine(zF r (e+v+1) s _ Y ft.out dE.out).mono ?_;rintro d E ⟨U,⟨u,rfl,cf,fd,eQ,eh⟩|⟨y,rfl,g⟩⟩;rotate_left
       ·have n:Sb (∀ b,mr b→¬ ag (bytesOf s) p (vM b)):=am.out (fun j t c=>g _ (by have:=(Bg t I.out H.out P.out (by rw[← o.out];exact a4.out) c).2;rw[← o.out] at this;exact(eu.1 this).2));have L:Sb (Kp r w E):=br.out.trans U;clear g;go_wp2;exact⟨rfl,L.out,.inr ⟨y,rfl,n.out⟩⟩
       ·have d1:Sb (ag (bytesOf s) (e+v+1) [u]):=fd;have bs:Sb (Kp r w E):=br.out.trans U;have bu:Sb (E.ownsRow w.heap.size 63 2 d4 (a.length+1) (dg (a.map SB) ++ [.string f,.int .i64 (l:Int)])):=U.own df.out A;have cp:=U.own dq.out A;have a1:Sb (E.ownsRow w.heap.size 3 1 u3 a.length (aW (a.map T4))):=cp;have dO:Sb (E.heap[r]? =RX (bg s (e+v+1+1))):=eh;have gj:=bs.out.size;have gN:=(OK cf).2;have c7:Sb (u<256):=cf;have fu:Sb (e+v+1+1≤s.size):=eQ;clear cf eQ;clear fd U eh br df dq dE
        go_upto_region 6 with(at_builtin;refine wpList_append_lies _ rfl _ _ 22 rfl w.heap.size 3 gx _ 1 8 aa.underlying22 gg gl gn gq rfl (by decide) _ a.length _ rfl (cp.alloc _) ⟨E.heap.size,0,RZ⟩ 1 1 [.int .i64 (u:Int)] rfl rfl (je E _ _) (by intro gy B;simp at B;subst B;rfl) (by decide) (by have:=M.out;unfold Sw;omega) (by have:=M.out;omega) (by simp;omega) _ rfl ?_;intro d6 b3 bd cs eq en gc)
        have a9:=aP.j9 (n:=a.length+1) (cap:=b3) eq en;have fm:Sb (Kp r w bd):=bs.out.grown a9.ij (fun cb ch=>(a1.out.lt cb ch).1);have f4:Sb (bd.heap[r]? =RX (bg s (e+v+1+1))):=(a9.ij.block r (by omega) (fun d=>by have:=(a1.out.lt r d.symm).1;omega)).trans dO.out;have f0:Sb (bd.ownsRow w.heap.size 3 1 (.slice (RX ⟨d6,0,RZ⟩) (a.length+1) b3) (a ++ [((⟨f,(l:Int)⟩:bG),(u:Int))]).length (aW ((a ++ [((⟨f,(l:Int)⟩:bG),(u:Int))]).map T4))):=by
         show World.ownsRow _ _ _ _ _ _ _;rw[Sc,Tb];unfold aW at cs ⊢;rw[Tb];exact cs
        have fx:Sb (bd.ownsRow w.heap.size 63 2 d4 (a ++ [((⟨f,(l:Int)⟩:bG),(u:Int))]).length (dg ((a ++ [((⟨f,(l:Int)⟩:bG),(u:Int))]).map SB))):=by
         have:=eG bu.out a9 (oJ bu.out a1.out (by decide));show World.ownsRow _ _ _ _ _ _ _;rw[Sc,Tb,yT];exact this
        have cR:=IM H.out P.out (by rw[← o.out];exact a4.out) (by rw[← o.out];exact d0.out) (by rw[← o.out];exact d1.out) da.out c7.out;have fv:Sb (vY nJ Ca (bytesOf s) m x (a ++ [((⟨f,(l:Int)⟩:bG),(u:Int))])):=a3.out.more (e:=fun _ j=>B3 j) pU cn ⟨by have:=P.out;have:=I.out;show f.size<_;omega,by show(0:Int)≤(l:Int);omega,by have:=da.out;show(l:Int)<256;omega,by show(0:Int)≤(u:Int);omega,by have:=c7.out;show(u:Int)<256;omega⟩ (by rw[← N.out];exact cR.1) (fun j t c=>by
         rw[← N.out] at c;exact Px t I.out H.out P.out (by rw[← o.out];exact a4.out) (by rw[← o.out];exact d0.out) (by rw[← o.out];exact d1.out) c)
        have dr:Sb (m+(nJ (a ++ [((⟨f,(l:Int)⟩:bG),(u:Int))])).length=e+v+1+1):=by
         show _=_;have R:=N.out;have z:=o.out;rw[pU,Sc,cR.2];omega
        clear cs eq en gc a9 cp a1 bu bs dO cR gj;generalize Te (RX ⟨d6,0,RZ⟩) (a.length+1) b3=gF at*;have ba:=M.out
        go_wp2_with fail
        go_roundw
        case rel=>exact⟨_,by rw[Sc];go_num,fv.out,by rw[dr.out];exact fu.out,by rw[dr.out];exact f4.out,fx.out,f0.out,fm.out⟩
        case measure=>simp[S2];omega
   ·have al:=a3.out.done cn;have b1:Sb (∀ b,mr b→ag (bytesOf s) p (vM b)→b=a):=fun b k c=>by
     obtain⟨R,z⟩:=an.1 c;have X:=bT (by have:=k.each.2;omega) (by omega) R b0.out;rw[X,← bx.out] at z;exact al.2 b X k.each.1 z
    have bA:Sb (p+(vM a).length=i∧ag (bytesOf s) p (vM a)):=by
     have R:=N.out;have z:=bx.out;have d7:=al.1;refine⟨by unfold vM;rw[Sc,d7];omega,?_⟩;unfold vM;rw[d7];exact an.2 ⟨b0.out,by rw[← z];exact a3.out.st⟩
    have f2:Sb (i≤s.size):=Z;obtain⟨a5,aD,rfl⟩:=dz F.out;obtain⟨ca,b4,rfl⟩:=dz G.out;have bl:Sb (vB wr (.slice a5 a.length aD) (a.map SB)):=vB.cy (by rw[SV];exact F.out);have c6:Sb (qx wr (.slice ca a.length b4) (a.map T4)):=qx.cy (by rw[SV];exact G.out);have cl:(a.map SB).length≤Sw:=by rw[SV];unfold Sw;omega
    have e1:(a.map T4).length≤Sw:=by rw[SV];unfold Sw;omega
    have c2:Sb (SF (aa.of RY) 55 #[.slice a5 a.length aD] wr fun d C=>∃ Q,d= .returned (.bool Q)∧(Q=R7↔fB (a.map SB))∧Si wr.heap.size wr C):=lI (a.map SB) _ wr cl bl.out;have c3:Sb (∀ q,Si wr.heap.size wr q→SF (aa.of RY) 57 #[.slice ca a.length b4,.slice a5 a.length aD] q fun d C=>∃ Q,d= .returned (.bool Q)∧(Q=R7↔kH (a.map SB) (a.map T4))∧Si q.heap.size q C):=fun q el=>m0 (a.map SB) (a.map T4) _ _ q cl e1 (bl.out.below el) (c6.out.lower el);have ge:x=a.length:=al.1.symm;subst ge;clear e4 ba e2 e0 Z al cl e1 bl c6
    go_wp2_with fail
    refine c2.out.mono ?_;rintro d be ⟨d2,rfl,d8,a7⟩;have bt:Sb (Kp r w be):=ao.out.trans (Kp.bS a7);have a2:Sb (be.heap[r]? =RX (bg s i)):=(a7.block r (Sf O.out)).trans O.out;have ae:Sb (Si wr.heap.size wr be):=a7;have bj:Sb (d2=R7↔fB (a.map SB)):=d8;clear d8 a7 c2;cases d2
    ·have n:Sb (∀ b,mr b→¬ ag (bytesOf s) p (vM b)):=fun b k c=>by
      have:=b1.out b k c;rw[this] at k;exact absurd (bj.out.2 k.1) (by simp)
     go_wp2_with (go_at_call 97;refine(bN r i s _ a2.out).mono ?_;rintro d C ⟨rfl,rfl⟩)
     exact⟨rfl,bt.out,.inr ⟨_,rfl,n.out⟩⟩
    ·have fl:Sb (fB (a.map SB)):=bj.out.1 rfl;clear bj
     go_wp2_with fail
     refine(c3.out be ae.out).mono ?_;rintro d bi ⟨d3,rfl,d9,W⟩;have c9:Sb (Kp r w bi):=bt.out.trans (Kp.bS W);have dT:Sb (bi.heap[r]? =RX (bg s i)):=(W.block r (Sf a2.out)).trans a2.out;have fz:Sb (bi.ownsRow w.heap.size 63 2 (.slice a5 a.length aD) a.length (dg (a.map SB))):=aM (aM F.out ae.out) W;have f1:Sb (bi.ownsRow w.heap.size 3 1 (.slice ca a.length b4) a.length (aW (a.map T4))):=aM (aM G.out ae.out) W;have c4:Sb (d3=R7↔kH (a.map SB) (a.map T4)):=d9;clear d9 W c3 bt a2 ae F G;cases d3
     ·have n:Sb (∀ b,mr b→¬ ag (bytesOf s) p (vM b)):=fun b k c=>by
       have:=b1.out b k c;rw[this] at k;exact absurd (c4.out.2 k.2) (by simp)
      go_wp2_with (go_at_call 97;refine(bN r i s _ dT.out).mono ?_;rintro d C ⟨rfl,rfl⟩)
      exact⟨rfl,c9.out,.inr ⟨_,rfl,n.out⟩⟩
     ·have f3:Sb (mr a):=⟨fl.out,c4.out.1 rfl⟩;go_wp2
      go_ret2
      exact⟨c9.out,.inl ⟨a,_,_,rfl,f3.out,bA.out.2,by rw[bA.out.1];exact f2.out,by rw[bA.out.1];exact dT.out,fz.out,f1.out,b1.out⟩⟩
theorem Kr{b:R3}{base n cap:Nat}{co:Option SL}{cs:List bG}(h:b.ownsRow base 63 2 (.slice co n cap) cs.length (dg cs))(m:0<cs.length):∃ g,co=RX ⟨g,0,RZ⟩∧base≤g∧g<b.heap.size∧qR b co g 0 cs:=by
 rcases h.2 with⟨f,o⟩|⟨g,k,l,f,j,i,r,p,q,s⟩
 ·omega
 ·cases f;have e:=h.cells (g:=g) rfl;refine⟨g,rfl,j,Sf i,⟨fun _=>rfl,fun _=>Sf i,fun d c=>?_,fun d c=>?_⟩⟩
  ·have:=e _ _ (kY (fun a:bG=>[Value.string a.name,T7 .i64 a.kind]) 2 (fun _=>rfl) cs d c 0 _ rfl);simpa [TW] using this
  ·have:=e _ _ (kY (fun a:bG=>[Value.string a.name,T7 .i64 a.kind]) 2 (fun _=>rfl) cs d c 1 _ rfl);simpa [TW] using this
theorem Bp(cs:List bG)(dT:R2)(r p q t base:Nat)(s z:ByteArray)(w:R3)(ha:r≠q)(g7:s.size≤65536)(hc:z.size≤65536)(gf:p≤s.size)(gg:t≤z.size)(h:w.heap[r]? =RX (bg s p))(x:w.heap[q]? =RX (bg z t))(f3:r<base)(f4:q<base)
 (cf:w.ownsRow base 63 2 dT cs.length (dg cs)) (g5:cs.length≤8) (eb:∀ i (h:i<cs.length),cs[i].kind=1∨cs[i].kind=2∨cs[i].kind=3):
 SF (aa.of RY) 96 #[.pointer (RX ⟨r,0,RZ⟩),.pointer (RX ⟨q,0,RZ⟩),dT] w (Ql cs w r p s q t z):=by
 obtain⟨gq,f8,gi,gj,gl⟩:=TB aa.Gt;have a3:r<w.heap.size:=Sf h;have a2:q<w.heap.size:=Sf x;have ci:s.size≤Sw:=by unfold Sw;omega
 have gn:z.size≤Sw:=by unfold Sw;omega
 have fk:Sb (∀ i (h:i<cs.length),cs[i].kind=1∨cs[i].kind=2∨cs[i].kind=3):=eb;obtain⟨dO,aD,rfl⟩:=dz cf;have fa:Sb (w.ownsRow base 63 2 (.slice dO cs.length aD) cs.length (dg cs)):=cf;have df:Sb ((w.alloc (.cells #[.int .i64 0,.slice RZ 0 0] 139)).heap[r]? =RX (bg s p)):=by
  show _=_;rw[SP _ _ r a3];exact h
 have c8:Sb ((w.alloc (.cells #[.int .i64 0,.slice RZ 0 0] 139)).heap[q]? =RX (bg z t)):=by
  show _=_;rw[SP _ _ q a2];exact x
 have bl:Sb (iV r q w (w.alloc (.cells #[.int .i64 0,.slice RZ 0 0] 139))):=(iV.refl r q w).alloc _;clear h x cf eb;go_enter aa.func96,Tryz.ntmps96
 go_wp2_with fail
 refine(iR r p s _ ci gf df.out).mono ?_;rintro N H ⟨V,⟨c,rfl,en,es,ef,d2⟩|⟨m,rfl,G⟩⟩;rotate_left
 ·have I:Sb (∀ b,ea cs b→ag (bytesOf s) p (dV cs b)→¬ ag (bytesOf z) t (bL b.chunks)):=fun b B W=>(G _ (by have:=B.hi;omega) (an.1 W).1).elim;have fd:Sb (iV r q w H):=bl.out.trans (iV.iG V);clear G V;go_wp2;exact⟨rfl,fd.out,.inr ⟨m,rfl,I.out⟩⟩
 ·have d0:H.heap[q]? =RX (bg z t):=Kp.block V c8.out (by omega);have f:kF w (H.alloc (.cells #[.int .i64 (c:Int),.slice RZ 0 0] 139)) H.heap.size r q c (.slice RZ 0 0) []:=by
   refine⟨?_,bw H _,Ur _ _ _ _,(bl.out.trans (iV.iG V)).alloc _⟩;have:=Kp.block V (T8 w (.cells #[.int .i64 0,.slice RZ 0 0] 139)) (by omega);exact alloc_old _ (by simpa using Sf this) this
  have am:w.heap.size<H.heap.size:=by have:=V.size;simp at this;omega
  have cc:(H.alloc (.cells #[.int .i64 (c:Int),.slice RZ 0 0] 139)).heap[r]? =RX (bg s (p+(ax c).length)):=by rw[SP _ _ r (by omega)];exact d2
  have d1:(H.alloc (.cells #[.int .i64 (c:Int),.slice RZ 0 0] 139)).heap[q]? =RX (bg z t):=by rw[SP _ _ q (by omega)];exact d0
  go_upto_region 2 with fail
  generalize H.alloc (.cells #[.int .i64 (c:Int),.slice RZ 0 0] 139)=b1 at*;generalize H.heap.size=j at*;clear V d2 d0 df c8 bl;clear H;obtain⟨n,cl⟩:∃ n,n=p+(ax c).length:=⟨_,rfl⟩;have bm:Sb (n=p+(ax c).length):=cl;rw[← cl] at cc ef;have a9:Sb (ag (bytesOf s) p (ax c)):=es;have a8:Sb (b1.heap[r]? =RX (bg s n)):=cc;have c9:Sb (b1.heap[q]? =RX (bg z t)):=d1;have P:Sb (kF w b1 j r q c (.slice RZ 0 0) []):=f;obtain⟨bd,a5,cu⟩:=f.cells;clear es cl cc d1 f;by_cases d9:1≤c∧c≤100;rotate_left
  ·have I:Sb (∀ b,ea cs b→ag (bytesOf s) p (dV cs b)→¬ ag (bytesOf z) t (bL b.chunks)):=fun b B W=>by
    have:=bT (by have:=B.hi;omega) (by omega) (an.1 W).1 a9.out;have R:=B.lo;have x:=B.hi;omega
   by_cases g4:c<1
   ·have ch:decide ((c:Int)<1)=R7:=by simp;omega
    go_wp2_with (go_at_call 97;refine(bN r n s _ a8.out).mono ?_;rintro N gx ⟨rfl,rfl⟩)
    exact⟨rfl,P.out.kp,.inr ⟨_,rfl,I.out⟩⟩
   ·have ch:decide ((c:Int)<1)=R6:=by simp;omega
    have d7:decide (100<(c:Int))=R7:=by simp;omega
    go_wp2_with (go_at_call 97;refine(bN r n s _ a8.out).mono ?_;rintro N gx ⟨rfl,rfl⟩)
    exact⟨rfl,P.out.kp,.inr ⟨_,rfl,I.out⟩⟩
  ·have ch:decide ((c:Int)<1)=R6:=by simp;omega
   have d7:decide (100<(c:Int))=R6:=by simp;omega
   have c3:Sb (1≤c∧c≤100):=d9;have c7:Sb (c<2147483648):=en
   go_upto_region 4 with fail
   clear ch d7 d9 en bd a5 cu
   go_wp2_with fail
   go_loopw [26] (fun i wr=>∃ (a:List jw) (e:R2),i= .int .i64 (a.length:Int)∧Q2 (rK cs) bL (B5 cs) (bytesOf s) n (bytesOf z) t cs.length a∧kF w wr j r q c e a∧n+(rK cs a).length≤s.size∧wr.heap[r]? =RX (bg s (n+(rK cs a).length))∧t+(bL a).length≤z.size∧wr.heap[q]? =RX (bg z (t+(bL a).length))) (fun i _=>cs.length - (S2 i).toNat)
   case atStart=>exact⟨[],_,rfl,Q2.zero rfl rfl,P.out,by simpa [rK,eg] using ef,by simpa [rK,eg] using a8.out,by simpa [bL] using gg,by simpa [bL] using c9.out⟩
   case round=>
    clear P a8 c9;obtain⟨a,e,rfl,b3,f,er,ca,cp,b4⟩:=hrel;have Z:Sb (Q2 (rK cs) bL (B5 cs) (bytesOf s) n (bytesOf z) t cs.length a):=b3;have P:Sb (kF w wr j r q c e a):=f;obtain⟨k,cn⟩:∃ k,k=n+(rK cs a).length:=⟨_,rfl⟩;obtain⟨l,a4⟩:∃ l,l=t+(bL a).length:=⟨_,rfl⟩;have ar:Sb (k=n+(rK cs a).length):=cn;have ab:Sb (l=t+(bL a).length):=a4;rw[← cn] at er ca;rw[← a4] at cp b4;have bt:Sb (wr.heap[r]? =RX (bg s k)):=ca;have br:Sb (wr.heap[q]? =RX (bg z l)):=b4;have gc:a.length≤cs.length:=b3.le;have hb:w.heap.size≤wr.heap.size:=f.kp.size;have c1:Sb (wr.ownsRow base 63 2 (.slice dO cs.length aD) cs.length (dg cs)):=f.kp.own fa.out f3 f4;clear b3 cn a4 ca b4;by_cases S:a.length<cs.length
    ·have bj:Sb ((∀ M,B5 cs a.length M→ag (bytesOf s) k (JR cs a M)→¬ ag (bytesOf z) l (bytesOf M.text))→∀ b,ea cs b→ag (bytesOf s) p (dV cs b)→¬ ag (bytesOf z) t (bL b.chunks)):=fun a4 b B W a0=>by
      obtain⟨R,x⟩:=an.1 W;have a1:=bT (by have:=B.hi;omega) (by have:=c7.out;omega) R a9.out;rw[a1,← bm.out] at x;refine Z.out.fail (e:=JR cs) (g:=fun _ d=>bytesOf d.text) (tj cs) ry S (fun M L y O=>?_) b.chunks B.len B.each x a0;rw[← ar.out] at y;rw[← ab.out] at O;exact a4 M L y O
     obtain⟨g1,f7,f5,f6,ce⟩:=Kr c1.out (by omega);subst f7;have e4:=ce.c0 a.length S;have e5:=ce.c1 a.length S;simp only[SZ] at e4 e5;have c4:Sb (cs[a.length].kind=1∨cs[a.length].kind=2∨cs[a.length].kind=3):=fk.out a.length S;have Y:Sb (cs.getD a.length ⟨⟨#[]⟩,0⟩=cs[a.length]):=by show _=_;rw[Sj,Sk S];rfl
     clear ce f c1 f5 f6;generalize a0:cs[a.length]=d at*;clear a0
     go_upto_region 7 with fail
     have bx:Sb (kF w (wr.alloc (.cells #[.string d.name,.int .i64 d.kind] 63)) j r q c e a):=P.out.below ((So _ _).alloc (R8 _) _);have dp:Sb ((wr.alloc (.cells #[.string d.name,.int .i64 d.kind] 63)).heap[r]? =RX (bg s k)):=by show _=_;rw[SP _ _ r (by omega)];exact bt.out
     have da:Sb ((wr.alloc (.cells #[.string d.name,.int .i64 d.kind] 63)).heap[q]? =RX (bg z l)):=by show _=_;rw[SP _ _ q (by omega)];exact br.out
     have dv:Sb ((wr.alloc (.cells #[.string d.name,.int .i64 d.kind] 63)).heap[wr.heap.size]? =RX (.cells #[.string d.name,.int .i64 d.kind] 63 (0,0))):=bw wr _;have g6:j<wr.heap.size:=Sf P.out.box;generalize wr.alloc (.cells #[.string d.name,.int .i64 d.kind] 63)=gN at*;generalize wr.heap.size=A at*;clear e4 e5 P bt br;clear wr
     go_wp2_with fail
     refine(iR r k s _ ci er dp.out).mono ?_;rintro N a6 ⟨ae,⟨v,rfl,e1,et,eh,cb⟩|⟨m,rfl,G⟩⟩;rotate_left
     ·have I:Sb (∀ b,ea cs b→ag (bytesOf s) p (dV cs b)→¬ ag (bytesOf z) t (bL b.chunks)):=bj.out (fun M L y O=>G _ L.n (an.1 y).1);have fe:Sb (iV r q w a6):=bx.out.kp.trans (iV.iG ae);clear G ae;go_wp2;exact⟨rfl,fe.out,.inr ⟨m,rfl,I.out⟩⟩
     ·have bB:Sb (v<2147483648):=e1;have bv:Sb (ag (bytesOf s) k (ax v)):=et;have e2:v≤2147483648:=by omega
      have bA:Sb (kF w a6 j r q c e a):=bx.out.step a3 a2 am (iV.iG ae);have db:Sb (a6.heap[q]? =RX (bg z l)):=Kp.block ae da.out (by omega);have dC:Sb (a6.heap[A]? =RX (.cells #[.string d.name,.int .i64 d.kind] 63 (0,0))):=Kp.block ae dv.out (by omega);obtain⟨C,co⟩:∃ C,C=k+(ax v).length:=⟨_,rfl⟩;have bo:Sb (C=k+(ax v).length):=co;rw[← co] at eh cb;have dk:Sb (a6.heap[r]? =RX (bg s C)):=cb;clear et co ae cb bx dp da dv e1
      go_wp2_with fail
      refine(Au q l v z _ gn cp e2 db.out).mono ?_;rintro N o ⟨al,⟨g,rfl,e3,eQ,el,d3⟩|⟨m,rfl,G⟩⟩;rotate_left
      ·have I:Sb (∀ b,ea cs b→ag (bytesOf s) p (dV cs b)→¬ ag (bytesOf z) t (bL b.chunks)):=bj.out (fun M L y O=>G (bytesOf M.text) (by rw[ai];exact bT (by have:=L.n;omega) (by have:=bB.out;omega) (an.1 y).1 bv.out) O);have fg:Sb (iV r q w o):=bA.out.kp.trans (iV.C5 al);clear G al;go_wp2;exact⟨rfl,fg.out,.inr ⟨m,rfl,I.out⟩⟩
      ·have ds:Sb (ag (bytesOf z) l (bytesOf g)):=eQ;have bb:Sb (g.size=v):=e3;have ba:Sb (kF w o j r q c e a):=bA.out.step a3 a2 am (iV.C5 al);have b0:Sb (o.heap[A]? =RX (.cells #[.string d.name,.int .i64 d.kind] 63 (0,0))):=Kp.block al dC.out (by omega);have dq:Sb (o.heap[r]? =RX (bg s C)):=Kp.block al dk.out (by omega);have dc:Sb (o.heap[q]? =RX (bg z (l+v))):=d3;have fm:Sb (l+v≤z.size):=el;have dl:Sb (SF (aa.of RY) 131 #[.pointer (RX ⟨r,0,RZ⟩),.int .i64 d.kind] o.drew (Gb o.drew r C s d.kind)):=xN d.kind c4.out r C s o.drew ci eh dq.out;clear eQ e3 al d3 bA dC dk db el e2;obtain⟨bd,a5,cu⟩:=ba.out.cells;have e6:o.cell? ⟨A,1,RZ⟩=RX (.int .i64 d.kind):=by have:=b0.out;simp[Sr,this]
       have e9:Sb (d.kind=1∨d.kind=2∨d.kind=3):=c4.out
       go_upto_region 8 with fail
       refine Un.open_ (fun D=>D.cell? ⟨j,1,RZ⟩=RX e∧D.cell? ⟨A,1,RZ⟩=RX (.int .i64 d.kind)) 11 (fun _ _ _ _ _ h=>h) fun g9=>?_;have aw:(fun D=>D.cell? ⟨j,1,RZ⟩=RX e∧D.cell? ⟨A,1,RZ⟩=RX (.int .i64 d.kind)) o.drew:=⟨a5,e6⟩;refine Un.pk 0 ?_
       try simp only[Sy,R1,R5,R4]
       refine Un.ld [11] 1 ?_
       try simp only[Sy,R1,R5,R4]
       refine Un.pk 2 ?_
       try simp only[Sy,R1,R5,R4]
       refine Un.pk 3 ?_
       try simp only[Sy,R1,R5,R4]
       refine Un.pk 4 ?_
       try simp only[Sy,R1,R5,R4]
       refine Un.ld [11] 5 ?_
       try simp only[Sy,R1,R5,R4]
       refine Un.on 6 fun T F=>?_;go_simp;go_at_call 131;refine dl.out.mono ?_;rintro N u ⟨K,⟨b,rfl,d6,e0,em,d4⟩|⟨m,rfl,G⟩⟩;rotate_left
       ·have K:=(Kp.bS (r:=r) ((So o.heap.size o).drew)).trans K;have I:Sb (∀ b,ea cs b→ag (bytesOf s) p (dV cs b)→¬ ag (bytesOf z) t (bL b.chunks)):=bj.out (fun M L y O=>by
         unfold JR at y;obtain⟨bc,dE⟩:=an.1 y;have f1:=bT (by have:=L.n;omega) (by have:=bB.out;omega) bc bv.out;rw[f1,Y.out,← bo.out] at dE;have B:=L.b;rw[Y.out] at B;exact G _ B dE)
        have fi:Sb (iV r q w u):=ba.out.kp.trans (iV.iG K);clear G K;exact⟨rfl,fi.out,.inr ⟨m,rfl,I.out⟩⟩
       ·have K:=(Kp.bS (r:=r) ((So o.heap.size o).drew)).trans K;unfold Ev;have J:Sb (kF w u j r q c e a):=ba.out.step a3 a2 am (iV.iG K);have dr:Sb (u.heap[r]? =RX (bg s (C+(bJ d.kind b).length))):=d4;have dd:Sb (u.heap[q]? =RX (bg z (l+v))):=Kp.block K dc.out (by omega);have ad:Sb (u.heap[A]? =RX (.cells #[.string d.name,.int .i64 d.kind] 63 (0,0))):=Kp.block K b0.out (by omega);have e8:Sb (JN d.kind b):=d6;have fx:Sb (ag (bytesOf s) C (bJ d.kind b)):=e0;have ft:Sb (C+(bJ d.kind b).length≤s.size):=em;obtain⟨-,cv,-⟩:=J.out.cells;have be:u.cell? ⟨A,1,RZ⟩=RX (.int .i64 d.kind):=by have:=ad.out;simp[Sr,this]
        refine F.out _ _ (fun _=>⟨cv,be⟩) ?_;clear F T aw K d4 d6 e0 em bd a5 cu e6 ba b0 dq dc dl
        try simp only[Sy,R1,R5,R4]
        have aw:(fun D=>D.cell? ⟨j,1,RZ⟩=RX e∧D.cell? ⟨A,1,RZ⟩=RX (.int .i64 d.kind)) u:=⟨cv,be⟩;refine Un.pk 7 ?_
        try simp only[Sy,R1,R5,R4]
        refine Un.on 8 fun T F=>?_;go_simp;have du:Sb (kF w (u.alloc (.cells (cE ⟨g,b⟩).toArray 143)) j r q c e a):=J.out.below ((So _ _).alloc (R8 _) _);have e7:(u.alloc (.cells (cE ⟨g,b⟩).toArray 143)).cell? ⟨A,1,RZ⟩=RX (.int .i64 d.kind):=(((So u.heap.size u).alloc (R8 _) _).cell (p:=⟨A,1,RZ⟩) (Sf ad.out)).trans be;refine F.out _ _ (fun _=>⟨du.out.cells.2.1,e7⟩) ?_;clear F T aw
        try simp only[Sy,R1,R5,R4]
        refine Un.one (i:=9) (by kernel_rfl) rfl (fun T F=>?_);have eq:=J.out.own;have hd:w.heap.size≤u.heap.size:=J.out.kp.size;refine step_append_lies _ (by rfl) _ _ 137 (by rfl) w.heap.size 143 gq _ 8 88 aa.underlying137 f8 gi gj gl rfl (by decide) e a.length _ (by rfl) (eq.alloc _) ⟨u.heap.size,0,RZ⟩ 1 1 (cE ⟨g,b⟩) (by rfl) rfl (wJ u ⟨g,b⟩ _) (tw _) (by decide) (by unfold Sw;omega) (by omega) (by simp;omega) _ rfl ?_;intro E Q X ck d8 d5 ge;have ao:=aP.j9 (n:=a.length+1) (cap:=Q) d8 d5;have eo:X.ownsRow w.heap.size 143 8 (.slice (RX ⟨E,0,RZ⟩) (a.length+1) Q) (a ++ [(⟨g,b⟩:jw)]).length (dw (a ++ [(⟨g,b⟩:jw)])):=by
         unfold dw at ck ⊢;rw[Tf,Ta,Sc];exact ck
        have fb:Sb (kF w (X.setCell ⟨j,1,RZ⟩ (.slice (RX ⟨E,0,RZ⟩) (a.length+1) Q)) j r q c (.slice (RX ⟨E,0,RZ⟩) (a.length+1) Q) (a ++ [(⟨g,b⟩:jw)])):=J.out.kQ am ao eo;have bu:Sb ((X.setCell ⟨j,1,RZ⟩ (.slice (RX ⟨E,0,RZ⟩) (a.length+1) Q)).heap[r]? =RX (bg s (C+(bJ d.kind b).length))):=J.out.reader am ao a3 dr.out;have bs:Sb ((X.setCell ⟨j,1,RZ⟩ (.slice (RX ⟨E,0,RZ⟩) (a.length+1) Q)).heap[q]? =RX (bg z (l+v))):=J.out.reader am ao a2 dd.out;obtain⟨cx,gy⟩:=J.out.kept ao;have cR:X.cell? ⟨A,1,RZ⟩=RX (.int .i64 d.kind):=by
         have:=(ao.ij.block _ (Sf ad.out) (bk J.out.own ad.out (by decide))).trans ad.out;simp[Sr,this]
        refine F.out _ _ (fun _=>⟨cx,cR⟩) ?_;clear F T eq ck d8 d5 ge eo ao
        try simp only[Sy,R1,R5,R4]
        have aw:(fun D=>D.cell? ⟨j,1,RZ⟩=RX e∧D.cell? ⟨A,1,RZ⟩=RX (.int .i64 d.kind)) X:=⟨cx,cR⟩;refine Un.pk 10 ?_
        try simp only[Sy,R1,R5,R4]
        refine Un.on 11 fun T F=>?_;go_simp;refine F.out _ _ (fun h=>absurd h (by decide)) ?_;clear F T aw cx gy cR cv be e7;refine Un.done (by kernel_rfl) ?_ _
        try simp only[Sy,R1,R5,R4]
        clear J du dr dd ad;generalize X.setCell ⟨j,1,RZ⟩ (.slice (RX ⟨E,0,RZ⟩) (a.length+1) Q)=gF at*;generalize Te (RX ⟨E,0,RZ⟩) (a.length+1) Q=he at*;have c0:Sb (B5 cs a.length ⟨g,b⟩):=⟨by have:=bb.out;have:=bB.out;show g.size<_;omega,by rw[Y.out];exact e8.out⟩;have dt:Sb (ag (bytesOf s) k (JR cs a ⟨g,b⟩)):=by
         show ag _ _ (ax g.size ++ bJ (cs.getD a.length ⟨⟨#[]⟩,0⟩).kind b);rw[bb.out,Y.out];exact an.2 ⟨bv.out,by rw[← bo.out];exact fx.out⟩
        have c5:Sb (n+(rK cs (a ++ [(⟨g,b⟩:jw)])).length=C+(bJ d.kind b).length):=by
         show _=_;rw[tj,Sc];have R:(JR cs a ⟨g,b⟩).length=(ax v).length+(bJ d.kind b).length:=by
          show(ax g.size ++ bJ (cs.getD a.length ⟨⟨#[]⟩,0⟩).kind b).length=_;rw[bb.out,Y.out,Sc]
         have x:=ar.out;have y:=bo.out;omega
        have c6:Sb (t+(bL (a ++ [(⟨g,b⟩:jw)])).length=l+v):=by
         show _=_;rw[ry,Sc,ai];have R:=ab.out;have x:=bb.out;simp only;omega
        have fu:Sb (Q2 (rK cs) bL (B5 cs) (bytesOf s) n (bytesOf z) t cs.length (a ++ [(⟨g,b⟩:jw)])):=by
         refine Z.out.more (e:=JR cs) (g:=fun _ d=>bytesOf d.text) (tj cs) ry S c0.out (by rw[← ar.out];exact dt.out) (by rw[← ab.out];exact ds.out) (fun M L y O=>?_);rw[← ar.out] at y;rw[← ab.out] at O;exact O2 (by rw[Y.out];exact e9.out) c0.out L dt.out y ds.out O
        go_wp2_with fail
        go_roundw
        case rel=>exact⟨a ++ [(⟨g,b⟩:jw)],_,by rw[Sc];go_num,fu.out,fb.out,by rw[c5.out];exact ft.out,by rw[c5.out];exact bu.out,by rw[c6.out];exact fm.out,by rw[c6.out];exact bs.out⟩
        case measure=>simp[S2];omega
    ·have a7:=Z.out.done S;obtain⟨gs,gr,ec⟩:=dz f.own;rw[a7.1] at ec;subst ec;generalize f9:Te gs cs.length gr=e at f;obtain⟨bd,a5,-⟩:=f.cells;have R:=Sq wr w.heap.size 0 _ _ (.int .i64 (c:Int)) f.res;have x:=Sq _ w.heap.size 1 _ _ e R;have fv:Sb (((wr.setCell ⟨w.heap.size,0,RZ⟩ (.int .i64 (c:Int))).setCell ⟨w.heap.size,1,RZ⟩ e).ownsRow w.heap.size 143 8 e a.length (dw a)):=by
      have bc:=f.own.kept (aG wr w.heap.size 0 (.int .i64 (c:Int))) (.inr (bk f.own f.res (by decide)).symm);exact bc.kept (aG _ w.heap.size 1 e) (.inr (bk bc R (by decide)).symm)
     have fl:Sb (iV r q w ((wr.setCell ⟨w.heap.size,0,RZ⟩ (.int .i64 (c:Int))).setCell ⟨w.heap.size,1,RZ⟩ e)):=(f.kp.grown (aG wr w.heap.size 0 _) (fun f2 N=>by cases N;exact R8 _)).grown (aG _ w.heap.size 1 _) (fun f2 N=>by cases N;exact R8 _);have bu:Sb (((wr.setCell ⟨w.heap.size,0,RZ⟩ (.int .i64 (c:Int))).setCell ⟨w.heap.size,1,RZ⟩ e).heap[r]? =RX (bg s k)):=by
      show _=_;rw[Sv _ _ _ _ (by simp;omega),Sv _ _ _ _ (by simp;omega)];exact bt.out
     have bs:Sb (((wr.setCell ⟨w.heap.size,0,RZ⟩ (.int .i64 (c:Int))).setCell ⟨w.heap.size,1,RZ⟩ e).heap[q]? =RX (bg z l)):=by
      show _=_;rw[Sv _ _ _ _ (by simp;omega),Sv _ _ _ _ (by simp;omega)];exact br.out
     have hf:wr.cell? ⟨w.heap.size,0,RZ⟩=RX (.int .i64 0):=by have:=f.res;simp[Sr,this]
     have hg:wr.cell? ⟨w.heap.size,1,RZ⟩=RX (.slice RZ 0 0):=by have:=f.res;simp[Sr,this]
     have g2:wr.frozen? ⟨w.heap.size,0,RZ⟩=R6:=by have:=f.res;simp[S4,this]
     have g3:wr.frozen? ⟨w.heap.size,1,RZ⟩=R6:=by have:=f.res;simp[S4,this]
     have gt:((wr.setCell ⟨w.heap.size,0,RZ⟩ (.int .i64 (c:Int))).setCell ⟨w.heap.size,1,RZ⟩ e).cell? ⟨w.heap.size,0,RZ⟩=RX (.int .i64 (c:Int)):=by simp[Sr,x]
     have gv:((wr.setCell ⟨w.heap.size,0,RZ⟩ (.int .i64 (c:Int))).setCell ⟨w.heap.size,1,RZ⟩ e).cell? ⟨w.heap.size,1,RZ⟩=RX e:=by simp[Sr,x]
     have bi:Sb ((dV cs ⟨c,a⟩).length+p=k∧ag (bytesOf s) p (dV cs ⟨c,a⟩)):=by
      have b2:=bm.out;have E:=ar.out;refine⟨by show(ax c ++ rK cs a).length+p=k;rw[Sc];omega,?_⟩;exact an.2 ⟨a9.out,by rw[← b2];exact Z.out.st⟩
     have f0:Sb (∀ U,ea cs U→ag (bytesOf s) p (dV cs U)→ag (bytesOf z) t (bL U.chunks)→U=⟨c,a⟩):=fun U cd W a0=>by
      obtain⟨b2,E⟩:=an.1 W;have a1:=bT (by have:=cd.hi;omega) (by have:=c7.out;omega) b2 a9.out;rw[a1,← bm.out] at E;have ee:=a7.2 U.chunks cd.len cd.each E a0;obtain⟨g0,b⟩:=U;simp only at a1 ee;rw[a1,ee]
     have c2:Sb (ea cs ⟨c,a⟩):=⟨c3.out.1,c3.out.2,a7.1,Z.out.Pq⟩;have fz:Sb (ag (bytesOf z) t (bL a)):=Z.out.sc;clear R x f a7 gc S;subst f9;have g8:a.length=cs.length:=c2.out.len;go_wp2;simp[TT,SX,Tryz.results96,go_sem,gt,gv]
     trace_state
     exact⟨fl.out,.inl ⟨⟨c,a⟩,_,rfl,c2.out,bi.out.2,by have:=bi.out.1;omega,by have:=bi.out.1;rw[show p+(dV cs ⟨c,a⟩).length=k by omega];exact bu.out,fz.out,by rw[← ab.out];exact cp,by rw[← ab.out];exact bs.out,fv.out,f0.out⟩⟩
structure kJ(w W:R3)(g r q:Nat)(l:List (bG×Int))(co eo:Option SL)(cc ec:Nat)(bv:R2)(L:List (Bd×R2)):Prop where
 res:W.heap[w.heap.size]? =RX (.cells #[.slice RZ 0 0,.slice RZ 0 0,.slice RZ 0 0] 105 (0,0))
 box:W.heap[g]? =RX (.cells #[.slice co l.length cc,.slice eo l.length ec,bv] 105 (0,0))
 ah:W.ownsRow w.heap.size 63 2 (.slice co l.length cc) l.length (dg (l.map SB))
 mR:W.ownsRow w.heap.size 3 1 (.slice eo l.length ec) l.length (aW (l.map T4))
 bP:iu W w.heap.size bv L
 kp:iV r q w W
def kJ.step{w c d:R3}{g r q:Nat}{l:List (bG×Int)}{co j:Option SL}{f i:Nat}{e:R2}{L:List (Bd×R2)}(h:kJ w c g r q l co j f i e L)(b:r<w.heap.size)(a:q<w.heap.size)(o:w.heap.size<g)(k:iV r q c d):kJ w d g r q l co j f i e L:=
 ⟨k.keep h.res (by omega) (by omega),k.keep h.box (by omega) (by omega),k.own h.ah b a,k.own h.mR b a,⟨k.own h.bP.own b a,fun n m=>k.own (h.bP.each n m) b a⟩,h.kp.trans k⟩
def kJ.below{w b c:R3}{g r q:Nat}{l:List (bG×Int)}{co i:Option SL}{e f:Nat}{d:R2}{L:List (Bd×R2)}(h:kJ w b g r q l co i e f d L)(a:Si b.heap.size b c):kJ w c g r q l co i e f d L:=
 ⟨(a.block _ (Sf h.res)).trans h.res,(a.block _ (Sf h.box)).trans h.box,aM h.ah a,aM h.mR a,h.bP.below a,h.kp.trans (iV.bS a)⟩
def kJ.cells{w a:R3}{g r q:Nat}{l:List (bG×Int)}{co f:Option SL}{d e:Nat}{c:R2}{L:List (Bd×R2)}(h:kJ w a g r q l co f d e c L):
 a.cell? ⟨g,0,RZ⟩=RX (.slice co l.length d)∧a.cell? ⟨g,1,RZ⟩=RX (.slice f l.length e)∧a.cell? ⟨g,2,RZ⟩=RX c∧a.frozen? ⟨g,2,RZ⟩=R6:=by
 have b:=h.box;exact⟨by simp[Sr,b],by simp[Sr,b],by simp[Sr,b],by simp[S4,b]⟩
def kJ.kept{w c a:R3}{g r q:Nat}{l:List (bG×Int)}{co j:Option SL}{f i:Nat}{b e:R2}{L:List (Bd×R2)}(h:kJ w c g r q l co j f i b L)(k:aP c a b e):
 a.cell? ⟨g,2,RZ⟩=RX b∧a.frozen? ⟨g,2,RZ⟩=R6:=by
 have d:=(k.ij.block _ (Sf h.box) (bk h.bP.own h.box (by decide))).trans h.box;exact⟨by simp[Sr,d],by simp[S4,d]⟩
theorem kJ.kQ{w i c:R3}{g r q:Nat}{l:List (bG×Int)}{co p:Option SL}{n o:Nat}{j a:R2}{L:List (Bd×R2)}(h:kJ w i g r q l co p n o j L)(A:w.heap.size<g)(d:aP i c j a){b:Bd}{f:R2}(y:i.ownsRow w.heap.size 143 8 f b.chunks.length (dw b.chunks))
 (z:c.ownsRow w.heap.size 139 2 a (L ++ [(b,f)]).length (mQ (L ++ [(b,f)]))):kJ w (c.setCell ⟨g,2,RZ⟩ a) g r q l co p n o a (L ++ [(b,f)]):=by
 have u:=(d.ij.block _ (Sf h.res) (bk h.bP.own h.res (by decide))).trans h.res;have e:=(d.ij.block _ (Sf h.box) (bk h.bP.own h.box (by decide))).trans h.box;have v:=Sq c g 2 _ _ a e;have k:=eG h.ah d (oJ h.ah h.bP.own (by decide));have m:=eG h.mR d (oJ h.mR h.bP.own (by decide));refine⟨?_,v,k.kept (aG c _ 2 a) (.inr (bk k e (by decide)).symm),m.kept (aG c _ 2 a) (.inr (bk m e (by decide)).symm),(h.bP.snoc d y z).put e (by decide) (by decide) _ _,?_⟩
 ·rw[Sv _ _ _ _ (by simp;omega)];exact u
 ·exact(h.kp.grown d.ij (fun s x=>(h.bP.own.lt s x).1)).grown (aG c g 2 a) (fun s t=>by cases t;omega)
def kJ.reader{w a b:R3}{g r q:Nat}{l:List (bG×Int)}{co m:Option SL}{f k:Nat}{c d:R2}{L:List (Bd×R2)}(h:kJ w a g r q l co m f k c L)(p:w.heap.size<g)(n:aP a b c d){i:Nat}{o:U9}(s:i<w.heap.size)(e:a.heap[i]? =RX o):(b.setCell ⟨g,2,RZ⟩ d).heap[i]? =RX o:=by
 rw[Sv _ _ _ _ (by simp;omega),n.ij.block i (Sf e) (fun j=>by have:=(h.bP.own.lt i j.symm).1;omega)];exact e
def yw{B a:List Nat}(h:ag B 0 a)(c:B.length≤a.length):B=a:=by
 have b:a <+:B:=by simpa [ag] using h
 exact(b.eq_of_length_le c).symm
def sU(cs:List bG)(bs:List Bd)(b:Bd):cr cs (bs ++ [b])=cr cs bs ++ dV cs b:=by
 unfold cr;rw[Tf,Ta]
def Hg(cs:List bG)(b:Bd):1≤(dV cs b).length:=by unfold dV;rw[Sc];have:=D4 b.rows;omega
def Hh(cs:List bG)(bs:List Bd):bs.length≤(cr cs bs).length:=by
 induction bs with
 |nil=>simp
 |cons a c b=>
  have:=Hg cs a;unfold cr at b ⊢;rw[UF,Sc,T0];omega
def OE{cs:List bG}{bs:List Bd}(h:∀ b∈bs,ea cs b):rB (fun _=>ea cs) bs:=fun c a=>h _ (Sl a)
def O8{cs:List bG}{bs:List Bd}(h:rB (fun _=>ea cs) bs):∀ b∈bs,ea cs b:=fun b a=>by
 obtain⟨d,c,rfl⟩:=TK a;exact h d c
def K4{l:List (bG×Int)}(h:mr l):∀ i (h:i<(l.map SB).length),(l.map SB)[i].kind=1∨(l.map SB)[i].kind=2∨(l.map SB)[i].kind=3:=by
 intro i a;have:=(h.1.2.2 i a).1;simp only[ot,fI,Sz,decide_eq_true_eq] at this;omega
def Qn (w:R3)(r:Nat)(s:ByteArray)(q:Nat)(z:ByteArray)(e:UQ)(w':R3):Prop:=
 iV r q w w'∧((∃ (a:List (bG×Int)) (b:List Bd) (f:List (Bd×R2)) (i k:Option SL) (h j:Nat) (g:R2),e= .returned (.agg #[.slice i a.length h,.slice k a.length j,g])∧sF a b∧f.map SB=b∧ag (bytesOf s) 0 (nB a b)∧(nB a b).length≤s.size∧w'.heap[r]? =RX (bg s (nB a b).length)∧bytesOf z=bp b∧
  w'.ownsRow w.heap.size 63 2 (.slice i a.length h) a.length (dg (a.map SB))∧w'.ownsRow w.heap.size 3 1 (.slice k a.length j) a.length (aW (a.map T4))∧iu w' w.heap.size g f∧(∀ d c,sF d c→ag (bytesOf s) 0 (nB d c)→bytesOf z=bp c→d=a∧c=b))∨
  (∃ m,e= .panicked (dU m)∧∀ a b,sF a b→ag (bytesOf s) 0 (nB a b)→bytesOf z≠bp b))
theorem xP(r q:Nat)(s z:ByteArray)(w:R3)(gn:r≠q)(el:s.size≤65536)(gv:z.size≤65536)(h:w.heap[r]? =RX (bg s 0))(k:w.heap[q]? =RX (bg z 0)):
 SF (aa.of RY) 64 #[.pointer (RX ⟨r,0,RZ⟩),.pointer (RX ⟨q,0,RZ⟩)] w (Qn w r s q z):=by
 obtain⟨gx,gc,gr,gs,gt⟩:=TB aa.Gs;have a7:r<w.heap.size:=Sf h;have a6:q<w.heap.size:=Sf k;have gg:s.size≤Sw:=by unfold Sw;omega
 have e1:z.size≤Sw:=by unfold Sw;omega
 have df:Sb ((w.alloc (.cells #[.slice RZ 0 0,.slice RZ 0 0,.slice RZ 0 0] 105)).heap[r]? =RX (bg s 0)):=by
  show _=_;rw[SP _ _ r a7];exact h
 have da:Sb ((w.alloc (.cells #[.slice RZ 0 0,.slice RZ 0 0,.slice RZ 0 0] 105)).heap[q]? =RX (bg z 0)):=by
  show _=_;rw[SP _ _ q a6];exact k
 have bt:Sb (iV r q w (w.alloc (.cells #[.slice RZ 0 0,.slice RZ 0 0,.slice RZ 0 0] 105))):=(iV.refl r q w).alloc _;clear h k;go_enter aa.func64,Tryz.ntmps64
 go_wp2_with fail
 refine(vm r 0 s _ el (SK _) df.out).mono ?_;rintro p I ⟨Y,⟨a,g3,g4,rfl,ab,eq,eb,cf,ck,cl,eQ⟩|⟨m,rfl,T⟩⟩;rotate_left
 ·have L:Sb (∀ a b,sF a b→ag (bytesOf s) 0 (nB a b)→bytesOf z≠bp b):=fun a b l E=>(T a l.pl (an.1 E).1).elim;have fd:Sb (iV r q w I):=bt.out.trans (iV.iG Y);clear T Y;go_wp2;exact⟨rfl,fd.out,.inr ⟨m,rfl,L.out⟩⟩
 ·obtain⟨d,e,rfl⟩:=dz ck;obtain⟨f,g,rfl⟩:=dz cl;have dO:I.heap[q]? =RX (bg z 0):=Kp.block Y da.out (by omega);have H:kJ w (I.alloc (.cells #[.slice d a.length e,.slice f a.length g,.slice RZ 0 0] 105)) I.heap.size r q a d f e g (.slice RZ 0 0) []:=by
   refine⟨?_,bw I _,(bn ck (by simp)).alloc _,(bn cl (by simp)).alloc _,⟨Ur _ _ _ _,fun hf gl=>by simp at gl⟩,(bt.out.trans (iV.iG Y)).alloc _⟩;have:=Kp.block Y (T8 w (.cells #[.slice RZ 0 0,.slice RZ 0 0,.slice RZ 0 0] 105)) (by omega);exact alloc_old _ (by simpa using Sf this) this
  have a4:w.heap.size<I.heap.size:=by have:=Y.size;simp at this;omega
  obtain⟨O,cu⟩:∃ O,O=(vM a).length:=⟨_,rfl⟩;rw[SZ,← cu] at eb cf;have bv:Sb (O=(vM a).length):=cu;have f3:Sb (ag (bytesOf s) 0 (vM a)):=eq;have c9:Sb (mr a):=ab;have du:Sb (∀ j,mr j→ag (bytesOf s) 0 (vM j)→j=a):=eQ;have d2:(I.alloc (.cells #[.slice d a.length e,.slice f a.length g,.slice RZ 0 0] 105)).heap[r]? =RX (bg s O):=by rw[SP _ _ r (by omega)];exact cf
  have d0:(I.alloc (.cells #[.slice d a.length e,.slice f a.length g,.slice RZ 0 0] 105)).heap[q]? =RX (bg z 0):=by rw[SP _ _ q (by omega)];exact dO
  have ef:a.length≤8:=by have:=ab.1.2.1;simpa using this
  have e6:Sb ((a.map SB).length≤8):=by show _≤_;simpa using ef
  go_upto_region 3 with fail
  generalize I.alloc (.cells #[.slice d a.length e,.slice f a.length g,.slice RZ 0 0] 105)=b2 at*;generalize I.heap.size=x at*;have dp:Sb (b2.heap[r]? =RX (bg s O)):=d2;have dc:Sb (b2.heap[q]? =RX (bg z 0)):=d0;have J:Sb (kJ w b2 x r q a d f e g (.slice RZ 0 0) []):=H;clear eq cu d2 d0 H ab eQ ck cl Y cf dO df da bt ef;clear I
  go_wp2_with fail
  refine(iR r O s _ gg eb dp.out).mono ?_;rintro p bo ⟨a3,⟨t,rfl,em,er,ec,ch⟩|⟨m,rfl,T⟩⟩;rotate_left
  ·have L:Sb (∀ a b,sF a b→ag (bytesOf s) 0 (nB a b)→bytesOf z≠bp b):=fun j b l E _=>by
    obtain⟨y,k⟩:=an.1 E;obtain rfl:=du.out j l.pl y;rw[SZ,← bv.out] at k;refine T _ ?_ (an.1 k).1;have A:=sj b (fun c Z=>(l.bP c Z).lo);have:=l.rows;omega
   have fe:Sb (iV r q w bo):=J.out.kp.trans (iV.iG a3);clear T a3;go_wp2;exact⟨rfl,fe.out,.inr ⟨m,rfl,L.out⟩⟩
  ·have ds:Sb (kJ w bo x r q a d f e g (.slice RZ 0 0) []):=J.out.step a7 a6 a4 (iV.iG a3);have dd:Sb (bo.heap[q]? =RX (bg z 0)):=Kp.block a3 dc.out (by omega);obtain⟨D,cv⟩:∃ D,D=O+(ax t).length:=⟨_,rfl⟩;have c8:Sb (D=O+(ax t).length):=cv;rw[← cv] at ec ch;have dq:Sb (bo.heap[r]? =RX (bg s D)):=ch;have dr:Sb (ag (bytesOf s) O (ax t)):=er;have fu:Sb (t<2147483648):=em;have gi:(t:Int)<2147483648:=by omega
   have c4:Sb (∀ j o,sF j o→ag (bytesOf s) 0 (nB j o)→j=a∧o.length=t∧ag (bytesOf s) D (cr (a.map SB) o)):=fun j o l E=>by
    obtain⟨y,k⟩:=an.1 E;obtain rfl:=du.out j l.pl y;rw[SZ,← bv.out] at k;obtain⟨A,Q⟩:=an.1 k;have ca:=sj o (fun c Z=>(l.bP c Z).lo);have g9:=l.rows;have d7:=bT (by omega) (by have:=fu.out;omega) A dr.out;rw[d7,← c8.out] at Q;exact⟨rfl,d7,Q⟩
   clear er cv a3 ch J dp dc em
   go_wp2_with fail
   go_loopw [18] (fun c0 wr=>∃ (b:List Bd) (n:List (Bd×R2)) (i:R2),c0= .int .i64 (b.length:Int)∧n.map SB=b∧Q2 (cr (a.map SB)) bp (fun _=>ea (a.map SB)) (bytesOf s) D (bytesOf z) 0 t b∧kJ w wr x r q a d f e g i n∧D+(cr (a.map SB) b).length≤s.size∧wr.heap[r]? =RX (bg s (D+(cr (a.map SB) b).length))∧(bp b).length≤z.size∧wr.heap[q]? =RX (bg z (bp b).length)) (fun c0 _=>t - (S2 c0).toNat)
   case atStart=>exact⟨[],[],_,rfl,rfl,Q2.zero rfl rfl,ds.out,by simpa [cr] using ec,by simpa [cr] using dq.out,by simp[bp],by simpa [bp] using dd.out⟩
   case round=>
    clear ds dq dd;obtain⟨b,n,i,rfl,cb,cc,H,ab,ce,et,cd⟩:=hrel;have V:Sb (Q2 (cr (a.map SB)) bp (fun _=>ea (a.map SB)) (bytesOf s) D (bytesOf z) 0 t b):=cc;have J:Sb (kJ w wr x r q a d f e g i n):=H;have ba:Sb (n.map SB=b):=cb;have bu:Sb (n.length=b.length):=by show _=_;rw[← cb,SV]
    have d4:b.length≤65536:=by have:=Hh (a.map SB) b;omega
    obtain⟨u,cx⟩:∃ u,u=D+(cr (a.map SB) b).length:=⟨_,rfl⟩;obtain⟨v,U⟩:∃ v,v=(bp b).length:=⟨_,rfl⟩;have ar:Sb (u=D+(cr (a.map SB) b).length):=cx;have am:Sb (v=(bp b).length):=U;rw[← cx] at ab ce;rw[← U] at et cd;have a0:Sb (wr.heap[r]? =RX (bg s u)):=ce;have aw:Sb (wr.heap[q]? =RX (bg z v)):=cd;have ge:b.length≤t:=cc.le;have gq:w.heap.size≤wr.heap.size:=H.kp.size;clear cc cx U ce cd cb;by_cases be:b.length<t
    ·have e9:Sb ((∀ B,ea (a.map SB) B→ag (bytesOf s) u (dV (a.map SB) B)→¬ ag (bytesOf z) v (bL B.chunks))→∀ a b,sF a b→ag (bytesOf s) 0 (nB a b)→bytesOf z≠bp b):=fun U j o l E S=>by
      obtain⟨y,k,A⟩:=c4.out j o l E;rw[y] at l;refine V.out.fail (e:=fun _ B=>dV (a.map SB) B) (g:=fun _ B=>bL B.chunks) (sU _) qY be (fun B cR Q ca=>?_) o k (OE l.bP) A (ei S.symm);rw[← ar.out] at Q;rw[SZ,← am.out] at ca;exact U B cR Q ca
     have dl:Sb (SF (aa.of RY) 96 #[.pointer (RX ⟨r,0,RZ⟩),.pointer (RX ⟨q,0,RZ⟩),.slice d a.length e] wr.drew (Ql (a.map SB) wr.drew r u s q v z)):=Bp (a.map SB) _ r u q v w.heap.size s z wr.drew gn el gv ab et a0.out aw.out a7 a6 (by rw[SV];exact(aM J.out.ah ((So wr.heap.size wr).drew))) e6.out (K4 c9.out);obtain⟨bi,bj,a8,bl⟩:=H.cells;clear H
     go_upto_region 5 with fail
     refine Un.open_ (fun X=>X.cell? ⟨x,2,RZ⟩=RX i) 9 (fun _ _ _ _ _ h=>h) fun hb=>?_;have a2:(fun X=>X.cell? ⟨x,2,RZ⟩=RX i) wr.drew:=a8;refine Un.pk 0 ?_
     try simp only[Sy,R1,R5,R4]
     refine Un.ld [9] 1 ?_
     try simp only[Sy,R1,R5,R4]
     refine Un.pk 2 ?_
     try simp only[Sy,R1,R5,R4]
     refine Un.pk 3 ?_
     try simp only[Sy,R1,R5,R4]
     refine Un.pk 4 ?_
     try simp only[Sy,R1,R5,R4]
     refine Un.on 5 fun W G=>?_;go_simp;go_at_call 96;refine dl.out.mono ?_;rintro p K ⟨R,⟨c,he,rfl,d5,es,ee,d1,d6,eh,dT,cn,e0⟩|⟨m,rfl,T⟩⟩;rotate_left
     ·have R:=(iV.bS (r:=r) (q:=q) ((So wr.heap.size wr).drew)).trans R;have L:Sb (∀ a b,sF a b→ag (bytesOf s) 0 (nB a b)→bytesOf z≠bp b):=e9.out T;have fg:Sb (iV r q w K):=J.out.kp.trans R;clear T R;exact⟨rfl,fg.out,.inr ⟨m,rfl,L.out⟩⟩
     ·have R:=(iV.bS (r:=r) (q:=q) ((So wr.heap.size wr).drew)).trans R;obtain⟨ae,ad,rfl⟩:=dz cn;have M:Sb (kJ w K x r q a d f e g i n):=J.out.step a7 a6 a4 R;have c5:Sb (K.ownsRow w.heap.size 143 8 (.slice ae c.chunks.length ad) c.chunks.length (dw c.chunks)):=bn cn (by simpa using gq);have e4:Sb (ea (a.map SB) c):=d5;have f4:Sb (ag (bytesOf s) u (dV (a.map SB) c)):=es;have fk:Sb (u+(dV (a.map SB) c).length≤s.size):=ee;have dk:Sb (K.heap[r]? =RX (bg s (u+(dV (a.map SB) c).length))):=d1;have e5:Sb (ag (bytesOf z) v (bL c.chunks)):=d6;have fl:Sb (v+(bL c.chunks).length≤z.size):=eh;have db:Sb (K.heap[q]? =RX (bg z (v+(bL c.chunks).length))):=dT;have f6:Sb (∀ bc,ea (a.map SB) bc→ag (bytesOf s) u (dV (a.map SB) bc)→ag (bytesOf z) v (bL bc.chunks)→bc=c):=e0;have c2:=M.out.cells.2.2.1;refine G.out _ _ (fun _=>c2) ?_;clear G W a2 R cn d5 es ee d1 d6 eh dT e0 bi bj a8 bl dl J a0 aw
      try simp only[Sy,R1,R5,R4]
      have a2:(fun X=>X.cell? ⟨x,2,RZ⟩=RX i) K:=c2;refine Un.on 6 fun W G=>?_;go_simp;have dt:Sb (kJ w (K.alloc (.cells (kW (c,.slice ae c.chunks.length ad)).toArray 139)) x r q a d f e g i n):=M.out.below ((So _ _).alloc (R8 _) _);refine G.out _ _ (fun _=>dt.out.cells.2.2.1) ?_;clear G W a2
      try simp only[Sy,R1,R5,R4]
      refine Un.one (i:=7) (by kernel_rfl) rfl (fun W G=>?_);have cp:=M.out.bP.own;rw[bu.out] at cp;have hd:w.heap.size≤K.heap.size:=M.out.kp.size;refine step_append_lies _ (by rfl) _ _ 103 (by rfl) w.heap.size 139 gx _ 2 32 aa.underlying103 gc gr gs gt rfl (by decide) i b.length _ (by rfl) (cp.alloc _) ⟨K.heap.size,0,RZ⟩ 1 1 (kW (c,.slice ae c.chunks.length ad)) (by rfl) rfl (GR K _ _ _) (by intro v U;simp[kW] at U;rcases U with rfl|rfl<;>rfl) (by decide) (by unfold Sw;omega) (by omega) (by simp;omega) _ rfl ?_;intro N P ao cs d9 d3 gf;have a5:=aP.j9 (n:=b.length+1) (cap:=P) d9 d3;have en:ao.ownsRow w.heap.size 139 2 (.slice (RX ⟨N,0,RZ⟩) (b.length+1) P) (n ++ [(c,Te ae c.chunks.length ad)]).length (mQ (n ++ [(c,Te ae c.chunks.length ad)])):=by
       unfold mQ at cs ⊢;rw[Tf,Ta,Sc,bu.out];exact cs
      have fa:Sb (kJ w (ao.setCell ⟨x,2,RZ⟩ (.slice (RX ⟨N,0,RZ⟩) (b.length+1) P)) x r q a d f e g (.slice (RX ⟨N,0,RZ⟩) (b.length+1) P) (n ++ [(c,Te ae c.chunks.length ad)])):=M.out.kQ a4 a5 c5.out en;have b0:Sb ((ao.setCell ⟨x,2,RZ⟩ (.slice (RX ⟨N,0,RZ⟩) (b.length+1) P)).heap[r]? =RX (bg s (u+(dV (a.map SB) c).length))):=M.out.reader a4 a5 a7 dk.out;have f0:Sb ((ao.setCell ⟨x,2,RZ⟩ (.slice (RX ⟨N,0,RZ⟩) (b.length+1) P)).heap[q]? =RX (bg z (v+(bL c.chunks).length))):=M.out.reader a4 a5 a6 db.out;obtain⟨c3,g0⟩:=M.out.kept a5;refine G.out _ _ (fun _=>c3) ?_;clear G W cp cs d9 d3 gf en a5
      try simp only[Sy,R1,R5,R4]
      have a2:(fun X=>X.cell? ⟨x,2,RZ⟩=RX i) ao:=c3;refine Un.pk 8 ?_
      try simp only[Sy,R1,R5,R4]
      refine Un.on 9 fun W G=>?_;go_simp;refine G.out _ _ (fun h=>absurd h (by decide)) ?_;clear G W a2 c3 g0 c2;refine Un.done (by kernel_rfl) ?_ _
      try simp only[Sy,R1,R5,R4]
      clear M dt dk db c5;generalize ao.setCell ⟨x,2,RZ⟩ (.slice (RX ⟨N,0,RZ⟩) (b.length+1) P)=g1 at*;generalize Te (RX ⟨N,0,RZ⟩) (b.length+1) P=g2 at*;have c6:Sb (D+(cr (a.map SB) (b ++ [c])).length=u+(dV (a.map SB) c).length):=by
       show _=_;rw[sU,Sc];have A:=ar.out;omega
      have c7:Sb ((bp (b ++ [c])).length=v+(bL c.chunks).length):=by
       show _=_;rw[qY,Sc,am.out]
      have ft:Sb (Q2 (cr (a.map SB)) bp (fun _=>ea (a.map SB)) (bytesOf s) D (bytesOf z) 0 t (b ++ [c])):=by
       refine V.out.more (e:=fun _ B=>dV (a.map SB) B) (g:=fun _ B=>bL B.chunks) (sU _) qY be e4.out (by rw[← ar.out];exact f4.out) (by rw[SZ,← am.out];exact e5.out) (fun B cR A Q=>?_);rw[← ar.out] at A;rw[SZ,← am.out] at Q;exact f6.out B cR A Q
      have fm:Sb ((n ++ [(c,Te ae c.chunks.length ad)]).map SB=b ++ [c]):=by show _=_;rw[Tb,ba.out];rfl
      go_wp2_with fail
      go_roundw
      case rel=>exact⟨b ++ [c],_,_,by rw[Sc];go_num,fm.out,ft.out,fa.out,by rw[c6.out];exact fk.out,by rw[c6.out];exact b0.out,by rw[c7.out];exact fl.out,by rw[c7.out];exact f0.out⟩
      case measure=>simp[S2];omega
    ·have a9:=V.out.done be;have e7:Sb (b.length=t):=a9.1;have e8:Sb (∀ a1:List Bd,a1.length=t→rB (fun _=>ea (a.map SB)) a1→ag (bytesOf s) D (cr (a.map SB) a1)→ag (bytesOf z) 0 (bp a1)→a1=b):=a9.2;have gj:t=b.length:=a9.1.symm;have bs:Sb (∀ c∈b,ea (a.map SB) c):=O8 V.out.Pq;have b1:Sb (∀ j o,sF j o→ag (bytesOf s) 0 (nB j o)→bytesOf z=bp o→j=a∧o=b):=fun j o l E S=>by
      obtain⟨y,k,A⟩:=c4.out j o l E;rw[y] at l;exact⟨y,e8.out o k (OE l.bP) A (ei S.symm)⟩
     have bB:Sb (SF (aa.of RY) 45 #[.agg #[.slice d a.length e,.slice f a.length g,i]] wr fun p bm=>p= .returned (.int .i64 (ep (n.map SB):Int))∧Si wr.heap.size wr bm):=zP d f _ _ _ _ w.heap.size i n wr H.bP (by rw[bu.out];exact d4) (by rw[ba.out];exact fun c Z=>(bs.out c Z).hi);rw[ba.out] at bB;have hc:ep b≤6553600:=by have:=Dr b (fun c Z=>(bs.out c Z).hi);have:=Nat.mul_le_mul_right 100 d4;omega
     have br:Sb ((nB a b).length=u∧ag (bytesOf s) 0 (nB a b)):=by
      have f8:=bv.out;have N:=c8.out;have g8:=ar.out;unfold nB;rw[e7.out];refine⟨by rw[Sc,Sc];omega,?_⟩;exact an.2 ⟨f3.out,by rw[SZ,← f8];exact an.2 ⟨dr.out,by rw[← N];exact V.out.st⟩⟩
     have f5:Sb (ag (bytesOf z) 0 (bp b)):=V.out.sc;obtain⟨b4,b3,ci⟩:=dz H.bP.own;subst ci;obtain⟨bi,bj,a8,bl⟩:=H.cells;subst gj;clear H a9 V be ge gi
     go_wp2_with fail
     refine bB.out.mono ?_;rintro p al ⟨rfl,bd⟩;have bb:Sb (kJ w al x r q a d f e g (.slice b4 n.length b3) n):=J.out.below bd;have bA:Sb (al.heap[r]? =RX (bg s u)):=(bd.block r (Sf a0.out)).trans a0.out;have bx:Sb (al.heap[q]? =RX (bg z v)):=(bd.block q (Sf aw.out)).trans aw.out;clear bd J a0 aw bi bj a8 bl bB;by_cases ha:2000<ep b
     ·have f9:decide ((2000:Int)<(ep b:Int))=R7:=by simp;omega
      have L:Sb (∀ a b,sF a b→ag (bytesOf s) 0 (nB a b)→bytesOf z≠bp b):=fun j o l E S=>by
       obtain⟨y,k⟩:=b1.out j o l E S;have:=l.rows;rw[k] at this;omega
      go_wp2_with (go_at_call 97;refine(bN r u s _ bA.out).mono ?_;rintro p bm ⟨rfl,rfl⟩)
      exact⟨rfl,bb.out.kp,.inr ⟨_,rfl,L.out⟩⟩
     ·have f9:decide ((2000:Int)<(ep b:Int))=R6:=by simp;omega
      have f2:Sb (ep b≤2000):=by show _≤_;omega
      by_cases d8:v<z.size
      ·have L:Sb (∀ a b,sF a b→ag (bytesOf s) 0 (nB a b)→bytesOf z≠bp b):=fun j o l E S=>by
        obtain⟨y,k⟩:=b1.out j o l E S;have A:=congrArg Vn S;rw[ai,k,← am.out] at A;omega
       go_wp2_with (go_at_call 93;refine(AY q v z _ e1 d8 bx.out).mono ?_;rintro p bm ⟨rfl,m,rfl⟩)
       exact⟨rfl,bb.out.kp.trans (iV.iG ((Kp.refl r al).drewN _)),.inr ⟨_,rfl,L.out⟩⟩
      ·have f7:Sb (bytesOf z=bp b):=by
        show _=_;refine(yw f5.out ?_);rw[ai,← am.out];omega
       have fb:Sb (sF a b):=⟨c9.out,bs.out,f2.out⟩
       go_upto_region 10 with(go_at_call 93;refine(EL q v z _ e1 d8 bx.out).mono ?_;rintro p bm ⟨rfl,m,rfl⟩)
       have C:kJ w (al.drewN m) x r q a d f e g (.slice b4 n.length b3) n:=bb.out.below (below_drewN (So _ _) _);have f1:Sb ((al.drewN m).heap[r]? =RX (bg s u)):=bA.out;generalize al.drewN m=F at*;generalize ci:Te b4 n.length b3=i at C;obtain⟨bi,bj,a8,bl⟩:=C.cells;obtain⟨hg,hh,hi⟩:=bE C.res;have g5:F.frozen? ⟨w.heap.size,0,RZ⟩=R6:=by have:=C.res;simp[S4,this]
       have g6:F.frozen? ⟨w.heap.size,1,RZ⟩=R6:=by have:=C.res;simp[S4,this]
       have g7:F.frozen? ⟨w.heap.size,2,RZ⟩=R6:=by have:=C.res;simp[S4,this]
       have y:=Sq F w.heap.size 0 _ _ (.slice d a.length e) C.res;have k:=Sq _ w.heap.size 1 _ _ (.slice f a.length g) y;have A:=Sq _ w.heap.size 2 _ _ i k;obtain⟨gy,gF,gN⟩:=bE (show _=RX (Obj.cells #[.slice d a.length e,.slice f a.length g,i] 105 (0,0)) from A);have fv:Sb (iu (((F.setCell ⟨w.heap.size,0,RZ⟩ (.slice d a.length e)).setCell ⟨w.heap.size,1,RZ⟩ (.slice f a.length g)).setCell ⟨w.heap.size,2,RZ⟩ i) w.heap.size i n):=
        ((C.bP.put C.res (by decide) (by decide) _ _).put y (by decide) (by decide) _ _).put k (by decide) (by decide) _ _
       have c1:∀ {q:R2} {t p e2:Nat} {e3:List R2},p≠105→F.ownsRow w.heap.size p e2 q t e3→(((F.setCell ⟨w.heap.size,0,RZ⟩ (.slice d a.length e)).setCell ⟨w.heap.size,1,RZ⟩ (.slice f a.length g)).setCell ⟨w.heap.size,2,RZ⟩ i).ownsRow w.heap.size p e2 q t e3:=fun co eo=>by
        have dv:=eo.kept (aG F w.heap.size 0 (.slice d a.length e)) (.inr (bk eo C.res co.symm).symm);have dC:=dv.kept (aG _ w.heap.size 1 (.slice f a.length g)) (.inr (bk dv y co.symm).symm);exact dC.kept (aG _ w.heap.size 2 i) (.inr (bk dC k co.symm).symm)
       have fx:Sb ((((F.setCell ⟨w.heap.size,0,RZ⟩ (.slice d a.length e)).setCell ⟨w.heap.size,1,RZ⟩ (.slice f a.length g)).setCell ⟨w.heap.size,2,RZ⟩ i).ownsRow w.heap.size 63 2 (.slice d a.length e) a.length (dg (a.map SB))):=c1 (by decide) C.ah;have fz:Sb ((((F.setCell ⟨w.heap.size,0,RZ⟩ (.slice d a.length e)).setCell ⟨w.heap.size,1,RZ⟩ (.slice f a.length g)).setCell ⟨w.heap.size,2,RZ⟩ i).ownsRow w.heap.size 3 1 (.slice f a.length g) a.length (aW (a.map T4))):=c1 (by decide) C.mR;have fi:Sb (iV r q w (((F.setCell ⟨w.heap.size,0,RZ⟩ (.slice d a.length e)).setCell ⟨w.heap.size,1,RZ⟩ (.slice f a.length g)).setCell ⟨w.heap.size,2,RZ⟩ i)):=((C.kp.grown (aG F w.heap.size 0 _) (fun dE p=>by cases p;exact R8 _)).grown (aG _ w.heap.size 1 _) (fun dE p=>by cases p;exact R8 _)).grown (aG _ w.heap.size 2 _) (fun dE p=>by cases p;exact R8 _);have b0:Sb ((((F.setCell ⟨w.heap.size,0,RZ⟩ (.slice d a.length e)).setCell ⟨w.heap.size,1,RZ⟩ (.slice f a.length g)).setCell ⟨w.heap.size,2,RZ⟩ i).heap[r]? =RX (bg s u)):=by
        show _=_;rw[Sv _ _ _ _ (by simp;omega),Sv _ _ _ _ (by simp;omega),Sv _ _ _ _ (by simp;omega)];exact f1.out
       clear y k A C bb bA bx c1;subst ci;go_wp2;simp[TT,SX,Tryz.results64,go_sem,gy,gF,gN];exact⟨fi.out,.inl ⟨a,b,n,d,f,e,g,_,rfl,fb.out,ba.out,br.out.2,by rw[br.out.1];exact ab,by rw[br.out.1];exact b0.out,f7.out,fx.out,fz.out,fv.out,b1.out⟩⟩
def nH:Array R2:= #[.slice RZ 0 0,.slice RZ 0 0,.slice RZ 0 0]
def eN{w:R3}{g:Nat}{a b c:R2}{t:Sg}(h:w.heap[g]? =RX (.cells #[a,b,c] t (0,0))):(w.cell? ⟨g,0,RZ⟩=RX a∧w.cell? ⟨g,1,RZ⟩=RX b∧w.cell? ⟨g,2,RZ⟩=RX c)∧(w.frozen? ⟨g,0,RZ⟩=R6∧w.frozen? ⟨g,1,RZ⟩=R6∧w.frozen? ⟨g,2,RZ⟩=R6):=by
 refine⟨⟨?_,?_,?_⟩,?_,?_,?_⟩<;>simp[Sr,S4,h]
def fQ (w:R3)(g:Nat)(a b c:R2):R3:=((w.setCell ⟨g,0,RZ⟩ a).setCell ⟨g,1,RZ⟩ b).setCell ⟨g,2,RZ⟩ c
def pW{w:R3}{g:Nat}{a b c:R2}{t:Sg}(x y z:R2)(h:w.heap[g]? =RX (.cells #[a,b,c] t (0,0))):(fQ w g x y z).heap[g]? =RX (.cells #[x,y,z] t (0,0)):=by
 have d:=Sq w g 0 _ _ x h;have e:=Sq _ g 1 _ _ y d;exact Sq _ g 2 _ _ z e
def jK{w:R3}{g i:Nat}(x y z:R2)(h:i≠g):(fQ w g x y z).heap[i]? =w.heap[i]? :=by
 unfold fQ;rw[Sv _ _ _ _ (by simp;omega),Sv _ _ _ _ (by simp;omega),Sv _ _ _ _ (by simp;omega)]
def lY{w w0:R3}{g n:Nat}(x y z:R2)(h:Si n w0 w)(b:n≤w0.heap.size)(a:n≤g):Si n w0 (fQ w g x y z):=
 b5 (b5 (b5 h b a _ _) b a _ _) b a _ _
theorem sZ(b a:Nat)(x y z v:R2)(u:Sg)(h:R2)(g:List Tv)(w:R3)(r:b≠a)(hL:w.heap[b]? =RX (.cells #[x,y,z] 105 (0,0)))(f:w.heap[a]? =RX (.cells #[v] 4 (0,0))):
 CallsD (aa.of RY) 92 #[.pointer (RX ⟨b,0,RZ⟩),.pointer (RX ⟨a,0,RZ⟩)] (.panicking ({v:=.iface u h,recovered:=R6} :: g)) w fun e F w'=>
  e= .returned (.tuple #[])∧F= .panicking ({v:=.iface u h,recovered:=R7} :: g)∧w'=(fQ (w.alloc (.cells nH 105)) b (.slice RZ 0 0) (.slice RZ 0 0) (.slice RZ 0 0)).setCell ⟨a,0,RZ⟩ (.bool R6):=by
 have q:=Sf hL;have p:=Sf f;have n:(w.alloc (.cells nH 105)).heap[b]? =RX (.cells #[x,y,z] 105 (0,0)):=by rw[SP _ _ b q];exact hL
 have l:(w.alloc (.cells nH 105)).heap[a]? =RX (.cells #[v] 4 (0,0)):=by rw[SP _ _ a p];exact f
 have o:(w.alloc (.cells nH 105)).heap[w.heap.size]? =RX (.cells #[.slice RZ 0 0,.slice RZ 0 0,.slice RZ 0 0] 105 (0,0)):=bw w _;refine callsD_of_wpS aa.func92 rfl fun H G s=>?_;apply wpS_seq;apply wpS_region;simp[wpOpsS,go_sem,recoverD,s,Tryz.ntmps92,Exit.thenS];refine wpS_cond (t:=R7) (by simp[Act.eval,S8]) ?_;simp only[if_true];apply wpS_seq;apply wpS_region;simp[wpOpsS,go_sem,Exit.thenS];apply wpS_region;obtain⟨⟨C,D,E⟩,-⟩:=eN o;obtain⟨⟨t,A,B⟩,i,j,k⟩:=eN n;have m:(fQ (w.alloc (.cells nH 105)) b (.slice RZ 0 0) (.slice RZ 0 0) (.slice RZ 0 0)).heap[a]? =RX (.cells #[v] 4 (0,0)):=by rw[jK _ _ _ r.symm];exact l
 obtain⟨c,d⟩:=cS m;unfold fQ at c d ⊢;unfold nH at*;simp[wpOpsS,go_sem,C,D,E,t,A,B,i,j,k,c,d,bodyPostS,SX,Tryz.results92]
theorem Cm(d c:SL)(w:R3):
 CallsD (aa.of RY) 92 #[.pointer (RX d),.pointer (RX c)] .returning w fun e f w'=>e= .returned (.tuple #[])∧f= .returning∧w'=w:=by
 refine callsD_of_wpS aa.func92 rfl fun a g b=>?_;apply wpS_seq;apply wpS_region;simp[wpOpsS,go_sem,recoverD,b,Tryz.ntmps92,Exit.thenS];refine wpS_cond (t:=R6) (by simp[Act.eval,S8]) ?_;simp only[SD,if_false];refine wpS_of_wp (wp_skip ?_);cases a;simp_all [bodyPostS,SX,Tryz.results92]
def K8{r q:Nat}{w d e:R3}(h:Kp r w d)(k:iV r q d e)(g:w.heap.size≤q):Kp r w e:=
 ⟨k.os.trans h.os,k.tape.trans h.tape,k.output.trans h.output,Ss (Kp.size h) k.size,fun c a b=>(k.block c (Sa a (Kp.size h)) (fun f=>b (by rw[f])) (by omega)).trans (Um h c a b)⟩
structure cq(W:R3)(base:Nat)(l:List (bG×Int))(L:List (Bd×R2))(a b c:R2):Prop where
 ah:W.ownsRow base 63 2 a l.length (dg (l.map SB))
 mR:W.ownsRow base 3 1 b l.length (aW (l.map T4))
 bP:iu W base c L
def cq.below{d f:R3}{base:Nat}{l:List (bG×Int)}{L:List (Bd×R2)}{a b c:R2}(h:cq d base l L a b c)(e:Si d.heap.size d f):cq f base l L a b c:=⟨aM h.ah e,aM h.mR e,h.bP.below e⟩
def cq.base{e:R3}{base f:Nat}{l:List (bG×Int)}{L:List (Bd×R2)}{a b c:R2}(h:cq e base l L a b c)(d:f≤base):cq e f l L a b c:=⟨bn h.ah d,bn h.mR d,⟨bn h.bP.own d,fun i g=>bn (h.bP.each i g) d⟩⟩
theorem cq.put{d:R3}{base:Nat}{l:List (bG×Int)}{L:List (Bd×R2)}{a b c:R2}(h:cq d base l L a b c){g:Nat}{cs:Array R2}{t:Sg}(f:d.heap[g]? =RX (.cells cs t (0,0)))(e:t=105∨t=4∨t=9)(o:Nat)(u:R2):cq (d.setCell ⟨g,o,RZ⟩ u) base l L a b c:=by
 have i:t≠63:=by rcases e with rfl|rfl|rfl<;>decide
 have j:t≠3:=by rcases e with rfl|rfl|rfl<;>decide
 have k:t≠139:=by rcases e with rfl|rfl|rfl<;>decide
 have m:t≠143:=by rcases e with rfl|rfl|rfl<;>decide
 exact⟨h.ah.kept (aG d g o u) (.inr (bk h.ah f i).symm),h.mR.kept (aG d g o u) (.inr (bk h.mR f j).symm),h.bP.put f k m o u⟩
def cq.fQ{d:R3}{base:Nat}{l:List (bG×Int)}{L:List (Bd×R2)}{a b c:R2}(h:cq d base l L a b c){g:Nat}{x y z:R2}(i j m:R2)(f:d.heap[g]? =RX (.cells #[x,y,z] 105 (0,0))):cq (Ec.fQ d g i j m) base l L a b c:=by
 have e:=Sq d g 0 _ _ i f;have k:=Sq _ g 1 _ _ j e;exact((h.put f (.inl rfl) _ _).put e (.inl rfl) _ _).put k (.inl rfl) _ _
def cq.Gl{i:R3}{base:Nat}{l:List (bG×Int)}{L:List (Bd×R2)}{a b c:R2}(h:cq i base l L a b c):∃ d ac f e co g,a= .slice d l.length ac∧b= .slice f l.length e∧c= .slice co L.length g:=by
 obtain⟨d,ac,j⟩:=dz h.ah;obtain⟨f,e,k⟩:=dz h.mR;obtain⟨co,g,m⟩:=dz h.bP.own;exact⟨d,ac,f,e,co,g,j,k,m⟩
def RH (w:R3)(r:Nat)(s z:ByteArray)(e:UQ)(w':R3):Prop:=
 Kp r w w'∧((∃ (b:List (bG×Int)) (a:List Bd) (f:List (Bd×R2)) (g h i:R2),e= .returned (.agg #[g,h,i])∧sF b a∧f.map SB=a∧ag (bytesOf s) 0 (nB b a)∧(nB b a).length≤s.size∧w'.heap[r]? =RX (bg s (nB b a).length)∧bytesOf z=bp a∧cq w' w.heap.size b f g h i∧(∀ d c,sF d c→ag (bytesOf s) 0 (nB d c)→bytesOf z=bp c→d=b∧c=a))∨
  (∃ m,e= .panicked (dU m)∧∀ b a,sF b a→ag (bytesOf s) 0 (nB b a)→bytesOf z≠bp a))
theorem IL(r cb:Nat)(s z:ByteArray)(w:R3)(a9:s.size≤65536)(X:z.size≤65536)(h:w.heap[r]? =RX (bg s 0))(B:w.heap[cb]? =RX (.cells #[.string z] 9 (0,0))):
 SF (aa.of RY) 63 #[.pointer (RX ⟨r,0,RZ⟩),.pointer (RX ⟨cb,0,RZ⟩)] w (RH w r s z):=by
 have ba:r<w.heap.size:=Sf h;have a8:cb<w.heap.size:=Sf B;have a7:(w.alloc (.cells #[.slice RZ 0 0,.slice RZ 0 0,.slice RZ 0 0] 105)).cell? ⟨cb,0,RZ⟩=RX (.string z):=(cS (t:=9) (by rw[SP _ _ cb a8];exact B)).1;have D:Sb (∀ o,SF (aa.of RY) 66 #[.string z] o fun e be=>e= .returned (.string z)∧Si o.heap.size o be):=fun o=>wC z o X;have x:Sb ((w.alloc (.cells #[.slice RZ 0 0,.slice RZ 0 0,.slice RZ 0 0] 105)).heap[r]? =RX (bg s 0)):=by
  show _=_;rw[SP _ _ r ba];exact h
 have y:Sb ((w.alloc (.cells #[.slice RZ 0 0,.slice RZ 0 0,.slice RZ 0 0] 105)).heap[w.heap.size]? =RX (.cells #[.slice RZ 0 0,.slice RZ 0 0,.slice RZ 0 0] 105 (0,0))):=bw w _;have E:Sb (Kp r w (w.alloc (.cells #[.slice RZ 0 0,.slice RZ 0 0,.slice RZ 0 0] 105))):=(Kp.refl r w).alloc _;clear h B;go_enter aa.func63,Tryz.ntmps63
 go_wp2_with fail
 refine(D.out _).mono ?_;rintro e b ⟨rfl,u⟩;have H:Sb (b.heap[r]? =RX (bg s 0)):=(u.block r (Sf x.out)).trans x.out;have A:Sb (b.heap[w.heap.size]? =RX (.cells #[.slice RZ 0 0,.slice RZ 0 0,.slice RZ 0 0] 105 (0,0))):=(u.block _ (Sf y.out)).trans y.out;have F:Sb (Kp r w b):=E.out.trans (Kp.bS u);clear a7 u x y E D
 go_wp2_with fail
 refine(mT z _).mono ?_;rintro e bm ⟨rfl,rfl⟩;have bc:w.heap.size<b.heap.size:=Sf A.out;have I:Sb ((b.alloc (bg z 0)).heap[r]? =RX (bg s 0)):=by show _=_;rw[SP _ _ r (by omega)];exact H.out
 have G:Sb ((b.alloc (bg z 0)).heap[b.heap.size]? =RX (bg z 0)):=bw b _;have J:Sb ((b.alloc (bg z 0)).heap[w.heap.size]? =RX (.cells #[.slice RZ 0 0,.slice RZ 0 0,.slice RZ 0 0] 105 (0,0))):=by show _=_;rw[SP _ _ _ bc];exact A.out
 have v:Sb (Kp r w (b.alloc (bg z 0))):=F.out.alloc _;have bb:w.heap.size≤(b.alloc (bg z 0)).heap.size:=by simp;omega
 clear H A F;generalize b.alloc (bg z 0)=a5 at*;generalize b.heap.size=bd at*;clear b
 go_wp2_with fail
 refine(xP r bd s z a5 (by omega) a9 X I.out G.out).mono ?_;rintro e f ⟨p,⟨a,c,d,i,k,g,j,a6,rfl,P,M,V,Q,N,O,T,U,S,W⟩|⟨m,rfl,R⟩⟩;rotate_left
 ·have aw:Sb (∀ a c,sF a c→ag (bytesOf s) 0 (nB a c)→bytesOf z≠bp c):=R;have al:Sb (Kp r w f):=K8 v.out p (by omega);clear R p;go_wp2;exact⟨rfl,al.out,.inr ⟨m,rfl,aw.out⟩⟩
 ·have L:Kp r w f:=K8 v.out p (by omega);have t:f.heap[w.heap.size]? =RX (.cells #[.slice RZ 0 0,.slice RZ 0 0,.slice RZ 0 0] 105 (0,0)):=p.keep J.out (by omega) (by omega);have hF:cq f w.heap.size a d (.slice i a.length g) (.slice k a.length j) a6:=(cq.mk T U S).base bb;obtain⟨-,-,-,-,n,l,-,-,rfl⟩:=hF.Gl;have ad:Sb (cq (fQ f w.heap.size (.slice i a.length g) (.slice k a.length j) (.slice n d.length l)) w.heap.size a d (.slice i a.length g) (.slice k a.length j) (.slice n d.length l)):=hF.fQ _ _ _ t;have a0:Sb ((fQ f w.heap.size (.slice i a.length g) (.slice k a.length j) (.slice n d.length l)).heap[r]? =RX (bg s (nB a c).length)):=by show _=_;rw[jK _ _ _ (by omega)];exact N
  have am:Sb (Kp r w (fQ f w.heap.size (.slice i a.length g) (.slice k a.length j) (.slice n d.length l))):=((L.grown (aG _ w.heap.size 0 _) (fun K e=>by cases e;exact R8 _)).grown (aG _ w.heap.size 1 _) (fun K e=>by cases e;exact R8 _)).grown (aG _ w.heap.size 2 _) (fun K e=>by cases e;exact R8 _);have a3:Sb ((fQ f w.heap.size (.slice i a.length g) (.slice k a.length j) (.slice n d.length l)).heap[w.heap.size]? =RX (.cells #[.slice i a.length g,.slice k a.length j,.slice n d.length l] 105 (0,0))):=pW _ _ _ t;obtain⟨⟨bo,br,bs⟩,bi,bj,bl⟩:=eN t;have ae:Sb (sF a c):=P;have ao:Sb (d.map SB=c):=M;have a1:Sb (ag (bytesOf s) 0 (nB a c)):=V;have ar:Sb ((nB a c).length≤s.size):=Q;have a4:Sb (bytesOf z=bp c):=O;have a2:Sb (∀ C q,sF C q→ag (bytesOf s) 0 (nB C q)→bytesOf z=bp q→C=a∧q=c):=W;clear L t hF N p P M V Q O W T U S I G J v;obtain⟨⟨Y,Z,ab⟩,-⟩:=eN a3.out;unfold fQ at Y Z ab;go_wp2;simp[TT,SX,Tryz.results63,go_sem,Y,Z,ab];exact⟨am.out,.inl ⟨a,c,d,_,_,_,rfl,ae.out,ao.out,a1.out,ar.out,a0.out,a4.out,ad.out,a2.out⟩⟩
theorem uU(t:ByteArray):(t.toList == [83,84,82,65])=R7↔bytesOf t=[83,84,82,65]:=by
 rw[beq_iff_eq,Vi];unfold bytesOf;constructor
 ·intro d;rw[d];rfl
 ·intro d;have e:t.data.toList.map UInt8.toNat=[(83:UInt8),84,82,65].map UInt8.toNat:=by rw[d];rfl
  have g:∀ (c a:List UInt8),c.map UInt8.toNat=a.map UInt8.toNat→c=a:=by
   intro c
   induction c with
   |nil=>intro a b;cases a with|nil=>rfl|cons _ _=>simp at b
   |cons j i f=>
    intro a b;cases a with
    |nil=>simp at b
    |cons k h=>
     simp only[U8,UW] at b;rw[UInt8.toNat_inj.1 b.1,f h b.2]
  exact g _ _ e
def NF{s:ByteArray}(c:4≤s.size):bytesOf (s.extract 0 4)=[83,84,82,65]↔∃ b,bytesOf s=[83,84,82,65] ++ b:=by
 rw[cN,List.drop_zero];constructor
 ·intro a;exact⟨(bytesOf s).drop 4,by rw[← a];exact(UG 4 _).symm⟩
 ·rintro⟨b,a⟩;rw[a];simp
theorem NZ{s:ByteArray}(d:4≤s.size):bytesOf (s.extract (s.size - 4) s.size)=[83,84,82,65]↔∃ b,bytesOf s=b ++ [83,84,82,65]:=by
 rw[cN];constructor
 ·intro a;refine⟨(bytesOf s).take (s.size - 4),?_⟩;rw[← a,Tj (l:=(bytesOf s).drop (s.size - 4)) (by rw[UN,ai];omega)];exact(UG _ _).symm
 ·rintro⟨b,a⟩;have c:=congrArg Vn a;rw[ai] at c;simp at c;rw[a,show s.size - 4=b.length by omega,List.drop_left];exact Tj (by simp;omega)
theorem ze(s:ByteArray)(w:R3)(f:s.size≤Sw):
 SF (aa.of RY) 150 #[.string s,.string ⟨#[83,84,82,65]⟩] w fun e w'=>∃ bb,e= .returned (.bool bb)∧(bb=R7↔4≤s.size∧∃ c,bytesOf s=[83,84,82,65] ++ c)∧w'=w:=by
 unfold Sw at f;by_cases b:4≤s.size
 ·have d:decide ((4:Int)≤(s.size:Int))=R7:=by simp;omega
  have g:(4:Int)≤(s.size:Int):=by omega
  go_enter aa.func150,Tryz.ntmps150;go_wp2;go_ret;exact⟨_,rfl,by rw[uU,NF b];exact⟨fun a=>⟨b,a⟩,fun a=>a.2⟩,rfl⟩
 ·have d:decide ((4:Int)≤(s.size:Int))=R6:=by simp;omega
  go_enter aa.func150,Tryz.ntmps150;go_wp2;go_ret;exact⟨R6,rfl,⟨fun a=>(by simp at a),fun a=>absurd a.1 b⟩,rfl⟩
theorem zh(s:ByteArray)(w:R3)(f:s.size≤Sw):
 SF (aa.of RY) 151 #[.string s,.string ⟨#[83,84,82,65]⟩] w fun e w'=>∃ bb,e= .returned (.bool bb)∧(bb=R7↔4≤s.size∧∃ c,bytesOf s=c ++ [83,84,82,65])∧w'=w:=by
 unfold Sw at f;by_cases b:4≤s.size
 ·have d:decide ((4:Int)≤(s.size:Int))=R7:=by simp;omega
  have g:(4:Int)≤(s.size:Int):=by omega
  have h:Tw ((s.size:Int) - 4)=((s.size - 4:Nat):Int):=by unfold Tw;omega
  have i:((s.size - 4:Nat):Int)≤(s.size:Int):=by omega
  have j:((s.size:Int) - 4).toNat=s.size - 4:=by omega
  go_enter aa.func151,Tryz.ntmps151;go_wp2;go_ret;exact⟨_,rfl,by rw[uU,NZ b];exact⟨fun a=>⟨b,a⟩,fun a=>a.2⟩,rfl⟩
 ·have d:decide ((4:Int)≤(s.size:Int))=R6:=by simp;omega
  go_enter aa.func151,Tryz.ntmps151;go_wp2;go_ret;exact⟨R6,rfl,⟨fun a=>(by simp at a),fun a=>absurd a.1 b⟩,rfl⟩
def Ov (s:ByteArray)(e:UQ):Prop:=∃ (b:ByteArray) (a:Bool),e= .returned (.tuple #[.string b,.bool a])∧((a=R7∧bytesOf s=[83,84,82,65] ++ bytesOf b)∨(a=R6∧b=s∧∀ c,bytesOf s≠[83,84,82,65] ++ c))
def Ox (s:ByteArray)(e:UQ):Prop:=∃ (b:ByteArray) (a:Bool),e= .returned (.tuple #[.string b,.bool a])∧((a=R7∧bytesOf s=bytesOf b ++ [83,84,82,65])∨(a=R6∧b=s∧∀ c,bytesOf s≠c ++ [83,84,82,65]))
theorem vr(s:ByteArray)(w:R3)(g:s.size≤Sw):
 SF (aa.of RY) 126 #[.string s,.string ⟨#[83,84,82,65]⟩] w fun e w'=>Ov s e∧w'=w:=by
 have k:=g;unfold Sw at k;go_enter aa.func126,Tryz.ntmps126
 go_wp2_with fail
 refine(ze s _ g).mono ?_;rintro e m ⟨j,rfl,b,rfl⟩;cases j
 ·have h:Sb (∀ a,bytesOf s≠[83,84,82,65] ++ a):=fun a c=>by
   have d:4≤s.size:=by
    have:=congrArg Vn c;rw[ai] at this;simp at this;omega
   exact absurd (b.2 ⟨d,a,c⟩) (by simp)
  clear b;go_wp2
  go_ret2
  exact⟨⟨s,R6,rfl,.inr ⟨rfl,rfl,h.out⟩⟩,rfl⟩
 ·have d:=(b.1 rfl).1;have i:Sb (∃ a,bytesOf s=[83,84,82,65] ++ a):=(b.1 rfl).2;have l:(4:Int)≤(s.size:Int):=by omega
  clear b;go_wp2
  go_ret2
  refine⟨⟨s.extract 4 s.size,R7,rfl,.inl ⟨rfl,?_⟩⟩,rfl⟩;obtain⟨a,f⟩:=i.out;rw[cN,f,Tj (by rw[UN,← f,ai];omega)];simp
theorem vt(s:ByteArray)(w:R3)(h:s.size≤Sw):
 SF (aa.of RY) 127 #[.string s,.string ⟨#[83,84,82,65]⟩] w fun e w'=>Ox s e∧w'=w:=by
 have l:=h;unfold Sw at l;go_enter aa.func127,Tryz.ntmps127
 go_wp2_with fail
 refine(zh s _ h).mono ?_;rintro e q ⟨k,rfl,b,rfl⟩;cases k
 ·have i:Sb (∀ a,bytesOf s≠a ++ [83,84,82,65]):=fun a c=>by
   have d:4≤s.size:=by
    have:=congrArg Vn c;rw[ai] at this;simp at this;omega
   exact absurd (b.2 ⟨d,a,c⟩) (by simp)
  clear b;go_wp2
  go_ret2
  exact⟨⟨s,R6,rfl,.inr ⟨rfl,rfl,i.out⟩⟩,rfl⟩
 ·have d:=(b.1 rfl).1;have j:Sb (∃ a,bytesOf s=a ++ [83,84,82,65]):=(b.1 rfl).2;have m:(4:Int)≤(s.size:Int):=by omega
  have n:Tw ((s.size:Int) - 4)=((s.size - 4:Nat):Int):=by unfold Tw;omega
  have o:((s.size - 4:Nat):Int)≤(s.size:Int):=by omega
  have p:((s.size:Int) - 4).toNat=s.size - 4:=by omega
  clear b;go_wp2
  go_ret2
  refine⟨⟨s.extract 0 (s.size - 4),R7,rfl,.inl ⟨rfl,?_⟩⟩,rfl⟩;obtain⟨a,f⟩:=j.out;have g:=congrArg Vn f;rw[ai] at g;simp at g;rw[cN,f,List.drop_zero,show s.size - 4 - 0=a.length by omega,List.take_left]
def yZ(s:ByteArray)(w:R3)(d:s.size≤Sw):
 SF (aa.of RY) 89 #[.string s,.string ⟨#[83,84,82,65]⟩] w fun e w'=>Ov s e∧w'=w:=by
 go_enter aa.func89,Tryz.ntmps89
 go_wp2_with fail
 refine(vr s _ d).mono ?_;rintro e g ⟨⟨f,c,rfl,a⟩,rfl⟩;have b:Sb _:=a;clear a;go_wp2
 go_ret2
 exact⟨⟨f,c,rfl,b.out⟩,rfl⟩
def qA(s:ByteArray)(w:R3)(d:s.size≤Sw):
 SF (aa.of RY) 90 #[.string s,.string ⟨#[83,84,82,65]⟩] w fun e w'=>Ox s e∧w'=w:=by
 go_enter aa.func90,Tryz.ntmps90
 go_wp2_with fail
 refine(vt s _ d).mono ?_;rintro e g ⟨⟨f,c,rfl,a⟩,rfl⟩;have b:Sb _:=a;clear a;go_wp2
 go_ret2
 exact⟨⟨f,c,rfl,b.out⟩,rfl⟩
def oV (s:ByteArray):Nat→Nat
 |0=>0
 |k+1=>oV s k+256 ^ k*(bytesOf s).getD k 0
def rQ(s:ByteArray)(k:Nat):(bytesOf s).getD k 0<256:=by
 by_cases a:k<s.size
 ·rw[Sj,rH s k a];exact s[k].toNat_lt
 ·rw[Sj,List.getElem?_eq_none (by rw[ai];omega)];simp
theorem vI(s:ByteArray):∀ k,oV s k<256 ^ k
 |0=>by simp[oV]
 |k+1=>by
  have a:=vI s k;have b:=rQ s k;have c:256 ^ k*(bytesOf s).getD k 0≤256 ^ k*255:=Nat.mul_le_mul_left _ (by omega);rw[oV,UT];omega
def PA(j:Nat):(256:Nat) ^ j=2 ^ (8*j):=by rw[Nat.pow_mul]
theorem Nz(a c j:Nat)(e:j≤3)(b:a<256 ^ j)(hc:c<256):bits .or .u64 (a:Int) (Ud.wrap ((c:Int)*2 ^ (8*j)))=((a+256 ^ j*c:Nat):Int):=by
 have i:(256:Nat) ^ 3=16777216:=by decide
 have g:256 ^ j≤256 ^ 3:=Uf (by omega) e;have k:2 ^ (8*j)*c<18446744073709551616:=by
  rw[← PA];have:=Nat.mul_le_mul g (show c≤255 by omega);omega
 have d:(c:Int)*2 ^ (8*j)=((2 ^ (8*j)*c:Nat):Int):=by push_cast;rw[Int.mul_comm]
 have h:Ud.wrap ((c:Int)*2 ^ (8*j))=((2 ^ (8*j)*c:Nat):Int):=by rw[d,wrap_u64];omega
 have f:=(bits_nat .u64 64 (by decide) uj a (2 ^ (8*j)*c) (by omega) (by omega)).2;rw[h,f,Nat.or_comm,← Nat.two_pow_add_eq_or_of_lt (by rw[← PA];exact b) c,Nat.add_comm,PA]
theorem xQ(s:ByteArray)(w:R3)(h:s.size=4):
 SF (aa.of RY) 91 #[.string s] w fun e w'=>e= .returned (.int .u64 (oV s 4:Int))∧w'=w:=by
 go_enter aa.func91,Tryz.ntmps91
 go_wp2_with fail
 go_loopw [3,5] (fun g b wr=>∃ a:Nat,a≤4∧b= .int .i64 (a:Int)∧g= .int .u64 (oV s a:Int)∧wr=w) (fun _ b _=>4 - (S2 b).toNat)
 case atStart=>exact⟨0,by omega,rfl,rfl,rfl⟩
 case round=>
  obtain⟨a,i,rfl,rfl,rfl⟩:=hrel;by_cases k:a<4
  ·have f:a<s.size:=by omega
   have j:(a:Int)<(s.size:Int):=by omega
   have c:Sb (s[a].toNat=(bytesOf s).getD a 0):=by show _=_;rw[Sj,rH s a f];rfl
   have d:s[a].toNat<256:=s[a].toNat_lt;have l:=Nz (oV s a) s[a].toNat a (by omega) (vI s a) d;have m:Ud.wrap (s[a].toNat:Int)=(s[a].toNat:Int):=by rw[wrap_u64];omega
   go_wp2_with fail
   refine⟨⟨a+1,by omega,by go_num,?_,trivial⟩,by simp[S2];omega⟩;rw[oV,← c.out]
   push_cast
   rfl
  ·obtain rfl:a=4:=by omega
   go_wp2;go_ret;exact⟨rfl,rfl⟩
def zU(E:ByteArray)(h:E.size=4):gb (oV E 4)=bytesOf E:=by
 have f:(bytesOf E).length=4:=by rw[ai,h]
 have b:=rQ E 0;have c:=rQ E 1;have d:=rQ E 2;have e:=rQ E 3;simp only[oV];generalize bytesOf E=a at*
 match a,f with
 | [g,i,j,k],_=>
  simp at b c d e;simp[gb];omega
def It(E:ByteArray)(n:Nat)(e:n≤65536)(h:bytesOf E=gb n):oV E 4=n:=by
 have c:E.size=4:=by rw[← ai,h];rfl
 have b:=zU E c;have a:gb (oV E 4)=gb n:=by rw[b,h]
 have d:=vI E 4;unfold gb at a;simp at a;have:(256:Nat) ^ 4=4294967296:=by decide
 omega
def Q8 (s:ByteArray)(e:UQ):Prop:=
 (∃ a b:ByteArray,e= .returned (.tuple #[.string a,.string b,.bool R7])∧Cut s (bytesOf a) (bytesOf b))∨(e= .returned (.tuple #[.string ⟨#[]⟩,.string ⟨#[]⟩,.bool R6])∧∀ a b,¬ Cut s a b)
theorem M5(s:ByteArray)(w:R3)(v:s.size≤Sw):
 SF (aa.of RY) 61 #[.string s] w fun e w'=>Q8 s e∧Si w.heap.size w w':=by
 have J:=v;unfold Sw at J;by_cases S:65536<s.size
 ·have G:decide ((65536:Int)<(s.size:Int))=R7:=by simp;omega
  have i:Sb (∀ c a,¬ Cut s c a):=fun c a g=>by have:=g.1;omega
  go_enter aa.func61,Tryz.ntmps61;go_wp2;simp[TT,SX,Tryz.results61,go_sem];exact⟨.inr ⟨rfl,i.out⟩,So _ _⟩
 ·have G:decide ((65536:Int)<(s.size:Int))=R6:=by simp;omega
  go_enter aa.func61,Tryz.ntmps61
  go_wp2_with fail
  refine(yZ s _ v).mono ?_;rintro e aw ⟨⟨o,D,rfl,n⟩,rfl⟩;rcases n with⟨rfl,n⟩|⟨rfl,rfl,n⟩;rotate_left
  ·have i:Sb (∀ c a,¬ Cut o c a):=fun c a g=>n _ g.2;clear n
   go_wp2_with fail
   refine(qA o _ v).mono ?_;rintro e A ⟨⟨d,D,rfl,h⟩,rfl⟩;clear h;go_wp2;simp[TT,SX,Tryz.results61,go_sem];exact⟨.inr ⟨rfl,i.out⟩,So _ _⟩
  ·have W:o.size+4=s.size:=by
    have:=congrArg Vn n;rw[ai,Sc,ai] at this;simp at this;omega
   have L:o.size≤Sw:=by unfold Sw;omega
   have r:Sb (bytesOf s=[83,84,82,65] ++ bytesOf o):=n;clear n
   go_wp2_with fail
   refine(qA o _ L).mono ?_;rintro e A ⟨⟨d,D,rfl,h⟩,rfl⟩;rcases h with⟨rfl,h⟩|⟨rfl,rfl,h⟩;rotate_left
   ·have i:Sb (∀ c a,¬ Cut s c a):=fun c a g=>by
     have j:=g.2;rw[r.out] at j;have l:=List.append_cancel_left (show[83,84,82,65] ++ bytesOf _=[83,84,82,65] ++ _ from j);exact h (c ++ (a ++ gb a.length)) (by rw[l];simp[cW])
    clear h;go_wp2;simp[TT,SX,Tryz.results61,go_sem];exact⟨.inr ⟨rfl,i.out⟩,So _ _⟩
   ·have X:d.size+4=o.size:=by
     have:=congrArg Vn h;rw[ai,Sc,ai] at this;simp at this;omega
    have p:Sb (∀ c a,Cut s c a→bytesOf d=c ++ (a ++ gb a.length)):=fun c a g=>by
     have j:=g.2;rw[r.out] at j;have l:=List.append_cancel_left (show[83,84,82,65] ++ bytesOf _=[83,84,82,65] ++ _ from j);rw[h] at l;have z:bytesOf d ++ [83,84,82,65]=(c ++ (a ++ gb a.length)) ++ [83,84,82,65]:=by rw[l];simp[cW]
     exact List.append_cancel_right z
    have t:Sb (∀ c a,bytesOf d=c ++ (a ++ gb a.length)→Cut s c a):=fun c a g=>by
     refine⟨by omega,?_⟩;rw[r.out,h,g];simp[cW]
    clear h r;by_cases z:d.size<4
    ·have H:decide ((d.size:Int) - 4<0)=R7:=by simp;omega
     have M:Tw ((d.size:Int) - 4)=(d.size:Int) - 4:=by unfold Tw;omega
     have i:Sb (∀ c a,¬ Cut s c a):=fun c a g=>by
      have:=congrArg Vn (p.out c a g);rw[ai] at this;simp[gb] at this;omega
     clear p t;go_wp2;simp[TT,SX,Tryz.results61,go_sem];exact⟨.inr ⟨rfl,i.out⟩,So _ _⟩
    ·obtain⟨b,K⟩:∃ b,d.size=b+4:=⟨d.size - 4,by omega⟩;have H:decide ((b:Int)<0)=R6:=by simp
     have M:Tw ((d.size:Int) - 4)=(b:Int):=by unfold Tw;omega
     have P:(b:Int)≤(d.size:Int):=by omega
     have Q:(d.size:Int) - 4=(b:Int):=by omega
     obtain⟨f,u⟩:∃ f,f=d.extract b (b+4):=⟨_,rfl⟩;have q:f.size=4:=by rw[u,ByteArray.size_extract];omega
     have y:Sb (bytesOf d=(bytesOf d).take b ++ bytesOf f):=by
      show _=_;rw[u,cN,Tj (l:=(bytesOf d).drop b) (by rw[UN,ai];omega),UG]
     have C:Sb (SF (aa.of RY) 91 #[.string (d.extract b (b+4))] A fun e w'=>e= .returned (.int .u64 (oV f 4:Int))∧w'=A):=by rw[← u];exact xQ f _ q
     have B:Sb (gb (oV f 4)=bytesOf f):=zU f q;have O:Sb (oV f 4<4294967296):=vI f 4;have x:Sb (∀ c a,Cut s c a→oV f 4=a.length∧a.length≤b):=fun c a g=>by
      have E:=p.out c a g;have j:=y.out;have I:=congrArg Vn E;rw[ai] at I;simp[gb] at I;have l:(bytesOf d).take b ++ bytesOf f=(c ++ a) ++ gb a.length:=by rw[← j,E,SG]
      have F:=(List.append_inj' l (by rw[ai,q];rfl)).2;exact⟨It f _ (by omega) F,by omega⟩
     clear u;generalize oV f 4=k at*
     go_wp2_with fail
     refine C.out.mono ?_;rintro e a0 ⟨rfl,rfl⟩;have ao:Ud.wrap (b:Int)=(b:Int):=by rw[wrap_u64];omega
     have Z:Sb (d.size=b+4):=K;have Y:Sb (f.size=4):=q;have al:b≤65536:=by omega
     have ab:Sb (s.size≤65536):=by show _≤_;omega
     have am:(b:Int)≤(d.size:Int):=by omega
     clear C M Q P H W X L K q G J v S z;by_cases R:b<k
     ·have T:(b:Int)<(k:Int):=by omega
      have i:Sb (∀ c a,¬ Cut s c a):=fun c a g=>by have:=x.out c a g;omega
      clear p t x;go_wp2;simp[TT,SX,Tryz.results61,go_sem];exact⟨.inr ⟨rfl,i.out⟩,So _ _⟩
     ·have T:decide ((b:Int)<(k:Int))=R6:=by simp;omega
      obtain⟨m,V⟩:∃ m,b=m+k:=⟨b - k,by omega⟩;have ar:(b:Int) - (k:Int)=(m:Int):=by omega
      have F:(m:Int)≤(b:Int):=by omega
      have ad:(m:Int)≤(d.size:Int):=by omega
      have N:Sb (Cut s (bytesOf (d.extract 0 m)) (bytesOf (d.extract m b))):=by
       refine t.out _ _ ?_;have U:(bytesOf (d.extract m b)).length=k:=by rw[ai,ByteArray.size_extract];omega
       rw[U,B.out];have j:=y.out;rw[cN,cN,List.drop_zero,← SG];have l:((bytesOf d).take (m - 0)) ++ ((bytesOf d).drop m).take (b - m)=(bytesOf d).take b:=by
        rw[show b=m+(b - m) by omega,List.take_add,show m+(b - m) - m=b - m by omega];rfl
       rw[l];exact j
      have ae:k≤65536:=by omega
      clear p t x y B O V R
      go_upto_region 12 with fail
      go_quiet (fail)
      go_wp2;simp[TT,SX,Tryz.results61,go_sem];exact⟨.inl ⟨_,_,rfl,N.out⟩,below_drewN (So _ _) _⟩
def RI (w:R3)(s z:ByteArray)(e:UQ)(w':R3):Prop:=
 Si w.heap.size w w'∧((∃ (b:List (bG×Int)) (a:List Bd) (f:List (Bd×R2)) (g h i:R2),e= .returned (.tuple #[.agg #[g,h,i],.bool R7])∧sF b a∧f.map SB=a∧bytesOf s=nB b a∧bytesOf z=bp a∧cq w' w.heap.size b f g h i∧(∀ d c,sF d c→bytesOf s=nB d c→bytesOf z=bp c→d=b∧c=a))∨
  (e= .returned (.tuple #[.agg #[.slice RZ 0 0,.slice RZ 0 0,.slice RZ 0 0],.bool R6])∧∀ b a,sF b a→bytesOf s=nB b a→bytesOf z≠bp a))
def zJ{w w4:R3}{x y z v:R2}(q:Nat)(hL:w4.heap[w.heap.size]? =RX (.cells #[x,y,z] 105 (0,0)))(a:w4.heap[w.heap.size+1]? =RX (.cells #[v] 4 (0,0))):
 CallsD (aa.of RY) 92 #[.pointer (RX ⟨w.heap.size,0,RZ⟩),.pointer (RX ⟨w.heap.size+1,0,RZ⟩)] (.panicking (dU q)) w4 fun e b w'=>
  e= .returned (.tuple #[])∧b= .panicking [{v:=.iface 205 (.agg #[.int .i64 (q:Int)]),recovered:=R7}]∧w'=(fQ (w4.alloc (.cells nH 105)) w.heap.size (.slice RZ 0 0) (.slice RZ 0 0) (.slice RZ 0 0)).setCell ⟨w.heap.size+1,0,RZ⟩ (.bool R6):=
 sZ _ _ _ _ _ _ _ _ [] w4 (by omega) hL a
def rA{w w4:R3}{x y z v:R2}(a b c u:R2)(hL:w4.heap[w.heap.size]? =RX (.cells #[x,y,z] 105 (0,0)))(h:w4.heap[w.heap.size+1]? =RX (.cells #[v] 4 (0,0)))(g:Si w.heap.size w w4):
 let d:=(fQ w4 w.heap.size a b c).setCell ⟨w.heap.size+1,0,RZ⟩ u
 (d.cell? ⟨w.heap.size,0,RZ⟩=RX a∧d.cell? ⟨w.heap.size,1,RZ⟩=RX b∧d.cell? ⟨w.heap.size,2,RZ⟩=RX c)∧d.cell? ⟨w.heap.size+1,0,RZ⟩=RX u∧Si w.heap.size w d:=by
 have e:=pW a b c hL;have f:(fQ w4 w.heap.size a b c).heap[w.heap.size+1]? =RX (.cells #[v] 4 (0,0)):=by rw[jK _ _ _ (by omega)];exact h
 refine⟨(eN (t:=105) (by rw[Sv _ _ _ _ (by simp)];exact e)).1,(cS (rY u f)).1,?_⟩;exact(lY _ _ _ g (R8 _) (R8 _)).setCell (Nat.le_succ _) _
theorem F4(cb:Nat)(s z:ByteArray)(w:R3)(b3:s.size≤65536)(b4:z.size≤65536)(U:w.heap[cb]? =RX (.cells #[.string z] 9 (0,0))):
 SF (aa.of RY) 62 #[.string s,.func (.func 63) #[] #[.pointer (RX ⟨cb,0,RZ⟩)]] w (RI w s z):=by
 have b2:cb<w.heap.size:=Sf U;have a6:s.size≤Sw:=by unfold Sw;omega
 have V:Sb (w.heap[cb]? =RX (.cells #[.string z] 9 (0,0))):=U;clear U;have ce:∀ (ab:Fn) (first X:Array R2) (w:R3),(Instr.makeFunc ab first X).run (aa.of RY) w= .ok (.func ab first X) w:=fun _ _ _ _=>rfl
 go_enter_defers aa.func62,Tryz.ntmps62
 go_wp2_with (go_at_call 65;refine(mT s _).mono ?_;rintro q ba ⟨rfl,rfl⟩)
 have J:(((w.alloc (.cells #[.slice RZ 0 0,.slice RZ 0 0,.slice RZ 0 0] 105)).alloc (.cells #[.bool R6] 4)).alloc (bg s 0)).heap[w.heap.size]? =RX (.cells #[.slice RZ 0 0,.slice RZ 0 0,.slice RZ 0 0] 105 (0,0)):=BM _ _ _ _;have I:(((w.alloc (.cells #[.slice RZ 0 0,.slice RZ 0 0,.slice RZ 0 0] 105)).alloc (.cells #[.bool R6] 4)).alloc (bg s 0)).heap[w.heap.size+1]? =RX (.cells #[.bool R6] 4 (0,0)):=BN _ _ _ _;have T:(((w.alloc (.cells #[.slice RZ 0 0,.slice RZ 0 0,.slice RZ 0 0] 105)).alloc (.cells #[.bool R6] 4)).alloc (bg s 0)).heap[w.heap.size+1+1]? =RX (bg s 0):=BO _ _ _ _;have a2:(((w.alloc (.cells #[.slice RZ 0 0,.slice RZ 0 0,.slice RZ 0 0] 105)).alloc (.cells #[.bool R6] 4)).alloc (bg s 0)).heap.size=w.heap.size+3:=by simp
 have A:Si w.heap.size w (((w.alloc (.cells #[.slice RZ 0 0,.slice RZ 0 0,.slice RZ 0 0] 105)).alloc (.cells #[.bool R6] 4)).alloc (bg s 0)):=(((So _ _).alloc (R8 _) _).alloc (by simp) _).alloc (by simp;omega) _;generalize (((w.alloc (.cells #[.slice RZ 0 0,.slice RZ 0 0,.slice RZ 0 0] 105)).alloc (.cells #[.bool R6] 4)).alloc (bg s 0))=M at*;refine(IL (w.heap.size+1+1) cb s z M b3 b4 T ((A.block cb b2).trans V.out)).mono ?_;rintro q i ⟨o,⟨a,c,b,bt,bu,bv,rfl,a5,ar,a7,cd,a0,a3,hF,a8⟩|⟨cf,rfl,aw⟩⟩
 ·have l:i.heap[w.heap.size]? =RX (.cells #[.slice RZ 0 0,.slice RZ 0 0,.slice RZ 0 0] 105 (0,0)):=Kp.block o J (by omega);have v:i.heap[w.heap.size+1]? =RX (.cells #[.bool R6] 4 (0,0)):=Kp.block o I (by omega);have G:Si w.heap.size w i:=A.trans ((o.below (by omega)).mono (by omega));have S:cq i w.heap.size a b bt bu bv:=hF.base (by omega);obtain⟨d,ac,f,e,h,g,rfl,rfl,rfl⟩:=S.Gl;have K:Sb (cq (fQ i w.heap.size (.slice d a.length ac) (.slice f a.length e) (.slice h b.length g)) w.heap.size a b (.slice d a.length ac) (.slice f a.length e) (.slice h b.length g)):=S.fQ _ _ _ l;have ao:(fQ i w.heap.size (.slice d a.length ac) (.slice f a.length e) (.slice h b.length g)).heap[w.heap.size]? =RX (.cells #[.slice d a.length ac,.slice f a.length e,.slice h b.length g] 105 (0,0)):=pW _ _ _ l;have al:(fQ i w.heap.size (.slice d a.length ac) (.slice f a.length e) (.slice h b.length g)).heap[w.heap.size+1]? =RX (.cells #[.bool R6] 4 (0,0)):=by rw[jK _ _ _ (by omega)];exact v
  have a1:(fQ i w.heap.size (.slice d a.length ac) (.slice f a.length e) (.slice h b.length g)).heap[w.heap.size+1+1]? =RX (bg s (nB a c).length):=by rw[jK _ _ _ (by omega)];exact a0
  have ae:Si w.heap.size w (fQ i w.heap.size (.slice d a.length ac) (.slice f a.length e) (.slice h b.length g)):=lY _ _ _ G (R8 _) (R8 _);obtain⟨⟨bc,bd,be⟩,Z,r,t⟩:=eN l;have bm:Sb (sF a c):=a5;have bo:Sb (b.map SB=c):=ar;have br:Sb (ag (bytesOf s) 0 (nB a c)):=a7;have bs:Sb (bytesOf z=bp c):=a3;have W:Sb (∀ n j,sF n j→bytesOf s=nB n j→bytesOf z=bp j→n=a∧j=c):=fun n j y u Q=>a8 n j y (ei u.symm) Q;have E:Sb _:=ao;have D:Sb _:=al;have C:Sb _:=ae;have F:Sb ((fQ i w.heap.size (.slice d a.length ac) (.slice f a.length e) (.slice h b.length g)).heap[w.heap.size+1+1]? =RX (bg s (nB a c).length)):=a1;clear J I T a2 A l v G S hF o a0 a5 ar a7 a3 a8 ao al a1 ae V;clear M
  go_upto_region 4 with fail
  unfold fQ at K E D C F;generalize ((i.setCell ⟨w.heap.size,0,RZ⟩ (.slice d a.length ac)).setCell ⟨w.heap.size,1,RZ⟩ (.slice f a.length e)).setCell ⟨w.heap.size,2,RZ⟩ (.slice h b.length g)=k at*;clear bc bd be Z r t;by_cases a4:(nB a c).length<s.size
  ·have L:Sb (∀ a c,sF a c→bytesOf s=nB a c→bytesOf z≠bp c):=fun n j y u Q=>by
    obtain⟨Y,bx⟩:=W.out n j y u Q;have:=congrArg Vn u;rw[ai,Y,bx] at this;omega
   go_wp2_with (go_at_call 93;refine(AY (w.heap.size+1+1) _ s _ a6 a4 F.out).mono ?_;rintro q ba ⟨rfl,m,rfl⟩)
   have p:(k.drewN m).heap[w.heap.size]? =RX (.cells #[.slice d a.length ac,.slice f a.length e,.slice h b.length g] 105 (0,0)):=E.out;have x:(k.drewN m).heap[w.heap.size+1]? =RX (.cells #[.bool R6] 4 (0,0)):=D.out;have H:Si w.heap.size w (k.drewN m):=below_drewN C.out m;generalize k.drewN m=B at*;obtain⟨⟨r,t,N⟩,O,P⟩:=rA (.slice RZ 0 0) (.slice RZ 0 0) (.slice RZ 0 0) (.bool R6) (w4:=B.alloc (.cells nH 105)) (by rw[SP _ _ _ (Sf p)];exact p) (by rw[SP _ _ _ (Sf x)];exact x) (H.alloc (by have:=Sf p;omega) _);refine leaves_cons (f:=92) (args:= #[.pointer (RX ⟨w.heap.size,0,RZ⟩),.pointer (RX ⟨w.heap.size+1,0,RZ⟩)]) (by simp) (by simp[go_sem]) ?_;refine(zJ _ p x).mono ?_;rintro q a9 bb ⟨rfl,rfl,rfl⟩;simp[Leaves,settle,SX,Tryz.results62,go_sem,r,t,N,O];exact⟨P,.inr ⟨rfl,L.out⟩⟩
  ·have bj:Sb (bytesOf s=nB a c):=yw br.out (by rw[ai];omega)
   go_upto_region 5 with(go_at_call 93;refine(EL (w.heap.size+1+1) _ s _ a6 a4 F.out).mono ?_;rintro q ba ⟨rfl,m,rfl⟩)
   have p:(k.drewN m).heap[w.heap.size]? =RX (.cells #[.slice d a.length ac,.slice f a.length e,.slice h b.length g] 105 (0,0)):=E.out;have x:(k.drewN m).heap[w.heap.size+1]? =RX (.cells #[.bool R6] 4 (0,0)):=D.out;have H:Si w.heap.size w (k.drewN m):=below_drewN C.out m;have am:cq (k.drewN m) w.heap.size a b (.slice d a.length ac) (.slice f a.length e) (.slice h b.length g):=K.out.below (below_drewN (So _ _) _);generalize k.drewN m=B at*;obtain⟨⟨bA,bB,b0⟩,b1,ad⟩:=rA (.slice d a.length ac) (.slice f a.length e) (.slice h b.length g) (.bool R7) p x H;have bi:Sb _:=ad;have R:(fQ B w.heap.size (.slice d a.length ac) (.slice f a.length e) (.slice h b.length g)).heap[w.heap.size+1]? =RX (.cells #[.bool R6] 4 (0,0)):=by rw[jK _ _ _ (by omega)];exact x
   have bl:Sb (cq ((fQ B w.heap.size (.slice d a.length ac) (.slice f a.length e) (.slice h b.length g)).setCell ⟨w.heap.size+1,0,RZ⟩ (.bool R7)) w.heap.size a b (.slice d a.length ac) (.slice f a.length e) (.slice h b.length g)):=(am.fQ _ _ _ p).put R (.inr (.inl rfl)) _ _;obtain⟨⟨bc,bd,be⟩,Z,r,t⟩:=eN p;obtain⟨cc,Y⟩:=cS R;clear ad am H K E D C F R;unfold fQ at*;go_wp2;generalize (((B.setCell ⟨w.heap.size,0,RZ⟩ (.slice d a.length ac)).setCell ⟨w.heap.size,1,RZ⟩ (.slice f a.length e)).setCell ⟨w.heap.size,2,RZ⟩ (.slice h b.length g)).setCell ⟨w.heap.size+1,0,RZ⟩ (.bool R7)=ca at*;refine leaves_cons (f:=92) (args:= #[.pointer (RX ⟨w.heap.size,0,RZ⟩),.pointer (RX ⟨w.heap.size+1,0,RZ⟩)]) (by simp) (by simp[go_sem]) ?_;refine(Cm ⟨w.heap.size,0,RZ⟩ ⟨w.heap.size+1,0,RZ⟩ _).mono ?_;rintro q a9 bb ⟨rfl,rfl,rfl⟩;simp[Leaves,settle,SX,Tryz.results62,go_sem,bA,bB,b0,b1];exact⟨bi.out,.inl ⟨a,c,b,_,_,_,rfl,bm.out,bo.out,bj.out,bs.out,bl.out,W.out⟩⟩
 ·have l:i.heap[w.heap.size]? =RX (.cells #[.slice RZ 0 0,.slice RZ 0 0,.slice RZ 0 0] 105 (0,0)):=Kp.block o J (by omega);have v:i.heap[w.heap.size+1]? =RX (.cells #[.bool R6] 4 (0,0)):=Kp.block o I (by omega);have G:Si w.heap.size w i:=A.trans ((o.below (by omega)).mono (by omega));have L:Sb (∀ a c,sF a c→bytesOf s=nB a c→bytesOf z≠bp c):=fun n j y u=>aw n j y (ei u.symm);clear J I T a2 A o aw;clear M;obtain⟨⟨r,t,N⟩,O,P⟩:=rA (.slice RZ 0 0) (.slice RZ 0 0) (.slice RZ 0 0) (.bool R6) (w4:=i.alloc (.cells nH 105)) (by rw[SP _ _ _ (Sf l)];exact l) (by rw[SP _ _ _ (Sf v)];exact v) (G.alloc (by have:=Sf l;omega) _);refine leaves_cons (f:=92) (args:= #[.pointer (RX ⟨w.heap.size,0,RZ⟩),.pointer (RX ⟨w.heap.size+1,0,RZ⟩)]) (by simp) (by simp[go_sem]) ?_;refine(zJ _ l v).mono ?_;rintro q a9 bb ⟨rfl,rfl,rfl⟩;simp[Leaves,settle,SX,Tryz.results62,go_sem,r,t,N,O];exact⟨P,.inr ⟨rfl,L.out⟩⟩
def kP (v low:az):Bool:= !low.null && decide (eD v low<0)
def kO (v high:az):Bool:= !high.null && decide (0<eD v high)
theorem ux(v low:az)(w:R3):SF (aa.of RY) 114 #[v.agg,low.agg] w fun e w'=>e= .returned (.bool (kP v low))∧Si w.heap.size w w':=by
 have h:=fun j=>iQ v low j;obtain⟨g,b,c⟩:=low;unfold az.agg;have d:Sb (Si w.heap.size w ((w.alloc (.cells #[.bool v.null,.int .i64 v.n,.string v.s] 59)).alloc (.cells #[.bool g,.int .i64 b,.string c] 59))):=((So _ _).alloc (R8 _) _).alloc (by simp) _;cases g
 ·have a:kP v ⟨R6,b,c⟩=decide (eD v ⟨R6,b,c⟩<0):=by simp[kP]
  rw[a];clear a;go_enter aa.func114,Tryz.ntmps114
  go_wp2_with (go_at_call 125;refine(h _).mono ?_;rintro e w' ⟨rfl,f⟩;have i:Sb (Si w.heap.size w w'):=d.out.trans (f.mono (by simp;omega));clear f)
  go_ret;exact⟨rfl,i.out⟩
 ·have a:kP v ⟨R7,b,c⟩=R6:=by simp[kP]
  rw[a];clear a;go_enter aa.func114,Tryz.ntmps114;go_wp2;go_ret;exact⟨rfl,d.out⟩
theorem uw(v low:az)(w:R3):SF (aa.of RY) 115 #[v.agg,low.agg] w fun e w'=>e= .returned (.bool (kO v low))∧Si w.heap.size w w':=by
 have h:=fun j=>iQ v low j;obtain⟨g,b,c⟩:=low;unfold az.agg;have d:Sb (Si w.heap.size w ((w.alloc (.cells #[.bool v.null,.int .i64 v.n,.string v.s] 59)).alloc (.cells #[.bool g,.int .i64 b,.string c] 59))):=((So _ _).alloc (R8 _) _).alloc (by simp) _;cases g
 ·have a:kO v ⟨R6,b,c⟩=decide (0<eD v ⟨R6,b,c⟩):=by simp[kO]
  rw[a];clear a;go_enter aa.func115,Tryz.ntmps115
  go_wp2_with (go_at_call 125;refine(h _).mono ?_;rintro e w' ⟨rfl,f⟩;have i:Sb (Si w.heap.size w w'):=d.out.trans (f.mono (by simp;omega));clear f)
  go_ret;exact⟨rfl,i.out⟩
 ·have a:kO v ⟨R7,b,c⟩=R6:=by simp[kO]
  rw[a];clear a;go_enter aa.func115,Tryz.ntmps115;go_wp2;go_ret;exact⟨rfl,d.out⟩
def qv (a b c d e:R2)(sk:Bool):R2:=.agg #[a,b,c,d,e,.bool sk]
theorem zb(h:Option SL)(n cap:Nat)(b c d e:R2)(sk:Bool)(k:Int)(w:R3):SF (aa.of RY) 106 #[qv (.slice h n cap) b c d e sk,.int .i64 k] w fun f w'=>f= .returned (.bool (decide (0≤k) && decide (k<(n:Int))))∧Si w.heap.size w w':=by
 unfold qv;have g:Sb (Si w.heap.size w (w.alloc (.cells #[.slice h n cap,b,c,d,e,.bool sk] 115))):=(So _ _).alloc (R8 _) _;by_cases i:0≤k
 ·have a:decide (0≤k)=R7:=by simpa using i
  rw[a];go_enter aa.func106,Tryz.ntmps106;go_wp2;go_ret;exact⟨rfl,g.out⟩
 ·have a:decide (0≤k)=R6:=by simpa using i
  rw[a];go_enter aa.func106,Tryz.ntmps106;go_wp2;go_ret;exact⟨rfl,g.out⟩
structure bZ where
 col:Int
 low:az
 high:az
def q8 (x:bZ):List R2:=[.int .i64 x.col,.bool x.low.null,.int .i64 x.low.n,.string x.low.s,.bool x.high.null,.int .i64 x.high.n,.string x.high.s]
def dy (l:List bZ):List R2:=l.flatMap q8
structure cM(w:R3)(ao:Option SL)(b off:Nat)(l:List bZ):Prop where
 addr:0<l.length→ao=RX ⟨b,off,RZ⟩
 lt:0<l.length→b<w.heap.size
 c0:∀ j (h:j<l.length),w.cell? ⟨b,off+j*7,RZ⟩=RX (.int .i64 l[j].col)
 c1:∀ j (h:j<l.length),w.cell? ⟨b,off+j*7+1,RZ⟩=RX (.bool l[j].low.null)
 c2:∀ j (h:j<l.length),w.cell? ⟨b,off+j*7+2,RZ⟩=RX (.int .i64 l[j].low.n)
 c3:∀ j (h:j<l.length),w.cell? ⟨b,off+j*7+3,RZ⟩=RX (.string l[j].low.s)
 c4:∀ j (h:j<l.length),w.cell? ⟨b,off+j*7+4,RZ⟩=RX (.bool l[j].high.null)
 c5:∀ j (h:j<l.length),w.cell? ⟨b,off+j*7+5,RZ⟩=RX (.int .i64 l[j].high.n)
 c6:∀ j (h:j<l.length),w.cell? ⟨b,off+j*7+6,RZ⟩=RX (.string l[j].high.s)
theorem cM.kept{w w':R3}{f:Option SL}{b off:Nat}{l:List bZ}(h:cM w f b off l)(j:w.heap.size≤w'.heap.size)(i:0<l.length→w'.heap[b]? =w.heap[b]?):cM w' f b off l:=by
 have d:∀ a,a<l.length→∀ e,w'.cell? ⟨b,e,RZ⟩=w.cell? ⟨b,e,RZ⟩:=fun a c e=>by unfold Sr;rw[i (by omega)]
 exact⟨h.addr,fun g=>Sa (h.lt g) j,fun a c=>(d a c _).trans (h.c0 a c),fun a c=>(d a c _).trans (h.c1 a c),fun a c=>(d a c _).trans (h.c2 a c),fun a c=>(d a c _).trans (h.c3 a c),fun a c=>(d a c _).trans (h.c4 a c),fun a c=>(d a c _).trans (h.c5 a c),fun a c=>(d a c _).trans (h.c6 a c)⟩
def cM.below{w w':R3}{a:Option SL}{b off:Nat}{l:List bZ}(h:cM w a b off l)(c:Si w.heap.size w w'):cM w' a b off l:=h.kept c.size fun d=>c.block b (h.lt d)
def RG (w:R3)(v:R2)(l:List bZ):Prop:=∃ a c d b,v= .slice a l.length b∧l.length≤b∧cM w a c d l
theorem ni:∀ (l:List bZ) (j:Nat) (h:j<l.length) (i:Nat) (v:R2),(q8 l[j])[i]? =RX v→(dy l)[j*7+i]? =RX v
 | [],j,h,i,v,a=>by simp at h
 |x :: l,0,h,i,v,a=>by
  simp only[List.getElem_cons_zero] at a;simp only[dy,UF,Nat.zero_mul,SZ];exact Ty (SA.1 a).1▸a
 |x :: l,j+1,h,i,v,a=>by
  simp only[List.getElem_cons_succ] at a;have:=ni l j (by simpa using h) i v a;have b:(j+1)*7+i=j*7+i+7:=by omega
  rw[b];simpa [dy,q8] using this
def qE(l:List bZ):(dy l).length=l.length*7:=by
 induction l with
 |nil=>rfl
 |cons b l a=>simp only[dy,UF,Sc,T0,q8,List.length_nil] at a ⊢;omega
theorem cM.C4{w:R3}{b off:Nat}{l:List bZ}(e:b<w.heap.size)(hc:∀ i v,(dy l)[i]? =RX v→w.cell? ⟨b,off+i,RZ⟩=RX v):cM w (RX ⟨b,off,RZ⟩) b off l:=by
 have d:∀ a (c:a<l.length) i v,(q8 l[a])[i]? =RX v→w.cell? ⟨b,off+a*7+i,RZ⟩=RX v:=fun a c i v f=>by
  have:=hc _ _ (ni l a c i v f);rw[Td];exact this
 exact⟨fun _=>rfl,fun _=>e,fun a c=>d a c 0 _ rfl,fun a c=>d a c 1 _ rfl,fun a c=>d a c 2 _ rfl,fun a c=>d a c 3 _ rfl,fun a c=>d a c 4 _ rfl,fun a c=>d a c 5 _ rfl,fun a c=>d a c 6 _ rfl⟩
structure qm(w:R3)(lb m:Nat)(c:Int)(p:Nat)(v:az):Prop where
 ex:∃ j g n cap:Nat,c=(j:Int)∧j<m∧lb<w.heap.size∧w.cell? ⟨lb,j,RZ⟩=RX (.slice (RX ⟨g,0,RZ⟩) n cap)∧p<n∧g<w.heap.size∧w.cell? ⟨g,p*3,RZ⟩=RX (.bool v.null)∧w.cell? ⟨g,p*3+1,RZ⟩=RX (.int .i64 v.n)∧w.cell? ⟨g,p*3+2,RZ⟩=RX (.string v.s)
def qm.below{w w':R3}{lb m:Nat}{c:Int}{p:Nat}{v:az}(h:qm w lb m c p v)(a:Si w.heap.size w w'):qm w' lb m c p v:=by
 obtain⟨e,b,r,f,g,i,j,k,l,d,n,o,q⟩:=h.ex;have s:=a.size;exact⟨e,b,r,f,g,i,by omega,(a.cell (p:=⟨lb,e,RZ⟩) j).trans k,l,by omega,(a.cell (p:=⟨b,p*3,RZ⟩) d).trans n,(a.cell (p:=⟨b,p*3+1,RZ⟩) d).trans o,(a.cell (p:=⟨b,p*3+2,RZ⟩) d).trans q⟩
def qC (v:az)(r:bZ):Bool:= !(v.null || kP v r.low || kO v r.high)
def iq(w:R3)(o:U9):(w.alloc o).heap[w.heap.size]? =RX o:=by
 show(w.heap.push o)[w.heap.size]? =RX o;simp
def iT{i:R3}{g:Nat}{a b c d e f h:R2}{t:Sg}(j:i.heap[g]? =RX (.cells #[a,b,c,d,e,f,h] t (0,0))):i.cell? ⟨g,0,RZ⟩=RX a∧i.cell? ⟨g,1,RZ⟩=RX b∧i.cell? ⟨g,2,RZ⟩=RX c∧i.cell? ⟨g,3,RZ⟩=RX d∧i.cell? ⟨g,4,RZ⟩=RX e∧i.cell? ⟨g,5,RZ⟩=RX f∧i.cell? ⟨g,6,RZ⟩=RX h:=by
 unfold Sr;simp[j]
theorem xk(rs:List bZ)(val:Int→az)(p lb m ce:Nat)(a b c d:R2)(ro:Option SL)(rb bh aF:Nat)(sk:Bool)(w:R3)(cc:rs.length≤Sw)(q:cM w ro rb bh rs)(a2:∀ r∈rs,qm w lb m r.col p (val r.col)):
 SF (aa.of RY) 118 #[qv a b c d (.slice ro rs.length aF) sk,.slice (RX ⟨lb,0,RZ⟩) m ce,.int .i64 (p:Int)] w fun e w'=>∃ bb,e= .returned (.bool bb)∧(bb=R7↔∀ i (h:i<rs.length),qC (val rs[i].col) rs[i]=R7)∧Si w.heap.size w w':=by
 unfold qv;unfold Sw at cc;have T:Sb (cM w ro rb bh rs):=q;have S:Sb (∀ r∈rs,qm w lb m r.col p (val r.col)):=a2;clear q a2;go_enter aa.func118,Tryz.ntmps118
 go_wp2_with fail
 go_loopw [13] (fun i wr=>∃ g:Nat,g≤rs.length∧i= .int .i64 g∧(∀ i (h:i<rs.length),i<g→qC (val rs[i].col) rs[i]=R7)∧Si w.heap.size w wr) (fun i _=>rs.length - (S2 i).toNat)
 case atStart=>exact⟨0,SK _,rfl,fun cv _ h=>by omega,(So _ _).alloc (R8 _) _⟩
 case round=>
  obtain⟨g,cn,rfl,a1,G⟩:=hrel;have N:Sb (∀ i (h:i<rs.length),i<g→qC (val rs[i].col) rs[i]=R7):=a1;have ae:Sb (Si w.heap.size w wr):=G;have cd:=G.size;clear a1;by_cases u:g<rs.length
  ·have q:=T.out.below G;obtain rfl:=q.addr (by omega);have a3:=q.c0 g u;have a4:=q.c1 g u;have a5:=q.c2 g u;have a6:=q.c3 g u;have a7:=q.c4 g u;have a8:=q.c5 g u;have a9:=q.c6 g u;obtain⟨A,V,co,ck,al,bA,am,ao,bB,O,ar,aw,a0⟩:=((S.out rs[g] (Sl u)).below G).ex;have E:Sb (qC (val rs[g].col) rs[g]=R6→¬ ∀ i (h:i<rs.length),qC (val rs[i].col) rs[i]=R7):=fun h b4=>by
    have:=b4 g u;rw[h] at this;cases this
   have J:Sb (qC (val rs[g].col) rs[g]=R7→∀ i (h:i<rs.length),i<g+1→qC (val rs[i].col) rs[i]=R7):=fun h i cb cl=>by
    by_cases e:i=g
    ·subst e;exact h
    ·exact N.out i cb (by omega)
   clear q G N T S;generalize rs[g]=bu at*;generalize val bu.col=v at*;obtain⟨cx,k,j⟩:=bu;dsimp only at al a3 a4 a5 a6 a7 a8 a9;subst al
   go_upto_region 4 with fail
   have cf:=iT (iq wr (.cells #[.int .i64 (A:Int),.bool k.null,.int .i64 k.n,.string k.s,.bool j.null,.int .i64 j.n,.string j.s] 61));obtain⟨ch,ba,bc,bd,be,bi,bj⟩:=cf;have n:Si wr.heap.size wr (wr.alloc (.cells #[.int .i64 (A:Int),.bool k.null,.int .i64 k.n,.string k.s,.bool j.null,.int .i64 j.n,.string j.s] 61)):=(So _ _).alloc (R8 _) _;have b0:=(n.cell (p:=⟨lb,A,RZ⟩) am).trans ao;have b1:=(n.cell (p:=⟨V,p*3,RZ⟩) O).trans ar;have b2:=(n.cell (p:=⟨V,p*3+1,RZ⟩) O).trans aw;have b3:=(n.cell (p:=⟨V,p*3+2,RZ⟩) O).trans a0;have R:Sb (Si w.heap.size w (wr.alloc (.cells #[.int .i64 (A:Int),.bool k.null,.int .i64 k.n,.string k.s,.bool j.null,.int .i64 j.n,.string j.s] 61))):=ae.out.trans (n.mono cd);have F:wr.heap.size<(wr.alloc (.cells #[.int .i64 (A:Int),.bool k.null,.int .i64 k.n,.string k.s,.bool j.null,.int .i64 j.n,.string j.s] 61)).heap.size:=by simp
   clear n a3 a4 a5 a6 a7 a8 a9 ao ar aw a0 am O;generalize wr.alloc (.cells #[.int .i64 (A:Int),.bool k.null,.int .i64 k.n,.string k.s,.bool j.null,.int .i64 j.n,.string j.s] 61)=s at*;generalize wr.heap.size=l at*;have ca:(A:Int)<(m:Int):=by omega
   go_upto_region 5 with fail
   obtain⟨M,W,X⟩:=uT s (.bool v.null) (.int .i64 v.n) (.string v.s) 59;have n:Si s.heap.size s (s.alloc (.cells #[.bool v.null,.int .i64 v.n,.string v.s] 59)):=(So _ _).alloc (R8 _) _;have cp:=(n.cell (p:=⟨l,1,RZ⟩) F).trans ba;have cs:=(n.cell (p:=⟨l,2,RZ⟩) F).trans bc;have cu:=(n.cell (p:=⟨l,3,RZ⟩) F).trans bd;have Y:=(n.cell (p:=⟨l,4,RZ⟩) F).trans be;have Z:=(n.cell (p:=⟨l,5,RZ⟩) F).trans bi;have ab:=(n.cell (p:=⟨l,6,RZ⟩) F).trans bj;have C:Sb (Si w.heap.size w (s.alloc (.cells #[.bool v.null,.int .i64 v.n,.string v.s] 59))):=R.out.trans (n.mono (by have:=R.out.size;omega));have x:l<(s.alloc (.cells #[.bool v.null,.int .i64 v.n,.string v.s] 59)).heap.size:=by simp;omega
   have y:s.heap.size<(s.alloc (.cells #[.bool v.null,.int .i64 v.n,.string v.s] 59)).heap.size:=by simp
   clear n ch ba bc bd be bi bj b0 b1 b2 b3 R F ca bA bB;generalize s.alloc (.cells #[.bool v.null,.int .i64 v.n,.string v.s] 59)=ci at*;generalize s.heap.size=t at*;have z:=fun U=>ux v k U;have B:=fun U=>uw v j U;unfold az.agg at z B;have o:qC v ⟨(A:Int),k,j⟩= !(v.null || kP v k || kO v j):=rfl;cases H:v.null
   ·rw[H] at M z B o;cases L:kP v k
    ·rw[L] at z o;cases P:kO v j
     ·rw[P] at B o;have bx:Sb (∀ i (h:i<rs.length),i<g+1→qC (val rs[i].col) rs[i]=R7):=J.out o;clear E J o L P H
      go_wp2_with (first|(go_at_call 114;refine(z _).mono ?_;rintro e w' ⟨rfl,f⟩;have D:Sb (Si w.heap.size w w'):=C.out.trans (f.mono (by have:=C.out.size;omega));have bl:=(f.cell (p:=⟨t,0,RZ⟩) y).trans M;have bm:=(f.cell (p:=⟨t,1,RZ⟩) y).trans W;have bo:=(f.cell (p:=⟨t,2,RZ⟩) y).trans X;have br:=(f.cell (p:=⟨l,4,RZ⟩) x).trans Y;have bs:=(f.cell (p:=⟨l,5,RZ⟩) x).trans Z;have bt:=(f.cell (p:=⟨l,6,RZ⟩) x).trans ab;clear f)|(go_at_call 115;refine(B _).mono ?_;rintro e ad ⟨rfl,K⟩;have Q:Sb (Si w.heap.size w ad):=D.out.trans (K.mono (by have:=D.out.size;omega));clear K))
      go_roundw
      case rel=>exact⟨g+1,by omega,by go_num,bx.out,Q.out⟩
      case measure=>simp[S2];omega
     ·rw[P] at B o;have I:Sb (¬ ∀ i (h:i<rs.length),qC (val rs[i].col) rs[i]=R7):=E.out o;clear E J o L P H
      go_wp2_with (first|(go_at_call 114;refine(z _).mono ?_;rintro e w' ⟨rfl,f⟩;have D:Sb (Si w.heap.size w w'):=C.out.trans (f.mono (by have:=C.out.size;omega));have bl:=(f.cell (p:=⟨t,0,RZ⟩) y).trans M;have bm:=(f.cell (p:=⟨t,1,RZ⟩) y).trans W;have bo:=(f.cell (p:=⟨t,2,RZ⟩) y).trans X;have br:=(f.cell (p:=⟨l,4,RZ⟩) x).trans Y;have bs:=(f.cell (p:=⟨l,5,RZ⟩) x).trans Z;have bt:=(f.cell (p:=⟨l,6,RZ⟩) x).trans ab;clear f)|(go_at_call 115;refine(B _).mono ?_;rintro e ad ⟨rfl,K⟩;have Q:Sb (Si w.heap.size w ad):=D.out.trans (K.mono (by have:=D.out.size;omega));clear K))
      go_ret;exact⟨R6,rfl,by simp only[SD,false_iff];exact I.out,Q.out⟩
    ·rw[L] at z o;have I:Sb (¬ ∀ i (h:i<rs.length),qC (val rs[i].col) rs[i]=R7):=E.out o;clear E J o L H
     go_wp2_with (go_at_call 114;refine(z _).mono ?_;rintro e w' ⟨rfl,f⟩;have D:Sb (Si w.heap.size w w'):=C.out.trans (f.mono (by have:=C.out.size;omega));have bl:=(f.cell (p:=⟨t,0,RZ⟩) y).trans M;have bm:=(f.cell (p:=⟨t,1,RZ⟩) y).trans W;have bo:=(f.cell (p:=⟨t,2,RZ⟩) y).trans X;have br:=(f.cell (p:=⟨l,4,RZ⟩) x).trans Y;have bs:=(f.cell (p:=⟨l,5,RZ⟩) x).trans Z;have bt:=(f.cell (p:=⟨l,6,RZ⟩) x).trans ab;clear f)
     go_ret;exact⟨R6,rfl,by simp only[SD,false_iff];exact I.out,D.out⟩
   ·rw[H] at M o;have I:Sb (¬ ∀ i (h:i<rs.length),qC (val rs[i].col) rs[i]=R7):=E.out o;clear E J o H z B;go_wp2;go_ret;exact⟨R6,rfl,by simp only[SD,false_iff];exact I.out,C.out⟩
  ·have bv:Sb (∀ i (h:i<rs.length),qC (val rs[i].col) rs[i]=R7):=fun i h=>N.out i h (by omega);clear N G T S;go_wp2;go_ret;exact⟨R7,rfl,by simp only[true_iff];exact bv.out,ae.out⟩
theorem Af(ah:List Int)(val:Int→az)(p lb m ae:Nat)(a b c f:R2)(co:Option SL)(cb aV aD:Nat)(sk:Bool)(w:R3)(a6:ah.length≤1000)(A:0<ah.length→co=RX ⟨cb,aV,RZ⟩)(B:0<ah.length→cb<w.heap.size)(o:∀ j,j<ah.length→w.cell? ⟨cb,aV+j,RZ⟩=RX (.int .i64 (ah.getD j 0)))(C:∀ k∈ah,qm w lb m k p (val k)):
 SF (aa.of RY) 119 #[qv a b c (.slice co ah.length aD) f sk,.slice (RX ⟨lb,0,RZ⟩) m ae,.int .i64 (p:Int)] w fun e w'=>Si w.heap.size w w'∧∃ v,e= .returned v∧w'.ownsRow w.heap.size 59 3 v ah.length (aC (ah.map val)):=by
 unfold qv;obtain⟨K,G,X,J,Y⟩:=TB aa.oU;have u:Sb (0<ah.length→co=RX ⟨cb,aV,RZ⟩):=A;have y:Sb (0<ah.length→cb<w.heap.size):=B;have x:Sb (∀ j,j<ah.length→w.cell? ⟨cb,aV+j,RZ⟩=RX (.int .i64 (ah.getD j 0))):=o;have t:Sb (∀ k∈ah,qm w lb m k p (val k)):=C;have s:Sb (Si w.heap.size w (w.alloc (.cells #[a,b,c,.slice co ah.length aD,f,.bool sk] 115))):=(So _ _).alloc (R8 _) _;have V:(w.alloc (.cells #[a,b,c,.slice co ah.length aD,f,.bool sk] 115)).heap.size=w.heap.size+1:=by simp
 clear A B o C;go_enter aa.func119,Tryz.ntmps119
 go_wp2_with (at_make;refine Ui _ rfl _ _ 43 rfl (w.heap.size+1) 59 K _ 3 aa.underlying43 G X J .i64 .i64 _ ah.length rfl rfl rfl (by rw[Y];omega) (by unfold Sw;omega) (by simp) ?_;intro M H E;have n:=(So (w.heap.size+1) (w.alloc (.cells #[a,b,c,.slice co ah.length aD,f,.bool sk] 115))).grown E (by simp) (by simp);have U:M.cell? ⟨w.heap.size,3,RZ⟩=RX (.slice co ah.length aD):=(n.cell (p:=⟨w.heap.size,3,RZ⟩) (by simp)).trans (by unfold Sr;rw[iq];rfl))
 have r:Sb (Si w.heap.size w M):=s.out.trans (n.mono (by omega));clear E n s V U
 go_loopw [7,17] (fun ad q wr=>∃ k:Nat,k≤ah.length∧q= .int .i64 (k:Int)∧ad= .slice (RX ⟨w.heap.size+1,0,RZ⟩) k ah.length∧wr.ownsRow (w.heap.size+1) 59 3 (.slice (RX ⟨w.heap.size+1,0,RZ⟩) k ah.length) k (aC ((ah.take k).map val))∧Si w.heap.size w wr) (fun _ q _=>ah.length - (S2 q).toNat)
 case atStart=>exact⟨0,SK _,rfl,rfl,by simpa [aC] using H,r.out⟩
 case round=>
  clear H r;obtain⟨k,a5,rfl,rfl,g,d⟩:=hrel;have l:Sb (Si w.heap.size w wr):=d;have W:=d.size;have a4:w.heap.size+1<wr.heap.size:=(g.lt (w.heap.size+1) rfl).2;by_cases h:k<ah.length
  ·obtain rfl:=u.out (by omega);have S:=y.out (by omega);have L:wr.cell? ⟨cb,aV+k,RZ⟩=RX (.int .i64 (ah.getD k 0)):=(d.cell (p:=⟨cb,aV+k,RZ⟩) S).trans (x.out k h);have D:ah.getD k 0=ah[k]:=by rw[Sj,Sk h];rfl
   rw[D] at L;obtain⟨ab,R,al,ao,z,P,ar,aw,Q,a0,a1,a2,a3⟩:=((t.out ah[k] (Sl h)).below d).ex;have O:Sb (aC ((ah.take k).map val) ++ [.bool (val ah[k]).null,.int .i64 (val ah[k]).n,.string (val ah[k]).s]=aC ((ah.take (k+1)).map val)):=by
    show _=_;rw[Su h,Tb,Ug,ew]
   have o:(ab:Int)<(m:Int):=by omega
   have a7:(p:Int)<(al:Int):=by omega
   generalize Z:val ah[k]=i at*;rw[z] at L;clear d D z Z P Q t u y x
   go_wp2_with (at_builtin;refine TJ _ rfl _ _ 43 rfl (w.heap.size+1) 59 K 3 aa.underlying43 G J (w.heap.size+1) k ah.length _ rfl (g.alloc _) ⟨wr.heap.size,0,RZ⟩ 1 1 [.bool i.null,.int .i64 i.n,.string i.s] rfl rfl (by exact js _ _ _ _ _) (gT i) (by omega) ?_;intro am I F)
   have N:Sb (Si w.heap.size w am):=(l.out.alloc W _).grown F (by simp;omega) (by intro R T;simp at T;omega);rw[O.out] at I;clear g F l;go_wp2
   go_roundw
   case rel=>exact⟨k+1,by omega,by go_num,rfl,I,N.out⟩
   case measure=>simp[S2];omega
  ·obtain rfl:k=ah.length:=by omega
   rw[Tk] at g;clear d;go_wp2;go_ret;exact⟨l.out,_,rfl,bn g (by omega)⟩
def aa.Qx:((aa.of RY).info? 4).map (fun i=>(i.zero,i.size,i.bytes))=RX (RX (.bool R6),1,1):=by kernel_rfl
def aJ (n:Nat)(l:List Int):List Bool:=(SS n).map fun(a:Nat)=>l.any fun b=>b == (a:Int)
def wj (l:List Bool):List R2:=l.map UD
def iB(n:Nat)(l:List Int):(aJ n l).length=n:=by simp[aJ]
theorem uA(n:Nat)(l:List Int)(j:Nat):(wj (aJ n l)).set j (.bool R7)=wj (aJ n (l ++ [(j:Int)])):=by
 apply List.ext_getElem?;intro c;simp only[wj,aJ,List.getElem?_set,SV,List.length_range,List.getElem?_map,List.any_append];by_cases b:j=c
 ·subst b;by_cases a:j<n
  ·simp[a]
  ·simp[a]
 ·rcases TF c n with a|a
  ·have d:((j:Int) == (c:Int))=R6:=by simpa using fun a=>b (by omega)
   simp[b,a,d]
  ·simp[b,a]
def Dq{a:R3}{g:Nat}{b:List R2}{t:Sg}(h:a.heap[g]? =RX (.cells b.toArray t (0,0))){j:Nat}{v:R2}(c:b[j]? =RX v):a.cell? ⟨g,j,RZ⟩=RX v∧a.frozen? ⟨g,j,RZ⟩=R6:=by
 constructor
 ·unfold Sr;simp only[h];simpa using c
 ·unfold S4;simp only[h];simp
def GI{a:R3}{g:Nat}{b:List R2}{t:Sg}(h:a.heap[g]? =RX (.cells b.toArray t (0,0)))(j:Nat)(v:R2):(a.setCell ⟨g,j,RZ⟩ v).heap[g]? =RX (.cells (b.set j v).toArray t (0,0)):=by
 have:=Sq a g j _ _ v h;rw[this];simp
theorem n7(n:Nat)(ah:List Int)(rs:List bZ)(s:Option SL)(q:Nat)(b c:R2)(co:Option SL)(cb aV aD:Nat)(ro:Option SL)(rb bh aF:Nat)(sk:Bool)(w:R3)(br:n≤1000)(a6:ah.length≤Sw)(a7:rs.length≤Sw)
 (S:0<ah.length→co=RX ⟨cb,aV,RZ⟩) (U:0<ah.length→cb<w.heap.size) (T:∀ j,j<ah.length→w.cell? ⟨cb,aV+j,RZ⟩=RX (.int .i64 (ah.getD j 0))) (m:cM w ro rb bh rs) (X:∀ k∈ah,0≤k∧k<(n:Int)) (Y:∀ r∈rs,0≤r.col∧r.col<(n:Int)):
 SF (aa.of RY) 76 #[qv (.slice s n q) b c (.slice co ah.length aD) (.slice ro rs.length aF) sk] w fun e w'=>Si w.heap.size w w'∧∃ g,e= .returned (.slice (RX ⟨g,0,RZ⟩) n n)∧w.heap.size≤g∧w'.heap[g]? =RX (.cells (wj (aJ n (ah ++ rs.map bZ.col))).toArray 4 (0,0)):=by
 unfold qv;obtain⟨be,a4,bb,bc,bd⟩:=TB aa.Qx;unfold Sw at a6 a7;have E:Sb (0<ah.length→co=RX ⟨cb,aV,RZ⟩):=S;have G:Sb (0<ah.length→cb<w.heap.size):=U;have F:Sb (∀ j,j<ah.length→w.cell? ⟨cb,aV+j,RZ⟩=RX (.int .i64 (ah.getD j 0))):=T;have A:Sb (cM w ro rb bh rs):=m;have H:Sb (∀ k∈ah,0≤k∧k<(n:Int)):=X;have z:Sb (∀ r∈rs,0≤r.col∧r.col<(n:Int)):=Y;have R:Sb (Si w.heap.size w (w.alloc (.cells #[.slice s n q,b,c,.slice co ah.length aD,.slice ro rs.length aF,.bool sk] 115))):=(So _ _).alloc (R8 _) _;clear S U T m X Y;go_enter aa.func76,Tryz.ntmps76
 go_wp2_with (at_make;refine wpList_make_full _ rfl _ _ 160 rfl (w.heap.size+1) 4 be (.bool R6) 1 aa.underlying160 a4 bb bc .i64 .i64 _ _ n rfl rfl rfl rfl (by rw[bd];omega) (by unfold Sw;omega) (by simp) ?_;intro C B W;have o:=(So (w.heap.size+1) (w.alloc (.cells #[.slice s n q,b,c,.slice co ah.length aD,.slice ro rs.length aF,.bool sk] 115))).grown W (by simp) (by simp);have a8:C.cell? ⟨w.heap.size,3,RZ⟩=RX (.slice co ah.length aD):=(o.cell (p:=⟨w.heap.size,3,RZ⟩) (by simp)).trans (by unfold Sr;rw[iq];rfl))
 have P:Sb (Si w.heap.size w C):=R.out.trans (o.mono (by omega));have t:C.heap[w.heap.size]? =RX (.cells #[.slice s n q,b,c,.slice co ah.length aD,.slice ro rs.length aF,.bool sk] 115 (0,0)):=(o.block w.heap.size (by omega)).trans (iq _ _);have p:Sb (C.heap[w.heap.size+1]? =RX (.cells (wj (aJ n [])).toArray 4 (0,0))):=by
  have e:(madeCells (UD R6).cells (n*1)).toList=wj (aJ n []):=by
   show(madeCells #[.bool R6] (n*1)).toList=_;rw[toList_madeCells_one];refine List.ext_getElem (by simp[wj,iB]) fun j bm bo=>?_;simp[wj,aJ]
  rw[e] at B;have ba:(w.alloc (.cells #[.slice s n q,b,c,.slice co ah.length aD,.slice ro rs.length aF,.bool sk] 115)).heap.size=w.heap.size+1:=by simp
  rw[ba] at B;exact yR B
 have Q:Sb _:=t;clear W o R a8 B t
 go_loopw [16] (fun u wr=>∃ k:Nat,k≤ah.length∧u= .int .i64 (k:Int)∧wr.heap[w.heap.size+1]? =RX (.cells (wj (aJ n (ah.take k))).toArray 4 (0,0))∧wr.heap[w.heap.size]? =RX (.cells #[.slice s n q,b,c,.slice co ah.length aD,.slice ro rs.length aF,.bool sk] 115 (0,0))∧Si w.heap.size w wr) (fun u _=>ah.length - (S2 u).toNat)
 case atStart=>exact⟨0,SK _,rfl,p.out,Q.out,P.out⟩
 case round=>
  clear p P Q;obtain⟨k,a5,rfl,l,t,i⟩:=hrel;have y:Sb (Si w.heap.size w wr):=i;have M:=i.size;by_cases h:k<ah.length
  ·obtain rfl:=E.out (by omega);have a2:=G.out (by omega);have O:wr.cell? ⟨cb,aV+k,RZ⟩=RX (.int .i64 (ah.getD k 0)):=(i.cell (p:=⟨cb,aV+k,RZ⟩) a2).trans (F.out k h);have V:ah.getD k 0=ah[k]:=by rw[Sj,Sk h];rfl
   rw[V] at O;obtain⟨v,N⟩:=H.out ah[k] (Sl h);obtain⟨a,x⟩:=Int.eq_ofNat_of_zero_le v;rw[x] at O N;have K:a<n:=by omega
   obtain⟨a0,a1⟩:=Dq l (j:=a) (v:=.bool ((ah.take k).any fun k=>k == (a:Int))) (by simp[wj,aJ,K]);have I:Sb ((wr.setCell ⟨w.heap.size+1,a,RZ⟩ (.bool R7)).heap[w.heap.size+1]? =RX (.cells (wj (aJ n (ah.take (k+1)))).toArray 4 (0,0))):=by
    show _=_;rw[GI l,uA,Su h,x]
   have aw:Sb ((wr.setCell ⟨w.heap.size+1,a,RZ⟩ (.bool R7)).heap[w.heap.size]? =RX (.cells #[.slice s n q,b,c,.slice (RX ⟨cb,aV,RZ⟩) ah.length aD,.slice ro rs.length aF,.bool sk] 115 (0,0))):=by
    show _=_;rw[Sv _ _ _ _ (by simp)];exact t
   have D:Sb (Si w.heap.size w (wr.setCell ⟨w.heap.size+1,a,RZ⟩ (.bool R7))):=i.setCell (by show w.heap.size≤w.heap.size+1;omega) _;clear i V v E G F H z A l t x;go_wp2
   go_roundw
   case rel=>exact⟨k+1,by omega,by go_num,I.out,aw.out,D.out⟩
   case measure=>simp[S2];omega
  ·obtain rfl:k=ah.length:=by omega
   rw[Tk] at l;have a9:wr.cell? ⟨w.heap.size,4,RZ⟩=RX (.slice ro rs.length aF):=by unfold Sr;rw[t];rfl
   have p:Sb _:=l;clear i l t E G F H
   go_wp2_with fail
   clear a9
   go_loopw [27] (fun u ar=>∃ k:Nat,k≤rs.length∧u= .int .i64 (k:Int)∧ar.heap[w.heap.size+1]? =RX (.cells (wj (aJ n (ah ++ (rs.take k).map bZ.col))).toArray 4 (0,0))∧Si w.heap.size w ar) (fun u _=>rs.length - (S2 u).toNat)
   case atStart=>exact⟨0,SK _,rfl,by simpa using p.out,y.out⟩
   case round=>
    clear p y M;obtain⟨k,a5,rfl,l,i⟩:=hrel;have y:Sb (Si w.heap.size w wr):=i;have M:=i.size;by_cases h:k<rs.length
    ·have m:=A.out.below i;obtain rfl:=m.addr (by omega);have Z:=m.c0 k h;have ab:=m.c1 k h;have ad:=m.c2 k h;have ae:=m.c3 k h;have al:=m.c4 k h;have am:=m.c5 k h;have ao:=m.c6 k h;obtain⟨v,N⟩:=z.out rs[k] (Sl h);have J:Sb ((rs.take (k+1)).map bZ.col=(rs.take k).map bZ.col ++ [rs[k].col]):=by
      show _=_;rw[Su h,Tb,Ug]
     generalize rs[k]=bi at*;obtain⟨bs,f,d⟩:=bi;dsimp only at Z ab ad ae al am ao v N J;obtain⟨a,x⟩:=Int.eq_ofNat_of_zero_le v;subst x;have K:a<n:=by omega
     have a3:w.heap.size+1<wr.heap.size:=Sf l;have o:Si wr.heap.size wr (wr.alloc (.cells #[.int .i64 (a:Int),.bool f.null,.int .i64 f.n,.string f.s,.bool d.null,.int .i64 d.n,.string d.s] 61)):=(So _ _).alloc (R8 _) _;have L:=(o.block (w.heap.size+1) a3).trans l;obtain⟨a0,a1⟩:=Dq L (j:=a) (v:=.bool ((ah ++ (rs.take k).map bZ.col).any fun k=>k == (a:Int))) (by simp[wj,aJ,K]);have I:Sb (((wr.alloc (.cells #[.int .i64 (a:Int),.bool f.null,.int .i64 f.n,.string f.s,.bool d.null,.int .i64 d.n,.string d.s] 61)).setCell ⟨w.heap.size+1,a,RZ⟩ (.bool R7)).heap[w.heap.size+1]? =RX (.cells (wj (aJ n (ah ++ (rs.take (k+1)).map bZ.col))).toArray 4 (0,0))):=by
      show _=_;rw[GI L,uA,J.out,SG]
     have D:Sb (Si w.heap.size w ((wr.alloc (.cells #[.int .i64 (a:Int),.bool f.null,.int .i64 f.n,.string f.s,.bool d.null,.int .i64 d.n,.string d.s] 61)).setCell ⟨w.heap.size+1,a,RZ⟩ (.bool R7))):=(i.trans (o.mono M)).setCell (by show w.heap.size≤w.heap.size+1;omega) _;have O:(wr.alloc (.cells #[.int .i64 (a:Int),.bool f.null,.int .i64 f.n,.string f.s,.bool d.null,.int .i64 d.n,.string d.s] 61)).cell? ⟨wr.heap.size,0,RZ⟩=RX (.int .i64 (a:Int)):=(iT (iq wr _)).1;clear i m A z l L J v o
     go_upto_region 10 with fail
     clear Z ab ad ae al am ao;generalize wr.alloc (.cells #[.int .i64 (a:Int),.bool f.null,.int .i64 f.n,.string f.s,.bool d.null,.int .i64 d.n,.string d.s] 61)=bj at*;generalize wr.heap.size=bl at*;go_wp2
     go_roundw
     case rel=>exact⟨k+1,by omega,by go_num,I.out,D.out⟩
     case measure=>simp[S2];omega
    ·obtain rfl:k=rs.length:=by omega
     rw[Tk] at l;have p:Sb _:=l;clear i l A z;go_wp2;go_ret;exact⟨y.out,w.heap.size+1,rfl,by omega,p.out⟩
structure vX(w:R3)(cb n:Nat)(c:Int)(b:kU):Prop where
 ex:∃ j:Nat,c=(j:Int)∧j<n∧cb<w.heap.size∧w.cell? ⟨cb,j*8+1,RZ⟩=RX (.bool b.there)∧w.cell? ⟨cb,j*8+1+1,RZ⟩=RX (.bool b.least.null)∧w.cell? ⟨cb,j*8+1+2,RZ⟩=RX (.int .i64 b.least.n)∧w.cell? ⟨cb,j*8+1+3,RZ⟩=RX (.string b.least.s)∧w.cell? ⟨cb,j*8+1+4,RZ⟩=RX (.bool b.most.null)∧w.cell? ⟨cb,j*8+1+5,RZ⟩=RX (.int .i64 b.most.n)∧w.cell? ⟨cb,j*8+1+6,RZ⟩=RX (.string b.most.s)
def vX.below{w w':R3}{cb n:Nat}{c:Int}{b:kU}(h:vX w cb n c b)(e:Si w.heap.size w w'):vX w' cb n c b:=by
 obtain⟨r,f,i,j,k,l,m,o,p,q,g⟩:=h.ex;have s:=e.size;have a:∀ d,w'.cell? ⟨cb,d,RZ⟩=w.cell? ⟨cb,d,RZ⟩:=fun d=>e.cell (p:=⟨cb,d,RZ⟩) j;exact⟨r,f,i,by omega,(a _).trans k,(a _).trans l,(a _).trans m,(a _).trans o,(a _).trans p,(a _).trans q,(a _).trans g⟩
def rf (b:kU)(r:bZ):Bool:=b.there && (kP b.most r.low || kO b.least r.high)
theorem mS(rs:List bZ)(dS:Int→kU)(p:Int)(cb n aD:Nat)(a b c d:R2)(ro:Option SL)(rb bh aF:Nat)(sk:Bool)(w:R3)(c2:rs.length≤Sw)(q:cM w ro rb bh rs)(bi:∀ r∈rs,vX w cb n r.col (dS r.col)):
 SF (aa.of RY) 77 #[qv a b c d (.slice ro rs.length aF) sk,.agg #[.int .i64 p,.slice (RX ⟨cb,0,RZ⟩) n aD]] w fun e w'=>∃ bb,e= .returned (.bool bb)∧(bb=R6↔∀ i (h:i<rs.length),rf (dS rs[i].col) rs[i]=R6)∧Si w.heap.size w w':=by
 unfold qv;unfold Sw at c2;have Z:Sb (cM w ro rb bh rs):=q;have Y:Sb (∀ r∈rs,vX w cb n r.col (dS r.col)):=bi;have a3:Sb (Si w.heap.size w ((w.alloc (.cells #[a,b,c,d,.slice ro rs.length aF,.bool sk] 115)).alloc (.cells #[.int .i64 p,.slice (RX ⟨cb,0,RZ⟩) n aD] 139))):=((So _ _).alloc (R8 _) _).alloc (by simp) _;have J:Sb (((w.alloc (.cells #[a,b,c,d,.slice ro rs.length aF,.bool sk] 115)).alloc (.cells #[.int .i64 p,.slice (RX ⟨cb,0,RZ⟩) n aD] 139)).heap[w.heap.size+1]? =RX (.cells #[.int .i64 p,.slice (RX ⟨cb,0,RZ⟩) n aD] 139 (0,0))):=by
  have:=iq (w.alloc (.cells #[a,b,c,d,.slice ro rs.length aF,.bool sk] 115)) (.cells #[.int .i64 p,.slice (RX ⟨cb,0,RZ⟩) n aD] 139 (0,0));have c3:(w.alloc (.cells #[a,b,c,d,.slice ro rs.length aF,.bool sk] 115)).heap.size=w.heap.size+1:=by simp
  rw[c3] at this;exact this
 clear q bi;go_enter aa.func77,Tryz.ntmps77
 go_wp2_with fail
 go_loopw [11] (fun i wr=>∃ g:Nat,g≤rs.length∧i= .int .i64 g∧(∀ i (h:i<rs.length),i<g→rf (dS rs[i].col) rs[i]=R6)∧wr.heap[w.heap.size+1]? =RX (.cells #[.int .i64 p,.slice (RX ⟨cb,0,RZ⟩) n aD] 139 (0,0))∧Si w.heap.size w wr) (fun i _=>rs.length - (S2 i).toNat)
 case atStart=>exact⟨0,SK _,rfl,fun df _ h=>by omega,J.out,a3.out⟩
 case round=>
  clear J a3;obtain⟨g,c7,rfl,be,S,M⟩:=hrel;have Q:Sb (∀ i (h:i<rs.length),i<g→rf (dS rs[i].col) rs[i]=R6):=be;have U:Sb (Si w.heap.size w wr):=M;have J:Sb (wr.heap[w.heap.size+1]? =RX (.cells #[.int .i64 p,.slice (RX ⟨cb,0,RZ⟩) n aD] 139 (0,0))):=S;have bj:=M.size;have cx:w.heap.size+1<wr.heap.size:=Sf S;clear be;by_cases u:g<rs.length
  ·have q:=Z.out.below M;obtain rfl:=q.addr (by omega);have bl:=q.c0 g u;have bm:=q.c1 g u;have bo:=q.c2 g u;have br:=q.c3 g u;have bs:=q.c4 g u;have bt:=q.c5 g u;have bu:=q.c6 g u;obtain⟨z,a4,ck,a6,a7,a8,a9,ba,bc,bd,a5⟩:=((Y.out rs[g] (Sl u)).below M).ex;have K:Sb (rf (dS rs[g].col) rs[g]=R7→¬ ∀ i (h:i<rs.length),rf (dS rs[i].col) rs[i]=R6):=fun h cR=>by
    have:=cR g u;rw[h] at this;cases this
   have L:Sb (rf (dS rs[g].col) rs[g]=R6→∀ i (h:i<rs.length),i<g+1→rf (dS rs[i].col) rs[i]=R6):=fun h i c1 c6=>by
    by_cases e:i=g
    ·subst e;exact h
    ·exact Q.out i c1 (by omega)
   clear q M Q Z Y S;generalize rs[g]=cf at*;generalize dS cf.col=v at*;obtain⟨dk,k,j⟩:=cf;dsimp only at a4 bl bm bo br bs bt bu;subst a4
   go_upto_region 4 with fail
   obtain⟨c4,bv,bx,bA,bB,b0,b1⟩:=iT (iq wr (.cells #[.int .i64 (z:Int),.bool k.null,.int .i64 k.n,.string k.s,.bool j.null,.int .i64 j.n,.string j.s] 61));have m:Si wr.heap.size wr (wr.alloc (.cells #[.int .i64 (z:Int),.bool k.null,.int .i64 k.n,.string k.s,.bool j.null,.int .i64 j.n,.string j.s] 61)):=(So _ _).alloc (R8 _) _;have A:∀ T v,wr.cell? ⟨cb,T,RZ⟩=RX v→(wr.alloc (.cells #[.int .i64 (z:Int),.bool k.null,.int .i64 k.n,.string k.s,.bool j.null,.int .i64 j.n,.string j.s] 61)).cell? ⟨cb,T,RZ⟩=RX v:=fun T v h=>(m.cell (p:=⟨cb,T,RZ⟩) a6).trans h;have cn:=A _ _ a7;have co:=A _ _ a8;have cp:=A _ _ a9;have cs:=A _ _ ba;have cu:=A _ _ bc;have cv:=A _ _ bd;have cl:=A _ _ a5;have al:=(m.block _ cx).trans J.out;have ci:(wr.alloc (.cells #[.int .i64 (z:Int),.bool k.null,.int .i64 k.n,.string k.s,.bool j.null,.int .i64 j.n,.string j.s] 61)).cell? ⟨w.heap.size+1,1,RZ⟩=RX (.slice (RX ⟨cb,0,RZ⟩) n aD):=by unfold Sr;rw[al];rfl
   have V:Sb _:=al;have X:Sb (Si w.heap.size w (wr.alloc (.cells #[.int .i64 (z:Int),.bool k.null,.int .i64 k.n,.string k.s,.bool j.null,.int .i64 j.n,.string j.s] 61))):=U.out.trans (m.mono bj);have G:wr.heap.size<(wr.alloc (.cells #[.int .i64 (z:Int),.bool k.null,.int .i64 k.n,.string k.s,.bool j.null,.int .i64 j.n,.string j.s] 61)).heap.size:=by simp
   clear m bl bm bo br bs bt bu a7 a8 a9 ba bc bd a5 a6 A al J U bj;generalize wr.alloc (.cells #[.int .i64 (z:Int),.bool k.null,.int .i64 k.n,.string k.s,.bool j.null,.int .i64 j.n,.string j.s] 61)=s at*;generalize wr.heap.size=l at*;have c0:(z:Int)<(n:Int):=by omega
   go_upto_region 5 with fail
   obtain⟨b2,am,ao,ar,c8,c9,da⟩:=iT (iq s (.cells #[.bool v.there,.bool v.least.null,.int .i64 v.least.n,.string v.least.s,.bool v.most.null,.int .i64 v.most.n,.string v.most.s] 141));have m:Si s.heap.size s (s.alloc (.cells #[.bool v.there,.bool v.least.null,.int .i64 v.least.n,.string v.least.s,.bool v.most.null,.int .i64 v.most.n,.string v.most.s] 141)):=(So _ _).alloc (R8 _) _;have db:=(m.cell (p:=⟨l,1,RZ⟩) G).trans bv;have dc:=(m.cell (p:=⟨l,2,RZ⟩) G).trans bx;have dd:=(m.cell (p:=⟨l,3,RZ⟩) G).trans bA;have aw:=(m.cell (p:=⟨l,4,RZ⟩) G).trans bB;have a0:=(m.cell (p:=⟨l,5,RZ⟩) G).trans b0;have a1:=(m.cell (p:=⟨l,6,RZ⟩) G).trans b1;have D:Sb (Si w.heap.size w (s.alloc (.cells #[.bool v.there,.bool v.least.null,.int .i64 v.least.n,.string v.least.s,.bool v.most.null,.int .i64 v.most.n,.string v.most.s] 141))):=X.out.trans (m.mono (by have:=X.out.size;omega));have C:Sb ((s.alloc (.cells #[.bool v.there,.bool v.least.null,.int .i64 v.least.n,.string v.least.s,.bool v.most.null,.int .i64 v.most.n,.string v.most.s] 141)).heap[w.heap.size+1]? =RX (.cells #[.int .i64 p,.slice (RX ⟨cb,0,RZ⟩) n aD] 139 (0,0))):=(m.block _ (Sf V.out)).trans V.out;have x:l<(s.alloc (.cells #[.bool v.there,.bool v.least.null,.int .i64 v.least.n,.string v.least.s,.bool v.most.null,.int .i64 v.most.n,.string v.most.s] 141)).heap.size:=by simp;omega
   have y:s.heap.size<(s.alloc (.cells #[.bool v.there,.bool v.least.null,.int .i64 v.least.n,.string v.least.s,.bool v.most.null,.int .i64 v.most.n,.string v.most.s] 141)).heap.size:=by simp
   clear m c4 bv bx bA bB b0 b1 cn co cp cs cu cv cl X V G c0 ck ci;generalize s.alloc (.cells #[.bool v.there,.bool v.least.null,.int .i64 v.least.n,.string v.least.s,.bool v.most.null,.int .i64 v.most.n,.string v.most.s] 141)=c5 at*;generalize s.heap.size=t at*;have B:=fun ae=>ux v.most k ae;have H:=fun ae=>uw v.least j ae;unfold az.agg at B H;have o:rf v ⟨(z:Int),k,j⟩=(v.there && (kP v.most k || kO v.least j)):=rfl;cases N:v.there
   ·rw[N] at b2 o;have ad:Sb (∀ i (h:i<rs.length),i<g+1→rf (dS rs[i].col) rs[i]=R6):=L.out o;clear K L o N B H;go_wp2
    go_roundw
    case rel=>exact⟨g+1,by omega,by go_num,ad.out,C.out,D.out⟩
    case measure=>simp[S2];omega
   ·rw[N] at b2 o;cases O:kP v.most k
    ·rw[O] at B o;cases R:kO v.least j
     ·rw[R] at H o;have ad:Sb (∀ i (h:i<rs.length),i<g+1→rf (dS rs[i].col) rs[i]=R6):=L.out o;clear K L o O R N
      go_wp2_with (first|(go_at_call 114;refine(B _).mono ?_;rintro e w' ⟨rfl,f⟩;have E:Sb (Si w.heap.size w w'):=D.out.trans (f.mono (by have:=D.out.size;omega));have b3:=(f.cell (p:=⟨t,1,RZ⟩) y).trans am;have b4:=(f.cell (p:=⟨t,2,RZ⟩) y).trans ao;have ca:=(f.cell (p:=⟨t,3,RZ⟩) y).trans ar;have cc:=(f.cell (p:=⟨l,4,RZ⟩) x).trans aw;have cd:=(f.cell (p:=⟨l,5,RZ⟩) x).trans a0;have ce:=(f.cell (p:=⟨l,6,RZ⟩) x).trans a1;have I:Sb (w'.heap[w.heap.size+1]? =RX (.cells #[.int .i64 p,.slice (RX ⟨cb,0,RZ⟩) n aD] 139 (0,0))):=(f.block _ (Sf C.out)).trans C.out;clear f)|(go_at_call 115;refine(H _).mono ?_;rintro e P ⟨rfl,F⟩;have W:Sb (Si w.heap.size w P):=E.out.trans (F.mono (by have:=E.out.size;omega));have a2:Sb (P.heap[w.heap.size+1]? =RX (.cells #[.int .i64 p,.slice (RX ⟨cb,0,RZ⟩) n aD] 139 (0,0))):=(F.block _ (Sf I.out)).trans I.out;clear F))
      go_roundw
      case rel=>exact⟨g+1,by omega,by go_num,ad.out,a2.out,W.out⟩
      case measure=>simp[S2];omega
     ·rw[R] at H o;have ab:Sb (¬ ∀ i (h:i<rs.length),rf (dS rs[i].col) rs[i]=R6):=K.out o;clear K L o O R N
      go_wp2_with (first|(go_at_call 114;refine(B _).mono ?_;rintro e w' ⟨rfl,f⟩;have E:Sb (Si w.heap.size w w'):=D.out.trans (f.mono (by have:=D.out.size;omega));have b3:=(f.cell (p:=⟨t,1,RZ⟩) y).trans am;have b4:=(f.cell (p:=⟨t,2,RZ⟩) y).trans ao;have ca:=(f.cell (p:=⟨t,3,RZ⟩) y).trans ar;have cc:=(f.cell (p:=⟨l,4,RZ⟩) x).trans aw;have cd:=(f.cell (p:=⟨l,5,RZ⟩) x).trans a0;have ce:=(f.cell (p:=⟨l,6,RZ⟩) x).trans a1;have I:Sb (w'.heap[w.heap.size+1]? =RX (.cells #[.int .i64 p,.slice (RX ⟨cb,0,RZ⟩) n aD] 139 (0,0))):=(f.block _ (Sf C.out)).trans C.out;clear f)|(go_at_call 115;refine(H _).mono ?_;rintro e P ⟨rfl,F⟩;have W:Sb (Si w.heap.size w P):=E.out.trans (F.mono (by have:=E.out.size;omega));have a2:Sb (P.heap[w.heap.size+1]? =RX (.cells #[.int .i64 p,.slice (RX ⟨cb,0,RZ⟩) n aD] 139 (0,0))):=(F.block _ (Sf I.out)).trans I.out;clear F))
      go_ret;exact⟨R7,rfl,by simp only[Bool.true_eq_false,false_iff];exact ab.out,W.out⟩
    ·rw[O] at B o;have ab:Sb (¬ ∀ i (h:i<rs.length),rf (dS rs[i].col) rs[i]=R6):=K.out o;clear K L o O N
     go_wp2_with (go_at_call 114;refine(B _).mono ?_;rintro e w' ⟨rfl,f⟩;have E:Sb (Si w.heap.size w w'):=D.out.trans (f.mono (by have:=D.out.size;omega));have b3:=(f.cell (p:=⟨t,1,RZ⟩) y).trans am;have b4:=(f.cell (p:=⟨t,2,RZ⟩) y).trans ao;have ca:=(f.cell (p:=⟨t,3,RZ⟩) y).trans ar;have cc:=(f.cell (p:=⟨l,4,RZ⟩) x).trans aw;have cd:=(f.cell (p:=⟨l,5,RZ⟩) x).trans a0;have ce:=(f.cell (p:=⟨l,6,RZ⟩) x).trans a1;have I:Sb (w'.heap[w.heap.size+1]? =RX (.cells #[.int .i64 p,.slice (RX ⟨cb,0,RZ⟩) n aD] 139 (0,0))):=(f.block _ (Sf C.out)).trans C.out;clear f)
     go_ret;exact⟨R7,rfl,by simp only[Bool.true_eq_false,false_iff];exact ab.out,E.out⟩
  ·have ch:Sb (∀ i (h:i<rs.length),rf (dS rs[i].col) rs[i]=R6):=fun i h=>Q.out i h (by omega);clear Q M Z Y S J;go_wp2;go_ret;exact⟨R6,rfl,by simp only[true_iff];exact ch.out,U.out⟩
end Ec
namespace Cc
open Go Go.Conc
open Go.RowKit (Below)
open Ec (az aC bZ cM qm qC qv)
def mw (c w:R3)(b:Nat):Prop:=∀ a,w.heap[b]? =RX a→aR (aa.of RY) a→c.heap[b]? =RX a
abbrev cF:=Nat×List az
structure Cons(P0 P:Sd)(Post:R2→R3→Prop)(l:Nat)(J:List cF→(Nat→Prop)→R3→Prop)(Go:List cF→Bool):Prop where
 jq:∀ pre M W W',J pre M W→(∀ b,M b→W'.heap[b]? =W.heap[b]?)→W.heap.size≤W'.heap.size→J pre M W'
 bound:∀ pre M W,J pre M W→∀ b,M b→b<W.heap.size
 round:∀ pre M W (nm:Nat) (row:List az) v,J pre M W→pre.length<2000→nm≤1000000→row.length≤1000→W.ownsRow 0 59 3 v row.length (aC row)→(∀ g,v.ownBlock=RX g→¬ M g)→Ej P0 P Post l #[.int .i64 (nm:Int),v] W fun u W'=>u= .bool (Go (pre ++ [(nm,row)]))∧∃ M',J (pre ++ [(nm,row)]) M' W'∧(∀ b,b<W.heap.size→¬ M b→RX b≠v.ownBlock→W'.heap[b]? =W.heap[b]?)∧∀ b,M' b→M b∨RX b=v.ownBlock∨W.heap.size≤b
def feed (Go:List cF→Bool):List cF→List cF→List cF×Bool
 |pre,[]=>(pre,R7)
 |pre,a :: b=>if Go (pre ++ [a]) then feed Go (pre ++ [a]) b else(pre ++ [a],R6)
def dB (j9:Nat→Bool)(a:Nat→List az)(first:Nat):Nat→Nat→List cF
 |p,0=>[]
 |p,b+1=>if j9 p then(first+p,a p) :: dB j9 a first (p+1) b else dB j9 a first (p+1) b
structure QX(W:R3)(ah:List Int)(rs:List bZ)(co:Option SL)(cb aV:Nat)(ro:Option SL)(rb bh:Nat)(lb m N:Nat)(val:Int→Nat→az):Prop where
 ca:0<ah.length→co=RX ⟨cb,aV,RZ⟩
 cl:0<ah.length→cb<W.heap.size
 cc:∀ j,j<ah.length→W.cell? ⟨cb,aV+j,RZ⟩=RX (.int .i64 (ah.getD j 0))
 nr:cM W ro rb bh rs
 lc:∀ p,p<N→∀ k,(k∈ah∨∃ r∈rs,r.col=k)→qm W lb m k p (val k p)
structure Kept(w0 w:R3)(M0 M own:Nat→Prop):Prop where
 keep:∀ b,b<w0.heap.size→¬ M0 b→own b∧w.heap[b]? =w0.heap[b]?
 ext:∀ b,M b→M0 b∨w0.heap.size≤b
 qs:∀ b,M b→own b
 size:w0.heap.size≤w.heap.size
 tape:w.tape=w0.tape
 os:w.os=w0.os
 output:w.output=w0.output
def Kept.rel{w0 w w':R3}{M0 e own own':Nat→Prop}(h:Kept w0 w M0 e own)(c:RelB own w w')(f:∀ b,own b→own' b):Kept w0 w' M0 e own':=
 ⟨fun b a d=>⟨f b (h.keep b a d).1,(c.at_ b (h.keep b a d).1).trans (h.keep b a d).2⟩,h.ext,fun b a=>f b (h.qs b a),Ss h.size c.size,c.tape.trans h.tape,c.os.trans h.os,c.output.trans h.output⟩
def gB (fn:UB):U7:=match fn.body with
 |some (.seq _ (.seq (.seq _ (.block _ (.loop a))) _))=>a
 |_=>.skip
def pK (fn:UB):U7:=match fn.body with
 |some (.seq _ (.seq _ a))=>a
 |_=>.skip
structure Ei(J:List cF→(Nat→Prop)→R3→Prop)(w0 w:R3)(M0 M own:Nat→Prop)(q:Array R2)(lists:R2)(l first N p qb:Nat)(pre:List cF)(a:T6):Prop where
 kn:Knows a 33 [(13,.int .i64 (p:Int)),(12,.int .i64 (N:Int)),(5,.pointer (RX ⟨qb,0,RZ⟩)),(4,.func (.yield l) #[] #[]),(2,.int .i64 (first:Int)),(1,lists)]
 df:a.defers=[]
 j:J pre M w
 kept:Kept w0 w M0 M own
 bd:∀ b,own b→b<w.heap.size
 oq:own qb
 nq:¬ M qb
 lq:w0.heap.size≤qb
 hq:w.heap[qb]? =RX (.cells q 115 (0,0))
def Qa:(Tryz.f118.name == "runtime.NumGoroutine")=R6:=by kernel_rfl
def QU:(Tryz.f119.name == "runtime.NumGoroutine")=R6:=by kernel_rfl
def tK:(RY.info? 115).map (·.size)=RX 6:=by kernel_rfl
def vG (fn:UB):Array Tx:=match gB fn with
 | .seq _ (.seq _ (.seq (.block _ (.seq _ (.seq (.region _ a _) _))) _))=>a
 |_=> #[]
def lU (fn:UB):List UC:=match gB fn with
 | .seq _ (.seq _ (.seq (.block _ (.seq _ (.seq _ a))) b))=>[.code a,.inBlock 1,.code b,.inLoop (gB fn),.inBlock 0,.code (pK fn)]
 |_=>[]
def Nc:(lU Up).all (xe (aa.of RY))=R7:=by kernel_rfl
def KQ:xe (aa.of RY) (.inRegion (vG Up) [])=R7:=by kernel_rfl
def A3{a:T6}{l:List Nat}(b:a.defers=[]):ed (aa.of RY) ((base 79).at a (.inRegion (vG Up) l :: lU Up)) []:=
 dM rfl b (by rw[List.all_cons,Nc,Bool.and_true];exact KQ)
end Cc
namespace Cc
open Go Go.Conc
open Go.RowKit (Below)
open Ec (az aC bZ cM qm qC qv xk Af)
section
variable {Post:R2→R3→Prop}{J:List cF→(Nat→Prop)→R3→Prop}{Go:List cF→Bool}{w0 w:R3}{M0 M own:Nat→Prop}{l first N p qb:Nat}{pre:List cF}{a:T6}{cs:List Sn}{ah:List Int}{rs:List bZ}{co:Option SL}{cb aV aD:Nat}{ro:Option SL}{rb bh aF lb m mc:Nat}{val:Int→Nat→az}{a0 b0 c0:R2}{sk:Bool}{c:Sn}
def Kept.same{d:R3}(h:Kept w0 w M0 M own)(i:∀ b o,own b→w.heap[b]? =RX o→aR (aa.of RY) o→d.heap[b]? =RX o)(k:w.heap.size≤d.heap.size):(∀ b,b<w0.heap.size→¬ M0 b→mw d w0 b)∧w0.heap.size≤d.heap.size:=
 ⟨fun b e f o j g=>i b o (h.keep b e f).1 ((h.keep b e f).2.trans j) g,Ss h.size k⟩
def vL{W' w':R3}{base:Nat}{e:Sg}{d:Nat}{v:R2}{n:Nat}{f:List R2}(r:Un W' w')(h:W'.ownsRow base e d v n f):w'.ownsRow base e d v n f:=by
 obtain⟨b,h|⟨j,g,i,rfl,k,o,q⟩⟩:=h
 ·exact⟨b,.inl h⟩
 ·exact⟨b,.inr ⟨j,g,i,rfl,k,r.row.1 o,q⟩⟩
def jf{b W':R3}{base:Nat}{e:Sg}{k:Nat}{v:R2}{n:Nat}{o:List R2}(h:b.ownsRow base e k v n o){d:Nat}(u:d≤base)(t:∀ g,v.ownBlock=RX g→base≤g→g<b.heap.size→W'.heap[g]? =b.heap[g]?):W'.ownsRow d e k v n o:=by
 obtain⟨j,h|⟨g,q,r,rfl,f,i,s⟩⟩:=h
 ·exact⟨j,.inl h⟩
 ·exact⟨j,.inr ⟨g,q,r,rfl,Ss u f,(t g rfl f (R9.1 i).1).trans i,s⟩⟩
def r7{b:R3}{base:Nat}{e:Sg}{j:Nat}{v:R2}{n:Nat}{k:List R2}(h:b.ownsRow base e j v n k){g:Nat}(d:v.ownBlock=RX g):base≤g∧g<b.heap.size:=by
 obtain⟨t,⟨rfl,_⟩|⟨r,o,q,rfl,f,i,s⟩⟩:=h
 ·cases d
 ·cases d;exact⟨f,(R9.1 i).1⟩
def v9{a:T6}{x y:S3}{u v:R2}(h1:a.eval x=u)(b:a.eval y=v): #[x,y].map a.eval=#[u,v]:=by simp[h1,b]
def AK{a:T6}{x y z:S3}{u v t:R2}(h1:a.eval x=u)(b:a.eval y=v)(d:a.eval z=t): #[x,y,z].map a.eval=#[u,v,t]:=by simp[h1,b,d]
theorem CI(C:Cons (aa.of RY) RY Post l J Go)(hF:∀ f,(∀ b,b<w0.heap.size→¬ M0 b→mw f w0 b)→w0.heap.size≤f.heap.size→QX f ah rs co cb aV ro rb bh lb m N val)(a1:p<N)(bc:pre.length<2000)(bB:first+N≤1000000)(hc:ah.length≤1000)(bo:rs.length≤Sw)
 (d:Knows a 33 [(11,.int .i64 (p:Int)),(13,.int .i64 (p:Int)),(12,.int .i64 (N:Int)),(5,.pointer (RX ⟨qb,0,RZ⟩)),(4,.func (.yield l) #[] #[]),(2,.int .i64 (first:Int)),(1,.slice (RX ⟨lb,0,RZ⟩) m mc)]) (H:a.defers=[]) (S:J pre M w) (Q:Kept w0 w M0 M own) (a9:∀ b,own b→b<w.heap.size) (T:own qb) (aw:¬ M qb) (b3:w0.heap.size≤qb) (a2:w.heap[qb]? =RX (.cells #[a0,b0,c0,.slice co ah.length aD,.slice ro rs.length aF,.bool sk] 115 (0,0)))
 (bi:∀ own' w' a',(¬ ∀ i (h:i<rs.length),qC (val rs[i].col p) rs[i]=R7)→Knows a' 33 [(31,.bool R6),(13,.int .i64 (p:Int)),(12,.int .i64 (N:Int)),(5,.pointer (RX ⟨qb,0,RZ⟩)),(4,.func (.yield l) #[] #[]),(2,.int .i64 (first:Int)),(1,.slice (RX ⟨lb,0,RZ⟩) m mc)]→a'.defers=[]→J pre M w'→Kept w0 w' M0 M own'→(∀ b,own' b→b<w'.heap.size)→own' qb→w'.heap[qb]? =RX (.cells #[a0,b0,c0,.slice co ah.length aD,.slice ro rs.length aF,.bool sk] 115 (0,0))→Xe (aa.of RY) RY Post own' ((base 79).at a' (lU Up)) cs w')
 (bu:∀ own' o w' a',(∀ i (h:i<rs.length),qC (val rs[i].col p) rs[i]=R7)→Knows a' 33 [(31,.bool (!Go (pre ++ [(first+p,ah.map fun k=>val k p)]))),(13,.int .i64 (p:Int)),(12,.int .i64 (N:Int)),(5,.pointer (RX ⟨qb,0,RZ⟩)),(4,.func (.yield l) #[] #[]),(2,.int .i64 (first:Int)),(1,.slice (RX ⟨lb,0,RZ⟩) m mc)]→a'.defers=[]→J (pre ++ [(first+p,ah.map fun k=>val k p)]) o w'→Kept w0 w' M0 o own'→(∀ b,own' b→b<w'.heap.size)→own' qb→¬ o qb→w'.heap[qb]? =RX (.cells #[a0,b0,c0,.slice co ah.length aD,.slice ro rs.length aF,.bool sk] 115 (0,0))→Xe (aa.of RY) RY Post own' ((base 79).at a' (lU Up)) cs w'):
 Xe (aa.of RY) RY Post own ((base 79).at a (.code (.region 4 (vG Up) R6) :: lU Up)) cs w:=by
 have e:=fV (aa.of RY) RY Post;have a3:∀ f:R3,f.heap[qb]? =RX (.cells #[a0,b0,c0,.slice co ah.length aD,.slice ro rs.length aF,.bool sk] 115 (0,0))→f.rangeAt qb 0 [a0,b0,c0,.slice co ah.length aD,.slice ro rs.length aF,.bool sk]:=fun f G ca v S=>by
  unfold Sr;simp only[G];rw[SZ];simpa using S
 refine aU e [0,1,2,3,4,5,6,7,8,9,10,11,12,13,14,15] rfl ?_;refine qo e d rfl (qv a0 b0 c0 (.slice co ah.length aD) (.slice ro rs.length aF) sk) (eA (cs:=[a0,b0,c0,.slice co ah.length aD,.slice ro rs.length aF,.bool sk]) rfl (d.of rfl) Uu rfl tK (.inr T) (a3 w a2)) fun d=>?_;refine bV e d fun d=>?_;refine bV e d fun d=>?_;refine BX (R:=fun f n q=>∃ u,n= .returned (.bool u)∧(u=R7↔∀ i (h:i<rs.length),qC (val rs[i].col p) rs[i]=R7)) dJ rfl rfl rfl rfl (AK (d.of rfl) (d.of rfl) (d.of rfl)) Tryz.func118 Qa rfl (jg rfl rfl rfl).symm (A3 (by simp only[put_defers];exact H)) (fun f G W=>?_) fun v s f q G W bx Y b1 hrel=>?_
 ·have x:=hF f (Q.same G W).1 (Q.same G W).2;refine(xk rs (fun k=>val k p) p lb m mc a0 b0 c0 (.slice co ah.length aD) ro rb bh aF sk f bo x.nr (fun a4 br=>x.lc p a1 a4.col (.inr ⟨a4,br,rfl⟩))).mono fun n q h=>?_;obtain⟨u,rfl,F,A⟩:=h;exact⟨A,_,rfl,u,rfl,F⟩
 ·obtain⟨u,a8,am⟩:=Y;cases a8;have y:=Q.rel (own':=grown own f.heap.size s.heap.size) hrel (fun b h=>.inl h);have ao:=C.jq _ _ _ s S (fun b g=>hrel.at_ b (Q.qs b g)) hrel.size;have V:=(hrel.at_ qb T).trans a2;have P:∀ b,grown own f.heap.size s.heap.size b→b<s.heap.size:=fun b g=>g.elim (fun h=>Sa (a9 b h) hrel.size) (fun h=>h.2);have I:grown own f.heap.size s.heap.size qb:=.inl T;replace d:=d.put (d:=19) (by decide) (.bool u);generalize grown own f.heap.size s.heap.size=Z at*;refine bV e d fun d=>?_;cases u with
  |false=>
   refine rJ e d fun d=>?_;refine rJ e d fun d=>?_;refine rJ e d fun d=>?_;refine rJ e d fun d=>?_;refine rJ e d fun d=>?_;refine rJ e d fun d=>?_;refine rJ e d fun d=>?_;refine rJ e d fun d=>?_;refine rJ e d fun d=>?_;refine rJ e d fun d=>?_;refine cP e d rfl (.bool R6) (xA rfl (d.of rfl) rfl) fun d=>?_;refine aj e ?_;refine bi Z s _ (fun h=>by have:=am.2 h;cases this) ((((((d.nil.cons (d.slot 1 _ rfl)).cons (d.slot 2 _ rfl)).cons (d.slot 4 _ rfl)).cons (d.slot 5 _ rfl)).cons (d.slot 12 _ rfl)).cons (d.slot 13 _ rfl) |>.cons (d.slot 31 _ rfl)) (by simp only[put_defers];exact H) ao y P I V
  |true=>
   have bd:=am.1 rfl;refine lM e (by decide) rfl (d.want (d:=20) (want:=R7) (b:=R7) rfl rfl rfl (by decide)) _ (bQ rfl (d.of rfl)) ?_;replace d:=d.put (d:=21) (by decide) (.func (.yield l) #[] #[]);refine lM e (by decide) rfl (d.want (d:=20) (want:=R7) (b:=R7) rfl rfl rfl (by decide)) _ (bQ rfl (d.of rfl)) ?_;replace d:=d.put (d:=22) (by decide) (.int .i64 (first:Int));refine lM e (by decide) rfl (d.want (d:=20) (want:=R7) (b:=R7) rfl rfl rfl (by decide)) _ (bQ rfl (d.of rfl)) ?_;replace d:=d.put (d:=23) (by decide) (.int .i64 (p:Int));refine lM e (by decide) rfl (d.want (d:=20) (want:=R7) (b:=R7) rfl rfl rfl (by decide)) _ (mV rfl (d.of rfl) (d.of rfl) (by omega)) ?_;replace d:=d.put (d:=24) (by decide) (.int .i64 ((first+p:Nat):Int));refine nE e (by decide) rfl (d.want (d:=20) (want:=R7) (b:=R7) rfl rfl rfl (by decide)) _ (eA (cs:=[a0,b0,c0,.slice co ah.length aD,.slice ro rs.length aF,.bool sk]) rfl (d.of rfl) Uu rfl tK (.inr I) (a3 s V)) ?_;replace d:=d.put (d:=25) (by decide) (qv a0 b0 c0 (.slice co ah.length aD) (.slice ro rs.length aF) sk);refine lM e (by decide) rfl (d.want (d:=20) (want:=R7) (b:=R7) rfl rfl rfl (by decide)) _ (bQ rfl (d.of rfl)) ?_;replace d:=d.put (d:=26) (by decide) (.slice (RX ⟨lb,0,RZ⟩) m mc);refine lM e (by decide) rfl (d.want (d:=20) (want:=R7) (b:=R7) rfl rfl rfl (by decide)) _ (bQ rfl (d.of rfl)) ?_;replace d:=d.put (d:=27) (by decide) (.int .i64 (p:Int));refine BX (R:=fun f n q=>∃ v,n= .returned v∧q.ownsRow f.heap.size 59 3 v ah.length (aC (ah.map fun k=>val k p))) dJ rfl rfl (d.want (d:=20) (want:=R7) (b:=R7) rfl rfl rfl (by decide)) rfl (AK (d.of rfl) (d.of rfl) (d.of rfl)) Tryz.func119 QU rfl (jg rfl rfl rfl).symm (A3 (by simp only[put_defers];exact H)) (fun t R X=>?_) fun v K t bv R X bA Y a7 D=>?_
   ·have x:=hF t (y.same R X).1 (y.same R X).2;refine(Af ah (fun k=>val k p) p lb m mc a0 b0 c0 (.slice ro rs.length aF) co cb aV aD sk t hc x.ca x.cl x.cc (fun k bb=>x.lc p a1 k (.inl bb))).mono fun n q h=>?_;obtain⟨F,v,rfl,A⟩:=h;exact⟨F,v,rfl,v,rfl,A⟩
   ·obtain⟨cf,bt,bj⟩:=Y;cases bt;have r:=y.rel (own':=grown Z t.heap.size K.heap.size) D (fun b h=>.inl h);have ba:=C.jq _ _ _ K ao (fun b g=>D.at_ b (y.qs b g)) D.size;have bm:=(D.at_ qb I).trans V;have b2:∀ b,grown Z t.heap.size K.heap.size b→b<K.heap.size:=fun b g=>g.elim (fun h=>Sa (P b h) D.size) (fun h=>h.2);have U:K.ownsRow t.heap.size 59 3 v ah.length (aC (ah.map fun k=>val k p)):=vL a7 bj;have b4:=P qb I;replace d:=d.put (d:=28) (by decide) v;refine Oh (l:=l) (vs:= #[.int .i64 ((first+p:Nat):Int),v]) (R:=fun ab a5 q=>a5= .bool (Go (pre ++ [(first+p,ah.map fun k=>val k p)]))∧∃ o,J (pre ++ [(first+p,ah.map fun k=>val k p)]) o q∧(∀ b,b<ab.heap.size→¬ M b→RX b≠v.ownBlock→q.heap[b]? =ab.heap[b]?)∧∀ b,o b→M b∨RX b=v.ownBlock∨ab.heap.size≤b) dJ rfl (d.want (d:=20) (want:=R7) (b:=R7) rfl rfl rfl (by decide)) rfl (d.of rfl) (v9 (d.of rfl) (d.of rfl)) (A3 (by simp only[put_defers];exact H)) (fun ad j=>?_) fun ad a5 L j bs E bl=>?_
    ·refine C.round pre M ad (first+p) (ah.map fun k=>val k p) v (C.jq _ _ _ ad ba (fun b g=>j.at_ b (r.qs b g)) j.size) bc (by omega) (by rw[SV];exact hc) ?_ fun O B z=>?_
     ·rw[SV];exact jf U (SK _) fun O F A a6=>j.at_ O (.inr ⟨A,a6⟩)
     ·have F:=(r7 U B).1;have A:=P O (y.qs O z);omega
    ·obtain⟨rfl,o,ae,ar,al⟩:=bs;have B:∀ b,RX b=v.ownBlock→t.heap.size≤b:=fun b g=>(r7 U g.symm).1;have cc:=y.size;have cd:=j.size;have ce:=D.size;refine Xe.go (own:=fun b=>b<L.heap.size) ?_ (fun b h=>h) bl;replace d:=d.put (d:=29) (by decide) (.bool (Go (pre ++ [(first+p,ah.map fun k=>val k p)])));refine lM e (by decide) rfl (d.want (d:=20) (want:=R7) (b:=R7) rfl rfl rfl (by decide)) _ (xz rfl (d.of rfl)) ?_;replace d:=d.put (d:=30) (by decide) (.bool (!Go (pre ++ [(first+p,ah.map fun k=>val k p)])));refine cP e d rfl (.bool (!Go (pre ++ [(first+p,ah.map fun k=>val k p)]))) (xB rfl (d.of rfl) (d.of rfl)) fun d=>?_;refine aj e ?_;refine bu (fun b=>b<L.heap.size) o L _ bd ((((((d.nil.cons (d.slot 1 _ rfl)).cons (d.slot 2 _ rfl)).cons (d.slot 4 _ rfl)).cons (d.slot 5 _ rfl)).cons (d.slot 12 _ rfl)).cons (d.slot 13 _ rfl) |>.cons (d.slot 31 _ rfl)) (by simp only[put_defers];exact H) ae ⟨fun b g z=>?_,fun b g=>?_,fun b g=>C.bound _ _ _ ae b g,?_,E.tape.trans (j.tape.trans r.tape),E.os.trans (j.os.trans r.os),E.output.trans (j.output.trans r.output)⟩ (fun b h=>h) ?_ (fun z=>?_) ?_
     ·have be:¬ M b:=fun h=>(r.ext b h).elim z (fun h=>by omega);refine⟨by have:=E.size;show b<L.heap.size;omega,?_⟩;rw[ar b (by omega) be (fun n=>by have:=B b n;omega),j.at_ b (r.keep b g z).1];exact(r.keep b g z).2
     ·rcases al b g with h|h|h
      ·exact r.ext b h
      ·exact .inr (by have:=B b h;omega)
      ·exact .inr (by omega)
     ·have:=E.size;omega
     ·have:=E.size;show qb<L.heap.size;omega
     ·rcases al qb z with h|h|h
      ·exact aw h
      ·have:=B qb h;omega
      ·omega
     ·rw[ar qb (by omega) aw (fun n=>by have:=B qb n;omega),j.at_ qb (.inl I)];exact bm
end
end Cc
namespace Rl
def Zk (v:R2):Prop:=∀ (G:lC) (a:aI G),ap a v v
def Ef{v:R2}(h:Zk v):∀ c∈v.cells,Zk c:=by
 intro c b G e;have:=(h G e).cells;obtain⟨d,a,rfl⟩:=Array.mem_iff_getElem.1 b;exact this.2 d a a
def BY{cs:Array R2}(h:∀ c∈cs,Zk c):Zk (.agg cs):=fun G b=>.agg rfl fun e a d=>h _ (Array.getElem_mem a) G b
def Zi (i:UL):Prop:=∀ v,i.zero=RX v→Zk v
theorem zX{α i:Type}{f:α→i→Option (ForInStep i)}(e:i→Prop)(j:∀ a b s,e b→f a b=RX s→∀ c,(s= .yield c∨s= .done c)→e c):∀ (l:List α) (b r:i),e b→forIn l b f=RX r→e r
 | [],b,r,g,d=>by simp at d;rw[← d];exact g
 |a :: l,b,r,g,d=>by
  rw[List.forIn_cons] at d;cases h:f a b with
  |none=>rw[h] at d;cases d
  |some s=>
   rw[h] at d;cases s with
   |done c=>simp at d;rw[← d];exact j a b _ g h c (.inr rfl)
   |yield c=>exact zX e j l c r (j a b _ g h c (.inl rfl)) d
def On{o:Option (Array R2)}{i:UL}(g:Zi i)(j:∀ e,o=RX e→∀ c∈e,Zk c){b:Prop} [Decidable b]{e:Array R2}
 (h:(if b then RZ else o.bind fun a=>i.zero.bind fun z=>RX (a ++ z.cells))=RX e):∀ c∈e,Zk c:=by
 split at h
 ·cases h
 ·obtain⟨a,f,h⟩:=SR.1 h;obtain⟨z,k,h⟩:=SR.1 h;cases h;intro c d;rcases Array.mem_append.1 d with d|d
  ·exact j a f c d
  ·exact Ef (g z k) c d
def Ry (c:Array Field×Nat×Nat×Nat×Nat×Bool×Bool×Option (Array R2)×String):Prop:=∀ a,c.2.2.2.2.2.2.2.1=RX a→∀ b∈a,Zk b
theorem JM{info:Sg→Option UL}(k:∀ t i,info t=RX i→Zi i)(g:Array Field)(r:UL)(h:Made.reckonStruct info g=RX r):Zi r:=by
 unfold Made.reckonStruct at h;simp only[bind,SR,pure] at h;obtain⟨o,d,h⟩:=h;have j:Ry o:=by
  rw[← Array.forIn_toList] at d;refine zX Ry ?_ _ _ _ ?_ d
  ·intro f q s m a e hc;obtain⟨i,l,a⟩:=SR.1 a
   split at a
   ·cases a
   ·split at a
    ·cases a
    ·split at a<;>(obtain⟨tag,p,a⟩:=SR.1 a;split at a<;>(cases a;rcases hc with hc|hc<;>cases hc;exact fun c b=>On (k _ _ l) m b))
  ·intro c b;cases b;intro e hc;simp at hc
 split at h<;>(cases h;intro v n;obtain⟨c,b,rfl⟩:=Uh.1 n;exact BY (j c b))
def qj{d:TypeDesc}{s:String}{z:R2}{c:Bool}{n:Nat}(b:Zk z):Zi (Made.word d s z c n):=by
 intro v a;unfold Made.word at a;cases a;exact b
theorem JL{info:Sg→Option UL}(k:∀ t i,info t=RX i→Zi i)(d:TypeDesc)(r:UL)(h:Made.reckon info d=RX r):Zi r:=by
 unfold Made.reckon at h;simp only[bind,pure] at h
 split at h
 ·obtain⟨i,l,h⟩:=SR.1 h
  split at h
  ·cases h
  ·split at h
   ·cases h
   ·obtain⟨s,b,h⟩:=SR.1 h;cases h;exact qj fun G e=>.cD
  ·obtain⟨s,b,h⟩:=SR.1 h;cases h;exact qj fun G e=>.cD
 ·obtain⟨s,b,h⟩:=SR.1 h;obtain⟨g,f,h⟩:=SR.1 h;cases h;exact qj fun G e=>.jd 0 0
 ·obtain⟨s,b,h⟩:=SR.1 h;obtain⟨g,f,h⟩:=SR.1 h;obtain⟨s,b,h⟩:=SR.1 h;obtain⟨g,f,h⟩:=SR.1 h;cases h;exact qj fun G e=>.jH
 ·obtain⟨s,b,h⟩:=SR.1 h;obtain⟨g,f,h⟩:=SR.1 h;cases h;exact qj fun G e=>.gP
 ·obtain⟨s,b,h⟩:=SR.1 h;cases h;exact qj fun G e=>.nilFunc
 ·obtain⟨i,l,h⟩:=SR.1 h;obtain⟨g,f,h⟩:=SR.1 h;cases h;intro v c;simp only at c
  split at c
  ·cases c
  ·split at c
   ·cases c;exact BY fun j a=>by simp at a
   ·obtain⟨n,m,rfl⟩:=Uh.1 c;refine BY fun j a=>?_;simp only[Array.mem_flatten,Array.mem_replicate] at a;obtain⟨o,⟨_,rfl⟩,a⟩:=a;exact Ef (k _ _ l n m) j a
 ·exact JM k _ _ h
 ·cases h
theorem AA{T:Tables}(b:∀ (t:Nat) i,T.types[t]? =RX i→Zi i):∀ (f:Nat) (t:Sg) (i:UL),Made.infoAt T f t=RX i→Zi i
 |0,t,i,a=>by cases a
 |f+1,t,i,a=>by
  unfold Made.infoAt at a
  split at a
  ·exact b _ _ a
  ·obtain⟨c,d,a⟩:=SR.1 a;exact JL (AA b f) c i a
def Ol{T:Tables}(a:∀ (t:Nat) i,T.types[t]? =RX i→Zi i)(t:Sg)(i:UL)(h:T.info? t=RX i):Zi i:=by
 unfold Tables.info? at h
 split at h
 ·exact a _ _ h
 ·exact AA a _ t i h
end Rl
namespace Cc
open Go
def eC:Nat→R2→Bool
 |0,_=>R6
 |n+1,v=>match v with
  | .bool _| .int _ _| .string _| .pointer RZ| .slice RZ _ _| .map RZ| .chan RZ| .nilFunc| .nilIface=>R7
  | .agg a| .tuple a=>a.toList.all (eC n)
  |_=>R6
theorem xE:∀ (n:Nat) (v:R2),eC n v=R7→Rl.Zk v
 |0,v,a=>by cases a
 |n+1,v,a=>by
  intro G c;unfold eC at a
  split at a
  ·exact .bool _
  ·exact .int _ _
  ·exact .string _
  ·exact .cD
  ·exact .jd _ _
  ·exact .jH
  ·exact .gP
  ·exact .nilFunc
  ·exact .nilIface
  ·rename_i d;exact Rl.BY (fun b e=>xE n b (SC.1 a b (by simpa using e))) G c
  ·rename_i d;exact .tuple rfl fun h f g=>xE n _ (SC.1 a _ (by simp)) G c
  ·cases a
def Qt:List Nat:=[65,66,83,93,95,97,98,120,123,128,129,130,139,141,152,153,154,155,156,158,161,162,163,164,165,166,167,169,170,171,172,173,174,175,176,177,178]
def Ky:Rl.lC:=⟨1,fun f=>Qt.contains f⟩
def Ok:(RY.types.toList.all fun i=>match i.zero with|some v=>eC 12 v|none=>R7)=R7:=by kernel_rfl
def G0:RY.globals.size=1:=by kernel_rfl
def P8:(Qt.all fun f=>match RY.funcs[f]? with|some fn=>(match fn.body with|some c=>Rl.bW Ky RY c|none=>R6)|none=>R6)=R7:=by kernel_rfl
def Qe:Rl.u7 RY RY:=⟨fun _=>rfl,fun _=>rfl,rfl,fun c d v a b=>by
 refine Rl.Ol (T:=RY.toTables) (fun c d a v b=>?_) c d a v b;obtain⟨e,rfl⟩:=R9.1 a;have:=SC.1 Ok (RY.types[c]) (by simp);rw[b] at this;exact xE _ _ this⟩
def Ea:Rl.mM Ky RY RY:=by
 intro f e;have:=SC.1 P8 f (by simpa [Ky] using e)
 split at this
 ·rename_i c a
  split at this
  ·rename_i b d;exact⟨c,b,a,a,d,this⟩
  ·cases this
 ·cases this
def Oi:Rl.Alike Ky RY RY:=⟨Qe,fun _=>rfl,fun _=>rfl,rfl,fun _ _ _ _ _ _=>rfl,fun _ _ _ _ _=>rfl,fun _ _ _=>rfl,fun _ _=>rfl,fun _=>rfl,fun _ _=>rfl,G0,G0,fun f d=>by
 obtain⟨b,e,a,_,c,_⟩:=Ea f d;refine⟨b,a,by rw[c];rfl,?_⟩;simpa using iP sE a,fun _=>rfl⟩
end Cc
namespace Cc
open Go Go.Conc
open Ec (az aC)
def JV (own:Nat→Prop)(w:R3)(v:R2)(l:List az):Prop:=
 (v= .slice RZ 0 0∧l=[])∨∃ a c b,v= .slice (RX ⟨a,0,RZ⟩) l.length c∧own a∧w.heap[a]? =RX (.cells b 59 (0,0))∧b.toList.take (l.length*3)=aC l
theorem lB:∀ (l:List az) (i:Nat) (h:i<l.length) (j:Nat) (v:R2),[UD l[i].null,.int .i64 l[i].n,.string l[i].s][j]? =RX v→(aC l)[i*3+j]? =RX v
 | [],i,h,j,v,a=>by simp at h
 |x :: l,0,h,j,v,a=>by
  simp only[List.getElem_cons_zero] at a;simp only[aC,UF,Nat.zero_mul,SZ];exact Ty (SA.1 a).1▸a
 |x :: l,i+1,h,j,v,a=>by
  simp only[List.getElem_cons_succ] at a;have:=lB l i (by simpa using h) j v a;have b:(i+1)*3+j=i*3+j+3:=by omega
  rw[b];simpa [aC] using this
def tP{w:R3}{g:Nat}{b:Array R2}{l:List az}(c:w.heap[g]? =RX (.cells b 59 (0,0)))(hc:b.toList.take (l.length*3)=aC l){i:Nat}(d:i<l.length):w.rangeAt g (0+i*3) [UD l[i].null,.int .i64 l[i].n,.string l[i].s]:=by
 intro f v e;have a:=lB l i d f v e;rw[← hc,T3] at a
 split at a
 ·unfold Sr;simp only[c];rw[SZ];simpa using a
 ·cases a
def oW (fn:UB):U7:=match fn.body with
 |some (.seq _ (.seq _ (.seq _ (.seq _ (.seq _ (.block _ (.loop a)))))))=>a
 |_=>.skip
def mj:(RY.info? 59).map (·.size)=RX 3:=by kernel_rfl
def AJ (S:Nat→Prop)(c:Nat)(ds:List Uc)(l:List az)(v:R2)(i:Nat)(own:Nat→Prop)(w:R3)(a:T6):Prop:=
 Knows a 47 [(40,.int .i64 (i:Int)),(39,.int .i64 (l.length:Int)),(38,v),(0,.chan (RX c))]∧a.defers=ds∧sG S own w∧JV own w v l
theorem LS{S:Nat→Prop}{c:Nat}{co:Array Bool}{ats:Array Sg}{ty:Sg}{l:List az}{v:R2}{i:Nat}{own:Nat→Prop}{w:R3}{a:T6}(h:AJ S c [{target:=.builtin .close ats ty co,args:= #[.chan (RX c)]}] l v i own w a)(f:l.length≤i):
 oI (aa.of RY) RY S c own [] (Se ((baseD 116).at a [.code (oW TI),.inLoop (oW TI),.inBlock 0]) [below RY]) w:=by
 obtain⟨d,e,g,j⟩:=h;have b:=j5 (aa.of RY) RY S c [];refine aH b ?_;refine aU b [0] rfl ?_;refine cP b d rfl (.bool R6) (iH rfl (d.of rfl) (d.of rfl) (by simp;omega)) fun d=>?_;refine aj b ?_;refine aH b ?_;refine cJ b R6 (d.of rfl) ?_;refine sX b (k':=[]) rfl ?_;refine Kb b ?_;exact GZ rfl e Tryz.func116 rfl rfl
theorem Fy{S:Nat→Prop}{c:Nat}{ds:List Uc}{l:List az}{v:R2}{i:Nat}{own:Nat→Prop}{w:R3}{a:T6}{x:az}{r:List az}(K:l.length≤100000)(h:AJ S c ds l v i own w a)(k:l.drop i=x :: r)
 (E:∀ own' w' a',AJ S c ds l v (i+1) own' w' a'→oI (aa.of RY) RY S c own' (r.map az.agg) (Se ((baseD 116).at a' [.code (oW TI),.inLoop (oW TI),.inBlock 0]) [below RY]) w'):
 oI (aa.of RY) RY S c own ((x :: r).map az.agg) (Se ((baseD 116).at a [.code (oW TI),.inLoop (oW TI),.inBlock 0]) [below RY]) w:=by
 obtain⟨b,B,j,n⟩:=h;have d:=j5 (aa.of RY) RY S c ((x :: r).map az.agg);have g:i<l.length:=by
  rcases TF i l.length with h|h
  ·exact h
  ·rw[List.drop_eq_nil_of_le h] at k;cases k
 have H:l[i]=x:=by
  have:=List.drop_eq_getElem_cons g;rw[k] at this;exact(List.cons.inj this).1.symm
 obtain⟨rfl,rfl⟩|⟨e,y,z,rfl,f,q,u⟩:=n
 ·simp at g
 have t:=tP q u g;rw[H] at t;refine aH d ?_;refine aU d [0] rfl ?_;refine cP d b rfl (.bool R7) (iH rfl (b.of rfl) (b.of rfl) (by simp;omega)) fun b=>?_;refine aj d ?_;refine aH d ?_;refine cJ d R7 (b.of rfl) ?_;refine gu d ?_;refine aH d ?_;refine fF d ?_;refine aH d ?_;refine aU d [0,1,2,3] rfl ?_;refine cP d b rfl (.pointer (RX ⟨e,0+i*3,RZ⟩)) (eK rfl (b.of rfl) (b.of rfl) Vf Tryz.sizeOf59 g) fun b=>?_;refine qo d b rfl (.agg #[UD x.null,.int .i64 x.n,.string x.s]) (eA (cs:=[UD x.null,.int .i64 x.n,.string x.s]) rfl (b.of rfl) Tryz.underlying59 rfl mj (.inr f) t) fun b=>?_;refine kV d j (by decide) rfl rfl (.cells #[.bool R6,.int .i64 0,.string ⟨#[]⟩] 59) trivial (fun I=>.pointer (RX ⟨I,0,RZ⟩)) (rZ rfl Tryz.zeroValue59) fun o M F G hrel A=>?_;replace b:=b.put (d:=11) (by decide) (.pointer (RX ⟨o,0,RZ⟩));have s:=j.new F G;have C:e≠o:=by have:=j e (.inr f);omega
 refine qZ d s (by decide) rfl rfl (.inr rfl) (.cells #[.bool x.null,.int .i64 x.n,.string x.s] 59) trivial (kq (n:=o) (off:=0) (v:=.agg #[UD x.null,.int .i64 x.n,.string x.s]) rfl (b.of rfl) (b.of rfl) mj (fun c p=>by simp[Uw] at p;rcases p with rfl|rfl|rfl<;>rfl) (Or.inr (Or.inr rfl)) A (R8 3)) fun J m=>?_;replace b:=b.none Tq;have D:=s.set m;refine aj d ?_;refine aU d [0,1,2] rfl ?_;refine bV d b fun b=>?_;refine nE d (by decide) rfl rfl _ (eA (cs:=[UD x.null,.int .i64 x.n,.string x.s]) rfl (b.of rfl) Tryz.underlying59 rfl mj (.inr (.inr rfl)) (fun L v n=>by
  unfold Sr;rw[m.set];simpa [Uw] using n)) ?_
 replace b:=b.put (d:=45) (by decide) (.agg #[UD x.null,.int .i64 x.n,.string x.s]);refine PT (v:=x.agg) (by decide) rfl rfl rfl (b.of rfl) (b.of rfl) ?_;replace b:=b.none Tq;have d:=j5 (aa.of RY) RY S c (r.map az.agg);refine aj d ?_;refine gL d ?_;refine aU d [0,1] rfl ?_;refine cP d b rfl (.int .i64 ((i+1:Nat):Int)) (mV (j:=1) rfl (b.of rfl) rfl (by omega)) fun b=>?_;refine bV d b fun b=>?_;refine aj d ?_;refine j3 d ?_;refine E _ J _ ⟨(((b.nil.cons (b.slot 0 _ rfl)).cons (b.slot 38 _ rfl)).cons (b.slot 39 _ rfl)).cons (b.slot 40 _ rfl),by simp only[put_defers];exact B,D,.inr ⟨e,y,z,rfl,.inl f,?_,u⟩⟩;rw[m.at_ e (.inr (.inl f)) C,hrel.at_ e (.inr f)];exact q
theorem Ji{S:Nat→Prop}{c:Nat}{co:Array Bool}{ats:Array Sg}{ty:Sg}{l:List az}{v:R2}(g:l.length≤100000):∀ (r:List az) (i:Nat),l.drop i=r→∀ (own:Nat→Prop) (w:R3) (a:T6),AJ S c [{target:=.builtin .close ats ty co,args:= #[.chan (RX c)]}] l v i own w a→
 oI (aa.of RY) RY S c own (r.map az.agg) (Se ((baseD 116).at a [.code (oW TI),.inLoop (oW TI),.inBlock 0]) [below RY]) w:=by
 intro r
 induction r with
 |nil=>exact fun i d own w a b=>LS b (List.drop_eq_nil_iff.1 d)
 |cons n r j=>
  intro i d own w a b;refine Fy g b d fun k m e f=>j (i+1) ?_ k m e f;have h:i<l.length:=by
   rcases TF i l.length with b|b
   ·exact b
   ·rw[List.drop_eq_nil_of_le b] at d;cases d
  have:=List.drop_eq_getElem_cons h;rw[d] at this;exact(List.cons.inj this).2.symm
end Cc
namespace Cc
open Go Go.Conc
open Ec (az aC rC vV iy ei)
open Rl (lC aI dY ap aQ cZ)
def oA (s:ByteArray)(k e cn:Int)(vs:List az):Prop:=
 (∃ a:Nat,cn=(a:Int)∧a≤100∧iy cn k e=0∧rC s k e a vs)∨(vs=[]∧(iy cn k e≠0∨∃ a:Nat,cn=(a:Int)∧vV s k e a))
def EI{s:ByteArray}{k e:Int}{n:Nat}{l b:List az}(h:rC s k e n l)(a:rC s k e n b):b=l:=h.GW b a.len a.ok (ei a.eq)
def oA.QB{s:ByteArray}{k e cn:Int}{vs l:List az}{n:Nat}(h:oA s k e cn vs)(i:cn=(n:Int))(c:iy cn k e=0)(a:rC s k e n l):vs=l:=by
 rcases h with⟨b,d,_,_,g⟩|⟨rfl,h|⟨b,d,f⟩⟩
 ·have:b=n:=by omega
  subst this;exact EI a g
 ·exact absurd c h
 ·have:b=n:=by omega
  subst this;exact absurd a.eq (f l a.len a.ok)
def oA.QA{s:ByteArray}{k e cn:Int}{vs:List az}{n:Nat}(h:oA s k e cn vs)(f:cn=(n:Int))(b:vV s k e n):vs=[]:=by
 rcases h with⟨c,d,_,_,a⟩|⟨rfl,_⟩
 ·have:c=n:=by omega
  subst this;exact absurd a.eq (b vs a.len a.ok)
 ·rfl
def oA.Pn{s:ByteArray}{k e cn:Int}{vs:List az}(h:oA s k e cn vs)(a:iy cn k e≠0):vs=[]:=by
 rcases h with⟨f,c,_,b,d⟩|⟨rfl,_⟩
 ·exact absurd b a
 ·rfl
def oA.len{s:ByteArray}{k e cn:Int}{vs:List az}(h:oA s k e cn vs):(vs.length:Int)=cn∨vs=[]:=by
 rcases h with⟨d,a,_,c,b⟩|⟨rfl,_⟩
 ·exact .inl (by rw[b.len,a])
 ·exact .inr rfl
def oA.le{s:ByteArray}{k e cn:Int}{vs:List az}(h:oA s k e cn vs):vs.length≤100:=by
 rcases h with⟨f,c,a,d,b⟩|⟨rfl,_⟩
 ·rw[b.len];exact a
 ·simp
section
variable {G:lC}{σ:aI G}{own:Nat→Prop}{wl w:R3}
def KL:R2→Bool
 | .bool _| .int _ _| .string _=>R7
 |_=>R6
def CH{v a:R2}(h:ap σ v a)(b:KL v=R7):a=v:=by
 cases h using ap.ind<;>first|rfl|cases b
def D3(l:List az):∀ x∈aC l,KL x=R7:=by
 intro x b;obtain⟨v,_,a⟩:=List.mem_flatMap.1 b;simp only[TE,Vr,or_false] at a;rcases a with rfl|rfl|rfl<;>rfl
theorem NS{v r:R2}{l:List az}{base:Nat}(q:ap σ v r)(I:dY σ 0 wl w)(E:∀ b b',σ.f b=RX b'→own b')(D:wl.ownsRow base 59 3 v l.length (aC l)):JV own w r l:=by
 obtain⟨J,⟨rfl,B⟩|⟨i,t,f,rfl,_,A,C,_,H,p⟩⟩:=D
 ·cases q using ap.ind;exact .inl ⟨rfl,Ua.1 B⟩
 ·cases q using ap.ind with
  |sl y=>
   rename_i s;obtain⟨e,j,k⟩:=y;obtain⟨d,M,N⟩:=s;simp only at e j k;subst j k;obtain⟨K,L,h,u,x⟩:=I.at_ i d e;rw[A] at h;cases h;cases x using cZ.ind with
   |cells m=>
    rename_i g;refine .inr ⟨d,t,g,rfl,E i d e,u,?_⟩;rw[← p];apply List.ext_getElem?;intro a;rw[T3,T3]
    split
    ·rename_i n;have c:a<f.size:=by
      rw[H];exact Sa n (Nat.mul_le_mul_right 3 C)
     have o:a<g.size:=by rw[← m.1];exact c
     have F:=m.2 a c o;have z:KL f[a]=R7:=by
      refine D3 l _ ?_;rw[← p];refine List.mem_iff_getElem?.2 ⟨a,?_⟩;rw[T3,if_pos n];simp[c]
     have:=CH F z;simp[c,o,this]
    ·rfl
end
def fH (fn:UB):Array Tx:=match fn.body with
 |some (.seq _ (.seq _ (.seq (.region _ a _) _)))=>a
 |_=> #[]
def vE (fn:UB):U7:=match fn.body with
 |some (.seq _ (.seq _ (.seq _ a)))=>a
 |_=>.skip
def bR{P:Sd}{a:T6}{o:Tx}{v:R2}{S own:Nat→Prop}{w:R3}(h:∀ c,(SE a.eval o).run P c= .ok (.value v) c∧(SE a.eval o).events P c #[]=#[]):∀ c,RelB (fun b=>S b∨own b) w c→(SE a.eval o).run P c= .ok (.value v) c∧∀ e∈(SE a.eval o).events P c #[],EvW S own e:=fun c _=>⟨(h c).1,fun e d=>by rw[(h c).2] at d;simp at d⟩
theorem Jj{S:Nat→Prop}{c:Nat}{co:Array Bool}{ats:Array Sg}{ty:Sg}{vs:List az}{v:R2}{E:Int}{own:Nat→Prop}{w:R3}{a:T6}{l0:List (Nat×R2)}(b:Knows a 47 ((8,v) :: (9,.int .i64 E) :: (0,.chan (RX c)) :: l0))(g:a.defers=[{target:=.builtin .close ats ty co,args:= #[.chan (RX c)]}])(k:sG S own w)(l:vs.length≤100000)
 (h:(E≠0∧vs=[])∨(E=0∧JV own w v vs)):oI (aa.of RY) RY S c own (vs.map az.agg) (Se ((baseD 116).at a [.code (vE TI)]) [below RY]) w:=by
 have d:=j5 (aa.of RY) RY S c (vs.map az.agg);refine aH d ?_;refine aH d ?_;refine aU d [0,1] rfl ?_;refine bV d b fun b=>?_;rcases h with⟨j,rfl⟩|⟨rfl,i⟩
 ·refine cP d b rfl (.bool R7) (pP rfl (b.of rfl) rfl (by simpa using j)) fun b=>?_;refine aj d ?_;refine cJ d R7 (b.of rfl) ?_;refine om d ?_;exact GZ rfl (by simp only[put_defers];exact g) Tryz.func116 rfl rfl
 ·refine cP d b rfl (.bool R6) (pP rfl (b.of rfl) rfl rfl) fun b=>?_;refine aj d ?_;refine cJ d R6 (b.of rfl) ?_;refine gu d ?_;refine aH d ?_;refine aU d [0,1,2] rfl ?_;refine bV d b fun b=>?_;have m:∃ f e,v= .slice f vs.length e:=by
   rcases i with⟨rfl,rfl⟩|⟨o,e,n,rfl,_⟩
   ·exact⟨RZ,0,rfl⟩
   ·exact⟨_,e,rfl⟩
  obtain⟨f,e,rfl⟩:=m;refine cP d b rfl (.int .i64 (vs.length:Int)) (q9 rfl (b.of rfl) Vf) fun b=>?_;refine cP d b rfl (.int .i64 ((0:Nat):Int)) (bQ rfl rfl) fun b=>?_;refine aj d ?_;refine fF d ?_;refine sY d ?_;exact Ji l vs 0 rfl _ w _ ⟨(((b.nil.cons (b.slot 0 _ rfl)).cons (b.slot 38 _ rfl)).cons (b.slot 39 _ rfl)).cons (b.slot 40 _ rfl),by simp only[put_defers];exact g,k,i⟩
end Cc
namespace Cc
open Go Go.Conc
open Ec (az aC rC vV iy oM)
open Rl (lC aI dY ap aQ cZ)
def oh (cn:Int)(cb n cap:Nat):R2:=.agg #[.int .i64 cn,.slice (RX ⟨cb,0,RZ⟩) n cap]
def ou (b d ck a c ce:Nat)(x:R2):R2:=.agg #[.slice (RX ⟨b,0,RZ⟩) d ck,.slice (RX ⟨a,0,RZ⟩) c ce,x]
structure sK(S:Nat→Prop)(w:R3)(s:ByteArray)(k e:Int)(cb n kb nk eb ne col:Nat):Prop where
 sc:S cb
 sk:S kb
 se:S eb
 n:col<n
 nk:col<nk
 ne:col<ne
 cc:w.cell? ⟨cb,0+col*8+0,RZ⟩=RX (.string s)
 ck:w.cell? ⟨kb,0+col*2+1,RZ⟩=RX (.int .i64 k)
 ce:w.cell? ⟨eb,0+col*1,RZ⟩=RX (.int .i64 e)
def sK.rel{S:Nat→Prop}{w w':R3}{s:ByteArray}{k e:Int}{cb n d g c f col:Nat}(h:sK S w s k e cb n d g c f col)(j:∀ b,S b→w'.heap[b]? =w.heap[b]?):sK S w' s k e cb n d g c f col:=by
 have e:∀ (b a:Nat),S b→w'.cell? ⟨b,a,RZ⟩=w.cell? ⟨b,a,RZ⟩:=fun b a i=>by unfold Sr;rw[j b i]
 exact⟨h.sc,h.sk,h.se,h.n,h.nk,h.ne,(e _ _ h.sc).trans h.cc,(e _ _ h.sk).trans h.ck,(e _ _ h.se).trans h.ce⟩
def GK (b1 b2:Nat)(cn:Int)(cb n cap a d ck b c ce col:Nat)(s:ByteArray)(k e:Int):List (Nat×R2):=
 [(14,.pointer (RX ⟨b1,0+1,RZ⟩)),(15,.slice (RX ⟨cb,0,RZ⟩) n cap),(16,.int .i64 (col:Int)),(17,.pointer (RX ⟨cb,0+col*8,RZ⟩)),(18,.pointer (RX ⟨cb,0+col*8+0,RZ⟩)),(19,.string s),
  (20,.pointer (RX ⟨b2,0+0,RZ⟩)),(21,.slice (RX ⟨a,0,RZ⟩) d ck),(22,.int .i64 (col:Int)),(23,.pointer (RX ⟨a,0+col*2,RZ⟩)),(24,.pointer (RX ⟨a,0+col*2+1,RZ⟩)),(25,.int .i64 k),
  (26,.pointer (RX ⟨b2,0+1,RZ⟩)),(27,.slice (RX ⟨b,0,RZ⟩) c ce),(28,.int .i64 (col:Int)),(29,.pointer (RX ⟨b,0+col*1,RZ⟩)),(30,.int .i64 e),(31,.pointer (RX ⟨b1,0+0,RZ⟩)),(32,.int .i64 cn)]
def Kx:List Nat:=[14,15,16,17,18,19,20,21,22,23,24,25,26,27,28,29,30,31,32]
def LQ (u:R2)(E:Int):List (Nat×R2):=[(33,.tuple #[u,.int .i64 E]),(13,.tuple #[u,.int .i64 E]),(34,u),(35,.int .i64 E),(8,u),(9,.int .i64 E)]
def Cy:fJ (fH TI) (fun i=>decide (i<19)) 19 47 Kx=R7:=by kernel_rfl
def Kz:fJ (fH TI) (fun _=>R7) 25 47 ([33,13,34,35,8,9] ++ Kx)=R7:=by kernel_rfl
def M6:((SS (fH TI).size).all fun i=> !(fun i=>decide (i<19)) i || match iz (fH TI) i with|some d=> !([33,13,34,35,8,9]:List Nat).contains d|none=>R7)=R7:=by kernel_rfl
def KA:((SS (fH TI).size).all fun i=> !(fun i=>decide (i≤19)) i || i == 19 || (under (fH TI) (fH TI).size (match (fH TI)[19]? with
 |some o=>(o.after.toList.filter fun e=>Tn .any e).map (·.on)
 |none=>[])).contains i)=R7:=by kernel_rfl
def qi:RY.follows .mixedOrders=R7:=by kernel_rfl
def MG:(Tryz.f139.name == "runtime.NumGoroutine")=R6:=by kernel_rfl
def Qf:(TI.name == "runtime.NumGoroutine")=R6:=by kernel_rfl
theorem Dz{S:Nat→Prop}{c:Nat}{co:Array Bool}{ats:Array Sg}{ty:Sg}{vs:List az}{u:R2}{E:Int}{own:Nat→Prop}{w:R3}{a0:T6}{l l0:List (Nat×R2)}(m:Knows a0 47 l0)(n:l0.lookup 0=RX (.chan (RX c)))(v:l.lookup 0=RZ)(p:a0.defers=[{target:=.builtin .close ats ty co,args:= #[.chan (RX c)]}])(r:sG S own w)(s:vs.length≤100000)(x:l.map (·.1)=Kx)
 (h:(E≠0∧vs=[])∨(E=0∧JV own w u vs)) (g t:Nat) (f:Array Bool) (a:T6) (q:b6 (fH TI) (fun _=>R7) a0 (fill a0 (LQ u E ++ l)) f a) (j:∀ i,(fun i=>decide (i≤19)) i=R7→f.getD i R6=R7) (y:D1 f≤g):
 oI (aa.of RY) RY S c own (vs.map az.agg) (Se ((baseD 116).at a [.inRegion (fH TI) (S5 .any (fH TI) g t f []),.code (vE TI)]) [below RY]) w:=by
 have k:=j5 (aa.of RY) RY S c (vs.map az.agg);have o:fJ (fH TI) (fun _=>R7) 25 47 ((LQ u E ++ l).map (·.1))=R7:=by
  rw[Tb,x];exact Kz
 refine jO (Dn:=fun i=>decide (i≤19)) (u:=25) k (by decide) m o ?_ ?_ ?_ g t f a q j y
 ·intro b i e _ j B d;have z:19<i:=by simpa using j
  have A:i<25:=(R9.1 d).1;have:i=20∨i=21∨i=22∨i=23∨i=24:=by omega
  rcases this with rfl|rfl|rfl|rfl|rfl
  ·cases(show RX _=RX e from d);exact⟨_,rfl,.inl ⟨rfl,bR (bQ rfl (b.of rfl))⟩⟩
  ·cases(show RX _=RX e from d);exact⟨_,rfl,.inl ⟨rfl,bR (jJ rfl (b.of rfl) rfl)⟩⟩
  ·cases(show RX _=RX e from d);exact⟨_,rfl,.inl ⟨rfl,bR (jJ rfl (b.of rfl) rfl)⟩⟩
  ·cases(show RX _=RX e from d);exact⟨_,rfl,.inl ⟨rfl,bR (jI rfl (b.of rfl))⟩⟩
  ·cases(show RX _=RX e from d);exact⟨_,rfl,.inl ⟨rfl,bR (jI rfl (b.of rfl))⟩⟩
 ·intro e d;exact absurd (R9.1 d).1 (by decide)
 ·intro _ b;refine aj k ?_;refine Jj (l0:=[]) (v:=u) (E:=E) (((b.nil.cons (b.slot 0 _ ?_)).cons (b.slot 9 _ rfl)).cons (b.slot 8 _ rfl)) (by rw[dQ];exact p) r s h;rw[SG,List.lookup_append,List.lookup_append,v,n];rfl
def Rf (s:ByteArray)(k e cn:Int)(w:R3)(f:UQ)(w':R3):Prop:=Si w.heap.size w w'∧
 ((iy cn k e≠0∧f= .returned (.tuple #[.slice RZ 0 0,.int .i64 (iy cn k e)]))∨
  (∃ a:Nat,cn=(a:Int)∧a≤100∧iy cn k e=0∧Ec.aY k e=R7∧((∃ v b,f= .returned (.tuple #[v,.int .i64 0])∧w'.ownsRow w.heap.size 59 3 v b.length (aC b)∧rC s k e a b)∨(f= .returned (.tuple #[.slice RZ 0 0,.int .i64 3])∧vV s k e a))))
theorem ue{G:lC}{σ:aI G}{u g:R2}{E:Int}(h:ap σ (.tuple #[u,.int .i64 E]) g):∃ f,g= .tuple #[f,.int .i64 E]∧ap σ u f:=by
 cases h using ap.ind with
 |tuple a e ihz=>
  rename_i k;have c:=e 0 (by simp) (by rw[← a];simp);have d:=e 1 (by simp) (by rw[← a];simp);simp only[List.getElem_toArray,List.getElem_cons_zero,List.getElem_cons_succ] at c d;refine⟨k[0]'(by rw[← a];simp),?_,c⟩;have i:=CH d rfl;congr 1;refine Array.ext (a.symm.trans rfl) fun b l j=>?_;have:b=0∨b=1:=by have:b<2:=j;omega
  rcases this with rfl|rfl
  ·rfl
  ·simpa using i
theorem Jh{S:Nat→Prop}{c:Nat}{co:Array Bool}{ats:Array Sg}{ty:Sg}{vs:List az}{own:Nat→Prop}{w:R3}{a0:T6}{l0:List (Nat×R2)}{s:ByteArray}{k e cn:Int}{b1 b2 cb n cap I K ck y J ce col:Nat}(r:oA s k e cn vs)(a3:s.size≤Sw)
 (x:Knows a0 47 l0) (am:l0.lookup 0=RX (.chan (RX c))) (C:a0.defers=[{target:=.builtin .close ats ty co,args:= #[.chan (RX c)]}]) (ae:Ga S own w) (ar:1≤w.heap.size)
 (o:Tx) (q:(fH TI)[19]? =RX o) (z t:Nat) (u:Array Bool) (a:T6) (E:b6 (fH TI) (fun i=>decide (i<19)) a0 (fill a0 (GK b1 b2 cn cb n cap I K ck y J ce col s k e)) u a) (G:19∈SY .any (fH TI) u) (bd:D1 u≤z+1) (p:∀ s'∈o.looksAt (fH TI),aN a s'=aN (fill a0 (GK b1 b2 cn cb n cap I K ck y J ce col s k e)) s'):
 oI (aa.of RY) RY S c own (vs.map az.agg) (Se ((baseD 116).at a [.inRegion (fH TI) (19 :: S5 .any (fH TI) z t (u.setIfInBounds 19 R7) []),.code (vE TI)]) [below RY]) w:=by
 have ad:=j5 (aa.of RY) RY S c (vs.map az.agg);cases(show RX _=RX o from q);have m:=x.fill (GK b1 b2 cn cb n cap I K ck y J ce col s k e) rfl;have U:a.eval (.tmp 19)= .string s:=(p 19 (by decide)).trans (m.slot 19 _ rfl);have V:a.eval (.tmp 25)= .int .i64 k:=(p 25 (by decide)).trans (m.slot 25 _ rfl);have W:a.eval (.tmp 30)= .int .i64 e:=(p 30 (by decide)).trans (m.slot 30 _ rfl);have X:a.eval (.tmp 32)= .int .i64 cn:=(p 32 (by decide)).trans (m.slot 32 _ rfl);refine Gf ad (by decide) q rfl rfl Tryz.func139 MG rfl ?_;have al:(#[Operand.tmp 19,.tmp 25,.tmp 30,.tmp 32].map a.eval)=#[.string s,.int .i64 k,.int .i64 e,.int .i64 cn]:=by simp only[List.map_toArray,U8,List.map_nil,U,V,W,X]
 rw[al];have a7:aQ (OG Ky) #[.string s,.int .i64 k,.int .i64 e,.int .i64 cn] #[.string s,.int .i64 k,.int .i64 e,.int .i64 cn]:=by
  refine⟨rfl,fun i Z bb=>?_⟩;have:i=0∨i=1∨i=2∨i=3:=by have:i<4:=Z;omega
  rcases this with rfl|rfl|rfl|rfl
  ·exact .string _
  ·exact .int _ _
  ·exact .int _ _
  ·exact .int _ _
 refine JE (R:=fun f g=>∃ L,Rf s k e cn L f g) dJ Oi Ea rfl (jg rfl rfl rfl).symm a7 (fun f g A=>?_) (os:=w.os) (fun ba=>(oM s k e cn _ a3).mono fun f g A=>⟨_,A⟩) ae ar fun bl v a9 bj Q g B H ab a4 N hrel=>?_
 ·obtain⟨L,_,⟨_,rfl⟩|⟨_,_,_,_,_,⟨_,_,rfl,_⟩|⟨rfl,_⟩⟩⟩:=A<;>exact⟨_,rfl⟩
 ·obtain⟨ba,R,L,bc,B⟩:=B;have a8:∃ d b,a9= .tuple #[d,.int .i64 b]∧((b≠0∧vs=[])∨(b=0∧JV Q g d vs)):=by
   rcases B with⟨P,j⟩|⟨bi,O,_,Y,_,⟨d,be,j,a5,D⟩|⟨j,D⟩⟩
   ·cases j;obtain⟨l,rfl,_⟩:=ue H;exact⟨l,_,rfl,.inl ⟨P,r.Pn P⟩⟩
   ·cases j;obtain⟨l,rfl,a6⟩:=ue H;have T:=r.QB O Y D;subst T;exact⟨l,_,rfl,.inr ⟨rfl,NS a6 ab a4 a5⟩⟩
   ·cases j;obtain⟨l,rfl,_⟩:=ue H;exact⟨l,_,rfl,.inl ⟨by decide,r.QA O D⟩⟩
  obtain⟨d,b,rfl,a1⟩:=a8;rw[Vg,q];have ao:=E.Gn (l2:=LQ d b) (JQ:=fun _=>R7) (n:=47) (v:=.tuple #[d,.int .i64 b]) G q x.size Cy rfl (fun _ _=>rfl) rfl M6 (fun R C=>by cases C;rfl);have aw:sG S Q g:=fun M h=>by
   rcases h with h|h
   ·exact(N.sh M h).1
   ·exact N.bd M h
  refine Dz x am rfl C aw (Ss r.le (by decide)) rfl a1 z t _ _ ao (fL E G KA (fun i F=>by
   have:i≤19:=by simpa using F
   show i<25;omega)) ?_
  obtain⟨_,_,F,a2,_⟩:=mem_ready G;have:=qd (by rw[E.size];exact F) a2;omega
end Cc
namespace Cc
open Go Go.Conc
open Ec (az)
theorem Rn(v0 v1 v2 a:R2)(m:Nat)(f:4≤m):Knows ⟨#[v0,v1,v2,a] ++ S8 (m - 4) Tq,[]⟩ m [(0,v0),(1,v1),(2,v2),(3,a)]:=by
 have b:∀ c v,(#[v0,v1,v2,a]:Array R2)[c]? =RX v→aN ⟨#[v0,v1,v2,a] ++ S8 (m - 4) Tq,[]⟩ c=v:=fun c v d=>by
  unfold aN;rw[SH,Array.getElem?_append_left (R9.1 d).1,d];rfl
 refine Knows.cons (Knows.cons (Knows.cons (Knows.cons (l:=[]) ⟨?_,fun s v e=>by simp at e⟩ (b 3 a rfl)) (b 2 v2 rfl)) (b 1 v1 rfl)) (b 0 v0 rfl);simp;omega
theorem DC{S:Nat→Prop}{c:Nat}{co:Array Bool}{ats:Array Sg}{ty:Sg}{vs:List az}{own:Nat→Prop}{w:R3}{a0:T6}{s:ByteArray}{k e cn:Int}{b1 b2 cb n cap i l ck h j ce col:Nat}{x:R2}{l0:List (Nat×R2)}(J:oA s k e cn vs)(F:s.size≤Sw)
 (o:Knows a0 47 ((0,.chan (RX c)) :: (3,.int .i64 (col:Int)) :: (5,.pointer (RX ⟨b1,0,RZ⟩)) :: (6,.pointer (RX ⟨b2,0,RZ⟩)) :: l0)) (B:a0.defers=[{target:=.builtin .close ats ty co,args:= #[.chan (RX c)]}]) (A:Ga S own w) (D:1≤w.heap.size)
 (h1:own b1) (r:own b2) (K:w.heap[b1]? =RX (.cells #[.int .i64 cn,.slice (RX ⟨cb,0,RZ⟩) n cap] 139 (0,0))) (L:w.heap[b2]? =RX (.cells #[.slice (RX ⟨i,0,RZ⟩) l ck,.slice (RX ⟨h,0,RZ⟩) j ce,x] 105 (0,0))) (g:sK S w s k e cb n i l h j col):
 oI (aa.of RY) RY S c own (vs.map az.agg) (Se ((baseD 116).at a0 [.code (.region 2 (fH TI) R7),.code (vE TI)]) [below RY]) w:=by
 have t:=j5 (aa.of RY) RY S c (vs.map az.agg);have p:∀ a v,(#[T7 .i64 cn,.slice (RX ⟨cb,0,RZ⟩) n cap]:Array R2)[a]? =RX v→w.cell? ⟨b1,a,RZ⟩=RX v:=fun a v m=>by unfold Sr;simp only[K];exact m
 have q:∀ a v,(#[Te (RX ⟨i,0,RZ⟩) l ck,.slice (RX ⟨h,0,RZ⟩) j ce,x]:Array R2)[a]? =RX v→w.cell? ⟨b2,a,RZ⟩=RX v:=fun a v m=>by unfold Sr;simp only[L];exact m
 refine pI (Ph:=fun d=>decide (d<19)) (l:=GK b1 b2 cn cb n cap i l ck h j ce col s k e) t qi ?_;refine jO (u:=19) t (by decide) o Cy ?_ ?_ ?_
 ·intro b d a H _ _ f;have O:d<19:=by simpa using H
  have:d=0∨d=1∨d=2∨d=3∨d=4∨d=5∨d=6∨d=7∨d=8∨d=9∨d=10∨d=11∨d=12∨d=13∨d=14∨d=15∨d=16∨d=17∨d=18:=by omega
  rcases this with rfl|rfl|rfl|rfl|rfl|rfl|rfl|rfl|rfl|rfl|rfl|rfl|rfl|rfl|rfl|rfl|rfl|rfl|rfl
  ·cases(show RX _=RX a from f);exact⟨_,rfl,.inl ⟨rfl,bR (cH rfl (b.of rfl) T2 rfl Tryz.sizeOf137 rfl)⟩⟩
  ·cases(show RX _=RX a from f);exact⟨_,rfl,.inl ⟨rfl,bK rfl (b.of rfl) Tryz.isAgg137 (.inr h1) (p 1 _ rfl)⟩⟩
  ·cases(show RX _=RX a from f);exact⟨_,rfl,.inl ⟨rfl,bR (bQ rfl (b.of rfl))⟩⟩
  ·cases(show RX _=RX a from f);exact⟨_,rfl,.inl ⟨rfl,bR (eK rfl (b.of rfl) (b.of rfl) Tryz.underlying137 Tryz.sizeOf143 g.n)⟩⟩
  ·cases(show RX _=RX a from f);exact⟨_,rfl,.inl ⟨rfl,bR (cH rfl (b.of rfl) Tryz.underlying143 rfl Tryz.sizeOf9 rfl)⟩⟩
  ·cases(show RX _=RX a from f);exact⟨_,rfl,.inl ⟨rfl,bK rfl (b.of rfl) Tryz.isAgg9 (.inl g.sc) g.cc⟩⟩
  ·cases(show RX _=RX a from f);exact⟨_,rfl,.inl ⟨rfl,bR (cH rfl (b.of rfl) Tryz.underlying105 rfl Tryz.sizeOf44 rfl)⟩⟩
  ·cases(show RX _=RX a from f);exact⟨_,rfl,.inl ⟨rfl,bK rfl (b.of rfl) Tryz.isAgg44 (.inr r) (q 0 _ rfl)⟩⟩
  ·cases(show RX _=RX a from f);exact⟨_,rfl,.inl ⟨rfl,bR (bQ rfl (b.of rfl))⟩⟩
  ·cases(show RX _=RX a from f);exact⟨_,rfl,.inl ⟨rfl,bR (eK rfl (b.of rfl) (b.of rfl) Tryz.underlying44 Tryz.sizeOf63 g.nk)⟩⟩
  ·cases(show RX _=RX a from f);exact⟨_,rfl,.inl ⟨rfl,bR (cH rfl (b.of rfl) Tryz.underlying63 rfl VD rfl)⟩⟩
  ·cases(show RX _=RX a from f);exact⟨_,rfl,.inl ⟨rfl,bK rfl (b.of rfl) V2 (.inl g.sk) g.ck⟩⟩
  ·cases(show RX _=RX a from f);exact⟨_,rfl,.inl ⟨rfl,bR (cH rfl (b.of rfl) Tryz.underlying105 rfl Tryz.sizeOf22 rfl)⟩⟩
  ·cases(show RX _=RX a from f);exact⟨_,rfl,.inl ⟨rfl,bK rfl (b.of rfl) Tryz.isAgg22 (.inr r) (q 1 _ rfl)⟩⟩
  ·cases(show RX _=RX a from f);exact⟨_,rfl,.inl ⟨rfl,bR (bQ rfl (b.of rfl))⟩⟩
  ·cases(show RX _=RX a from f);exact⟨_,rfl,.inl ⟨rfl,bR (eK rfl (b.of rfl) (b.of rfl) Tryz.underlying22 VD g.ne)⟩⟩
  ·cases(show RX _=RX a from f);exact⟨_,rfl,.inl ⟨rfl,bK rfl (b.of rfl) V2 (.inl g.se) g.ce⟩⟩
  ·cases(show RX _=RX a from f);exact⟨_,rfl,.inl ⟨rfl,bR (cH rfl (b.of rfl) T2 rfl VD rfl)⟩⟩
  ·cases(show RX _=RX a from f);exact⟨_,rfl,.inl ⟨rfl,bK rfl (b.of rfl) V2 (.inr h1) (p 0 _ rfl)⟩⟩
 ·intro a f y N M u C I G E _;exact Jh J F o rfl B A D a f y N M u C I G E
 ·intro z;exact absurd (z 24 (by decide)) (by decide)
theorem LR{S:Nat→Prop}{c:Nat}{vs:List az}{w:R3}{s:ByteArray}{k e cn:Int}{cb n cap h j ck g i ce col:Nat}{x:R2}(G:oA s k e cn vs)(E:s.size≤Sw)(p:Ga S (fun _=>False) w)(D:sK S w s k e cb n h j g i col):
 oI (aa.of RY) RY S c (fun _=>False) (vs.map az.agg) (born RY (dcall 116 #[.chan (RX c),oh cn cb n cap,ou h j ck g i ce x,.int .i64 (col:Int)])) w:=by
 have a:=j5 (aa.of RY) RY S c (vs.map az.agg);refine MA Tryz.func116 Qf rfl ?_;have b:=Rn (.chan (RX c)) (oh cn cb n cap) (ou h j ck g i ce x) (.int .i64 (col:Int)) 47 (by decide);have q:sG S (fun _=>False) w:=fun d f=>f.elim (fun y=>(p.sh d y).1) VP;refine aH a ?_;refine aU a [0,1] rfl ?_;refine kV a q (by decide) rfl rfl (.cells #[.int .i64 cn,.slice (RX ⟨cb,0,RZ⟩) n cap] 139) trivial (fun n=>.pointer (RX ⟨n,0,RZ⟩)) (tI (v:=oh cn cb n cap) rfl (b.of rfl)) fun l J B H F z=>?_;replace b:=b.put (d:=5) (by decide) (.pointer (RX ⟨l,0,RZ⟩));have r:=q.new B H;refine kV a r (by decide) rfl rfl (.cells #[.slice (RX ⟨h,0,RZ⟩) j ck,.slice (RX ⟨g,0,RZ⟩) i ce,x] 105) trivial (fun n=>.pointer (RX ⟨n,0,RZ⟩)) (tI (v:=ou h j ck g i ce x) rfl (b.of rfl)) fun o K C I u A=>?_;replace b:=b.put (d:=6) (by decide) (.pointer (RX ⟨o,0,RZ⟩));have t:=r.new C I;refine aj a ?_;refine aH a ?_;refine aU a [0,1] rfl ?_;refine bV a b fun b=>?_;refine MS a (by decide) rfl rfl rfl (b.of rfl) fun v=>?_;refine aj a ?_;refine aH a ?_;refine DC (b1:=l) (b2:=o) (cap:=cap) (ck:=ck) (ce:=ce) (l0:=[]) (col:=col) (x:=x) (ats:= #[212]) (ty:=0) (co:=v) G E ?_ (by simp only[put_defers];rfl) ?_ (by omega) (.inl (.inr rfl)) (.inr rfl) ?_ A (D.rel fun d f=>?_)
 ·exact(Knows.defer b _ Tq).four rfl rfl rfl rfl
 ·refine⟨fun d f=>⟨t d (.inl f),fun m=>?_⟩,fun d f=>t d (.inr f)⟩;have:=(p.sh d f).1;rcases m with(m|rfl)|rfl
  ·exact m
  ·omega
  ·omega
 ·rw[u.at_ l (.inr (.inr rfl))];exact z
 ·rw[u.at_ d (.inl f),F.at_ d (.inl f)]
end Cc
namespace Cc
open Go Go.Conc
open Ec (az aC)
def vR:∃ i,RY.info? 59=RX i∧i.zero=RX (.agg #[.bool R6,.int .i64 0,.string ⟨#[]⟩])∧i.size=3∧i.bytes=32:=⟨Tryz.t59,by kernel_rfl,rfl,rfl,rfl⟩
def Ee(w:R3):(T9 59).events RY w #[]=#[]:=by
 obtain⟨e,b,d,_⟩:=vR;simp[T9,UX,b,d]
def ew(l:List az)(x:az):aC (l ++ [x])=aC l ++ [.bool x.null,.int .i64 x.n,.string x.s]:=by simp[aC]
structure Row(w:R3)(g N:Nat)(pre:List az):Prop where
 ex:∃ cur,w.heap[g]? =RX (.cells cur 59 (0,0))∧cur.size=N*3∧cur.toList.take (pre.length*3)=aC pre
 le:pre.length≤N
def Row.same{w w':R3}{g N:Nat}{pre:List az}(h:Row w g N pre)(f:w'.heap[g]? =w.heap[g]?):Row w' g N pre:=by
 obtain⟨b,d,e⟩:=h.ex;exact⟨⟨b,f.trans d,e⟩,h.le⟩
def cK (fn:UB):U7:=match fn.body with
 |some (.seq _ (.seq _ (.seq (.seq _ (.block _ (.loop c))) _)))=>c
 |_=>.skip
def fW (fn:UB):U7:=match fn.body with
 |some (.seq _ (.seq _ (.seq _ c)))=>c
 |_=>.skip
structure AD(S O:Nat→Prop)(c g N:Nat)(pre:List az)(w:R3)(a:T6):Prop where
 kn:Knows a 18 [(9,.chan (RX c)),(5,.slice (RX ⟨g,0,RZ⟩) pre.length N)]
 df:a.defers=[]
 inr:sG S O w
 own:O g
 row:Row w g N pre
section
variable {Post:R2→R3→Prop}{S O:Nat→Prop}{μ:Nat→Option (List R2)}{c g N:Nat}{pre:List az}{w:R3}{a:T6}{cs:List Sn}{b0:Sn}{a0:T6}{k0:List UC}{Bb:Array Tx}{i0:Nat}{Ad:List Nat}{o0:Tx}
theorem Kl(h:AD S O c g N pre w a)(k:μ c=RX [])(j:Bb[i0]? =RX o0)
 (i:jz (aa.of RY) RY Post S O (fp μ c RZ) (Se (b0.at (a0.put o0.dst (.slice (RX ⟨g,0,RZ⟩) pre.length N)) (.inRegion Bb Ad :: k0)) cs) w):
 jz (aa.of RY) RY Post S O μ (Se ((base 117).at a [.code (cK Vp),.inLoop (cK Vp),.inBlock 0,.code (fW Vp)]) (b0.at a0 (.inRegion Bb (i0 :: Ad) :: k0) :: cs)) w:=by
 obtain⟨d,f,m,l,n⟩:=h;have b:=dn (aa.of RY) RY Post S μ;refine aH b ?_;refine aU b [0,1] rfl ?_;refine Pf (by decide) rfl rfl rfl Tryz.underlying215 Tryz.zeroValue59 Ee (d.of rfl) k ?_;replace d:=d.put (d:=10) (by decide) (.tuple #[.agg #[.bool R6,.int .i64 0,.string ⟨#[]⟩],.bool R6]);have b:=dn (aa.of RY) RY Post S (fp μ c RZ);refine oB b d fun d=>?_;refine aj b ?_;refine aH b ?_;refine cJ b R6 (d.of rfl) ?_;refine sX b (k':=[.code (fW Vp)]) rfl ?_;refine aH b ?_;refine aU b [0,1] rfl ?_;refine bV b d fun d=>?_;refine fE b d fun d=>?_;refine aj b ?_;refine om b ?_;have e:=jn (P:=RY) Tryz.results117 (d.slot 4 _ rfl);exact MU b rfl (by simp only[put_defers];exact f) Tryz.func117 e.1 e.2 j i
theorem EC{x:az}{r:List az}(h:AD S O c g N pre w a)(ar:μ c=RX ((x :: r).map az.agg))(M:pre.length<N)(P:N≤1000000)
 (Z:∀ o w' a',AD S o c g N (pre ++ [x]) w' a'→(∀ b,O b→o b)→(∀ b,o b→O b∨w.heap.size≤b)→(∀ b,S b∨O b→b≠g→w'.heap[b]? =w.heap[b]?)→w.heap.size≤w'.heap.size→w'.tape=w.tape→w'.os=w.os→w'.output=w.output→jz (aa.of RY) RY Post S o (fp μ c (RX (r.map az.agg))) (Se ((base 117).at a' [.code (cK Vp),.inLoop (cK Vp),.inBlock 0,.code (fW Vp)]) cs) w'):
 jz (aa.of RY) RY Post S O μ (Se ((base 117).at a [.code (cK Vp),.inLoop (cK Vp),.inBlock 0,.code (fW Vp)]) cs) w:=by
 obtain⟨d,W,s,j,ad⟩:=h;obtain⟨⟨p,V,q,am⟩,a3⟩:=ad;obtain⟨H,E,G,n,U⟩:=vR;have e:=dn (aa.of RY) RY Post S μ;refine aH e ?_;refine aU e [0,1] rfl ?_;refine Pe (v:=x.agg) (by decide) rfl rfl rfl Tryz.underlying215 Tryz.zeroValue59 Ee (d.of rfl) ar ?_;replace d:=d.put (d:=10) (by decide) (.tuple #[.agg #[.bool x.null,.int .i64 x.n,.string x.s],.bool R7]);have e:=dn (aa.of RY) RY Post S (fp μ c (RX (r.map az.agg)));refine oB e d fun d=>?_;refine aj e ?_;refine aH e ?_;refine cJ e R7 (d.of rfl) ?_;refine gu e ?_;refine fF e ?_;refine aH e ?_;refine aU e [0,1,2] rfl ?_;refine oB e d fun d=>?_;refine kV e s (by decide) rfl rfl (.cells #[.bool R6,.int .i64 0,.string ⟨#[]⟩] 59) trivial (fun y=>.pointer (RX ⟨y,0,RZ⟩)) (rZ rfl Tryz.zeroValue59) fun I a6 F ae hrel Q=>?_;replace d:=d.put (d:=6) (by decide) (.pointer (RX ⟨I,0,RZ⟩));have B:=s.new F ae;refine qZ e B (by decide) rfl rfl (.inr rfl) (.cells #[.bool x.null,.int .i64 x.n,.string x.s] 59) trivial (kq (n:=I) (off:=0) (v:=.agg #[UD x.null,.int .i64 x.n,.string x.s]) rfl (d.of rfl) (d.of rfl) mj (fun c m=>by simp[Uw] at m;rcases m with rfl|rfl|rfl<;>rfl) (Or.inr (Or.inr rfl)) Q (R8 3)) fun aw i=>?_;replace d:=d.none Tq;have C:=B.set i;refine aj e ?_;refine aU e [0,1,2,3,4] rfl ?_;refine bV e d fun d=>?_;refine nE e (by decide) rfl rfl _ (eA (cs:=[UD x.null,.int .i64 x.n,.string x.s]) rfl (d.of rfl) Tryz.underlying59 rfl mj (.inr (.inr rfl)) (fun t v ao=>by
  unfold Sr;rw[i.set];simpa [Uw] using ao)) ?_
 replace d:=d.put (d:=14) (by decide) (.agg #[UD x.null,.int .i64 x.n,.string x.s]);refine kV e C (by decide) rfl rfl (.cells #[.bool x.null,.int .i64 x.n,.string x.s] 59) trivial (fun y=>.slice (RX ⟨y,0,RZ⟩) 1 1) (IG (v0:=.bool x.null) (v1:=.int .i64 x.n) (v2:=.string x.s) rfl (d.of rfl) Vf E G n) fun z A ab al l R=>?_;replace d:=d.put (d:=15) (by decide) (.slice (RX ⟨z,0,RZ⟩) 1 1);have D:=C.new ab al;have a2:=s g (.inr j);have K:aw.heap[g]? =RX (.cells p 59 (0,0)):=by
  rw[i.at_ g (.inr (.inl j)) (by omega),hrel.at_ g (.inr j)];exact V
 have L:A.heap[g]? =RX (.cells p 59 (0,0)):=(l.at_ g (.inr (.inl j))).trans K;refine O1 e D (n:=g) (by decide) rfl rfl (.inl (.inl j)) (.cells (p.toList.take (pre.length*H.size) ++ [UD x.null,.int .i64 x.n,.string x.s] ++ p.toList.drop (pre.length*H.size+3)).toArray 59 (0,0)) trivial (.slice (RX ⟨g,0,RZ⟩) (pre.length+1) N) (IF (news:=[UD x.null,.int .i64 x.n,.string x.s]) rfl (d.of rfl) (d.of rfl) Vf E G L (.inr (.inl (.inl j))) (.inr (.inr rfl)) (by rw[n];rfl) (fun t a5 Y=>by
  have J:A.cell? (V8 ⟨z,0,RZ⟩ t)=A.cell? ⟨z,0+t,RZ⟩:=by rw[Vl]
  rw[J];unfold Sr;rw[R,SZ];simpa using Y) (fun t=>by rw[Vl]) (fun c m=>by simp at m;rcases m with rfl|rfl|rfl<;>rfl) (by omega) (by rw[q,n]) P (by rw[U];decide)) fun a1 k=>?_
 replace d:=d.put (d:=16) (by decide) (.slice (RX ⟨g,0,RZ⟩) (pre.length+1) N);have X:=D.set k;refine fE e d fun d=>?_;refine aj e ?_;refine gL e ?_;refine j3 e ?_;have u:(pre ++ [x]).length=pre.length+1:=by simp
 refine Z _ a1 _ ⟨?_,by simp only[put_defers];exact W,X,.inl (.inl j),⟨⟨_,k.set,?_,?_⟩,by rw[u];exact M⟩⟩ (fun b f=>.inl (.inl f)) (fun b f=>?_) (fun b f T=>?_) ?_ ?_ ?_ ?_
 ·rw[u];exact(d.nil.cons (d.slot 5 _ rfl)).cons (d.slot 9 _ rfl)
 ·rw[n] at*;simp[q];omega
 ·rw[n,u,ew,← am,Nat.add_mul];rw[List.take_append_of_le_length (by simp[q];omega)];rw[Tj (by simp[q];omega)]
 ·rcases f with(f|rfl)|rfl
  ·exact .inl f
  ·exact .inr F
  ·have:=i.size;have:=hrel.size;exact .inr (by omega)
 ·have a4:=s b f;rw[k.at_ b (f.imp (fun h=>h) (fun h=>.inl (.inl h))) T,l.at_ b (f.imp (fun h=>h) (fun h=>.inl h)),i.at_ b (f.imp (fun h=>h) (fun h=>.inl h)) (by omega),hrel.at_ b f]
 ·have:=hrel.size;have:=i.size;have:=l.size;have:=k.size;omega
 ·rw[k.tape,l.tape,i.tape,hrel.tape]
 ·rw[k.os,l.os,i.os,hrel.os]
 ·rw[k.output,l.output,i.output,hrel.output]
def JA(μ:Nat→Option (List R2))(c:Nat)(x y:Option (List R2)):fp (fp μ c x) c y=fp μ c y:=by
 funext b;unfold fp
 split<;>rfl
structure OO(S O O':Nat→Prop)(g:Nat)(w w':R3):Prop where
 sub:∀ b,O b→O' b
 new:∀ b,O' b→O b∨w.heap.size≤b
 at_:∀ b,S b∨O b→b≠g→w'.heap[b]? =w.heap[b]?
 size:w.heap.size≤w'.heap.size
 tape:w'.tape=w.tape
 os:w'.os=w.os
 output:w'.output=w.output
theorem Hv(z:Bb[i0]? =RX o0)(v:N≤1000000):∀ (r:List az) (pre:List az) (O:Nat→Prop) (w:R3) (a:T6) (μ:Nat→Option (List R2)),AD S O c g N pre w a→μ c=RX (r.map az.agg)→pre.length+r.length≤N→
 (∀ h w',Row w' g N (pre ++ r)→h g→sG S h w'→OO S O h g w w'→jz (aa.of RY) RY Post S h (fp μ c RZ) (Se (b0.at (a0.put o0.dst (.slice (RX ⟨g,0,RZ⟩) (pre ++ r).length N)) (.inRegion Bb Ad :: k0)) cs) w')→
 jz (aa.of RY) RY Post S O μ (Se ((base 117).at a [.code (cK Vp),.inLoop (cK Vp),.inBlock 0,.code (fW Vp)]) (b0.at a0 (.inRegion Bb (i0 :: Ad) :: k0) :: cs)) w:=by
 intro r
 induction r with
 |nil=>
  intro pre O w a μ b j l i;refine Kl b j z ?_;have:=i O w (by rw[Uy];exact b.row) b.own b.inr ⟨fun _ b=>b,fun _ b=>.inl b,fun _ _ _=>rfl,R8 _,rfl,rfl,rfl⟩;rw[Uy] at this;exact this
 |cons k r A=>
  intro pre O w a μ b j l i;simp only[T0] at l;refine EC b j (by omega) v fun h w' s u o B C p D E F=>?_;refine A (pre ++ [k]) h w' s _ u (by unfold fp;simp) (by simp;omega) fun q G n x y f=>?_;rw[JA];have t:pre ++ [k] ++ r=pre ++ k :: r:=by simp
  rw[t] at n ⊢;exact i q G n x y ⟨fun d e=>f.sub d (o d e),fun d e=>(f.new d e).elim (B d) (fun e=>.inr (Ss p e)),fun d e m=>(f.at_ d (e.imp (fun b=>b) (o d)) m).trans (C d e m),Ss p f.size,f.tape.trans D,f.os.trans E,f.output.trans F⟩
def Rm(v0 v1:R2)(m:Nat)(h:2≤m):Knows ⟨#[v0,v1] ++ S8 (m - 2) Tq,[]⟩ m [(0,v0),(1,v1)]:=by
 have e:∀ b v,(#[v0,v1]:Array R2)[b]? =RX v→aN ⟨#[v0,v1] ++ S8 (m - 2) Tq,[]⟩ b=v:=fun b v d=>by
  unfold aN;rw[SH,Array.getElem?_append_left (R9.1 d).1,d];rfl
 refine Knows.cons (Knows.cons (l:=[]) ⟨?_,fun s v f=>by simp at f⟩ (e 1 v1 rfl)) (e 0 v0 rfl);simp;omega
theorem Kk{r:List az}(v:Bb[i0]? =RX o0)(k:sG S O w)(C:μ c=RX (r.map az.agg))(x:r.length≤N)(m:N≤1000000)
 (u:∀ j w' g,w.heap.size≤g→Row w' g N r→j g→JS S O j w w'→jz (aa.of RY) RY Post S j (fp μ c RZ) (Se (b0.at (a0.put o0.dst (.slice (RX ⟨g,0,RZ⟩) r.length N)) (.inRegion Bb Ad :: k0)) cs) w'):
 jz (aa.of RY) RY Post S O μ (Se (SW RY 117 #[.chan (RX c),.int .i64 (N:Int)] .normal) (b0.at a0 (.inRegion Bb (i0 :: Ad) :: k0) :: cs)) w:=by
 have b:=dn (aa.of RY) RY Post S μ;obtain⟨D,s,B,z,o⟩:=vR;rw[enter_at _ Tryz.func117 rfl];have d:=Rm (.chan (RX c)) (.int .i64 (N:Int)) 18 (by decide);refine aH b ?_;refine aU b [0] rfl ?_;refine m8 b d (.slice RZ 0 0) fun d=>?_;refine aj b ?_;refine aH b ?_;refine aU b [0,1,2] rfl ?_;refine bV b d fun d=>?_;refine kV b k (by decide) rfl rfl (.cells (madeCells (Value.agg #[.bool R6,.int .i64 0,.string ⟨#[]⟩]).cells (N*D.size)) 59) trivial (fun E=>.slice (RX ⟨E,0,RZ⟩) 0 N) (Ba (L:=0) rfl rfl (d.of rfl) Vf s B (SK _) (by rw[o];omega) (by omega)) fun g F l A hrel n=>?_;replace d:=d.put (d:=8) (by decide) (.slice (RX ⟨g,0,RZ⟩) 0 N);refine fE b d fun d=>?_;refine aj b ?_;refine aH b ?_;refine aH b ?_;refine aU b [0] rfl ?_;refine bV b d fun d=>?_;refine aj b ?_;refine fF b ?_;refine sY b ?_;have q:=k.new l A;refine Hv (g:=g) (N:=N) v m r [] _ F _ μ ⟨(d.nil.cons (d.slot 5 _ rfl)).cons (d.slot 9 _ rfl),by simp only[put_defers],q,.inr rfl,⟨⟨_,n,by rw[size_madeCells,z],rfl⟩,SK _⟩⟩ C (by simpa using x) fun j w' y p t i=>?_;refine u j w' g l y p ⟨fun e f=>i.sub e (.inl f),fun e f=>?_,⟨fun e f=>?_,?_,i.tape.trans hrel.tape,i.os.trans hrel.os,i.output.trans hrel.output⟩,t⟩
 ·rcases i.new e f with(h|rfl)|h
  ·exact .inl h
  ·exact .inr l
  ·exact .inr (Ss hrel.size h)
 ·have:=k e f;rw[i.at_ e (f.imp (fun h=>h) (fun h=>.inl h)) (by omega),hrel.at_ e f]
 ·exact Ss hrel.size i.size
end
end Cc
namespace Cc
open Go Go.Conc
open Ec (az aC)
open Go.RowKit (Below)
structure Eh(S:Nat→Prop)(w0:R3)(s:Nat→ByteArray)(k e:Nat→Int)(N cb n kb nk eb ne wb:Nat)(ws:List Bool)(V:Nat→List az):Prop where
 sz:∀ b,S b→b<w0.heap.size
 sin:∀ j,ws[j]? =RX R7→sK S w0 (s j) (k j) (e j) cb n kb nk eb ne j∧(s j).size≤Sw∧oA (s j) (k j) (e j) (N:Int) (V j)
 wl:wb<w0.heap.size
 wc:∀ j y,ws[j]? =RX y→w0.cell? ⟨wb,0+j*1,RZ⟩=RX (.bool y)
 nn:N≤1000000
 mm:ws.length≤1000000
 pos:1≤w0.heap.size
def dW (ws:List Bool)(ch:Nat→Nat)(i:Nat):List R2:=(SS ws.length).map fun b=>if b<i∧ws[b]? =RX R7 then .chan (RX (ch b)) else .chan RZ
def dj(ws:List Bool)(ch:Nat→Nat)(i:Nat):(dW ws ch i).length=ws.length:=by simp[dW]
def lP{ws:List Bool}{ch:Nat→Nat}{i j:Nat}(b:j<ws.length):(dW ws ch i)[j]? =RX (if j<i∧ws[j]? =RX R7 then .chan (RX (ch j)) else .chan RZ):=by
 simp[dW,b]
structure ql(S O:Nat→Prop)(w0 w:R3)(N cb n cap kb nk ck eb ne ce:Nat)(x:R2)(bb fb:Nat):Prop where
 Ge:Below w0.heap.size w0 w
 low:∀ b,b<w0.heap.size→S b∨O b
 inr:sG S O w
 qp:∀ b,S b→¬ O b
 ob:O bb
 of:O fb
 lb:w0.heap.size≤bb
 lf:w0.heap.size≤fb
 hb:w.heap[bb]? =RX (.cells #[.int .i64 (N:Int),.slice (RX ⟨cb,0,RZ⟩) n cap] 139 (0,0))
 hf:w.heap[fb]? =RX (.cells #[.slice (RX ⟨kb,0,RZ⟩) nk ck,.slice (RX ⟨eb,0,RZ⟩) ne ce,x] 105 (0,0))
structure Qj(O:Nat→Prop)(w:R3)(ws:List Bool)(V:Nat→List az)(ch:Nat→Nat)(p q:Nat)(μ:Nat→Option (List R2)):Prop where
 mu:∀ j,p≤j→j<q→ws[j]? =RX R7→μ (ch j)=RX ((V j).map az.agg)
 no:∀ c,μ c≠RZ→∃ j,p≤j∧j<q∧ws[j]? =RX R7∧ch j=c
 inj:∀ j j',j<q→j'<q→ws[j]? =RX R7→ws[j']? =RX R7→ch j=ch j'→j=j'
 lt:∀ j,j<q→ws[j]? =RX R7→ch j<w.heap.size
section
variable {S O:Nat→Prop}{w0 w w':R3}{s:Nat→ByteArray}{k e:Nat→Int}{N cb n cap kb nk ck eb ne ce wb gW:Nat}{x:R2}{ws:List Bool}{V:Nat→List az}{ch:Nat→Nat}{bb fb ct i:Nat}{μ:Nat→Option (List R2)}{a:T6}{Post:R2→R3→Prop}{cs:List Sn}
def ql.rel(h:ql S O w0 w N cb n cap kb nk ck eb ne ce x bb fb){d:Nat→Prop}(g:∀ b,S b∨O b→w0.heap.size≤b→(b=bb∨b=fb)→w'.heap[b]? =w.heap[b]?)(m:∀ b,b<w0.heap.size→w'.heap[b]? =w.heap[b]?)(q:w.heap.size≤w'.heap.size)(r:w'.tape=w.tape)(o:w'.os=w.os)(p:w'.output=w.output)(l:sG S d w')(f:∀ b,O b→b<w0.heap.size∨b=bb∨b=fb→d b)(j:∀ b,S b→¬ d b):ql S d w0 w' N cb n cap kb nk ck eb ne ce x bb fb:=
 ⟨⟨o.trans h.Ge.os,r.trans h.Ge.tape,p.trans h.Ge.output,Ss h.Ge.size q,fun b c=>(m b c).trans (h.Ge.block b c)⟩,fun b c=>(h.low b c).imp (fun h=>h) (fun h=>f b h (.inl c)),l,j,f bb h.ob (.inr (.inl rfl)),f fb h.of (.inr (.inr rfl)),h.lb,h.lf,(g bb (.inr h.ob) h.lb (.inl rfl)).trans h.hb,(g fb (.inr h.of) h.lf (.inr rfl)).trans h.hf⟩
def ql.new(h:ql S O w0 w N cb n cap kb nk ck eb ne ce x bb fb){f:Nat}(g:w.heap.size≤f)(l:w'.heap.size=f+1)(d:RelB (fun b=>S b∨O b) w w'):ql S (fun b=>O b∨b=f) w0 w' N cb n cap kb nk ck eb ne ce x bb fb:=
 h.rel (fun b c _ _=>d.at_ b c) (fun b c=>d.at_ b (h.low b c)) d.size d.tape d.os d.output (h.inr.new g l) (fun b c _=>.inl c) (fun b c j=>j.elim (h.qp b c) (fun e=>by have:=h.inr b (.inl c);omega))
def ql.set(h:ql S O w0 w N cb n cap kb nk ck eb ne ce x bb fb){f:Nat}{l:U9}(b:yP S O f l w w')(h1:f≠bb)(g:f≠fb)(m:w0.heap.size≤f):ql S O w0 w' N cb n cap kb nk ck eb ne ce x bb fb:=
 h.rel (fun c d _ j=>b.at_ c d (by rcases j with rfl|rfl;exact fun e=>h1 e.symm;exact fun e=>g e.symm)) (fun c d=>b.at_ c (h.low c d) (by omega)) b.size b.tape b.os b.output (h.inr.set b) (fun c d _=>d) h.qp
end
def zR (fn:UB):Array Tx:=match cK fn with
 | .seq _ (.seq _ (.seq (.block _ (.seq _ (.seq _ (.cond _ (.seq _ (.region _ b _)) _)))) _))=>b
 |_=> #[]
def Ri (ct fb bb i c N cb n cap kb nk ck eb ne ce m:Nat)(x:R2):List (Nat×R2):=
 [(29,.slice (RX ⟨ct,0,RZ⟩) m m),(30,.int .i64 (i:Int)),(31,.pointer (RX ⟨ct,0+i*1,RZ⟩)),(32,.chan (RX c)),(33,oh (N:Int) cb n cap),(34,ou kb nk ck eb ne ce x),(35,.int .i64 (i:Int))]
def Rh:List Nat:=[29,30,31,32,33,34,35]
def Gm:fJ (zR S0) (fun i=>decide (i<7)) 7 73 Rh=R7:=by kernel_rfl
def Nf:((SS (zR S0).size).all fun i=> !(fun i=>decide (i≤7)) i || i == 7 || (under (zR S0) (zR S0).size (match (zR S0)[7]? with
 |some o=>(o.after.toList.filter fun e=>Tn .any e).map (·.on)
 |none=>[])).contains i)=R7:=by kernel_rfl
def m6:(RY.info? 139).map (·.size)=RX 2:=by kernel_rfl
def zQ:(RY.info? 105).map (·.size)=RX 3:=by kernel_rfl
def Hs:(RY.info? 193).map (·.size)=RX 1:=by kernel_rfl
section
variable {S O:Nat→Prop}{w0 w w':R3}{s:Nat→ByteArray}{k e:Nat→Int}{N cb n cap kb nk ck eb ne ce wb gW:Nat}{x:R2}{ws:List Bool}{V:Nat→List az}{ch:Nat→Nat}{bb fb ct i:Nat}{μ:Nat→Option (List R2)}{a:T6}{Post:R2→R3→Prop}{cs:List Sn}
structure G2(S O:Nat→Prop)(w0 w:R3)(N cb n cap kb nk ck eb ne ce:Nat)(x:R2)(wb gW:Nat)(ws:List Bool)(V:Nat→List az)(ch:Nat→Nat)(bb fb ct i:Nat)(μ:Nat→Option (List R2))(a:T6):Prop where
 kn:Knows a 73 [(16,.int .i64 (i:Int)),(15,.int .i64 (ws.length:Int)),(8,.slice (RX ⟨ct,0,RZ⟩) ws.length ws.length),(4,.pointer (RX ⟨fb,0,RZ⟩)),(3,.pointer (RX ⟨bb,0,RZ⟩)),(2,.slice (RX ⟨wb,0,RZ⟩) ws.length gW)]
 df:a.defers=[]
 own:ql S O w0 w N cb n cap kb nk ck eb ne ce x bb fb
 oc:O ct
 lc:w0.heap.size≤ct
 cb:ct≠bb
 cf:ct≠fb
 hc:w.heap[ct]? =RX (.cells (dW ws ch i).toArray 193 (0,0))
 RA:Qj O w ws V ch 0 i μ
def AQ(h:ws[i]? ≠RX R7):dW ws ch (i+1)=dW ws ch i:=by
 unfold dW;refine List.map_congr_left fun b f=>?_;by_cases e:b=i
 ·subst e;simp[h]
 ·have:(b<i+1∧ws[b]? =RX R7)↔(b<i∧ws[b]? =RX R7):=by
   constructor
   ·rintro⟨d,c⟩;exact⟨by omega,c⟩
   ·rintro⟨d,c⟩;exact⟨by omega,c⟩
  simp only[this]
theorem Co(h:ws[i]? =RX R7)(c:Nat):(dW ws ch i).take i ++ [Value.chan (RX c)] ++ (dW ws ch i).drop (i+1)=dW ws (fun j=>if j=i then c else ch j) (i+1):=by
 have m:i<ws.length:=(SA.1 h).1;apply List.ext_getElem?;intro j;rcases TF j ws.length with b|b
 ·rw[lP b];rcases Nat.lt_trichotomy j i with d|d|d
  ·rw[SG,Ty (by simp[dj];omega),T3,if_pos d,lP b];have e:(j<i+1∧ws[j]? =RX R7)↔(j<i∧ws[j]? =RX R7):=⟨fun h=>⟨d,h.2⟩,fun h=>⟨by omega,h.2⟩⟩;have f:¬ j=i:=by omega
   simp only[e,f,if_false]
  ·subst d;rw[SG,To (by simp[dj];omega)];simp[dj,h,Nat.min_eq_left (Nat.le_of_lt b)]
  ·rw[To (by simp[dj];omega)];have g:i+1+(j - (min i ws.length+1))=j:=by omega
   simp only[Sc,TO,dj,T0,List.length_nil,List.getElem?_drop,g,lP b];have f:¬ (j<i):=by omega
   have l:¬ (j<i+1):=by omega
   simp only[f,l,false_and,if_false]
 ·rw[List.getElem?_eq_none (by simp[dj];omega),List.getElem?_eq_none (by rw[dj];exact b)]
theorem go_skip(j:Eh S w0 s k e N cb n kb nk eb ne wb ws V)(h:G2 S O w0 w N cb n cap kb nk ck eb ne ce x wb gW ws V ch bb fb ct i μ a)(o:ws[i]? =RX R6)
 (G:∀ a',G2 S O w0 w N cb n cap kb nk ck eb ne ce x wb gW ws V ch bb fb ct (i+1) μ a'→jz (aa.of RY) RY Post S O μ (Se ((base 78).at a' [.code (cK S0),.inLoop (cK S0),.inBlock 0,.code (fW S0)]) cs) w):
 jz (aa.of RY) RY Post S O μ (Se ((base 78).at a [.code (cK S0),.inLoop (cK S0),.inBlock 0,.code (fW S0)]) cs) w:=by
 obtain⟨b,D,p,J,H,B,C,F,l⟩:=h;have c:=dn (aa.of RY) RY Post S μ;have I:i<ws.length:=(SA.1 o).1;have L:=j.mm;refine aH c ?_;refine aU c [0] rfl ?_;refine cP c b rfl (.bool R7) (iH rfl (b.of rfl) (b.of rfl) (by simp;omega)) fun b=>?_;refine aj c ?_;refine aH c ?_;refine cJ c R7 (b.of rfl) ?_;refine gu c ?_;refine aH c ?_;refine fF c ?_;refine aH c ?_;refine aU c [0,1] rfl ?_;refine bV c b fun b=>?_;refine fE c b fun b=>?_;refine aj c ?_;refine aH c ?_;refine aU c [0,1,2,3] rfl ?_;refine bV c b fun b=>?_;refine bV c b fun b=>?_;refine cP c b rfl (.pointer (RX ⟨wb,0+i*1,RZ⟩)) (eK rfl (b.of rfl) (b.of rfl) Uv Tryz.sizeOf4 I) fun b=>?_;refine qo c b rfl (.bool R6) (bK rfl (b.of rfl) Tryz.isAgg4 (p.low wb j.wl) ((p.Ge.cell (p:=⟨wb,0+i*1,RZ⟩) j.wl).trans (j.wc i _ o))) fun b=>?_;refine aj c ?_;refine cJ c R6 (b.of rfl) ?_;refine gu c ?_;refine gL c ?_;refine aU c [0,1] rfl ?_;refine cP c b rfl (.int .i64 ((i+1:Nat):Int)) (mV (j:=1) rfl (b.of rfl) rfl (by omega)) fun b=>?_;refine bV c b fun b=>?_;refine aj c ?_;refine j3 c ?_;have g:ws[i]? ≠RX R7:=by rw[o];simp
 refine G _ ⟨(((((b.nil.cons (b.slot 2 _ rfl)).cons (b.slot 3 _ rfl)).cons (b.slot 4 _ rfl)).cons (b.slot 8 _ rfl)).cons (b.slot 15 _ rfl)).cons (b.slot 16 _ rfl),by simp only[put_defers];exact D,p,J,H,B,C,by rw[AQ g];exact F,⟨fun d v q f=>?_,fun u A=>?_,fun d t q K f r E=>?_,fun d q f=>?_⟩⟩
 ·exact l.mu d v (by rcases TF d i with h|h;exact h;have:d=i:=(by omega);subst this;exact absurd f g) f
 ·obtain⟨d,m,y,z⟩:=l.no u A;exact⟨d,m,by omega,z⟩
 ·have m:d≠i:=fun e=>g (e▸f);have y:t≠i:=fun e=>g (e▸r);exact l.inj d t (by omega) (by omega) f r E
 ·have m:d≠i:=fun e=>g (e▸f);exact l.lt d (by omega) f
end
section
variable {S O:Nat→Prop}{w0 w w':R3}{s:Nat→ByteArray}{k e:Nat→Int}{N cb n cap kb nk ck eb ne ce wb gW:Nat}{x:R2}{ws:List Bool}{V:Nat→List az}{ch:Nat→Nat}{bb fb ct i:Nat}{μ:Nat→Option (List R2)}{a:T6}{Post:R2→R3→Prop}{cs:List Sn}{kk:List UC}
theorem go_region{c:Nat}{l0:List (Nat×R2)}(t:Eh S w0 s k e N cb n kb nk eb ne wb ws V)(z:ws[i]? =RX R7)
 (q:Knows a 73 ((9,.int .i64 (i:Int)) :: (8,.slice (RX ⟨ct,0,RZ⟩) ws.length ws.length) :: (4,.pointer (RX ⟨fb,0,RZ⟩)) :: (3,.pointer (RX ⟨bb,0,RZ⟩)) :: l0))
 (m:ql S O w0 w N cb n cap kb nk ck eb ne ce x bb fb) (U:O ct) (L:O c) (M:w.cell? ⟨ct,0+i*1,RZ⟩=RX (.chan (RX c))) (Y:μ c=RZ) (P:w.heap[c]? =RX (.chan N #[] R6 0 0 R6))
 (Q:∀ a',Knows a' 73 (Ri ct fb bb i c N cb n cap kb nk ck eb ne ce ws.length x ++ ((9,.int .i64 (i:Int)) :: (8,.slice (RX ⟨ct,0,RZ⟩) ws.length ws.length) :: (4,.pointer (RX ⟨fb,0,RZ⟩)) :: (3,.pointer (RX ⟨bb,0,RZ⟩)) :: l0))→a'.defers=a.defers→
   jz (aa.of RY) RY Post S (fun b=>O b∧b≠c) (fp μ c (RX ((V i).map az.agg))) (Se ((base 78).at a' kk) cs) w):
 jz (aa.of RY) RY Post S O μ (Se ((base 78).at a (.code (.region 7 (zR S0) R7) :: kk)) cs) w:=by
 have u:=dn (aa.of RY) RY Post S μ;have R:i<ws.length:=(SA.1 z).1;have H:w.rangeAt bb 0 [T7 .i64 (N:Int),.slice (RX ⟨cb,0,RZ⟩) n cap]:=fun d v l=>by unfold Sr;simp only[m.hb];rw[SZ];simpa using l
 have I:w.rangeAt fb 0 [Te (RX ⟨kb,0,RZ⟩) nk ck,.slice (RX ⟨eb,0,RZ⟩) ne ce,x]:=fun d v l=>by unfold Sr;simp only[m.hf];rw[SZ];simpa using l
 refine pI (Ph:=fun i=>decide (i<7)) (l:=Ri ct fb bb i c N cb n cap kb nk ck eb ne ce ws.length x) u qi ?_;refine jO (u:=7) u (by decide) q Gm ?_ ?_ ?_
 ·intro f d j W _ _ g;have l:d<7:=by simpa using W
  have:d=0∨d=1∨d=2∨d=3∨d=4∨d=5∨d=6:=by omega
  rcases this with rfl|rfl|rfl|rfl|rfl|rfl|rfl
  ·cases(show RX _=RX j from g);exact⟨_,rfl,.inl ⟨rfl,bR (bQ rfl (f.of rfl))⟩⟩
  ·cases(show RX _=RX j from g);exact⟨_,rfl,.inl ⟨rfl,bR (bQ rfl (f.of rfl))⟩⟩
  ·cases(show RX _=RX j from g);exact⟨_,rfl,.inl ⟨rfl,bR (eK rfl (f.of rfl) (f.of rfl) Tryz.underlying192 Tryz.sizeOf193 R)⟩⟩
  ·cases(show RX _=RX j from g);exact⟨_,rfl,.inl ⟨rfl,bK rfl (f.of rfl) Tryz.isAgg193 (.inr U) M⟩⟩
  ·cases(show RX _=RX j from g);exact⟨_,rfl,.inl ⟨rfl,eA (cs:=[T7 .i64 (N:Int),.slice (RX ⟨cb,0,RZ⟩) n cap]) rfl (f.of rfl) T2 rfl m6 (.inr m.ob) H⟩⟩
  ·cases(show RX _=RX j from g);exact⟨_,rfl,.inl ⟨rfl,eA (cs:=[Te (RX ⟨kb,0,RZ⟩) nk ck,.slice (RX ⟨eb,0,RZ⟩) ne ce,x]) rfl (f.of rfl) Tryz.underlying105 rfl zQ (.inr m.of) I⟩⟩
  ·cases(show RX _=RX j from g);exact⟨_,rfl,.inl ⟨rfl,bR (bQ rfl (f.of rfl))⟩⟩
 ·intro j g Z ae ad b y A ab p _;have f:=q.fill (Ri ct fb bb i c N cb n cap kb nk ck eb ne ce ws.length x) rfl;have r:=fL (Dn:=fun i=>decide (i≤7)) y A Nf (fun d l=>by
   have:d≤7:=by simpa using l
   show d<8;omega)
  cases(show RX _=RX j from g);obtain⟨J,K⟩:=nh y A rfl q.size Gm (fun d l=>r d (by
   have:d<8:=l;simp;omega))
  have D:b.eval (.tmp 32)= .chan (RX c):=(p 32 (by decide)).trans (f.slot 32 _ rfl);have E:b.eval (.tmp 33)=oh (N:Int) cb n cap:=(p 33 (by decide)).trans (f.slot 33 _ rfl);have F:b.eval (.tmp 34)=ou kb nk ck eb ne ce x:=(p 34 (by decide)).trans (f.slot 34 _ rfl);have G:b.eval (.tmp 35)= .int .i64 (i:Int):=(p 35 (by decide)).trans (f.slot 35 _ rfl);obtain⟨X,T,C⟩:=t.sin i z;refine Nq (args:= #[.chan (RX c),oh (N:Int) cb n cap,ou kb nk ck eb ne ce x,.int .i64 (i:Int)]) (vs:=(V i).map az.agg) (cap:=N) (by decide) g rfl rfl (by simp only[List.map_toArray,U8,List.map_nil,D,E,F,G]) L ?_ Y P (fun al B=>?_) ?_
  ·rw[SV];rcases C.len with h|h
   ·omega
   ·rw[h];exact SK _
  ·refine LR C T ⟨fun b o=>⟨Sa (m.inr b (.inl o)) B.size,fun h=>h⟩,fun b h=>h.elim⟩ (X.rel fun b o=>?_);rw[B.at_ b (.inl o)];exact m.Ge.block b (t.sz b o)
  ·rw[K];show jz _ _ Post S _ _ (Se ((base 78).at b _) cs) w;rw[J];exact aj (dn (aa.of RY) RY Post S _) (Q _ f (dQ _ _))
 ·intro r;exact absurd (r 7 (by decide)) (by decide)
theorem go_round(r:Eh S w0 s k e N cb n kb nk eb ne wb ws V)(h:G2 S O w0 w N cb n cap kb nk ck eb ne ce x wb gW ws V ch bb fb ct i μ a)(t:ws[i]? =RX R7)
 (aw:∀ F w' a' T R,G2 S F w0 w' N cb n cap kb nk ck eb ne ce x wb gW ws V T bb fb ct (i+1) R a'→jz (aa.of RY) RY Post S F R (Se ((base 78).at a' [.code (cK S0),.inLoop (cK S0),.inBlock 0,.code (fW S0)]) cs) w'):
 jz (aa.of RY) RY Post S O μ (Se ((base 78).at a [.code (cK S0),.inLoop (cK S0),.inBlock 0,.code (fW S0)]) cs) w:=by
 obtain⟨b,al,j,u,K,H,I,ao,l⟩:=h;have c:=dn (aa.of RY) RY Post S μ;have D:i<ws.length:=(SA.1 t).1;have bd:=r.mm;have be:=r.nn;obtain⟨bj,ar,_,_,ad⟩:=vR;refine aH c ?_;refine aU c [0] rfl ?_;refine cP c b rfl (.bool R7) (iH rfl (b.of rfl) (b.of rfl) (by simp;omega)) fun b=>?_;refine aj c ?_;refine aH c ?_;refine cJ c R7 (b.of rfl) ?_;refine gu c ?_;refine aH c ?_;refine fF c ?_;refine aH c ?_;refine aU c [0,1] rfl ?_;refine bV c b fun b=>?_;refine fE c b fun b=>?_;refine aj c ?_;refine aH c ?_;refine aU c [0,1,2,3] rfl ?_;refine bV c b fun b=>?_;refine bV c b fun b=>?_;refine cP c b rfl (.pointer (RX ⟨wb,0+i*1,RZ⟩)) (eK rfl (b.of rfl) (b.of rfl) Uv Tryz.sizeOf4 D) fun b=>?_;refine qo c b rfl (.bool R7) (bK rfl (b.of rfl) Tryz.isAgg4 (j.low wb r.wl) ((j.Ge.cell (p:=⟨wb,0+i*1,RZ⟩) r.wl).trans (r.wc i _ t))) fun b=>?_;refine aj c ?_;refine cJ c R7 (b.of rfl) ?_;refine aH c ?_;refine aU c [0,1,2,3,4,5,6] rfl ?_;refine bV c b fun b=>?_;refine bV c b fun b=>?_;refine cP c b rfl (.pointer (RX ⟨bb,0,RZ⟩)) (cH (off':=0) rfl (b.of rfl) T2 rfl VD rfl) fun b=>?_;refine qo c b rfl (.int .i64 (N:Int)) (bK rfl (b.of rfl) V2 (.inr j.ob) (by unfold Sr;simp only[j.hb];rfl)) fun b=>?_;refine kV c j.inr (by decide) rfl rfl (.chan N #[] R6 0 0 R6) trivial (fun n=>.chan (RX n)) (Da rfl (b.of rfl) Tryz.underlying193 ar (by omega) (by rw[ad];omega)) fun f bo a1 a4 hrel ab=>?_;replace b:=b.put (d:=27) (by decide) (.chan (RX f));have L:=j.new a1 a4 hrel;refine cP c b rfl (.pointer (RX ⟨ct,0+i*1,RZ⟩)) (eK rfl (b.of rfl) (b.of rfl) Tryz.underlying192 Tryz.sizeOf193 D) fun b=>?_;have ba:=j.inr ct (.inr u);have J:f≠ct:=by omega
 have U:(dW ws ch i).toArray.toList.take (0+i*1) ++ (Value.chan (RX f)).cells.toList ++ (dW ws ch i).toArray.toList.drop (0+i*1+(Value.chan (RX f)).cells.size)=dW ws (fun d=>if d=i then f else ch d) (i+1):=by
  rw[← Co t f];simp[Uw]
 refine qZ c L.inr (n:=ct) (by decide) rfl rfl (.inl u) (.cells ((dW ws ch i).toArray.toList.take (0+i*1) ++ (Value.chan (RX f)).cells.toList ++ (dW ws ch i).toArray.toList.drop (0+i*1+(Value.chan (RX f)).cells.size)).toArray 193) trivial (kq (n:=ct) (off:=0+i*1) (v:=.chan (RX f)) rfl (b.of rfl) (b.of rfl) Hs (fun bm M=>by simp[Uw] at M;rw[M];rfl) (Or.inr (Or.inl u)) ((hrel.at_ ct (.inr u)).trans ao) (by
  show 0+i*1+1≤(dW ws ch i).length;rw[dj];omega)) fun Q v=>?_
 rw[U] at v;replace b:=b.none Tq;have A:=L.set v H I K;refine aj c ?_;have ae:Q.heap[f]? =RX (.chan N #[] R6 0 0 R6):=(v.at_ f (.inr (.inr rfl)) J).trans ab;have a5:μ f=RZ:=by
  cases a0:μ f with
  |none=>rfl
  |some bl=>
   obtain⟨d,_,z,m,y⟩:=l.no f (by rw[a0];simp);have:=l.lt d z m;omega
 have bi:=v.size;refine go_region (c:=f) (l0:=[(16,.int .i64 (i:Int)),(15,.int .i64 (ws.length:Int)),(2,.slice (RX ⟨wb,0,RZ⟩) ws.length gW)]) r t ((((((((b.nil.cons (b.slot 2 _ rfl)).cons (b.slot 15 _ rfl)).cons (b.slot 16 _ rfl)).cons (b.slot 3 _ rfl)).cons (b.slot 4 _ rfl)).cons (b.slot 8 _ rfl)).cons (b.slot 9 _ rfl))) A (.inl u) (.inr rfl) ?_ a5 ae fun a' g am=>?_
 ·unfold Sr;rw[v.set];simp only[SZ,VO];have:=lP (ws:=ws) (ch:=fun d=>if d=i then f else ch d) (i:=i+1) D;simp[t] at this;simpa using this
 ·have c:=dn (aa.of RY) RY Post S (fp μ f (RX ((V i).map az.agg)));refine gL c ?_;refine aU c [0,1] rfl ?_;refine cP c g rfl (.int .i64 ((i+1:Nat):Int)) (mV (j:=1) rfl (g.of rfl) rfl (by omega)) fun g=>?_;refine bV c g fun g=>?_;refine aj c ?_;refine j3 c ?_;refine aw _ Q _ (fun d=>if d=i then f else ch d) _ ⟨(((((g.nil.cons (g.slot 2 _ rfl)).cons (g.slot 3 _ rfl)).cons (g.slot 4 _ rfl)).cons (g.slot 8 _ rfl)).cons (g.slot 15 _ rfl)).cons (g.slot 16 _ rfl),by simp only[put_defers];rw[am];simp only[put_defers];exact al,?_,⟨.inl u,fun e=>J e.symm⟩,K,H,I,v.set,⟨fun d W z m=>?_,fun G C=>?_,fun d E z bc m P y=>?_,fun d z m=>?_⟩⟩
  ·have a6:=j.inr bb (.inr j.ob);have a7:=j.inr fb (.inr j.of);have a8:=j.Ge.size;exact A.rel (fun p o _ _=>rfl) (fun p o=>rfl) (R8 _) rfl rfl rfl (fun p o=>A.inr p (o.imp (fun h=>h) (fun h=>h.1))) (fun p o h=>⟨o,by rcases h with h|rfl|rfl<;>omega⟩) (fun p o a3=>A.qp p o a3.1)
  ·by_cases e:d=i
   ·subst e;simp[fp]
   ·have:=l.lt d (by omega) m;have a2:ch d≠f:=by omega
    simp only[if_neg e,fp,a2,if_false];exact l.mu d W (by omega) m
  ·by_cases e:G=f
   ·subst e;exact⟨i,SK _,by omega,t,by simp⟩
   ·unfold fp at C;rw[if_neg e] at C;obtain⟨d,X,a9,Y,Z⟩:=l.no G C;exact⟨d,X,by omega,Y,by rw[if_neg (by omega)];exact Z⟩
  ·by_cases q:d=i<;>by_cases B:E=i
   ·omega
   ·rw[if_pos q,if_neg B] at y;have:=l.lt E (by omega) P;omega
   ·rw[if_neg q,if_pos B] at y;have:=l.lt d (by omega) m;omega
   ·rw[if_neg q,if_neg B] at y;exact l.inj d E (by omega) (by omega) m P y
  ·by_cases q:d=i
   ·rw[if_pos q];omega
   ·rw[if_neg q];have:=l.lt d (by omega) m;omega
end
def eB (ws:List Bool)(g:Nat→Nat)(V:Nat→List az)(N:Nat)(i:Nat):List R2:=(SS ws.length).map fun a=>if a<i∧ws[a]? =RX R7 then .slice (RX ⟨g a,0,RZ⟩) (V a).length N else .slice RZ 0 0
def dx(ws:List Bool)(g:Nat→Nat)(V:Nat→List az)(N:Nat)(i:Nat):(eB ws g V N i).length=ws.length:=by simp[eB]
def lV{ws:List Bool}{g:Nat→Nat}{V:Nat→List az}{N:Nat}{i j:Nat}(a:j<ws.length):(eB ws g V N i)[j]? =RX (if j<i∧ws[j]? =RX R7 then .slice (RX ⟨g j,0,RZ⟩) (V j).length N else .slice RZ 0 0):=by
 simp[eB,a]
section
variable {ws:List Bool}{g:Nat→Nat}{V:Nat→List az}{N i:Nat}
def A7(h:ws[i]? ≠RX R7):eB ws g V N (i+1)=eB ws g V N i:=by
 unfold eB;refine List.map_congr_left fun a e=>?_;by_cases c:a=i
 ·subst c;simp[h]
 ·have:(a<i+1∧ws[a]? =RX R7)↔(a<i∧ws[a]? =RX R7):=by
   constructor
   ·rintro⟨d,b⟩;exact⟨by omega,b⟩
   ·rintro⟨d,b⟩;exact⟨by omega,b⟩
  simp only[this]
theorem CU(h:ws[i]? =RX R7)(c:Nat):(eB ws g V N i).take i ++ [Te (RX ⟨c,0,RZ⟩) (V i).length N] ++ (eB ws g V N i).drop (i+1)=eB ws (fun j=>if j=i then c else g j) V N (i+1):=by
 have l:i<ws.length:=(SA.1 h).1;apply List.ext_getElem?;intro j;rcases TF j ws.length with a|a
 ·rw[lV a];rcases Nat.lt_trichotomy j i with b|b|b
  ·rw[SG,Ty (by simp[dx];omega),T3,if_pos b,lV a];have e:(j<i+1∧ws[j]? =RX R7)↔(j<i∧ws[j]? =RX R7):=⟨fun h=>⟨b,h.2⟩,fun h=>⟨by omega,h.2⟩⟩;have d:¬ j=i:=by omega
   simp only[e,d,if_false]
  ·subst b;rw[SG,To (by simp[dx];omega)];simp[dx,h,Nat.min_eq_left (Nat.le_of_lt a)]
  ·rw[To (by simp[dx];omega)];have f:i+1+(j - (min i ws.length+1))=j:=by omega
   simp only[Sc,TO,dx,T0,List.length_nil,List.getElem?_drop,f,lV a];have d:¬ (j<i):=by omega
   have k:¬ (j<i+1):=by omega
   simp only[d,k,false_and,if_false]
 ·rw[List.getElem?_eq_none (by simp[dx];omega),List.getElem?_eq_none (by rw[dx];exact a)]
end
def mI (fn:UB):U7:=match fW fn with
 | .seq _ (.seq _ (.seq (.seq _ (.block _ (.loop a))) _))=>a
 |_=>.skip
def EK (fn:UB):U7:=match fW fn with
 | .seq _ (.seq _ (.seq _ a))=>a
 |_=>.skip
def fG (fn:UB):Array Tx:=match mI fn with
 | .seq _ (.seq _ (.seq (.block _ (.seq _ (.seq _ (.cond _ (.seq (.region _ a _) _) _)))) _))=>a
 |_=> #[]
def xw (fn:UB):Array Tx:=match mI fn with
 | .seq _ (.seq _ (.seq (.block _ (.seq _ (.seq _ (.cond _ (.seq _ (.region _ a _)) _)))) _))=>a
 |_=> #[]
def Kf:List Nat:=[49,50,51,52,53,54,55,56]
def zG (lb ct bb i c N m:Nat):List (Nat×R2):=[(49,.slice (RX ⟨lb,0,RZ⟩) m m),(50,.int .i64 (i:Int)),(51,.slice (RX ⟨ct,0,RZ⟩) m m),(52,.int .i64 (i:Int)),(53,.pointer (RX ⟨ct,0+i*1,RZ⟩)),(54,.chan (RX c)),(55,.pointer (RX ⟨bb,0,RZ⟩)),(56,.int .i64 (N:Int))]
def Ci (lb gn len i N:Nat):List (Nat×R2):=[(57,.slice (RX ⟨gn,0,RZ⟩) len N),(58,.pointer (RX ⟨lb,0+i*1,RZ⟩))]
def zH:fJ (fG S0) (fun i=>decide (i<8)) 8 73 Kf=R7:=by kernel_rfl
def zI:fJ (fG S0) (fun i=>decide (i<10)) 10 73 ([57,58] ++ Kf)=R7:=by kernel_rfl
def Kg:((SS (fG S0).size).all fun i=> !(fun i=>decide (i<8)) i || match iz (fG S0) i with|some d=> !([57,58]:List Nat).contains d|none=>R7)=R7:=by kernel_rfl
def Ew:((SS (fG S0).size).all fun i=> !(fun i=>decide (2≤i∧i≤8)) i || i == 8 || (under (fG S0) (fG S0).size (match (fG S0)[8]? with
 |some o=>(o.after.toList.filter fun e=>Tn .any e).map (·.on)
 |none=>[])).contains i)=R7:=by kernel_rfl
def Ex:((SS (fG S0).size).all fun i=> !(fun i=>decide (i≤10)) i || i == 10 || (under (fG S0) 3 (match (fG S0)[10]? with
 |some o=>(o.after.toList.filter fun e=>Tn .any e).map (·.on)
 |none=>[])).contains i)=R7:=by kernel_rfl
def JH:(Vp.name == "runtime.NumGoroutine")=R6:=by kernel_rfl
def Iy:(RY.info? 43).map (·.size)=RX 1:=by kernel_rfl
section
variable {S O:Nat→Prop}{w0 w w':R3}{s:Nat→ByteArray}{k e:Nat→Int}{N cb n cap kb nk ck eb ne ce wb gW:Nat}{x:R2}{ws:List Bool}{V:Nat→List az}{ch:Nat→Nat}{bb fb ct lb i:Nat}{μ:Nat→Option (List R2)}{a:T6}{Post:R2→R3→Prop}{cs:List Sn}{kk:List UC}
def ql.Qv(h:ql S O w0 w N cb n cap kb nk ck eb ne ce x bb fb){f:Nat→Prop}(c:JS S O f w w'):ql S f w0 w' N cb n cap kb nk ck eb ne ce x bb fb:=
 h.rel (fun b d _ _=>c.rel.at_ b d) (fun b d=>c.rel.at_ b (h.low b d)) c.rel.size c.rel.tape c.rel.os c.rel.output c.inr (fun b d _=>c.sub b d) (fun b d g=>(c.new b g).elim (h.qp b d) (fun e=>by have:=h.inr b (.inl d);omega))
theorem Cj{c gn:Nat}{l0:List (Nat×R2)}{f:Array R2}(K:i<ws.length)
 (p:Knows a 73 ((10,.int .i64 (i:Int)) :: (8,.slice (RX ⟨ct,0,RZ⟩) ws.length ws.length) :: (6,.slice (RX ⟨lb,0,RZ⟩) ws.length ws.length) :: (3,.pointer (RX ⟨bb,0,RZ⟩)) :: l0))
 (H:sG S O w) (z:O lb) (J:w.heap[lb]? =RX (.cells f 43 (0,0))) (G:f.size=ws.length) (len:Nat)
 (m t:Nat) (j:Array Bool) (b:T6) (o:b6 (fG S0) (fun i=>decide (i<10)) a (fill a (Ci lb gn len i N ++ zG lb ct bb i c N ws.length)) j b) (u:∀ i,(fun i=>decide (2≤i∧i≤8)) i=R7→j.getD i R6=R7) (y:D1 j≤m)
 (I:∀ w' a',yP S O lb (.cells (f.toList.take i ++ [Te (RX ⟨gn,0,RZ⟩) len N] ++ f.toList.drop (i+1)).toArray 43) w w'→Knows a' 73 (Ci lb gn len i N ++ zG lb ct bb i c N ws.length ++ ((10,.int .i64 (i:Int)) :: (8,.slice (RX ⟨ct,0,RZ⟩) ws.length ws.length) :: (6,.slice (RX ⟨lb,0,RZ⟩) ws.length ws.length) :: (3,.pointer (RX ⟨bb,0,RZ⟩)) :: l0))→a'.defers=a.defers→
   jz (aa.of RY) RY Post S O μ (Se ((base 78).at a' kk) cs) w'):
 jz (aa.of RY) RY Post S O μ (Se ((base 78).at b (.inRegion (fG S0) (S5 .any (fG S0) m t j []) :: kk)) cs) w:=by
 have q:=dn (aa.of RY) RY Post S μ;refine jO (Dn:=fun i=>decide (2≤i∧i≤8)) (u:=10) q (by decide) p zI ?_ ?_ ?_ m t j b o u y
 ·intro g d l L u R h;have P:d<10:=by simpa using L
  have Q:¬ (2≤d∧d≤8):=by simpa using u
  have:d=0∨d=1∨d=9:=by omega
  rcases this with rfl|rfl|rfl
  ·cases(show RX _=RX l from h);exact⟨_,rfl,.inl ⟨rfl,bR (bQ rfl (g.of rfl))⟩⟩
  ·cases(show RX _=RX l from h);exact⟨_,rfl,.inl ⟨rfl,bR (bQ rfl (g.of rfl))⟩⟩
  ·cases(show RX _=RX l from h);exact⟨_,rfl,.inl ⟨rfl,bR (eK rfl (g.of rfl) (g.of rfl) Tryz.underlying26 Tryz.sizeOf43 K)⟩⟩
 ·intro l h m t j b o A y T _;have g:=p.fill (Ci lb gn len i N ++ zG lb ct bb i c N ws.length) rfl;have r:=fL (Dn:=fun i=>decide (i≤10)) o A Ex (fun d v=>by
   have:d≤10:=by simpa using v
   show d<11;omega)
  cases(show RX _=RX l from h);obtain⟨E,F⟩:=nh o A rfl p.size zI (fun d v=>r d (by
   have:d<11:=v;simp;omega))
  rw[F];subst E;refine qZ q H (n:=lb) (by decide) h rfl z (.cells (f.toList.take (0+i*1) ++ (Te (RX ⟨gn,0,RZ⟩) len N).cells.toList ++ f.toList.drop (0+i*1+(Te (RX ⟨gn,0,RZ⟩) len N).cells.size)).toArray 43) trivial (kq (n:=lb) (off:=0+i*1) (v:=.slice (RX ⟨gn,0,RZ⟩) len N) rfl (g.of rfl) (g.of rfl) Iy (fun U C=>by simp[Uw] at C;rw[C];rfl) (Or.inr z) J (by
   show 0+i*1+1≤f.size;rw[G];omega)) fun M B=>?_
  refine aj q (I M _ ?_ (g.none Tq) (by rw[put_defers];exact dQ _ _));have D:f.toList.take (0+i*1) ++ (Te (RX ⟨gn,0,RZ⟩) len N).cells.toList ++ f.toList.drop (0+i*1+(Te (RX ⟨gn,0,RZ⟩) len N).cells.size)=f.toList.take i ++ [Te (RX ⟨gn,0,RZ⟩) len N] ++ f.toList.drop (i+1):=by simp[Uw]
  rw[D] at B;exact B
 ·intro r;exact absurd (r 10 (by decide)) (by decide)
theorem Ck{c:Nat}{l0:List (Nat×R2)}{o:Array R2}(z:Eh S w0 s k e N cb n kb nk eb ne wb ws V)(A:ws[i]? =RX R7)
 (m:Knows a 73 ((10,.int .i64 (i:Int)) :: (8,.slice (RX ⟨ct,0,RZ⟩) ws.length ws.length) :: (6,.slice (RX ⟨lb,0,RZ⟩) ws.length ws.length) :: (3,.pointer (RX ⟨bb,0,RZ⟩)) :: l0))
 (v:ql S O w0 w N cb n cap kb nk ck eb ne ce x bb fb) (ab:O ct) (L:w.cell? ⟨ct,0+i*1,RZ⟩=RX (.chan (RX c))) (ao:μ c=RX ((V i).map az.agg)) (D:O lb) (Z:w.heap[lb]? =RX (.cells o 43 (0,0))) (M:o.size=ws.length)
 (X:∀ j l w' gn a',w.heap.size≤gn→Row l gn N (V i)→j gn→JS S O j w l→yP S j lb (.cells (o.toList.take i ++ [Te (RX ⟨gn,0,RZ⟩) (V i).length N] ++ o.toList.drop (i+1)).toArray 43) l w'→Knows a' 73 (Ci lb gn (V i).length i N ++ zG lb ct bb i c N ws.length ++ ((10,.int .i64 (i:Int)) :: (8,.slice (RX ⟨ct,0,RZ⟩) ws.length ws.length) :: (6,.slice (RX ⟨lb,0,RZ⟩) ws.length ws.length) :: (3,.pointer (RX ⟨bb,0,RZ⟩)) :: l0))→a'.defers=a.defers→
   jz (aa.of RY) RY Post S j (fp μ c RZ) (Se ((base 78).at a' kk) cs) w'):
 jz (aa.of RY) RY Post S O μ (Se ((base 78).at a (.code (.region 15 (fG S0) R7) :: kk)) cs) w:=by
 have t:=dn (aa.of RY) RY Post S μ;have C:i<ws.length:=(SA.1 A).1;obtain⟨_,_,al⟩:=z.sin i A;refine pI (Ph:=fun i=>decide (i<8)) (l:=zG lb ct bb i c N ws.length) t qi ?_;refine jO (u:=8) t (by decide) m zH ?_ ?_ ?_
 ·intro f b g ad _ _ d;have q:b<8:=by simpa using ad
  have:b=0∨b=1∨b=2∨b=3∨b=4∨b=5∨b=6∨b=7:=by omega
  rcases this with rfl|rfl|rfl|rfl|rfl|rfl|rfl|rfl
  ·cases(show RX _=RX g from d);exact⟨_,rfl,.inl ⟨rfl,bR (bQ rfl (f.of rfl))⟩⟩
  ·cases(show RX _=RX g from d);exact⟨_,rfl,.inl ⟨rfl,bR (bQ rfl (f.of rfl))⟩⟩
  ·cases(show RX _=RX g from d);exact⟨_,rfl,.inl ⟨rfl,bR (bQ rfl (f.of rfl))⟩⟩
  ·cases(show RX _=RX g from d);exact⟨_,rfl,.inl ⟨rfl,bR (bQ rfl (f.of rfl))⟩⟩
  ·cases(show RX _=RX g from d);exact⟨_,rfl,.inl ⟨rfl,bR (eK rfl (f.of rfl) (f.of rfl) Tryz.underlying192 Tryz.sizeOf193 C)⟩⟩
  ·cases(show RX _=RX g from d);exact⟨_,rfl,.inl ⟨rfl,bK rfl (f.of rfl) Tryz.isAgg193 (.inr ab) L⟩⟩
  ·cases(show RX _=RX g from d);exact⟨_,rfl,.inl ⟨rfl,bR (cH (off':=0) rfl (f.of rfl) T2 rfl VD rfl)⟩⟩
  ·cases(show RX _=RX g from d);exact⟨_,rfl,.inl ⟨rfl,bK rfl (f.of rfl) V2 (.inr v.ob) (by unfold Sr;simp only[v.hb];rfl)⟩⟩
 ·intro g d H ar a1 r u y a0 B _;have f:=m.fill (zG lb ct bb i c N ws.length) rfl;have R:=fL (Dn:=fun i=>decide (2≤i∧i≤8)) u y Ew (fun b q=>by
   have:2≤b∧b≤8:=by simpa using q
   show b<11;omega)
  cases(show RX _=RX g from d);have F:r.eval (.tmp 54)= .chan (RX c):=(B 54 (by decide)).trans (f.slot 54 _ rfl);have G:r.eval (.tmp 56)= .int .i64 (N:Int):=(B 56 (by decide)).trans (f.slot 56 _ rfl);refine Gf t (by decide) d rfl rfl Tryz.func117 JH rfl ?_;have K:(#[Operand.tmp 54,.tmp 56].map r.eval)=#[.chan (RX c),.int .i64 (N:Int)]:=by simp only[List.map_toArray,U8,List.map_nil,F,G]
  rw[K];refine Kk (r:=V i) d v.inr ao ?_ z.nn fun j l gn U ae I p=>?_
  ·rcases al.len with h|h
   ·omega
   ·rw[h];exact SK _
  ·have T:=u.Gn (l2:=Ci lb gn (V i).length i N) (JQ:=fun i=>decide (i<10)) (n:=73) (v:=.slice (RX ⟨gn,0,RZ⟩) (V i).length N) y d m.size zH rfl (fun b q=>by
    have:b<8:=by simpa using q
    simp;omega) rfl Kg (fun aw P=>by cases P;rfl)
   refine Cj (gn:=gn) (len:=(V i).length) (c:=c) C m p.inr (p.sub lb D) ((p.rel.at_ lb (.inr D)).trans Z) M H ar _ _ T R ?_ fun w' a' am E Q=>X j l w' gn a' U ae I p am E Q;obtain⟨_,_,W,Y,_⟩:=mem_ready y;have:=qd (by rw[u.size];exact W) Y;omega
 ·intro J;exact absurd (J 10 (by decide)) (by decide)
end
def Po:List Nat:=[59,60,61,62,63,64,65,66,67,68,69]
def Q1 (lb bb gn i len N m:Nat):List (Nat×R2):=[(59,.bool R7),(60,.bool R7),(61,.slice (RX ⟨lb,0,RZ⟩) m m),(62,.int .i64 (i:Int)),(63,.pointer (RX ⟨lb,0+i*1,RZ⟩)),(64,.slice (RX ⟨gn,0,RZ⟩) len N),(65,.int .i64 (len:Int)),(66,.pointer (RX ⟨bb,0,RZ⟩)),(67,.int .i64 (N:Int)),(68,.bool ((len:Int) == (N:Int))),(69,.bool ((len:Int) == (N:Int)))]
def okF:List (Nat×R2):=[(59,.bool R6),(60,.bool R6),(61,Tq),(62,Tq),(63,Tq),(64,Tq),(65,Tq),(66,Tq),(67,Tq),(68,Tq),(69,.bool R6)]
def vK:fJ (xw S0) (fun i=>decide (i<11)) 11 73 Po=R7:=by kernel_rfl
def C7:((SS (xw S0).size).all fun i=> !(fun i=>decide (i≤11)) i || i == 11 || (under (xw S0) 1 (match (xw S0)[11]? with
 |some o=>(o.after.toList.filter fun e=>Tn .any e).map (·.on)
 |none=>[])).contains i)=R7:=by kernel_rfl
section
variable {S O:Nat→Prop}{w0 w w':R3}{s:Nat→ByteArray}{k e:Nat→Int}{N cb n cap kb nk ck eb ne ce wb gW:Nat}{x:R2}{ws:List Bool}{V:Nat→List az}{ch g:Nat→Nat}{bb fb ct lb i gn len:Nat}{μ:Nat→Option (List R2)}{a:T6}{Post:R2→R3→Prop}{cs:List Sn}{kk:List UC}{kD:Bool}
theorem C9{l0:List (Nat×R2)}(F:i<ws.length)
 (o:Knows a 73 ((7,.bool kD) :: (10,.int .i64 (i:Int)) :: (6,.slice (RX ⟨lb,0,RZ⟩) ws.length ws.length) :: (3,.pointer (RX ⟨bb,0,RZ⟩)) :: l0)) (L:sG S O w) (I:O lb) (H:O bb) (C:w.cell? ⟨lb,0+i*1,RZ⟩=RX (.slice (RX ⟨gn,0,RZ⟩) len N)) (D:w.cell? ⟨bb,0,RZ⟩=RX (.int .i64 (N:Int)))
 (y:∀ a' z,Knows a' 73 ((7,.bool (kD && ((len:Int) == (N:Int)))) :: (z ++ ((7,.bool kD) :: (10,.int .i64 (i:Int)) :: (6,.slice (RX ⟨lb,0,RZ⟩) ws.length ws.length) :: (3,.pointer (RX ⟨bb,0,RZ⟩)) :: l0)))→z.map (·.1)=Po→a'.defers=a.defers→
   jz (aa.of RY) RY Post S O μ (Se ((base 78).at a' kk) cs) w):
 jz (aa.of RY) RY Post S O μ (Se ((base 78).at a (.code (.region 16 (xw S0) R7) :: kk)) cs) w:=by
 have l:=dn (aa.of RY) RY Post S μ;cases kD with
 |true=>
  refine pI (Ph:=fun i=>decide (i<11)) (l:=Q1 lb bb gn i len N ws.length) l qi ?_;refine jO (u:=11) l (by decide) o vK ?_ ?_ ?_
  ·intro f b c v _ _ d;have j:b<11:=by simpa using v
   have h:∀ c:Tx,c.guard=RX (1,R7)→SI c (Tc (xw S0) (fill a (Q1 lb bb gn i len N ws.length)).tmps)=R7:=fun c u=>n8 (d:=60) (b:=R7) u rfl (f.slot 60 _ rfl) (by rw[f.size];decide);have:b=0∨b=1∨b=2∨b=3∨b=4∨b=5∨b=6∨b=7∨b=8∨b=9∨b=10:=by omega
   rcases this with rfl|rfl|rfl|rfl|rfl|rfl|rfl|rfl|rfl|rfl|rfl
   ·cases(show RX _=RX c from d);exact⟨_,rfl,.inl ⟨rfl,bR (bQ rfl (f.of rfl))⟩⟩
   ·cases(show RX _=RX c from d);exact⟨_,rfl,.inl ⟨rfl,bR (bQ rfl (f.of rfl))⟩⟩
   ·cases(show RX _=RX c from d);exact⟨_,rfl,.inl ⟨h _ rfl,bR (bQ rfl (f.of rfl))⟩⟩
   ·cases(show RX _=RX c from d);exact⟨_,rfl,.inl ⟨h _ rfl,bR (bQ rfl (f.of rfl))⟩⟩
   ·cases(show RX _=RX c from d);exact⟨_,rfl,.inl ⟨h _ rfl,bR (eK rfl (f.of rfl) (f.of rfl) Tryz.underlying26 Tryz.sizeOf43 F)⟩⟩
   ·cases(show RX _=RX c from d);exact⟨_,rfl,.inl ⟨h _ rfl,bK rfl (f.of rfl) Tryz.isAgg43 (.inr I) C⟩⟩
   ·cases(show RX _=RX c from d);exact⟨_,rfl,.inl ⟨h _ rfl,bR (q9 rfl (f.of rfl) Vf)⟩⟩
   ·cases(show RX _=RX c from d);exact⟨_,rfl,.inl ⟨h _ rfl,bR (cH (off':=0) rfl (f.of rfl) T2 rfl VD rfl)⟩⟩
   ·cases(show RX _=RX c from d);exact⟨_,rfl,.inl ⟨h _ rfl,bK rfl (f.of rfl) V2 (.inr H) D⟩⟩
   ·cases(show RX _=RX c from d);exact⟨_,rfl,.inl ⟨h _ rfl,bR (Pr rfl (f.of rfl) (f.of rfl))⟩⟩
   ·cases(show RX _=RX c from d);exact⟨_,rfl,.inl ⟨rfl,bR (xB rfl (f.of rfl) (f.of rfl))⟩⟩
  ·intro c d B K J A p q G E _;have f:=o.fill (Q1 lb bb gn i len N ws.length) rfl;have m:=fL (Dn:=fun i=>decide (i≤11)) p q C7 (fun b j=>by
    have:b≤11:=by simpa using j
    show b<12;omega)
   cases(show RX _=RX c from d);obtain⟨r,t⟩:=nh p q rfl o.size vK (fun b j=>m b (by
    have:b<12:=j;simp;omega))
   rw[t];subst r;refine lM l (by decide) d rfl _ (jI rfl (f.of rfl)) ?_;refine aj l (y _ (Q1 lb bb gn i len N ws.length) ?_ rfl (by rw[put_defers];exact dQ _ _));exact f.put (d:=7) (by decide) (.bool ((len:Int) == (N:Int)))
  ·intro m;exact absurd (m 11 (by decide)) (by decide)
 |false=>
  refine pI (Ph:=fun i=>decide (i<11)) (l:=okF) l qi ?_;refine jO (u:=11) l (by decide) o vK ?_ ?_ ?_
  ·intro f b c v _ _ d;have j:b<11:=by simpa using v
   have h:∀ c:Tx,c.guard=RX (1,R7)→SI c (Tc (xw S0) (fill a okF).tmps)=R6:=fun c u=>n8 (d:=60) (b:=R6) u rfl (f.slot 60 _ rfl) (by rw[f.size];decide);have:b=0∨b=1∨b=2∨b=3∨b=4∨b=5∨b=6∨b=7∨b=8∨b=9∨b=10:=by omega
   rcases this with rfl|rfl|rfl|rfl|rfl|rfl|rfl|rfl|rfl|rfl|rfl
   ·cases(show RX _=RX c from d);exact⟨_,rfl,.inl ⟨rfl,bR (bQ rfl (f.of rfl))⟩⟩
   ·cases(show RX _=RX c from d);exact⟨_,rfl,.inl ⟨rfl,bR (bQ rfl (f.of rfl))⟩⟩
   ·cases(show RX _=RX c from d);exact⟨_,rfl,.inr ⟨h _ rfl,rfl⟩⟩
   ·cases(show RX _=RX c from d);exact⟨_,rfl,.inr ⟨h _ rfl,rfl⟩⟩
   ·cases(show RX _=RX c from d);exact⟨_,rfl,.inr ⟨h _ rfl,rfl⟩⟩
   ·cases(show RX _=RX c from d);exact⟨_,rfl,.inr ⟨h _ rfl,rfl⟩⟩
   ·cases(show RX _=RX c from d);exact⟨_,rfl,.inr ⟨h _ rfl,rfl⟩⟩
   ·cases(show RX _=RX c from d);exact⟨_,rfl,.inr ⟨h _ rfl,rfl⟩⟩
   ·cases(show RX _=RX c from d);exact⟨_,rfl,.inr ⟨h _ rfl,rfl⟩⟩
   ·cases(show RX _=RX c from d);exact⟨_,rfl,.inr ⟨h _ rfl,rfl⟩⟩
   ·cases(show RX _=RX c from d);exact⟨_,rfl,.inl ⟨rfl,bR (xA rfl (f.of rfl) rfl)⟩⟩
  ·intro c d B K J A p q G E _;have f:=o.fill okF rfl;have m:=fL (Dn:=fun i=>decide (i≤11)) p q C7 (fun b j=>by
    have:b≤11:=by simpa using j
    show b<12;omega)
   cases(show RX _=RX c from d);obtain⟨r,t⟩:=nh p q rfl o.size vK (fun b j=>m b (by
    have:b<12:=j;simp;omega))
   rw[t];subst r;refine lM l (by decide) d rfl _ (jI rfl (f.of rfl)) ?_;refine aj l (y _ okF ?_ rfl (by rw[put_defers];exact dQ _ _));exact f.put (d:=7) (by decide) (.bool R6)
  ·intro m;exact absurd (m 11 (by decide)) (by decide)
end
end Cc
end Go.Proofs.YtjidbonhhpkljaaGreat
