/- What the proof stands on, in short names. -/
import Derived.Test.YtjidbonhhpkljaaGreatMb
import Derived.Deep.CutBlock
import Derived.WalkSpells
import Derived.Lib.Bytealg
import Derived.Deep.RegionHeld
import Derived.WalkLawsBesides
import Derived.Recover
import Derived.Lib.BufferWrite
import Derived.Lib.UnsafeStr
import Derived.Deep.RegionHeld3
import Derived.Deep.AppendLies
import Derived.OrdersHeld
import Derived.RegionTactic
import Derived.Outline
import Derived.Lib.SlBytesConst
set_option linter.all false
open Array renaming getElem?_eq_none → Tg, getElem?_eq_some_iff → R9, length_toList → T5, replicate → S8
open BitVec renaming ofInt → UP
open Bool renaming and_eq_true → Sz, false → R6, false_eq_true → SD, not_eq_true' → Ve, true → R7
open Go renaming Act → T6, Addr → SL, Calls → SF, Obj → U9, Oper → Tx, Operand → S3, PanicEntry → Tv, Program → Sd, TypeId → Sg, TypeInfo → UL, Value → R2, World → R3, bodyPost → TT, execOp → SE, getD_set_ne → Vd, heap_alloc_new → T8, heap_setCell_other → Sv, heap_setCell_same → Sq, info_parts → TB, lt_of_block → Sf, maxLen → Sw, resolve → VE, results → SX, undef → Tq, wpList_append_fits → TJ, wpList_make_own → Ui, yielded → Tc
open Go.Act renaming put → Sy
open Go.Addr renaming add → V8, add_lit → TW
open Go.Addr.mk renaming injEq → U6
open Go.ByteArray renaming toList_eq → Vi
open Go.Extern.BytealgCompare renaming compare → Va
open Go.Instr renaming makeSlice → Vx
open Go.IntKind renaming bits → V4, i64 → Wb, signed → VM, u64 → Ud, u8 → V1
open Go.Lib renaming compareBytes → S9, size_eq → VB
open Go.Proofs.Tryz renaming prog → RY
open Go.Region renaming binds → Tn, ready → SY, wanted → SI
open Go.RowKit renaming Below → Si, Hid → Sb, intOf → S2, wrap64 → Tw
open Go.RowKit.Below renaming heap_alloc → SP, refl → So
open Go.Sem renaming run_bind → Uz
open Go.Value renaming bool → UD, int → T7, ownBlock → TQ, slice → Te
open Go.Value.slice renaming injEq → Uq
open Go.World renaming cell? → Sr, frozen? → S4, ownsRow_nil → Ur, setCell → VI
open Go.World.grownBy renaming block → Um, refl → Wv, size → U1
open List renaming all_eq_true → SC, append_assoc → SG, append_nil → Uy, cons_append → Uk, eq_nil_of_length_eq_zero → TA, flatMap_append → Tf, flatMap_cons → UF, flatMap_singleton → Ta, getD → Wc, getD_eq_getElem?_getD → Sj, getElem?_append_left → Ty, getElem?_append_right → To, getElem?_eq_getElem → Sk, getElem?_eq_some_iff → SA, getElem_mem → Sl, getElem_of_mem → TK, getElem_take → TH, length_append → Sc, length_cons → T0, length_drop → UN, length_eq_zero_iff → Ua, length_map → SV, length_take → TO, map_append → Tb, map_cons → U8, map_singleton → Ug, mem_append → S7, mem_cons → TE, mem_map → Tu, mem_of_mem_take → UO, mem_range → TC, range → SS, range_succ → Vz, replicate → TG, setIfInBounds_toArray → R1, set_cons_succ → R4, set_cons_zero → R5, take_append_drop → UG, take_length → Tk, take_of_length_le → Tj, take_succ_eq_append_getElem → Su
open List.cons renaming injEq → UW
open Nat renaming add_assoc → Td, le_refl → R8, le_trans → Ss, lt_of_lt_of_le → Sa, lt_or_ge → TF, mod_eq_of_lt → U5, mul_one → VO, pow_add → VF, pow_le_pow_right → Uf, pow_succ → UT, zero_add → SZ, zero_le → SK
open Option renaming bind_some → Vs, getD_some → UA, none → RZ, some → RX
open Option.some renaming injEq → Ts
open Prod renaming fst → SB
set_option maxRecDepth 100000
set_option maxHeartbeats 8000000
namespace Go.Proofs.YtjidbonhhpkljaaGreat
namespace Ec
open Go.RowKit Pk Pm
def mG (x:az):Int:=if x.null then 0 else 1
def there(l:List az):List az:=l.filter fun a=> !a.null
def cQ (k e:Int)(l:List az):List Nat:=if e=1 then bM 0 l else if e=2 then dZ k l else if e=3 then bC (l.map az.n) else aE k l
def aX (k e:Int)(l:List az):List Nat:=bC (l.map mG) ++ cQ k e (there l)
def Av{l:List az}{x:az}(h:x∈there l):x∈l:=(List.mem_filter.1 h).1
def n6(l:List az):(there l).length≤l.length:=List.length_filter_le _ _
def FX(l:List az)(j:Nat)(h:j<l.length):there (l.take (j+1))=if l[j].null then there (l.take j) else there (l.take j) ++ [l[j]]:=by
 unfold there;rw[Su h,List.filter_append];cases a:l[j].null<;>simp[a]
def Ix(l:List az)(j:Nat)(h:j<l.length):(l.take (j+1)).map mG=(l.take j).map mG ++ [mG l[j]]:=by
 rw[Su h,Tb];rfl
def nT(l:List Int)(h:l.length≤100):(bC l).length≤1100:=by
 have:=Bw l.length l;unfold bC;omega
theorem um(u d:R2)(pre:List Nat)(a:List Int)(base o:Nat)(w:R3)(m:a.length≤100)(j:pre.length≤100000)(h:base≤w.heap.size)
 (l:w.ownsRow base 5 1 u pre.length (aA pre)) (k:w.ownsRow o 3 1 d a.length (aW a)) (v:Apart d u):
 SF (aa.of RY) 142 #[u,d] w fun e w'=>∃ f,e= .returned f∧w'.ownsRow base 5 1 f (pre ++ bC a).length (aA (pre ++ bC a))∧aP w w' u f:=by
 rcases k.2 with⟨rfl,r⟩|⟨q,p,B,rfl,C,F,G,D,E,H⟩
 ·rw[show(Te RZ 0 0)= .slice RZ a.length 0 from by rw[r]];exact oK u pre a RZ 0 0 0 base w m j h (fun b=>by omega) (fun b=>by omega) (fun b=>by omega) (fun I b=>by omega) l
 ·obtain⟨z,n,y,A,i,g,s,t⟩:=qx.cy k;simp only[Uq,true_and] at i;obtain⟨rfl,rfl⟩:=i;refine oK u pre a (RX ⟨q,0,RZ⟩) n y p base w m j h g s (fun b=>?_) t l;have e:=g b;simp only[Ts,U6] at e;rw[← e.1];intro x;rcases v with c|c
  ·simp[TQ] at c
  ·exact c (by rw[x];simp[TQ])
theorem sO{e:Int}(be:e=0∨qw∧mN)(u b3:R2)(pre:List Nat)(l:List az)(k:Int)(base:Nat)(w:R3)(Z:k=1∨k=2∨k=3)(bx:∀ x∈l,oG x)(c6:l.length≤100)(c5:pre.length≤30000)(c3:base≤w.heap.size)
 (br:w.ownsRow base 5 1 u pre.length (aA pre)) (cv:qV w b3 l):
 SF (aa.of RY) 124 #[u,b3,.int .i64 k,.int .i64 e] w fun r w'=>∃ h,r= .returned h∧w'.ownsRow base 5 1 h (pre ++ aX k e l).length (aA (pre ++ aX k e l))∧aP w w' u h:=by
 have a1:Sb (e=0∨qw∧mN):=be;clear be;obtain⟨a0,Y,am,ao,ar⟩:=TB aa.CP;obtain⟨b1,bj,bA,bB,b0⟩:=TB aa.oU;obtain⟨ce,cf,cx,c1,rfl,D⟩:=cv;have a4:Sb (∀ x∈l,oG x):=bx;have cd:Sb (sM w ce cf cx l):=D;have R:Sb (w.ownsRow base 5 1 u pre.length (aA pre)):=br;clear bx D br;go_enter aa.func124,Tryz.ntmps124
 go_wp2_with (first
  |(at_make;refine Ui _ rfl _ _ 22 rfl w.heap.size 3 a0 (.int .i64 0) 1 aa.underlying22 Y am ao .i64 .i64 _ l.length rfl rfl rfl (by rw[ar];omega) (by unfold Sw;omega) (R8 _) ?_;intro c0 ad W;have ae:=W.size)
  |(at_make;refine Ui _ rfl _ _ 43 rfl w.heap.size 59 b1 _ 3 aa.underlying43 bj bA bB .i64 .i64 _ l.length rfl rfl rfl (by rw[b0];omega) (by unfold Sw;omega) ae ?_;intro a bt X))
 have bc:Apart (.slice (RX ⟨w.heap.size,0,RZ⟩) 0 l.length) (.slice (RX ⟨c0.heap.size,0,RZ⟩) 0 l.length):=.inr (by
  have:=(ad.lt w.heap.size (by simp[TQ])).2;simp[TQ];omega)
 have bs:=ad.kept X (.inr (by simp[TQ]));have bd:Si w.heap.size w a:=((So _ _).grown W (R8 _) (by simp)).grown X ae (by simp);clear ad W X ae
 go_loopw [9,10,21] (fun b2 ca aw wr=>∃ (d:Nat),d≤l.length∧aw= .int .i64 d∧wr.ownsRow w.heap.size 3 1 b2 d (aW ((l.take d).map mG))∧wr.ownsRow w.heap.size 59 3 ca (there (l.take d)).length (aC (there (l.take d)))∧Apart b2 ca∧Si w.heap.size w wr) (fun _ _ aw _=>l.length - (S2 aw).toNat)
 case atStart=>exact⟨0,SK _,rfl,by simpa [aW] using bs,by simpa [there,aC] using bt,bc,bd⟩
 case round=>
  clear bs bt bc bd;obtain⟨d,c4,rfl,i,o,K,L⟩:=hrel;have B:Sb (Si w.heap.size w wr):=L;have al:w.heap.size≤wr.heap.size:=L.size;have c8:(there (l.take d)).length≤d:=by have:=n6 (l.take d);rw[TO] at this;omega
  have cp:RX wr.heap.size≠u9.ownBlock:=fun e=>by have:=(i.lt _ e.symm).2;omega
  by_cases O:d<l.length
  ·have D:=cd.out.below L;obtain rfl:=D.addr (by omega);have b4:=D.c0 d O;have da:=D.c1 d O;have db:=D.c2 d O;have F:=FX l d O;have a2:Sb ((l.take (d+1)).map mG=(l.take d).map mG ++ [mG l[d]]):=Ix l d O;clear D L;generalize l[d]=x at*;cases s:x.null
   ·rw[s] at b4 F;have U:Sb (there (l.take (d+1))=there (l.take d) ++ [x]):=by show _=_;simpa using F
    have T:Sb (mG x=1):=by show _=_;unfold mG;rw[s];rfl
    have cl:aC [x]=[.bool R6,.int .i64 x.n,.string x.s]:=by rw[yE,s]
    have ch:∀ u∈[UD R6,.int .i64 x.n,.string x.s],u.oneCell'=R7:=by have:=gT x;rwa [s] at this
    clear F s
    go_wp2_with (first
     |(at_builtin;refine aS _ rfl _ _ 22 rfl w.heap.size 3 a0 (.int .i64 0) 1 8 aa.underlying22 Y am ao ar rfl (by decide) _ d _ rfl ((i.alloc _).alloc _) ⟨wr.heap.size+1,0,RZ⟩ 1 1 [.int .i64 1] rfl (by decide) rfl (by simpa using je (wr.alloc _) _ _) (xy _) (by unfold Sw;omega) (by omega) (by simp;omega) ?_;intro q j P V;have bi:=aP.append V;have ck:=Hq bi.ij cp;obtain⟨dc,dd,df⟩:=ck;have m:=bi.box;have bv:=eG o m K.symm;have cu:=m.ij.size)
     |(at_builtin;refine aS _ rfl _ _ 43 rfl w.heap.size 59 b1 _ 3 32 aa.underlying43 bj bA bB b0 rfl (by decide) _ _ _ rfl (bv.alloc _) ⟨j.heap.size,0,RZ⟩ 1 1 [.bool R6,.int .i64 x.n,.string x.s] rfl (by decide) rfl (js _ _ _ _ _) ch (by unfold Sw;omega) (by omega) (by simp;omega) ?_;intro cR cb bu cn))
    have N:=aP.append cn;have a6:Apart q u10:=(K.symm.kQ o m).symm;have S:=eG P N a6;rw[j8] at S;rw[← cl,← qP] at bu;have z:Si w.heap.size wr j:=m.below (fun J f=>(i.lt J f).1) al;have ci:Si w.heap.size j cb:=N.below (fun J f=>(bv.lt J f).1) (Ss al cu);refine⟨⟨d+1,by omega,by simp,by rw[a2.out,T.out];exact S,by rw[U.out];simpa using bu,a6.kQ P N,(B.out.trans z).trans ci⟩,by simp[S2];omega⟩
   ·rw[s] at b4 F;have U:Sb (there (l.take (d+1))=there (l.take d)):=by show _=_;simpa using F
    have T:Sb (mG x=0):=by show _=_;unfold mG;rw[s];rfl
    clear F s
    go_wp2_with (at_builtin;refine aS _ rfl _ _ 22 rfl w.heap.size 3 a0 (.int .i64 0) 1 8 aa.underlying22 Y am ao ar rfl (by decide) _ d _ rfl ((i.alloc _).alloc _) ⟨wr.heap.size+1,0,RZ⟩ 1 1 [.int .i64 0] rfl (by decide) rfl (by simpa using je (wr.alloc _) _ _) (xy _) (by unfold Sw;omega) (by omega) (by simp;omega) ?_;intro q j P V)
    have m:=aP.box (aP.append V);rw[j8] at P;have z:Si w.heap.size wr j:=m.below (fun J f=>(i.lt J f).1) al;refine⟨⟨d+1,by omega,by simp,by rw[a2.out,T.out];exact P,by rw[U.out];exact eG o m K.symm,(K.symm.kQ o m).symm,B.out.trans z⟩,by simp[S2];omega⟩
  ·have bm:d=l.length:=by omega
   have bl:l.take d=l:=Tj (by omega);rw[bl] at i o;have bo:((l.map mG).length)=l.length:=SV _;have ab:wr.ownsRow w.heap.size 3 1 u9 (l.map mG).length (aW (l.map mG)):=by rw[bo,← bm];exact i
   have H:Sb (aX k e l=bC (l.map mG) ++ cQ k e (there l)):=rfl;have Q:Sb (∀ x∈there l,oG x):=fun x s=>a4.out x (Av s);have c9:=n6 l;have cs:=nT (l.map mG) (by omega);have a7:Apart u9 u:=(Apart.new (B:=0) R.out ab).symm;have E:Apart u10 u:=(Apart.new (B:=0) R.out o).symm;have a3:Sb (wr.ownsRow base 5 1 u pre.length (aA pre)):=aM R.out B.out;have G:Sb (SF (aa.of RY) 142 #[u,u9] wr fun e w'=>∃ t,e= .returned t∧w'.ownsRow base 5 1 t (pre ++ bC (l.map mG)).length (aA (pre ++ bC (l.map mG)))∧aP wr w' u t):=
    um u u9 pre (l.map mG) base w.heap.size wr (by omega) (by omega) (by omega) a3.out ab a7
   have c7:(pre ++ bC (l.map mG)).length≤32000:=by rw[Sc];omega
   generalize bC (l.map mG)=a5 at*;generalize bb:pre ++ a5=g at*;have I:Sb (pre ++ a5=g):=bb;generalize there l=c at*;have C:Sb (∀ a b,aP wr a u b→a.ownsRow w.heap.size 59 3 u10 c.length (aC c)∧Apart u10 b):=fun a b f=>⟨eG o f E,E.kQ o f⟩;clear bb cs bo i ab a7 a3 K L bl bm a4 R;rcases AP e with rfl|rfl|rfl|rfl|⟨c2,a8,a9,ba⟩
   ·have y:Sb (cQ k 0 c=aE k c):=rfl;have v:Sb (∀ a b,a.ownsRow base 5 1 b g.length (aA g)→aP wr a u b→SF (aa.of RY) 146 #[b,u10,.int .i64 k] a fun e w'=>∃ h,e= .returned h∧w'.ownsRow base 5 1 h (g ++ aE k c).length (aA (g ++ aE k c))∧aP a w' b h):=fun a b i f=>
     og b _ g c k base a Z Q.out (by omega) (by omega) (by have:=f.ij.size;omega) i (fun w' h M=>qV.cy (eG (C.out a b f).1 M (C.out a b f).2))
    clear o E
    go_wp2_with first
     |(go_at_call 142;refine G.out.mono ?_;rintro e a ⟨b,rfl,A,n⟩)
     |(go_at_call 146;refine(v.out _ _ A n).mono ?_;rintro e j ⟨q,rfl,p,m⟩)
    go_ret;refine⟨_,rfl,?_,(aP.bS B.out).trans (n.trans m)⟩;rw[H.out,y.out,← SG,I.out];exact p
   ·have y:Sb (cQ k 1 c=bM 0 c):=rfl;have v:Sb (∀ a b,a.ownsRow base 5 1 b g.length (aA g)→aP wr a u b→SF (aa.of RY) 143 #[b,u10] a fun e w'=>∃ h,e= .returned h∧w'.ownsRow base 5 1 h (g ++ bM 0 c).length (aA (g ++ bM 0 c))∧aP a w' b h):=fun a b i f=>
     (a1.out.resolve_left (by decide)).2 b _ g c base a Q.out (by omega) (by omega) (by have:=f.ij.size;omega) i (fun w' h M=>qV.cy (eG (C.out a b f).1 M (C.out a b f).2))
    clear o E
    go_wp2_with first
     |(go_at_call 142;refine G.out.mono ?_;rintro e a ⟨b,rfl,A,n⟩)
     |(go_at_call 143;refine(v.out _ _ A n).mono ?_;rintro e j ⟨q,rfl,p,m⟩)
    go_ret;refine⟨_,rfl,?_,(aP.bS B.out).trans (n.trans m)⟩;rw[H.out,y.out,← SG,I.out];exact p
   ·have y:Sb (cQ k 2 c=dZ k c):=rfl;have v:Sb (∀ a b,a.ownsRow base 5 1 b g.length (aA g)→aP wr a u b→SF (aa.of RY) 144 #[b,u10,.int .i64 k] a fun e w'=>∃ h,e= .returned h∧w'.ownsRow base 5 1 h (g ++ dZ k c).length (aA (g ++ dZ k c))∧aP a w' b h):=fun a b i f=>
     (a1.out.resolve_left (by decide)).1 b _ g c k base a Z Q.out (by omega) (by omega) (by have:=f.ij.size;omega) i (qV.cy (C.out a b f).1)
    clear o E
    go_wp2_with first
     |(go_at_call 142;refine G.out.mono ?_;rintro e a ⟨b,rfl,A,n⟩)
     |(go_at_call 144;refine(v.out _ _ A n).mono ?_;rintro e j ⟨q,rfl,p,m⟩)
    go_ret;refine⟨_,rfl,?_,(aP.bS B.out).trans (n.trans m)⟩;rw[H.out,y.out,← SG,I.out];exact p
   ·have y:Sb (cQ k 3 c=bC (c.map az.n)):=rfl;have co:(c.map az.n).length=c.length:=SV _;have v:Sb (∀ a b,aP wr a u b→SF (aa.of RY) 145 #[u10] a fun e w'=>∃ t,e= .returned t∧w'.ownsRow a.heap.size 3 1 t c.length (aW (c.map az.n))∧Si a.heap.size a w'):=fun a b f=>
     Ep u10 c a (by omega) (qV.cy (C.out a b f).1)
    have cc:Sb (∀ a j b q,a.ownsRow base 5 1 b g.length (aA g)→aP wr a u b→j.ownsRow a.heap.size 3 1 q c.length (aW (c.map az.n))→Si a.heap.size a j→SF (aa.of RY) 142 #[b,q] j fun e w'=>∃ t,e= .returned t∧w'.ownsRow base 5 1 t (g ++ bC (c.map az.n)).length (aA (g ++ bC (c.map az.n)))∧aP j w' b t):=fun a j b q i f p z=>
     um b q g (c.map az.n) base a.heap.size j (by omega) (by omega) (by have:=f.ij.size;have:=z.size;omega) (aM i z) (by rw[co];exact p) (Apart.new (B:=0) i p).symm
    clear o E
    go_wp2_with fail
    refine G.out.mono ?_;rintro e a ⟨b,rfl,A,n⟩
    go_wp2_with first
     |(go_at_call 145;refine(v.out _ _ n).mono ?_;rintro e j ⟨q,rfl,p,z⟩)
     |(go_at_call 142;refine(cc.out _ _ _ _ A n p z).mono ?_;rintro e cb ⟨cR,rfl,S,N⟩)
    go_ret;refine⟨_,rfl,?_,(aP.bS B.out).trans (n.trans ((aP.bS z).trans N))⟩;rw[H.out,y.out,← SG,I.out];exact S
   ·have y:Sb (cQ k e c=aE k c):=by
     show _=_;simp at a8 a9 ba;unfold cQ;rw[if_neg a8,if_neg a9,if_neg ba]
    have v:Sb (∀ a b,a.ownsRow base 5 1 b g.length (aA g)→aP wr a u b→SF (aa.of RY) 146 #[b,u10,.int .i64 k] a fun e w'=>∃ h,e= .returned h∧w'.ownsRow base 5 1 h (g ++ aE k c).length (aA (g ++ aE k c))∧aP a w' b h):=fun a b i f=>
     og b _ g c k base a Z Q.out (by omega) (by omega) (by have:=f.ij.size;omega) i (fun w' h M=>qV.cy (eG (C.out a b f).1 M (C.out a b f).2))
    clear o E
    go_wp2_with first
     |(go_at_call 142;refine G.out.mono ?_;rintro e a ⟨b,rfl,A,n⟩)
     |(go_at_call 146;refine(v.out _ _ A n).mono ?_;rintro e j ⟨q,rfl,p,m⟩)
    go_ret;refine⟨_,rfl,?_,(aP.bS B.out).trans (n.trans m)⟩;rw[H.out,y.out,← SG,I.out];exact p
theorem yX(k e:Int)(l:List az)(h:∀ x∈l,oG x)(j:l.length≤100):(cQ k e l).length≤100000:=by
 unfold cQ
 split
 ·have:=y8 0 l;omega
 ·split
  ·unfold dZ;have a:=wH l l.length (R8 _);rw[Tk] at a;obtain⟨f,g,i,b⟩:=a;have n:=lW k (dfold l).1 (fun x d=>h x (b x d));have o:=ej 10 (dfold l).1.length;have c:=BV (dfold l).1.length;have m:(dfold l).2.length*wid (dfold l).1.length≤100*7:=Nat.mul_le_mul (by omega) c;rw[Sc,Sc,fo];unfold ax;omega
  ·split
   ·have:=nT (l.map az.n) (by rw[SV];omega);omega
   ·have:=lW k l h;omega
structure Ek(v:az):Prop where
 lo: -9223372036854775808≤v.n
 hi:v.n≤9223372036854775807
def x9{s:ByteArray}(h:s.toList=[]):s.size=0:=by
 have a:s.toList=s.data.toList:=Vi s;rw[a] at h;show s.data.size=0;rw[← T5,h];rfl
def yH{x:az}{k:Int}(h:Ek x)(a:eU x k=R7):oG x:=by
 refine⟨h.lo,h.hi,?_⟩;unfold eU at a
 split at a
 ·simp at a;have:=x9 a.2;omega
 ·split at a
  ·simp at a;have:=x9 a;omega
  ·split at a
   ·simp at a;have:=x9 a.2;omega
   ·simp at a;omega
def gZ (l:List az)(k e:Int):ByteArray×Int:=
 if 100<l.length then(⟨#[]⟩,6) else if aY k e=R6 then(⟨#[]⟩,2) else if (l.all fun a=>eU a k)=R6 then(⟨#[]⟩,1) else(strOf (aX k e l),0)
def KD{l:List az}{k e:Int}(h:100<l.length):gZ l k e=(⟨#[]⟩,6):=by unfold gZ;rw[if_pos h]
def M9{l:List az}{k e:Int}(h:¬ 100<l.length)(a:aY k e=R6):gZ l k e=(⟨#[]⟩,2):=by unfold gZ;rw[if_neg h,if_pos a]
def M8{l:List az}{k e:Int}(h:¬ 100<l.length)(a:aY k e=R7)(j:Nat)(c:j<l.length)(d:eU l[j] k=R6):gZ l k e=(⟨#[]⟩,1):=by
 unfold gZ;rw[if_neg h,if_neg (by simp[a]),if_pos];rw[Bool.eq_false_iff];intro b;have:=SC.1 b _ (Sl c);rw[d] at this;cases this
def KE{l:List az}{k e:Int}(h:¬ 100<l.length)(c:aY k e=R7)(d:∀ j,(a:j<l.length)→eU l[j] k=R7):gZ l k e=(strOf (aX k e l),0):=by
 unfold gZ;rw[if_neg h,if_neg (by simp[c]),if_neg];have:(l.all fun b=>eU b k)=R7:=by
  rw[SC];intro b f;obtain⟨j,a,rfl⟩:=TK f;exact d j a
 simp[this]
theorem zN{k e:Int}(h:aY k e=R7):(k=1∨k=2∨k=3)∧(e=0∨e=1∨e=2∨e=3):=by
 constructor
 ·rcases AP k with rfl|rfl|rfl|rfl|⟨j,f,g,i⟩
  ·simp[aY,fI] at h
  ·exact .inl rfl
  ·exact .inr (.inl rfl)
  ·exact .inr (.inr rfl)
  ·rw[Lf f g i] at h;cases h
 ·rcases AP e with rfl|rfl|rfl|rfl|⟨a,b,c,d⟩
  ·exact .inl rfl
  ·exact .inr (.inl rfl)
  ·exact .inr (.inr (.inl rfl))
  ·exact .inr (.inr (.inr rfl))
  ·rw[Nv a b c d] at h;cases h
theorem Ch{e:Int}(t:e=0∨qw∧mN)(P:R2)(l:List az)(k:Int)(w:R3)(ad:l.length≤Sw)(K:∀ x∈l,Ek x)(al:qV w P l):
 SF (aa.of RY) 87 #[P,.int .i64 k,.int .i64 e] w fun r w'=>r= .returned (.tuple #[.string (gZ l k e).1,.int .i64 (gZ l k e).2])∧Si w.heap.size w w':=by
 have T:Sb (e=0∨qw∧mN):=t;clear t;obtain⟨p,I,Q,B,rfl,d⟩:=al;unfold Sw at ad;have g:=oo (l.length:Int) k e;by_cases s:100<l.length
 ·rw[KD s];rw[show iy (l.length:Int) k e=6 from by unfold iy;rw[if_pos (by omega)]] at g;go_enter aa.func87,Tryz.ntmps87
  go_wp2_with (go_at_call 123;refine(g _).mono ?_;rintro e w' ⟨rfl,rfl⟩)
  all_goals go_ret2
  all_goals exact⟨rfl,So _ _⟩
 cases f:aY k e
 ·rw[M9 s f];rw[show iy (l.length:Int) k e=2 from by unfold iy;rw[if_neg (by omega),f];rfl] at g;go_enter aa.func87,Tryz.ntmps87
  go_wp2_with (go_at_call 123;refine(g _).mono ?_;rintro e w' ⟨rfl,rfl⟩)
  all_goals go_ret2
  all_goals exact⟨rfl,So _ _⟩
 rw[show iy (l.length:Int) k e=0 from by unfold iy;rw[if_neg (by omega),f];rfl] at g;obtain⟨L,t⟩:=zN f;have G:Sb (aY k e=R7):=f;have H:Sb (k=1∨k=2∨k=3):=L;have U:Sb (∀ x∈l,Ek x):=K;have y:Sb (sM w p I Q l):=d;clear f t L K d;go_enter aa.func87,Tryz.ntmps87
 go_wp2_with (go_at_call 123;refine(g _).mono ?_;rintro e w' ⟨rfl,N⟩;rw[N];clear N)
 go_loopw [21] (fun E wr=>∃ b:Nat,b≤l.length∧E= .int .i64 b∧(∀ a,(c:a<l.length)→a<b→eU l[a] k=R7)∧Si w.heap.size w wr) (fun E _=>l.length - (S2 E).toNat)
 case atStart=>exact⟨0,SK _,rfl,fun a _ q=>by omega,So _ _⟩
 case round=>
  obtain⟨b,ar,rfl,h,i⟩:=hrel;have n:Sb (∀ a,(c:a<l.length)→a<b→eU l[a] k=R7):=h;have v:Sb (Si w.heap.size w wr):=i;have D:=i.size;clear h;by_cases u:b<l.length
  ·have d:=y.out.below i;obtain rfl:=d.addr (by omega);have aw:=d.c0 b u;have a0:=d.c1 b u;have a1:=d.c2 b u;have z:Sb (eU l[b] k=R6→gZ l k e=(⟨#[]⟩,1)):=fun q=>M8 s G.out b u q;have A:Sb (eU l[b] k=R7→∀ a,(c:a<l.length)→a<b+1→eU l[a] k=R7):=fun q a c f=>by
    by_cases Y:a=b
    ·subst Y;exact q
    ·exact n.out a c (by omega)
   have o:Sb (∀ m,SF (aa.of RY) 82 #[.agg #[.bool l[b].null,.int .i64 l[b].n,.string l[b].s],.int .i64 k] m fun e w'=>e= .returned (.bool (eU l[b] k))∧Si m.heap.size m w'):=fun m=>pM l[b] k m H.out;clear d i n y;generalize l[b]=x at*;cases j:eU x k
   ·have W:Sb (gZ l k e=(⟨#[]⟩,1)):=z.out j;rw[j] at o;clear z A j
    go_wp2_with (go_at_call 82;refine(o.out _).mono ?_;rintro e R ⟨rfl,C⟩)
    go_ret2
    rw[W.out];exact⟨rfl,v.out.trans ((sV C).mono D)⟩
   ·have X:Sb (∀ a,(c:a<l.length)→a<b+1→eU l[a] k=R7):=A.out j;rw[j] at o;clear z A j
    go_wp2_with (go_at_call 82;refine(o.out _).mono ?_;rintro e R ⟨rfl,C⟩)
    go_roundw
    case rel=>exact⟨b+1,by omega,by go_num,X.out,v.out.trans ((sV C).mono D)⟩
    case measure=>simp[S2];omega
  ·have h:∀ a,(c:a<l.length)→eU l[a] k=R7:=fun a c=>n.out a c (by omega);have V:Sb (gZ l k e=(strOf (aX k e l),0)):=KE s G.out h;have M:∀ x∈l,oG x:=fun x O=>by
    obtain⟨a,c,rfl⟩:=TK O;exact yH (U.out _ O) (h a c)
   have S:Sb (SF (aa.of RY) 124 #[.slice RZ 0 0,.slice p l.length B,.int .i64 k,.int .i64 e] wr fun r w'=>∃ F,r= .returned F∧w'.ownsRow wr.heap.size 5 1 F (aX k e l).length (aA (aX k e l))∧aP wr w' (.slice RZ 0 0) F):=by
    have J:=sO T.out (.slice RZ 0 0) (.slice p l.length B) [] l k wr.heap.size wr H.out M (by omega) (by simp) (R8 _) (Ur _ _ _ _) ⟨p,I,Q,B,rfl,y.out.below i⟩;rw[List.nil_append] at J;exact J
   clear n h M i
   go_wp2_with (go_at_call 124;refine S.out.mono ?_;rintro e R ⟨u1,rfl,ae,ab⟩;have ao:=o9 ae rfl)
   go_ret2
   rw[V.out];exact⟨rfl,v.out.trans ((ab.below (fun am Z=>by simp[TQ] at Z) (R8 _)).mono D)⟩
end Ec
namespace Ec
open Go.RowKit Pk
structure bG where
 name:ByteArray
 kind:Int
def dg (l:List bG):List R2:=l.flatMap fun a=>[.string a.name,.int .i64 a.kind]
structure qR(w:R3)(ao:Option SL)(b off:Nat)(l:List bG):Prop where
 addr:0<l.length→ao=RX ⟨b,off,RZ⟩
 lt:0<l.length→b<w.heap.size
 c0:∀ j (h:j<l.length),w.cell? ⟨b,off+j*2,RZ⟩=RX (.string l[j].name)
 c1:∀ j (h:j<l.length),w.cell? ⟨b,off+j*2+1,RZ⟩=RX (.int .i64 l[j].kind)
def qR.below{w w':R3}{e:Option SL}{b off:Nat}{l:List bG}(h:qR w e b off l)(c:Si w.heap.size w w'):qR w' e b off l:=
 ⟨h.addr,fun f=>Sa (h.lt f) c.size,
  fun a d=>(c.cell (p:=⟨b,off+a*2,RZ⟩) (h.lt (by omega))).trans (h.c0 a d),
  fun a d=>(c.cell (p:=⟨b,off+a*2+1,RZ⟩) (h.lt (by omega))).trans (h.c1 a d)⟩
def qR.take{w:R3}{e:Option SL}{b off:Nat}{l:List bG}(h:qR w e b off l)(n:Nat):qR w e b off (l.take n):=by
 refine⟨fun a=>h.addr ?_,fun a=>h.lt ?_,fun d c=>?_,fun d c=>?_⟩
 ·simp at a;omega
 ·simp at a;omega
 ·rw[TH];exact h.c0 d (by simp at c;omega)
 ·rw[TH];exact h.c1 d (by simp at c;omega)
def vB (w:R3)(v:R2)(l:List bG):Prop:=∃ a c d b,v= .slice a l.length b∧l.length≤b∧qR w a c d l
def vB.below{w w':R3}{v:R2}{l:List bG}(h:vB w v l)(d:Si w.heap.size w w'):vB w' v l:=by
 obtain⟨a,b,f,c,rfl,e,h⟩:=h;exact⟨a,b,f,c,rfl,e,h.below d⟩
def ot (c:bG):Bool:=decide ((1:Int)≤(c.name.size:Int)) && decide ((c.name.size:Int)≤16) && fI c.kind
def lE (l:List bG)(i:Nat):Prop:=∀ b:i<l.length,ot l[i]=R7∧∀ a (c:a<i),l[a].name≠l[i].name
def fB (l:List bG):Prop:=1≤l.length∧l.length≤8∧∀ a,lE l a
theorem A5(c:bG)(w:R3):
 SF (aa.of RY) 80 #[.agg #[.string c.name,.int .i64 c.kind]] w fun e w'=>e= .returned (.bool (ot c))∧Si w.heap.size w w':=by
 have a:=nG c.kind;cases b:decide ((1:Int)≤(c.name.size:Int))<;>cases d:decide ((c.name.size:Int)≤16)
 all_goals
  go_enter aa.func80,Tryz.ntmps80
  go_wp2_with (go_at_call 120;refine(a _).mono ?_;rintro e w' ⟨rfl,rfl⟩)
  all_goals go_ret
  all_goals refine⟨kw ?_,(So _ _).alloc (R8 _) _⟩
  all_goals simp_all [ot]
  all_goals try (intros;omega)
theorem CJ(l:List bG)(s:ByteArray)(p:Option SL)(b off cap:Nat)(w:R3)(D:l.length≤Sw)(d:qR w p b off l):
 SF (aa.of RY) 81 #[.slice p l.length cap,.string s] w fun e w'=>∃ bb,e= .returned (.bool bb)∧(bb=R7↔∃ k,∃ h:k<l.length,l[k].name=s)∧Si w.heap.size w w':=by
 unfold Sw at D;have u:Sb (qR w p b off l):=d;clear d;go_enter aa.func81,Tryz.ntmps81
 go_wp2_with fail
 go_loopw [9] (fun r wr=>∃ c:Nat,c≤l.length∧r= .int .i64 c∧(∀ a,(i:a<l.length)→a<c→l[a].name≠s)∧Si w.heap.size w wr) (fun r _=>l.length - (S2 r).toNat)
 case atStart=>exact⟨0,SK _,rfl,fun a _ h=>by omega,So _ _⟩
 case round=>
  obtain⟨c,G,rfl,x,g⟩:=hrel;have j:Sb (∀ a,(i:a<l.length)→a<c→l[a].name≠s):=x;have m:Sb (Si w.heap.size w wr):=g;have y:=g.size;clear x;by_cases q:c<l.length
  ·have d:=u.out.below g;obtain rfl:=d.addr (by omega);have H:=d.c0 c q;have I:=d.c1 c q;have n:Sb (l[c].name=s→∃ k,∃ h:k<l.length,l[k].name=s):=fun h=>⟨c,q,h⟩;have o:Sb (l[c].name≠s→∀ a,(i:a<l.length)→a<c+1→l[a].name≠s):=fun h a i F=>by
    by_cases C:a=c
    ·subst C;exact h
    ·exact j.out a i (by omega)
   clear d g j u;generalize l[c]=t at*;by_cases f:t.name=s
   ·have v:=n.out f;have A:Sb (∃ k,∃ h:k<l.length,l[k].name=s):=v;have E:(t.name.toList == s.toList)=R7:=by rw[f];simp
    clear n o f v;go_wp2;go_ret;exact⟨R7,rfl,by simp only[true_iff];exact A.out,m.out.alloc y _⟩
   ·have B:Sb (∀ a,(i:a<l.length)→a<c+1→l[a].name≠s):=o.out f;have E:(t.name.toList == s.toList)=R6:=by rw[beq_eq_false_iff_ne];exact fun h=>f (toList_inj h)
    clear n o f;go_wp2
    go_roundw
    case rel=>exact⟨c+1,by omega,by go_num,B.out,m.out.alloc y _⟩
    case measure=>simp[S2];omega
  ·have z:Sb (¬ ∃ k,∃ h:k<l.length,l[k].name=s):=by
    rintro⟨k,h,e⟩;exact j.out k h (by omega) e
   clear j g;go_wp2;go_ret;exact⟨R6,rfl,by simp only[SD,false_iff];exact z.out,m.out⟩
def nA(w:R3)(a b:R2)(t:Sg):(w.alloc (.cells #[a,b] t)).cell? ⟨w.heap.size,0,RZ⟩=RX a∧(w.alloc (.cells #[a,b] t)).cell? ⟨w.heap.size,1,RZ⟩=RX b:=by
 constructor<;>simp
def C3 (a b:Int):Int:=if a<b then -1 else if b<a then 1 else 0
def eD (x y:az):Int:=if x.n<y.n then -1 else if y.n<x.n then 1 else S9 x.s.data.toList y.s.data.toList
def N8(x y:az):eD x y=if C3 x.n y.n=0 then S9 x.s.data.toList y.s.data.toList else C3 x.n y.n:=by
 unfold eD C3;by_cases a:x.n<y.n
 ·rw[if_pos a,if_pos a,if_neg (by omega)]
 ·rw[if_neg a,if_neg a];by_cases b:y.n<x.n
  ·rw[if_pos b,if_pos b,if_neg (by omega)]
  ·rw[if_neg b,if_neg b,if_pos rfl]
def Ip(a:Int)(w:R3):SF (aa.of RY) 159 #[.int .i64 a] w fun e w'=>e= .returned (.bool R6)∧w'=w:=by
 go_enter aa.func159,Tryz.ntmps159;go_wp2;go_ret;exact⟨rfl,rfl⟩
theorem wE(a b:Int)(w:R3):SF (aa.of RY) 148 #[.int .i64 a,.int .i64 b] w fun e w'=>e= .returned (.int .i64 (C3 a b))∧w'=w:=by
 have c:=Ip;unfold C3;go_enter aa.func148,Tryz.ntmps148;by_cases d:a<b
 ·rw[if_pos d]
  go_wp2_with (go_at_call 159;refine(c _ _).mono ?_;rintro g w' ⟨rfl,rfl⟩)
  go_ret;exact⟨rfl,rfl⟩
 ·rw[if_neg d];by_cases f:b<a
  ·rw[if_pos f]
   go_wp2_with (go_at_call 159;refine(c _ _).mono ?_;rintro g w' ⟨rfl,rfl⟩)
   go_ret;exact⟨rfl,rfl⟩
  ·rw[if_neg f]
   go_wp2_with (go_at_call 159;refine(c _ _).mono ?_;rintro g w' ⟨rfl,rfl⟩)
   go_ret;exact⟨rfl,rfl⟩
def yW(a b:ByteArray)(w:R3):SF (aa.of RY) 160 #[.string a,.string b] w fun e w'=>e= .returned (.int .i64 (S9 a.data.toList b.data.toList))∧w'=w:=by
 go_enter aa.func160,Tryz.ntmps160;go_wp2;rw[run_callFunc_extern aa.func168 (by kernel_rfl) (by kernel_rfl) (by kernel_rfl) (e:=Va) (by kernel_rfl),Lib.run_compareString];simp only[Result.andThen];rw[Oper.upon_value];go_wp2;go_ret;exact⟨rfl,rfl⟩
def By(a b:ByteArray)(w:R3):SF (aa.of RY) 149 #[.string a,.string b] w fun e w'=>e= .returned (.int .i64 (S9 a.data.toList b.data.toList))∧w'=w:=by
 go_enter aa.func149,Tryz.ntmps149
 go_wp2_with (go_at_call 160;refine(yW _ _ _).mono ?_;rintro e w' ⟨rfl,rfl⟩)
 go_ret;exact⟨rfl,rfl⟩
theorem Ht(a b:Int)(g:Nat)(w:R3)(p:w.cell? ⟨g,0,RZ⟩=RX (.int .i64 a))(h1:w.cell? ⟨g,1,RZ⟩=RX (.int .i64 b)):
 SF (aa.of RY) 147 #[.slice (RX ⟨g,0,RZ⟩) 2 2] w fun e w'=>e= .returned (.int .i64 (if a=0 then b else a))∧w'=w:=by
 go_enter aa.func147,Tryz.ntmps147
 go_wp2_with fail
 go_loopw [8] (fun i wr=>∃ d:Nat,d≤2∧i= .int .i64 (d:Int)∧(1≤d→a=0)∧(2≤d→b=0)∧wr=w) (fun i _=>2 - (S2 i).toNat)
 case atStart=>exact⟨0,by omega,rfl,fun n=>by omega,fun n=>by omega,rfl⟩
 case round=>
  obtain⟨d,o,rfl,k,l,rfl⟩:=hrel;have j:Sb (1≤d→a=0):=k;have m:Sb (2≤d→b=0):=l;clear k l
  match d,o with
  |0,_=>
   by_cases c:a=0
   ·have h:(a != 0)=R6:=by simp[c]
    have f:Sb (a=0):=c;clear c;go_wp2
    go_roundw
    case rel=>
     refine⟨1,by omega,rfl,fun _=>f.out,?_⟩;simp
    case measure=>simp[S2]
   ·have h:(a != 0)=R7:=by simp[c]
    have f:Sb (¬ a=0):=c;clear c;go_wp2;go_ret;exact⟨rfl,rfl⟩
  |1,_=>
   obtain rfl:a=0:=j.out (by omega);by_cases c:b=0
   ·have h:(b != 0)=R6:=by simp[c]
    have f:Sb (b=0):=c;clear c;go_wp2
    go_roundw
    case rel=>
     refine⟨2,by omega,rfl,?_⟩;simp
     try exact f.out
    case measure=>simp[S2]
   ·have h:(b != 0)=R7:=by simp[c]
    clear c;go_wp2;go_ret;exact⟨rfl,rfl⟩
  |2,_=>
   obtain rfl:a=0:=j.out (by omega);obtain rfl:b=0:=m.out (by omega);go_wp2;go_ret;exact⟨rfl,rfl⟩
def gm{w:R3}(o p:U9):Si w.heap.size w ((w.alloc o).alloc p):=((So _ _).alloc (R8 _) o).alloc (by simp) p
def J8(w:R3)(x y:az):(fun a:R3=>a.cell? ⟨w.heap.size,1,RZ⟩=RX (.int .i64 x.n)∧a.cell? ⟨w.heap.size,2,RZ⟩=RX (.string x.s)∧a.cell? ⟨w.heap.size+1,1,RZ⟩=RX (.int .i64 y.n)∧a.cell? ⟨w.heap.size+1,2,RZ⟩=RX (.string y.s)) ((w.alloc (.cells #[.bool x.null,.int .i64 x.n,.string x.s] 59)).alloc (.cells #[.bool y.null,.int .i64 y.n,.string y.s] 59)):=by
 refine⟨?_,?_,?_,?_⟩<;>simp
theorem iQ(x y:az)(w:R3):
 SF (aa.of RY) 125 #[.agg #[.bool x.null,.int .i64 x.n,.string x.s],.agg #[.bool y.null,.int .i64 y.n,.string y.s]] w fun e w'=>e= .returned (.int .i64 (eD x y))∧Si w.heap.size w w':=by
 have j:=wE x.n y.n;have k:=By x.s y.s;have l:Sb (∀ (a:R3) (d:Nat),d=a.heap.size→SF (aa.of RY) 147 #[.slice (RX ⟨d,0,RZ⟩) 2 2] ((a.alloc (.cells #[.int .i64 (C3 x.n y.n),.int .i64 (S9 x.s.data.toList y.s.data.toList)] 3)).drew) fun e w'=>e= .returned (.int .i64 (eD x y))∧w'=((a.alloc (.cells #[.int .i64 (C3 x.n y.n),.int .i64 (S9 x.s.data.toList y.s.data.toList)] 3)).drew)):=fun a d i=>by
  rw[N8];subst i;exact Ht _ _ a.heap.size _ (by simp) (by simp)
 generalize C3 x.n y.n=n at*;generalize S9 x.s.data.toList y.s.data.toList=o at*;generalize eD x y=p at*;go_enter aa.func125,Tryz.ntmps125
 go_upto_region 1 with fail
 have h:Si w.heap.size w ((w.alloc (.cells #[.bool x.null,.int .i64 x.n,.string x.s] 59)).alloc (.cells #[.bool y.null,.int .i64 y.n,.string y.s] 59)):=gm _ _;have m:=J8 w x y;have i:w.heap.size+1<((w.alloc (.cells #[.bool x.null,.int .i64 x.n,.string x.s] 59)).alloc (.cells #[.bool y.null,.int .i64 y.n,.string y.s] 59)).heap.size:=by simp
 generalize (w.alloc (.cells #[.bool x.null,.int .i64 x.n,.string x.s] 59)).alloc (.cells #[.bool y.null,.int .i64 y.n,.string y.s] 59)=f at*;obtain⟨s,t,u,v⟩:=m;have q:w.heap.size≠f.heap.size:=by omega
 have r:w.heap.size+1≠f.heap.size:=by omega
 generalize w.heap.size+1=g at*
 go_region_held (fun a=>a.cell? ⟨w.heap.size,1,RZ⟩=RX (.int .i64 x.n)∧a.cell? ⟨w.heap.size,2,RZ⟩=RX (.string x.s)∧a.cell? ⟨g,1,RZ⟩=RX (.int .i64 y.n)∧a.cell? ⟨g,2,RZ⟩=RX (.string y.s)) (go_keep) (first
  |(go_at_call 148;refine(j _).mono ?_;rintro e c ⟨rfl,b⟩;rw[b];clear b c)
  |(go_at_call 149;refine(k _).mono ?_;rintro e c ⟨rfl,b⟩;rw[b];clear b c)
  |(go_at_call 147;refine(l.out _ _ rfl).mono ?_;rintro e c ⟨rfl,b⟩;rw[b];clear b c))
 all_goals go_wp2_with fail
 all_goals go_ret
 all_goals exact⟨rfl,(h.alloc h.size _).drew⟩
theorem zM:∀ A B:List UInt8,S9 A B= - S9 B A
 | [],[]=>rfl
 | [],_ :: _=>rfl
 |_ :: _,[]=>rfl
 |a :: f,d :: g=>by
  have e:=zM f g;simp only[S9];by_cases b:a<d
  ·rw[if_pos b,if_neg (by rw[UInt8.lt_iff_toNat_lt] at b ⊢;omega),if_pos b]
  ·rw[if_neg b];by_cases c:d<a
   ·rw[if_pos c,if_pos c];rfl
   ·rw[if_neg c,if_neg c,if_neg b,e]
def qg(x y:az):eD x y= - eD y x:=by
 unfold eD;by_cases a:x.n<y.n
 ·rw[if_pos a,if_neg (by omega),if_pos a]
 ·rw[if_neg a];by_cases b:y.n<x.n
  ·rw[if_pos b,if_pos b];rfl
  ·rw[if_neg b,if_neg b,if_neg a];exact zM _ _
def ug(x:az):eD x x=0:=by
 have:=qg x x;omega
structure kU where
 there:Bool
 least:az
 most:az
def bX:kU:=⟨R6,⟨R6,0,⟨#[]⟩⟩,⟨R6,0,⟨#[]⟩⟩⟩
def mC (b:kU)(v:az):kU:=
 if v.null then b
 else⟨R7,if b.there=R6∨eD v b.least<0 then v else b.least,if b.there=R6∨0<eD v b.most then v else b.most⟩
def bO (l:List az):kU:=l.foldl mC bX
def AN(l:List az)(k:Nat)(h:k<l.length):bO (l.take (k+1))=mC (bO (l.take k)) l[k]:=by
 unfold bO;rw[Su h,List.foldl_append];rfl
end Ec
namespace Ec
open Go.RowKit Pk Pm
def aG(w:R3)(g o:Nat)(v:R2):w.grownBy (w.setCell ⟨g,o,RZ⟩ v) (RX g):=
 ⟨rfl,rfl,rfl,by simp,fun c _ b=>Sv _ _ _ _ (fun a=>b (by cases a;rfl))⟩
def ey{n:Nat}{w a:R3}(h:Si n w a)(c:n≤a.heap.size){g:Nat}(e:n≤g)(o:Nat)(v:R2):Si n w (a.setCell ⟨g,o,RZ⟩ v):=
 h.grown (aG a g o v) c (by intro d b;simp at b;omega)
def b5{n:Nat}{w a:R3}(h:Si n w a)(c:n≤w.heap.size){g:Nat}(b:n≤g)(o:Nat)(v:R2):Si n w (a.setCell ⟨g,o,RZ⟩ v):=
 ey h (Ss c h.size) b o v
def bw(w:R3)(o:U9):(w.alloc o).heap[w.heap.size]? =RX o:=by
 show(w.heap.push o)[w.heap.size]? =RX o;simp
def alloc_old{w:R3}{k:Nat}{x:Option U9}(o:U9)(h:k<w.heap.size)(a:w.heap[k]? =x):(w.alloc o).heap[k]? =x:=
 (((So w.heap.size w).alloc (R8 _) o).block k h).trans a
def jA(w:R3)(o p:U9):((w.alloc o).alloc p).heap[w.heap.size+1]? =RX p:=by
 have:=bw (w.alloc o) p;rwa [show(w.alloc o).heap.size=w.heap.size+1 by simp] at this
def fj (b:kU):Array R2:= #[.bool b.there,.bool b.least.null,.int .i64 b.least.n,.string b.least.s,.bool b.most.null,.int .i64 b.most.n,.string b.most.s]
def Ev (b:kU):R2:=.agg #[.bool b.there,.bool b.least.null,.int .i64 b.least.n,.string b.least.s,.bool b.most.null,.int .i64 b.most.n,.string b.most.s]
structure BZ(w W:R3)(gv:Nat)(x:az)(b:kU):Prop where
 box:W.heap[w.heap.size+1]? =RX (.cells (fj b) 141 (0,0))
 res:W.heap[w.heap.size]? =RX (.cells (fj bX) 141 (0,0))
 one:W.heap[gv]? =RX (.cells #[.bool x.null,.int .i64 x.n,.string x.s] 59 (0,0))
 yL:w.heap.size+1<gv
 fq:Si w.heap.size w W
def BZ.below{w c d:R3}{e:Nat}{x:az}{b:kU}(h:BZ w c e x b)(a:Si c.heap.size c d):BZ w d e x b:=
 ⟨(a.block _ (Sf h.box)).trans h.box,(a.block _ (Sf h.res)).trans h.res,(a.block _ (Sf h.one)).trans h.one,h.yL,h.fq.trans (a.mono h.fq.size)⟩
theorem BZ.least{w a:R3}{d:Nat}{x:az}{b:kU}(h:BZ w a d x b):
 BZ w (((a.setCell ⟨w.heap.size+1,1,RZ⟩ (.bool x.null)).setCell ⟨w.heap.size+1,2,RZ⟩ (.int .i64 x.n)).setCell ⟨w.heap.size+1,3,RZ⟩ (.string x.s)) d x ⟨b.there,x,b.most⟩:=by
 have e:=Sq a (w.heap.size+1) 1 _ _ (.bool x.null) h.box;have f:=Sq _ (w.heap.size+1) 2 _ _ (.int .i64 x.n) e;have g:=Sq _ (w.heap.size+1) 3 _ _ (.string x.s) f;have c:=h.fq.size;have i:=h.yL;refine⟨g,?_,?_,h.yL,?_⟩
 ·rw[Sv _ _ _ _ (by simp),Sv _ _ _ _ (by simp),Sv _ _ _ _ (by simp)];exact h.res
 ·rw[Sv _ _ _ _ (by simp;omega),Sv _ _ _ _ (by simp;omega),Sv _ _ _ _ (by simp;omega)];exact h.one
 ·exact ey (ey (ey h.fq c (by omega) _ _) (by simpa using c) (by omega) _ _) (by simpa using c) (by omega) _ _
theorem BZ.most{w a:R3}{d:Nat}{x:az}{b:kU}(h:BZ w a d x b):
 BZ w (((a.setCell ⟨w.heap.size+1,4,RZ⟩ (.bool x.null)).setCell ⟨w.heap.size+1,5,RZ⟩ (.int .i64 x.n)).setCell ⟨w.heap.size+1,6,RZ⟩ (.string x.s)) d x ⟨b.there,b.least,x⟩:=by
 have e:=Sq a (w.heap.size+1) 4 _ _ (.bool x.null) h.box;have f:=Sq _ (w.heap.size+1) 5 _ _ (.int .i64 x.n) e;have g:=Sq _ (w.heap.size+1) 6 _ _ (.string x.s) f;have c:=h.fq.size;have i:=h.yL;refine⟨g,?_,?_,h.yL,?_⟩
 ·rw[Sv _ _ _ _ (by simp),Sv _ _ _ _ (by simp),Sv _ _ _ _ (by simp)];exact h.res
 ·rw[Sv _ _ _ _ (by simp;omega),Sv _ _ _ _ (by simp;omega),Sv _ _ _ _ (by simp;omega)];exact h.one
 ·exact ey (ey (ey h.fq c (by omega) _ _) (by simpa using c) (by omega) _ _) (by simpa using c) (by omega) _ _
def BZ.set{w a:R3}{c:Nat}{x:az}{b:kU}(h:BZ w a c x b):BZ w (a.setCell ⟨w.heap.size+1,0,RZ⟩ (.bool R7)) c x ⟨R7,b.least,b.most⟩:=by
 have d:=Sq a (w.heap.size+1) 0 _ _ (.bool R7) h.box;have e:=h.fq.size;have f:=h.yL;refine⟨d,?_,?_,h.yL,?_⟩
 ·rw[Sv _ _ _ _ (by simp)];exact h.res
 ·rw[Sv _ _ _ _ (by simp;omega)];exact h.one
 ·exact ey h.fq e (by omega) _ _
theorem dG{w:R3}{g:Nat}{b:kU}{t:Sg}(h:w.heap[g]? =RX (.cells (fj b) t (0,0))):
 (w.cell? ⟨g,0,RZ⟩=RX (.bool b.there)∧w.cell? ⟨g,1,RZ⟩=RX (.bool b.least.null)∧w.cell? ⟨g,2,RZ⟩=RX (.int .i64 b.least.n)∧w.cell? ⟨g,3,RZ⟩=RX (.string b.least.s)∧
   w.cell? ⟨g,4,RZ⟩=RX (.bool b.most.null)∧w.cell? ⟨g,5,RZ⟩=RX (.int .i64 b.most.n)∧w.cell? ⟨g,6,RZ⟩=RX (.string b.most.s))∧
 (w.frozen? ⟨g,0,RZ⟩=R6∧w.frozen? ⟨g,1,RZ⟩=R6∧w.frozen? ⟨g,2,RZ⟩=R6∧w.frozen? ⟨g,3,RZ⟩=R6∧w.frozen? ⟨g,4,RZ⟩=R6∧w.frozen? ⟨g,5,RZ⟩=R6∧w.frozen? ⟨g,6,RZ⟩=R6):=by
 unfold fj at h;refine⟨⟨?_,?_,?_,?_,?_,?_,?_⟩,?_,?_,?_,?_,?_,?_,?_⟩<;>first|simp[Sr,h]|simp[S4,h]
def bE{w:R3}{g:Nat}{a b c:R2}{t:Sg}(h:w.heap[g]? =RX (.cells #[a,b,c] t (0,0))):
 w.cell? ⟨g,0,RZ⟩=RX a∧w.cell? ⟨g,1,RZ⟩=RX b∧w.cell? ⟨g,2,RZ⟩=RX c:=by
 refine⟨?_,?_,?_⟩<;>simp[Sr,h]
theorem BZ.start{w wr:R3}{b:kU}(x:az)(d:wr.heap[w.heap.size+1]? =RX (.cells (fj b) 141 (0,0)))(e:wr.heap[w.heap.size]? =RX (.cells (fj bX) 141 (0,0)))(c:Si w.heap.size w wr):
 BZ w (wr.alloc (.cells #[.bool x.null,.int .i64 x.n,.string x.s] 59)) wr.heap.size x b:=by
 have f:=Sf d;have g:=Sf e;have a:=(So wr.heap.size wr).alloc (R8 _) (.cells #[.bool x.null,.int .i64 x.n,.string x.s] 59);refine⟨(a.block _ f).trans d,(a.block _ g).trans e,bw _ _,by omega,c.trans (a.mono c.size)⟩
theorem MR{w:R3}{g:Nat}{a:kU}(b:kU){t:Sg}(h:w.heap[g]? =RX (.cells (fj a) t (0,0))):
 (((((((w.setCell ⟨g,0,RZ⟩ (.bool b.there)).setCell ⟨g,1,RZ⟩ (.bool b.least.null)).setCell ⟨g,2,RZ⟩ (.int .i64 b.least.n)).setCell ⟨g,3,RZ⟩ (.string b.least.s)).setCell ⟨g,4,RZ⟩ (.bool b.most.null)).setCell ⟨g,5,RZ⟩ (.int .i64 b.most.n)).setCell ⟨g,6,RZ⟩ (.string b.most.s)).heap[g]? =RX (.cells (fj b) t (0,0)):=by
 have c:(w.setCell ⟨g,0,RZ⟩ (.bool b.there)).heap[g]? =RX (.cells (fj ⟨b.there,⟨a.least.null,a.least.n,a.least.s⟩,⟨a.most.null,a.most.n,a.most.s⟩⟩) t (0,0)):=Sq _ g 0 _ _ (.bool b.there) h;have d:((w.setCell ⟨g,0,RZ⟩ (.bool b.there)).setCell ⟨g,1,RZ⟩ (.bool b.least.null)).heap[g]? =RX (.cells (fj ⟨b.there,⟨b.least.null,a.least.n,a.least.s⟩,⟨a.most.null,a.most.n,a.most.s⟩⟩) t (0,0)):=Sq _ g 1 _ _ (.bool b.least.null) c;have e:(((w.setCell ⟨g,0,RZ⟩ (.bool b.there)).setCell ⟨g,1,RZ⟩ (.bool b.least.null)).setCell ⟨g,2,RZ⟩ (.int .i64 b.least.n)).heap[g]? =RX (.cells (fj ⟨b.there,⟨b.least.null,b.least.n,a.least.s⟩,⟨a.most.null,a.most.n,a.most.s⟩⟩) t (0,0)):=Sq _ g 2 _ _ (.int .i64 b.least.n) d;have f:((((w.setCell ⟨g,0,RZ⟩ (.bool b.there)).setCell ⟨g,1,RZ⟩ (.bool b.least.null)).setCell ⟨g,2,RZ⟩ (.int .i64 b.least.n)).setCell ⟨g,3,RZ⟩ (.string b.least.s)).heap[g]? =RX (.cells (fj ⟨b.there,⟨b.least.null,b.least.n,b.least.s⟩,⟨a.most.null,a.most.n,a.most.s⟩⟩) t (0,0)):=Sq _ g 3 _ _ (.string b.least.s) e;have i:(((((w.setCell ⟨g,0,RZ⟩ (.bool b.there)).setCell ⟨g,1,RZ⟩ (.bool b.least.null)).setCell ⟨g,2,RZ⟩ (.int .i64 b.least.n)).setCell ⟨g,3,RZ⟩ (.string b.least.s)).setCell ⟨g,4,RZ⟩ (.bool b.most.null)).heap[g]? =RX (.cells (fj ⟨b.there,⟨b.least.null,b.least.n,b.least.s⟩,⟨b.most.null,a.most.n,a.most.s⟩⟩) t (0,0)):=Sq _ g 4 _ _ (.bool b.most.null) f;have j:((((((w.setCell ⟨g,0,RZ⟩ (.bool b.there)).setCell ⟨g,1,RZ⟩ (.bool b.least.null)).setCell ⟨g,2,RZ⟩ (.int .i64 b.least.n)).setCell ⟨g,3,RZ⟩ (.string b.least.s)).setCell ⟨g,4,RZ⟩ (.bool b.most.null)).setCell ⟨g,5,RZ⟩ (.int .i64 b.most.n)).heap[g]? =RX (.cells (fj ⟨b.there,⟨b.least.null,b.least.n,b.least.s⟩,⟨b.most.null,b.most.n,a.most.s⟩⟩) t (0,0)):=Sq _ g 5 _ _ (.int .i64 b.most.n) i;have k:(((((((w.setCell ⟨g,0,RZ⟩ (.bool b.there)).setCell ⟨g,1,RZ⟩ (.bool b.least.null)).setCell ⟨g,2,RZ⟩ (.int .i64 b.least.n)).setCell ⟨g,3,RZ⟩ (.string b.least.s)).setCell ⟨g,4,RZ⟩ (.bool b.most.null)).setCell ⟨g,5,RZ⟩ (.int .i64 b.most.n)).setCell ⟨g,6,RZ⟩ (.string b.most.s)).heap[g]? =RX (.cells (fj ⟨b.there,⟨b.least.null,b.least.n,b.least.s⟩,⟨b.most.null,b.most.n,b.most.s⟩⟩) t (0,0)):=Sq _ g 6 _ _ (.string b.most.s) j;exact k
def yS{w w0:R3}{g:Nat}(b:kU){n:Nat}(d:Si n w0 w)(c:n≤w0.heap.size)(a:n≤g):
 Si n w0 (((((((w.setCell ⟨g,0,RZ⟩ (.bool b.there)).setCell ⟨g,1,RZ⟩ (.bool b.least.null)).setCell ⟨g,2,RZ⟩ (.int .i64 b.least.n)).setCell ⟨g,3,RZ⟩ (.string b.least.s)).setCell ⟨g,4,RZ⟩ (.bool b.most.null)).setCell ⟨g,5,RZ⟩ (.int .i64 b.most.n)).setCell ⟨g,6,RZ⟩ (.string b.most.s)):=
 b5 (b5 (b5 (b5 (b5 (b5 (b5 d c a _ _) c a _ _) c a _ _) c a _ _) c a _ _) c a _ _) c a _ _
theorem AM(ao:R2)(l:List az)(w:R3)(bu:l.length≤100)(bc:qV w ao l):
 SF (aa.of RY) 88 #[ao] w fun e w'=>e= .returned (Ev (bO l))∧Si w.heap.size w w':=by
 obtain⟨a2,a3,bd,bs,rfl,I⟩:=bc;have am:Sb (sM w a2 a3 bd l):=I;have a0:=fun k bm h=>iQ k bm h;clear I;go_enter aa.func88,Tryz.ntmps88
 go_wp2_with fail
 go_loopw [8] (fun ad wr=>∃ a:Nat,a≤l.length∧ad= .int .i64 (a:Int)∧wr.heap[w.heap.size+1]? =RX (.cells (fj (bO (l.take a))) 141 (0,0))∧wr.heap[w.heap.size]? =RX (.cells (fj bX) 141 (0,0))∧Si w.heap.size w wr) (fun ad _=>l.length - (S2 ad).toNat)
 case atStart=>exact⟨0,SK _,rfl,jA _ _ _,alloc_old _ (by simp) (bw _ _),gm _ _⟩
 case round=>
  obtain⟨a,bt,rfl,S,Q,O⟩:=hrel;have ar:Sb (Si w.heap.size w wr):=O;by_cases W:a<l.length
  ·have I:=am.out.below O;obtain rfl:=I.addr (by omega);have be:=I.c0 a W;have bi:=I.c1 a W;have bj:=I.c2 a W;have M:Sb (bO (l.take (a+1))=mC (bO (l.take a)) l[a]):=AN l a W;clear I;generalize bO (l.take a)=Y at*;generalize l[a]=k at*;have f:Sb (BZ w (wr.alloc (.cells #[.bool k.null,.int .i64 k.n,.string k.s] 59)) wr.heap.size k Y):=BZ.start k S Q O;clear S Q O
   go_upto_region 5 with fail
   generalize wr.alloc (.cells #[.bool k.null,.int .i64 k.n,.string k.s] 59)=bo at*;generalize wr.heap.size=V at*;clear be bi bj ar am;have bv:¬ V=w.heap.size+1:=by have:=f.out.yL;omega
   have bx:¬ w.heap.size+1=V:=by have:=f.out.yL;omega
   obtain⟨B,C,D⟩:=bE f.out.one;obtain⟨⟨m,n,o,p,q,r,s⟩,t,u,v,x,y,z,A⟩:=dG f.out.box;by_cases P:k.null=R7
   ·have H:Sb (bO (l.take (a+1))=Y):=by show _=_;rw[M.out];unfold mC;rw[if_pos P]
    rw[P] at B;clear M P;go_wp2
    go_roundw
    case rel=>exact⟨a+1,by omega,by go_num,by rw[H.out];exact f.out.box,f.out.res,f.out.fq⟩
    case measure=>simp[S2];omega
   ·obtain⟨bl,b,c⟩:=k;obtain rfl:bl=R6:=by simpa using P
    obtain⟨a4,j,g⟩:=Y;cases a4
    ·have H:Sb (bO (l.take (a+1))=⟨R7,⟨R6,b,c⟩,⟨R6,b,c⟩⟩):=by show _=_;rw[M.out];unfold mC;simp
     clear M P;go_wp2
     go_roundw
     case rel=>exact⟨a+1,by omega,by go_num,by rw[H.out];exact f.out.least.most.set.box,f.out.least.most.set.res,f.out.least.most.set.fq⟩
     case measure=>simp[S2];omega
    ·have T:Sb (∀ h,SF (aa.of RY) 125 #[.agg #[.bool R6,.int .i64 b,.string c],.agg #[.bool j.null,.int .i64 j.n,.string j.s]] h fun e w'=>e= .returned (.int .i64 (eD ⟨R6,b,c⟩ j))∧Si h.heap.size h w'):=fun h=>iQ ⟨R6,b,c⟩ j h;have U:Sb (∀ h,SF (aa.of RY) 125 #[.agg #[.bool R6,.int .i64 b,.string c],.agg #[.bool g.null,.int .i64 g.n,.string g.s]] h fun e w'=>e= .returned (.int .i64 (eD ⟨R6,b,c⟩ g))∧Si h.heap.size h w'):=fun h=>iQ ⟨R6,b,c⟩ g h;have H:Sb (bO (l.take (a+1))=⟨R7,if eD ⟨R6,b,c⟩ j<0 then⟨R6,b,c⟩ else j,if 0<eD ⟨R6,b,c⟩ g then⟨R6,b,c⟩ else g⟩):=by show _=_;rw[M.out];unfold mC;simp
     clear M P a0;generalize eD ⟨R6,b,c⟩ j=ae at*;generalize eD ⟨R6,b,c⟩ g=J at*;by_cases N:ae<0
     ·have Z:decide (ae<0)=R7:=by simpa using N
      have E:Sb (bO (l.take (a+1))=⟨R7,⟨R6,b,c⟩,if 0<J then⟨R6,b,c⟩ else g⟩):=by show _=_;rw[H.out,if_pos N]
      clear H N
      go_upto_region 8 with(go_at_call 125;refine(T.out _).mono ?_;rintro e X ⟨rfl,R⟩;have G:=f.out.below R;obtain⟨B,C,D⟩:=bE G.one;obtain⟨⟨m,n,o,p,q,r,s⟩,t,u,v,x,y,z,A⟩:=dG G.box)
      have F:Sb (BZ w (((X.setCell ⟨w.heap.size+1,1,RZ⟩ (.bool R6)).setCell ⟨w.heap.size+1,2,RZ⟩ (.int .i64 b)).setCell ⟨w.heap.size+1,3,RZ⟩ (.string c)) V ⟨R6,b,c⟩ ⟨R7,⟨R6,b,c⟩,g⟩):=G.least;generalize ((X.setCell ⟨w.heap.size+1,1,RZ⟩ (.bool R6)).setCell ⟨w.heap.size+1,2,RZ⟩ (.int .i64 b)).setCell ⟨w.heap.size+1,3,RZ⟩ (.string c)=br at*;clear B C D m n o p q r s t u v x y z A Z G R T f;obtain⟨B,C,D⟩:=bE F.out.one;obtain⟨⟨m,n,o,p,q,r,s⟩,t,u,v,x,y,z,A⟩:=dG F.out.box;by_cases i:0<J
      ·have ab:decide (0<J)=R7:=by simpa using i
       have K:Sb (bO (l.take (a+1))=⟨R7,⟨R6,b,c⟩,⟨R6,b,c⟩⟩):=by show _=_;rw[E.out,if_pos i]
       clear E i
       go_wp2_with (go_at_call 125;refine(U.out _).mono ?_;rintro e al ⟨rfl,L⟩;have d:=F.out.below L;obtain⟨B,C,D⟩:=bE d.one;obtain⟨⟨m,n,o,p,q,r,s⟩,t,u,v,x,y,z,A⟩:=dG d.box)
       go_roundw
       case rel=>exact⟨a+1,by omega,by go_num,by rw[K.out];exact d.most.set.box,d.most.set.res,d.most.set.fq⟩
       case measure=>simp[S2];omega
      ·have ab:decide (0<J)=R6:=by simpa using i
       have K:Sb (bO (l.take (a+1))=⟨R7,⟨R6,b,c⟩,g⟩):=by show _=_;rw[E.out,if_neg i]
       clear E i
       go_wp2_with (go_at_call 125;refine(U.out _).mono ?_;rintro e al ⟨rfl,L⟩;have d:=F.out.below L;obtain⟨B,C,D⟩:=bE d.one;obtain⟨⟨m,n,o,p,q,r,s⟩,t,u,v,x,y,z,A⟩:=dG d.box)
       go_roundw
       case rel=>exact⟨a+1,by omega,by go_num,by rw[K.out];exact d.set.box,d.set.res,d.set.fq⟩
       case measure=>simp[S2];omega
     ·have Z:decide (ae<0)=R6:=by simpa using N
      have E:Sb (bO (l.take (a+1))=⟨R7,j,if 0<J then⟨R6,b,c⟩ else g⟩):=by show _=_;rw[H.out,if_neg N]
      clear H N
      go_upto_region 8 with(go_at_call 125;refine(T.out _).mono ?_;rintro e X ⟨rfl,R⟩;have G:=f.out.below R;obtain⟨B,C,D⟩:=bE G.one;obtain⟨⟨m,n,o,p,q,r,s⟩,t,u,v,x,y,z,A⟩:=dG G.box)
      have F:Sb (BZ w X V ⟨R6,b,c⟩ ⟨R7,j,g⟩):=G;clear B C D m n o p q r s t u v x y z A Z G R T f;obtain⟨B,C,D⟩:=bE F.out.one;obtain⟨⟨m,n,o,p,q,r,s⟩,t,u,v,x,y,z,A⟩:=dG F.out.box;by_cases i:0<J
      ·have ab:decide (0<J)=R7:=by simpa using i
       have K:Sb (bO (l.take (a+1))=⟨R7,j,⟨R6,b,c⟩⟩):=by show _=_;rw[E.out,if_pos i]
       clear E i
       go_wp2_with (go_at_call 125;refine(U.out _).mono ?_;rintro e al ⟨rfl,L⟩;have d:=F.out.below L;obtain⟨B,C,D⟩:=bE d.one;obtain⟨⟨m,n,o,p,q,r,s⟩,t,u,v,x,y,z,A⟩:=dG d.box)
       go_roundw
       case rel=>exact⟨a+1,by omega,by go_num,by rw[K.out];exact d.most.set.box,d.most.set.res,d.most.set.fq⟩
       case measure=>simp[S2];omega
      ·have ab:decide (0<J)=R6:=by simpa using i
       have K:Sb (bO (l.take (a+1))=⟨R7,j,g⟩):=by show _=_;rw[E.out,if_neg i]
       clear E i
       go_wp2_with (go_at_call 125;refine(U.out _).mono ?_;rintro e al ⟨rfl,L⟩;have d:=F.out.below L;obtain⟨B,C,D⟩:=bE d.one;obtain⟨⟨m,n,o,p,q,r,s⟩,t,u,v,x,y,z,A⟩:=dG d.box)
       go_roundw
       case rel=>exact⟨a+1,by omega,by go_num,by rw[K.out];exact d.set.box,d.set.res,d.set.fq⟩
       case measure=>simp[S2];omega
  ·obtain rfl:a=l.length:=by omega
   rw[Tk] at S;obtain⟨⟨m,n,o,p,q,r,s⟩,-⟩:=dG S;obtain⟨-,t,u,v,x,y,z,A⟩:=dG Q;obtain⟨⟨bA,bB,b0,b1,b2,b3,b4⟩,-⟩:=dG Q;have a1:Sb _:=MR (bO l) Q;have aw:Sb _:=yS (bO l) O (R8 _) (R8 w.heap.size);clear O S Q;go_wp2;obtain⟨⟨a5,a6,a7,a8,a9,ba,bb⟩,-⟩:=dG a1.out;simp[TT,SX,Tryz.results88,go_sem,a5,a6,a7,a8,a9,ba,bb];exact⟨rfl,aw.out⟩
end Ec
namespace Ec
open Go.RowKit Pk
def Il{l:List bG}{j:Nat}(b:∀ i,i<j→lE l i)(c:lE l j):∀ i,i<j+1→lE l i:=by
 intro i d;by_cases a:i=j
 ·rw[a];exact c
 ·exact b i (by omega)
def Km{l:List bG}{j:Nat}(b:1≤l.length)(c:l.length≤8)(d:∀ i,i<j→lE l i)(e:¬ j<l.length):fB l:=
 ⟨b,c,fun i a=>d i (by omega) a⟩
theorem lI(l:List bG)(P:R2)(w:R3)(a4:l.length≤Sw)(a2:vB w P l):
 SF (aa.of RY) 55 #[P] w fun e w'=>∃ bb,e= .returned (.bool bb)∧(bb=R7↔fB l)∧Si w.heap.size w w':=by
 obtain⟨ad,p,s,O,rfl,bj,g⟩:=a2;unfold Sw at a4;by_cases E:1≤l.length∧l.length≤8
 ·obtain⟨E,ar⟩:=E;have N:Sb (qR w ad p s l):=g;obtain rfl:=g.addr (by omega);clear g;have Q:decide ((l.length:Int)<1)=R6:=by simp;omega
  have ae:decide (8<(l.length:Int))=R6:=by simp;omega
  go_enter aa.func55,Tryz.ntmps55
  go_wp2_with fail
  go_loopw [15] (fun d wr=>∃ a:Nat,a≤l.length∧d= .int .i64 a∧(∀ d,d<a→lE l d)∧Si w.heap.size w wr) (fun d _=>l.length - (S2 d).toNat)
  case atStart=>exact⟨0,SK _,rfl,fun bu b=>by omega,So _ _⟩
  case round=>
   obtain⟨a,bl,rfl,S,y⟩:=hrel;have B:Sb (∀ d,d<a→lE l d):=S;have L:Sb (Si w.heap.size w wr):=y;have a7:=y.size;clear S;by_cases z:a<l.length
   ·have g:=N.out.below y;have bo:=g.c0 a z;have br:=g.c1 a z;have m:Sb (∀ i,Si wr.heap.size wr i→∀ v,SF (aa.of RY) 81 #[.slice (RX ⟨p,s,RZ⟩) a v,.string l[a].name] i fun e w'=>∃ bb,e= .returned (.bool bb)∧(bb=R7↔∃ c,∃ b:c<a,l[c].name=l[a].name)∧Si i.heap.size i w'):=fun i a0 v=>by
     have:=CJ (l.take a) l[a].name (RX ⟨p,s,RZ⟩) p s v i (by simp;unfold Sw;omega) ((g.below a0).take a);have al:(l.take a).length=a:=by simp;omega
     have a6:Te (RX ⟨p,s,RZ⟩) a v= .slice (RX ⟨p,s,RZ⟩) (l.take a).length v:=by rw[al]
     rw[a6];refine this.mono ?_;rintro e w' ⟨bb,rfl,F,a1⟩;refine⟨bb,rfl,F.trans ?_,a1⟩;constructor
     ·rintro⟨c,b,e⟩;rw[TH] at e;exact⟨c,by simp at b;omega,e⟩
     ·rintro⟨c,b,e⟩;refine⟨c,by simp;omega,?_⟩;rw[TH];exact e
    have o:=fun i=>A5 l[a] i;have t:Sb (ot l[a]=R6→¬ fB l):=fun b f=>by
     have:=(f.2.2 a z).1;rw[b] at this;cases this
    have C:Sb ((∃ c,∃ b:c<a,l[c].name=l[a].name)→¬ fB l):=by
     rintro⟨c,b,e⟩ f;exact(f.2.2 a z).2 c b e
    have u:Sb (ot l[a]=R7→(¬ ∃ c,∃ b:c<a,l[c].name=l[a].name)→∀ d,d<a+1→lE l d):=fun am ao=>Il B.out (fun _=>⟨am,fun c a3 e=>ao ⟨c,a3,e⟩⟩);clear g y B N;have Y:Sb (∀ D:Prop,D=(∃ c,∃ b:c<a,l[c].name=l[a].name)→True):=fun _ _=>trivial;clear Y;generalize aw:(∃ c,∃ b:c<a,l[c].name=l[a].name)=D at*;clear aw;generalize l[a]=h at*
    go_upto_region 6 with fail
    have a8:=nA wr (.string h.name) (.int .i64 h.kind) 63;have I:wr.heap.size<(wr.alloc (.cells #[.string h.name,.int .i64 h.kind] 63)).heap.size:=by simp
    have T:Si wr.heap.size wr (wr.alloc (.cells #[.string h.name,.int .i64 h.kind] 63)):=(So _ _).alloc (R8 _) _;generalize wr.alloc (.cells #[.string h.name,.int .i64 h.kind] 63)=j at*;generalize V:wr.heap.size=q at*;have X:Sb (wr.heap.size=q):=V;clear V;obtain⟨a9,bs⟩:=a8
    go_cut [30] from 16 to 31 (fun ba K=>∃ bb,ba= .bool bb∧(bb=R6→∀ d,d<a+1→lE l d)∧(bb=R7→¬ fB l)∧Si q wr K)
    case first=>
     cases f:ot h
     ·have G:Sb (¬ fB l):=t.out f;rw[f] at o;clear t C u f m
      first
       |go_region_with (go_at_call 80;refine(o _).mono ?_;rintro e A ⟨rfl,x⟩)
       |fail
      all_goals
       have r:Si j.heap.size j A:=((So j.heap.size j).drew).trans x;have n:Sb (Si q wr A):=T.trans (r.mono (Nat.le_of_lt I));clear x r
       go_wp2_with fail
       go_meet
       exact⟨R7,rfl,(fun b=>by cases b),fun _=>G.out,n.out⟩
     ·have ab:Sb (¬ D→∀ d,d<a+1→lE l d):=u.out f;rw[f] at o;have bd:(0:Int)≤(a:Int):=by omega
      have be:(a:Int)≤(O:Int):=by omega
      have bi:a≤O:=by omega
      clear t u f
      first
       |go_region_with (first
        |(go_at_call 80;refine(o _).mono ?_;rintro e A ⟨rfl,x⟩;have r:Si j.heap.size j A:=((So j.heap.size j).drew).trans x;have k:Si q wr A:=T.trans (r.mono (Nat.le_of_lt I));have bt:=(r.cell (p:=⟨q,0,RZ⟩) I).trans a9;clear x r)
        |(go_at_call 81;refine(m.out _ k _).mono ?_;rintro e bc ⟨bb,rfl,F,U⟩))
       |fail
      all_goals
       have n:Sb (Si q wr bc):=k.trans (U.mono (by have:=k.size;rw[X.out] at this;exact this));have M:Sb (bb=R7↔D):=F;clear U F k
       go_wp2_with fail
       go_meet
       refine⟨bb,rfl,fun b=>ab.out (fun a5=>?_),fun b=>C.out (M.out.1 b),n.out⟩;rw[M.out.2 a5] at b;cases b
    case rest=>
     rename R3=>K
     obtain⟨bb,rfl,J,H,k⟩:=hcut;have n:Sb (Si w.heap.size w K):=L.out.trans (k.mono a7);cases bb
     ·have W:Sb (∀ d,d<a+1→lE l d):=J rfl;clear J H k t C u m o;go_wp2
      go_roundw
      case rel=>exact⟨a+1,by omega,by go_num,W.out,n.out⟩
      case measure=>simp[S2];omega
     ·have G:Sb (¬ fB l):=H rfl;clear J H k t C u m o;go_wp2;go_ret;exact⟨R6,rfl,by simp only[SD,false_iff];exact G.out,n.out⟩
   ·have Z:Sb (fB l):=Km E ar B.out z;clear B y;go_wp2;go_ret;exact⟨R7,rfl,by simp only[true_iff];exact Z.out,L.out⟩
 ·have R:¬ fB l:=fun b=>E ⟨b.1,b.2.1⟩;have m:Sb (¬ fB l):=R;clear g R;by_cases bm:l.length<1
  ·have Q:decide ((l.length:Int)<1)=R7:=by simp;omega
   go_enter aa.func55,Tryz.ntmps55;go_wp2
   all_goals go_ret
   all_goals exact⟨R6,rfl,by simp only[SD,false_iff];exact m.out,So _ _⟩
  ·have Q:decide ((l.length:Int)<1)=R6:=by simp;omega
   have ae:decide (8<(l.length:Int))=R7:=by simp;omega
   go_enter aa.func55,Tryz.ntmps55;go_wp2
   all_goals go_ret
   all_goals exact⟨R6,rfl,by simp only[SD,false_iff];exact m.out,So _ _⟩
def mz (b:List az)(cs:List bG):Prop:=b.length=cs.length∧∀ a,(c:a<b.length)→(d:a<cs.length)→eU b[a] cs[a].kind=R7
theorem Iq(d:List az)(cs:List bG)(P H:R2)(w:R3)(ae:d.length≤Sw)(al:cs.length≤Sw)(M:∀ c∈cs,c.kind=1∨c.kind=2∨c.kind=3)(am:qV w P d)(ad:vB w H cs):
 SF (aa.of RY) 56 #[P,H] w fun e w'=>∃ bb,e= .returned (.bool bb)∧(bb=R7↔mz d cs)∧Si w.heap.size w w':=by
 obtain⟨X,Y,ar,a5,rfl,a8,g⟩:=ad;obtain⟨a2,s,bh,aF,rfl,f⟩:=am;unfold Sw at ae al;by_cases q:d.length=cs.length
 ·have O:((d.length:Int) != (cs.length:Int))=R6:=by simp[q]
  have B:Sb (d.length=cs.length):=q;have D:Sb (qR w X Y ar cs):=g;have E:Sb (sM w a2 s bh d):=f;have A:Sb (∀ c∈cs,c.kind=1∨c.kind=2∨c.kind=3):=M;clear g q f M;go_enter aa.func56,Tryz.ntmps56
  go_wp2_with fail
  clear O
  go_loopw [14] (fun b wr=>∃ a:Nat,a≤cs.length∧b= .int .i64 a∧(∀ b,(h:b<d.length)→(i:b<cs.length)→b<a→eU d[b] cs[b].kind=R7)∧Si w.heap.size w wr) (fun b _=>cs.length - (S2 b).toNat)
  case atStart=>exact⟨0,SK _,rfl,fun bd _ _ j=>by omega,So _ _⟩
  case round=>
   obtain⟨a,a9,rfl,I,k⟩:=hrel;have p:Sb (∀ b,(h:b<d.length)→(i:b<cs.length)→b<a→eU d[b] cs[b].kind=R7):=I;have y:Sb (Si w.heap.size w wr):=k;have ao:=k.size;clear I;by_cases o:a<cs.length
   ·have g:=D.out.below k;have f:=E.out.below k;have r:a<d.length:=by rw[B.out];exact o
    obtain rfl:=g.addr (by omega);obtain rfl:=f.addr (by omega);have v:=f.lt (by omega);have aw:=g.c0 a o;have a0:=g.c1 a o;have Q:=f.c0 a r;have R:=f.c1 a r;have S:=f.c2 a r;have N:=A.out cs[a] (Sl o);have C:Sb (∀ m,SF (aa.of RY) 82 #[.agg #[.bool d[a].null,.int .i64 d[a].n,.string d[a].s],.int .i64 cs[a].kind] m fun e w'=>e= .returned (.bool (eU d[a] cs[a].kind))∧Si m.heap.size m w'):=fun m=>pM d[a] cs[a].kind m N;have t:Sb (eU d[a] cs[a].kind=R6→¬ mz d cs):=fun j ab=>by
     have:=ab.2 a r o;rw[j] at this;cases this
    have u:Sb (eU d[a] cs[a].kind=R7→∀ b,(h:b<d.length)→(i:b<cs.length)→b<a+1→eU d[b] cs[b].kind=R7):=fun j b h i a7=>by
     by_cases Z:b=a
     ·subst Z;exact j
     ·exact p.out b h i (by omega)
    clear g f k p D E A N;generalize d[a]=T at*;generalize cs[a]=c at*;have ba:(a:Int)<(d.length:Int):=by omega
    go_upto_region 6 with fail
    obtain⟨a1,bc⟩:=nA wr (.string c.name) (.int .i64 c.kind) 63;have n:Si wr.heap.size wr (wr.alloc (.cells #[.string c.name,.int .i64 c.kind] 63)):=(So _ _).alloc (R8 _) _;have u0:=(n.cell (p:=⟨s,bh+a*3,RZ⟩) v).trans Q;have u1:=(n.cell (p:=⟨s,bh+a*3+1,RZ⟩) v).trans R;have u2:=(n.cell (p:=⟨s,bh+a*3+2,RZ⟩) v).trans S;have z:Sb (Si w.heap.size w (wr.alloc (.cells #[.string c.name,.int .i64 c.kind] 63))):=y.out.trans (n.mono ao);clear n aw a0 Q R S a1;generalize wr.alloc (.cells #[.string c.name,.int .i64 c.kind] 63)=G at*;generalize wr.heap.size=a6 at*
    go_cut [26] from 15 to 27 (fun a3 x=>a3= .bool (!eU T c.kind)∧Si w.heap.size w x)
    case first=>
     go_region_with (go_at_call 82;refine(C.out _).mono ?_;rintro e a4 ⟨rfl,K⟩)
     all_goals
      have l:Sb (Si w.heap.size w a4):=z.out.trans ((((So G.heap.size G).drew).trans K).mono z.out.size);clear K
      go_wp2_with fail
      go_meet
      exact⟨rfl,l.out⟩
    case rest=>
     rename R3=>x
     obtain⟨rfl,L⟩:=hcut;have l:Sb (Si w.heap.size w x):=L;clear L C;cases J:eU T c.kind
     ·have F:Sb (¬ mz d cs):=t.out J;clear t u;go_wp2;go_ret
      first
       |exact⟨R6,rfl,by simp only[SD,false_iff];exact F.out,l.out⟩
       |exact .inl ⟨rfl,F.out,l.out⟩
     ·have W:Sb (∀ b,(h:b<d.length)→(i:b<cs.length)→b<a+1→eU d[b] cs[b].kind=R7):=u.out J;clear t u;go_wp2
      go_roundw
      case rel=>exact⟨a+1,by omega,by go_num,W.out,l.out⟩
      case measure=>simp[S2];omega
   ·have V:Sb (mz d cs):=⟨B.out,fun b h i=>p.out b h i (by omega)⟩;clear p k;go_wp2;go_ret;exact⟨R7,rfl,by simp only[true_iff];exact V.out,y.out⟩
 ·have O:((d.length:Int) != (cs.length:Int))=R7:=by simp;omega
  have U:Sb (¬ mz d cs):=fun j=>q j.1;clear g f;go_enter aa.func56,Tryz.ntmps56;go_wp2
  all_goals go_ret
  all_goals exact⟨R6,rfl,by simp only[SD,false_iff];exact U.out,So _ _⟩
structure AH(w:R3)(ao:Option SL)(b off:Nat)(l:List (List az)):Prop where
 addr:0<l.length→ao=RX ⟨b,off,RZ⟩
 lt:0<l.length→b<w.heap.size
 c:∀ j (h:j<l.length),∃ v,w.cell? ⟨b,off+j,RZ⟩=RX v∧qV w v l[j]
def AH.below{w w':R3}{c:Option SL}{b off:Nat}{l:List (List az)}(h:AH w c b off l)(a:Si w.heap.size w w'):AH w' c b off l:=
 ⟨h.addr,fun e=>Sa (h.lt e) a.size,fun d i=>by
  obtain⟨v,f,g⟩:=h.c d i;exact⟨v,(a.cell (p:=⟨b,off+d,RZ⟩) (h.lt (by omega))).trans f,g.below a⟩⟩
def B2 (w:R3)(v:R2)(l:List (List az)):Prop:=∃ a c d b,v= .slice a l.length b∧l.length≤b∧AH w a c d l
def B2.below{w w':R3}{v:R2}{l:List (List az)}(h:B2 w v l)(d:Si w.heap.size w w'):B2 w' v l:=by
 obtain⟨a,b,f,c,rfl,e,h⟩:=h;exact⟨a,b,f,c,rfl,e,h.below d⟩
def fD (cs:List bG)(a:List (List az)):Prop:=fB cs∧a.length≤2000∧∀ b,(c:b<a.length)→mz a[b] cs
def mF{cs:List bG}(h:fB cs):∀ c∈cs,c.kind=1∨c.kind=2∨c.kind=3:=by
 intro c a;obtain⟨d,b,rfl⟩:=TK a;have:=(h.2.2 d b).1;simp[ot,fI] at this;omega
def oQ{Q:Prop}{R:R3→Prop}{P:Sd}{f:Nat}{args:Array R2}{w:R3}(h:SF P f args w fun e w'=>∃ bb,e= .returned (.bool bb)∧(bb=R7↔Q)∧R w')(c:Q):SF P f args w fun e w'=>e= .returned (.bool R7)∧R w':=
 h.mono (by rintro e w' ⟨bb,rfl,b,a⟩;rw[b.2 c];exact⟨rfl,a⟩)
def ng{Q:Prop}{R:R3→Prop}{P:Sd}{f:Nat}{args:Array R2}{w:R3}(h:SF P f args w fun e w'=>∃ bb,e= .returned (.bool bb)∧(bb=R7↔Q)∧R w')(c:¬ Q):SF P f args w fun e w'=>e= .returned (.bool R6)∧R w':=
 h.mono (by
  rintro e w' ⟨bb,rfl,b,a⟩;cases bb
  ·exact⟨rfl,a⟩
  ·exact absurd (b.1 rfl) c)
theorem CQ(cs:List bG)(a:List (List az))(V ao:R2)(w:R3)(Z:cs.length≤Sw)(ba:a.length≤Sw)(ab:∀ r∈a,r.length≤Sw)(J:vB w V cs)(bc:B2 w ao a):
 SF (aa.of RY) 40 #[.agg #[V,ao]] w fun e w'=>∃ bb,e= .returned (.bool bb)∧(bb=R7↔fD cs a)∧Si w.heap.size w w':=by
 have a9:=J;obtain⟨j,bi,bs,k,rfl,bl,-⟩:=a9;obtain⟨q,am,bh,aF,rfl,br,s⟩:=bc;have S:Sb (vB w (.slice j cs.length k) cs):=J;have U:Sb (AH w q am bh a):=s;have E:Sb (cs.length≤Sw):=Z;have a2:Sb (∀ r∈a,r.length≤Sw):=ab;unfold Sw at Z ba;clear J s ab;go_enter aa.func40,Tryz.ntmps40
 go_upto_region 1 with fail
 obtain⟨y,M⟩:=nA w (.slice j cs.length k) (.slice q a.length aF) 46;have x:Si w.heap.size w (w.alloc (.cells #[.slice j cs.length k,.slice q a.length aF] 46)):=(So _ _).alloc (R8 _) _;have p:w.heap.size<(w.alloc (.cells #[.slice j cs.length k,.slice q a.length aF] 46)).heap.size:=by simp
 have Q:=S.out.below x;have T:=U.out.below x;have z:Sb (Si w.heap.size w (w.alloc (.cells #[.slice j cs.length k,.slice q a.length aF] 46))):=x;generalize w.alloc (.cells #[.slice j cs.length k,.slice q a.length aF] 46)=i at*;have B:Sb (vB i (.slice j cs.length k) cs):=Q;have a4:Sb (AH i q am bh a):=T;clear Q T x S U;generalize Y:w.heap.size=l at*;have C:Sb (w.heap.size=l):=Y;clear Y;by_cases o:fB cs
 ·have h:=oQ (lI cs _ i E.out B.out) o;have R:Sb (fB cs):=o;by_cases ae:a.length≤2000
  ·have W:decide (2000<(a.length:Int))=R6:=by simp;omega
   clear o
   go_wp2_with (go_at_call 55;refine h.mono ?_;rintro e O ⟨rfl,g⟩;have L:=(g.cell (p:=⟨l,0,RZ⟩) p).trans y;have N:=(g.cell (p:=⟨l,1,RZ⟩) p).trans M)
   clear W h;have a1:Sb (Si i.heap.size i O):=g;clear L N g
   go_loopw [18] (fun b wr=>∃ c:Nat,c≤a.length∧b= .int .i64 c∧(∀ b,(d:b<a.length)→b<c→mz a[b] cs)∧Si i.heap.size i wr) (fun b _=>a.length - (S2 b).toNat)
   case atStart=>exact⟨0,SK _,rfl,fun bt _ d=>by omega,a1.out⟩
   case round=>
    rename R3=>wr
    obtain⟨c,bo,rfl,X,n⟩:=hrel;have h:Sb (∀ b,(d:b<a.length)→b<c→mz a[b] cs):=X;have a0:Sb (Si i.heap.size i wr):=n;have A:Sb (Si w.heap.size w wr):=by
     show Si w.heap.size w wr;have f:=z.out;have m:=n.mono f.size;rw[C.out] at m ⊢;exact f.trans m
    have bu:=(n.cell (p:=⟨l,0,RZ⟩) p).trans y;have bd:=n.size;clear X;by_cases K:c<a.length
    ·have s:=a4.out.below n;obtain rfl:=s.addr (by omega);obtain⟨v,bm,al⟩:=s.c c K;have ad:=a2.out a[c] (Sl K);have u:Sb (SF (aa.of RY) 56 #[v,.slice j cs.length k] wr fun e w'=>∃ bb,e= .returned (.bool bb)∧(bb=R7↔mz a[c] cs)∧Si wr.heap.size wr w'):=Iq a[c] cs v _ wr ad E.out (mF R.out) al (B.out.below n);have G:Sb (¬ mz a[c] cs→¬ fD cs a):=fun d a8=>d (a8.2.2 c K);have H:Sb (mz a[c] cs→∀ b,(d:b<a.length)→b<c+1→mz a[b] cs):=fun d b f bj=>by
      by_cases a7:b=c
      ·subst a7;exact d
      ·exact h.out b f (by omega)
     obtain⟨aw,bv,bx,ar,rfl,-⟩:=al;clear s h ad n;generalize a[c]=P at*;by_cases t:mz P cs
     ·have D:Sb (SF (aa.of RY) 56 #[.slice aw P.length ar,.slice j cs.length k] wr fun e w'=>e= .returned (.bool R7)∧Si wr.heap.size wr w'):=oQ u.out t;have a6:Sb (∀ b,(d:b<a.length)→b<c+1→mz a[b] cs):=H.out t;clear G H t u
      go_wp2_with (go_at_call 56;refine D.out.mono ?_;rintro e be ⟨rfl,I⟩)
      go_roundw
      case rel=>exact⟨c+1,by omega,by go_num,a6.out,a0.out.trans (I.mono bd)⟩
      case measure=>simp[S2];omega
     ·have D:Sb (SF (aa.of RY) 56 #[.slice aw P.length ar,.slice j cs.length k] wr fun e w'=>e= .returned (.bool R6)∧Si wr.heap.size wr w'):=ng u.out t;have a5:Sb (¬ fD cs a):=G.out t;clear G H t u
      go_wp2_with (go_at_call 56;refine D.out.mono ?_;rintro e be ⟨rfl,I⟩)
      go_ret;exact⟨R6,rfl,by simp only[SD,false_iff];exact a5.out,A.out.trans (I.mono A.out.size)⟩
    ·have a3:Sb (fD cs a):=⟨R.out,ae,fun b f=>h.out b f (by omega)⟩;clear h n;go_wp2;go_ret;exact⟨R7,rfl,by simp only[true_iff];exact a3.out,A.out⟩
  ·have W:decide (2000<(a.length:Int))=R7:=by simp;omega
   have F:Sb (¬ fD cs a):=fun d=>ae d.2.1;clear o
   go_wp2_with (go_at_call 55;refine h.mono ?_;rintro e O ⟨rfl,g⟩;have L:=(g.cell (p:=⟨l,0,RZ⟩) p).trans y;have N:=(g.cell (p:=⟨l,1,RZ⟩) p).trans M)
   go_ret;refine⟨R6,rfl,by simp only[SD,false_iff];exact F.out,?_⟩;have f:=z.out;have m:=g.mono f.size;rw[C.out] at m ⊢;exact f.trans m
 ·have h:=ng (lI cs _ i E.out B.out) o;have F:Sb (¬ fD cs a):=fun d=>o d.1;clear o
  go_wp2_with (go_at_call 55;refine h.mono ?_;rintro e O ⟨rfl,g⟩;have L:=(g.cell (p:=⟨l,0,RZ⟩) p).trans y;have N:=(g.cell (p:=⟨l,1,RZ⟩) p).trans M)
  go_ret;refine⟨R6,rfl,by simp only[SD,false_iff];exact F.out,?_⟩;have f:=z.out;have m:=g.mono f.size;rw[C.out] at m ⊢;exact f.trans m
end Ec
namespace Pk
open Go.RowKit Pm
def CF(s:ByteArray)(p:Nat)(h:p<s.size):s.extract p (p+1)=⟨#[s[p]]⟩:=by
 apply mD;unfold bytesOf;congr 1;rw[ByteArray.data_extract];simp only[Array.toList_extract];have a:p<s.data.toList.length:=h;rw[show List.extract s.data.toList p (p+1)=(s.data.toList.drop p).take 1 from by simp[List.extract],List.drop_eq_getElem_cons a];rfl
def bg (s:ByteArray)(p:Nat):U9:=.cells #[.string s,.int .i64 (p:Int)] 182 (0,0)
def dU (p:Nat):List Tv:=[{v:=.iface 205 (.agg #[.int .i64 (p:Int)]),recovered:=R6}]
def jM{w:R3}{r p:Nat}{s:ByteArray}(h:w.heap[r]? =RX (bg s p)):
 w.cell? ⟨r,0,RZ⟩=RX (.string s)∧w.cell? ⟨r,1,RZ⟩=RX (.int .i64 (p:Int))∧w.frozen? ⟨r,0,RZ⟩=R6∧w.frozen? ⟨r,1,RZ⟩=R6:=by
 unfold bg at h;refine⟨?_,?_,?_,?_⟩
 ·simp[Sr,h]
 ·simp[Sr,h]
 ·simp[S4,h]
 ·simp[S4,h]
def CB(w:R3)(a:SL)(v:R2)(m n:Nat):((w.drewN m).setCell a v).drewN n=(w.setCell a v).drewN (m+n):=by
 rw[show(w.drewN m).setCell a v=(w.setCell a v).drewN m from by unfold VI;rfl,World.drewN_drewN]
def bN(r p:Nat)(s:ByteArray)(w:R3)(h:w.heap[r]? =RX (bg s p)):
 SF (aa.of RY) 97 #[.pointer (RX ⟨r,0,RZ⟩)] w fun e w'=>e= .panicked (dU p)∧w'=w:=by
 obtain⟨a,b,c,d⟩:=jM h;clear h;go_enter aa.func97,Tryz.ntmps97;go_wp2;exact⟨rfl,rfl,rfl⟩
theorem Mf(r p:Nat)(s:ByteArray)(w:R3)(b:s.size≤Sw)(j:¬ p<s.size)(k:p≤s.size)(h:w.heap[r]? =RX (bg s p)):
 SF (aa.of RY) 128 #[.pointer (RX ⟨r,0,RZ⟩),.int .i64 1] w fun e w'=>e= .panicked (dU p)∧∃ n,w'=w.drewN n:=by
 obtain⟨c,d,f,g⟩:=jM h;unfold Sw at b;have a:Sb (w.heap[r]? =RX (bg s p)):=h;clear h;have i:decide ((s.size:Int) - (p:Int)<1)=R7:=by simp;omega
 go_enter aa.func128,Tryz.ntmps128
 go_wp2_with fail
 go_quiet (fail)
 go_wp2_with (go_at_call 97;refine(bN r p s _ (by exact a.out)).mono ?_;rintro e w' ⟨rfl,rfl⟩)
 exact⟨rfl,rfl,nq,rfl⟩
theorem N0(r p:Nat)(s:ByteArray)(w:R3)(a:s.size≤Sw)(b:p<s.size)(h:w.heap[r]? =RX (bg s p)):
 SF (aa.of RY) 128 #[.pointer (RX ⟨r,0,RZ⟩),.int .i64 1] w fun e w'=>e= .returned (.string ⟨#[s[p]]⟩)∧∃ n,w'=(w.setCell ⟨r,1,RZ⟩ (.int .i64 ((p+1:Nat):Int))).drewN n:=by
 obtain⟨c,d,f,g⟩:=jM h;unfold Sw at a;clear h;have i:decide ((s.size:Int) - (p:Int)<1)=R6:=by simp;omega
 have j:(0:Int)≤(p:Int)+1:=by omega
 have k:(p:Int)+1≤(s.size:Int):=by omega
 have l:(p:Int)≤(p:Int)+1:=by omega
 have o:((p:Int)+1).toNat=p+1:=by omega
 have q:=CF s p b;go_enter aa.func128,Tryz.ntmps128
 go_wp2_with fail
 go_quiet (fail)
 generalize nq=m at*
 go_wp2_with fail
 go_quiet (fail)
 go_wp2;go_ret;exact⟨rfl,m+nq,CB _ _ _ _ _⟩
theorem rI(r p:Nat)(s:ByteArray)(w:R3)(b:s.size≤Sw)(c:¬ p<s.size)(d:p≤s.size)(h:w.heap[r]? =RX (bg s p)):
 SF (aa.of RY) 129 #[.pointer (RX ⟨r,0,RZ⟩)] w fun e w'=>e= .panicked (dU p)∧∃ n,w'=w.drewN n:=by
 have a:Sb (w.heap[r]? =RX (bg s p)):=h;clear h;go_enter aa.func129,Tryz.ntmps129
 go_wp2_with (go_at_call 128;refine(Mf r p s _ b c d a.out).mono ?_;rintro e w' ⟨rfl,n,rfl⟩)
 exact⟨rfl,rfl,n,rfl⟩
theorem vC(r p:Nat)(s:ByteArray)(w:R3)(b:s.size≤Sw)(c:p<s.size)(h:w.heap[r]? =RX (bg s p)):
 SF (aa.of RY) 129 #[.pointer (RX ⟨r,0,RZ⟩)] w fun e w'=>e= .returned (.int .u8 (s[p].toNat:Int))∧∃ n,w'=(w.setCell ⟨r,1,RZ⟩ (.int .i64 ((p+1:Nat):Int))).drewN n:=by
 have a:Sb (w.heap[r]? =RX (bg s p)):=h;clear h;go_enter aa.func129,Tryz.ntmps129
 go_wp2_with (go_at_call 128;refine(N0 r p s _ b c a.out).mono ?_;rintro e w' ⟨rfl,n,rfl⟩)
 go_ret;exact⟨rfl,n,rfl⟩
theorem AY(r p:Nat)(s:ByteArray)(w:R3)(b:s.size≤Sw)(j:p<s.size)(h:w.heap[r]? =RX (bg s p)):
 SF (aa.of RY) 93 #[.pointer (RX ⟨r,0,RZ⟩)] w fun e w'=>e= .panicked (dU p)∧∃ n,w'=w.drewN n:=by
 obtain⟨c,d,f,g⟩:=jM h;unfold Sw at b;have a:Sb (w.heap[r]? =RX (bg s p)):=h;clear h;have i:decide ((p:Int)<(s.size:Int))=R7:=by simp;omega
 go_enter aa.func93,Tryz.ntmps93
 go_wp2_with fail
 go_quiet (fail)
 go_wp2_with (go_at_call 97;refine(bN r p s _ (by exact a.out)).mono ?_;rintro e w' ⟨rfl,rfl⟩)
 exact⟨rfl,rfl,nq,rfl⟩
theorem EL(r p:Nat)(s:ByteArray)(w:R3)(a:s.size≤Sw)(i:¬ p<s.size)(h:w.heap[r]? =RX (bg s p)):
 SF (aa.of RY) 93 #[.pointer (RX ⟨r,0,RZ⟩)] w fun e w'=>e= .returned (.tuple #[])∧∃ n,w'=w.drewN n:=by
 obtain⟨b,c,d,f⟩:=jM h;unfold Sw at a;clear h;have g:decide ((p:Int)<(s.size:Int))=R6:=by simp;omega
 go_enter aa.func93,Tryz.ntmps93
 go_wp2_with fail
 go_quiet (fail)
 go_wp2
 go_end0
 exact⟨rfl,nq,rfl⟩
def mT(s:ByteArray)(w:R3):
 SF (aa.of RY) 65 #[.string s] w fun e w'=>e= .returned (.pointer (RX ⟨w.heap.size,0,RZ⟩))∧w'=w.alloc (bg s 0):=by
 go_enter aa.func65,Tryz.ntmps65;go_wp2;go_ret;exact⟨rfl,rfl⟩
def k7{w:R3}{r p q:Nat}{s:ByteArray}(h:w.heap[r]? =RX (bg s p))(n:Nat):((w.setCell ⟨r,1,RZ⟩ (.int .i64 (q:Int))).drewN n).heap[r]? =RX (bg s q):=by
 show(w.setCell ⟨r,1,RZ⟩ (.int .i64 (q:Int))).heap[r]? =_;unfold bg at*;rw[Sq w r 1 _ _ _ h];rfl
def Kp (r:Nat)(w w':R3):Prop:=w.grownBy w' (RX r)
def Kp.refl(r:Nat)(w:R3):Kp r w w:=Wv w _
def Kp.size{r:Nat}{w w':R3}(h:Kp r w w'):w.heap.size≤w'.heap.size:=U1 h
def Kp.trans{r:Nat}{w d e:R3}(h:Kp r w d)(k:Kp r d e):Kp r w e:=
 ⟨k.os.trans h.os,k.tape.trans h.tape,k.output.trans h.output,Ss (U1 h) (U1 k),fun c a b=>(Um k c (Sa a (U1 h)) b).trans (Um h c a b)⟩
def Kp.drewN{r:Nat}{w a:R3}(h:Kp r w a)(n:Nat):Kp r w (a.drewN n):=Kp.trans h ⟨rfl,rfl,rfl,R8 _,fun _ _ _=>rfl⟩
def Kp.alloc{r:Nat}{w a:R3}(h:Kp r w a)(o:U9):Kp r w (a.alloc o):=Kp.trans h (World.grownBy_alloc a o _)
def Kp.grown{r:Nat}{w d e:R3}{c:Option Nat}(h:Kp r w d)(k:d.grownBy e c)(j:∀ g,c=RX g→w.heap.size≤g):Kp r w e:=
 ⟨k.os.trans h.os,k.tape.trans h.tape,k.output.trans h.output,Ss (U1 h) k.size,fun a b i=>(k.block a (Sa b (U1 h)) (fun f=>by have:=j a f.symm;omega)).trans (Um h a b i)⟩
def Kp.set{r:Nat}{w a:R3}(h:Kp r w a)(o:Nat)(v:R2)(n:Nat):Kp r w ((a.setCell ⟨r,o,RZ⟩ v).drewN n):=
 Kp.trans h ⟨rfl,rfl,rfl,by simp,fun d e c=>by
  show(a.setCell ⟨r,o,RZ⟩ v).heap[d]? =_;exact Sv _ _ _ _ (fun b=>c (by cases b;rfl))⟩
def Kp.below{r:Nat}{w a:R3}(h:Kp r w a)(e:r≤w.heap.size):Si r w a:=⟨h.os,h.tape,h.output,U1 h,fun c d=>Um h c (by omega) (fun b=>by cases b;omega)⟩
def Kp.bS{r:Nat}{w a:R3}(h:Si w.heap.size w a):Kp r w a:=⟨h.os,h.tape,h.output,h.size,fun c b _=>h.block c b⟩
def Kp.own{r:Nat}{w b:R3}{base e a n:Nat}{v:R2}{c:List R2}(k:Kp r w b)(h:w.ownsRow base e a v n c)(g:r<base):b.ownsRow base e a v n c:=
 h.kept k (by
  cases d:v.ownBlock with
  |none=>exact .inl rfl
  |some f=>exact .inr (fun e=>by cases e;have:=(h.lt r d).1;omega))
def Kp.block{r:Nat}{w a:R3}(k:Kp r w a){i:Nat}{o:U9}(h:w.heap[i]? =RX o)(c:i≠r):a.heap[i]? =RX o:=by
 rw[Um k i (Sf h) (fun b=>c (by cases b;rfl))];exact h
end Pk
namespace Ec
open Go.RowKit Pk Pm
def ag (B:List Nat)(p:Nat)(a:List Nat):Prop:=a <+:B.drop p
def me(B:List Nat)(p:Nat):ag B p []:=List.nil_prefix
def an{B:List Nat}{p:Nat}{a b:List Nat}:ag B p (a ++ b)↔ag B p a∧ag B (p+a.length) b:=by
 unfold ag;constructor
 ·rintro⟨e,c⟩;refine⟨⟨b ++ e,by rw[← c];simp⟩,⟨e,?_⟩⟩;rw[← List.drop_drop,← c];simp
 ·rintro⟨⟨e,c⟩,⟨f,d⟩⟩;refine⟨f,?_⟩;rw[← List.drop_drop,← c] at d;simp at d;rw[← c,SG,d]
def eu{B:List Nat}{p x:Nat}{r:List Nat}:ag B p (x :: r)↔B[p]? =RX x∧ag B (p+1) r:=by
 rw[show x :: r=[x] ++ r from rfl,an];have:ag B p [x]↔B[p]? =RX x:=by
  unfold ag;rw[← List.head?_drop];cases B.drop p with
  |nil=>simp
  |cons b a=>simp[List.cons_prefix_cons];exact eq_comm
 rw[this];rfl
def cU{B:List Nat}{p x:Nat}:ag B p [x]↔B[p]? =RX x:=by
 rw[eu];simp[me]
def fO{B:List Nat}{p:Nat}{a:List Nat}(h:ag B p a)(b:p≤B.length):p+a.length≤B.length:=by
 have:=h.length_le;rw[UN] at this;omega
def BK{B a:List Nat}(h:ag B 0 a)(b:¬ 0+a.length<B.length):a=B:=by
 unfold ag at h;rw[List.drop_zero] at h;exact h.eq_of_length_le (by omega)
def ei{B a:List Nat}(h:a=B):ag B 0 a:=by
 subst h;unfold ag;exact List.prefix_refl _
def gI{B:List Nat}{p:Nat}{a b:List Nat}(c:ag B p a)(d:ag B p b)(e:a.length=b.length):a=b:=
 (List.prefix_of_prefix_length_le c d (by omega)).eq_of_length e
def pF{B:List Nat}{p f c x:Nat}(hc:B[p]? =RX c)(h:128≤c)(a:ag B p (ic (f+1) x)):128≤x∧x % 128+128=c∧ag B (p+1) (ic f (x / 128)):=by
 by_cases b:x<128
 ·rw[eO f x b,cU,hc] at a;simp at a;omega
 ·rw[gV f x b,eu,hc] at a;simp at a;exact⟨by omega,a.1.symm,a.2⟩
def mg{B:List Nat}{p f c x:Nat}(hc:B[p]? =RX c)(h:c<128):ag B p (ic (f+1) x)↔x=c:=by
 by_cases a:x<128
 ·rw[eO f x a,cU,hc];simp;exact eq_comm
 ·rw[gV f x a,eu,hc];simp;omega
structure zB(B:List Nat)(p j acc:Nat):Prop where
 lt:acc<128 ^ j
 all:∀ v,v<18446744073709551616→(ag B p (ax v)↔∃ x,v=acc+128 ^ j*x∧(x≠0∨j=0)∧ag B (p+j) (ic (10 - j) x))
 len:∀ x,(x≠0∨j=0)→(ax (acc+128 ^ j*x)).length=j+(ic (10 - j) x).length
def zB.zero(B:List Nat)(p:Nat):zB B p 0 0:=
 ⟨by simp,fun v _=>⟨fun b=>⟨v,by simp,.inr rfl,b⟩,fun⟨d,a,_,c⟩=>by simp at a;subst a;exact c⟩,fun d _=>by simp[ax]⟩
theorem zB.more{B:List Nat}{p j b c:Nat}(h:zB B p j b)(r:j<10)(hc:B[p+j]? =RX c)(h1:128≤c)(n:c<256):zB B p (j+1) (b+128 ^ j*(c - 128)):=by
 have t:=h.lt;have g:10 - j=(10 - (j+1))+1:=by omega
 have s:∀ a,c - 128+128*a=128*a+(c - 128):=fun a=>by omega
 have f:∀ a,b+128 ^ j*(c - 128)+128 ^ (j+1)*a=b+128 ^ j*(c - 128+128*a):=fun a=>by
  rw[UT,Nat.mul_add,Nat.mul_assoc];omega
 refine⟨?_,?_,?_⟩
 ·have d:128 ^ j*(c - 128)≤128 ^ j*127:=Nat.mul_le_mul_left _ (by omega);rw[UT];omega
 ·intro v m;rw[h.all v m];constructor
  ·rintro⟨a,d,k,e⟩;rw[g] at e;obtain⟨o,q,l⟩:=pF hc h1 e;refine⟨a / 128,?_,.inl (by omega),by rw[← Td];exact l⟩;rw[f,d];congr 2;omega
  ·rintro⟨a,d,k,e⟩;have i:a≠0:=by rcases k with h|h;exact h;omega
   refine⟨c - 128+128*a,by rw[d,f],.inl (by omega),?_⟩;rw[g,gV _ _ (by omega),eu];refine⟨by rw[hc];congr 1;omega,?_⟩;rw[show(c - 128+128*a) / 128=a by omega,Td];exact e
 ·intro a i;have i:a≠0:=by rcases i with h|h;exact h;omega
  rw[f,h.len _ (.inl (by omega)),g,gV _ _ (by omega),show(c - 128+128*a) / 128=a by omega];simp;omega
def zB.fin{B:List Nat}{p j d c:Nat}(h:zB B p j d)(i:j<10)(hc:B[p+j]? =RX c)(h1:c<128)(v:Nat)(g:v<18446744073709551616):
 ag B p (ax v)↔v=d+128 ^ j*c∧(c≠0∨j=0):=by
 rw[h.all v g];have f:10 - j=(10 - (j+1))+1:=by omega
 constructor
 ·rintro⟨k,a,b,e⟩;rw[f,mg hc h1] at e;subst e;exact⟨a,b⟩
 ·rintro⟨a,b⟩;exact⟨c,a,b,by rw[f,mg hc h1]⟩
def zB.Nb{B:List Nat}{p j a c:Nat}(h:zB B p j a)(b:j<10)(h1:c<128)(hc:c≠0∨j=0):(ax (a+128 ^ j*c)).length=j+1:=by
 rw[h.len c hc,show 10 - j=(10 - (j+1))+1 by omega,eO _ _ h1];rfl
def zB.none{B:List Nat}{p j d:Nat}(h:zB B p j d)(k:j<10)(l:¬ p+j<B.length)(v:Nat)(e:v<18446744073709551616):¬ ag B p (ax v):=by
 rw[h.all v e];rintro⟨f,g,i,a⟩;rw[show 10 - j=(10 - (j+1))+1 by omega] at a;have b:B[p+j]? =RZ:=List.getElem?_eq_none (by omega);by_cases c:f<128
 ·rw[eO _ _ c,cU,b] at a;simp at a
 ·rw[gV _ _ c,eu,b] at a;simp at a
def zB.RV{B:List Nat}{p a:Nat}(h:zB B p 10 a)(v:Nat)(c:v<18446744073709551616):¬ ag B p (ax v):=by
 rw[h.all v c];rintro⟨f,b,d,e⟩;have:(128:Nat) ^ 10=1180591620717411303424:=by decide
 rw[this] at b;omega
theorem zB.top{B:List Nat}{p j a c:Nat}(h:zB B p j a)(f:j<9∨(j=9∧c≤1))(hc:c<128):a+128 ^ j*c<18446744073709551616:=by
 have g:=h.lt;rcases f with d|⟨rfl,d⟩
 ·have e:128 ^ (j+1)≤128 ^ 9:=Uf (by omega) (by omega);have b:(128:Nat) ^ 9=9223372036854775808:=by decide
  rw[UT] at e;have i:128 ^ j*c≤128 ^ j*127:=Nat.mul_le_mul_left _ (by omega);omega
 ·have b:(128:Nat) ^ 9=9223372036854775808:=by decide
  rw[b] at g ⊢;omega
def zB.over{B:List Nat}{p a c:Nat}(h:1<c):¬ a+128 ^ 9*c<18446744073709551616:=by
 have b:(128:Nat) ^ 9=9223372036854775808:=by decide
 rw[b];omega
theorem bT{B:List Nat}{p a b:Nat}(e:a<18446744073709551616)(n:b<18446744073709551616)(h1:ag B p (ax a))(d:ag B p (ax b)):a=b:=by
 have j:∀ f a b p,a<128 ^ f→b<128 ^ f→ag B p (ic f a)→ag B p (ic f b)→a=b:=by
  intro f
  induction f with
  |zero=>intro a b p h1 d;simp at h1 d;omega
  |succ f i=>
   intro a b p h1 d c g;by_cases e:a<128
   ·rw[eO f a e,cU] at c;exact((mg c e).1 g).symm
   ·rw[gV f a e,eu] at c;obtain⟨k,l,h⟩:=pF c.1 (by omega) g;have m:=i (a / 128) (b / 128) (p+1) (by rw[UT] at h1;omega) (by rw[UT] at d;omega) c.2 h;omega
 have c:(128:Nat) ^ 10=1180591620717411303424:=by decide
 exact j 10 a b p (by omega) (by omega) h1 d
def kE (l:List Int):Prop:=∀ a∈l,a=0∨a=1
def kS(x:Int)(r:List Int):0<cT x (x :: r):=by simp[cT]
def Fs:∀ (f:Nat) (l:List Int),l.length≤f→fR (f+1) l=fR f l:=by
 intro f
 induction f with
 |zero=>intro l c;cases l with
  |nil=>rfl
  |cons a b=>simp at c
 |succ f e=>
  intro l c;cases l with
  |nil=>rfl
  |cons a b=>
   have g:=kS a b;have d:=e ((a :: b).drop (cT a (a :: b))) (by rw[UN];simp at c ⊢;omega);rw[fR,fR];simp only[d]
def LK(f:Nat)(l:List Int)(h:l.length≤f):fR f l=bC l:=by
 induction f with
 |zero=>
  have:l=[]:=Ua.1 (by omega);subst this;rfl
 |succ f b=>
  by_cases a:l.length≤f
  ·rw[Fs f l a,b a]
  ·unfold bC;rw[show l.length=f+1 by omega]
def I7:bC []=[]:=rfl
def xX(x:Int)(r:List Int):bC (x :: r)=ax (cT x (x :: r)) ++ ([byteOf x] ++ bC ((x :: r).drop (cT x (x :: r)))):=by
 have a:=kS x r;rw[← LK r.length ((x :: r).drop (cT x (x :: r))) (by rw[UN];simp;omega)];rfl
def Fp(b:Int)(n:Nat)(m:List Int)(h:m.head? ≠RX b):cT b (TG n b ++ m)=n:=by
 induction n with
 |zero=>
  cases m with
  |nil=>rfl
  |cons e d=>simp[cT];intro a;subst a;simp at h
 |succ n c=>rw[List.replicate_succ,Uk,cT,if_pos rfl,c]
def I9(b:Int)(n:Nat)(m:List Int)(e:n≠0)(h:m.head? ≠RX b):bC (TG n b ++ m)=ax n ++ ([byteOf b] ++ bC m):=by
 obtain⟨a,rfl⟩:∃ a,n=a+1:=⟨n - 1,by omega⟩;have c:TG (a+1) b ++ m=b :: (TG a b ++ m):=by rw[List.replicate_succ];rfl
 have d:=Fp b (a+1) m h;rw[c] at d ⊢;rw[xX,d,← c];simp
def Bu(x:Int)(l:List Int):l=TG (cT x l) x ++ l.drop (cT x l):=by
 induction l with
 |nil=>rfl
 |cons d c b=>
  simp only[cT]
  split
  ·rename_i a;subst a;rw[List.replicate_succ,Uk,List.drop_succ_cons,← b]
  ·simp
def Bt(x:Int)(l:List Int):(l.drop (cT x l)).head? ≠RX x:=by
 intro a;rw[List.head?_drop] at a;obtain⟨b,c⟩:=SA.1 a;exact xV x l b c
structure G6(B:List Nat)(p cn:Nat)(l:List Int)(R:List Nat):Prop where
 le:l.length≤cn
 bits:kE l
 st:ag B p R
 ext:∀ m:List Int,(m=[]∨l=[]∨m.head? ≠l.getLast?)→bC (l ++ m)=R ++ bC m
 GW:∀ L:List Int,L.length=cn→kE L→ag B p (bC L)→∃ m,L=l ++ m∧(m=[]∨l=[]∨m.head? ≠l.getLast?)
def G6.zero(B:List Nat)(p cn:Nat):G6 B p cn [] []:=
 ⟨SK _,fun c b=>by simp at b,me _ _,fun m _=>rfl,fun a _ _ _=>⟨a,rfl,.inr (.inl rfl)⟩⟩
def jD{b:Int}(h:b=0∨b=1):byteOf b=b.toNat:=by rcases h with rfl|rfl<;>rfl
theorem G6.next{B:List Nat}{p cn:Nat}{l:List Int}{R:List Nat}(h:G6 B p cn l R)(k:l.length<cn)(L:List Int)(hL:L.length=cn)(g:kE L)(e:ag B p (bC L)):
 ∃ (n:Nat) (b:Int) (m:List Int),1≤n∧n≤cn - l.length∧(b=0∨b=1)∧(l=[]∨l.getLast? ≠RX b)∧ag B (p+R.length) (ax n)∧ag B (p+R.length+(ax n).length) [b.toNat]∧
  L=(l ++ TG n b) ++ m∧m.head? ≠RX b:=by
 obtain⟨m,rfl,i⟩:=h.GW L hL g e;rw[Sc] at hL;cases m with
 |nil=>simp at hL;omega
 |cons a c=>
  rw[h.ext _ i,an] at e;have f:=e.2;rw[xX,an,an] at f;have j:a=0∨a=1:=g a (by simp);refine⟨cT a (a :: c),a,(a :: c).drop (cT a (a :: c)),kS a c,?_,j,?_,f.1,?_,?_,Bt a (a :: c)⟩
  ·have:=Ai a (a :: c);omega
  ·rcases i with d|d|d
   ·simp at d
   ·exact .inl d
   ·right;simpa [eq_comm] using d
  ·rw[← jD j];exact f.2.1
  ·rw[SG,← Bu]
theorem G6.more{B:List Nat}{p cn:Nat}{l:List Int}{R:List Nat}(h:G6 B p cn l R){n:Nat}{b:Int}(c:n≠0)(M:n≤cn - l.length)(D:n<18446744073709551616)(e:b=0∨b=1)(z:l=[]∨l.getLast? ≠RX b)
 (j:ag B (p+R.length) (ax n)) (a:ag B (p+R.length+(ax n).length) [b.toNat]) (L:cn≤100) (A:l.length<cn):G6 B p cn (l ++ TG n b) (R ++ (ax n ++ [b.toNat])):=by
 have N:TG n b≠[]:=by simp;exact c
 have f:(l ++ TG n b).getLast?= RX b:=by
  rw[List.getLast?_append,List.getLast?_replicate,if_neg c];rfl
 have y:∀ m,(TG n b ++ m).head?= RX b:=by
  intro m;obtain⟨i,rfl⟩:∃ i,n=i+1:=⟨n - 1,by omega⟩;rw[List.replicate_succ];rfl
 refine⟨by simp;omega,?_,?_,?_,?_⟩
 ·intro H F;rcases S7.1 F with h1|h1
  ·exact h.bits H h1
  ·rw[(List.mem_replicate.1 h1).2];exact e
 ·rw[an,an];exact⟨h.st,j,a⟩
 ·intro m g;rw[f] at g;have C:m.head? ≠RX b:=by
   rcases g with h1|h1|h1
   ·subst h1;simp
   ·simp at h1;omega
   ·exact h1
  rw[SG,h.ext _ (by rw[y];rcases z with h1|h1;exact .inr (.inl h1);exact .inr (.inr (fun q=>h1 q.symm))),I9 b n m c C,jD e];simp
 ·intro k w x E;obtain⟨G,o,m,h1,I,J,K,t,d,u,v⟩:=h.next A k w x E;have r:G=n:=bT (by omega) D t j;subst r;have s:o=b:=by
   rw[cU] at d a;rw[d] at a;simp at a;omega
  subst s;exact⟨m,u,.inr (.inr (by rw[f];exact v))⟩
def G6.done{B:List Nat}{p cn:Nat}{l:List Int}{R:List Nat}(h:G6 B p cn l R)(e:¬ l.length<cn):
 l.length=cn∧bC l=R∧(∀ L:List Int,L.length=cn→kE L→ag B p (bC L)→L=l):=by
 have c:l.length=cn:=by have:=h.le;omega
 refine⟨c,?_,?_⟩
 ·have:=h.ext [] (.inl rfl);simpa [I7] using this
 ·intro L a b d;obtain⟨m,rfl,_⟩:=h.GW L a b d;rw[Sc] at a;have:m=[]:=Ua.1 (by omega);rw[this];simp
def rH(s:ByteArray)(p:Nat)(h:p<s.size):(bytesOf s)[p]? =RX s[p].toNat:=by
 rw[Sk (by rw[ai];exact h),uq s p h]
def OU(c:Nat)(h:c<256):bits .and .u8 (c:Int) 127=((c % 128:Nat):Int):=by
 have:=bits_mask .u8 8 (by decide) wraps_u8 7 (by decide) (c:Int) (by omega) (by omega);rw[show(127:Int)=2 ^ 7 - 1 from by decide,this];omega
def uj(n:Int)(a:0≤n)(b:n<2 ^ 64):Ud.wrap n=n:=by rw[wrap_u64];omega
def cN(s:ByteArray)(p q:Nat):bytesOf (s.extract p q)=((bytesOf s).drop p).take (q - p):=by
 unfold bytesOf;rw[ByteArray.data_extract];simp only[Array.toList_extract,List.extract_eq_take_drop,List.map_take,List.map_drop]
theorem At(r p c:Nat)(s:ByteArray)(w:R3)(b:s.size≤Sw)(hc:c≤2147483648)(l:¬ p+c≤s.size)(m:p≤s.size)(h:w.heap[r]? =RX (bg s p)):
 SF (aa.of RY) 128 #[.pointer (RX ⟨r,0,RZ⟩),.int .i64 (c:Int)] w fun e w'=>e= .panicked (dU p)∧∃ n,w'=w.drewN n:=by
 obtain⟨d,f,g,i⟩:=jM h;unfold Sw at b;have a:Sb (w.heap[r]? =RX (bg s p)):=h;clear h;have k:decide ((c:Int)<0)=R6:=by simp
 have j:decide ((s.size:Int) - (p:Int)<(c:Int))=R7:=by simp;omega
 go_enter aa.func128,Tryz.ntmps128
 go_wp2_with fail
 go_quiet (fail)
 go_wp2_with (go_at_call 97;refine(bN r p s _ (by exact a.out)).mono ?_;rintro e w' ⟨rfl,rfl⟩)
 exact⟨rfl,rfl,nq,rfl⟩
theorem DW(r p c:Nat)(s:ByteArray)(w:R3)(a:s.size≤Sw)(k:p+c≤s.size)(h:w.heap[r]? =RX (bg s p)):
 SF (aa.of RY) 128 #[.pointer (RX ⟨r,0,RZ⟩),.int .i64 (c:Int)] w fun e w'=>e= .returned (.string (s.extract p (p+c)))∧∃ n,w'=(w.setCell ⟨r,1,RZ⟩ (.int .i64 ((p+c:Nat):Int))).drewN n:=by
 obtain⟨b,d,f,g⟩:=jM h;unfold Sw at a;clear h;have j:decide ((c:Int)<0)=R6:=by simp
 have i:decide ((s.size:Int) - (p:Int)<(c:Int))=R6:=by simp;omega
 have l:(0:Int)≤(p:Int)+(c:Int):=by omega
 have o:(p:Int)+(c:Int)≤(s.size:Int):=by omega
 have q:(p:Int)≤(p:Int)+(c:Int):=by omega
 have t:((p:Int)+(c:Int)).toNat=p+c:=by omega
 go_enter aa.func128,Tryz.ntmps128
 go_wp2_with fail
 go_quiet (fail)
 generalize nq=m at*
 go_wp2_with fail
 go_quiet (fail)
 go_wp2;go_ret;exact⟨rfl,m+nq,CB _ _ _ _ _⟩
theorem AL(r p:Nat)(s:ByteArray)(w:R3)(l:s.size≤Sw)(m:p≤s.size)(h:w.heap[r]? =RX (bg s p)):
 SF (aa.of RY) 152 #[.pointer (RX ⟨r,0,RZ⟩)] w fun e w'=>Kp r w w'∧((∃ b:Int,e= .returned (.int .i64 b)∧(b=0∨b=1)∧ag (bytesOf s) p [b.toNat]∧w'.heap[r]? =RX (bg s (p+1))∧p+1≤s.size)∨
  (∃ q,e= .panicked (dU q)∧∀ b:Int,(b=0∨b=1)→¬ ag (bytesOf s) p [b.toNat])):=by
 have c:Sb (w.heap[r]? =RX (bg s p)):=h;clear h;by_cases g:p<s.size
 ·have i:=rH s p g;have k:Sb (∀ w,w.heap[r]? =RX (bg s p)→SF (aa.of RY) 129 #[.pointer (RX ⟨r,0,RZ⟩)] w fun e w'=>e= .returned (.int .u8 (s[p].toNat:Int))∧∃ a,w'=(w.setCell ⟨r,1,RZ⟩ (.int .i64 ((p+1:Nat):Int))).drewN a):=
   fun w u=>vC r p s w l g u
  have x:s[p].toNat<256:=s[p].toNat_lt;have j:Sb ((bytesOf s)[p]? =RX s[p].toNat):=i;clear i;generalize s[p].toNat=d at*;by_cases v:d≤1
  ·have o:decide ((1:Int)<(d:Int))=R6:=by simp;omega
   go_enter aa.func152,Tryz.ntmps152
   go_wp2_with (go_at_call 129;refine(k.out _ c.out).mono ?_;rintro e w' ⟨rfl,a,rfl⟩)
   go_ret;refine⟨(Kp.refl _ _).set _ _ a,.inl ⟨(d:Int),by first|rfl|(congr 2;omega),by omega,?_,k7 c.out a,by omega⟩⟩;rw[cU,j.out];simp
  ·have o:decide ((1:Int)<(d:Int))=R7:=by simp;omega
   have f:Sb (∀ b:Int,(b=0∨b=1)→¬ ag (bytesOf s) p [b.toNat]):=by
    intro b n;rw[cU,j.out];simp;omega
   go_enter aa.func152,Tryz.ntmps152
   go_wp2_with first|(go_at_call 129;refine(k.out _ c.out).mono ?_;rintro e w' ⟨rfl,a,rfl⟩)|(go_at_call 97;refine(bN r (p+1) s _ (by exact k7 c.out _)).mono ?_;rintro e w' ⟨rfl,rfl⟩)
   exact⟨rfl,(Kp.refl _ _).set _ _ a,.inr ⟨_,rfl,f.out⟩⟩
 ·have f:Sb (∀ b:Int,(b=0∨b=1)→¬ ag (bytesOf s) p [b.toNat]):=by
   intro b n t;have:=fO t (by rw[ai];exact m);rw[ai] at this;simp at this;omega
  go_enter aa.func152,Tryz.ntmps152
  go_wp2_with (go_at_call 129;refine(rI r p s _ l g m c.out).mono ?_;rintro e w' ⟨rfl,a,rfl⟩)
  exact⟨rfl,(Kp.refl _ _).drewN a,.inr ⟨_,rfl,f.out⟩⟩
def Pz(j:Nat):(128:Nat) ^ j=2 ^ (7*j):=by rw[Nat.pow_mul]
theorem NA(b c j:Nat)(h:j≤9)(f:b<128 ^ j)(hc:c<128):∃ d:Nat,bits .or .u64 (b:Int) (Ud.wrap ((c:Int)*2 ^ (7*j)))=(d:Int)∧d<18446744073709551616∧((j≤8∨c≤1)→d=b+128 ^ j*c):=by
 have o:(128:Nat) ^ 9=9223372036854775808:=by decide
 have l:128 ^ j≤128 ^ 9:=Uf (by omega) h;have g:(c:Int)*2 ^ (7*j)=((2 ^ (7*j)*c:Nat):Int):=by push_cast;rw[Int.mul_comm]
 have m:Ud.wrap ((c:Int)*2 ^ (7*j))=((2 ^ (7*j)*c % 18446744073709551616:Nat):Int):=by rw[g,wrap_u64];omega
 have k:=(bits_nat .u64 64 (by decide) uj b (2 ^ (7*j)*c % 18446744073709551616) (by omega) (by omega)).2;rw[m];refine⟨_,k,?_,?_⟩
 ·exact Nat.or_lt_two_pow (n:=64) (by omega) (by omega)
 ·intro a;have i:2 ^ (7*j)*c<18446744073709551616:=by
   rw[← Pz];rcases a with a|a
   ·have e:128 ^ j≤128 ^ 8:=Uf (by omega) a;have n:(128:Nat) ^ 8=72057594037927936:=by decide
    have:=Nat.mul_le_mul e (show c≤127 by omega);omega
   ·have:=Nat.mul_le_mul l a;omega
  rw[U5 i,Nat.or_comm,← Nat.two_pow_add_eq_or_of_lt (by rw[← Pz];exact f) c,Nat.add_comm,Pz]
theorem Aw(r p:Nat)(s:ByteArray)(w:R3)(K:s.size≤Sw)(Z:p≤s.size)(h:w.heap[r]? =RX (bg s p)):
 SF (aa.of RY) 130 #[.pointer (RX ⟨r,0,RZ⟩)] w fun e w'=>Kp r w w'∧((∃ v:Nat,e= .returned (.int .u64 (v:Int))∧v<18446744073709551616∧ag (bytesOf s) p (ax v)∧w'.heap[r]? =RX (bg s (p+(ax v).length)))∨
  (∃ q,e= .panicked (dU q)∧∀ v,v<18446744073709551616→¬ ag (bytesOf s) p (ax v))):=by
 have z:Sb (w.heap[r]? =RX (bg s p)):=h;clear h;go_enter aa.func130,Tryz.ntmps130
 go_wp2_with fail
 go_loopw [3,4] (fun c sh wr=>∃ (a m d:Nat),a≤10∧sh= .int .i64 ((7*a:Nat):Int)∧c= .int .u64 (d:Int)∧(a≤9→d=m)∧zB (bytesOf s) p a m∧p+a≤s.size∧wr.heap[r]? =RX (bg s (p+a))∧Kp r w wr) (fun _ sh _=>71 - (S2 sh).toNat)
 case atStart=>exact⟨0,0,0,by omega,rfl,rfl,fun _=>rfl,zB.zero _ _,by omega,z.out,Kp.refl _ _⟩
 case round=>
  clear z;obtain⟨a,m,d,Y,rfl,rfl,F,E,S,D,C⟩:=hrel;have i:Sb (zB (bytesOf s) p a m):=E;have g:Sb (wr.heap[r]? =RX (bg s (p+a))):=D;have j:Sb (Kp r w wr):=C;clear E D C;by_cases J:a≤9
  ·obtain rfl:=F J;clear F;by_cases n:p+a<s.size
   ·have o:Sb (∀ w,w.heap[r]? =RX (bg s (p+a))→SF (aa.of RY) 129 #[.pointer (RX ⟨r,0,RZ⟩)] w fun e w'=>e= .returned (.int .u8 (s[p+a].toNat:Int))∧∃ c,w'=(w.setCell ⟨r,1,RZ⟩ (.int .i64 ((p+a+1:Nat):Int))).drewN c):=
     fun w U=>vC r (p+a) s w K n U
    have H:s[p+a].toNat<256:=s[p+a].toNat_lt;have x:Sb ((bytesOf s)[p+a]? =RX s[p+a].toNat):=rH s (p+a) n;generalize s[p+a].toNat=b at*;have X:bits .and .u8 (b:Int) 127=(b:Int) % 128:=by rw[OU b H];omega
    obtain⟨l,t,W,G⟩:=NA d (b % 128) a J i.out.lt (by omega);rw[show((b % 128:Nat):Int)=(b:Int) % 128 from by omega] at t;have B:Sb ((a≤8∨b % 128≤1)→l=d+128 ^ a*(b % 128)):=G;clear G;by_cases Q:128≤b
    ·go_wp2_with (go_at_call 129;refine(o.out _ g.out).mono ?_;rintro e w' ⟨rfl,c,rfl⟩)
     refine⟨⟨a+1,d+128 ^ a*(b - 128),l,by omega,by go_num,by first|rfl|rw[t],?_,i.out.more (by omega) x.out Q H,by omega,k7 g.out c,j.out.set _ _ c⟩,by simp[S2];omega⟩;intro V;rw[B.out (.inl (by omega)),show b % 128=b - 128 by omega]
    ·have R:(b:Int) % 128=(b:Int):=by omega
     rw[R] at t;have I:=fun v f=>i.out.fin (v:=v) (by omega) x.out (by omega) f;have y:Sb (∀ v,v<18446744073709551616→(ag (bytesOf s) p (ax v)↔v=d+128 ^ a*b∧(b≠0∨a=0))):=I;clear I;by_cases u:(b≠0∨a=0)∧(b≤1∨a≤8)
     ·have A:Sb (d+128 ^ a*b<18446744073709551616):=i.out.top (by omega) (by omega);have L:Sb _:=i.out.Nb (c:=b) (by omega) (by omega) u.1;have M:Sb (l=d+128 ^ a*b):=by rw[show Sb (l=d+128 ^ a*b)↔l=d+128 ^ a*b from⟨fun h=>h.out,fun h=>h⟩,B.out (by omega),U5 (by omega)]
      go_wp2_with (go_at_call 129;refine(o.out _ g.out).mono ?_;rintro e w' ⟨rfl,c,rfl⟩)
      all_goals
       go_ret;exact⟨j.out.set _ _ c,.inl ⟨d+128 ^ a*b,by rw[← M.out];rfl,A.out,(y.out _ A.out).2 ⟨rfl,u.1⟩,by rw[L.out,← Td];exact k7 g.out c⟩⟩
     ·have k:Sb (∀ v,v<18446744073709551616→¬ ag (bytesOf s) p (ax v)):=by
       intro v f T;obtain⟨N,O⟩:=(y.out v f).1 T;by_cases P:b≤1∨a≤8
       ·exact u ⟨O,P⟩
       ·obtain rfl:a=9:=by omega
        rw[N] at f;exact zB.over (B:=bytesOf s) (p:=p) (by omega) f
      go_wp2_with first|(go_at_call 129;refine(o.out _ g.out).mono ?_;rintro e w' ⟨rfl,c,rfl⟩)|(go_at_call 97;refine(bN r (p+a+1) s _ (by exact k7 g.out _)).mono ?_;rintro e w' ⟨rfl,rfl⟩)
      all_goals exact⟨rfl,j.out.set _ _ c,.inr ⟨_,rfl,k.out⟩⟩
   ·have k:Sb (∀ v,v<18446744073709551616→¬ ag (bytesOf s) p (ax v)):=fun v f=>i.out.none (by omega) (by rw[ai];exact n) v f
    go_wp2_with (go_at_call 129;refine(rI r (p+a) s _ K n S g.out).mono ?_;rintro e w' ⟨rfl,c,rfl⟩)
    exact⟨rfl,j.out.drewN c,.inr ⟨_,rfl,k.out⟩⟩
  ·obtain rfl:a=10:=by omega
   have k:Sb (∀ v,v<18446744073709551616→¬ ag (bytesOf s) p (ax v)):=fun v f=>i.out.RV v f
   go_wp2_with (go_at_call 97;refine(bN r (p+10) s _ g.out).mono ?_;rintro e w' ⟨rfl,rfl⟩)
   exact⟨rfl,j.out,.inr ⟨_,rfl,k.out⟩⟩
theorem iR(r p:Nat)(s:ByteArray)(w:R3)(A:s.size≤Sw)(t:p≤s.size)(h:w.heap[r]? =RX (bg s p)):
 SF (aa.of RY) 95 #[.pointer (RX ⟨r,0,RZ⟩)] w fun e w'=>Kp r w w'∧((∃ v:Nat,e= .returned (.int .i64 (v:Int))∧v<2147483648∧ag (bytesOf s) p (ax v)∧p+(ax v).length≤s.size∧w'.heap[r]? =RX (bg s (p+(ax v).length)))∨
  (∃ q,e= .panicked (dU q)∧∀ v,v<2147483648→¬ ag (bytesOf s) p (ax v))):=by
 have g:Sb (w.heap[r]? =RX (bg s p)):=h;clear h;go_enter aa.func95,Tryz.ntmps95
 go_wp2_with fail
 refine(Aw r p s _ A t g.out).mono ?_;rintro e k ⟨d,⟨v,rfl,j,b,n⟩|⟨q,rfl,o⟩⟩
 ·have c:Sb (Kp r w k):=d;have m:Sb (ag (bytesOf s) p (ax v)):=b;have l:Sb (k.heap[r]? =RX (bg s (p+(ax v).length))):=n;have u:Sb (p+(ax v).length≤s.size):=by have:=fO b (by rw[ai];exact t);rwa [ai] at this
  have y:Sb (v<18446744073709551616):=j;clear d b n g j;by_cases i:v<2147483648
  ·have x:Sb (v<2147483648):=i;have z:decide ((2147483648:Int)≤(v:Int))=R6:=by rw[decide_eq_false_iff_not];omega
   have C:Tw (v:Int)=(v:Int):=by unfold Tw;omega
   clear i;go_wp2;go_ret;exact⟨c.out,.inl ⟨v,by first|rfl|go_num,x.out,m.out,u.out,l.out⟩⟩
  ·have f:Sb (∀ a,a<2147483648→¬ ag (bytesOf s) p (ax a)):=by
    intro a B b;have:=bT (by omega) y.out b m.out;omega
   have z:decide ((2147483648:Int)≤(v:Int))=R7:=by rw[decide_eq_true_iff];omega
   clear i
   go_wp2_with (go_at_call 97;refine(bN r (p+(ax v).length) s _ l.out).mono ?_;rintro e w' ⟨rfl,rfl⟩)
   exact⟨rfl,c.out,.inr ⟨_,rfl,f.out⟩⟩
 ·have c:Sb (Kp r w k):=d;have f:Sb (∀ a,a<2147483648→¬ ag (bytesOf s) p (ax a)):=fun v j=>o v (by omega);clear d o g;go_wp2;exact⟨rfl,c.out,.inr ⟨q,rfl,f.out⟩⟩
structure vY{α:Type}(E:List α→List Nat)(ok:α→Prop)(B:List Nat)(p cn:Nat)(l:List α):Prop where
 le:l.length≤cn
 Pq:∀ x∈l,ok x
 st:ag B p (E l)
 GW:∀ L:List α,L.length=cn→(∀ x∈L,ok x)→ag B p (E L)→∃ m,L=l ++ m
def ya{α:Type}{E:List α→List Nat}{e:List α→α→List Nat}(b:∀ l x,E (l ++ [x])=E l ++ e l x)(l m:List α):∃ t,E (l ++ m)=E l ++ t:=by
 induction m generalizing l with
 |nil=>exact⟨[],by simp⟩
 |cons x a d=>
  obtain⟨t,c⟩:=d (l ++ [x]);refine⟨e l x ++ t,?_⟩;rw[show l ++ x :: a=l ++ [x] ++ a by simp,c,b,SG]
def vY.zero{α:Type}{E:List α→List Nat}{ok:α→Prop}{B:List Nat}{p cn:Nat}(b:E []=[]):vY E ok B p cn []:=
 ⟨SK _,fun d c=>by simp at c,by rw[b];exact me _ _,fun a _ _ _=>⟨a,rfl⟩⟩
theorem vY.next{α:Type}{E:List α→List Nat}{ok:α→Prop}{e:List α→α→List Nat}{B:List Nat}{p cn:Nat}{l:List α}(h:vY E ok B p cn l)(c:∀ l x,E (l ++ [x])=E l ++ e l x)(g:l.length<cn)
 (L:List α) (hL:L.length=cn) (d:∀ x∈L,ok x) (b:ag B p (E L)):∃ x m,L=(l ++ [x]) ++ m∧ok x∧ag B (p+(E l).length) (e l x):=by
 obtain⟨m,rfl⟩:=h.GW L hL d b;cases m with
 |nil=>simp at hL;omega
 |cons x a=>
  obtain⟨i,f⟩:=ya c (l ++ [x]) a;refine⟨x,a,by simp,d x (by simp),?_⟩;rw[show l ++ x :: a=l ++ [x] ++ a by simp,f,c,SG,an,an] at b;exact b.2.1
theorem vY.more{α:Type}{E:List α→List Nat}{ok:α→Prop}{e:List α→α→List Nat}{B:List Nat}{p cn:Nat}{l:List α}(h:vY E ok B p cn l)(b:∀ l x,E (l ++ [x])=E l ++ e l x)(i:l.length<cn)
 {x:α} (q:ok x) (k:ag B (p+(E l).length) (e l x)) (o:∀ y,ok y→ag B (p+(E l).length) (e l y)→y=x):vY E ok B p cn (l ++ [x]):=by
 refine⟨by simp;omega,?_,by rw[b,an];exact⟨h.st,k⟩,?_⟩
 ·intro y r;rcases S7.1 r with a|a
  ·exact h.Pq y a
  ·simp at a;rw[a];exact q
 ·intro c g j n;obtain⟨y,m,a,d,f⟩:=h.next b i c g j n;rw[o y d f] at a;exact⟨m,a⟩
def vY.fail{α:Type}{E:List α→List Nat}{ok:α→Prop}{e:List α→α→List Nat}{B:List Nat}{p cn:Nat}{l:List α}(h:vY E ok B p cn l)(c:∀ l x,E (l ++ [x])=E l ++ e l x)(d:l.length<cn)
 (i:∀ y,ok y→¬ ag B (p+(E l).length) (e l y)) (L:List α) (hL:L.length=cn) (f:∀ x∈L,ok x):¬ ag B p (E L):=by
 intro g;obtain⟨y,m,j,a,b⟩:=h.next c d L hL f g;exact i y a b
def vY.done{α:Type}{E:List α→List Nat}{ok:α→Prop}{B:List Nat}{p cn:Nat}{l:List α}(h:vY E ok B p cn l)(e:¬ l.length<cn):
 l.length=cn∧(∀ L:List α,L.length=cn→(∀ x∈L,ok x)→ag B p (E L)→L=l):=by
 have c:l.length=cn:=by have:=h.le;omega
 refine⟨c,?_⟩;intro L a b d;obtain⟨m,rfl⟩:=h.GW L a b d;rw[Sc] at a;have:m=[]:=Ua.1 (by omega);rw[this];simp
def uz (m:Nat):Int:=if m % 2=1 then -((m / 2:Nat):Int) - 1 else((m / 2:Nat):Int)
def QV(m:Nat):zz (uz m)=m:=by
 unfold zz uz
 split<;>split<;>omega
def GX(n:Int):uz (zz n)=n:=by
 unfold zz uz
 split<;>split<;>omega
def Ms(m:Nat)(h:m<18446744073709551616): -9223372036854775808≤uz m∧uz m≤9223372036854775807:=by
 unfold uz
 split<;>omega
structure VK(k:Int)(v:az):Prop where
 there:v.null=R6
 lo: -9223372036854775808≤v.n
 hi:v.n≤9223372036854775807
 s1:k=1→v.s=⟨#[]⟩
 s2:k=2→(v.n=0∨v.n=1)∧v.s=⟨#[]⟩
 s3:k=3→v.n=0∧v.s.size≤32
def jR{s:ByteArray}(h:s.toList=[]):s=⟨#[]⟩:=by
 rw[Vi s] at h;apply ByteArray.ext;apply Array.ext';simpa using h
def JD{k:Int}{v:az}(c:k=1∨k=2∨k=3)(b:v.null=R6)(h:Ek v)(a:eU v k=R7):VK k v:=by
 unfold eU at a;rw[b] at a;refine⟨b,h.lo,h.hi,?_,?_,?_⟩
 ·rintro rfl;simp at a;exact jR a
 ·rintro rfl;simp at a;exact⟨a.1,jR a.2⟩
 ·rintro rfl;simp at a;exact⟨a.1,by omega⟩
def VK.ok{k:Int}{v:az}(a:k=1∨k=2∨k=3)(h:VK k v):oG v:=by
 refine⟨h.lo,h.hi,?_⟩;rcases a with rfl|rfl|rfl
 ·rw[h.s1 rfl];decide
 ·rw[(h.s2 rfl).2];decide
 ·exact(h.s3 rfl).2
theorem lm{k:Int}(i:k=1∨k=2∨k=3){B:List Nat}{p:Nat}{x y:az}(b:VK k x)(c:VK k y)(h1:ag B p (aL k x))(a:ag B p (aL k y)):x=y:=by
 have e:x.n=y.n→x.s=y.s→x=y:=by
  intro f g;have h:=b.there.trans c.there.symm;cases x;cases y;simp at f g h;simp[f,g,h]
 rcases i with rfl|rfl|rfl
 ·have d:∀ v,aL 1 v=ax (zz v.n):=fun v=>rfl;rw[d] at h1 a;have:=bT (AB _ b.lo b.hi) (AB _ c.lo c.hi) h1 a;refine e ?_ (by rw[b.s1 rfl,c.s1 rfl]);rw[← GX x.n,this,GX]
 ·have d:∀ v,aL 2 v=[byteOf v.n]:=fun v=>rfl;rw[d,cU] at h1 a;rw[h1] at a;simp at a;refine e ?_ (by rw[(b.s2 rfl).2,(c.s2 rfl).2]);rw[jD (b.s2 rfl).1,jD (c.s2 rfl).1] at a;have:=(b.s2 rfl).1;have:=(c.s2 rfl).1;omega
 ·have d:∀ v,aL 3 v=ax v.s.size ++ bytesOf v.s:=fun v=>rfl;rw[d,an] at h1 a;have j:=(b.s3 rfl).2;have l:=(c.s3 rfl).2;have:=bT (by omega) (by omega) h1.1 a.1;rw[this] at h1;refine e (by rw[(b.s3 rfl).1,(c.s3 rfl).1]) ?_;exact mD (gI h1.2 a.2 (by rw[ai,ai,this]))
def k6(k:Int)(l:List az)(x:az):aE k (l ++ [x])=aE k l ++ aL k x:=by
 unfold aE;rw[Tf,Ta]
def uZ(a n d:Int)(b: -9223372036854775808≤n)(c:n≤9223372036854775807)(h:Tw (n - a)=d):Tw (a+d)=n:=by
 unfold Tw at*;omega
def BW(a d:Int)(b: -9223372036854775808≤d)(c:d≤9223372036854775807):Tw (Tw (a+d) - a)=d:=by
 unfold Tw;omega
theorem Ia{a:Int}{B:List Nat}{p:Nat}{x y:az}(b:VK 1 x)(c:VK 1 y)(h1:ag B p (ax (zz (Tw (x.n - a)))))(l:ag B p (ax (zz (Tw (y.n - a))))):x=y:=by
 have g:=gX (x.n - a);have h:=gX (y.n - a);have j:=bT (AB _ g.1 g.2) (AB _ h.1 h.2) h1 l;have k:Tw (x.n - a)=Tw (y.n - a):=by rw[← GX (Tw (x.n - a)),j,GX]
 have d:=uZ a x.n _ b.lo b.hi rfl;have i:=uZ a y.n _ c.lo c.hi rfl;rw[k,i] at d;have e:=b.there.trans c.there.symm;have f:=(b.s1 rfl).trans (c.s1 rfl).symm;cases x;cases y;simp at d e f;simp[d,e,f]
def Is(x:Nat)(a:x<9223372036854775808):bits .xor .i64 (x:Int) 0=(x:Int):=by
 show Wb.wrap (((UP 64 (x:Int)) ^^^ (UP 64 0)).toNat:Int)=_;rw[BitVec.ofInt_natCast,show UP 64 0=0#64 from rfl,BitVec.xor_zero,BitVec.toNat_ofNat,IntKind.wrap_i64];omega
def Ir(x:Nat)(a:x<9223372036854775808):bits .xor .i64 (x:Int) (-1)= -(x:Int) - 1:=by
 show Wb.wrap (((UP 64 (x:Int)) ^^^ (UP 64 (-1))).toNat:Int)=_;rw[BitVec.ofInt_natCast,show UP 64 (-1)=BitVec.allOnes 64 from by decide +kernel,BitVec.xor_allOnes,BitVec.toNat_not,BitVec.toNat_ofNat,IntKind.wrap_i64];omega
def MO(n:Nat)(a:n<18446744073709551616):bits .and .u64 (n:Int) 1=((n % 2:Nat):Int):=by
 have:=bits_mask .u64 64 (by decide) uj 1 (by decide) (n:Int) (by omega) (by omega);rw[show(1:Int)=2 ^ 1 - 1 from by decide,this];omega
def Mr(n:Nat)(b:n<18446744073709551616):bits .xor .i64 ((n:Int) / 2) (-((n:Int) % 2))=uz n:=by
 rw[show(n:Int) / 2=((n / 2:Nat):Int) from by omega];unfold uz;by_cases a:n % 2=1
 ·rw[show -((n:Int) % 2)= -1 from by omega,Ir _ (by omega),if_pos a]
 ·rw[show -((n:Int) % 2)=0 from by omega,Is _ (by omega),if_neg a]
def BS(n:Nat)(w:R3)(a:n<18446744073709551616):SF (aa.of RY) 161 #[.int .u64 (n:Int)] w fun e w'=>e= .returned (.int .i64 (uz n))∧w'=w:=by
 have c:=MO n a;have d:Tw ((n:Int) / 2)=((n / 2:Nat):Int):=by unfold Tw;omega
 have b:Sb (n<18446744073709551616):=a;clear a;go_enter aa.func161,Tryz.ntmps161;go_wp2;go_ret;exact⟨by rw[← Mr n b.out];rfl,rfl⟩
theorem Fx(s:ByteArray)(w:R3)(E:s.size≤32):SF (aa.of RY) 98 #[.string s] w fun e w'=>e= .returned (.string s)∧Si w.heap.size w w':=by
 by_cases j:s.size=0
 ·obtain rfl:s=⟨#[]⟩:=ByteArray.ext (Array.eq_empty_of_size_eq_zero j);go_enter aa.func98,Tryz.ntmps98;go_wp2;go_ret;exact⟨rfl,So _ _⟩
 ·obtain⟨m,g,x,h,y⟩:=TB aa.rT;have u:((aa.of RY).info? 5).map (·.size)=RX 1:=by rw[g];simp[h]
  have q:(aa.of RY).cellsOf 5=1:=by simp[Program.cellsOf,g,h]
  obtain⟨a,d⟩:∃ a,a=madeCells (T7 .u8 0).cells (((s.size:Nat):Int).toNat*m.size):=⟨_,rfl⟩;have A:a.size=s.size:=by rw[d,size_madeCells,h];simp
  have D:∀ c:R3,(Vx 133 (.int .i64 (s.size:Int)) (.int .i64 (s.size:Int))).run (aa.of RY) c= .ok (.slice (RX ⟨c.heap.size,0,RZ⟩) s.size s.size) (c.alloc (.cells a 5)):=fun c=>by
   have i:=run_make (P:=(aa.of RY)) c 133 5 m (.int .u8 0) aa.underlying133 g x .i64 .i64 (s.size:Int) (s.size:Int) (by omega) (by omega) (by rw[y];omega) (by omega);rw[← d] at i;simpa using i
  clear d;have r:=Lib.run_copy_row_string (P:=(aa.of RY)) (w.alloc (.cells a 5)) 133 9 3 5 w.heap.size 0 s.size s.size s a 5 aa.underlying133 u (T8 w _) (R8 _) (by omega);obtain⟨b,f⟩:∃ b,b=(a.toList.take 0 ++ Lib.byteCells s.data.toList ++ a.toList.drop (0+s.size)).toArray:=⟨_,rfl⟩;rw[← f] at r;have k:b.toList=Lib.byteCells s.data.toList:=by
   rw[f,List.toList_toArray,List.take_zero,List.nil_append,List.drop_of_length_le (by rw[T5];omega),Uy]
  have B:b.size=s.size:=by rw[← T5,k,Lib.byteCells_length,← VB]
  have l:((w.alloc (.cells a 5)).setRow w.heap.size b).heap[w.heap.size]? =RX (.cells b 5 (0,0)):=setRow_heap _ _ a _ 5 (0,0) (T8 w _);have t:s.data.toList≠[]:=fun e=>j (by rw[VB,e];rfl);have n:=Lib.run_unsafeString_row (P:=(aa.of RY)) ((w.alloc (.cells a 5)).setRow w.heap.size b) 206 3 9 5 aa.underlying206 q w.heap.size b.size (by unfold World.shape?;rw[l]) s.data.toList t (by rw[← VB];omega) (by rw[← VB];omega)
   (fun z G v=>Lib.cells_of_row l b.size z _ (by rw[Tj (by rw[T5];exact R8 _),k];simp[Lib.byteCells,v]))
  rw[← VB] at n;clear f;go_enter aa.func98,Tryz.ntmps98;go_wp2;go_ret;have o:Si w.heap.size w (w.alloc (.cells a 5)):=(So _ w).alloc (R8 _) _;have p:Si w.heap.size (w.alloc (.cells a 5)) ((w.alloc (.cells a 5)).setRow w.heap.size b):=⟨rfl,rfl,rfl,by simp,fun F C=>setRow_other _ _ _ _ (by omega)⟩;exact⟨rfl,Lib.below_freeze (o.trans p) (p:=⟨w.heap.size,0,RZ⟩) (R8 _) _⟩
def tq(s:ByteArray)(w:R3)(b:s.size≤32):SF (aa.of RY) 66 #[.string s] w fun e w'=>e= .returned (.string s)∧Si w.heap.size w w':=by
 go_enter aa.func66,Tryz.ntmps66
 go_wp2_with fail
 refine(Fx s _ b).mono ?_;rintro e w' ⟨rfl,a⟩;go_wp2;go_ret;exact⟨rfl,a⟩
theorem Br(r p:Nat)(s:ByteArray)(w:R3)(u:s.size≤Sw)(P:p≤s.size)(h:w.heap[r]? =RX (bg s p)):
 SF (aa.of RY) 162 #[.pointer (RX ⟨r,0,RZ⟩)] w fun e w'=>Kp r w w'∧((∃ t:ByteArray,e= .returned (.string t)∧t.size≤32∧ag (bytesOf s) p (ax t.size ++ bytesOf t)∧w'.heap[r]? =RX (bg s (p+(ax t.size ++ bytesOf t).length)))∨
  (∃ q,e= .panicked (dU q)∧∀ t:ByteArray,t.size≤32→¬ ag (bytesOf s) p (ax t.size ++ bytesOf t))):=by
 have S:r<w.heap.size:=Sf h;have z:Sb (w.heap[r]? =RX (bg s p)):=h;clear h;go_enter aa.func162,Tryz.ntmps162
 go_wp2_with fail
 refine(iR r p s _ u P z.out).mono ?_;rintro e j ⟨g,⟨a,rfl,E,G,D,B⟩|⟨q,rfl,F⟩⟩
 ·have c:Sb (Kp r w j):=g;have l:Sb (ag (bytesOf s) p (ax a)):=G;have f:Sb (j.heap[r]? =RX (bg s (p+(ax a).length))):=B;have y:Sb (a<2147483648):=E;have Q:=g.size;clear g G B E z;by_cases R:32<a
  ·have d:Sb (∀ t:ByteArray,t.size≤32→¬ ag (bytesOf s) p (ax t.size ++ bytesOf t)):=by
    intro t H b;rw[an] at b;have:=bT (by omega) (by have:=y.out;omega) b.1 l.out;omega
   go_wp2_with (go_at_call 97;refine(bN r _ s _ f.out).mono ?_;rintro e w' ⟨rfl,rfl⟩)
   exact⟨rfl,c.out,.inr ⟨_,rfl,d.out⟩⟩
  ·by_cases C:p+(ax a).length+a≤s.size
   ·have I:(s.extract (p+(ax a).length) (p+(ax a).length+a)).size=a:=by rw[ByteArray.size_extract];omega
    have N:Sb (bytesOf (s.extract (p+(ax a).length) (p+(ax a).length+a))=((bytesOf s).drop (p+(ax a).length)).take a):=by
     show _=_;rw[cN,show p+(ax a).length+a - (p+(ax a).length)=a by omega]
    have A:Sb (∀ w,w.heap[r]? =RX (bg s (p+(ax a).length))→SF (aa.of RY) 128 #[.pointer (RX ⟨r,0,RZ⟩),.int .i64 (a:Int)] w fun e w'=>e= .returned (.string (s.extract (p+(ax a).length) (p+(ax a).length+a)))∧∃ m,w'=(w.setCell ⟨r,1,RZ⟩ (.int .i64 ((p+(ax a).length+a:Nat):Int))).drewN m):=
     fun w i=>DW r _ a s w u C i
    generalize s.extract (p+(ax a).length) (p+(ax a).length+a)=K at*
    go_wp2_with (go_at_call 128;refine(A.out _ f.out).mono ?_;rintro e v ⟨rfl,i⟩;have n:Sb (∃ m,v=(j.setCell ⟨r,1,RZ⟩ (.int .i64 ((p+(ax a).length+a:Nat):Int))).drewN m):=i;clear i)
    have k:Sb (v.heap[r]? =RX (bg s (p+(ax a).length+a))):=by
     obtain⟨m,rfl⟩:=n.out;exact k7 f.out m
    have x:Sb (Kp r w v):=by
     obtain⟨m,rfl⟩:=n.out;exact c.out.set 1 _ m
    clear n A f c Q;refine(tq K _ (by omega)).mono ?_;rintro e J ⟨rfl,o⟩;have L:Sb (Kp r w J):=x.out.trans (Kp.bS o);have M:Sb (J.heap[r]? =RX (bg s (p+(ax a).length+a))):=by
     show _=_;rw[o.block r (Sf k.out)];exact k.out
    clear o x k;go_wp2;go_ret;refine⟨L.out,.inl ⟨K,rfl,by omega,?_,?_⟩⟩
    ·rw[an,I];refine⟨l.out,?_⟩;rw[N.out];exact List.take_prefix _ _
    ·rw[Sc,ai,I,← Td];exact M.out
   ·have d:Sb (∀ t:ByteArray,t.size≤32→¬ ag (bytesOf s) p (ax t.size ++ bytesOf t)):=by
     intro t H b;rw[an] at b;have:=bT (by omega) (by have:=y.out;omega) b.1 l.out;rw[this] at b;have O:=fO b.2 (by rw[ai];exact D);rw[ai,ai] at O;omega
    go_wp2_with (go_at_call 128;refine(At r _ a s _ u (by omega) C D f.out).mono ?_;rintro e w' ⟨rfl,m,rfl⟩)
    exact⟨rfl,c.out.drewN m,.inr ⟨_,rfl,d.out⟩⟩
 ·have d:Sb (∀ t:ByteArray,t.size≤32→¬ ag (bytesOf s) p (ax t.size ++ bytesOf t)):=by
   intro t H b;rw[an] at b;exact F t.size (by omega) b.1
  have c:Sb (Kp r w j):=g;clear F g;go_wp2;exact⟨rfl,c.out,.inr ⟨q,rfl,d.out⟩⟩
def pH{w:R3}{g:Nat}{a b c:R2}{t:Sg}(h:w.heap[g]? =RX (.cells #[a,b,c] t (0,0))):
 w.cell? ⟨g,0,RZ⟩=RX a∧w.cell? ⟨g,1,RZ⟩=RX b∧w.cell? ⟨g,2,RZ⟩=RX c∧w.frozen? ⟨g,0,RZ⟩=R6∧w.frozen? ⟨g,1,RZ⟩=R6∧w.frozen? ⟨g,2,RZ⟩=R6:=by
 refine⟨?_,?_,?_,?_,?_,?_⟩<;>first|simp[Sr,h]|simp[S4,h]
def sW{d:R3}{g:Nat}{a b c:R2}(a' b' f:R2){t:Sg}(h:d.heap[g]? =RX (.cells #[a,b,c] t (0,0)))(r:Nat)(y:r≠g){w:R3}(i:Kp r w d)(z:w.heap.size≤g):
 let e:=((d.setCell ⟨g,0,RZ⟩ a').setCell ⟨g,1,RZ⟩ b').setCell ⟨g,2,RZ⟩ f
 e.cell? ⟨g,0,RZ⟩=RX a'∧e.cell? ⟨g,1,RZ⟩=RX b'∧e.cell? ⟨g,2,RZ⟩=RX f∧e.heap[r]? =d.heap[r]? ∧Kp r w e:=by
 have q:(d.setCell ⟨g,0,RZ⟩ a').heap[g]? =RX (.cells #[a',b,c] t (0,0)):=by rw[Sq d g 0 _ _ _ h];rfl
 have s:((d.setCell ⟨g,0,RZ⟩ a').setCell ⟨g,1,RZ⟩ b').heap[g]? =RX (.cells #[a',b',c] t (0,0)):=by rw[Sq _ g 1 _ _ _ q];rfl
 have u:(((d.setCell ⟨g,0,RZ⟩ a').setCell ⟨g,1,RZ⟩ b').setCell ⟨g,2,RZ⟩ f).heap[g]? =RX (.cells #[a',b',f] t (0,0)):=by rw[Sq _ g 2 _ _ _ s];rfl
 have l:∀ j,j≠g→(((d.setCell ⟨g,0,RZ⟩ a').setCell ⟨g,1,RZ⟩ b').setCell ⟨g,2,RZ⟩ f).heap[j]? =d.heap[j]? :=by
  intro j k;rw[Sv _ _ _ _ (by simpa using k),Sv _ _ _ _ (by simpa using k),Sv _ _ _ _ (by simpa using k)]
 obtain⟨n,o,p,_⟩:=pH u;refine⟨n,o,p,l r y,i.os,i.tape,i.output,?_,?_⟩
 ·simpa using i.size
 ·intro m v x;rw[l m (by omega)];exact Um i m v x
theorem jm(k:Int)(Y:k=1∨k=2∨k=3)(r p:Nat)(s:ByteArray)(w:R3)(Q:s.size≤Sw)(O:p≤s.size)(h:w.heap[r]? =RX (bg s p)):
 SF (aa.of RY) 153 #[.pointer (RX ⟨r,0,RZ⟩),.int .i64 k] w fun e w'=>Kp r w w'∧((∃ v:az,e= .returned (.agg #[.bool v.null,.int .i64 v.n,.string v.s])∧VK k v∧ag (bytesOf s) p (aL k v)∧p+(aL k v).length≤s.size∧w'.heap[r]? =RX (bg s (p+(aL k v).length)))∨
  (∃ q,e= .panicked (dU q)∧∀ v:az,VK k v→¬ ag (bytesOf s) p (aL k v))):=by
 have ab:r<w.heap.size:=Sf h;have P:Sb (w.heap[r]? =RX (bg s p)):=h;have u:Sb ((w.alloc (.cells #[.bool R6,.int .i64 0,.string ⟨#[]⟩] 59)).heap[r]? =RX (bg s p)):=by
  show _=_;rw[SP _ _ r ab];exact h
 have g:Sb (Kp r w (w.alloc (.cells #[.bool R6,.int .i64 0,.string ⟨#[]⟩] 59))):=(Kp.refl r w).alloc _;have U:∀ x,ag (bytesOf s) p x→p+x.length≤s.size:=fun x M=>by have:=fO M (by rw[ai];exact O);rwa [ai] at this
 have T:Sb (∀ x,ag (bytesOf s) p x→p+x.length≤s.size):=U;clear h U;rcases Y with rfl|rfl|rfl
 ·go_enter aa.func153,Tryz.ntmps153
  go_wp2_with fail
  refine(Aw r p s _ Q O u.out).mono ?_;rintro e b ⟨a,⟨n,rfl,R,m,j⟩|⟨q,rfl,l⟩⟩
  ·have c:Sb (Kp r w b):=g.out.trans a;have d:b.heap[w.heap.size]? =RX (.cells #[.bool R6,.int .i64 0,.string ⟨#[]⟩] 59 (0,0)):=Kp.block a (T8 w _) (by omega);obtain⟨B,C,D,E,F,G⟩:=pH d;have y:Sb (b.heap[w.heap.size]? =RX (.cells #[.bool R6,.int .i64 0,.string ⟨#[]⟩] 59 (0,0))):=d;clear d;have A:Sb (b.heap[r]? =RX (bg s (p+(ax n).length))):=j;have o:Sb (ag (bytesOf s) p (ax n)):=m;have W:Sb (n<18446744073709551616):=R;have X:Sb (∀ w,SF (aa.of RY) 161 #[.int .u64 (n:Int)] w fun e w'=>e= .returned (.int .i64 (uz n))∧w'=w):=fun w=>BS n w R;clear R m j a P u g
   go_wp2_with (go_at_call 161;refine(X.out _).mono ?_;rintro e w' ⟨rfl,rfl⟩)
   clear B C D E F G;obtain⟨H,I,J,K,L⟩:=sW (.bool R6) (.int .i64 (uz n)) (.string ⟨#[]⟩) y.out r (by omega) c.out (R8 _);simp[TT,SX,Tryz.results153,go_sem,H,I,J];have f:aL 1 ⟨R6,uz n,⟨#[]⟩⟩=ax n:=by show ax (zz (uz n))=_;rw[QV]
   have V:=Ms n W.out;refine⟨L,⟨R6,uz n,⟨#[]⟩⟩,⟨rfl,rfl,rfl⟩,⟨rfl,V.1,V.2,fun _=>rfl,fun h=>by omega,fun h=>by omega⟩,?_,?_,?_⟩
   ·rw[f];exact o.out
   ·rw[f];exact T.out _ o.out
   ·rw[f,K];exact A.out
  ·have z:Sb (∀ v:az,VK 1 v→¬ ag (bytesOf s) p (aL 1 v)):=fun v t=>l (zz v.n) (AB _ t.lo t.hi);have c:Sb (Kp r w b):=g.out.trans a;clear l a;go_wp2;exact⟨rfl,c.out,.inr ⟨q,rfl,z.out⟩⟩
 ·go_enter aa.func153,Tryz.ntmps153
  go_wp2_with fail
  refine(AL r p s _ Q O u.out).mono ?_;rintro e b ⟨a,⟨n,rfl,N,m,j,Z⟩|⟨q,rfl,l⟩⟩
  ·have c:Sb (Kp r w b):=g.out.trans a;have d:b.heap[w.heap.size]? =RX (.cells #[.bool R6,.int .i64 0,.string ⟨#[]⟩] 59 (0,0)):=Kp.block a (T8 w _) (by omega);obtain⟨B,C,D,E,F,G⟩:=pH d;have y:Sb (b.heap[w.heap.size]? =RX (.cells #[.bool R6,.int .i64 0,.string ⟨#[]⟩] 59 (0,0))):=d;clear d;have A:Sb (b.heap[r]? =RX (bg s (p+1))):=j;have o:Sb (ag (bytesOf s) p [n.toNat]):=m;have S:Sb (n=0∨n=1):=N;clear N m j a P u g;go_wp2;clear B C D E F G;obtain⟨H,I,J,K,L⟩:=sW (.bool R6) (.int .i64 n) (.string ⟨#[]⟩) y.out r (by omega) c.out (R8 _);simp[TT,SX,Tryz.results153,go_sem,H,I,J];have f:aL 2 ⟨R6,n,⟨#[]⟩⟩=[n.toNat]:=by show[byteOf n]=_;rw[jD S.out]
   have N:=S.out;refine⟨L,⟨R6,n,⟨#[]⟩⟩,⟨rfl,rfl,rfl⟩,⟨rfl,by show _≤n;omega,by show n≤_;omega,fun h=>by omega,fun _=>⟨N,rfl⟩,fun h=>by omega⟩,?_,?_,?_⟩
   ·rw[f];exact o.out
   ·rw[f];exact Z
   ·rw[f,K];exact A.out
  ·have z:Sb (∀ v:az,VK 2 v→¬ ag (bytesOf s) p (aL 2 v)):=fun v t M=>l v.n (t.s2 rfl).1 (by rw[← jD (t.s2 rfl).1];exact M);have c:Sb (Kp r w b):=g.out.trans a;clear l a;go_wp2;exact⟨rfl,c.out,.inr ⟨q,rfl,z.out⟩⟩
 ·go_enter aa.func153,Tryz.ntmps153
  go_wp2_with fail
  refine(Br r p s _ Q O u.out).mono ?_;rintro e b ⟨a,⟨i,rfl,ad,m,j⟩|⟨q,rfl,l⟩⟩
  ·have c:Sb (Kp r w b):=g.out.trans a;have d:b.heap[w.heap.size]? =RX (.cells #[.bool R6,.int .i64 0,.string ⟨#[]⟩] 59 (0,0)):=Kp.block a (T8 w _) (by omega);obtain⟨B,C,D,E,F,G⟩:=pH d;have y:Sb (b.heap[w.heap.size]? =RX (.cells #[.bool R6,.int .i64 0,.string ⟨#[]⟩] 59 (0,0))):=d;clear d;have A:Sb (b.heap[r]? =RX (bg s (p+(ax i.size ++ bytesOf i).length))):=j;have o:Sb (ag (bytesOf s) p (ax i.size ++ bytesOf i)):=m;clear m j a P u g;go_wp2;clear B C D E F G;obtain⟨H,I,J,K,L⟩:=sW (.bool R6) (.int .i64 0) (.string i) y.out r (by omega) c.out (R8 _);simp[TT,SX,Tryz.results153,go_sem,H,I,J];have f:aL 3 ⟨R6,0,i⟩=ax i.size ++ bytesOf i:=rfl;refine⟨L,⟨R6,0,i⟩,⟨rfl,rfl,rfl⟩,⟨rfl,by show _≤(0:Int);omega,by show(0:Int)≤_;omega,fun h=>by omega,fun h=>by omega,fun _=>⟨rfl,ad⟩⟩,?_,?_,?_⟩
   ·rw[f];exact o.out
   ·rw[f];exact T.out _ o.out
   ·rw[f,K];exact A.out
  ·have z:Sb (∀ v:az,VK 3 v→¬ ag (bytesOf s) p (aL 3 v)):=fun v t M=>l v.s (t.s3 rfl).2 M;have c:Sb (Kp r w b):=g.out.trans a;clear l a;go_wp2;exact⟨rfl,c.out,.inr ⟨q,rfl,z.out⟩⟩
def GC{w:R3}{base g n cap:Nat}{b:List Int}(h:w.ownsRow base 3 1 (.slice (RX ⟨g,0,RZ⟩) n cap) n (aW b))(k:b.length=n)(j:Nat)(i:j<n):w.cell? ⟨g,j,RZ⟩=RX (.int .i64 (b.getD j 0)):=by
 subst k;obtain⟨l,m,q,o,c,d,p,e⟩:=qx.cy h;simp only[Uq] at c;obtain⟨a,_,_⟩:=c;have f:=d (by omega);rw[f] at a;simp only[Ts,U6] at a;have:=e j i;rw[← a.1,← a.2.1,SZ] at this;exact this
def rR{a:List Int}(h:0<a.length):a.getLast?= RX (a.getD (a.length - 1) 0):=by
 rw[List.getLast?_eq_getElem?,Wc,Sk (by omega)];rfl
def Dl(a:List Int)(m:Nat)(b:Int):aW (a ++ TG m b) ++ [.int .i64 b]=aW (a ++ TG (m+1) b):=by
 rw[j8,SG,List.replicate_succ']
theorem si(s:ByteArray)(r p cn:Nat)(w:R3)(b3:s.size≤Sw)(cu:cn≤100)(c3:p≤s.size)(h:w.heap[r]? =RX (bg s p)):
 SF (aa.of RY) 164 #[.pointer (RX ⟨r,0,RZ⟩),.int .i64 cn] w fun e w'=>Kp r w w'∧
  ((∃ (a:List Int) (v:R2),e= .returned v∧a.length=cn∧kE a∧ag (bytesOf s) p (bC a)∧(∀ L:List Int,L.length=cn→kE L→ag (bytesOf s) p (bC L)→L=a)∧p+(bC a).length≤s.size∧
    w'.heap[r]? =RX (bg s (p+(bC a).length))∧w'.ownsRow w.heap.size 3 1 v a.length (aW a))∨
   (∃ q,e= .panicked (dU q)∧∀ L:List Int,L.length=cn→kE L→¬ ag (bytesOf s) p (bC L))):=by
 obtain⟨bd,ba,c5,bc,c6⟩:=TB aa.CP;have bb:r<w.heap.size:=Sf h;have bl:Sb (w.heap[r]? =RX (bg s p)):=h;clear h;go_enter aa.func164,Tryz.ntmps164
 go_wp2_with (at_make;refine Ui _ rfl _ _ 22 rfl w.heap.size 3 bd (.int .i64 0) 1 aa.underlying22 ba c5 bc .i64 .i64 _ cn rfl rfl rfl (by rw[c6];omega) (by unfold Sw;omega) (R8 _) ?_;intro ch cc a9)
 have bi:Sb (Kp r w ch):=(Kp.refl r w).grown a9 (by simp);have bm:Sb (ch.heap[r]? =RX (bg s p)):=by show _=_;rw[a9.block r bb (by simp)];exact bl.out
 clear bl a9
 go_loopw [5] (fun D wr=>∃ (a:List Int) (c:List Nat),D= .slice (RX ⟨w.heap.size,0,RZ⟩) a.length cn∧G6 (bytesOf s) p cn a c∧p+c.length≤s.size∧wr.heap[r]? =RX (bg s (p+c.length))∧
  wr.ownsRow w.heap.size 3 1 (.slice (RX ⟨w.heap.size,0,RZ⟩) a.length cn) a.length (aW a)∧Kp r w wr) (fun D _=>match D with| .slice _ b _=>cn - b|_=>0)
 case atStart=>exact⟨[],[],rfl,G6.zero _ _ _,by simpa using c3,by simpa using bm.out,cc,bi.out⟩
 case round=>
  clear cc bi bm;obtain⟨a,c,rfl,a7,cd,bx,cb,a6⟩:=hrel;have k:Sb (G6 (bytesOf s) p cn a c):=a7;have a0:Sb (wr.heap[r]? =RX (bg s (p+c.length))):=bx;have M:Sb (Kp r w wr):=a6;have Y:Sb (wr.ownsRow w.heap.size 3 1 (.slice (RX ⟨w.heap.size,0,RZ⟩) a.length cn) a.length (aW a)):=cb;have dq:w.heap.size≤wr.heap.size:=a6.size;have cx:=a7.le;clear a7 bx a6 cb;by_cases l:a.length<cn
  ·go_wp2_with fail
   refine(iR r (p+c.length) s _ b3 cd a0.out).mono ?_;rintro e ae ⟨P,⟨b,rfl,b4,ce,b2,bA⟩|⟨q,rfl,T⟩⟩
   ·have F:Sb (Kp r w ae):=M.out.trans P;have ar:Sb (ae.ownsRow w.heap.size 3 1 (.slice (RX ⟨w.heap.size,0,RZ⟩) a.length cn) a.length (aW a)):=P.own Y.out bb;have Z:Sb (ag (bytesOf s) (p+c.length) (ax b)):=ce;have bo:Sb (ae.heap[r]? =RX (bg s (p+c.length+(ax b).length))):=bA;have X:Sb (b<2147483648):=b4;clear P ce bA b4 Y M a0
    go_wp2_with fail
    refine(AL r (p+c.length+(ax b).length) s _ b3 b2 bo.out).mono ?_;rintro e al ⟨Q,⟨d,rfl,f,cf,bB,df⟩|⟨q,rfl,T⟩⟩
    ·have j:Sb (Kp r w al):=F.out.trans Q;have G:Sb (al.ownsRow w.heap.size 3 1 (.slice (RX ⟨w.heap.size,0,RZ⟩) a.length cn) a.length (aW a)):=Q.own ar.out bb;have br:Sb (ag (bytesOf s) (p+c.length+(ax b).length) [d.toNat]):=cf;have H:Sb (al.heap[r]? =RX (bg s (p+c.length+(ax b).length+1))):=bB;have be:Sb (d=0∨d=1):=f;clear Q cf bB F ar bo f;by_cases cs:b=0∨cn - a.length<b
     ·have o:Sb (∀ L:List Int,L.length=cn→kE L→¬ ag (bytesOf s) p (bC L)):=by
       intro L y f B;obtain⟨ad,N,m,a1,a2,ab,i,u,J,a3,a4⟩:=k.out.next l L y f B;have:=bT (by omega) (by have:=X.out;omega) u Z.out;omega
      go_wp2_with (go_at_call 97;refine(bN r _ s _ H.out).mono ?_;rintro e w' ⟨rfl,rfl⟩)
      all_goals exact⟨rfl,j.out,.inr ⟨_,rfl,o.out⟩⟩
     ·have c1:b≠0:=by omega
      have ca:b+a.length≤cn:=by omega
      have dp:((b:Int) == 0)=R6:=by simp;omega
      clear cs;by_cases g:0<a.length∧a.getD (a.length - 1) 0=d
      ·have o:Sb (∀ L:List Int,L.length=cn→kE L→¬ ag (bytesOf s) p (bC L)):=by
        intro L y f B;obtain⟨ad,N,m,a1,a2,ab,i,u,J,a3,a4⟩:=k.out.next l L y f B;have I:=bT (by omega) (by have:=X.out;omega) u Z.out;subst I;have bv:N=d:=by
         have a5:=br.out;rw[cU] at J a5;rw[J] at a5;simp at a5;have:=be.out;omega
        rw[rR g.1,g.2,bv] at i;rcases i with i|i
        ·rw[i] at g;simp at g
        ·exact i rfl
       obtain⟨K,cv⟩:∃ K,a.length=K+1:=⟨a.length - 1,by omega⟩;have b1:=GC G.out rfl K (by omega);have S:a.getD K 0=d:=by rw[← g.2,cv];rfl
       rw[S] at b1;clear g S;have bu:decide ((cn:Int) - (a.length:Int)<(b:Int))=R6:=by simp;omega
       have I:Tw ((cn:Int) - (a.length:Int))=(cn:Int) - (a.length:Int):=by unfold Tw;omega
       have bv:Tw ((a.length:Int) - 1)=(K:Int):=by unfold Tw;omega
       have c9:(K:Int)<(a.length:Int):=by omega
       go_wp2_with (go_at_call 97;refine(bN r _ s _ H.out).mono ?_;rintro e w' ⟨rfl,rfl⟩)
       exact⟨rfl,j.out,.inr ⟨_,rfl,o.out⟩⟩
      ·have ci:Sb (a=[]∨a.getLast? ≠RX d):=by
        by_cases O:0<a.length
        ·right
         rw[rR O];intro e;simp only[Ts] at e;exact g ⟨O,e⟩
        ·left
         exact Ua.1 (by omega)
       have bj:Sb (G6 (bytesOf s) p cn (a ++ TG b d) (c ++ (ax b ++ [d.toNat]))):=k.out.more c1 (by omega) (by have:=X.out;omega) be.out ci.out Z.out br.out cu l;have bu:decide ((cn:Int) - (a.length:Int)<(b:Int))=R6:=by simp;omega
       have I:Tw ((cn:Int) - (a.length:Int))=(cn:Int) - (a.length:Int):=by unfold Tw;omega
       have dk:b≤100:=by omega
       clear b2;by_cases O:0<a.length
       ·have b1:=GC G.out rfl (a.length - 1) (by omega);have S:a.getD (a.length - 1) 0≠d:=fun e=>g ⟨O,e⟩;generalize a.getD (a.length - 1) 0=c8 at*;have da:(c8 == d)=R6:=by simp;exact S
        clear g S
        go_wp2_with fail
        go_loopw [5,46] (fun D C E=>∃ m:Nat,m≤b∧C= .int .i64 (m:Int)∧D= .slice (RX ⟨w.heap.size,0,RZ⟩) (a.length+m) cn∧E.heap[r]? =RX (bg s (p+c.length+(ax b).length+1))∧
         E.ownsRow w.heap.size 3 1 (.slice (RX ⟨w.heap.size,0,RZ⟩) (a.length+m) cn) (a.length+m) (aW (a ++ TG m d))∧Kp r w E) (fun _ C _=>b - (S2 C).toNat)
        case atStart=>exact⟨0,SK _,rfl,rfl,H.out,by simpa using G.out,j.out⟩
        case round=>
         clear H G j;obtain⟨m,c0,rfl,rfl,R,A,x⟩:=hrel;have t:Sb (wr.heap[r]? =RX (bg s (p+c.length+(ax b).length+1))):=R;have n:Sb (Kp r w wr):=x;have c4:=x.size;clear R x;by_cases cR:m<b
         ·go_wp2_with (at_builtin;refine TJ _ rfl _ _ 22 rfl w.heap.size 3 bd 1 aa.underlying22 ba bc w.heap.size (a.length+m) cn _ rfl (A.alloc _) ⟨wr.heap.size,0,RZ⟩ 1 1 [.int .i64 d] rfl rfl (by exact je _ _ _) ?c2 (by omega) ?_)
          case c2=>intro c7 V;simp at V;subst V;rfl
          intro W U z;have ao:Sb (Kp r w W):=(n.out.alloc _).grown z (by intro cp a8;simp at a8;omega);have aw:Sb (W.heap[r]? =RX (bg s (p+c.length+(ax b).length+1))):=by
           show _=_;rw[z.block r (by simp;omega) (by simp;omega),SP wr _ r (by omega)];exact t.out
          rw[Dl] at U;clear A z n t;go_wp2
          go_roundw
          case rel=>exact⟨m+1,by omega,by go_num,by first|rfl|(rw[Td]),aw.out,by rw[← Td];exact U,ao.out⟩
          case measure=>simp[S2];omega
         ·obtain rfl:m=b:=by omega
          go_wp2
          go_roundw
          case rel=>exact⟨a ++ TG m d,c ++ (ax m ++ [d.toNat]),by simp,bj.out,by simp;omega,by rw[show p+(c ++ (ax m ++ [d.toNat])).length=p+c.length+(ax m).length+1 by simp;omega];exact t.out,by simpa using A,n.out⟩
          case measure=>simp;omega
       ·obtain rfl:a=[]:=Ua.1 (by omega);have dl:b≤cn:=by simpa using ca
        have db:decide (cn<b)=R6:=by simp;omega
        have dc:decide ((cn:Int)<(b:Int))=R6:=by simp;omega
        have dd:0<cn:=by simpa using l
        clear g O bu I ca cx l
        go_wp2_with fail
        go_loopw [5,46] (fun D C E=>∃ m:Nat,m≤b∧C= .int .i64 (m:Int)∧D= .slice (RX ⟨w.heap.size,0,RZ⟩) m cn∧E.heap[r]? =RX (bg s (p+c.length+(ax b).length+1))∧
         E.ownsRow w.heap.size 3 1 (.slice (RX ⟨w.heap.size,0,RZ⟩) m cn) m (aW (TG m d))∧Kp r w E) (fun _ C _=>b - (S2 C).toNat)
        case atStart=>exact⟨0,SK _,rfl,rfl,H.out,G.out,j.out⟩
        case round=>
         clear H G j;obtain⟨m,c0,rfl,rfl,R,A,x⟩:=hrel;have t:Sb (wr.heap[r]? =RX (bg s (p+c.length+(ax b).length+1))):=R;have n:Sb (Kp r w wr):=x;have c4:=x.size;clear R x;by_cases cR:m<b
         ·go_wp2_with (at_builtin;refine TJ _ rfl _ _ 22 rfl w.heap.size 3 bd 1 aa.underlying22 ba bc w.heap.size m cn _ rfl (A.alloc _) ⟨wr.heap.size,0,RZ⟩ 1 1 [.int .i64 d] rfl rfl (by exact je _ _ _) ?c2 (by omega) ?_)
          case c2=>intro c7 V;simp at V;subst V;rfl
          intro W U z;have ao:Sb (Kp r w W):=(n.out.alloc _).grown z (by intro cp a8;simp at a8;omega);have aw:Sb (W.heap[r]? =RX (bg s (p+c.length+(ax b).length+1))):=by
           show _=_;rw[z.block r (by simp;omega) (by simp;omega),SP wr _ r (by omega)];exact t.out
          rw[show aW (TG m d) ++ [.int .i64 d]=aW (TG (m+1) d) from Dl [] m d] at U;clear A z n t;go_wp2
          go_roundw
          case rel=>exact⟨m+1,by omega,by go_num,rfl,aw.out,U,ao.out⟩
          case measure=>simp[S2];omega
         ·obtain rfl:m=b:=by omega
          go_wp2
          go_roundw
          case rel=>exact⟨TG m d,c ++ (ax m ++ [d.toNat]),by simp,by simpa using bj.out,by simp;omega,by rw[show p+(c ++ (ax m ++ [d.toNat])).length=p+c.length+(ax m).length+1 by simp;omega];exact t.out,by simpa using A,n.out⟩
          case measure=>simp;omega
    ·have o:Sb (∀ L:List Int,L.length=cn→kE L→¬ ag (bytesOf s) p (bC L)):=by
      intro L y f B;obtain⟨ad,N,m,a1,a2,ab,i,u,J,a3,a4⟩:=k.out.next l L y f B;have I:=bT (by omega) (by have:=X.out;omega) u Z.out;subst I;exact T N ab J
     have j:Sb (Kp r w al):=F.out.trans Q;clear T Q F ar;go_wp2;exact⟨rfl,j.out,.inr ⟨q,rfl,o.out⟩⟩
   ·have o:Sb (∀ L:List Int,L.length=cn→kE L→¬ ag (bytesOf s) p (bC L)):=by
     intro L y f B;obtain⟨ad,N,m,a1,a2,ab,i,u,J,a3,a4⟩:=k.out.next l L y f B;exact T ad (by omega) u
    have F:Sb (Kp r w ae):=M.out.trans P;clear T P M Y;go_wp2;exact⟨rfl,F.out,.inr ⟨q,rfl,o.out⟩⟩
  ·obtain⟨co,bs,bt⟩:=k.out.done l;have am:Sb (bC a=c):=bs;have cl:Sb (∀ L:List Int,L.length=cn→kE L→ag (bytesOf s) p (bC L)→L=a):=bt;have b0:ag (bytesOf s) p c:=k.out.st;have ck:Sb (ag (bytesOf s) p c):=b0;clear bs bt b0;go_wp2;go_ret;exact⟨M.out,.inl ⟨a,_,rfl,co,k.out.bits,by rw[am.out];exact ck.out,cl.out,by rw[am.out];exact cd,by rw[am.out];exact a0.out,Y.out⟩⟩
end Ec
namespace Pk
open Go.RowKit Pm
def MD(a:Nat)(h:a≤16):Tw ((2:Int) ^ a)=pw a:=by
 have c:=Bj a;have d:=GD a h;have b:(2:Int) ^ a=pw a:=by unfold pw;push_cast;rfl
 rw[b];unfold Tw;omega
end Pk
end Go.Proofs.YtjidbonhhpkljaaGreat
namespace Go.Proofs.YtjidbonhhpkljaaGreat.Pm
def CX(v a b c:Nat)(h:c≤b):v % 2 ^ (a+b) / 2 ^ a % 2 ^ c=v / 2 ^ a % 2 ^ c:=by
 rw[VF,Nat.mod_mul_right_div_self,show b=c+(b - c) by omega,VF,Nat.mod_mul_right_mod]
def dL (v b a i:Nat):Nat:=v % 2 ^ (8*a) / 2 ^ (b*i)
def Im(v b a i q:Nat)(h:8*a=b*i+q):dL v b a i<2 ^ q:=by
 unfold dL;rw[Nat.div_lt_iff_lt_mul (Nat.pow_pos (by omega)),← VF,show q+b*i=8*a by omega];exact Nat.mod_lt _ (Nat.pow_pos (by omega))
def CK(v b a i q:Nat)(h:8*a=b*i+q):dL v b (a+1) i=dL v b a i+2 ^ q*(v / 256 ^ a % 256):=by
 unfold dL;rw[show 8*(a+1)=8*a+8 by omega,VF,Nat.mod_mul,E5,show(2:Nat) ^ 8=256 by rfl]
 conv=>lhs;rw[h,VF,Nat.mul_assoc]
 rw[Nat.add_mul_div_left _ _ (Nat.pow_pos (by omega)),h,VF]
def ER(v a b i:Nat)(q:Nat)(h:8*b=a*i+q)(c:a≤q):dL v a b i % 2 ^ a=v / 2 ^ (a*i) % 2 ^ a:=by
 unfold dL;rw[h,CX _ _ _ _ c]
def CL(v a b i:Nat):dL v a b i / 2 ^ a=dL v a b (i+1):=by
 unfold dL;rw[Nat.div_div_eq_div_mul,← VF,Nat.mul_succ]
def CM(v a:Nat):dL v a 0 0=0:=by simp[dL,Nat.mod_one]
end Go.Proofs.YtjidbonhhpkljaaGreat.Pm
namespace Go.Proofs.YtjidbonhhpkljaaGreat.Pk
open Go.RowKit Go.Proofs.YtjidbonhhpkljaaGreat.Pm
def dA (s:ByteArray)(p:Nat):Nat:=V ((bytesOf s).drop p)
def Fh(s:ByteArray)(p a:Nat)(h:p+a<s.size):s[p+a].toNat=dA s p / 256 ^ a % 256:=by
 unfold dA;have c:∀ b∈(bytesOf s).drop p,b<256:=fun b d=>iK s b (List.mem_of_mem_drop d);rw[← Qp _ a c,List.getElem?_drop,Sk (by rw[ai];exact h),UA,uq s _ h]
def rj (s:ByteArray)(p a cn:Nat):Prop:=p+(cn*a+7) / 8≤s.size∧dL (dA s p) a ((cn*a+7) / 8) cn=0
def J2(b a:Nat)(d:a≤16)(g:b<16777216):bits .and .i64 (b:Int) (Tw (pw a - 1))=((b % 2 ^ a:Nat):Int):=by
 have e:=Bj a;have f:=GD a d;rw[show Tw (pw a - 1)=pw a - 1 from by unfold Tw;omega];have c:pw a=(2:Int) ^ a:=by unfold pw;push_cast;rfl
 rw[c,bits_mask .i64 62 (by decide) Az a (by omega) (b:Int) (by omega) (by omega)]
 push_cast;rfl
def PK(a b:Nat):(a:Int) / 2 ^ b=((a / 2 ^ b:Nat):Int):=by push_cast;rfl
theorem xR(s:ByteArray)(r p a cn:Nat)(w:R3)(P:s.size≤Sw)(u:a≤16)(bi:cn≤100)(br:p≤s.size)(h:w.heap[r]? =RX (bg s p)):
 SF (aa.of RY) 177 #[.pointer (RX ⟨r,0,RZ⟩),.int .i64 a,.int .i64 cn] w fun e w'=>Kp r w w'∧
  ((e= .returned (.slice (RX ⟨w.heap.size,0,RZ⟩) cn cn)∧rj s p a cn∧w'.heap[r]? =RX (bg s (p+(cn*a+7) / 8))∧
    w'.ownsRow w.heap.size 3 1 (.slice (RX ⟨w.heap.size,0,RZ⟩) cn cn) cn (aW (jb (D a (dA s p) cn))))∨
   (∃ q,e= .panicked (dU q)∧¬ rj s p a cn)):=by
 obtain⟨W,O,a8,V,a9⟩:=TB aa.CP;have T:r<w.heap.size:=Sf h;have bs:=Bj a;have bt:=GD a u;have bu:=MD a u;have I:Sb (w.heap[r]? =RX (bg s p)):=h;clear h;go_enter aa.func177,Tryz.ntmps177
 go_wp2_with (at_make;refine Ui _ rfl _ _ 22 rfl w.heap.size 3 W (.int .i64 0) 1 aa.underlying22 O a8 V .i64 .i64 _ cn rfl rfl rfl (by rw[a9];omega) (by unfold Sw;omega) (R8 _) ?_;intro X R B)
 have L:Kp r w X:=(Kp.refl _ _).grown B (by simp);have J:Sb (X.heap[r]? =RX (bg s (p+0))):=by show _=_;rw[B.block r T (by simp)];exact I.out
 clear I B
 go_loopw [7,8,9,13] (fun bb h q E wr=>∃ (c b d:Nat),c≤cn∧E= .int .i64 c∧bb= .slice (RX ⟨w.heap.size,0,RZ⟩) c cn∧q= .int .i64 d∧d<8∧8*b=a*c+d∧p+b≤s.size∧
  h= .int .i64 ((dL (dA s p) a b c:Nat):Int)∧wr.heap[r]? =RX (bg s (p+b))∧
  wr.ownsRow w.heap.size 3 1 (.slice (RX ⟨w.heap.size,0,RZ⟩) c cn) c (aW (jb (D a (dA s p) c)))∧Kp r w wr) (fun _ _ _ E _=>cn - (S2 E).toNat)
 case atStart=>exact⟨0,0,0,SK _,rfl,rfl,rfl,by omega,by simp,by omega,by rw[CM];rfl,J.out,R,L⟩
 case round=>
  clear R L J;obtain⟨c,b,d,bl,rfl,rfl,rfl,S,j,t,rfl,v,l,f⟩:=hrel;have k:Sb (8*b=a*c+d):=j;have g:Sb (wr.heap[r]? =RX (bg s (p+b))):=v;clear j v;by_cases a5:c<cn
  ·have bm:a*(c+1)≤16*100:=Nat.mul_le_mul u (by omega);have a0:a*(c+1)≤a*cn:=Nat.mul_le_mul_left _ a5
   go_wp2_with fail
   go_loopw [8,9] (fun h q wr=>∃ (b d:Nat),q= .int .i64 d∧d<a+8∧8*b=a*c+d∧p+b≤s.size∧h= .int .i64 ((dL (dA s p) a b c:Nat):Int)∧wr.heap[r]? =RX (bg s (p+b))∧
    wr.ownsRow w.heap.size 3 1 (.slice (RX ⟨w.heap.size,0,RZ⟩) c cn) c (aW (jb (D a (dA s p) c)))∧Kp r w wr) (fun _ q _=>a+8 - (S2 q).toNat)
   case atStart=>exact⟨b,d,rfl,by omega,k.out,t,rfl,g.out,l,f⟩
   case round=>
    clear l f g k t S;obtain⟨b,d,rfl,S,j,t,rfl,v,l,f⟩:=hrel;have a3:=Im (dA s p) a b c d j;have H:Sb _:=CK (dA s p) a b c d j;have G:Sb (a≤d→dL (dA s p) a b c % 2 ^ a=dA s p / 2 ^ (a*c) % 2 ^ a):=ER (dA s p) a b c d j;have F:Sb _:=CL (dA s p) a b c;have k:Sb (8*b=a*c+d):=j;have g:Sb (wr.heap[r]? =RX (bg s (p+b))):=v;have a2:dL (dA s p) a b c<16777216:=by have i:2 ^ d≤2 ^ 24:=Uf (by omega) (by omega);omega
    clear j v;generalize dL (dA s p) a b c=n at*;by_cases bv:d<a
    ·by_cases C:p+b<s.size
     ·have M:Sb (s[p+b].toNat=dA s p / 256 ^ b % 256):=Fh s p b C;have bx:s[p+b].toNat<256:=s[p+b].toNat_lt;have a6:=Pw n s[p+b].toNat d (by omega) (by omega) a3;rw[show n+2 ^ d*s[p+b].toNat=dL (dA s p) a (b+1) c from by rw[H.out,M.out]] at a6;have Z:Sb (∀ w,w.heap[r]? =RX (bg s (p+b))→SF (aa.of RY) 129 #[.pointer (RX ⟨r,0,RZ⟩)] w fun e w'=>e= .returned (.int .u8 (s[p+b].toNat:Int))∧∃ m,w'=(w.setCell ⟨r,1,RZ⟩ (.int .i64 ((p+b+1:Nat):Int))).drewN m):=
       fun w u=>vC r (p+b) s w P C u
      clear M H G F;have ad:Sb (∃ i,i=dL (dA s p) a (b+1) c):=⟨_,rfl⟩;generalize N:dL (dA s p) a (b+1) c=i at*;have ae:Sb (dL (dA s p) a (b+1) c=i):=N;clear N ad;generalize s[p+b].toNat=bA at*
      go_wp2_with (go_at_call 129;refine(Z.out _ g.out).mono ?_;rintro e w' ⟨rfl,m,rfl⟩)
      go_roundw
      case rel=>exact⟨b+1,d+8,by go_num,by omega,by have:=k.out;omega,by omega,by rw[ae.out],k7 g.out m,qF (ownsRow_setCell_below l (by exact T) _) m,f.set _ _ m⟩
      case measure=>simp[S2];omega
     ·have am:Sb (¬ rj s p a cn):=by
       rintro⟨ar,_⟩;have i:=k.out;rw[Nat.mul_succ] at a0;rw[Nat.mul_comm cn a] at ar;omega
      go_wp2_with (go_at_call 129;refine(rI r (p+b) s _ P C t g.out).mono ?_;rintro e w' ⟨rfl,m,rfl⟩)
      exact⟨rfl,f.drewN m,.inr ⟨_,rfl,am.out⟩⟩
    ·have K:=J2 n a u a2;rw[G.out (by omega)] at K;have a7:=PK n a;rw[F.out] at a7;have ab:Sb (D a (dA s p) (c+1)=D a (dA s p) c ++ [dA s p / 2 ^ (a*c) % 2 ^ a]):=rfl;generalize dA s p / 2 ^ (a*c) % 2 ^ a=bd at*
     go_wp2_with (at_builtin;refine TJ _ rfl _ _ 22 rfl w.heap.size 3 W 1 aa.underlying22 O V w.heap.size c cn _ rfl (l.alloc _) ⟨wr.heap.size,0,RZ⟩ 1 1 [.int .i64 (bd:Int)] rfl rfl ?c1 ?c2 (by omega) ?_)
     case c1=>
      intro ba bc y
      match ba,y with
      |0,y=>simp at y;subst y;simp[V8]
     case c2=>intro bc U;simp at U;subst U;rfl
     ·intro Y Q A;have aw:Kp r w Y:=(f.alloc _).grown A (by intro be a1;simp at a1;omega);have ao:Sb (Y.heap[r]? =RX (bg s (p+b))):=by
       show _=_;rw[A.block r (by have:=f.size;simp;omega) (by simp;omega),SP wr _ r (by have:=f.size;omega)];exact g.out
      rw[j8] at Q;clear l A f g K;go_wp2
      go_roundw
      case rel=>exact⟨c+1,b,d - a,by omega,by go_num,rfl,by go_num,by omega,by have:=k.out;rw[Nat.mul_succ];omega,t,rfl,ao.out,by rw[ab.out];simpa [jb] using Q,aw⟩
      case measure=>simp[S2];omega
  ·have a4:c=cn:=by omega
   subst a4;have o:b=(c*a+7) / 8:=by have:=k.out;rw[Nat.mul_comm a c] at this;omega
   by_cases x:dL (dA s p) a b c=0
   ·have z:Sb (rj s p a c):=⟨by rw[← o];exact t,by rw[← o];exact x⟩;rw[x];have al:Sb (b=(c*a+7) / 8):=o;clear x o;go_wp2;go_ret;exact⟨f,.inl ⟨rfl,z.out,by rw[← al.out];exact g.out,l⟩⟩
   ·have z:Sb (¬ rj s p a c):=by rintro⟨_,i⟩;rw[← o] at i;exact x i
    have bj:0<dL (dA s p) a b c:=by omega
    clear x o;generalize dL (dA s p) a b c=n at*;have bo:((n:Int) != 0)=R7:=by simp;omega
    go_wp2_with (go_at_call 97;refine(bN r (p+b) s _ g.out).mono ?_;rintro e w' ⟨rfl,rfl⟩)
    exact⟨rfl,f,.inr ⟨_,rfl,z.out⟩⟩
end Go.Proofs.YtjidbonhhpkljaaGreat.Pk
namespace Go.Proofs.YtjidbonhhpkljaaGreat
namespace Ec
open Go.RowKit Pk Pm
theorem Qk(w:Nat):∀ (a b:List Nat),(∀ x∈a,x<2 ^ w)→(∀ x∈b,x<2 ^ w)→a.length=b.length→N w a=N w b→a=b:=by
 intro a
 induction a with
 |nil=>intro b _ _ c _;exact(Ua.1 (by simpa using c.symm)).symm
 |cons x p o=>
  intro b g h c f;cases b with
  |nil=>simp at c
  |cons j i=>
   simp only[N] at f;have m:=g x (by simp);have n:=h j (by simp);have k:x=j:=by
    have:=congrArg (· % 2 ^ w) f;simpa [Nat.add_mul_mod_self_left,U5 m,U5 n] using this
   subst k;have l:N w p=N w i:=Nat.eq_of_mul_eq_mul_left (Nat.pow_pos (n:=w) (show 0<2 by omega)) (by omega);rw[o i (fun e d=>g e (by simp[d])) (fun e d=>h e (by simp[d])) (by simpa using c) l]
def Ae(s:ByteArray)(p a:Nat):V (((bytesOf s).drop p).take a)=dA s p % 2 ^ (8*a):=by
 rw[OS _ _ (fun c b=>iK s c (List.mem_of_mem_drop b)),E5];rfl
def zT(v a b cn:Nat):dL v a b cn=0↔v % 2 ^ (8*b)<2 ^ (a*cn):=by
 unfold dL;rw[Nat.div_eq_zero_iff];have:=Nat.pow_pos (n:=a*cn) (show 0<2 by omega);omega
def A1(a cn:Nat):a*cn≤8*((cn*a+7) / 8):=by rw[Nat.mul_comm a cn];omega
theorem zk(s:ByteArray)(p a cn:Nat)(g:p≤s.size)(h:rj s p a cn):ag (bytesOf s) p (cX a (D a (dA s p) cn)):=by
 obtain⟨f,b⟩:=h;rw[zT] at b;have c:(((bytesOf s).drop p).take ((cn*a+7) / 8)).length=(cn*a+7) / 8:=by
  rw[TO,UN,ai];omega
 have:=Be a (D a (dA s p) cn) (((bytesOf s).drop p).take ((cn*a+7) / 8)) (by rw[c,oC]) (fun e d=>iK s e (List.mem_of_mem_drop (UO d))) (by
  rw[Ae,QW,← Nat.mod_mod_of_dvd (dA s p) (Nat.pow_dvd_pow 2 (A1 a cn)),U5 b])
 rw[← this];exact List.take_prefix _ _
theorem k5(s:ByteArray)(p a:Nat)(ps:List Nat)(i:p≤s.size)(f:∀ x∈ps,x<2 ^ a)(h:ag (bytesOf s) p (cX a ps)):rj s p a ps.length∧D a (dA s p) ps.length=ps:=by
 have e:=fO h (by rw[ai];exact i);rw[fo,ai] at e;have d:((bytesOf s).drop p).take ((ps.length*a+7) / 8)=cX a ps:=by
  obtain⟨j,d⟩:=h;rw[← d,← fo a ps];simp
 have b:=Ae s p ((ps.length*a+7) / 8);rw[d] at b;have c:=Ra a ps f;have g:V (cX a ps)=N a ps:=by
  rw[JY,cX,QW,U5];exact Sa c (Uf (by omega) (A1 a ps.length))
 rw[g] at b;refine⟨⟨e,?_⟩,?_⟩
 ·rw[zT,← b];exact c
 ·refine Qk a _ _ (OM _ _ _) f (oC _ _ _) ?_;rw[QW,← Nat.mod_mod_of_dvd (dA s p) (Nat.pow_dvd_pow 2 (A1 a ps.length)),← b,U5 c]
def j4:Nat→List Nat→Option Nat
 |s,[]=>RX s
 |s,a :: b=>if a<s then j4 s b else if a=s then j4 (s+1) b else RZ
def nF(s:Nat)(a b:List Nat):j4 s (a ++ b)=(j4 s a).bind (fun t=>j4 t b):=by
 induction a generalizing s with
 |nil=>rfl
 |cons d e c=>
  simp only[Uk,j4]
  split
  ·exact c s
  ·split
   ·exact c _
   ·rfl
def wz{s t:Nat}{l:List Nat}(h:j4 s l=RX t):s≤t:=by
 induction l generalizing s with
 |nil=>simp[j4] at h;omega
 |cons b c a=>
  simp only[j4] at h
  split at h
  ·exact a h
  ·split at h
   ·have:=a h;omega
   ·cases h
def td{s t:Nat}{l:List Nat}(h:j4 s l=RX t):∀ q∈l,q<t:=by
 induction l generalizing s with
 |nil=>simp
 |cons q e b=>
  intro c a;simp only[j4] at h
  split at h
  ·rename_i d;have:=wz h;rcases TE.1 a with rfl|a
   ·omega
   ·exact b h c a
  ·split at h
   ·have:=wz h;rcases TE.1 a with rfl|a
    ·omega
    ·exact b h c a
   ·cases h
def yU(l:List Nat)(k:Nat)(a:k<l.length){t:Nat}(h:j4 0 (l.take k)=RX t):j4 0 (l.take (k+1))=if l[k]<t then RX t else if l[k]=t then RX (t+1) else RZ:=by
 rw[Su a,nF,h];rfl
def tf(l:List Nat)(k:Nat):j4 0 l=(j4 0 (l.take k)).bind (fun t=>j4 t (l.drop k)):=by
 rw[← nF,UG]
def rS(d:List az)(v:az):idx d v<d.length↔v∈d:=by
 constructor
 ·intro b;rw[← ET d v b];exact Sl b
 ·intro b;obtain⟨a,f,rfl⟩:=TK b;have:=EU d d[a] a f;have c:JC d[a] d[a]=R7:=qh.2 rfl;by_cases e:a<idx d d[a]
  ·rw[this e] at c;cases c
  ·omega
def tG{d:List az}(f:d.Nodup){i j:Nat}(b:i<d.length)(c:j<d.length)(h:d[i]=d[j]):i=j:=by
 have e:=List.pairwise_iff_getElem.1 f;rcases Nat.lt_trichotomy i j with a|a|a
 ·exact absurd h (e i j b c a)
 ·exact a
 ·exact absurd h.symm (e j i c b a)
def Io(d:List az)(c:d.Nodup)(j:Nat)(e:j<d.length):idx d d[j]=j:=by
 have a:idx d d[j]<d.length:=(rS d _).2 (Sl e);have b:=ET d d[j] a;exact tG c _ _ b
def EJ(l:List az)(v:az):dfold (l ++ [v])=wI (dfold l) v:=by
 unfold dfold;rw[List.foldl_append];rfl
theorem KB(d:List az)(n:d.Nodup)(z:az)(ps:List Nat):∀ k t,k≤ps.length→j4 0 (ps.take k)=RX t→t≤d.length→dfold ((ps.take k).map (fun q=>d.getD q z))=(d.take t,ps.take k):=by
 intro k
 induction k with
 |zero=>intro t _ a _;simp[j4] at a;subst a;simp[dfold]
 |succ k s=>
  intro t x a v;have p:k<ps.length:=by omega
  rw[tf (ps.take (k+1)) k,List.take_take,Nat.min_eq_left (by omega)] at a;cases e:j4 0 (ps.take k) with
  |none=>rw[e] at a;cases a
  |some b=>
   rw[e] at a;have u:(ps.take (k+1)).drop k=[ps[k]]:=by
    rw[Su p,List.drop_append_of_le_length (by rw[TO];omega)];simp
   simp only[Vs,u,j4] at a;rw[Su p,Tb,Ug,EJ];by_cases m:ps[k]<b
   ·rw[if_pos m] at a;cases a;rw[s t (by omega) e v];have g:ps[k]<d.length:=by omega
    have i:d.getD ps[k] z=d[ps[k]]:=by simp[Wc,g]
    have f:idx (d.take t) d[ps[k]]=ps[k]:=by
     have j:ps[k]<(d.take t).length:=by rw[TO];omega
     have:=Io (d.take t) (n.sublist (List.take_sublist _ _)) ps[k] j;rwa [TH] at this
    unfold wI ins;rw[i,f,if_pos (by rw[TO];omega),f]
   ·rw[if_neg m] at a;by_cases c:ps[k]=b
    ·rw[if_pos c] at a;cases a;rw[s b (by omega) e (by omega)];have g:b<d.length:=by omega
     have i:d.getD ps[k] z=d[b]:=by simp[Wc,c,g]
     have j:(d.take b).length=b:=by rw[TO];omega
     have r:¬ idx (d.take b) d[b]<(d.take b).length:=by
      rw[rS];intro f;obtain⟨y,w,l⟩:=TK f;rw[TH] at l;have:=tG n _ _ l;omega
     have o:ins (d.take b) d[b]=d.take (b+1):=by
      unfold ins;rw[if_neg r,Su g]
     have h:=A4 (d.take b) d[b];unfold wI;simp only;rw[i,o];rw[o] at h;rw[h.1,h.2.2 r,j,c]
    ·rw[if_neg c] at a;cases a
theorem ur(l:List az)(z:az):(dfold l).1.Nodup∧j4 0 (dfold l).2=RX (dfold l).1.length∧(dfold l).2.map (fun q=>(dfold l).1.getD q z)=l:=by
 have r:∀ a,a≤l.length→(dfold (l.take a)).1.Nodup∧j4 0 (dfold (l.take a)).2=RX (dfold (l.take a)).1.length∧(dfold (l.take a)).2.map (fun q=>(dfold (l.take a)).1.getD q z)=l.take a:=by
  intro a
  induction a with
  |zero=>intro _;simp[dfold,j4]
  |succ a p=>
   intro u;obtain⟨h,d,i⟩:=p (by omega);have g:a<l.length:=by omega
   have n:=td d;rw[dfold_succ l a g];generalize dfold (l.take a)=b at*;have e:=A4 b.1 l[a];unfold wI;by_cases c:idx b.1 l[a]<b.1.length
   ·have f:ins b.1 l[a]=b.1:=by unfold ins;rw[if_pos c]
    rw[f];refine⟨h,?_,?_⟩
    ·rw[nF,d];simp[j4,c]
    ·rw[Tb,i,Su g];congr 1;simp[Wc,c,ET b.1 l[a] c]
   ·have f:ins b.1 l[a]=b.1 ++ [l[a]]:=by unfold ins;rw[if_neg c]
    rw[f] at e ⊢;rw[e.1,e.2.2 c];refine⟨?_,?_,?_⟩
    ·rw[List.nodup_append];refine⟨h,by simp,?_⟩;intro s m t j k;simp at j;subst j;subst k;exact c ((rS _ _).2 m)
    ·rw[nF,d];simp[j4]
    ·rw[Tb,Su g];congr 1
     ·rw[← i];apply List.map_congr_left;intro q o;have:=n q o;simp[Wc,Ty this]
     ·simp
 have:=r l.length (R8 _);rwa [Tk] at this
theorem Ib{k:Int}(S:k=1∨k=2∨k=3){s:ByteArray}{p cn n:Nat}{d:List az}{ps:List Nat}(z:az)(R:cn≤100)(T:n≤cn)(I:d.length=n)(H:∀ x∈d,VK k x)(G:d.Nodup)(u:ps.length=cn)
 (hc:j4 0 ps=RX n) (y:ag (bytesOf s) p (ax n)) (N:ag (bytesOf s) (p+(ax n).length) (aE k d)) (A:ag (bytesOf s) (p+(ax n).length+(aE k d).length) (cX (wid n) ps))
 (u2:∀ D:List az,D.length=n→(∀ x∈D,VK k x)→ag (bytesOf s) (p+(ax n).length) (aE k D)→D=d) (t:p+(ax n).length+(aE k d).length≤s.size):
 (ps.map fun q=>d.getD q z).length=cn∧(∀ x∈ps.map fun q=>d.getD q z,VK k x)∧dZ k (ps.map fun q=>d.getD q z)=ax n ++ (aE k d ++ cX (wid n) ps)∧ag (bytesOf s) p (dZ k (ps.map fun q=>d.getD q z))∧
   ∀ L:List az,L.length=cn→(∀ x∈L,VK k x)→ag (bytesOf s) p (dZ k L)→L=ps.map fun q=>d.getD q z:=by
 have J:dfold (ps.map fun q=>d.getD q z)=(d,ps):=by
  have:=KB d G z ps ps.length n (R8 _) (by rw[Tk];exact hc) (by omega);rw[Tk,Tj (by omega:d.length≤n)] at this;exact this
 have o:dZ k (ps.map fun q=>d.getD q z)=ax n ++ (aE k d ++ cX (wid n) ps):=by
  unfold dZ;rw[J,I]
 refine⟨by simp[u],?_,o,?_,?_⟩
 ·intro x a;obtain⟨q,M,rfl⟩:=Tu.1 a;have U:=td hc q M;have v:q<d.length:=by omega
  simp only[Wc,v,Sk,UA];exact H _ (Sl v)
 ·rw[o,an,an];exact⟨y,N,A⟩
 ·intro L F K b;obtain⟨P,Q,i⟩:=ur L z;obtain⟨C,j,l,m⟩:=wH L L.length (R8 _);rw[Tk] at C j l m;unfold dZ at b;rw[an,an] at b;obtain⟨O,B,f⟩:=b;have g:(dfold L).1.length=n:=bT (by omega) (by omega) O y;rw[g] at B f;have h:(dfold L).1=d:=u2 _ g (fun x a=>K x (m x a)) B;rw[h] at f;have r:∀ (c:List Nat),(∀ x∈c,x<n)→∀ x∈c,x<2 ^ wid n:=fun c E x a=>yK n (by omega) x (E x a);have e:=(k5 s _ (wid n) (dfold L).2 t (r _ (fun x a=>by have:=l x a;omega)) f).2;have w:=(k5 s _ (wid n) ps t (r _ (fun x a=>td hc x a)) A).2;rw[j,F] at e;rw[u] at w;rw[w] at e;rw[h,← e] at i;exact i.symm
def VC (k:Int)(v:az):Prop:=(v.null=R7∧v.n=0∧v.s=⟨#[]⟩)∨VK k v
def JB{k:Int}{v:az}(c:k=1∨k=2∨k=3)(h:Ek v)(a:eU v k=R7):VC k v:=by
 cases b:v.null with
 |true=>
  unfold eU at a;rw[b] at a;simp at a;exact .inl ⟨b,a.1,jR a.2⟩
 |false=>exact .inr (JD c b h a)
def DX{k:Int}{l:List az}(h:∀ x∈l,VC k x):∀ x∈there l,VK k x:=by
 intro x a;unfold there at a;rw[List.mem_filter] at a;rcases h x a.1 with⟨b,_⟩|h
 ·rw[b] at a;simp at a
 ·exact h
theorem Nt{k:Int}:∀ (a b:List az),(∀ x∈a,VC k x)→(∀ x∈b,VC k x)→a.map mG=b.map mG→there a=there b→a=b:=by
 intro a
 induction a with
 |nil=>intro b _ _ f _;simp at f;exact f.symm
 |cons x y z=>
  intro b t u g s;cases b with
  |nil=>simp at g
  |cons e j=>
   simp only[U8,UW] at g;have w:x.null=e.null:=by
    have:=g.1;unfold mG at this;cases c:x.null<;>cases d:e.null<;>simp[c,d] at this<;>rfl
   have v:=fun f=>z j (fun l i=>t l (by simp[i])) (fun l i=>u l (by simp[i])) g.2 f;cases c:x.null with
   |true=>
    have d:e.null=R7:=by rw[← w];exact c
    have h:there y=there j:=by simpa [there,c,d] using s
    rw[v h];congr 1;rcases t x (by simp) with⟨m,n,o⟩|a
    ·rcases u e (by simp) with⟨p,q,r⟩|b
     ·cases x;cases e;simp at m n o p q r;simp[m,n,o,p,q,r]
     ·rw[b.there] at d;cases d
    ·rw[a.there] at c;cases c
   |false=>
    have d:e.null=R6:=by rw[← w];exact c
    have h:x=e∧there y=there j:=by simpa [there,c,d] using s
    rw[h.1,v h.2]
def ki (b:List Int):Nat:=(b.filter fun a=>a != 0).length
def yx(l:List az):(there l).length=ki (l.map mG):=by
 unfold there ki
 induction l with
 |nil=>rfl
 |cons c d b=>
  cases a:c.null with
  |true=>simp[a,mG];simpa [mG] using b
  |false=>simp[a,mG];simpa [mG] using b
def xj(l:List az):kE (l.map mG):=by
 intro c a;obtain⟨b,_,rfl⟩:=Tu.1 a;unfold mG
 split
 ·exact .inl rfl
 ·exact .inr rfl
theorem Cs{k e:Int}{s:ByteArray}{p cn:Nat}{l:List az}(j:l.length=cn)(g:∀ x∈l,VC k x)
 (h:ag (bytesOf s) p (bC (l.map mG))) (u1:∀ L:List Int,L.length=cn→kE L→ag (bytesOf s) p (bC L)→L=l.map mG)
 (i:ag (bytesOf s) (p+(bC (l.map mG)).length) (cQ k e (there l))) (u2:∀ L:List az,L.length=ki (l.map mG)→(∀ x∈L,VK k x)→ag (bytesOf s) (p+(bC (l.map mG)).length) (cQ k e L)→L=there l):
 ag (bytesOf s) p (aX k e l)∧∀ L:List az,L.length=cn→(∀ x∈L,VC k x)→ag (bytesOf s) p (aX k e L)→L=l:=by
 refine⟨by unfold aX;rw[an];exact⟨h,i⟩,?_⟩;intro L f c a;unfold aX at a;rw[an] at a;have b:=u1 (L.map mG) (by simpa using f) (xj L) a.1;rw[b] at a;have d:=u2 (there L) (by rw[yx,b]) (DX c) a.2;exact Nt L l c g b d
def ew(l:List az)(x:az):aC l ++ [.bool x.null,.int .i64 x.n,.string x.s]=aC (l ++ [x]):=by rw[qP,yE]
theorem qI(k:Int)(J:k=1∨k=2∨k=3)(s:ByteArray)(r p cn:Nat)(w:R3)(aw:s.size≤Sw)(a8:cn≤100)(a1:p≤s.size)(h:w.heap[r]? =RX (bg s p)):
 SF (aa.of RY) 173 #[.pointer (RX ⟨r,0,RZ⟩),.int .i64 k,.int .i64 cn] w fun e w'=>Kp r w w'∧
  ((∃ (l:List az) (v:R2),e= .returned v∧l.length=cn∧(∀ x∈l,VK k x)∧ag (bytesOf s) p (aE k l)∧(∀ L:List az,L.length=cn→(∀ x∈L,VK k x)→ag (bytesOf s) p (aE k L)→L=l)∧p+(aE k l).length≤s.size∧
    w'.heap[r]? =RX (bg s (p+(aE k l).length))∧w'.ownsRow w.heap.size 59 3 v l.length (aC l))∨
   (∃ q,e= .panicked (dU q)∧∀ L:List az,L.length=cn→(∀ x∈L,VK k x)→¬ ag (bytesOf s) p (aE k L))):=by
 obtain⟨U,I,a4,T,a5⟩:=TB aa.oU;have S:r<w.heap.size:=Sf h;have B:Sb (w.heap[r]? =RX (bg s p)):=h;clear h;go_enter aa.func173,Tryz.ntmps173
 go_wp2_with (at_make;refine Ui _ rfl _ _ 43 rfl w.heap.size 59 U _ 3 aa.underlying43 I a4 T .i64 .i64 _ cn rfl rfl rfl (by rw[a5];omega) (by unfold Sw;omega) (R8 _) ?_;intro V O n)
 have A:Sb (Kp r w V):=(Kp.refl r w).grown n (by simp);have C:Sb (V.heap[r]? =RX (bg s p)):=by show _=_;rw[n.block r S (by simp)];exact B.out
 clear B n
 go_loopw [7,11] (fun a6 z wr=>∃ l:List az,z= .int .i64 (l.length:Int)∧a6= .slice (RX ⟨w.heap.size,0,RZ⟩) l.length cn∧vY (aE k) (VK k) (bytesOf s) p cn l∧p+(aE k l).length≤s.size∧wr.heap[r]? =RX (bg s (p+(aE k l).length))∧
  wr.ownsRow w.heap.size 59 3 (.slice (RX ⟨w.heap.size,0,RZ⟩) l.length cn) l.length (aC l)∧Kp r w wr) (fun _ z _=>cn - (S2 z).toNat)
 case atStart=>exact⟨[],rfl,rfl,vY.zero rfl,by simpa [aE] using a1,by simpa [aE] using C.out,O,A.out⟩
 case round=>
  clear O A C;obtain⟨l,rfl,rfl,m,R,G,N,j⟩:=hrel;have a:Sb (vY (aE k) (VK k) (bytesOf s) p cn l):=m;have i:Sb (wr.heap[r]? =RX (bg s (p+(aE k l).length))):=G;have c:Sb (Kp r w wr):=j;have g:Sb (wr.ownsRow w.heap.size 59 3 (.slice (RX ⟨w.heap.size,0,RZ⟩) l.length cn) l.length (aC l)):=N;have ba:w.heap.size≤wr.heap.size:=j.size;have a9:=m.le;clear m G j N;by_cases t:l.length<cn
  ·go_wp2_with fail
   refine(jm k J r (p+(aE k l).length) s _ aw R i.out).mono ?_;rintro e b ⟨f,⟨x,rfl,y,u,K,H⟩|⟨q,rfl,M⟩⟩
   ·have d:Sb (Kp r w b):=c.out.trans f;have P:b.ownsRow w.heap.size 59 3 (.slice (RX ⟨w.heap.size,0,RZ⟩) l.length cn) l.length (aC l):=f.own g.out S;have ab:Sb (vY (aE k) (VK k) (bytesOf s) p cn (l ++ [x])):=a.out.more (e:=fun _ v=>aL k v) (k6 k) t y u (fun bc a3 a2=>lm J a3 y a2 u);have D:Sb (b.heap[r]? =RX (bg s (p+(aE k (l ++ [x])).length))):=by
     show _=_;rw[k6,Sc,← Td];exact H
    have Z:Sb (p+(aE k (l ++ [x])).length≤s.size):=by
     show _≤_;rw[k6,Sc,← Td];exact K
    have bb:=d.out.size;clear f u H K y g c i a
    go_wp2_with (at_builtin;refine TJ _ rfl _ _ 43 rfl w.heap.size 59 U 3 aa.underlying43 I T w.heap.size l.length cn _ rfl (P.alloc _) ⟨b.heap.size,0,RZ⟩ 1 1 [.bool x.null,.int .i64 x.n,.string x.s] rfl rfl (by exact js _ _ _ _ _) (gT x) (by omega) ?_;intro W Q o)
    have Y:Sb (Kp r w W):=(d.out.alloc _).grown o (by intro a7 ar;simp at ar;omega);have ae:Sb (W.heap[r]? =RX (bg s (p+(aE k (l ++ [x])).length))):=by
     show _=_;rw[o.block r (by simp;omega) (by simp;omega),SP b _ r (by omega)];exact D.out
    rw[ew] at Q;clear P o d D;go_wp2
    go_roundw
    case rel=>exact⟨l ++ [x],by rw[Sc];rfl,by rw[Sc];rfl,ab.out,Z.out,ae.out,by rw[Sc];exact Q,Y.out⟩
    case measure=>simp[S2];omega
   ·have ad:Sb (∀ L:List az,L.length=cn→(∀ x∈L,VK k x)→¬ ag (bytesOf s) p (aE k L)):=fun L ao a0=>a.out.fail (e:=fun _ v=>aL k v) (k6 k) t M L ao a0;have d:Sb (Kp r w b):=c.out.trans f;clear M f c g;go_wp2;exact⟨rfl,d.out,.inr ⟨q,rfl,ad.out⟩⟩
  ·obtain⟨E,F⟩:=a.out.done t;have am:Sb (∀ L:List az,L.length=cn→(∀ x∈L,VK k x)→ag (bytesOf s) p (aE k L)→L=l):=F;have al:Sb (ag (bytesOf s) p (aE k l)):=a.out.st;have X:Sb (l.length=cn):=E;clear F E;go_wp2;go_ret;exact⟨c.out,.inl ⟨l,_,rfl,X.out,a.out.Pq,al.out,am.out,R,i.out,g.out⟩⟩
def qO (a d:Int):az:=⟨R6,Tw (a+d),⟨#[]⟩⟩
def DU(a d:Int):VK 1 (qO a d):=⟨rfl,(gX _).1,(gX _).2,fun _=>rfl,fun b=>by omega,fun b=>by omega⟩
def Js(a:Int)(v:az)(b:VK 1 v):ax (zz (Tw ((qO a v.n).n - a)))=aL 1 v:=by
 show ax (zz (Tw (Tw (a+v.n) - a)))=ax (zz v.n);rw[BW a v.n b.lo b.hi]
theorem zm(s:ByteArray)(r p cn:Nat)(w:R3)(ba:s.size≤Sw)(bm:cn≤100)(bc:p≤s.size)(h:w.heap[r]? =RX (bg s p)):
 SF (aa.of RY) 170 #[.pointer (RX ⟨r,0,RZ⟩),.int .i64 cn] w fun e w'=>Kp r w w'∧
  ((∃ (l:List az) (v:R2),e= .returned v∧l.length=cn∧(∀ x∈l,VK 1 x)∧ag (bytesOf s) p (bM 0 l)∧(∀ L:List az,L.length=cn→(∀ x∈L,VK 1 x)→ag (bytesOf s) p (bM 0 L)→L=l)∧p+(bM 0 l).length≤s.size∧
    w'.heap[r]? =RX (bg s (p+(bM 0 l).length))∧w'.ownsRow w.heap.size 59 3 v l.length (aC l))∨
   (∃ q,e= .panicked (dU q)∧∀ L:List az,L.length=cn→(∀ x∈L,VK 1 x)→¬ ag (bytesOf s) p (bM 0 L))):=by
 obtain⟨ae,Q,be,ad,bi⟩:=TB aa.oU;have Y:r<w.heap.size:=Sf h;have F:Sb (w.heap[r]? =RX (bg s p)):=h;have bo:∀ (a6 J a7:R2) (w:R3),(Instr.field 59 (.agg #[a6,J,a7]) 1).run (aa.of RY) w= .ok J w:=fun _ _ _ _=>by first|rfl|kernel_rfl
 have o:Sb (∀ (l:List az) (x:az),bM 0 (l ++ [x])=bM 0 l ++ ax (zz (Tw (x.n - fA 0 l)))):=CA 0;clear h;go_enter aa.func170,Tryz.ntmps170
 go_wp2_with (at_make;refine Ui _ rfl _ _ 43 rfl w.heap.size 59 ae _ 3 aa.underlying43 Q be ad .i64 .i64 _ cn rfl rfl rfl (by rw[bi];omega) (by unfold Sw;omega) (R8 _) ?_;intro al U y)
 have E:Sb (Kp r w al):=(Kp.refl r w).grown y (by simp);have G:Sb (al.heap[r]? =RX (bg s p)):=by show _=_;rw[y.block r Y (by simp)];exact F.out
 clear F y
 go_loopw [5,6,10] (fun bj k D wr=>∃ l:List az,D= .int .i64 (l.length:Int)∧k= .int .i64 (fA 0 l)∧bj= .slice (RX ⟨w.heap.size,0,RZ⟩) l.length cn∧vY (bM 0) (VK 1) (bytesOf s) p cn l∧p+(bM 0 l).length≤s.size∧wr.heap[r]? =RX (bg s (p+(bM 0 l).length))∧
  wr.ownsRow w.heap.size 59 3 (.slice (RX ⟨w.heap.size,0,RZ⟩) l.length cn) l.length (aC l)∧Kp r w wr) (fun _ _ D _=>cn - (S2 D).toNat)
 case atStart=>exact⟨[],rfl,rfl,rfl,vY.zero rfl,by simpa [bM] using bc,by simpa [bM] using G.out,U,E.out⟩
 case round=>
  clear U E G;obtain⟨l,rfl,rfl,rfl,u,X,O,T,t⟩:=hrel;have a:Sb (vY (bM 0) (VK 1) (bytesOf s) p cn l):=u;have n:Sb (wr.heap[r]? =RX (bg s (p+(bM 0 l).length))):=O;have c:Sb (Kp r w wr):=t;have i:Sb (wr.ownsRow w.heap.size 59 3 (.slice (RX ⟨w.heap.size,0,RZ⟩) l.length cn) l.length (aC l)):=T;have bs:w.heap.size≤wr.heap.size:=t.size;have br:=u.le;clear u O t T;by_cases A:l.length<cn
  ·go_wp2_with fail
   refine(jm 1 (.inl rfl) r (p+(bM 0 l).length) s _ ba X n.out).mono ?_;rintro e b ⟨f,⟨x,rfl,Z,C,R,P⟩|⟨q,rfl,S⟩⟩
   ·have d:Sb (Kp r w b):=c.out.trans f;have V:b.ownsRow w.heap.size 59 3 (.slice (RX ⟨w.heap.size,0,RZ⟩) l.length cn) l.length (aC l):=f.own i.out Y;have j:=Js (fA 0 l) x Z;have a1:Sb (vY (bM 0) (VK 1) (bytesOf s) p cn (l ++ [qO (fA 0 l) x.n])):=
     a.out.more (e:=fun l v=>ax (zz (Tw (v.n - fA 0 l)))) o.out A (DU _ _) (by show ag _ _ (ax (zz (Tw ((qO (fA 0 l) x.n).n - fA 0 l))));rw[j];exact C) (fun g ab B=>Ia ab (DU _ _) B (by rw[j];exact C))
    have m:Sb ((bM 0 (l ++ [qO (fA 0 l) x.n])).length=(bM 0 l).length+(aL 1 x).length):=by
     show _=_;rw[o.out,Sc,j]
    have H:Sb (b.heap[r]? =RX (bg s (p+(bM 0 (l ++ [qO (fA 0 l) x.n])).length))):=by
     show _=_;rw[m.out,← Td];exact P
    have aw:Sb (p+(bM 0 (l ++ [qO (fA 0 l) x.n])).length≤s.size):=by
     show _≤_;rw[m.out,← Td];exact R
    have a0:Sb (fA 0 (l ++ [qO (fA 0 l) x.n])=Tw (fA 0 l+x.n)):=EX _ _ _;have I:Sb (∀ v,v=[UD R6,.int .i64 (Tw (fA 0 l+x.n)),.string ⟨#[]⟩]→aC l ++ v=aC (l ++ [qO (fA 0 l) x.n])):=by
     intro v bd;rw[bd,← ew];rfl
    have bt:=d.out.size;clear f C P R Z i c n a j m;generalize qO (fA 0 l) x.n=g at*;generalize fA 0 l=k at*;generalize x.n=K at*
    go_wp2_with (at_builtin;refine TJ _ rfl _ _ 43 rfl w.heap.size 59 ae 3 aa.underlying43 Q ad w.heap.size l.length cn _ rfl (V.alloc _) ⟨b.heap.size,0,RZ⟩ 1 1 [.bool R6,.int .i64 (Tw (k+K)),.string ⟨#[]⟩] rfl rfl (by exact js _ _ _ _ _) (gT ⟨R6,Tw (k+K),⟨#[]⟩⟩) (by omega) ?_;intro am W z)
    have ar:Sb (Kp r w am):=(d.out.alloc _).grown z (by intro bl a9;simp at a9;omega);have a3:Sb (am.heap[r]? =RX (bg s (p+(bM 0 (l ++ [g])).length))):=by
     show _=_;rw[z.block r (by simp;omega) (by simp;omega),SP b _ r (by omega)];exact H.out
    rw[I.out _ rfl] at W;clear V z d H I;go_wp2
    go_roundw
    case rel=>exact⟨l ++ [g],by rw[Sc];rfl,by rw[a0.out],by rw[Sc];rfl,a1.out,aw.out,a3.out,by rw[Sc];exact W,ar.out⟩
    case measure=>simp[S2];omega
   ·have a2:Sb (∀ L:List az,L.length=cn→(∀ x∈L,VK 1 x)→¬ ag (bytesOf s) p (bM 0 L)):=fun L a8 bb=>a.out.fail (e:=fun l v=>ax (zz (Tw (v.n - fA 0 l)))) o.out A (fun g ab B=>S ⟨R6,Tw (g.n - fA 0 l),⟨#[]⟩⟩ ⟨rfl,(gX _).1,(gX _).2,fun _=>rfl,fun h=>by omega,fun h=>by omega⟩ B) L a8 bb;have d:Sb (Kp r w b):=c.out.trans f;clear S f c i;go_wp2;exact⟨rfl,d.out,.inr ⟨q,rfl,a2.out⟩⟩
  ·obtain⟨M,N⟩:=a.out.done A;have a5:Sb (∀ L:List az,L.length=cn→(∀ x∈L,VK 1 x)→ag (bytesOf s) p (bM 0 L)→L=l):=N;have a4:Sb (ag (bytesOf s) p (bM 0 l)):=a.out.st;have ao:Sb (l.length=cn):=M;clear N M;go_wp2;go_ret;exact⟨c.out,.inl ⟨l,_,rfl,ao.out,a.out.Pq,a4.out,a5.out,X,n.out,i.out⟩⟩
def yQ (z:Int):az:=⟨R6,z,⟨#[]⟩⟩
theorem BT(f:R2)(a:List Int)(w:R3)(Q:a.length≤100)(H:qx w f a):
 SF (aa.of RY) 172 #[f] w fun e w'=>Si w.heap.size w w'∧∃ v,e= .returned v∧w'.ownsRow w.heap.size 59 3 v a.length (aC (a.map yQ)):=by
 obtain⟨u,q,I,t,J⟩:=TB aa.oU;obtain⟨M,g,l,N,rfl,B,C,n⟩:=H;have y:Sb (∀ k,k<a.length→w.cell? ⟨g,l+k,RZ⟩=RX (.int .i64 (a.getD k 0))):=n;clear n;go_enter aa.func172,Tryz.ntmps172
 go_wp2_with (at_make;refine Ui _ rfl _ _ 43 rfl w.heap.size 59 u _ 3 aa.underlying43 q I t .i64 .i64 _ a.length rfl rfl rfl (by rw[J];omega) (by unfold Sw;omega) (R8 _) ?_;intro K r o)
 have m:Sb (Si w.heap.size w K):=(So _ _).grown o (R8 _) (by simp);clear o
 go_loopw [3,11] (fun f j wr=>∃ b:Nat,b≤a.length∧j= .int .i64 (b:Int)∧f= .slice (RX ⟨w.heap.size,0,RZ⟩) b a.length∧wr.ownsRow w.heap.size 59 3 (.slice (RX ⟨w.heap.size,0,RZ⟩) b a.length) b (aC ((a.take b).map yQ))∧Si w.heap.size w wr) (fun _ j _=>a.length - (S2 j).toNat)
 case atStart=>exact⟨0,SK _,rfl,rfl,by simpa [aC] using r,m.out⟩
 case round=>
  clear r m;obtain⟨b,P,rfl,rfl,d,h⟩:=hrel;have c:Sb (Si w.heap.size w wr):=h;have G:=h.size;clear h;by_cases i:b<a.length
  ·obtain rfl:=B (by omega);have D:=C (by omega);have E:wr.cell? ⟨g,l+b,RZ⟩=RX (.int .i64 (a.getD b 0)):=(c.out.cell (p:=⟨g,l+b,RZ⟩) D).trans (y.out b i);have A:Sb (aC ((a.take b).map yQ) ++ [.bool R6,.int .i64 (a.getD b 0),.string ⟨#[]⟩]=aC ((a.take (b+1)).map yQ)):=by
    show _=_;rw[Su i,Tb,Ug,← ew,eJ i];rfl
   generalize a.getD b 0=x at*
   go_wp2_with (at_builtin;refine TJ _ rfl _ _ 43 rfl w.heap.size 59 u 3 aa.underlying43 q t w.heap.size b a.length _ rfl (d.alloc _) ⟨wr.heap.size,0,RZ⟩ 1 1 [.bool R6,.int .i64 x,.string ⟨#[]⟩] rfl rfl (by exact js _ _ _ _ _) (gT ⟨R6,x,⟨#[]⟩⟩) (by omega) ?_;intro L s p)
   have z:Sb (Si w.heap.size w L):=(c.out.alloc G _).grown p (by simp;omega) (by intro O F;simp at F;omega);rw[A.out] at s;clear d p c E;go_wp2
   go_roundw
   case rel=>exact⟨b+1,by omega,by go_num,rfl,s,z.out⟩
   case measure=>simp[S2];omega
  ·obtain rfl:b=a.length:=by omega
   rw[Tk] at d;go_wp2;go_ret;exact⟨c.out,_,rfl,d⟩
def GA(a:List Int):ki a≤a.length:=List.length_filter_le _ _
def pO(a:List Int)(d:kE a)(k:Nat)(b:k<a.length):((ki (a.take (k+1)):Nat):Int)=(ki (a.take k):Nat)+a.getD k 0:=by
 rw[Su b,eJ b];unfold ki;rw[List.filter_append,Sc];rcases d _ (Sl b) with c|c<;>simp[c]
theorem yY(l:R2)(b:List Int)(w:R3)(D:b.length≤100)(h:kE b)(t:qx w l b):
 SF (aa.of RY) 166 #[l] w fun e w'=>e= .returned (.int .i64 ((ki b:Nat):Int))∧w'=w:=by
 obtain⟨x,p,u,y,rfl,r,z,g⟩:=t;have m:Sb (∀ d,d<b.length→w.cell? ⟨p,u+d,RZ⟩=RX (.int .i64 (b.getD d 0))):=g;have n:Sb (∀ a,a<b.length→((ki (b.take (a+1)):Nat):Int)=(ki (b.take a):Nat)+b.getD a 0):=fun a i=>pO b h a i;have f:Sb (∀ a,ki (b.take a)≤a):=fun a=>by have:=GA (b.take a);rw[TO] at this;omega
 clear g h;go_enter aa.func166,Tryz.ntmps166
 go_wp2_with fail
 go_loopw [3,8] (fun q c wr=>∃ a:Nat,a≤b.length∧c= .int .i64 (a:Int)∧q= .int .i64 ((ki (b.take a):Nat):Int)∧wr=w) (fun _ c _=>b.length - (S2 c).toNat)
 case atStart=>exact⟨0,SK _,rfl,by simp[ki],rfl⟩
 case round=>
  obtain⟨a,i,rfl,rfl,rfl⟩:=hrel;by_cases j:a<b.length
  ·obtain rfl:=r (by omega);have A:=m.out a j;have s:=n.out a j;have B:=f.out a;have C:=f.out (a+1);generalize b.getD a 0=F at*;generalize ki (b.take a)=E at*;generalize k:ki (b.take (a+1))=v at*;have o:Sb (ki (b.take (a+1))=v):=k;clear k;go_wp2
   go_roundw
   case rel=>exact⟨a+1,by omega,by go_num,by rw[o.out,s],by trivial⟩
   case measure=>simp[S2];omega
  ·obtain rfl:a=b.length:=by omega
   rw[Tk];go_wp2;go_ret;exact⟨rfl,rfl⟩
def bH (c:List (List az))(a:Nat):List az:=c.map fun b=>b.getD a ⟨R6,0,⟨#[]⟩⟩
theorem AV(a:List (List az))(c:Nat)(z:R2)(w:R3)(X:a.length≤100)(u:∀ r∈a,c<r.length∧r.length≤Sw)(I:B2 w z a):
 SF (aa.of RY) 86 #[z,.int .i64 (c:Int)] w fun e w'=>Si w.heap.size w w'∧∃ v,e= .returned v∧w'.ownsRow w.heap.size 59 3 v a.length (aC (bH a c)):=by
 obtain⟨y,q,L,x,M⟩:=TB aa.oU;obtain⟨E,F,O,R,rfl,T,d⟩:=I;have C:Sb (AH w E F O a):=d;have B:Sb (∀ r∈a,c<r.length∧r.length≤Sw):=u;clear d u;go_enter aa.func86,Tryz.ntmps86
 go_wp2_with (at_make;refine Ui _ rfl _ _ 43 rfl w.heap.size 59 y _ 3 aa.underlying43 q L x .i64 .i64 _ a.length rfl rfl rfl (by rw[M];omega) (by unfold Sw;omega) (R8 _) ?_;intro P s o)
 have n:Sb (Si w.heap.size w P):=(So _ _).grown o (R8 _) (by simp);clear o
 go_loopw [5,13] (fun N m wr=>∃ b:Nat,b≤a.length∧m= .int .i64 (b:Int)∧N= .slice (RX ⟨w.heap.size,0,RZ⟩) b a.length∧wr.ownsRow w.heap.size 59 3 (.slice (RX ⟨w.heap.size,0,RZ⟩) b a.length) b (aC (bH (a.take b) c))∧Si w.heap.size w wr) (fun _ m _=>a.length - (S2 m).toNat)
 case atStart=>exact⟨0,SK _,rfl,rfl,by simpa [aC,bH] using s,n.out⟩
 case round=>
  clear s n;obtain⟨b,V,rfl,rfl,h,f⟩:=hrel;have k:Sb (Si w.heap.size w wr):=f;have J:=f.size;by_cases l:b<a.length
  ·have d:=C.out.below f;obtain rfl:=d.addr (by omega);obtain⟨v,U,K⟩:=d.c b l;obtain⟨i,H⟩:=B.out a[b] (Sl l);obtain⟨am,ae,ao,al,rfl,g⟩:=K;obtain rfl:=g.addr (by omega);have Z:=g.c0 c i;have ab:=g.c1 c i;have ad:=g.c2 c i;have D:Sb (aC (bH (a.take b) c) ++ [.bool a[b][c].null,.int .i64 a[b][c].n,.string a[b][c].s]=aC (bH (a.take (b+1)) c)):=by
    show _=_;rw[ew,Su l];unfold bH;rw[Tb,Ug,Sj,Sk i];rfl
   have W:(c:Int)<(a[b].length:Int):=by omega
   unfold Sw at H;clear d g f;generalize a[b][c]=j at*;generalize a[b].length=Y at*
   go_wp2_with (at_builtin;refine TJ _ rfl _ _ 43 rfl w.heap.size 59 y 3 aa.underlying43 q x w.heap.size b a.length _ rfl (h.alloc _) ⟨wr.heap.size,0,RZ⟩ 1 1 [.bool j.null,.int .i64 j.n,.string j.s] rfl rfl (by exact js _ _ _ _ _) (gT j) (by omega) ?_;intro Q t p)
   have A:Sb (Si w.heap.size w Q):=(k.out.alloc J _).grown p (by simp;omega) (by intro S G;simp at G;omega);rw[D.out] at t;clear h p k;go_wp2
   go_roundw
   case rel=>exact⟨b+1,by omega,by go_num,rfl,t,A.out⟩
   case measure=>simp[S2];omega
  ·obtain rfl:b=a.length:=by omega
   rw[Tk] at h;clear f;go_wp2;go_ret;exact⟨k.out,_,rfl,h⟩
end Ec
namespace Ec
open Go.RowKit Pk
def kH (l:List bG)(es:List Int):Prop:=l.length=es.length∧∀ a,(b:a<l.length)→aY l[a].kind (es.getD a 0)=R7
theorem m0(l:List bG)(es:List Int)(B D:R2)(w:R3)(Z:l.length≤Sw)(ab:es.length≤Sw)(U:vB w B l)(W:qx w D es):
 SF (aa.of RY) 57 #[D,B] w fun e w'=>∃ bb,e= .returned (.bool bb)∧(bb=R7↔kH l es)∧Si w.heap.size w w':=by
 obtain⟨Q,R,ad,ao,rfl,a1,f⟩:=U;obtain⟨T,g,j,ar,rfl,s,v,k⟩:=W;unfold Sw at Z ab;by_cases o:l.length=es.length
 ·have F:((es.length:Int) != (l.length:Int))=R6:=by simp[o]
  have z:Sb (l.length=es.length):=o;have A:Sb (qR w Q R ad l):=f;have I:Sb (0<es.length→T=RX ⟨g,j,RZ⟩):=s;have K:Sb (0<es.length→g<w.heap.size):=v;have J:Sb (∀ a,a<es.length→w.cell? ⟨g,j+a,RZ⟩=RX (.int .i64 (es.getD a 0))):=k;clear f o s v k;go_enter aa.func57,Tryz.ntmps57
  go_wp2_with fail
  clear F
  go_loopw [14] (fun b wr=>∃ a:Nat,a≤l.length∧b= .int .i64 a∧(∀ b,(c:b<l.length)→b<a→aY l[b].kind (es.getD b 0)=R7)∧Si w.heap.size w wr) (fun b _=>l.length - (S2 b).toNat)
  case atStart=>exact⟨0,SK _,rfl,fun a7 _ c=>by omega,So _ _⟩
  case round=>
   obtain⟨a,a2,rfl,E,i⟩:=hrel;have m:Sb (∀ b,(c:b<l.length)→b<a→aY l[b].kind (es.getD b 0)=R7):=E;have x:Sb (Si w.heap.size w wr):=i;have H:=i.size;clear E;by_cases p:a<l.length
   ·have f:=A.out.below i;obtain rfl:=f.addr (by omega);have Y:a<es.length:=by rw[← z.out];exact p
    obtain rfl:=I.out (by omega);have u:=K.out (by omega);have ae:=f.c0 a p;have al:=f.c1 a p;have G:wr.cell? ⟨g,j+a,RZ⟩=RX (.int .i64 (es.getD a 0)):=(i.cell (p:=⟨g,j+a,RZ⟩) u).trans (J.out a Y);have V:g<wr.heap.size:=Sa u H;have q:Sb (aY l[a].kind (es.getD a 0)=R6→¬ kH l es):=fun c k=>by
     have:=k.2 a p;rw[c] at this;cases this
    have r:Sb (aY l[a].kind (es.getD a 0)=R7→∀ b,(c:b<l.length)→b<a+1→aY l[b].kind (es.getD b 0)=R7):=fun c b X a0=>by
     by_cases S:b=a
     ·subst S;exact c
     ·exact m.out b X (by omega)
    clear f i m A u;generalize l[a]=d at*;generalize es.getD a 0=C at*
    go_upto_region 6 with fail
    obtain⟨a4,a5⟩:=nA wr (.string d.name) (.int .i64 d.kind) 63;have t:Si wr.heap.size wr (wr.alloc (.cells #[.string d.name,.int .i64 d.kind] 63)):=(So _ _).alloc (R8 _) _;have a6:=(t.cell (p:=⟨g,j+a,RZ⟩) V).trans G;have y:Sb (Si w.heap.size w (wr.alloc (.cells #[.string d.name,.int .i64 d.kind] 63))):=x.out.trans (t.mono H);clear t G ae al;generalize wr.alloc (.cells #[.string d.name,.int .i64 d.kind] 63)=am at*;generalize wr.heap.size=aw at*;have n:=fun P=>ov d.kind C P;have a3:(a:Int)<(es.length:Int):=by omega
    cases h:aY d.kind C
    ·have N:Sb (¬ kH l es):=q.out h;rw[h] at n;clear q r h
     go_quiet ((go_at_call 83;exact Calls.quiet_of_same (n _)))
     go_wp2;go_ret;exact .inl ⟨rfl,N.out,below_drewN y.out _⟩
    ·have O:Sb (∀ b,(c:b<l.length)→b<a+1→aY l[b].kind (es.getD b 0)=R7):=r.out h;rw[h] at n;clear q r h
     go_quiet ((go_at_call 83;exact Calls.quiet_of_same (n _)))
     go_wp2
     go_roundw
     case rel=>exact⟨a+1,by omega,by go_num,O.out,below_drewN y.out _⟩
     case measure=>simp[S2];omega
   ·have M:Sb (kH l es):=⟨z.out,fun b c=>m.out b c (by omega)⟩;clear m i;go_wp2;go_ret;exact⟨R7,rfl,by simp only[true_iff];exact M.out,x.out⟩
 ·have F:((es.length:Int) != (l.length:Int))=R7:=by simp;omega
  have L:Sb (¬ kH l es):=fun c=>o c.1;clear f s v k;go_enter aa.func57,Tryz.ntmps57;go_wp2
  all_goals go_ret
  all_goals exact⟨R6,rfl,by simp only[SD,false_iff];exact L.out,So _ _⟩
def kM (a:Int)(es:List Int)(cs:List bG):Prop:=1≤a∧a≤100∧kH cs es
def uT(w:R3)(a b c:R2)(t:Sg):(w.alloc (.cells #[a,b,c] t)).cell? ⟨w.heap.size,0,RZ⟩=RX a∧(w.alloc (.cells #[a,b,c] t)).cell? ⟨w.heap.size,1,RZ⟩=RX b∧(w.alloc (.cells #[a,b,c] t)).cell? ⟨w.heap.size,2,RZ⟩=RX c:=by
 refine⟨?_,?_,?_⟩<;>simp
def qx.lower{w w':R3}{v:R2}{f:List Int}(h:qx w v f)(c:Si w.heap.size w w'):qx w' v f:=by
 obtain⟨g,a,e,i,rfl,k,b,l⟩:=h;exact⟨g,a,e,i,rfl,k,fun j=>Sa (b j) c.size,fun d m=>(c.cell (p:=⟨a,e+d,RZ⟩) (b (by omega))).trans (l d m)⟩
theorem we(b:Int)(es:List Int)(y:Bool)(cs:List bG)(s u:R2)(w:R3)(v:cs.length≤Sw)(x:es.length≤Sw)(q:vB w s cs)(r:qx w u es):
 SF (aa.of RY) 41 #[.agg #[.int .i64 b,u,.bool y],s] w fun e w'=>∃ bb,e= .returned (.bool bb)∧(bb=R7↔kM b es cs)∧Si w.heap.size w w':=by
 have B:=r;have A:=q;obtain⟨l,D,H,m,rfl,G,-⟩:=A;obtain⟨o,E,F,n,rfl,-,-,-⟩:=B;have f:Sb (∀ a,Si w.heap.size w (w.alloc a)):=fun a=>(So _ _).alloc (R8 _) _;have d:Sb (∀ a,SF (aa.of RY) 57 #[.slice o es.length n,.slice l cs.length m] (w.alloc a) fun e w'=>∃ bb,e= .returned (.bool bb)∧(bb=R7↔kH cs es)∧Si (w.alloc a).heap.size (w.alloc a) w'):=fun a=>m0 cs es _ _ _ v x (q.below (f.out a)) (r.lower (f.out a));clear q r v x;by_cases g:1≤b
 ·by_cases j:b≤100
  ·have t:decide (1≤b)=R7:=by simp;omega
   have z:decide (b≤100)=R7:=by simp;omega
   by_cases h:kH cs es
   ·have c:Sb (kM b es cs):=⟨g,j,h⟩;have k:Sb (∀ a,SF (aa.of RY) 57 #[.slice o es.length n,.slice l cs.length m] (w.alloc a) fun e w'=>e= .returned (.bool R7)∧Si (w.alloc a).heap.size (w.alloc a) w'):=fun a=>oQ (d.out a) h;clear d h g j;go_enter aa.func41,Tryz.ntmps41
    go_wp2_with (go_at_call 57;refine(k.out _).mono ?_;rintro e C ⟨rfl,p⟩)
    go_ret;exact⟨R7,rfl,by simp only[true_iff];exact c.out,(f.out _).trans (p.mono (by simp))⟩
   ·have c:Sb (¬ kM b es cs):=fun i=>h i.2.2;have k:Sb (∀ a,SF (aa.of RY) 57 #[.slice o es.length n,.slice l cs.length m] (w.alloc a) fun e w'=>e= .returned (.bool R6)∧Si (w.alloc a).heap.size (w.alloc a) w'):=fun a=>ng (d.out a) h;clear d h g j;go_enter aa.func41,Tryz.ntmps41
    go_wp2_with (go_at_call 57;refine(k.out _).mono ?_;rintro e C ⟨rfl,p⟩)
    go_ret;exact⟨R6,rfl,by simp only[SD,false_iff];exact c.out,(f.out _).trans (p.mono (by simp))⟩
  ·have t:decide (1≤b)=R7:=by simp;omega
   have z:decide (b≤100)=R6:=by simp;omega
   have c:Sb (¬ kM b es cs):=fun i=>j i.2.1;clear d g j;go_enter aa.func41,Tryz.ntmps41;go_wp2
   all_goals go_ret
   all_goals exact⟨R6,rfl,by simp only[SD,false_iff];exact c.out,f.out _⟩
 ·have t:decide (1≤b)=R6:=by simp;omega
  have c:Sb (¬ kM b es cs):=fun i=>g i.1;clear d g;go_enter aa.func41,Tryz.ntmps41;go_wp2
  all_goals go_ret
  all_goals exact⟨R6,rfl,by simp only[SD,false_iff];exact c.out,f.out _⟩
end Ec
namespace Ec
open Go.RowKit Pk Pm
structure jw where
 text:ByteArray
 dS:kU
structure Bd where
 rows:Nat
 chunks:List jw
theorem kY{α:Type}(f:α→List R2)(s:Nat)(b:∀ x,(f x).length=s)(l:List α):∀ j (h:j<l.length) i u,(f l[j])[i]? =RX u→(l.flatMap f)[j*s+i]? =RX u:=by
 induction l with
 |nil=>intro j h;simp at h
 |cons x e c=>
  intro j h i u a;rw[UF];cases j with
  |zero=>
   have d:i<(f x).length:=by
    simp only[List.getElem_cons_zero] at a;exact(SA.1 a).1
   rw[Ty (by omega)];simpa using a
  |succ j=>
   have:=c j (by simpa using h) i u (by simpa using a);rw[To (by rw[b,Nat.succ_mul];omega),b,show(j+1)*s+i - s=j*s+i by rw[Nat.succ_mul];omega];exact this
structure AF{α:Type}(w:R3)(f:α→List R2)(s:Nat)(ao:Option SL)(b off:Nat)(l:List α):Prop where
 addr:0<l.length→ao=RX ⟨b,off,RZ⟩
 lt:0<l.length→b<w.heap.size
 c:∀ j (h:j<l.length) i u,(f l[j])[i]? =RX u→w.cell? ⟨b,off+j*s+i,RZ⟩=RX u
def AF.below{α:Type}{w w':R3}{f:α→List R2}{s:Nat}{a:Option SL}{b off:Nat}{l:List α}(h:AF w f s a b off l)(c:Si w.heap.size w w'):AF w' f s a b off l:=
 ⟨h.addr,fun g=>Sa (h.lt g) c.size,fun e i d k j=>(c.cell (p:=⟨b,off+e*s+d,RZ⟩) (h.lt (by omega))).trans (h.c e i d k j)⟩
def ON {α:Type}(w:R3)(f:α→List R2)(s:Nat)(v:R2)(l:List α):Prop:=∃ a b d c,v= .slice a l.length c∧AF w f s a b d l
theorem ON.cy{α:Type}{w:R3}{f:α→List R2}{s base:Nat}{e:Sg}{v:R2}{l:List α}(i:∀ x,(f x).length=s)(h:w.ownsRow base e s v l.length (l.flatMap f)):ON w f s v l:=by
 rcases h.2 with⟨rfl,d⟩|⟨a,c,o,rfl,p,t,u,q,r,y⟩
 ·have:l=[]:=TA d;subst this;exact⟨RZ,0,0,0,rfl,⟨fun h=>by simp at h,fun h=>by simp at h,fun b h=>by simp at h⟩⟩
 ·have g:=h.cells (g:=a) rfl;refine⟨RX ⟨a,0,RZ⟩,a,0,c,rfl,⟨fun _=>rfl,fun _=>(h.lt a rfl).2,?_⟩⟩;intro b j m n k;have:=g _ _ (kY f s i l b j m n k);simpa [TW] using this
def cE (c:jw):List R2:=[.string c.text,.bool c.dS.there,.bool c.dS.least.null,.int .i64 c.dS.least.n,.string c.dS.least.s,.bool c.dS.most.null,.int .i64 c.dS.most.n,.string c.dS.most.s]
def dw (l:List jw):List R2:=l.flatMap cE
def tE(c:jw):(cE c).length=8:=rfl
def kW (p:Bd×R2):List R2:=[.int .i64 (p.1.rows:Int),p.2]
def mQ (l:List (Bd×R2)):List R2:=l.flatMap kW
def pJ(p:Bd×R2):(kW p).length=2:=rfl
structure iu(w:R3)(base:Nat)(v:R2)(L:List (Bd×R2)):Prop where
 own:w.ownsRow base 139 2 v L.length (mQ L)
 each:∀ p∈L,w.ownsRow base 143 8 p.2 p.1.chunks.length (dw p.1.chunks)
def Cp (a:List (List az))(cs:List bG)(es:List Int)(b:Bool)(p:Nat):jw:=
 ⟨(gZ (bH a p) (cs.getD p ⟨⟨#[]⟩,0⟩).kind (es.getD p 0)).1,if b then bO (bH a p) else bX⟩
def cB (b:List (List az))(cs:List bG)(es:List Int)(a:Bool)(n:Nat):List jw:=(SS n).map (Cp b cs es a)
def Ey(b:List (List az))(cs:List bG)(es:List Int)(a:Bool)(n:Nat):cB b cs es a (n+1)=cB b cs es a n ++ [Cp b cs es a n]:=by
 unfold cB;rw[Vz,Tb,Ug]
def dm(b:List (List az))(cs:List bG)(es:List Int)(a:Bool)(n:Nat):(cB b cs es a n).length=n:=by simp[cB]
def mB (a:List (List az))(cs:List bG)(es:List Int)(b:Bool):Bd:=⟨a.length,cB a cs es b cs.length⟩
def dI (b:List (List az))(a j:Nat):List (List az):=(b.drop (j*a)).take a
def de (d:List (List az))(cs:List bG)(es:List Int)(b:Bool)(a n:Nat):List Bd:=(SS n).map fun c=>mB (dI d a c) cs es b
def Cf(c:List (List az))(cs:List bG)(es:List Int)(b:Bool)(a n:Nat):de c cs es b a (n+1)=de c cs es b a n ++ [mB (dI c a n) cs es b]:=by
 unfold de;rw[Vz,Tb,Ug]
def mP(c:List (List az))(cs:List bG)(es:List Int)(b:Bool)(a n:Nat):(de c cs es b a n).length=n:=by simp[de]
def eY (len a:Nat):Nat:=(len+a - 1) / a
def oL{len a:Nat}(h:0<a)(k:Nat):k*a<len↔k<eY len a:=by
 unfold eY;have:=Nat.le_div_iff_mul_le (x:=k+1) (y:=len+a - 1) h;rw[Nat.succ_mul] at this;omega
def bJ (k:Int)(b:kU):List Nat:=if b.there then[1] ++ (aL k b.least ++ aL k b.most) else[0]
def AU (cs:List bG)(es:List Int)(i:Nat):List Nat:=ax (cs.getD i ⟨⟨#[]⟩,0⟩).name.size ++ (bytesOf (cs.getD i ⟨⟨#[]⟩,0⟩).name ++ [byteOf (cs.getD i ⟨⟨#[]⟩,0⟩).kind,byteOf (es.getD i 0)])
def gY (cs:List bG)(es:List Int)(n:Nat):List Nat:=(SS n).flatMap (AU cs es)
def wF(cs:List bG)(es:List Int)(n:Nat):gY cs es (n+1)=gY cs es n ++ AU cs es n:=by
 unfold gY;rw[Vz,Tf,Ta]
def qH (cs:List bG)(l:List jw)(i:Nat):List Nat:=ax (l.getD i ⟨⟨#[]⟩,bX⟩).text.size ++ bJ (cs.getD i ⟨⟨#[]⟩,0⟩).kind (l.getD i ⟨⟨#[]⟩,bX⟩).dS
def eg (cs:List bG)(l:List jw)(n:Nat):List Nat:=(SS n).flatMap (qH cs l)
def uC(cs:List bG)(l:List jw)(n:Nat):eg cs l (n+1)=eg cs l n ++ qH cs l n:=by
 unfold eg;rw[Vz,Tf,Ta]
def dV (cs:List bG)(b:Bd):List Nat:=ax b.rows ++ eg cs b.chunks b.chunks.length
def cr (cs:List bG)(bs:List Bd):List Nat:=bs.flatMap (dV cs)
def Ce(cs:List bG)(bs:List Bd)(k:Nat)(h:k<bs.length):cr cs (bs.take (k+1))=cr cs (bs.take k) ++ dV cs bs[k]:=by
 unfold cr;rw[Su h,Tf,Ta]
def iZ (cs:List bG)(es:List Int)(bs:List Bd):List Nat:=ax cs.length ++ (gY cs es cs.length ++ (ax bs.length ++ cr cs bs))
def gb (n:Nat):List Nat:=[n % 256,n / 256 % 256,n / 65536 % 256,n / 16777216 % 256]
def bL (l:List jw):List Nat:=l.flatMap fun a=>bytesOf a.text
def FW(l:List jw)(k:Nat)(h:k<l.length):bL (l.take (k+1))=bL (l.take k) ++ bytesOf l[k].text:=by
 unfold bL;rw[Su h,Tf,Ta]
def ry(l:List jw)(c:jw):bL (l ++ [c])=bL l ++ bytesOf c.text:=by
 unfold bL;rw[Tf,Ta]
def bp (bs:List Bd):List Nat:=bs.flatMap fun a=>bL a.chunks
def wm(bs:List Bd)(k:Nat)(h:k<bs.length):bp (bs.take (k+1))=bp (bs.take k) ++ bL bs[k].chunks:=by
 unfold bp;rw[Su h,Tf,Ta]
def qY(bs:List Bd)(b:Bd):bp (bs ++ [b])=bp bs ++ bL b.chunks:=by
 unfold bp;rw[Tf,Ta]
def cW:List Nat:=[83,84,82,65]
def uu (cs:List bG)(es:List Int)(bs:List Bd):List Nat:=cW ++ (bp bs ++ (iZ cs es bs ++ (gb (iZ cs es bs).length ++ cW)))
def aP.j9{w c:R3}{v:R2}{o:U9}{g n cap:Nat}(e:(w.alloc o).grownBy c v.ownBlock)(d:v.ownBlock=RX g∨g=(w.alloc o).heap.size):aP w c v (.slice (RX ⟨g,0,RZ⟩) n cap):=by
 refine((aP.refl w v).alloc o).trans ⟨e,fun f b=>?_⟩;simp[TQ] at b;subst b;rcases d with a|a
 ·exact .inl a
 ·exact .inr (by omega)
def dz{w:R3}{base:Nat}{e:Sg}{b:Nat}{v:R2}{n:Nat}{c:List R2}(h:w.ownsRow base e b v n c):∃ a cap,v= .slice a n cap:=by
 rcases h.2 with⟨rfl,rfl⟩|⟨f,cap,d,rfl,-⟩
 ·exact⟨RZ,0,rfl⟩
 ·exact⟨_,cap,rfl⟩
def E4{w:R3}{base:Nat}{e:Sg}{d:Nat}{v:R2}{n:Nat}{f:List R2}{g:Nat}(h:w.ownsRow base e d v n f)(b:v.ownBlock=RX g):∃ a,w.heap[g]? =RX (.cells a e (0,0)):=by
 rcases h.2 with⟨rfl,-⟩|⟨j,i,a,rfl,-,c,-⟩
 ·simp[TQ] at b
 ·simp[TQ] at b;subst b;exact⟨a,c⟩
def bk{w:R3}{base:Nat}{e:Sg}{f:Nat}{v:R2}{n:Nat}{i:List R2}{g:Nat}{cs:Array R2}{t:Sg}(h:w.ownsRow base e f v n i)(b:w.heap[g]? =RX (.cells cs t (0,0)))(d:t≠e):RX g≠v.ownBlock:=by
 intro c;obtain⟨j,a⟩:=E4 h c.symm;rw[b] at a;simp at a;exact d a.2
def oJ{w:R3}{base c:Nat}{e b:Sg}{j k:Nat}{v v2:R2}{n i:Nat}{l m:List R2}(h:w.ownsRow base e j v n l)(d:w.ownsRow c b k v2 i m)(g:e≠b):Apart v v2:=by
 cases a:v.ownBlock with
 |none=>exact .inl a
 |some p=>
  right
  rw[a];obtain⟨o,f⟩:=E4 h a;exact bk d f g
def zC(w:R3)(o p q:U9):(((w.alloc o).alloc p).alloc q).heap[w.heap.size+2]? =RX q:=by
 have:=bw ((w.alloc o).alloc p) q;rwa [show((w.alloc o).alloc p).heap.size=w.heap.size+2 by simp] at this
structure jW(w W:R3)(bd:Int)(ev:R2)(bo:Bool)(n:Nat)(kv:R2)(l:List jw):Prop where
 opt:W.heap[w.heap.size]? =RX (.cells #[.int .i64 bd,ev,.bool bo] 48 (0,0))
 res:W.heap[w.heap.size+1]? =RX (.cells #[.int .i64 0,.slice RZ 0 0] 139 (0,0))
 box:W.heap[w.heap.size+2]? =RX (.cells #[.int .i64 (n:Int),kv] 139 (0,0))
 own:W.ownsRow w.heap.size 143 8 kv l.length (dw l)
 fq:Si w.heap.size w W
def jW.below{w b c:R3}{d:Int}{f:R2}{e:Bool}{n:Nat}{g:R2}{l:List jw}(h:jW w b d f e n g l)(a:Si b.heap.size b c):jW w c d f e n g l:=
 ⟨(a.block _ (Sf h.opt)).trans h.opt,(a.block _ (Sf h.res)).trans h.res,(a.block _ (Sf h.box)).trans h.box,aM h.own a,h.fq.trans (a.mono h.fq.size)⟩
theorem jW.kQ{w e c:R3}{f:Int}{i:R2}{g:Bool}{n:Nat}{o b:R2}{l d:List jw}(h:jW w e f i g n o l)(a:aP e c o b)(m:c.ownsRow w.heap.size 143 8 b d.length (dw d)):
 jW w (c.setCell ⟨w.heap.size+2,1,RZ⟩ b) f i g n b d:=by
 have q:=(a.ij.block _ (Sf h.opt) (bk h.own h.opt (by decide))).trans h.opt;have r:=(a.ij.block _ (Sf h.res) (bk h.own h.res (by decide))).trans h.res;have j:=(a.ij.block _ (Sf h.box) (bk h.own h.box (by decide))).trans h.box;have s:=Sq c (w.heap.size+2) 1 _ _ b j;have k:=h.fq.trans (a.below (fun p a=>(h.own.lt p a).1) h.fq.size);refine⟨?_,?_,s,?_,?_⟩
 ·rw[Sv _ _ _ _ (by simp)];exact q
 ·rw[Sv _ _ _ _ (by simp)];exact r
 ·exact m.kept (aG c _ 1 b) (.inr (bk m j (by decide)).symm)
 ·exact ey k k.size (by omega) _ _
def jW.cells{w a:R3}{g:Int}{d:R2}{c:Bool}{n:Nat}{f:R2}{l:List jw}(h:jW w a g d c n f l):
 a.cell? ⟨w.heap.size,1,RZ⟩=RX d∧a.cell? ⟨w.heap.size,2,RZ⟩=RX (.bool c)∧a.cell? ⟨w.heap.size+2,0,RZ⟩=RX (.int .i64 (n:Int))∧a.cell? ⟨w.heap.size+2,1,RZ⟩=RX f∧a.frozen? ⟨w.heap.size+2,1,RZ⟩=R6:=by
 have e:=h.opt;have b:=h.box;exact⟨by simp[Sr,e],by simp[Sr,e],by simp[Sr,b],by simp[Sr,b],by simp[S4,b]⟩
theorem jE{w:R3}{g:Nat}{c:jw}{t:Sg}(h:w.heap[g]? =RX (.cells (cE c).toArray t (0,0))):
 (w.cell? ⟨g,0,RZ⟩=RX (.string c.text)∧w.cell? ⟨g,1,RZ⟩=RX (.bool c.dS.there)∧w.cell? ⟨g,2,RZ⟩=RX (.bool c.dS.least.null)∧w.cell? ⟨g,3,RZ⟩=RX (.int .i64 c.dS.least.n)∧w.cell? ⟨g,4,RZ⟩=RX (.string c.dS.least.s)∧
   w.cell? ⟨g,5,RZ⟩=RX (.bool c.dS.most.null)∧w.cell? ⟨g,6,RZ⟩=RX (.int .i64 c.dS.most.n)∧w.cell? ⟨g,7,RZ⟩=RX (.string c.dS.most.s))∧
 (w.frozen? ⟨g,1,RZ⟩=R6∧w.frozen? ⟨g,2,RZ⟩=R6∧w.frozen? ⟨g,3,RZ⟩=R6∧w.frozen? ⟨g,4,RZ⟩=R6∧w.frozen? ⟨g,5,RZ⟩=R6∧w.frozen? ⟨g,6,RZ⟩=R6∧w.frozen? ⟨g,7,RZ⟩=R6):=by
 unfold cE at h;refine⟨⟨?_,?_,?_,?_,?_,?_,?_,?_⟩,?_,?_,?_,?_,?_,?_,?_⟩<;>first|simp[Sr,h]|simp[S4,h]
theorem M2{w:R3}{g:Nat}{s:ByteArray}{a:kU}(b:kU){t:Sg}(h:w.heap[g]? =RX (.cells (cE ⟨s,a⟩).toArray t (0,0))):
 (((((((w.setCell ⟨g,1,RZ⟩ (.bool b.there)).setCell ⟨g,2,RZ⟩ (.bool b.least.null)).setCell ⟨g,3,RZ⟩ (.int .i64 b.least.n)).setCell ⟨g,4,RZ⟩ (.string b.least.s)).setCell ⟨g,5,RZ⟩ (.bool b.most.null)).setCell ⟨g,6,RZ⟩ (.int .i64 b.most.n)).setCell ⟨g,7,RZ⟩ (.string b.most.s)).heap[g]? =RX (.cells (cE ⟨s,b⟩).toArray t (0,0)):=by
 have c:(w.setCell ⟨g,1,RZ⟩ (.bool b.there)).heap[g]? =RX (.cells #[.string s,.bool b.there,.bool a.least.null,.int .i64 a.least.n,.string a.least.s,.bool a.most.null,.int .i64 a.most.n,.string a.most.s] t (0,0)):=Sq _ g 1 _ _ (.bool b.there) h;have d:((w.setCell ⟨g,1,RZ⟩ (.bool b.there)).setCell ⟨g,2,RZ⟩ (.bool b.least.null)).heap[g]? =RX (.cells #[.string s,.bool b.there,.bool b.least.null,.int .i64 a.least.n,.string a.least.s,.bool a.most.null,.int .i64 a.most.n,.string a.most.s] t (0,0)):=Sq _ g 2 _ _ (.bool b.least.null) c;have e:(((w.setCell ⟨g,1,RZ⟩ (.bool b.there)).setCell ⟨g,2,RZ⟩ (.bool b.least.null)).setCell ⟨g,3,RZ⟩ (.int .i64 b.least.n)).heap[g]? =RX (.cells #[.string s,.bool b.there,.bool b.least.null,.int .i64 b.least.n,.string a.least.s,.bool a.most.null,.int .i64 a.most.n,.string a.most.s] t (0,0)):=Sq _ g 3 _ _ (.int .i64 b.least.n) d;have f:((((w.setCell ⟨g,1,RZ⟩ (.bool b.there)).setCell ⟨g,2,RZ⟩ (.bool b.least.null)).setCell ⟨g,3,RZ⟩ (.int .i64 b.least.n)).setCell ⟨g,4,RZ⟩ (.string b.least.s)).heap[g]? =RX (.cells #[.string s,.bool b.there,.bool b.least.null,.int .i64 b.least.n,.string b.least.s,.bool a.most.null,.int .i64 a.most.n,.string a.most.s] t (0,0)):=Sq _ g 4 _ _ (.string b.least.s) e;have i:(((((w.setCell ⟨g,1,RZ⟩ (.bool b.there)).setCell ⟨g,2,RZ⟩ (.bool b.least.null)).setCell ⟨g,3,RZ⟩ (.int .i64 b.least.n)).setCell ⟨g,4,RZ⟩ (.string b.least.s)).setCell ⟨g,5,RZ⟩ (.bool b.most.null)).heap[g]? =RX (.cells #[.string s,.bool b.there,.bool b.least.null,.int .i64 b.least.n,.string b.least.s,.bool b.most.null,.int .i64 a.most.n,.string a.most.s] t (0,0)):=Sq _ g 5 _ _ (.bool b.most.null) f;have j:((((((w.setCell ⟨g,1,RZ⟩ (.bool b.there)).setCell ⟨g,2,RZ⟩ (.bool b.least.null)).setCell ⟨g,3,RZ⟩ (.int .i64 b.least.n)).setCell ⟨g,4,RZ⟩ (.string b.least.s)).setCell ⟨g,5,RZ⟩ (.bool b.most.null)).setCell ⟨g,6,RZ⟩ (.int .i64 b.most.n)).heap[g]? =RX (.cells #[.string s,.bool b.there,.bool b.least.null,.int .i64 b.least.n,.string b.least.s,.bool b.most.null,.int .i64 b.most.n,.string a.most.s] t (0,0)):=Sq _ g 6 _ _ (.int .i64 b.most.n) i;have k:(((((((w.setCell ⟨g,1,RZ⟩ (.bool b.there)).setCell ⟨g,2,RZ⟩ (.bool b.least.null)).setCell ⟨g,3,RZ⟩ (.int .i64 b.least.n)).setCell ⟨g,4,RZ⟩ (.string b.least.s)).setCell ⟨g,5,RZ⟩ (.bool b.most.null)).setCell ⟨g,6,RZ⟩ (.int .i64 b.most.n)).setCell ⟨g,7,RZ⟩ (.string b.most.s)).heap[g]? =RX (.cells #[.string s,.bool b.there,.bool b.least.null,.int .i64 b.least.n,.string b.least.s,.bool b.most.null,.int .i64 b.most.n,.string b.most.s] t (0,0)):=Sq _ g 7 _ _ (.string b.most.s) j;exact k
def wJ(w:R3)(c:jw)(t:Sg):∀ (j:Nat) (u:R2),(cE c)[j]? =RX u→(w.alloc (.cells (cE c).toArray t)).cell? ((⟨w.heap.size,0,RZ⟩:SL).add j)=RX u:=by
 intro j u a;have b:j<8:=by
  have:=(SA.1 a).1;simpa [cE] using this
 have:j=0∨j=1∨j=2∨j=3∨j=4∨j=5∨j=6∨j=7:=by omega
 rcases this with rfl|rfl|rfl|rfl|rfl|rfl|rfl|rfl<;>(simp[cE] at a;subst a;simp[V8,cE])
def tw(c:jw):∀ u∈cE c,u.oneCell'=R7:=by
 intro u a;simp[cE] at a;rcases a with rfl|rfl|rfl|rfl|rfl|rfl|rfl|rfl<;>rfl
def EB{a:List (List az)}{e:Nat}(h:∀ r∈a,∀ x∈r,Ek x)(f:∀ r∈a,e<r.length):∀ x∈bH a e,Ek x:=by
 intro x d;unfold bH at d;obtain⟨r,c,rfl⟩:=Tu.1 d;have b:=f r c;rw[Sj,Sk b];exact h r c _ (Sl b)
def iY(a:List (List az))(b:Nat):(bH a b).length=a.length:=by simp[bH]
def aa.Gt:((aa.of RY).info? 143).map (fun i=>(i.zero,i.size,i.bytes))=RX (RX (.agg #[.string ⟨#[]⟩,.bool R6,.bool R6,.int .i64 0,.string ⟨#[]⟩,.bool R6,.int .i64 0,.string ⟨#[]⟩]),8,88):=by kernel_rfl
theorem jW.put{w a:R3}{c:Int}{e:R2}{d:Bool}{n:Nat}{b:R2}{l:List jw}(h:jW w a c e d n b l){g:Nat}(i:w.heap.size+2<g)(f:b.ownBlock≠RX g)(o:Nat)(v:R2):
 jW w (a.setCell ⟨g,o,RZ⟩ v) c e d n b l:=by
 refine⟨?_,?_,?_,h.own.kept (aG a g o v) (.inr f),ey h.fq h.fq.size (by omega) _ _⟩
 ·rw[Sv _ _ _ _ (by simp;omega)];exact h.opt
 ·rw[Sv _ _ _ _ (by simp;omega)];exact h.res
 ·rw[Sv _ _ _ _ (by simp;omega)];exact h.box
def jW.yL{w e:R3}{f:Int}{j:R2}{i:Bool}{n:Nat}{d:R2}{l:List jw}(h:jW w e f j i n d l){g:Nat}(a:w.heap.size+2<g)(c:d.ownBlock≠RX g)(b:kU):
 jW w (((((((e.setCell ⟨g,1,RZ⟩ (.bool b.there)).setCell ⟨g,2,RZ⟩ (.bool b.least.null)).setCell ⟨g,3,RZ⟩ (.int .i64 b.least.n)).setCell ⟨g,4,RZ⟩ (.string b.least.s)).setCell ⟨g,5,RZ⟩ (.bool b.most.null)).setCell ⟨g,6,RZ⟩ (.int .i64 b.most.n)).setCell ⟨g,7,RZ⟩ (.string b.most.s)) f j i n d l:=
 ((((((h.put a c _ _).put a c _ _).put a c _ _).put a c _ _).put a c _ _).put a c _ _).put a c _ _
def jW.kept{w c a:R3}{e:Int}{g:R2}{f:Bool}{n:Nat}{b j:R2}{l:List jw}(h:jW w c e g f n b l)(i:aP c a b j):
 a.cell? ⟨w.heap.size+2,1,RZ⟩=RX b∧a.frozen? ⟨w.heap.size+2,1,RZ⟩=R6:=by
 have d:=(i.ij.block _ (Sf h.box) (bk h.own h.box (by decide))).trans h.box;exact⟨by simp[Sr,d],by simp[S4,d]⟩
def Gh{a:List (List az)}{cs:List bG}{es:List Int}{b:Bool}{k:Nat}(h1:k<cs.length)(c:k<es.length):
 Cp a cs es b k=⟨(gZ (bH a k) cs[k].kind (es.getD k 0)).1,if b then bO (bH a k) else bX⟩:=by
 unfold Cp;rw[Sj (l:=cs),Sk h1];rfl
theorem El{es:List Int}(cn:(∀ e∈es,e=0)∨qw∧mN)(b:List (List az))(cs:List bG)(n:Int)(d:Bool)(bs b1 b4:R2)(w:R3)(c4:b.length≤100)(cv:∀ r∈b,r.length=cs.length)(cp:∀ r∈b,∀ x∈r,Ek x)(e1:cs.length≤8)(co:es.length=cs.length)
 (cR:B2 w bs b) (d4:vB w b1 cs) (d6:qx w b4 es):
 SF (aa.of RY) 60 #[bs,b1,.agg #[.int .i64 n,b4,.bool d]] w fun e w'=>∃ f,e= .returned (.agg #[.int .i64 (b.length:Int),f])∧w'.ownsRow w.heap.size 143 8 f cs.length (dw (cB b cs es d cs.length))∧Si w.heap.size w w':=by
 have dc:Sb ((∀ e∈es,e=0)∨qw∧mN):=cn;clear cn;obtain⟨c5,cu,c1,c2,c3⟩:=TB aa.Gt;have dq:Sb (B2 w bs b):=cR;have aw:Sb (∀ r∈b,r.length=cs.length):=cv;have dk:Sb (∀ r∈b,∀ x∈r,Ek x):=cp;obtain⟨en,e8,bh,aF,rfl,e4,-⟩:=cR;obtain⟨dt,ds,aV,aD,rfl,e0,E⟩:=d4;obtain⟨H,i,k,o,rfl,ci,ck,cl⟩:=d6;have c9:Sb (qR w dt ds aV cs):=E;have da:Sb (0<es.length→H=RX ⟨i,k,RZ⟩):=ci;have T:Sb (0<es.length→i<w.heap.size):=ck;have db:Sb (∀ br,br<es.length→w.cell? ⟨i,k+br,RZ⟩=RX (.int .i64 (es.getD br 0))):=cl;have df:Sb (es.length=cs.length):=co;clear cv cp E ci ck cl co;go_enter aa.func60,Tryz.ntmps60
 go_upto_region 2 with fail
 have ce:jW w (((w.alloc (.cells #[.int .i64 n,.slice H es.length o,.bool d] 48)).alloc (.cells #[.int .i64 0,.slice RZ 0 0] 139)).alloc (.cells #[.int .i64 (b.length:Int),.slice RZ 0 0] 139)) n (.slice H es.length o) d b.length (.slice RZ 0 0) (cB b cs es d 0):=by
  refine⟨alloc_old _ (by simp;omega) (alloc_old _ (by simp) (bw w _)),alloc_old _ (by simp) (jA w _ _),zC w _ _ _,?_,?_⟩
  ·exact⟨by simp[cB,dw],.inl ⟨rfl,by simp[cB]⟩⟩
  ·exact(gm _ _).alloc (by simp;omega) _
 generalize ((w.alloc (.cells #[.int .i64 n,.slice H es.length o,.bool d] 48)).alloc (.cells #[.int .i64 0,.slice RZ 0 0] 139)).alloc (.cells #[.int .i64 (b.length:Int),.slice RZ 0 0] 139)=et at*
 go_wp2_with fail
 go_loopw [19] (fun bo wr=>∃ (a:Nat) (f:R2),a≤cs.length∧bo= .int .i64 (a:Int)∧jW w wr n (.slice H es.length o) d b.length f (cB b cs es d a)) (fun bo _=>cs.length - (S2 bo).toNat)
 case atStart=>exact⟨0,_,SK _,rfl,ce⟩
 case round=>
  clear ce;obtain⟨a,f,e2,rfl,g⟩:=hrel;have V:Sb (jW w wr n (.slice H es.length o) d b.length f (cB b cs es d a)):=g;by_cases J:a<cs.length
  ·have Z:a<es.length:=by rw[df.out];exact J
   have c0:w.heap.size≤wr.heap.size:=g.fq.size;have E:=c9.out.below g.fq;obtain rfl:=E.addr (by omega);obtain rfl:=da.out (by omega);have el:=E.c0 a J;have em:=E.c1 a J;have ar:Sb (i<wr.heap.size):=Sa (T.out (by omega)) c0;have b2:wr.cell? ⟨i,k+a,RZ⟩=RX (.int .i64 (es.getD a 0)):=(g.fq.cell (p:=⟨i,k+a,RZ⟩) (T.out (by omega))).trans (db.out a Z);have U:Sb (cB b cs es d (a+1)=cB b cs es d a ++ [⟨(gZ (bH b a) cs[a].kind (es.getD a 0)).1,if d then bO (bH b a) else bX⟩]):=by
    show _=_;rw[Ey,Gh J Z]
   have dr:Sb (∀ x∈bH b a,Ek x):=EB dk.out (fun r ab=>by rw[aw.out r ab];exact J);have am:Sb ((bH b a).length=b.length):=iY b a;have bv:Sb (∀ c,Si w.heap.size w c→SF (aa.of RY) 86 #[.slice en b.length aF,.int .i64 (a:Int)] c fun e w'=>Si c.heap.size c w'∧∃ v,e= .returned v∧w'.ownsRow c.heap.size 59 3 v b.length (aC (bH b a))):=fun c d1=>
    AV b a _ c c4 (fun r ab=>⟨by rw[aw.out r ab];exact J,by rw[aw.out r ab];unfold Sw;omega⟩) (dq.out.below d1)
   have e3:(a:Int)<(es.length:Int):=by omega
   have dd:Sb (es.getD a 0=0∨qw∧mN):=dc.out.imp (fun D=>D _ (by rw[Sj,Sk Z];exact Sl Z)) id;generalize d0:bH b a=h at*;generalize d2:cs[a]=s at*;generalize d5:es.getD a 0=u at*;clear E d0 d2 d5 g;have bx:Sb (∀ c l,qV c l h→SF (aa.of RY) 87 #[l,.int .i64 s.kind,.int .i64 u] c fun r w'=>r= .returned (.tuple #[.string (gZ h s.kind u).1,.int .i64 (gZ h s.kind u).2])∧Si c.heap.size c w'):=fun c l D=>
    Ch dd.out l h s.kind c (by rw[am.out];unfold Sw;omega) dr.out D
   have al:Sb (∀ c l,qV c l h→SF (aa.of RY) 88 #[l] c fun e w'=>e= .returned (Ev (bO h))∧Si c.heap.size c w'):=fun c l D=>
    AM l h c (by rw[am.out];exact c4) D
   go_upto_region 6 with(go_at_call 86;refine(bv.out _ (V.out.fq.alloc c0 _)).mono ?_;rintro e j ⟨Y,l,rfl,cx⟩)
   have bd:Si wr.heap.size wr j:=sV Y;have c6:j.cell? ⟨wr.heap.size,1,RZ⟩=RX (.int .i64 s.kind):=(Y.cell (p:=⟨wr.heap.size,1,RZ⟩) (by simp)).trans (nA wr _ _ _).2;have t:Sb (jW w j n (.slice (RX ⟨i,k,RZ⟩) es.length o) d b.length f (cB b cs es d a)):=V.out.below bd;obtain⟨P,ad,Q,R,ae⟩:=t.out.cells;have b3:j.cell? ⟨i,k+a,RZ⟩=RX (.int .i64 u):=(bd.cell (p:=⟨i,k+a,RZ⟩) ar.out).trans b2;have a1:Sb (qV j l h):=qV.cy (by rw[am.out];exact cx);have cb:wr.heap.size<j.heap.size:=by have:=Y.size;simp at this;omega
   have y:w.heap.size<j.heap.size:=by omega
   have cc:i<j.heap.size:=by have:=ar.out;omega
   clear el em b2 Y bd bv cx Q R ae ar;generalize wr.heap.size=cd at*
   go_cut [11,12] from 27 to 38 (fun er e9 p=>er= .string (gZ h s.kind u).1∧Si j.heap.size j p)
   case first=>
    have T:Sb (SF (aa.of RY) 87 #[l,.int .i64 s.kind,.int .i64 u] j.drew fun r w'=>r= .returned (.tuple #[.string (gZ h s.kind u).1,.int .i64 (gZ h s.kind u).2])∧Si j.drew.heap.size j.drew w'):=bx.out _ _ (a1.out.below ((So _ _).drew))
    go_region_held3 (fun c=>c.cell? ⟨cd,1,RZ⟩=RX (.int .i64 s.kind)∧c.cell? ⟨w.heap.size,1,RZ⟩=RX (.slice (RX ⟨i,k,RZ⟩) es.length o)∧c.cell? ⟨i,k+a,RZ⟩=RX (.int .i64 u)) (go_keep) ((go_at_call 87;refine T.out.mono ?_;rintro e z ⟨rfl,I⟩;have M:Si j.heap.size j z:=((So j.heap.size j).drew).trans I;have eb:=(M.cell (p:=⟨cd,1,RZ⟩) cb).trans c6;have ec:=(M.cell (p:=⟨w.heap.size,1,RZ⟩) y).trans P;have ee:=(M.cell (p:=⟨i,k+a,RZ⟩) cc).trans b3;clear I))
    all_goals
     have c8:Sb (Si j.heap.size j z):=M;clear M eb ec ee
     go_wp2_with fail
     go_meet
     exact⟨rfl,c8.out⟩
   case rest=>
    rename R3=>p
    obtain⟨rfl,be⟩:=hcut;have W:Sb (jW w p n (.slice (RX ⟨i,k,RZ⟩) es.length o) d b.length f (cB b cs es d a)):=t.out.below be;have bB:Sb (qV p l h):=a1.out.below be;clear t a1 bx c6 P ad b3 be cb y cc V;generalize (gZ h s.kind u).1=m at*
    go_upto_region 8 with fail
    have bi:(p.alloc (.cells (cE ⟨m,bX⟩).toArray 143)).heap[p.heap.size]? =RX (.cells (cE ⟨m,bX⟩).toArray 143 (0,0)):=bw _ _;have bc:jW w (p.alloc (.cells (cE ⟨m,bX⟩).toArray 143)) n (.slice (RX ⟨i,k,RZ⟩) es.length o) d b.length f (cB b cs es d a):=W.out.below ((So _ _).alloc (R8 _) _);have bm:qV (p.alloc (.cells (cE ⟨m,bX⟩).toArray 143)) l h:=bB.out.below ((So _ _).alloc (R8 _) _);have d7:w.heap.size+2<p.heap.size:=Sf W.out.box;have dl:Sb (f.ownBlock≠RX p.heap.size):=fun D=>by have:=(W.out.own.lt _ D).2;omega
    rw[show(cE ⟨m,bX⟩).toArray=#[.string m,.bool R6,.bool R6,.int .i64 0,.string ⟨#[]⟩,.bool R6,.int .i64 0,.string ⟨#[]⟩] from rfl] at bc bm bi;generalize p.alloc (.cells #[.string m,.bool R6,.bool R6,.int .i64 0,.string ⟨#[]⟩,.bool R6,.int .i64 0,.string ⟨#[]⟩] 143)=C at*;have ch:C.heap[p.heap.size]? =RX (.cells (cE ⟨m,bX⟩).toArray 143 (0,0)):=bi;generalize p.heap.size=gk at*;have t:Sb (jW w C n (.slice (RX ⟨i,k,RZ⟩) es.length o) d b.length f (cB b cs es d a)):=bc;have bA:Sb (qV C l h):=bm;have S:Sb (C.heap[gk]? =RX (.cells (cE ⟨m,bX⟩).toArray 143 (0,0))):=ch;clear bi bc bm ch W bB;have d9:w.heap.size≤C.heap.size:=t.out.fq.size;obtain⟨P,ad,Q,R,ae⟩:=t.out.cells;cases d
    ·have a0:Sb (cB b cs es R6 (a+1)=cB b cs es R6 a ++ [⟨m,bX⟩]):=U.out;clear U al
     go_upto_region 10 with fail
     obtain⟨⟨a2,a3,a4,a5,a6,a7,a8,a9⟩,-⟩:=jE S.out;have q:=t.out.own;rw[dm] at q
     go_wp2_with (at_builtin;refine wpList_append_lies _ rfl _ _ 137 rfl w.heap.size 143 c5 _ 8 88 aa.underlying137 cu c1 c2 c3 rfl (by decide) _ a _ rfl (q.alloc _) ⟨C.heap.size,0,RZ⟩ 1 1 (cE ⟨m,bX⟩) rfl rfl (wJ C ⟨m,bX⟩ _) (tw _) (by decide) (by unfold Sw;omega) (by omega) (by simp;omega) _ rfl ?_;intro y B z G N L bl;have F:=aP.j9 (n:=a+1) (cap:=B) N L;obtain⟨bt,bu⟩:=t.out.kept F)
     have O:z.ownsRow w.heap.size 143 8 (.slice (RX ⟨y,0,RZ⟩) (a+1) B) (cB b cs es R6 (a+1)).length (dw (cB b cs es R6 (a+1))):=by
      rw[dm,a0.out];unfold dw at G ⊢;rw[Tf,Ta];exact G
     have ao:Sb (jW w (z.setCell ⟨w.heap.size+2,1,RZ⟩ (.slice (RX ⟨y,0,RZ⟩) (a+1) B)) n (.slice (RX ⟨i,k,RZ⟩) es.length o) R6 b.length (.slice (RX ⟨y,0,RZ⟩) (a+1) B) (cB b cs es R6 (a+1))):=t.out.kQ F O;clear q G N F bt bu O L bl
     go_roundw
     case rel=>exact⟨a+1,_,by omega,by go_num,ao.out⟩
     case measure=>simp[S2];omega
    ·have a0:Sb (cB b cs es R7 (a+1)=cB b cs es R7 a ++ [⟨m,bO h⟩]):=U.out;clear U
     go_upto_region 10 with(go_at_call 88;refine(al.out _ _ bA.out).mono ?_;unfold Ev;rintro e z ⟨rfl,I⟩;have bj:=(I.block gk (Sf S.out)).trans S.out;obtain⟨⟨a2,a3,a4,a5,a6,a7,a8,a9⟩,ca,du,dv,dC,dE,dO,dT⟩:=jE bj)
     have d3:=M2 (bO h) bj;have cf:=(t.out.below I).yL d7 dl.out (bO h);clear a2 a3 a4 a5 a6 a7 a8 a9 ca du dv dC dE dO dT bj al bA S P ad Q R ae d9;generalize bO h=A at*;generalize ((((((z.setCell ⟨gk,1,RZ⟩ (.bool A.there)).setCell ⟨gk,2,RZ⟩ (.bool A.least.null)).setCell ⟨gk,3,RZ⟩ (.int .i64 A.least.n)).setCell ⟨gk,4,RZ⟩ (.string A.least.s)).setCell ⟨gk,5,RZ⟩ (.bool A.most.null)).setCell ⟨gk,6,RZ⟩ (.int .i64 A.most.n)).setCell ⟨gk,7,RZ⟩ (.string A.most.s)=X at*;have K:Sb (jW w X n (.slice (RX ⟨i,k,RZ⟩) es.length o) R7 b.length f (cB b cs es R7 a)):=cf;clear cf I;have e5:w.heap.size≤X.heap.size:=K.out.fq.size;obtain⟨P,ad,Q,R,ae⟩:=K.out.cells;obtain⟨⟨a2,a3,a4,a5,a6,a7,a8,a9⟩,-⟩:=jE d3;have q:=K.out.own;rw[dm] at q
     go_wp2_with (at_builtin;refine wpList_append_lies _ rfl _ _ 137 rfl w.heap.size 143 c5 _ 8 88 aa.underlying137 cu c1 c2 c3 rfl (by decide) _ a _ rfl (q.alloc _) ⟨X.heap.size,0,RZ⟩ 1 1 (cE ⟨m,A⟩) rfl rfl (wJ X ⟨m,A⟩ _) (tw _) (by decide) (by unfold Sw;omega) (by omega) (by simp;omega) _ rfl ?_;intro y B z G N L bl;have F:=aP.j9 (n:=a+1) (cap:=B) N L;obtain⟨bt,bu⟩:=K.out.kept F)
     have O:z.ownsRow w.heap.size 143 8 (.slice (RX ⟨y,0,RZ⟩) (a+1) B) (cB b cs es R7 (a+1)).length (dw (cB b cs es R7 (a+1))):=by
      rw[dm,a0.out];unfold dw at G ⊢;rw[Tf,Ta];exact G
     have ao:Sb (jW w (z.setCell ⟨w.heap.size+2,1,RZ⟩ (.slice (RX ⟨y,0,RZ⟩) (a+1) B)) n (.slice (RX ⟨i,k,RZ⟩) es.length o) R7 b.length (.slice (RX ⟨y,0,RZ⟩) (a+1) B) (cB b cs es R7 (a+1))):=K.out.kQ F O;clear q G N F bt bu O L bl
     go_roundw
     case rel=>exact⟨a+1,_,by omega,by go_num,ao.out⟩
     case measure=>simp[S2];omega
  ·obtain rfl:a=cs.length:=by omega
   obtain⟨eh,ef,rfl⟩:=dz g.own;rw[dm] at g;generalize d8:Te eh cs.length ef=f at g;obtain⟨-,-,Q,R,-⟩:=g.cells;have q:=g.own;rw[dm] at q;have ba:=Sq wr (w.heap.size+1) 0 _ _ (.int .i64 (b.length:Int)) g.res;have bb:=Sq _ (w.heap.size+1) 1 _ _ f ba;have dp:Sb (((wr.setCell ⟨w.heap.size+1,0,RZ⟩ (.int .i64 (b.length:Int))).setCell ⟨w.heap.size+1,1,RZ⟩ f).ownsRow w.heap.size 143 8 f cs.length (dw (cB b cs es d cs.length))):=by
    have b0:=q.kept (aG wr (w.heap.size+1) 0 (.int .i64 (b.length:Int))) (.inr (bk q g.res (by decide)).symm);exact b0.kept (aG _ (w.heap.size+1) 1 f) (.inr (bk b0 ba (by decide)).symm)
   have c7:Sb (Si w.heap.size w ((wr.setCell ⟨w.heap.size+1,0,RZ⟩ (.int .i64 (b.length:Int))).setCell ⟨w.heap.size+1,1,RZ⟩ f)):=ey (ey g.fq g.fq.size (by omega) _ _) (by simpa using g.fq.size) (by omega) _ _;have e6:wr.cell? ⟨w.heap.size+1,0,RZ⟩=RX (.int .i64 0):=by have:=g.res;simp[Sr,this]
   have e7:wr.cell? ⟨w.heap.size+1,1,RZ⟩=RX (.slice RZ 0 0):=by have:=g.res;simp[Sr,this]
   have eQ:wr.frozen? ⟨w.heap.size+1,0,RZ⟩=R6:=by have:=g.res;simp[S4,this]
   have ca:wr.frozen? ⟨w.heap.size+1,1,RZ⟩=R6:=by have:=g.res;simp[S4,this]
   have eo:((wr.setCell ⟨w.heap.size+1,0,RZ⟩ (.int .i64 (b.length:Int))).setCell ⟨w.heap.size+1,1,RZ⟩ f).cell? ⟨w.heap.size+1,0,RZ⟩=RX (.int .i64 (b.length:Int)):=by simp[Sr,bb]
   have eq:((wr.setCell ⟨w.heap.size+1,0,RZ⟩ (.int .i64 (b.length:Int))).setCell ⟨w.heap.size+1,1,RZ⟩ f).cell? ⟨w.heap.size+1,1,RZ⟩=RX f:=by simp[Sr,bb]
   clear q ba bb g V;subst d8;go_wp2;simp[TT,SX,Tryz.results60,go_sem,eo,eq];exact⟨dp.out,c7.out⟩
end Ec
namespace Un
open Go.RowKit
section
variable {P:Sd}{ops:Array Tx}{Q:Exit→T6→R3→Prop}{md:Region.Mode}{S:R3→Prop}{u:Nat}
def Any (P:Sd)(md:Region.Mode)(ops:Array Tx)(Q:Exit→T6→R3→Prop)(S:R3→Prop)(u:Nat):Nat→Array Bool→T6→R3→Prop
 |0,listed,a,b=>SY md ops listed=[]∧Q .normal a b
 |n+1,listed,a,b=>(SY md ops listed=[]→Q .normal a b)∧
  ∀ c∈SY md ops listed,wpOp P ops Q c (fun e d=>((listed.setIfInBounds c R7).getD u R7=R6→S d)∧Any P md ops Q S u n (listed.setIfInBounds c R7) e d) a b
theorem J3:∀ (n:Nat) (listed:Array Bool) (a:T6) (w:R3),Any P md ops Q S u n listed a w→wpAny P md ops Q n listed a w
 |0,_,_,_,b=>b
 |n+1,_,_,_,b=>⟨b.1,fun e d=>wpOp_mono (fun c f g=>J3 n _ c f g.2) (b.2 e d)⟩
def waits(md:Region.Mode)(ops:Array Tx)(u i:Nat):Bool:=
 match ops[u]? with
 |some b=>b.after.any fun a=>Tn md a && a.on == i
 |none=>R6
def tH{i:Nat}{listed:Array Bool}(d:waits md ops u i=R7)(e:listed.getD i R7=R6):u∉SY md ops listed:=by
 intro k;obtain⟨-,l,j,g⟩:=mem_ready.1 k;unfold waits at d;rw[j] at d;obtain⟨f,h,c⟩:=Array.any_eq_true'.1 d;simp only[Sz,beq_iff_eq] at c;have a:=g f h c.1;rw[c.2] at a;rcases TF i listed.size with b|b
 ·simp[b] at e a;rw[e] at a;cases a
 ·simp[Tg b] at a
theorem first{i:Nat}{h:Tx}{v:R2}(A:ops[i]? =RX h)(H:∀ (j:Nat) (o:Tx) cs b,ops[j]? =RX o→o.op≠.select cs b)(ad:waits md ops u i=R7)(X:u≠i)
 (M:∀ c a w,Q (.panic c) (a.put h.dst v) w→Q (.panic c) a w):
 ∀ (n:Nat) (listed:Array Bool) (a:T6) (w:R3),
  (∀ j k,ops[j]? =RX k→j≠i→listed.getD j R7=R6→(∀ e∈k.after,Tn md e=R7→e.on≠i)→h.apart ops k=R7)→
  i∈SY md ops listed→listed.getD u R7=R6→YieldsIf P ops S h v a→S w→
  Any P md ops Q S u n (listed.setIfInBounds i R7) (a.put h.dst v) w→Any P md ops Q S u (n+1) listed a w:=by
 intro n
 induction n with
 |zero=>
  intro listed a w _ g C t p m;refine⟨fun x=>(by rw[x] at g;cases g),fun j q=>?_⟩;by_cases d:j=i
  ·subst d;exact t.wpOp A p ⟨fun _=>p,m⟩
  ·have:=ready_mono q d;rw[m.1] at this;cases this
 |succ n ae=>
  intro listed a w D g C t p m;refine⟨fun x=>(by rw[x] at g;cases g),fun j q=>?_⟩;by_cases d:j=i
  ·subst d;exact t.wpOp A p ⟨fun _=>p,m⟩
  ·have z:=(mem_ready.1 g).1;have F:j≠u:=fun e=>tH ad z (e▸q);have f:=m.2 j (ready_mono q d);obtain⟨G,k,B,N⟩:=mem_ready.1 q;have Z:∀ e∈k.after,Tn md e=R7→e.on≠i:=fun e R O T=>by
    have f:=N e R O;rw[T] at f;rcases TF i listed.size with y|y
    ·simp[y] at z f;rw[z] at f;cases f
    ·simp[Tg y] at f
   have L:=wpOp_putIf B (D j k B d G Z) (fun cs b=>H i h cs b A) (fun cs b=>H j k cs b B) M t f;have U:∀ l r,ops[l]? =RX r→l≠i→(listed.setIfInBounds j R7).getD l R7=R6→
    (∀ e∈r.after,Tn md e=R7→e.on≠i)→h.apart ops r=R7:=fun l r V W J Y=>by
    refine D l r V W ?_ Y;by_cases E:j=l
    ·subst E;exact G
    ·rw[Vd R7 E] at J;exact J
   have ab:(listed.setIfInBounds j R7).getD u R7=R6:=by rw[Vd R7 F];exact C
   have I:((listed.setIfInBounds i R7).setIfInBounds j R7).getD u R7=R6:=by rw[Vd R7 F,Vd R7 X.symm];exact C
   refine wpOp_mono (fun K al s=>⟨fun _=>s.2.1 I,ae (listed.setIfInBounds j R7) K al U (ready_mono g (Ne.symm d)) ab s.1 (s.2.1 I) ?_⟩) L;rw[Array.setIfInBounds_comm _ _ d];exact s.2.2
theorem Rg{i:Nat}{k:Tx}{v:R2}(y:ops[i]? =RX k)(G:∀ (j:Nat) (o:Tx) cs b,ops[j]? =RX o→o.op≠.select cs b)(z:u≠i)
 (L:∀ c a w,Q (.panic c) (a.put k.dst v) w→Q (.panic c) a w):
 ∀ (n:Nat) (listed:Array Bool) (a:T6) (w:R3),
  (∀ j l,ops[j]? =RX l→j≠i→listed.getD j R7=R6→(∀ e∈l.after,Tn md e=R7→e.on≠i)→k.apart ops l=R7)→
  i∈SY md ops listed→(listed.getD u R7=R6→S w)→YieldsIf P ops (fun _=>True) k v a→
  Any P md ops Q S u n (listed.setIfInBounds i R7) (a.put k.dst v) w→Any P md ops Q S u (n+1) listed a w:=by
 intro n
 induction n with
 |zero=>
  intro listed a w _ h B t p;refine⟨fun d=>(by rw[d] at h;cases h),fun j s=>?_⟩;by_cases f:j=i
  ·subst f;exact t.wpOp y trivial ⟨fun d=>B (by rw[Vd R7 z.symm] at d;exact d),p⟩
  ·have:=ready_mono s f;rw[p.1] at this;cases this
 |succ n Y=>
  intro listed a w D h B t p;refine⟨fun d=>(by rw[d] at h;cases h),fun j s=>?_⟩;by_cases f:j=i
  ·subst f;exact t.wpOp y trivial ⟨fun d=>B (by rw[Vd R7 z.symm] at d;exact d),p⟩
  ·have C:=(mem_ready.1 h).1;have g:=p.2 j (ready_mono s f);obtain⟨F,l,A,M⟩:=mem_ready.1 s;have X:∀ e∈l.after,Tn md e=R7→e.on≠i:=fun e O N R=>by
    have g:=M e O N;rw[R] at g;rcases TF i listed.size with x|x
    ·simp[x] at C g;rw[C] at g;cases g
    ·simp[Tg x] at g
   have K:=wpOp_putIf A (D j l A f F X) (fun cs b=>G i k cs b y) (fun cs b=>G j l cs b A) L t g;have T:∀ m q,ops[m]? =RX q→m≠i→(listed.setIfInBounds j R7).getD m R7=R6→
    (∀ e∈q.after,Tn md e=R7→e.on≠i)→k.apart ops q=R7:=fun m q U V I W=>by
    refine D m q U V ?_ W;by_cases E:j=m
    ·subst E;exact F
    ·rw[Vd R7 E] at I;exact I
   have H:((listed.setIfInBounds i R7).setIfInBounds j R7).getD u R7=(listed.setIfInBounds j R7).getD u R7:=by
    rw[Array.setIfInBounds_comm _ _ (Ne.symm f),Vd R7 z.symm]
   refine wpOp_mono (fun J Z r=>⟨fun d=>r.2.1 (H.trans d),Y (listed.setIfInBounds j R7) J Z T (ready_mono h (Ne.symm f)) (fun d=>r.2.1 (H.trans d)) r.1 ?_⟩) K;rw[Array.setIfInBounds_comm _ _ f];exact r.2.2
def take{i:Nat}{b:Tx}{v:R2}{n:Nat}{listed:Array Bool}{a:T6}{w:R3}(d:ops[i]? =RX b)
 (l:Region.noSelect ops=R7) (g:Region.free md ops listed i=R7) (k:(SY md ops listed).contains i=R7) (o:waits md ops u i=R7) (j:(u == i)=R6) (m:listed.getD u R7=R6)
 (e:∀ c a w,Q (.panic c) (a.put b.dst v) w→Q (.panic c) a w) (p:YieldsIf P ops S b v a) (f:S w)
 (h:Any P md ops Q S u n (listed.setIfInBounds i R7) (a.put b.dst v) w):Any P md ops Q S u (n+1) listed a w:=
 first d (Region.noSelect_spec l) o (by simpa using j) e n listed a w (Region.free_spec d g) (by simpa using k) m p f h
def pick{i:Nat}{b:Tx}{v:R2}{n:Nat}{listed:Array Bool}{a:T6}{w:R3}(d:ops[i]? =RX b)
 (l:Region.noSelect ops=R7) (g:Region.free md ops listed i=R7) (k:(SY md ops listed).contains i=R7) (j:(u == i)=R6)
 (e:∀ c a w,Q (.panic c) (a.put b.dst v) w→Q (.panic c) a w) (m:YieldsIf P ops (fun _=>True) b v a) (f:S w)
 (h:Any P md ops Q S u n (listed.setIfInBounds i R7) (a.put b.dst v) w):Any P md ops Q S u (n+1) listed a w:=
 Rg d (Region.noSelect_spec l) (by simpa using j) e n listed a w (Region.free_spec d g) (by simpa using k) (fun _=>f) m h
theorem one{i:Nat}{o:Tx}{n:Nat}{listed:Array Bool}{a:T6}{w:R3}(e:SY md ops listed=[i])(k:ops[i]? =RX o)
 (h:∀ b:T6→R3→Prop,Sb (∀ a' w',((listed.setIfInBounds i R7).getD u R7=R6→S w')→Any P md ops Q S u n (listed.setIfInBounds i R7) a' w'→b a' w')→if SI o (Tc ops a.tmps)=R7 then Oper.wp P o a w b Q else b (a.put o.dst Tq) w):
 Any P md ops Q S u (n+1) listed a w:=by
 refine⟨fun d=>(by rw[e] at d;cases d),fun l c=>?_⟩;rw[e] at c;simp at c;subst c;exact wpOp_step k fun b j=>h b (fun a' w' f g=>j a' w' ⟨f,g⟩)
theorem done{listed:Array Bool}{a:T6}{w:R3}(b:SY md ops listed=[])(h:Q .normal a w):∀ n,Any P md ops Q S u n listed a w
 |0=>⟨b,h⟩
 |_+1=>⟨fun _=>h,by rw[b];simp⟩
def OV{id:Nat}{a:T6}{w:R3}(S:R3→Prop)(u:Nat)(b:P.follows .mixedOrders=R7)
 (h:Any P .any ops Q S u ops.size (S8 ops.size R6) a w.drew):(Code.region id ops R7).wp P Q a w:=
 wp_region_any b (J3 _ _ _ _ h)
def F3 (md:Region.Mode)(ops:Array Tx)(L:List Nat)(i:Nat):Bool:=L.all fun a=>waits md ops a i || L.any fun b=>waits md ops a b
theorem O5{L:List Nat}{i:Nat}{l:Tx}{v:R2}(E:ops[i]? =RX l)(N:∀ (j:Nat) (o:Tx) cs b,ops[j]? =RX o→o.op≠.select cs b)(a2:F3 md ops L i=R7)(F:u∈L)(ar:i∉L)
 (X:∀ c a w,Q (.panic c) (a.put l.dst v) w→Q (.panic c) a w):
 ∀ (n:Nat) (listed:Array Bool) (a:T6) (w:R3),
  (∀ j m,ops[j]? =RX m→j≠i→listed.getD j R7=R6→(∀ e∈m.after,Tn md e=R7→e.on≠i)→l.apart ops m=R7)→
  i∈SY md ops listed→(∀ g∈L,listed.getD g R7=R6)→YieldsIf P ops S l v a→S w→
  Any P md ops Q S u n (listed.setIfInBounds i R7) (a.put l.dst v) w→Any P md ops Q S u (n+1) listed a w:=by
 intro n
 induction n with
 |zero=>
  intro listed a w _ k y z r q;refine⟨fun A=>(by rw[A] at k;cases k),fun j p=>?_⟩;by_cases d:j=i
  ·subst d;exact z.wpOp E r ⟨fun _=>r,q⟩
  ·have:=ready_mono p d;rw[q.1] at this;cases this
 |succ n a3=>
  intro listed a w I k y z r q;refine⟨fun A=>(by rw[A] at k;cases k),fun j p=>?_⟩;by_cases d:j=i
  ·subst d;exact z.wpOp E r ⟨fun _=>r,q⟩
  ·have C:=(mem_ready.1 k).1;have al:j∉L:=fun am=>by
    have V:=SC.1 a2 j am;rcases Bool.or_eq_true_iff.1 V with D|D
    ·exact tH D C p
    ·obtain⟨f,G,W⟩:=List.any_eq_true.1 D;exact tH W (y f G) p
   have K:∀ g∈L,j≠g:=fun g x e=>al (e▸x);have h:=q.2 j (ready_mono p d);obtain⟨M,m,H,Y⟩:=mem_ready.1 p;have a0:∀ e∈m.after,Tn md e=R7→e.on≠i:=fun e ab Z ad=>by
    have h:=Y e ab Z;rw[ad] at h;rcases TF i listed.size with B|B
    ·simp[B] at C h;rw[C] at h;cases h
    ·simp[Tg B] at h
   have U:=wpOp_putIf H (I j m H d M a0) (fun cs b=>N i l cs b E) (fun cs b=>N j m cs b H) X z h;have ae:∀ f s,ops[f]? =RX s→f≠i→(listed.setIfInBounds j R7).getD f R7=R6→
    (∀ e∈s.after,Tn md e=R7→e.on≠i)→l.apart ops s=R7:=fun f s G ao R aw=>by
    refine I f s G ao ?_ aw;by_cases J:j=f
    ·subst J;exact M
    ·rw[Vd R7 J] at R;exact R
   have a1:∀ g∈L,(listed.setIfInBounds j R7).getD g R7=R6:=fun g x=>by rw[Vd R7 (K g x)];exact y g x
   have O:((listed.setIfInBounds i R7).setIfInBounds j R7).getD u R7=R6:=by rw[Vd R7 (K u F),Vd R7 (show i≠u from fun e=>ar (e▸F))];exact y u F
   refine wpOp_mono (fun T a4 t=>⟨fun _=>t.2.1 O,a3 (listed.setIfInBounds j R7) T a4 ae (ready_mono k (Ne.symm d)) a1 t.1 (t.2.1 O) ?_⟩) U;rw[Array.setIfInBounds_comm _ _ d];exact t.2.2
def yL(L:List Nat){i:Nat}{b:Tx}{v:R2}{n:Nat}{listed:Array Bool}{a:T6}{w:R3}(d:ops[i]? =RX b)
 (p:Region.noSelect ops=R7) (j:Region.free md ops listed i=R7) (o:(SY md ops listed).contains i=R7) (r:F3 md ops L i=R7) (l:L.contains u=R7) (m:L.contains i=R6) (q:(L.all fun g=>listed.getD g R7 == R6)=R7)
 (e:∀ c a w,Q (.panic c) (a.put b.dst v) w→Q (.panic c) a w) (s:YieldsIf P ops S b v a) (f:S w)
 (h:Any P md ops Q S u n (listed.setIfInBounds i R7) (a.put b.dst v) w):Any P md ops Q S u (n+1) listed a w:=
 O5 d (Region.noSelect_spec p) r (by simpa using l) (by simpa using m) e n listed a w (Region.free_spec d j) (by simpa using o) (fun g k=>by simpa using SC.1 q g k) s f h
def j4 (md:Region.Mode)(ops:Array Tx)(u:Nat)(listed:Array Bool)(i:Nat)(t:Array R2)(b:Bool):Bool:=
 Region.noSelect ops && Region.free md ops listed i && (SY md ops listed).contains i && !(u == i) && match ops[i]? with
  |some a=>SI a (Tc ops t) == b
  |none=>R6
def AT{i:Nat}{a:Tx}{listed:Array Bool}{t:Array R2}{b:Bool}(c:ops[i]? =RX a)(h:j4 md ops u listed i t b=R7):Region.noSelect ops=R7∧Region.free md ops listed i=R7∧(SY md ops listed).contains i=R7∧(u == i)=R6∧SI a (Tc ops t)=b:=by
 unfold j4 at h;rw[c] at h;simp only[Sz,Ve,beq_iff_eq] at h;exact⟨h.1.1.1.1,h.1.1.1.2,h.1.1.2,h.1.2,h.2⟩
def Bi(e:Sb (∀ c a (d:Nat) v w,Q (.panic c) (a.put (RX d) v) w→Q (.panic c) a w)){d:Option Nat}{v:R2}:∀ c a w,Q (.panic c) (a.put d v) w→Q (.panic c) a w:=fun c a w b=>by
 cases d with
 |none=>exact b
 |some d=>exact e.out c a d v w b
def pk(i:Nat){b:Tx}{v:R2}{n:Nat}{listed:Array Bool}{a:T6}{w:R3}(h:Any P md ops Q S u n (listed.setIfInBounds i R7) (a.put b.dst v) w)(e:ops[i]? =RX b:=by rfl)(hc:j4 md ops u listed i a.tmps R7=R7:=by kernel_rfl)(f:Sb (∀ c a (d:Nat) v w,Q (.panic c) (a.put (RX d) v) w→Q (.panic c) a w):=by assumption)(g:S w:=by assumption)
 (j:∀ w,(SE a.eval b).run P w= .ok (.value v) w:=by intro w;go_simp;try with_reducible rfl):Any P md ops Q S u (n+1) listed a w:=
 have c:=AT e hc
 pick e c.1 c.2.1 c.2.2.1 c.2.2.2.1 (Bi f) (.inl ⟨c.2.2.2.2,fun w _=>j w⟩) g h
def sk(i:Nat){e:Tx}{n:Nat}{listed:Array Bool}{a:T6}{w:R3}(h:Any P md ops Q S u n (listed.setIfInBounds i R7) (a.put e.dst Tq) w)(b:ops[i]? =RX e:=by rfl)(hc:j4 md ops u listed i a.tmps R6=R7:=by kernel_rfl)(f:Sb (∀ c a (d:Nat) v w,Q (.panic c) (a.put (RX d) v) w→Q (.panic c) a w):=by assumption)(g:S w:=by assumption):Any P md ops Q S u (n+1) listed a w:=
 have c:=AT b hc
 pick b c.1 c.2.1 c.2.2.1 c.2.2.2.1 (Bi f) (.inr ⟨c.2.2.2.2,rfl⟩) g h
theorem ld(L:List Nat)(i:Nat){e:Tx}{v:R2}{n:Nat}{listed:Array Bool}{a:T6}{w:R3}(h:Any P md ops Q S u n (listed.setIfInBounds i R7) (a.put e.dst v) w)(f:ops[i]? =RX e:=by rfl)(hc:(j4 md ops u listed i a.tmps R7 && F3 md ops L i && L.contains u && !L.contains i && L.all fun g=>listed.getD g R7 == R6)=R7:=by kernel_rfl)(j:Sb (∀ c a (d:Nat) v w,Q (.panic c) (a.put (RX d) v) w→Q (.panic c) a w):=by assumption)(k:S w:=by assumption)
 (l:∀ w,S w→(SE a.eval e).run P w= .ok (.value v) w:=by intro w b;(try dsimp only at b);(repeat obtain⟨_,b⟩:=b);go_simp;try with_reducible rfl):Any P md ops Q S u (n+1) listed a w:=by
 simp only[Sz,Ve] at hc;have c:=AT f hc.1.1.1.1;exact yL L f c.1 c.2.1 c.2.2.1 hc.1.1.1.2 hc.1.1.2 hc.1.2 hc.2 (Bi j) (.inl ⟨c.2.2.2.2,l⟩) k h
def on(i:Nat){o:Tx}{n:Nat}{listed:Array Bool}{a:T6}{w:R3}
 (h:∀ b:T6→R3→Prop,Sb (∀ a' w',((listed.setIfInBounds i R7).getD u R7=R6→S w')→Any P md ops Q S u n (listed.setIfInBounds i R7) a' w'→b a' w')→Oper.wp P o a w b Q) (e:SY md ops listed=[i]:=by kernel_rfl) (d:ops[i]? =RX o:=by rfl) (f:SI o (Tc ops a.tmps)=R7:=by kernel_rfl):Any P md ops Q S u (n+1) listed a w:=
 one e d fun b c=>by rw[if_pos f];exact h b c
def open_{id:Nat}{a:T6}{w:R3}(S:R3→Prop)(u:Nat)(e:∀ c a (d:Nat) v w,Q (.panic c) (a.put (RX d) v) w→Q (.panic c) a w)
 (h:Sb (∀ c a (d:Nat) v w,Q (.panic c) (a.put (RX d) v) w→Q (.panic c) a w)→Any P .any ops Q S u ops.size (S8 ops.size R6) a w.drew) (b:P.follows .mixedOrders=R7:=by kernel_rfl):(Code.region id ops R7).wp P Q a w:=OV S u b (h e)
end
end Un
namespace Ec
open Go.RowKit Pk Pm
def G9(w:R3)(o p q r:U9):((((w.alloc o).alloc p).alloc q).alloc r).heap[w.heap.size+3]? =RX r:=by
 have:=bw (((w.alloc o).alloc p).alloc q) r;rwa [show(((w.alloc o).alloc p).alloc q).heap.size=w.heap.size+3 by simp] at this
def iu.below{w w':R3}{base:Nat}{v:R2}{L:List (Bd×R2)}(h:iu w base v L)(a:Si w.heap.size w w'):iu w' base v L:=
 ⟨aM h.own a,fun c b=>aM (h.each c b) a⟩
def iu.put{w:R3}{base:Nat}{v:R2}{L:List (Bd×R2)}(h:iu w base v L){g:Nat}{cs:Array R2}{t:Sg}(a:w.heap[g]? =RX (.cells cs t (0,0)))(h1:t≠139)(d:t≠143)(o:Nat)(u:R2):iu (w.setCell ⟨g,o,RZ⟩ u) base v L:=
 ⟨h.own.kept (aG w g o u) (.inr (bk h.own a h1).symm),fun c b=>(h.each c b).kept (aG w g o u) (.inr (bk (h.each c b) a d).symm)⟩
theorem iu.snoc{w d:R3}{base:Nat}{v v1:R2}{L:List (Bd×R2)}(h:iu w base v L)(k:aP w d v v1){b:Bd}{c:R2}(l:w.ownsRow base 143 8 c b.chunks.length (dw b.chunks))
 (m:d.ownsRow base 139 2 v1 (L ++ [(b,c)]).length (mQ (L ++ [(b,c)]))):iu d base v1 (L ++ [(b,c)]):=by
 refine⟨m,fun n a=>?_⟩;have f:∀ {i:R2} {g:Nat} {j:List R2},w.ownsRow base 143 8 i g j→d.ownsRow base 143 8 i g j:=fun e=>
  eG e k (oJ e h.own (by decide))
 rcases S7.1 a with a|a
 ·exact f (h.each n a)
 ·simp at a;subst a;exact f l
theorem B2.sub{w:R3}{ro:Option SL}{rb bh aF:Nat}{b:List (List az)}(c:AH w ro rb bh b)(hc:b.length≤aF)(a m:Nat)(i:a<b.length):
 B2 w (.slice (RX ⟨rb,bh+a,RZ⟩) ((b.drop a).take m).length (aF - a)) ((b.drop a).take m):=by
 refine⟨_,rb,bh+a,aF - a,rfl,by simp;omega,fun _=>rfl,fun _=>c.lt (by omega),fun d g=>?_⟩;have h:a+d<b.length:=by simp at g;omega
 obtain⟨v,e,f⟩:=c.c (a+d) h;refine⟨v,by rw[Td];exact e,?_⟩;rw[TH,List.getElem_drop];exact f
structure mY(w W:R3)(cv rv ev:R2)(bd:Int)(bo:Bool)(bv:R2)(L:List (Bd×R2)):Prop where
 N1:W.heap[w.heap.size]? =RX (.cells #[cv,rv] 46 (0,0))
 opt:W.heap[w.heap.size+1]? =RX (.cells #[.int .i64 bd,ev,.bool bo] 48 (0,0))
 res:W.heap[w.heap.size+2]? =RX (.cells #[.slice RZ 0 0,.slice RZ 0 0,.slice RZ 0 0] 105 (0,0))
 box:W.heap[w.heap.size+3]? =RX (.cells #[cv,ev,bv] 105 (0,0))
 bP:iu W w.heap.size bv L
 fq:Si w.heap.size w W
def mY.below{w b c:R3}{g j i:R2}{d:Int}{e:Bool}{f:R2}{L:List (Bd×R2)}(h:mY w b g j i d e f L)(a:Si b.heap.size b c):mY w c g j i d e f L:=
 ⟨(a.block _ (Sf h.N1)).trans h.N1,(a.block _ (Sf h.opt)).trans h.opt,(a.block _ (Sf h.res)).trans h.res,(a.block _ (Sf h.box)).trans h.box,h.bP.below a,h.fq.trans (a.mono h.fq.size)⟩
theorem mY.cells{w a:R3}{c k d:R2}{f:Int}{g:Bool}{i:R2}{L:List (Bd×R2)}(h:mY w a c k d f g i L):
 (a.cell? ⟨w.heap.size,0,RZ⟩=RX c∧a.cell? ⟨w.heap.size,1,RZ⟩=RX k)∧(a.cell? ⟨w.heap.size+1,0,RZ⟩=RX (.int .i64 f)∧a.cell? ⟨w.heap.size+1,1,RZ⟩=RX d∧a.cell? ⟨w.heap.size+1,2,RZ⟩=RX (.bool g))∧
 (a.cell? ⟨w.heap.size+3,0,RZ⟩=RX c∧a.cell? ⟨w.heap.size+3,1,RZ⟩=RX d∧a.cell? ⟨w.heap.size+3,2,RZ⟩=RX i∧a.frozen? ⟨w.heap.size+3,2,RZ⟩=R6):=by
 have j:=h.N1;have e:=h.opt;have b:=h.box;exact⟨⟨by simp[Sr,j],by simp[Sr,j]⟩,⟨by simp[Sr,e],by simp[Sr,e],by simp[Sr,e]⟩,by simp[Sr,b],by simp[Sr,b],by simp[Sr,b],by simp[S4,b]⟩
def mY.kept{w c a:R3}{i l j:R2}{e:Int}{f:Bool}{b g:R2}{L:List (Bd×R2)}(h:mY w c i l j e f b L)(k:aP c a b g):
 a.cell? ⟨w.heap.size+3,2,RZ⟩=RX b∧a.frozen? ⟨w.heap.size+3,2,RZ⟩=R6:=by
 have d:=(k.ij.block _ (Sf h.box) (bk h.bP.own h.box (by decide))).trans h.box;exact⟨by simp[Sr,d],by simp[S4,d]⟩
theorem mY.kQ{w f d:R3}{k o l:R2}{g:Int}{i:Bool}{j c:R2}{L:List (Bd×R2)}(h:mY w f k o l g i j L)(a:aP f d j c){b:Bd}{e:R2}(u:f.ownsRow w.heap.size 143 8 e b.chunks.length (dw b.chunks))
 (v:d.ownsRow w.heap.size 139 2 c (L ++ [(b,e)]).length (mQ (L ++ [(b,e)]))):mY w (d.setCell ⟨w.heap.size+3,2,RZ⟩ c) k o l g i c (L ++ [(b,e)]):=by
 have q:=(a.ij.block _ (Sf h.N1) (bk h.bP.own h.N1 (by decide))).trans h.N1;have r:=(a.ij.block _ (Sf h.opt) (bk h.bP.own h.opt (by decide))).trans h.opt;have s:=(a.ij.block _ (Sf h.res) (bk h.bP.own h.res (by decide))).trans h.res;have m:=(a.ij.block _ (Sf h.box) (bk h.bP.own h.box (by decide))).trans h.box;have t:=Sq d (w.heap.size+3) 2 _ _ c m;have n:=h.fq.trans (a.below (fun p a=>(h.bP.own.lt p a).1) h.fq.size);refine⟨?_,?_,?_,t,(h.bP.snoc a u v).put m (by decide) (by decide) _ _,ey n n.size (by omega) _ _⟩
 ·rw[Sv _ _ _ _ (by simp)];exact q
 ·rw[Sv _ _ _ _ (by simp)];exact r
 ·rw[Sv _ _ _ _ (by simp)];exact s
theorem mY.Rr{w c a:R3}{g l i:R2}{d:Int}{e:Bool}{f m:R2}{L:List (Bd×R2)}(h:mY w c g l i d e f L)(k:aP c a f m):
 a.cell? ⟨w.heap.size,1,RZ⟩=RX l∧a.cell? ⟨w.heap.size,0,RZ⟩=RX g∧a.cell? ⟨w.heap.size+1,0,RZ⟩=RX (.int .i64 d)∧a.cell? ⟨w.heap.size+1,1,RZ⟩=RX i∧a.cell? ⟨w.heap.size+1,2,RZ⟩=RX (.bool e):=by
 have j:=(k.ij.block _ (Sf h.N1) (bk h.bP.own h.N1 (by decide))).trans h.N1;have b:=(k.ij.block _ (Sf h.opt) (bk h.bP.own h.opt (by decide))).trans h.opt;exact⟨by simp[Sr,j],by simp[Sr,j],by simp[Sr,b],by simp[Sr,b],by simp[Sr,b]⟩
def mY.LP{w a:R3}{e g f:R2}{b:Int}{c:Bool}{d:R2}{L:List (Bd×R2)}(h:mY w a e g f b c d L):
 a.cell? ⟨w.heap.size+3,2,RZ⟩=RX d∧a.cell? ⟨w.heap.size,1,RZ⟩=RX g∧a.cell? ⟨w.heap.size,0,RZ⟩=RX e∧a.cell? ⟨w.heap.size+1,0,RZ⟩=RX (.int .i64 b)∧a.cell? ⟨w.heap.size+1,1,RZ⟩=RX f∧a.cell? ⟨w.heap.size+1,2,RZ⟩=RX (.bool c):=by
 obtain⟨⟨m,n⟩,⟨j,k,l⟩,o,p,i,q⟩:=h.cells;exact⟨i,n,m,j,k,l⟩
def GR(w:R3)(b:Bd)(a:R2)(t:Sg):∀ (j:Nat) (u:R2),(kW (b,a))[j]? =RX u→(w.alloc (.cells (kW (b,a)).toArray t)).cell? ((⟨w.heap.size,0,RZ⟩:SL).add j)=RX u:=
 World.news_of_block (bw w _)
def aa.Gs:((aa.of RY).info? 139).map (fun i=>(i.zero,i.size,i.bytes))=RX (RX (.agg #[.int .i64 0,.slice RZ 0 0]),2,32):=by kernel_rfl
def gw{b:List (List az)}{a k:Nat}:(dI b a k).length=min a (b.length - k*a):=by simp[dI]
theorem EO{es:List Int}(bu:(∀ e∈es,e=0)∨qw∧mN)(c:List (List az))(cs:List bG)(a:Nat)(f:Bool)(cc A B:R2)(w:R3)(S:1≤a)(dq:a≤100)(dE:c.length≤2000)(b4:∀ r∈c,r.length=cs.length)(b0:∀ r∈c,∀ x∈r,Ek x)(T:cs.length≤8)(bv:es.length=cs.length)
 (cx:B2 w cc c) (bt:vB w A cs) (bx:qx w B es):
 SF (aa.of RY) 43 #[.agg #[A,cc],.agg #[.int .i64 (a:Int),B,.bool f]] w fun e w'=>∃ g L,e= .returned (.agg #[A,B,g])∧L.map SB=de c cs es f a (eY c.length a)∧iu w' w.heap.size g L∧Si w.heap.size w w':=by
 obtain⟨c4,co,c1,c2,c3⟩:=TB aa.Gs;have a5:Sb (vB w A cs):=bt;have a6:Sb (qx w B es):=bx;have Q:Sb (∀ d b,Si w.heap.size w d→b*a<c.length→∀ O,B2 d O (dI c a b)→SF (aa.of RY) 60 #[O,A,.agg #[.int .i64 (a:Int),B,.bool f]] d fun e w'=>∃ u,e= .returned (.agg #[.int .i64 ((dI c a b).length:Int),u])∧w'.ownsRow d.heap.size 143 8 u cs.length (dw (cB (dI c a b) cs es f cs.length))∧Si d.heap.size d w'):=fun d b br U O m=>
  El bu (dI c a b) cs a f O A B d (by rw[gw];omega) (fun r Y=>b4 r (List.mem_of_mem_drop (UO Y))) (fun r Y=>b0 r (List.mem_of_mem_drop (UO Y))) T bv m (a5.out.below br) (a6.out.lower br)
 clear bu;obtain⟨E,n,bh,aF,rfl,cv,D⟩:=cx;obtain⟨h,dc,aV,aD,rfl,dr,-⟩:=bt;obtain⟨j,dd,df,i,rfl,-,-,-⟩:=bx;have R:Sb (AH w E n bh c):=D;clear b4 b0 D a5 a6 bv;go_enter aa.func43,Tryz.ntmps43
 go_upto_region 2 with fail
 have bo:mY w ((((w.alloc (.cells #[.slice h cs.length aD,.slice E c.length aF] 46)).alloc (.cells #[.int .i64 (a:Int),.slice j es.length i,.bool f] 48)).alloc (.cells #[.slice RZ 0 0,.slice RZ 0 0,.slice RZ 0 0] 105)).alloc (.cells #[.slice h cs.length aD,.slice j es.length i,.slice RZ 0 0] 105)) (.slice h cs.length aD) (.slice E c.length aF) (.slice j es.length i) a f (.slice RZ 0 0) []:=by
  refine⟨alloc_old _ (by simp;omega) (alloc_old _ (by simp;omega) (alloc_old _ (by simp) (bw w _))),alloc_old _ (by simp) (alloc_old _ (by simp) (jA w _ _)),alloc_old _ (by simp) (zC w _ _ _),G9 w _ _ _ _,⟨Ur _ _ _ _,fun dT cu=>by simp at cu⟩,?_⟩;exact((gm _ _).alloc (by simp;omega) _).alloc (by simp;omega) _
 generalize (((w.alloc (.cells #[.slice h cs.length aD,.slice E c.length aF] 46)).alloc (.cells #[.int .i64 (a:Int),.slice j es.length i,.bool f] 48)).alloc (.cells #[.slice RZ 0 0,.slice RZ 0 0,.slice RZ 0 0] 105)).alloc (.cells #[.slice h cs.length aD,.slice j es.length i,.slice RZ 0 0] 105)=da at*
 go_wp2_with fail
 go_loopw [6] (fun Z wr=>∃ (b:Nat) (g:R2) (L:List (Bd×R2)),b≤eY c.length a∧Z= .int .i64 ((b*a:Nat):Int)∧L.map SB=de c cs es f a b∧mY w wr (.slice h cs.length aD) (.slice E c.length aF) (.slice j es.length i) a f g L) (fun Z _=>c.length+200 - (S2 Z).toNat)
 case atStart=>exact⟨0,_,[],SK _,by simp,rfl,bo⟩
 case round=>
  clear bo;obtain⟨b,g,L,U,rfl,bm,k⟩:=hrel;have bb:Sb (mY w wr (.slice h cs.length aD) (.slice E c.length aF) (.slice j es.length i) a f g L):=k;have I:Sb (L.map SB=de c cs es f a b):=bm;have a8:Sb (b≤eY c.length a):=U;clear bm U;by_cases N:b*a<c.length
  ·have cf:Sb (b<eY c.length a):=(oL (by omega) b).1 N;have cl:Sb ((b+1)*a=b*a+a):=Nat.succ_mul b a;have a4:Sb ((dI c a b).length=min a (c.length - b*a)):=gw;have D:=R.out.below k.fq;obtain rfl:=D.addr (by omega);have bd:Sb (B2 wr (.slice (RX ⟨n,bh+b*a,RZ⟩) (dI c a b).length (aF - b*a)) (dI c a b)):=B2.sub D cv (b*a) a N;have a3:Sb (SF (aa.of RY) 60 #[.slice (RX ⟨n,bh+b*a,RZ⟩) (dI c a b).length (aF - b*a),.slice h cs.length aD,.agg #[.int .i64 (a:Int),.slice j es.length i,.bool f]] wr.drew fun e w'=>∃ u,e= .returned (.agg #[.int .i64 ((dI c a b).length:Int),u])∧w'.ownsRow wr.heap.size 143 8 u cs.length (dw (cB (dI c a b) cs es f cs.length))∧Si wr.heap.size wr w'):=by
    refine(Q.out wr.drew b k.fq.drew N _ (bd.out.below (So _ _).drew)).mono ?_;rintro e w' ⟨u,C,m,K⟩;exact⟨u,C,m,(So _ _).drew.trans K⟩
   obtain⟨⟨al,am⟩,⟨ab,ad,ae⟩,be,bi,bj,bl⟩:=k.cells;have cR:=k.fq.size;clear k D Q R;generalize b2:(dI c a b).length=q at*;have ci:Sb ((dI c a b).length=q):=b2;clear b2;generalize bA:b*a=p at*;have ce:Sb (b*a=p):=bA;clear bA;have T:=a4.out;have dt:((p:Nat):Int)<(c.length:Int):=by omega
   obtain⟨y,ca⟩:∃ y:Nat,y=p+q:=⟨_,rfl⟩;have c0:min ((p:Int)+(a:Int)) (c.length:Int)=(y:Int):=by omega
   have C:((p:Nat):Int)≤(y:Int):=by omega
   have m:((y:Nat):Int)≤(aF:Int):=by omega
   have c9:Sb (y=p+q):=ca;have ds:y - p=q:=by omega
   have dv:¬ aF=p:=by omega
   clear ca T a4;have ba:Sb (L.length=b):=by
    show _=_;rw[← SV (f:=SB),I.out,mP]
   have du:b≤2000:=by have:=Nat.le_mul_of_pos_right b (show 0<a by omega);have:=ce.out;omega
   go_upto_region 6 with fail
   clear c0;refine Un.open_ (fun d=>d.cell? ⟨w.heap.size+3,2,RZ⟩=RX g∧d.cell? ⟨w.heap.size,1,RZ⟩=RX (.slice (RX ⟨n,bh,RZ⟩) c.length aF)∧d.cell? ⟨w.heap.size,0,RZ⟩=RX (.slice h cs.length aD)∧d.cell? ⟨w.heap.size+1,0,RZ⟩=RX (.int .i64 (a:Int))∧d.cell? ⟨w.heap.size+1,1,RZ⟩=RX (.slice j es.length i)∧d.cell? ⟨w.heap.size+1,2,RZ⟩=RX (.bool f)) 14 (fun _ _ _ _ _ G=>G) fun dC=>?_;have H:(fun d=>d.cell? ⟨w.heap.size+3,2,RZ⟩=RX g∧d.cell? ⟨w.heap.size,1,RZ⟩=RX (.slice (RX ⟨n,bh,RZ⟩) c.length aF)∧d.cell? ⟨w.heap.size,0,RZ⟩=RX (.slice h cs.length aD)∧d.cell? ⟨w.heap.size+1,0,RZ⟩=RX (.int .i64 (a:Int))∧d.cell? ⟨w.heap.size+1,1,RZ⟩=RX (.slice j es.length i)∧d.cell? ⟨w.heap.size+1,2,RZ⟩=RX (.bool f)) wr.drew:=by go_keep
   refine Un.pk 0 ?_
   try simp only[Sy,R1,R5,R4]
   refine Un.ld [14] 1 ?_
   try simp only[Sy,R1,R5,R4]
   refine Un.pk 2 ?_
   try simp only[Sy,R1,R5,R4]
   refine Un.ld [14] 3 ?_
   try simp only[Sy,R1,R5,R4]
   refine Un.pk 4 ?_
   try simp only[Sy,R1,R5,R4]
   refine Un.pk 5 ?_
   try simp only[Sy,R1,R5,R4]
   refine Un.pk 6 ?_
   try simp only[Sy,R1,R5,R4]
   refine Un.pk 7 ?_
   try simp only[Sy,R1,R5,R4]
   refine Un.ld [14] 8 ?_
   try simp only[Sy,R1,R5,R4]
   refine Un.ld [14] 9 ?_
   try simp only[Sy,R1,R5,R4]
   refine Un.on 10 fun v l=>?_;go_simp;go_at_call 60;refine a3.out.mono ?_;rintro e z ⟨u,rfl,V,S⟩;obtain⟨t,s,rfl⟩:=dz V;have o:Sb (mY w z (.slice h cs.length aD) (.slice (RX ⟨n,bh,RZ⟩) c.length aF) (.slice j es.length i) a f g L):=bb.out.below S;have a9:Sb (z.ownsRow w.heap.size 143 8 (.slice t cs.length s) cs.length (dw (cB (dI c a b) cs es f cs.length))):=bn V cR;refine l.out _ _ (fun _=>o.out.LP) ?_;clear l v H V S a3 bd al am ab ad ae be bi bj bl
   try simp only[Sy,R1,R5,R4]
   have H:(fun d=>d.cell? ⟨w.heap.size+3,2,RZ⟩=RX g∧d.cell? ⟨w.heap.size,1,RZ⟩=RX (.slice (RX ⟨n,bh,RZ⟩) c.length aF)∧d.cell? ⟨w.heap.size,0,RZ⟩=RX (.slice h cs.length aD)∧d.cell? ⟨w.heap.size+1,0,RZ⟩=RX (.int .i64 (a:Int))∧d.cell? ⟨w.heap.size+1,1,RZ⟩=RX (.slice j es.length i)∧d.cell? ⟨w.heap.size+1,2,RZ⟩=RX (.bool f)) z:=o.out.LP;refine Un.on 11 fun v l=>?_;go_simp;have bc:Sb (mY w (z.alloc (.cells (kW (⟨q,cB (dI c a b) cs es f cs.length⟩,.slice t cs.length s)).toArray 139)) (.slice h cs.length aD) (.slice (RX ⟨n,bh,RZ⟩) c.length aF) (.slice j es.length i) a f g L):=o.out.below ((So _ _).alloc (R8 _) _);refine l.out _ _ (fun _=>bc.out.LP) ?_;clear l v H
   try simp only[Sy,R1,R5,R4]
   refine Un.one (i:=12) (by kernel_rfl) rfl (fun v l=>?_);have W:=o.out.bP.own;rw[ba.out] at W;have dO:w.heap.size≤z.heap.size:=o.out.fq.size;refine step_append_lies _ (by rfl) _ _ 103 (by rfl) w.heap.size 139 c4 _ 2 32 aa.underlying103 co c1 c2 c3 rfl (by decide) g b _ (by rfl) (W.alloc _) ⟨z.heap.size,0,RZ⟩ 1 1 (kW (⟨q,cB (dI c a b) cs es f cs.length⟩,.slice t cs.length s)) (by rfl) rfl (GR z _ _ _) (by intro d3 cb;simp[kW] at cb;rcases cb with rfl|rfl<;>rfl) (by decide) (by unfold Sw;omega) (by omega) (by simp;omega) _ rfl ?_;intro J F P X bB bs cp;have M:=aP.j9 (n:=b+1) (cap:=F) bB bs;have b3:P.ownsRow w.heap.size 139 2 (.slice (RX ⟨J,0,RZ⟩) (b+1) F) (L ++ [((⟨q,cB (dI c a b) cs es f cs.length⟩:Bd),Te t cs.length s)]).length (mQ (L ++ [((⟨q,cB (dI c a b) cs es f cs.length⟩:Bd),Te t cs.length s)])):=by
    unfold mQ at X ⊢;rw[Tf,Ta,Sc,ba.out];exact X
   have a7:Sb (mY w (P.setCell ⟨w.heap.size+3,2,RZ⟩ (.slice (RX ⟨J,0,RZ⟩) (b+1) F)) (.slice h cs.length aD) (.slice (RX ⟨n,bh,RZ⟩) c.length aF) (.slice j es.length i) a f (.slice (RX ⟨J,0,RZ⟩) (b+1) F) (L ++ [((⟨q,cB (dI c a b) cs es f cs.length⟩:Bd),Te t cs.length s)])):=o.out.kQ M (by simpa [dm] using a9.out) b3;obtain⟨a2,c8⟩:=o.out.kept M;obtain⟨ao,ar,aw,a0,a1⟩:=o.out.Rr M;refine l.out _ _ (fun _=>⟨a2,ao,ar,aw,a0,a1⟩) ?_;clear l v W X bB bs cp b3 M
   try simp only[Sy,R1,R5,R4]
   have H:(fun d=>d.cell? ⟨w.heap.size+3,2,RZ⟩=RX g∧d.cell? ⟨w.heap.size,1,RZ⟩=RX (.slice (RX ⟨n,bh,RZ⟩) c.length aF)∧d.cell? ⟨w.heap.size,0,RZ⟩=RX (.slice h cs.length aD)∧d.cell? ⟨w.heap.size+1,0,RZ⟩=RX (.int .i64 (a:Int))∧d.cell? ⟨w.heap.size+1,1,RZ⟩=RX (.slice j es.length i)∧d.cell? ⟨w.heap.size+1,2,RZ⟩=RX (.bool f)) P:=⟨a2,ao,ar,aw,a0,a1⟩;refine Un.pk 13 ?_
   try simp only[Sy,R1,R5,R4]
   refine Un.on 14 fun v l=>?_;go_simp;refine l.out _ _ (fun G=>absurd G (by decide)) ?_;clear l v H ao ar aw a0 a1 a2 c8;refine Un.done (by kernel_rfl) ?_ _
   try simp only[Sy,R1,R5,R4]
   clear o bc a9;generalize P.setCell ⟨w.heap.size+3,2,RZ⟩ (.slice (RX ⟨J,0,RZ⟩) (b+1) F)=db at*;obtain⟨⟨al,am⟩,⟨ab,ad,ae⟩,-⟩:=a7.out.cells
   go_wp2_with fail
   go_roundw
   case rel=>exact⟨b+1,_,_,cf.out,by rw[cl.out];go_num,by rw[Tb,I.out,Cf,Ug];simp[mB,ci.out],a7.out⟩
   case measure=>simp[S2];omega
  ·have b1:b=eY c.length a:=by
    have:=fun G=>N ((oL (show 0<a by omega) b (len:=c.length)).2 G);have m:=a8.out;exact Nat.le_antisymm m (Nat.le_of_not_lt this)
   obtain⟨t,s,rfl⟩:=dz k.bP.own;generalize cn:Te t L.length s=g at k;obtain⟨⟨al,am⟩,⟨ab,ad,ae⟩,be,bi,bj,bl⟩:=k.cells;have C:=Sq wr (w.heap.size+2) 0 _ _ (.slice h cs.length aD) k.res;have m:=Sq _ (w.heap.size+2) 1 _ _ (.slice j es.length i) C;have K:=Sq _ (w.heap.size+2) 2 _ _ g m;have ck:Sb (iu (((wr.setCell ⟨w.heap.size+2,0,RZ⟩ (.slice h cs.length aD)).setCell ⟨w.heap.size+2,1,RZ⟩ (.slice j es.length i)).setCell ⟨w.heap.size+2,2,RZ⟩ g) w.heap.size g L):=
    ((k.bP.put k.res (by decide) (by decide) _ _).put C (by decide) (by decide) _ _).put m (by decide) (by decide) _ _
   have cd:Sb (Si w.heap.size w (((wr.setCell ⟨w.heap.size+2,0,RZ⟩ (.slice h cs.length aD)).setCell ⟨w.heap.size+2,1,RZ⟩ (.slice j es.length i)).setCell ⟨w.heap.size+2,2,RZ⟩ g)):=
    b5 (b5 (b5 k.fq (R8 _) (by omega) _ _) (R8 _) (by omega) _ _) (R8 _) (by omega) _ _
   obtain⟨c5,c6,c7⟩:=bE (show _=RX (Obj.cells #[.slice h cs.length aD,.slice j es.length i,g] 105 (0,0)) from K);obtain⟨d0,d1,d2⟩:=bE k.res;have dk:wr.frozen? ⟨w.heap.size+2,0,RZ⟩=R6:=by have:=k.res;simp[S4,this]
   have dl:wr.frozen? ⟨w.heap.size+2,1,RZ⟩=R6:=by have:=k.res;simp[S4,this]
   have dp:wr.frozen? ⟨w.heap.size+2,2,RZ⟩=R6:=by have:=k.res;simp[S4,this]
   have ch:Sb (L.map SB=de c cs es f a (eY c.length a)):=by rw[← b1];exact I.out
   clear C m K k bb Q R I a8 b1;subst cn;generalize b*a=p at*;go_wp2;simp[TT,SX,Tryz.results43,go_sem,c5,c6,c7];exact⟨L,ch.out,ck.out,cd.out⟩
def xg (j n:Nat):List Nat:=(SS j).map fun a=>n / 256 ^ a % 256
def Iw(j n:Nat):xg (j+1) n=xg j n ++ [n / 256 ^ j % 256]:=by
 unfold xg;rw[Vz,Tb,Ug]
def Iv(n:Nat):xg 4 n=gb n:=by
 unfold xg gb;simp[Vz]
def AX(n j:Nat):n / 256 ^ j / 256=n / 256 ^ (j+1):=by
 rw[Nat.div_div_eq_div_mul,UT]
theorem sQ(u:R2)(pre:List Nat)(n base:Nat)(w:R3)(z:n<4294967296)(J:pre.length≤100000000000)(H:base≤w.heap.size)
 (d:w.ownsRow base 5 1 u pre.length (aA pre)):
 SF (aa.of RY) 59 #[u,.int .i64 (n:Int)] w fun e w'=>∃ i,e= .returned i∧w'.ownsRow base 5 1 i (pre ++ gb n).length (aA (pre ++ gb n))∧aP w w' u i:=by
 obtain⟨E,y,B,C,D⟩:=TB aa.rT;rw[← Iv];go_enter aa.func59,Tryz.ntmps59
 go_wp2_with fail
 go_loopw [0,1,5] (fun o F h wr=>∃ (a m:Nat) (b:List Nat),a≤4∧h= .int .i64 (a:Int)∧F= .int .i64 (m:Int)∧m<4294967296∧m=n / 256 ^ a∧b=pre ++ xg a n∧wr.ownsRow base 5 1 o b.length (aA b)∧aP w wr u o∧w.heap.size≤wr.heap.size) (fun _ _ h _=>4 - (S2 h).toNat)
 case atStart=>exact⟨0,n,pre,by omega,rfl,rfl,z,by simp,by simp[xg],d,aP.refl _ _,R8 _⟩
 case round=>
  obtain⟨a,m,b,I,rfl,rfl,L,r,f,d,p,N⟩:=hrel;have k:Sb (m=n / 256 ^ a):=r;have l:Sb (b=pre ++ xg a n):=f;have M:b.length≤100000000004:=by rw[f];simp[xg];omega
  have j:Sb (aP w wr u u0):=p;clear r f p;by_cases K:a<4
  ·obtain⟨c,g⟩:∃ c,c=m % 256:=⟨_,rfl⟩;have O:V1.wrap (m:Int)=(c:Int):=by rw[g];simp[IntKind.wrap,V4,VM]
   have v:Sb (c=m % 256):=g;clear g
   go_wp2_with (at_builtin;refine aS _ rfl _ _ 133 rfl base 5 E (.int .u8 0) 1 1 aa.underlying133 y B C D rfl (by decide) _ b.length _ rfl (d.alloc _) ⟨wr.heap.size,0,RZ⟩ 1 1 [.int .u8 (c:Int)] rfl (by decide) rfl (je _ _ _) (kg _) (by unfold Sw;omega) (by omega) (by simp;omega) ?_;intro P G s x)
   have q:=j.out.trans (aP.append x);have A:w.heap.size≤G.heap.size:=q.ij.size;rw[fw] at s;refine⟨⟨a+1,m / 256,b ++ [c],by omega,by go_num,by go_num,by omega,?_,?_,by simpa using s,q,A⟩,by simp[S2];omega⟩
   ·rw[k.out];exact AX n a
   ·rw[l.out,v.out,k.out,Iw,SG]
  ·obtain rfl:a=4:=by omega
   have t:Sb (wr.ownsRow base 5 1 u0 (pre ++ xg 4 n).length (aA (pre ++ xg 4 n))):=by show World.ownsRow _ _ _ _ _ _ _;rw[← l.out];exact d
   clear d;go_wp2;go_ret;exact⟨_,rfl,t.out,j.out⟩
theorem sN(u:R2)(pre:List Nat)(b:kU)(k:Int)(base:Nat)(w:R3)(P:k=1∨k=2∨k=3)(T:oG b.least)(a3:oG b.most)(a6:pre.length≤3000000)(t:base≤w.heap.size)
 (z:w.ownsRow base 5 1 u pre.length (aA pre)):
 SF (aa.of RY) 85 #[u,Ev b,.int .i64 k] w fun e w'=>∃ f,e= .returned f∧w'.ownsRow base 5 1 f (pre ++ bJ k b).length (aA (pre ++ bJ k b))∧aP w w' u f:=by
 obtain⟨X,O,U,V,W⟩:=TB aa.rT;have S:u.ownBlock≠RX w.heap.size:=fun s=>by have:=(z.lt _ s).2;omega
 obtain⟨ad,a,c⟩:=b;unfold Ev;cases ad
 ·rw[show bJ k ⟨R6,a,c⟩=[0] from rfl];go_enter aa.func85,Tryz.ntmps85
  go_wp2_with (at_builtin;refine aS _ rfl _ _ 133 rfl base 5 X (.int .u8 0) 1 1 aa.underlying133 O U V W rfl (by decide) _ pre.length _ rfl ((z.alloc _).alloc _) ⟨w.heap.size+1,0,RZ⟩ 1 1 [.int .u8 ((0:Nat):Int)] rfl (by decide) rfl (by simpa using je (w.alloc _) _ _) (kg _) (by unfold Sw;omega) (by omega) (by simp;omega) ?_;intro K C R ar)
  go_ret;have F:aP w C u K:=aP.box (aP.append ar);rw[fw] at R;exact⟨_,rfl,by simpa using R,F⟩
 ·rw[show bJ k ⟨R7,a,c⟩=[1] ++ (aL k a ++ aL k c) from rfl,← SG,← SG];have a1:=jS k a T.sz;have Y:Sb (∀ d v,d.ownsRow base 5 1 v (pre ++ [1]).length (aA (pre ++ [1]))→base≤d.heap.size→SF (aa.of RY) 122 #[v,.agg #[.bool a.null,.int .i64 a.n,.string a.s],.int .i64 k] d fun e w'=>∃ f,e= .returned f∧w'.ownsRow base 5 1 f (pre ++ [1] ++ aL k a).length (aA (pre ++ [1] ++ aL k a))∧aP d w' v f):=fun d v H t=>
   jC v (pre ++ [1]) a k base d P T (by simp;omega) t H
  have Z:Sb (∀ d v,d.ownsRow base 5 1 v (pre ++ [1] ++ aL k a).length (aA (pre ++ [1] ++ aL k a))→base≤d.heap.size→SF (aa.of RY) 122 #[v,.agg #[.bool c.null,.int .i64 c.n,.string c.s],.int .i64 k] d fun e w'=>∃ f,e= .returned f∧w'.ownsRow base 5 1 f (pre ++ [1] ++ aL k a ++ aL k c).length (aA (pre ++ [1] ++ aL k a ++ aL k c))∧aP d w' v f):=fun d v H t=>
   jC v (pre ++ [1] ++ aL k a) c k base d P a3 (by simp;omega) t H
  have am:base≤(w.alloc (.cells (fj ⟨R7,a,c⟩) 141)).heap.size:=by simp;omega
  generalize al:pre ++ [1] ++ aL k a ++ aL k c=a5 at*;generalize ae:pre ++ [1] ++ aL k a=a4 at*;clear ae al a1;go_enter aa.func85,Tryz.ntmps85
  go_upto_region 1 with fail
  have I:=z.alloc (.cells (fj ⟨R7,a,c⟩) 141);have D:(w.alloc (.cells (fj ⟨R7,a,c⟩) 141)).heap[w.heap.size]? =RX (.cells (fj ⟨R7,a,c⟩) 141 (0,0)):=bw _ _;have G:aP w (w.alloc (.cells (fj ⟨R7,a,c⟩) 141)) u u:=(aP.refl w u).alloc _;unfold fj at I D G am;generalize w.alloc (.cells #[.bool R7,.bool a.null,.int .i64 a.n,.string a.s,.bool c.null,.int .i64 c.n,.string c.s] 141)=h at*;have L:Sb (aP w h u u):=G;have E:h.heap[w.heap.size]? =RX (.cells (fj ⟨R7,a,c⟩) 141 (0,0)):=D;generalize w.heap.size=g at*;obtain⟨⟨l,m,n,o,p,q,r⟩,-⟩:=dG E;have j:Sb (h.heap[g]? =RX (.cells (fj ⟨R7,a,c⟩) 141 (0,0))):=E;clear D E z G
  go_upto_region 4 with(at_builtin;refine aS _ rfl _ _ 133 rfl base 5 X (.int .u8 0) 1 1 aa.underlying133 O U V W rfl (by decide) _ pre.length _ rfl (I.alloc _) ⟨h.heap.size,0,RZ⟩ 1 1 [.int .u8 ((1:Nat):Int)] rfl (by decide) rfl (je _ _ _) (kg _) (by unfold Sw;omega) (by omega) (by simp;omega) ?_;intro A B J N)
  have i:aP h B u A:=aP.append N;rw[fw] at J;have Q:B.ownsRow base 5 1 A (pre ++ [1]).length (aA (pre ++ [1])):=by simpa using J
  have x:B.heap[g]? =RX (.cells (fj ⟨R7,a,c⟩) 141 (0,0)):=(i.ij.block g (Sf j.out) (fun e=>S e.symm)).trans j.out;have a7:=i.ij.size;have a2:A.ownBlock≠RX g:=fun e=>by
   rcases i.at_ g e with s|s
   ·exact S s
   ·have:=Sf j.out;omega
  have M:Sb (aP w B u A):=L.out.trans i;clear l m n o p q r J N i j L I;obtain⟨⟨l,m,n,o,p,q,r⟩,-⟩:=dG x
  go_upto_region 5 with(go_at_call 122;refine(Y.out _ _ Q (by omega)).mono ?_;rintro e C ⟨K,rfl,aw,y⟩)
  have ao:C.heap[g]? =RX (.cells (fj ⟨R7,a,c⟩) 141 (0,0)):=(y.ij.block g (Sf x) (fun e=>a2 e.symm)).trans x;have a8:=y.ij.size;have ab:Sb (aP w C u K):=M.out.trans y;clear l m n o p q r M y Q x;obtain⟨⟨l,m,n,o,p,q,r⟩,-⟩:=dG ao
  go_wp2_with (go_at_call 122;refine(Z.out _ _ aw (by omega)).mono ?_;rintro e ba ⟨a9,rfl,a0,F⟩)
  go_ret;exact⟨_,rfl,a0,ab.out.trans F⟩
def gJ(n:Nat):(ax n).length≤10:=by unfold ax;exact ej 10 n
def Et(k:Int)(b:kU)(h1:b.least.s.size≤32)(a:b.most.s.size≤32):(bJ k b).length≤85:=by
 have c:=jS k b.least h1;have d:=jS k b.most a;unfold bJ
 split
 ·simp only[Sc,T0,List.length_nil];omega
 ·simp
def rO{α:Type}(f:α→List Nat)(m:Nat)(l:List α)(h:∀ x∈l,(f x).length≤m):(l.flatMap f).length≤l.length*m:=by
 induction l with
 |nil=>simp
 |cons x g b=>
  rw[UF,Sc,T0,Nat.succ_mul];have d:=h x (by simp);have e:=b (fun c a=>h c (by simp[a]));omega
structure vT(n:Nat)(b:Bd):Prop where
 rows:b.rows<2147483648
 len:b.chunks.length=n
 size:∀ c∈b.chunks,c.text.size<2147483648
 least:∀ c∈b.chunks,oG c.dS.least
 most:∀ c∈b.chunks,oG c.dS.most
def M1{l:List jw}{i:Nat}(h:i<l.length):l.getD i ⟨⟨#[]⟩,bX⟩∈l:=by
 rw[Sj,Sk h];exact Sl h
def IK{n:Nat}{b:Bd}(h:vT n b)(cs:List bG){i:Nat}(c:i<b.chunks.length):(qH cs b.chunks i).length≤95:=by
 have a:=M1 c;have d:=gJ (b.chunks.getD i ⟨⟨#[]⟩,bX⟩).text.size;have e:=Et (cs.getD i ⟨⟨#[]⟩,0⟩).kind (b.chunks.getD i ⟨⟨#[]⟩,bX⟩).dS (h.least _ a).sz (h.most _ a).sz;unfold qH;rw[Sc];omega
def xD{n:Nat}{b:Bd}(h:vT n b)(cs:List bG)(k:Nat)(c:k≤b.chunks.length):(eg cs b.chunks k).length≤k*95:=by
 have:=rO (qH cs b.chunks) 95 (SS k) (fun d a=>IK h cs (by have:=TC.1 a;omega));simpa [eg] using this
def Hf{n:Nat}{b:Bd}(h:vT n b)(e:n≤8)(cs:List bG):(dV cs b).length≤770:=by
 have a:=xD h cs b.chunks.length (R8 _);have c:=gJ b.rows;have d:=h.len;unfold dV;rw[Sc];omega
def wi{n:Nat}{bs:List Bd}(h:∀ b∈bs,vT n b)(c:n≤8)(cs:List bG):(cr cs bs).length≤bs.length*770:=
 rO (dV cs) 770 bs (fun b a=>Hf (h b a) c cs)
def Kj{cs:List bG}{es:List Int}(h:∀ c∈cs,c.name.size≤16){i:Nat}(a:i<cs.length):(AU cs es i).length≤28:=by
 have b:=gJ (cs.getD i ⟨⟨#[]⟩,0⟩).name.size;have d:=h _ (by rw[Sj,Sk a];exact Sl a:cs.getD i ⟨⟨#[]⟩,0⟩∈cs);unfold AU;rw[Sc,Sc,ai];simp only[T0,List.length_nil];omega
def tv{cs:List bG}{es:List Int}(h:∀ c∈cs,c.name.size≤16)(k:Nat)(b:k≤cs.length):(gY cs es k).length≤k*28:=by
 have:=rO (AU cs es) 28 (SS k) (fun d a=>Kj h (by have:=TC.1 a;omega));simpa [gY] using this
structure fP(w W:R3)(cv ev bv u:R2)(pre:List Nat):Prop where
 box:W.heap[w.heap.size]? =RX (.cells #[cv,ev,bv] 105 (0,0))
 own:W.ownsRow w.heap.size 5 1 u pre.length (aA pre)
 fq:Si w.heap.size w W
def fP.alloc{w a:R3}{c d b u:R2}{pre:List Nat}(h:fP w a c d b u pre)(o:U9):fP w (a.alloc o) c d b u pre:=
 ⟨alloc_old o (Sf h.box) h.box,h.own.alloc o,h.fq.alloc h.fq.size o⟩
def fP.drew{w a:R3}{c d b u:R2}{pre:List Nat}(h:fP w a c d b u pre):fP w a.drew c d b u pre:=
 ⟨h.box,aM h.own (So _ _).drew,h.fq.drew⟩
def fP.kQ{w e b:R3}{g i f u d:R2}{pre c:List Nat}(h:fP w e g i f u pre)(a:aP e b u d)(k:b.ownsRow w.heap.size 5 1 d c.length (aA c)):fP w b g i f d c:=
 ⟨(a.ij.block _ (Sf h.box) (bk h.own h.box (by decide))).trans h.box,k,h.fq.trans (a.below (fun j a=>(h.own.lt j a).1) h.fq.size)⟩
def fP.cells{w a:R3}{c d b u:R2}{pre:List Nat}(h:fP w a c d b u pre):a.cell? ⟨w.heap.size,0,RZ⟩=RX c∧a.cell? ⟨w.heap.size,1,RZ⟩=RX d∧a.cell? ⟨w.heap.size,2,RZ⟩=RX b:=bE h.box
def fP.yL{w a c:R3}{e f d u k:R2}{pre:List Nat}(h:fP w a e f d u pre)(i:aP a c u k){g:Nat}{cs:Array R2}{t:Sg}(b:a.heap[g]? =RX (.cells cs t (0,0)))(j:t≠5):c.heap[g]? =RX (.cells cs t (0,0)):=
 (i.ij.block _ (Sf b) (bk h.own b j)).trans b
def mi{w:R3}{g:Nat}{a b:R2}{t:Sg}(h:w.heap[g]? =RX (.cells #[a,b] t (0,0))):w.cell? ⟨g,0,RZ⟩=RX a∧w.cell? ⟨g,1,RZ⟩=RX b:=by
 refine⟨?_,?_⟩<;>simp[Sr,h]
def GS(w:R3)(a b:R2)(t:Sg):∀ (j:Nat) (u:R2),[a,b][j]? =RX u→(w.alloc (.cells #[a,b] t)).cell? ((⟨w.heap.size,0,RZ⟩:SL).add j)=RX u:=
 World.news_of_block (bw w _)
def ix(a b:List Nat):aA (a ++ b)=aA a ++ aA b:=by simp[aA]
theorem sP(cs:List bG)(es:List Int)(bs:List Bd)(c8 c9 c6:R2)(w:R3)(f0:cs.length≤8)(dq:es.length=cs.length)(ch:∀ c∈cs,c.name.size≤16)(dC:∀ c∈cs,c.kind=1∨c.kind=2∨c.kind=3)(gF:bs.length≤2000)(dc:∀ b∈bs,vT cs.length b)
 (f1:vB w c8 cs) (f3:qx w c9 es) (fx:∃ base L,L.map SB=bs∧iu w base c6 L):
 SF (aa.of RY) 58 #[.slice RZ 0 0,.agg #[c8,c9,c6]] w fun e w'=>∃ a0,e= .returned a0∧w'.ownsRow w.heap.size 5 1 a0 (iZ cs es bs).length (aA (iZ cs es bs))∧Si w.heap.size w w':=by
 obtain⟨ee,du,d8,d9,eb⟩:=TB aa.rT;obtain⟨base,L,b1,b0⟩:=fx;have f4:=ON.cy pJ b0.own;obtain⟨p,C,D,i,rfl,ad⟩:=f4;obtain⟨m,l,aV,aD,rfl,gN,E⟩:=f1;obtain⟨j,n,t,g,rfl,dk,dl,dp⟩:=f3;have bc:Sb (qR w m l aV cs):=E;have cR:Sb (0<es.length→j=RX ⟨n,t,RZ⟩):=dk;have c0:Sb (0<es.length→n<w.heap.size):=dl;have c1:Sb (∀ cl,cl<es.length→w.cell? ⟨n,t+cl,RZ⟩=RX (.int .i64 (es.getD cl 0))):=dp;have e1:Sb (es.length=cs.length):=dq;have bt:Sb (∀ c∈cs,c.name.size≤16):=ch;have e5:Sb (∀ c∈cs,c.kind=1∨c.kind=2∨c.kind=3):=dC;have cu:Sb (∀ b∈bs,vT cs.length b):=dc;have e7:Sb (L.map SB=bs):=b1;have a3:Sb (L.length=bs.length):=by show _=_;rw[← b1,SV]
 have e3:Sb (AF w kW 2 p C D L):=ad;have e0:Sb (∀ cn∈L,w.ownsRow base 143 8 cn.2 cn.1.chunks.length (dw cn.1.chunks)):=b0.each;have g3:L.length≤2000:=by have:=a3.out;omega
 clear E dk dl dp dq ch dC dc b1 ad b0;go_enter aa.func58,Tryz.ntmps58
 go_upto_region 1 with fail
 have a5:fP w (w.alloc (.cells #[.slice m cs.length aD,.slice j es.length g,.slice p L.length i] 105)) (.slice m cs.length aD) (.slice j es.length g) (.slice p L.length i) (.slice RZ 0 0) []:=
  ⟨bw _ _,Ur _ _ _ _,(So _ _).alloc (R8 _) _⟩
 generalize w.alloc (.cells #[.slice m cs.length aD,.slice j es.length g,.slice p L.length i] 105)=bx at*;obtain⟨H,I,J⟩:=a5.cells;have r:Sb (SF (aa.of RY) 84 #[.slice RZ 0 0,.int .i64 (cs.length:Int)] bx fun e w'=>∃ k,e= .returned k∧w'.ownsRow w.heap.size 5 1 k ([] ++ ax cs.length).length (aA ([] ++ ax cs.length))∧aP bx w' (.slice RZ 0 0) k):=cV _ [] cs.length w.heap.size bx (by omega) (by simp) a5.fq.size a5.own
 go_upto_region 2 with(go_at_call 84;refine r.out.mono ?_;rintro e gi ⟨gg,rfl,dT,dr⟩)
 have B:Sb (fP w gi (.slice m cs.length aD) (.slice j es.length g) (.slice p L.length i) gg (ax cs.length ++ gY cs es 0)):=by
  have ab:=a5.kQ dr dT;rw[List.nil_append] at ab;show fP _ _ _ _ _ _ _;rw[show gY cs es 0=[] from rfl,Uy];exact ab
 clear a5 H I J r dT dr;obtain⟨H,I,J⟩:=B.out.cells
 go_wp2_with fail
 clear H I J
 go_loopw [0,19] (fun aw d wr=>∃ a:Nat,a≤cs.length∧d= .int .i64 (a:Int)∧fP w wr (.slice m cs.length aD) (.slice j es.length g) (.slice p L.length i) aw (ax cs.length ++ gY cs es a)) (fun _ d _=>cs.length - (S2 d).toNat)
 case atStart=>exact⟨0,SK _,rfl,B.out⟩
 case round=>
  rename R3=>wr
  clear B;obtain⟨a,dv,rfl,h⟩:=hrel;have x:Sb (fP w wr (.slice m cs.length aD) (.slice j es.length g) (.slice p L.length i) u0 (ax cs.length ++ gY cs es a)):=h;have d5:w.heap.size≤wr.heap.size:=h.fq.size;by_cases G:a<cs.length
  ·have f6:a<es.length:=by rw[e1.out];exact G
   have E:=bc.out.below h.fq;obtain rfl:=E.addr (by omega);obtain rfl:=cR.out (by omega);have ar:=E.c0 a G;have bl:=E.c1 a G;have br:Sb (n<w.heap.size):=c0.out (by omega);have cx:Sb (w.cell? ⟨n,t+a,RZ⟩=RX (.int .i64 (es.getD a 0))):=c1.out a f6;have bd:Sb (ax cs.length ++ gY cs es (a+1)=ax cs.length ++ gY cs es a ++ ax cs[a].name.size ++ bytesOf cs[a].name ++ [byteOf cs[a].kind,byteOf (es.getD a 0)]):=by
    show _=_;rw[wF];unfold AU;rw[Sj (l:=cs),Sk G];simp
   have ch:=bt.out cs[a] (Sl G);have d3:(ax cs.length ++ gY cs es a).length≤300:=by
    have be:=gJ cs.length;have bB:=tv (es:=es) bt.out a dv;rw[Sc];omega
   have g2:(a:Int)<(es.length:Int):=by omega
   generalize fz:cs[a]=c at*;generalize f2:es.getD a 0=N at*;generalize a7:ax cs.length ++ gY cs es a=pre at*;clear E fz f2 a7 h
   go_upto_region 5 with fail
   have q:=x.out.alloc (.cells #[.string c.name,.int .i64 c.kind] 63);have F:(wr.alloc (.cells #[.string c.name,.int .i64 c.kind] 63)).heap[wr.heap.size]? =RX (.cells #[.string c.name,.int .i64 c.kind] 63 (0,0)):=bw _ _;generalize wr.alloc (.cells #[.string c.name,.int .i64 c.kind] 63)=M at*;have B:Sb (fP w M (.slice (RX ⟨l,aV,RZ⟩) cs.length aD) (.slice (RX ⟨n,t,RZ⟩) es.length g) (.slice p L.length i) u0 pre):=q;generalize wr.heap.size=bA at*;obtain⟨R,S⟩:=mi F;have r:Sb (SF (aa.of RY) 84 #[u0,.int .i64 (c.name.size:Int)] M fun e w'=>∃ k,e= .returned k∧w'.ownsRow w.heap.size 5 1 k (pre ++ ax c.name.size).length (aA (pre ++ ax c.name.size))∧aP M w' u0 k):=cV _ pre c.name.size w.heap.size M (by omega) (by omega) q.fq.size q.own;clear q ar bl x
   go_upto_region 6 with(go_at_call 84;refine r.out.mono ?_;rintro e a2 ⟨bb,rfl,W,K⟩)
   have ao:=B.out.yL K F (by decide);have y:Sb (fP w a2 (.slice (RX ⟨l,aV,RZ⟩) cs.length aD) (.slice (RX ⟨n,t,RZ⟩) es.length g) (.slice p L.length i) bb (pre ++ ax c.name.size)):=B.out.kQ K W;clear W K B r F R S;obtain⟨R,S⟩:=mi ao;have g6:=gJ c.name.size;have f8:(pre ++ ax c.name.size).length≤310:=by rw[Sc];omega
   generalize a7:pre ++ ax c.name.size=v at*;have a6:=y.out.own;have ec:w.heap.size≤a2.heap.size:=y.out.fq.size
   go_upto_region 7 with(at_builtin;refine ek _ rfl _ _ 133 9 rfl w.heap.size 5 ee aa.underlying133 aa.underlying9 du d8 d9 eb _ v.length _ rfl a6 c.name rfl (by unfold Sw;omega) (by omega) ec ?_;intro bo T ci cc)
   have b4:=y.out.yL cc ao (by decide);have al:Sb (fP w T (.slice (RX ⟨l,aV,RZ⟩) cs.length aD) (.slice (RX ⟨n,t,RZ⟩) es.length g) (.slice p L.length i) bo (v ++ bytesOf c.name)):=y.out.kQ cc (by
    rw[jr] at ci;rw[Sc,ai,ix];exact ci)
   clear ci cc y ao R S a6 ec;obtain⟨R,S⟩:=mi b4;obtain⟨H,I,J⟩:=al.out.cells;have fu:T.cell? ⟨n,t+a,RZ⟩=RX (.int .i64 N):=(al.out.fq.cell (p:=⟨n,t+a,RZ⟩) br.out).trans cx.out;have gv:bA<T.heap.size:=Sf b4;have gx:w.heap.size<T.heap.size:=Sf al.out.box;have gy:n<T.heap.size:=by have:=br.out;omega
   have f9:(v ++ bytesOf c.name).length≤330:=by rw[Sc,ai];omega
   have e8:Sb (ax cs.length ++ gY cs es (a+1)=v ++ bytesOf c.name ++ [byteOf c.kind,byteOf N]):=by show _=_;rw[bd.out]
   have gc:V1.wrap c.kind=(byteOf c.kind:Int):=lK c.kind;have ge:V1.wrap N=(byteOf N:Int):=lK N;clear a7 bd;generalize v ++ bytesOf c.name=A at*;have a6:=al.out.own
   go_region_held3 (fun s=>s.cell? ⟨bA,1,RZ⟩=RX (.int .i64 c.kind)∧s.cell? ⟨w.heap.size,1,RZ⟩=RX (.slice (RX ⟨n,t,RZ⟩) es.length g)∧s.cell? ⟨n,t+a,RZ⟩=RX (.int .i64 N)) (first|go_keep|exact⟨ef,a9,ba⟩)
    ((refine step_append_lies _ (by rfl) _ _ 133 (by rfl) w.heap.size 5 ee _ 1 1 aa.underlying133 du d8 d9 eb rfl (by decide) bo A.length _ (by rfl) ((aM a6 (So _ _).drew).alloc _) ⟨T.heap.size,0,RZ⟩ 2 2 [.int .u8 (byteOf c.kind:Int),.int .u8 (byteOf N:Int)] (by rfl) rfl (GS T.drew _ _ _) (by intro aw d7;simp at d7;rcases d7 with rfl|rfl<;>rfl) (by decide) (by unfold Sw;omega) (by omega) (by simp;omega) _ rfl ?_;intro da c7 co d0 dt db f7;have cd:aP T co bo (.slice (RX ⟨da,0,RZ⟩) (A.length+2) c7):=((aP.refl T bo).drewN 1).trans (aP.j9 dt db);have dd:=al.out.yL cd b4 (by decide);have bu:Sb (fP w co (.slice (RX ⟨l,aV,RZ⟩) cs.length aD) (.slice (RX ⟨n,t,RZ⟩) es.length g) (.slice p L.length i) (.slice (RX ⟨da,0,RZ⟩) (A.length+2) c7) (A ++ [byteOf c.kind,byteOf N])):=al.out.kQ cd (by rw[Sc,ix];exact d0);have ef:=(mi dd).2;have a9:=bu.out.cells.2.1;have ba:co.cell? ⟨n,t+a,RZ⟩=RX (.int .i64 N):=(bu.out.fq.cell (p:=⟨n,t+a,RZ⟩) br.out).trans cx.out))
   clear d0 dt db f7 cd dd ef a9 ba a6 gc ge R S H I J fu
   go_wp2_with fail
   go_roundw
   case rel=>exact⟨a+1,by omega,by go_num,by rw[e8.out];exact bu.out⟩
   case measure=>simp[S2];omega
  ·obtain rfl:a=cs.length:=by omega
   have d3:(ax cs.length ++ gY cs es cs.length).length≤300:=by
    have be:=gJ cs.length;have bB:=tv (es:=es) bt.out cs.length (R8 _);rw[Sc];omega
   have e2:Sb (iZ cs es bs=ax cs.length ++ gY cs es cs.length ++ ax bs.length ++ cr cs (bs.take L.length)):=by
    show _=_;rw[a3.out,Tk];unfold iZ;simp
   have c2:Sb (ax cs.length ++ gY cs es cs.length ++ ax bs.length=ax cs.length ++ gY cs es cs.length ++ ax bs.length ++ cr cs (bs.take 0)):=by
    show _=_;simp[cr]
   generalize ax cs.length ++ gY cs es cs.length=pre at*;obtain⟨H,I,J⟩:=h.cells;have r:Sb (SF (aa.of RY) 84 #[u0,.int .i64 (L.length:Int)] wr fun e w'=>∃ k,e= .returned k∧w'.ownsRow w.heap.size 5 1 k (pre ++ ax L.length).length (aA (pre ++ ax L.length))∧aP wr w' u0 k):=cV _ pre L.length w.heap.size wr (by omega) (by omega) h.fq.size h.own;clear h
   go_upto_region 10 with(go_at_call 84;refine r.out.mono ?_;rintro e a2 ⟨bb,rfl,W,K⟩)
   have y:Sb (fP w a2 (.slice m cs.length aD) (.slice j es.length g) (.slice p L.length i) bb (pre ++ ax bs.length ++ cr cs (bs.take 0))):=by
    have ab:=x.out.kQ K W;rw[a3.out] at ab;show fP _ _ _ _ _ _ _;rw[← c2.out];rw[a3.out];exact ab
   have f8:(pre ++ ax bs.length).length≤310:=by have:=gJ bs.length;rw[Sc];omega
   clear W K x r H I J c2 cR c0 c1;generalize pre ++ ax bs.length=v at*;obtain⟨H,I,J⟩:=y.out.cells
   go_wp2_with fail
   clear H I J
   go_loopw [0,54] (fun aw d wr=>∃ a:Nat,a≤L.length∧d= .int .i64 (a:Int)∧fP w wr (.slice m cs.length aD) (.slice j es.length g) (.slice p L.length i) aw (v ++ cr cs (bs.take a))) (fun _ d _=>L.length - (S2 d).toNat)
   case atStart=>exact⟨0,SK _,rfl,y.out⟩
   case round=>
    rename R3=>U
    clear y;obtain⟨a,dv,rfl,h⟩:=hrel;have x:Sb (fP w U (.slice m cs.length aD) (.slice j es.length g) (.slice p L.length i) u0 (v ++ cr cs (bs.take a))):=h;have d5:w.heap.size≤U.heap.size:=h.fq.size;by_cases G:a<L.length
    ·have dO:a<bs.length:=by rw[← a3.out];exact G
     have ad:=e3.out.below h.fq;obtain rfl:=ad.addr (by omega);have ar:U.cell? ⟨C,D+a*2,RZ⟩=RX (.int .i64 (L[a].1.rows:Int)):=ad.c a G 0 _ rfl;have bl:U.cell? ⟨C,D+a*2+1,RZ⟩=RX L[a].2:=ad.c a G 1 _ rfl;have b3:L[a].1=bs[a]:=by
      have:=e7.out;have bB:(L.map SB)[a]'(by simpa using G)=bs[a]:=by simp only[this]
      simpa using bB
     have c3:Sb (w.ownsRow base 143 8 L[a].2 bs[a].chunks.length (dw bs[a].chunks)):=by have:=e0.out L[a] (Sl G);rw[b3] at this;exact this
     have Y:Sb (vT cs.length bs[a]):=cu.out bs[a] (Sl dO);have bd:Sb (v ++ cr cs (bs.take (a+1))=v ++ cr cs (bs.take a) ++ ax bs[a].rows ++ eg cs bs[a].chunks bs[a].chunks.length):=by
      show _=_;rw[Ce cs bs a dO];unfold dV;simp
     have d3:(v ++ cr cs (bs.take a)).length≤1540310:=by
      have be:=wi (bs:=bs.take a) (fun b b2=>cu.out b (UO b2)) f0 cs;rw[Sc];rw[TO] at be;omega
     rw[b3] at ar;obtain⟨a8,O,Q,bj,dE,u⟩:=ON.cy tE c3.out;rw[dE] at bl;have e6:Sb (AF w cE 8 a8 O Q bs[a].chunks):=u;have g0:bs[a].chunks.length≤8:=by have:=Y.out.len;omega
     have d4:=Y.out.rows;generalize b2:bs[a]=b at*;generalize a7:v ++ cr cs (bs.take a)=pre at*;clear ad b3 b2 a7 h c3 u dE
     go_upto_region 13 with fail
     have q:=x.out.alloc (.cells #[.int .i64 (b.rows:Int),.slice a8 b.chunks.length bj] 139);have F:(U.alloc (.cells #[.int .i64 (b.rows:Int),.slice a8 b.chunks.length bj] 139)).heap[U.heap.size]? =RX (.cells #[.int .i64 (b.rows:Int),.slice a8 b.chunks.length bj] 139 (0,0)):=bw _ _;generalize U.alloc (.cells #[.int .i64 (b.rows:Int),.slice a8 b.chunks.length bj] 139)=M at*;have B:Sb (fP w M (.slice m cs.length aD) (.slice j es.length g) (.slice (RX ⟨C,D,RZ⟩) L.length i) u0 pre):=q;generalize U.heap.size=bA at*;obtain⟨R,S⟩:=mi F;have r:Sb (SF (aa.of RY) 84 #[u0,.int .i64 (b.rows:Int)] M fun e w'=>∃ k,e= .returned k∧w'.ownsRow w.heap.size 5 1 k (pre ++ ax b.rows).length (aA (pre ++ ax b.rows))∧aP M w' u0 k):=cV _ pre b.rows w.heap.size M d4 (by omega) q.fq.size q.own;clear q ar bl x d4
     go_upto_region 14 with(go_at_call 84;refine r.out.mono ?_;rintro e a2 ⟨bb,rfl,W,K⟩)
     have ao:=B.out.yL K F (by decide);have y:Sb (fP w a2 (.slice m cs.length aD) (.slice j es.length g) (.slice (RX ⟨C,D,RZ⟩) L.length i) bb (pre ++ ax b.rows ++ eg cs b.chunks 0)):=by
      have ab:=B.out.kQ K W;show fP _ _ _ _ _ _ _;rw[show eg cs b.chunks 0=[] from rfl,Uy];exact ab
     clear W K B r F R S;obtain⟨R,S⟩:=mi ao;have f9:(pre ++ ax b.rows).length≤1540320:=by have:=gJ b.rows;rw[Sc];omega
     generalize pre ++ ax b.rows=A at*
     go_wp2_with fail
     clear R S ao
     go_loopw [0,65] (fun aw d wr=>∃ ck:Nat,ck≤b.chunks.length∧d= .int .i64 (ck:Int)∧fP w wr (.slice m cs.length aD) (.slice j es.length g) (.slice (RX ⟨C,D,RZ⟩) L.length i) aw (A ++ eg cs b.chunks ck)) (fun _ d _=>b.chunks.length - (S2 d).toNat)
     case atStart=>exact⟨0,SK _,rfl,y.out⟩
     case round=>
      rename R3=>o
      clear y;obtain⟨d,f5,rfl,h⟩:=hrel;have x:Sb (fP w o (.slice m cs.length aD) (.slice j es.length g) (.slice (RX ⟨C,D,RZ⟩) L.length i) u0 (A ++ eg cs b.chunks d)):=h;have d5:w.heap.size≤o.heap.size:=h.fq.size;by_cases z:d<b.chunks.length
      ·have bi:d<cs.length:=by have:=Y.out.len;omega
       have E:=bc.out.below h.fq;obtain rfl:=E.addr (by omega);have gf:=E.c1 d bi;have u:=e6.out.below h.fq;obtain rfl:=u.addr (by omega);have ar:o.cell? ⟨O,Q+d*8,RZ⟩=RX (.string b.chunks[d].text):=u.c d z 0 _ rfl;have gj:o.cell? ⟨O,Q+d*8+1,RZ⟩=RX (.bool b.chunks[d].dS.there):=u.c d z 1 _ rfl;have gl:o.cell? ⟨O,Q+d*8+2,RZ⟩=RX (.bool b.chunks[d].dS.least.null):=u.c d z 2 _ rfl;have gn:o.cell? ⟨O,Q+d*8+3,RZ⟩=RX (.int .i64 b.chunks[d].dS.least.n):=u.c d z 3 _ rfl;have gq:o.cell? ⟨O,Q+d*8+4,RZ⟩=RX (.string b.chunks[d].dS.least.s):=u.c d z 4 _ rfl;have gr:o.cell? ⟨O,Q+d*8+5,RZ⟩=RX (.bool b.chunks[d].dS.most.null):=u.c d z 5 _ rfl;have gs:o.cell? ⟨O,Q+d*8+6,RZ⟩=RX (.int .i64 b.chunks[d].dS.most.n):=u.c d z 6 _ rfl;have gt:o.cell? ⟨O,Q+d*8+7,RZ⟩=RX (.string b.chunks[d].dS.most.s):=u.c d z 7 _ rfl;have c5:Sb (A ++ eg cs b.chunks (d+1)=A ++ eg cs b.chunks d ++ ax b.chunks[d].text.size ++ bJ cs[d].kind b.chunks[d].dS):=by
        show _=_;rw[uC];unfold qH;rw[Sj (l:=cs),Sk bi,Sj (l:=b.chunks),Sk z];simp
       have g5:(A ++ eg cs b.chunks d).length≤1542000:=by
        have be:=xD Y.out cs d f5;rw[Sc];omega
       have d6:=Y.out.size _ (Sl z);have fa:Sb (oG b.chunks[d].dS.least):=Y.out.least _ (Sl z);have fb:Sb (oG b.chunks[d].dS.most):=Y.out.most _ (Sl z);have e4:Sb (cs[d].kind=1∨cs[d].kind=2∨cs[d].kind=3):=e5.out _ (Sl bi);have cv:Sb (l<w.heap.size):=bc.out.lt (by omega);have c4:Sb (w.cell? ⟨l,aV+d*2+1,RZ⟩=RX (.int .i64 cs[d].kind)):=bc.out.c1 d bi;have g1:(d:Int)<(cs.length:Int):=by omega
       generalize b.chunks[d]=f at*;generalize cs[d].kind=P at*;generalize A ++ eg cs b.chunks d=X at*;clear E u h gf
       go_upto_region 17 with fail
       have q:=x.out.alloc (.cells (cE f).toArray 143);have F:(o.alloc (.cells (cE f).toArray 143)).heap[o.heap.size]? =RX (.cells (cE f).toArray 143 (0,0)):=bw _ _;rw[show(cE f).toArray=#[.string f.text,.bool f.dS.there,.bool f.dS.least.null,.int .i64 f.dS.least.n,.string f.dS.least.s,.bool f.dS.most.null,.int .i64 f.dS.most.n,.string f.dS.most.s] from rfl] at q F;generalize o.alloc (.cells #[.string f.text,.bool f.dS.there,.bool f.dS.least.null,.int .i64 f.dS.least.n,.string f.dS.least.s,.bool f.dS.most.null,.int .i64 f.dS.most.n,.string f.dS.most.s] 143)=a4 at*;have bv:Sb (fP w a4 (.slice (RX ⟨l,aV,RZ⟩) cs.length aD) (.slice j es.length g) (.slice (RX ⟨C,D,RZ⟩) L.length i) u0 X):=q;have ca:a4.heap[o.heap.size]? =RX (.cells (cE f).toArray 143 (0,0)):=F;generalize o.heap.size=Z at*;have r:Sb (SF (aa.of RY) 84 #[u0,.int .i64 (f.text.size:Int)] a4 fun e w'=>∃ k,e= .returned k∧w'.ownsRow w.heap.size 5 1 k (X ++ ax f.text.size).length (aA (X ++ ax f.text.size))∧aP a4 w' u0 k):=cV _ X f.text.size w.heap.size a4 d6 (by omega) q.fq.size q.own;clear q ar gj gl gn gq gr gs gt x d6 F;obtain⟨⟨fd,-⟩,-⟩:=jE ca
       go_upto_region 18 with(go_at_call 84;refine r.out.mono ?_;rintro e ae ⟨a1,rfl,d1,ce⟩)
       have cb:=bv.out.yL ce ca (by decide);have am:Sb (fP w ae (.slice (RX ⟨l,aV,RZ⟩) cs.length aD) (.slice j es.length g) (.slice (RX ⟨C,D,RZ⟩) L.length i) a1 (X ++ ax f.text.size)):=bv.out.kQ ce d1;have e9:Sb (A ++ eg cs b.chunks (d+1)=X ++ ax f.text.size ++ bJ P f.dS):=c5.out;have g4:(X ++ ax f.text.size).length≤1542010:=by have:=gJ f.text.size;rw[Sc];omega
       clear d1 ce bv r ca fd c5;generalize X ++ ax f.text.size=bm at*;have eQ:Sb (SF (aa.of RY) 85 #[a1,.agg #[.bool f.dS.there,.bool f.dS.least.null,.int .i64 f.dS.least.n,.string f.dS.least.s,.bool f.dS.most.null,.int .i64 f.dS.most.n,.string f.dS.most.s],.int .i64 P] ae.drew fun e w'=>∃ a0,e= .returned a0∧w'.ownsRow w.heap.size 5 1 a0 (bm ++ bJ P f.dS).length (aA (bm ++ bJ P f.dS))∧aP ae.drew w' a1 a0):=
        sN a1 bm f.dS P w.heap.size ae.drew e4.out fa.out fb.out (by omega) am.out.fq.size am.out.drew.own
       obtain⟨⟨-,fe,fg,fi,fk,fl,fm,ft⟩,-⟩:=jE cb;obtain⟨H,I,J⟩:=am.out.cells;have fv:ae.cell? ⟨l,aV+d*2+1,RZ⟩=RX (.int .i64 P):=(am.out.fq.cell (p:=⟨l,aV+d*2+1,RZ⟩) cv.out).trans c4.out
       go_region_held3 (fun s=>s.cell? ⟨Z,1,RZ⟩=RX (.bool f.dS.there)∧s.cell? ⟨Z,2,RZ⟩=RX (.bool f.dS.least.null)∧s.cell? ⟨Z,3,RZ⟩=RX (.int .i64 f.dS.least.n)∧s.cell? ⟨Z,4,RZ⟩=RX (.string f.dS.least.s)∧s.cell? ⟨Z,5,RZ⟩=RX (.bool f.dS.most.null)∧s.cell? ⟨Z,6,RZ⟩=RX (.int .i64 f.dS.most.n)∧s.cell? ⟨Z,7,RZ⟩=RX (.string f.dS.most.s)∧s.cell? ⟨w.heap.size,0,RZ⟩=RX (.slice (RX ⟨l,aV,RZ⟩) cs.length aD)∧s.cell? ⟨l,aV+d*2+1,RZ⟩=RX (.int .i64 P)) (first|go_keep|exact⟨a9,ba,eh,el,em,en,eo,eq,er⟩)
        ((go_at_call 85;refine eQ.out.mono ?_;rintro e cp ⟨et,rfl,d2,ds⟩;have cf:aP ae cp a1 et:=((aP.refl ae a1).drewN 1).trans ds;have df:=am.out.yL cf cb (by decide);have V:Sb (fP w cp (.slice (RX ⟨l,aV,RZ⟩) cs.length aD) (.slice j es.length g) (.slice (RX ⟨C,D,RZ⟩) L.length i) et (bm ++ bJ P f.dS)):=am.out.kQ cf d2;obtain⟨⟨-,a9,ba,eh,el,em,en,eo⟩,-⟩:=jE df;have eq:=V.out.cells.1;have er:cp.cell? ⟨l,aV+d*2+1,RZ⟩=RX (.int .i64 P):=(V.out.fq.cell (p:=⟨l,aV+d*2+1,RZ⟩) cv.out).trans c4.out))
       clear d2 ds cf df a9 ba eh el em en eo eq er fe fg fi fk fl fm ft H I J fv cb
       go_wp2_with fail
       go_roundw
       case rel=>exact⟨d+1,by omega,by go_num,by rw[e9.out];exact V.out⟩
       case measure=>simp[S2];omega
      ·obtain rfl:d=b.chunks.length:=by omega
       have V:Sb (fP w o (.slice m cs.length aD) (.slice j es.length g) (.slice (RX ⟨C,D,RZ⟩) L.length i) u0 (v ++ cr cs (bs.take (a+1)))):=by show fP _ _ _ _ _ _ _;rw[bd.out];exact h
       clear h x
       go_wp2_with fail
       go_roundw
       case rel=>exact⟨a+1,by omega,by go_num,V.out⟩
       case measure=>simp[S2];omega
    ·obtain rfl:a=L.length:=by omega
     have V:Sb (fP w U (.slice m cs.length aD) (.slice j es.length g) (.slice p L.length i) u0 (iZ cs es bs)):=by show fP _ _ _ _ _ _ _;rw[e2.out];exact h
     clear h x
     go_wp2_with fail
     go_ret;exact⟨_,rfl,V.out.own,V.out.fq⟩
def yO (w:R3)(base:Nat)(v:R2)(pre:List Nat):Prop:=
 w.ownsRow base 5 1 v pre.length (aA pre)∨(pre=cW∧∃ a,v= .slice (RX ⟨a,0,RZ⟩) 4 4∧base≤a∧w.heap[a]? =RX (.cells (aA cW).toArray 5 (4,5)))
def yO.lt{w:R3}{base:Nat}{v:R2}{pre:List Nat}(h:yO w base v pre):∀ g,v.ownBlock=RX g→base≤g∧g<w.heap.size:=by
 rcases h with h|⟨-,g,rfl,b,c⟩
 ·exact h.lt
 ·intro d a;simp[TQ] at a;subst a;exact⟨b,(R9.1 c).1⟩
def yO.yL{w:R3}{base:Nat}{v:R2}{pre:List Nat}(h:yO w base v pre){g:Nat}{cs:Array R2}{t:Sg}(b:w.heap[g]? =RX (.cells cs t (0,0)))(d:t≠5):RX g≠v.ownBlock:=by
 rcases h with h|⟨-,e,rfl,-,c⟩
 ·exact bk h b d
 ·intro a;simp[TQ] at a;subst a;rw[b] at c;simp at c
def yO.below{w w':R3}{base:Nat}{v:R2}{pre:List Nat}(h:yO w base v pre)(b:Si w.heap.size w w'):yO w' base v pre:=by
 rcases h with h|⟨d,c,e,f,a⟩
 ·exact .inl (aM h b)
 ·exact .inr ⟨d,c,e,f,(b.block _ (R9.1 a).1).trans a⟩
def xm{w:R3}{g:Nat}(h:w.heap[g]? =RX (.cells (aA cW).toArray 5 (4,5))):∀ j u,(aA cW)[j]? =RX u→w.cell? ((⟨g,0,RZ⟩:SL).add j)=RX u:=by
 have:=World.news_of_block h;simpa using this
theorem qu{P:Sd}(w:R3){ops:Array Tx}{rest:List Tx}{o:Tx}{a:T6}{Q:Exit→T6→R3→Prop}(j:o.guard=RZ)(sl x:S3)(t u:Sg)
 (m:o.op= .call {callee:=.builtin .append,args:= #[sl,x],argTypes:= #[t,u]})
 (base:Nat) (i:UL) (q:P.underlying t=RX (.slice 5)) (r:P.underlying u=RX .string) (k:P.info? 5=RX i) (z:i.zero=RX (.int .u8 0))
 (p:i.size=1) (g:i.bytes=1) (v:R2) (pre:List Nat) (n:a.eval sl=v) (d:yO w base v pre) (s:ByteArray) (y:a.eval x= .string s) (N:0<s.size)
 (b:pre.length+s.size≤Sw) (C:pre.length+s.size≤140737488355328) (f:base≤w.heap.size)
 (h:∀ e w',w'.ownsRow base 5 1 e (pre.length+s.size) (aA pre ++ Lib.strCells s)→aP w w' v e→wpList P ops Q rest (a.put o.dst e) w'):wpList P ops Q (o :: rest) a w:=by
 rcases d with d|⟨rfl,A,rfl,M,E⟩
 ·exact ek w j sl x t u m base 5 i q r k z p g v pre.length _ n d s y b C f h
 ·refine wpList_plain j fun K B=>?_;have L:4+s.size≤9223372036854775807:=by have:cW.length=4:=rfl;unfold Sw at b;omega
  have H:=Lib.run_append_grow_string (P:=P) w t u o.type 5 i (.int .u8 0) q r k z ⟨A,0,RZ⟩ 4 4 (aA cW) (by rw[p];rfl) (xm E) s (by omega) (by omega) (by rw[g];exact growslice_fits (by omega) (by have:cW.length=4:=rfl;omega));unfold Oper.wp SE;simp only[m,VE,invoke,builtin,Uz,Sem.run_pure,Result.andThen_ok,List.map_toArray,U8,List.map_nil,n,y,H];refine B _ _ (h _ _ ?_ ?_)
  ·have F:=grownCap_ge w (4+s.size) 4 5;have D:grownCap w (4+s.size) 4 5≤Sw:=grownCap_le_maxLen w (4+s.size) 4 5 b;have l:(aA cW ++ Lib.strCells s).length=(4+s.size)*1:=by rw[Sc,Lib.strCells_length,VO];rfl
   refine⟨l,.inr ⟨w.heap.size,_,_,rfl,f,T8 w.drew _,F,D,?_,?_⟩⟩
   ·have I:(T7 V1 0).cells.size=1:=rfl;have G:(aA cW).length=4:=rfl;simp only[Array.size_append,List.size_toArray,size_zeroCells,I,G,Lib.strCells_length];omega
   ·simp only[Array.toList_append,SG];rw[← SG];show List.take ((4+s.size)*1) _=_;rw[← l];exact List.take_left
  ·refine⟨⟨rfl,rfl,rfl,by simp,fun J c _=>alloc_old (w:=w.drew) _ c rfl⟩,fun J c=>?_⟩;simp[TQ] at c;exact .inr (by omega)
theorem vA{P:Sd}(w:R3){ops:Array Tx}{rest:List Tx}{o:Tx}{a:T6}{Q:Exit→T6→R3→Prop}(A:o.guard=RZ)(sl x:S3)(t:Sg)
 (D:o.op= .call {callee:=.builtin .append,args:= #[sl,x],argTypes:= #[t,t]})
 (base:Nat) (i:UL) (G:P.underlying t=RX (.slice 5)) (B:P.info? 5=RX i) (I:i.zero=RX (.int .u8 0))
 (F:i.size=1) (z:i.bytes=1) (v:R2) (pre:List Nat) (E:a.eval sl=v) (p:yO w base v pre) (l:SL) (c:Nat) (b:List Nat) (H:a.eval x= .slice (RX l) b.length c) (N:0<b.length)
 (hc:∀ j u,(aA b)[j]? =RX u→w.cell? (l.add j)=RX u)
 (K:pre.length+b.length≤Sw) (S:pre.length+b.length≤140737488355328) (y:base≤w.heap.size)
 (h:∀ d w',w'.ownsRow base 5 1 d (pre ++ b).length (aA (pre ++ b))→aP w w' v d→wpList P ops Q rest (a.put o.dst d) w'):wpList P ops Q (o :: rest) a w:=by
 have r:∀ u∈aA b,u.oneCell'=R7:=by
  intro u O;obtain⟨U,-,rfl⟩:=Tu.1 O;rfl
 have C:(aA b).length=b.length*1:=by simp[aA]
 have q:∀ (d:R2) (w':R3),w'.ownsRow base 5 1 d (pre.length+b.length) (aA pre ++ aA b)→w'.ownsRow base 5 1 d (pre ++ b).length (aA (pre ++ b)):=fun d w' M=>by
  rw[Sc,ix];exact M
 rcases p with p|⟨rfl,J,rfl,s,L⟩
 ·refine aS w A sl x t D base 5 i (.int .u8 0) 1 1 G B I F z rfl (by decide) v pre.length _ E p l b.length c (aA b) H N C hc r K (by omega) y ?_;intro d w' m g;refine h d w' (q _ _ m) ?_;rcases g with⟨k,n⟩|⟨k,n⟩
  ·exact⟨⟨k.os,k.tape,k.output,k.size,fun f e _=>k.block f e (by simp)⟩,fun f e=>.inr (n.lt f e).1⟩
  ·exact⟨n,fun f e=>.inl (by rw[← k];exact e)⟩
 ·have T:cW.length=4:=rfl;refine wpList_append_grows w A sl x t D 5 i (.int .u8 0) 1 1 G B I F z rfl (by decide) (RX ⟨J,0,RZ⟩) 4 4 (aA cW) E (fun h=>by cases h) rfl (fun R s=>by cases s;exact xm L) l b.length c (aA b) H C hc r (by omega) (by omega) (by omega) ?_;intro d w' m g;refine h d w' (q _ _ (bn m y)) ⟨⟨g.os,g.tape,g.output,g.size,fun f e _=>g.block f e (by simp)⟩,fun f e=>.inr (m.lt f e).1⟩
structure kL(w W:R3)(cv ev bv u:R2)(pre:List Nat):Prop where
 box:W.heap[w.heap.size]? =RX (.cells #[cv,ev,bv] 105 (0,0))
 own:yO W w.heap.size u pre
 fq:Si w.heap.size w W
def kL.below{w a c:R3}{e f d u:R2}{pre:List Nat}(h:kL w a e f d u pre)(b:Si a.heap.size a c):kL w c e f d u pre:=
 ⟨(b.block _ (Sf h.box)).trans h.box,h.own.below b,h.fq.trans (b.mono h.fq.size)⟩
def kL.alloc{w a:R3}{c d b u:R2}{pre:List Nat}(h:kL w a c d b u pre)(o:U9):kL w (a.alloc o) c d b u pre:=h.below ((So _ _).alloc (R8 _) o)
def kL.kQ{w e b:R3}{g i f u d:R2}{pre c:List Nat}(h:kL w e g i f u pre)(a:aP e b u d)(k:b.ownsRow w.heap.size 5 1 d c.length (aA c)):kL w b g i f d c:=
 ⟨(a.ij.block _ (Sf h.box) (h.own.yL h.box (by decide))).trans h.box,.inl k,h.fq.trans (a.below (fun j a=>(h.own.lt j a).1) h.fq.size)⟩
def kL.cells{w a:R3}{c d b u:R2}{pre:List Nat}(h:kL w a c d b u pre):a.cell? ⟨w.heap.size,0,RZ⟩=RX c∧a.cell? ⟨w.heap.size,1,RZ⟩=RX d∧a.cell? ⟨w.heap.size,2,RZ⟩=RX b:=bE h.box
def D4(n:Nat):0<(ax n).length:=by
 unfold ax ic
 split<;>simp
def Mh(l:List jw)(k:Nat):(bL (l.take k)).length≤(bL l).length:=by
 have a:bL l=bL (l.take k) ++ bL (l.drop k):=by
  unfold bL;rw[← Tf,UG]
 rw[a,Sc];omega
def J7(bs:List Bd)(k:Nat):(bp (bs.take k)).length≤(bp bs).length:=by
 have a:bp bs=bp (bs.take k) ++ bp (bs.drop k):=by
  unfold bp;rw[← Tf,UG]
 rw[a,Sc];omega
theorem KX(cs:List bG)(es:List Int)(bs:List Bd)(N O M:R2)(w:R3)(cc:cs.length≤8)(cf:es.length=cs.length)(a0:∀ c∈cs,c.name.size≤16)(cp:∀ c∈cs,c.kind=1∨c.kind=2∨c.kind=3)(dv:bs.length≤2000)(Q:∀ b∈bs,vT cs.length b)(c1:∀ b∈bs,∀ c∈b.chunks,0<c.text.size)(ca:(bp bs).length≤10000000000)
 (cd:vB w N cs) (ch:qx w O es) (b4:∃ base L,L.map SB=bs∧iu w base M L):
 SF (aa.of RY) 42 #[.agg #[N,O,M]] w fun e w'=>e= .returned (.string (strOf (uu cs es bs)))∧Si w.heap.size w w':=by
 obtain⟨a8,aw,a4,a5,a6⟩:=TB aa.rT;have br:Sb (∀ z,Si w.heap.size w z→SF (aa.of RY) 58 #[.slice RZ 0 0,.agg #[N,O,M]] z fun e w'=>∃ E,e= .returned E∧w'.ownsRow z.heap.size 5 1 E (iZ cs es bs).length (aA (iZ cs es bs))∧Si z.heap.size z w'):=fun z am=>
  sP cs es bs N O M z cc cf a0 cp dv Q (cd.below am) (ch.lower am) (by obtain⟨base,L,ad,C⟩:=b4;exact⟨base,L,ad,C.below am⟩)
 have c8:Sb ((iZ cs es bs).length≤2000000∧0<(iZ cs es bs).length):=by
  have ad:=gJ cs.length;have C:=tv (es:=es) a0 cs.length (R8 _);have dt:=gJ bs.length;have et:=wi Q cc cs;have eQ:=D4 cs.length;show _∧_;unfold iZ;simp only[Sc];omega
 obtain⟨base,L,al,ae⟩:=b4;have F:=ON.cy pJ ae.own;obtain⟨r,q,s,i,rfl,A⟩:=F;obtain⟨j,el,aV,aD,rfl,e0,-⟩:=cd;obtain⟨l,em,en,k,rfl,-,-,-⟩:=ch;have bu:Sb (L.map SB=bs):=al;have Z:Sb (L.length=bs.length):=by show _=_;rw[← al,SV]
 have bt:Sb (AF w kW 2 r q s L):=A;have bm:Sb (∀ a9∈L,w.ownsRow base 143 8 a9.2 a9.1.chunks.length (dw a9.1.chunks)):=ae.each;have bB:Sb (∀ b∈bs,∀ c∈b.chunks,0<c.text.size):=c1;have bl:Sb (∀ b∈bs,vT cs.length b):=Q;have Y:Sb ((bp bs).length≤10000000000):=ca;have e7:L.length≤2000:=by have:=Z.out;omega
 have d2:∀ (I:U9) (B:Array R2) (U c:Nat),(convert 133 133 (.slice (RX ⟨w.heap.size+1,0,RZ⟩) U c)).run (aa.of RY) ((w.alloc I).alloc (.cells B 5))= .ok (.slice (RX ⟨w.heap.size+1,0,RZ⟩) U c) ((w.alloc I).alloc (.cells B 5 (B.size,B.size+1))):=fun I B U c=>by
  have ds:=Lib.run_convert_bytes_const (P:=(aa.of RY)) (w.alloc I) 133 5 B U c aa.underlying133 aa.underlying5;rwa [show(w.alloc I).heap.size=w.heap.size+1 by simp] at ds
 clear cf a0 cp Q al A ae c1 ca;go_enter aa.func42,Tryz.ntmps42
 go_upto_region 2 with fail
 clear d2;have P:kL w ((w.alloc (.cells #[.slice j cs.length aD,.slice l es.length k,.slice r L.length i] 105)).alloc (.cells (aA cW).toArray 5 (4,5))) (.slice j cs.length aD) (.slice l es.length k) (.slice r L.length i) (.slice (RX ⟨w.heap.size+1,0,RZ⟩) 4 4) (cW ++ bp (bs.take 0)):=
  ⟨alloc_old _ (by simp) (bw w _),.inr ⟨by simp[bp],w.heap.size+1,rfl,by omega,jA w _ _⟩,gm _ _⟩
 rw[show(aA cW).toArray=#[.int .u8 83,.int .u8 84,.int .u8 82,.int .u8 65] from rfl] at P;generalize (w.alloc (.cells #[.slice j cs.length aD,.slice l es.length k,.slice r L.length i] 105)).alloc (.cells #[.int .u8 83,.int .u8 84,.int .u8 82,.int .u8 65] 5 (4,5))=dl at*;obtain⟨bb,bc,bd⟩:=P.cells;have b1:Sb (kL w dl (.slice j cs.length aD) (.slice l es.length k) (.slice r L.length i) (.slice (RX ⟨w.heap.size+1,0,RZ⟩) 4 4) (cW ++ bp (bs.take 0))):=P;clear P
 go_wp2_with fail
 clear bb bc bd
 go_loopw [3,14] (fun be a wr=>∃ d:Nat,d≤L.length∧a= .int .i64 (d:Int)∧kL w wr (.slice j cs.length aD) (.slice l es.length k) (.slice r L.length i) be (cW ++ bp (bs.take d))) (fun _ a _=>L.length - (S2 a).toNat)
 case atStart=>exact⟨0,SK _,rfl,b1.out⟩
 case round=>
  clear b1;obtain⟨d,e5,rfl,h⟩:=hrel;have o:Sb (kL w wr (.slice j cs.length aD) (.slice l es.length k) (.slice r L.length i) u3 (cW ++ bp (bs.take d))):=h;have dT:w.heap.size≤wr.heap.size:=h.fq.size;by_cases G:d<L.length
  ·have R:d<bs.length:=by rw[← Z.out];exact G
   have A:=bt.out.below h.fq;obtain rfl:=A.addr (by omega);have V:wr.cell? ⟨q,s+d*2,RZ⟩=RX (.int .i64 (L[d].1.rows:Int)):=A.c d G 0 _ rfl;have c3:wr.cell? ⟨q,s+d*2+1,RZ⟩=RX L[d].2:=A.c d G 1 _ rfl;have ao:L[d].1=bs[d]:=by
    have:=bu.out;have C:(L.map SB)[d]'(by simpa using G)=bs[d]:=by simp only[this]
    simpa using C
   have bA:Sb (w.ownsRow base 143 8 L[d].2 bs[d].chunks.length (dw bs[d].chunks)):=by have:=bm.out L[d] (Sl G);rw[ao] at this;exact this
   have db:Sb (cW ++ bp (bs.take (d+1))=cW ++ bp (bs.take d) ++ bL (bs[d].chunks.take bs[d].chunks.length)):=by
    show _=_;rw[wm bs d R,Tk,SG]
   have dc:Sb (∀ c∈bs[d].chunks,0<c.text.size):=bB.out _ (Sl R);have bv:Sb (∀ a,(cW ++ bp (bs.take d) ++ bL (bs[d].chunks.take a)).length≤10000000004):=fun a=>by
    have ad:=Mh bs[d].chunks a;have C:=J7 bs (d+1);rw[wm bs d R,Sc] at C;have dt:=Y.out;rw[Sc,Sc];have:cW.length=4:=rfl;omega
   have e1:bs[d].chunks.length≤8:=by have:=(bl.out bs[d] (Sl R)).len;omega
   rw[ao] at V;obtain⟨H,u,v,T,cu,m⟩:=ON.cy tE bA.out;rw[cu] at c3;have c9:Sb (AF w cE 8 H u v bs[d].chunks):=m;generalize du:bs[d]=b at*;generalize a3:cW ++ bp (bs.take d)=pre at*;clear A ao du a3 h bA m cu
   go_upto_region 5 with fail
   have x:=o.out.alloc (.cells #[.int .i64 (b.rows:Int),.slice H b.chunks.length T] 139);have D:(wr.alloc (.cells #[.int .i64 (b.rows:Int),.slice H b.chunks.length T] 139)).heap[wr.heap.size]? =RX (.cells #[.int .i64 (b.rows:Int),.slice H b.chunks.length T] 139 (0,0)):=bw _ _;generalize wr.alloc (.cells #[.int .i64 (b.rows:Int),.slice H b.chunks.length T] 139)=dp at*;have y:Sb (kL w dp (.slice j cs.length aD) (.slice l es.length k) (.slice (RX ⟨q,s,RZ⟩) L.length i) u3 (pre ++ bL (b.chunks.take 0))):=by
    show kL _ _ _ _ _ _ _;rw[show bL (b.chunks.take 0)=[] from rfl,Uy];exact x
   generalize wr.heap.size=eq at*;obtain⟨d3,d4⟩:=mi D;clear x V c3 o
   go_wp2_with fail
   clear d3 d4 D
   go_loopw [3,21] (fun be a wr=>∃ a7:Nat,a7≤b.chunks.length∧a= .int .i64 (a7:Int)∧kL w wr (.slice j cs.length aD) (.slice l es.length k) (.slice (RX ⟨q,s,RZ⟩) L.length i) be (pre ++ bL (b.chunks.take a7))) (fun _ a _=>b.chunks.length - (S2 a).toNat)
   case atStart=>exact⟨0,SK _,rfl,y.out⟩
   case round=>
    rename R3=>g
    clear y;obtain⟨a,e4,rfl,h⟩:=hrel;have o:Sb (kL w g (.slice j cs.length aD) (.slice l es.length k) (.slice (RX ⟨q,s,RZ⟩) L.length i) u3 (pre ++ bL (b.chunks.take a))):=h;have dT:w.heap.size≤g.heap.size:=h.fq.size;by_cases p:a<b.chunks.length
    ·have m:=c9.out.below h.fq;obtain rfl:=m.addr (by omega);have V:g.cell? ⟨u,v+a*8,RZ⟩=RX (.string b.chunks[a].text):=m.c a p 0 _ rfl;have d8:g.cell? ⟨u,v+a*8+1,RZ⟩=RX (.bool b.chunks[a].dS.there):=m.c a p 1 _ rfl;have d9:g.cell? ⟨u,v+a*8+2,RZ⟩=RX (.bool b.chunks[a].dS.least.null):=m.c a p 2 _ rfl;have eb:g.cell? ⟨u,v+a*8+3,RZ⟩=RX (.int .i64 b.chunks[a].dS.least.n):=m.c a p 3 _ rfl;have ec:g.cell? ⟨u,v+a*8+4,RZ⟩=RX (.string b.chunks[a].dS.least.s):=m.c a p 4 _ rfl;have ee:g.cell? ⟨u,v+a*8+5,RZ⟩=RX (.bool b.chunks[a].dS.most.null):=m.c a p 5 _ rfl;have ef:g.cell? ⟨u,v+a*8+6,RZ⟩=RX (.int .i64 b.chunks[a].dS.most.n):=m.c a p 6 _ rfl;have eh:g.cell? ⟨u,v+a*8+7,RZ⟩=RX (.string b.chunks[a].dS.most.s):=m.c a p 7 _ rfl;have b0:Sb (pre ++ bL (b.chunks.take (a+1))=pre ++ bL (b.chunks.take a) ++ bytesOf b.chunks[a].text):=by
      show _=_;rw[FW b.chunks a p,SG]
     have e6:=bv.out a;have dE:=bv.out (a+1);rw[b0.out,Sc,ai] at dE;have dO:=dc.out _ (Sl p);generalize b.chunks[a]=f at*;generalize pre ++ bL (b.chunks.take a)=c4 at*;clear m h
     go_upto_region 8 with fail
     have x:=o.out.alloc (.cells (cE f).toArray 143);have D:(g.alloc (.cells (cE f).toArray 143)).heap[g.heap.size]? =RX (.cells (cE f).toArray 143 (0,0)):=bw _ _;rw[show(cE f).toArray=#[.string f.text,.bool f.dS.there,.bool f.dS.least.null,.int .i64 f.dS.least.n,.string f.dS.least.s,.bool f.dS.most.null,.int .i64 f.dS.most.n,.string f.dS.most.s] from rfl] at x D;generalize g.alloc (.cells #[.string f.text,.bool f.dS.there,.bool f.dS.least.null,.int .i64 f.dS.least.n,.string f.dS.least.s,.bool f.dS.most.null,.int .i64 f.dS.most.n,.string f.dS.most.s] 143)=ab at*;have dd:Sb (kL w ab (.slice j cs.length aD) (.slice l es.length k) (.slice (RX ⟨q,s,RZ⟩) L.length i) u3 c4):=x;have ce:ab.heap[g.heap.size]? =RX (.cells (cE f).toArray 143 (0,0)):=D;have d0:w.heap.size≤ab.heap.size:=x.fq.size;have c0:=x.own;generalize g.heap.size=er at*;clear x V d8 d9 eb ec ee ef eh o D;obtain⟨⟨dq,-⟩,-⟩:=jE ce
     go_wp2_with (at_builtin;refine qu _ rfl _ _ 133 9 rfl w.heap.size a8 aa.underlying133 aa.underlying9 aw a4 a5 a6 _ c4 rfl c0 f.text rfl dO (by unfold Sw;omega) (by omega) d0 ?_;intro d6 d7 a1 co)
     have df:Sb (kL w d7 (.slice j cs.length aD) (.slice l es.length k) (.slice (RX ⟨q,s,RZ⟩) L.length i) d6 (pre ++ bL (b.chunks.take (a+1)))):=dd.out.kQ co (by
      rw[jr] at a1;rw[b0.out,Sc,ai,ix];exact a1)
     clear a1 co c0 dq ce
     go_roundw
     case rel=>exact⟨a+1,by omega,by go_num,df.out⟩
     case measure=>simp[S2];omega
    ·obtain rfl:a=b.chunks.length:=by omega
     have dk:Sb (kL w g (.slice j cs.length aD) (.slice l es.length k) (.slice (RX ⟨q,s,RZ⟩) L.length i) u3 (cW ++ bp (bs.take (d+1)))):=by show kL _ _ _ _ _ _ _;rw[db.out];exact h
     clear h o
     go_wp2_with fail
     go_roundw
     case rel=>exact⟨d+1,by omega,by go_num,dk.out⟩
     case measure=>simp[S2];omega
  ·obtain rfl:d=L.length:=by omega
   have ck:cW ++ bp (bs.take L.length)=cW ++ bp bs:=by rw[Z.out,Tk]
   rw[ck] at h;have bo:Sb (uu cs es bs=cW ++ bp bs ++ iZ cs es bs ++ gb (iZ cs es bs).length ++ bytesOf ⟨#[83,84,82,65]⟩):=by
    show _=_;rw[show bytesOf ⟨#[83,84,82,65]⟩=cW from rfl];unfold uu;simp only[SG]
   have fa:(cW ++ bp bs).length≤10000000004:=by
    have:=Y.out;rw[Sc];have:cW.length=4:=rfl;omega
   obtain⟨e3,ci⟩:=c8.out;generalize iZ cs es bs=n at*;generalize cW ++ bp bs=pre at*;have o:Sb (kL w wr (.slice j cs.length aD) (.slice l es.length k) (.slice r L.length i) u3 pre):=h;obtain⟨bb,bc,bd⟩:=h.cells;clear h ck bu bt bm bB bl Y
   go_upto_region 12 with(go_at_call 58;refine(br.out _ o.out.fq).mono ?_;rintro e c5 ⟨eo,rfl,a2,b3⟩)
   have y:Sb (kL w c5 (.slice j cs.length aD) (.slice l es.length k) (.slice r L.length i) u3 pre):=o.out.below b3;obtain⟨b2,dr,rfl,-,-⟩:=a2.form ci;have cb:=a2.cells (g:=b2) rfl;have cv:=y.out.own;have d1:w.heap.size≤c5.heap.size:=y.out.fq.size;clear bb bc bd b3 o br
   go_upto_region 13 with(at_builtin;refine vA _ rfl _ _ 133 rfl w.heap.size a8 aa.underlying133 aw a4 a5 a6 _ pre rfl cv ⟨b2,0,RZ⟩ dr n rfl ci cb (by unfold Sw;omega) (by omega) d1 ?_;intro W K S cl)
   have ar:Si w.heap.size w K:=(y.out.kQ cl S).fq;have e8:(pre ++ n).length≤10002000004:=by rw[Sc];omega
   have c7:Sb (uu cs es bs=pre ++ n ++ gb n.length ++ bytesOf ⟨#[83,84,82,65]⟩):=bo.out;clear cb cv cl y a2 bo;generalize a3:pre ++ n=J at*;have bi:Sb (SF (aa.of RY) 59 #[W,.int .i64 (n.length:Int)] K fun e w'=>∃ E,e= .returned E∧w'.ownsRow w.heap.size 5 1 E (J ++ gb n.length).length (aA (J ++ gb n.length))∧aP K w' W E):=sQ W J n.length w.heap.size K (by omega) (by omega) ar.size S;have X:Sb (Si w.heap.size w K):=ar;have bx:Sb (∀ t,W.ownBlock=RX t→w.heap.size≤t):=fun t F=>(S.lt t F).1;clear a3 S ar
   go_upto_region 14 with(go_at_call 59;refine bi.out.mono ?_;rintro e c6 ⟨d5,rfl,cx,cn⟩)
   have bj:Sb (Si w.heap.size w c6):=X.out.trans (cn.below bx.out X.out.size);have c2:w.heap.size≤c6.heap.size:=bj.out.size;have da:Sb (∀ t,d5.ownBlock=RX t→w.heap.size≤t):=fun t F=>(cx.lt t F).1;have e9:(J ++ gb n.length).length≤10002000008:=by rw[Sc];have:(gb n.length).length=4:=rfl;omega
   clear cn bi X bx;generalize J ++ gb n.length=ba at*
   go_wp2_with (at_builtin;refine ek _ rfl _ _ 133 9 rfl w.heap.size 5 a8 aa.underlying133 aa.underlying9 aw a4 a5 a6 _ ba.length _ rfl cx ⟨#[83,84,82,65]⟩ rfl (show ba.length+4≤Sw by unfold Sw;omega) (show ba.length+4≤140737488355328 by omega) c2 ?_;intro fb fd cR dC;rw[jr,← ix] at cR;have e2:=o9 cR (by rw[Sc,ai]))
   go_ret;rw[c7.out];exact⟨rfl,bj.out.trans (dC.below da.out c2)⟩
def Cq{ps:List Nat}{k:Nat}(h:j4 0 (ps.take k)=RZ):j4 0 ps=RZ:=by rw[tf ps k,h];rfl
def MZ{ps:List Nat}{k t n:Nat}(h:j4 0 (ps.take k)=RX t)(b:n<t):j4 0 ps≠RX n:=by
 rw[tf ps k,h];intro a;have:=wz (show j4 t (ps.drop k)=RX n from a);omega
theorem vg(s:ByteArray)(r p n:Nat)(z:R2)(ps:List Nat)(w:R3)(Q:n≤100)(P:ps.length≤100)(D:∀ q∈ps,q<65536)(G:qx w z (jb ps))(h:w.heap[r]? =RX (bg s p)):
 SF (aa.of RY) 178 #[.pointer (RX ⟨r,0,RZ⟩),z,.int .i64 n] w fun e w'=>w'=w∧((e= .returned (.tuple #[])∧j4 0 ps=RX n)∨(∃ q,e= .panicked (dU q)∧j4 0 ps≠RX n)):=by
 have v:Sb (w.heap[r]? =RX (bg s p)):=h;obtain⟨J,B,H,K,rfl,x,C,y⟩:=G;have i:(jb ps).length=ps.length:=by simp[jb]
 rw[i] at x C ⊢;have A:Sb (∀ f,(m:f<ps.length)→w.cell? ⟨B,H+f,RZ⟩=RX (.int .i64 (ps[f]:Int))):=fun f m=>by
  have:=y f (by rw[i];exact m);rw[eJ (by rw[i];exact m)] at this;simpa [jb] using this
 clear y h i;go_enter aa.func178,Tryz.ntmps178
 go_wp2_with fail
 go_loopw [6,11] (fun I t wr=>∃ b a:Nat,b≤ps.length∧t= .int .i64 (b:Int)∧I= .int .i64 (a:Int)∧a≤n∧j4 0 (ps.take b)=RX a∧wr=w) (fun _ t _=>ps.length - (S2 t).toNat)
 case atStart=>exact⟨0,0,SK _,rfl,rfl,SK _,rfl,rfl⟩
 case round=>
  obtain⟨b,a,O,rfl,rfl,F,d,rfl⟩:=hrel;have j:Sb (j4 0 (ps.take b)=RX a):=d;clear d;by_cases o:b<ps.length
  ·obtain rfl:=x (by omega);have N:=A.out b o;have g:Sb (j4 0 (ps.take (b+1))=if ps[b]<a then RX a else if ps[b]=a then RX (a+1) else RZ):=yU ps b o j.out;have S:=D _ (Sl o);generalize ps[b]=q at*;by_cases M:a<q∨n≤q
   ·have k:Sb (j4 0 ps≠RX n):=by
     by_cases L:a<q
     ·have c:=g.out;rw[if_neg (by omega),if_neg (by omega)] at c;show _≠_;rw[Cq c];simp
     ·have c:=g.out;rw[if_neg (by omega),if_pos (by omega)] at c;exact MZ c (by omega)
    go_wp2_with (go_at_call 97;refine(bN r p s _ v.out).mono ?_;rintro e w' ⟨rfl,rfl⟩)
    all_goals exact⟨rfl,rfl,.inr ⟨_,rfl,k.out⟩⟩
   ·by_cases E:q=a
    ·subst E;have l:Sb (j4 0 (ps.take (b+1))=RX (q+1)):=by
      have c:=g.out;rw[if_neg (by omega),if_pos rfl] at c;exact c
     go_wp2
     go_roundw
     case rel=>exact⟨b+1,q+1,by omega,by go_num,by go_num,by omega,l.out,by trivial⟩
     case measure=>simp[S2];omega
    ·have l:Sb (j4 0 (ps.take (b+1))=RX a):=by
      have c:=g.out;rw[if_pos (by omega)] at c;exact c
     have R:((q:Int) == (a:Int))=R6:=by simp;omega
     go_wp2
     go_roundw
     case rel=>exact⟨b+1,a,by omega,by go_num,rfl,F,l.out,by trivial⟩
     case measure=>simp[S2];omega
  ·obtain rfl:b=ps.length:=by omega
   have d:=j.out;rw[Tk] at d;have u:Sb (j4 0 ps=RX a):=d;clear d j;by_cases T:a<n
   ·have k:Sb (j4 0 ps≠RX n):=by
     show _≠_;rw[u.out];simp;omega
    go_wp2_with (go_at_call 97;refine(bN r p s _ v.out).mono ?_;rintro e w' ⟨rfl,rfl⟩)
    exact⟨rfl,rfl,.inr ⟨_,rfl,k.out⟩⟩
   ·obtain rfl:a=n:=by omega
    go_wp2
    go_end0
    exact⟨rfl,.inl ⟨rfl,u.out⟩⟩
theorem jF{k:Int}{s:ByteArray}{p cn:Nat}{L:List az}(m:cn≤100)(hL:L.length=cn)(i:∀ x∈L,VK k x)(a:ag (bytesOf s) p (dZ k L)):
 ∃ (d:List az) (ps:List Nat),d.length≤cn∧(∀ x∈d,VK k x)∧d.Nodup∧ps.length=cn∧j4 0 ps=RX d.length∧ag (bytesOf s) p (ax d.length)∧ag (bytesOf s) (p+(ax d.length).length) (aE k d)∧
  ag (bytesOf s) (p+(ax d.length).length+(aE k d).length) (cX (wid d.length) ps):=by
 obtain⟨c,e,l⟩:=ur L ⟨R6,0,⟨#[]⟩⟩;obtain⟨f,g,h,b⟩:=wH L L.length (R8 _);rw[Tk] at f g h b;unfold dZ at a;rw[an,an] at a;exact⟨(dfold L).1,(dfold L).2,by omega,fun x j=>i x (b x j),c,by omega,e,a.1,a.2.1,a.2.2⟩
theorem vn(k:Int)(a8:k=1∨k=2∨k=3)(s:ByteArray)(r p cn:Nat)(w:R3)(a9:s.size≤Sw)(M:cn≤100)(cd:p≤s.size)(h:w.heap[r]? =RX (bg s p)):
 SF (aa.of RY) 176 #[.pointer (RX ⟨r,0,RZ⟩),.int .i64 k,.int .i64 cn] w fun e w'=>Kp r w w'∧
  ((∃ (d:List az) (v:R2),e= .returned v∧d.length≤cn∧(∀ x∈d,VK k x)∧d.Nodup∧ag (bytesOf s) p (ax d.length)∧ag (bytesOf s) (p+(ax d.length).length) (aE k d)∧
    (∀ D:List az,D.length=d.length→(∀ x∈D,VK k x)→ag (bytesOf s) (p+(ax d.length).length) (aE k D)→D=d)∧p+(ax d.length).length+(aE k d).length≤s.size∧
    w'.heap[r]? =RX (bg s (p+(ax d.length).length+(aE k d).length))∧w'.ownsRow w.heap.size 59 3 v d.length (aC d))∨
   (∃ q,e= .panicked (dU q)∧∀ L:List az,L.length=cn→(∀ x∈L,VK k x)→¬ ag (bytesOf s) p (dZ k L))):=by
 have c0:r<w.heap.size:=Sf h;have ao:Sb (w.heap[r]? =RX (bg s p)):=h;have cx:= @run_makeMap (aa.of RY);clear h;go_enter aa.func176,Tryz.ntmps176
 go_wp2_with fail
 refine(iR r p s _ a9 cd ao.out).mono ?_;rintro e ad ⟨C,⟨c,rfl,ba,bb,b4,a4⟩|⟨q,rfl,G⟩⟩
 ·have i:Sb (Kp r w ad):=C;have I:Sb (ag (bytesOf s) p (ax c)):=bb;have R:Sb (ad.heap[r]? =RX (bg s (p+(ax c).length))):=a4;have P:Sb (c<2147483648):=ba;have be:=C.size;clear C bb a4 ba ao;by_cases cp:cn<c
  ·have j:Sb (∀ L:List az,L.length=cn→(∀ x∈L,VK k x)→¬ ag (bytesOf s) p (dZ k L)):=by
    intro L n o t;obtain⟨d,ab,U,B,J,V,W,l,m,X⟩:=jF M n o t;have:=bT (by omega) (by have:=P.out;omega) l I.out;omega
   go_wp2_with (go_at_call 97;refine(bN r _ s _ R.out).mono ?_;rintro e w' ⟨rfl,rfl⟩)
   exact⟨rfl,i.out,.inr ⟨_,rfl,j.out⟩⟩
  ·go_wp2_with fail
   refine(qI k a8 s r (p+(ax c).length) c _ a9 (by omega) b4 R.out).mono ?_;rintro e b ⟨K,⟨d,v,rfl,b1,a7,bc,bi,ca,a5,Z⟩|⟨q,rfl,G⟩⟩
   ·subst b1;have ae:Sb (∀ x∈d,VK k x):=a7;have bo:Sb (ag (bytesOf s) (p+(ax d.length).length) (aE k d)):=bc;have a0:Sb (∀ D:List az,D.length=d.length→(∀ x∈D,VK k x)→ag (bytesOf s) (p+(ax d.length).length) (aE k D)→D=d):=bi;have ar:Sb (b.heap[r]? =RX (bg s (p+(ax d.length).length+(aE k d).length))):=a5;have A:Sb (Kp r w b):=i.out.trans K;have bl:Sb (b.ownsRow w.heap.size 59 3 v d.length (aC d)):=bn Z be;obtain⟨bs,bt,cf,ck,rfl,g⟩:=qV.cy Z;have br:Sb (sM b bs bt cf d):=g;have f:=World.ownsMap_made b (aa.of RY) 59 (plainElem (H:=Unit) (aa.of RY) 3);have c1:=A.out.size;clear a7 bc bi a5 K Z g i R
    go_wp2_with fail
    go_loopw [28] (fun O wr=>∃ (a c:Nat) (D:DataW Unit),a≤d.length∧c≤a∧O= .int .i64 (a:Int)∧(d.take a).Nodup∧wr.ownsMap (aa.of RY) 59 (plainElem (H:=Unit) (aa.of RY) 3) b.heap.size c D∧Knows D (d.take a)∧Si b.heap.size b wr) (fun O _=>d.length - (S2 O).toNat)
    case atStart=>exact⟨0,0,.map [],SK _,R8 _,rfl,by simp,f,by simpa using Knows.empty,(So _ _).alloc (R8 _) _⟩
    case round=>
     clear f;obtain⟨a,c,D,cu,cR,rfl,z,f,N,E⟩:=hrel;have u:Sb (Si b.heap.size b wr):=E;have bd:b.heap.size≤wr.heap.size:=E.size;have be:b.heap.size+1≤wr.heap.size:=by have:=f.lt;omega
     have H:Sb (d.take a).Nodup:=z;clear z;by_cases y:a<d.length
     ·have g:=br.out.below E;obtain rfl:=g.addr (by omega);have c2:=g.c0 a y;have c3:=g.c1 a y;have c4:=g.c2 a y;have T:Sb (oG d[a]):=(ae.out _ (Sl y)).ok a8;have Y:=EW d[a] T.out;have am:Sb (Knows D (d.take a)):=N;have al:=N.has d[a] T.out;have aw:Sb ((d.take a).length=a):=by show _=_;rw[TO];omega
      have S:Sb (d.take (a+1)=d.take a ++ [d[a]]):=Su y;clear g E N;by_cases F:idx (d.take a) d[a]<(d.take a).length
      ·have j:Sb (∀ L:List az,L.length=cn→(∀ x∈L,VK k x)→¬ ag (bytesOf s) p (dZ k L)):=by
        intro L n o t;obtain⟨bu,ab,U,B,J,V,W,l,m,X⟩:=jF M n o t;have a2:=bT (by omega) (by have:=P.out;omega) l I.out;rw[a2] at m;have bv:=a0.out bu a2 B m;subst bv;have cb:=(rS _ _).1 F;obtain⟨O,cs,a3⟩:=TK cb;rw[TH] at a3;have co:=aw.out;have:=tG J (by omega) y a3;omega
       rw[decide_eq_true F] at al;generalize d[a]=x at*
       go_wp2_with (first
        |(at_lookup;refine wpList_lookup_own_ok_int _ rfl _ _ 229 rfl 59 3 .i64 Nl aa.underlying229 aa.underlying3 (OL _) b.heap.size c D rfl (f.alloc _) _ _ rfl Y ?_;intro a1 bB ce)
        |(go_at_call 97;refine(bN r _ s _ (by rw[SP _ _ r (by omega),u.out.block r (by omega)];exact ar.out)).mono ?_;rintro e w' ⟨rfl,rfl⟩))
       exact⟨rfl,A.out.trans (Kp.bS (u.out.alloc bd _)),.inr ⟨_,rfl,j.out⟩⟩
      ·rw[decide_eq_false F] at al;have Q:Sb (d.take (a+1)).Nodup:=by
        show List.Nodup _;rw[S.out,List.nodup_append];refine⟨H.out,by simp,?_⟩;intro ci bx a1 a6 e;simp at a6;subst a6;subst e;exact F ((rS _ _).2 bx)
       have bm:Sb (Knows (D.put (kl d[a]) (.lit (.int .i64 (a:Int)))) (d.take (a+1))):=by
        have:=am.out.put d[a] T.out F;rw[aw.out] at this;show Knows _ _;rw[S.out];exact this
       have cv:RX wr.heap.size≠RX b.heap.size:=by simp;omega
       have bA:∀ bj:U9,(wr.alloc bj).heap.size=wr.heap.size+1:=fun bj=>by simp
       clear am H S;generalize d[a]=x at*
       go_wp2_with (first
        |(at_lookup;refine wpList_lookup_own_ok_int _ rfl _ _ 229 rfl 59 3 .i64 Nl aa.underlying229 aa.underlying3 (OL _) b.heap.size c D rfl (f.alloc _) _ _ rfl Y ?_;intro a1 bB ce)
        |(at_mapUpdate;refine wpList_mapUpdate_own _ rfl _ _ _ 229 rfl 59 3 Nl aa.underlying229 _ b.heap.size c D rfl (f.alloc _) ?_ _ _ _ rfl rfl Y _ [] (plainElem_int aa.underlying3 (wf_i64 _ (by omega) (by omega))) ?_;(unfold Sw;omega);intro ch cc b3))
       have b0:Si b.heap.size b ch:=(u.out.alloc bd _).grown b3 (by rw[bA];omega) (fun cl b2=>by cases b2;exact R8 _);refine⟨⟨a+1,c+1,_,by omega,by omega,by simp,Q.out,cc,bm.out,b0⟩,by simp[S2];omega⟩
     ·obtain rfl:a=d.length:=by omega
      have z:=H.out;rw[Tk] at z;have Q:Sb d.Nodup:=z;clear z H N E f;go_wp2;go_ret;exact⟨A.out.trans (Kp.bS u.out),.inl ⟨d,_,rfl,by omega,ae.out,Q.out,I.out,bo.out,a0.out,ca,by rw[u.out.block r (by omega)];exact ar.out,aM bl.out u.out⟩⟩
   ·have j:Sb (∀ L:List az,L.length=cn→(∀ x∈L,VK k x)→¬ ag (bytesOf s) p (dZ k L)):=by
     intro L n o t;obtain⟨d,ab,U,B,J,V,W,l,m,X⟩:=jF M n o t;have:=bT (by omega) (by have:=P.out;omega) l I.out;rw[this] at m;exact G d this B m
    have A:Sb (Kp r w b):=i.out.trans K;clear G K i;go_wp2;exact⟨rfl,A.out,.inr ⟨q,rfl,j.out⟩⟩
 ·have j:Sb (∀ L:List az,L.length=cn→(∀ x∈L,VK k x)→¬ ag (bytesOf s) p (dZ k L)):=by
   intro L n o t;obtain⟨d,ab,U,B,J,V,W,l,m,X⟩:=jF M n o t;exact G d.length (by omega) l
  have i:Sb (Kp r w ad):=C;clear G C;go_wp2;exact⟨rfl,i.out,.inr ⟨q,rfl,j.out⟩⟩
def KO(d:List az)(z:az)(q:Nat)(h:q<d.length):d.getD q z=d[q]:=by simp[Wc,h]
theorem Bq(k:Int)(b3:k=1∨k=2∨k=3)(s:ByteArray)(r p cn:Nat)(w:R3)(ca:s.size≤Sw)(O:cn≤100)(cf:p≤s.size)(h:w.heap[r]? =RX (bg s p)):
 SF (aa.of RY) 171 #[.pointer (RX ⟨r,0,RZ⟩),.int .i64 k,.int .i64 cn] w fun e w'=>Kp r w w'∧
  ((∃ (l:List az) (v:R2),e= .returned v∧l.length=cn∧(∀ x∈l,VK k x)∧ag (bytesOf s) p (dZ k l)∧(∀ L:List az,L.length=cn→(∀ x∈L,VK k x)→ag (bytesOf s) p (dZ k L)→L=l)∧p+(dZ k l).length≤s.size∧
    w'.heap[r]? =RX (bg s (p+(dZ k l).length))∧w'.ownsRow w.heap.size 59 3 v l.length (aC l))∨
   (∃ q,e= .panicked (dU q)∧∀ L:List az,L.length=cn→(∀ x∈L,VK k x)→¬ ag (bytesOf s) p (dZ k L))):=by
 obtain⟨c0,g,ec,cu,ee⟩:=TB aa.oU;have d8:r<w.heap.size:=Sf h;have bb:Sb (w.heap[r]? =RX (bg s p)):=h;clear h;go_enter aa.func171,Tryz.ntmps171
 go_wp2_with fail
 refine(vn k b3 s r p cn _ ca O cf bb.out).mono ?_;rintro e C ⟨M,⟨a,v,rfl,d4,bB,cb,ci,ck,co,b4,bx,ar⟩|⟨q,rfl,i⟩⟩
 ·have y:Sb (Kp r w C):=M;have V:Sb (ag (bytesOf s) p (ax a.length)):=ci;have dq:Sb (ag (bytesOf s) (p+(ax a.length).length) (aE k a)):=ck;have W:Sb (∀ D:List az,D.length=a.length→(∀ x∈D,VK k x)→ag (bytesOf s) (p+(ax a.length).length) (aE k D)→D=a):=co;have bc:Sb (C.heap[r]? =RX (bg s (p+(ax a.length).length+(aE k a).length))):=bx;have c7:Sb (∀ x∈a,VK k x):=bB;have dk:Sb a.Nodup:=cb;have ba:Sb (C.ownsRow w.heap.size 59 3 v a.length (aC a)):=ar;have e4:=M.size;obtain⟨a5,c1,rfl⟩:=zY ar;have H:Sb (p+(ax a.length).length+(aE k a).length≤s.size):=b4;generalize bv:p+(ax a.length).length+(aE k a).length=f at*;have G:Sb (p+(ax a.length).length+(aE k a).length=f):=bv;have du:Sb (∀ w,SF (aa.of RY) 158 #[.int .i64 (a.length:Int)] w fun e w'=>e= .returned (.int .i64 (wid a.length))∧w'=w):=fun w=>D7 a.length (by omega) w;clear M ci ck co bx bB cb ar bb bv b4;have cs:=BV a.length
  go_wp2_with (go_at_call 158;refine(du.out _).mono ?_;rintro e w' ⟨rfl,o⟩;rw[o];clear o w')
  refine(xR s r f (wid a.length) cn _ ca (by omega) O H.out bc.out).mono ?_;rintro e d ⟨N,⟨rfl,A,bA,cc⟩|⟨q,rfl,i⟩⟩
  ·have dr:Sb (ag (bytesOf s) f (cX (wid a.length) (D (wid a.length) (dA s f) cn))):=zk s f _ cn H.out A;have ds:Sb (∀ b:List Nat,b.length=cn→(∀ x∈b,x<2 ^ wid a.length)→ag (bytesOf s) f (cX (wid a.length) b)→b=D (wid a.length) (dA s f) cn):=by
    intro b K bt d1;have:=(k5 s f _ b H.out bt d1).2;rw[K] at this;exact this.symm
   have aw:(D (wid a.length) (dA s f) cn).length=cn:=oC _ _ _;have ch:∀ q∈D (wid a.length) (dA s f) cn,q<65536:=fun q B=>by
    have K:=OM _ _ _ q B;have bt:2 ^ wid a.length≤2 ^ 7:=Uf (by omega) cs;omega
   generalize D (wid a.length) (dA s f) cn=b at*;have R:(jb b).length=cn:=by rw[← aw];simp[jb]
   have z:Sb (b.length=cn):=aw;have dp:Sb (∀ q∈b,q<65536):=ch;have U:Sb (qx d (.slice (RX ⟨C.heap.size,0,RZ⟩) cn cn) (jb b)):=qx.cy (by rw[R];exact cc);have E:Sb (Kp r w d):=y.out.trans N;have dl:Sb (d.ownsRow w.heap.size 59 3 (.slice a5 a.length c1) a.length (aC a)):=N.own ba.out d8;have bd:Sb (d.heap[r]? =RX (bg s (f+(cn*wid a.length+7) / 8))):=bA;have eb:=E.out.size;clear N bA cc A y ba bc aw ch R;generalize bu:f+(cn*wid a.length+7) / 8=X at*;have df:Sb (f+(cn*wid a.length+7) / 8=X):=bu;clear bu cs
   go_wp2_with fail
   refine(vg s r X a.length _ b _ (by omega) (by rw[z.out];omega) dp.out U.out bd.out).mono ?_;rintro e w' ⟨o,⟨rfl,n⟩|⟨q,rfl,i⟩⟩
   ·rw[o];clear o w';have et:Sb (j4 0 b=RX a.length):=n;have a9:Sb _:=Ib b3 (s:=s) (p:=p) (cn:=cn) (n:=a.length) (d:=a) (ps:=b) ⟨R6,0,⟨#[]⟩⟩ O d4 rfl c7.out dk.out z.out n V.out dq.out (by rw[G.out];exact dr.out) W.out (by rw[G.out];exact H.out);have dd:Sb (∀ c,(g:c<b.length)→b[c]<a.length):=fun c g=>td n _ (Sl g);clear n;have bi:Sb (qV d (.slice a5 a.length c1) a):=qV.cy dl.out;obtain⟨e5,Q,T,e6,cv,a2,a3,a4⟩:=U.out;simp only[Uq] at cv;obtain⟨cx,cR,ef⟩:=cv;rw[← cR] at a2 a3 a4;have da:Sb (∀ c,(g:c<b.length)→d.cell? ⟨Q,T+c,RZ⟩=RX (.int .i64 (b[c]:Int))):=fun c g=>by
     have K:=a4 c (by rw[← z.out];exact g);have R:(jb b).length=b.length:=by simp[jb]
     rw[eJ (by rw[R];exact g)] at K;simpa [jb] using K
    have c9:Sb (0<cn→Q<d.heap.size):=a3;have c8:Sb (0<cn→(RX (⟨C.heap.size,0,RZ⟩:SL))=RX ⟨Q,T,RZ⟩):=fun d0=>by rw[cx];exact a2 d0
    obtain⟨eQ,dC,el,e0,c2,cp⟩:=bi.out;simp only[Uq] at c2;obtain⟨rfl,_,rfl⟩:=c2;have dt:Sb (sM d a5 dC el a):=cp;clear a2 a3 a4 cp bi U cx cR ef
    go_wp2_with (at_make;refine Ui _ rfl _ _ 43 rfl d.heap.size 59 c0 _ 3 aa.underlying43 g ec cu .i64 .i64 _ cn rfl rfl rfl (by rw[ee];omega) (by unfold Sw;omega) (R8 _) ?_;intro er cd b1)
    have a8:Sb (Si d.heap.size d er):=(So _ _).grown b1 (R8 _) (by simp);clear b1
    go_loopw [9,31] (fun eh a1 wr=>∃ c:Nat,c≤cn∧a1= .int .i64 (c:Int)∧eh= .slice (RX ⟨d.heap.size,0,RZ⟩) c cn∧wr.ownsRow d.heap.size 59 3 (.slice (RX ⟨d.heap.size,0,RZ⟩) c cn) c (aC ((b.take c).map fun q=>a.getD q ⟨R6,0,⟨#[]⟩⟩))∧Si d.heap.size d wr) (fun _ a1 _=>cn - (S2 a1).toNat)
    case atStart=>exact⟨0,SK _,rfl,rfl,by simpa [aC] using cd,a8.out⟩
    case round=>
     clear cd a8;obtain⟨c,e2,rfl,rfl,S,al⟩:=hrel;have u:Sb (Si d.heap.size d wr):=al;have d9:=al.size;clear al;by_cases d7:c<cn
     ·have ao:c<b.length:=by rw[z.out];exact d7
      have B:=dd.out c ao;have b0:=c8.out (by omega);have d6:=c9.out (by omega);have n:wr.cell? ⟨Q,T+c,RZ⟩=RX (.int .i64 (b[c]:Int)):=(u.out.cell (p:=⟨Q,T+c,RZ⟩) d6).trans (da.out c ao);have P:=dt.out.below u.out;obtain rfl:=P.addr (by omega);have em:=P.c0 b[c] B;have en:=P.c1 b[c] B;have eo:=P.c2 b[c] B;have be:Sb (∀ x:az,a[b[c]]=x→aC ((b.take c).map fun q=>a.getD q ⟨R6,0,⟨#[]⟩⟩) ++ [.bool x.null,.int .i64 x.n,.string x.s]=aC ((b.take (c+1)).map fun q=>a.getD q ⟨R6,0,⟨#[]⟩⟩)):=by
       intro x t;rw[Su ao,Tb,Ug,← ew,KO a _ _ B,t]
      simp only[Ts,U6] at b0;obtain⟨d2,d3,_⟩:=b0;subst d2;subst d3;rw[SZ] at n;generalize t:a[b[c]]=x at*;have bj:=be.out x rfl;have dv:Sb _:=bj;clear bj be t P;generalize b[c]=q at*
      go_wp2_with (at_builtin;refine TJ _ rfl _ _ 43 rfl d.heap.size 59 c0 3 aa.underlying43 g cu d.heap.size c cn _ rfl (S.alloc _) ⟨wr.heap.size,0,RZ⟩ 1 1 [.bool x.null,.int .i64 x.n,.string x.s] rfl rfl (by exact js _ _ _ _ _) (gT x) (by omega) ?_;intro es ce b2)
      have c6:Sb (Si d.heap.size d es):=(u.out.alloc d9 _).grown b2 (by simp;omega) (by intro e1 d5;simp at d5;omega);rw[dv.out] at ce;clear S b2 u n em en eo;go_wp2
      go_roundw
      case rel=>exact⟨c+1,by omega,by go_num,rfl,ce,c6.out⟩
      case measure=>simp[S2];omega
     ·obtain rfl:c=cn:=by omega
      have cl:b.take c=b:=Tj (by rw[z.out];omega);rw[cl] at S;obtain⟨bl,bm,bo,br,bs⟩:=a9.out;have a6:Sb _:=bl;have c3:Sb _:=bm;have c4:Sb _:=bo;have a7:Sb _:=br;have c5:Sb _:=bs;clear bl bm bo br bs a9 cl;have db:Sb (p+(dZ k (b.map fun q=>a.getD q ⟨R6,0,⟨#[]⟩⟩)).length=X):=by
       show _=_;rw[c4.out,Sc,Sc,fo,z.out,← Td,← Td,G.out,df.out]
      have dc:Sb (p+(dZ k (b.map fun q=>a.getD q ⟨R6,0,⟨#[]⟩⟩)).length≤s.size):=by
       have:=fO a7.out (by rw[ai];exact cf);rwa [ai] at this
      generalize e3:(b.map fun q=>a.getD q ⟨R6,0,⟨#[]⟩⟩)=l at*;go_wp2;go_ret;exact⟨E.out.trans (Kp.bS u.out),.inl ⟨l,_,rfl,a6.out,c3.out,a7.out,c5.out,dc.out,by rw[db.out,u.out.block r (by omega)];exact bd.out,by rw[a6.out];exact bn S eb⟩⟩
   ·have F:Sb (∀ L:List az,L.length=cn→(∀ x∈L,VK k x)→¬ ag (bytesOf s) p (dZ k L)):=by
     intro L am A a0;obtain⟨Y,eq,dO,ab,dT,ad,j,ae,J,m⟩:=jF O am A a0;have I:=bT (by omega) (by omega) ae V.out;rw[I] at J m j;have Z:=W.out Y I ab J;rw[Z,G.out] at m;have dE:=ds.out eq ad (fun x t=>yK _ (by omega) x (td j x t)) m;rw[dE] at j;exact i j
    rw[o];clear i o w';go_wp2;exact⟨rfl,E.out,.inr ⟨q,rfl,F.out⟩⟩
  ·have F:Sb (∀ L:List az,L.length=cn→(∀ x∈L,VK k x)→¬ ag (bytesOf s) p (dZ k L)):=by
    intro L am A a0;obtain⟨Y,b,dO,ab,dT,ad,j,ae,J,m⟩:=jF O am A a0;have I:=bT (by omega) (by omega) ae V.out;rw[I] at J m j;have Z:=W.out Y I ab J;rw[Z,G.out] at m;have:=(k5 s f (wid a.length) b H.out (fun x t=>yK _ (by omega) x (td j x t)) m).1;rw[ad] at this;exact i this
   have E:Sb (Kp r w d):=y.out.trans N;clear i N y;go_wp2;exact⟨rfl,E.out,.inr ⟨q,rfl,F.out⟩⟩
 ·have F:Sb (∀ L:List az,L.length=cn→(∀ x∈L,VK k x)→¬ ag (bytesOf s) p (dZ k L)):=i;have y:Sb (Kp r w C):=M;clear i M;go_wp2;exact⟨rfl,y.out,.inr ⟨q,rfl,F.out⟩⟩
end Ec
end Go.Proofs.YtjidbonhhpkljaaGreat
