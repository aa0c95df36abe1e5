/- What the proof stands on, in short names. -/
import Derived.Test.YtjidbonhhpkljaaGreatMd
import Derived.OpenShut
import Derived.Deep.Slices
import Derived.Deep.Strs
import Derived.SizedLaws
set_option linter.all false
open Array renaming getD_eq_getD_getElem? → SH, getElem?_eq_none → Tg, getElem?_eq_some_iff → R9, getElem?_push → SN, getElem?_setIfInBounds → SQ, length_toList → T5, range → VA, replicate → S8, size_push → TP
open Bool renaming and_eq_true → Sz, false → R6, false_eq_true → SD, not_eq_true' → Ve, true → R7
open Classical renaming byContradiction → TY, choose → Tt, choose_spec → Sp
open False renaming elim → VP
open Go renaming Act → T6, Addr → SL, Calls → SF, Code → U7, Ending → UQ, Frame → Sn, Func → UB, FuncId → T1, Item → UC, Obj → U9, Oper → Tx, Operand → S3, Program → Sd, TypeId → Sg, TypeInfo → UL, Value → R2, World → R3, bodyPost → TT, execOp → SE, heap_setCell_other → Sv, heap_setCell_same → Sq, info_parts → TB, lt_of_block → Sf, maxLen → Sw, results → SX, sizeOf → V3, typeInfo → UX, undef → Tq, wpList_append_fits → TJ, yielded → Tc, zeroValue → T9
open Go.Act renaming put → Sy
open Go.Addr renaming add → V8, add_lit → TW, add_mid → Vl
open Go.Addr.mk renaming injEq → U6
open Go.ByteArray renaming toList_eq → Vi
open Go.Conc renaming G → Se
open Go.Ending.returned renaming inj → Vj
open Go.Frame renaming enter → SW, finish → TX, round → UJ
open Go.Instr renaming buildSlice → UK, fill → Vh
open Go.Lib renaming compareBytes → S9
open Go.Proofs.Tryz renaming f13 → TS, f26 → We, f5 → VX, f53 → Ue, f54 → US, f78 → S0, f79 → Up, isAgg3 → V2, prog → RY, sizeOf3 → VD, underlying115 → Uu, underlying139 → T2, underlying160 → Uv
open Go.Region renaming binds → Tn, wanted → SI
open Go.Region.linearise renaming go → S5
open Go.RowKit renaming Below → Si, Hid → Sb, intOf → S2
open Go.RowKit.Below renaming heap_alloc → SP, refl → So
open Go.Sem renaming runT_eq → VN
open Go.Value renaming cells → Uw, int → T7, ownBlock → TQ, slice → Te
open Go.Value.slice renaming injEq → Uq
open Go.World renaming cell? → Sr, frozen? → S4, ownsRow_nil → Ur
open List renaming all_eq_true → SC, append_assoc → SG, append_nil → Uy, eq_nil_of_length_eq_zero → TA, getD_eq_getElem?_getD → Sj, getElem?_append_left → Ty, getElem?_append_right → To, getElem?_eq_getElem → Sk, getElem?_eq_some_iff → SA, getElem?_take → T3, getElem_map → Vq, getElem_mem → Sl, getElem_of_mem → TK, getElem_take → TH, length_append → Sc, length_map → SV, map_append → Tb, map_cons → U8, mem_append → S7, mem_cons → TE, mem_map → Tu, mem_of_getElem? → TD, mem_range → TC, not_mem_nil → Vr, range → SS, range_succ → Vz, setIfInBounds_toArray → R1, set_cons_succ → R4, set_cons_zero → R5, take_append_drop → UG, take_of_length_le → Tj, take_succ_eq_append_getElem → Su
open Nat renaming add_assoc → Td, eq_zero_or_pos → Ux, le_refl → R8, le_trans → Ss, lt_of_lt_of_le → Sa, lt_or_ge → TF, mul_one → VO, zero_add → SZ, zero_le → SK
open Option renaming getD_some → UA, map_some → TU, none → RZ, some → RX
open Option.some renaming inj → VT, injEq → Ts
open Prod renaming fst → SB, snd → T4
set_option maxRecDepth 100000
set_option maxHeartbeats 8000000
namespace Go.Proofs.YtjidbonhhpkljaaGreat
namespace Cc
open Go Go.Conc
open Ec (az aC)
open Go.RowKit (Below)
structure yM(S O:Nat→Prop)(w0 w:R3)(N cb n cap kb nk ck eb ne ce:Nat)(x:R2)(wb gW:Nat)(ws:List Bool)(V:Nat→List az)(ch g:Nat→Nat)(bb fb ct lb i:Nat)(kD:Bool)(μ:Nat→Option (List R2))(a:T6):Prop where
 kn:Knows a 73 [(42,.int .i64 (i:Int)),(41,.int .i64 (ws.length:Int)),(8,.slice (RX ⟨ct,0,RZ⟩) ws.length ws.length),(7,.bool kD),(6,.slice (RX ⟨lb,0,RZ⟩) ws.length ws.length),(3,.pointer (RX ⟨bb,0,RZ⟩)),(2,.slice (RX ⟨wb,0,RZ⟩) ws.length gW)]
 df:a.defers=[]
 own:ql S O w0 w N cb n cap kb nk ck eb ne ce x bb fb
 oc:O ct
 hc:w.heap[ct]? =RX (.cells (dW ws ch ws.length).toArray 193 (0,0))
 ol:O lb
 ll:w0.heap.size≤lb
 nb:lb≠bb
 nf:lb≠fb
 nc:lb≠ct
 hl:w.heap[lb]? =RX (.cells (eB ws g V N i).toArray 43 (0,0))
 rows:∀ j,j<i→ws[j]? =RX R7→Row w (g j) N (V j)∧O (g j)∧g j≠lb∧w0.heap.size≤g j
 RA:Qj O w ws V ch i ws.length μ
 ok:kD=R7↔∀ j,j<i→ws[j]? =RX R7→(V j).length=N
section
variable {S O:Nat→Prop}{w0 w w':R3}{s:Nat→ByteArray}{k e:Nat→Int}{N cb n cap kb nk ck eb ne ce wb gW:Nat}{x:R2}{ws:List Bool}{V:Nat→List az}{ch g:Nat→Nat}{bb fb ct lb i:Nat}{μ:Nat→Option (List R2)}{a:T6}{Post:R2→R3→Prop}{cs:List Sn}{kD:Bool}
theorem Jv(l:Eh S w0 s k e N cb n kb nk eb ne wb ws V)(h:yM S O w0 w N cb n cap kb nk ck eb ne ce x wb gW ws V ch g bb fb ct lb i kD μ a)(p:ws[i]? =RX R6)
 (E:∀ a',yM S O w0 w N cb n cap kb nk ck eb ne ce x wb gW ws V ch g bb fb ct lb (i+1) kD μ a'→jz (aa.of RY) RY Post S O μ (Se ((base 78).at a' [.code (mI S0),.inLoop (mI S0),.inBlock 2,.code (EK S0)]) cs) w):
 jz (aa.of RY) RY Post S O μ (Se ((base 78).at a [.code (mI S0),.inLoop (mI S0),.inBlock 2,.code (EK S0)]) cs) w:=by
 obtain⟨b,B,r,J,C,L,F,G,I,H,D,M,m,K⟩:=h;have c:=dn (aa.of RY) RY Post S μ;have o:i<ws.length:=(SA.1 p).1;have Q:=l.mm;refine aH c ?_;refine aU c [0] rfl ?_;refine cP c b rfl (.bool R7) (iH rfl (b.of rfl) (b.of rfl) (by simp;omega)) fun b=>?_;refine aj c ?_;refine aH c ?_;refine cJ c R7 (b.of rfl) ?_;refine gu c ?_;refine aH c ?_;refine fF c ?_;refine aH c ?_;refine aU c [0,1] rfl ?_;refine bV c b fun b=>?_;refine fE c b fun b=>?_;refine aj c ?_;refine aH c ?_;refine aU c [0,1,2,3] rfl ?_;refine bV c b fun b=>?_;refine bV c b fun b=>?_;refine cP c b rfl (.pointer (RX ⟨wb,0+i*1,RZ⟩)) (eK rfl (b.of rfl) (b.of rfl) Uv Tryz.sizeOf4 o) fun b=>?_;refine qo c b rfl (.bool R6) (bK rfl (b.of rfl) Tryz.isAgg4 (r.low wb l.wl) ((r.Ge.cell (p:=⟨wb,0+i*1,RZ⟩) l.wl).trans (l.wc i _ p))) fun b=>?_;refine aj c ?_;refine cJ c R6 (b.of rfl) ?_;refine gu c ?_;refine gL c ?_;refine aU c [0,1] rfl ?_;refine cP c b rfl (.int .i64 ((i+1:Nat):Int)) (mV (j:=1) rfl (b.of rfl) rfl (by omega)) fun b=>?_;refine bV c b fun b=>?_;refine aj c ?_;refine j3 c ?_;have v:ws[i]? ≠RX R7:=by rw[p];simp
 have q:∀ d,ws[d]? =RX R7→d≠i:=fun d j e=>v (e▸j);refine E _ ⟨((((((b.nil.cons (b.slot 2 _ rfl)).cons (b.slot 3 _ rfl)).cons (b.slot 6 _ rfl)).cons (b.slot 7 _ rfl)).cons (b.slot 8 _ rfl)).cons (b.slot 41 _ rfl)).cons (b.slot 42 _ rfl),by simp only[put_defers];exact B,r,J,C,L,F,G,I,H,by rw[A7 v];exact D,fun d o j=>M d (by have:=q d j;omega) j,⟨fun d P o j=>m.mu d (by omega) o j,fun y A=>?_,m.inj,m.lt⟩,?_⟩
 ·obtain⟨d,t,f,u,z⟩:=m.no y A;exact⟨d,by have:=q d u;omega,f,u,z⟩
 ·rw[K];constructor
  ·intro h d t f;exact h d (by have:=q d f;omega) f
  ·intro h d t f;exact h d (by omega) f
theorem FV(B:Eh S w0 s k e N cb n kb nk eb ne wb ws V)(h:yM S O w0 w N cb n cap kb nk ck eb ne ce x wb gW ws V ch g bb fb ct lb i kD μ a)(p:ws[i]? =RX R7)
 (a6:∀ D w' a' g' bj am,yM S D w0 w' N cb n cap kb nk ck eb ne ce x wb gW ws V ch g' bb fb ct lb (i+1) bj am a'→jz (aa.of RY) RY Post S D am (Se ((base 78).at a' [.code (mI S0),.inLoop (mI S0),.inBlock 2,.code (EK S0)]) cs) w'):
 jz (aa.of RY) RY Post S O μ (Se ((base 78).at a [.code (mI S0),.inLoop (mI S0),.inBlock 2,.code (EK S0)]) cs) w:=by
 obtain⟨b,a2,z,F,T,G,W,X,Z,Y,a5,bc,v,a8⟩:=h;have c:=dn (aa.of RY) RY Post S μ;have t:i<ws.length:=(SA.1 p).1;have bt:=B.mm;refine aH c ?_;refine aU c [0] rfl ?_;refine cP c b rfl (.bool R7) (iH rfl (b.of rfl) (b.of rfl) (by simp;omega)) fun b=>?_;refine aj c ?_;refine aH c ?_;refine cJ c R7 (b.of rfl) ?_;refine gu c ?_;refine aH c ?_;refine fF c ?_;refine aH c ?_;refine aU c [0,1] rfl ?_;refine bV c b fun b=>?_;refine fE c b fun b=>?_;refine aj c ?_;refine aH c ?_;refine aU c [0,1,2,3] rfl ?_;refine bV c b fun b=>?_;refine bV c b fun b=>?_;refine cP c b rfl (.pointer (RX ⟨wb,0+i*1,RZ⟩)) (eK rfl (b.of rfl) (b.of rfl) Uv Tryz.sizeOf4 t) fun b=>?_;refine qo c b rfl (.bool R7) (bK rfl (b.of rfl) Tryz.isAgg4 (z.low wb B.wl) ((z.Ge.cell (p:=⟨wb,0+i*1,RZ⟩) B.wl).trans (B.wc i _ p))) fun b=>?_;refine aj c ?_;refine cJ c R7 (b.of rfl) ?_;refine aH c ?_;have bi:=v.mu i (R8 _) t p;have a1:w.cell? ⟨ct,0+i*1,RZ⟩=RX (.chan (RX (ch i))):=by
  unfold Sr;simp only[T,SZ,VO];have:=lP (ws:=ws) (ch:=ch) (i:=ws.length) t;rw[if_pos ⟨t,p⟩] at this;simpa using this
 refine Ck (c:=ch i) (l0:=[(42,.int .i64 (i:Int)),(41,.int .i64 (ws.length:Int)),(7,.bool kD),(2,.slice (RX ⟨wb,0,RZ⟩) ws.length gW)]) B p ((((((((b.nil.cons (b.slot 2 _ rfl)).cons (b.slot 7 _ rfl)).cons (b.slot 41 _ rfl)).cons (b.slot 42 _ rfl)).cons (b.slot 3 _ rfl)).cons (b.slot 6 _ rfl)).cons (b.slot 8 _ rfl)).cons (b.slot 10 _ rfl)) z F a1 bi G a5 (by simp[dx]) fun D bu al q a' br ba Q l u j a3=>?_;have c:=dn (aa.of RY) RY Post S (fp μ (ch i) RZ);have a9:=z.Qv l;have H:=a9.set u X Z W;have bs:=z.inr lb (.inr G);have ar:(eB ws g V N i).toArray.toList.take i ++ [Te (RX ⟨q,0,RZ⟩) (V i).length N] ++ (eB ws g V N i).toArray.toList.drop (i+1)=eB ws (fun d=>if d=i then q else g d) V N (i+1):=by
  rw[← CU p q]
 rw[ar] at u;have U:=u.set;have a0:al.cell? ⟨lb,0+i*1,RZ⟩=RX (.slice (RX ⟨q,0,RZ⟩) (V i).length N):=by
  unfold Sr;simp only[U,SZ,VO];have:=lV (ws:=ws) (g:=fun d=>if d=i then q else g d) (V:=V) (N:=N) (i:=i+1) t;simp[p] at this;simpa using this
 have be:=u.size;have bd:=l.rel.size;refine C9 (l0:=[(42,.int .i64 (i:Int)),(41,.int .i64 (ws.length:Int)),(8,.slice (RX ⟨ct,0,RZ⟩) ws.length ws.length),(2,.slice (RX ⟨wb,0,RZ⟩) ws.length gW)]) t ((((((((j.nil.cons (j.slot 2 _ rfl)).cons (j.slot 8 _ rfl)).cons (j.slot 41 _ rfl)).cons (j.slot 42 _ rfl)).cons (j.slot 3 _ rfl)).cons (j.slot 6 _ rfl)).cons (j.slot 10 _ rfl)).cons (j.slot 7 _ rfl)) H.inr (l.sub lb G) H.ob a0 (by unfold Sr;simp only[H.hb];rfl) fun ao ad o a7 a4=>?_;have y:∀ C,Po.contains C=R6→∀ J,(ad ++ J).lookup C=J.lookup C:=fun C ab J=>by
  rw[List.lookup_append];cases e:ad.lookup C with
  |none=>rfl
  |some bv=>
   have:=fU e;rw[a7] at this;have:=List.contains_iff_mem.2 this;rw[this] at ab;cases ab
 have f:Knows ao 73 [(42,.int .i64 (i:Int)),(41,.int .i64 (ws.length:Int)),(8,.slice (RX ⟨ct,0,RZ⟩) ws.length ws.length),(7,.bool (kD && (((V i).length:Int) == (N:Int)))),(6,.slice (RX ⟨lb,0,RZ⟩) ws.length ws.length),(3,.pointer (RX ⟨bb,0,RZ⟩)),(2,.slice (RX ⟨wb,0,RZ⟩) ws.length gW)]:=
  ((((((o.nil.cons (o.slot 2 _ (y 2 rfl _))).cons (o.slot 3 _ (y 3 rfl _))).cons (o.slot 6 _ (y 6 rfl _))).cons (o.slot 7 _ rfl)).cons (o.slot 8 _ (y 8 rfl _))).cons (o.slot 41 _ (y 41 rfl _))).cons (o.slot 42 _ (y 42 rfl _))
 clear o j b;refine gL c ?_;refine aU c [0,1] rfl ?_;refine cP c f rfl (.int .i64 ((i+1:Nat):Int)) (mV (j:=1) rfl (f.of rfl) rfl (by omega)) fun f=>?_;refine bV c f fun f=>?_;refine aj c ?_;refine j3 c ?_;have R:q≠lb:=by omega
 refine a6 D al _ (fun d=>if d=i then q else g d) _ _ ⟨((((((f.nil.cons (f.slot 2 _ rfl)).cons (f.slot 3 _ rfl)).cons (f.slot 6 _ rfl)).cons (f.slot 7 _ rfl)).cons (f.slot 8 _ rfl)).cons (f.slot 41 _ rfl)).cons (f.slot 42 _ rfl),by simp only[put_defers];rw[a4,a3];simp only[put_defers];exact a2,H,l.sub ct F,?_,l.sub lb G,W,X,Z,Y,U,fun d r m=>?_,⟨fun d bo r m=>?_,fun L I=>?_,v.inj,fun d r m=>?_⟩,?_⟩
 ·rw[u.at_ ct (.inr (l.sub ct F)) (fun e=>Y e.symm),l.rel.at_ ct (.inr F)];exact T
 ·by_cases e:d=i
  ·subst e;simp only[if_true];have:=z.Ge.size;exact⟨ba.same (u.at_ q (.inr Q) R),Q,R,by omega⟩
  ·obtain⟨bl,K,ae,bm⟩:=bc d (by omega) m;simp only[if_neg e];exact⟨(bl.same (l.rel.at_ _ (.inr K))).same (u.at_ _ (.inr (l.sub _ K)) ae),l.sub _ K,ae,bm⟩
 ·have E:ch d≠ch i:=fun e=>by have:=v.inj d i r t m p e;omega
  simp only[fp,E,if_false];exact v.mu d (by omega) r m
 ·have E:L≠ch i:=fun e=>I (by simp[fp,e]);simp only[fp,E,if_false] at I;obtain⟨d,A,M,aw,P⟩:=v.no L I;exact⟨d,by rcases TF i d with h|h;exact h;have:d=i:=(by omega);subst this;exact absurd P.symm E,M,aw,P⟩
 ·exact Sa (v.lt d r m) (Ss bd be)
 ·rw[Sz,a8,beq_iff_eq];constructor
  ·rintro⟨A,M⟩ d r m;by_cases e:d=i
   ·subst e;omega
   ·exact A d (by omega) m
  ·intro A;exact⟨fun d r m=>A d (by omega) m,by have:=A i (by omega) p;omega⟩
end
def AR(ws:List Bool)(ch:Nat→Nat):(dW ws ch 0).toArray=madeCells #[.chan RZ] (ws.length*1):=by
 apply Array.toList_inj.1;rw[toList_madeCells_one,VO];refine List.ext_getElem (by simp[dj]) fun f b d=>?_;simp[dW]
def A8(ws:List Bool)(g:Nat→Nat)(V:Nat→List az)(N:Nat):(eB ws g V N 0).toArray=madeCells #[.slice RZ 0 0] (ws.length*1):=by
 apply Array.toList_inj.1;rw[toList_madeCells_one,VO];refine List.ext_getElem (by simp[dx]) fun f b d=>?_;simp[eB]
def lS{P0:Sd}{c:Sn}(h:ed P0 c [])(v:R2):ed P0 (c.finish v) []:=⟨(eF h.top v).1,fun f b=>by simp at b,(eF h.top v).2.trans h.bot⟩
def gp{P0 P:Sd}{S:Nat→Prop}{m:Bool}{d:(Nat→Prop)→Sn→List Sn→R3→Prop}{own:Nat→Prop}{cs:List Sn}{w:R3}{b:Sn}{a:T6}(f:mW P0 P S m d){fn:UB}{todo:List UC}{c:Sn}{v:R2}(p:b.kind= .normal)(h:a.defers=[])(l:P.funcs[b.fn]? =RX fn)(q:∀ w,(SX fn a.tmps).run P w= .ok v w)(j:∀ w,(SX fn a.tmps).events P w #[]=#[])
 (o:d own (c.finish v) cs w):d own {b.at a todo with mode:=.returning} (c :: cs) w:=jZ f (fun w=>stepG_leave p h l (q w) (j w)) o
theorem RM(v0 v1 v2:R2)(m:Nat)(j:3≤m):Knows ⟨#[v0,v1,v2] ++ S8 (m - 3) Tq,[]⟩ m [(0,v0),(1,v1),(2,v2)]:=by
 have b:∀ d v,(#[v0,v1,v2]:Array R2)[d]? =RX v→aN ⟨#[v0,v1,v2] ++ S8 (m - 3) Tq,[]⟩ d=v:=fun d v f=>by
  unfold aN;rw[SH,Array.getElem?_append_left (R9.1 f).1,f];rfl
 refine Knows.cons (Knows.cons (Knows.cons (l:=[]) ⟨?_,fun s v h=>by simp at h⟩ (b 2 v2 rfl)) (b 1 v1 rfl)) (b 0 v0 rfl);simp;omega
def P6:∃ i,RY.info? 193=RX i∧i.zero=RX (.chan RZ)∧i.size=1∧i.bytes=8:=⟨Tryz.t193,by kernel_rfl,rfl,rfl,rfl⟩
def MI:∃ i,RY.info? 43=RX i∧i.zero=RX (.slice RZ 0 0)∧i.size=1∧i.bytes=24:=⟨Tryz.t43,by kernel_rfl,rfl,rfl,rfl⟩
section
variable {S O:Nat→Prop}{w0 w w':R3}{s:Nat→ByteArray}{k e:Nat→Int}{N cb n cap kb nk ck eb ne ce wb gW:Nat}{x:R2}{ws:List Bool}{V:Nat→List az}{ch g:Nat→Nat}{bb fb ct lb i:Nat}{μ:Nat→Option (List R2)}{a:T6}{Post:R2→R3→Prop}{cs:List Sn}{kD:Bool}{c:Sn}
theorem Mg(h:yM S O w0 w N cb n cap kb nk ck eb ne ce x wb gW ws V ch g bb fb ct lb ws.length kD μ a)
 (j:jz (aa.of RY) RY Post S O μ (Se (c.finish (.tuple #[.slice (RX ⟨lb,0,RZ⟩) ws.length ws.length,.bool kD])) cs) w):
 jz (aa.of RY) RY Post S O μ (Se ((base 78).at a [.code (mI S0),.inLoop (mI S0),.inBlock 2,.code (EK S0)]) (c :: cs)) w:=by
 have d:=h.kn;have b:=dn (aa.of RY) RY Post S μ;refine aH b ?_;refine aU b [0] rfl ?_;refine cP b d rfl (.bool R6) (iH rfl (d.of rfl) (d.of rfl) (by simp)) fun d=>?_;refine aj b ?_;refine aH b ?_;refine cJ b R6 (d.of rfl) ?_;refine sX b (k':=[.code (EK S0)]) rfl ?_;refine aH b ?_;refine aU b [0,1,2,3] rfl ?_;refine bV b d fun d=>?_;refine bV b d fun d=>?_;refine fE b d fun d=>?_;refine fE b d fun d=>?_;refine aj b ?_;refine om b ?_;have f:=fN (P:=RY) Tryz.results78 (d.slot 6 _ rfl) (d.slot 7 _ rfl);exact gp b rfl (by simp only[put_defers];exact h.df) Tryz.func78 f.1 f.2 j
theorem Ju(j:Eh S w0 s k e N cb n kb nk eb ne wb ws V)(t:∀ O w a g kD μ,yM S O w0 w N cb n cap kb nk ck eb ne ce x wb gW ws V ch g bb fb ct lb ws.length kD μ a→jz (aa.of RY) RY Post S O μ (Se (c.finish (.tuple #[.slice (RX ⟨lb,0,RZ⟩) ws.length ws.length,.bool kD])) cs) w):
 ∀ (d i:Nat),i+d=ws.length→∀ O w a g kD μ,yM S O w0 w N cb n cap kb nk ck eb ne ce x wb gW ws V ch g bb fb ct lb i kD μ a→
 jz (aa.of RY) RY Post S O μ (Se ((base 78).at a [.code (mI S0),.inLoop (mI S0),.inBlock 2,.code (EK S0)]) (c :: cs)) w:=by
 intro d
 induction d with
 |zero=>
  intro i r O w a g kD μ b;have:i=ws.length:=by omega
  subst this;exact Mg b (t O w a g kD μ b)
 |succ d o=>
  intro i r O w a g kD μ b;have u:i<ws.length:=by omega
  have m:ws[i]? =RX ws[i]:=Sk u;cases l:ws[i] with
  |true=>exact FV j b (by rw[m,l]) fun p w' f q v y h=>o (i+1) (by omega) p w' f q v y h
  |false=>exact Jv j b (by rw[m,l]) fun f h=>o (i+1) (by omega) O w f g kD μ h
theorem O7(q:Eh S w0 s k e N cb n kb nk eb ne wb ws V)(h:G2 S O w0 w N cb n cap kb nk ck eb ne ce x wb gW ws V ch bb fb ct ws.length μ a)
 (A:∀ lb O w a g kD μ,yM S O w0 w N cb n cap kb nk ck eb ne ce x wb gW ws V ch g bb fb ct lb ws.length kD μ a→jz (aa.of RY) RY Post S O μ (Se (c.finish (.tuple #[.slice (RX ⟨lb,0,RZ⟩) ws.length ws.length,.bool kD])) cs) w):
 jz (aa.of RY) RY Post S O μ (Se ((base 78).at a [.code (cK S0),.inLoop (cK S0),.inBlock 0,.code (fW S0)]) (c :: cs)) w:=by
 obtain⟨b,v,f,o,K,I,J,y,m⟩:=h;have d:=dn (aa.of RY) RY Post S μ;obtain⟨G,z,F,D,u⟩:=MI;have L:=q.mm;refine aH d ?_;refine aU d [0] rfl ?_;refine cP d b rfl (.bool R6) (iH rfl (b.of rfl) (b.of rfl) (by simp)) fun b=>?_;refine aj d ?_;refine aH d ?_;refine cJ d R6 (b.of rfl) ?_;refine sX d (k':=[.code (fW S0)]) rfl ?_;refine aH d ?_;refine aU d [0,1,2,3] rfl ?_;refine bV d b fun b=>?_;refine cP d b rfl (.int .i64 (ws.length:Int)) (q9 rfl (b.of rfl) Uv) fun b=>?_;refine kV d f.inr (by decide) rfl rfl (.cells (madeCells (Te RZ 0 0).cells (ws.length*G.size)) 43) trivial (fun n=>.slice (RX ⟨n,0,RZ⟩) ws.length ws.length) (Ba rfl (b.of rfl) (b.of rfl) Tryz.underlying26 z F (R8 _) (by rw[u];omega) (by omega)) fun lb H B E hrel t=>?_;replace b:=b.put (d:=39) (by decide) (.slice (RX ⟨lb,0,RZ⟩) ws.length ws.length);refine fE d b fun b=>?_;refine aj d ?_;refine aH d ?_;refine aU d [0] rfl ?_;refine m8 d b (.bool R7) fun b=>?_;refine aj d ?_;refine aH d ?_;refine aH d ?_;refine aU d [0,1,2] rfl ?_;refine bV d b fun b=>?_;refine cP d b rfl (.int .i64 (ws.length:Int)) (q9 rfl (b.of rfl) Uv) fun b=>?_;refine cP d b rfl (.int .i64 ((0:Nat):Int)) (bQ rfl rfl) fun b=>?_;refine aj d ?_;refine fF d ?_;refine sY d ?_;have C:=f.new B E hrel;have M:=f.inr bb (.inr f.ob);have P:=f.inr fb (.inr f.of);have Q:=f.inr ct (.inr o);have R:=f.Ge.size;refine Ju (lb:=lb) (ch:=ch) q (fun O w a g kD μ h=>A lb O w a g kD μ h) ws.length 0 (by omega) _ H _ (fun _=>0) R7 μ ⟨((((((b.nil.cons (b.slot 2 _ rfl)).cons (b.slot 3 _ rfl)).cons (b.slot 6 _ rfl)).cons (b.slot 7 _ rfl)).cons (b.slot 8 _ rfl)).cons (b.slot 41 _ rfl)).cons (b.slot 42 _ rfl),by simp only[put_defers];exact v,C,.inl o,(hrel.at_ ct (.inr o)).trans y,.inr rfl,by omega,by omega,by omega,by omega,?_,fun l j=>absurd j (by omega),⟨fun l r j p=>m.mu l r j p,m.no,m.inj,fun l j p=>Sa (m.lt l j p) hrel.size⟩,⟨fun _ l j=>absurd j (by omega),fun _=>rfl⟩⟩;rw[A8,← D];exact t
theorem go_loop(j:Eh S w0 s k e N cb n kb nk eb ne wb ws V)(t:∀ ch lb O w a g kD μ,yM S O w0 w N cb n cap kb nk ck eb ne ce x wb gW ws V ch g bb fb ct lb ws.length kD μ a→jz (aa.of RY) RY Post S O μ (Se (c.finish (.tuple #[.slice (RX ⟨lb,0,RZ⟩) ws.length ws.length,.bool kD])) cs) w):
 ∀ (d i:Nat),i+d=ws.length→∀ O w a ch μ,G2 S O w0 w N cb n cap kb nk ck eb ne ce x wb gW ws V ch bb fb ct i μ a→
 jz (aa.of RY) RY Post S O μ (Se ((base 78).at a [.code (cK S0),.inLoop (cK S0),.inBlock 0,.code (fW S0)]) (c :: cs)) w:=by
 intro d
 induction d with
 |zero=>
  intro i r O w a ch μ b;have:i=ws.length:=by omega
  subst this;exact O7 j b (fun lb O w a g kD μ b=>t ch lb O w a g kD μ b)
 |succ d o=>
  intro i r O w a ch μ b;have u:i<ws.length:=by omega
  have m:ws[i]? =RX ws[i]:=Sk u;cases l:ws[i] with
  |true=>exact go_round j b (by rw[m,l]) fun p w' f q v h=>o (i+1) (by omega) p w' f q v h
  |false=>exact go_skip j b (by rw[m,l]) fun f h=>o (i+1) (by omega) O w f ch μ h
theorem J5(p:Eh S w0 s k e N cb n kb nk eb ne wb ws V)
 (K:∀ bb fb ct ch lb O w a g kD μ,yM S O w0 w N cb n cap kb nk ck eb ne ce x wb gW ws V ch g bb fb ct lb ws.length kD μ a→jz (aa.of RY) RY Post S O μ (Se (c.finish (.tuple #[.slice (RX ⟨lb,0,RZ⟩) ws.length ws.length,.bool kD])) cs) w):
 jz (aa.of RY) RY Post S (fun b=>b<w0.heap.size∧¬ S b) (fun _=>RZ) (Se (SW RY 78 #[oh (N:Int) cb n cap,ou kb nk ck eb ne ce x,.slice (RX ⟨wb,0,RZ⟩) ws.length gW] .normal) (c :: cs)) w0:=by
 have f:=dn (aa.of RY) RY Post S (fun _=>RZ);obtain⟨T,J,R,L,G⟩:=P6;have W:=p.mm;rw[enter_at _ Tryz.func78 rfl];have d:=RM (oh (N:Int) cb n cap) (ou kb nk ck eb ne ce x) (.slice (RX ⟨wb,0,RZ⟩) ws.length gW) 73 (by decide);have v:sG S (fun b=>b<w0.heap.size∧¬ S b) w0:=fun b j=>j.elim (p.sz b) (fun h=>h.1);refine aH f ?_;refine aU f [0,1,2,3] rfl ?_;refine kV f v (by decide) rfl rfl (.cells #[.int .i64 (N:Int),.slice (RX ⟨cb,0,RZ⟩) n cap] 139) trivial (fun n=>.pointer (RX ⟨n,0,RZ⟩)) (tI (v:=oh (N:Int) cb n cap) rfl (d.of rfl)) fun bb X u M r B=>?_;replace d:=d.put (d:=3) (by decide) (.pointer (RX ⟨bb,0,RZ⟩));have y:=v.new u M;refine kV f y (by decide) rfl rfl (.cells #[.slice (RX ⟨kb,0,RZ⟩) nk ck,.slice (RX ⟨eb,0,RZ⟩) ne ce,x] 105) trivial (fun n=>.pointer (RX ⟨n,0,RZ⟩)) (tI (v:=ou kb nk ck eb ne ce x) rfl (d.of rfl)) fun fb Y E P o C=>?_;replace d:=d.put (d:=4) (by decide) (.pointer (RX ⟨fb,0,RZ⟩));have z:=y.new E P;refine m8 f d (.slice RZ 0 0) fun d=>?_;refine m8 f d (.bool R6) fun d=>?_;refine aj f ?_;refine aH f ?_;refine aU f [0,1,2,3] rfl ?_;refine bV f d fun d=>?_;refine cP f d rfl (.int .i64 (ws.length:Int)) (q9 rfl (d.of rfl) Uv) fun d=>?_;refine kV f z (by decide) rfl rfl (.cells (madeCells (Value.chan RZ).cells (ws.length*T.size)) 193) trivial (fun n=>.slice (RX ⟨n,0,RZ⟩) ws.length ws.length) (Ba rfl (d.of rfl) (d.of rfl) Tryz.underlying192 J R (R8 _) (by rw[G];omega) (by omega)) fun ct U F Q l D=>?_;replace d:=d.put (d:=13) (by decide) (.slice (RX ⟨ct,0,RZ⟩) ws.length ws.length);have I:=z.new F Q;refine fE f d fun d=>?_;refine aj f ?_;refine aH f ?_;refine aH f ?_;refine aU f [0,1,2] rfl ?_;refine bV f d fun d=>?_;refine cP f d rfl (.int .i64 (ws.length:Int)) (q9 rfl (d.of rfl) Uv) fun d=>?_;refine cP f d rfl (.int .i64 ((0:Nat):Int)) (bQ rfl rfl) fun d=>?_;refine aj f ?_;refine fF f ?_;refine sY f ?_;have q:∀ b,b<w0.heap.size→S b∨(b<w0.heap.size∧¬ S b):=fun b j=>by
  rcases Classical.em (S b) with h|h
  ·exact .inl h
  ·exact .inr ⟨j,h⟩
 refine go_loop (bb:=bb) (fb:=fb) (ct:=ct) p (fun ch lb O w a g kD μ h=>K bb fb ct ch lb O w a g kD μ h) ws.length 0 (by omega) _ U _ (fun _=>0) _ ⟨(((((d.nil.cons (d.slot 2 _ rfl)).cons (d.slot 3 _ rfl)).cons (d.slot 4 _ rfl)).cons (d.slot 8 _ rfl)).cons (d.slot 15 _ rfl)).cons (d.slot 16 _ rfl),by simp only[put_defers],⟨⟨?_,?_,?_,?_,fun b j=>?_⟩,fun b j=>?_,I,fun b j t=>?_,.inl (.inl (.inr rfl)),.inl (.inr rfl),u,by omega,?_,?_⟩,.inr rfl,by omega,by omega,by omega,?_,⟨fun A _ m=>absurd m (by omega),fun c H=>absurd rfl H,fun A _ m=>absurd m (by omega),fun A m=>absurd m (by omega)⟩⟩
 ·rw[l.os,o.os,r.os]
 ·rw[l.tape,o.tape,r.tape]
 ·rw[l.output,o.output,r.output]
 ·omega
 ·rw[l.at_ b ((q b j).imp (fun h=>h) (fun h=>.inl (.inl h))),o.at_ b ((q b j).imp (fun h=>h) (fun h=>.inl h)),r.at_ b (q b j)]
 ·exact(q b j).imp (fun h=>h) (fun h=>.inl (.inl (.inl h)))
 ·have:=p.sz b j;rcases t with((t|rfl)|rfl)|rfl
  ·exact t.2 j
  ·omega
  ·omega
  ·omega
 ·rw[l.at_ bb (.inr (.inl (.inr rfl))),o.at_ bb (.inr (.inr rfl))];exact B
 ·rw[l.at_ fb (.inr (.inr rfl))];exact C
 ·rw[AR,← L];exact D
def Oo (w:R3)(N:Nat)(ws:List Bool)(V:Nat→List az)(f:UQ)(w':R3):Prop:=
 ∃ lb kD g,f= .returned (.tuple #[.slice (RX ⟨lb,0,RZ⟩) ws.length ws.length,.bool kD])∧Below w.heap.size w w'∧w.heap.size≤lb∧w'.heap[lb]? =RX (.cells (eB ws g V N ws.length).toArray 43 (0,0))∧(∀ b,ws[b]? =RX R7→Row w' (g b) N (V b)∧w.heap.size≤g b)∧(kD=R7↔∀ b,ws[b]? =RX R7→(V b).length=N)
def Eh.at(b:Eh S w s k e N cb n kb nk eb ne wb ws V)(d:Nat):Eh S (w.at d) s k e N cb n kb nk eb ne wb ws V:=
 ⟨b.sz,fun h f=>⟨(b.sin h f).1.rel fun _ _=>rfl,(b.sin h f).2⟩,b.wl,fun h j f=>b.wc h j f,b.nn,b.mm,b.pos⟩
theorem Em(p:Eh S w s k e N cb n kb nk eb ne wb ws V):kG (aa.of RY) RY Post 78 #[oh (N:Int) cb n cap,ou kb nk ck eb ne ce x,.slice (RX ⟨wb,0,RZ⟩) ws.length gW] w (Oo w N ws V):=by
 intro c cs u G F t;refine ID S (fun d=>d<w.heap.size∧¬ S d) (fun d b=>⟨p.sz d b,fun h=>h.2 b⟩) (fun d b=>b.1) fun I A=>?_;obtain⟨o,rfl⟩:=A;refine J5 (w0:=w.at o) (p.at o) fun bb fb ct ch lb O w' a g kD μ h=>?_;refine Lb (fun c=>?_) fun r f z=>?_
 ·cases y:μ c with
  |none=>rfl
  |some H=>
   obtain⟨l,m,E,_⟩:=h.RA.no c (by rw[y];simp);omega
 ·have b:=h.own.Ge;have v:∀ d,d<w.heap.size→r.heap[d]? =w.heap[d]? :=fun d q=>(f.at_ d (h.own.low d q)).trans (b.block d q);refine t (.returned (.tuple #[.slice (RX ⟨lb,0,RZ⟩) ws.length ws.length,.bool kD])) r ⟨lb,kD,g,rfl,⟨f.os.trans b.os,f.tape.trans b.tape,f.output.trans b.output,Ss b.size f.size,v⟩,h.ll,(f.at_ lb (.inr h.ol)).trans h.hl,fun l j=>?_,?_⟩ z ⟨f.tape.trans b.tape,f.os.trans b.os,f.output.trans b.output,Ss b.size f.size⟩ (lS u _)
  ·obtain⟨B,C,_,D⟩:=h.rows l (SA.1 j).1 j;exact⟨B.same (f.at_ _ (.inr C)),D⟩
  ·rw[h.ok];exact⟨fun m l j=>m l (SA.1 j).1 j,fun m l _ j=>m l j⟩
end
end Cc
namespace Cc
open Go Go.Conc
open Go.RowKit (Below)
open Ec (az aC bZ cM qm qC qv)
def mH (rs:List bZ)(val:Int→Nat→az)(p:Nat):Bool:=rs.all fun b=>qC (val b.col p) b
def zV{rs:List bZ}{val:Int→Nat→az}{p:Nat}:mH rs val p=R7↔∀ i (h:i<rs.length),qC (val rs[i].col p) rs[i]=R7:=by
 unfold mH;rw[SC];constructor
 ·intro h i b;exact h _ (Sl b)
 ·intro h e d;obtain⟨i,b,rfl⟩:=List.mem_iff_getElem.1 d;exact h i b
def tB(Go:List cF→Bool)(pre:List cF)(x:cF)(b:List cF):feed Go pre (x :: b)=if Go (pre ++ [x]) then feed Go (pre ++ [x]) b else(pre ++ [x],R6):=rfl
section
variable {Post:R2→R3→Prop}{J:List cF→(Nat→Prop)→R3→Prop}{Go:List cF→Bool}{w0 w:R3}{M0 M own:Nat→Prop}{l first N p qb:Nat}{pre:List cF}{a:T6}{cs:List Sn}{ah:List Int}{rs:List bZ}{co:Option SL}{cb aV aD:Nat}{ro:Option SL}{rb bh aF lb m mc:Nat}{val:Int→Nat→az}{a0 b0 c0:R2}{sk:Bool}{c:Sn}
theorem KP(h:Ei J w0 w M0 M own #[a0,b0,c0,.slice co ah.length aD,.slice ro rs.length aF,.bool sk] (.slice (RX ⟨lb,0,RZ⟩) m mc) l first N N qb pre a)(f:Xe (aa.of RY) RY Post own (c.finish (.bool R7)) cs w):
 Xe (aa.of RY) RY Post own ((base 79).at a [.code (gB Up),.inLoop (gB Up),.inBlock 0,.code (pK Up)]) (c :: cs) w:=by
 have b:=fV (aa.of RY) RY Post;have d:=h.kn;refine aH b ?_;refine aU b [0] rfl ?_;refine cP b d rfl (.bool R6) (iH rfl (d.of rfl) (d.of rfl) (by simp)) fun d=>?_;refine aj b ?_;refine aH b ?_;refine cJ b R6 (d.of rfl) ?_;refine sX b (k':=[.code (pK Up)]) rfl ?_;refine aH b ?_;refine aU b [0] rfl ?_;refine m8 b d (.bool R7) fun d=>?_;refine aj b ?_;refine om b ?_;have e:=jn (P:=RY) Tryz.results79 (d.slot 10 _ rfl);exact gp b rfl (by simp only[put_defers];exact h.df) Tryz.func79 e.1 e.2 f
theorem oR{y:Bool}(b:Knows a 33 [(31,.bool y),(13,.int .i64 (p:Int)),(12,.int .i64 (N:Int)),(5,.pointer (RX ⟨qb,0,RZ⟩)),(4,.func (.yield l) #[] #[]),(2,.int .i64 (first:Int)),(1,.slice (RX ⟨lb,0,RZ⟩) m mc)])(e:a.defers=[])(i:p<N)(h:first+N≤1000000)
 (f:(y=R7→Xe (aa.of RY) RY Post own (c.finish (.bool R6)) cs w)∧(y=R6→∀ a',Knows a' 33 [(13,.int .i64 ((p+1:Nat):Int)),(12,.int .i64 (N:Int)),(5,.pointer (RX ⟨qb,0,RZ⟩)),(4,.func (.yield l) #[] #[]),(2,.int .i64 (first:Int)),(1,.slice (RX ⟨lb,0,RZ⟩) m mc)]→a'.defers=[]→Xe (aa.of RY) RY Post own ((base 79).at a' [.code (gB Up),.inLoop (gB Up),.inBlock 0,.code (pK Up)]) (c :: cs) w)):
 Xe (aa.of RY) RY Post own ((base 79).at a (lU Up)) (c :: cs) w:=by
 have d:=fV (aa.of RY) RY Post;cases y with
 |true=>
  refine cJ d R7 (b.of rfl) ?_;refine aH d ?_;refine aU d [0] rfl ?_;refine m8 d b (.bool R6) fun b=>?_;refine aj d ?_;refine om d ?_;have g:=jn (P:=RY) Tryz.results79 (b.slot 10 _ rfl);exact gp d rfl (by simp only[put_defers];exact e) Tryz.func79 g.1 g.2 (f.1 rfl)
 |false=>
  refine cJ d R6 (b.of rfl) ?_;refine gu d ?_;refine gL d ?_;refine aU d [0,1] rfl ?_;refine cP d b rfl (.int .i64 ((p+1:Nat):Int)) (mV (j:=1) rfl (b.of rfl) rfl (by omega)) fun b=>?_;refine bV d b fun b=>?_;refine aj d ?_;refine j3 d ?_;exact f.2 rfl _ ((((((b.nil.cons (b.slot 1 _ rfl)).cons (b.slot 2 _ rfl)).cons (b.slot 4 _ rfl)).cons (b.slot 5 _ rfl)).cons (b.slot 12 _ rfl)).cons (b.slot 13 _ rfl)) (by simp only[put_defers];exact e)
theorem Ii(h:Ei J w0 w M0 M own #[a0,b0,c0,.slice co ah.length aD,.slice ro rs.length aF,.bool sk] (.slice (RX ⟨lb,0,RZ⟩) m mc) l first N p qb pre a)(f:p<N)
 (e:∀ a',Knows a' 33 [(11,.int .i64 (p:Int)),(13,.int .i64 (p:Int)),(12,.int .i64 (N:Int)),(5,.pointer (RX ⟨qb,0,RZ⟩)),(4,.func (.yield l) #[] #[]),(2,.int .i64 (first:Int)),(1,.slice (RX ⟨lb,0,RZ⟩) m mc)]→a'.defers=[]→Xe (aa.of RY) RY Post own ((base 79).at a' (.code (.region 4 (vG Up) R6) :: lU Up)) cs w):
 Xe (aa.of RY) RY Post own ((base 79).at a [.code (gB Up),.inLoop (gB Up),.inBlock 0,.code (pK Up)]) cs w:=by
 have d:=fV (aa.of RY) RY Post;have b:=h.kn;refine aH d ?_;refine aU d [0] rfl ?_;refine cP d b rfl (.bool R7) (iH rfl (b.of rfl) (b.of rfl) (by simp;omega)) fun b=>?_;refine aj d ?_;refine aH d ?_;refine cJ d R7 (b.of rfl) ?_;refine gu d ?_;refine aH d ?_;refine fF d ?_;refine aH d ?_;refine aU d [0,1] rfl ?_;refine bV d b fun b=>?_;refine fE d b fun b=>?_;refine aj d ?_;refine aH d ?_;exact e _ ((((((b.nil.cons (b.slot 1 _ rfl)).cons (b.slot 2 _ rfl)).cons (b.slot 4 _ rfl)).cons (b.slot 5 _ rfl)).cons (b.slot 12 _ rfl)).cons (b.slot 13 _ rfl) |>.cons (b.slot 11 _ rfl)) (by simp only[put_defers];exact h.df)
theorem Ij(C:Cons (aa.of RY) RY Post l J Go)(hF:∀ t,(∀ b,b<w0.heap.size→¬ M0 b→mw t w0 b)→w0.heap.size≤t.heap.size→QX t ah rs co cb aV ro rb bh lb m N val)(i:first+N≤1000000)(hc:ah.length≤1000)(L:rs.length≤Sw):∀ (n p:Nat),p+n=N→∀ pre own M w a,pre.length+n≤2000→
 Ei J w0 w M0 M own #[a0,b0,c0,.slice co ah.length aD,.slice ro rs.length aF,.bool sk] (.slice (RX ⟨lb,0,RZ⟩) m mc) l first N p qb pre a→
 (∀ own' g w',J (feed Go pre (dB (mH rs val) (fun p=>ah.map fun k=>val k p) first p n)).1 g w'→Kept w0 w' M0 g own'→(∀ b,own' b→b<w'.heap.size)→Xe (aa.of RY) RY Post own' (c.finish (.bool (feed Go pre (dB (mH rs val) (fun p=>ah.map fun k=>val k p) first p n)).2)) cs w')→
 Xe (aa.of RY) RY Post own ((base 79).at a [.code (gB Up),.inLoop (gB Up),.inBlock 0,.code (pK Up)]) (c :: cs) w:=by
 intro n
 induction n with
 |zero=>
  intro p K pre own M w a G d e;have:p=N:=by omega
  subst this;exact KP d (e own M w d.j d.kept d.bd)
 |succ n A=>
  intro p K pre own M w a G d e;refine Ii d (by omega) fun Q B E=>?_;refine CI (val:=val) C hF (by omega) (by omega) i hc L B E d.j d.kept d.bd d.oq d.nq d.lq d.hq (fun own' w' D H f o q r j x y=>?_) (fun own' g w' D P f o q r j x I y=>?_)
  ·have F:mH rs val p=R6:=by
    cases h:mH rs val p with
    |false=>rfl
    |true=>exact absurd (zV.1 h) H
   have h:dB (mH rs val) (fun p=>ah.map fun k=>val k p) first p (n+1)=dB (mH rs val) (fun p=>ah.map fun k=>val k p) first (p+1) n:=by
    simp[dB,F]
   rw[h] at e;refine oR f o (by omega) i ⟨fun d=>(by cases d),fun _ u s v=>?_⟩;exact A (p+1) (by omega) pre own' M w' u (by omega) ⟨s,v,q,r,j,x,d.nq,d.lq,y⟩ e
  ·have O:=zV.2 P;have h:dB (mH rs val) (fun p=>ah.map fun k=>val k p) first p (n+1)=(first+p,ah.map fun k=>val k p) :: dB (mH rs val) (fun p=>ah.map fun k=>val k p) first (p+1) n:=by
    simp[dB,O]
   rw[h] at e;rw[tB] at e;cases z:Go (pre ++ [(first+p,ah.map fun k=>val k p)]) with
   |true=>
    rw[z] at f e;simp only[if_true] at e;refine oR f o (by omega) i ⟨fun d=>(by cases d),fun _ u s v=>?_⟩;exact A (p+1) (by omega) _ own' g w' u (by simp;omega) ⟨s,v,q,r,j,x,I,d.lq,y⟩ e
   |false=>
    rw[z] at f e;simp only[SD,if_false] at e;exact oR f o (by omega) i ⟨fun _=>e own' g w' q r j,fun d=>(by cases d)⟩
theorem RN(v0 v1 v2 d e:R2)(m:Nat)(i:5≤m):Knows ⟨#[v0,v1,v2,d,e] ++ S8 (m - 5) Tq,[]⟩ m [(0,v0),(1,v1),(2,v2),(3,d),(4,e)]:=by
 have b:∀ f v,(#[v0,v1,v2,d,e]:Array R2)[f]? =RX v→aN ⟨#[v0,v1,v2,d,e] ++ S8 (m - 5) Tq,[]⟩ f=v:=fun f v g=>by
  unfold aN;rw[SH,Array.getElem?_append_left (R9.1 g).1,g];rfl
 refine Knows.cons (Knows.cons (Knows.cons (Knows.cons (Knows.cons (l:=[]) ⟨?_,fun s v h=>by simp at h⟩ (b 4 e rfl)) (b 3 d rfl)) (b 2 v2 rfl)) (b 1 v1 rfl)) (b 0 v0 rfl);simp;omega
def Ot (J:List cF→(Nat→Prop)→R3→Prop)(M0:Nat→Prop)(w0:R3)(e:List cF×Bool)(f:UQ)(w':R3):Prop:=
 f= .returned (.bool e.2)∧∃ d,J e.1 d w'∧(∀ b,b<w0.heap.size→¬ M0 b→w'.heap[b]? =w0.heap[b]?)∧w0.heap.size≤w'.heap.size∧∀ b,d b→M0 b∨w0.heap.size≤b
theorem EQ(C:Cons (aa.of RY) RY Post l J Go)(r:J pre M0 w0)(hF:∀ n,(∀ b,b<w0.heap.size→¬ M0 b→mw n w0 b)→w0.heap.size≤n.heap.size→QX n ah rs co cb aV ro rb bh lb m N val)(u:first+N≤1000000)(hc:ah.length≤1000)(E:rs.length≤Sw)(A:pre.length+N≤2000):
 kG (aa.of RY) RY Post 79 #[qv a0 b0 c0 (.slice co ah.length aD) (.slice ro rs.length aF) sk,.slice (RX ⟨lb,0,RZ⟩) m mc,.int .i64 (first:Int),.int .i64 (N:Int),.func (.yield l) #[] #[]] w0 (Ot J M0 w0 (feed Go pre (dB (mH rs val) (fun p=>ah.map fun k=>val k p) first 0 N))):=by
 intro c cs G O B t;have f:=fV (aa.of RY) RY Post;refine Xe.go (own:=fun b=>b<w0.heap.size) ?_ (fun b i=>i) B;rw[enter_at _ Tryz.func79 rfl];have e:=RN (qv a0 b0 c0 (.slice co ah.length aD) (.slice ro rs.length aF) sk) (.slice (RX ⟨lb,0,RZ⟩) m mc) (.int .i64 (first:Int)) (.int .i64 (N:Int)) (.func (.yield l) #[] #[]) 33 (by decide);have y:sG IB (fun b=>b<w0.heap.size) w0:=fun b d=>d.elim VP (fun i=>i);refine aH f ?_;refine aU f [0,1] rfl ?_;refine kV f y (by decide) rfl rfl (.cells #[a0,b0,c0,.slice co ah.length aD,.slice ro rs.length aF,.bool sk] 115) trivial (fun H=>.pointer (RX ⟨H,0,RZ⟩)) (tI (v:=qv a0 b0 c0 (.slice co ah.length aD) (.slice ro rs.length aF) sk) rfl (e.of rfl)) fun qb I x P F v=>?_;replace e:=e.put (d:=5) (by decide) (.pointer (RX ⟨qb,0,RZ⟩));refine m8 f e (.bool R6) fun e=>?_;refine aj f ?_;refine aH f ?_;refine aH f ?_;refine aU f [0,1] rfl ?_;refine bV f e fun e=>?_;refine cP f e rfl (.int .i64 ((0:Nat):Int)) (bQ rfl rfl) fun e=>?_;refine aj f ?_;refine fF f ?_;refine sY f ?_;have j:=EZ F;have o:=C.bound _ _ _ r;refine Ij (w0:=w0) (M0:=M0) (val:=val) C hF u hc E N 0 (by omega) pre _ M0 I _ A ⟨((((((e.nil.cons (e.slot 1 _ rfl)).cons (e.slot 2 _ rfl)).cons (e.slot 4 _ rfl)).cons (e.slot 5 _ rfl)).cons (e.slot 12 _ rfl)).cons (e.slot 13 _ rfl)),by simp only[put_defers],C.jq _ _ _ _ r (fun b d=>j.at_ b (o b d)) j.size,⟨fun b d q=>⟨.inl d,j.at_ b d⟩,fun b d=>.inl d,fun b d=>.inl (o b d),j.size,j.tape,j.os,j.output⟩,fun b d=>d.elim (fun i=>by omega) (fun i=>by omega),.inr rfl,fun i=>by have:=o qb i;omega,x,v⟩ fun Q s R z g L=>?_;intro _ K h D;refine t _ K ⟨rfl,s,C.jq _ _ _ _ z (fun b d=>h.at_ b (g.qs b d)) h.size,fun b d q=>(h.at_ b (g.keep b d q).1).trans (g.keep b d q).2,Ss g.size h.size,g.ext⟩ D ⟨h.tape.trans g.tape,h.os.trans g.os,h.output.trans g.output,Ss g.size h.size⟩ (lS G _)
end
end Cc
namespace Cc
open Go Go.Conc
open Go.RowKit (Below)
open Ec (az aC bZ cM qm vX qC qv bG Bd jw kU cE aJ wj n7 mS)
structure FM(W:R3)(l:List (bG×Int))(bs:List Bd)(ah:List Int)(rs:List bZ)(kb eb:Nat)(dO:Option SL)(db:Nat)(ct mE:Nat→Nat)(co:Option SL)(cb aV:Nat)(ro:Option SL)(rb bh:Nat):Prop where
 k:∀ j x,l[j]? =RX x→W.cell? ⟨kb,0+j*2+1,RZ⟩=RX (.int .i64 x.1.kind)
 e:∀ j x,l[j]? =RX x→W.cell? ⟨eb,0+j*1,RZ⟩=RX (.int .i64 x.2)
 d:∀ i b,bs[i]? =RX b→W.rangeAt db (0+i*2) [.int .i64 (b.rows:Int),.slice (RX ⟨ct i,0,RZ⟩) l.length (mE i)]
 c:∀ i b,bs[i]? =RX b→∀ j x,b.chunks[j]? =RX x→∀ t u,(cE x)[t]? =RX u→W.cell? ⟨ct i,j*8+t,RZ⟩=RX u
 lk:kb<W.heap.size
 le:eb<W.heap.size
 da:0<bs.length→dO=RX ⟨db,0,RZ⟩
 ld:0<bs.length→db<W.heap.size
 lc:∀ i,i<bs.length→ct i<W.heap.size
 ca:0<ah.length→co=RX ⟨cb,aV,RZ⟩
 cl:0<ah.length→cb<W.heap.size
 cc:∀ j,j<ah.length→W.cell? ⟨cb,aV+j,RZ⟩=RX (.int .i64 (ah.getD j 0))
 nr:cM W ro rb bh rs
structure FQ(l:List (bG×Int))(bs:List Bd)(ah:List Int)(rs:List bZ)(V:Nat→Nat→List az):Prop where
 len:∀ b∈bs,b.chunks.length=l.length
 m:l.length≤1000
 pos:0<l.length
 rows:∀ b∈bs,b.rows≤100
 tot:(bs.map (·.rows)).sum≤2000
 nb:bs.length≤100000
 cn:ah.length≤1000
 rn:rs.length≤Sw
 ck:∀ k∈ah,0≤k∧k<(l.length:Int)
 rk:∀ r∈rs,0≤r.col∧r.col<(l.length:Int)
 dec:∀ (i:Nat) b,bs[i]? =RX b→∀ (j:Nat) x y,b.chunks[j]? =RX x→l[j]? =RX y→x.text.size≤Sw∧oA x.text y.1.kind y.2 (b.rows:Int) (V i j)
def xq:jw:=⟨⟨#[]⟩,Ec.bX⟩
def rowsOf(bs:List Bd)(i:Nat):Nat:=(bs.map (·.rows)).getD i 0
def fX (bs:List Bd)(i:Nat):Nat:=((bs.take i).map (·.rows)).sum
def xC (bs:List Bd)(rs:List bZ)(i:Nat):Bool:=rs.any fun a=>Ec.rf (((bs.getD i ⟨0,[]⟩).chunks.getD a.col.toNat xq).dS) a
def yD (V:Nat→Nat→List az)(i:Nat)(k:Int)(p:Nat):az:=(V i k.toNat).getD p ⟨R6,0,⟨#[]⟩⟩
def C6 (bs:List Bd)(ws:List Bool)(V:Nat→Nat→List az)(i:Nat):Bool:=(SS ws.length).all fun a=> !ws.getD a R6 || (V i a).length == rowsOf bs i
def ia (bs:List Bd)(ah:List Int)(rs:List bZ)(V:Nat→Nat→List az)(i:Nat):List cF:=dB (mH rs (yD V i)) (fun b=>ah.map fun a=>yD V i a b) (fX bs i) 0 (rowsOf bs i)
def gH (sk:Bool)(bs:List Bd)(ah:List Int)(rs:List bZ)(ws:List Bool)(V:Nat→Nat→List az)(Go:List cF→Bool):Nat→Nat→List cF→Nat→List cF×Nat×Nat
 |i,0,pre,a=>(pre,a,0)
 |i,b+1,pre,a=>if sk && xC bs rs i then gH sk bs ah rs ws V Go (i+1) b pre a else if C6 bs ws V i then(if (feed Go pre (ia bs ah rs V i)).2 then gH sk bs ah rs ws V Go (i+1) b (feed Go pre (ia bs ah rs V i)).1 (a+1) else((feed Go pre (ia bs ah rs V i)).1,a+1,0)) else(pre,a+1,3)
theorem oy(j9:Nat→Bool)(a:Nat→List az)(first:Nat):∀ (n p:Nat),(dB j9 a first p n).length≤n
 |0,p=>R8 _
 |n+1,p=>by
  have:=oy j9 a first n (p+1)
  simp only[dB]
  split
  ·simp;omega
  ·omega
theorem us(Go:List cF→Bool):∀ (a pre:List cF),(feed Go pre a).1.length≤pre.length+a.length
 | [],pre=>R8 _
 |x :: a,pre=>by
  rw[tB]
  split
  ·have:=us Go a (pre ++ [x]);simp at this ⊢;omega
  ·simp
def rN{bs:List Bd}{i:Nat}{b:Bd}(h:bs[i]? =RX b):fX bs (i+1)=fX bs i+b.rows:=by
 obtain⟨a,rfl⟩:=SA.1 h;unfold fX;rw[Su a,Tb,List.sum_append];simp only[U8,List.map_nil,List.sum_cons,List.sum_nil,Nat.add_zero]
def wP(bs:List Bd):∀ i,fX bs i≤(bs.map (·.rows)).sum:=by
 intro i;have a:(bs.map (·.rows)).sum=((bs.take i).map (·.rows)).sum+((bs.drop i).map (·.rows)).sum:=by
  rw[← List.sum_append,← Tb,UG]
 unfold fX;omega
def tQ{bs:List Bd}{i:Nat}{b:Bd}(h:bs[i]? =RX b):rowsOf bs i=b.rows:=by
 unfold rowsOf;simp[Sj,h]
def Qg:(Tryz.f76.name == "runtime.NumGoroutine")=R6:=by kernel_rfl
def QT:(Tryz.f77.name == "runtime.NumGoroutine")=R6:=by kernel_rfl
def P5:(S0.name == "runtime.NumGoroutine")=R6:=by kernel_rfl
def P9:(Up.name == "runtime.NumGoroutine")=R6:=by kernel_rfl
section
variable {W:R3}{l:List (bG×Int)}{bs:List Bd}{ah:List Int}{rs:List bZ}{kb eb db:Nat}{dO:Option SL}{ct mE:Nat→Nat}{co:Option SL}{cb aV:Nat}{ro:Option SL}{rb bh:Nat}{V:Nat→Nat→List az}
theorem FM.Rk(h:FM W l bs ah rs kb eb dO db ct mE co cb aV ro rb bh)(q:FQ l bs ah rs V){i:Nat}{b:Bd}(d:bs[i]? =RX b):∀ r∈rs,vX W (ct i) l.length r.col ((b.chunks.getD r.col.toNat xq).dS):=by
 intro r m;obtain⟨g,s⟩:=q.rk r m;obtain⟨c,e⟩:=Int.eq_ofNat_of_zero_le g;have t:=q.len b (TD d);have k:c<b.chunks.length:=by omega
 have f:b.chunks[c]? =RX b.chunks[c]:=Sk k;have j:b.chunks.getD r.col.toNat xq=b.chunks[c]:=by rw[e,Sj];simp[f]
 rw[j];have a:=fun o p n=>h.c i b d c _ f o p n;refine⟨c,e,by omega,h.lc i (SA.1 d).1,a 1 _ rfl,a 2 _ rfl,a 3 _ rfl,a 4 _ rfl,a 5 _ rfl,a 6 _ rfl,a 7 _ rfl⟩
def CY{n:Nat}{b:List Int}{j:Nat}:(aJ n b)[j]? =RX R7↔j<n∧(j:Int)∈b:=by
 unfold aJ;rcases TF j n with a|a
 ·simp[a,List.any_eq_true]
 ·simp[a];omega
theorem FM.bin(h:FM W l bs ah rs kb eb dO db ct mE co cb aV ro rb bh)(q:FQ l bs ah rs V){i:Nat}{b:Bd}(a:bs[i]? =RX b){g:Nat}(k:W.heap[g]? =RX (.cells (wj (aJ l.length (ah ++ rs.map bZ.col))).toArray 4 (0,0))):
 Eh (fun x=>x=ct i∨x=kb∨x=eb) W (fun j=>(b.chunks.getD j xq).text) (fun j=>(l.getD j (⟨⟨#[]⟩,0⟩,0)).1.kind) (fun j=>(l.getD j (⟨⟨#[]⟩,0⟩,0)).2) b.rows (ct i) l.length kb l.length eb l.length g (aJ l.length (ah ++ rs.map bZ.col)) (V i):=by
 have r:=q.len b (TD a);have p:g<W.heap.size:=(R9.1 k).1;refine⟨fun x d=>?_,fun j e=>?_,p,fun j s e=>?_,?_,?_,by omega⟩
 ·rcases d with rfl|rfl|rfl
  ·exact h.lc i (SA.1 a).1
  ·exact h.lk
  ·exact h.le
 ·have c:j<l.length:=(CY.1 e).1;have d:b.chunks[j]? =RX (b.chunks.getD j xq):=by
   have o:j<b.chunks.length:=by omega
   rw[Sj,Sk o];rfl
  have f:l[j]? =RX (l.getD j (⟨⟨#[]⟩,0⟩,0)):=by rw[Sj,Sk c];rfl
  obtain⟨m,n⟩:=q.dec i b a j _ _ d f;refine⟨⟨.inl rfl,.inr (.inl rfl),.inr (.inr rfl),c,c,c,?_,h.k j _ f,h.e j _ f⟩,m,n⟩;have:=h.c i b a j _ d 0 _ rfl;rw[SZ];exact this
 ·unfold Sr;simp only[k,SZ,VO];simp[wj,e]
 ·have:=q.rows b (TD a);omega
 ·rw[Ec.iB];have:=q.m;omega
end
def gG (fn:UB):U7:=match fn.body with
 |some (.seq _ (.seq _ (.seq _ (.seq (.seq _ (.block _ (.loop c))) _))))=>c
 |_=>.skip
def pZ (fn:UB):U7:=match fn.body with
 |some (.seq _ (.seq _ (.seq _ (.seq _ c))))=>c
 |_=>.skip
def Ds (fn:UB):U7:=match gG fn with
 | .seq _ (.seq _ (.seq (.block _ (.seq _ (.seq (.seq _ (.cond _ c _)) _))) _))=>c
 |_=>.skip
def sn (fn:UB):List UC:=match gG fn with
 | .seq _ (.seq _ (.seq (.block _ (.seq _ (.seq _ c))) d))=>[.code c,.inBlock 1,.code d,.inLoop (gG fn),.inBlock 0,.code (pZ fn)]
 |_=>[]
structure oF(J:List cF→(Nat→Prop)→R3→Prop)(w0 w:R3)(M0 M own:Nat→Prop)(q:Array R2)(l first n i nb qb wb m:Nat)(bsv:R2)(ws:List Bool)(pre:List cF)(a:T6):Prop where
 kn:Knows a 59 [(18,.int .i64 (i:Int)),(17,.int .i64 (nb:Int)),(16,bsv),(7,.int .i64 (first:Int)),(6,.slice (RX ⟨wb,0,RZ⟩) m m),(4,.int .i64 (n:Int)),(2,.pointer (RX ⟨qb,0,RZ⟩)),(1,.func (.yield l) #[] #[])]
 df:a.defers=[]
 j:J pre M w
 kept:Kept w0 w M0 M own
 bd:∀ b,own b→b<w.heap.size
 oq:own qb
 nq:¬ M qb
 lq:w0.heap.size≤qb
 hq:w.heap[qb]? =RX (.cells q 115 (0,0))
 ow:own wb
 nw:¬ M wb
 lw:w0.heap.size≤wb
 hw:w.heap[wb]? =RX (.cells (wj ws).toArray 4 (0,0))
section
variable {Post:R2→R3→Prop}{J:List cF→(Nat→Prop)→R3→Prop}{Go:List cF→Bool}{w0 w:R3}{M0 M own:Nat→Prop}{lp first n i qb wb:Nat}{pre:List cF}{a:T6}{cs:List Sn}{l:List (bG×Int)}{bs:List Bd}{ah:List Int}{rs:List bZ}{kb eb db:Nat}{dO:Option SL}{ct mE:Nat→Nat}{co:Option SL}{cb aV aD:Nat}{ro:Option SL}{rb bh aF:Nat}{V:Nat→Nat→List az}{a0 b0:R2}{cG:Nat}{sk:Bool}{ws:List Bool}{b:Bd}
def nM{c:R3}{q:Array R2}{t:Sg}{g:Nat}(h:c.heap[g]? =RX (.cells q t (0,0))):c.rangeAt g 0 q.toList:=fun e v d=>by
 unfold Sr;simp only[h];rw[SZ];simpa using d
def jL{c:R3}{q:Array R2}{t:Sg}{g o:Nat}{v:R2}(h:c.heap[g]? =RX (.cells q t (0,0)))(d:q[o]? =RX v):c.cell? ⟨g,o,RZ⟩=RX v:=by
 unfold Sr;simp only[h];exact d
theorem I1(C:Cons (aa.of RY) RY Post lp J Go)(q:FQ l bs ah rs V)(hF:∀ g,(∀ b,b<w0.heap.size→¬ M0 b→mw g w0 b)→w0.heap.size≤g.heap.size→FM g l bs ah rs kb eb dO db ct mE co cb aV ro rb bh)(f:bs[i]? =RX b)(a5:0<bs.length→¬ M0 db)
 (h:oF J w0 w M0 M own #[a0,b0,.slice dO bs.length cG,.slice co ah.length aD,.slice ro rs.length aF,.bool sk] lp first n i bs.length qb wb l.length (.slice dO bs.length cG) ws pre a)
 (U:∀ own' w' a' e,oF J w0 w' M0 M own' #[a0,b0,.slice dO bs.length cG,.slice co ah.length aD,.slice ro rs.length aF,.bool sk] lp first n i bs.length qb wb l.length (.slice dO bs.length cG) ws pre a'→aN a' 9= .pointer (RX ⟨e,0,RZ⟩)→own' e→¬ M e→w0.heap.size≤e→e≠qb→e≠wb→w'.heap[e]? =RX (.cells #[.int .i64 (b.rows:Int),.slice (RX ⟨ct i,0,RZ⟩) l.length (mE i)] 139 (0,0))→
   Xe (aa.of RY) RY Post own' ((base 54).at a' ((if !(sk && xC bs rs i) then[.code (Ds US)] else[.code .skip]) ++ sn US)) cs w'):
 Xe (aa.of RY) RY Post own ((base 54).at a [.code (gG US),.inLoop (gG US),.inBlock 0,.code (pZ US)]) cs w:=by
 have d:=fV (aa.of RY) RY Post;obtain⟨c,G,a2,r,t,k,ab,W,a8,y,ad,Y,bi⟩:=h;have H:i<bs.length:=(SA.1 f).1;have R:sG IB own w:=fun b f=>f.elim VP (t b);have p:=r.same (fun b bA _ h _=>h) (R8 _);have N:=hF w p.1 p.2;have a7:own db:=by
  have s:=hF w0 (fun _ _ _ _ h _=>h) (R8 _);exact(r.keep db (s.ld (by omega)) (a5 (by omega))).1
 obtain rfl:=N.da (by omega);have bu:=q.nb;refine aH d ?_;refine aU d [0] rfl ?_;refine cP d c rfl (.bool R7) (iH rfl (c.of rfl) (c.of rfl) (by simp;omega)) fun c=>?_;refine aj d ?_;refine aH d ?_;refine cJ d R7 (c.of rfl) ?_;refine gu d ?_;refine aH d ?_;refine fF d ?_;refine aH d ?_;refine aU d [0,1,2,3] rfl ?_;refine cP d c rfl (.pointer (RX ⟨db,0+i*2,RZ⟩)) (eK rfl (c.of rfl) (c.of rfl) Tryz.underlying103 Tryz.sizeOf139 H) fun c=>?_;refine qo d c rfl (.agg #[.int .i64 (b.rows:Int),.slice (RX ⟨ct i,0,RZ⟩) l.length (mE i)]) (eA (cs:=[.int .i64 (b.rows:Int),.slice (RX ⟨ct i,0,RZ⟩) l.length (mE i)]) rfl (c.of rfl) T2 rfl m6 (.inr a7) (N.d i b f)) fun c=>?_;refine kV d R (by decide) rfl rfl (.cells #[.int .i64 0,.slice RZ 0 0] 139) trivial (fun n=>.pointer (RX ⟨n,0,RZ⟩)) (rZ rfl Tryz.zeroValue139) fun e b1 a6 bb hrel ar=>?_;replace c:=c.put (d:=9) (by decide) (.pointer (RX ⟨e,0,RZ⟩));have S:=R.new a6 bb;refine qZ d S (by decide) rfl rfl (.inr rfl) (.cells #[.int .i64 (b.rows:Int),.slice (RX ⟨ct i,0,RZ⟩) l.length (mE i)] 139) trivial (kq (n:=e) (off:=0) (v:=.agg #[.int .i64 (b.rows:Int),.slice (RX ⟨ct i,0,RZ⟩) l.length (mE i)]) rfl (c.of rfl) (c.of rfl) m6 (fun bo Q=>by simp[Uw] at Q;rcases Q with rfl|rfl<;>rfl) (Or.inr (Or.inr rfl)) ar (R8 2)) fun E j=>?_;replace c:=c.none Tq;have bv:=t qb k;have bx:=t wb y;have z:RelB own w E:=⟨fun b I=>(j.at_ b (.inr (.inl I)) (by have:=t b I;omega)).trans (hrel.at_ b (.inr I)),Ss hrel.size j.size,j.tape.trans hrel.tape,j.os.trans hrel.os,j.output.trans hrel.output⟩;have u:=r.rel (own':=fun b=>own b∨b=e) z (fun b h=>.inl h);have T:=C.jq _ _ _ E a2 (fun b f=>z.at_ b (r.qs b f)) z.size;have P:∀ b,own b∨b=e→b<E.heap.size:=fun b f=>(S.set j) b (.inr f);have D:=(z.at_ qb k).trans a8;have am:=(z.at_ wb y).trans bi;have al:∀ b,M b→b≠e:=fun b f F=>by have:=t b (r.qs b f);omega
 have X:w0.heap.size≤e:=by have:=r.size;omega
 refine aj d ?_;refine aH d ?_;refine aH d ?_;refine aU d [0,1,2,3,4,5,6,7,8] rfl ?_;refine cP d c rfl (.pointer (RX ⟨qb,5,RZ⟩)) (cH (off':=5) rfl (c.of rfl) Uu rfl Tryz.sizeOf4 rfl) fun c=>?_;refine qo d c rfl (.bool sk) (bK rfl (c.of rfl) Tryz.isAgg4 (.inr (.inl k)) (jL D rfl)) fun c=>?_;refine cP d c rfl (.bool (!sk)) (xz rfl (c.of rfl)) fun c=>?_;refine bV d c fun c=>?_;cases sk with
 |false=>
  refine rJ d c fun c=>?_;refine rJ d c fun c=>?_;refine rJ d c fun c=>?_;refine rJ d c fun c=>?_;refine cP d c rfl (.bool R7) (xB rfl (c.of rfl) rfl) fun c=>?_;refine aj d ?_;refine cJ d R7 (c.of rfl) ?_;exact U _ E _ e ⟨(((((((c.nil.cons (c.slot 1 _ rfl)).cons (c.slot 2 _ rfl)).cons (c.slot 4 _ rfl)).cons (c.slot 6 _ rfl)).cons (c.slot 7 _ rfl)).cons (c.slot 16 _ rfl)).cons (c.slot 17 _ rfl)).cons (c.slot 18 _ rfl),by simp only[put_defers];exact G,T,u,P,.inl k,ab,W,D,.inl y,ad,Y,am⟩ (c.slot 9 _ rfl) (.inr rfl) (fun h=>al e h rfl) X (by omega) (by omega) j.set
 |true=>
  refine nE d (by decide) rfl (c.want (d:=25) (want:=R6) (b:=R6) rfl rfl rfl (by decide)) _ (eA (cs:=[a0,b0,.slice (RX ⟨db,0,RZ⟩) bs.length cG,.slice co ah.length aD,.slice ro rs.length aF,.bool R7]) rfl (c.of rfl) Uu rfl tK (.inr (.inl k)) (nM D)) ?_;replace c:=c.put (d:=26) (by decide) (qv a0 b0 (.slice (RX ⟨db,0,RZ⟩) bs.length cG) (.slice co ah.length aD) (.slice ro rs.length aF) R7);refine nE d (by decide) rfl (c.want (d:=25) (want:=R6) (b:=R6) rfl rfl rfl (by decide)) _ (eA (cs:=[.int .i64 (b.rows:Int),.slice (RX ⟨ct i,0,RZ⟩) l.length (mE i)]) rfl (c.of rfl) T2 rfl m6 (.inr (.inr rfl)) (nM j.set)) ?_;replace c:=c.put (d:=27) (by decide) (.agg #[.int .i64 (b.rows:Int),.slice (RX ⟨ct i,0,RZ⟩) l.length (mE i)]);refine BX (R:=fun g F L=>∃ o,F= .returned (.bool o)∧o=xC bs rs i) dJ rfl rfl (c.want (d:=25) (want:=R6) (b:=R6) rfl rfl rfl (by decide)) rfl (v9 (c.of rfl) (c.of rfl)) Tryz.func77 QT rfl (jg rfl rfl rfl).symm (dM rfl (by simp only[put_defers];exact G) (by kernel_rfl)) (fun g p K=>?_) fun v A g L p K br bd bt m=>?_
  ·have O:=hF g (u.same p K).1 (u.same p K).2;refine(mS rs (fun bl=>(b.chunks.getD bl.toNat xq).dS) (b.rows:Int) (ct i) l.length (mE i) a0 b0 (.slice (RX ⟨db,0,RZ⟩) bs.length cG) (.slice co ah.length aD) ro rb bh aF R7 g q.rn O.nr (O.Rk q f)).mono fun F L h=>?_;obtain⟨o,rfl,s,ao⟩:=h;refine⟨ao,_,rfl,o,rfl,?_⟩;have a1:bs.getD i ⟨0,[]⟩=b:=by rw[Sj,f];rfl
   unfold xC;rw[a1];cases B:o with
   |true=>
    symm
    rw[B] at s;apply TY;intro Z;simp only[Bool.not_eq_true,List.any_eq_false] at Z;have:∀ i (h:i<rs.length),Ec.rf ((b.chunks.getD rs[i].col.toNat xq).dS) rs[i]=R6:=fun i H=>by
     have:=Z rs[i] (Sl H);simpa using this
    have:=s.2 this;cases this
   |false=>
    symm
    rw[List.any_eq_false];intro bB ba;obtain⟨bm,bc,rfl⟩:=List.mem_iff_getElem.1 ba;have:=(s.1 B) bm bc;simpa using this
  ·obtain⟨o,B,rfl⟩:=bd;cases B;have a4:=u.rel (own':=grown (fun b=>own b∨b=e) g.heap.size A.heap.size) m (fun b h=>.inl h);have a3:=C.jq _ _ _ A T (fun b f=>m.at_ b (u.qs b f)) m.size;have a9:=(m.at_ qb (.inl k)).trans D;have bj:=(m.at_ wb (.inl y)).trans am;have be:=(m.at_ e (.inr rfl)).trans j.set;have aw:∀ b,grown (fun b=>own b∨b=e) g.heap.size A.heap.size b→b<A.heap.size:=fun b f=>f.elim (fun h=>Sa (P b h) m.size) (fun h=>h.2);replace c:=c.put (d:=28) (by decide) (.bool (xC bs rs i));refine lM d (by decide) rfl (c.want (d:=25) (want:=R6) (b:=R6) rfl rfl rfl (by decide)) _ (xz rfl (c.of rfl)) ?_;replace c:=c.put (d:=29) (by decide) (.bool (!xC bs rs i));refine cP d c rfl (.bool (!xC bs rs i)) (xA rfl (c.of rfl) (c.of rfl)) fun c=>?_;refine aj d ?_;refine cJ d (!xC bs rs i) (c.of rfl) ?_;have x:=U _ A _ e ⟨(((((((c.nil.cons (c.slot 1 _ rfl)).cons (c.slot 2 _ rfl)).cons (c.slot 4 _ rfl)).cons (c.slot 6 _ rfl)).cons (c.slot 7 _ rfl)).cons (c.slot 16 _ rfl)).cons (c.slot 17 _ rfl)).cons (c.slot 18 _ rfl),by simp only[put_defers];exact G,a3,a4,aw,.inl (.inl k),ab,W,a9,.inl (.inl y),ad,Y,bj⟩ (c.slot 9 _ rfl) (.inl (.inr rfl)) (fun h=>al e h rfl) X (by omega) (by omega) be;rw[Bool.true_and] at x;cases ae:xC bs rs i with
   |true=>rw[ae] at x;exact x
   |false=>rw[ae] at x;exact x
end
end Cc
namespace Cc
open Go Go.Conc
open Go.RowKit (Below)
open Ec (az aC bZ cM qm vX qC qv bG Bd jw kU cE aJ wj)
def fK (kb g ck eb f ce:Nat)(dO:Option SL)(d cG:Nat)(co:Option SL)(e aD:Nat)(ro:Option SL)(h aF:Nat)(sk:Bool):Array R2:= #[.slice (RX ⟨kb,0,RZ⟩) g ck,.slice (RX ⟨eb,0,RZ⟩) f ce,.slice dO d cG,.slice co e aD,.slice ro h aF,.bool sk]
section
variable {Post:R2→R3→Prop}{J:List cF→(Nat→Prop)→R3→Prop}{Go:List cF→Bool}{w0 w:R3}{M0 M own:Nat→Prop}{lp first n i qb wb vb:Nat}{pre:List cF}{a:T6}{cs:List Sn}{l:List (bG×Int)}{bs:List Bd}{ah:List Int}{rs:List bZ}{kb ck eb ce db:Nat}{dO:Option SL}{ct mE:Nat→Nat}{co:Option SL}{cb aV aD:Nat}{ro:Option SL}{rb bh aF:Nat}{V:Nat→Nat→List az}{cG:Nat}{sk:Bool}{b:Bd}{c:Sn}
def Gy{ws:List Bool}(g:bs[i]? =RX b):C6 bs ws V i=R7↔∀ j,ws[j]? =RX R7→(V i j).length=b.rows:=by
 unfold C6;rw[tQ g,SC];constructor
 ·intro f j d;have e:j<ws.length:=(SA.1 d).1;have:=f j (TC.2 e);rw[Sj,d] at this;simpa using this
 ·intro f j d;have e:=TC.1 d;rw[Sj,Sk e];cases h:ws[j] with
  |false=>simp
  |true=>
   have:=f j (by rw[Sk e,h]);simp[this]
theorem Np{e w5:R3}{lb N:Nat}{g:Nat→Nat}(q:FQ l bs ah rs V)(f:FM e l bs ah rs kb eb dO db ct mE co cb aV ro rb bh)(u:e.heap[lb]? =RX (.cells (eB (aJ l.length (ah ++ rs.map bZ.col)) g (V i) N (aJ l.length (ah ++ rs.map bZ.col)).length).toArray 43 (0,0)))(B:∀ j,(aJ l.length (ah ++ rs.map bZ.col))[j]? =RX R7→Row e (g j) N (V i j))(A:∀ j,(aJ l.length (ah ++ rs.map bZ.col))[j]? =RX R7→(V i j).length=N):
 QX e ah rs co cb aV ro rb bh lb l.length N (yD V i):=by
 refine⟨f.ca,f.cl,f.cc,f.nr,fun r I k h=>?_⟩;have y:(0≤k∧k<(l.length:Int))∧k∈ah ++ rs.map bZ.col:=by
  rcases h with h|⟨v,d,rfl⟩
  ·exact⟨q.ck k h,List.mem_append_left _ h⟩
  ·exact⟨q.rk v d,List.mem_append_right _ (Tu.2 ⟨v,d,rfl⟩)⟩
 obtain⟨⟨x,F⟩,z⟩:=y;obtain⟨j,rfl⟩:=Int.eq_ofNat_of_zero_le x;have m:j<l.length:=by omega
 have p:=CY.2 ⟨m,z⟩;have H:=A j p;obtain⟨⟨E,s,G,C⟩,_⟩:=B j p;have o:r<(V i j).length:=by omega
 have d:=tP s C o;have D:yD V i (j:Int) r=(V i j)[r]:=by
  unfold yD;rw[Int.toNat_natCast,Sj,Sk o];rfl
 rw[D];refine⟨j,g j,(V i j).length,N,rfl,m,(R9.1 u).1,?_,o,(R9.1 s).1,?_,?_,?_⟩
 ·unfold Sr;simp only[u];have t:j<(aJ l.length (ah ++ rs.map bZ.col)).length:=by rw[Ec.iB];exact m
  have:=lV (ws:=aJ l.length (ah ++ rs.map bZ.col)) (g:=g) (V:=V i) (N:=N) (i:=(aJ l.length (ah ++ rs.map bZ.col)).length) t;rw[if_pos ⟨t,p⟩] at this;simpa using this
 ·have:=d 0 _ rfl;rw[SZ,Nat.add_zero] at this;exact this
 ·have:=d 1 _ rfl;rw[SZ] at this;exact this
 ·have:=d 2 _ rfl;rw[SZ] at this;exact this
end
section
variable {Post:R2→R3→Prop}{J:List cF→(Nat→Prop)→R3→Prop}{Go:List cF→Bool}{w0 w:R3}{M0 M own:Nat→Prop}{lp first n i qb wb vb:Nat}{pre:List cF}{a:T6}{cs:List Sn}{l:List (bG×Int)}{bs:List Bd}{ah:List Int}{rs:List bZ}{kb ck eb ce db:Nat}{dO:Option SL}{ct mE:Nat→Nat}{co:Option SL}{cb aV aD:Nat}{ro:Option SL}{rb bh aF:Nat}{V:Nat→Nat→List az}{cG:Nat}{sk:Bool}{b:Bd}{c:Sn}
def lH{a:T6}{x:S3}{u:R2}(h1:a.eval x=u): #[x].map a.eval=#[u]:=by simp[h1]
def J1{a:T6}{x y z u v:S3}{f g h d e:R2}(h1:a.eval x=f)(j:a.eval y=g)(k:a.eval z=h)(m:a.eval u=d)(o:a.eval v=e): #[x,y,z,u,v].map a.eval=#[f,g,h,d,e]:=by simp[h1,j,k,m,o]
theorem Ah(q:FQ l bs ah rs V)(g:bs[i]? =RX b)(C:first≤100000)(D:i<bs.length)
 (h:oF J w0 w M0 M own (fK kb l.length ck eb l.length ce dO bs.length cG co ah.length aD ro rs.length aF sk) lp first n i bs.length qb wb l.length (.slice dO bs.length cG) (aJ l.length (ah ++ rs.map bZ.col)) pre a) (f:aN a 9= .pointer (RX ⟨vb,0,RZ⟩)) (x:own vb) (A:w.heap[vb]? =RX (.cells #[.int .i64 (b.rows:Int),.slice (RX ⟨ct i,0,RZ⟩) l.length (mE i)] 139 (0,0)))
 (o:∀ a',oF J w0 w M0 M own (fK kb l.length ck eb l.length ce dO bs.length cG co ah.length aD ro rs.length aF sk) lp (first+b.rows) n (i+1) bs.length qb wb l.length (.slice dO bs.length cG) (aJ l.length (ah ++ rs.map bZ.col)) pre a'→Xe (aa.of RY) RY Post own ((base 54).at a' [.code (gG US),.inLoop (gG US),.inBlock 0,.code (pZ US)]) cs w):
 Xe (aa.of RY) RY Post own ((base 54).at a (sn US)) cs w:=by
 have e:=fV (aa.of RY) RY Post;obtain⟨d,k,m,p,j,v,t,r,z,y,u,s,B⟩:=h;have F:=q.rows b (TD g);have E:=q.nb;replace d:=d.cons f;refine aU e [0,1,2,3,4] rfl ?_;refine bV e d fun d=>?_;refine cP e d rfl (.pointer (RX ⟨vb,0,RZ⟩)) (cH (off':=0) rfl (d.of rfl) T2 rfl VD rfl) fun d=>?_;refine qo e d rfl (.int .i64 (b.rows:Int)) (bK rfl (d.of rfl) V2 (.inr x) (jL A rfl)) fun d=>?_;refine cP e d rfl (.int .i64 ((first+b.rows:Nat):Int)) (mV rfl (d.of rfl) (d.of rfl) (by omega)) fun d=>?_;refine fE e d fun d=>?_;refine aj e ?_;refine gL e ?_;refine aU e [0,1] rfl ?_;refine cP e d rfl (.int .i64 ((i+1:Nat):Int)) (mV (j:=1) rfl (d.of rfl) rfl (by omega)) fun d=>?_;refine bV e d fun d=>?_;refine aj e ?_;refine j3 e ?_;exact o _ ⟨(((((((d.nil.cons (d.slot 1 _ rfl)).cons (d.slot 2 _ rfl)).cons (d.slot 4 _ rfl)).cons (d.slot 6 _ rfl)).cons (d.slot 7 _ rfl)).cons (d.slot 16 _ rfl)).cons (d.slot 17 _ rfl)).cons (d.slot 18 _ rfl),by simp only[put_defers];exact k,m,p,j,v,t,r,z,y,u,s,B⟩
theorem tR(C:Cons (aa.of RY) RY Post lp J Go)(q:FQ l bs ah rs V)(hF:∀ y,(∀ b,b<w0.heap.size→¬ M0 b→mw y w0 b)→w0.heap.size≤y.heap.size→FM y l bs ah rs kb eb dO db ct mE co cb aV ro rb bh)(f:bs[i]? =RX b)(bu:first=fX bs i)(c1:pre.length≤first)(c0:n≤100000)
 (h:oF J w0 w M0 M own (fK kb l.length ck eb l.length ce dO bs.length cG co ah.length aD ro rs.length aF sk) lp first n i bs.length qb wb l.length (.slice dO bs.length cG) (aJ l.length (ah ++ rs.map bZ.col)) pre a) (bm:aN a 9= .pointer (RX ⟨vb,0,RZ⟩)) (X:own vb) (b4:¬ M vb) (cR:w0.heap.size≤vb) (bc:w.heap[vb]? =RX (.cells #[.int .i64 (b.rows:Int),.slice (RX ⟨ct i,0,RZ⟩) l.length (mE i)] 139 (0,0)))
 (bt:C6 bs (aJ l.length (ah ++ rs.map bZ.col)) V i=R6→∀ own' w',J pre M w'→Kept w0 w' M0 M own'→(∀ b,own' b→b<w'.heap.size)→Xe (aa.of RY) RY Post own' (c.finish (.tuple #[.int .i64 ((n+1:Nat):Int),.int .i64 3])) cs w')
 (ci:C6 bs (aJ l.length (ah ++ rs.map bZ.col)) V i=R7→(feed Go pre (ia bs ah rs V i)).2=R6→∀ own' u w',J (feed Go pre (ia bs ah rs V i)).1 u w'→Kept w0 w' M0 u own'→(∀ b,own' b→b<w'.heap.size)→Xe (aa.of RY) RY Post own' (c.finish (.tuple #[.int .i64 ((n+1:Nat):Int),.int .i64 0])) cs w')
 (bA:C6 bs (aJ l.length (ah ++ rs.map bZ.col)) V i=R7→(feed Go pre (ia bs ah rs V i)).2=R7→∀ own' u w' a',oF J w0 w' M0 u own' (fK kb l.length ck eb l.length ce dO bs.length cG co ah.length aD ro rs.length aF sk) lp first (n+1) i bs.length qb wb l.length (.slice dO bs.length cG) (aJ l.length (ah ++ rs.map bZ.col)) (feed Go pre (ia bs ah rs V i)).1 a'→aN a' 9= .pointer (RX ⟨vb,0,RZ⟩)→own' vb→w'.heap[vb]? =RX (.cells #[.int .i64 (b.rows:Int),.slice (RX ⟨ct i,0,RZ⟩) l.length (mE i)] 139 (0,0))→Xe (aa.of RY) RY Post own' ((base 54).at a' (sn US)) (c :: cs) w'):
 Xe (aa.of RY) RY Post own ((base 54).at a (.code (Ds US) :: sn US)) (c :: cs) w:=by
 have e:=fV (aa.of RY) RY Post;obtain⟨d,F,x,p,A,W,a6,b2,a9,Y,a7,b3,bd⟩:=h;have c2:=q.rows b (TD f);have a2:(aJ l.length (ah ++ rs.map bZ.col)).length=l.length:=Ec.iB _ _;have bv:fX bs (i+1)≤2000:=Ss (wP bs (i+1)) q.tot;rw[rN f] at bv;replace d:=d.cons bm;refine aH e ?_;refine aU e [0,1,2] rfl ?_;refine bV e d fun d=>?_;refine cP e d rfl (.int .i64 ((n+1:Nat):Int)) (mV (j:=1) rfl (d.of rfl) rfl (by omega)) fun d=>?_;refine fE e d fun d=>?_;refine aj e ?_;refine aH e ?_;refine aU e [0,1,2,3,4,5,6,7,8,9] rfl ?_;refine qo e d rfl (oh (b.rows:Int) (ct i) l.length (mE i)) (eA (cs:=[.int .i64 (b.rows:Int),.slice (RX ⟨ct i,0,RZ⟩) l.length (mE i)]) rfl (d.of rfl) T2 rfl m6 (.inr X) (nM bc)) fun d=>?_;refine cP e d rfl (.pointer (RX ⟨qb,0,RZ⟩)) (cH (off':=0) rfl (d.of rfl) Uu rfl Tryz.sizeOf105 rfl) fun d=>?_;refine nE e (by decide) rfl rfl _ (eA (cs:=[.slice (RX ⟨kb,0,RZ⟩) l.length ck,.slice (RX ⟨eb,0,RZ⟩) l.length ce,.slice dO bs.length cG]) rfl (d.of rfl) Tryz.underlying105 rfl zQ (.inr W) (fun E v x=>nM a9 E v (by
  rcases E with _|_|_|E
  ·exact x
  ·exact x
  ·exact x
  ·simp at x))) ?_
 replace d:=d.put (d:=36) (by decide) (ou kb l.length ck eb l.length ce (.slice dO bs.length cG));refine bV e d fun d=>?_;refine n9 (R:=fun t=>Oo t b.rows (aJ l.length (ah ++ rs.map bZ.col)) (V i)) (vs:= #[oh (b.rows:Int) (ct i) l.length (mE i),ou kb l.length ck eb l.length ce (.slice dO bs.length cG),.slice (RX ⟨wb,0,RZ⟩) l.length l.length]) rfl rfl rfl rfl (AK (d.of rfl) (d.of rfl) (d.of rfl)) Tryz.func78 P5 rfl (dM rfl (by simp only[put_defers];exact F) (by kernel_rfl)) (fun t s=>?_) (fun t v g s K Z ca=>?_) (fun t bj w' ⟨_,_,_,o,_⟩=>by cases o) (fun t w' ⟨_,_,_,o,_⟩=>by cases o)
 ·have a0:=p.rel s (fun b h=>h);have P:=hF t (a0.same (fun b L _ h _=>h) (R8 _)).1 a0.size;have:=Em (Post:=Post) (cap:=mE i) (ck:=ck) (ce:=ce) (x:=.slice dO bs.length cG) (gW:=l.length) (P.bin q f ((s.at_ wb Y).trans bd));rw[a2] at this;exact this
 ·obtain⟨ad,kD,m,o,al,b1,a3,cd,T⟩:=K;cases o;rw[a2];have U:C6 bs (aJ l.length (ah ++ rs.map bZ.col)) V i=kD:=by
   cases kD with
   |true=>exact(Gy f).2 (T.1 rfl)
   |false=>
    cases o:C6 bs (aJ l.length (ah ++ rs.map bZ.col)) V i with
    |false=>rfl
    |true=>exact absurd (T.2 ((Gy f).1 o)) (by decide)
  have G:∀ b,own b→g.heap[b]? =w.heap[b]? :=fun b a8=>(al.block b (Sa (A b a8) s.size)).trans (s.at_ b a8);have D:w.heap.size≤g.heap.size:=Ss s.size al.size;have j:Kept w0 g M0 M (fun b=>b<g.heap.size):=⟨fun b f k=>⟨by have:=p.size;show b<g.heap.size;omega,(G b (p.keep b f k).1).trans (p.keep b f k).2⟩,p.ext,fun b f=>Sa (A b (p.qs b f)) D,Ss p.size D,Z.tape.trans (s.tape.trans p.tape),Z.os.trans (s.os.trans p.os),Z.output.trans (s.output.trans p.output)⟩;have aw:=C.jq _ _ _ g x (fun b f=>G b (p.qs b f)) D;have ba:=(G qb W).trans a9;have cn:=(G wb Y).trans bd;have K:=(G vb X).trans bc;have ae:qb<g.heap.size:=Sa (A qb W) D;have bi:wb<g.heap.size:=Sa (A wb Y) D;have be:vb<g.heap.size:=Sa (A vb X) D;refine Xe.go (own:=fun b=>b<g.heap.size) ?_ (fun b h=>h) ca;replace d:=d.put (d:=38) (by decide) (.tuple #[.slice (RX ⟨ad,0,RZ⟩) l.length l.length,.bool kD]);refine bV e d fun d=>?_;refine oB e d fun d=>?_;refine oB e d fun d=>?_;refine fE e d fun d=>?_;refine fE e d fun d=>?_;refine aj e ?_;refine aH e ?_;refine aH e ?_;refine aU e [0,1] rfl ?_;refine bV e d fun d=>?_;refine cP e d rfl (.bool (!kD)) (xz rfl (d.of rfl)) fun d=>?_;refine aj e ?_;cases kD with
  |false=>
   refine cJ e R7 (d.of rfl) ?_;refine aH e ?_;refine aU e [0,1,2] rfl ?_;refine bV e d fun d=>?_;refine fE e d fun d=>?_;refine m8 e d (.int .i64 3) fun d=>?_;refine aj e ?_;refine om e ?_;have H:=fN (P:=RY) Tryz.results54 (d.slot 4 _ rfl) (d.slot 5 _ rfl);exact gp e rfl (by simp only[put_defers];exact F) Tryz.func54 H.1 H.2 (bt U _ g aw j (fun b h=>h))
  |true=>
   have br:=T.1 rfl;refine cJ e R6 (d.of rfl) ?_;refine gu e ?_;refine aH e ?_;refine aU e [0,1,2,3,4,5,6,7] rfl ?_;refine qo e d rfl (qv (.slice (RX ⟨kb,0,RZ⟩) l.length ck) (.slice (RX ⟨eb,0,RZ⟩) l.length ce) (.slice dO bs.length cG) (.slice co ah.length aD) (.slice ro rs.length aF) sk) (eA (cs:=(fK kb l.length ck eb l.length ce dO bs.length cG co ah.length aD ro rs.length aF sk).toList) rfl (d.of rfl) Uu rfl tK (.inr ae) (nM ba)) fun d=>?_;refine bV e d fun d=>?_;refine bV e d fun d=>?_;refine cP e d rfl (.pointer (RX ⟨vb,0,RZ⟩)) (cH (off':=0) rfl (d.of rfl) T2 rfl VD rfl) fun d=>?_;refine qo e d rfl (.int .i64 (b.rows:Int)) (bK rfl (d.of rfl) V2 (.inr be) (jL K rfl)) fun d=>?_;refine bV e d fun d=>?_;refine n9 (R:=fun N=>Ot J M N (feed Go pre (ia bs ah rs V i))) (vs:= #[qv (.slice (RX ⟨kb,0,RZ⟩) l.length ck) (.slice (RX ⟨eb,0,RZ⟩) l.length ce) (.slice dO bs.length cG) (.slice co ah.length aD) (.slice ro rs.length aF) sk,.slice (RX ⟨ad,0,RZ⟩) l.length l.length,.int .i64 (first:Int),.int .i64 (b.rows:Int),.func (.yield lp) #[] #[]]) rfl rfl rfl rfl (J1 (d.of rfl) (d.of rfl) (d.of rfl) (d.of rfl) (d.of rfl)) Tryz.func79 P9 rfl (dM rfl (by simp only[put_defers];exact F) (by kernel_rfl)) (fun N r=>?_) (fun N v B r cl ab cc=>?_) (fun t bj w' ⟨o,_⟩=>by cases o) (fun t w' ⟨o,_⟩=>by cases o)
   ·have bB:=C.jq _ _ _ N aw (fun b f=>r.at_ b (j.qs b f)) r.size;have ar:ia bs ah rs V i=dB (mH rs (yD V i)) (fun cu=>ah.map fun cp=>yD V i cp cu) first 0 b.rows:=by
     unfold ia;rw[tQ f,bu]
    rw[ar];refine EQ (val:=yD V i) (cb:=cb) (aV:=aV) (rb:=rb) (bh:=bh) C bB (fun y bo cf=>?_) (by omega) q.cn q.rn (by omega);have z:∀ b,b<g.heap.size→¬ M b→mw y g b:=fun b f k L S Q=>bo b (Sa f r.size) k L ((r.at_ b f).trans S) Q;have am:∀ b,M b→b<t.heap.size:=fun b f=>Sa (A b (p.qs b f)) s.size;have P:=hF y (fun b f k L S Q=>z b (j.keep b f k).1 (fun h=>(j.ext b h).elim k (fun h=>by omega)) L ((j.keep b f k).2.trans S) Q) (Ss j.size (Ss r.size cf));have a4:∀ m,t.heap.size≤m→m<g.heap.size→mw y g m:=fun m cx bl=>z m bl (fun h=>by have:=am m h;omega);refine Np (g:=m) (w5:=g) q P (a4 ad b1 (R9.1 a3).1 _ a3 trivial) (fun E x=>?_) br;obtain⟨bb,bx⟩:=cd E x;obtain⟨cv,R,_⟩:=bb.ex;exact bb.same ((a4 (m E) bx (R9.1 R).1 _ R trivial).trans R.symm)
   ·obtain⟨o,u,O,b0,c3,ao⟩:=cl;cases o;have ch:=r.size;have z:∀ b,b<g.heap.size→¬ M b→B.heap[b]? =g.heap[b]? :=fun b f k=>(b0 b (Sa f ch) k).trans (r.at_ b f);have am:∀ b,M b→b<w.heap.size:=fun b f=>A b (p.qs b f);have a1:Kept w0 B M0 u (fun b=>b<B.heap.size):=⟨fun b f k=>⟨by have:=j.size;show b<B.heap.size;omega,(z b (j.keep b f k).1 (fun h=>(j.ext b h).elim k (fun h=>by omega))).trans (j.keep b f k).2⟩,fun b f=>(ao b f).elim (j.ext b) (fun h=>.inr (by have:=j.size;omega)),fun b f=>C.bound _ _ _ O b f,by have:=j.size;omega,ab.tape.trans (r.tape.trans j.tape),ab.os.trans (r.os.trans j.os),ab.output.trans (r.output.trans j.output)⟩;have a5:∀ m,m<g.heap.size→¬ M m→¬ u m:=fun m ar k h=>(ao m h).elim k (fun h=>by omega);refine Xe.go (own:=fun b=>b<B.heap.size) ?_ (fun b h=>h) cc;replace d:=d.put (d:=50) (by decide) (.bool (feed Go pre (ia bs ah rs V i)).2);refine cP e d rfl (.bool (!(feed Go pre (ia bs ah rs V i)).2)) (xz rfl (d.of rfl)) fun d=>?_;refine aj e ?_;cases I:(feed Go pre (ia bs ah rs V i)).2 with
    |false=>
     rw[I] at d;refine cJ e R7 (d.of rfl) ?_;refine aH e ?_;refine aU e [0,1,2] rfl ?_;refine bV e d fun d=>?_;refine fE e d fun d=>?_;refine m8 e d (.int .i64 0) fun d=>?_;refine aj e ?_;refine om e ?_;have H:=fN (P:=RY) Tryz.results54 (d.slot 4 _ rfl) (d.slot 5 _ rfl);exact gp e rfl (by simp only[put_defers];exact F) Tryz.func54 H.1 H.2 (ci U I _ u B O a1 (fun b h=>h))
    |true=>
     rw[I] at d;refine cJ e R6 (d.of rfl) ?_;refine gu e ?_;exact bA U I _ u B _ ⟨(((((((d.nil.cons (d.slot 1 _ rfl)).cons (d.slot 2 _ rfl)).cons (d.slot 4 _ rfl)).cons (d.slot 6 _ rfl)).cons (d.slot 7 _ rfl)).cons (d.slot 16 _ rfl)).cons (d.slot 17 _ rfl)).cons (d.slot 18 _ rfl),by simp only[put_defers];exact F,O,a1,(fun b h=>h),by show qb<_;omega,a5 qb ae a6,b2,(z qb ae a6).trans ba,by show wb<_;omega,a5 wb bi a7,b3,(z wb bi a7).trans cn⟩ (d.slot 9 _ rfl) (by show vb<_;omega) ((z vb be b4).trans K)
end
end Cc
namespace Cc
open Go Go.Conc
open Go.RowKit (Below)
open Ec (az aC bZ cM qm vX qC qv bG Bd jw kU cE aJ wj n7)
section
variable {Post:R2→R3→Prop}{J:List cF→(Nat→Prop)→R3→Prop}{Go:List cF→Bool}{w0 w:R3}{M0 M own:Nat→Prop}{lp first n i qb wb vb:Nat}{pre:List cF}{a:T6}{cs:List Sn}{l:List (bG×Int)}{bs:List Bd}{ah:List Int}{rs:List bZ}{kb ck eb ce db:Nat}{dO:Option SL}{ct mE:Nat→Nat}{co:Option SL}{cb aV aD:Nat}{ro:Option SL}{rb bh aF:Nat}{V:Nat→Nat→List az}{cG:Nat}{sk:Bool}{b:Bd}{c:Sn}
theorem LF(h:oF J w0 w M0 M own (fK kb l.length ck eb l.length ce dO bs.length cG co ah.length aD ro rs.length aF sk) lp first n bs.length bs.length qb wb l.length (.slice dO bs.length cG) (aJ l.length (ah ++ rs.map bZ.col)) pre a)(g:Xe (aa.of RY) RY Post own (c.finish (.tuple #[.int .i64 (n:Int),.int .i64 0])) cs w):
 Xe (aa.of RY) RY Post own ((base 54).at a [.code (gG US),.inLoop (gG US),.inBlock 0,.code (pZ US)]) (c :: cs) w:=by
 have d:=fV (aa.of RY) RY Post;have e:=h.kn;refine aH d ?_;refine aU d [0] rfl ?_;refine cP d e rfl (.bool R6) (iH rfl (e.of rfl) (e.of rfl) (by simp)) fun e=>?_;refine aj d ?_;refine aH d ?_;refine cJ d R6 (e.of rfl) ?_;refine sX d (k':=[.code (pZ US)]) rfl ?_;refine aH d ?_;refine aU d [0,1,2] rfl ?_;refine bV d e fun e=>?_;refine fE d e fun e=>?_;refine m8 d e (.int .i64 0) fun e=>?_;refine aj d ?_;refine om d ?_;have f:=fN (P:=RY) Tryz.results54 (e.slot 4 _ rfl) (e.slot 5 _ rfl);exact gp d rfl (by simp only[put_defers];exact h.df) Tryz.func54 f.1 f.2 g
theorem I2(C:Cons (aa.of RY) RY Post lp J Go)(q:FQ l bs ah rs V)(hF:∀ x,(∀ b,b<w0.heap.size→¬ M0 b→mw x w0 b)→w0.heap.size≤x.heap.size→FM x l bs ah rs kb eb dO db ct mE co cb aV ro rb bh)(O:0<bs.length→¬ M0 db):
 ∀ (r i:Nat),i+r=bs.length→∀ (pre:List cF) (own M:Nat→Prop) (w:R3) (a:T6) (n:Nat),n≤i→pre.length≤fX bs i→
 oF J w0 w M0 M own (fK kb l.length ck eb l.length ce dO bs.length cG co ah.length aD ro rs.length aF sk) lp (fX bs i) n i bs.length qb wb l.length (.slice dO bs.length cG) (aJ l.length (ah ++ rs.map bZ.col)) pre a→
 (∀ own' j w',J (gH sk bs ah rs (aJ l.length (ah ++ rs.map bZ.col)) V Go i r pre n).1 j w'→Kept w0 w' M0 j own'→(∀ b,own' b→b<w'.heap.size)→Xe (aa.of RY) RY Post own' (c.finish (.tuple #[.int .i64 ((gH sk bs ah rs (aJ l.length (ah ++ rs.map bZ.col)) V Go i r pre n).2.1:Int),.int .i64 ((gH sk bs ah rs (aJ l.length (ah ++ rs.map bZ.col)) V Go i r pre n).2.2:Int)])) cs w')→
 Xe (aa.of RY) RY Post own ((base 54).at a [.code (gG US),.inLoop (gG US),.inBlock 0,.code (pZ US)]) (c :: cs) w:=by
 intro r
 induction r with
 |zero=>
  intro i L pre own M w a n N t d e;have:i=bs.length:=by omega
  subst this;exact LF d (e own M w d.j d.kept d.bd)
 |succ r H=>
  intro i L pre own M w a n N t d e;have D:i<bs.length:=by omega
  have f:bs[i]? =RX bs[i]:=Sk D;generalize bs[i]=b at f;have Z:=q.nb;have W:fX bs (i+1)≤2000:=Ss (wP bs (i+1)) q.tot;have G:=rN f;refine I1 C q hF f O d fun R S U vb m o s F E ab ad v=>?_;cases u:(sk && xC bs rs i) with
  |true=>
   have g:gH sk bs ah rs (aJ l.length (ah ++ rs.map bZ.col)) V Go i (r+1) pre n=gH sk bs ah rs (aJ l.length (ah ++ rs.map bZ.col)) V Go (i+1) r pre n:=by simp only[gH,u,if_true]
   rw[g] at e;refine gu (fV (aa.of RY) RY Post) ?_;refine Ah q f (by omega) D m o s v fun y k=>?_;rw[← G] at k;exact H (i+1) (by omega) pre R M S y n (by omega) (by omega) k e
  |false=>
   cases h:C6 bs (aJ l.length (ah ++ rs.map bZ.col)) V i with
   |false=>
    have g:gH sk bs ah rs (aJ l.length (ah ++ rs.map bZ.col)) V Go i (r+1) pre n=(pre,n+1,3):=by simp only[gH,u,h,SD,if_false]
    rw[g] at e;exact tR C q hF f rfl t (by omega) m o s F E v (fun _ own' w' A B z=>e own' M w' A B z) (fun d=>by rw[h] at d;cases d) (fun d=>by rw[h] at d;cases d)
   |true=>
    cases p:(feed Go pre (ia bs ah rs V i)).2 with
    |false=>
     have g:gH sk bs ah rs (aJ l.length (ah ++ rs.map bZ.col)) V Go i (r+1) pre n=((feed Go pre (ia bs ah rs V i)).1,n+1,0):=by simp only[gH,u,h,p,SD,if_false,if_true]
     rw[g] at e;exact tR C q hF f rfl t (by omega) m o s F E v (fun d=>by rw[h] at d;cases d) (fun _ _ own' j w' A B z=>e own' j w' A B z) (fun _ d=>by rw[p] at d;cases d)
    |true=>
     have g:gH sk bs ah rs (aJ l.length (ah ++ rs.map bZ.col)) V Go i (r+1) pre n=gH sk bs ah rs (aJ l.length (ah ++ rs.map bZ.col)) V Go (i+1) r (feed Go pre (ia bs ah rs V i)).1 (n+1):=by simp only[gH,u,h,p,SD,if_false,if_true]
     rw[g] at e;refine tR C q hF f rfl t (by omega) m o s F E v (fun d=>by rw[h] at d;cases d) (fun _ d=>by rw[p] at d;cases d) (fun _ _ own' j w' T I K P Q=>?_);refine Ah q f (by omega) D I K P Q fun y k=>?_;rw[← G] at k;have X:=us Go (ia bs ah rs V i) pre;have Y:(ia bs ah rs V i).length≤b.rows:=by
      unfold ia;rw[tQ f];exact oy _ _ _ _ _
     exact H (i+1) (by omega) _ own' j w' y (n+1) (by omega) (by omega) k e
def Ow (J:List cF→(Nat→Prop)→R3→Prop)(M0:Nat→Prop)(w0:R3)(d:List cF×Nat×Nat)(f:UQ)(w':R3):Prop:=
 f= .returned (.tuple #[.int .i64 (d.2.1:Int),.int .i64 (d.2.2:Int)])∧∃ e,J d.1 e w'∧(∀ b,b<w0.heap.size→¬ M0 b→w'.heap[b]? =w0.heap[b]?)∧w0.heap.size≤w'.heap.size∧∀ b,e b→M0 b∨w0.heap.size≤b
theorem Fl(C:Cons (aa.of RY) RY Post lp J Go)(q:FQ l bs ah rs V)(F:J [] M0 w0)(hF:∀ h,(∀ b,b<w0.heap.size→¬ M0 b→mw h w0 b)→w0.heap.size≤h.heap.size→FM h l bs ah rs kb eb dO db ct mE co cb aV ro rb bh)(ae:0<bs.length→¬ M0 db):
 kG (aa.of RY) RY Post 54 #[qv (.slice (RX ⟨kb,0,RZ⟩) l.length ck) (.slice (RX ⟨eb,0,RZ⟩) l.length ce) (.slice dO bs.length cG) (.slice co ah.length aD) (.slice ro rs.length aF) sk,.func (.yield lp) #[] #[]] w0 (Ow J M0 w0 (gH sk bs ah rs (aJ l.length (ah ++ rs.map bZ.col)) V Go 0 bs.length [] 0)):=by
 intro c cs aw a7 am P;have e:=fV (aa.of RY) RY Post;refine Xe.go (own:=fun b=>b<w0.heap.size) ?_ (fun b f=>f) am;rw[enter_at _ Tryz.func54 rfl];have d:=Rm (qv (.slice (RX ⟨kb,0,RZ⟩) l.length ck) (.slice (RX ⟨eb,0,RZ⟩) l.length ce) (.slice dO bs.length cG) (.slice co ah.length aD) (.slice ro rs.length aF) sk) (.func (.yield lp) #[] #[]) 59 (by decide);have W:sG IB (fun b=>b<w0.heap.size) w0:=fun b g=>g.elim VP (fun f=>f);have t:=C.bound _ _ _ F;have ad:Kept w0 w0 M0 M0 (fun b=>b<w0.heap.size):=⟨fun b g _=>⟨g,rfl⟩,fun b g=>.inl g,t,R8 _,rfl,rfl,rfl⟩;refine aH e ?_;refine aU e [0,1,2] rfl ?_;refine kV e W (by decide) rfl rfl (.cells (fK kb l.length ck eb l.length ce dO bs.length cG co ah.length aD ro rs.length aF sk) 115) trivial (fun n=>.pointer (RX ⟨n,0,RZ⟩)) (tI (v:=qv (.slice (RX ⟨kb,0,RZ⟩) l.length ck) (.slice (RX ⟨eb,0,RZ⟩) l.length ce) (.slice dO bs.length cG) (.slice co ah.length aD) (.slice ro rs.length aF) sk) rfl (d.of rfl)) fun qb I R a8 ar E=>?_;replace d:=d.put (d:=2) (by decide) (.pointer (RX ⟨qb,0,RZ⟩));refine m8 e d (.int .i64 ((0:Nat):Int)) fun d=>?_;refine m8 e d (.int .i64 0) fun d=>?_;refine aj e ?_;have B:=EZ ar;have u:=ad.rel (own':=fun b=>b<w0.heap.size∨b=qb) B (fun b f=>.inl f);have Y:=C.jq _ _ _ I F (fun b g=>B.at_ b (t b g)) B.size;have S:∀ b,(b<w0.heap.size∨b=qb)→b<I.heap.size:=fun b g=>by omega
 refine aH e ?_;refine aU e [0,1,2] rfl ?_;refine qo e d rfl (qv (.slice (RX ⟨kb,0,RZ⟩) l.length ck) (.slice (RX ⟨eb,0,RZ⟩) l.length ce) (.slice dO bs.length cG) (.slice co ah.length aD) (.slice ro rs.length aF) sk) (eA (cs:=(fK kb l.length ck eb l.length ce dO bs.length cG co ah.length aD ro rs.length aF sk).toList) rfl (d.of rfl) Uu rfl tK (.inr (.inr rfl)) (nM E)) fun d=>?_;refine BX (vs:= #[qv (.slice (RX ⟨kb,0,RZ⟩) l.length ck) (.slice (RX ⟨eb,0,RZ⟩) l.length ce) (.slice dO bs.length cG) (.slice co ah.length aD) (.slice ro rs.length aF) sk]) (R:=fun h r y=>∃ o,r= .returned (.slice (RX ⟨o,0,RZ⟩) l.length l.length)∧h.heap.size≤o∧y.heap[o]? =RX (.cells (wj (aJ l.length (ah ++ rs.map bZ.col))).toArray 4 (0,0))) dJ rfl rfl rfl rfl (lH (d.of rfl)) Tryz.func76 Qg rfl (jg rfl rfl rfl).symm (dM rfl (by simp only[put_defers]) (by kernel_rfl)) (fun h z D=>?_) fun v m h y z D a4 a0 Q p=>?_
 ·have s:=hF h (u.same z D).1 (u.same z D).2;have A:=q.m;have a6:=q.cn;refine(n7 l.length ah rs (RX ⟨kb,0,RZ⟩) ck (.slice (RX ⟨eb,0,RZ⟩) l.length ce) (.slice dO bs.length cG) co cb aV aD ro rb bh aF sk h q.m (by unfold Sw;omega) q.rn s.ca s.cl s.cc s.nr q.ck q.rk).mono fun r y f=>?_;obtain⟨L,o,rfl,N,O⟩:=f;exact⟨L,_,rfl,o,rfl,N,O⟩
 ·obtain⟨wb,r,a1,x⟩:=a0;cases r;have ab:=u.rel (own':=grown (fun b=>b<w0.heap.size∨b=qb) h.heap.size m.heap.size) p (fun b f=>.inl f);have Z:=C.jq _ _ _ m Y (fun b g=>p.at_ b (u.qs b g)) p.size;have H:=(p.at_ qb (.inr rfl)).trans E;have T:∀ b,grown (fun b=>b<w0.heap.size∨b=qb) h.heap.size m.heap.size b→b<m.heap.size:=fun b g=>g.elim (fun f=>Sa (S b f) p.size) (fun f=>f.2);replace x:=Q.row.1 x;have a2:wb<m.heap.size:=(R9.1 x).1;have G:grown (fun b=>b<w0.heap.size∨b=qb) h.heap.size m.heap.size qb:=.inl (.inr rfl);have al:grown (fun b=>b<w0.heap.size∨b=qb) h.heap.size m.heap.size wb:=.inr ⟨a1,a2⟩;replace d:=d.put (d:=13) (by decide) (.slice (RX ⟨wb,0,RZ⟩) l.length l.length);refine fE e d fun d=>?_;refine aj e ?_;refine aH e ?_;refine aU e [0] rfl ?_;refine m8 e d (.int .i64 ((0:Nat):Int)) fun d=>?_;refine aj e ?_;refine aH e ?_;refine aH e ?_;refine aU e [0,1,2,3,4] rfl ?_;refine cP e d rfl (.pointer (RX ⟨qb,0,RZ⟩)) (cH (off':=0) rfl (d.of rfl) Uu rfl Tryz.sizeOf105 rfl) fun d=>?_;refine cP e d rfl (.pointer (RX ⟨qb,2,RZ⟩)) (cH (off':=2) rfl (d.of rfl) Tryz.underlying105 rfl Tryz.sizeOf103 rfl) fun d=>?_;refine qo e d rfl (.slice dO bs.length cG) (bK rfl (d.of rfl) Tryz.isAgg103 (.inr G) (jL H rfl)) fun d=>?_;refine cP e d rfl (.int .i64 (bs.length:Int)) (q9 rfl (d.of rfl) Tryz.underlying103) fun d=>?_;refine cP e d rfl (.int .i64 ((0:Nat):Int)) (bQ rfl rfl) fun d=>?_;refine aj e ?_;refine fF e ?_;refine sY e ?_;have U:fX bs 0=0:=by simp[fX]
  refine I2 (w0:=w0) (M0:=M0) C q hF ae bs.length 0 (by omega) [] _ M0 m _ 0 (R8 _) (SK _) (by
   rw[U];exact⟨(((((((d.nil.cons (d.slot 1 _ rfl)).cons (d.slot 2 _ rfl)).cons (d.slot 4 _ rfl)).cons (d.slot 6 _ rfl)).cons (d.slot 7 _ rfl)).cons (d.slot 16 _ rfl)).cons (d.slot 17 _ rfl)).cons (d.slot 18 _ rfl),by simp only[put_defers],Z,ab,T,G,fun f=>by have:=t qb f;omega,R,H,al,fun f=>by have:=t wb f;omega,by omega,x⟩) fun a9 K ba X j a5=>?_
  intro _ a3 k ao;exact P _ a3 ⟨rfl,K,C.jq _ _ _ _ X (fun b g=>k.at_ b (j.qs b g)) k.size,fun b g A=>(k.at_ b (j.keep b g A).1).trans (j.keep b g A).2,Ss j.size k.size,j.ext⟩ ao ⟨k.tape.trans j.tape,k.os.trans j.os,k.output.trans j.output,Ss j.size k.size⟩ (lS aw _)
end
end Cc
namespace Cc
open Go Go.Conc
open Go.RowKit (Below)
open Ec (az aC bZ cM qv bG Bd aJ)
def E3{P:Sd}{a:T6}{o:Tx}{x:S3}{d:SL}(f:o.op= .nilCheck x)(g:a.eval x= .pointer (RX d)):∀ b,(SE a.eval o).run P b= .ok (.value (.pointer (RX d))) b∧(SE a.eval o).events P b #[]=#[]:=fun b=>by
 unfold SE;simp[f,g]
theorem II{P:Sd}{S own:Nat→Prop}{a:T6}{o:Tx}{w:R3}{t:Sg}{x:S3}{f off:Nat}{cs:List R2}{d:TypeDesc}{v:R2}(k:o.op= .load t x)(p:a.eval x= .pointer (RX ⟨f,off,RZ⟩))(l:P.underlying t=RX d)(i:d.isRow=R7)(j:(P.info? t).map (·.size)=RX cs.length)(h:S f∨own f)(hc:w.rangeAt f off cs)(m:.agg cs.toArray=v):∀ g,RelB (fun b=>S b∨own b) w g→(SE a.eval o).run P g= .ok (.value v) g∧∀ e∈(SE a.eval o).events P g #[],EvW S own e:=by
 subst m;exact eA k p l i j h hc
def dP (fn:UB):Array Tx:=match fn.body with
 |some (.region _ a _)=>a
 |_=> #[]
def EG (cu xb lp:Nat)(q:R2):List (Nat×R2):=[(4,.pointer (RX ⟨cu,0,RZ⟩)),(5,.pointer (RX ⟨cu,0,RZ⟩)),(6,.pointer (RX ⟨cu,0,RZ⟩)),(7,.pointer (RX ⟨cu,0,RZ⟩)),(8,.pointer (RX ⟨cu,0,RZ⟩)),(9,q),(10,.func (.yield lp) #[] #[])]
def Hy (cu:Nat)(n e:Nat):List (Nat×R2):=[(11,.tuple #[.int .i64 (n:Int),.int .i64 (e:Int)]),(3,.tuple #[.int .i64 (n:Int),.int .i64 (e:Int)]),(12,.int .i64 (n:Int)),(13,.int .i64 (e:Int)),(14,.pointer (RX ⟨cu,0,RZ⟩)),(15,.pointer (RX ⟨cu,6,RZ⟩))]
def M4 (cu:Nat):List (Nat×R2):=[(16,.pointer (RX ⟨cu,0,RZ⟩)),(17,.pointer (RX ⟨cu,7,RZ⟩))]
def Ks:List Nat:=[4,5,6,7,8,9,10]
def Ct:fJ (dP Ue) (fun i=>decide (i<7)) 7 18 Ks=R7:=by kernel_rfl
def Cu:fJ (dP Ue) (fun i=>decide (i<13)) 13 18 ([11,3,12,13,14,15] ++ Ks)=R7:=by kernel_rfl
def Cv:fJ (dP Ue) (fun i=>decide (i<16)) 16 18 ([16,17] ++ ([11,3,12,13,14,15] ++ Ks))=R7:=by kernel_rfl
def Kt:((SS (dP Ue).size).all fun i=> !(fun i=>decide (i<7)) i || match iz (dP Ue) i with|some d=> !([11,3,12,13,14,15]:List Nat).contains d|none=>R7)=R7:=by kernel_rfl
def Ku:((SS (dP Ue).size).all fun i=> !(fun i=>decide (i<13)) i || match iz (dP Ue) i with|some d=> !([16,17]:List Nat).contains d|none=>R7)=R7:=by kernel_rfl
def HJ:((SS (dP Ue).size).all fun i=> !(fun i=>decide (2≤i∧i≤7)) i || i == 7 || (under (dP Ue) 6 (match (dP Ue)[7]? with
 |some o=>(o.after.toList.filter fun e=>Tn .any e).map (·.on)
 |none=>[])).contains i)=R7:=by kernel_rfl
def H6:((SS (dP Ue).size).all fun i=> !(fun i=>decide (i≤13∧i≠1∧i≠10)) i || i == 13 || (under (dP Ue) 2 (match (dP Ue)[13]? with
 |some o=>(o.after.toList.filter fun e=>Tn .any e).map (·.on)
 |none=>[])).contains i)=R7:=by kernel_rfl
def H7:((SS (dP Ue).size).all fun i=> !(fun i=>decide (i≤16)) i || i == 16 || (under (dP Ue) 2 (match (dP Ue)[16]? with
 |some o=>(o.after.toList.filter fun e=>Tn .any e).map (·.on)
 |none=>[])).contains i)=R7:=by kernel_rfl
def Kv:xe (aa.of RY) (.inRegion (dP Ue) [])=R7:=by kernel_rfl
def O3{a:T6}{l:List Nat}(b:a.defers=[]):ed (aa.of RY) ((base 53).at a [.inRegion (dP Ue) l]) []:=
 dM rfl b (by rw[List.all_cons,List.all_nil,Bool.and_true];exact Kv)
def Qd:(US.name == "runtime.NumGoroutine")=R6:=by kernel_rfl
def KU:(RY.info? 3).map (·.size)=RX 1:=by kernel_rfl
def EN:(RY.info? 27).map (·.size)=RX 1:=by kernel_rfl
def Bv{P:Sd}{fn:UB}{a:T6}(b:fn.results=#[]):(∀ w,(SX fn a.tmps).run P w= .ok (.tuple #[]) w)∧∀ w,(SX fn a.tmps).events P w #[]=#[]:=by
 constructor<;>intro w<;>simp[SX,b]
def iL (q:Array R2)(n e:Nat):Array R2:=q ++ #[.int .i64 (n:Int),.int .i64 (e:Int)]
section
variable {Post:R2→R3→Prop}{own:Nat→Prop}{w:R3}{cu xb lp n e:Nat}{a0:T6}{cs:List Sn}{q:Array R2}{qa:R2}{c:Sn}{n0 e0:Nat}
theorem Kw(m:Knows a0 18 [(0,.func (.yield lp) #[] #[]),(1,.pointer (RX ⟨xb,0,RZ⟩))])(E:a0.defers=[])(F:sG IB own w)(H:own xb)(u:own cu)(P:xb≠cu)(K:w.heap[xb]? =RX (.cells #[.pointer (RX ⟨cu,0,RZ⟩)] 74 (0,0)))(v:q.size=6)(hc:w.heap[cu]? =RX (.cells (iL q n e0) 119 (0,0)))
 (k t:Nat) (f:Array Bool) (b:T6) (l:b6 (dP Ue) (fun i=>decide (i<16)) a0 (fill a0 (M4 cu ++ (Hy cu n e ++ EG cu xb lp qa))) f b) (p:∀ i,(fun i=>decide (i≤13∧i≠1∧i≠10)) i=R7→f.getD i R6=R7) (s:D1 f≤k)
 (G:∀ w',yP IB own cu (.cells (iL q n e) 119 (0,0)) w w'→Xe (aa.of RY) RY Post own (c.finish (.tuple #[])) cs w'):
 Xe (aa.of RY) RY Post own ((base 53).at b [.inRegion (dP Ue) (S5 .any (dP Ue) k t f [])]) (c :: cs) w:=by
 have h:=fV (aa.of RY) RY Post;refine jO (Dn:=fun i=>decide (i≤13∧i≠1∧i≠10)) (u:=16) h (by decide) m Cv ?_ ?_ ?_ k t f b l p s
 ·intro a i g I p _ d;have M:i<16:=by simpa using I
  have N:¬ (i≤13∧i≠1∧i≠10):=by simpa using p
  have:i=1∨i=10∨i=14∨i=15:=by omega
  rcases this with rfl|rfl|rfl|rfl
  ·cases(show RX _=RX g from d);exact⟨_,rfl,.inl ⟨rfl,bK rfl (a.of rfl) Tryz.isAgg74 (.inr H) (jL K rfl)⟩⟩
  ·cases(show RX _=RX g from d);exact⟨_,rfl,.inl ⟨rfl,bR (jJ rfl (a.of rfl) rfl)⟩⟩
  ·cases(show RX _=RX g from d);exact⟨_,rfl,.inl ⟨rfl,bR (E3 rfl (a.of rfl))⟩⟩
  ·cases(show RX _=RX g from d);exact⟨_,rfl,.inl ⟨rfl,bR (cH (off':=7) rfl (a.of rfl) Tryz.underlying119 rfl Tryz.sizeOf27 rfl)⟩⟩
 ·intro g d k t f b l x s O _;have a:=m.fill (M4 cu ++ (Hy cu n e ++ EG cu xb lp qa)) rfl;have o:=fL (Dn:=fun i=>decide (i≤16)) l x H7 (fun j r=>by
   have:j≤16:=by simpa using r
   show j<17;omega)
  cases(show RX _=RX g from d);obtain⟨C,D⟩:=nh l x rfl m.size Cv (fun j r=>o j (by
   have:j<17:=r;simp;omega))
  rw[D];subst C;refine qZ h F (n:=cu) (by decide) d rfl u (.cells ((iL q n e0).toList.take 7 ++ (T7 .i64 (e:Int)).cells.toList ++ (iL q n e0).toList.drop (7+(T7 .i64 (e:Int)).cells.size)).toArray 119) trivial (kq (n:=cu) (off:=7) (v:=.int .i64 (e:Int)) rfl (a.of rfl) (a.of rfl) EN (fun Q A=>by simp[Uw] at A;rw[A];rfl) (Or.inr u) hc (by
   show 7+1≤(iL q n e0).size;simp[iL,v])) fun L z=>?_
  refine aj h ?_;refine Kb h ?_;have y:=Bv (P:=RY) (fn:=Ue) (a:=(fill a0 (M4 cu ++ (Hy cu n e ++ EG cu xb lp qa))).put (dP Ue)[16].dst Tq) Tryz.results53;refine gp h rfl (by rw[put_defers,dQ];exact E) Tryz.func53 y.1 y.2 (G L ?_);have B:((iL q n e0).toList.take 7 ++ (T7 .i64 (e:Int)).cells.toList ++ (iL q n e0).toList.drop (7+(T7 .i64 (e:Int)).cells.size)).toArray=iL q n e:=by
   apply Array.toList_inj.1;have J:q.toList.length=6:=by simpa using v
   simp[iL,Uw,List.take_append,List.drop_append,J];rw[Tj (by omega),List.drop_eq_nil_of_le (by omega)]
  rw[B] at z;exact z
 ·intro o;exact absurd (o 16 (by decide)) (by decide)
theorem EH(m:Knows a0 18 [(0,.func (.yield lp) #[] #[]),(1,.pointer (RX ⟨xb,0,RZ⟩))])(r:a0.defers=[])(B:sG IB own w)(o:own xb)(v:own cu)(F:xb≠cu)(z:w.heap[xb]? =RX (.cells #[.pointer (RX ⟨cu,0,RZ⟩)] 74 (0,0)))(x:q.size=6)(hc:w.heap[cu]? =RX (.cells (iL q n0 e0) 119 (0,0)))
 (j t:Nat) (h:Array Bool) (b:T6) (k:b6 (dP Ue) (fun i=>decide (i<13)) a0 (fill a0 (Hy cu n e ++ EG cu xb lp qa)) h b) (s:∀ i,(fun i=>decide (2≤i∧i≤7)) i=R7→h.getD i R6=R7) (D:D1 h≤j)
 (M:∀ G w',yP IB own cu (.cells (iL q n e0) 119 (0,0)) w G→yP IB own cu (.cells (iL q n e) 119 (0,0)) G w'→Xe (aa.of RY) RY Post own (c.finish (.tuple #[])) cs w'):
 Xe (aa.of RY) RY Post own ((base 53).at b [.inRegion (dP Ue) (S5 .any (dP Ue) j t h [])]) (c :: cs) w:=by
 have A:=fV (aa.of RY) RY Post;refine jO (Dn:=fun i=>decide (2≤i∧i≤7)) (u:=13) A (by decide) m Cu ?_ ?_ ?_ j t h b k s D
 ·intro d i f O s _ a;have T:i<13:=by simpa using O
  have U:¬ (2≤i∧i≤7):=by simpa using s
  have:i=0∨i=1∨i=8∨i=9∨i=10∨i=11∨i=12:=by omega
  rcases this with rfl|rfl|rfl|rfl|rfl|rfl|rfl
  ·cases(show RX _=RX f from a);exact⟨_,rfl,.inl ⟨rfl,bK rfl (d.of rfl) Tryz.isAgg74 (.inr o) (jL z rfl)⟩⟩
  ·cases(show RX _=RX f from a);exact⟨_,rfl,.inl ⟨rfl,bK rfl (d.of rfl) Tryz.isAgg74 (.inr o) (jL z rfl)⟩⟩
  ·cases(show RX _=RX f from a);exact⟨_,rfl,.inl ⟨rfl,bR (bQ rfl (d.of rfl))⟩⟩
  ·cases(show RX _=RX f from a);exact⟨_,rfl,.inl ⟨rfl,bR (jJ rfl (d.of rfl) rfl)⟩⟩
  ·cases(show RX _=RX f from a);exact⟨_,rfl,.inl ⟨rfl,bR (jJ rfl (d.of rfl) rfl)⟩⟩
  ·cases(show RX _=RX f from a);exact⟨_,rfl,.inl ⟨rfl,bR (E3 rfl (d.of rfl))⟩⟩
  ·cases(show RX _=RX f from a);exact⟨_,rfl,.inl ⟨rfl,bR (cH (off':=6) rfl (d.of rfl) Tryz.underlying119 rfl VD rfl)⟩⟩
 ·intro f a j t h b k y D C _;have d:=m.fill (Hy cu n e ++ EG cu xb lp qa) rfl;have p:=fL (Dn:=fun i=>decide (i≤13∧i≠1∧i≠10)) k y H6 (fun g u=>by
   have:g≤13∧g≠1∧g≠10:=by simpa using u
   show g<17;omega)
  cases(show RX _=RX f from a);have I:b.eval (.tmp 15)= .pointer (RX ⟨cu,6,RZ⟩):=(C 15 (by decide)).trans (d.slot 15 _ rfl);have H:b.eval (.tmp 12)= .int .i64 (n:Int):=(C 12 (by decide)).trans (d.slot 12 _ rfl);refine qZ A B (n:=cu) (by decide) a rfl v (.cells ((iL q n0 e0).toList.take 6 ++ (T7 .i64 (n:Int)).cells.toList ++ (iL q n0 e0).toList.drop (6+(T7 .i64 (n:Int)).cells.size)).toArray 119) trivial (kq (n:=cu) (off:=6) (v:=.int .i64 (n:Int)) rfl I H KU (fun V E=>by simp[Uw] at E;rw[E];rfl) (Or.inr v) hc (by
   show 6+1≤(iL q n0 e0).size;simp[iL,x])) fun R l=>?_
  have J:((iL q n0 e0).toList.take 6 ++ (T7 .i64 (n:Int)).cells.toList ++ (iL q n0 e0).toList.drop (6+(T7 .i64 (n:Int)).cells.size)).toArray=iL q n e0:=by
   apply Array.toList_inj.1;have P:q.toList.length=6:=by simpa using x
   simp[iL,Uw,List.take_append,List.drop_append,P]
  rw[J] at l;have K:=k.Gn (l2:=M4 cu) (JQ:=fun i=>decide (i<16)) (n:=18) (v:=Tq) y a m.size Cu rfl (fun g u=>by
   have:g<13:=by simpa using u
   simp;omega) rfl Ku (fun S r=>by cases r)
  refine Kw (n:=n) (e:=e) (e0:=e0) (qa:=qa) m r (B.set l) o v F ((l.at_ xb (.inr o) F).trans z) x l.set j t _ _ K p ?_ fun w' Q=>M R w' l Q;obtain⟨_,_,L,N,_⟩:=mem_ready y;have:=qd (by rw[k.size];exact L) N;omega
 ·intro p;exact absurd (p 13 (by decide)) (by decide)
end
def Q7 (J:List cF→(Nat→Prop)→R3→Prop)(M0:Nat→Prop)(w0:R3)(cu:Nat)(q:Array R2)(b:List cF×Nat×Nat)(f:UQ)(w':R3):Prop:=
 f= .returned (.tuple #[])∧(∃ c,J b.1 c w'∧∀ a,c a→M0 a∨w0.heap.size≤a)∧(∀ a,a<w0.heap.size→¬ M0 a→a≠cu→w'.heap[a]? =w0.heap[a]?)∧w'.heap[cu]? =RX (.cells (iL q b.2.1 b.2.2) 119 (0,0))∧w0.heap.size≤w'.heap.size
section
variable {Post:R2→R3→Prop}{J:List cF→(Nat→Prop)→R3→Prop}{Go:List cF→Bool}{w0:R3}{M0:Nat→Prop}{lp cu xb:Nat}{l:List (bG×Int)}{bs:List Bd}{ah:List Int}{rs:List bZ}{kb ck eb ce db:Nat}{dO:Option SL}{ct mE:Nat→Nat}{co:Option SL}{cb aV aD:Nat}{ro:Option SL}{rb bh aF:Nat}{V:Nat→Nat→List az}{cG n0 e0:Nat}{sk:Bool}
theorem Hz(C:Cons (aa.of RY) RY Post lp J Go)(q:FQ l bs ah rs V)(i:J [] M0 w0)(hF:∀ t,(∀ b,b<w0.heap.size→¬ M0 b→b≠cu→mw t w0 b)→w0.heap.size≤t.heap.size→FM t l bs ah rs kb eb dO db ct mE co cb aV ro rb bh)(a6:0<bs.length→¬ M0 db)(P:¬ M0 cu)(a7:¬ M0 xb)(be:xb≠cu)
 (x:w0.heap[xb]? =RX (.cells #[.pointer (RX ⟨cu,0,RZ⟩)] 74 (0,0))) (hc:w0.heap[cu]? =RX (.cells (iL (fK kb l.length ck eb l.length ce dO bs.length cG co ah.length aD ro rs.length aF sk) n0 e0) 119 (0,0))):
 kG (aa.of RY) RY Post 53 #[.func (.yield lp) #[] #[],.pointer (RX ⟨xb,0,RZ⟩)] w0 (Q7 J M0 w0 cu (fK kb l.length ck eb l.length ce dO bs.length cG co ah.length aD ro rs.length aF sk) (gH sk bs ah rs (aJ l.length (ah ++ rs.map bZ.col)) V Go 0 bs.length [] 0)):=by
 intro W X bc bB G Z;have M:=fV (aa.of RY) RY Post;have R:cu<w0.heap.size:=(R9.1 hc).1;have B:xb<w0.heap.size:=(R9.1 x).1;have ae:=C.bound _ _ _ i;refine Xe.go (own:=fun b=>b<w0.heap.size) ?_ (fun b e=>e) G;rw[enter_at _ Tryz.func53 rfl];have s:=Rm (.func (.yield lp) #[] #[]) (.pointer (RX ⟨xb,0,RZ⟩)) 18 (by decide);have F:(⟨#[Value.func (.yield lp) #[] #[],.pointer (RX ⟨xb,0,RZ⟩)] ++ S8 (18 - 2) Tq,[]⟩:T6).defers=[]:=rfl;have ao:w0.rangeAt cu 0 (fK kb l.length ck eb l.length ce dO bs.length cG co ah.length aD ro rs.length aF sk).toList:=fun j v i=>by
  refine nM hc j v ?_;have a5:j<6:=(SA.1 i).1;simp only[iL,Array.toList_append];rw[Ty (by simpa [fK] using a5)];exact i
 show Xe _ _ Post _ ((base 53).at ⟨#[Value.func (.yield lp) #[] #[],.pointer (RX ⟨xb,0,RZ⟩)] ++ S8 (18 - 2) Tq,[]⟩ [.code (.region 0 (dP Ue) R7)]) (W :: X) w0;generalize (⟨#[Value.func (.yield lp) #[] #[],.pointer (RX ⟨xb,0,RZ⟩)] ++ S8 (18 - 2) Tq,[]⟩:T6)=bl at s F;generalize Q:qv (.slice (RX ⟨kb,0,RZ⟩) l.length ck) (.slice (RX ⟨eb,0,RZ⟩) l.length ce) (.slice dO bs.length cG) (.slice co ah.length aD) (.slice ro rs.length aF) sk=o;have ba:Value.agg (fK kb l.length ck eb l.length ce dO bs.length cG co ah.length aD ro rs.length aF sk).toList.toArray=o:=by rw[← Q];rfl
 refine pI (Ph:=fun c=>decide (c<7)) (l:=EG cu xb lp o) M qi ?_;refine jO (u:=7) M (by decide) s Ct ?_ ?_ ?_
 ·intro h c g G _ _ d;have br:c<7:=by simpa using G
  have:c=0∨c=1∨c=2∨c=3∨c=4∨c=5∨c=6:=by omega
  rcases this with rfl|rfl|rfl|rfl|rfl|rfl|rfl
  ·cases(show RX _=RX g from d);exact⟨_,rfl,.inl ⟨rfl,bK rfl (h.of rfl) Tryz.isAgg74 (.inr B) (jL x rfl)⟩⟩
  ·cases(show RX _=RX g from d);exact⟨_,rfl,.inl ⟨rfl,bK rfl (h.of rfl) Tryz.isAgg74 (.inr B) (jL x rfl)⟩⟩
  ·cases(show RX _=RX g from d);exact⟨_,rfl,.inl ⟨rfl,bK rfl (h.of rfl) Tryz.isAgg74 (.inr B) (jL x rfl)⟩⟩
  ·cases(show RX _=RX g from d);exact⟨_,rfl,.inl ⟨rfl,bR (E3 rfl (h.of rfl))⟩⟩
  ·cases(show RX _=RX g from d);exact⟨_,rfl,.inl ⟨rfl,bR (cH (off':=0) rfl (h.of rfl) Tryz.underlying119 rfl Tryz.sizeOf115 rfl)⟩⟩
  ·cases(show RX _=RX g from d);exact⟨_,rfl,.inl ⟨rfl,II (cs:=(fK kb l.length ck eb l.length ce dO bs.length cG co ah.length aD ro rs.length aF sk).toList) rfl (h.of rfl) Uu rfl tK (.inr R) ao ba⟩⟩
  ·cases(show RX _=RX g from d);exact⟨_,rfl,.inl ⟨rfl,bR (bQ rfl (h.of rfl))⟩⟩
 ·intro g d Y bi b1 b z H bA O _;have h:=s.fill (EG cu xb lp o) rfl;have aw:=fL (Dn:=fun c=>decide (2≤c∧c≤7)) z H HJ (fun j i=>by
   have:2≤j∧j≤7:=by simpa using i
   show j<17;omega)
  have al:b.defers=[]:=by rw[z.Qi,dQ];exact F
  cases(show RX _=RX g from d);have U:b.eval (.tmp 9)=o:=(O 9 (by decide)).trans (h.slot 9 _ rfl);have T:b.eval (.tmp 10)= .func (.yield lp) #[] #[]:=(O 10 (by decide)).trans (h.slot 10 _ rfl);refine n9 (R:=fun r=>Ow J M0 r (gH sk bs ah rs (aJ l.length (ah ++ rs.map bZ.col)) V Go 0 bs.length [] 0)) (vs:= #[o,.func (.yield lp) #[] #[]]) rfl d rfl rfl (v9 U T) Tryz.func54 Qd rfl (O3 al) (fun r f=>?_) (fun r v D f bd I a8=>?_) (fun r bm bj ⟨k,_⟩=>by cases k) (fun r bj ⟨k,_⟩=>by cases k)
  ·have a2:=C.jq _ _ _ r i (fun b a=>f.at_ b (ae b a)) f.size;rw[← Q];exact Fl C q a2 (fun t ad bb=>hF t (fun b a u _ g d ab=>ad b (Sa a f.size) u g ((f.at_ b a).trans d) ab) (Ss f.size bb)) a6
  ·obtain⟨k,K,L,a3,b0,N⟩:=bd;cases k;generalize gH sk bs ah rs (aJ l.length (ah ++ rs.map bZ.col)) V Go 0 bs.length [] 0=p at*;have b2:=f.size;have E:∀ b,b<w0.heap.size→¬ M0 b→D.heap[b]? =w0.heap[b]? :=fun b a u=>(a3 b (by omega) u).trans (f.at_ b a);have a0:=z.Gn (l2:=Hy cu p.2.1 p.2.2) (JQ:=fun c=>decide (c<13)) (n:=18) (v:=.tuple #[.int .i64 (p.2.1:Int),.int .i64 (p.2.2:Int)]) H d s.size Ct rfl (fun j i=>by
    have:j<7:=by simpa using i
    simp;omega) rfl Kt (fun bo ar=>by cases ar;rfl)
   have am:¬ K cu:=fun e=>(N cu e).elim P (fun e=>by omega);refine Xe.go (own:=fun b=>b<D.heap.size) ?_ (fun b e=>e) a8;refine EH (n:=p.2.1) (e:=p.2.2) (n0:=n0) (e0:=e0) (qa:=o) s F (fun b a=>a.elim VP (fun e=>e)) (by show xb<_;omega) (by show cu<_;omega) be ((E xb B a7).trans x) rfl ((E cu R P).trans hc) Y bi _ _ a0 aw ?_ fun b3 b4 w n=>?_
   ·obtain⟨_,_,a1,a4,_⟩:=mem_ready H;have:=qd (by rw[z.size];exact a1) a4;omega
   ·intro bx S m a9;have bt:=w.size;have bu:=n.size;have bv:=m.size;have y:∀ b,b<D.heap.size→b≠cu→S.heap[b]? =D.heap[b]? :=fun b a A=>(m.at_ b a).trans ((n.at_ b (.inr a) A).trans (w.at_ b (.inr a) A));refine Z _ S ⟨rfl,⟨K,C.jq _ _ _ _ L (fun b a=>y b (C.bound _ _ _ L b a) (fun k=>am (k▸a))) (by omega),fun b a=>(N b a).imp (fun e=>e) (fun e=>by omega)⟩,fun b a u A=>(y b (by omega) A).trans (E b a u),(m.at_ cu (by show cu<_;omega)).trans n.set,by omega⟩ a9 ⟨?_,?_,?_,by omega⟩ (lS bc _)
    ·rw[m.tape,n.tape,w.tape,I.tape,f.tape]
    ·rw[m.os,n.os,w.os,I.os,f.os]
    ·rw[m.output,n.output,w.output,I.output,f.output]
 ·intro y;exact absurd (y 16 (by decide)) (by decide)
end
end Cc
namespace Cc
open Go Go.Conc
open Ec (az aC)
section
variable {P:Sd}{ops:Array Tx}{Q:Exit→T6→R3→Prop}{i:Nat}{rest:List Nat}{o:Tx}{a:T6}{w w':R3}{v:R2}
def vP{rest:List Tx}(c:SI o (Tc ops a.tmps)=R7)(b:(SE a.eval o).run P w= .ok (.value v) w')(h:wpList P ops Q rest (a.put o.dst v) w'):wpList P ops Q (o :: rest) a w:=by
 simp only[wpList,c,if_true]
 left
 unfold Oper.wp;rw[b];exact h
def MC{rest:List Tx}(c:SI o (Tc ops a.tmps)=R7)(b:(SE a.eval o).run P w= .ok .skip w')(h:wpList P ops Q rest (a.put o.dst Tq) w'):wpList P ops Q (o :: rest) a w:=by
 simp only[wpList,c,if_true]
 left
 unfold Oper.wp;rw[b];exact h
def uY(h:wpList P ops Q ops.toList a w):wpOps P ops Q (SS ops.size) a w:=by
 rw[List.range_eq_range',← T5,wpOps_eq_wpList ops.toList 0 (by simp)];exact h
theorem Du{t e:Sg}{x:S3}{b:UL}{z:R2}(j:o.op= .buildSlice t 1 #[(0,x)])(n:a.eval x=v)(m:v.cells=#[v])(l:P.underlying t=RX (.slice e))(h:P.info? e=RX b)(p:b.zero=RX z)(r:z.cells.size=1)(c:b.size=1):(SE a.eval o).run P w= .ok (.value (.slice (RX ⟨w.heap.size,0,RZ⟩) 1 1)) (w.alloc (.cells #[v] e)):=by
 have g:Vh (fun f=>RX (f*b.size,b.size)) ((VA (1*b.size)).map (z.cells[· % z.cells.size]!)) #[(0,v)].toList=RX #[v]:=by
  rw[c];simp[Vh,m,VA,Array.zipIdx];apply Array.ext
  ·simp
  ·intro f q d;simp at d;subst d;simp
 have k:=run_buildSlice (P:=P) w t e 1 #[(0,v)] #[v] b z l h p (by rw[c];decide) (by rw[c];decide) g;unfold SE;simp[j,n,k]
end
structure jY(l D rb:Nat)(r:Loop)(pre:List cF)(M:Nat→Prop)(W:R3):Prop where
 st:r.state= .ready
 pn:r.pending=RZ
 hl:W.heap[l]? =RX (.loop r)
 hD:W.heap[D]? =RX (.deferred (RX []))
 ex:∃ (rv:R2) (vs:List R2),W.heap[rb]? =RX (.cells #[rv] 26 (0,0))∧W.ownsRow 0 43 1 rv pre.length vs∧(∀ (i:Nat) (x:cF),pre[i]? =RX x→∃ v,vs[i]? =RX v∧v.oneCell'=R7∧W.ownsRow 0 59 3 v x.2.length (aC x.2))∧(∀ (i j:Nat) v u g,vs[i]? =RX v→vs[j]? =RX u→v.ownBlock=RX g→u.ownBlock=RX g→i=j)∧∀ b,M b↔b=l∨b=D∨b=rb∨RX b=rv.ownBlock∨∃ v∈vs,RX b=v.ownBlock
def JK:∃ i,(aa.of RY).info? 43=RX i∧i.zero=RX (.slice RZ 0 0)∧i.size=1∧i.bytes=24:=⟨Tryz.t43,by kernel_rfl,rfl,rfl,rfl⟩
def Fo:((aa.of RY).info? 26).map (·.size)=RX 1:=by kernel_rfl
def dK (fn:UB):Array Tx:=match fn.body with
 |some (.seq _ (.seq _ (.seq _ (.seq _ (.seq (.seq _ (.block _ (.rangeFunc _ _ _ (.block _ (.region _ ops _))))) _)))))=>ops
 |_=> #[]
def pR{v:R2}{b:R3}{base:Nat}{e:Sg}{c n:Nat}{d:List R2}(h:b.ownsRow base e c v n d):v.cells=#[v]∧v.oneCell'=R7:=by
 rcases h.2 with⟨rfl,_⟩|⟨j,f,g,rfl,_⟩
 ·exact⟨rfl,rfl⟩
 ·exact⟨rfl,rfl⟩
theorem LO{c:R3}{a:T6}{rb n:Nat}{f v:R2}{vs:List R2}{Q:Exit→T6→R3→Prop}(e:Knows a 40 [(14,v),(12,.pointer (RX ⟨rb,0,RZ⟩))])(t:c.heap[rb]? =RX (.cells #[f] 26 (0,0)))(G:c.ownsRow 0 43 1 f n vs)(ad:v.cells=#[v])(ae:v.oneCell'=R7)(ar:n≤2000)
 (R:∀ a' W' g,W'.heap[rb]? =RX (.cells #[g] 26 (0,0))→W'.ownsRow 0 43 1 g (n+1) (vs ++ [v])→(∀ b,b<c.heap.size→b≠rb→RX b≠f.ownBlock→W'.heap[b]? =c.heap[b]?)→c.heap.size≤W'.heap.size→(∀ b,RX b=g.ownBlock→RX b=f.ownBlock∨c.heap.size≤b)→Q .normal a' W'):wpOps (aa.of RY) (dK TS) Q (SS (dK TS).size) a c:=by
 obtain⟨al,F,K,I,S⟩:=JK;have ao:rb<c.heap.size:=(R9.1 t).1;refine uY ?_;refine vP rfl ((bK (S:=IB) (own:=fun _=>True) rfl (e.of rfl) (fun w=>by simp) (.inr trivial) (jL t rfl) c (RelB.refl _ _)).1) ?_;replace e:=e.put (d:=30) (by decide) f;refine vP rfl ((bQ rfl (e.of rfl) c).1) ?_;replace e:=e.put (d:=31) (by decide) v;refine vP rfl (Du rfl (e.of rfl) ad aa.underlying26 F K rfl I) ?_;replace e:=e.put (d:=32) (by decide) (.slice (RX ⟨c.heap.size,0,RZ⟩) 1 1);have A:∀ d,d<c.heap.size→(c.alloc (.cells #[v] 43)).heap[d]? =c.heap[d]? :=fun d j=>by
  show(c.heap.push _)[d]? =_;rw[SN,if_neg (by omega)]
 have X:(c.alloc (.cells #[v] 43)).ownsRow 0 43 1 f n vs:=jf G (R8 _) fun d _ _ j=>A d j;have U:∀ B r,[v][B]? =RX r→(c.alloc (.cells #[v] 43)).cell? (V8 ⟨c.heap.size,0,RZ⟩ B)=RX r:=fun B r T=>by
  rw[Vl];unfold Sr;have:(c.alloc (.cells #[v] 43)).heap[c.heap.size]? =RX (.cells #[v] 43 (0,0)):=by
   show(c.heap.push _)[c.heap.size]? =_;simp
  simp only[this,SZ];simpa using T
 have J:(c.alloc (.cells #[v] 43)).heap.size=c.heap.size+1:=by simp
 refine Pk.aS (c.alloc (.cells #[v] 43)) rfl _ _ 26 rfl 0 43 al (.slice RZ 0 0) 1 24 aa.underlying26 F K I S rfl (by decide) f n vs (e.of rfl) X ⟨c.heap.size,0,RZ⟩ 1 1 [v] (e.of rfl) (by decide) rfl U (fun r p=>by simp at p;rw[p];exact ae) (by unfold Sw;omega) (by omega) (SK _) fun g m z x=>?_;replace e:=e.put (d:=33) (by decide) g;have Y:∀ d,f.ownBlock=RX d→d≠rb:=fun d j l=>by
  rcases G.2 with⟨rfl,_⟩|⟨O,L,M,rfl,_,q,_⟩
  ·cases j
  ·cases j;subst l;rw[t] at q;cases q
 have E:∀ b,b<c.heap.size→RX b≠f.ownBlock→m.heap[b]? =c.heap[b]? :=fun b k y=>by
  rcases x with⟨h,_⟩|⟨_,h⟩
  ·exact(h.block b (by omega) (by simp)).trans (A b k)
  ·exact(h.block b (by omega) y).trans (A b k)
 have aw:c.heap.size+1≤m.heap.size:=by
  rcases x with⟨h,_⟩|⟨_,h⟩
  ·rw[← J];exact h.size
  ·rw[← J];exact h.size
 have H:=(E rb ao (fun l=>Y rb l.symm rfl)).trans t;obtain⟨s,W⟩:=pR z;obtain⟨C,ab,u,_⟩:=kq (P:=aa.of RY) (S:=IB) (own:=fun _=>True) (a:=((((a.put (RX 30) f).put (RX 31) v).put (RX 32) (.slice (RX ⟨c.heap.size,0,RZ⟩) 1 1)).put (RX 33) g)) (o:=(dK TS)[4]) (w:=m) (n:=rb) (off:=0) (v:=g) rfl (e.of rfl) (e.of rfl) (by rw[s];exact Fo) (fun r p=>by rw[s] at p;simp at p;rw[p];exact W) (Or.inr trivial) H (by rw[s];exact R8 1) m (RelB.refl _ _);refine MC rfl ab ?_;have N:((#[f]:Array R2).toList.take 0 ++ g.cells.toList ++ (#[f]:Array R2).toList.drop (0+g.cells.size)).toArray=#[g]:=by rw[s];rfl
 rw[N] at u;have am:rb<m.heap.size:=by omega
 have D:∀ b:Nat,b≠rb→C.heap[b]? =m.heap[b]? :=fun b k=>by rw[u.heap,SQ,if_neg (fun l=>k l.symm)]
 have Z:∀ d,g.ownBlock=RX d→d≠rb:=fun d j l=>by
  rcases z.2 with⟨rfl,_⟩|⟨O,L,M,rfl,_,q,_⟩
  ·cases j
  ·cases j;subst l;rw[H] at q;cases q
 refine R _ C g (by rw[u.heap,SQ,if_pos rfl,if_pos am]) (jf z (R8 _) fun d j _ _=>D d (Z d j)) (fun b k y V=>(D b y).trans (E b k V)) (by rw[u.heap];simp;omega) fun b k=>?_;rcases x with⟨_,h⟩|⟨h,_⟩
 ·exact .inr (by have:=(r7 h k.symm).1;omega)
 ·exact .inl (by rw[← h];exact k)
def eW (fn:UB):Array Tx:=match fn.body with
 |some (.seq _ (.seq _ (.seq _ (.seq _ (.seq (.seq _ (.block _ (.rangeFunc _ _ (.region _ a _) _))) _)))))=>a
 |_=> #[]
structure pG(r:Loop)(rb:Nat):Prop where
 ps:r.params=#[28,29]
 Rz:r.assign= .region 6 (eW TS) R6
 bd:r.body= .block 1 (.region 7 (dK TS) R6)
 sz:r.tmps.size=40
 kn:r.tmps.getD 12 Tq= .pointer (RX ⟨rb,0,RZ⟩)
def NT:((dK TS).toList.all fun o=> !A6 o.op)=R7:=by kernel_rfl
def LN:((eW TS).toList.all fun o=> !A6 o.op)=R7:=by kernel_rfl
def vZ (l D rb:Nat)(r:Loop)(pre:List cF)(c:Nat→Prop)(b:R3)(nm:Nat)(e:List az)(v:R2)(W':R3):Prop:=
 ∃ d,jY l D rb r (pre ++ [(nm,e)]) d W'∧(∀ a,a<b.heap.size→¬ c a→RX a≠v.ownBlock→W'.heap[a]? =b.heap[a]?)∧∀ a,d a→c a∨RX a=v.ownBlock∨b.heap.size≤a
def jY.sh{l D rb:Nat}{r:Loop}{pre:List cF}{a:Nat→Prop}{b:R3}(h:jY l D rb r pre a b){W':R3}(e:W'.heap=b.heap):jY l D rb r pre a W':=by
 obtain⟨i,j,k,m,w,x,n,o,p,q,s⟩:=h;refine⟨i,j,by rw[e];exact k,by rw[e];exact m,w,x,by rw[e];exact n,jf o (R8 _) (fun g _ _ _=>by rw[e]),fun u y t=>?_,q,s⟩;obtain⟨v,c,d,f⟩:=p u y t;exact⟨v,c,d,jf f (R8 _) (fun g _ _ _=>by rw[e])⟩
theorem jY.keeps{l D rb:Nat}{r:Loop}{pre:List cF}{e:Nat→Prop}{g W':R3}(h:jY l D rb r pre e g)(d:∀ b,e b→W'.heap[b]? =g.heap[b]?):jY l D rb r pre e W':=by
 obtain⟨m,n,o,p,y,z,q,s,t,u,a⟩:=h;refine⟨m,n,(d l ((a l).2 (.inl rfl))).trans o,(d D ((a D).2 (.inr (.inl rfl)))).trans p,y,z,(d rb ((a rb).2 (.inr (.inr (.inl rfl))))).trans q,jf s (R8 _) (fun c f _ _=>d c ((a c).2 (.inr (.inr (.inr (.inl f.symm)))))),fun x A w=>?_,u,a⟩;obtain⟨v,i,j,k⟩:=t x A w;exact⟨v,i,j,jf k (R8 _) (fun c f _ _=>d c ((a c).2 (.inr (.inr (.inr (.inr ⟨v,TD i,f.symm⟩))))))⟩
theorem Je{l D rb:Nat}{r:Loop}{pre:List cF}{F:Nat→Prop}{c w B:R3}{nm:Nat}{Q:List az}{v z:R2}{vs:List R2}{k:R2}(h1:r.state= .ready)(a3:r.pending=RZ)(J:c.heap[l]? =RX (.loop r))(n:c.heap[D]? =RX (.deferred (RX [])))(X:c.heap[rb]? =RX (.cells #[k] 26 (0,0)))(K:c.ownsRow 0 43 1 k pre.length vs)
 (a4:∀ (i:Nat) (x:cF),pre[i]? =RX x→∃ v,vs[i]? =RX v∧v.oneCell'=R7∧c.ownsRow 0 59 3 v x.2.length (aC x.2)) (a5:∀ (i j:Nat) v u g,vs[i]? =RX v→vs[j]? =RX u→v.ownBlock=RX g→u.ownBlock=RX g→i=j) (e:∀ b,F b↔b=l∨b=D∨b=rb∨RX b=k.ownBlock∨∃ v∈vs,RX b=v.ownBlock)
 (ad:c.ownsRow 0 59 3 v Q.length (aC Q)) (ab:∀ g,v.ownBlock=RX g→¬ F g)
 (a1:w.heap[rb]? =RX (.cells #[z] 26 (0,0))) (g2:w.ownsRow 0 43 1 z (pre.length+1) (vs ++ [v])) (I:∀ b,b<c.heap.size→b≠l→b≠rb→RX b≠k.ownBlock→w.heap[b]? =c.heap[b]?) (bo:c.heap.size≤w.heap.size) (a2:∀ b,RX b=z.ownBlock→RX b=k.ownBlock∨c.heap.size≤b) (W:B.heap=w.heap.setIfInBounds l (.loop r)) (bc:l≠rb) (bt:∀ g,k.ownBlock=RX g→g≠l) (bd:∀ g,z.ownBlock=RX g→g≠l):vZ l D rb r pre F c nm Q v B:=by
 have bs:l<c.heap.size:=(R9.1 J).1;have a6:D<c.heap.size:=(R9.1 n).1;have A:∀ b:Nat,b≠l→B.heap[b]? =w.heap[b]? :=fun b f=>by rw[W,SQ,if_neg (fun a=>f a.symm)]
 have U:D≠l:=fun a=>by rw[a,J] at n;cases n
 have aw:D≠rb:=fun a=>by rw[a,X] at n;cases n
 have a0:RX D≠k.ownBlock:=fun a=>by
  rcases K.2 with⟨rfl,_⟩|⟨V,ao,ar,rfl,_,h,_⟩
  ·cases a
  ·cases a;rw[n] at h;cases h
 have be:∀ u s t,c.ownsRow 0 59 3 u s t→∀ g,u.ownBlock=RX g→g<c.heap.size∧g≠l∧g≠rb∧RX g≠k.ownBlock:=fun u s t d g y=>by
  rcases d.2 with⟨rfl,_⟩|⟨V,ao,ar,rfl,_,h,_⟩
  ·cases y
  ·have L:g=V:=(by cases y;rfl);subst L;refine⟨(R9.1 h).1,(fun a=>by rw[a,J] at h;cases h),(fun a=>by rw[a,X] at h;cases h),fun a=>?_⟩;rcases K.2 with⟨rfl,_⟩|⟨g2,bi,bj,rfl,_,a7,_⟩
   ·cases a
   ·have L:g=g2:=(by cases a;rfl);subst L;rw[a7] at h;cases h
 have al:∀ u s t,c.ownsRow 0 59 3 u s t→B.ownsRow 0 59 3 u s t:=fun u s t d=>jf d (R8 _) fun g y _ _=>by
  obtain⟨G,C,H,am⟩:=be u s t d g y;exact(A g C).trans (I g G C H am)
 have bb:vs.length=pre.length:=by have:=K.1;simpa using this
 refine⟨fun b=>b=l∨b=D∨b=rb∨RX b=z.ownBlock∨∃ u∈vs ++ [v],RX b=u.ownBlock,⟨h1,a3,by rw[W,SQ,if_pos rfl,if_pos (by omega)],(A D U).trans ((I D a6 U aw a0).trans n),z,vs ++ [v],(A rb (fun a=>bc a.symm)).trans a1,?_,fun i x p=>?_,fun i j u R g d ba P O=>?_,fun b=>Iff.rfl⟩,fun b f N br=>?_,fun b f=>?_⟩
 ·rw[Sc];exact jf g2 (R8 _) fun g y _ _=>A g (bd g y)
 ·rcases TF i pre.length with M|M
  ·rw[Ty M] at p;obtain⟨u,G,C,H⟩:=a4 i x p;exact⟨u,by rw[Ty (by omega)];exact G,C,al u _ _ H⟩
  ·rw[To M] at p;have Y:i - pre.length=0:=by
    have:=(SA.1 p).1;simp at this;omega
   rw[Y] at p;simp at p;subst p;refine⟨v,?_,(pR ad).2,al v _ _ ad⟩;rw[To (by omega),bb,Y];rfl
 ·have ae:∀ (q:Nat) E,(vs ++ [v])[q]? =RX E→(q<vs.length∧vs[q]? =RX E)∨(q=vs.length∧E=v):=fun q E o=>by
   rcases TF q vs.length with m|m
   ·rw[Ty m] at o;exact .inl ⟨m,o⟩
   ·rw[To m] at o;have:q - vs.length=0:=by
     have:=(SA.1 o).1;simp at this;omega
    rw[this] at o;simp at o;exact .inr ⟨by omega,o.symm⟩
  rcases ae i u d with⟨_,S⟩|⟨bl,rfl⟩<;>rcases ae j R ba with⟨_,T⟩|⟨bm,rfl⟩
  ·exact a5 i j u R g S T P O
  ·exact absurd ((e g).2 (.inr (.inr (.inr (.inr ⟨u,TD S,P.symm⟩))))) (ab g O)
  ·exact absurd ((e g).2 (.inr (.inr (.inr (.inr ⟨R,TD T,O.symm⟩))))) (ab g P)
  ·omega
 ·have Z:b≠l:=fun a=>N ((e b).2 (.inl a));have a8:b≠rb:=fun a=>N ((e b).2 (.inr (.inr (.inl a))));have a9:RX b≠k.ownBlock:=fun a=>N ((e b).2 (.inr (.inr (.inr (.inl a)))));exact(A b Z).trans (I b f Z a8 a9)
 ·rcases f with rfl|rfl|rfl|f|⟨u,d,f⟩
  ·exact .inl ((e _).2 (.inl rfl))
  ·exact .inl ((e _).2 (.inr (.inl rfl)))
  ·exact .inl ((e _).2 (.inr (.inr (.inl rfl))))
  ·rcases a2 b f with m|m
   ·exact .inl ((e b).2 (.inr (.inr (.inr (.inl m)))))
   ·exact .inr (.inr m)
  ·rcases S7.1 d with d|d
   ·exact .inl ((e b).2 (.inr (.inr (.inr (.inr ⟨u,d,f⟩)))))
   ·simp at d;subst d;exact .inr (.inl f)
theorem Jc{l D rb:Nat}{r:Loop}{pre:List cF}{B:Nat→Prop}{d:R3}{nm:Nat}{N:List az}{v:R2}(p:pG r rb)(am:jY l D rb r pre B d)(bl:pre.length<2000)(L:d.ownsRow 0 59 3 v N.length (aC N))(a2:∀ g,v.ownBlock=RX g→¬ B g)(c:Sn)(cs:List Sn)(h:Tp):
 ∃ W',vZ l D rb r pre B d nm N v W'∧Steps (aa.of RY) (lone (UJ l r.fn ((r.params.zip #[.int .i64 (nm:Int),v]).foldl (fun tmps (t,a)=>tmps.setIfInBounds t a) r.tmps) r.assign r.body .normal) (c :: cs) (sh h 0 d)) (lone (c.finish (.bool R7)) cs W'):=by
 obtain⟨x,H,m,ab,O,W,I,J,ad,ae,al⟩:=am;let b:Sn:={(default:Sn) with fn:=r.fn,kind:=.normal,roundOf:=RX l};let q:T6:={tmps:=(r.params.zip #[.int .i64 (nm:Int),v]).foldl (fun tmps (t,a)=>tmps.setIfInBounds t a) r.tmps,defers:=[]};have ao:UJ l r.fn ((r.params.zip #[.int .i64 (nm:Int),v]).foldl (fun tmps (t,a)=>tmps.setIfInBounds t a) r.tmps) r.assign r.body .normal=b.atR q [.code r.assign,.beginRound,.code r.body]:=by
  simp[UJ,Frame.atR,b,q]
 have M:l≠rb:=fun e=>by rw[e,I] at m;cases m
 have a0:l<d.heap.size:=(R9.1 m).1;have y:∀ g,O.ownBlock=RX g→g≠l:=fun g o e=>by
  rcases J.2 with⟨rfl,_⟩|⟨Y,bi,bj,rfl,_,R,_⟩
  ·cases o
  ·have aw:g=Y:=(by cases o;rfl);subst aw;rw[e,m] at R;cases R
 have z:Knows q 40 [(29,v),(12,.pointer (RX ⟨rb,0,RZ⟩))]:=by
  have e:q.tmps=(r.tmps.setIfInBounds 28 (.int .i64 (nm:Int))).setIfInBounds 29 v:=by
   show(r.params.zip #[.int .i64 (nm:Int),v]).foldl (fun tmps (t,a)=>tmps.setIfInBounds t a) r.tmps=_;rw[p.ps];simp
  refine Knows.cons (Knows.cons (l:=[]) ⟨?_,fun s v f=>by simp at f⟩ ?_) ?_
  ·rw[e];simp[p.sz]
  ·unfold aN;rw[e,SH,SQ,if_neg (by decide),SQ,if_neg (by decide),← SH];exact p.kn
  ·unfold aN;rw[e,SH,SQ,if_pos rfl,if_pos (by simp[p.sz])];rfl
 rw[ao,p.Rz,p.bd];generalize q=a at z;have a6:=stepR_region (P:=aa.of RY) (b:=b) (a:=a) (k:=[.beginRound,.code (.block 1 (.region 7 (dK TS) R6))]) (cs:=c :: cs) (w:=sh h 0 d) (ops:=eW TS) (id:=6);obtain⟨be,bm,⟨rfl,rfl⟩,T⟩:=OH (P0:=aa.of RY) (b:=b) (k:=[.beginRound,.code (.block 1 (.region 7 (dK TS) R6))]) (cs:=c :: cs) (ops:=eW TS) (Q:=fun e C bc=>match e with| .normal=>C=a.put (RX 14) v∧bc=sh h 0 d|_=>False) [] LN (fun _ _ _ f=>f) (fun⟨_,_,f⟩=>f) (SS (eW TS).size) a (sh h 0 d) (uY (vP rfl ((jI rfl (z.of rfl) (sh h 0 d)).1) ⟨rfl,rfl⟩));rw[Uy] at T;have a7:=stepR_region_end (P:=aa.of RY) (b:=b) (a:=a.put (RX 14) v) (k:=[.beginRound,.code (.block 1 (.region 7 (dK TS) R6))]) (cs:=c :: cs) (w:=sh h 0 d) (ops:=eW TS);have n:=run_beginRound (P:=aa.of RY) (w:=sh h 0 d) (l:=l) (r:=r) m x;have U:=stepR_beginRound (P:=aa.of RY) (b:=b) (a:=a.put (RX 14) v) (k:=[.code (.block 1 (.region 7 (dK TS) R6))]) (cs:=c :: cs) (w:=sh h 0 d) rfl n;generalize K:(sh h 0 d).putObj l (.loop {r with state:=.busy})=i at U;have P:∀ b:Nat,b≠l→i.heap[b]? =d.heap[b]? :=fun b n=>by rw[← K];exact World.putObj_heap_other (w:=sh h 0 d) n
 have bd:i.heap[l]? =RX (.loop {r with state:=.busy}):=by rw[← K];exact World.putObj_heap_same (w:=sh h 0 d) a0
 have bo:i.heap.size=d.heap.size:=by rw[← K];exact World.putObj_size (w:=sh h 0 d)
 have a8:=stepR_block (P:=aa.of RY) (b:=b) (a:=a.put (RX 14) v) (k:=[]) (cs:=c :: cs) (w:=i) (id:=1) (c:=.region 7 (dK TS) R6);have a9:=stepR_region (P:=aa.of RY) (b:=b) (a:=a.put (RX 14) v) (k:=[.inBlock 1]) (cs:=c :: cs) (w:=i) (ops:=dK TS) (id:=7);have A:=z.put (d:=14) (by decide) v;obtain⟨E,k,⟨j,F,G,u,Q,w⟩,V⟩:=OH (P0:=aa.of RY) (b:=b) (k:=[.inBlock 1]) (cs:=c :: cs) (ops:=dK TS) (Q:=fun e C W'=>match e with| .normal=>∃ j,W'.heap[rb]? =RX (.cells #[j] 26 (0,0))∧W'.ownsRow 0 43 1 j (pre.length+1) (W ++ [v])∧(∀ b,b<i.heap.size→b≠rb→RX b≠O.ownBlock→W'.heap[b]? =i.heap[b]?)∧i.heap.size≤W'.heap.size∧(∀ b,RX b=j.ownBlock→RX b=O.ownBlock∨i.heap.size≤b)|_=>False) [] NT (fun _ _ _ f=>f) (fun⟨_,_,f⟩=>f) (SS (dK TS).size) (a.put (RX 14) v) i (LO (n:=pre.length) (vs:=W) ((A.nil.cons (A.slot 12 _ rfl)).cons (A.slot 14 _ rfl)) ((P rb (fun e=>M e.symm)).trans I) (jf J (R8 _) fun g o _ _=>P g (y g o)) (pR L).1 (pR L).2 (by omega) fun C W' j F G u Q w=>⟨j,F,G,u,Q,w⟩);rw[Uy] at V;have a5:∀ g,j.ownBlock=RX g→g≠l:=fun g o e=>by
  rcases w g o.symm with f|f
  ·exact y g f.symm e
  ·omega
 have Z:k.heap[l]? =RX (.loop {r with state:=.busy}):=(u l (by omega) M (fun e=>y l e.symm rfl)).trans bd;have ba:=stepR_region_end (P:=aa.of RY) (b:=b) (a:=E) (k:=[.inBlock 1]) (cs:=c :: cs) (w:=k) (ops:=dK TS);have bb:=stepR_inBlock (P:=aa.of RY) (b:=b) (a:=E) (k:=[]) (cs:=c :: cs) (w:=k) (id:=1);have ar:=run_endRound (P:=aa.of RY) (w:=k) (l:=l) (r:={r with state:=.busy}) RZ Z;have S:=stepR_round_end (P:=aa.of RY) (b:=b) (a:=E) (cs:=cs) (w:=k) (c:=c) rfl rfl ar;have X:({({r with state:=.busy}:Loop) with state:=if (RZ:Option U7).isNone then .ready else .done,pending:=RZ}:Loop)=r:=by
  obtain⟨br,bs,bt,bu,bv,bx,bA,bB⟩:=r;simp only at x H;subst x H;rfl
 rw[X] at S;refine⟨k.putObj l (.loop r),Je x H m ab I J ad ae al L a2 F G (fun b n a1 a3 a4=>(u b (by omega) a3 a4).trans (P b a1)) (by omega) (fun b n=>(w b n).imp (fun f=>f) (fun f=>by omega)) rfl M y a5,?_⟩;exact .head a6 (T.trans (.head a7 (.head U (.head a8 (.head a9 (V.trans (.head ba (.head bb (.one S)))))))))
def Aj:aT (aa.of RY) R7 (.region 6 (eW TS) R6)=R7∧aT (aa.of RY) R7 (.block 1 (.region 7 (dK TS) R6))=R7:=⟨by kernel_rfl,by kernel_rfl⟩
def xZ{r:Loop}{rb:Nat}(b:pG r rb)(c:r.pending=RZ):aR (aa.of RY) (.loop r):=⟨by rw[b.Rz];exact Aj.1,by rw[b.bd];exact Aj.2,fun d a=>by rw[c] at a;cases a⟩
def Bc{P0:Sd}{ws w:R3}{base:Nat}{e:Sg}{b:Nat}{v:R2}{n:Nat}{c:List R2}(l:Mk P0 ws w)(h:w.ownsRow base e b v n c):ws.ownsRow base e b v n c:=by
 obtain⟨a,h|⟨g,d,f,rfl,i,j,k⟩⟩:=h
 ·exact⟨a,.inl h⟩
 ·exact⟨a,.inr ⟨g,d,f,rfl,i,l.un.row.2 j,k⟩⟩
def jY.Pg{l D rb:Nat}{r:Loop}{pre:List cF}{b:Nat→Prop}{c ws:R3}(h:jY l D rb r pre b c)(t:pG r rb)(a:Mk (aa.of RY) ws c):jY l D rb r pre b ws:=by
 obtain⟨i,d,j,k,x,y,m,n,o,p,q⟩:=h;refine⟨i,d,a.at_ l _ j (xZ t d),a.at_ D _ k (fun A s=>by cases s),x,y,a.un.row.2 m,Bc a n,fun w z u=>?_,p,q⟩;obtain⟨v,e,f,g⟩:=o w z u;exact⟨v,e,f,Bc a g⟩
def jY.PS{l D rb:Nat}{r:Loop}{pre:List cF}{b:Nat→Prop}{c u:R3}(h:jY l D rb r pre b c)(z:pG r rb)(a:Un c u):jY l D rb r pre b u:=by
 obtain⟨g,i,j,k,w,x,m,n,o,p,q⟩:=h;refine⟨g,i,a.out j (by simp[pz]),a.out k (by simp[pz]),w,x,a.row.1 m,vL a n,fun t y s=>?_,p,q⟩;obtain⟨v,d,e,f⟩:=o t y s;exact⟨v,d,e,vL a f⟩
theorem Jb{Post:R2→R3→Prop}{l D rb:Nat}{r:Loop}(e:pG r rb):Cons (aa.of RY) RY Post l (jY l D rb r) (fun _=>R7):=by
 refine⟨fun pre f g u k n _=>k.keeps n,fun pre f g k c a=>?_,fun pre f g C t v m T _ _ ab U=>?_⟩
 ·obtain⟨y,d,H,I,a5,al,J,z,K,aw,L⟩:=k;have a2:al.length=pre.length:=by have:=z.1;simpa using this
  rcases(L c).1 a with rfl|rfl|rfl|a|⟨a7,Z,a⟩
  ·exact(R9.1 H).1
  ·exact(R9.1 I).1
  ·exact(R9.1 J).1
  ·exact(r7 z a.symm).2
  ·obtain⟨q,R,rfl⟩:=List.mem_iff_getElem.1 Z;obtain⟨a8,w,_,G⟩:=K q pre[q] (Sk (by omega));rw[Sk R] at w;cases w;exact(r7 G a.symm).2
 ·refine⟨r,m.hl,xZ e m.pn,by rw[e.ps];rfl,fun j am a0 W a1 O Y=>?_⟩;obtain⟨i,b⟩:=CW (aa.of RY) g;have N:jY l D rb r pre f i:=m.Pg e b;have ad:i.ownsRow 0 59 3 v t.length (aC t):=Bc b ab;refine rX (av:=[j]) dJ (Stop:=fun x av h=>av=[]∧x=j.finish (.bool R7)∧vZ l D rb r pre f i C t v h) (fun x av h o=>?_) Y b.hp b.un (fun E=>?_) (fun ar a6 h u2 o V d X=>?_)
  ·obtain⟨_,rfl,_⟩:=o;rintro⟨_,s,B⟩;rcases W.2 with⟨a3,q,a4,ae,p⟩|⟨l,ae,p⟩
   ·simp[TX,p] at B
   ·simp[TX,p] at B
  ·obtain⟨u,y,d⟩:=Jc (nm:=C) e N T ad U j [aZ] E;exact⟨_,[],u,d,rfl,rfl,y⟩
  ·obtain⟨E,ao,rfl,rfl,F,M,S,Q⟩:=o;have A:i.heap.size=g.heap.size:=b.un.size.symm;refine O _ u2 ⟨rfl,F,(M.sh (W':=h) rfl).PS e d.un,fun c a n P=>d.same b.un (S c (by rw[A];exact a) n P),fun c a=>?_⟩ trivial X V;rw[← A];exact Q c a
end Cc
namespace Ec
open Go.RowKit Pk Pm
def b7 (n:Nat)(k:Int):Bool:=decide (0≤k) && decide (k<(n:Int))
def iM{h:R3}{g:Nat}{a b c d e f:R2}{t:Sg}(i:h.heap[g]? =RX (.cells #[a,b,c,d,e,f] t (0,0))):h.cell? ⟨g,0,RZ⟩=RX a∧h.cell? ⟨g,1,RZ⟩=RX b∧h.cell? ⟨g,2,RZ⟩=RX c∧h.cell? ⟨g,3,RZ⟩=RX d∧h.cell? ⟨g,4,RZ⟩=RX e∧h.cell? ⟨g,5,RZ⟩=RX f:=by
 unfold Sr;simp[i]
theorem wX(n:Nat)(ah:List Int)(rs:List bZ)(r:Option SL)(q:Nat)(b c:R2)(co:Option SL)(cb aV aD:Nat)(ro:Option SL)(rb bh aF:Nat)(sk:Bool)(w:R3)(bd:ah.length≤Sw)(be:rs.length≤Sw)
 (U:0<ah.length→co=RX ⟨cb,aV,RZ⟩) (W:0<ah.length→cb<w.heap.size) (V:∀ j,j<ah.length→w.cell? ⟨cb,aV+j,RZ⟩=RX (.int .i64 (ah.getD j 0))) (l:cM w ro rb bh rs):
 SF (aa.of RY) 68 #[qv (.slice r n q) b c (.slice co ah.length aD) (.slice ro rs.length aF) sk] w fun e w'=>∃ bb,e= .returned (.bool bb)∧(bb=R7↔(∀ i (h:i<ah.length),b7 n ah[i]=R7)∧∀ i (h:i<rs.length),b7 n rs[i].col=R7)∧Si w.heap.size w w':=by
 unfold qv;unfold Sw at bd be;have B:=fun a a9=>zb r n q b c (.slice co ah.length aD) (.slice ro rs.length aF) sk a a9;unfold qv at B;have I:Sb (0<ah.length→co=RX ⟨cb,aV,RZ⟩):=U;have K:Sb (0<ah.length→cb<w.heap.size):=W;have J:Sb (∀ j,j<ah.length→w.cell? ⟨cb,aV+j,RZ⟩=RX (.int .i64 (ah.getD j 0))):=V;have G:Sb (cM w ro rb bh rs):=l;have S:Sb (Si w.heap.size w (w.alloc (.cells #[.slice r n q,b,c,.slice co ah.length aD,.slice ro rs.length aF,.bool sk] 115))):=(So _ _).alloc (R8 _) _;have k:Sb ((w.alloc (.cells #[.slice r n q,b,c,.slice co ah.length aD,.slice ro rs.length aF,.bool sk] 115)).heap[w.heap.size]? =RX (.cells #[.slice r n q,b,c,.slice co ah.length aD,.slice ro rs.length aF,.bool sk] 115 (0,0))):=iq _ _;clear U W V l;go_enter aa.func68,Tryz.ntmps68
 go_wp2_with fail
 go_loopw [10] (fun i wr=>∃ a:Nat,a≤ah.length∧i= .int .i64 (a:Int)∧(∀ i (h:i<ah.length),i<a→b7 n ah[i]=R7)∧wr.heap[w.heap.size]? =RX (.cells #[.slice r n q,b,c,.slice co ah.length aD,.slice ro rs.length aF,.bool sk] 115 (0,0))∧Si w.heap.size w wr) (fun i _=>ah.length - (S2 i).toNat)
 case atStart=>exact⟨0,SK _,rfl,fun bs _ h=>by omega,k.out,S.out⟩
 case round=>
  clear k S;obtain⟨a,Y,rfl,D,v,s⟩:=hrel;have u:Sb (Si w.heap.size w wr):=s;have k:Sb (wr.heap[w.heap.size]? =RX (.cells #[.slice r n q,b,c,.slice co ah.length aD,.slice ro rs.length aF,.bool sk] 115 (0,0))):=v;have t:Sb (∀ i (h:i<ah.length),i<a→b7 n ah[i]=R7):=D;have C:=s.size;obtain⟨a1,a2,a3,a4,a5,a6⟩:=iM v;clear D;by_cases R:a<ah.length
  ·obtain rfl:=I.out (by omega);have bc:=K.out (by omega);have aw:wr.cell? ⟨cb,aV+a,RZ⟩=RX (.int .i64 (ah.getD a 0)):=(s.cell (p:=⟨cb,aV+a,RZ⟩) bc).trans (J.out a R);have X:ah.getD a 0=ah[a]:=by rw[Sj,Sk R];rfl
   rw[X] at aw;have z:Sb (b7 n ah[a]=R6→¬ ((∀ i (h:i<ah.length),b7 n ah[i]=R7)∧∀ i (h:i<rs.length),b7 n rs[i].col=R7)):=fun h P=>by
    have:=P.1 a R;rw[h] at this;cases this
   have A:Sb (b7 n ah[a]=R7→∀ i (h:i<ah.length),i<a+1→b7 n ah[i]=R7):=fun h i Q ba=>by
    by_cases e:i=a
    ·subst e;exact h
    ·exact t.out i Q (by omega)
   clear s v X t J K I G;generalize ah[a]=d at*;have p:=B d;have E:b7 n d=(decide (0≤d) && decide (d<(n:Int))):=rfl;rw[← E] at p;clear B E;cases f:b7 n d
   ·rw[f] at p;have L:Sb (¬ ((∀ i (h:i<ah.length),b7 n ah[i]=R7)∧∀ i (h:i<rs.length),b7 n rs[i].col=R7)):=z.out f;clear z A f
    go_wp2_with (go_at_call 106;refine(p _).mono ?_;rintro e w' ⟨rfl,g⟩;have y:Sb (Si w.heap.size w w'):=u.out.trans (g.mono C);clear g)
    go_ret;exact⟨R6,rfl,by simp only[SD,false_iff];exact L.out,y.out⟩
   ·rw[f] at p;have M:Sb (∀ i (h:i<ah.length),i<a+1→b7 n ah[i]=R7):=A.out f;clear z A f
    go_wp2_with (go_at_call 106;refine(p _).mono ?_;rintro e w' ⟨rfl,g⟩;have y:Sb (Si w.heap.size w w'):=u.out.trans (g.mono C);have F:Sb (w'.heap[w.heap.size]? =RX (.cells #[.slice r n q,b,c,.slice (RX ⟨cb,aV,RZ⟩) ah.length aD,.slice ro rs.length aF,.bool sk] 115 (0,0))):=(g.block _ (Sf k.out)).trans k.out;clear g)
    go_roundw
    case rel=>exact⟨a+1,by omega,by go_num,M.out,F.out,y.out⟩
    case measure=>simp[S2];omega
  ·have T:Sb (∀ i (h:i<ah.length),b7 n ah[i]=R7):=fun i h=>t.out i h (by omega);clear t s v I K J
   go_wp2_with fail
   go_loopw [22] (fun i a0=>∃ a:Nat,a≤rs.length∧i= .int .i64 (a:Int)∧(∀ i (h:i<rs.length),i<a→b7 n rs[i].col=R7)∧a0.heap[w.heap.size]? =RX (.cells #[.slice r n q,b,c,.slice co ah.length aD,.slice ro rs.length aF,.bool sk] 115 (0,0))∧Si w.heap.size w a0) (fun i _=>rs.length - (S2 i).toNat)
   case atStart=>exact⟨0,SK _,rfl,fun bs _ h=>by omega,k.out,u.out⟩
   case round=>
    clear k u a1 a2 a3 a4 a5 a6 C Y;obtain⟨a,Y,rfl,D,v,s⟩:=hrel;have u:Sb (Si w.heap.size w wr):=s;have k:Sb (wr.heap[w.heap.size]? =RX (.cells #[.slice r n q,b,c,.slice co ah.length aD,.slice ro rs.length aF,.bool sk] 115 (0,0))):=v;have t:Sb (∀ i (h:i<rs.length),i<a→b7 n rs[i].col=R7):=D;have C:=s.size;clear D;by_cases x:a<rs.length
    ·have l:=G.out.below s;obtain rfl:=l.addr (by omega);have ab:=l.c0 a x;have ad:=l.c1 a x;have ae:=l.c2 a x;have al:=l.c3 a x;have am:=l.c4 a x;have ao:=l.c5 a x;have ar:=l.c6 a x;have z:Sb (b7 n rs[a].col=R6→¬ ((∀ i (h:i<ah.length),b7 n ah[i]=R7)∧∀ i (h:i<rs.length),b7 n rs[i].col=R7)):=fun h P=>by
      have:=P.2 a x;rw[h] at this;cases this
     have A:Sb (b7 n rs[a].col=R7→∀ i (h:i<rs.length),i<a+1→b7 n rs[i].col=R7):=fun h i Q ba=>by
      by_cases e:i=a
      ·subst e;exact h
      ·exact t.out i Q (by omega)
     clear s l t G v;generalize rs[a]=bt at*;obtain⟨d,o,m⟩:=bt;dsimp only at ab ad ae al am ao ar
     go_upto_region 10 with fail
     obtain⟨aw,bi,bj,bl,bm,bo,br⟩:=iT (iq wr (.cells #[.int .i64 d,.bool o.null,.int .i64 o.n,.string o.s,.bool m.null,.int .i64 m.n,.string m.s] 61));have N:Si wr.heap.size wr (wr.alloc (.cells #[.int .i64 d,.bool o.null,.int .i64 o.n,.string o.s,.bool m.null,.int .i64 m.n,.string m.s] 61)):=(So _ _).alloc (R8 _) _;have O:=(N.block _ (Sf k.out)).trans k.out;obtain⟨a1,a2,a3,a4,a5,a6⟩:=iM O;have F:Sb _:=O;have H:Sb (Si w.heap.size w (wr.alloc (.cells #[.int .i64 d,.bool o.null,.int .i64 o.n,.string o.s,.bool m.null,.int .i64 m.n,.string m.s] 61))):=u.out.trans (N.mono C);clear N ab ad ae al am ao ar O k u C bi bj bl bm bo br;generalize wr.alloc (.cells #[.int .i64 d,.bool o.null,.int .i64 o.n,.string o.s,.bool m.null,.int .i64 m.n,.string m.s] 61)=bu at*;generalize wr.heap.size=bv at*;have p:=B d;have E:b7 n d=(decide (0≤d) && decide (d<(n:Int))):=rfl;rw[← E] at p;clear B E;have Z:=H.out.size;cases f:b7 n d
     ·rw[f] at p;have L:Sb (¬ ((∀ i (h:i<ah.length),b7 n ah[i]=R7)∧∀ i (h:i<rs.length),b7 n rs[i].col=R7)):=z.out f;clear z A f
      go_wp2_with (go_at_call 106;refine(p _).mono ?_;rintro e w' ⟨rfl,g⟩;have y:Sb (Si w.heap.size w w'):=H.out.trans (g.mono Z);clear g)
      go_ret;exact⟨R6,rfl,by simp only[SD,false_iff];exact L.out,y.out⟩
     ·rw[f] at p;have M:Sb (∀ i (h:i<rs.length),i<a+1→b7 n rs[i].col=R7):=A.out f;clear z A f
      go_wp2_with (go_at_call 106;refine(p _).mono ?_;rintro e w' ⟨rfl,g⟩;have y:Sb (Si w.heap.size w w'):=H.out.trans (g.mono Z);have a7:Sb (w'.heap[w.heap.size]? =RX (.cells #[.slice r n q,b,c,.slice co ah.length aD,.slice (RX ⟨rb,bh,RZ⟩) rs.length aF,.bool sk] 115 (0,0))):=(g.block _ (Sf F.out)).trans F.out;clear g)
      go_roundw
      case rel=>exact⟨a+1,by omega,by go_num,M.out,a7.out,y.out⟩
      case measure=>simp[S2];omega
    ·have a8:Sb ((∀ i (h:i<ah.length),b7 n ah[i]=R7)∧∀ i (h:i<rs.length),b7 n rs[i].col=R7):=⟨T.out,fun i h=>t.out i h (by omega)⟩;clear t G s T v k B;go_wp2;go_ret;exact⟨R7,rfl,by simp only[true_iff];exact a8.out,u.out⟩
structure B9(w:R3)(kb n:Nat)(c k:Int):Prop where
 ex:∃ j:Nat,c=(j:Int)∧j<n∧kb<w.heap.size∧w.cell? ⟨kb,j*2+1,RZ⟩=RX (.int .i64 k)∧(k=1∨k=2∨k=3)
def B9.below{w w':R3}{a n:Nat}{c k:Int}(h:B9 w a n c k)(b:Si w.heap.size w w'):B9 w' a n c k:=by
 obtain⟨d,e,f,g,i,j⟩:=h.ex;have l:=b.size;exact⟨d,e,f,by omega,(b.cell (p:=⟨a,d*2+1,RZ⟩) g).trans i,j⟩
def jl (a:Int)(r:bZ):Bool:=eU r.low a && eU r.high a
theorem zf(n:Nat)(rs:List bZ)(k:Int→Int)(l o:Nat)(b c d:R2)(ro:Option SL)(rb bh aF:Nat)(sk:Bool)(w:R3)(be:rs.length≤Sw)(bi:n≤Sw)(m:cM w ro rb bh rs)(al:∀ r∈rs,B9 w l n r.col (k r.col)):
 SF (aa.of RY) 69 #[qv (.slice (RX ⟨l,0,RZ⟩) n o) b c d (.slice ro rs.length aF) sk] w fun e w'=>∃ bb,e= .returned (.bool bb)∧(bb=R7↔∀ i (h:i<rs.length),jl (k rs[i].col) rs[i]=R7)∧Si w.heap.size w w':=by
 unfold qv;unfold Sw at be bi;have Q:Sb (cM w ro rb bh rs):=m;have P:Sb (∀ r∈rs,B9 w l n r.col (k r.col)):=al;have X:Sb (Si w.heap.size w (w.alloc (.cells #[.slice (RX ⟨l,0,RZ⟩) n o,b,c,d,.slice ro rs.length aF,.bool sk] 115))):=(So _ _).alloc (R8 _) _;have v:Sb ((w.alloc (.cells #[.slice (RX ⟨l,0,RZ⟩) n o,b,c,d,.slice ro rs.length aF,.bool sk] 115)).heap[w.heap.size]? =RX (.cells #[.slice (RX ⟨l,0,RZ⟩) n o,b,c,d,.slice ro rs.length aF,.bool sk] 115 (0,0))):=iq _ _;clear m al;go_enter aa.func69,Tryz.ntmps69
 go_wp2_with fail
 go_loopw [9] (fun i wr=>∃ a:Nat,a≤rs.length∧i= .int .i64 (a:Int)∧(∀ i (h:i<rs.length),i<a→jl (k rs[i].col) rs[i]=R7)∧wr.heap[w.heap.size]? =RX (.cells #[.slice (RX ⟨l,0,RZ⟩) n o,b,c,d,.slice ro rs.length aF,.bool sk] 115 (0,0))∧Si w.heap.size w wr) (fun i _=>rs.length - (S2 i).toNat)
 case atStart=>exact⟨0,SK _,rfl,fun b0 _ h=>by omega,v.out,X.out⟩
 case round=>
  clear v X;obtain⟨a,bu,rfl,ae,U,A⟩:=hrel;have N:Sb (Si w.heap.size w wr):=A;have v:Sb (wr.heap[w.heap.size]? =RX (.cells #[.slice (RX ⟨l,0,RZ⟩) n o,b,c,d,.slice ro rs.length aF,.bool sk] 115 (0,0))):=U;have H:Sb (∀ i (h:i<rs.length),i<a→jl (k rs[i].col) rs[i]=R7):=ae;have am:=A.size;clear ae;by_cases q:a<rs.length
  ·have m:=Q.out.below A;obtain rfl:=m.addr (by omega);have ao:=m.c0 a q;have ar:=m.c1 a q;have aw:=m.c2 a q;have a0:=m.c3 a q;have a1:=m.c4 a q;have a2:=m.c5 a q;have a3:=m.c6 a q;obtain⟨s,Z,ba,ab,ad,T⟩:=((P.out rs[a] (Sl q)).below A).ex;have E:Sb (jl (k rs[a].col) rs[a]=R6→¬ ∀ i (h:i<rs.length),jl (k rs[i].col) rs[i]=R7):=fun h bc=>by
    have:=bc a q;rw[h] at this;cases this
   have K:Sb (jl (k rs[a].col) rs[a]=R7→∀ i (h:i<rs.length),i<a+1→jl (k rs[i].col) rs[i]=R7):=fun h i bd bs=>by
    by_cases e:i=a
    ·subst e;exact h
    ·exact H.out i bd (by omega)
   clear A m H Q P U;generalize rs[a]=a7 at*;generalize k a7.col=y at*;obtain⟨cc,g,f⟩:=a7;dsimp only at Z ao ar aw a0 a1 a2 a3;subst Z
   go_upto_region 4 with fail
   obtain⟨bv,bx,bA,bB,a4,a5,a6⟩:=iT (iq wr (.cells #[.int .i64 (s:Int),.bool g.null,.int .i64 g.n,.string g.s,.bool f.null,.int .i64 f.n,.string f.s] 61));have L:Si wr.heap.size wr (wr.alloc (.cells #[.int .i64 (s:Int),.bool g.null,.int .i64 g.n,.string g.s,.bool f.null,.int .i64 f.n,.string f.s] 61)):=(So _ _).alloc (R8 _) _;have br:=(L.cell (p:=⟨l,s*2+1,RZ⟩) ab).trans ad;have V:=(L.block _ (Sf v.out)).trans v.out;obtain⟨b1,b2,b3,b4,ca,cb⟩:=iM V;have J:Sb _:=V;have I:Sb (Si w.heap.size w (wr.alloc (.cells #[.int .i64 (s:Int),.bool g.null,.int .i64 g.n,.string g.s,.bool f.null,.int .i64 f.n,.string f.s] 61))):=N.out.trans (L.mono am);have B:wr.heap.size<(wr.alloc (.cells #[.int .i64 (s:Int),.bool g.null,.int .i64 g.n,.string g.s,.bool f.null,.int .i64 f.n,.string f.s] 61)).heap.size:=by simp
   clear L ao ar aw a0 a1 a2 a3 V v N am ab ad;generalize wr.alloc (.cells #[.int .i64 (s:Int),.bool g.null,.int .i64 g.n,.string g.s,.bool f.null,.int .i64 f.n,.string f.s] 61)=bo at*;generalize wr.heap.size=z at*;have bt:(s:Int)<(n:Int):=by omega
   have t:=fun S=>pM g y S T;have C:=fun S=>pM f y S T;have p:jl y ⟨(s:Int),g,f⟩=(eU g y && eU f y):=rfl;have W:=I.out.size;clear T ba;cases F:eU g y
   ·rw[F] at t p;have R:Sb (¬ ∀ i (h:i<rs.length),jl (k rs[i].col) rs[i]=R7):=E.out p;clear E K p F C
    go_wp2_with (go_at_call 82;refine(t _).mono ?_;rintro e w' ⟨rfl,j⟩;have u:Sb (Si w.heap.size w w'):=I.out.trans (j.mono W);clear j)
    go_ret;exact⟨R6,rfl,by simp only[SD,false_iff];exact R.out,u.out⟩
   ·rw[F] at t p;cases M:eU f y
    ·rw[M] at C p;have R:Sb (¬ ∀ i (h:i<rs.length),jl (k rs[i].col) rs[i]=R7):=E.out p;clear E K p F M
     go_wp2_with (first|(go_at_call 82;refine(t _).mono ?_;rintro e w' ⟨rfl,j⟩;have u:Sb (Si w.heap.size w w'):=I.out.trans (j.mono W);have bj:=(j.cell (p:=⟨z,4,RZ⟩) B).trans a4;have bl:=(j.cell (p:=⟨z,5,RZ⟩) B).trans a5;have bm:=(j.cell (p:=⟨z,6,RZ⟩) B).trans a6;have D:Sb (w'.heap[w.heap.size]? =RX (.cells #[.slice (RX ⟨l,0,RZ⟩) n o,b,c,d,.slice (RX ⟨rb,bh,RZ⟩) rs.length aF,.bool sk] 115 (0,0))):=(j.block _ (Sf J.out)).trans J.out;clear j t)|(go_at_call 82;refine(C _).mono ?_;rintro e G ⟨rfl,x⟩;have O:Sb (Si w.heap.size w G):=u.out.trans (x.mono (by have:=u.out.size;omega));have Y:Sb (G.heap[w.heap.size]? =RX (.cells #[.slice (RX ⟨l,0,RZ⟩) n o,b,c,d,.slice (RX ⟨rb,bh,RZ⟩) rs.length aF,.bool sk] 115 (0,0))):=(x.block _ (Sf D.out)).trans D.out;clear x))
     go_ret;exact⟨R6,rfl,by simp only[SD,false_iff];exact R.out,O.out⟩
    ·rw[M] at C p;have a9:Sb (∀ i (h:i<rs.length),i<a+1→jl (k rs[i].col) rs[i]=R7):=K.out p;clear E K p F M
     go_wp2_with (first|(go_at_call 82;refine(t _).mono ?_;rintro e w' ⟨rfl,j⟩;have u:Sb (Si w.heap.size w w'):=I.out.trans (j.mono W);have bj:=(j.cell (p:=⟨z,4,RZ⟩) B).trans a4;have bl:=(j.cell (p:=⟨z,5,RZ⟩) B).trans a5;have bm:=(j.cell (p:=⟨z,6,RZ⟩) B).trans a6;have D:Sb (w'.heap[w.heap.size]? =RX (.cells #[.slice (RX ⟨l,0,RZ⟩) n o,b,c,d,.slice (RX ⟨rb,bh,RZ⟩) rs.length aF,.bool sk] 115 (0,0))):=(j.block _ (Sf J.out)).trans J.out;clear j t)|(go_at_call 82;refine(C _).mono ?_;rintro e G ⟨rfl,x⟩;have O:Sb (Si w.heap.size w G):=u.out.trans (x.mono (by have:=u.out.size;omega));have Y:Sb (G.heap[w.heap.size]? =RX (.cells #[.slice (RX ⟨l,0,RZ⟩) n o,b,c,d,.slice (RX ⟨rb,bh,RZ⟩) rs.length aF,.bool sk] 115 (0,0))):=(x.block _ (Sf D.out)).trans D.out;clear x))
     go_roundw
     case rel=>exact⟨a+1,by omega,by go_num,a9.out,Y.out,O.out⟩
     case measure=>simp[S2];omega
  ·have a8:Sb (∀ i (h:i<rs.length),jl (k rs[i].col) rs[i]=R7):=fun i h=>H.out i h (by omega);clear H Q P A U v;go_wp2;go_ret;exact⟨R7,rfl,by simp only[true_iff];exact a8.out,N.out⟩
def aa.Pb:((aa.of RY).info? 61).map (fun i=>(i.zero,i.size,i.bytes))=RX (RX (.agg #[.int .i64 0,.bool R6,.int .i64 0,.string ⟨#[]⟩,.bool R6,.int .i64 0,.string ⟨#[]⟩]),7,72):=by kernel_rfl
def aa.Ni:((aa.of RY).info? 3).map (fun i=>(i.zero,i.size,i.bytes))=RX (RX (.int .i64 0),1,8):=by kernel_rfl
theorem yV(l:List Int)(s:Option SL)(b off cap:Nat)(w:R3)(I:l.length≤1000)(t:0<l.length→s=RX ⟨b,off,RZ⟩)(hc:∀ j u,(aW l)[j]? =RX u→w.cell? ⟨b,off+j,RZ⟩=RX u):
 SF (aa.of RY) 70 #[.slice s l.length cap] w fun e w'=>Si w.heap.size w w'∧((l.length=0∧∃ co,e= .returned (.slice co 0 0))∨(0<l.length∧∃ v,e= .returned v∧w'.ownsRow w.heap.size 3 1 v l.length (aW l))):=by
 obtain⟨D,B,K,C,L⟩:=TB aa.Ni;have h:Si w.heap.size w (w.alloc (.cells #[] 3)):=(So _ _).alloc (R8 _) _;have p:(w.alloc (.cells #[] 3)).ownsRow w.heap.size 3 1 (.slice (RX ⟨w.heap.size,0,RZ⟩) 0 0) 0 []:=⟨rfl,.inr ⟨w.heap.size,0,#[],rfl,R8 _,iq _ _,R8 _,SK _,rfl,rfl⟩⟩;have M:∀ (n:SL) (m g:Nat) (a:R3),(binOp .eql 22 (.slice (RX n) m g) (.slice RZ 0 0)).run (aa.of RY) a= .ok (.bool R6) a:=fun n m g a=>by simp only[binOp];simp[run_equal_slice_nil a 22 3 _ _ _ aa.underlying22]
 have N:∀ (m g:Nat) (a:R3),(binOp .eql 22 (.slice RZ m g) (.slice RZ 0 0)).run (aa.of RY) a= .ok (.bool R7) a:=fun m g a=>by simp only[binOp];simp[run_equal_slice_nil a 22 3 _ _ _ aa.underlying22]
 by_cases o:0<l.length
 ·obtain rfl:=t o;have z:Sb (∀ j u,(aW l)[j]? =RX u→(w.alloc (.cells #[] 3)).cell? (V8 ⟨b,off,RZ⟩ j)=RX u):=fun j u H=>by
   rw[Vl];have d:=hc j u H;have G:b<w.heap.size:=by
    unfold Sr at d;rcases TF b w.heap.size with c|c
    ·exact c
    ·simp[Tg c] at d
   exact(h.cell (p:=⟨b,off+j,RZ⟩) G).trans d
  have A:Sb (∀ u∈aW l,u.oneCell'=R7):=fun u J=>by obtain⟨P,_,rfl⟩:=Tu.1 J;rfl
  have r:Sb ((aW l).length=l.length*1):=by show _=_;simp[aW]
  have f:Sb _:=h;clear hc h t;go_enter aa.func70,Tryz.ntmps70
  go_wp2_with (at_builtin;refine aS _ rfl _ _ 22 rfl w.heap.size 3 D (.int .i64 0) 1 8 aa.underlying22 B K C L rfl (by decide) (.slice (RX ⟨w.heap.size,0,RZ⟩) 0 0) 0 [] rfl p ⟨b,off,RZ⟩ l.length cap (aW l) rfl o r.out z.out A.out (by unfold Sw;omega) (by omega) (by simp) ?_;intro O w' k i)
  have q:Sb (Si w.heap.size w w'):=by
   rcases i with⟨d,_⟩|⟨_,d⟩
   ·exact f.out.grown d (by simp) (by simp)
   ·exact f.out.grown d (by simp) (fun F x=>by simp[TQ] at x;omega)
  rw[SZ,List.nil_append] at k;have E:Sb _:=k;clear i k z A r f p;go_wp2;go_ret;exact⟨q.out,.inr ⟨o,_,rfl,E.out⟩⟩
 ·have y:l.length=0:=by omega
  rw[y];have r:Sb (l.length=0):=y;have f:Sb _:=h;clear t hc I o y h;cases s with
  |none=>
   go_enter aa.func70,Tryz.ntmps70;go_wp2;go_ret;exact⟨So _ _,.inl ⟨trivial,_,rfl⟩⟩
  |some n=>
   go_enter aa.func70,Tryz.ntmps70
   go_wp2_with (at_builtin;refine TJ _ rfl _ _ 22 rfl w.heap.size 3 D 1 aa.underlying22 B C w.heap.size 0 0 [] rfl p n 0 cap [] rfl (by simp) (fun j u c=>by simp at c) (fun u c=>by simp at c) (by omega) ?_;intro w' k i)
   have q:Sb (Si w.heap.size w w'):=f.out.grown i (by simp) (fun F x=>by simp at x;omega);clear i k f p;go_wp2;go_ret;exact⟨q.out,.inl ⟨trivial,_,rfl⟩⟩
theorem vh(l:List bZ)(s:Option SL)(b off cap:Nat)(w:R3)(J:l.length≤1000)(t:0<l.length→s=RX ⟨b,off,RZ⟩)(hc:∀ j u,(dy l)[j]? =RX u→w.cell? ⟨b,off+j,RZ⟩=RX u):
 SF (aa.of RY) 107 #[.slice s l.length cap] w fun e w'=>Si w.heap.size w w'∧((l.length=0∧∃ co,e= .returned (.slice co 0 0))∨(0<l.length∧∃ v,e= .returned v∧w'.ownsRow w.heap.size 61 7 v l.length (dy l))):=by
 obtain⟨E,B,L,D,M⟩:=TB aa.Pb;have h:Si w.heap.size w (w.alloc (.cells #[] 61)):=(So _ _).alloc (R8 _) _;have p:(w.alloc (.cells #[] 61)).ownsRow w.heap.size 61 7 (.slice (RX ⟨w.heap.size,0,RZ⟩) 0 0) 0 []:=⟨rfl,.inr ⟨w.heap.size,0,#[],rfl,R8 _,iq _ _,R8 _,SK _,rfl,rfl⟩⟩;have N:∀ (n:SL) (m g:Nat) (a:R3),(binOp .eql 23 (.slice (RX n) m g) (.slice RZ 0 0)).run (aa.of RY) a= .ok (.bool R6) a:=fun n m g a=>by simp only[binOp];simp[run_equal_slice_nil a 23 61 _ _ _ aa.underlying23]
 have O:∀ (m g:Nat) (a:R3),(binOp .eql 23 (.slice RZ m g) (.slice RZ 0 0)).run (aa.of RY) a= .ok (.bool R7) a:=fun m g a=>by simp only[binOp];simp[run_equal_slice_nil a 23 61 _ _ _ aa.underlying23]
 by_cases o:0<l.length
 ·obtain rfl:=t o;have z:Sb (∀ j u,(dy l)[j]? =RX u→(w.alloc (.cells #[] 61)).cell? (V8 ⟨b,off,RZ⟩ j)=RX u):=fun j u I=>by
   rw[Vl];have d:=hc j u I;have H:b<w.heap.size:=by
    unfold Sr at d;rcases TF b w.heap.size with c|c
    ·exact c
    ·simp[Tg c] at d
   exact(h.cell (p:=⟨b,off+j,RZ⟩) H).trans d
  have A:Sb (∀ u∈dy l,u.oneCell'=R7):=fun u K=>by
   obtain⟨Q,_,C⟩:=List.mem_flatMap.1 K;simp only[q8,TE,Vr,or_false] at C;rcases C with rfl|rfl|rfl|rfl|rfl|rfl|rfl<;>rfl
  have r:Sb ((dy l).length=l.length*7):=qE l;have f:Sb _:=h;clear hc h t;go_enter aa.func107,Tryz.ntmps107
  go_wp2_with (at_builtin;refine aS _ rfl _ _ 23 rfl w.heap.size 61 E (.agg #[.int .i64 0,.bool R6,.int .i64 0,.string ⟨#[]⟩,.bool R6,.int .i64 0,.string ⟨#[]⟩]) 7 72 aa.underlying23 B L D M rfl (by decide) (.slice (RX ⟨w.heap.size,0,RZ⟩) 0 0) 0 [] rfl p ⟨b,off,RZ⟩ l.length cap (dy l) rfl o r.out z.out A.out (by unfold Sw;omega) (by omega) (by simp) ?_;intro P w' k i)
  have q:Sb (Si w.heap.size w w'):=by
   rcases i with⟨d,_⟩|⟨_,d⟩
   ·exact f.out.grown d (by simp) (by simp)
   ·exact f.out.grown d (by simp) (fun G x=>by simp[TQ] at x;omega)
  rw[SZ,List.nil_append] at k;have F:Sb _:=k;clear i k z A r f p;go_wp2;go_ret;exact⟨q.out,.inr ⟨o,_,rfl,F.out⟩⟩
 ·have y:l.length=0:=by omega
  rw[y];have r:Sb (l.length=0):=y;have f:Sb _:=h;clear t hc J o y h;cases s with
  |none=>
   go_enter aa.func107,Tryz.ntmps107;go_wp2;go_ret;exact⟨So _ _,.inl ⟨trivial,_,rfl⟩⟩
  |some n=>
   go_enter aa.func107,Tryz.ntmps107
   go_wp2_with (at_builtin;refine TJ _ rfl _ _ 23 rfl w.heap.size 61 E 7 aa.underlying23 B D w.heap.size 0 0 [] rfl p n 0 cap [] rfl (by simp) (fun j u c=>by simp at c) (fun u c=>by simp at c) (by omega) ?_;intro w' k i)
   have q:Sb (Si w.heap.size w w'):=f.out.grown i (by simp) (fun G x=>by simp at x;omega);clear i k f p;go_wp2;go_ret;exact⟨q.out,.inl ⟨trivial,_,rfl⟩⟩
def LU{a:R3}{g o:Nat}{b:Array R2}{t:Sg}{u:R2}(h:a.heap[g]? =RX (.cells b t (0,0)))(d:b[o]? =RX u):(a.setCell ⟨g,o,RZ⟩ u).heap[g]? =RX (.cells b t (0,0)):=by
 rw[Sq a g o _ _ u h];congr 2;apply Array.ext_getElem?;intro f;rw[SQ]
 split
 ·rename_i c;subst c
  split
  ·exact d.symm
  ·rename_i e;rw[Tg (by omega)]
 ·rfl
theorem qG{d:R3}{base g o n cap:Nat}{c:List R2}{u:R2}(h:d.ownsRow base 61 7 (.slice (RX ⟨g,0,RZ⟩) n cap) n c)(b:c[o]? =RX u):(d.setCell ⟨g,o,RZ⟩ u).ownsRow base 61 7 (.slice (RX ⟨g,0,RZ⟩) n cap) n c:=by
 obtain⟨p,⟨a,_⟩|⟨r,q,f,a,i,j,k,l,m,e⟩⟩:=h
 ·cases a
 ·simp only[Uq,Ts,U6,and_true,true_and] at a;obtain⟨rfl,rfl⟩:=a;refine⟨p,.inr ⟨g,cap,f,rfl,i,LU j ?_,k,l,m,e⟩⟩;rw[← e,T3] at b
  split at b
  ·simpa using b
  ·cases b
def NB{w:R3}{base e d n:Nat}{v:R2}{f:List R2}(h:w.ownsRow base e d v n f)(l:0<n):∃ g cap,v= .slice (RX ⟨g,0,RZ⟩) n cap:=by
 obtain⟨k,⟨a,j⟩|⟨c,b,i,a,_⟩⟩:=h
 ·omega
 ·exact⟨c,b,a⟩
def cM.Lg{w:R3}{base g cap:Nat}{l:List bZ}(h:w.ownsRow base 61 7 (.slice (RX ⟨g,0,RZ⟩) l.length cap) l.length (dy l)):cM w (RX ⟨g,0,RZ⟩) g 0 l:=by
 obtain⟨o,⟨a,_⟩|⟨i,e,f,a,j,c,k,m,n,d⟩⟩:=h
 ·cases a
 ·simp only[Uq,Ts,U6,and_true,true_and] at a;obtain⟨rfl,rfl⟩:=a;refine cM.C4 (Sf c) fun p v b=>?_;rw[← d,T3] at b
  split at b
  ·rw[SZ];unfold Sr;simp only[c];simpa using b
  ·cases b
def Lm{w:R3}{base g n cap c e:Nat}{d:List R2}(h:w.ownsRow base e c (.slice (RX ⟨g,0,RZ⟩) n cap) n d):base≤g:=by
 obtain⟨q,⟨a,_⟩|⟨j,f,i,a,b,k,l,m,o,p⟩⟩:=h
 ·cases a
 ·simp only[Uq,Ts,U6,and_true,true_and] at a;obtain⟨rfl,rfl⟩:=a;exact b
def Dd{w:R3}{base g n cap c e o:Nat}{d:List R2}(h:w.ownsRow base e c (.slice (RX ⟨g,0,RZ⟩) n cap) n d):w.frozen? ⟨g,o,RZ⟩=R6:=by
 obtain⟨r,⟨a,_⟩|⟨j,f,i,a,k,b,l,m,p,q⟩⟩:=h
 ·cases a
 ·simp only[Uq,Ts,U6,and_true,true_and] at a;obtain⟨rfl,rfl⟩:=a;simp[S4,b]
def Dc{w:R3}{base g n cap o:Nat}{c:List R2}{u:R2}(h:w.ownsRow base 61 7 (.slice (RX ⟨g,0,RZ⟩) n cap) n c)(b:c[o]? =RX u):w.cell? ⟨g,o,RZ⟩=RX u:=by
 obtain⟨q,⟨a,_⟩|⟨j,f,i,a,k,d,l,m,p,e⟩⟩:=h
 ·cases a
 ·simp only[Uq,Ts,U6,and_true,true_and] at a;obtain⟨rfl,rfl⟩:=a;rw[← e,T3] at b
  split at b
  ·unfold Sr;simp only[d];simpa using b
  ·cases b
theorem wG(l:List bZ)(A:Option SL)(b off cap:Nat)(w:R3)(aw:l.length≤1000)(ar:0<l.length→A=RX ⟨b,off,RZ⟩)(hc:∀ j u,(dy l)[j]? =RX u→w.cell? ⟨b,off+j,RZ⟩=RX u)(a2:∀ r∈l,r.low.s.size≤32∧r.high.s.size≤32):
 SF (aa.of RY) 71 #[.slice A l.length cap] w fun e w'=>Si w.heap.size w w'∧((l.length=0∧∃ co,e= .returned (.slice co 0 0))∨(0<l.length∧∃ v,e= .returned v∧w'.ownsRow w.heap.size 61 7 v l.length (dy l))):=by
 have t:=vh l A b off cap w aw ar hc;have O:Sb (∀ r∈l,r.low.s.size≤32∧r.high.s.size≤32):=a2;clear ar hc a2;by_cases F:0<l.length
 ·have al:SF (aa.of RY) 107 #[.slice A l.length cap] w fun e w'=>Si w.heap.size w w'∧∃ c g,e= .returned (.slice (RX ⟨c,0,RZ⟩) l.length g)∧w'.ownsRow w.heap.size 61 7 (.slice (RX ⟨c,0,RZ⟩) l.length g) l.length (dy l):=by
   refine t.mono fun e w' h=>⟨h.1,?_⟩;obtain⟨_,v,rfl,o⟩:=h.2.resolve_left fun h=>absurd h.1 (by omega);obtain⟨c,g,rfl⟩:=NB o F;exact⟨c,g,rfl,o⟩
  clear t;go_enter aa.func71,Tryz.ntmps71
  go_wp2_with (go_at_call 107;refine al.mono ?_;rintro e C ⟨B,c,g,rfl,a1⟩)
  have D:Sb (Si w.heap.size w C):=B;have x:Sb (C.ownsRow w.heap.size 61 7 (.slice (RX ⟨c,0,RZ⟩) l.length g) l.length (dy l)):=a1;clear B a1 al
  go_loopw [10] (fun p wr=>∃ a:Nat,a≤l.length∧p= .int .i64 (a:Int)∧wr.ownsRow w.heap.size 61 7 (.slice (RX ⟨c,0,RZ⟩) l.length g) l.length (dy l)∧Si w.heap.size w wr) (fun p _=>l.length - (S2 p).toNat)
  case atStart=>exact⟨0,SK _,rfl,x.out,D.out⟩
  case round=>
   clear D x;obtain⟨a,bv,rfl,o,G⟩:=hrel;have J:Sb (Si w.heap.size w wr):=G;have E:Sb (wr.ownsRow w.heap.size 61 7 (.slice (RX ⟨c,0,RZ⟩) l.length g) l.length (dy l)):=o;have a3:=G.size;by_cases i:a<l.length
   ·have m:=cM.Lg o;have S:=m.c0 a i;have T:=m.c1 a i;have U:=m.c2 a i;have V:=m.c3 a i;have W:=m.c4 a i;have X:=m.c5 a i;have Y:=m.c6 a i;simp only[SZ] at S T U V W X Y;have N:Sb ((dy l)[a*7+1+2]? =RX (.string l[a].low.s)):=ni l a i 3 _ rfl;have M:Sb ((dy l)[a*7+4+2]? =RX (.string l[a].high.s)):=ni l a i 6 _ rfl;obtain⟨a5,a6⟩:=O.out l[a] (Sl i);have H:=fun P=>tq l[a].low.s P a5;have I:=fun P=>tq l[a].high.s P a6;clear o G m O a5 a6;generalize l[a]=bs at*;obtain⟨s,d,f⟩:=bs;dsimp only at S T U V W X Y N M H I
    go_upto_region 5 with fail
    obtain⟨be,bi,bj,bl,bm,bo,a4⟩:=iT (iq wr (.cells #[.int .i64 s,.bool d.null,.int .i64 d.n,.string d.s,.bool f.null,.int .i64 f.n,.string f.s] 61));have Q:Si wr.heap.size wr (wr.alloc (.cells #[.int .i64 s,.bool d.null,.int .i64 d.n,.string d.s,.bool f.null,.int .i64 f.n,.string f.s] 61)):=(So _ _).alloc (R8 _) _;have L:Sb (Si w.heap.size w (wr.alloc (.cells #[.int .i64 s,.bool d.null,.int .i64 d.n,.string d.s,.bool f.null,.int .i64 f.n,.string f.s] 61))):=J.out.trans (Q.mono a3);have a0:=aM E.out Q;have x:Sb ((wr.alloc (.cells #[.int .i64 s,.bool d.null,.int .i64 d.n,.string d.s,.bool f.null,.int .i64 f.n,.string f.s] 61)).ownsRow w.heap.size 61 7 (.slice (RX ⟨c,0,RZ⟩) l.length g) l.length (dy l)):=a0;have bd:wr.heap.size<(wr.alloc (.cells #[.int .i64 s,.bool d.null,.int .i64 d.n,.string d.s,.bool f.null,.int .i64 f.n,.string f.s] 61)).heap.size:=by simp
    have bb:wr.heap.size≠c:=fun h=>by have:=(cM.Lg E.out).lt F;omega
    clear Q S T U V W X Y J a3 E a0;generalize wr.alloc (.cells #[.int .i64 s,.bool d.null,.int .i64 d.n,.string d.s,.bool f.null,.int .i64 f.n,.string f.s] 61)=bt at*;generalize wr.heap.size=ao at*;have bc:=L.out.size
    go_upto_region 6 with(go_at_call 66;refine(H _).mono ?_;rintro e n ⟨rfl,k⟩;have ab:Sb (Si w.heap.size w n):=L.out.trans (k.mono bc);have y:Sb (n.ownsRow w.heap.size 61 7 (.slice (RX ⟨c,0,RZ⟩) l.length g) l.length (dy l)):=aM x.out k;have Z:=(k.cell (p:=⟨ao,6,RZ⟩) bd).trans a4;have u3:n.cell? ⟨c,a*7+1+2,RZ⟩=RX (.string d.s):=Dc y.out N.out;have a9:n.frozen? ⟨c,a*7+1+2,RZ⟩=R6:=Dd y.out;have bx:=k.size;clear k H)
    have K:Sb (Si w.heap.size w (n.setCell ⟨c,a*7+1+2,RZ⟩ (.string d.s))):=ab.out.setCell (p:=⟨c,a*7+1+2,RZ⟩) (Lm y.out) _;have am:Sb ((n.setCell ⟨c,a*7+1+2,RZ⟩ (.string d.s)).ownsRow w.heap.size 61 7 (.slice (RX ⟨c,0,RZ⟩) l.length g) l.length (dy l)):=qG y.out N.out;have br:(n.setCell ⟨c,a*7+1+2,RZ⟩ (.string d.s)).cell? ⟨ao,6,RZ⟩=RX (.string f.s):=by
     unfold Sr at Z ⊢;rw[Sv _ _ _ _ bb];exact Z
    clear u3 a9 Z ab y L x be bi bj bl bm bo a4;generalize n.setCell ⟨c,a*7+1+2,RZ⟩ (.string d.s)=bu at*
    go_upto_region 7 with(go_at_call 66;refine(I _).mono ?_;rintro e q ⟨rfl,k⟩;have ad:Sb (Si w.heap.size w q):=K.out.trans (k.mono K.out.size);have z:Sb (q.ownsRow w.heap.size 61 7 (.slice (RX ⟨c,0,RZ⟩) l.length g) l.length (dy l)):=aM am.out k;have u6:q.cell? ⟨c,a*7+4+2,RZ⟩=RX (.string f.s):=Dc z.out M.out;have ba:q.frozen? ⟨c,a*7+4+2,RZ⟩=R6:=Dd z.out;clear k I)
    have a7:Sb (Si w.heap.size w (q.setCell ⟨c,a*7+4+2,RZ⟩ (.string f.s))):=ad.out.setCell (p:=⟨c,a*7+4+2,RZ⟩) (Lm z.out) _;have a8:Sb ((q.setCell ⟨c,a*7+4+2,RZ⟩ (.string f.s)).ownsRow w.heap.size 61 7 (.slice (RX ⟨c,0,RZ⟩) l.length g) l.length (dy l)):=qG z.out M.out;clear u6 ba br ad z K am;go_wp2
    go_roundw
    case rel=>exact⟨a+1,by omega,by go_num,a8.out,a7.out⟩
    case measure=>simp[S2];omega
   ·clear o G;go_wp2;go_ret;exact⟨J.out,.inr ⟨F,_,rfl,E.out⟩⟩
 ·have R:l.length=0:=by omega
  have ae:SF (aa.of RY) 107 #[.slice A 0 cap] w fun e w'=>Si w.heap.size w w'∧∃ co,e= .returned (.slice co 0 0):=by
   rw[R] at t;exact t.mono fun e w' h=>⟨h.1,(h.2.resolve_right fun h=>absurd h.1 (by omega)).2⟩
  rw[R];clear t R F O aw;go_enter aa.func71,Tryz.ntmps71
  go_wp2_with (go_at_call 107;refine ae.mono ?_;rintro e C ⟨B,co,rfl⟩)
  have D:Sb (Si w.heap.size w C):=B;clear B ae
  go_loopw [10] (fun p wr=>p= .int .i64 0∧wr=C) (fun p _=>0)
  case atStart=>exact⟨rfl,rfl⟩
  case round=>
   obtain⟨rfl,rfl⟩:=hrel;go_wp2;go_ret;exact⟨D.out,.inl ⟨trivial,_,rfl⟩⟩
def Qo (w:R3)(s:ByteArray)(e:UQ)(w':R3):Prop:=
 Si w.heap.size w w'∧((∃ (b:List (bG×Int)) (a:List Bd) (c:List (Bd×R2)) (d f h:R2),e= .returned (.tuple #[.agg #[d,f,h],.bool R7])∧eP s b a∧c.map SB=a∧cq w' w.heap.size b c d f h∧(∀ i g,eP s i g→i=b∧g=a))∨
  (e= .returned (.tuple #[.agg #[.slice RZ 0 0,.slice RZ 0 0,.slice RZ 0 0],.bool R6])∧∀ b a,¬ eP s b a))
theorem tF(s:ByteArray)(w:R3)(bb:s.size≤Sw):
 SF (aa.of RY) 44 #[.string s] w (Qo w s):=by
 have H:Sb ((w.alloc (.cells #[.slice RZ 0 0,.slice RZ 0 0,.slice RZ 0 0] 105)).heap[w.heap.size]? =RX (.cells #[.slice RZ 0 0,.slice RZ 0 0,.slice RZ 0 0] 105 (0,0))):=bw w _;have N:Sb (Si w.heap.size w (w.alloc (.cells #[.slice RZ 0 0,.slice RZ 0 0,.slice RZ 0 0] 105))):=(So _ _).alloc (R8 _) _;have bd:∀ (U:Fn) (first P:Array R2) (w:R3),(Instr.makeFunc U first P).run (aa.of RY) w= .ok (.func U first P) w:=fun _ _ _ _=>rfl;go_enter aa.func44,Tryz.ntmps44
 go_wp2_with fail
 refine(M5 s _ bb).mono ?_;rintro a7 b ⟨ba,L⟩;have r:Sb (b.heap[w.heap.size]? =RX (.cells #[.slice RZ 0 0,.slice RZ 0 0,.slice RZ 0 0] 105 (0,0))):=(L.block _ (Sf H.out)).trans H.out;have D:Sb (Si w.heap.size w b):=N.out.trans (L.mono (by simp));have ad:w.heap.size<b.heap.size:=Sf r.out;clear H N L;rcases ba with⟨d,C,rfl,hcut⟩|⟨rfl,n⟩;rotate_left
 ·have G:Sb (∀ a c,¬ eP s a c):=fun a c h=>n _ _ h.2;have k:(b.alloc (.cells #[.string ⟨#[]⟩] 9)).heap[w.heap.size]? =RX (.cells #[.slice RZ 0 0,.slice RZ 0 0,.slice RZ 0 0] 105 (0,0)):=by rw[SP _ _ _ ad];exact r.out
  have j:Si w.heap.size w (b.alloc (.cells #[.string ⟨#[]⟩] 9)):=D.out.alloc (by omega) _;clear n
  go_upto_region 2 with fail
  generalize b.alloc (.cells #[.string ⟨#[]⟩] 9)=i at*;have ar:Sb (Si w.heap.size w (fQ i w.heap.size (.slice RZ 0 0) (.slice RZ 0 0) (.slice RZ 0 0))):=lY _ _ _ j (R8 _) (R8 _);obtain⟨⟨al,am,ao⟩,R,S,T⟩:=eN k;obtain⟨⟨o,p,q⟩,-⟩:=eN (pW (.slice RZ 0 0) (.slice RZ 0 0) (.slice RZ 0 0) k);clear k j;unfold fQ at*;go_wp2;simp[TT,SX,Tryz.results44,go_sem,o,p,q];exact⟨ar.out,.inr ⟨rfl,G.out⟩⟩
 ·have F:Sb (Cut s (bytesOf d) (bytesOf C)):=hcut;have ab:=hcut.len;have bc:=hcut.1;rw[ai,ai] at ab;have k:(b.alloc (.cells #[.string d] 9)).heap[w.heap.size]? =RX (.cells #[.slice RZ 0 0,.slice RZ 0 0,.slice RZ 0 0] 105 (0,0)):=by rw[SP _ _ _ ad];exact r.out
  have j:Si w.heap.size w (b.alloc (.cells #[.string d] 9)):=D.out.alloc (by omega) _;have V:(b.alloc (.cells #[.string d] 9)).heap[b.heap.size]? =RX (.cells #[.string d] 9 (0,0)):=bw b _;have M:w.heap.size≤(b.alloc (.cells #[.string d] 9)).heap.size:=j.size;have a9:C.size≤65536:=by omega
  have a8:d.size≤65536:=by omega
  clear hcut ab bc
  go_upto_region 2 with fail
  generalize b.alloc (.cells #[.string d] 9)=i at*;generalize b.heap.size=Q at*;have t:Sb (i.heap[w.heap.size]? =RX (.cells #[.slice RZ 0 0,.slice RZ 0 0,.slice RZ 0 0] 105 (0,0))):=k;have O:Sb (Si w.heap.size w i):=j;have aw:Sb (i.heap[Q]? =RX (.cells #[.string d] 9 (0,0))):=V;clear k j V r D
  go_wp2_with fail
  refine(F4 Q C d i a9 a8 aw.out).mono ?_;rintro a7 g ⟨l,⟨a,c,e,a4,a5,a6,rfl,Z,W,X,Y,hF,ae⟩|⟨rfl,n⟩⟩
  ·have f:g.heap[w.heap.size]? =RX (.cells #[.slice RZ 0 0,.slice RZ 0 0,.slice RZ 0 0] 105 (0,0)):=(l.block _ (Sf t.out)).trans t.out;have m:Si w.heap.size w g:=O.out.trans (l.mono M);have K:cq g w.heap.size a e a4 a5 a6:=hF.base M;obtain⟨u,ac,x,v,A,z,rfl,rfl,rfl⟩:=K.Gl;have a0:Sb (cq (fQ g w.heap.size (.slice u a.length ac) (.slice x a.length v) (.slice A e.length z)) w.heap.size a e (.slice u a.length ac) (.slice x a.length v) (.slice A e.length z)):=K.fQ _ _ _ f;have E:Sb (Si w.heap.size w (fQ g w.heap.size (.slice u a.length ac) (.slice x a.length v) (.slice A e.length z))):=lY _ _ _ m (R8 _) (R8 _);have a1:Sb (eP s a c):=⟨Z,by rw[← X,← Y];exact F.out⟩;have a3:Sb (∀ B y,eP s B y→B=a∧y=c):=fun B y h=>by
    obtain⟨I,J⟩:=F.out.GW h.2;exact ae B y h.1 J I
   have a2:Sb (e.map SB=c):=W;obtain⟨⟨al,am,ao⟩,R,S,T⟩:=eN f;obtain⟨⟨o,p,q⟩,-⟩:=eN (pW (.slice u a.length ac) (.slice x a.length v) (.slice A e.length z) f);clear f m K hF Z X Y ae l W;unfold fQ at*;go_wp2;simp[TT,SX,Tryz.results44,go_sem,o,p,q];exact⟨E.out,.inl ⟨a,c,e,_,_,_,rfl,a1.out,a2.out,a0.out,a3.out⟩⟩
  ·have f:g.heap[w.heap.size]? =RX (.cells #[.slice RZ 0 0,.slice RZ 0 0,.slice RZ 0 0] 105 (0,0)):=(l.block _ (Sf t.out)).trans t.out;have m:Si w.heap.size w g:=O.out.trans (l.mono M);have E:Sb (Si w.heap.size w (fQ g w.heap.size (.slice RZ 0 0) (.slice RZ 0 0) (.slice RZ 0 0))):=lY _ _ _ m (R8 _) (R8 _);have G:Sb (∀ a c,¬ eP s a c):=fun a c h=>by
    obtain⟨I,J⟩:=F.out.GW h.2;exact n a c h.1 J I
   obtain⟨⟨al,am,ao⟩,R,S,T⟩:=eN f;obtain⟨⟨o,p,q⟩,-⟩:=eN (pW (.slice RZ 0 0) (.slice RZ 0 0) (.slice RZ 0 0) f);clear f m n l;unfold fQ at*;go_wp2;simp[TT,SX,Tryz.results44,go_sem,o,p,q];exact⟨E.out,.inr ⟨rfl,G.out⟩⟩
theorem Bx(s:ByteArray)(w:R3)(ae:s.size≤Sw):
 SF (aa.of RY) 21 #[.string s] w fun e w'=>Si w.heap.size w w'∧∃ (cs:List bG) (n m:Nat) (C:R2),e= .returned (.tuple #[C,.int .i64 (n:Int),.int .i64 (m:Int)])∧G3 s cs n m∧w'.ownsRow w.heap.size 63 2 C cs.length (dg cs)∧(m≠0→C= .slice RZ 0 0):=by
 go_enter aa.func21,Tryz.ntmps21
 go_wp2_with fail
 refine(tF s _ ae).mono ?_;rintro e k ⟨r,⟨a,o,b,am,q,ao,rfl,x,y,hF,G⟩|⟨rfl,R⟩⟩;rotate_left
 ·have u:Sb (Si w.heap.size w (k.alloc (.cells #[.slice RZ 0 0,.slice RZ 0 0,.slice RZ 0 0] 105))):=r.alloc r.size _;have Y:Sb (∀ a o,¬ eP s a o):=R;clear r R;go_wp2;simp[TT,SX,Tryz.results21,go_sem];exact⟨u.out,[],0,3,_,⟨rfl,rfl,rfl⟩,.inr ⟨Y.out,rfl,rfl,rfl⟩,Ur _ _ _ _,fun _=>rfl⟩
 ·obtain⟨c,ac,d,f,h,g,rfl,rfl,rfl⟩:=hF.Gl;have u:Sb (Si w.heap.size w (k.alloc (.cells #[.slice c a.length ac,.slice d a.length f,.slice h b.length g] 105))):=r.alloc r.size _;have Q:=bw k (.cells #[.slice c a.length ac,.slice d a.length f,.slice h b.length g] 105);have A:Sb (cq (k.alloc (.cells #[.slice c a.length ac,.slice d a.length f,.slice h b.length g] 105)) w.heap.size a b (.slice c a.length ac) (.slice d a.length f) (.slice h b.length g)):=hF.below ((So _ _).alloc (R8 _) _);obtain⟨⟨H,I,J⟩,-⟩:=eN Q;have U:Sb (G3 s (a.map SB) (ep o) 0):=.inl ⟨a,o,x,rfl,rfl,rfl,fun S O l=>⟨(G S O l).1,by rw[(G S O l).2]⟩⟩;have X:Sb (b.map SB=o):=y;have Z:=sj o (fun q E=>(x.1.bP q E).lo);have ab:=x.1.rows;have ad:b.length≤65536:=by rw[← SV (f:=SB),y];omega
  have al:∀ q∈b.map SB,q.rows≤100:=by rw[y];exact fun q E=>(x.1.bP q E).hi
  clear r hF x G Q Z ab y
  go_upto_region 4 with fail
  have N:Sb (SF (aa.of RY) 45 #[.agg #[.slice c a.length ac,.slice d a.length f,.slice h b.length g]] (k.alloc (.cells #[.slice c a.length ac,.slice d a.length f,.slice h b.length g] 105)).drew fun e w'=>e= .returned (.int .i64 (ep (b.map SB):Int))∧Si (k.alloc (.cells #[.slice c a.length ac,.slice d a.length f,.slice h b.length g] 105)).drew.heap.size (k.alloc (.cells #[.slice c a.length ac,.slice d a.length f,.slice h b.length g] 105)).drew w'):=zP c d _ _ _ _ w.heap.size _ b _ (A.out.bP.below ((So _ _).drew)) ad al;have W:k.heap.size<(k.alloc (.cells #[.slice c a.length ac,.slice d a.length f,.slice h b.length g] 105)).heap.size:=by simp
  generalize k.alloc (.cells #[.slice c a.length ac,.slice d a.length f,.slice h b.length g] 105)=p at*;generalize k.heap.size=i at*;have F:i<p.heap.size:=W;refine Un.open_ (fun j=>j.cell? ⟨i,0,RZ⟩=RX (.slice c a.length ac)∧j.cell? ⟨i,1,RZ⟩=RX (.slice d a.length f)∧j.cell? ⟨i,2,RZ⟩=RX (.slice h b.length g)) 6 (fun _ _ _ _ _ l=>l) fun ar=>?_;have D:(fun j=>j.cell? ⟨i,0,RZ⟩=RX (.slice c a.length ac)∧j.cell? ⟨i,1,RZ⟩=RX (.slice d a.length f)∧j.cell? ⟨i,2,RZ⟩=RX (.slice h b.length g)) p.drew:=⟨H,I,J⟩;refine Un.pk 0 ?_
  try simp only[Sy,R1,R5,R4]
  refine Un.ld [6] 1 ?_
  try simp only[Sy,R1,R5,R4]
  refine Un.ld [6] 2 ?_
  try simp only[Sy,R1,R5,R4]
  refine Un.on 3 fun B v=>?_;go_simp;go_at_call 45;refine N.out.mono ?_;rintro e z ⟨rfl,P⟩;have t:Si p.heap.size p z:=(So p.heap.size p).drew.trans P;have T:Sb (Si w.heap.size w z):=u.out.trans (t.mono u.out.size);have V:Sb (cq z w.heap.size a b (.slice c a.length ac) (.slice d a.length f) (.slice h b.length g)):=A.out.below t;have K:=(t.cell (p:=⟨i,0,RZ⟩) F).trans H;have L:=(t.cell (p:=⟨i,1,RZ⟩) F).trans I;have M:=(t.cell (p:=⟨i,2,RZ⟩) F).trans J;refine v.out _ _ (fun _=>⟨K,L,M⟩) ?_;clear v B D P t N u A H I J
  try simp only[Sy,R1,R5,R4]
  have D:(fun j=>j.cell? ⟨i,0,RZ⟩=RX (.slice c a.length ac)∧j.cell? ⟨i,1,RZ⟩=RX (.slice d a.length f)∧j.cell? ⟨i,2,RZ⟩=RX (.slice h b.length g)) z:=⟨K,L,M⟩;refine Un.pk 4 ?_
  try simp only[Sy,R1,R5,R4]
  refine Un.pk 5 ?_
  try simp only[Sy,R1,R5,R4]
  refine Un.on 6 fun B v=>?_;go_simp;refine v.out _ _ (fun l=>absurd l (by decide)) ?_;clear v B
  try simp only[Sy,R1,R5,R4]
  clear D K L M;refine Un.done (by kernel_rfl) ?_ _
  try simp only[Sy,R1,R5,R4]
  go_wp2;simp[TT,SX,Tryz.results21,go_sem];exact⟨T.out,a.map SB,ep o,0,_,⟨rfl,by rw[X.out],rfl⟩,U.out,by rw[SV];exact V.out.ah,fun l=>absurd rfl l⟩
end Ec
namespace Cc
open Go Go.Conc
open Go.RowKit (Below)
open Ec
open Pk
open Pm
def kZ{w:R3}{base:Nat}{e:Sg}{j n:Nat}{v:R2}{f:List R2}(h:w.ownsRow base e j v n f)(r:0<n):∃ g cap,v= .slice (RX ⟨g,0,RZ⟩) n cap∧base≤g∧g<w.heap.size∧∀ o u,f[o]? =RX u→w.cell? ⟨g,o,RZ⟩=RX u:=by
 obtain⟨q,⟨b,c⟩|⟨g,cap,k,b,c,d,l,m,p,i⟩⟩:=h
 ·omega
 ·refine⟨g,cap,b,c,(R9.1 d).1,fun o u a=>?_⟩;rw[← i,T3] at a
  split at a
  ·unfold Sr;simp only[d];simpa using a
  ·cases a
def yC (e d c:Nat)(ct:Nat→Nat)(cb rb n f g:Nat):Nat→Prop:=fun a=>a=e∨a=d∨(0<n∧a=c)∨(∃ b,b<n∧a=ct b)∨(0<f∧a=cb)∨(0<g∧a=rb)
theorem FM.kept{k W':R3}{l:List (bG×Int)}{bs:List Bd}{ah:List Int}{rs:List bZ}{s r:Nat}{u:Option SL}{q:Nat}{ct mE:Nat→Nat}{co:Option SL}{cb aV:Nat}{ro:Option SL}{rb bh:Nat}(h:FM k l bs ah rs s r u q ct mE co cb aV ro rb bh)(n:k.heap.size≤W'.heap.size)(z:∀ b,yC s r q ct cb rb bs.length ah.length rs.length b→mw W' k b):FM W' l bs ah rs s r u q ct mE co cb aV ro rb bh:=by
 have m:∀ b,yC s r q ct cb rb bs.length ah.length rs.length b→∀ p v,k.cell? ⟨b,p,RZ⟩=RX v→W'.cell? ⟨b,p,RZ⟩=RX v:=fun b i p v o=>by
  unfold Sr at o ⊢;cases t:k.heap[b]? with
  |none=>rw[t] at o;cases o
  |some j=>
   rw[t] at o;cases j<;>first|(cases o;done)|skip
   rw[z b i _ t trivial];exact o
 have w:∀ d b,bs[d]? =RX b→d<bs.length:=fun d b h=>(SA.1 h).1;have f:∀ {p v},0<rs.length→k.cell? ⟨rb,p,RZ⟩=RX v→W'.cell? ⟨rb,p,RZ⟩=RX v:=fun g=>m rb (.inr (.inr (.inr (.inr (.inr ⟨g,rfl⟩))))) _ _;have e:=h.nr;refine⟨fun c j a=>m s (.inl rfl) _ _ (h.k c j a),fun c j a=>m r (.inr (.inl rfl)) _ _ (h.e c j a),fun d b i=>?_,fun d b i c j a A B y=>m (ct d) (.inr (.inr (.inr (.inl ⟨d,w d b i,rfl⟩)))) _ _ (h.c d b i c j a A B y),Sa h.lk n,Sa h.le n,h.da,fun g=>Sa (h.ld g) n,fun d x=>Sa (h.lc d x) n,h.ca,fun g=>Sa (h.cl g) n,fun c a=>m cb (.inr (.inr (.inr (.inr (.inl ⟨by omega,rfl⟩))))) _ _ (h.cc c a),
  ⟨e.addr,fun g=>Sa (e.lt g) n,fun c a=>f (by omega) (e.c0 c a),fun c a=>f (by omega) (e.c1 c a),fun c a=>f (by omega) (e.c2 c a),fun c a=>f (by omega) (e.c3 c a),fun c a=>f (by omega) (e.c4 c a),fun c a=>f (by omega) (e.c5 c a),fun c a=>f (by omega) (e.c6 c a)⟩⟩
 intro c v a;exact m q (.inr (.inr (.inl ⟨by have:=w d b i;omega,rfl⟩))) _ _ (h.d d b i c v a)
def CS{W' a:R3}{b:Nat}(h:W'.heap[b]? =a.heap[b]?):mw W' a b:=fun d c _=>h.trans c
def La{W' w':R3}{b:Nat}(h:Un W' w'):mw w' W' b:=fun e d c=>h.out d fun a=>(dR (aa.of RY)).Pj (a▸c)
def JP (b:R3)(base:Nat)(a:R2)(ah:List Int):Prop:=(ah.length=0∧∃ c,a= .slice c 0 0)∨(0<ah.length∧b.ownsRow base 3 1 a ah.length (aW ah))
def Oq (b:R3)(base:Nat)(a:R2)(rs:List bZ):Prop:=(rs.length=0∧∃ c,a= .slice c 0 0)∨(0<rs.length∧b.ownsRow base 61 7 a rs.length (dy rs))
def JP.below{a W':R3}{base:Nat}{b:R2}{ah:List Int}(h:JP a base b ah)(c:Below a.heap.size a W'):JP W' base b ah:=h.imp (fun h=>h) fun h=>⟨h.1,aM h.2 c⟩
theorem JP.at_{a:R3}{base:Nat}{d:R2}{ah:List Int}(h:JP a base d ah):∃ co cb cap,d= .slice co ah.length cap∧(0<ah.length→co=RX ⟨cb,0,RZ⟩∧base≤cb∧cb<a.heap.size)∧∀ j,j<ah.length→a.cell? ⟨cb,0+j,RZ⟩=RX (.int .i64 (ah.getD j 0)):=by
 rcases h with⟨b,co,rfl⟩|⟨b,h⟩
 ·exact⟨co,0,0,by rw[b],fun h=>absurd h (by omega),fun j c=>absurd c (by omega)⟩
 ·obtain⟨e,cap,rfl,f,g,i⟩:=kZ h b;refine⟨_,e,cap,rfl,fun _=>⟨rfl,f,g⟩,fun j c=>?_⟩;rw[SZ];refine i j _ ?_;simp[aW,Sj,Sk c]
theorem Oq.at_{c:R3}{base:Nat}{e:R2}{rs:List bZ}(h:Oq c base e rs):∃ ro rb cap,e= .slice ro rs.length cap∧(0<rs.length→base≤rb∧rb<c.heap.size)∧cM c ro rb 0 rs:=by
 rcases h with⟨b,ro,rfl⟩|⟨b,h⟩
 ·refine⟨ro,0,0,by rw[b],fun h=>absurd h (by omega),?_⟩;have f:rs=[]:=TA b;subst f;exact⟨fun h=>absurd h (by simp),fun h=>absurd h (by simp),fun a h=>absurd h (by simp),fun a h=>absurd h (by simp),fun a h=>absurd h (by simp),fun a h=>absurd h (by simp),fun a h=>absurd h (by simp),fun a h=>absurd h (by simp),fun a h=>absurd h (by simp)⟩
 ·obtain⟨g,cap,rfl,i,d,j⟩:=kZ h b;exact⟨_,g,cap,rfl,fun _=>⟨i,d⟩,cM.C4 d fun l v k=>by rw[SZ];exact j l v k⟩
def Cg:R2→Nat
 | .slice (RX a) _ _=>a.block
 |_=>0
def OA:R2→Nat
 | .slice _ _ a=>a
 |_=>0
theorem OC{g:R3}{base:Nat}{l:List (bG×Int)}{bs:List Bd}{L:List (Bd×R2)}{a b c I Q:R2}{ah:List Int}{rs:List bZ}(N:sF l bs)(hL:L.map SB=bs)(h:cq g base l L a b c)(hc:JP g base I ah)(ab:Oq g base Q rs):
 ∃ (z ck u ce:Nat) (q:Option SL) (k cG:Nat) (ct mE:Nat→Nat) (co:Option SL) (cb aD:Nat) (ro:Option SL) (rb aF:Nat),a= .slice (RX ⟨z,0,RZ⟩) l.length ck∧b= .slice (RX ⟨u,0,RZ⟩) l.length ce∧c= .slice q bs.length cG∧I= .slice co ah.length aD∧Q= .slice ro rs.length aF∧FM g l bs ah rs z u q k ct mE co cb 0 ro rb 0∧∀ x,yC z u k ct cb rb bs.length ah.length rs.length x→base≤x∧x<g.heap.size:=by
 have E:0<l.length:=by
  have:=N.pl.1.1;simp at this;omega
 have D:L.length=bs.length:=by rw[← hL,SV]
 obtain⟨z,ck,rfl,al,P,am⟩:=kZ h.ah E;obtain⟨u,ce,rfl,V,J,W⟩:=kZ h.mR E;obtain⟨co,cb,aD,rfl,A,S⟩:=hc.at_;obtain⟨ro,rb,aF,rfl,aw,a0⟩:=ab.at_;have X:∃ q k cG,c= .slice q bs.length cG∧(0<bs.length→q=RX ⟨k,0,RZ⟩∧base≤k∧k<g.heap.size)∧∀ n i,(mQ L)[n]? =RX i→g.cell? ⟨k,n,RZ⟩=RX i:=by
  rcases Ux L.length with e|e
  ·obtain⟨R,o,C⟩:=dz h.bP.own;have U:L=[]:=TA e;refine⟨R,0,o,by rw[← D];exact C,fun h=>absurd h (by omega),fun n i O=>?_⟩;rw[U] at O;simp[mQ] at O
  ·obtain⟨m,o,C,t,B,T⟩:=kZ h.bP.own e;exact⟨_,m,o,by rw[← D];exact C,fun _=>⟨rfl,t,B⟩,T⟩
 obtain⟨q,k,cG,rfl,t,B⟩:=X;have M:∀ d b,bs[d]? =RX b→∃ (f:d<L.length),L[d].1=b∧∃ m o,L[d].2= .slice (RX ⟨m,0,RZ⟩) l.length o∧base≤m∧m<g.heap.size∧∀ n i,(dw b.chunks)[n]? =RX i→g.cell? ⟨m,n,RZ⟩=RX i:=fun d b j=>by
  have f:d<L.length:=by rw[D];exact(SA.1 j).1
  have K:L[d].1=b:=by
   have:(L.map SB)[d]? =RX b:=by rw[hL];exact j
   rw[List.getElem?_map,Sk f] at this;simpa using this
  have Z:b.chunks.length=l.length:=by
   have:=(N.bP b (TD j)).len;simpa using this
  have:=h.bP.each L[d] (Sl f);rw[K,Z] at this;obtain⟨m,o,s,F,G,H⟩:=kZ this E;exact⟨f,K,m,o,s,F,G,H⟩
 have w:∀ d b,bs[d]? =RX b→(L.getD d (⟨0,[]⟩,.bool R6)).2= .slice (RX ⟨Cg (L.getD d (⟨0,[]⟩,.bool R6)).2,0,RZ⟩) l.length (OA (L.getD d (⟨0,[]⟩,.bool R6)).2)∧base≤Cg (L.getD d (⟨0,[]⟩,.bool R6)).2∧Cg (L.getD d (⟨0,[]⟩,.bool R6)).2<g.heap.size∧∀ n i,(dw b.chunks)[n]? =RX i→g.cell? ⟨Cg (L.getD d (⟨0,[]⟩,.bool R6)).2,n,RZ⟩=RX i:=fun d b j=>by
  obtain⟨f,_,m,o,s,F,G,H⟩:=M d b j;have:L.getD d (⟨0,[]⟩,.bool R6)=L[d]:=by rw[Sj,Sk f];rfl
  rw[this,s];exact⟨rfl,F,G,H⟩
 refine⟨z,ck,u,ce,q,k,cG,fun d=>Cg (L.getD d (⟨0,[]⟩,.bool R6)).2,fun d=>OA (L.getD d (⟨0,[]⟩,.bool R6)).2,co,cb,aD,ro,rb,aF,rfl,rfl,rfl,rfl,rfl,⟨fun r x p=>?_,fun r x p=>?_,fun d b j=>?_,fun d b j r x p a1 i ad=>?_,P,J,fun e=>(t e).1,fun e=>(t e).2.2,fun d f=>(w d _ (Sk f)).2.2.1,fun e=>(A e).1,fun e=>(A e).2.2,S,a0⟩,fun x ae=>?_⟩
 ·obtain⟨y,rfl⟩:=SA.1 p;rw[SZ];have:=(zL (l.map SB) r (by simpa using y)).2;simp only[Vq] at this;exact am _ _ this
 ·obtain⟨y,rfl⟩:=SA.1 p;rw[SZ,VO];exact W _ _ (by simp[aW,Sk y])
 ·obtain⟨f,ao,-⟩:=M d b j;have s:=(w d b j).1;have ar:L.getD d (⟨0,[]⟩,.bool R6)=L[d]:=by rw[Sj,Sk f];rfl
  intro r v p;have Y:(kW L[d])[r]? =RX v:=by
   unfold kW;rw[ao];rw[ar] at s p;rw[s];exact p
  have:=B _ _ (kY kW 2 pJ L d f r v Y);rw[SZ];exact this
 ·obtain⟨y,rfl⟩:=SA.1 p;exact(w d b j).2.2.2 _ _ (kY cE 8 tE b.chunks r y a1 i ad)
 ·rcases ae with rfl|rfl|⟨e,rfl⟩|⟨d,f,rfl⟩|⟨e,rfl⟩|⟨e,rfl⟩
  ·exact⟨al,P⟩
  ·exact⟨V,J⟩
  ·exact(t e).2
  ·exact⟨(w d _ (Sk f)).2.1,(w d _ (Sk f)).2.2.1⟩
  ·exact(A e).2
  ·exact aw e
end Cc
namespace Cc
open Go Go.Conc
open Go.RowKit (Below)
open Ec
open Pk (aW)
abbrev AE:=Option (List (bG×Int)×List Bd)
def kI (s:ByteArray):AE→Prop
 |none=>∀ b a,¬ eP s b a
 |some (b,a)=>eP s b a∧∀ d c,eP s d c→d=b∧c=a
def sR (n:Nat)(ah:List Int)(rs:List bZ):Bool:=ah.all (b7 n) && rs.all fun a=>b7 n a.col
def gD (l:List (bG×Int))(k:Int):Int:=(l.getD k.toNat (⟨⟨#[]⟩,0⟩,0)).1.kind
def Dm (l:List (bG×Int))(rs:List bZ):Bool:=rs.all fun a=>jl (gD l a.col) a
def gh (F:AE)(ah:List Int)(rs:List bZ):Nat:=match F with
 |none=>3
 |some (a,_)=>if sR a.length ah rs then(if Dm a rs then 0 else 5) else 4
def n5{n:Nat}{k:Int}:b7 n k=R7↔0≤k∧k<(n:Int):=by
 unfold b7;simp
def rG{n:Nat}{ah:List Int}{rs:List bZ}:sR n ah rs=R7↔(∀ k∈ah,0≤k∧k<(n:Int))∧∀ r∈rs,0≤r.col∧r.col<(n:Int):=by
 unfold sR;rw[Sz,SC,SC];simp only[n5]
def zD{F:AE}{ah:List Int}{rs:List bZ}(h:gh F ah rs=0):∃ l bs,F=RX (l,bs)∧sR l.length ah rs=R7∧Dm l rs=R7:=by
 cases F with
 |none=>simp[gh] at h
 |some c=>
  obtain⟨l,bs⟩:=c;simp only[gh] at h
  split at h
  ·rename_i a
   split at h
   ·rename_i b;exact⟨l,bs,rfl,a,b⟩
   ·cases h
  ·cases h
def vH{l:List (bG×Int)}(h:mr l){k:Int}(e:b7 l.length k=R7):gD l k=1∨gD l k=2∨gD l k=3:=by
 obtain⟨d,f⟩:=n5.1 e;obtain⟨b,rfl⟩:=Int.eq_ofNat_of_zero_le d;have a:b<l.length:=by omega
 have c:=(h.1.2.2 b (by simpa using a)).1;simp only[Vq,ot,fI,Sz,decide_eq_true_eq] at c;unfold gD;rw[Sj];simp[a];omega
def xp{v:az}{k:Int}(b:k=1∨k=2∨k=3)(h:eU v k=R7):v.s.size≤32:=by
 have a:∀ s:ByteArray,(s.toList == [])=R7→s.size≤32:=fun s h=>by
  have:s.toList=[]:=by simpa using h
  rw[jR this];decide
 unfold eU at h
 split at h
 ·rw[Sz] at h;exact a _ h.2
 ·split at h
  ·exact a _ h
  ·split at h
   ·rw[Sz] at h;exact a _ h.2
   ·rw[Sz,decide_eq_true_eq] at h;have:=h.2;omega
end Cc
namespace Ec
open Go.RowKit Pk Pm
open Cc (JP Oq AE kI sR gD Dm gh n5 rG vH xp kZ)
def vi (w:R3)(g:Nat)(a b c d e f:R2):R3:=(((((w.setCell ⟨g,0,RZ⟩ a).setCell ⟨g,1,RZ⟩ b).setCell ⟨g,2,RZ⟩ c).setCell ⟨g,3,RZ⟩ d).setCell ⟨g,4,RZ⟩ e).setCell ⟨g,5,RZ⟩ f
def vN{w:R3}{g:Nat}{a b c d e f:R2}{t:Sg}(i j k l m n:R2)(h:w.heap[g]? =RX (.cells #[a,b,c,d,e,f] t (0,0))):(vi w g i j k l m n).heap[g]? =RX (.cells #[i,j,k,l,m,n] t (0,0)):=by
 have o:=Sq w g 0 _ _ i h;have p:=Sq _ g 1 _ _ j o;have q:=Sq _ g 2 _ _ k p;have r:=Sq _ g 3 _ _ l q;have s:=Sq _ g 4 _ _ m r;exact Sq _ g 5 _ _ n s
def nK{w w0:R3}{g n:Nat}(c d e f i j:R2)(h:Si n w0 w)(b:n≤w0.heap.size)(a:n≤g):Si n w0 (vi w g c d e f i j):=
 b5 (b5 (b5 (b5 (b5 (b5 h b a _ _) b a _ _) b a _ _) b a _ _) b a _ _) b a _ _
def pg{h:R3}{g:Nat}{a b c d e f:R2}{t:Sg}(i:h.heap[g]? =RX (.cells #[a,b,c,d,e,f] t (0,0))):h.frozen? ⟨g,0,RZ⟩=R6∧h.frozen? ⟨g,1,RZ⟩=R6∧h.frozen? ⟨g,2,RZ⟩=R6∧h.frozen? ⟨g,3,RZ⟩=R6∧h.frozen? ⟨g,4,RZ⟩=R6∧h.frozen? ⟨g,5,RZ⟩=R6:=by
 unfold S4;simp[i]
theorem wY(n:Nat)(ah:List Int)(rs:List bZ)(d:Option SL)(a:Nat)(b c:R2)(co:Option SL)(cb aV aD:Nat)(ro:Option SL)(rb bh aF:Nat)(sk:Bool)(w:R3)(l:ah.length≤Sw)(m:rs.length≤Sw)
 (h:0<ah.length→co=RX ⟨cb,aV,RZ⟩) (k:0<ah.length→cb<w.heap.size) (i:∀ j,j<ah.length→w.cell? ⟨cb,aV+j,RZ⟩=RX (.int .i64 (ah.getD j 0))) (o:cM w ro rb bh rs):
 SF (aa.of RY) 68 #[.agg #[.slice d n a,b,c,.slice co ah.length aD,.slice ro rs.length aF,.bool sk]] w fun e w'=>e= .returned (.bool (sR n ah rs))∧Si w.heap.size w w':=by
 refine(wX n ah rs d a b c co cb aV aD ro rb bh aF sk w l m h k i o).mono ?_;rintro e w' ⟨p,rfl,f,g⟩;refine⟨kw ?_,g⟩;rw[Bool.eq_iff_iff,f];unfold sR;rw[Sz,SC,SC,List.forall_mem_iff_forall_getElem,List.forall_mem_iff_forall_getElem]
theorem zg(l:List (bG×Int))(rs:List bZ)(f h:Nat)(b c d:R2)(ro:Option SL)(rb bh aF:Nat)(sk:Bool)(w:R3)(u:rs.length≤Sw)(k:mr l)(a:cM w ro rb bh rs)(m:∀ r∈rs,b7 l.length r.col=R7)(s:f<w.heap.size)(q:∀ j x,l[j]? =RX x→w.cell? ⟨f,j*2+1,RZ⟩=RX (.int .i64 x.1.kind)):
 SF (aa.of RY) 69 #[.agg #[.slice (RX ⟨f,0,RZ⟩) l.length h,b,c,d,.slice ro rs.length aF,.bool sk]] w fun e w'=>e= .returned (.bool (Dm l rs))∧Si w.heap.size w w':=by
 have t:l.length≤Sw:=by have:=k.each.2;unfold Sw;omega
 refine(zf l.length rs (gD l) f h b c d ro rb bh aF sk w u t a fun r a=>?_).mono ?_
 ·obtain⟨o,y⟩:=n5.1 (m r a);obtain⟨j,i⟩:=Int.eq_ofNat_of_zero_le o;have g:j<l.length:=by omega
  refine⟨j,i,g,s,?_,vH k (m r a)⟩;have:=q j _ (Sk g);rw[this];unfold gD;rw[i,Sj];simp[g]
 ·rintro e w' ⟨v,rfl,n,p⟩;refine⟨kw ?_,p⟩;rw[Bool.eq_iff_iff,n];unfold Dm;rw[SC,List.forall_mem_iff_forall_getElem]
theorem cM.cells{w:R3}{f:Option SL}{b off:Nat}{l:List bZ}(h:cM w f b off l):∀ j u,(dy l)[j]? =RX u→w.cell? ⟨b,off+j,RZ⟩=RX u:=by
 intro j u e;have o:j<l.length*7:=by rw[← qE];exact(SA.1 e).1
 have c:j / 7<l.length:=by omega
 have g:j=j / 7*7+j % 7:=by omega
 have p:j % 7<7:=Nat.mod_lt _ (by decide);have n:(dy l)[j / 7*7+j % 7]? =RX u:=by rw[← g];exact e
 have d:∀ a v,j % 7=a→(q8 l[j / 7])[a]? =RX v→u=v:=fun a v k m=>by
  have:=ni l (j / 7) c a v m;rw[← k,n] at this;exact VT this
 have i:off+j=off+j / 7*7+j % 7:=by omega
 rw[i];generalize j % 7=a at*;have:a=0∨a=1∨a=2∨a=3∨a=4∨a=5∨a=6:=by omega
 rcases this with rfl|rfl|rfl|rfl|rfl|rfl|rfl
 ·rw[d 0 _ rfl rfl];exact h.c0 _ c
 ·rw[d 1 _ rfl rfl];exact h.c1 _ c
 ·rw[d 2 _ rfl rfl];exact h.c2 _ c
 ·rw[d 3 _ rfl rfl];exact h.c3 _ c
 ·rw[d 4 _ rfl rfl];exact h.c4 _ c
 ·rw[d 5 _ rfl rfl];exact h.c5 _ c
 ·rw[d 6 _ rfl rfl];exact h.c6 _ c
structure Cb(W:R3)(base:Nat)(l:List (bG×Int))(L:List (Bd×R2))(a b c cv rv:R2)(ah:List Int)(rs:List bZ):Prop where
 f:cq W base l L a b c
 c:JP W base cv ah
 r:Oq W base rv rs
theorem Cb.put{d:R3}{base:Nat}{l:List (bG×Int)}{L:List (Bd×R2)}{a b c f i:R2}{ah:List Int}{rs:List bZ}(h:Cb d base l L a b c f i ah rs){g:Nat}{cs:Array R2}(e:d.heap[g]? =RX (.cells cs 115 (0,0)))(o:Nat)(u:R2):Cb (d.setCell ⟨g,o,RZ⟩ u) base l L a b c f i ah rs:=by
 refine⟨⟨h.f.ah.kept (aG d g o u) (.inr (bk h.f.ah e (by decide)).symm),h.f.mR.kept (aG d g o u) (.inr (bk h.f.mR e (by decide)).symm),h.f.bP.put e (by decide) (by decide) o u⟩,h.c.imp (fun h=>h) fun h=>⟨h.1,h.2.kept (aG d g o u) (.inr (bk h.2 e (by decide)).symm)⟩,h.r.imp (fun h=>h) fun h=>⟨h.1,h.2.kept (aG d g o u) (.inr (bk h.2 e (by decide)).symm)⟩⟩
theorem Cb.vi{d:R3}{base:Nat}{l:List (bG×Int)}{L:List (Bd×R2)}{a b c e n:R2}{ah:List Int}{rs:List bZ}(h:Cb d base l L a b c e n ah rs){g:Nat}{u v w x y z:R2}(o p q r s A:R2)(m:d.heap[g]? =RX (.cells #[u,v,w,x,y,z] 115 (0,0))):Cb (vi d g o p q r s A) base l L a b c e n ah rs:=by
 have f:=Sq d g 0 _ _ o m;have i:=Sq _ g 1 _ _ p f;have j:=Sq _ g 2 _ _ q i;have k:=Sq _ g 3 _ _ r j;have t:=Sq _ g 4 _ _ s k;exact(((((h.put m _ _).put f _ _).put i _ _).put j _ _).put k _ _).put t _ _
def Q6 (w:R3)(F:AE)(ah:List Int)(rs:List bZ)(sk:Bool)(e:UQ)(w':R3):Prop:=
 Si w.heap.size w w'∧((gh F ah rs≠0∧e= .returned (.tuple #[.agg #[.slice RZ 0 0,.slice RZ 0 0,.slice RZ 0 0,.slice RZ 0 0,.slice RZ 0 0,.bool R6],.int .i64 (gh F ah rs:Int)]))∨
  (∃ (h:List (bG×Int)) (d:List Bd) (a:List (Bd×R2)) (b c f g i:R2),F=RX (h,d)∧gh F ah rs=0∧e= .returned (.tuple #[.agg #[b,c,f,g,i,.bool sk],.int .i64 0])∧a.map SB=d∧cq w' w.heap.size h a b c f∧JP w' w.heap.size g ah∧Oq w' w.heap.size i rs))
theorem MP(s:ByteArray)(F:AE)(ah:List Int)(rs:List bZ)(co:Option SL)(cb aV aD:Nat)(ro:Option SL)(rb bh aF:Nat)(sk:Bool)(w:R3)(e7:s.size≤Sw)(hF:kI s F)(ec:ah.length≤1000)(em:rs.length≤1000)
 (d8:0<ah.length→co=RX ⟨cb,aV,RZ⟩) (eb:0<ah.length→cb<w.heap.size) (d9:∀ j,j<ah.length→w.cell? ⟨cb,aV+j,RZ⟩=RX (.int .i64 (ah.getD j 0))) (ab:cM w ro rb bh rs):
 SF (aa.of RY) 48 #[.string s,.slice co ah.length aD,.slice ro rs.length aF,.bool sk] w (Q6 w F ah rs sk):=by
 have c8:Sb (0<ah.length→co=RX ⟨cb,aV,RZ⟩):=d8;have a7:Sb (0<ah.length→cb<w.heap.size):=eb;have c9:Sb (∀ j,j<ah.length→w.cell? ⟨cb,aV+j,RZ⟩=RX (.int .i64 (ah.getD j 0))):=d9;have dr:Sb (cM w ro rb bh rs):=ab;have ad:Sb (kI s F):=hF;have dc:Sb (ah.length≤1000):=ec;have bt:Sb (rs.length≤1000):=em;have W:Sb ((w.alloc (.cells #[.slice RZ 0 0,.slice RZ 0 0,.slice RZ 0 0,.slice RZ 0 0,.slice RZ 0 0,.bool R6] 115)).heap[w.heap.size]? =RX (.cells #[.slice RZ 0 0,.slice RZ 0 0,.slice RZ 0 0,.slice RZ 0 0,.slice RZ 0 0,.bool R6] 115 (0,0))):=bw w _;have a6:Sb (Si w.heap.size w (w.alloc (.cells #[.slice RZ 0 0,.slice RZ 0 0,.slice RZ 0 0,.slice RZ 0 0,.slice RZ 0 0,.bool R6] 115))):=(So _ _).alloc (R8 _) _;clear d8 eb d9 ab hF ec em;go_enter aa.func48,Tryz.ntmps48
 go_wp2_with fail
 refine(tF s _ e7).mono ?_;rintro y k ⟨L,⟨a,bb,b,fu,fv,fx,rfl,ar,d3,am,fa⟩|⟨rfl,el⟩⟩;rotate_left
 ·have d1:gh F ah rs=3:=by
   cases F with
   |none=>rfl
   |some fd=>exact(el _ _ ad.out.1).elim
  have Z:=Sf W.out;have be:(k.alloc (.cells #[.slice RZ 0 0,.slice RZ 0 0,.slice RZ 0 0] 105)).heap[w.heap.size]? =RX (.cells #[.slice RZ 0 0,.slice RZ 0 0,.slice RZ 0 0,.slice RZ 0 0,.slice RZ 0 0,.bool R6] 115 (0,0)):=by rw[SP _ _ _ (Sa Z L.size)];exact(L.block _ Z).trans W.out
  have K:Si w.heap.size w k:=a6.out.trans (L.mono (by simp));have dT:Si w.heap.size w (k.alloc (.cells #[.slice RZ 0 0,.slice RZ 0 0,.slice RZ 0 0] 105)):=K.alloc K.size _;have x:Sb (gh F ah rs=3):=d1;clear d1 Z el L W a6 ad K
  go_upto_region 3 with fail
  generalize k.alloc (.cells #[.slice RZ 0 0,.slice RZ 0 0,.slice RZ 0 0] 105)=e2 at*;have u:Sb (Si w.heap.size w (vi e2 w.heap.size (.slice RZ 0 0) (.slice RZ 0 0) (.slice RZ 0 0) (.slice RZ 0 0) (.slice RZ 0 0) (.bool R6))):=nK _ _ _ _ _ _ dT (R8 _) (R8 _);obtain⟨cu,cv,cx,cR,c0,c1⟩:=iM be;obtain⟨bx,bA,bB,b0,b1,b2⟩:=pg be;obtain⟨N,O,P,Q,R,S⟩:=iM (vN (.slice RZ 0 0) (.slice RZ 0 0) (.slice RZ 0 0) (.slice RZ 0 0) (.slice RZ 0 0) (.bool R6) be);clear be dT;unfold vi at*;go_wp2;simp[TT,SX,Tryz.results48,go_sem,N,O,P,Q,R,S];exact⟨u.out,.inl ⟨by rw[x.out];decide,by rw[x.out];rfl⟩⟩
 ·have d2:F=RX (a,bb):=by
   cases F with
   |none=>exact(ad.out _ _ ar).elim
   |some fd=>
    obtain⟨e3,e4⟩:=ad.out.2 _ _ ar;rw[e3,e4]
  have a8:Sb (F=RX (a,bb)):=d2;have e0:Sb (b.map SB=bb):=d3;have e8:0<a.length:=by
   have:=ar.1.pl.1.1;simp at this;omega
  have bo:Sb (mr a):=ar.1.pl;obtain⟨c,f,rfl,fb,cp,en⟩:=kZ am.ah e8;obtain⟨e,d,rfl⟩:=dz am.mR;obtain⟨g,h,rfl⟩:=dz am.bP.own;have Z:=Sf W.out;have K:Si w.heap.size w k:=a6.out.trans (L.mono (by simp));have b4:k.heap[w.heap.size]? =RX (.cells #[.slice RZ 0 0,.slice RZ 0 0,.slice RZ 0 0,.slice RZ 0 0,.slice RZ 0 0,.bool R6] 115 (0,0)):=(L.block _ Z).trans W.out;have eh:w.heap.size<k.heap.size:=Sf b4;have X:Si k.heap.size k ((k.alloc (.cells #[.slice (RX ⟨c,0,RZ⟩) a.length f,.slice e a.length d,.slice g b.length h] 105)).alloc (.cells #[.slice (RX ⟨c,0,RZ⟩) a.length f,.slice e a.length d,.slice g b.length h,.slice co ah.length aD,.slice ro rs.length aF,.bool sk] 115)):=((So _ _).alloc (R8 _) _).alloc (by simp) _;have a9:Sb (((k.alloc (.cells #[.slice (RX ⟨c,0,RZ⟩) a.length f,.slice e a.length d,.slice g b.length h] 105)).alloc (.cells #[.slice (RX ⟨c,0,RZ⟩) a.length f,.slice e a.length d,.slice g b.length h,.slice co ah.length aD,.slice ro rs.length aF,.bool sk] 115)).heap[k.heap.size+1]? =RX (.cells #[.slice (RX ⟨c,0,RZ⟩) a.length f,.slice e a.length d,.slice g b.length h,.slice co ah.length aD,.slice ro rs.length aF,.bool sk] 115 (0,0))):=jA _ _ _;have ae:Sb (((k.alloc (.cells #[.slice (RX ⟨c,0,RZ⟩) a.length f,.slice e a.length d,.slice g b.length h] 105)).alloc (.cells #[.slice (RX ⟨c,0,RZ⟩) a.length f,.slice e a.length d,.slice g b.length h,.slice co ah.length aD,.slice ro rs.length aF,.bool sk] 115)).heap[w.heap.size]? =RX (.cells #[.slice RZ 0 0,.slice RZ 0 0,.slice RZ 0 0,.slice RZ 0 0,.slice RZ 0 0,.bool R6] 115 (0,0))):=(X.block _ eh).trans b4;have u:Sb (Si w.heap.size w ((k.alloc (.cells #[.slice (RX ⟨c,0,RZ⟩) a.length f,.slice e a.length d,.slice g b.length h] 105)).alloc (.cells #[.slice (RX ⟨c,0,RZ⟩) a.length f,.slice e a.length d,.slice g b.length h,.slice co ah.length aD,.slice ro rs.length aF,.bool sk] 115))):=K.trans (X.mono K.size);have dd:Sb (cq ((k.alloc (.cells #[.slice (RX ⟨c,0,RZ⟩) a.length f,.slice e a.length d,.slice g b.length h] 105)).alloc (.cells #[.slice (RX ⟨c,0,RZ⟩) a.length f,.slice e a.length d,.slice g b.length h,.slice co ah.length aD,.slice ro rs.length aF,.bool sk] 115)) w.heap.size a b (.slice (RX ⟨c,0,RZ⟩) a.length f) (.slice e a.length d) (.slice g b.length h)):=(am.base (by simp)).below X;have ef:c<((k.alloc (.cells #[.slice (RX ⟨c,0,RZ⟩) a.length f,.slice e a.length d,.slice g b.length h] 105)).alloc (.cells #[.slice (RX ⟨c,0,RZ⟩) a.length f,.slice e a.length d,.slice g b.length h,.slice co ah.length aD,.slice ro rs.length aF,.bool sk] 115)).heap.size:=Sa cp X.size;have dl:Sb (∀ j H,a[j]? =RX H→((k.alloc (.cells #[.slice (RX ⟨c,0,RZ⟩) a.length f,.slice e a.length d,.slice g b.length h] 105)).alloc (.cells #[.slice (RX ⟨c,0,RZ⟩) a.length f,.slice e a.length d,.slice g b.length h,.slice co ah.length aD,.slice ro rs.length aF,.bool sk] 115)).cell? ⟨c,j*2+1,RZ⟩=RX (.int .i64 H.1.kind)):=fun j H t=>by
   obtain⟨ci,rfl⟩:=SA.1 t;have:=(zL (a.map SB) j (by simpa using ci)).2;simp only[Vq] at this;exact(X.cell (p:=⟨c,j*2+1,RZ⟩) cp).trans (en _ _ this)
  have df:Sb (w.heap.size≠k.heap.size+1):=by show _≠_;omega
  have dk:Sb (w.heap.size≤k.heap.size+1):=by show _≤_;omega
  clear am ar fa d3 d2 L W a6 ad K b4 Z fb cp en X eh
  go_upto_region 5 with fail
  generalize (k.alloc (.cells #[.slice (RX ⟨c,0,RZ⟩) a.length f,.slice e a.length d,.slice g b.length h] 105)).alloc (.cells #[.slice (RX ⟨c,0,RZ⟩) a.length f,.slice e a.length d,.slice g b.length h,.slice co ah.length aD,.slice ro rs.length aF,.bool sk] 115)=I at*;generalize k.heap.size+1=n at*;have cd:=u.out.size;have ce:∀ j,j<ah.length→I.cell? ⟨cb,aV+j,RZ⟩=RX (.int .i64 (ah.getD j 0)):=fun j t=>(u.out.cell (p:=⟨cb,aV+j,RZ⟩) (a7.out (by omega))).trans (c9.out j t);have cl:cM I ro rb bh rs:=dr.out.below u.out;have T:=wY a.length ah rs (RX ⟨c,0,RZ⟩) f (.slice e a.length d) (.slice g b.length h) co cb aV aD ro rb bh aF sk I (by have:=dc.out;unfold Sw;omega) (by have:=bt.out;unfold Sw;omega) c8.out (fun m=>Sa (a7.out m) cd) ce cl;have da:Sb (∀ j,j<ah.length→I.cell? ⟨cb,aV+j,RZ⟩=RX (.int .i64 (ah.getD j 0))):=ce;have ds:Sb (cM I ro rb bh rs):=cl;have bl:Sb (0<ah.length→cb<I.heap.size):=fun m=>Sa (a7.out m) cd;obtain⟨aw,a0,a1,a2,a3,a4⟩:=iM a9.out;have bm:Sb (c<I.heap.size):=ef;clear ce cl c9 dr a7 ef cd;cases Y:sR a.length ah rs
  ·rw[Y] at T;have x:Sb (gh F ah rs=4):=by
    show _=_;rw[a8.out];simp[gh,Y]
   clear Y
   go_upto_region 6 with(go_at_call 68;refine T.mono ?_;rintro y o ⟨rfl,i⟩;have D:o.heap[w.heap.size]? =RX (.cells #[.slice RZ 0 0,.slice RZ 0 0,.slice RZ 0 0,.slice RZ 0 0,.slice RZ 0 0,.bool R6] 115 (0,0)):=(i.block _ (Sf ae.out)).trans ae.out;have E:Sb (Si w.heap.size w o):=u.out.trans (i.mono u.out.size);clear i T)
   have C:Sb (Si w.heap.size w (vi o w.heap.size (.slice RZ 0 0) (.slice RZ 0 0) (.slice RZ 0 0) (.slice RZ 0 0) (.slice RZ 0 0) (.bool R6))):=nK _ _ _ _ _ _ E.out (R8 _) (R8 _);obtain⟨cu,cv,cx,cR,c0,c1⟩:=iM D;obtain⟨bx,bA,bB,b0,b1,b2⟩:=pg D;obtain⟨N,O,P,Q,R,S⟩:=iM (vN (.slice RZ 0 0) (.slice RZ 0 0) (.slice RZ 0 0) (.slice RZ 0 0) (.slice RZ 0 0) (.bool R6) D);clear D aw a0 a1 a2 a3 a4 E;unfold vi at*;go_wp2;simp[TT,SX,Tryz.results48,go_sem,N,O,P,Q,R,S];exact⟨C.out,.inl ⟨by rw[x.out];decide,by rw[x.out];rfl⟩⟩
  ·rw[Y] at T;have bj:Sb (sR a.length ah rs=R7):=Y;clear Y
   go_upto_region 7 with(go_at_call 68;refine T.mono ?_;rintro y o ⟨rfl,i⟩;have ba:Sb (o.heap[w.heap.size]? =RX (.cells #[.slice RZ 0 0,.slice RZ 0 0,.slice RZ 0 0,.slice RZ 0 0,.slice RZ 0 0,.bool R6] 115 (0,0))):=(i.block _ (Sf ae.out)).trans ae.out;have br:Sb (o.heap[n]? =RX (.cells #[.slice (RX ⟨c,0,RZ⟩) a.length f,.slice e a.length d,.slice g b.length h,.slice co ah.length aD,.slice ro rs.length aF,.bool sk] 115 (0,0))):=(i.block _ (Sf a9.out)).trans a9.out;have E:Sb (Si w.heap.size w o):=u.out.trans (i.mono u.out.size);have et:Sb (cq o w.heap.size a b (.slice (RX ⟨c,0,RZ⟩) a.length f) (.slice e a.length d) (.slice g b.length h)):=dd.out.below i;have eq:Sb (∀ j,j<ah.length→o.cell? ⟨cb,aV+j,RZ⟩=RX (.int .i64 (ah.getD j 0))):=fun j t=>(i.cell (p:=⟨cb,aV+j,RZ⟩) (bl.out (by omega))).trans (da.out j t);have dt:Sb (cM o ro rb bh rs):=ds.out.below i;have es:Sb (0<ah.length→cb<o.heap.size):=fun m=>Sa (bl.out m) i.size;have dp:Sb (c<o.heap.size∧∀ j H,a[j]? =RX H→o.cell? ⟨c,j*2+1,RZ⟩=RX (.int .i64 H.1.kind)):=⟨Sa bm.out i.size,fun j H t=>(i.cell (p:=⟨c,j*2+1,RZ⟩) bm.out).trans (dl.out j H t)⟩;clear i T)
   clear ae a9 u dd da ds bl bm dl aw a0 a1 a2 a3 a4;obtain⟨aw,a0,a1,a2,a3,a4⟩:=iM br.out;have cn:∀ z∈rs,b7 a.length z.col=R7:=by
    have:=bj.out;unfold sR at this;rw[Sz,SC,SC] at this;exact this.2
   have U:=zg a rs c f (.slice e a.length d) (.slice g b.length h) (.slice co ah.length aD) ro rb bh aF sk o (by have:=bt.out;unfold Sw;omega) bo.out dt.out cn dp.out.1 dp.out.2;have dv:Sb (∀ z∈rs,b7 a.length z.col=R7):=cn;clear cn;cases G:Dm a rs
   ·rw[G] at U;have x:Sb (gh F ah rs=5):=by
     show _=_;rw[a8.out];simp[gh,G,bj.out]
    clear G
    go_upto_region 8 with(go_at_call 69;refine U.mono ?_;rintro y l ⟨rfl,i⟩;have D:l.heap[w.heap.size]? =RX (.cells #[.slice RZ 0 0,.slice RZ 0 0,.slice RZ 0 0,.slice RZ 0 0,.slice RZ 0 0,.bool R6] 115 (0,0)):=(i.block _ (Sf ba.out)).trans ba.out;have C:Sb (Si w.heap.size w l):=E.out.trans (i.mono E.out.size);clear i U)
    have V:Sb (Si w.heap.size w (vi l w.heap.size (.slice RZ 0 0) (.slice RZ 0 0) (.slice RZ 0 0) (.slice RZ 0 0) (.slice RZ 0 0) (.bool R6))):=nK _ _ _ _ _ _ C.out (R8 _) (R8 _);obtain⟨cu,cv,cx,cR,c0,c1⟩:=iM D;obtain⟨bx,bA,bB,b0,b1,b2⟩:=pg D;obtain⟨N,O,P,Q,R,S⟩:=iM (vN (.slice RZ 0 0) (.slice RZ 0 0) (.slice RZ 0 0) (.slice RZ 0 0) (.slice RZ 0 0) (.bool R6) D);clear D aw a0 a1 a2 a3 a4 E C;unfold vi at*;go_wp2;simp[TT,SX,Tryz.results48,go_sem,N,O,P,Q,R,S];exact⟨V.out,.inl ⟨by rw[x.out];decide,by rw[x.out];rfl⟩⟩
   ·rw[G] at U;have x:Sb (gh F ah rs=0):=by
     show _=_;rw[a8.out];simp[gh,G,bj.out]
    have e1:Sb (∀ z∈rs,z.low.s.size≤32∧z.high.s.size≤32):=fun z ab=>by
     unfold Dm at G;have bc:=SC.1 G z ab;unfold jl at bc;rw[Sz] at bc;exact⟨xp (vH bo.out (dv.out z ab)) bc.1,xp (vH bo.out (dv.out z ab)) bc.2⟩
    clear G
    go_upto_region 9 with(go_at_call 69;refine U.mono ?_;rintro y l ⟨rfl,i⟩;have dC:Sb (l.heap[w.heap.size]? =RX (.cells #[.slice RZ 0 0,.slice RZ 0 0,.slice RZ 0 0,.slice RZ 0 0,.slice RZ 0 0,.bool R6] 115 (0,0))):=(i.block _ (Sf ba.out)).trans ba.out;have dq:Sb (l.heap[n]? =RX (.cells #[.slice (RX ⟨c,0,RZ⟩) a.length f,.slice e a.length d,.slice g b.length h,.slice co ah.length aD,.slice ro rs.length aF,.bool sk] 115 (0,0))):=(i.block _ (Sf br.out)).trans br.out;have C:Sb (Si w.heap.size w l):=E.out.trans (i.mono E.out.size);have eQ:Sb (cq l w.heap.size a b (.slice (RX ⟨c,0,RZ⟩) a.length f) (.slice e a.length d) (.slice g b.length h)):=et.out.below i;have er:Sb (∀ j,j<ah.length→l.cell? ⟨cb,aV+j,RZ⟩=RX (.int .i64 (ah.getD j 0))):=fun j t=>(i.cell (p:=⟨cb,aV+j,RZ⟩) (es.out (by omega))).trans (eq.out j t);have du:Sb (cM l ro rb bh rs):=dt.out.below i;clear i U)
    have c2:=yV ah co cb aV aD l dc.out c8.out (fun j f1 t=>by
     obtain⟨ci,y⟩:=SA.1 t;have ee:j<ah.length:=by simpa [aW] using ci
     rw[er.out j ee,← y];simp[aW,Sj,ee])
    have c3:=fun dO (e5:Si l.heap.size l dO)=>wG rs ro rb bh aF dO bt.out (fun m=>du.out.addr m) (du.out.below e5).cells e1.out
    go_upto_region 10 with(first|(go_at_call 70;refine c2.mono ?_;rintro y a5 ⟨ca,d6⟩;have e6:∃ bu,y= .returned bu∧JP a5 l.heap.size bu ah:=d6.elim (fun⟨J,bv,M⟩=>⟨_,M,.inl ⟨J,bv,rfl⟩⟩) (fun⟨J,v,M,ck⟩=>⟨v,M,.inr ⟨J,ck⟩⟩);obtain⟨bu,rfl,cf⟩:=e6;obtain⟨q,fz,r,rfl,_⟩:=cf.at_;have db:Sb (JP a5 l.heap.size (.slice q ah.length r) ah):=cf;have V:Sb (Si l.heap.size l a5):=ca;have c4:=c3 a5 ca;clear ca d6 cf c2 c3)|(go_at_call 71;refine c4.mono ?_;rintro y p ⟨cc,d7⟩;have e9:∃ cs,y= .returned cs∧Oq p a5.heap.size cs rs:=d7.elim (fun⟨J,bv,M⟩=>⟨_,M,.inl ⟨J,bv,rfl⟩⟩) (fun⟨J,v,M,ck⟩=>⟨v,M,.inr ⟨J,ck⟩⟩);obtain⟨cs,rfl,ch⟩:=e9;obtain⟨A,f0,B,rfl,_⟩:=ch.at_;have al:Si l.heap.size l p:=V.out.trans (cc.mono V.out.size);have c7:Sb (Si w.heap.size w p):=C.out.trans (al.mono C.out.size);have d5:p.heap[w.heap.size]? =RX (.cells #[.slice RZ 0 0,.slice RZ 0 0,.slice RZ 0 0,.slice RZ 0 0,.slice RZ 0 0,.bool R6] 115 (0,0)):=(al.block _ (Sf dC.out)).trans dC.out;have bd:p.heap[n]? =RX (.cells #[.slice (RX ⟨c,0,RZ⟩) a.length f,.slice e a.length d,.slice g b.length h,.slice co ah.length aD,.slice ro rs.length aF,.bool sk] 115 (0,0)):=(al.block _ (Sf dq.out)).trans dq.out;have c5:Sb (Cb p w.heap.size a b (.slice (RX ⟨c,0,RZ⟩) a.length f) (.slice e a.length d) (.slice g b.length h) (.slice q ah.length r) (.slice A rs.length B) ah rs):=⟨eQ.out.below al,(db.out.below cc).imp (fun m=>m) (fun m=>⟨m.1,bn m.2 C.out.size⟩),ch.imp (fun m=>m) (fun m=>⟨m.1,bn m.2 (Ss C.out.size V.out.size)⟩)⟩;obtain⟨u0,u1,u2,u3,u4,u5⟩:=iM bd;obtain⟨fe,fg,fi,fk,fl,fm⟩:=pg bd;have dE:Sb (p.heap[w.heap.size]? =RX (.cells #[.slice RZ 0 0,.slice RZ 0 0,.slice RZ 0 0,.slice RZ 0 0,.slice RZ 0 0,.bool R6] 115 (0,0))):=d5;have bs:Sb (p.heap[n]? =RX (.cells #[.slice (RX ⟨c,0,RZ⟩) a.length f,.slice e a.length d,.slice g b.length h,.slice co ah.length aD,.slice ro rs.length aF,.bool sk] 115 (0,0))):=bd;clear cc d7 ch c4 al db V d5 bd))
    have b3:=Sq _ n 3 _ _ (.slice q ah.length r) bs.out;have d4:=Sq _ n 4 _ _ (.slice A rs.length B) b3;have ao:((p.setCell ⟨n,3,RZ⟩ (.slice q ah.length r)).setCell ⟨n,4,RZ⟩ (.slice A rs.length B)).heap[w.heap.size]? =RX (.cells #[.slice RZ 0 0,.slice RZ 0 0,.slice RZ 0 0,.slice RZ 0 0,.slice RZ 0 0,.bool R6] 115 (0,0)):=by
     rw[Sv _ _ _ _ df.out,Sv _ _ _ _ df.out];exact dE.out
    have c6:Sb (Cb ((p.setCell ⟨n,3,RZ⟩ (.slice q ah.length r)).setCell ⟨n,4,RZ⟩ (.slice A rs.length B)) w.heap.size a b (.slice (RX ⟨c,0,RZ⟩) a.length f) (.slice e a.length d) (.slice g b.length h) (.slice q ah.length r) (.slice A rs.length B) ah rs):=(c5.out.put bs.out _ _).put b3 _ _;have d0:Si w.heap.size w ((p.setCell ⟨n,3,RZ⟩ (.slice q ah.length r)).setCell ⟨n,4,RZ⟩ (.slice A rs.length B)):=b5 (b5 c7.out (R8 _) dk.out _ _) (R8 _) dk.out _ _;clear u0 u1 u2 u3 u4 u5 fe fg fi fk fl fm c5 c7 dE bs;generalize ((p.setCell ⟨n,3,RZ⟩ (.slice q ah.length r)).setCell ⟨n,4,RZ⟩ (.slice A rs.length B))=ft at*;have bi:Sb _:=c6.out.vi (.slice (RX ⟨c,0,RZ⟩) a.length f) (.slice e a.length d) (.slice g b.length h) (.slice q ah.length r) (.slice A rs.length B) (.bool sk) ao;have eo:Sb _:=nK (.slice (RX ⟨c,0,RZ⟩) a.length f) (.slice e a.length d) (.slice g b.length h) (.slice q ah.length r) (.slice A rs.length B) (.bool sk) d0 (R8 _) (R8 _);obtain⟨N,O,P,Q,R,S⟩:=iM (vN (.slice (RX ⟨c,0,RZ⟩) a.length f) (.slice e a.length d) (.slice g b.length h) (.slice q ah.length r) (.slice A rs.length B) (.bool sk) ao);obtain⟨cu,cv,cx,cR,c0,c1⟩:=iM ao;obtain⟨bx,bA,bB,b0,b1,b2⟩:=pg ao;obtain⟨aw,a0,a1,a2,a3,a4⟩:=iM d4;clear ao b3 d4 c6 d0;unfold vi at*;go_wp2;simp[TT,SX,Tryz.results48,go_sem,N,O,P,Q,R,S];exact⟨eo.out,.inr ⟨a,bb,b,_,_,_,_,_,a8.out,x.out,rfl,e0.out,bi.out.f,bi.out.c,bi.out.r⟩⟩
end Ec
namespace Ec
open Go.RowKit Pk Pm
open Cc (JP Oq AE kI sR gD Dm gh kZ FM OC yC fK iL FM.kept)
def uk (w:R3)(F:AE)(ah:List Int)(rs:List bZ)(sk:Bool)(e:UQ)(w':R3):Prop:=
 Si w.heap.size w w'∧((gh F ah rs≠0∧e= .returned (.tuple #[.pointer RZ,.int .i64 (gh F ah rs:Int)]))∨
  (∃ (c:List (bG×Int)) (a:List Bd) (b f o d n:Nat) (j:Option SL) (k cG:Nat) (ct mE:Nat→Nat) (i:Option SL) (h aD:Nat) (m:Option SL) (l aF:Nat),F=RX (c,a)∧gh F ah rs=0∧e= .returned (.tuple #[.pointer (RX ⟨b,0,RZ⟩),.int .i64 0])∧w.heap.size≤b∧w'.heap[b]? =RX (.cells (iL (fK f c.length o d c.length n j a.length cG i ah.length aD m rs.length aF sk) 0 0) 119 (0,0))∧FM w' c a ah rs f d j k ct mE i h 0 m l 0∧∀ g,yC f d k ct h l a.length ah.length rs.length g→w.heap.size≤g∧g<b))
def wh(F:AE)(ah:List Int)(rs:List bZ):gh F ah rs=0∨gh F ah rs=3∨gh F ah rs=4∨gh F ah rs=5:=by
 unfold gh
 split
 ·simp
 ·split
  ·split<;>simp
  ·simp
theorem oY(s:ByteArray)(F:AE)(ah:List Int)(rs:List bZ)(co:Option SL)(cb aV aD:Nat)(ro:Option SL)(rb bh aF:Nat)(sk:Bool)(w:R3)(P:s.size≤Sw)(hF:kI s F)(M:ah.length≤1000)(S:rs.length≤1000)
 (I:0<ah.length→co=RX ⟨cb,aV,RZ⟩) (L:0<ah.length→cb<w.heap.size) (J:∀ j,j<ah.length→w.cell? ⟨cb,aV+j,RZ⟩=RX (.int .i64 (ah.getD j 0))) (R:cM w ro rb bh rs):
 SF (aa.of RY) 31 #[.string s,.slice co ah.length aD,.slice ro rs.length aF,.bool sk] w (uk w F ah rs sk):=by
 have v:=MP s F ah rs co cb aV aD ro rb bh aF sk w P hF M S I L J R;have q:Sb (kI s F):=hF;clear I L J R hF M S P;go_enter aa.func31,Tryz.ntmps31
 go_wp2_with fail
 refine v.mono ?_;rintro aw c ⟨b,⟨Q,rfl⟩|⟨a,d,ae,al,am,ao,ar,a0,A,D,rfl,H,G,K,N⟩⟩
 ·have Y:=wh F ah rs;have C:Si w.heap.size w (c.alloc (.cells #[.slice RZ 0 0,.slice RZ 0 0,.slice RZ 0 0,.slice RZ 0 0,.slice RZ 0 0,.bool R6] 115)):=b.alloc b.size _;have x:Sb _:=C;have ad:Sb (gh F ah rs≠0):=Q;clear b v C q;have y:Sb (∀ m,gh F ah rs=m→m≠0→∀ z,Si w.heap.size w z→uk w F ah rs sk (.returned (.tuple #[.pointer RZ,.int .i64 (m:Int)])) z):=fun m B W z Z=>⟨Z,.inl ⟨by rw[B];exact W,by rw[B]⟩⟩;generalize gh F ah rs=m at*;have X:m=3∨m=4∨m=5:=by omega
  clear Q Y;rcases X with rfl|rfl|rfl
  ·go_wp2;simp[TT,SX,Tryz.results31,go_sem];exact y.out 3 rfl (by decide) _ x.out
  ·go_wp2;simp[TT,SX,Tryz.results31,go_sem];exact y.out 4 rfl (by decide) _ x.out
  ·go_wp2;simp[TT,SX,Tryz.results31,go_sem];exact y.out 5 rfl (by decide) _ x.out
 ·have O:sF a d:=by
   rw[A] at q;exact q.out.1.1
  obtain⟨l,g,k,f,i,V,cG,ct,mE,h,U,e,o,ab,n,rfl,rfl,rfl,rfl,rfl,E,t⟩:=OC O H G K N;have r:Si c.heap.size c ((c.alloc (.cells #[.slice (RX ⟨l,0,RZ⟩) a.length g,.slice (RX ⟨k,0,RZ⟩) a.length f,.slice i d.length cG,.slice h ah.length e,.slice o rs.length n,.bool sk] 115)).alloc (.cells #[.slice (RX ⟨l,0,RZ⟩) a.length g,.slice (RX ⟨k,0,RZ⟩) a.length f,.slice i d.length cG,.slice h ah.length e,.slice o rs.length n,.bool sk,.int .i64 0,.int .i64 0] 119)):=((So _ _).alloc (R8 _) _).alloc (by simp) _;have T:Sb (uk w F ah rs sk (.returned (.tuple #[.pointer (RX ⟨c.heap.size+1,0,RZ⟩),.int .i64 0])) ((c.alloc (.cells #[.slice (RX ⟨l,0,RZ⟩) a.length g,.slice (RX ⟨k,0,RZ⟩) a.length f,.slice i d.length cG,.slice h ah.length e,.slice o rs.length n,.bool sk] 115)).alloc (.cells #[.slice (RX ⟨l,0,RZ⟩) a.length g,.slice (RX ⟨k,0,RZ⟩) a.length f,.slice i d.length cG,.slice h ah.length e,.slice o rs.length n,.bool sk,.int .i64 0,.int .i64 0] 119))):=
   ⟨b.trans (r.mono b.size),.inr ⟨a,d,c.heap.size+1,l,g,k,f,i,V,cG,ct,mE,h,U,e,o,ab,n,A,D,rfl,by have:=b.size;omega,jA _ _ _,E.kept r.size (fun p u=>Cc.CS (r.block p (t p u).2)),fun p u=>⟨(t p u).1,by have:=(t p u).2;omega⟩⟩⟩
  clear b r v q E t G K N O H A D;go_wp2;simp[TT,SX,Tryz.results31,go_sem];exact T.out
def j6(cu:Nat)(w:R3):SF (aa.of RY) 36 #[.pointer (RX ⟨cu,0,RZ⟩)] w fun e w'=>e= .returned (.func (.func 53) #[] #[.pointer (RX ⟨w.heap.size,0,RZ⟩)])∧w'=w.alloc (.cells #[.pointer (RX ⟨cu,0,RZ⟩)] 74):=by
 have c:∀ (b:Fn) (first a:Array R2) (w:R3),(Instr.makeFunc b first a).run (aa.of RY) w= .ok (.func b first a) w:=fun _ _ _ _=>rfl;go_enter aa.func36,Tryz.ntmps36;go_wp2;go_ret;exact⟨rfl,rfl⟩
def lQ(cu:Nat)(v:R2)(w:R3)(h:w.cell? ⟨cu,7,RZ⟩=RX v):SF (aa.of RY) 32 #[.pointer (RX ⟨cu,0,RZ⟩)] w fun e w'=>e= .returned v∧w'=w:=by
 go_enter aa.func32,Tryz.ntmps32;go_wp2;go_ret;exact⟨rfl,rfl⟩
end Ec
namespace Cc
open Go Go.Conc
open Go.RowKit (Below)
open Ec (az aC bZ cM qv bG Bd aJ eP uk oY j6 lQ)
section
variable {P0 P:Sd}{Post:R2→R3→Prop}{own:Nat→Prop}{cs:List Sn}{w:R3}{b:Sn}{a:T6}{k:List UC}{ops:Array Tx}{i:Nat}{rest:List Nat}{o:Tx}
def iX{d:R3}(e:∀ (b:Nat) o,w.heap[b]? =RX o→aR P0 o→d.heap[b]? =RX o){p:SL}{v:R2}(h:w.cell? p=RX v):d.cell? p=RX v:=by
 unfold Sr at h ⊢;cases c:w.heap[p.block]? with
 |none=>rw[c] at h;cases h
 |some f=>
  rw[c] at h;cases f<;>first|(cases h;done)|skip
  rw[e _ _ c trivial];exact h
def vJ{f:R3}(e:∀ (b:Nat) o,w.heap[b]? =RX o→aR P0 o→f.heap[b]? =RX o)(m:w.heap.size≤f.heap.size){g:Option SL}{b off:Nat}{l:List bZ}(h:cM w g b off l):cM f g b off l:=
 ⟨h.addr,fun j=>Sa (h.lt j) m,fun d c=>iX e (h.c0 d c),fun d c=>iX e (h.c1 d c),fun d c=>iX e (h.c2 d c),fun d c=>iX e (h.c3 d c),fun d c=>iX e (h.c4 d c),fun d c=>iX e (h.c5 d c),fun d c=>iX e (h.c6 d c)⟩
def ff (w:R3):Nat→Prop:=fun b=>b<w.heap.size
def P4{fr:Sn}(h:∀ c,RelB own w c→Xe P0 P Post (ff c) fr cs c):Xe P0 P Post own fr cs w:=fun f c e d=>h c e (fun b h=>h) c (RelB.refl _ _) d
theorem oa(h:Twins P0 P){f:T1}{fn:UB}{c:U7}{args:Array S3}{ats:Array Sg}{vs:Array R2}{R:R3→R2→R3→Prop}(K:b.kind= .normal)(p:ops[i]? =RX o)(W:SI o (Tc ops a.tmps)=R7)(Q:o.op= .call {callee:=.value (.func f),args,argTypes:=ats})(I:args.map a.eval=vs)
 (M:P.funcs[f]? =RX fn) (O:(fn.name == "runtime.NumGoroutine")=R6) (J:fn.body=RX c) (N:P.funcs[f]? =P0.funcs[f]?) (T:ed P0 (b.at a (.inRegion ops (i :: rest) :: k)) [])
 (hR:∀ d,(∀ (b:Nat) o,w.heap[b]? =RX o→aR P0 o→d.heap[b]? =RX o)→w.heap.size≤d.heap.size→SF P0 f vs d fun e W'=>Below d.heap.size d W'∧∃ v,e= .returned v∧R d v W')
 (G:∀ v d W' w',(∀ (b:Nat) o,w.heap[b]? =RX o→aR P0 o→d.heap[b]? =RX o)→w.heap.size≤d.heap.size→Below d.heap.size d W'→R d v W'→Un W' w'→RelB (ff w) w w'→Xe P0 P Post (ff w') (b.at (a.put o.dst v) (.inRegion ops rest :: k)) cs w'):Xe P0 P Post (ff w) (b.at a (.inRegion ops (i :: rest) :: k)) cs w:=by
 intro z;refine n9 (P0:=P0) (R:=fun n e X=>∃ m,Mk P0 m n∧Tl m n (fun e W'=>∃ d,d.heap=m.heap∧Below d.heap.size d W'∧∃ v,e= .returned v∧R d v W') e X) K p W Q I M O J T (fun n g=>?_) (fun n v w' g V x S=>?_) (fun n Y w' ⟨_,_,_,_,_,_,d,_,_,v,e,_⟩=>by cases e) (fun n w' ⟨_,_,_,_,_,_,d,_,_,v,e,_⟩=>by cases e) z
 ·obtain⟨m,l⟩:=CW P0 n;intro B C q j E F;exact oN h l.hp l.un N (fun w' ⟨d,_,_,v,e,_⟩=>by cases e) (fun r=>(hR (sh r 0 m) (fun b o p t=>l.at_ b o ((g.at_ b (R9.1 p).1).trans p) t) (by show w.heap.size≤m.heap.size;rw[← l.un.size];exact g.size)).mono fun e W' ⟨q,j⟩=>⟨sh r 0 m,rfl,q,j⟩) B C q j E fun e w' L=>F e w' ⟨m,l,L⟩
 obtain⟨m,l,r,D,W',j,d,u,s,Z,e,H⟩:=V;cases e;have U:d.heap.size≤w'.heap.size:=by rw[j.un.size];exact s.size
 have y:d.heap.size=n.heap.size:=by rw[u,l.un.size]
 have hrel:RelB (ff w) w w':=⟨fun b A=>by
  have q:W'.heap[b]? =d.heap[b]? :=s.block b (by rw[y];exact Sa (z b A) g.size);exact(j.same l.un (by rw[q,u])).trans (g.at_ b A),Ss g.size (by rw[← y];exact U),x.tape.trans g.tape,x.os.trans g.os,x.output.trans g.output⟩
 exact Xe.go (G v d (sh r D W') w' (fun b o p t=>by rw[u];exact l.at_ b o ((g.at_ b (R9.1 p).1).trans p) t) (by rw[y];exact g.size) s H ⟨j.un.size,j.un.at_,j.un.os,j.un.output⟩ hrel) (fun b h=>h) S
theorem LV{P:Sd}{b:Sn}{a:T6}{todo:List UC}{D:Nat}{m:FrameMode}(d:b.kind= .normal)(g:a.defers=[{target:=.collected D,args:= #[]}])(n:(todo.all (xe P))=R7):ed P {b.at a todo with mode:=m} []:=by
 refine⟨⟨fun i l=>?_,fun e h=>?_,.inl d⟩,fun f j=>by simp at j,d⟩
 ·have:=SC.1 n i l;cases i<;>first|exact this|trivial|cases this
 ·have c:e∈a.defers:=h;rw[g] at c;simp only[List.mem_singleton] at c;subst c;rfl
def GL{P:Sd}{b:Sn}{a:T6}{todo:List UC}{D:Nat}(c:b.kind= .normal)(d:a.defers=[{target:=.collected D,args:= #[]}])(e:(todo.all (xe P))=R7):ed P (b.at a todo) []:=LV (m:=.run) c d e
end
def rF{a:T6}{x y z u:S3}{d e f c:R2}(h1:a.eval x=d)(g:a.eval y=e)(h:a.eval z=f)(j:a.eval u=c): #[x,y,z,u].map a.eval=#[d,e,f,c]:=by simp[h1,g,h,j]
def sJ (F:AE)(V:Nat→Nat→List az):Prop:=match F with
 |none=>True
 |some (g,f)=>∀ (i:Nat) b,f[i]? =RX b→∀ (c:Nat) e d,b.chunks[c]? =RX e→g[c]? =RX d→oA e.text d.1.kind d.2 (b.rows:Int) (V i c)
def o8 (F:AE)(V:Nat→Nat→List az)(ah:List Int)(rs:List bZ)(sk:Bool)(Go:List cF→Bool):List cF×Nat×Nat:=match F with
 |none=>([],0,0)
 |some (d,c)=>gH sk c ah rs (aJ d.length (ah ++ rs.map bZ.col)) V Go 0 c.length [] 0
def cY (F:AE)(V:Nat→Nat→List az)(ah:List Int)(rs:List bZ)(sk:Bool):List (List az)×Nat:=
 if gh F ah rs=0 then(if (o8 F V ah rs sk fun _=>R7).2.2=0 then((o8 F V ah rs sk fun _=>R7).1.map T4,0) else([],(o8 F V ah rs sk fun _=>R7).2.2)) else([],gh F ah rs)
def rE (f:R3)(base:Nat)(v:R2)(j:List (List az)):Prop:=
 ∃ d,f.ownsRow base 43 1 v j.length d∧(∀ (i:Nat) e,j[i]? =RX e→∃ c,d[i]? =RX c∧f.ownsRow base 59 3 c e.length (aC e))∧∀ (i h:Nat) c l g,d[i]? =RX c→d[h]? =RX l→c.ownBlock=RX g→l.ownBlock=RX g→i=h
def zA (c:List (List az)×Nat)(w0:R3)(e:UQ)(w':R3):Prop:=
 ∃ v,e= .returned (.tuple #[v,.int .i64 (c.2:Int)])∧rE w' w0.heap.size v c.1∧(c.2≠0→v= .slice RZ 0 0)∧(∀ b,b<w0.heap.size→w'.heap[b]? =w0.heap[b]?)∧w0.heap.size≤w'.heap.size
def Qc:(Tryz.f31.name == "runtime.NumGoroutine")=R6:=by kernel_rfl
def JJ:(Tryz.f36.name == "runtime.NumGoroutine")=R6:=by kernel_rfl
def Eb:(Tryz.f32.name == "runtime.NumGoroutine")=R6:=by kernel_rfl
def rE.nil(d:R3)(base:Nat):rE d base (.slice RZ 0 0) []:=⟨[],Ur _ _ _ _,fun i j c=>by simp at c,fun i f h g e c=>by simp at c⟩
theorem Qu{s:ByteArray}{l:List (bG×Int)}{bs:List Bd}{ah:List Int}{rs:List bZ}{V:Nat→Nat→List az}(d:eP s l bs)(e:sR l.length ah rs=R7)(j:ah.length≤1000)(x:rs.length≤1000)(h:sJ (RX (l,bs)) V):FQ l bs ah rs V:=by
 have u:l.length≤8:=by
  have:=d.1.pl.1.2.1;simpa using this
 have v:bs.length≤2000:=by
  have r:=Ec.sj bs (fun b c=>(d.1.bP b c).lo);have t:=d.1.rows;omega
 refine⟨fun b c=>by have:=(d.1.bP b c).len;simpa using this,by omega,by have:=d.1.pl.1.1;simp at this;omega,fun b c=>(d.1.bP b c).hi,d.1.rows,by omega,j,by unfold Sw;omega,(rG.1 e).1,(rG.1 e).2,fun i b c g p q f n=>⟨?_,h i b c g p q f n⟩⟩;obtain⟨m,rfl⟩:=SA.1 f;have:=((d.1.bP b (TD c)).each g m).n;unfold Sw;omega
def xY (fn:UB):U7:=match fn.body with
 |some (.seq _ (.seq _ (.seq _ (.seq _ (.seq _ c)))))=>c
 |_=>.skip
section
variable {Post:R2→R3→Prop}{cs:List Sn}{w:R3}{a:T6}{c:Sn}
def Knows.same{a a':T6}{n:Nat}{l:List (Nat×R2)}(b:Knows a n l)(h:a'.tmps=a.tmps):Knows a' n l:=⟨by rw[h];exact b.size,fun s v d=>by unfold aN;rw[h];exact b.slot s v d⟩
theorem sD{D:Nat}{todo:List UC}(f:a.defers=[{target:=.collected D,args:= #[]}])(e:w.heap[D]? =RX (.deferred (RX [])))(l:(todo.all (xe (aa.of RY)))=R7){b:Sn}(k:b.kind= .normal)
 (j:∀ a' w',a'.tmps=a.tmps→a'.defers=[]→w.heap.size≤w'.heap.size→(∀ x,x<w.heap.size→x≠D→w'.heap[x]? =w.heap[x]?)→w'.tape=w.tape→w'.os=w.os→w'.output=w.output→Xe (aa.of RY) RY Post (ff w') {b.at a' todo with mode:=.returning} cs w'):Xe (aa.of RY) RY Post (ff w) {b.at a todo with mode:=.returning} cs w:=by
 intro r q d n;have i:D<w.heap.size:=(R9.1 e).1;have h:q.heap[D]? =RX (.deferred (RX [])):=(d.at_ D i).trans e;refine A9 dJ f h (fun _ o=>Xe.go (j {a with defers:=[]} _ rfl rfl ?_ ?_ d.tape d.os d.output) (fun b g=>g) o) (LV k f l) n
 ·rw[World.putObj_size];exact d.size
 ·intro x p m;rw[World.putObj_heap_other m];exact d.at_ x p
structure RF(w w':R3)(D:Nat):Prop where
 at_:∀ x,x<w.heap.size→x≠D→w'.heap[x]? =w.heap[x]?
 size:w.heap.size≤w'.heap.size
 tape:w'.tape=w.tape
 os:w'.os=w.os
 output:w'.output=w.output
theorem Jf{cu rb D n e:Nat}{q:Array R2}{C:R2}(b:Knows a 40 [(12,.pointer (RX ⟨rb,0,RZ⟩)),(10,.pointer (RX ⟨cu,0,RZ⟩))])(s:a.defers=[{target:=.collected D,args:= #[]}])(u:w.heap[D]? =RX (.deferred (RX [])))(hc:w.heap[cu]? =RX (.cells (iL q n e) 119 (0,0)))(X:q.size=6)(K:w.heap[rb]? =RX (.cells #[C] 26 (0,0)))
 (I:∀ w',RF w w' D→Xe (aa.of RY) RY Post (ff w') (c.finish (.tuple #[if e=0 then C else .slice RZ 0 0,.int .i64 (e:Int)])) cs w'):Xe (aa.of RY) RY Post (ff w) ((base 13).at a [.inBlock 0,.code (xY TS)]) (c :: cs) w:=by
 have d:=fV (aa.of RY) RY Post;have O:(iL q n e)[7]? =RX (.int .i64 (e:Int)):=by simp[iL,Array.getElem?_append,X]
 have ao:cu<w.heap.size:=(R9.1 hc).1;have L:rb<w.heap.size:=(R9.1 K).1;have B:D<w.heap.size:=(R9.1 u).1;have G:∀ h,(∀ (m:Nat) r,w.heap[m]? =RX r→aR (aa.of RY) r→h.heap[m]? =RX r)→w.heap.size≤h.heap.size→SF (aa.of RY) 32 #[.pointer (RX ⟨cu,0,RZ⟩)] h fun f i=>Below h.heap.size h i∧∃ v,f= .returned v∧(v= .int .i64 (e:Int)∧i=h):=fun h o t=>(lQ cu _ h (jL (o cu _ hc trivial) O)).mono fun f i ⟨N,F⟩=>⟨by rw[F];exact Below.refl _ _,_,N,rfl,F⟩;refine gL d ?_;refine aH d ?_;refine aH d ?_;refine aU d [0,1,2] rfl ?_;refine bV d b fun b=>?_;refine oa (vs:= #[.pointer (RX ⟨cu,0,RZ⟩)]) (R:=fun h v i=>v= .int .i64 (e:Int)∧i=h) dJ rfl rfl rfl rfl (lH (b.of rfl)) Tryz.func32 Eb rfl (jg rfl rfl rfl).symm (GL rfl (by simp only[put_defers];exact s) (by kernel_rfl)) G fun v h i ar o t P A S g=>?_;obtain⟨rfl,-⟩:=A;replace b:=b.put (d:=35) (by decide) (.int .i64 (e:Int));by_cases H:e=0
 ·subst H;refine cP d b rfl (.bool R6) (pP (c:=R6) rfl (b.of rfl) rfl (by decide)) fun b=>?_;refine aj d ?_;refine cJ d R6 (b.of rfl) ?_;refine gu d ?_;refine aH d ?_;refine aU d [0,1,2] rfl ?_;refine qo d b rfl C (bK rfl (b.of rfl) Tryz.isAgg26 (.inr (Sa L g.size)) (jL ((g.at_ rb L).trans K) rfl)) fun b=>?_;refine fE d b fun b=>?_;refine m8 d b (.int .i64 0) fun b=>?_;refine aj d ?_;refine om d ?_;refine sD (by simp only[put_defers];exact s) ((g.at_ D B).trans u) (by kernel_rfl) rfl fun M E z x Y T ab V ae=>?_;replace b:=b.same z;have p:=fN (P:=RY) Tryz.results13 (b.slot 8 _ rfl) (b.slot 9 _ rfl);refine gp d rfl x Tryz.func13 p.1 p.2 ?_;have:=I E ⟨fun l k y=>(T l (Sa k g.size) y).trans (g.at_ l k),Ss g.size Y,ab.trans g.tape,V.trans g.os,ae.trans g.output⟩;rw[if_pos rfl] at this;exact this
 ·refine cP d b rfl (.bool R7) (pP (c:=R7) rfl (b.of rfl) rfl (by simp;omega)) fun b=>?_;refine aj d ?_;refine cJ d R7 (b.of rfl) ?_;refine aH d ?_;refine aU d [0,1,2,3] rfl ?_;refine bV d b fun b=>?_;refine oa (vs:= #[.pointer (RX ⟨cu,0,RZ⟩)]) (R:=fun h v i=>v= .int .i64 (e:Int)∧i=h) dJ rfl rfl rfl rfl (lH (b.of rfl)) Tryz.func32 Eb rfl (jg rfl rfl rfl).symm (GL rfl (by simp only[put_defers];exact s) (by kernel_rfl)) (fun h o t=>G h (fun m r J R=>o m r ((g.at_ m (R9.1 J).1).trans J) R) (Ss g.size t)) fun v h i E o t P A S j=>?_;obtain⟨rfl,-⟩:=A;replace b:=b.put (d:=38) (by decide) (.int .i64 (e:Int));refine m8 d b (.slice RZ 0 0) fun b=>?_;refine fE d b fun b=>?_;refine aj d ?_;refine om d ?_;have Q:E.heap[D]? =RX (.deferred (RX [])):=(j.at_ D (Sa B g.size)).trans ((g.at_ D B).trans u);refine sD (by simp only[put_defers];exact s) Q (by kernel_rfl) rfl fun M am z x Z U ad W al=>?_;replace b:=b.same z;have p:=fN (P:=RY) Tryz.results13 (b.slot 8 _ rfl) (b.slot 9 _ rfl);refine gp d rfl x Tryz.func13 p.1 p.2 ?_;have:=I am ⟨fun l k y=>(U l (Sa k (Ss g.size j.size)) y).trans ((j.at_ l (Sa k g.size)).trans (g.at_ l k)),Ss g.size (Ss j.size Z),ad.trans (j.tape.trans g.tape),W.trans (j.os.trans g.os),al.trans (j.output.trans g.output)⟩;rw[if_neg H] at this;exact this
end
def LM (fn:UB):U7:=match fn.body with
 |some (.seq _ (.seq _ (.seq _ (.seq _ (.seq (.seq _ (.block _ c)) _)))))=>c
 |_=>.skip
section
variable {Post:R2→R3→Prop}{cs:List Sn}{w:R3}{a:T6}{c:Sn}{l:List (bG×Int)}{bs:List Bd}{ah:List Int}{rs:List bZ}{kb ck eb ce db:Nat}{dO:Option SL}{ct mE:Nat→Nat}{co:Option SL}{cb aV aD:Nat}{ro:Option SL}{rb bh aF:Nat}{V:Nat→Nat→List az}{cG:Nat}{sk:Bool}{cu xb bx uo:Nat}
structure OP(w w':R3)(uo cu bx:Nat)(q:Array R2)(res:List cF×Nat×Nat)(D:Nat)(rv:R2):Prop where
 d:w'.heap[D]? =RX (.deferred (RX []))
 dl:w.heap.size≤D
 c:w'.heap[cu]? =RX (.cells (iL q res.2.1 res.2.2) 119 (0,0))
 b:w'.heap[bx]? =RX (.cells #[rv] 26 (0,0))
 own:rE w' uo rv (res.1.map T4)
 keep:∀ x,x<uo→w'.heap[x]? =w.heap[x]?
 size:w.heap.size≤w'.heap.size
 tape:w'.tape=w.tape
 os:w'.os=w.os
 output:w'.output=w.output
theorem Fv(q:FQ l bs ah rs V)(hF:FM w l bs ah rs kb eb dO db ct mE co cb aV ro rb bh)(U:∀ x,yC kb eb db ct cb rb bs.length ah.length rs.length x→x<cu)(cc:uo≤cu)(cf:cu<bx)(cn:bx<xb)
 (hc:w.heap[cu]? =RX (.cells (iL (fK kb l.length ck eb l.length ce dO bs.length cG co ah.length aD ro rs.length aF sk) 0 0) 119 (0,0))) (O:w.heap[bx]? =RX (.cells #[.slice RZ 0 0] 26 (0,0))) (d:w.heap[xb]? =RX (.cells #[.pointer (RX ⟨cu,0,RZ⟩)] 74 (0,0)))
 (f:Knows a 40 [(27,.func (.func 53) #[] #[.pointer (RX ⟨xb,0,RZ⟩)]),(12,.pointer (RX ⟨bx,0,RZ⟩)),(10,.pointer (RX ⟨cu,0,RZ⟩))]) (Q:a.defers=[])
 (R:∀ a' w' D E,Knows a' 40 [(12,.pointer (RX ⟨bx,0,RZ⟩)),(10,.pointer (RX ⟨cu,0,RZ⟩))]→a'.defers=[{target:=.collected D,args:= #[]}]→OP w w' uo cu bx (fK kb l.length ck eb l.length ce dO bs.length cG co ah.length aD ro rs.length aF sk) (gH sk bs ah rs (aJ l.length (ah ++ rs.map bZ.col)) V (fun _=>R7) 0 bs.length [] 0) D E→Xe (aa.of RY) RY Post (ff w') ((base 13).at a' [.inBlock 0,.code (xY TS)]) (c :: cs) w'):
 Xe (aa.of RY) RY Post (ff w) ((base 13).at a [.code (LM TS),.inBlock 0,.code (xY TS)]) (c :: cs) w:=by
 intro cd b n be;have bt:cu<w.heap.size:=(R9.1 hc).1;have br:bx<w.heap.size:=(R9.1 O).1;have bu:xb<w.heap.size:=(R9.1 d).1;have bm:=n.size;generalize t:Ab (base 13).fn a.tmps #[28,29] (.region 6 (eW TS) R6) (.block 1 (.region 7 (dK TS) R6)) b.heap.size=i;have T:pG i bx:=by
  rw[← t];exact⟨rfl,rfl,rfl,f.size,f.slot 12 _ rfl⟩
 generalize o:(b.alloc (.deferred (RX []))).alloc (.loop i)=j;have a1:∀ x,x<b.heap.size→j.heap[x]? =b.heap[x]? :=fun x d=>by
  rw[← o];show((b.heap.push _).push _)[x]? =_;rw[SN,if_neg (by simp;omega),SN,if_neg (by omega)]
 have a2:j.heap[b.heap.size]? =RX (.deferred (RX [])):=by
  rw[← o];show((b.heap.push _).push _)[b.heap.size]? =_;rw[SN,if_neg (by simp),SN,if_pos rfl]
 have a3:j.heap[b.heap.size+1]? =RX (.loop i):=by
  rw[← o];show((b.heap.push _).push _)[b.heap.size+1]? =_;rw[SN,if_pos (by simp)]
 have ca:j.heap.size=b.heap.size+2:=by
  rw[← o];show((b.heap.push _).push _).size=_;simp
 have m:∀ x,x<w.heap.size→j.heap[x]? =w.heap[x]? :=fun x d=>(a1 x (by omega)).trans (n.at_ x d);let X:Nat→Prop:=fun x=>x=b.heap.size+1∨x=b.heap.size∨x=bx;have bl:i.state= .ready:=by rw[← t];rfl
 have bj:i.pending=RZ:=by rw[← t];rfl
 have a5:jY (b.heap.size+1) b.heap.size bx i [] X j:=by
  refine⟨bl,bj,a3,a2,.slice RZ 0 0,[],(m bx br).trans O,Ur _ _ _ _,fun u x h=>by simp at h,fun u cp v G e h=>by simp at h,fun x=>?_⟩;show(x=_∨x=_∨x=_)↔_;simp[TQ]
 have P:=Hz (Post:=Post) (cu:=cu) (xb:=xb) (n0:=0) (e0:=0) (Jb (Post:=Post) (D:=b.heap.size) (l:=b.heap.size+1) T) q a5 (fun b1 a9 ci=>hF.kept (by omega) fun x d=>by
  have g:=U x d;refine fun bv bd a8=>a9 x (by omega) (fun h=>?_) (by omega) bv ((m x (by omega)).trans bd) a8;rcases h with h|h|h<;>omega) (fun aw h=>by
  have g:=U db (.inr (.inr (.inl ⟨aw,rfl⟩)));rcases h with h|h|h<;>omega) (fun h=>by rcases h with h|h|h<;>omega) (fun h=>by rcases h with h|h|h<;>omega) (by omega) ((m xb bu).trans d) ((m cu bt).trans hc)
 generalize gH sk bs ah rs (aJ l.length (ah ++ rs.map bZ.col)) V (fun _=>R7) 0 bs.length [] 0=bA at P R;subst o;subst t;refine Lh dJ (g:=.tmp 27) (gf:=53) (cap:= #[.pointer (RX ⟨xb,0,RZ⟩)]) (f.of rfl) (fun args w=>aa.call53 args w) (.inl (jg rfl rfl rfl).symm) P (fun v r a4 A=>?_) (fun b4 w' h=>by cases h.1) (fun w' h=>by cases h.1) (fun s h=>?_) (dM rfl Q (by kernel_rfl)) be
 ·obtain⟨-,⟨I,a6,bb⟩,bc,ba,cl⟩:=a4;obtain⟨ad,K,L,ae,E,bB,al,am,ao,ar,M⟩:=a6;refine C8 dJ L (xZ T K) (by rw[ad];decide) K (by intro s;simp) ?_;intro _ bi;refine Xe.go (own:=ff _) (R _ _ b.heap.size E ?_ (by show _ :: a.defers=_;rw[Q]) ?_) (fun b3 h=>h) bi
  ·exact((f.nil.cons (f.slot 10 _ rfl)).cons (f.slot 12 _ rfl)).same rfl
  ·have a7:∀ x,I x→uo≤x:=fun x d=>by
    rcases bb x d with h|h
    ·rcases h with h|h|h<;>omega
    ·omega
   have ch:b.heap.size+1<r.heap.size:=by omega
   have p:∀ x,x≠b.heap.size+1→(r.putObj (b.heap.size+1) (.loop {Ab (base 13).fn a.tmps #[28,29] (.region 6 (eW TS) R6) (.block 1 (.region 7 (dK TS) R6)) b.heap.size with state:=.exhausted})).heap[x]? =r.heap[x]? :=fun x d=>World.putObj_heap_other d;have W:∀ {k:Sg} {F C:Nat} {v:R2} {H:List R2},r.ownsRow 0 k F v C H→(∀ e,v.ownBlock=RX e→I e)→(r.putObj (b.heap.size+1) (.loop {Ab (base 13).fn a.tmps #[28,29] (.region 6 (eW TS) R6) (.block 1 (.region 7 (dK TS) R6)) b.heap.size with state:=.exhausted})).ownsRow uo k F v C H:=fun {k F C v H} h bo=>by
    obtain⟨S,⟨g,N⟩|⟨e,Z,ab,g,N,y,a0⟩⟩:=h
    ·exact⟨S,.inl ⟨g,N⟩⟩
    ·refine⟨S,.inr ⟨e,Z,ab,g,a7 e (bo e (by rw[g];rfl)),(p e (fun k=>?_)).trans y,a0⟩⟩;rw[k,L] at y;cases y
   refine⟨(p _ (by omega)).trans ae,bm,(p _ (by omega)).trans ba,(p _ (by omega)).trans al,⟨bB,by rw[SV];exact W am (fun e z=>(M e).2 (.inr (.inr (.inr (.inl z.symm))))),fun u x d=>?_,ar⟩,fun x d=>?_,?_,A.tape.trans n.tape,A.os.trans n.os,A.output.trans n.output⟩
   ·rw[List.getElem?_map] at d;cases B:bA.1[u]? with
    |none=>rw[B] at d;cases d
    |some b0=>
     rw[B] at d;simp only[TU,Ts] at d;subst d;obtain⟨G,J,b2,Y⟩:=ao u b0 B;exact⟨G,J,W Y fun e z=>(M e).2 (.inr (.inr (.inr (.inr ⟨G,TD J,z.symm⟩))))⟩
   ·refine(p x (by omega)).trans ((bc x (by omega) (fun h=>?_) (by omega)).trans (m x (by omega)));rcases h with h|h|h<;>omega
   ·rw[World.putObj_size];omega
 ·rw[enter_at _ aa.func53 rfl] at h;cases h
end
end Cc
namespace Cc
open Go Go.Conc
open Go.RowKit (Below)
open Ec (az aC bZ cM qv bG Bd aJ eP uk oY j6 lQ wh)
def MH(w:R3):(T9 26).run RY w= .ok (.slice RZ 0 0) w:=Tryz.zeroValue26 w
section
variable {Post:R2→R3→Prop}{s:ByteArray}{F:AE}{V:Nat→Nat→List az}{ah:List Int}{rs:List bZ}{co:Option SL}{cb aV aD:Nat}{ro:Option SL}{rb bh aF:Nat}{sk:Bool}{w0:R3}
theorem rq(cf:s.size≤Sw)(hF:kI s F)(bs:sJ F V)(aw:ah.length≤1000)(a2:rs.length≤1000)
 (bA:0<ah.length→co=RX ⟨cb,aV,RZ⟩) (b0:0<ah.length→cb<w0.heap.size) (bB:∀ j,j<ah.length→w0.cell? ⟨cb,aV+j,RZ⟩=RX (.int .i64 (ah.getD j 0))) (cs:cM w0 ro rb bh rs):
 kG (aa.of RY) RY Post 13 #[.string s,.slice co ah.length aD,.slice ro rs.length aF,.bool sk] w0 (zA (cY F V ah rs sk) w0):=by
 intro dk dl a4 du cl ao;have b:=fV (aa.of RY) RY Post;refine Xe.go (own:=ff w0) ?_ (fun c d=>d) cl;rw[enter_at _ Tryz.func13 rfl];have a:=Rn (.string s) (.slice co ah.length aD) (.slice ro rs.length aF) (.bool sk) 40 (by decide);refine aH b ?_;refine aU b [0,1] rfl ?_;refine m8 b a (.slice RZ 0 0) fun a=>?_;refine m8 b a (.int .i64 0) fun a=>?_;refine aj b ?_;refine aH b ?_;refine aU b [0,1,2,3,4,5,6,7,8,9] rfl ?_;refine bV b a fun a=>?_;refine bV b a fun a=>?_;refine bV b a fun a=>?_;refine bV b a fun a=>?_;refine oa (vs:= #[.string s,.slice co ah.length aD,.slice ro rs.length aF,.bool sk]) (R:=fun n v w=>uk n F ah rs sk (.returned v) w) dJ rfl rfl rfl rfl (rF (a.of rfl) (a.of rfl) (a.of rfl) (a.of rfl)) Tryz.func31 Qc rfl (jg rfl rfl rfl).symm (dM rfl (by simp only[put_defers]) (by kernel_rfl)) (fun n K G=>?_) fun v n w u K G dq cv S g=>?_
 ·refine(oY s F ah rs co cb aV aD ro rb bh aF sk n cf hF aw a2 bA (fun d=>Sa (b0 d) G) (fun j cc=>iX K (bB j cc)) (vJ K G cs)).mono fun k w d=>⟨d.1,?_⟩
  ·rcases d.2 with⟨_,rfl⟩|⟨q,f,o,T,bl,Q,bj,ab,O,cG,ct,mE,Z,N,bi,a8,U,c9,_,_,rfl,_⟩
   ·exact⟨_,rfl,d⟩
   ·exact⟨_,rfl,d⟩
 ·rcases cv.2 with⟨ck,k⟩|⟨q,f,o,T,bl,Q,bj,ab,O,cG,ct,mE,Z,N,bi,a8,U,c9,J,am,k,b1,L,bo,a6⟩
  ·have P:=Vj k;subst P;have ch:gh F ah rs≠0:=ck;generalize ci:gh F ah rs=m at*;replace a:=a.put (d:=20) (by decide) (.tuple #[.pointer RZ,.int .i64 (m:Int)]);refine bV b a fun a=>?_;refine oB b a fun a=>?_;refine oB b a fun a=>?_;refine fE b a fun a=>?_;refine fE b a fun a=>?_;refine aj b ?_;refine aH b ?_;refine aH b ?_;refine aU b [0,1] rfl ?_;refine bV b a fun a=>?_;refine cP b a rfl (.bool R7) (pP (c:=R7) rfl (a.of rfl) rfl (by simp;omega)) fun a=>?_;refine aj b ?_;refine cJ b R7 (a.of rfl) ?_;refine aH b ?_;refine aU b [0,1,2] rfl ?_;refine bV b a fun a=>?_;refine m8 b a (.slice RZ 0 0) fun a=>?_;refine fE b a fun a=>?_;refine aj b ?_;refine om b ?_;have a1:=fN (P:=RY) Tryz.results13 (a.slot 8 _ rfl) (a.slot 9 _ rfl);refine gp b rfl (by simp only[put_defers]) Tryz.func13 a1.1 a1.2 ?_;intro _ I h cn;have A:cY F V ah rs sk=([],m):=by
    unfold cY;rw[ci,if_neg ch]
   refine ao (.returned (.tuple #[.slice RZ 0 0,.int .i64 (m:Int)])) I ⟨.slice RZ 0 0,by rw[A],by rw[A];exact rE.nil _ _,fun _=>rfl,fun c e=>(h.at_ c (Sa e g.size)).trans (g.at_ c e),Ss g.size h.size⟩ cn ⟨h.tape.trans g.tape,h.os.trans g.os,h.output.trans g.output,Ss g.size h.size⟩ (lS a4 _)
  ·have P:=Vj k;subst P;have b2:w0.heap.size≤o:=Ss G b1;replace L:=S.row.1 L;have br:FM u q f ah rs T Q ab O ct mE Z N 0 a8 U 0:=bo.kept (by rw[S.size];exact R8 _) (fun c _=>La S);have c3:o<u.heap.size:=(R9.1 L).1;replace a:=a.put (d:=20) (by decide) (.tuple #[.pointer (RX ⟨o,0,RZ⟩),.int .i64 0]);refine bV b a fun a=>?_;refine oB b a fun a=>?_;refine oB b a fun a=>?_;refine fE b a fun a=>?_;refine fE b a fun a=>?_;refine aj b ?_;refine aH b ?_;refine aH b ?_;refine aU b [0,1] rfl ?_;refine bV b a fun a=>?_;refine cP b a rfl (.bool R6) (pP (c:=R6) rfl (a.of rfl) rfl (by decide)) fun a=>?_;refine aj b ?_;refine cJ b R6 (a.of rfl) ?_;refine gu b ?_;refine aH b ?_;refine aU b [0] rfl ?_;refine kV b (fun c e=>e.elim VP (fun d=>d)) (by decide) rfl rfl (.cells #[.slice RZ 0 0] 26) trivial (fun H=>.pointer (RX ⟨H,0,RZ⟩)) (rZ rfl MH) fun B dT dt dC E bx=>?_;replace a:=a.put (d:=12) (by decide) (.pointer (RX ⟨B,0,RZ⟩));refine aj b ?_;refine P4 fun I h=>?_;have x:RelB (ff u) u I:=⟨fun c e=>(h.at_ c (.inl e)).trans (E.at_ c (.inr e)),Ss E.size h.size,h.tape.trans E.tape,h.os.trans E.os,h.output.trans E.output⟩;have ar:I.heap[B]? =RX (.cells #[.slice RZ 0 0] 26 (0,0)):=(h.at_ B (.inr rfl)).trans bx;have c2:B<I.heap.size:=(R9.1 ar).1;refine aH b ?_;refine aH b ?_;refine aU b [0,1] rfl ?_;refine bV b a fun a=>?_;refine oa (vs:= #[.pointer (RX ⟨o,0,RZ⟩)]) (R:=fun n v w=>v= .func (.func 53) #[] #[.pointer (RX ⟨n.heap.size,0,RZ⟩)]∧w=n.alloc (.cells #[.pointer (RX ⟨o,0,RZ⟩)] 74)) dJ rfl rfl rfl rfl (lH (a.of rfl)) Tryz.func36 JJ rfl (jg rfl rfl rfl).symm (dM rfl (by simp only[put_defers]) (by kernel_rfl)) (fun n K G=>(j6 o n).mono fun k w ⟨al,C⟩=>⟨by rw[C];exact(Below.refl _ _).alloc (R8 _) _,_,al,rfl,C⟩) fun v be dc ba ds dv dr cx bu y=>?_;obtain⟨rfl,bt⟩:=cx;generalize c0:be.heap.size=bc at*;have cR:ba.heap[bc]? =RX (.cells #[.pointer (RX ⟨o,0,RZ⟩)] 74 (0,0)):=by
    refine bu.row.1 ?_;rw[bt,← c0];exact Ec.bw _ _
   replace a:=a.put (d:=27) (by decide) (.func (.func 53) #[] #[.pointer (RX ⟨bc,0,RZ⟩)]);refine aj b ?_;refine fF b ?_;have bv:sR q.length ah rs=R7:=by
    obtain⟨dE,df,ad,bm,_⟩:=zD am;rw[J] at ad;cases ad;exact bm
   have b4:eP s q f:=by
    rw[J] at hF;exact hF.1
   have p:RelB (ff u) u ba:=⟨fun c e=>(y.at_ c (Sa e x.size)).trans (x.at_ c e),Ss x.size y.size,y.tape.trans x.tape,y.os.trans x.os,y.output.trans x.output⟩;have ce:∀ l,yC T Q O ct N U f.length ah.length rs.length l→l<u.heap.size:=fun l t=>by have:=(a6 l t).2;omega
   refine Fv (uo:=w0.heap.size) (Qu b4 bv aw a2 (J▸bs)) (br.kept p.size fun l t=>CS (p.at_ l (ce l t))) (fun l t=>(a6 l t).2) b2 (by omega) (by omega) ((p.at_ o c3).trans L) ((y.at_ B c2).trans ar) cR (((a.nil.cons (a.slot 10 _ rfl)).cons (a.slot 12 _ rfl)).cons (a.slot 27 _ rfl)) (by simp only[put_defers]) fun dd bb D a9 bd b3 i=>?_;refine Jf bd b3 i.d i.c rfl i.b fun d0 r=>?_;intro _ M z cp;have a5:w0.heap.size≤bb.heap.size:=Ss g.size (Ss p.size i.size);have cu:o8 F V ah rs sk (fun _=>R7)=gH sk f ah rs (aJ q.length (ah ++ rs.map bZ.col)) V (fun _=>R7) 0 f.length [] 0:=by rw[J];rfl
   have A:cY F V ah rs sk=if (gH sk f ah rs (aJ q.length (ah ++ rs.map bZ.col)) V (fun _=>R7) 0 f.length [] 0).2.2=0 then((gH sk f ah rs (aJ q.length (ah ++ rs.map bZ.col)) V (fun _=>R7) 0 f.length [] 0).1.map T4,0) else([],(gH sk f ah rs (aJ q.length (ah ++ rs.map bZ.col)) V (fun _=>R7) 0 f.length [] 0).2.2):=by
    unfold cY;rw[if_pos am,cu]
   generalize gH sk f ah rs (aJ q.length (ah ++ rs.map bZ.col)) V (fun _=>R7) 0 f.length [] 0=W at*;have dO:w0.heap.size≤D:=Ss g.size (Ss p.size i.dl);have cd:∀ c,c<w0.heap.size→M.heap[c]? =w0.heap[c]? :=fun c e=>(z.at_ c (Sa e (Ss a5 r.size))).trans ((r.at_ c (by omega) (by omega)).trans ((i.keep c e).trans ((p.at_ c (Sa e g.size)).trans (g.at_ c e))));have a3:w0.heap.size≤M.heap.size:=Ss a5 (Ss r.size z.size);refine ao (.returned (.tuple #[if W.2.2=0 then a9 else .slice RZ 0 0,.int .i64 (W.2.2:Int)])) M ⟨if W.2.2=0 then a9 else .slice RZ 0 0,?_,?_,?_,cd,a3⟩ cp ⟨z.tape.trans (r.tape.trans (i.tape.trans (p.tape.trans g.tape))),z.os.trans (r.os.trans (i.os.trans (p.os.trans g.os))),z.output.trans (r.output.trans (i.output.trans (p.output.trans g.output))),a3⟩ (lS a4 _)
   ·rw[A]
    split
    ·rename_i R;rw[R]
    ·rfl
   ·rw[A]
    split
    ·obtain⟨db,c4,c5,c6⟩:=i.own;have a7:∀ {k:Sg} {X H:Nat} {v:R2} {Y:List R2},bb.ownsRow w0.heap.size k X v H Y→M.ownsRow w0.heap.size k X v H Y:=fun {k X H v Y} d=>jf d (R8 _) fun ae ca al C=>by
      refine(z.at_ ae (Sa C r.size)).trans (r.at_ ae C fun k=>?_);obtain⟨dp,a0⟩:=Ec.E4 d ca;rw[k,i.d] at a0;cases a0
     exact⟨db,a7 c4,fun c1 l t=>by
      obtain⟨da,c7,c8⟩:=c5 c1 l t;exact⟨da,c7,a7 c8⟩,c6⟩
    ·exact rE.nil _ _
   ·rw[A];intro d
    split at d
    ·exact absurd rfl d
    ·rename_i R;rw[if_neg R]
end
end Cc
namespace Cc
open Go Go.Conc
open Ec
def Gk(s:ByteArray)(w0:R3)(d:s.size≤Sw):∃ F,kI s F:=by
 obtain⟨j,l,k,⟨_,a⟩,_⟩:=tF s w0 d [];rcases a with⟨e,bs,f,g,h,i,_,b,_,_,c⟩|⟨_,a⟩
 ·exact⟨RX (e,bs),b,c⟩
 ·exact⟨RZ,a⟩
def NV(s:ByteArray)(k e cn:Int)(w0:R3)(g:s.size≤Sw):∃ vs,oA s k e cn vs:=by
 obtain⟨n,m,j,⟨_,a⟩,_⟩:=oM s k e cn w0 g [];rcases a with⟨a,_⟩|⟨b,rfl,d,c,l,⟨v,i,_,_,f⟩|⟨_,h⟩⟩
 ·exact⟨[],.inr ⟨rfl,.inl a⟩⟩
 ·exact⟨i,.inl ⟨b,rfl,d,c,f⟩⟩
 ·exact⟨[],.inr ⟨rfl,.inr ⟨b,rfl,h⟩⟩⟩
theorem CO{s:ByteArray}{F:AE}(w0:R3)(hF:kI s F):∃ V,sJ F V:=by
 cases F with
 |none=>exact⟨fun _ _=>[],trivial⟩
 |some u=>
  obtain⟨o,bs⟩:=u;have n:∀ e c:Nat,∃ k,∀ b d a,bs[e]? =RX b→b.chunks[c]? =RX d→o[c]? =RX a→oA d.text a.1.kind a.2 (b.rows:Int) k:=fun e c=>by
   cases j:bs[e]? with
   |none=>exact⟨[],fun b d a h=>by cases h⟩
   |some b=>
    cases g:b.chunks[c]? with
    |none=>exact⟨[],fun l d a h f=>by cases h;rw[g] at f;cases f⟩
    |some d=>
     cases m:o[c]? with
     |none=>exact⟨[],fun l d a h f i=>by cases i⟩
     |some a=>
      have r:d.text.size≤Sw:=by
       obtain⟨q,rfl⟩:=SA.1 g;have:=((hF.1.1.bP b (TD j)).each c q).n;unfold Sw;omega
      obtain⟨k,t⟩:=NV d.text a.1.kind a.2 (b.rows:Int) w0 r;exact⟨k,fun l v w p f i=>by
       cases p;rw[g] at f;cases f;cases i;exact t⟩
  exact⟨fun e c=>Tt (n e c),fun e b j c d a g m=>Sp (n e c) b d a j g m⟩
theorem wM:∀ (a pre:List cF),feed (fun _=>R7) pre a=(pre ++ a,R7)
 | [],pre=>by simp[feed]
 |x :: a,pre=>by
  rw[tB,if_pos rfl,wM a (pre ++ [x])];simp
section
variable {bs:List Bd}{ah:List Int}{rs:List bZ}{ws:List Bool}{V:Nat→Nat→List az}
def so(sk:Bool)(r i:Nat)(pre:List cF)(n:Nat):gH sk bs ah rs ws V (fun _=>R7) i (r+1) pre n=if sk && xC bs rs i then gH sk bs ah rs ws V (fun _=>R7) (i+1) r pre n else if C6 bs ws V i then gH sk bs ah rs ws V (fun _=>R7) (i+1) r (pre ++ ia bs ah rs V i) (n+1) else(pre,n+1,3):=by
 rw[gH,wM];simp
end
end Cc
namespace Ec
open Go.RowKit Pk Pm
theorem wD:∀ A B C:List UInt8,S9 A B≤0→S9 B C≤0→S9 A C≤0
 | [],B,[],_,_=>by simp[S9]
 | [],B,_ :: _,_,_=>by simp[S9]
 |_ :: _,[],C,b,_=>by simp[S9] at b
 |_ :: _,_ :: _,[],_,b=>by simp[S9] at b
 |a :: A,h :: B,i :: C,b,c=>by
  have f:=wD A B C;simp only[S9] at b c ⊢;have g:∀ d e:UInt8,d<e↔d.toNat<e.toNat:=fun d e=>UInt8.lt_iff_toNat_lt;simp only[g] at b c ⊢
  split at b
  ·split at c
   ·rw[if_pos (by omega)];omega
   ·split at c
    ·omega
    ·rw[if_pos (by omega)];omega
  ·split at b
   ·omega
   ·split at c
    ·rw[if_pos (by omega)];omega
    ·split at c
     ·omega
     ·rw[if_neg (by omega),if_neg (by omega)];exact f b c
def yF{x y z:az}(h:eD x y≤0)(a:eD y z≤0):eD x z≤0:=by
 unfold eD at h a ⊢
 split at h
 ·split at a
  ·rw[if_pos (by omega)];omega
  ·split at a
   ·omega
   ·rw[if_pos (by omega)];omega
 ·split at h
  ·omega
  ·split at a
   ·rw[if_pos (by omega)];omega
   ·split at a
    ·omega
    ·rw[if_neg (by omega),if_neg (by omega)];exact wD _ _ _ h a
def B4 (l:List az)(b:kU):Prop:=(b=bX∧∀ a∈l,a.null=R7)∨(b.there=R7∧b.least∈l∧b.least.null=R6∧b.most∈l∧b.most.null=R6∧∀ a∈l,a.null=R6→eD b.least a≤0∧eD a b.most≤0)
theorem Er{l:List az}{b:kU}(h:B4 l b)(v:az):B4 (l ++ [v]) (mC b v):=by
 unfold mC;cases f:v.null with
 |true=>
  rw[if_pos rfl];rcases h with⟨g,e⟩|⟨g,e,i,j,k,m⟩
  ·refine .inl ⟨g,fun d a=>?_⟩;rcases S7.1 a with a|a
   ·exact e d a
   ·simp at a;rw[a];exact f
  ·refine .inr ⟨g,List.mem_append_left _ e,i,List.mem_append_left _ j,k,fun d a c=>?_⟩;rcases S7.1 a with a|a
   ·exact m d a c
   ·simp at a;rw[a,f] at c;cases c
 |false=>
  rw[if_neg (by simp)];rcases h with⟨rfl,e⟩|⟨g,e,i,j,k,m⟩
  ·refine .inr ⟨rfl,?_,?_,?_,?_,fun d a c=>?_⟩
   ·simp[bX]
   ·simp[bX,f]
   ·simp[bX]
   ·simp[bX,f]
   ·rcases S7.1 a with a|a
    ·rw[e d a] at c;cases c
    ·simp at a;subst a;simp[bX,ug]
  ·have p:v∈l ++ [v]:=by simp
   refine .inr ⟨rfl,?_,?_,?_,?_,fun d a c=>?_⟩
   ·dsimp only;split
    ·exact p
    ·exact List.mem_append_left _ e
   ·dsimp only;split
    ·exact f
    ·exact i
   ·dsimp only;split
    ·exact p
    ·exact List.mem_append_left _ j
   ·dsimp only;split
    ·exact f
    ·exact k
   ·dsimp only;simp only[g,Bool.true_eq_false,false_or];rcases S7.1 a with a|a
    ·obtain⟨n,o⟩:=m d a c;constructor
     ·split
      ·rename_i h;exact yF (by omega) n
      ·exact n
     ·split
      ·rename_i h;exact yF o (by have:=qg v b.most;omega)
      ·exact o
    ·simp at a;subst a;constructor
     ·split
      ·rw[ug];omega
      ·rename_i h;have:=qg b.least d;omega
     ·split
      ·rw[ug];omega
      ·rename_i h;omega
def Qr(l:List az):B4 l (bO l):=by
 have g:∀ (a l:List az) (b:kU),B4 l b→B4 (l ++ a) (a.foldl mC b):=by
  intro a
  induction a with
  |nil=>intro l b c;simpa using c
  |cons d a f=>
   intro l b c;have:=f (l ++ [d]) _ (Er c d);rw[SG] at this;exact this
 exact g l [] bX (.inl ⟨rfl,fun d e=>by cases e⟩)
def OX{k:Int}{l:List az}(h:∀ x∈l,VC k x):JN k (bO l):=by
 rcases Qr l with⟨b,_⟩|⟨b,c,d,f,g,i⟩
 ·exact .inl b
 ·have e:∀ x∈l,x.null=R6→VK k x:=fun x m j=>by
   rcases h x m with⟨a,_⟩|a
   ·rw[j] at a;cases a
   ·exact a
  exact .inr ⟨b,e _ c d,e _ f g,by have:=(i _ c d).2;omega⟩
def rP{α:Type}{f:α→List Nat}{l:List α}(h:∀ a∈l,∀ x∈f a,x<256):∀ x∈l.flatMap f,x<256:=fun x b=>by
 obtain⟨a,c,b⟩:=List.mem_flatMap.1 b;exact h a c x b
def jB{a b:List Nat}(h1:∀ x∈a,x<256)(c:∀ x∈b,x<256):∀ x∈a ++ b,x<256:=fun x d=>(S7.1 d).elim (h1 x) (c x)
def Hl(k:Int)(b:kU):∀ x∈bJ k b,x<256:=by
 unfold bJ
 split
 ·exact jB (by simp) (jB (tJ _ _) (tJ _ _))
 ·simp
def M3(cs:List bG)(es:List Int)(i:Nat):∀ x∈AU cs es i,x<256:=by
 unfold AU;refine jB (jV _) (jB (iK _) fun x a=>?_);simp only[TE,Vr,or_false] at a;rcases a with rfl|rfl<;>exact m7 _
def Lo(cs:List bG)(l:List jw)(n:Nat):∀ x∈eg cs l n,x<256:=by
 unfold eg;refine rP fun a _=>?_;unfold qH;exact jB (jV _) (Hl _ _)
def KN(cs:List bG)(es:List Int)(bs:List Bd):∀ x∈iZ cs es bs,x<256:=by
 unfold iZ;refine jB (jV _) (jB (rP fun a _=>M3 cs es a) (jB (jV _) (rP fun b _=>?_)));unfold dV;exact jB (jV _) (Lo _ _ _)
def CV:∀ x∈cW,x<256:=by decide
def Nm(n:Nat):∀ x∈gb n,x<256:=by
 intro x a;unfold gb at a;simp only[TE,Vr,or_false] at a;omega
def KJ(cs:List bG)(es:List Int)(bs:List Bd):∀ x∈uu cs es bs,x<256:=by
 unfold uu;exact jB CV (jB (rP fun a _=>rP fun b _=>iK _) (jB (KN _ _ _) (jB (Nm _) CV)))
section
variable {cs:List bG}{rows:List (List az)}{es:List Int}{bd:Nat}
def vS(h:qy cs rows es bd):(cs.zip es).map SB=cs:=List.map_fst_zip (by rw[h.Ic];exact R8 _)
def G1(h:qy cs rows es bd):(cs.zip es).map T4=es:=List.map_snd_zip (by rw[h.Ic];exact R8 _)
theorem Gi(rows:List (List az)){bd:Nat}(a:0<bd):∀ n,((SS n).map fun j=>(dI rows bd j).length).sum=min (n*bd) rows.length
 |0=>by simp
 |n+1=>by
  rw[Vz,Tb,List.sum_append,Gi rows a n];simp only[U8,List.map_nil,List.sum_cons,List.sum_nil,gw,Nat.succ_mul];omega
theorem En(h:qy cs rows es bd)(b:Bool):ep (de rows cs es b bd (eY rows.length bd))=rows.length:=by
 unfold ep de;rw[List.map_map];have:=Gi rows h.lo (eY rows.length bd);have d:((fun c:Bd=>c.rows) ∘ fun a=>mB (dI rows bd a) cs es b)=fun a=>(dI rows bd a).length:=rfl;rw[d,this];have f:¬ eY rows.length bd*bd<rows.length:=fun e=>Nat.lt_irrefl _ ((oL (len:=rows.length) h.lo (eY rows.length bd)).1 e);omega
def qy.vc(h:qy cs rows es bd)(j p:Nat)(a:p<cs.length):∀ x∈bH (dI rows bd j) p,VC cs[p].kind x:=by
 intro x e;unfold bH at e;obtain⟨f,k,rfl⟩:=Tu.1 e;have d:=Cw k;obtain⟨m,g,l⟩:=TK d;have c:=h.table.2.2 m g;rw[l] at c;have b:p<f.length:=by rw[c.1];exact a
 have i:=c.2 p b a;rw[Sj,Sk b];exact JB (mF h.table.1 _ (Sl a)) (h.vals f d _ (Sl b)) i
theorem xa(h:qy cs rows es bd)(a:Bool)(k:(jx cs rows es a bd).length≤65536):eP (strOf (jx cs rows es a bd)) (cs.zip es) (de rows cs es a bd (eY rows.length bd)):=by
 refine⟨⟨⟨by rw[vS h];exact h.table.1,by rw[vS h,G1 h];exact h.mR⟩,fun m e=>?_,by rw[En h a];exact h.table.2.1⟩,by rw[mh];exact k,?_⟩
 ·rw[vS h];unfold de at e;obtain⟨b,i,rfl⟩:=Tu.1 e;have q:=(oL (len:=rows.length) h.lo b).2 (TC.1 i);have f:(mB (dI rows bd b) cs es a).rows=min bd (rows.length - b*bd):=gw;have n:=h.lo;have o:=h.hi;refine⟨by rw[f];omega,by rw[f];omega,dm _ _ _ _ _,fun c p=>?_⟩;have d:c<cs.length:=by
   have:(mB (dI rows bd b) cs es a).chunks.length=cs.length:=dm _ _ _ _ _;omega
  have g:(mB (dI rows bd b) cs es a).chunks[c]=Cp (dI rows bd b) cs es a c:=by simp[mB,cB]
  rw[g];have l:Cp (dI rows bd b) cs es a c∈cB (dI rows bd b) cs es a cs.length:=Tu.2 ⟨c,TC.2 d,rfl⟩;have r:=(h.chunks a b _ l).1;refine⟨by omega,?_⟩;have j:(cs.getD c ⟨⟨#[]⟩,0⟩).kind=cs[c].kind:=by rw[Sj,Sk d];rfl
  rw[j,h.j4 a b c d];cases a with
  |false=>exact .inl rfl
  |true=>exact OX (h.vc b c d)
 ·unfold jx;rw[qz _ (KJ _ _ _)];unfold uu;rw[← KM,vS h,G1 h]
end
def Ll{cs:List bG}{b:List (List az)}{es:List Int}{a:Int}(h:fD cs b)(d:kM a es cs)(e:∀ r∈b,∀ x∈r,Ek x):qy cs b es a.toNat∧a=(a.toNat:Int):=by
 obtain⟨f,g,c⟩:=d;exact⟨⟨h,c,by omega,by omega,e⟩,by omega⟩
theorem Fu{es:List Int}(a5:(∀ e∈es,e=0)∨qw∧mN)(cs:List bG)(a:List (List az))(b:Int)(c:Bool)(a0 bb a1:R2)(w:R3)(ab:cs.length≤Sw)(a6:a.length≤Sw)(a7:∀ r∈a,r.length≤Sw)(a8:es.length≤Sw)(ba:∀ r∈a,∀ x∈r,Ek x)
 (G:vB w a0 cs) (Q:B2 w bb a) (O:qx w a1 es):
 SF (aa.of RY) 20 #[.agg #[a0,bb],.agg #[.int .i64 b,a1,.bool c]] w fun e w'=>∃ s n,e= .returned (.tuple #[.string s,.int .i64 n])∧JZ cs a b es c s n∧Si w.heap.size w w':=by
 have bd:Sb ((∀ e∈es,e=0)∨qw∧mN):=a5;clear a5;have bo:=G;have bs:=Q;have br:=O;obtain⟨f,bv,aV,aD,rfl,bB,-⟩:=bo;obtain⟨l,b1,bh,aF,rfl,b0,-⟩:=bs;obtain⟨k,bx,bA,j,rfl,-,-,-⟩:=br;have al:Sb (vB w (.slice f cs.length aD) cs):=G;have be:Sb (B2 w (.slice l a.length aF) a):=Q;have am:Sb (qx w (.slice k es.length j) es):=O;have bi:Sb (∀ r∈a,∀ x∈r,Ek x):=ba;have K:Sb (∀ d,Si w.heap.size w d→SF (aa.of RY) 40 #[.agg #[.slice f cs.length aD,.slice l a.length aF]] d fun e w'=>∃ C,e= .returned (.bool C)∧(C=R7↔fD cs a)∧Si d.heap.size d w'):=fun d p=>
  CQ cs a _ _ d ab a6 a7 (G.below p) (Q.below p)
 have J:Sb (∀ d,Si w.heap.size w d→SF (aa.of RY) 41 #[.agg #[.int .i64 b,.slice k es.length j,.bool c],.slice f cs.length aD] d fun e w'=>∃ C,e= .returned (.bool C)∧(C=R7↔kM b es cs)∧Si d.heap.size d w'):=fun d p=>
  we b es c cs _ _ d ab a8 (G.below p) (O.lower p)
 clear G Q O ab a6 a7 a8 ba;go_enter aa.func20,Tryz.ntmps20
 go_upto_region 1 with fail
 have a3:Si w.heap.size w ((w.alloc (.cells #[.slice f cs.length aD,.slice l a.length aF] 46)).alloc (.cells #[.int .i64 b,.slice k es.length j,.bool c] 48)):=gm _ _;have ad:((w.alloc (.cells #[.slice f cs.length aD,.slice l a.length aF] 46)).alloc (.cells #[.int .i64 b,.slice k es.length j,.bool c] 48)).heap[w.heap.size]? =RX (.cells #[.slice f cs.length aD,.slice l a.length aF] 46 (0,0)):=alloc_old _ (by simp) (bw w _);have ae:((w.alloc (.cells #[.slice f cs.length aD,.slice l a.length aF] 46)).alloc (.cells #[.int .i64 b,.slice k es.length j,.bool c] 48)).heap[w.heap.size+1]? =RX (.cells #[.int .i64 b,.slice k es.length j,.bool c] 48 (0,0)):=jA w _ _;generalize (w.alloc (.cells #[.slice f cs.length aD,.slice l a.length aF] 46)).alloc (.cells #[.int .i64 b,.slice k es.length j,.bool c] 48)=i at*;have A:Sb (Si w.heap.size w i):=a3;have W:Sb (∀ d,Si i.heap.size i d→(d.cell? ⟨w.heap.size,0,RZ⟩=RX (.slice f cs.length aD)∧d.cell? ⟨w.heap.size,1,RZ⟩=RX (.slice l a.length aF))∧d.cell? ⟨w.heap.size+1,0,RZ⟩=RX (.int .i64 b)∧d.cell? ⟨w.heap.size+1,1,RZ⟩=RX (.slice k es.length j)∧d.cell? ⟨w.heap.size+1,2,RZ⟩=RX (.bool c)):=fun d p=>
  ⟨mi ((p.block _ (Sf ad)).trans ad),bE ((p.block _ (Sf ae)).trans ae)⟩
 clear a3 ad ae;obtain⟨⟨U,V⟩,R,S,T⟩:=W.out i (So _ _);by_cases B:fD cs a
 ·have H:Sb (SF (aa.of RY) 40 #[.agg #[.slice f cs.length aD,.slice l a.length aF]] i fun e w'=>e= .returned (.bool R7)∧Si i.heap.size i w'):=oQ (K.out _ A.out) B;have M:Sb (fD cs a):=B;clear K B
  go_upto_region 3 with(go_at_call 40;refine H.out.mono ?_;rintro e q ⟨rfl,E⟩)
  have u:Sb (Si w.heap.size w q):=A.out.trans (E.mono A.out.size);have N:Sb (Si i.heap.size i q):=E;clear U V R S T E H;obtain⟨⟨U,V⟩,R,S,T⟩:=W.out q N.out;by_cases y:kM b es cs
  ·have I:Sb (SF (aa.of RY) 41 #[.agg #[.int .i64 b,.slice k es.length j,.bool c],.slice f cs.length aD] q fun e w'=>e= .returned (.bool R7)∧Si q.heap.size q w'):=oQ (J.out _ u.out) y;obtain⟨a9,a4⟩:=Ll M.out y bi.out;have h:Sb (qy cs a es b.toNat):=a9;have bc:Sb (b=(b.toNat:Int)):=a4;have aw:Sb (kM b es cs):=y;clear J y a9 a4
   go_upto_region 5 with(go_at_call 41;refine I.out.mono ?_;rintro e t ⟨rfl,F⟩)
   have g:Sb (Si w.heap.size w t):=u.out.trans (F.mono u.out.size);have bj:Sb (Si i.heap.size i t):=N.out.trans (F.mono N.out.size);clear U V R S T F I N u;obtain⟨⟨U,V⟩,R,S,T⟩:=W.out t bj.out;have ao:Sb (SF (aa.of RY) 43 #[.agg #[.slice f cs.length aD,.slice l a.length aF],.agg #[.int .i64 b,.slice k es.length j,.bool c]] t fun e w'=>∃ o m,e= .returned (.agg #[.slice f cs.length aD,.slice k es.length j,o])∧m.map SB=de a cs es c b.toNat (eY a.length b.toNat)∧iu w' t.heap.size o m∧Si t.heap.size t w'):=by
    have p:=EO bd.out a cs b.toNat c (.slice l a.length aF) (.slice f cs.length aD) (.slice k es.length j) t h.out.lo h.out.hi h.out.table.2.1 h.out.len h.out.vals h.out.table.1.2.1 h.out.Ic (be.out.below g.out) (al.out.below g.out) (am.out.lower g.out);rw[← bc.out] at p;exact p
   have ar:Sb (∀ d o m,Si w.heap.size w d→m.map SB=de a cs es c b.toNat (eY a.length b.toNat)→(∃ base,iu d base o m)→SF (aa.of RY) 42 #[.agg #[.slice f cs.length aD,.slice k es.length j,o]] d fun e w'=>e= .returned (.string (strOf (jx cs a es c b.toNat)))∧Si d.heap.size d w'):=fun d o m a2 D X=>by
    obtain⟨base,X⟩:=X;exact KX cs es (de a cs es c b.toNat (eY a.length b.toNat)) _ _ o d h.out.table.1.2.1 h.out.Ic (CZ h.out.table.1) (mF h.out.table.1) (by rw[mP];exact h.out.nb) (h.out.bP c _) (h.out.pos c) (h.out.body c) (al.out.below a2) (am.out.lower a2) ⟨base,m,D,X⟩
   have L:Sb ((strOf (jx cs a es c b.toNat)).size=(jx cs a es c b.toNat).length):=mh _;by_cases P:65536<(jx cs a es c b.toNat).length
   ·have v:Sb (JZ cs a b es c ⟨#[]⟩ 6):=.inr (.inr (.inl ⟨M.out,aw.out,P,rfl,rfl⟩));have bl:decide (65536<((strOf (jx cs a es c b.toNat)).size:Int))=R7:=by rw[L.out];simp;omega
    clear P L;generalize strOf (jx cs a es c b.toNat)=bm at*
    go_wp2_with (first|(go_at_call 43;refine ao.out.mono ?_;rintro e bt ⟨o,m,rfl,D,Z,z⟩)|(go_at_call 42;refine(ar.out _ o m ?_ D ⟨_,Z⟩).mono ?_;(exact g.out.trans (z.mono g.out.size));rintro e bu ⟨rfl,Y⟩))
    go_ret2
    exact⟨_,_,rfl,v.out,(g.out.trans (z.mono g.out.size)).trans (Y.mono (g.out.trans (z.mono g.out.size)).size)⟩
   ·have v:Sb (JZ cs a b es c (strOf (jx cs a es c b.toNat)) 0):=.inr (.inr (.inr ⟨M.out,aw.out,P,rfl,rfl⟩));have bl:decide (65536<((strOf (jx cs a es c b.toNat)).size:Int))=R6:=by rw[L.out];simp;omega
    clear P L;generalize strOf (jx cs a es c b.toNat)=bm at*
    go_wp2_with (first|(go_at_call 43;refine ao.out.mono ?_;rintro e bt ⟨o,m,rfl,D,Z,z⟩)|(go_at_call 42;refine(ar.out _ o m ?_ D ⟨_,Z⟩).mono ?_;(exact g.out.trans (z.mono g.out.size));rintro e bu ⟨rfl,Y⟩))
    go_ret2
    exact⟨_,_,rfl,v.out,(g.out.trans (z.mono g.out.size)).trans (Y.mono (g.out.trans (z.mono g.out.size)).size)⟩
  ·have I:Sb (SF (aa.of RY) 41 #[.agg #[.int .i64 b,.slice k es.length j,.bool c],.slice f cs.length aD] q fun e w'=>e= .returned (.bool R6)∧Si q.heap.size q w'):=ng (J.out _ u.out) y;have v:Sb (JZ cs a b es c ⟨#[]⟩ 2):=.inr (.inl ⟨M.out,y,rfl,rfl⟩);clear J y
   go_wp2_with (go_at_call 41;refine I.out.mono ?_;rintro e t ⟨rfl,F⟩)
   go_ret2
   exact⟨_,_,rfl,v.out,u.out.trans (F.mono u.out.size)⟩
 ·have H:Sb (SF (aa.of RY) 40 #[.agg #[.slice f cs.length aD,.slice l a.length aF]] i fun e w'=>e= .returned (.bool R6)∧Si i.heap.size i w'):=ng (K.out _ A.out) B;have v:Sb (JZ cs a b es c ⟨#[]⟩ 1):=.inl ⟨B,rfl,rfl⟩;clear K B
  go_wp2_with (go_at_call 40;refine H.out.mono ?_;rintro e q ⟨rfl,E⟩)
  go_ret2
  exact⟨_,_,rfl,v.out,A.out.trans (E.mono A.out.size)⟩
end Ec
namespace Cc
open Go Go.Conc
open Go.RowKit (Below)
open Ec
theorem zi{cs:List bG}{b:List (List az)}{es:List Int}{a:Nat}{c:Bool}(h:qy cs b es a){V:Nat→Nat→List az}(s:sJ (RX (cs.zip es,de b cs es c a (eY b.length a))) V):∀ j,j<eY b.length a→∀ p,p<cs.length→V j p=bH (dI b a j) p:=by
 intro j v p d;have o:(de b cs es c a (eY b.length a))[j]? =RX (mB (dI b a j) cs es c):=by simp[de,v]
 have q:(mB (dI b a j) cs es c).chunks[p]? =RX (Cp (dI b a j) cs es c p):=by simp[mB,cB,d]
 have n:p<es.length:=by rw[h.Ic];exact d
 have r:(cs.zip es)[p]? =RX (cs[p],es[p]):=by simp[List.getElem?_zip_eq_some,d,n]
 have g:=s j _ o p _ _ q r;have l:es.getD p 0=es[p]:=by rw[Sj,Sk n];rfl
 rw[h.j4 c j p d,l] at g;have x:((mB (dI b a j) cs es c).rows:Int)=((bH (dI b a j) p).length:Int):=by rw[iY];rfl
 rw[x] at g;have A:=h.cut j p;have m:=h.mR.2 p d;rw[l] at m;have t:iy ((bH (dI b a j) p).length:Int) cs[p].kind es[p]=0:=by
  unfold iy;rw[if_neg (by omega),m];rfl
 have k:=Pk.qz _ (EE cs[p].kind es[p] (bH (dI b a j) p));rcases g with⟨i,e,y,z,u⟩|⟨_,e|⟨i,e,w⟩⟩
 ·have f:(bH (dI b a j) p).length=i:=by omega
  exact(u.GW _ f (h.vc j p d) (ei k.symm)).symm
 ·exact absurd t e
 ·have f:(bH (dI b a j) p).length=i:=by omega
  exact absurd k.symm (w _ f (h.vc j p d))
def fZ:List bG:=[⟨⟨#[120]⟩,1⟩]
def jv:List (List az):=[[⟨R6,7,⟨#[]⟩⟩],[⟨R7,0,⟨#[]⟩⟩]]
def qQ:ByteArray:=Pk.strOf (jx fZ jv [0] R7 1)
def Mx:(jx fZ jv [0] R7 1).length=31:=by decide +kernel
theorem D6:qy fZ jv [0] 1:=by
 refine⟨⟨⟨by decide,by decide,fun a b=>?_⟩,by decide,fun a b=>?_⟩,⟨rfl,fun a b=>?_⟩,by decide,by decide,fun h f i d=>?_⟩
 ·have:a=0:=by simp[fZ] at b;omega
  subst this;exact⟨(by decide +kernel:ot ⟨⟨#[120]⟩,1⟩=R7),fun e c=>by omega⟩
 ·have:a=0∨a=1:=by simp[jv] at b;omega
  rcases this with rfl|rfl
  ·refine⟨rfl,fun e c g=>?_⟩;have:e=0:=by simp[jv] at c;omega
   subst this;exact(by decide +kernel:eU ⟨R6,7,⟨#[]⟩⟩ 1=R7)
  ·refine⟨rfl,fun e c g=>?_⟩;have:e=0:=by simp[jv] at c;omega
   subst this;exact(by decide +kernel:eU ⟨R7,0,⟨#[]⟩⟩ 1=R7)
 ·have:a=0:=by simp[fZ] at b;omega
  subst this;exact(by decide +kernel:aY 1 0=R7)
 ·simp[jv] at f;rcases f with rfl|rfl
  ·simp at d;subst d;exact⟨by decide,by decide⟩
  ·simp at d;subst d;exact⟨by decide,by decide⟩
def Oa:∃ a c1,de jv fZ [0] R7 1 (eY jv.length 1)=[⟨1,[a]⟩,⟨1,[c1]⟩]:=⟨_,_,rfl⟩
theorem QM{V:Nat→Nat→List az}(a c1:jw)(d:V 0 0=[⟨R6,7,⟨#[]⟩⟩])(h1:V 1 0=[⟨R7,0,⟨#[]⟩⟩]):cY (RX (fZ.zip [0],[⟨1,[a]⟩,⟨1,[c1]⟩])) V [0] [] R6=([[⟨R6,7,⟨#[]⟩⟩],[⟨R7,0,⟨#[]⟩⟩]],0):=by
 have e:gh (RX (fZ.zip [0],[⟨1,[a]⟩,⟨1,[c1]⟩])) [0] []=0:=rfl;have f:o8 (RX (fZ.zip [0],[⟨1,[a]⟩,⟨1,[c1]⟩])) V [0] [] R6 (fun _=>R7)=([(0,[⟨R6,7,⟨#[]⟩⟩]),(1,[⟨R7,0,⟨#[]⟩⟩])],2,0):=by
  have c:C6 [⟨1,[a]⟩,⟨1,[c1]⟩] (aJ (fZ.zip [(0:Int)]).length ([0] ++ ([]:List bZ).map bZ.col)) V 0=R7:=by
   simp[C6,aJ,fZ,rowsOf,d]
  have b:C6 [⟨1,[a]⟩,⟨1,[c1]⟩] (aJ (fZ.zip [(0:Int)]).length ([0] ++ ([]:List bZ).map bZ.col)) V 1=R7:=by
   simp[C6,aJ,fZ,rowsOf,h1]
  show gH R6 [⟨1,[a]⟩,⟨1,[c1]⟩] [0] [] (aJ (fZ.zip [(0:Int)]).length ([0] ++ ([]:List bZ).map bZ.col)) V (fun _=>R7) 0 2 [] 0=_
  revert c b
  generalize aJ (fZ.zip [(0:Int)]).length ([0] ++ ([]:List bZ).map bZ.col)=g;intro c b;rw[so,so];simp only[Bool.false_and,SD,if_false,c,b,if_true,SZ];simp[gH,wM,b,ia,dB,mH,rowsOf,fX,yD,d,h1]
 unfold cY;rw[e,f];rfl
end Cc
namespace Cc
open Go Go.Conc
open Go.RowKit (Below)
section
variable {P0 P:Sd}{Post:R2→R3→Prop}{cs:List Sn}{w:R3}{b:Sn}{a:T6}{k:List UC}
theorem P3(h:Twins P0 P){c:U7}{Q:R3→T6→R3→Prop}(F:∀ s,Item.code (.refuse s)∉k)(J:ed P0 (b.at a (.code c :: k)) [])
 (G:∀ d,(∀ (b:Nat) o,w.heap[b]? =RX o→aR P0 o→d.heap[b]? =RX o)→w.heap.size≤d.heap.size→c.wp P0 (fun e a' W'=>e= .normal∧Below d.heap.size d W'∧Q d a' W') a d)
 (D:∀ a' d W' w',(∀ (b:Nat) o,w.heap[b]? =RX o→aR P0 o→d.heap[b]? =RX o)→w.heap.size≤d.heap.size→Below d.heap.size d W'→Q d a' W'→Un W' w'→RelB (ff w) w w'→Xe P0 P Post (ff w') (b.at a' k) cs w'):Xe P0 P Post (ff w) (b.at a (.code c :: k)) cs w:=by
 intro N M f H;refine Gz h (Q:=fun i e a' W'=>e= .normal∧∃ d,d.heap=i.heap∧Below d.heap.size d W'∧Q d a' W') (fun i l n=>?_) F (fun i id a w g=>by cases g.1) (fun i O a w g=>by cases g.1) (fun i a w g=>by cases g.1) (fun i e a' y w' n B l g j u=>?_) J H
 ·intro z L A;obtain⟨e,a',w',⟨p,j,C⟩,E⟩:=G (sh n 0 i) (fun b o m r=>l.at_ b o ((f.at_ b (R9.1 m).1).trans m) r) (by show w.heap.size≤i.heap.size;rw[← l.un.size];exact f.size) z L A;exact⟨e,a',w',⟨p,sh n 0 i,rfl,j,C⟩,E⟩
 ·obtain⟨rfl,d,t,q,g⟩:=g;have K:d.heap.size≤w'.heap.size:=by rw[j.un.size];exact q.size
  have v:d.heap.size=M.heap.size:=by rw[t,l.un.size]
  have hrel:RelB (ff w) w w':=⟨fun b x=>by
   have p:y.heap[b]? =d.heap[b]? :=q.block b (by rw[v];exact Sa x f.size);exact(j.same l.un (by rw[p,t])).trans (f.at_ b x),Ss f.size (by rw[← v];exact K),u.tape.trans f.tape,u.os.trans f.os,u.output.trans f.output⟩
  intro _ I;exact Xe.go (D a' d (sh n B y) w' (fun b o m r=>by rw[t];exact l.at_ b o ((f.at_ b (R9.1 m).1).trans m) r) (by rw[v];exact f.size) q g ⟨j.un.size,j.un.at_,j.un.os,j.un.output⟩ hrel) (fun b h=>h) I
end
end Cc
namespace Cc
open Go Go.Conc
open Go.RowKit (Below)
open Ec
open Pk
def Qs{a:T6}{n:Nat}(h:a.tmps.size=n)(c:a.defers=[]):a=⟨((SS n).map (aN a)).toArray,[]⟩:=by
 obtain⟨f,e⟩:=a;simp only at h c;subst c;congr 1;apply Array.ext_getElem?;intro d;simp only[List.getElem?_toArray,List.getElem?_map,List.getElem?_range];rcases TF d n with b|b
 ·simp[b,aN,h]
 ·simp[b,h]
def PU (fn:UB):U7:=match fn.body with
 |some (.seq _ (.seq a _))=>a
 |_=>.skip
def PV (fn:UB):U7:=match fn.body with
 |some (.seq _ (.seq _ (.seq a _)))=>a
 |_=>.skip
structure G7(W:R3)(n:Nat):Prop where
 c:W.heap[n]? =RX (.cells #[.string ⟨#[120]⟩,.int .i64 1] 63 (0,0))
 v0:W.heap[n+1]? =RX (.cells #[.bool R6,.int .i64 7,.string ⟨#[]⟩] 59 (0,0))
 v1:W.heap[n+2]? =RX (.cells #[.bool R7,.int .i64 0,.string ⟨#[]⟩] 59 (0,0))
 r:W.heap[n+3]? =RX (.cells #[.slice (RX ⟨n+1,0,RZ⟩) 1 1,.slice (RX ⟨n+2,0,RZ⟩) 1 1] 43 (0,0))
 t:W.heap[n+4]? =RX (.cells #[.slice (RX ⟨n,0,RZ⟩) 1 1,.slice (RX ⟨n+3,0,RZ⟩) 2 2] 46 (0,0))
def G7.go{d W':R3}{n:Nat}(h:G7 d n)(a:∀ (b:Nat) c t,d.heap[b]? =RX (.cells c t (0,0))→W'.heap[b]? =RX (.cells c t (0,0))):G7 W' n:=⟨a _ _ _ h.c,a _ _ _ h.v0,a _ _ _ h.v1,a _ _ _ h.r,a _ _ _ h.t⟩
theorem PX(a:R3)(v:Nat→R2):(PU We).wp (aa.of RY) (fun e a' W'=>e= .normal∧Below a.heap.size a W'∧Knows a' 59 [(1,.pointer (RX ⟨a.heap.size+4,0,RZ⟩))]∧a'.defers=[]∧G7 W' a.heap.size) ⟨#[v 0,v 1,v 2,v 3,v 4,v 5,v 6,v 7,v 8,v 9,v 10,v 11,v 12,v 13,v 14,v 15,v 16,v 17,v 18,v 19,v 20,v 21,v 22,v 23,v 24,v 25,v 26,v 27,v 28,v 29,v 30,v 31,v 32,v 33,v 34,v 35,v 36,v 37,v 38,v 39,v 40,v 41,v 42,v 43,v 44,v 45,v 46,v 47,v 48,v 49,v 50,v 51,v 52,v 53,v 54,v 55,v 56,v 57,v 58],[]⟩ a:=by
 unfold PU We;dsimp only;go_wp2;refine⟨(((((Below.refl _ _).alloc (R8 _) _).alloc (by simp) _).alloc (by simp;omega) _).alloc (by simp;omega) _).alloc (by simp;omega) _,Knows.cons (l:=[]) ⟨rfl,fun s v b=>by simp at b⟩ rfl,⟨?_,?_,?_,?_,?_⟩⟩
 ·show(((((a.heap.push _).push _).push _).push _).push _)[a.heap.size]? =_;rw[SN,if_neg (by simp only[TP];omega)];rw[SN,if_neg (by simp only[TP];omega)];rw[SN,if_neg (by simp only[TP];omega)];rw[SN,if_neg (by simp only[TP];omega)];rw[SN,if_pos (by simp only[TP])]
 ·show(((((a.heap.push _).push _).push _).push _).push _)[a.heap.size+1]? =_;rw[SN,if_neg (by simp only[TP];omega)];rw[SN,if_neg (by simp only[TP];omega)];rw[SN,if_neg (by simp only[TP];omega)];rw[SN,if_pos (by simp only[TP])]
 ·show(((((a.heap.push _).push _).push _).push _).push _)[a.heap.size+2]? =_;rw[SN,if_neg (by simp only[TP];omega)];rw[SN,if_neg (by simp only[TP];omega)];rw[SN,if_pos (by simp only[TP])]
 ·show(((((a.heap.push _).push _).push _).push _).push _)[a.heap.size+3]? =_;rw[SN,if_neg (by simp only[TP];omega)];rw[SN,if_pos (by simp only[TP])]
 ·show(((((a.heap.push _).push _).push _).push _).push _)[a.heap.size+4]? =_;rw[SN,if_pos (by simp only[TP])]
def G7.ah{c:R3}{n:Nat}(h:G7 c n):vB c (.slice (RX ⟨n,0,RZ⟩) 1 1) fZ:=by
 obtain⟨d,e⟩:=mi h.c;refine⟨_,n,0,1,rfl,R8 _,fun _=>rfl,fun _=>Sf h.c,fun b a=>?_,fun b a=>?_⟩
 ·have:b=0:=by simp[fZ] at a;omega
  subst this;exact d
 ·have:b=0:=by simp[fZ] at a;omega
  subst this;exact e
theorem G7.rows{c:R3}{n:Nat}(h:G7 c n):B2 c (.slice (RX ⟨n+3,0,RZ⟩) 2 2) jv:=by
 obtain⟨d,i⟩:=mi h.r;obtain⟨e,f,g⟩:=bE h.v0;obtain⟨j,k,l⟩:=bE h.v1;refine⟨_,n+3,0,2,rfl,R8 _,fun _=>rfl,fun _=>Sf h.r,fun a b=>?_⟩;have:a=0∨a=1:=by simp[jv] at b;omega
 rcases this with rfl|rfl
 ·refine⟨_,d,_,n+1,0,1,rfl,fun _=>rfl,fun _=>Sf h.v0,fun a b=>?_,fun a b=>?_,fun a b=>?_⟩
  all_goals have:a=0:=by simp[jv] at b;omega
  all_goals subst this
  ·exact e
  ·exact f
  ·exact g
 ·refine⟨_,i,_,n+2,0,1,rfl,fun _=>rfl,fun _=>Sf h.v1,fun a b=>?_,fun a b=>?_,fun a b=>?_⟩
  all_goals have:a=0:=by simp[jv] at b;omega
  all_goals subst this
  ·exact j
  ·exact k
  ·exact l
theorem Mz{a:R3}{n:Nat}(h:G7 a n)(c:R2)(f:qx a c [0]):SF (aa.of RY) 20 #[.agg #[.slice (RX ⟨n,0,RZ⟩) 1 1,.slice (RX ⟨n+3,0,RZ⟩) 2 2],.agg #[.int .i64 1,c,.bool R7]] a fun e w'=>e= .returned (.tuple #[.string qQ,.int .i64 0])∧Below a.heap.size a w':=by
 refine(Fu (es:=[0]) (.inl (by decide)) fZ jv 1 R7 _ _ _ a (by decide) (by decide) (by decide) (by decide) D6.vals h.ah h.rows f).mono ?_;rintro e w' ⟨s,n,rfl,g,d⟩;refine⟨?_,d⟩;rcases g with⟨b,_⟩|⟨_,b,_⟩|⟨_,_,b,_⟩|⟨_,_,_,rfl,rfl⟩
 ·exact absurd D6.table b
 ·exact absurd ⟨by decide,by decide,D6.mR⟩ b
 ·exact absurd b (by have:=Mx;show ¬ 65536<(jx fZ jv [0] R7 1).length;omega)
 ·rfl
theorem PY(a:R3)(n:Nat)(h:G7 a n)(v:Nat→R2)(f:v 1= .pointer (RX ⟨n+4,0,RZ⟩)):(PV We).wp (aa.of RY) (fun e a' W'=>e= .normal∧Below a.heap.size a W'∧Knows a' 59 [(2,.string qQ),(3,.int .i64 0)]∧a'.defers=[]) ⟨#[v 0,v 1,v 2,v 3,v 4,v 5,v 6,v 7,v 8,v 9,v 10,v 11,v 12,v 13,v 14,v 15,v 16,v 17,v 18,v 19,v 20,v 21,v 22,v 23,v 24,v 25,v 26,v 27,v 28,v 29,v 30,v 31,v 32,v 33,v 34,v 35,v 36,v 37,v 38,v 39,v 40,v 41,v 42,v 43,v 44,v 45,v 46,v 47,v 48,v 49,v 50,v 51,v 52,v 53,v 54,v 55,v 56,v 57,v 58],[]⟩ a:=by
 have c:Sb (G7 a n):=h;obtain⟨l,m⟩:=mi c.out.t;clear h;rw[f];unfold PV We;dsimp only
 go_wp2_with (go_at_call 20;refine(Mz (c.out.go fun i j k b=>alloc_old _ (Sf b) b) _ ⟨_,a.heap.size,0,1,rfl,fun _=>rfl,fun _=>by simp,fun g d=>?_⟩).mono ?_)
 ·have:g=0:=by simp at d;omega
  subst this;simp
 rintro e o ⟨rfl,b⟩;go_wp2;refine⟨((Below.refl _ a).alloc (R8 _) _).trans (b.mono (by simp)),Knows.cons (Knows.cons (l:=[]) ⟨rfl,fun s v h=>by simp at h⟩ rfl) rfl⟩
def PW (fn:UB):U7:=match fn.body with
 |some (.seq _ (.seq _ (.seq _ (.seq _ (.seq a _)))))=>a
 |_=>.skip
theorem Od{b:R3}{base:Nat}{v:R2}(h:rE b base v [[⟨R6,7,⟨#[]⟩⟩],[⟨R7,0,⟨#[]⟩⟩]]):∃ g cap a c,v= .slice (RX ⟨g,0,RZ⟩) 2 cap∧b.cell? ⟨g,0,RZ⟩=RX (.slice (RX ⟨a,0,RZ⟩) 1 c)∧b.cell? ⟨a,0,RZ⟩=RX (.bool R6)∧b.cell? ⟨a,1,RZ⟩=RX (.int .i64 7)∧b.cell? ⟨a,2,RZ⟩=RX (.string ⟨#[]⟩):=by
 obtain⟨p,f,j,-⟩:=h;obtain⟨o,k,i⟩:=j 0 _ rfl;have l:=f;have e:=i;rcases f.2 with⟨_,d⟩|⟨g,cap,m,rfl,-⟩
 ·cases d
 rcases i.2 with⟨_,d⟩|⟨a,c,n,rfl,-⟩
 ·cases d
 exact⟨g,cap,a,c,rfl,l.cells (g:=g) rfl 0 _ k,e.cells (g:=a) rfl 0 _ rfl,e.cells (g:=a) rfl 1 _ rfl,e.cells (g:=a) rfl 2 _ rfl⟩
def yJ:qQ.size=31:=by
 show(Pk.strOf _).size=31;rw[Pk.mh];exact Mx
theorem Oc(a:R3)(v:Nat→R2)(c:v 2= .string qQ)(d:v 3= .int .i64 0)(g:v 5= .int .i64 0){base:Nat}(f:rE a base (v 4) [[⟨R6,7,⟨#[]⟩⟩],[⟨R7,0,⟨#[]⟩⟩]]):(PW We).wp (aa.of RY) (fun e a' W'=>e= .normal∧Below a.heap.size a W'∧Knows a' 59 [(0,.bool R7)]∧a'.defers=[]) ⟨#[v 0,v 1,v 2,v 3,v 4,v 5,v 6,v 7,v 8,v 9,v 10,v 11,v 12,v 13,v 14,v 15,v 16,v 17,v 18,v 19,v 20,v 21,v 22,v 23,v 24,v 25,v 26,v 27,v 28,v 29,v 30,v 31,v 32,v 33,v 34,v 35,v 36,v 37,v 38,v 39,v 40,v 41,v 42,v 43,v 44,v 45,v 46,v 47,v 48,v 49,v 50,v 51,v 52,v 53,v 54,v 55,v 56,v 57,v 58],[]⟩ a:=by
 obtain⟨n,l,o,m,b,q,i,j,k⟩:=Od f;have p:=yJ;clear f;rw[c,d,g,b];clear c d g b;generalize qQ=s at*;unfold PW We;dsimp only;go_wp2;exact⟨Below.refl _ _,Knows.cons (l:=[]) ⟨rfl,fun s v h=>by simp at h⟩ rfl⟩
end Cc
namespace Cc
open Go Go.Conc
open Go.RowKit (Below)
open Ec
section
variable {P0 P:Sd}{S own:Nat→Prop}{w:R3}{a:T6}{o:Tx}
theorem E2{t e:Sg}{i:UL}{z v:R2}{x:S3}(m:o.op= .buildSlice t 1 #[(0,x)])(q:a.eval x=v)(y:v.cells=#[v])(p:P.underlying t=RX (.slice e))(l:P.info? e=RX i)(r:i.zero=RX z)(C:z.cells.size=1)(d:i.size=1):
 ∀ c,RelB (fun b=>S b∨own b) w c→∃ w',(SE a.eval o).run P c= .ok (.value (.slice (RX ⟨c.heap.size,0,RZ⟩) 1 1)) w'∧w'.heap=c.heap.push (.cells #[v] e)∧w'.tape=c.tape∧w'.os=c.os∧w'.output=c.output∧∀ h∈(SE a.eval o).events P c #[],iJ c.heap.size S own h:=by
 intro c B;have g:Vh (fun s=>RX (s*i.size,i.size)) ((VA (1*i.size)).map (z.cells[· % z.cells.size]!)) #[(0,v)].toList=RX #[v]:=by
  rw[d];simp[Vh,y,VA,Array.zipIdx];apply Array.ext
  ·simp
  ·intro s A j;simp at j;subst j;simp
 have n:=run_buildSlice (P:=P) c t e 1 #[(0,v)] #[v] i z p l r (by rw[d];decide) (by rw[d];decide) g;refine⟨c.alloc (.cells #[v] e),?_,rfl,rfl,rfl,rfl,fun h f=>?_⟩
 ·unfold SE;simp[m,q,n]
 ·have u:(UK t 1 #[(0,v)]).events P c #[]=#[]:=by
   simp only[List.toArray,Nat.one_mul,VO,d] at g;simp[UK,run_underlying p,V3,UX,T9,l,r,d,g,newRow]
  unfold SE at f;simp only[m] at f;simp[q,n,u] at f
end
section
variable {P0 P:Sd}{Post:R2→R3→Prop}{cs:List Sn}{w:R3}{b:Sn}{a:T6}{k:List UC}
def vQ(h:Twins P0 P){n:Nat}{l:List (Nat×R2)}(f:Knows a n l)(j:a.defers=[])(c:U7)(Q:R3→T6→R3→Prop)(m:∀ s,Item.code (.refuse s)∉k)(r:ed P0 (b.at a (.code c :: k)) [])
 (p:∀ v d,(∀ s x,l.lookup s=RX x→v s=x)→(∀ (b:Nat) o,w.heap[b]? =RX o→aR P0 o→d.heap[b]? =RX o)→w.heap.size≤d.heap.size→c.wp P0 (fun e a' W'=>e= .normal∧Below d.heap.size d W'∧Q d a' W') ⟨((SS n).map v).toArray,[]⟩ d)
 (g:∀ a' d W' w',(∀ (b:Nat) o,w.heap[b]? =RX o→aR P0 o→d.heap[b]? =RX o)→w.heap.size≤d.heap.size→Below d.heap.size d W'→Q d a' W'→Un W' w'→RelB (ff w) w w'→Xe P0 P Post (ff w') (b.at a' k) cs w'):Xe P0 P Post (ff w) (b.at a (.code c :: k)) cs w:=
 P3 h m r (fun d i q=>by
  have:=p (aN a) d f.slot i q;rwa [← Qs f.size j] at this) g
end
def RK(m:Nat):Knows ⟨#[] ++ S8 (m - 0) Tq,[]⟩ m []:=⟨by simp,fun s v c=>by simp at c⟩
def QZ{c:U7}(hc:∀ s,c≠.refuse s):∀ s,Item.code (.refuse s)∉[Item.code c]:=fun s d=>by
 simp only[List.mem_singleton,Item.code.injEq] at d;exact hc s d.symm
theorem rE.like{P0:Sd}{w e:R3}{base:Nat}{v:R2}{p:List (List az)}(h:rE w base v p)(y:∀ (b:Nat) o,w.heap[b]? =RX o→aR P0 o→e.heap[b]? =RX o):rE e base v p:=by
 have q:∀ {f:Sg} {j i:Nat} {v:R2} {l:List R2},w.ownsRow base f j v i l→e.ownsRow base f j v i l:=fun {f j i v l} h=>by
  obtain⟨n,⟨c,d⟩|⟨m,t,u,c,d,g,x⟩⟩:=h
  ·exact⟨n,.inl ⟨c,d⟩⟩
  ·exact⟨n,.inr ⟨m,t,u,c,d,y m _ g trivial,x⟩⟩
 obtain⟨C,c,d,g⟩:=h;exact⟨C,q c,fun A D z=>by
  obtain⟨B,r,s⟩:=d A D z;exact⟨B,r,q s⟩,g⟩
def QS:∃ c,RY.info? 3=RX c∧c.zero=RX (.int .i64 0)∧c.size=1:=⟨Tryz.t3,by kernel_rfl,rfl,rfl⟩
def F9:(TS.name == "runtime.NumGoroutine")=R6:=by kernel_rfl
theorem Oe{Post:R2→R3→Prop}{w0:R3}{cb aD:Nat}(u:cb<w0.heap.size)(t:w0.cell? ⟨cb,0,RZ⟩=RX (.int .i64 0)):kG (aa.of RY) RY Post 13 #[.string qQ,.slice (RX ⟨cb,0,RZ⟩) 1 aD,.slice RZ 0 0,.bool R6] w0 (zA ([[⟨R6,7,⟨#[]⟩⟩],[⟨R7,0,⟨#[]⟩⟩]],0) w0):=by
 have i:qQ.size≤Sw:=by rw[yJ];decide
 obtain⟨e,hF⟩:=Gk qQ w0 i;have f:=xa D6 R7 (by rw[Mx];decide);have r:e=RX (fZ.zip [0],de jv fZ [0] R7 1 (eY jv.length 1)):=by
  cases e with
  |none=>exact absurd f (hF _ _)
  |some y=>
   obtain⟨A,z⟩:=y;obtain⟨m,n⟩:=hF.2 _ _ f;rw[← m,← n]
 subst r;obtain⟨V,g⟩:=CO w0 hF;have h:=zi D6 g;have p:V 0 0=[⟨R6,7,⟨#[]⟩⟩]:=h 0 (by decide) 0 (by decide);have q:V 1 0=[⟨R7,0,⟨#[]⟩⟩]:=h 1 (by decide) 0 (by decide);have x:cY (RX (fZ.zip [0],de jv fZ [0] R7 1 (eY jv.length 1))) V [0] [] R6=([[⟨R6,7,⟨#[]⟩⟩],[⟨R7,0,⟨#[]⟩⟩]],0):=by
  obtain⟨j,l,s⟩:=Oa;rw[s];exact QM j l p q
 have:=rq (Post:=Post) (ah:=[0]) (rs:=[]) (co:=RX ⟨cb,0,RZ⟩) (cb:=cb) (aV:=0) (aD:=aD) (ro:=RZ) (rb:=0) (bh:=0) (aF:=0) (sk:=R6) (w0:=w0) i hF g (by decide) (by decide) (fun _=>rfl) (fun _=>u) (fun d v=>by
  have:d=0:=by simp at v;omega
  subst this;exact t) ⟨fun c=>by simp at c,fun c=>by simp at c,fun d c=>by simp at c,fun d c=>by simp at c,fun d c=>by simp at c,fun d c=>by simp at c,fun d c=>by simp at c,fun d c=>by simp at c,fun d c=>by simp at c⟩
 rw[x] at this;exact this
theorem D8{Post:R2→R3→Prop}{w0:R3}:kG (aa.of RY) RY Post 26 #[] w0 (fun e w'=>e= .returned (.bool R7)∧(∀ b,b<w0.heap.size→w'.heap[b]? =w0.heap[b]?)∧w0.heap.size≤w'.heap.size):=by
 intro K cs ar bs ab Q;have d:=fV (aa.of RY) RY Post;refine Xe.go (own:=ff w0) ?_ (fun b f=>f) ab;rw[enter_at _ Tryz.func26 rfl];have c:=RK 59;refine aH d ?_;refine aU d [0] rfl ?_;refine m8 d c (.bool R6) fun c=>?_;refine aj d ?_;refine aH d ?_;refine vQ dJ c (by simp only[put_defers]) (PU We) (fun g j B=>Knows j 59 [(1,.pointer (RX ⟨g.heap.size+4,0,RZ⟩))]∧j.defers=[]∧G7 B g.heap.size) (QZ fun s f=>by cases f) (dM rfl (by simp only[put_defers]) (by kernel_rfl)) (fun v g n u D=>PX g v) fun a8 g a3 A u D bc al U p=>?_;clear c;obtain⟨c,i,L⟩:=al;have T:G7 A g.heap.size:=L.go fun b K a0 h=>U.row.1 h;clear L;generalize g.heap.size=G at*;refine aH d ?_;refine vQ dJ c i (PV We) (fun g j B=>Knows j 59 [(2,.string qQ),(3,.int .i64 0)]∧j.defers=[]) (QZ fun s f=>by cases f) (dM rfl i (by kernel_rfl)) (fun v g n u D=>PY g G (T.go fun b K a0 h=>u b _ h trivial) v (n 1 _ rfl)) fun a9 a4 a5 a1 bl bt bd am bi q=>?_;clear i c;obtain⟨c,i⟩:=am;refine aH d ?_;refine aU d [0,1,2,3,4,5,6,7] rfl ?_;refine bV d c fun c=>?_;obtain⟨bx,W,aw,F⟩:=QS;refine kV d (fun b h=>h.elim VP (fun f=>f)) (by decide) rfl rfl (.cells #[.int .i64 0] 3) trivial (fun G=>.slice (RX ⟨G,0,RZ⟩) 1 1) (E2 rfl rfl rfl Tryz.underlying22 W aw rfl F) fun y bA br bv r V=>?_;replace c:=c.put (d:=23) (by decide) (.slice (RX ⟨y,0,RZ⟩) 1 1);refine n9 (vs:= #[.string qQ,.slice (RX ⟨y,0,RZ⟩) 1 1,.slice RZ 0 0,.bool R6]) (R:=fun A e w'=>zA ([[⟨R6,7,⟨#[]⟩⟩],[⟨R7,0,⟨#[]⟩⟩]],0) A e w') rfl rfl rfl rfl (rF (c.of rfl) (c.of rfl) rfl rfl) Tryz.func13 F9 rfl (dM rfl (by simp only[put_defers];exact i) (by kernel_rfl)) (fun x l=>?_) (fun x v I l R E ad=>?_) (fun x bb w' f=>?_) (fun x w' f=>?_)
 ·have M:x.heap[y]? =_:=(l.at_ y (.inr rfl)).trans V;exact Oe (R9.1 M).1 (by unfold Sr;rw[M];rfl)
 ·obtain⟨H,e,Z,-,Y,F⟩:=R;have O:=Vj e;subst O;have X:∀ b,b<w0.heap.size→I.heap[b]? =w0.heap[b]? :=fun b h=>by
   have J:b<A.heap.size:=Sa h p.size;have C:b<a1.heap.size:=Sa J q.size;refine(Y b ?_).trans ((l.at_ b (.inl C)).trans ((r.at_ b (.inr C)).trans ((q.at_ b J).trans (p.at_ b h))));exact Sa C (Ss r.size l.size)
  have z:w0.heap.size≤I.heap.size:=Ss p.size (Ss q.size (Ss r.size (Ss l.size F)));refine Xe.go (own:=ff I) ?_ (fun b f=>f) ad;replace c:=c.put (d:=24) (by decide) (.tuple #[H,.int .i64 0]);refine bV d c fun c=>?_;refine oB d c fun c=>?_;refine oB d c fun c=>?_;refine fE d c fun c=>?_;refine fE d c fun c=>?_;refine aj d ?_;refine aH d ?_;have bo:=i;refine vQ dJ c (by simp only[put_defers];exact i) (PW We) (fun g j B=>Knows j 59 [(0,.bool R7)]∧j.defers=[]) (QZ fun s f=>by cases f) (dM rfl (by simp only[put_defers];exact i) (by kernel_rfl)) (fun v g n u D=>Oc g v (n 2 _ rfl) (n 3 _ rfl) (n 5 _ rfl) (base:=x.heap.size) (by rw[n 4 _ rfl];exact Z.like u)) fun ba a6 a7 bB bm bu be ao bj m=>?_
  ·obtain⟨c,i⟩:=ao;refine om d ?_;have N:=jn (P:=RY) Tryz.results26 (c.slot 0 _ rfl);refine gp d rfl i Tryz.func26 N.1 N.2 ?_;intro _ a2 t ae;refine Q (.returned (.bool R7)) a2 ⟨rfl,fun b h=>(t.at_ b (Sa h (Ss z m.size))).trans ((m.at_ b (Sa h z)).trans (X b h)),Ss z (Ss m.size t.size)⟩ ae ⟨?_,?_,?_,Ss z (Ss m.size t.size)⟩ (lS ar _)
   ·exact t.tape.trans (m.tape.trans (E.tape.trans (l.tape.trans (r.tape.trans (q.tape.trans p.tape)))))
   ·exact t.os.trans (m.os.trans (E.os.trans (l.os.trans (r.os.trans (q.os.trans p.os)))))
   ·exact t.output.trans (m.output.trans (E.output.trans (l.output.trans (r.output.trans (q.output.trans p.output)))))
 ·obtain⟨H,e,-⟩:=f;cases e
 ·obtain⟨H,e,-⟩:=f;cases e
end Cc
namespace Ec
open Go.RowKit Pk Pm
theorem Na(a:Option SL)(n cap:Nat)(w:R3)(g:n≤Sw)(hc:n≤cap)(f:0<n→∃ b off,a=RX ⟨b,off,RZ⟩):
 SF (aa.of RY) 8 #[.slice a n cap] w fun e w'=>(∃ d,min n 16≤d∧e= .returned (.slice a (min n 16) d))∧w'=w:=by
 unfold Sw at g;by_cases h:16<n
 ·obtain⟨b,off,rfl⟩:=f (by omega);have c:min n 16=16:=by omega
  rw[c];go_enter aa.func8,Tryz.ntmps8;go_wp2;go_ret;exact⟨⟨_,by omega,rfl⟩,rfl⟩
 ·have c:min n 16=n:=by omega
  rw[c];go_enter aa.func8,Tryz.ntmps8;go_wp2;go_ret;exact⟨⟨_,hc,rfl⟩,rfl⟩
theorem za(a:Option SL)(n cap:Nat)(w:R3)(g:n≤Sw)(hc:n≤cap)(f:0<n→∃ b off,a=RX ⟨b,off,RZ⟩):
 SF (aa.of RY) 9 #[.slice a n cap] w fun e w'=>(∃ d,min n 16≤d∧e= .returned (.slice a (min n 16) d))∧w'=w:=by
 unfold Sw at g;by_cases h:16<n
 ·obtain⟨b,off,rfl⟩:=f (by omega);have c:min n 16=16:=by omega
  rw[c];go_enter aa.func9,Tryz.ntmps9;go_wp2;go_ret;exact⟨⟨_,by omega,rfl⟩,rfl⟩
 ·have c:min n 16=n:=by omega
  rw[c];go_enter aa.func9,Tryz.ntmps9;go_wp2;go_ret;exact⟨⟨_,hc,rfl⟩,rfl⟩
end Ec
namespace Cc
open Go Go.Conc
open Go.RowKit
open Ec
open Pk
section
variable {P0 P:Sd}{Post:R2→R3→Prop}{cs:List Sn}{w:R3}{b:Sn}{a:T6}{k:List UC}
theorem Og(h:Twins P0 P){n:Nat}{l:List (Nat×R2)}(B:Knows a n l)(L:a.defers=[])(c:U7)(Q:R3→T6→R3→Prop)(M:∀ s,Item.code (.refuse s)∉k)(S:ed P0 (b.at a (.code c :: k)) [])
 (N:∀ v d,(∀ s x,l.lookup s=RX x→v s=x)→(∀ (b:Nat) o,w.heap[b]? =RX o→aR P0 o→d.heap[b]? =RX o)→w.heap.size≤d.heap.size→c.wp P0 (fun e a' W'=>e= .ret∧Si d.heap.size d W'∧Q d a' W') ⟨((SS n).map v).toArray,[]⟩ d)
 (J:∀ a' d W' w' todo,(∀ (b:Nat) o,w.heap[b]? =RX o→aR P0 o→d.heap[b]? =RX o)→w.heap.size≤d.heap.size→Si d.heap.size d W'→Q d a' W'→Un W' w'→RelB (ff w) w w'→Xe P0 P Post (ff w') {b.at a' todo with mode:=.returning} cs w'):Xe P0 P Post (ff w) (b.at a (.code c :: k)) cs w:=by
 intro W V f O;refine Gz h (Q:=fun i e a' W'=>e= .ret∧∃ d,d.heap=i.heap∧Si d.heap.size d W'∧Q d a' W') (fun i m q=>?_) M (fun i id a w g=>by cases g.1) (fun i l a w g=>by cases g.1) (fun i a w g=>by cases g.1) (fun i e a' E w' q H m g j z=>?_) S O
 ·intro F U G;have C:=N (aN a) (sh q 0 i) B.slot (fun b o p u=>m.at_ b o ((f.at_ b (R9.1 p).1).trans p) u) (by show w.heap.size≤i.heap.size;rw[← m.un.size];exact f.size);rw[← Qs B.size L] at C;obtain⟨e,a',w',⟨r,j,I⟩,K⟩:=C F U G;exact⟨e,a',w',⟨r,sh q 0 i,rfl,j,I⟩,K⟩
 ·obtain⟨rfl,d,y,t,g⟩:=g;have T:d.heap.size≤w'.heap.size:=by rw[j.un.size];exact t.size
  have A:d.heap.size=V.heap.size:=by rw[y,m.un.size]
  have hrel:RelB (ff w) w w':=⟨fun b D=>by
   have r:E.heap[b]? =d.heap[b]? :=t.block b (by rw[A];exact Sa D f.size);exact(j.same m.un (by rw[r,y])).trans (f.at_ b D),Ss f.size (by rw[← A];exact T),z.tape.trans f.tape,z.os.trans f.os,z.output.trans f.output⟩
  intro todo _ R;exact Xe.go (J a' d (sh q H E) w' todo (fun b o p u=>by rw[y];exact m.at_ b o ((f.at_ b (R9.1 p).1).trans p) u) (by rw[A];exact f.size) t g ⟨j.un.size,j.un.at_,j.un.os,j.un.output⟩ hrel) (fun b h=>h) R
end
end Cc
namespace Cc
open Go Go.Conc
open Go.RowKit (Below)
open Ec
def iE{w0 a b:R3}(h:RelB (ff w0) w0 a)(c:RelB (ff a) a b):RelB (ff w0) w0 b:=h.trans (c.mono fun e d=>Sa d h.size)
def xT{w0 a c:R3}(h:RelB (ff w0) w0 a)(e:∀ b,b<a.heap.size→c.heap[b]? =a.heap[b]?)(f:a.heap.size≤c.heap.size)(d:Sm a c):RelB (ff w0) w0 c:=iE h ⟨e,f,d.tape,d.os,d.output⟩
def l7{w0 c:R3}(h:RelB (ff w0) w0 c):∀ (b:Nat) o,w0.heap[b]? =RX o→aR (aa.of RY) o→c.heap[b]? =RX o:=fun b o a _=>(h.at_ b (R9.1 a).1).trans a
theorem rE.RU{d:R3}{base:Nat}{v:R2}{a:List (List az)}(h:rE d base v a):B2 d v a∧a.length≤Sw∧∀ r∈a,r.length≤Sw:=by
 obtain⟨H,e,m,-⟩:=h;have o:∀ {k:Sg} {u g:Nat} {v:R2} {w:List R2},d.ownsRow base k u v g w→g≤Sw:=fun {k u g v w} h=>by
  rcases h.2 with⟨_,l⟩|⟨b,j,x,_,_,_,p,y,_⟩
  ·omega
  ·omega
 refine⟨?_,o e,fun r C=>?_⟩
 ·have D:=e;rcases e.2 with⟨rfl,l⟩|⟨b,j,x,rfl,E,z,p,y,F,G⟩
  ·have:a=[]:=TA l;subst this;exact⟨RZ,0,0,0,rfl,R8 _,fun h=>by simp at h,fun h=>by simp at h,fun c h=>by simp at h⟩
  ·refine⟨RX ⟨b,0,RZ⟩,b,0,j,rfl,p,fun _=>rfl,fun _=>(R9.1 z).1,fun c B=>?_⟩;obtain⟨i,q,f⟩:=m c a[c] (Sk B);have n:=D.cells (g:=b) rfl c i q;rw[Vl] at n;exact⟨i,n,qV.cy f⟩
 ·obtain⟨t,A,rfl⟩:=TK C;obtain⟨i,q,f⟩:=m t a[t] (Sk A);exact o f
theorem cM.take{w:R3}{f:Option SL}{b off:Nat}{l:List bZ}(h:cM w f b off l)(n:Nat):cM w f b off (l.take n):=by
 have d:∀ a,a<(l.take n).length→a<l.length:=fun a c=>by simp at c;omega
 exact⟨fun e=>h.addr (d 0 e),fun e=>h.lt (d 0 e),fun a c=>by rw[TH];exact h.c0 a (d a c),fun a c=>by rw[TH];exact h.c1 a (d a c),fun a c=>by rw[TH];exact h.c2 a (d a c),fun a c=>by rw[TH];exact h.c3 a (d a c),fun a c=>by rw[TH];exact h.c4 a (d a c),fun a c=>by rw[TH];exact h.c5 a (d a c),fun a c=>by rw[TH];exact h.c6 a (d a c)⟩
def QR:(Tryz.f8.name == "runtime.NumGoroutine")=R6:=by kernel_rfl
def Ed:(Tryz.f9.name == "runtime.NumGoroutine")=R6:=by kernel_rfl
def Oj:(We.name == "runtime.NumGoroutine")=R6:=by kernel_rfl
theorem QO{Post:R2→R3→Prop}{b:Sn}{a:T6}{todo:List UC}{w:R3}{fn:UB}{v:R2}(q:RY.inits.idxOf? b.fn=RZ)(n:b.kind= .normal)(o:a.defers=[])(i:RY.funcs[b.fn]? =RX fn)(j:(∀ w,(SX fn a.tmps).run RY w= .ok v w)∧∀ w,(SX fn a.tmps).events RY w #[]=#[])(r:∀ e,RelB (ff w) w e→Post v e):Xe (aa.of RY) RY Post (ff w) {b.at a todo with mode:=.returning} [] w:=by
 intro u e t x;refine E1 (v:=v) q (fun y k=>⟨rfl,o,n,fn,i,j.1 _⟩) (fun c f d p l g=>?_) (fun c f=>?_)
 ·have:d=fn:=VT (p.symm.trans i);subst this;rw[VN] at g;have m:(SX d a.tmps).events RY c #[]=#[]:=j.2 c;have h:l∈(SX d a.tmps).events RY c #[]:=g;rw[m] at h;simp at h
 ·obtain⟨k,rfl⟩:=f;exact r _ (t.trans (RelB.at _ _ _))
section
variable {Post:R2→R3→Prop}{s:ByteArray}{ah:List Int}{rs:List bZ}{co:Option SL}{cb aV aD:Nat}{ro:Option SL}{rb bh aF:Nat}{w0:R3}
end
end Cc
namespace Cc
open Go Go.Conc
open Ec (az bZ cM)
def Ro:RY.cellsOf 3=1:=by kernel_rfl
def RP:RY.cellsOf 4=1:=by kernel_rfl
def RS:RY.cellsOf 9=1:=by kernel_rfl
def RD:RY.cellsOf 59=3:=by kernel_rfl
def RR:RY.cellsOf 61=7:=by kernel_rfl
def RQ:RY.bytesOf 3=8:=by kernel_rfl
def Rp:RY.bytesOf 61=72:=by kernel_rfl
def zx {H:Type}(d:DataW H)(t:Sg):Prop:=∀ a∈d.weights RY t,a≤140737488351232
def zx.slice{H:Type}{es a:List (DataW H)}{t e:Sg}(h:zx (.slice es a) t)(b:RY.underlying t=RX (.slice e)):es.length*RY.bytesOf e≤140737488351232:=by
 have:=h ((es.length+a.length)*RY.bytesOf e) (by simp[DataW.weights,b]);exact Ss (Nat.mul_le_mul_right _ (Nat.le_add_right _ _)) this
section
variable {H:Type}{enc:Sg×R2→H}{w:R3}{spare:Nat→Bool}{held:Bool}{fuel:Nat}{v:R2}{x:DataW H×List MemPlace}
theorem open_ints(h:DataW.trod enc RY w 0 spare held fuel 22 [v]=RX x):
 ∃ (l:List Int) (k:Option SL) (b off cap:Nat),v= .slice k l.length cap∧l.length≤cap∧(0<l.length→k=RX ⟨b,off,RZ⟩)∧(0<l.length→b<w.heap.size)∧(∀ j,j<l.length→w.cell? ⟨b,off+j,RZ⟩=RX (.int .i64 (l.getD j 0)))∧(zx x.1 22→l.length≤140737488351232):=by
 rcases Deep.open_slice1 Tryz.underlying22 Ro h with⟨d,_⟩|⟨i,a,cap,m,L,V,D,F,d,_,q,J,z,rfl,B⟩
 ·simp at d;subst d;exact⟨[],RZ,0,0,0,rfl,R8 _,fun h=>by simp at h,fun h=>by simp at h,fun j h=>by simp at h,fun _=>by simp⟩
 ·simp at d;subst d;have I:a≤m:=by rw[z];split<;>omega
  have t:∀ g,g<a→∃ s:Int,w.cell? (i.add g)=RX (.int .i64 s):=by
   intro g G;obtain⟨u,y⟩:=B g (by omega);obtain⟨C,r,_,K⟩:=DataW.trod_int Tryz.underlying3 y;simp at r;exact⟨C,by rw[u,r]⟩
  obtain⟨f,p⟩:=Deep.choose_lt t;have c:((SS a).map f).length=a:=by simp
  by_cases o:0<a
  ·obtain⟨b,off,E⟩:=i;have A:E=RZ:=by simpa [V8] using World.cell?_spot (p 0 o)
   subst A;have n:∀ j,j<a→w.cell? ⟨b,off+j,RZ⟩=RX (.int .i64 (f j)):=fun j e=>by have:=p j e;rwa [TW] at this
   refine⟨(SS a).map f,RX ⟨b,off,RZ⟩,b,off,cap,by rw[c],by rw[c];exact q,fun _=>rfl,fun _=>World.block_lt_of_cell? w ⟨b,off+0,RZ⟩ (n 0 o),?_,fun hF=>?_⟩
   ·intro j e;rw[c] at e;rw[n j e];simp[e]
   ·have:=hF.slice Tryz.underlying22;rw[RQ] at this;simp at this ⊢;omega
  ·refine⟨(SS a).map f,RX i,0,0,cap,by rw[c],by rw[c];exact q,fun h=>?_,fun h=>?_,fun j h=>?_,fun _=>?_⟩
   all_goals (rw[c] at *;omega)
theorem Db{fuel:Nat}{cs:List R2}{x:DataW H×List MemPlace}(h:DataW.trod enc RY w 0 spare held fuel 59 cs=RX x):∃ y:az,cs=[.bool y.null,.int .i64 y.n,.string y.s]:=by
 obtain⟨q,r,t,m,_,e,a,b,c⟩:=Deep.trod_struct3 Tryz.underlying59 h;rw[RD] at e
 match cs,e with
 | [n,o,p],_=>
  simp[Ro,RS,RP] at a b c;obtain⟨i,d,_⟩:=DataW.trod_bool Tryz.underlying4 a;obtain⟨j,f,_,l⟩:=DataW.trod_int Tryz.underlying3 b;obtain⟨s,g,_,k⟩:=DataW.trod_string Tryz.underlying9 c;simp at d f g;subst d f g;exact⟨⟨i,j,s⟩,rfl⟩
theorem IJ(h:DataW.trod enc RY w 0 spare held fuel 23 [v]=RX x):
 ∃ (l:List bZ) (q:Option SL) (b off cap:Nat),v= .slice q l.length cap∧l.length≤cap∧cM w q b off l∧(zx x.1 23→l.length≤140737488351232):=by
 rcases Deep.open_slice Tryz.underlying23 h with⟨p,_⟩|⟨g,e,cap,m,al,D,X,p,_,J,ab,S,rfl,M⟩
 ·simp at p;subst p;exact⟨[],RZ,0,0,0,rfl,R8 _,⟨fun h=>by simp at h,fun h=>by simp at h,fun a h=>by simp at h,fun a h=>by simp at h,fun a h=>by simp at h,fun a h=>by simp at h,fun a h=>by simp at h,fun a h=>by simp at h,fun a h=>by simp at h⟩,fun _=>by simp⟩
 ·simp at p;subst p;have Z:e≤m:=by rw[S];split<;>omega
  rw[RR] at M;have O:∀ d,d<e→∃ j:bZ,w.cell? (g.add (d*7))=RX (.int .i64 j.col)∧w.cell? (g.add (d*7+1))=RX (.bool j.low.null)∧w.cell? (g.add (d*7+2))=RX (.int .i64 j.low.n)∧w.cell? (g.add (d*7+3))=RX (.string j.low.s)∧w.cell? (g.add (d*7+4))=RX (.bool j.high.null)∧w.cell? (g.add (d*7+5))=RX (.int .i64 j.high.n)∧w.cell? (g.add (d*7+6))=RX (.string j.high.s):=by
   intro d Y;obtain⟨N,P,Q⟩:=M d (by omega);obtain⟨_,o,k⟩:=World.cells?_some P;obtain⟨a3,a4,a5,ae,_,_,C,E,F⟩:=Deep.trod_struct3 Tryz.underlying61 Q
   match N,o with
   | [am,ao,ar,aw,a0,a1,a2],_=>
    simp[Ro,RD] at C E F;obtain⟨V,L,_,ad⟩:=DataW.trod_int Tryz.underlying3 C;obtain⟨U,K⟩:=Db E;obtain⟨R,I⟩:=Db F;simp at L K I;obtain⟨rfl,rfl,rfl⟩:=K;obtain⟨rfl,rfl,rfl⟩:=I;subst L;have s:=k 0 (by omega);have t:=k 1 (by omega);have u:=k 2 (by omega);have y:=k 3 (by omega);have z:=k 4 (by omega);have A:=k 5 (by omega);have B:=k 6 (by omega);rw[Deep.add_add] at s t u y z A B;exact⟨⟨V,U,R⟩,by simpa using s,by simpa using t,by simpa using u,by simpa using y,by simpa using z,by simpa using A,by simpa using B⟩
  obtain⟨f,i⟩:= @Deep.choose_lt bZ ⟨⟨0,⟨R6,0,⟨#[]⟩⟩,⟨R6,0,⟨#[]⟩⟩⟩⟩ _ _ O;have o:((SS e).map f).length=e:=by simp
  have n:∀ a,(c:a<((SS e).map f).length)→((SS e).map f)[a]=f a:=fun a c=>by simp
  by_cases G:0<e
  ·obtain⟨b,off,W⟩:=g;have T:W=RZ:=by simpa [V8] using World.cell?_spot (i 0 G).1
   subst T;have r:∀ a,a<e→w.cell? ⟨b,off+a*7,RZ⟩=RX (.int .i64 (f a).col):=fun a c=>by have:=(i a c).1;rwa [TW] at this
   refine⟨(SS e).map f,RX ⟨b,off,RZ⟩,b,off,cap,by rw[o],by rw[o];exact J,⟨fun _=>rfl,fun _=>World.block_lt_of_cell? w ⟨b,off+0*7,RZ⟩ (r 0 G),?_,?_,?_,?_,?_,?_,?_⟩,fun hF=>?_⟩
   ·intro a c;rw[n a c];exact r a (by simpa using c)
   ·intro a c;rw[n a c];have:=(i a (by simpa using c)).2.1;rwa [TW,← Td] at this
   ·intro a c;rw[n a c];have:=(i a (by simpa using c)).2.2.1;rwa [TW,← Td] at this
   ·intro a c;rw[n a c];have:=(i a (by simpa using c)).2.2.2.1;rwa [TW,← Td] at this
   ·intro a c;rw[n a c];have:=(i a (by simpa using c)).2.2.2.2.1;rwa [TW,← Td] at this
   ·intro a c;rw[n a c];have:=(i a (by simpa using c)).2.2.2.2.2.1;rwa [TW,← Td] at this
   ·intro a c;rw[n a c];have:=(i a (by simpa using c)).2.2.2.2.2.2;rwa [TW,← Td] at this
   ·have:=hF.slice Tryz.underlying23;rw[Rp] at this;simp at this ⊢;omega
  ·refine⟨(SS e).map f,RX g,0,0,cap,by rw[o],by rw[o];exact J,⟨fun h=>?_,fun h=>?_,fun a h=>?_,fun a h=>?_,fun a h=>?_,fun a h=>?_,fun a h=>?_,fun a h=>?_,fun a h=>?_⟩,fun _=>?_⟩
   all_goals (rw[o] at *;omega)
end
end Cc
namespace Cc
open Go Go.Conc
open Ec
theorem nS{j9:Nat→Bool}{d:Nat→List az}{first:Nat}{x:cF}:∀ (n p:Nat),x∈dB j9 d first p n→∃ q,q<p+n∧j9 q=R7∧x.2=d q
 |0,p,a=>by simp[dB] at a
 |n+1,p,a=>by
  simp only[dB] at a
  split at a
  ·rcases TE.1 a with rfl|a
   ·exact⟨p,by omega,by assumption,rfl⟩
   ·obtain⟨q,e,b,c⟩:=nS n (p+1) a;exact⟨q,by omega,b,c⟩
  ·obtain⟨q,e,b,c⟩:=nS n (p+1) a;exact⟨q,by omega,b,c⟩
section
variable {bs:List Bd}{ah:List Int}{rs:List bZ}{ws:List Bool}{V:Nat→Nat→List az}
theorem xW{Q:List az→Prop}(sk:Bool):∀ (r i:Nat) (pre:List cF) (n:Nat),(∀ x∈pre,Q x.2)→(∀ j,j<i+r→C6 bs ws V j=R7→∀ x∈ia bs ah rs V j,Q x.2)→∀ x∈(gH sk bs ah rs ws V (fun _=>R7) i r pre n).1,Q x.2
 |0,i,pre,n,a,b=>a
 |r+1,i,pre,n,a,b=>by
  rw[so]
  split
  ·exact xW sk r (i+1) _ _ a fun j d=>b j (by omega)
  ·split
   ·refine xW sk r (i+1) _ _ (fun x e=>?_) fun j d=>b j (by omega);rcases S7.1 e with c|c
    ·exact a x c
    ·exact b i (by omega) (by assumption) x c
   ·exact a
theorem tS(sk:Bool)(a:∀ j,C6 bs ws V j=R7):∀ (r i:Nat) (pre:List cF) (n:Nat),(gH sk bs ah rs ws V (fun _=>R7) i r pre n).2.2=0
 |0,i,pre,n=>rfl
 |r+1,i,pre,n=>by
  rw[so]
  split
  ·exact tS sk a r _ _ _
  ·rw[if_pos (a i)];exact tS sk a r _ _ _
end
structure JX(l:List (bG×Int))(ah:List Int)(rs:List bZ)(x:List az):Prop where
 len:x.length=ah.length
 may:∀ k (h:k<ah.length) (h2:k<x.length),VC (gD l ah[k]) x[k]∧(gD l ah[k]=1∨gD l ah[k]=2∨gD l ah[k]=3)
 j9:∀ k (h:k<ah.length) (h2:k<x.length),∀ r∈rs,r.col=ah[k]→qC x[k] r=R7
theorem Jd{F:AE}{V:Nat→Nat→List az}:((cY F V [] [] R7).2=3↔F=RZ)∧((cY F V [] [] R7).2=0∨F=RZ):=by
 cases F with
 |none=>exact⟨⟨fun _=>rfl,fun _=>rfl⟩,.inr rfl⟩
 |some g=>
  obtain⟨a,bs⟩:=g;have e:gh (RX (a,bs)) [] []=0:=rfl;have f:(o8 (RX (a,bs)) V [] [] R7 fun _=>R7).2.2=0:=by
   refine tS R7 (fun i=>?_) _ _ _ _;unfold C6;rw[SC];intro d h;have:(aJ a.length (([]:List Int) ++ ([]:List bZ).map bZ.col)).getD d R6=R6:=by
    simp[aJ,Sj,List.getElem?_map];cases(SS a.length)[d]? <;>rfl
   rw[this];rfl
  have c:(cY (RX (a,bs)) V [] [] R7).2=0:=by
   unfold cY;rw[if_pos e,if_pos f]
  exact⟨⟨fun b=>(by rw[c] at b;cases b),fun b=>(by cases b)⟩,.inl c⟩
theorem Fw{s:ByteArray}{F:AE}{V:Nat→Nat→List az}{ah:List Int}{rs:List bZ}{sk:Bool}(hF:kI s F)(v:sJ F V)(h:(cY F V ah rs sk).2=0):∃ l bs,F=RX (l,bs)∧(∀ c∈ah,0≤c∧c<(l.length:Int))∧∀ x∈(cY F V ah rs sk).1,JX l ah rs x:=by
 unfold cY at h ⊢;rcases Ux (gh F ah rs) with i|i;rotate_left
 ·rw[if_neg (by omega)] at h;exact absurd h (by show gh F ah rs≠0;omega)
 obtain⟨l,bs,rfl,w,_⟩:=zD i;have t:=rG.1 w;refine⟨l,bs,rfl,t.1,?_⟩;rw[if_pos i] at h ⊢;rcases Ux (o8 (RX (l,bs)) V ah rs sk fun _=>R7).2.2 with p|p;rotate_left
 ·rw[if_neg (by omega)] at h;exact absurd h (by show(o8 (RX (l,bs)) V ah rs sk fun _=>R7).2.2≠0;omega)
 rw[if_pos p];intro x e;obtain⟨N,L,rfl⟩:=Tu.1 e;refine xW (Q:=JX l ah rs) sk _ _ _ _ (fun x e=>by simp at e) (fun a Q E x e=>?_) N L;obtain⟨o,R,C,K⟩:=nS _ _ e;have m:a<bs.length:=by omega
 rw[K];have S:rowsOf bs a=bs[a].rows:=by simp[rowsOf,Sj,m]
 refine⟨by simp,fun b n u=>?_,fun b n u M G H=>?_⟩
 ·obtain⟨O,P⟩:=t.1 ah[b] (Sl n);obtain⟨c,j⟩:∃ c:Nat,ah[b]=(c:Int):=⟨ah[b].toNat,by omega⟩;have d:c<l.length:=by omega
  have D:(V a c).length=rowsOf bs a:=by
   have q:=SC.1 E c (by rw[iB];exact TC.2 d);have:(aJ l.length (ah ++ rs.map bZ.col)).getD c R6=R7:=by
    rw[Sj];simp only[aJ,List.getElem?_map,List.getElem?_range d,TU,UA];rw[List.any_eq_true];exact⟨ah[b],S7.2 (.inl (Sl n)),by rw[j];simp⟩
   rw[this] at q;simpa using q
  have k:∃ g,bs[a].chunks[c]? =RX g:=by
   have:=(hF.1.1.bP bs[a] (Sl m)).len;exact⟨_,Sk (by rw[this];simpa using d)⟩
  obtain⟨g,k⟩:=k;have I:=v a bs[a] (Sk m) c g l[c] k (Sk d);have f:o<(V a c).length:=by rw[D];omega
  have B:gD l ah[b]=l[c].1.kind:=by
   unfold gD;rw[j];simp[Sj,d]
  have A:=mF hF.1.1.pl.1 l[c].1 (Tu.2 ⟨l[c],Sl d,rfl⟩);have J:(ah.map fun b=>yD V a b o)[b]=(V a c)[o]:=by
   simp only[Vq,yD,j,Int.toNat_natCast];rw[Sj,Sk f];rfl
  rw[J,B];rcases I with⟨T,_,_,_,y⟩|⟨z,_⟩
  ·exact⟨y.ok _ (Sl f),A⟩
  ·rw[z] at f;simp at f
 ·have r:=SC.1 C M G;rw[H] at r;simpa using r
end Cc
namespace Ec
open Go.RowKit Pk
theorem CR:∀ (a b:List UInt8),Op.bytesLess a b=decide (S9 a b<0)
 | [],[]=>by simp[Op.bytesLess,S9]
 |_ :: _,[]=>by simp[Op.bytesLess,S9]
 | [],_ :: _=>by simp[Op.bytesLess,S9]
 |x :: a,d :: b=>by
  unfold Op.bytesLess S9;by_cases c:x<d
  ·simp[c]
  ·by_cases e:d<x
   ·have:x≠d:=fun f=>by subst f;exact c e
    simp[c,e,this]
   ·have:x=d:=by
     apply UInt8.le_antisymm<;>simp_all
    simp[c,e,this,CR a b]
theorem uy(x y:az)(w:R3):
 SF (aa.of RY) 28 #[.agg #[.bool x.null,.int .i64 x.n,.string x.s],.agg #[.bool y.null,.int .i64 y.n,.string y.s]] w fun e w'=>e= .returned (.bool (decide (eD x y<0)))∧Si w.heap.size w w':=by
 have f:Si w.heap.size w ((w.alloc (.cells #[.bool x.null,.int .i64 x.n,.string x.s] 59)).alloc (.cells #[.bool y.null,.int .i64 y.n,.string y.s] 59)):=gm _ _;have c:Sb (Si w.heap.size w ((w.alloc (.cells #[.bool x.null,.int .i64 x.n,.string x.s] 59)).alloc (.cells #[.bool y.null,.int .i64 y.n,.string y.s] 59))):=f;clear f;by_cases b:x.n<y.n
 ·have a:Sb (eD x y<0):=by show eD x y<0;unfold eD;rw[if_pos b];decide
  go_enter aa.func28,Tryz.ntmps28;go_wp2;go_ret;exact⟨kw (by simp[a.out]),c.out⟩
 ·by_cases d:x.n=y.n
  ·have a:Sb (eD x y=S9 x.s.data.toList y.s.data.toList):=by show eD x y=_;unfold eD;rw[if_neg b,if_neg (by omega)]
   have g:(x.n == y.n)=R7:=by simp[d]
   go_enter aa.func28,Tryz.ntmps28;go_wp2;go_ret;exact⟨kw (by rw[a.out,CR,Vi,Vi]),gm _ _⟩
  ·have a:Sb (¬ eD x y<0):=by show ¬ eD x y<0;unfold eD;rw[if_neg b,if_pos (by omega)];decide
   have g:(x.n == y.n)=R6:=by simp[d]
   go_enter aa.func28,Tryz.ntmps28;go_wp2;go_ret;exact⟨kw (by simp[a.out]),c.out⟩
def NE(c:Int)(w:R3)(hc:c=0∨c=1):SF (aa.of RY) 23 #[.int .i64 c,.int .i64 2] w fun e w'=>w'=w∧e= .returned (.int .i64 c):=by
 rcases hc with rfl|rfl
 all_goals
  go_enter aa.func23,Tryz.ntmps23;go_wp2;go_ret;exact⟨rfl,rfl⟩
theorem Ez(x:az)(k:Int)(w:R3)(p:k=1∨k=2∨k=3)(q:VC k x):
 SF (aa.of RY) 24 #[.agg #[.bool x.null,.int .i64 x.n,.string x.s],.int .i64 k] w fun e w'=>Si w.heap.size w w'∧e= .returned (.agg #[.bool x.null,.int .i64 x.n,.string x.s]):=by
 have c:Sb (∀ i j:U9,Si w.heap.size w ((w.alloc i).alloc j)):=fun i j=>((So _ _).alloc (R8 _) _).alloc (by simp) _;obtain⟨t,h,r⟩:=x;rcases q with⟨a,l,m⟩|⟨a,_,_,d,f,g⟩
 ·simp only at a l m;subst a l m;go_enter aa.func24,Tryz.ntmps24;go_wp2;simp[TT,SX,Tryz.results24,go_sem];exact c.out _ _
 ·simp only at a;subst a;rcases p with rfl|rfl|rfl
  ·have e:=d rfl;simp only at e;subst e;clear d f g;go_enter aa.func24,Tryz.ntmps24;go_wp2;simp[TT,SX,Tryz.results24,go_sem];exact c.out _ _
  ·obtain⟨b,e⟩:=f rfl;simp only at e b;subst e;clear d f g;have o:Sb (∀ w,SF (aa.of RY) 23 #[.int .i64 h,.int .i64 2] w fun e w'=>w'=w∧e= .returned (.int .i64 h)):=fun w=>NE h w b;clear b;go_enter aa.func24,Tryz.ntmps24
   go_wp2_with (go_at_call 23;refine(o.out _).mono ?_;rintro e w' ⟨n,rfl⟩;rw[n];clear n w')
   simp[TT,SX,Tryz.results24,go_sem];exact c.out _ _
  ·obtain⟨e,b⟩:=g rfl;simp only at e b;subst e;clear d f g;have s:¬ 32<r.size:=by omega
   go_enter aa.func24,Tryz.ntmps24;go_wp2;simp[TT,SX,Tryz.results24,go_sem];exact c.out _ _
def Fq(w:R3)(x:az):(binOp .eql 59 (.agg #[.bool x.null,.int .i64 x.n,.string x.s]) (.agg #[.bool x.null,.int .i64 x.n,.string x.s])).run (aa.of RY) w= .ok (.bool R7) w:=by
 go_simp
 try simp
theorem EY(x:az)(k:Int)(w:R3)(u:k=1∨k=2∨k=3)(v:VC k x):
 SF (aa.of RY) 27 #[.agg #[.bool x.null,.int .i64 x.n,.string x.s],.int .i64 k] w fun e w'=>e= .returned (.bool R7)∧Si w.heap.size w w':=by
 have B:=fun a=>Fq a x;go_enter aa.func27,Tryz.ntmps27
 go_upto_region 1 with fail
 have h:(w.alloc (.cells #[.bool x.null,.int .i64 x.n,.string x.s] 59)).heap[w.heap.size]? =RX (.cells #[.bool x.null,.int .i64 x.n,.string x.s] 59 (0,0)):=bw w _;have l:Si w.heap.size w (w.alloc (.cells #[.bool x.null,.int .i64 x.n,.string x.s] 59)):=(So _ _).alloc (R8 _) _;generalize (w.alloc (.cells #[.bool x.null,.int .i64 x.n,.string x.s] 59))=c at*;obtain⟨y,z,A⟩:=bE h;have n:Sb (∀ b,Si c.drew.heap.size c.drew b→Si w.heap.size w b):=fun b d=>l.trans (((So _ c).drew.trans d).mono l.size);have o:Sb (∀ b,Si c.drew.heap.size c.drew b→b.cell? ⟨w.heap.size,0,RZ⟩=RX (.bool x.null)∧b.cell? ⟨w.heap.size,1,RZ⟩=RX (.int .i64 x.n)∧b.cell? ⟨w.heap.size,2,RZ⟩=RX (.string x.s)):=fun b d=>by
  have t:=(((So c.heap.size c).drew.trans d).block _ (Sf h)).trans h;exact bE t
 clear h l;refine Un.open_ (fun a=>a.cell? ⟨w.heap.size,0,RZ⟩=RX (.bool x.null)∧a.cell? ⟨w.heap.size,1,RZ⟩=RX (.int .i64 x.n)∧a.cell? ⟨w.heap.size,2,RZ⟩=RX (.string x.s)) 5 (fun _ _ _ _ _ d=>d) fun C=>?_;have j:(fun a=>a.cell? ⟨w.heap.size,0,RZ⟩=RX (.bool x.null)∧a.cell? ⟨w.heap.size,1,RZ⟩=RX (.int .i64 x.n)∧a.cell? ⟨w.heap.size,2,RZ⟩=RX (.string x.s)) c.drew:=by go_keep
 refine Un.ld [5] 0 ?_
 try simp only[Sy,R1,R5,R4]
 refine Un.ld [5] 1 ?_
 try simp only[Sy,R1,R5,R4]
 refine Un.pk 2 ?_
 try simp only[Sy,R1,R5,R4]
 refine Un.on 3 fun i f=>?_;go_simp;go_at_call 24;refine(Ez x k _ u v).mono ?_;rintro e g ⟨m,rfl⟩;have s:Sb (Si w.heap.size w g):=n.out _ m;obtain⟨p,q,r⟩:g.cell? ⟨w.heap.size,0,RZ⟩=RX (.bool x.null)∧g.cell? ⟨w.heap.size,1,RZ⟩=RX (.int .i64 x.n)∧g.cell? ⟨w.heap.size,2,RZ⟩=RX (.string x.s):=o.out _ m;clear m o n y z A;refine f.out _ _ (fun _=>⟨p,q,r⟩) ?_;clear f i j;have j:(fun a=>a.cell? ⟨w.heap.size,0,RZ⟩=RX (.bool x.null)∧a.cell? ⟨w.heap.size,1,RZ⟩=RX (.int .i64 x.n)∧a.cell? ⟨w.heap.size,2,RZ⟩=RX (.string x.s)) g:=⟨p,q,r⟩;refine Un.pk 4 ?_
 try simp only[Sy,R1,R5,R4]
 refine Un.on 5 fun i f=>?_;go_simp;refine f.out _ _ (fun d=>absurd d (by decide)) ?_;clear f i
 try simp only[Sy,R1,R5,R4]
 refine Un.done (by kernel_rfl) ?_ _;clear j;go_wp2;go_ret;exact⟨rfl,s.out⟩
end Ec
namespace Cc
open Go Go.Conc
open Go.RowKit
open Ec
open Pk
def GU (fn:UB):U7:=match fn.body with
 |some (.seq _ (.seq _ (.seq _ (.seq _ (.seq _ (.seq _ (.seq a _)))))))=>a
 |_=>.skip
theorem PR(a:R3)(v:Nat→R2)(m n:Nat)(l:v 9= .bool R7)(f:v 12= .int .i64 (m:Int))(g:v 14= .int .i64 (n:Int))(d:m=3↔n=3)(j:n=3→v 13= .slice RZ 0 0):
 (GU VX).wp (aa.of RY) (fun e a' W'=>e= .normal∧Si a.heap.size a W'∧Knows a' 170 [(0,v 0),(1,v 1),(2,v 2),(3,v 3),(10,v 10),(12,v 12)]∧a'.defers=[]) ⟨#[v 0,v 1,v 2,v 3,v 4,v 5,v 6,v 7,v 8,v 9,v 10,v 11,v 12,v 13,v 14,v 15,v 16,v 17,v 18,v 19,v 20,v 21,v 22,v 23,v 24,v 25,v 26,v 27,v 28,v 29,v 30,v 31,v 32,v 33,v 34,v 35,v 36,v 37,v 38,v 39,v 40,v 41,v 42,v 43,v 44,v 45,v 46,v 47,v 48,v 49,v 50,v 51,v 52,v 53,v 54,v 55,v 56,v 57,v 58,v 59,v 60,v 61,v 62,v 63,v 64,v 65,v 66,v 67,v 68,v 69,v 70,v 71,v 72,v 73,v 74,v 75,v 76,v 77,v 78,v 79,v 80,v 81,v 82,v 83,v 84,v 85,v 86,v 87,v 88,v 89,v 90,v 91,v 92,v 93,v 94,v 95,v 96,v 97,v 98,v 99,v 100,v 101,v 102,v 103,v 104,v 105,v 106,v 107,v 108,v 109,v 110,v 111,v 112,v 113,v 114,v 115,v 116,v 117,v 118,v 119,v 120,v 121,v 122,v 123,v 124,v 125,v 126,v 127,v 128,v 129,v 130,v 131,v 132,v 133,v 134,v 135,v 136,v 137,v 138,v 139,v 140,v 141,v 142,v 143,v 144,v 145,v 146,v 147,v 148,v 149,v 150,v 151,v 152,v 153,v 154,v 155,v 156,v 157,v 158,v 159,v 160,v 161,v 162,v 163,v 164,v 165,v 166,v 167,v 168,v 169],[]⟩ a:=by
 have p:∀ a:R3,(binOp .eql 26 (.slice RZ 0 0) (.slice RZ 0 0)).run (aa.of RY) a= .ok (.bool R7) a:=fun a=>by simp only[binOp];simp[run_equal_slice_nil a 26 43 _ _ _ aa.underlying26]
 have k:=f;by_cases c:m=3
 ·have h:(m:Int)=3:=by omega
  have i:(n:Int)=3:=by have:=d.1 c;omega
  rw[h] at f;rw[i] at g;have o:=j (d.1 c);clear j d c h i k;unfold GU VX;dsimp only;simp only[l,f,o,g];go_wp2;exact⟨So _ _,((((((Knows.cons (l:=[]) ⟨rfl,fun s v b=>by simp at b⟩ rfl).cons rfl).cons rfl).cons rfl).cons rfl).cons rfl)⟩
 ·have h:((m:Int) == 3)=R6:=by simp;omega
  have i:((n:Int) == 3)=R6:=by have:n≠3:=fun b=>c (d.2 b);simp;omega
  clear j d c k;unfold GU VX;dsimp only;simp only[l,f,g];go_wp2;exact⟨So _ _,((((((Knows.cons (l:=[]) ⟨rfl,fun s v b=>by simp at b⟩ rfl).cons rfl).cons rfl).cons rfl).cons rfl).cons rfl)⟩
def b8{A B:R3}(a:Si A.heap.size A B){g o:Nat}{v:R2}(b:g<A.heap.size)(h:A.cell? ⟨g,o,RZ⟩=RX v):B.cell? ⟨g,o,RZ⟩=RX v:=(a.cell (p:=⟨g,o,RZ⟩) b).trans h
def Qh (cb a f:Nat)(c:Nat)(xb d g e m i lb k:Nat)(h:Int)(y:az)(b:R3):Prop:=
 b.cell? ⟨cb,a,RZ⟩=RX (.int .i64 (c:Int))∧b.cell? ⟨xb,d,RZ⟩=RX (.slice (RX ⟨g,e,RZ⟩) m i)∧b.cell? ⟨g,e+f,RZ⟩=RX (.bool y.null)∧b.cell? ⟨g,e+f+1,RZ⟩=RX (.int .i64 y.n)∧b.cell? ⟨g,e+f+2,RZ⟩=RX (.string y.s)∧b.cell? ⟨lb,k,RZ⟩=RX (.int .i64 h)
def Qh.kept{cb a f c xb d i e m l lb k:Nat}{j:Int}{y:az}{A B:R3}(h:Qh cb a f c xb d i e m l lb k j y A)(b:Si A.heap.size A B)(g:cb<A.heap.size∧xb<A.heap.size∧i<A.heap.size∧lb<A.heap.size):Qh cb a f c xb d i e m l lb k j y B:=
 ⟨b8 b g.1 h.1,b8 b g.2.1 h.2.1,b8 b g.2.2.1 h.2.2.1,b8 b g.2.2.1 h.2.2.2.1,b8 b g.2.2.1 h.2.2.2.2.1,b8 b g.2.2.2 h.2.2.2.2.2⟩
def MM (d g2 cb a c:Nat)(i:Int)(l0:Bool)(h:Int)(l2:ByteArray)(e:Bool)(f:Int)(g:ByteArray)(j:Bool)(k:Int)(l:ByteArray)(b:R3):Prop:=
 b.cell? ⟨d,0,RZ⟩=RX (.int .i64 i)∧b.cell? ⟨d,1,RZ⟩=RX (.bool l0)∧b.cell? ⟨d,2,RZ⟩=RX (.int .i64 h)∧b.cell? ⟨d,3,RZ⟩=RX (.string l2)∧b.cell? ⟨d,4,RZ⟩=RX (.bool e)∧b.cell? ⟨d,5,RZ⟩=RX (.int .i64 f)∧b.cell? ⟨d,6,RZ⟩=RX (.string g)∧b.cell? ⟨g2,0,RZ⟩=RX (.bool j)∧b.cell? ⟨g2,1,RZ⟩=RX (.int .i64 k)∧b.cell? ⟨g2,2,RZ⟩=RX (.string l)∧b.cell? ⟨cb,a,RZ⟩=RX (.int .i64 (c:Int))
theorem MM.kept{e g2 cb a c:Nat}{k:Int}{l0:Bool}{j:Int}{l2:ByteArray}{f:Bool}{g:Int}{i:ByteArray}{l:Bool}{m:Int}{n:ByteArray}{A B:R3}(h:MM e g2 cb a c k l0 j l2 f g i l m n A)(b:Si A.heap.size A B)(d:e<A.heap.size∧g2<A.heap.size∧cb<A.heap.size):MM e g2 cb a c k l0 j l2 f g i l m n B:=by
 obtain⟨o,p,r,s,t,u,v,w,x,y,q⟩:=h;exact⟨b8 b d.1 o,b8 b d.1 p,b8 b d.1 r,b8 b d.1 s,b8 b d.1 t,b8 b d.1 u,b8 b d.1 v,b8 b d.2.1 w,b8 b d.2.1 x,b8 b d.2.1 y,b8 b d.2.2 q⟩
def CN{a A B:R3}(h:Sb (Si a.heap.size a A))(b:Si A.heap.size A B):Sb (Si a.heap.size a B):=h.out.trans (b.mono h.out.size)
def OF{A B:R3}{b g2 cb:Nat}(h:Sb (b<A.heap.size∧g2<A.heap.size∧cb<A.heap.size))(a:Si A.heap.size A B):Sb (b<B.heap.size∧g2<B.heap.size∧cb<B.heap.size):=⟨Sa h.out.1 a.size,Sa h.out.2.1 a.size,Sa h.out.2.2 a.size⟩
theorem KT{y:az}{g:Int}{c b:az}(h:qC y ⟨g,c,b⟩=R7):y.null=R6∧(c.null=R6→decide (eD y c<0)=R6)∧(b.null=R6→decide (eD b y<0)=R6):=by
 unfold qC kP kO at h;simp only[Ve,Bool.or_eq_false_iff,Bool.and_eq_false_iff,Bool.not_eq_false'] at h;obtain⟨⟨d,e⟩,f⟩:=h;refine⟨d,fun a=>?_,fun a=>?_⟩
 ·rcases e with h|h
  ·rw[h] at a;cases a
  ·exact h
 ·rcases f with h|h
  ·rw[h] at a;cases a
  ·rw[qg];simp only[decide_eq_false_iff_not] at h ⊢;omega
def rU{x y:az}(h:∀ w:R3,SF (aa.of RY) 28 #[.agg #[.bool x.null,.int .i64 x.n,.string x.s],.agg #[.bool y.null,.int .i64 y.n,.string y.s]] w fun e w'=>e= .returned (.bool (decide (eD x y<0)))∧Si w.heap.size w w')(e:decide (eD x y<0)=R6):Sb (∀ w:R3,SF (aa.of RY) 28 #[.agg #[.bool x.null,.int .i64 x.n,.string x.s],.agg #[.bool y.null,.int .i64 y.n,.string y.s]] w fun e w'=>e= .returned (.bool R6)∧Si w.heap.size w w'):=fun w=>by
 have:=h w;rw[e] at this;exact this
structure MN(l:List bG)(ah:List Int)(rs:List bZ)(x:List az):Prop where
 len:x.length=ah.length
 may:∀ k (h:k<ah.length) (h2:k<x.length),∃ c,∃ h3:c<l.length,ah[k]=(c:Int)∧VC l[c].kind x[k]∧(l[c].kind=1∨l[c].kind=2∨l[c].kind=3)
 j9:∀ k (h:k<ah.length) (h2:k<x.length),∀ r∈rs,r.col=ah[k]→qC x[k] r=R7
def BR (fn:UB):U7:=match fn.body with
 |some (.seq _ (.seq _ (.seq _ (.seq _ (.seq _ (.seq _ (.seq _ (.seq _ a))))))))=>a
 |_=>.skip
theorem N4(a:R3)(v:Nat→R2)(ah:List Int)(rs:List bZ)(A:List (List az))(l:List bG)(g m:Nat)(h1:qx a (v 1) ah)(co:RG a (v 2) rs)(cl:vB a (v 10) l)(bu:v 12= .int .i64 (m:Int))(cn:B2 a (v 15) A)(a9:v 16= .int .i64 (g:Int))
 (c3:ah.length≤Sw) (c5:rs.length≤Sw) (c4:l.length≤Sw) (c6:A.length≤Sw) (b0:g≠0→v 15= .slice RZ 0 0) (bt:g=0→m=0∧∀ x∈A,MN l ah rs x):
 (BR VX).wp (aa.of RY) (fun e a' W'=>e= .ret∧Si a.heap.size a W'∧Knows a' 170 [(8,.bool R7)]∧a'.defers=[]) ⟨#[v 0,v 1,v 2,v 3,v 4,v 5,v 6,v 7,v 8,v 9,v 10,v 11,v 12,v 13,v 14,v 15,v 16,v 17,v 18,v 19,v 20,v 21,v 22,v 23,v 24,v 25,v 26,v 27,v 28,v 29,v 30,v 31,v 32,v 33,v 34,v 35,v 36,v 37,v 38,v 39,v 40,v 41,v 42,v 43,v 44,v 45,v 46,v 47,v 48,v 49,v 50,v 51,v 52,v 53,v 54,v 55,v 56,v 57,v 58,v 59,v 60,v 61,v 62,v 63,v 64,v 65,v 66,v 67,v 68,v 69,v 70,v 71,v 72,v 73,v 74,v 75,v 76,v 77,v 78,v 79,v 80,v 81,v 82,v 83,v 84,v 85,v 86,v 87,v 88,v 89,v 90,v 91,v 92,v 93,v 94,v 95,v 96,v 97,v 98,v 99,v 100,v 101,v 102,v 103,v 104,v 105,v 106,v 107,v 108,v 109,v 110,v 111,v 112,v 113,v 114,v 115,v 116,v 117,v 118,v 119,v 120,v 121,v 122,v 123,v 124,v 125,v 126,v 127,v 128,v 129,v 130,v 131,v 132,v 133,v 134,v 135,v 136,v 137,v 138,v 139,v 140,v 141,v 142,v 143,v 144,v 145,v 146,v 147,v 148,v 149,v 150,v 151,v 152,v 153,v 154,v 155,v 156,v 157,v 158,v 159,v 160,v 161,v 162,v 163,v 164,v 165,v 166,v 167,v 168,v 169],[]⟩ a:=by
 by_cases bd:g=0
 ·obtain⟨d4,cu⟩:=bt bd;subst bd;subst d4;obtain⟨eb,r,aV,aD,cv,bx,bA,bb⟩:=h1;obtain⟨e2,e1,bh,aF,c7,bi,u⟩:=co;obtain⟨e0,bj,ca,eQ,c0,em,T⟩:=cl;obtain⟨e5,J,a2,e4,c9,et,al⟩:=cn;rw[cv,c7,c0,bu,c9,a9];have cf:Sb (∀ x∈A,MN l ah rs x):=cu;unfold Sw at c3 c5 c4 c6;clear cv c7 c0 bu c9 a9 b0 bt cu;unfold BR VX;dsimp only
  go_wp2_with fail
  go_loopw [17] (fun b1 wr=>∃ q:Nat,q≤A.length∧b1= .int .i64 q∧Si a.heap.size a wr) (fun b1 _=>A.length - (S2 b1).toNat)
  case atStart=>exact⟨0,SK _,rfl,So _ _⟩
  case round=>
   obtain⟨q,en,rfl,d⟩:=hrel;by_cases c2:q<A.length
   ·obtain rfl:=al.addr (by omega);obtain⟨e3,S,d1⟩:=al.c q c2;obtain⟨d6,I,V,bl,rfl,B⟩:=d1;have bv:=cf.out A[q] (Sl c2);have ae:J<a.heap.size:=al.lt (by omega);have a1:wr.cell? ⟨J,a2+q,RZ⟩=RX (.slice d6 A[q].length bl):=(d.cell (p:=⟨J,a2+q,RZ⟩) ae).trans S;have d3:=bv.len;have bs:Sb (MN l ah rs A[q]):=bv;have w:Sb (Si a.heap.size a wr):=d;clear d bv al cf;generalize A[q]=x at*;rw[d3] at a1 S
    go_wp2_with fail
    go_loopw [18] (fun b3 wr=>∃ b:Nat,b≤ah.length∧b3= .int .i64 b∧Si a.heap.size a wr) (fun b3 _=>ah.length - (S2 b3).toNat)
    case atStart=>exact⟨0,SK _,rfl,w.out⟩
    case round=>
     clear a1 w;obtain⟨b,es,rfl,d⟩:=hrel;by_cases be:b<ah.length
     ·obtain rfl:=bx (by omega);have bc:=bA (by omega);obtain⟨h,d2,bB,c8,cR⟩:=bs.out.may b be (by omega);have cx:ah.getD b 0=(h:Int):=by rw[Sj,Sk be];exact bB
      have ba:=bb b be;rw[cx] at ba;have N:=b8 d bc ba;obtain rfl:=T.addr (by omega);have c1:=T.lt (by omega);have am:=b8 d c1 (T.c1 h d2);obtain rfl:=B.addr (by omega);have H:=B.lt (by omega);have W:=b8 d ae S;have P:b<x.length:=by omega
      have X:=b8 d H (B.c0 b P);have Y:=b8 d H (B.c1 b P);have Z:=b8 d H (B.c2 b P);have br:Sb (Si a.heap.size a wr):=d;have cc:Sb (∀ U∈rs,U.col=(h:Int)→qC x[b] U=R7):=fun U d5 e=>bs.out.j9 b be P U d5 (e.trans bB.symm);have ce:Sb (∀ E,SF (aa.of RY) 27 #[.agg #[.bool x[b].null,.int .i64 x[b].n,.string x[b].s],.int .i64 l[h].kind] E fun e d7=>e= .returned (.bool R7)∧Si E.heap.size E d7):=fun E=>EY x[b] l[h].kind E cR c8;have cd:Sb (r<wr.drew.heap.size∧J<wr.drew.heap.size∧I<wr.drew.heap.size∧bj<wr.drew.heap.size):=by
       have:=d.size;exact⟨Sa bc this,Sa ae this,Sa H this,Sa c1 this⟩
      have a6:Sb (a.cell? ⟨I,V+b*3,RZ⟩=RX (.bool x[b].null)∧a.cell? ⟨I,V+b*3+1,RZ⟩=RX (.int .i64 x[b].n)∧a.cell? ⟨I,V+b*3+2,RZ⟩=RX (.string x[b].s)):=⟨B.c0 b P,B.c1 b P,B.c2 b P⟩;generalize x[b]=c at*;generalize l[h].kind=b4 at*;have ef:(h:Int)<(l.length:Int):=by omega
      have eh:¬ ((h:Int)<0):=by omega
      have el:¬ ((l.length:Int)≤(h:Int)):=by omega
      clear d c8 cR B T bb bB cx
      go_upto_region 19 with fail
      have cp:Qh r (aV+b) (b*3) h J (a2+q) I V ah.length bl bj (ca+h*2+1) b4 c wr.drew:=⟨N,W,X,Y,Z,am⟩;clear N W X Y Z am;refine Un.open_ (Qh r (aV+b) (b*3) h J (a2+q) I V ah.length bl bj (ca+h*2+1) b4 c) 32 (fun _ _ _ _ _ f=>absurd (And.left f) (fun f=>by cases f)) fun ad=>?_;refine Un.pk 0 ?_
      try simp only[Sy,R1,R5,R4]
      refine Un.pk 1 ?_
      try simp only[Sy,R1,R5,R4]
      refine Un.pk 2 ?_
      try simp only[Sy,R1,R5,R4]
      refine Un.ld [4,5,14,32] 3 ?_
      try simp only[Sy,R1,R5,R4]
      refine Un.pk 4 ?_
      try simp only[Sy,R1,R5,R4]
      refine Un.pk 5 ?_
      try simp only[Sy,R1,R5,R4]
      refine Un.pk 6 ?_
      try simp only[Sy,R1,R5,R4]
      refine Un.pk 7 ?_
      try simp only[Sy,R1,R5,R4]
      refine Un.pk 8 ?_
      try simp only[Sy,R1,R5,R4]
      refine Un.ld [12,13,14,32] 9 ?_
      try simp only[Sy,R1,R5,R4]
      refine Un.pk 10 ?_
      try simp only[Sy,R1,R5,R4]
      refine Un.pk 11 ?_
      try simp only[Sy,R1,R5,R4]
      refine Un.pk 12 ?_
      try simp only[Sy,R1,R5,R4]
      refine Un.pk 13 ?_
      try simp only[Sy,R1,R5,R4]
      refine Un.pk 14 ?_
      try simp only[Sy,R1,R5,R4]
      refine Un.pk 15 ?_
      try simp only[Sy,R1,R5,R4]
      refine Un.pk 16 ?_
      try simp only[Sy,R1,R5,R4]
      refine Un.pk 17 ?_
      try simp only[Sy,R1,R5,R4]
      refine Un.ld [20,21,30,31,32] 18 ?_
      try simp only[Sy,R1,R5,R4]
      refine Un.pk 19 ?_
      try simp only[Sy,R1,R5,R4]
      refine Un.pk 20 ?_
      try simp only[Sy,R1,R5,R4]
      refine Un.ld [30,31,32] 21 ?_
      try simp only[Sy,R1,R5,R4]
      refine Un.pk 22 ?_
      try simp only[Sy,R1,R5,R4]
      refine Un.pk 23 ?_
      try simp only[Sy,R1,R5,R4]
      refine Un.pk 24 ?_
      try simp only[Sy,R1,R5,R4]
      refine Un.pk 25 ?_
      try simp only[Sy,R1,R5,R4]
      refine Un.ld [27,28,29,30,31,32] 26 ?_
      try simp only[Sy,R1,R5,R4]
      refine Un.pk 27 ?_
      try simp only[Sy,R1,R5,R4]
      refine Un.pk 28 ?_
      try simp only[Sy,R1,R5,R4]
      refine Un.ld [30,31,32] 29 ?_
      try simp only[Sy,R1,R5,R4]
      refine Un.on 30 fun z n=>?_;go_simp;go_at_call 27;refine(ce.out _).mono ?_;rintro e bm ⟨rfl,t⟩;have cb:Sb (Si a.heap.size a bm):=br.out.trans (((So _ wr).drew.trans t).mono br.out.size);have cs:Qh r (aV+b) (b*3) h J (a2+q) I V ah.length bl bj (ca+h*2+1) b4 c bm:=cp.kept t cd.out;refine n.out _ _ (fun _=>cs) ?_;clear n z cp t cd ce br;refine Un.pk 31 ?_
      try simp only[Sy,R1,R5,R4]
      refine Un.on 32 fun z n=>?_;go_simp;refine n.out _ _ (fun f=>absurd f (by decide)) ?_;clear n z
      try simp only[Sy,R1,R5,R4]
      refine Un.done (by kernel_rfl) ?_ _;clear cs
      go_wp2_with fail
      go_loopw [19] (fun b2 wr=>∃ o:Nat,o≤rs.length∧b2= .int .i64 o∧Si a.heap.size a wr) (fun b2 _=>rs.length - (S2 b2).toNat)
      case atStart=>exact⟨0,SK _,rfl,cb.out⟩
      case round=>
       clear cb;obtain⟨o,er,rfl,d⟩:=hrel;by_cases F:o<rs.length
       ·obtain rfl:=u.addr (by omega);have G:=u.lt (by omega);have a5:Sb (rs[o].col=(h:Int)→qC c rs[o]=R7):=cc.out rs[o] (Sl F);have a1:=b8 d G (u.c0 o F);have dd:=b8 d G (u.c1 o F);have df:=b8 d G (u.c2 o F);have dk:=b8 d G (u.c3 o F);have dl:=b8 d G (u.c4 o F);have dp:=b8 d G (u.c5 o F);have dq:=b8 d G (u.c6 o F);have W:=b8 d ae S;have X:=b8 d H a6.out.1;have Y:=b8 d H a6.out.2.1;have Z:=b8 d H a6.out.2.2;have N:=b8 d bc ba;generalize rs[o]=U at*;obtain⟨C,j,i⟩:=U;dsimp only at a1 dd df dk dl dp dq;have w:Sb (Si a.heap.size a wr):=d;have M:Sb (J<wr.heap.size∧I<wr.heap.size∧r<wr.heap.size):=by
         have:=d.size;exact⟨Sa ae this,Sa H this,Sa bc this⟩
        clear d u G
        go_upto_region 25 with fail
        have k:Si wr.heap.size wr (wr.alloc (.cells #[.int .i64 C,.bool j.null,.int .i64 j.n,.string j.s,.bool i.null,.int .i64 i.n,.string i.s] 61)):=(So _ _).alloc (R8 _) _;obtain⟨dr,ds,dt,du,dv,dC,dE⟩:=iT (iq wr (.cells #[.int .i64 C,.bool j.null,.int .i64 j.n,.string j.s,.bool i.null,.int .i64 i.n,.string i.s] 61));replace W:=b8 k M.out.1 W;replace X:=b8 k M.out.2.1 X;replace Y:=b8 k M.out.2.1 Y;replace Z:=b8 k M.out.2.1 Z;replace N:=b8 k M.out.2.2 N;have bo:Sb (Si a.heap.size a (wr.alloc (.cells #[.int .i64 C,.bool j.null,.int .i64 j.n,.string j.s,.bool i.null,.int .i64 i.n,.string i.s] 61))):=w.out.trans (k.mono w.out.size);have y:Sb (wr.heap.size<(wr.alloc (.cells #[.int .i64 C,.bool j.null,.int .i64 j.n,.string j.s,.bool i.null,.int .i64 i.n,.string i.s] 61)).heap.size∧r<(wr.alloc (.cells #[.int .i64 C,.bool j.null,.int .i64 j.n,.string j.s,.bool i.null,.int .i64 i.n,.string i.s] 61)).heap.size):=⟨by simp,Sa M.out.2.2 k.size⟩;clear k a1 dd df dk dl dp dq w M;generalize wr.alloc (.cells #[.int .i64 C,.bool j.null,.int .i64 j.n,.string j.s,.bool i.null,.int .i64 i.n,.string i.s] 61)=p at*;generalize wr.heap.size=O at*
        go_upto_region 26 with fail
        have k:Si p.heap.size p (p.alloc (.cells #[.bool c.null,.int .i64 c.n,.string c.s] 59)):=(So _ _).alloc (R8 _) _;obtain⟨dO,dT,d0⟩:=uT p (.bool c.null) (.int .i64 c.n) (.string c.s) 59;have Q:Sb (Si a.heap.size a (p.alloc (.cells #[.bool c.null,.int .i64 c.n,.string c.s] 59)).drew):=(bo.out.trans (k.mono bo.out.size)).drew;have R:Sb (O<(p.alloc (.cells #[.bool c.null,.int .i64 c.n,.string c.s] 59)).drew.heap.size∧p.heap.size<(p.alloc (.cells #[.bool c.null,.int .i64 c.n,.string c.s] 59)).drew.heap.size∧r<(p.alloc (.cells #[.bool c.null,.int .i64 c.n,.string c.s] 59)).drew.heap.size):=⟨Sa y.out.1 k.size,(by show p.heap.size<(p.alloc (.cells #[.bool c.null,.int .i64 c.n,.string c.s] 59)).heap.size;simp),Sa y.out.2 k.size⟩;have D:MM O p.heap.size r (aV+b) h C j.null j.n j.s i.null i.n i.s c.null c.n c.s (p.alloc (.cells #[.bool c.null,.int .i64 c.n,.string c.s] 59)).drew:=⟨b8 k y.out.1 dr,b8 k y.out.1 ds,b8 k y.out.1 dt,b8 k y.out.1 du,b8 k y.out.1 dv,b8 k y.out.1 dC,b8 k y.out.1 dE,dO,dT,d0,b8 k y.out.2 N⟩;clear k dr ds dt du dv dC dE dO dT d0 W X Y Z N bo y;generalize p.alloc (.cells #[.bool c.null,.int .i64 c.n,.string c.s] 59)=d9 at*;generalize p.heap.size=ab at*;have L:=fun E=>uy c j E;have K:=fun E=>uy i c E;obtain⟨d8,a3,a4⟩:=c;obtain⟨da,aw,a0⟩:=j;obtain⟨am,ao,ar⟩:=i;dsimp only at D a5;by_cases bi:C=(h:Int);rotate_left
        ·have ec:(C == (h:Int))=R6:=by simp[bi]
         clear L K a5;refine Un.open_ (MM O ab r (aV+b) h C da aw a0 am ao ar d8 a3 a4) 34 (fun _ _ _ _ _ f=>absurd (And.left f) (fun f=>by cases f)) fun ad=>?_;refine Un.pk 0 ?_
         try simp only[Sy,R1,R5,R4]
         refine Un.ld [6,7,34] 1 ?_
         try simp only[Sy,R1,R5,R4]
         refine Un.pk 2 ?_
         try simp only[Sy,R1,R5,R4]
         refine Un.pk 3 ?_
         try simp only[Sy,R1,R5,R4]
         refine Un.pk 4 ?_
         try simp only[Sy,R1,R5,R4]
         refine Un.ld [6,7,34] 5 ?_
         try simp only[Sy,R1,R5,R4]
         refine Un.pk 6 ?_
         try simp only[Sy,R1,R5,R4]
         refine Un.pk 7 ?_
         try simp only[Sy,R1,R5,R4]
         refine Un.sk 8 ?_
         try simp only[Sy,R1,R5,R4]
         refine Un.sk 9 ?_
         try simp only[Sy,R1,R5,R4]
         refine Un.sk 10 ?_
         try simp only[Sy,R1,R5,R4]
         refine Un.sk 11 ?_
         try simp only[Sy,R1,R5,R4]
         refine Un.sk 12 ?_
         try simp only[Sy,R1,R5,R4]
         refine Un.sk 13 ?_
         try simp only[Sy,R1,R5,R4]
         refine Un.sk 14 ?_
         try simp only[Sy,R1,R5,R4]
         refine Un.sk 15 ?_
         try simp only[Sy,R1,R5,R4]
         refine Un.sk 16 ?_
         try simp only[Sy,R1,R5,R4]
         refine Un.sk 17 ?_
         try simp only[Sy,R1,R5,R4]
         refine Un.sk 18 ?_
         try simp only[Sy,R1,R5,R4]
         refine Un.sk 19 ?_
         try simp only[Sy,R1,R5,R4]
         refine Un.sk 20 ?_
         try simp only[Sy,R1,R5,R4]
         refine Un.sk 21 ?_
         try simp only[Sy,R1,R5,R4]
         refine Un.sk 22 ?_
         try simp only[Sy,R1,R5,R4]
         refine Un.sk 23 ?_
         try simp only[Sy,R1,R5,R4]
         refine Un.sk 24 ?_
         try simp only[Sy,R1,R5,R4]
         refine Un.sk 25 ?_
         try simp only[Sy,R1,R5,R4]
         refine Un.sk 26 ?_
         try simp only[Sy,R1,R5,R4]
         refine Un.sk 27 ?_
         try simp only[Sy,R1,R5,R4]
         refine Un.sk 28 ?_
         try simp only[Sy,R1,R5,R4]
         refine Un.sk 29 ?_
         try simp only[Sy,R1,R5,R4]
         refine Un.sk 30 ?_
         try simp only[Sy,R1,R5,R4]
         refine Un.sk 31 ?_
         try simp only[Sy,R1,R5,R4]
         refine Un.sk 32 ?_
         try simp only[Sy,R1,R5,R4]
         refine Un.sk 33 ?_
         try simp only[Sy,R1,R5,R4]
         refine Un.on 34 fun z n=>?_;go_simp;refine n.out _ _ (fun f=>absurd f (by decide)) ?_;clear n z
         try simp only[Sy,R1,R5,R4]
         refine Un.done (by kernel_rfl) ?_ _;clear D;go_wp2;refine⟨?rel,?measure⟩
         case rel=>exact⟨o+1,by omega,by go_num,Q.out⟩
         case measure=>simp[S2];omega
        ·obtain⟨ch,a7,a8⟩:=KT (a5.out bi);dsimp only at ch a7 a8;subst ch;subst bi;have ee:True:=trivial;clear a5;cases da<;>cases am
         case' false.false=>replace L:=rU L (a7 rfl);replace K:=rU K (a8 rfl);have db:True:=trivial;have ci:True:=trivial;refine Un.open_ (MM O ab r (aV+b) h (h:Int) R6 aw a0 R6 ao ar R6 a3 a4) 34 (fun _ _ _ _ _ f=>absurd (And.left f) (fun f=>by cases f)) fun ad=>?_
         case' false.true=>replace L:=rU L (a7 rfl);have db:True:=trivial;have ck:True:=trivial;refine Un.open_ (MM O ab r (aV+b) h (h:Int) R6 aw a0 R7 ao ar R6 a3 a4) 34 (fun _ _ _ _ _ f=>absurd (And.left f) (fun f=>by cases f)) fun ad=>?_
         case' true.false=>replace K:=rU K (a8 rfl);have dc:True:=trivial;have ci:True:=trivial;refine Un.open_ (MM O ab r (aV+b) h (h:Int) R7 aw a0 R6 ao ar R6 a3 a4) 34 (fun _ _ _ _ _ f=>absurd (And.left f) (fun f=>by cases f)) fun ad=>?_
         case' true.true=>have dc:True:=trivial;have ck:True:=trivial;refine Un.open_ (MM O ab r (aV+b) h (h:Int) R7 aw a0 R7 ao ar R6 a3 a4) 34 (fun _ _ _ _ _ f=>absurd (And.left f) (fun f=>by cases f)) fun ad=>?_
         all_goals clear a7 a8
         all_goals
          refine Un.pk 0 ?_
          try simp only[Sy,R1,R5,R4]
          refine Un.ld [6,7,34] 1 ?_
          try simp only[Sy,R1,R5,R4]
          refine Un.pk 2 ?_
          try simp only[Sy,R1,R5,R4]
          refine Un.pk 3 ?_
          try simp only[Sy,R1,R5,R4]
          refine Un.pk 4 ?_
          try simp only[Sy,R1,R5,R4]
          refine Un.ld [6,7,34] 5 ?_
          try simp only[Sy,R1,R5,R4]
          refine Un.pk 6 ?_
          try simp only[Sy,R1,R5,R4]
          refine Un.pk 7 ?_
          try simp only[Sy,R1,R5,R4]
          refine Un.pk 8 ?_
          try simp only[Sy,R1,R5,R4]
          refine Un.ld [10,21,22,33,34] 9 ?_
          try simp only[Sy,R1,R5,R4]
          refine Un.pk 10 ?_
          try simp only[Sy,R1,R5,R4]
          refine Un.pk 11 ?_
          try simp only[Sy,R1,R5,R4]
          refine Un.pk 12 ?_
          try simp only[Sy,R1,R5,R4]
          refine Un.ld [14,15,19,22,33,34] 13 ?_
          try simp only[Sy,R1,R5,R4]
          refine Un.pk 14 ?_
          try simp only[Sy,R1,R5,R4]
          refine Un.pk 15 ?_
          try simp only[Sy,R1,R5,R4]
          first
           |(have _:=dc;refine Un.sk 16 ?_
             try simp only[Sy,R1,R5,R4]
             refine Un.sk 17 ?_
             try simp only[Sy,R1,R5,R4]
             refine Un.sk 18 ?_
             try simp only[Sy,R1,R5,R4]
             refine Un.sk 19 ?_
             try simp only[Sy,R1,R5,R4])
           |(have _:=db;refine Un.ld [19,22,33,34] 16 ?_
             try simp only[Sy,R1,R5,R4]
             refine Un.pk 17 ?_
             try simp only[Sy,R1,R5,R4]
             refine Un.ld [19,22,33,34] 18 ?_
             try simp only[Sy,R1,R5,R4]
             refine Un.on 19 fun z n=>?_;go_simp;go_at_call 28;refine(L.out _).mono ?_;rintro e bm ⟨rfl,t⟩;replace Q:=CN Q t;replace D:=D.kept t R.out;replace R:=OF R t;refine n.out _ _ (fun _=>D) ?_;clear n z t L)
          refine Un.pk 20 ?_
          try simp only[Sy,R1,R5,R4]
          refine Un.pk 21 ?_
          try simp only[Sy,R1,R5,R4]
          refine Un.pk 22 ?_
          try simp only[Sy,R1,R5,R4]
          refine Un.pk 23 ?_
          try simp only[Sy,R1,R5,R4]
          refine Un.pk 24 ?_
          try simp only[Sy,R1,R5,R4]
          refine Un.ld [26,27,32,33,34] 25 ?_
          try simp only[Sy,R1,R5,R4]
          refine Un.pk 26 ?_
          try simp only[Sy,R1,R5,R4]
          refine Un.pk 27 ?_
          try simp only[Sy,R1,R5,R4]
          first
           |(have _:=ck;refine Un.sk 28 ?_
             try simp only[Sy,R1,R5,R4]
             refine Un.sk 29 ?_
             try simp only[Sy,R1,R5,R4]
             refine Un.sk 30 ?_
             try simp only[Sy,R1,R5,R4]
             refine Un.sk 31 ?_
             try simp only[Sy,R1,R5,R4])
           |(have _:=ci;refine Un.pk 28 ?_
             try simp only[Sy,R1,R5,R4]
             refine Un.ld [31,32,33,34] 29 ?_
             try simp only[Sy,R1,R5,R4]
             refine Un.ld [31,32,33,34] 30 ?_
             try simp only[Sy,R1,R5,R4]
             refine Un.on 31 fun z n=>?_;go_simp;go_at_call 28;refine(K.out _).mono ?_;rintro e bm ⟨rfl,t⟩;replace Q:=CN Q t;replace D:=D.kept t R.out;replace R:=OF R t;refine n.out _ _ (fun _=>D) ?_;clear n z t K)
          refine Un.pk 32 ?_
          try simp only[Sy,R1,R5,R4]
          refine Un.pk 33 ?_
          try simp only[Sy,R1,R5,R4]
          refine Un.on 34 fun z n=>?_;go_simp;refine n.out _ _ (fun f=>absurd f (by decide)) ?_;clear n z
          try simp only[Sy,R1,R5,R4]
          refine Un.done (by kernel_rfl) ?_ _;clear D;go_wp2;refine⟨?rel,?measure⟩
          case rel=>exact⟨o+1,by omega,by go_num,Q.out⟩
          case measure=>simp[S2];omega
       ·have w:Sb (Si a.heap.size a wr):=d;clear d u S cc a6 ba;go_wp2;refine⟨?_,?measure⟩;apply Exists.intro
        (repeat apply Exists.intro)
        refine⟨?rel,rfl⟩
        case rel=>exact⟨b+1,by omega,by go_num,w.out⟩
        case measure=>simp[S2];omega
     ·have w:Sb (Si a.heap.size a wr):=d;clear d bx bA bb u T S B bs;go_wp2
      go_roundw
      case rel=>exact⟨q+1,by omega,by go_num,w.out⟩
      case measure=>simp[S2];omega
   ·have w:Sb (Si a.heap.size a wr):=d;clear d bx bA bb u T al;go_wp2;exact⟨w.out,Knows.cons (l:=[]) ⟨rfl,fun s v f=>by simp at f⟩ rfl⟩
 ·rw[a9,b0 bd];have eq:∀ a:R3,(binOp .eql 26 (.slice RZ 0 0) (.slice RZ 0 0)).run (aa.of RY) a= .ok (.bool R7) a:=fun a=>by simp only[binOp];simp[run_equal_slice_nil a 26 43 _ _ _ aa.underlying26]
  have eo:((g:Int) != 0)=R7:=by simp;omega
  clear h1 co cl bu cn a9 b0 bt bd c3 c5 c4 c6;unfold BR VX;dsimp only;go_wp2;exact⟨So _ _,Knows.cons (l:=[]) ⟨rfl,fun s v f=>by simp at f⟩ rfl⟩
end Cc
end Go.Proofs.YtjidbonhhpkljaaGreat
