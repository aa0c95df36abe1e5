/- What the proof stands on, in short names. -/
import Derived.Test.YtjidbonhhpkljaaGreatMb
import Derived.Maps.OwnSet
import Derived.Maps.OwnOps
import Derived.DeepKeys4
import Derived.Deep.CutBlock
import Derived.WalkSpells
import Derived.Lib.Bytealg
import Derived.Deep.RegionHeld
import Derived.WalkLawsBesides
import Derived.Recover
import Derived.Lib.BufferWrite
import Derived.Lib.UnsafeStr
import Derived.Deep.RegionHeld3
import Derived.Deep.AppendLies
import Derived.OrdersHeld
import Derived.RegionTactic
import Derived.Outline
import Derived.Lib.SlBytesConst
set_option linter.all false
open Array renaming getElem?_eq_none → SZ, getElem?_eq_some_iff → RH, length_toList → TL, replicate → SN
open BitVec renaming ofInt → Uv
open Bool renaming and_eq_true → R7, false → RE, false_eq_true → Sa, true → RF
open Go renaming Act → TZ, Addr → Sl, Calls → Sc, Obj → UQ, Oper → Te, Operand → SG, PanicEntry → S1, Program → RM, TypeId → RO, TypeInfo → Ur, Value → RB, World → RD, bodyPost → TV, execOp → Sd, heap_alloc_new → TN, heap_setCell_other → R6, heap_setCell_same → RZ, info_parts → S3, lt_of_block → RP, maxLen → R3, resolve → Vj, results → SD, undef → SP, wpList_append_fits → Tn, wpList_make_own → TM, yielded → S2, zeroValue → TO
open Go.Act renaming put → Tc
open Go.Addr renaming add → VN, add_lit → TC
open Go.Addr.mk renaming injEq → UO
open Go.Extern.BytealgCompare renaming compare → US
open Go.Instr renaming makeSlice → Vd
open Go.IntKind renaming bits → VI, i64 → VQ, signed → Vq, u64 → TT, u8 → VF
open Go.Lib renaming compareBytes → S8, size_eq → Vh
open Go.Maps.Keyed renaming of_law → Wq
open Go.Proofs.Tryz renaming prog → Rz
open Go.Region renaming binds → S4, ready → SI, wanted → Sn
open Go.RowKit renaming Below → RQ, Hid → RJ, intOf → SC, wrap64 → SW
open Go.RowKit.Below renaming heap_alloc → Sr, refl → R5
open Go.Sem renaming run_bind → Ue
open Go.Value renaming bool → Ug, cells → Ub, int → TW, ownBlock → Tf, slice → SS
open Go.Value.slice renaming injEq → T5
open Go.World renaming cell? → R2, frozen? → SH, ownsRow_nil → T6, setCell → Vn
open Go.World.grownBy renaming block → T2, refl → V7, size → UI
open List renaming all_eq_true → Sf, append_assoc → R9, append_nil → Ud, cons_append → TP, drop_eq_getElem_cons → S6, eq_nil_of_length_eq_zero → Ta, flatMap_append → SU, flatMap_cons → Ui, flatMap_singleton → SO, getD → VR, getD_eq_getElem?_getD → RX, getElem?_append_left → S7, getElem?_append_right → SX, getElem?_eq_getElem → RS, getElem?_eq_some_iff → R8, getElem_mem → RV, getElem_of_mem → To, getElem_take → Tj, length_append → RI, length_cons → TA, length_drop → Ut, length_eq_zero_iff → TQ, length_map → Sy, length_take → Tb, map_append → SQ, map_cons → UP, map_singleton → TX, mem_append → SM, mem_cons → Tq, mem_map → S5, mem_of_mem_take → Uc, mem_range → Tg, range → Sw, range_succ → Vf, replicate → Ti, setIfInBounds_toArray → R1, set_cons_succ → Sg, set_cons_zero → Sj, take_append_drop → Ul, take_length → SR, take_of_length_le → SF, take_succ_eq_append_getElem → RR
open List.cons renaming injEq → UB
open Nat renaming add_assoc → SL, le_refl → RG, le_trans → R4, lt_of_lt_of_le → RK, lt_or_ge → Ts, mod_eq_of_lt → UN, mul_comm → Vk, mul_le_mul → UW, mul_le_mul_left → Uz, mul_one → Vs, pow_add → UC, pow_le_pow_right → Tu, pow_succ → Uf, zero_add → SA, zero_le → Sk
open Option renaming bind_some → U8, getD_some → Uu, none → RA, some → Ry
open Option.some renaming injEq → SY
open Or renaming inl → UD
open Prod renaming fst → Sb
set_option maxRecDepth 100000
set_option maxHeartbeats 8000000
namespace Go.Proofs.YtjidbonhhpkljaaGreat
namespace Ec
open Go.RowKit Pk Pm
theorem Qe:laidOutB (aa.of Rz)=RF:=by kernel_rfl
theorem Qp:(59:RO)<(aa.of Rz).types.size:=of_decide_eq_true (by kernel_rfl)
theorem Rs:(aa.of Rz).keyTypeAt 2 59=RF:=by kernel_rfl
theorem EL:Maps.Keyed (aa.of Rz) 59:=Wq (deep_law_laid Qe (m:=2) (by omega) Qp Rs (by rw[aa.underlying59]))
theorem J2:(aa.of Rz).cellsOf 59=3:=by kernel_rfl
theorem MI:(aa.of Rz).cellsOf 4=1:=by kernel_rfl
theorem MJ:(aa.of Rz).cellsOf 3=1:=by kernel_rfl
theorem MK:(aa.of Rz).cellsOf 9=1:=by kernel_rfl
theorem I8(n:Nat)(h:59<n):∃ m,n=m+1:=⟨n - 1,by omega⟩
theorem Qr:∃ m,(aa.of Rz).types.size=m+1:=I8 _ Qp
theorem KL:(aa.of Rz).keyType 59=RF:=by kernel_rfl
def kl (x:aD):Lit:=.string (keyBytes [.bool x.null,.int .i64 x.n,.string x.s.data.toList])
theorem wf_i64(a:Int)(b: -9223372036854775808≤a)(h1:a≤9223372036854775807):(Lit.int .i64 a).wf=RF:=by
 simp[Lit.wf,IntKind.min,IntKind.max,Vq,VI];omega
theorem AU(x:aD)(h:mN x):keyOf (aa.of Rz) 59 (.agg #[.bool x.null,.int .i64 x.n,.string x.s])=Ry (kl x):=by
 obtain⟨m,b⟩:=Qr;have d:=wf_i64 x.n h.lo h.hi;have c:x.s.size≤R3:=by have:=h.sz;unfold R3;omega
 have a:(Value.agg #[.bool x.null,.int .i64 x.n,.string x.s]).formed (aa.of Rz) 59=RF:=by simp[Value.formed,aa.underlying59,J2]
 unfold keyOf;simp only[aa.underlying59,KL,a,Bool.and_self,if_true,b];unfold Program.keyLits;simp[aa.underlying59,J2,MI,MJ,MK,Ub,Program.keyLits,aa.underlying4,aa.underlying3,aa.underlying9,d,c,kl]
theorem KN{x y:aD}(b:mN x)(c:mN y)(h:kl x=kl y):x=y:=by
 have a:=EL.inj (AU x b) (by rw[h];exact AU y c);cases x;cases y;simp at a;simp[a]
theorem KO(x:aD):WideAt.IsKeyLit (kl x):=trivial
def ins (d:List aD)(v:aD):List aD:=if idx d v<d.length then d else d ++ [v]
theorem qt(d:List aD)(x:aD)(r:List aD)(h:idx d x<d.length):idx (d ++ r) x=idx d x:=by
 induction d with
 |nil=>simp at h
 |cons c e b=>
  simp only[idx,TP] at h ⊢;by_cases a:DO c x=RF
  ·simp[a]
  ·simp only[a] at h ⊢;have:=b (by simpa using h);simp[this]
theorem gH(d:List aD)(x:aD)(h:¬ idx d x<d.length)(v:aD):idx (d ++ [v]) x=if DO v x then d.length else d.length+1:=by
 induction d with
 |nil=>simp[idx]
 |cons c e b=>
  simp only[idx,TP] at h ⊢;by_cases a:DO c x=RF
  ·simp[a] at h
  ·simp only[a] at h ⊢;have:=b (by simpa using h);rw[if_neg (by simp),this]
   split<;>simp
theorem vr(d:List aD)(v:aD):idx (ins d v) v=idx d v∧idx (ins d v) v<(ins d v).length∧(¬ idx d v<d.length→idx d v=d.length):=by
 have c:=OT d v;unfold ins;by_cases a:idx d v<d.length
 ·simp only[a,if_true];exact⟨trivial,trivial,fun a=>absurd trivial a⟩
 ·have b:DO v v=RF:=mA.2 rfl;have:=gH d v a v;rw[b] at this;simp only[a,if_false];simp at this;rw[this];refine⟨by omega,by simp,fun _=>by omega⟩
def qs (s:List aD×List Nat)(v:aD):List aD×List Nat:=(ins s.1 v,s.2 ++ [idx (ins s.1 v) v])
def dfold(l:List aD):List aD×List Nat:=l.foldl qs ([],[])
theorem dfold_succ(l:List aD)(k:Nat)(h:k<l.length):dfold (l.take (k+1))=qs (dfold (l.take k)) l[k]:=by
 unfold dfold;rw[RR h,List.foldl_append];rfl
theorem EK(d:List aD)(v:aD):(ins d v).length≤d.length+1∧d.length≤(ins d v).length:=by
 unfold ins;split<;>simp
theorem M6(d:List aD)(v x:aD)(h:x∈ins d v):x∈d∨x=v:=by
 unfold ins at h
 split at h
 ·exact .inl h
 ·rcases SM.1 h with h|h
  ·exact .inl h
  ·exact .inr (by simpa using h)
theorem rz(l:List aD):∀ k,k≤l.length→(dfold (l.take k)).1.length≤k∧(dfold (l.take k)).2.length=k∧(∀ p∈(dfold (l.take k)).2,p<(dfold (l.take k)).1.length)∧(∀ x∈(dfold (l.take k)).1,x∈l):=by
 intro k
 induction k with
 |zero=>intro _;simp[dfold]
 |succ k h=>
  intro b;obtain⟨i,c,d,e⟩:=h (by omega);rw[dfold_succ l k (by omega)];have j:=EK (dfold (l.take k)).1 l[k];have g:=vr (dfold (l.take k)).1 l[k];unfold qs;refine⟨by simp only;omega,by simp[c],?_,?_⟩
  ·intro p a;simp only at a ⊢;rcases SM.1 a with a|a
   ·have:=d p a;omega
   ·simp at a;rw[a];exact g.2.1
  ·intro x f;rcases M6 _ _ _ f with b|b
   ·exact e x b
   ·rw[b];exact RV _
structure Knows(D:DataW Unit)(d:List aD):Prop where
 map:Maps.IsMap D
 has:∀ x,mN x→Maps.has D (kl x)=decide (idx d x<d.length)
 at_:∀ x,mN x→idx d x<d.length→D.atKey (kl x) (.lit (.int .i64 0))= .lit (.int .i64 (idx d x:Int))
theorem Knows.empty:Knows (.map []) []:=⟨Maps.isMap_empty,fun b _=>by simp[Maps.has_eq],fun b _ a=>by simp at a⟩
theorem Knows.put{D:DataW Unit}{d:List aD}(h:Knows D d)(v:aD)(k:mN v)(j:¬ idx d v<d.length):Knows (D.put (kl v) (.lit (.int .i64 (d.length:Int)))) (d ++ [v]):=by
 have l:DO v v=RF:=mA.2 rfl;refine⟨h.map.put _ _,?_,?_⟩
 ·intro a e;by_cases b:a=v
  ·subst b;rw[Maps.has_put_same h.map (KO a)];have:=gH d a j a;rw[l] at this;simp at this;simp[this]
  ·rw[Maps.has_put_other (fun f=>b (KN e k f)),h.has a e];by_cases c:idx d a<d.length
   ·rw[qt d a [v] c];simp;omega
   ·rw[gH d a c v];have:DO v a=RE:=by
     rw[Bool.eq_false_iff];intro g;exact b (mA.1 g).symm
    rw[this];simp;omega
 ·intro a e c;by_cases b:a=v
  ·subst b;rw[Maps.atKey_put_same h.map (KO a)];have:=gH d a j a;rw[l] at this;simp at this;rw[this]
  ·rw[Maps.atKey_put_other (fun f=>b (KN e k f))];by_cases i:idx d a<d.length
   ·rw[qt d a [v] i];exact h.at_ a e i
   ·exfalso
    rw[gH d a i v] at c;have:DO v a=RE:=by
     rw[Bool.eq_false_iff];intro g;exact b (mA.1 g).symm
    rw[this] at c;simp at c
theorem aa.ni:((aa.of Rz).info? 59).map (fun i=>(i.zero,i.size,i.bytes))=Ry (Ry (.agg #[.bool RE,.int .i64 0,.string ⟨#[]⟩]),3,32):=by kernel_rfl
theorem GK(w:RD):(TO 3).run (aa.of Rz) w= .ok (.int .i64 0) w:=by kernel_rfl
theorem tc{w:RD}{base e b n:Nat}{v:RB}{c:List RB}(h:w.ownsRow base e b v n c):∃ a cap,v= .slice a n cap:=by
 rcases h.2 with⟨rfl,rfl⟩|⟨f,cap,d,rfl,_⟩
 ·exact⟨RA,0,rfl⟩
 ·exact⟨_,_,rfl⟩
theorem iC(w:RD)(a b c:RB)(t:RO):∀ (j:Nat) (u:RB),[a,b,c][j]? =Ry u→(w.alloc (.cells #[a,b,c] t)).cell? ((⟨w.heap.size,0,RA⟩:Sl).add j)=Ry u:=by
 intro j u d
 match j,d with
 |0,d=>simp at d;subst d;simp[VN]
 |1,d=>simp at d;subst d;simp[TC]
 |2,d=>simp at d;subst d;simp[TC]
theorem fY(x:aD):∀ u∈[Ug x.null,.int .i64 x.n,.string x.s],u.oneCell'=RF:=by
 intro u a;simp at a;rcases a with rfl|rfl|rfl<;>rfl
theorem zl{w d:RD}{a b c:RB}{t:RO}{g:Option Nat}(e:(w.alloc (.cells #[a,b,c] t)).grownBy d g)(f:Ry w.heap.size≠g):
 d.cell? ⟨w.heap.size,0,RA⟩=Ry a∧d.cell? ⟨w.heap.size,1,RA⟩=Ry b∧d.cell? ⟨w.heap.size,2,RA⟩=Ry c:=
 ⟨e.cell (a:=⟨w.heap.size,0,RA⟩) (by simp) f,e.cell (a:=⟨w.heap.size,1,RA⟩) (by simp) f,e.cell (a:=⟨w.heap.size,2,RA⟩) (by simp) f⟩
theorem aK.bS{w w':RD}{u:RB}(h:RQ w.heap.size w w'):aK w w' u u:=⟨⟨h.1,h.2,h.3,h.4,fun b a _=>h.block b a⟩,fun _ h=>.inl h⟩
def dQ (k:Int)(l:List aD):List Nat:=aA (dfold l).1.length ++ (aH k (dfold l).1 ++ b7 (wid (dfold l).1.length) (dfold l).2)
def ints (ps:List Nat):List Int:=ps.map fun(a:Nat)=>(a:Int)
theorem vN(u ce:RB)(pre:List Nat)(l:List aD)(k:Int)(base:Nat)(w:RD)(dl:k=1∨k=2∨k=3)(cd:∀ x∈l,mN x)(el:l.length≤100)(ef:pre.length≤40000)(ec:base≤w.heap.size)
 (b3:w.ownsRow base 5 1 u pre.length (ax pre)) (d1:ql w ce l):
 Sc (aa.of Rz) 144 #[u,ce,.int .i64 k] w fun e w'=>∃ q,e= .returned q∧w'.ownsRow base 5 1 q (pre ++ dQ k l).length (ax (pre ++ dQ k l))∧aK w w' u q:=by
 obtain⟨a6,aw,a2,a3,a4⟩:=S3 aa.zH;obtain⟨d7,df,d4,d5,d6⟩:=S3 aa.ni;obtain⟨cR,c0,d9,eb,rfl,r⟩:=d1;have V:RJ (∀ x∈l,mN x):=cd;have bi:RJ (ot w cR c0 d9 l):=r;have U:RJ (w.ownsRow base 5 1 u pre.length (ax pre)):=b3;clear cd r b3;have eh:= @run_makeMap (aa.of Rz);have p:=World.ownsMap_made w (aa.of Rz) 59 (plainElem (H:=Unit) (aa.of Rz) 3);have be:RJ (∀ a,a≤l.length→(dfold (l.take a)).1.length≤a∧(dfold (l.take a)).2.length=a∧(∀ R∈(dfold (l.take a)).2,R<(dfold (l.take a)).1.length)∧(∀ x∈(dfold (l.take a)).1,x∈l)):=rz l;go_enter aa.func144,Tryz.ntmps144
 go_wp2_with (at_make;refine TM _ rfl _ _ 22 rfl (w.heap.size+1) 3 a6 (.int .i64 0) 1 aa.underlying22 aw a2 a3 .i64 .i64 _ l.length rfl rfl rfl (by rw[a4];omega) (by unfold R3;omega) (by simp) ?_;intro ci b4 ar)
 have bx:RQ w.heap.size w ci:=((R5 _ _).alloc (RG _) _).grown ar (by simp) (by simp);have b2:ci.ownsMap (aa.of Rz) 59 (plainElem (H:=Unit) (aa.of Rz) 3) w.heap.size 0 (.map []):=p.kept ar (by simp);clear ar p
 go_loopw [7,9,20] (fun X ch a5 wr=>∃ (a s:Nat) (D:DataW Unit) (y:Option Sl) (z:Nat),a≤l.length∧s≤a∧a5= .int .i64 a∧X= .slice y (dfold (l.take a)).1.length z∧
  wr.ownsRow (w.heap.size+1) 59 3 X (dfold (l.take a)).1.length (aE (dfold (l.take a)).1)∧wr.ownsRow (w.heap.size+1) 3 1 ch a (aY (ints (dfold (l.take a)).2))∧Apart X ch∧
  wr.ownsMap (aa.of Rz) 59 (plainElem (H:=Unit) (aa.of Rz) 3) w.heap.size s D∧Knows D (dfold (l.take a)).1∧RQ w.heap.size w wr) (fun _ _ a5 _=>l.length - (SC a5).toNat)
 case atStart=>exact⟨0,0,.map [],RA,0,Sk _,RG _,rfl,rfl,T6 _ _ _ _,by simpa [ints,aY,dfold] using b4,UD rfl,b2,Knows.empty,bx⟩
 case round=>
  clear b4 b2 bx;obtain⟨a,s,D,y,z,dk,em,rfl,rfl,n,h,A,p,I,G⟩:=hrel;have L:RJ (RQ w.heap.size w wr):=G;have cc:w.heap.size≤wr.heap.size:=G.size;obtain⟨bA,ad,P,ae⟩:=be.out a dk;have er:w.heap.size+1≤wr.heap.size:=by have:=p.lt;omega
  by_cases J:a<l.length
  ·have r:=bi.out.below G;obtain rfl:=r.addr (by omega);have et:=r.c0 a J;have eQ:=r.c1 a J;have e0:=r.c2 a J;have N:RJ (mN l[a]):=V.out _ (RV J);have ba:RJ (dfold (l.take (a+1))=qs (dfold (l.take a)) l[a]):=dfold_succ l a J;have Q:=AU l[a] N.out;have bd:RJ (Knows D (dfold (l.take a)).1):=I;have T:=I.has l[a] N.out;have cs:RJ (idx (dfold (l.take a)).1 l[a]<(dfold (l.take a)).1.length→D.atKey (kl l[a]) (.lit (.int .i64 0))= .lit (.int .i64 (idx (dfold (l.take a)).1 l[a]:Int))):=I.at_ l[a] N.out;have M:=vr (dfold (l.take a)).1 l[a];have bc:RJ (ins (dfold (l.take a)).1 l[a]=if idx (dfold (l.take a)).1 l[a]<(dfold (l.take a)).1.length then(dfold (l.take a)).1 else(dfold (l.take a)).1 ++ [l[a]]):=rfl;clear r G I bi;generalize l[a]=x at*;generalize da:dfold (l.take a)=W at*;obtain⟨b,i⟩:=W;simp only at bA ad P ae n h A Q T M;have bb:RJ (idx (ins b x) x=idx b x):=M.1;have cu:RJ (¬ idx b x<b.length→idx b x=b.length):=M.2.2;clear M da;by_cases C:idx b x<b.length
   ·rw[decide_eq_true C] at T
    go_wp2_with (first
     |(at_lookup;refine wpList_lookup_own_ok_int _ rfl _ _ 229 rfl 59 3 .i64 EL aa.underlying229 aa.underlying3 (GK _) w.heap.size s D rfl (p.alloc _) _ _ rfl Q ?_;intro O bu d2)
     |(at_builtin;refine aL _ rfl _ _ 22 rfl (w.heap.size+1) 3 a6 (.int .i64 0) 1 8 aa.underlying22 aw a2 a3 a4 rfl (by decide) _ a _ rfl ((h.alloc _).alloc _) ⟨wr.heap.size+1,0,RA⟩ 1 1 [.int .i64 O] rfl (by decide) rfl (by simpa using ga (wr.alloc _) _ _) (oM _) (by unfold R3;omega) (by omega) (by simp;omega) ?_;intro a8 K E ao))
    have c9:O=(idx b x:Int):=by
     have:=cs.out C;rw[bu] at this;simpa using this
    have o:=aK.box (aK.append ao);have m:dfold (l.take (a+1))=(b,i ++ [idx b x]):=by
     rw[ba.out];unfold qs;simp only;rw[bb.out,bc.out,if_pos C]
    rw[gG] at E;refine⟨⟨a+1,s,D,y,z,by omega,by omega,by simp,by rw[m],by rw[m];exact cZ n o A,?_,A.jv n o,p.kept o.fS (fun e=>by have:=(h.lt _ e.symm).1;omega),by rw[m];exact bd.out,L.out.trans (o.below (fun g f=>by have:=(h.lt g f).1;omega) cc)⟩,by simp[SC];omega⟩;rw[m];simp only;rw[show ints (i ++ [idx b x])=ints i ++ [O] from by rw[c9];simp[ints]];exact E
   ·rw[decide_eq_false C] at T;have dp:Ry wr.heap.size≠Ry w.heap.size:=by simp;omega
    have bt:∀ cf:UQ,(wr.alloc cf).heap.size=wr.heap.size+1:=fun cf=>by simp
    have db:Tf (.slice y b.length z)=RA∨Tf (.slice y b.length z)≠Ry w.heap.size:=.inr (fun e=>by have:=(n.lt _ e).1;omega);have dE:u9.ownBlock=RA∨u9.ownBlock≠Ry w.heap.size:=.inr (fun e=>by have:=(h.lt _ e).1;omega)
    go_wp2_with (first
     |(at_lookup;refine wpList_lookup_own_ok_int _ rfl _ _ 229 rfl 59 3 .i64 EL aa.underlying229 aa.underlying3 (GK _) w.heap.size s D rfl (p.alloc _) _ _ rfl Q ?_;intro O bu d2)
     |(at_mapUpdate;refine wpList_mapUpdate_own _ rfl _ _ _ 229 rfl 59 3 EL aa.underlying229 _ w.heap.size s D rfl (p.alloc _) ?_ _ _ _ rfl rfl Q _ [] (plainElem_int aa.underlying3 (wf_i64 _ (by omega) (by omega))) ?_;(unfold R3;omega);intro c dt H;have c8:=zl H dp;obtain⟨e1,e2,e3⟩:=c8;have dT:=H.size;rw[bt] at dT;have al:=(n.alloc _).kept H db;have cb:=(h.alloc _).kept H dE)
     |(at_builtin;refine aL _ rfl _ _ 43 rfl (w.heap.size+1) 59 d7 _ 3 32 aa.underlying43 df d4 d5 d6 rfl (by decide) _ b.length _ rfl (al.alloc _) ⟨c.heap.size,0,RA⟩ 1 1 [.bool x.null,.int .i64 x.n,.string x.s] rfl (by decide) rfl (iC _ _ _ _ _) (fY x) (by unfold R3;omega) (by omega) (by simp;omega) ?_;intro a8 K E ao;have B:=aK.append ao;have a1:=cZ cb B A.symm;have eq:=B.fS.size)
     |(at_builtin;refine aL _ rfl _ _ 22 rfl (w.heap.size+1) 3 a6 (.int .i64 0) 1 8 aa.underlying22 aw a2 a3 a4 rfl (by decide) _ a _ rfl (a1.alloc _) ⟨K.heap.size,0,RA⟩ 1 1 [.int .i64 (b.length:Int)] rfl (by decide) rfl (ga _ _ _) (oM _) (by unfold R3;omega) (by omega) (by simp;omega) ?_;intro e4 ck ca dd))
    have o:=aK.append dd;have bl:Apart a8 u9:=(A.symm.jv cb B).symm;have m:dfold (l.take (a+1))=(b ++ [x],i ++ [b.length]):=by
     rw[ba.out];unfold qs;simp only;rw[bb.out,bc.out,if_neg C,cu.out C]
    have ab:RQ w.heap.size w c:=(L.out.alloc cc _).grown H (by rw[bt];omega) (fun g f=>by cases f;exact RG _);have bv:RQ w.heap.size c K:=B.below (fun g f=>by have:=(al.lt g f).1;omega) ab.size;have c7:RQ w.heap.size K ck:=o.below (fun g f=>by have:=(a1.lt g f).1;omega) (ab.trans bv).size;rw[gG] at ca;rw[← q8,← mK] at E;have du:=dt.kept B.fS (fun e=>by have:=(al.lt _ e.symm).1;omega);have dv:=du.kept o.fS (fun e=>by have:=(a1.lt _ e.symm).1;omega);obtain⟨c2,c3,dO⟩:=tc E;refine⟨⟨a+1,s+1,_,c2,c3,by omega,by omega,by simp,by rw[m,dO];simp,by rw[m];simpa using cZ E o bl,?_,bl.jv E o,dv,by rw[m];exact bd.out.put x N.out C,(ab.trans bv).trans c7⟩,by simp[SC];omega⟩;rw[m];simp only;rw[show ints (i ++ [b.length])=ints i ++ [(b.length:Int)] from by simp[ints]];exact ca
  ·have ee:a=l.length:=by omega
   have b1:l.take a=l:=SF (by omega);have a9:RJ (dQ k l=aA (dfold (l.take a)).1.length ++ (aH k (dfold (l.take a)).1 ++ b7 (wid (dfold (l.take a)).1.length) (dfold (l.take a)).2)):=by show _=_;rw[b1];rfl
   have S:RJ (∀ x∈(dfold (l.take a)).1,mN x):=fun x d3=>V.out x (ae x d3);clear ae be I b1 V;generalize dfold (l.take a)=W at*;obtain⟨b,i⟩:=W;simp only at bA ad P n h A a9 S;have bo:Apart (.slice y b.length z) u:=by
    cases F:u.ownBlock with
    |none=>exact Apart.symm (u:=u) (UD F)
    |some g=>
     refine .inr (fun e=>?_);rw[F] at e;have Y:=(n.lt g e).1;have Z:=(U.out.lt g F).2;omega
   have bm:Apart u9 u:=by
    cases F:u.ownBlock with
    |none=>exact Apart.symm (u:=u) (UD F)
    |some g=>
     refine .inr (fun e=>?_);rw[F] at e;have Y:=(h.lt g e).1;have Z:=(U.out.lt g F).2;omega
   have bj:RJ (wr.ownsRow base 5 1 u pre.length (ax pre)):=aQ U.out L.out;have dC:=jd k b S.out;have d0:=dL 10 b.length;have es:=yx b.length;have cl:RJ (Sc (aa.of Rz) 84 #[u,.int .i64 (b.length:Int)] wr fun e w'=>∃ a7,e= .returned a7∧w'.ownsRow base 5 1 a7 (pre ++ aA b.length).length (ax (pre ++ aA b.length))∧aK wr w' u a7):=
    cz u pre b.length base wr (by omega) (by omega) (by omega) bj.out
   have en:(pre ++ aA b.length).length≤40010:=by rw[RI];unfold aA;omega
   generalize br:pre ++ aA b.length=j at*;have cv:RJ (pre ++ aA b.length=j):=br;have eo:(j ++ aH k b).length≤45000:=by rw[RI];omega
   have cn:RJ (∀ c d,c.ownsRow base 5 1 d j.length (ax j)→aK wr c u d→Sc (aa.of Rz) 146 #[d,.slice y b.length z,.int .i64 k] c fun e w'=>∃ q,e= .returned q∧w'.ownsRow base 5 1 q (j ++ aH k b).length (ax (j ++ aH k b))∧aK c w' d q):=fun c d a0 f=>
    kH d _ j b k base c dl S.out (by omega) (by omega) (by have:=f.fS.size;omega) a0 (fun w' q am=>ql.cm (cZ n (f.trans am) bo))
   generalize bs:j ++ aH k b=t at*;have cx:RJ (j ++ aH k b=t):=bs;have co:RJ (∀ c,Sc (aa.of Rz) 158 #[.int .i64 (b.length:Int)] c fun e w'=>e= .returned (.int .i64 (wid b.length))∧w'=c):=fun c=>uJ b.length (by omega) c;have cp:RJ (∀ c d,c.ownsRow base 5 1 d t.length (ax t)→aK wr c u d→Sc (aa.of Rz) 157 #[d,u9,.int .i64 (wid b.length:Nat)] c fun e w'=>∃ (v:RB),e= .returned v∧w'.ownsRow base 5 1 v (t ++ b7 (wid b.length) i).length (ax (t ++ b7 (wid b.length) i))∧aK c w' d v):=fun c d a0 f=>by
    refine(yD d u9 t i (wid b.length) base c (by omega) (by omega) (fun R h=>r8 _ (by omega) R (P R h)) (by omega) (by have:=f.fS.size;omega) a0 (fun w' q am=>?_)).mono ?_
    ·refine qi.cm (base:=w.heap.size+1) ?_;have:=cZ h (f.trans am) bm;rw[Sy,ad];exact this
    ·rintro e w' ⟨v,d8,Y,Z,c4,rfl,c5,c6⟩;have:=rN (wid b.length) i d8 Y Z c4;subst this;exact⟨_,rfl,c5,c6⟩
   clear br bs dC d0 bj n h A bo bm p G P
   go_wp2_with first
    |(go_at_call 84;refine cl.out.mono ?_;rintro e c ⟨d,rfl,dq,bB⟩)
    |(go_at_call 146;refine(cn.out _ _ dq bB).mono ?_;rintro e K ⟨a8,rfl,dr,B⟩;have b0:=bB.trans B)
    |(go_at_call 158;refine(co.out _).mono ?_;rintro e ck ⟨rfl,rfl⟩)
    |(go_at_call 157;refine(cp.out _ _ dr b0).mono ?_;rintro e e6 ⟨e5,rfl,ds,dc⟩)
   go_ret;have c1:pre ++ dQ k l=t ++ b7 (wid b.length) i:=by
    rw[a9.out,← cx.out,← cv.out];simp only[R9]
   refine⟨_,rfl,?_,(aK.bS L.out).trans (b0.trans dc)⟩;rw[c1];exact ds
def mo (x:aD):Int:=if x.null then 0 else 1
def there(l:List aD):List aD:=l.filter fun a=> !a.null
def cU (k e:Int)(l:List aD):List Nat:=if e=1 then bp 0 l else if e=2 then dQ k l else if e=3 then bF (l.map aD.n) else aH k l
def aZ (k e:Int)(l:List aD):List Nat:=bF (l.map mo) ++ cU k e (there l)
theorem Ai{l:List aD}{x:aD}(h:x∈there l):x∈l:=(List.mem_filter.1 h).1
theorem nS(l:List aD):(there l).length≤l.length:=List.length_filter_le _ _
theorem FF(l:List aD)(j:Nat)(h:j<l.length):there (l.take (j+1))=if l[j].null then there (l.take j) else there (l.take j) ++ [l[j]]:=by
 unfold there;rw[RR h,List.filter_append];cases a:l[j].null<;>simp[a]
theorem Ih(l:List aD)(j:Nat)(h:j<l.length):(l.take (j+1)).map mo=(l.take j).map mo ++ [mo l[j]]:=by
 rw[RR h,SQ];rfl
theorem nK(l:List Int)(h:l.length≤100):(bF l).length≤1100:=by
 have:=Bl l.length l;unfold bF;omega
theorem tU(u d:RB)(pre:List Nat)(a:List Int)(base o:Nat)(w:RD)(m:a.length≤100)(j:pre.length≤100000)(h:base≤w.heap.size)
 (l:w.ownsRow base 5 1 u pre.length (ax pre)) (k:w.ownsRow o 3 1 d a.length (aY a)) (v:Apart d u):
 Sc (aa.of Rz) 142 #[u,d] w fun e w'=>∃ f,e= .returned f∧w'.ownsRow base 5 1 f (pre ++ bF a).length (ax (pre ++ bF a))∧aK w w' u f:=by
 rcases k.2 with⟨rfl,r⟩|⟨q,p,B,rfl,C,F,G,D,E,H⟩
 ·rw[show(SS RA 0 0)= .slice RA a.length 0 from by rw[r]];exact oy u pre a RA 0 0 0 base w m j h (fun b=>by omega) (fun b=>by omega) (fun b=>by omega) (fun I b=>by omega) l
 ·obtain⟨z,n,y,A,i,g,s,t⟩:=qi.cm k;simp only[T5,true_and] at i;obtain⟨rfl,rfl⟩:=i;refine oy u pre a (Ry ⟨q,0,RA⟩) n y p base w m j h g s (fun b=>?_) t l;have e:=g b;simp only[SY,UO] at e;rw[← e.1];intro x;rcases v with c|c
  ·simp[Tf] at c
  ·exact c (by rw[x];simp[Tf])
theorem sw(u b1:RB)(pre:List Nat)(l:List aD)(k e:Int)(base:Nat)(w:RD)(Z:k=1∨k=2∨k=3)(bu:∀ x∈l,mN x)(c4:l.length≤100)(c3:pre.length≤30000)(c1:base≤w.heap.size)
 (bm:w.ownsRow base 5 1 u pre.length (ax pre)) (cs:ql w b1 l):
 Sc (aa.of Rz) 124 #[u,b1,.int .i64 k,.int .i64 e] w fun r w'=>∃ h,r= .returned h∧w'.ownsRow base 5 1 h (pre ++ aZ k e l).length (ax (pre ++ aZ k e l))∧aK w w' u h:=by
 obtain⟨a0,Y,am,ao,ar⟩:=S3 aa.zH;obtain⟨bB,be,bv,bx,bA⟩:=S3 aa.ni;obtain⟨cc,cd,cu,cR,rfl,D⟩:=cs;have a3:RJ (∀ x∈l,mN x):=bu;have cb:RJ (ot w cc cd cu l):=D;have R:RJ (w.ownsRow base 5 1 u pre.length (ax pre)):=bm;clear bu D bm;go_enter aa.func124,Tryz.ntmps124
 go_wp2_with (first
  |(at_make;refine TM _ rfl _ _ 22 rfl w.heap.size 3 a0 (.int .i64 0) 1 aa.underlying22 Y am ao .i64 .i64 _ l.length rfl rfl rfl (by rw[ar];omega) (by unfold R3;omega) (RG _) ?_;intro cx ad W;have ae:=W.size)
  |(at_make;refine TM _ rfl _ _ 43 rfl w.heap.size 59 bB _ 3 aa.underlying43 be bv bx .i64 .i64 _ l.length rfl rfl rfl (by rw[bA];omega) (by unfold R3;omega) ae ?_;intro a br X))
 have bb:Apart (.slice (Ry ⟨w.heap.size,0,RA⟩) 0 l.length) (.slice (Ry ⟨cx.heap.size,0,RA⟩) 0 l.length):=.inr (by
  have:=(ad.lt w.heap.size (by simp[Tf])).2;simp[Tf];omega)
 have bo:=ad.kept X (.inr (by simp[Tf]));have bc:RQ w.heap.size w a:=((R5 _ _).grown W (RG _) (by simp)).grown X ae (by simp);clear ad W X ae
 go_loopw [9,10,21] (fun b0 b3 aw wr=>∃ (d:Nat),d≤l.length∧aw= .int .i64 d∧wr.ownsRow w.heap.size 3 1 b0 d (aY ((l.take d).map mo))∧wr.ownsRow w.heap.size 59 3 b3 (there (l.take d)).length (aE (there (l.take d)))∧Apart b0 b3∧RQ w.heap.size w wr) (fun _ _ aw _=>l.length - (SC aw).toNat)
 case atStart=>exact⟨0,Sk _,rfl,by simpa [aY] using bo,by simpa [there,aE] using br,bb,bc⟩
 case round=>
  clear bo br bb bc;obtain⟨d,c2,rfl,i,o,K,L⟩:=hrel;have B:RJ (RQ w.heap.size w wr):=L;have al:w.heap.size≤wr.heap.size:=L.size;have c6:(there (l.take d)).length≤d:=by have:=nS (l.take d);rw[Tb] at this;omega
  have cn:Ry wr.heap.size≠u9.ownBlock:=fun e=>by have:=(i.lt _ e.symm).2;omega
  by_cases O:d<l.length
  ·have D:=cb.out.below L;obtain rfl:=D.addr (by omega);have b2:=D.c0 d O;have c8:=D.c1 d O;have c9:=D.c2 d O;have F:=FF l d O;have a1:RJ ((l.take (d+1)).map mo=(l.take d).map mo ++ [mo l[d]]):=Ih l d O;clear D L;generalize l[d]=x at*;cases s:x.null
   ·rw[s] at b2 F;have U:RJ (there (l.take (d+1))=there (l.take d) ++ [x]):=by show _=_;simpa using F
    have T:RJ (mo x=1):=by show _=_;unfold mo;rw[s];rfl
    have ci:aE [x]=[.bool RE,.int .i64 x.n,.string x.s]:=by rw[q8,s]
    have ce:∀ u∈[Ug RE,.int .i64 x.n,.string x.s],u.oneCell'=RF:=by have:=fY x;rwa [s] at this
    clear F s
    go_wp2_with (first
     |(at_builtin;refine aL _ rfl _ _ 22 rfl w.heap.size 3 a0 (.int .i64 0) 1 8 aa.underlying22 Y am ao ar rfl (by decide) _ d _ rfl ((i.alloc _).alloc _) ⟨wr.heap.size+1,0,RA⟩ 1 1 [.int .i64 1] rfl (by decide) rfl (by simpa using ga (wr.alloc _) _ _) (oM _) (by unfold R3;omega) (by omega) (by simp;omega) ?_;intro q j P V;have bd:=aK.append V;have ch:=zl bd.fS cn;obtain⟨da,db,dc⟩:=ch;have m:=bd.box;have bt:=cZ o m K.symm;have cp:=m.fS.size)
     |(at_builtin;refine aL _ rfl _ _ 43 rfl w.heap.size 59 bB _ 3 32 aa.underlying43 be bv bx bA rfl (by decide) _ _ _ rfl (bt.alloc _) ⟨j.heap.size,0,RA⟩ 1 1 [.bool RE,.int .i64 x.n,.string x.s] rfl (by decide) rfl (iC _ _ _ _ _) ce (by unfold R3;omega) (by omega) (by simp;omega) ?_;intro cv b4 bs ck))
    have N:=aK.append ck;have a5:Apart q u10:=(K.symm.jv o m).symm;have S:=cZ P N a5;rw[gG] at S;rw[← ci,← mK] at bs;have z:RQ w.heap.size wr j:=m.below (fun J f=>(i.lt J f).1) al;have cf:RQ w.heap.size j b4:=N.below (fun J f=>(bt.lt J f).1) (R4 al cp);refine⟨⟨d+1,by omega,by simp,by rw[a1.out,T.out];exact S,by rw[U.out];simpa using bs,a5.jv P N,(B.out.trans z).trans cf⟩,by simp[SC];omega⟩
   ·rw[s] at b2 F;have U:RJ (there (l.take (d+1))=there (l.take d)):=by show _=_;simpa using F
    have T:RJ (mo x=0):=by show _=_;unfold mo;rw[s];rfl
    clear F s
    go_wp2_with (at_builtin;refine aL _ rfl _ _ 22 rfl w.heap.size 3 a0 (.int .i64 0) 1 8 aa.underlying22 Y am ao ar rfl (by decide) _ d _ rfl ((i.alloc _).alloc _) ⟨wr.heap.size+1,0,RA⟩ 1 1 [.int .i64 0] rfl (by decide) rfl (by simpa using ga (wr.alloc _) _ _) (oM _) (by unfold R3;omega) (by omega) (by simp;omega) ?_;intro q j P V)
    have m:=aK.box (aK.append V);rw[gG] at P;have z:RQ w.heap.size wr j:=m.below (fun J f=>(i.lt J f).1) al;refine⟨⟨d+1,by omega,by simp,by rw[a1.out,T.out];exact P,by rw[U.out];exact cZ o m K.symm,(K.symm.jv o m).symm,B.out.trans z⟩,by simp[SC];omega⟩
  ·have bj:d=l.length:=by omega
   have bi:l.take d=l:=SF (by omega);rw[bi] at i o;have bl:((l.map mo).length)=l.length:=Sy _;have ab:wr.ownsRow w.heap.size 3 1 u9 (l.map mo).length (aY (l.map mo)):=by rw[bl,← bj];exact i
   have H:RJ (aZ k e l=bF (l.map mo) ++ cU k e (there l)):=rfl;have Q:RJ (∀ x∈there l,mN x):=fun x s=>a3.out x (Ai s);have c7:=nS l;have co:=nK (l.map mo) (by omega);have a6:Apart u9 u:=(Apart.new (B:=0) R.out ab).symm;have E:Apart u10 u:=(Apart.new (B:=0) R.out o).symm;have a2:RJ (wr.ownsRow base 5 1 u pre.length (ax pre)):=aQ R.out B.out;have G:RJ (Sc (aa.of Rz) 142 #[u,u9] wr fun e w'=>∃ t,e= .returned t∧w'.ownsRow base 5 1 t (pre ++ bF (l.map mo)).length (ax (pre ++ bF (l.map mo)))∧aK wr w' u t):=
    tU u u9 pre (l.map mo) base w.heap.size wr (by omega) (by omega) (by omega) a2.out ab a6
   have c5:(pre ++ bF (l.map mo)).length≤32000:=by rw[RI];omega
   generalize bF (l.map mo)=a4 at*;generalize ba:pre ++ a4=g at*;have I:RJ (pre ++ a4=g):=ba;generalize there l=c at*;have C:RJ (∀ a b,aK wr a u b→a.ownsRow w.heap.size 59 3 u10 c.length (aE c)∧Apart u10 b):=fun a b f=>⟨cZ o f E,E.jv o f⟩;clear ba co bl i ab a6 a2 K L bi bj a3 R;rcases AE e with rfl|rfl|rfl|rfl|⟨c0,a7,a8,a9⟩
   ·have y:RJ (cU k 0 c=aH k c):=rfl;have v:RJ (∀ a b,a.ownsRow base 5 1 b g.length (ax g)→aK wr a u b→Sc (aa.of Rz) 146 #[b,u10,.int .i64 k] a fun e w'=>∃ h,e= .returned h∧w'.ownsRow base 5 1 h (g ++ aH k c).length (ax (g ++ aH k c))∧aK a w' b h):=fun a b i f=>
     kH b _ g c k base a Z Q.out (by omega) (by omega) (by have:=f.fS.size;omega) i (fun w' h M=>ql.cm (cZ (C.out a b f).1 M (C.out a b f).2))
    clear o E
    go_wp2_with first
     |(go_at_call 142;refine G.out.mono ?_;rintro e a ⟨b,rfl,A,n⟩)
     |(go_at_call 146;refine(v.out _ _ A n).mono ?_;rintro e j ⟨q,rfl,p,m⟩)
    go_ret;refine⟨_,rfl,?_,(aK.bS B.out).trans (n.trans m)⟩;rw[H.out,y.out,← R9,I.out];exact p
   ·have y:RJ (cU k 1 c=bp 0 c):=rfl;have v:RJ (∀ a b,a.ownsRow base 5 1 b g.length (ax g)→aK wr a u b→Sc (aa.of Rz) 143 #[b,u10] a fun e w'=>∃ h,e= .returned h∧w'.ownsRow base 5 1 h (g ++ bp 0 c).length (ax (g ++ bp 0 c))∧aK a w' b h):=fun a b i f=>
     uP b _ g c base a Q.out (by omega) (by omega) (by have:=f.fS.size;omega) i (fun w' h M=>ql.cm (cZ (C.out a b f).1 M (C.out a b f).2))
    clear o E
    go_wp2_with first
     |(go_at_call 142;refine G.out.mono ?_;rintro e a ⟨b,rfl,A,n⟩)
     |(go_at_call 143;refine(v.out _ _ A n).mono ?_;rintro e j ⟨q,rfl,p,m⟩)
    go_ret;refine⟨_,rfl,?_,(aK.bS B.out).trans (n.trans m)⟩;rw[H.out,y.out,← R9,I.out];exact p
   ·have y:RJ (cU k 2 c=dQ k c):=rfl;have v:RJ (∀ a b,a.ownsRow base 5 1 b g.length (ax g)→aK wr a u b→Sc (aa.of Rz) 144 #[b,u10,.int .i64 k] a fun e w'=>∃ h,e= .returned h∧w'.ownsRow base 5 1 h (g ++ dQ k c).length (ax (g ++ dQ k c))∧aK a w' b h):=fun a b i f=>
     vN b _ g c k base a Z Q.out (by omega) (by omega) (by have:=f.fS.size;omega) i (ql.cm (C.out a b f).1)
    clear o E
    go_wp2_with first
     |(go_at_call 142;refine G.out.mono ?_;rintro e a ⟨b,rfl,A,n⟩)
     |(go_at_call 144;refine(v.out _ _ A n).mono ?_;rintro e j ⟨q,rfl,p,m⟩)
    go_ret;refine⟨_,rfl,?_,(aK.bS B.out).trans (n.trans m)⟩;rw[H.out,y.out,← R9,I.out];exact p
   ·have y:RJ (cU k 3 c=bF (c.map aD.n)):=rfl;have cl:(c.map aD.n).length=c.length:=Sy _;have v:RJ (∀ a b,aK wr a u b→Sc (aa.of Rz) 145 #[u10] a fun e w'=>∃ t,e= .returned t∧w'.ownsRow a.heap.size 3 1 t c.length (aY (c.map aD.n))∧RQ a.heap.size a w'):=fun a b f=>
     Ed u10 c a (by omega) (ql.cm (C.out a b f).1)
    have ca:RJ (∀ a j b q,a.ownsRow base 5 1 b g.length (ax g)→aK wr a u b→j.ownsRow a.heap.size 3 1 q c.length (aY (c.map aD.n))→RQ a.heap.size a j→Sc (aa.of Rz) 142 #[b,q] j fun e w'=>∃ t,e= .returned t∧w'.ownsRow base 5 1 t (g ++ bF (c.map aD.n)).length (ax (g ++ bF (c.map aD.n)))∧aK j w' b t):=fun a j b q i f p z=>
     tU b q g (c.map aD.n) base a.heap.size j (by omega) (by omega) (by have:=f.fS.size;have:=z.size;omega) (aQ i z) (by rw[cl];exact p) (Apart.new (B:=0) i p).symm
    clear o E
    go_wp2_with fail
    refine G.out.mono ?_;rintro e a ⟨b,rfl,A,n⟩
    go_wp2_with first
     |(go_at_call 145;refine(v.out _ _ n).mono ?_;rintro e j ⟨q,rfl,p,z⟩)
     |(go_at_call 142;refine(ca.out _ _ _ _ A n p z).mono ?_;rintro e b4 ⟨cv,rfl,S,N⟩)
    go_ret;refine⟨_,rfl,?_,(aK.bS B.out).trans (n.trans ((aK.bS z).trans N))⟩;rw[H.out,y.out,← R9,I.out];exact S
   ·have y:RJ (cU k e c=aH k c):=by
     show _=_;simp at a7 a8 a9;unfold cU;rw[if_neg a7,if_neg a8,if_neg a9]
    have v:RJ (∀ a b,a.ownsRow base 5 1 b g.length (ax g)→aK wr a u b→Sc (aa.of Rz) 146 #[b,u10,.int .i64 k] a fun e w'=>∃ h,e= .returned h∧w'.ownsRow base 5 1 h (g ++ aH k c).length (ax (g ++ aH k c))∧aK a w' b h):=fun a b i f=>
     kH b _ g c k base a Z Q.out (by omega) (by omega) (by have:=f.fS.size;omega) i (fun w' h M=>ql.cm (cZ (C.out a b f).1 M (C.out a b f).2))
    clear o E
    go_wp2_with first
     |(go_at_call 142;refine G.out.mono ?_;rintro e a ⟨b,rfl,A,n⟩)
     |(go_at_call 146;refine(v.out _ _ A n).mono ?_;rintro e j ⟨q,rfl,p,m⟩)
    go_ret;refine⟨_,rfl,?_,(aK.bS B.out).trans (n.trans m)⟩;rw[H.out,y.out,← R9,I.out];exact p
theorem yL(k e:Int)(l:List aD)(h:∀ x∈l,mN x)(j:l.length≤100):(cU k e l).length≤100000:=by
 unfold cU
 split
 ·have:=qp 0 l;omega
 ·split
  ·unfold dQ;have a:=rz l l.length (RG _);rw[SR] at a;obtain⟨f,g,i,b⟩:=a;have n:=jd k (dfold l).1 (fun x d=>h x (b x d));have o:=dL 10 (dfold l).1.length;have c:=yx (dfold l).1.length;have m:(dfold l).2.length*wid (dfold l).1.length≤100*7:=UW (by omega) c;rw[RI,RI,fp];unfold aA;omega
  ·split
   ·have:=nK (l.map aD.n) (by rw[Sy];omega);omega
   ·have:=jd k l h;omega
structure D5(v:aD):Prop where
 lo: -9223372036854775808≤v.n
 hi:v.n≤9223372036854775807
theorem xO{s:ByteArray}(h:s.toList=[]):s.size=0:=by
 have a:s.toList=s.data.toList:=ByteArray.toList_eq s;rw[a] at h;show s.data.size=0;rw[← TL,h];rfl
theorem yt{x:aD}{k:Int}(h:D5 x)(a:eU x k=RF):mN x:=by
 refine⟨h.lo,h.hi,?_⟩;unfold eU at a
 split at a
 ·simp at a;have:=xO a.2;omega
 ·split at a
  ·simp at a;have:=xO a;omega
  ·split at a
   ·simp at a;have:=xO a.2;omega
   ·simp at a;omega
def gZ (l:List aD)(k e:Int):ByteArray×Int:=
 if 100<l.length then(⟨#[]⟩,6) else if bf k e=RE then(⟨#[]⟩,2) else if (l.all fun a=>eU a k)=RE then(⟨#[]⟩,1) else(strOf (aZ k e l),0)
theorem Kn{l:List aD}{k e:Int}(h:100<l.length):gZ l k e=(⟨#[]⟩,6):=by unfold gZ;rw[if_pos h]
theorem MU{l:List aD}{k e:Int}(h:¬ 100<l.length)(a:bf k e=RE):gZ l k e=(⟨#[]⟩,2):=by unfold gZ;rw[if_neg h,if_pos a]
theorem MT{l:List aD}{k e:Int}(h:¬ 100<l.length)(a:bf k e=RF)(j:Nat)(c:j<l.length)(d:eU l[j] k=RE):gZ l k e=(⟨#[]⟩,1):=by
 unfold gZ;rw[if_neg h,if_neg (by simp[a]),if_pos];rw[Bool.eq_false_iff];intro b;have:=Sf.1 b _ (RV c);rw[d] at this;cases this
theorem Ko{l:List aD}{k e:Int}(h:¬ 100<l.length)(c:bf k e=RF)(d:∀ j,(a:j<l.length)→eU l[j] k=RF):gZ l k e=(strOf (aZ k e l),0):=by
 unfold gZ;rw[if_neg h,if_neg (by simp[c]),if_neg];have:(l.all fun b=>eU b k)=RF:=by
  rw[Sf];intro b f;obtain⟨j,a,rfl⟩:=To f;exact d j a
 simp[this]
theorem zA{k e:Int}(h:bf k e=RF):(k=1∨k=2∨k=3)∧(e=0∨e=1∨e=2∨e=3):=by
 constructor
 ·rcases AE k with rfl|rfl|rfl|rfl|⟨j,f,g,i⟩
  ·simp[bf,fJ] at h
  ·exact .inl rfl
  ·exact .inr (.inl rfl)
  ·exact .inr (.inr rfl)
  ·rw[KX f g i] at h;cases h
 ·rcases AE e with rfl|rfl|rfl|rfl|⟨a,b,c,d⟩
  ·exact .inl rfl
  ·exact .inr (.inl rfl)
  ·exact .inr (.inr (.inl rfl))
  ·exact .inr (.inr (.inr rfl))
  ·rw[Ni a b c d] at h;cases h
theorem B5(O:RB)(l:List aD)(k e:Int)(w:RD)(ab:l.length≤R3)(J:∀ x∈l,D5 x)(ae:ql w O l):
 Sc (aa.of Rz) 87 #[O,.int .i64 k,.int .i64 e] w fun r w'=>r= .returned (.tuple #[.string (gZ l k e).1,.int .i64 (gZ l k e).2])∧RQ w.heap.size w w':=by
 obtain⟨p,H,P,A,rfl,d⟩:=ae;unfold R3 at ab;have g:=n5 (l.length:Int) k e;by_cases s:100<l.length
 ·rw[Kn s];rw[show iv (l.length:Int) k e=6 from by unfold iv;rw[if_pos (by omega)]] at g;go_enter aa.func87,Tryz.ntmps87
  go_wp2_with (go_at_call 123;refine(g _).mono ?_;rintro e w' ⟨rfl,rfl⟩)
  all_goals go_ret2
  all_goals exact⟨rfl,R5 _ _⟩
 cases f:bf k e
 ·rw[MU s f];rw[show iv (l.length:Int) k e=2 from by unfold iv;rw[if_neg (by omega),f];rfl] at g;go_enter aa.func87,Tryz.ntmps87
  go_wp2_with (go_at_call 123;refine(g _).mono ?_;rintro e w' ⟨rfl,rfl⟩)
  all_goals go_ret2
  all_goals exact⟨rfl,R5 _ _⟩
 rw[show iv (l.length:Int) k e=0 from by unfold iv;rw[if_neg (by omega),f];rfl] at g;obtain⟨K,X⟩:=zA f;have F:RJ (bf k e=RF):=f;have G:RJ (k=1∨k=2∨k=3):=K;have S:RJ (∀ x∈l,D5 x):=J;have v:RJ (ot w p H P l):=d;clear f X K J d;go_enter aa.func87,Tryz.ntmps87
 go_wp2_with (go_at_call 123;refine(g _).mono ?_;rintro e w' ⟨rfl,M⟩;rw[M];clear M)
 go_loopw [21] (fun D wr=>∃ b:Nat,b≤l.length∧D= .int .i64 b∧(∀ a,(c:a<l.length)→a<b→eU l[a] k=RF)∧RQ w.heap.size w wr) (fun D _=>l.length - (SC D).toNat)
 case atStart=>exact⟨0,Sk _,rfl,fun a _ q=>by omega,R5 _ _⟩
 case round=>
  obtain⟨b,ao,rfl,h,i⟩:=hrel;have n:RJ (∀ a,(c:a<l.length)→a<b→eU l[a] k=RF):=h;have u:RJ (RQ w.heap.size w wr):=i;have C:=i.size;clear h;by_cases t:b<l.length
  ·have d:=v.out.below i;obtain rfl:=d.addr (by omega);have ar:=d.c0 b t;have aw:=d.c1 b t;have a0:=d.c2 b t;have y:RJ (eU l[b] k=RE→gZ l k e=(⟨#[]⟩,1)):=fun q=>MT s F.out b t q;have z:RJ (eU l[b] k=RF→∀ a,(c:a<l.length)→a<b+1→eU l[a] k=RF):=fun q a c f=>by
    by_cases W:a=b
    ·subst W;exact q
    ·exact n.out a c (by omega)
   have o:RJ (∀ m,Sc (aa.of Rz) 82 #[.agg #[.bool l[b].null,.int .i64 l[b].n,.string l[b].s],.int .i64 k] m fun e w'=>e= .returned (.bool (eU l[b] k))∧RQ m.heap.size m w'):=fun m=>pE l[b] k m G.out;clear d i n v;generalize l[b]=x at*;cases j:eU x k
   ·have U:RJ (gZ l k e=(⟨#[]⟩,1)):=y.out j;rw[j] at o;clear y z j
    go_wp2_with (go_at_call 82;refine(o.out _).mono ?_;rintro e Q ⟨rfl,B⟩)
    go_ret2
    rw[U.out];exact⟨rfl,u.out.trans ((sF B).mono C)⟩
   ·have V:RJ (∀ a,(c:a<l.length)→a<b+1→eU l[a] k=RF):=z.out j;rw[j] at o;clear y z j
    go_wp2_with (go_at_call 82;refine(o.out _).mono ?_;rintro e Q ⟨rfl,B⟩)
    go_roundw
    case rel=>exact⟨b+1,by omega,by go_num,V.out,u.out.trans ((sF B).mono C)⟩
    case measure=>simp[SC];omega
  ·have h:∀ a,(c:a<l.length)→eU l[a] k=RF:=fun a c=>n.out a c (by omega);have T:RJ (gZ l k e=(strOf (aZ k e l),0)):=Ko s F.out h;have L:∀ x∈l,mN x:=fun x N=>by
    obtain⟨a,c,rfl⟩:=To N;exact yt (S.out _ N) (h a c)
   have R:RJ (Sc (aa.of Rz) 124 #[.slice RA 0 0,.slice p l.length A,.int .i64 k,.int .i64 e] wr fun r w'=>∃ E,r= .returned E∧w'.ownsRow wr.heap.size 5 1 E (aZ k e l).length (ax (aZ k e l))∧aK wr w' (.slice RA 0 0) E):=by
    have I:=sw (.slice RA 0 0) (.slice p l.length A) [] l k e wr.heap.size wr G.out L (by omega) (by simp) (RG _) (T6 _ _ _ _) ⟨p,H,P,A,rfl,v.out.below i⟩;rw[List.nil_append] at I;exact I
   clear n h L i
   go_wp2_with (go_at_call 124;refine R.out.mono ?_;rintro e Q ⟨u1,rfl,ad,Z⟩;have am:=oU ad rfl)
   go_ret2
   rw[T.out];exact⟨rfl,u.out.trans ((Z.below (fun al Y=>by simp[Tf] at Y) (RG _)).mono C)⟩
end Ec
namespace Ec
open Go.RowKit Pk
structure bO where
 name:ByteArray
 kind:Int
def dN (l:List bO):List RB:=l.flatMap fun a=>[.string a.name,.int .i64 a.kind]
structure qI(w:RD)(ao:Option Sl)(b off:Nat)(l:List bO):Prop where
 addr:0<l.length→ao=Ry ⟨b,off,RA⟩
 lt:0<l.length→b<w.heap.size
 c0:∀ j (h:j<l.length),w.cell? ⟨b,off+j*2,RA⟩=Ry (.string l[j].name)
 c1:∀ j (h:j<l.length),w.cell? ⟨b,off+j*2+1,RA⟩=Ry (.int .i64 l[j].kind)
theorem qI.below{w w':RD}{e:Option Sl}{b off:Nat}{l:List bO}(h:qI w e b off l)(c:RQ w.heap.size w w'):qI w' e b off l:=
 ⟨h.addr,fun f=>RK (h.lt f) c.size,
  fun a d=>(c.cell (p:=⟨b,off+a*2,RA⟩) (h.lt (by omega))).trans (h.c0 a d),
  fun a d=>(c.cell (p:=⟨b,off+a*2+1,RA⟩) (h.lt (by omega))).trans (h.c1 a d)⟩
theorem qI.take{w:RD}{e:Option Sl}{b off:Nat}{l:List bO}(h:qI w e b off l)(n:Nat):qI w e b off (l.take n):=by
 refine⟨fun a=>h.addr ?_,fun a=>h.lt ?_,fun d c=>?_,fun d c=>?_⟩
 ·simp at a;omega
 ·simp at a;omega
 ·rw[Tj];exact h.c0 d (by simp at c;omega)
 ·rw[Tj];exact h.c1 d (by simp at c;omega)
def yy (w:RD)(v:RB)(l:List bO):Prop:=∃ a c d b,v= .slice a l.length b∧l.length≤b∧qI w a c d l
theorem yy.below{w w':RD}{v:RB}{l:List bO}(h:yy w v l)(d:RQ w.heap.size w w'):yy w' v l:=by
 obtain⟨a,b,f,c,rfl,e,h⟩:=h;exact⟨a,b,f,c,rfl,e,h.below d⟩
def n6 (c:bO):Bool:=decide ((1:Int)≤(c.name.size:Int)) && decide ((c.name.size:Int)≤16) && fJ c.kind
def k9 (l:List bO)(i:Nat):Prop:=∀ b:i<l.length,n6 l[i]=RF∧∀ a (c:a<i),l[a].name≠l[i].name
def fD (l:List bO):Prop:=1≤l.length∧l.length≤8∧∀ a,k9 l a
theorem AS(c:bO)(w:RD):
 Sc (aa.of Rz) 80 #[.agg #[.string c.name,.int .i64 c.kind]] w fun e w'=>e= .returned (.bool (n6 c))∧RQ w.heap.size w w':=by
 have a:=nj c.kind;cases b:decide ((1:Int)≤(c.name.size:Int))<;>cases d:decide ((c.name.size:Int)≤16)
 all_goals
  go_enter aa.func80,Tryz.ntmps80
  go_wp2_with (go_at_call 120;refine(a _).mono ?_;rintro e w' ⟨rfl,rfl⟩)
  all_goals go_ret
  all_goals refine⟨oT ?_,(R5 _ _).alloc (RG _) _⟩
  all_goals simp_all [n6]
  all_goals try (intros;omega)
theorem Cy(l:List bO)(s:ByteArray)(p:Option Sl)(b off cap:Nat)(w:RD)(D:l.length≤R3)(d:qI w p b off l):
 Sc (aa.of Rz) 81 #[.slice p l.length cap,.string s] w fun e w'=>∃ bb,e= .returned (.bool bb)∧(bb=RF↔∃ k,∃ h:k<l.length,l[k].name=s)∧RQ w.heap.size w w':=by
 unfold R3 at D;have u:RJ (qI w p b off l):=d;clear d;go_enter aa.func81,Tryz.ntmps81
 go_wp2_with fail
 go_loopw [9] (fun r wr=>∃ c:Nat,c≤l.length∧r= .int .i64 c∧(∀ a,(i:a<l.length)→a<c→l[a].name≠s)∧RQ w.heap.size w wr) (fun r _=>l.length - (SC r).toNat)
 case atStart=>exact⟨0,Sk _,rfl,fun a _ h=>by omega,R5 _ _⟩
 case round=>
  obtain⟨c,G,rfl,x,g⟩:=hrel;have j:RJ (∀ a,(i:a<l.length)→a<c→l[a].name≠s):=x;have m:RJ (RQ w.heap.size w wr):=g;have y:=g.size;clear x;by_cases q:c<l.length
  ·have d:=u.out.below g;obtain rfl:=d.addr (by omega);have H:=d.c0 c q;have I:=d.c1 c q;have n:RJ (l[c].name=s→∃ k,∃ h:k<l.length,l[k].name=s):=fun h=>⟨c,q,h⟩;have o:RJ (l[c].name≠s→∀ a,(i:a<l.length)→a<c+1→l[a].name≠s):=fun h a i F=>by
    by_cases C:a=c
    ·subst C;exact h
    ·exact j.out a i (by omega)
   clear d g j u;generalize l[c]=t at*;by_cases f:t.name=s
   ·have v:=n.out f;have A:RJ (∃ k,∃ h:k<l.length,l[k].name=s):=v;have E:(t.name.toList == s.toList)=RF:=by rw[f];simp
    clear n o f v;go_wp2;go_ret;exact⟨RF,rfl,by simp only[true_iff];exact A.out,m.out.alloc y _⟩
   ·have B:RJ (∀ a,(i:a<l.length)→a<c+1→l[a].name≠s):=o.out f;have E:(t.name.toList == s.toList)=RE:=by rw[beq_eq_false_iff_ne];exact fun h=>f (toList_inj h)
    clear n o f;go_wp2
    go_roundw
    case rel=>exact⟨c+1,by omega,by go_num,B.out,m.out.alloc y _⟩
    case measure=>simp[SC];omega
  ·have z:RJ (¬ ∃ k,∃ h:k<l.length,l[k].name=s):=by
    rintro⟨k,h,e⟩;exact j.out k h (by omega) e
   clear j g;go_wp2;go_ret;exact⟨RE,rfl,by simp only[Sa,false_iff];exact z.out,m.out⟩
theorem m7(w:RD)(a b:RB)(t:RO):(w.alloc (.cells #[a,b] t)).cell? ⟨w.heap.size,0,RA⟩=Ry a∧(w.alloc (.cells #[a,b] t)).cell? ⟨w.heap.size,1,RA⟩=Ry b:=by
 constructor<;>simp
def CL (a b:Int):Int:=if a<b then -1 else if b<a then 1 else 0
def iN (x y:aD):Int:=if x.n<y.n then -1 else if y.n<x.n then 1 else S8 x.s.data.toList y.s.data.toList
theorem NU(x y:aD):iN x y=if CL x.n y.n=0 then S8 x.s.data.toList y.s.data.toList else CL x.n y.n:=by
 unfold iN CL;by_cases a:x.n<y.n
 ·rw[if_pos a,if_pos a,if_neg (by omega)]
 ·rw[if_neg a,if_neg a];by_cases b:y.n<x.n
  ·rw[if_pos b,if_pos b,if_neg (by omega)]
  ·rw[if_neg b,if_neg b,if_pos rfl]
theorem H7(a:Int)(w:RD):Sc (aa.of Rz) 159 #[.int .i64 a] w fun e w'=>e= .returned (.bool RE)∧w'=w:=by
 go_enter aa.func159,Tryz.ntmps159;go_wp2;go_ret;exact⟨rfl,rfl⟩
theorem vY(a b:Int)(w:RD):Sc (aa.of Rz) 148 #[.int .i64 a,.int .i64 b] w fun e w'=>e= .returned (.int .i64 (CL a b))∧w'=w:=by
 have c:=H7;unfold CL;go_enter aa.func148,Tryz.ntmps148;by_cases d:a<b
 ·rw[if_pos d]
  go_wp2_with (go_at_call 159;refine(c _ _).mono ?_;rintro g w' ⟨rfl,rfl⟩)
  go_ret;exact⟨rfl,rfl⟩
 ·rw[if_neg d];by_cases f:b<a
  ·rw[if_pos f]
   go_wp2_with (go_at_call 159;refine(c _ _).mono ?_;rintro g w' ⟨rfl,rfl⟩)
   go_ret;exact⟨rfl,rfl⟩
  ·rw[if_neg f]
   go_wp2_with (go_at_call 159;refine(c _ _).mono ?_;rintro g w' ⟨rfl,rfl⟩)
   go_ret;exact⟨rfl,rfl⟩
theorem yK(a b:ByteArray)(w:RD):Sc (aa.of Rz) 160 #[.string a,.string b] w fun e w'=>e= .returned (.int .i64 (S8 a.data.toList b.data.toList))∧w'=w:=by
 go_enter aa.func160,Tryz.ntmps160;go_wp2;rw[run_callFunc_extern aa.func168 (by kernel_rfl) (by kernel_rfl) (by kernel_rfl) (e:=US) (by kernel_rfl),Lib.run_compareString];simp only[Result.andThen];rw[Oper.upon_value];go_wp2;go_ret;exact⟨rfl,rfl⟩
theorem Bm(a b:ByteArray)(w:RD):Sc (aa.of Rz) 149 #[.string a,.string b] w fun e w'=>e= .returned (.int .i64 (S8 a.data.toList b.data.toList))∧w'=w:=by
 go_enter aa.func149,Tryz.ntmps149
 go_wp2_with (go_at_call 160;refine(yK _ _ _).mono ?_;rintro e w' ⟨rfl,rfl⟩)
 go_ret;exact⟨rfl,rfl⟩
theorem G5(a b:Int)(g:Nat)(w:RD)(p:w.cell? ⟨g,0,RA⟩=Ry (.int .i64 a))(h1:w.cell? ⟨g,1,RA⟩=Ry (.int .i64 b)):
 Sc (aa.of Rz) 147 #[.slice (Ry ⟨g,0,RA⟩) 2 2] w fun e w'=>e= .returned (.int .i64 (if a=0 then b else a))∧w'=w:=by
 go_enter aa.func147,Tryz.ntmps147
 go_wp2_with fail
 go_loopw [8] (fun i wr=>∃ d:Nat,d≤2∧i= .int .i64 (d:Int)∧(1≤d→a=0)∧(2≤d→b=0)∧wr=w) (fun i _=>2 - (SC i).toNat)
 case atStart=>exact⟨0,by omega,rfl,fun n=>by omega,fun n=>by omega,rfl⟩
 case round=>
  obtain⟨d,o,rfl,k,l,rfl⟩:=hrel;have j:RJ (1≤d→a=0):=k;have m:RJ (2≤d→b=0):=l;clear k l
  match d,o with
  |0,_=>
   by_cases c:a=0
   ·have h:(a != 0)=RE:=by simp[c]
    have f:RJ (a=0):=c;clear c;go_wp2
    go_roundw
    case rel=>
     refine⟨1,by omega,rfl,fun _=>f.out,?_⟩;simp
    case measure=>simp[SC]
   ·have h:(a != 0)=RF:=by simp[c]
    have f:RJ (¬ a=0):=c;clear c;go_wp2;go_ret;exact⟨rfl,rfl⟩
  |1,_=>
   obtain rfl:a=0:=j.out (by omega);by_cases c:b=0
   ·have h:(b != 0)=RE:=by simp[c]
    have f:RJ (b=0):=c;clear c;go_wp2
    go_roundw
    case rel=>
     refine⟨2,by omega,rfl,?_⟩;simp
     try exact f.out
    case measure=>simp[SC]
   ·have h:(b != 0)=RF:=by simp[c]
    clear c;go_wp2;go_ret;exact⟨rfl,rfl⟩
  |2,_=>
   obtain rfl:a=0:=j.out (by omega);obtain rfl:b=0:=m.out (by omega);go_wp2;go_ret;exact⟨rfl,rfl⟩
theorem jB{w:RD}(o p:UQ):RQ w.heap.size w ((w.alloc o).alloc p):=((R5 _ _).alloc (RG _) o).alloc (by simp) p
theorem JU(w:RD)(x y:aD):(fun a:RD=>a.cell? ⟨w.heap.size,1,RA⟩=Ry (.int .i64 x.n)∧a.cell? ⟨w.heap.size,2,RA⟩=Ry (.string x.s)∧a.cell? ⟨w.heap.size+1,1,RA⟩=Ry (.int .i64 y.n)∧a.cell? ⟨w.heap.size+1,2,RA⟩=Ry (.string y.s)) ((w.alloc (.cells #[.bool x.null,.int .i64 x.n,.string x.s] 59)).alloc (.cells #[.bool y.null,.int .i64 y.n,.string y.s] 59)):=by
 refine⟨?_,?_,?_,?_⟩<;>simp
theorem iP(x y:aD)(w:RD):
 Sc (aa.of Rz) 125 #[.agg #[.bool x.null,.int .i64 x.n,.string x.s],.agg #[.bool y.null,.int .i64 y.n,.string y.s]] w fun e w'=>e= .returned (.int .i64 (iN x y))∧RQ w.heap.size w w':=by
 have j:=vY x.n y.n;have k:=Bm x.s y.s;have l:RJ (∀ (a:RD) (d:Nat),d=a.heap.size→Sc (aa.of Rz) 147 #[.slice (Ry ⟨d,0,RA⟩) 2 2] ((a.alloc (.cells #[.int .i64 (CL x.n y.n),.int .i64 (S8 x.s.data.toList y.s.data.toList)] 3)).drew) fun e w'=>e= .returned (.int .i64 (iN x y))∧w'=((a.alloc (.cells #[.int .i64 (CL x.n y.n),.int .i64 (S8 x.s.data.toList y.s.data.toList)] 3)).drew)):=fun a d i=>by
  rw[NU];subst i;exact G5 _ _ a.heap.size _ (by simp) (by simp)
 generalize CL x.n y.n=n at*;generalize S8 x.s.data.toList y.s.data.toList=o at*;generalize iN x y=p at*;go_enter aa.func125,Tryz.ntmps125
 go_upto_region 1 with fail
 have h:RQ w.heap.size w ((w.alloc (.cells #[.bool x.null,.int .i64 x.n,.string x.s] 59)).alloc (.cells #[.bool y.null,.int .i64 y.n,.string y.s] 59)):=jB _ _;have m:=JU w x y;have i:w.heap.size+1<((w.alloc (.cells #[.bool x.null,.int .i64 x.n,.string x.s] 59)).alloc (.cells #[.bool y.null,.int .i64 y.n,.string y.s] 59)).heap.size:=by simp
 generalize (w.alloc (.cells #[.bool x.null,.int .i64 x.n,.string x.s] 59)).alloc (.cells #[.bool y.null,.int .i64 y.n,.string y.s] 59)=f at*;obtain⟨s,t,u,v⟩:=m;have q:w.heap.size≠f.heap.size:=by omega
 have r:w.heap.size+1≠f.heap.size:=by omega
 generalize w.heap.size+1=g at*
 go_region_held (fun a=>a.cell? ⟨w.heap.size,1,RA⟩=Ry (.int .i64 x.n)∧a.cell? ⟨w.heap.size,2,RA⟩=Ry (.string x.s)∧a.cell? ⟨g,1,RA⟩=Ry (.int .i64 y.n)∧a.cell? ⟨g,2,RA⟩=Ry (.string y.s)) (go_keep) (first
  |(go_at_call 148;refine(j _).mono ?_;rintro e c ⟨rfl,b⟩;rw[b];clear b c)
  |(go_at_call 149;refine(k _).mono ?_;rintro e c ⟨rfl,b⟩;rw[b];clear b c)
  |(go_at_call 147;refine(l.out _ _ rfl).mono ?_;rintro e c ⟨rfl,b⟩;rw[b];clear b c))
 all_goals go_wp2_with fail
 all_goals go_ret
 all_goals exact⟨rfl,(h.alloc h.size _).drew⟩
theorem zy:∀ A B:List UInt8,S8 A B= - S8 B A
 | [],[]=>rfl
 | [],_ :: _=>rfl
 |_ :: _,[]=>rfl
 |a :: f,d :: g=>by
  have e:=zy f g;simp only[S8];by_cases b:a<d
  ·rw[if_pos b,if_neg (by rw[UInt8.lt_iff_toNat_lt] at b ⊢;omega),if_pos b]
  ·rw[if_neg b];by_cases c:d<a
   ·rw[if_pos c,if_pos c];rfl
   ·rw[if_neg c,if_neg c,if_neg b,e]
theorem tP(x y:aD):iN x y= - iN y x:=by
 unfold iN;by_cases a:x.n<y.n
 ·rw[if_pos a,if_neg (by omega),if_pos a]
 ·rw[if_neg a];by_cases b:y.n<x.n
  ·rw[if_pos b,if_pos b];rfl
  ·rw[if_neg b,if_neg b,if_neg a];exact zy _ _
theorem tQ(x:aD):iN x x=0:=by
 have:=tP x x;omega
structure kL where
 there:Bool
 least:aD
 most:aD
def bZ:kL:=⟨RE,⟨RE,0,⟨#[]⟩⟩,⟨RE,0,⟨#[]⟩⟩⟩
def mh (b:kL)(v:aD):kL:=
 if v.null then b
 else⟨RF,if b.there=RE∨iN v b.least<0 then v else b.least,if b.there=RE∨0<iN v b.most then v else b.most⟩
def bQ (l:List aD):kL:=l.foldl mh bZ
theorem AB(l:List aD)(k:Nat)(h:k<l.length):bQ (l.take (k+1))=mh (bQ (l.take k)) l[k]:=by
 unfold bQ;rw[RR h,List.foldl_append];rfl
end Ec
namespace Ec
open Go.RowKit Pk Pm
theorem aJ(w:RD)(g o:Nat)(v:RB):w.grownBy (w.setCell ⟨g,o,RA⟩ v) (Ry g):=
 ⟨rfl,rfl,rfl,by simp,fun c _ b=>R6 _ _ _ _ (fun a=>b (by cases a;rfl))⟩
theorem eC{n:Nat}{w a:RD}(h:RQ n w a)(c:n≤a.heap.size){g:Nat}(e:n≤g)(o:Nat)(v:RB):RQ n w (a.setCell ⟨g,o,RA⟩ v):=
 h.grown (aJ a g o v) c (by intro d b;simp at b;omega)
theorem b6{n:Nat}{w a:RD}(h:RQ n w a)(c:n≤w.heap.size){g:Nat}(b:n≤g)(o:Nat)(v:RB):RQ n w (a.setCell ⟨g,o,RA⟩ v):=
 eC h (R4 c h.size) b o v
theorem bG(w:RD)(o:UQ):(w.alloc o).heap[w.heap.size]? =Ry o:=by
 show(w.heap.push o)[w.heap.size]? =Ry o;simp
theorem alloc_old{w:RD}{k:Nat}{x:Option UQ}(o:UQ)(h:k<w.heap.size)(a:w.heap[k]? =x):(w.alloc o).heap[k]? =x:=
 (((R5 w.heap.size w).alloc (RG _) o).block k h).trans a
theorem jz(w:RD)(o p:UQ):((w.alloc o).alloc p).heap[w.heap.size+1]? =Ry p:=by
 have:=bG (w.alloc o) p;rwa [show(w.alloc o).heap.size=w.heap.size+1 by simp] at this
def fo (b:kL):Array RB:= #[.bool b.there,.bool b.least.null,.int .i64 b.least.n,.string b.least.s,.bool b.most.null,.int .i64 b.most.n,.string b.most.s]
def Ei (b:kL):RB:=.agg #[.bool b.there,.bool b.least.null,.int .i64 b.least.n,.string b.least.s,.bool b.most.null,.int .i64 b.most.n,.string b.most.s]
structure BN(w W:RD)(gv:Nat)(x:aD)(b:kL):Prop where
 box:W.heap[w.heap.size+1]? =Ry (.cells (fo b) 141 (0,0))
 res:W.heap[w.heap.size]? =Ry (.cells (fo bZ) 141 (0,0))
 one:W.heap[gv]? =Ry (.cells #[.bool x.null,.int .i64 x.n,.string x.s] 59 (0,0))
 zC:w.heap.size+1<gv
 fA:RQ w.heap.size w W
theorem BN.below{w c d:RD}{e:Nat}{x:aD}{b:kL}(h:BN w c e x b)(a:RQ c.heap.size c d):BN w d e x b:=
 ⟨(a.block _ (RP h.box)).trans h.box,(a.block _ (RP h.res)).trans h.res,(a.block _ (RP h.one)).trans h.one,h.zC,h.fA.trans (a.mono h.fA.size)⟩
theorem BN.least{w a:RD}{d:Nat}{x:aD}{b:kL}(h:BN w a d x b):
 BN w (((a.setCell ⟨w.heap.size+1,1,RA⟩ (.bool x.null)).setCell ⟨w.heap.size+1,2,RA⟩ (.int .i64 x.n)).setCell ⟨w.heap.size+1,3,RA⟩ (.string x.s)) d x ⟨b.there,x,b.most⟩:=by
 have e:=RZ a (w.heap.size+1) 1 _ _ (.bool x.null) h.box;have f:=RZ _ (w.heap.size+1) 2 _ _ (.int .i64 x.n) e;have g:=RZ _ (w.heap.size+1) 3 _ _ (.string x.s) f;have c:=h.fA.size;have i:=h.zC;refine⟨g,?_,?_,h.zC,?_⟩
 ·rw[R6 _ _ _ _ (by simp),R6 _ _ _ _ (by simp),R6 _ _ _ _ (by simp)];exact h.res
 ·rw[R6 _ _ _ _ (by simp;omega),R6 _ _ _ _ (by simp;omega),R6 _ _ _ _ (by simp;omega)];exact h.one
 ·exact eC (eC (eC h.fA c (by omega) _ _) (by simpa using c) (by omega) _ _) (by simpa using c) (by omega) _ _
theorem BN.most{w a:RD}{d:Nat}{x:aD}{b:kL}(h:BN w a d x b):
 BN w (((a.setCell ⟨w.heap.size+1,4,RA⟩ (.bool x.null)).setCell ⟨w.heap.size+1,5,RA⟩ (.int .i64 x.n)).setCell ⟨w.heap.size+1,6,RA⟩ (.string x.s)) d x ⟨b.there,b.least,x⟩:=by
 have e:=RZ a (w.heap.size+1) 4 _ _ (.bool x.null) h.box;have f:=RZ _ (w.heap.size+1) 5 _ _ (.int .i64 x.n) e;have g:=RZ _ (w.heap.size+1) 6 _ _ (.string x.s) f;have c:=h.fA.size;have i:=h.zC;refine⟨g,?_,?_,h.zC,?_⟩
 ·rw[R6 _ _ _ _ (by simp),R6 _ _ _ _ (by simp),R6 _ _ _ _ (by simp)];exact h.res
 ·rw[R6 _ _ _ _ (by simp;omega),R6 _ _ _ _ (by simp;omega),R6 _ _ _ _ (by simp;omega)];exact h.one
 ·exact eC (eC (eC h.fA c (by omega) _ _) (by simpa using c) (by omega) _ _) (by simpa using c) (by omega) _ _
theorem BN.set{w a:RD}{c:Nat}{x:aD}{b:kL}(h:BN w a c x b):BN w (a.setCell ⟨w.heap.size+1,0,RA⟩ (.bool RF)) c x ⟨RF,b.least,b.most⟩:=by
 have d:=RZ a (w.heap.size+1) 0 _ _ (.bool RF) h.box;have e:=h.fA.size;have f:=h.zC;refine⟨d,?_,?_,h.zC,?_⟩
 ·rw[R6 _ _ _ _ (by simp)];exact h.res
 ·rw[R6 _ _ _ _ (by simp;omega)];exact h.one
 ·exact eC h.fA e (by omega) _ _
theorem dG{w:RD}{g:Nat}{b:kL}{t:RO}(h:w.heap[g]? =Ry (.cells (fo b) t (0,0))):
 (w.cell? ⟨g,0,RA⟩=Ry (.bool b.there)∧w.cell? ⟨g,1,RA⟩=Ry (.bool b.least.null)∧w.cell? ⟨g,2,RA⟩=Ry (.int .i64 b.least.n)∧w.cell? ⟨g,3,RA⟩=Ry (.string b.least.s)∧
   w.cell? ⟨g,4,RA⟩=Ry (.bool b.most.null)∧w.cell? ⟨g,5,RA⟩=Ry (.int .i64 b.most.n)∧w.cell? ⟨g,6,RA⟩=Ry (.string b.most.s))∧
 (w.frozen? ⟨g,0,RA⟩=RE∧w.frozen? ⟨g,1,RA⟩=RE∧w.frozen? ⟨g,2,RA⟩=RE∧w.frozen? ⟨g,3,RA⟩=RE∧w.frozen? ⟨g,4,RA⟩=RE∧w.frozen? ⟨g,5,RA⟩=RE∧w.frozen? ⟨g,6,RA⟩=RE):=by
 unfold fo at h;refine⟨⟨?_,?_,?_,?_,?_,?_,?_⟩,?_,?_,?_,?_,?_,?_,?_⟩<;>first|simp[R2,h]|simp[SH,h]
theorem bR{w:RD}{g:Nat}{a b c:RB}{t:RO}(h:w.heap[g]? =Ry (.cells #[a,b,c] t (0,0))):
 w.cell? ⟨g,0,RA⟩=Ry a∧w.cell? ⟨g,1,RA⟩=Ry b∧w.cell? ⟨g,2,RA⟩=Ry c:=by
 refine⟨?_,?_,?_⟩<;>simp[R2,h]
theorem BN.start{w wr:RD}{b:kL}(x:aD)(d:wr.heap[w.heap.size+1]? =Ry (.cells (fo b) 141 (0,0)))(e:wr.heap[w.heap.size]? =Ry (.cells (fo bZ) 141 (0,0)))(c:RQ w.heap.size w wr):
 BN w (wr.alloc (.cells #[.bool x.null,.int .i64 x.n,.string x.s] 59)) wr.heap.size x b:=by
 have f:=RP d;have g:=RP e;have a:=(R5 wr.heap.size wr).alloc (RG _) (.cells #[.bool x.null,.int .i64 x.n,.string x.s] 59);refine⟨(a.block _ f).trans d,(a.block _ g).trans e,bG _ _,by omega,c.trans (a.mono c.size)⟩
theorem MD{w:RD}{g:Nat}{a:kL}(b:kL){t:RO}(h:w.heap[g]? =Ry (.cells (fo a) t (0,0))):
 (((((((w.setCell ⟨g,0,RA⟩ (.bool b.there)).setCell ⟨g,1,RA⟩ (.bool b.least.null)).setCell ⟨g,2,RA⟩ (.int .i64 b.least.n)).setCell ⟨g,3,RA⟩ (.string b.least.s)).setCell ⟨g,4,RA⟩ (.bool b.most.null)).setCell ⟨g,5,RA⟩ (.int .i64 b.most.n)).setCell ⟨g,6,RA⟩ (.string b.most.s)).heap[g]? =Ry (.cells (fo b) t (0,0)):=by
 have c:(w.setCell ⟨g,0,RA⟩ (.bool b.there)).heap[g]? =Ry (.cells (fo ⟨b.there,⟨a.least.null,a.least.n,a.least.s⟩,⟨a.most.null,a.most.n,a.most.s⟩⟩) t (0,0)):=RZ _ g 0 _ _ (.bool b.there) h;have d:((w.setCell ⟨g,0,RA⟩ (.bool b.there)).setCell ⟨g,1,RA⟩ (.bool b.least.null)).heap[g]? =Ry (.cells (fo ⟨b.there,⟨b.least.null,a.least.n,a.least.s⟩,⟨a.most.null,a.most.n,a.most.s⟩⟩) t (0,0)):=RZ _ g 1 _ _ (.bool b.least.null) c;have e:(((w.setCell ⟨g,0,RA⟩ (.bool b.there)).setCell ⟨g,1,RA⟩ (.bool b.least.null)).setCell ⟨g,2,RA⟩ (.int .i64 b.least.n)).heap[g]? =Ry (.cells (fo ⟨b.there,⟨b.least.null,b.least.n,a.least.s⟩,⟨a.most.null,a.most.n,a.most.s⟩⟩) t (0,0)):=RZ _ g 2 _ _ (.int .i64 b.least.n) d;have f:((((w.setCell ⟨g,0,RA⟩ (.bool b.there)).setCell ⟨g,1,RA⟩ (.bool b.least.null)).setCell ⟨g,2,RA⟩ (.int .i64 b.least.n)).setCell ⟨g,3,RA⟩ (.string b.least.s)).heap[g]? =Ry (.cells (fo ⟨b.there,⟨b.least.null,b.least.n,b.least.s⟩,⟨a.most.null,a.most.n,a.most.s⟩⟩) t (0,0)):=RZ _ g 3 _ _ (.string b.least.s) e;have i:(((((w.setCell ⟨g,0,RA⟩ (.bool b.there)).setCell ⟨g,1,RA⟩ (.bool b.least.null)).setCell ⟨g,2,RA⟩ (.int .i64 b.least.n)).setCell ⟨g,3,RA⟩ (.string b.least.s)).setCell ⟨g,4,RA⟩ (.bool b.most.null)).heap[g]? =Ry (.cells (fo ⟨b.there,⟨b.least.null,b.least.n,b.least.s⟩,⟨b.most.null,a.most.n,a.most.s⟩⟩) t (0,0)):=RZ _ g 4 _ _ (.bool b.most.null) f;have j:((((((w.setCell ⟨g,0,RA⟩ (.bool b.there)).setCell ⟨g,1,RA⟩ (.bool b.least.null)).setCell ⟨g,2,RA⟩ (.int .i64 b.least.n)).setCell ⟨g,3,RA⟩ (.string b.least.s)).setCell ⟨g,4,RA⟩ (.bool b.most.null)).setCell ⟨g,5,RA⟩ (.int .i64 b.most.n)).heap[g]? =Ry (.cells (fo ⟨b.there,⟨b.least.null,b.least.n,b.least.s⟩,⟨b.most.null,b.most.n,a.most.s⟩⟩) t (0,0)):=RZ _ g 5 _ _ (.int .i64 b.most.n) i;have k:(((((((w.setCell ⟨g,0,RA⟩ (.bool b.there)).setCell ⟨g,1,RA⟩ (.bool b.least.null)).setCell ⟨g,2,RA⟩ (.int .i64 b.least.n)).setCell ⟨g,3,RA⟩ (.string b.least.s)).setCell ⟨g,4,RA⟩ (.bool b.most.null)).setCell ⟨g,5,RA⟩ (.int .i64 b.most.n)).setCell ⟨g,6,RA⟩ (.string b.most.s)).heap[g]? =Ry (.cells (fo ⟨b.there,⟨b.least.null,b.least.n,b.least.s⟩,⟨b.most.null,b.most.n,b.most.s⟩⟩) t (0,0)):=RZ _ g 6 _ _ (.string b.most.s) j;exact k
theorem yG{w w0:RD}{g:Nat}(b:kL){n:Nat}(d:RQ n w0 w)(c:n≤w0.heap.size)(a:n≤g):
 RQ n w0 (((((((w.setCell ⟨g,0,RA⟩ (.bool b.there)).setCell ⟨g,1,RA⟩ (.bool b.least.null)).setCell ⟨g,2,RA⟩ (.int .i64 b.least.n)).setCell ⟨g,3,RA⟩ (.string b.least.s)).setCell ⟨g,4,RA⟩ (.bool b.most.null)).setCell ⟨g,5,RA⟩ (.int .i64 b.most.n)).setCell ⟨g,6,RA⟩ (.string b.most.s)):=
 b6 (b6 (b6 (b6 (b6 (b6 (b6 d c a _ _) c a _ _) c a _ _) c a _ _) c a _ _) c a _ _) c a _ _
theorem AA(ao:RB)(l:List aD)(w:RD)(bu:l.length≤100)(bc:ql w ao l):
 Sc (aa.of Rz) 88 #[ao] w fun e w'=>e= .returned (Ei (bQ l))∧RQ w.heap.size w w':=by
 obtain⟨a2,a3,bd,bs,rfl,I⟩:=bc;have am:RJ (ot w a2 a3 bd l):=I;have a0:=fun k bm h=>iP k bm h;clear I;go_enter aa.func88,Tryz.ntmps88
 go_wp2_with fail
 go_loopw [8] (fun ad wr=>∃ a:Nat,a≤l.length∧ad= .int .i64 (a:Int)∧wr.heap[w.heap.size+1]? =Ry (.cells (fo (bQ (l.take a))) 141 (0,0))∧wr.heap[w.heap.size]? =Ry (.cells (fo bZ) 141 (0,0))∧RQ w.heap.size w wr) (fun ad _=>l.length - (SC ad).toNat)
 case atStart=>exact⟨0,Sk _,rfl,jz _ _ _,alloc_old _ (by simp) (bG _ _),jB _ _⟩
 case round=>
  obtain⟨a,bt,rfl,S,Q,O⟩:=hrel;have ar:RJ (RQ w.heap.size w wr):=O;by_cases W:a<l.length
  ·have I:=am.out.below O;obtain rfl:=I.addr (by omega);have be:=I.c0 a W;have bi:=I.c1 a W;have bj:=I.c2 a W;have M:RJ (bQ (l.take (a+1))=mh (bQ (l.take a)) l[a]):=AB l a W;clear I;generalize bQ (l.take a)=Y at*;generalize l[a]=k at*;have f:RJ (BN w (wr.alloc (.cells #[.bool k.null,.int .i64 k.n,.string k.s] 59)) wr.heap.size k Y):=BN.start k S Q O;clear S Q O
   go_upto_region 5 with fail
   generalize wr.alloc (.cells #[.bool k.null,.int .i64 k.n,.string k.s] 59)=bo at*;generalize wr.heap.size=V at*;clear be bi bj ar am;have bv:¬ V=w.heap.size+1:=by have:=f.out.zC;omega
   have bx:¬ w.heap.size+1=V:=by have:=f.out.zC;omega
   obtain⟨B,C,D⟩:=bR f.out.one;obtain⟨⟨m,n,o,p,q,r,s⟩,t,u,v,x,y,z,A⟩:=dG f.out.box;by_cases P:k.null=RF
   ·have H:RJ (bQ (l.take (a+1))=Y):=by show _=_;rw[M.out];unfold mh;rw[if_pos P]
    rw[P] at B;clear M P;go_wp2
    go_roundw
    case rel=>exact⟨a+1,by omega,by go_num,by rw[H.out];exact f.out.box,f.out.res,f.out.fA⟩
    case measure=>simp[SC];omega
   ·obtain⟨bl,b,c⟩:=k;obtain rfl:bl=RE:=by simpa using P
    obtain⟨a4,j,g⟩:=Y;cases a4
    ·have H:RJ (bQ (l.take (a+1))=⟨RF,⟨RE,b,c⟩,⟨RE,b,c⟩⟩):=by show _=_;rw[M.out];unfold mh;simp
     clear M P;go_wp2
     go_roundw
     case rel=>exact⟨a+1,by omega,by go_num,by rw[H.out];exact f.out.least.most.set.box,f.out.least.most.set.res,f.out.least.most.set.fA⟩
     case measure=>simp[SC];omega
    ·have T:RJ (∀ h,Sc (aa.of Rz) 125 #[.agg #[.bool RE,.int .i64 b,.string c],.agg #[.bool j.null,.int .i64 j.n,.string j.s]] h fun e w'=>e= .returned (.int .i64 (iN ⟨RE,b,c⟩ j))∧RQ h.heap.size h w'):=fun h=>iP ⟨RE,b,c⟩ j h;have U:RJ (∀ h,Sc (aa.of Rz) 125 #[.agg #[.bool RE,.int .i64 b,.string c],.agg #[.bool g.null,.int .i64 g.n,.string g.s]] h fun e w'=>e= .returned (.int .i64 (iN ⟨RE,b,c⟩ g))∧RQ h.heap.size h w'):=fun h=>iP ⟨RE,b,c⟩ g h;have H:RJ (bQ (l.take (a+1))=⟨RF,if iN ⟨RE,b,c⟩ j<0 then⟨RE,b,c⟩ else j,if 0<iN ⟨RE,b,c⟩ g then⟨RE,b,c⟩ else g⟩):=by show _=_;rw[M.out];unfold mh;simp
     clear M P a0;generalize iN ⟨RE,b,c⟩ j=ae at*;generalize iN ⟨RE,b,c⟩ g=J at*;by_cases N:ae<0
     ·have Z:decide (ae<0)=RF:=by simpa using N
      have E:RJ (bQ (l.take (a+1))=⟨RF,⟨RE,b,c⟩,if 0<J then⟨RE,b,c⟩ else g⟩):=by show _=_;rw[H.out,if_pos N]
      clear H N
      go_upto_region 8 with(go_at_call 125;refine(T.out _).mono ?_;rintro e X ⟨rfl,R⟩;have G:=f.out.below R;obtain⟨B,C,D⟩:=bR G.one;obtain⟨⟨m,n,o,p,q,r,s⟩,t,u,v,x,y,z,A⟩:=dG G.box)
      have F:RJ (BN w (((X.setCell ⟨w.heap.size+1,1,RA⟩ (.bool RE)).setCell ⟨w.heap.size+1,2,RA⟩ (.int .i64 b)).setCell ⟨w.heap.size+1,3,RA⟩ (.string c)) V ⟨RE,b,c⟩ ⟨RF,⟨RE,b,c⟩,g⟩):=G.least;generalize ((X.setCell ⟨w.heap.size+1,1,RA⟩ (.bool RE)).setCell ⟨w.heap.size+1,2,RA⟩ (.int .i64 b)).setCell ⟨w.heap.size+1,3,RA⟩ (.string c)=br at*;clear B C D m n o p q r s t u v x y z A Z G R T f;obtain⟨B,C,D⟩:=bR F.out.one;obtain⟨⟨m,n,o,p,q,r,s⟩,t,u,v,x,y,z,A⟩:=dG F.out.box;by_cases i:0<J
      ·have ab:decide (0<J)=RF:=by simpa using i
       have K:RJ (bQ (l.take (a+1))=⟨RF,⟨RE,b,c⟩,⟨RE,b,c⟩⟩):=by show _=_;rw[E.out,if_pos i]
       clear E i
       go_wp2_with (go_at_call 125;refine(U.out _).mono ?_;rintro e al ⟨rfl,L⟩;have d:=F.out.below L;obtain⟨B,C,D⟩:=bR d.one;obtain⟨⟨m,n,o,p,q,r,s⟩,t,u,v,x,y,z,A⟩:=dG d.box)
       go_roundw
       case rel=>exact⟨a+1,by omega,by go_num,by rw[K.out];exact d.most.set.box,d.most.set.res,d.most.set.fA⟩
       case measure=>simp[SC];omega
      ·have ab:decide (0<J)=RE:=by simpa using i
       have K:RJ (bQ (l.take (a+1))=⟨RF,⟨RE,b,c⟩,g⟩):=by show _=_;rw[E.out,if_neg i]
       clear E i
       go_wp2_with (go_at_call 125;refine(U.out _).mono ?_;rintro e al ⟨rfl,L⟩;have d:=F.out.below L;obtain⟨B,C,D⟩:=bR d.one;obtain⟨⟨m,n,o,p,q,r,s⟩,t,u,v,x,y,z,A⟩:=dG d.box)
       go_roundw
       case rel=>exact⟨a+1,by omega,by go_num,by rw[K.out];exact d.set.box,d.set.res,d.set.fA⟩
       case measure=>simp[SC];omega
     ·have Z:decide (ae<0)=RE:=by simpa using N
      have E:RJ (bQ (l.take (a+1))=⟨RF,j,if 0<J then⟨RE,b,c⟩ else g⟩):=by show _=_;rw[H.out,if_neg N]
      clear H N
      go_upto_region 8 with(go_at_call 125;refine(T.out _).mono ?_;rintro e X ⟨rfl,R⟩;have G:=f.out.below R;obtain⟨B,C,D⟩:=bR G.one;obtain⟨⟨m,n,o,p,q,r,s⟩,t,u,v,x,y,z,A⟩:=dG G.box)
      have F:RJ (BN w X V ⟨RE,b,c⟩ ⟨RF,j,g⟩):=G;clear B C D m n o p q r s t u v x y z A Z G R T f;obtain⟨B,C,D⟩:=bR F.out.one;obtain⟨⟨m,n,o,p,q,r,s⟩,t,u,v,x,y,z,A⟩:=dG F.out.box;by_cases i:0<J
      ·have ab:decide (0<J)=RF:=by simpa using i
       have K:RJ (bQ (l.take (a+1))=⟨RF,j,⟨RE,b,c⟩⟩):=by show _=_;rw[E.out,if_pos i]
       clear E i
       go_wp2_with (go_at_call 125;refine(U.out _).mono ?_;rintro e al ⟨rfl,L⟩;have d:=F.out.below L;obtain⟨B,C,D⟩:=bR d.one;obtain⟨⟨m,n,o,p,q,r,s⟩,t,u,v,x,y,z,A⟩:=dG d.box)
       go_roundw
       case rel=>exact⟨a+1,by omega,by go_num,by rw[K.out];exact d.most.set.box,d.most.set.res,d.most.set.fA⟩
       case measure=>simp[SC];omega
      ·have ab:decide (0<J)=RE:=by simpa using i
       have K:RJ (bQ (l.take (a+1))=⟨RF,j,g⟩):=by show _=_;rw[E.out,if_neg i]
       clear E i
       go_wp2_with (go_at_call 125;refine(U.out _).mono ?_;rintro e al ⟨rfl,L⟩;have d:=F.out.below L;obtain⟨B,C,D⟩:=bR d.one;obtain⟨⟨m,n,o,p,q,r,s⟩,t,u,v,x,y,z,A⟩:=dG d.box)
       go_roundw
       case rel=>exact⟨a+1,by omega,by go_num,by rw[K.out];exact d.set.box,d.set.res,d.set.fA⟩
       case measure=>simp[SC];omega
  ·obtain rfl:a=l.length:=by omega
   rw[SR] at S;obtain⟨⟨m,n,o,p,q,r,s⟩,-⟩:=dG S;obtain⟨-,t,u,v,x,y,z,A⟩:=dG Q;obtain⟨⟨bA,bB,b0,b1,b2,b3,b4⟩,-⟩:=dG Q;have a1:RJ _:=MD (bQ l) Q;have aw:RJ _:=yG (bQ l) O (RG _) (RG w.heap.size);clear O S Q;go_wp2;obtain⟨⟨a5,a6,a7,a8,a9,ba,bb⟩,-⟩:=dG a1.out;simp[TV,SD,Tryz.results88,go_sem,a5,a6,a7,a8,a9,ba,bb];exact⟨rfl,aw.out⟩
end Ec
namespace Ec
open Go.RowKit Pk
theorem Hz{l:List bO}{j:Nat}(b:∀ i,i<j→k9 l i)(c:k9 l j):∀ i,i<j+1→k9 l i:=by
 intro i d;by_cases a:i=j
 ·rw[a];exact c
 ·exact b i (by omega)
theorem J7{l:List bO}{j:Nat}(b:1≤l.length)(c:l.length≤8)(d:∀ i,i<j→k9 l i)(e:¬ j<l.length):fD l:=
 ⟨b,c,fun i a=>d i (by omega) a⟩
theorem lu(l:List bO)(P:RB)(w:RD)(a4:l.length≤R3)(a2:yy w P l):
 Sc (aa.of Rz) 55 #[P] w fun e w'=>∃ bb,e= .returned (.bool bb)∧(bb=RF↔fD l)∧RQ w.heap.size w w':=by
 obtain⟨ad,p,s,O,rfl,bj,g⟩:=a2;unfold R3 at a4;by_cases E:1≤l.length∧l.length≤8
 ·obtain⟨E,ar⟩:=E;have N:RJ (qI w ad p s l):=g;obtain rfl:=g.addr (by omega);clear g;have Q:decide ((l.length:Int)<1)=RE:=by simp;omega
  have ae:decide (8<(l.length:Int))=RE:=by simp;omega
  go_enter aa.func55,Tryz.ntmps55
  go_wp2_with fail
  go_loopw [15] (fun d wr=>∃ a:Nat,a≤l.length∧d= .int .i64 a∧(∀ d,d<a→k9 l d)∧RQ w.heap.size w wr) (fun d _=>l.length - (SC d).toNat)
  case atStart=>exact⟨0,Sk _,rfl,fun bu b=>by omega,R5 _ _⟩
  case round=>
   obtain⟨a,bl,rfl,S,y⟩:=hrel;have B:RJ (∀ d,d<a→k9 l d):=S;have L:RJ (RQ w.heap.size w wr):=y;have a7:=y.size;clear S;by_cases z:a<l.length
   ·have g:=N.out.below y;have bo:=g.c0 a z;have br:=g.c1 a z;have m:RJ (∀ i,RQ wr.heap.size wr i→∀ v,Sc (aa.of Rz) 81 #[.slice (Ry ⟨p,s,RA⟩) a v,.string l[a].name] i fun e w'=>∃ bb,e= .returned (.bool bb)∧(bb=RF↔∃ c,∃ b:c<a,l[c].name=l[a].name)∧RQ i.heap.size i w'):=fun i a0 v=>by
     have:=Cy (l.take a) l[a].name (Ry ⟨p,s,RA⟩) p s v i (by simp;unfold R3;omega) ((g.below a0).take a);have al:(l.take a).length=a:=by simp;omega
     have a6:SS (Ry ⟨p,s,RA⟩) a v= .slice (Ry ⟨p,s,RA⟩) (l.take a).length v:=by rw[al]
     rw[a6];refine this.mono ?_;rintro e w' ⟨bb,rfl,F,a1⟩;refine⟨bb,rfl,F.trans ?_,a1⟩;constructor
     ·rintro⟨c,b,e⟩;rw[Tj] at e;exact⟨c,by simp at b;omega,e⟩
     ·rintro⟨c,b,e⟩;refine⟨c,by simp;omega,?_⟩;rw[Tj];exact e
    have o:=fun i=>AS l[a] i;have t:RJ (n6 l[a]=RE→¬ fD l):=fun b f=>by
     have:=(f.2.2 a z).1;rw[b] at this;cases this
    have C:RJ ((∃ c,∃ b:c<a,l[c].name=l[a].name)→¬ fD l):=by
     rintro⟨c,b,e⟩ f;exact(f.2.2 a z).2 c b e
    have u:RJ (n6 l[a]=RF→(¬ ∃ c,∃ b:c<a,l[c].name=l[a].name)→∀ d,d<a+1→k9 l d):=fun am ao=>Hz B.out (fun _=>⟨am,fun c a3 e=>ao ⟨c,a3,e⟩⟩);clear g y B N;have Y:RJ (∀ D:Prop,D=(∃ c,∃ b:c<a,l[c].name=l[a].name)→True):=fun _ _=>trivial;clear Y;generalize aw:(∃ c,∃ b:c<a,l[c].name=l[a].name)=D at*;clear aw;generalize l[a]=h at*
    go_upto_region 6 with fail
    have a8:=m7 wr (.string h.name) (.int .i64 h.kind) 63;have I:wr.heap.size<(wr.alloc (.cells #[.string h.name,.int .i64 h.kind] 63)).heap.size:=by simp
    have T:RQ wr.heap.size wr (wr.alloc (.cells #[.string h.name,.int .i64 h.kind] 63)):=(R5 _ _).alloc (RG _) _;generalize wr.alloc (.cells #[.string h.name,.int .i64 h.kind] 63)=j at*;generalize V:wr.heap.size=q at*;have X:RJ (wr.heap.size=q):=V;clear V;obtain⟨a9,bs⟩:=a8
    go_cut [30] from 16 to 31 (fun ba K=>∃ bb,ba= .bool bb∧(bb=RE→∀ d,d<a+1→k9 l d)∧(bb=RF→¬ fD l)∧RQ q wr K)
    case first=>
     cases f:n6 h
     ·have G:RJ (¬ fD l):=t.out f;rw[f] at o;clear t C u f m
      first
       |go_region_with (go_at_call 80;refine(o _).mono ?_;rintro e A ⟨rfl,x⟩)
       |fail
      all_goals
       have r:RQ j.heap.size j A:=((R5 j.heap.size j).drew).trans x;have n:RJ (RQ q wr A):=T.trans (r.mono (Nat.le_of_lt I));clear x r
       go_wp2_with fail
       go_meet
       exact⟨RF,rfl,(fun b=>by cases b),fun _=>G.out,n.out⟩
     ·have ab:RJ (¬ D→∀ d,d<a+1→k9 l d):=u.out f;rw[f] at o;have bd:(0:Int)≤(a:Int):=by omega
      have be:(a:Int)≤(O:Int):=by omega
      have bi:a≤O:=by omega
      clear t u f
      first
       |go_region_with (first
        |(go_at_call 80;refine(o _).mono ?_;rintro e A ⟨rfl,x⟩;have r:RQ j.heap.size j A:=((R5 j.heap.size j).drew).trans x;have k:RQ q wr A:=T.trans (r.mono (Nat.le_of_lt I));have bt:=(r.cell (p:=⟨q,0,RA⟩) I).trans a9;clear x r)
        |(go_at_call 81;refine(m.out _ k _).mono ?_;rintro e bc ⟨bb,rfl,F,U⟩))
       |fail
      all_goals
       have n:RJ (RQ q wr bc):=k.trans (U.mono (by have:=k.size;rw[X.out] at this;exact this));have M:RJ (bb=RF↔D):=F;clear U F k
       go_wp2_with fail
       go_meet
       refine⟨bb,rfl,fun b=>ab.out (fun a5=>?_),fun b=>C.out (M.out.1 b),n.out⟩;rw[M.out.2 a5] at b;cases b
    case rest=>
     rename RD=>K
     obtain⟨bb,rfl,J,H,k⟩:=hcut;have n:RJ (RQ w.heap.size w K):=L.out.trans (k.mono a7);cases bb
     ·have W:RJ (∀ d,d<a+1→k9 l d):=J rfl;clear J H k t C u m o;go_wp2
      go_roundw
      case rel=>exact⟨a+1,by omega,by go_num,W.out,n.out⟩
      case measure=>simp[SC];omega
     ·have G:RJ (¬ fD l):=H rfl;clear J H k t C u m o;go_wp2;go_ret;exact⟨RE,rfl,by simp only[Sa,false_iff];exact G.out,n.out⟩
   ·have Z:RJ (fD l):=J7 E ar B.out z;clear B y;go_wp2;go_ret;exact⟨RF,rfl,by simp only[true_iff];exact Z.out,L.out⟩
 ·have R:¬ fD l:=fun b=>E ⟨b.1,b.2.1⟩;have m:RJ (¬ fD l):=R;clear g R;by_cases bm:l.length<1
  ·have Q:decide ((l.length:Int)<1)=RF:=by simp;omega
   go_enter aa.func55,Tryz.ntmps55;go_wp2
   all_goals go_ret
   all_goals exact⟨RE,rfl,by simp only[Sa,false_iff];exact m.out,R5 _ _⟩
  ·have Q:decide ((l.length:Int)<1)=RE:=by simp;omega
   have ae:decide (8<(l.length:Int))=RF:=by simp;omega
   go_enter aa.func55,Tryz.ntmps55;go_wp2
   all_goals go_ret
   all_goals exact⟨RE,rfl,by simp only[Sa,false_iff];exact m.out,R5 _ _⟩
def mb (b:List aD)(cs:List bO):Prop:=b.length=cs.length∧∀ a,(c:a<b.length)→(d:a<cs.length)→eU b[a] cs[a].kind=RF
theorem H8(d:List aD)(cs:List bO)(P H:RB)(w:RD)(ae:d.length≤R3)(al:cs.length≤R3)(M:∀ c∈cs,c.kind=1∨c.kind=2∨c.kind=3)(am:ql w P d)(ad:yy w H cs):
 Sc (aa.of Rz) 56 #[P,H] w fun e w'=>∃ bb,e= .returned (.bool bb)∧(bb=RF↔mb d cs)∧RQ w.heap.size w w':=by
 obtain⟨X,Y,ar,a5,rfl,a8,g⟩:=ad;obtain⟨a2,s,bq,aI,rfl,f⟩:=am;unfold R3 at ae al;by_cases q:d.length=cs.length
 ·have O:((d.length:Int) != (cs.length:Int))=RE:=by simp[q]
  have B:RJ (d.length=cs.length):=q;have D:RJ (qI w X Y ar cs):=g;have E:RJ (ot w a2 s bq d):=f;have A:RJ (∀ c∈cs,c.kind=1∨c.kind=2∨c.kind=3):=M;clear g q f M;go_enter aa.func56,Tryz.ntmps56
  go_wp2_with fail
  clear O
  go_loopw [14] (fun b wr=>∃ a:Nat,a≤cs.length∧b= .int .i64 a∧(∀ b,(h:b<d.length)→(i:b<cs.length)→b<a→eU d[b] cs[b].kind=RF)∧RQ w.heap.size w wr) (fun b _=>cs.length - (SC b).toNat)
  case atStart=>exact⟨0,Sk _,rfl,fun bd _ _ j=>by omega,R5 _ _⟩
  case round=>
   obtain⟨a,a9,rfl,I,k⟩:=hrel;have p:RJ (∀ b,(h:b<d.length)→(i:b<cs.length)→b<a→eU d[b] cs[b].kind=RF):=I;have y:RJ (RQ w.heap.size w wr):=k;have ao:=k.size;clear I;by_cases o:a<cs.length
   ·have g:=D.out.below k;have f:=E.out.below k;have r:a<d.length:=by rw[B.out];exact o
    obtain rfl:=g.addr (by omega);obtain rfl:=f.addr (by omega);have v:=f.lt (by omega);have aw:=g.c0 a o;have a0:=g.c1 a o;have Q:=f.c0 a r;have R:=f.c1 a r;have S:=f.c2 a r;have N:=A.out cs[a] (RV o);have C:RJ (∀ m,Sc (aa.of Rz) 82 #[.agg #[.bool d[a].null,.int .i64 d[a].n,.string d[a].s],.int .i64 cs[a].kind] m fun e w'=>e= .returned (.bool (eU d[a] cs[a].kind))∧RQ m.heap.size m w'):=fun m=>pE d[a] cs[a].kind m N;have t:RJ (eU d[a] cs[a].kind=RE→¬ mb d cs):=fun j ab=>by
     have:=ab.2 a r o;rw[j] at this;cases this
    have u:RJ (eU d[a] cs[a].kind=RF→∀ b,(h:b<d.length)→(i:b<cs.length)→b<a+1→eU d[b] cs[b].kind=RF):=fun j b h i a7=>by
     by_cases Z:b=a
     ·subst Z;exact j
     ·exact p.out b h i (by omega)
    clear g f k p D E A N;generalize d[a]=T at*;generalize cs[a]=c at*;have ba:(a:Int)<(d.length:Int):=by omega
    go_upto_region 6 with fail
    obtain⟨a1,bc⟩:=m7 wr (.string c.name) (.int .i64 c.kind) 63;have n:RQ wr.heap.size wr (wr.alloc (.cells #[.string c.name,.int .i64 c.kind] 63)):=(R5 _ _).alloc (RG _) _;have u0:=(n.cell (p:=⟨s,bq+a*3,RA⟩) v).trans Q;have u1:=(n.cell (p:=⟨s,bq+a*3+1,RA⟩) v).trans R;have u2:=(n.cell (p:=⟨s,bq+a*3+2,RA⟩) v).trans S;have z:RJ (RQ w.heap.size w (wr.alloc (.cells #[.string c.name,.int .i64 c.kind] 63))):=y.out.trans (n.mono ao);clear n aw a0 Q R S a1;generalize wr.alloc (.cells #[.string c.name,.int .i64 c.kind] 63)=G at*;generalize wr.heap.size=a6 at*
    go_cut [26] from 15 to 27 (fun a3 x=>a3= .bool (!eU T c.kind)∧RQ w.heap.size w x)
    case first=>
     go_region_with (go_at_call 82;refine(C.out _).mono ?_;rintro e a4 ⟨rfl,K⟩)
     all_goals
      have l:RJ (RQ w.heap.size w a4):=z.out.trans ((((R5 G.heap.size G).drew).trans K).mono z.out.size);clear K
      go_wp2_with fail
      go_meet
      exact⟨rfl,l.out⟩
    case rest=>
     rename RD=>x
     obtain⟨rfl,L⟩:=hcut;have l:RJ (RQ w.heap.size w x):=L;clear L C;cases J:eU T c.kind
     ·have F:RJ (¬ mb d cs):=t.out J;clear t u;go_wp2;go_ret
      first
       |exact⟨RE,rfl,by simp only[Sa,false_iff];exact F.out,l.out⟩
       |exact .inl ⟨rfl,F.out,l.out⟩
     ·have W:RJ (∀ b,(h:b<d.length)→(i:b<cs.length)→b<a+1→eU d[b] cs[b].kind=RF):=u.out J;clear t u;go_wp2
      go_roundw
      case rel=>exact⟨a+1,by omega,by go_num,W.out,l.out⟩
      case measure=>simp[SC];omega
   ·have V:RJ (mb d cs):=⟨B.out,fun b h i=>p.out b h i (by omega)⟩;clear p k;go_wp2;go_ret;exact⟨RF,rfl,by simp only[true_iff];exact V.out,y.out⟩
 ·have O:((d.length:Int) != (cs.length:Int))=RF:=by simp;omega
  have U:RJ (¬ mb d cs):=fun j=>q j.1;clear g f;go_enter aa.func56,Tryz.ntmps56;go_wp2
  all_goals go_ret
  all_goals exact⟨RE,rfl,by simp only[Sa,false_iff];exact U.out,R5 _ _⟩
structure Au(w:RD)(ao:Option Sl)(b off:Nat)(l:List (List aD)):Prop where
 addr:0<l.length→ao=Ry ⟨b,off,RA⟩
 lt:0<l.length→b<w.heap.size
 c:∀ j (h:j<l.length),∃ v,w.cell? ⟨b,off+j,RA⟩=Ry v∧ql w v l[j]
theorem Au.below{w w':RD}{c:Option Sl}{b off:Nat}{l:List (List aD)}(h:Au w c b off l)(a:RQ w.heap.size w w'):Au w' c b off l:=
 ⟨h.addr,fun e=>RK (h.lt e) a.size,fun d i=>by
  obtain⟨v,f,g⟩:=h.c d i;exact⟨v,(a.cell (p:=⟨b,off+d,RA⟩) (h.lt (by omega))).trans f,g.below a⟩⟩
def Av (w:RD)(v:RB)(l:List (List aD)):Prop:=∃ a c d b,v= .slice a l.length b∧l.length≤b∧Au w a c d l
theorem Av.below{w w':RD}{v:RB}{l:List (List aD)}(h:Av w v l)(d:RQ w.heap.size w w'):Av w' v l:=by
 obtain⟨a,b,f,c,rfl,e,h⟩:=h;exact⟨a,b,f,c,rfl,e,h.below d⟩
def fF (cs:List bO)(a:List (List aD)):Prop:=fD cs∧a.length≤2000∧∀ b,(c:b<a.length)→mb a[b] cs
theorem oI{cs:List bO}(h:fD cs):∀ c∈cs,c.kind=1∨c.kind=2∨c.kind=3:=by
 intro c a;obtain⟨d,b,rfl⟩:=To a;have:=(h.2.2 d b).1;simp[n6,fJ] at this;omega
theorem oE{Q:Prop}{R:RD→Prop}{P:RM}{f:Nat}{args:Array RB}{w:RD}(h:Sc P f args w fun e w'=>∃ bb,e= .returned (.bool bb)∧(bb=RF↔Q)∧R w')(c:Q):Sc P f args w fun e w'=>e= .returned (.bool RF)∧R w':=
 h.mono (by rintro e w' ⟨bb,rfl,b,a⟩;rw[b.2 c];exact⟨rfl,a⟩)
theorem mU{Q:Prop}{R:RD→Prop}{P:RM}{f:Nat}{args:Array RB}{w:RD}(h:Sc P f args w fun e w'=>∃ bb,e= .returned (.bool bb)∧(bb=RF↔Q)∧R w')(c:¬ Q):Sc P f args w fun e w'=>e= .returned (.bool RE)∧R w':=
 h.mono (by
  rintro e w' ⟨bb,rfl,b,a⟩;cases bb
  ·exact⟨rfl,a⟩
  ·exact absurd (b.1 rfl) c)
theorem CD(cs:List bO)(a:List (List aD))(V ao:RB)(w:RD)(Z:cs.length≤R3)(ba:a.length≤R3)(ab:∀ r∈a,r.length≤R3)(J:yy w V cs)(bc:Av w ao a):
 Sc (aa.of Rz) 40 #[.agg #[V,ao]] w fun e w'=>∃ bb,e= .returned (.bool bb)∧(bb=RF↔fF cs a)∧RQ w.heap.size w w':=by
 have a9:=J;obtain⟨j,bi,bs,k,rfl,bl,-⟩:=a9;obtain⟨q,am,bq,aI,rfl,br,s⟩:=bc;have S:RJ (yy w (.slice j cs.length k) cs):=J;have U:RJ (Au w q am bq a):=s;have E:RJ (cs.length≤R3):=Z;have a2:RJ (∀ r∈a,r.length≤R3):=ab;unfold R3 at Z ba;clear J s ab;go_enter aa.func40,Tryz.ntmps40
 go_upto_region 1 with fail
 obtain⟨y,M⟩:=m7 w (.slice j cs.length k) (.slice q a.length aI) 46;have x:RQ w.heap.size w (w.alloc (.cells #[.slice j cs.length k,.slice q a.length aI] 46)):=(R5 _ _).alloc (RG _) _;have p:w.heap.size<(w.alloc (.cells #[.slice j cs.length k,.slice q a.length aI] 46)).heap.size:=by simp
 have Q:=S.out.below x;have T:=U.out.below x;have z:RJ (RQ w.heap.size w (w.alloc (.cells #[.slice j cs.length k,.slice q a.length aI] 46))):=x;generalize w.alloc (.cells #[.slice j cs.length k,.slice q a.length aI] 46)=i at*;have B:RJ (yy i (.slice j cs.length k) cs):=Q;have a4:RJ (Au i q am bq a):=T;clear Q T x S U;generalize Y:w.heap.size=l at*;have C:RJ (w.heap.size=l):=Y;clear Y;by_cases o:fD cs
 ·have h:=oE (lu cs _ i E.out B.out) o;have R:RJ (fD cs):=o;by_cases ae:a.length≤2000
  ·have W:decide (2000<(a.length:Int))=RE:=by simp;omega
   clear o
   go_wp2_with (go_at_call 55;refine h.mono ?_;rintro e O ⟨rfl,g⟩;have L:=(g.cell (p:=⟨l,0,RA⟩) p).trans y;have N:=(g.cell (p:=⟨l,1,RA⟩) p).trans M)
   clear W h;have a1:RJ (RQ i.heap.size i O):=g;clear L N g
   go_loopw [18] (fun b wr=>∃ c:Nat,c≤a.length∧b= .int .i64 c∧(∀ b,(d:b<a.length)→b<c→mb a[b] cs)∧RQ i.heap.size i wr) (fun b _=>a.length - (SC b).toNat)
   case atStart=>exact⟨0,Sk _,rfl,fun bt _ d=>by omega,a1.out⟩
   case round=>
    rename RD=>wr
    obtain⟨c,bo,rfl,X,n⟩:=hrel;have h:RJ (∀ b,(d:b<a.length)→b<c→mb a[b] cs):=X;have a0:RJ (RQ i.heap.size i wr):=n;have A:RJ (RQ w.heap.size w wr):=by
     show RQ w.heap.size w wr;have f:=z.out;have m:=n.mono f.size;rw[C.out] at m ⊢;exact f.trans m
    have bu:=(n.cell (p:=⟨l,0,RA⟩) p).trans y;have bd:=n.size;clear X;by_cases K:c<a.length
    ·have s:=a4.out.below n;obtain rfl:=s.addr (by omega);obtain⟨v,bm,al⟩:=s.c c K;have ad:=a2.out a[c] (RV K);have u:RJ (Sc (aa.of Rz) 56 #[v,.slice j cs.length k] wr fun e w'=>∃ bb,e= .returned (.bool bb)∧(bb=RF↔mb a[c] cs)∧RQ wr.heap.size wr w'):=H8 a[c] cs v _ wr ad E.out (oI R.out) al (B.out.below n);have G:RJ (¬ mb a[c] cs→¬ fF cs a):=fun d a8=>d (a8.2.2 c K);have H:RJ (mb a[c] cs→∀ b,(d:b<a.length)→b<c+1→mb a[b] cs):=fun d b f bj=>by
      by_cases a7:b=c
      ·subst a7;exact d
      ·exact h.out b f (by omega)
     obtain⟨aw,bv,bx,ar,rfl,-⟩:=al;clear s h ad n;generalize a[c]=P at*;by_cases t:mb P cs
     ·have D:RJ (Sc (aa.of Rz) 56 #[.slice aw P.length ar,.slice j cs.length k] wr fun e w'=>e= .returned (.bool RF)∧RQ wr.heap.size wr w'):=oE u.out t;have a6:RJ (∀ b,(d:b<a.length)→b<c+1→mb a[b] cs):=H.out t;clear G H t u
      go_wp2_with (go_at_call 56;refine D.out.mono ?_;rintro e be ⟨rfl,I⟩)
      go_roundw
      case rel=>exact⟨c+1,by omega,by go_num,a6.out,a0.out.trans (I.mono bd)⟩
      case measure=>simp[SC];omega
     ·have D:RJ (Sc (aa.of Rz) 56 #[.slice aw P.length ar,.slice j cs.length k] wr fun e w'=>e= .returned (.bool RE)∧RQ wr.heap.size wr w'):=mU u.out t;have a5:RJ (¬ fF cs a):=G.out t;clear G H t u
      go_wp2_with (go_at_call 56;refine D.out.mono ?_;rintro e be ⟨rfl,I⟩)
      go_ret;exact⟨RE,rfl,by simp only[Sa,false_iff];exact a5.out,A.out.trans (I.mono A.out.size)⟩
    ·have a3:RJ (fF cs a):=⟨R.out,ae,fun b f=>h.out b f (by omega)⟩;clear h n;go_wp2;go_ret;exact⟨RF,rfl,by simp only[true_iff];exact a3.out,A.out⟩
  ·have W:decide (2000<(a.length:Int))=RF:=by simp;omega
   have F:RJ (¬ fF cs a):=fun d=>ae d.2.1;clear o
   go_wp2_with (go_at_call 55;refine h.mono ?_;rintro e O ⟨rfl,g⟩;have L:=(g.cell (p:=⟨l,0,RA⟩) p).trans y;have N:=(g.cell (p:=⟨l,1,RA⟩) p).trans M)
   go_ret;refine⟨RE,rfl,by simp only[Sa,false_iff];exact F.out,?_⟩;have f:=z.out;have m:=g.mono f.size;rw[C.out] at m ⊢;exact f.trans m
 ·have h:=mU (lu cs _ i E.out B.out) o;have F:RJ (¬ fF cs a):=fun d=>o d.1;clear o
  go_wp2_with (go_at_call 55;refine h.mono ?_;rintro e O ⟨rfl,g⟩;have L:=(g.cell (p:=⟨l,0,RA⟩) p).trans y;have N:=(g.cell (p:=⟨l,1,RA⟩) p).trans M)
  go_ret;refine⟨RE,rfl,by simp only[Sa,false_iff];exact F.out,?_⟩;have f:=z.out;have m:=g.mono f.size;rw[C.out] at m ⊢;exact f.trans m
end Ec
namespace Pk
open Go.RowKit Pm
theorem Cu(s:ByteArray)(p:Nat)(h:p<s.size):s.extract p (p+1)=⟨#[s[p]]⟩:=by
 apply mi;unfold bytesOf;congr 1;rw[ByteArray.data_extract];simp only[Array.toList_extract];have a:p<s.data.toList.length:=h;rw[show List.extract s.data.toList p (p+1)=(s.data.toList.drop p).take 1 from by simp[List.extract],S6 a];rfl
def bh (s:ByteArray)(p:Nat):UQ:=.cells #[.string s,.int .i64 (p:Int)] 182 (0,0)
def dV (p:Nat):List S1:=[{v:=.iface 205 (.agg #[.int .i64 (p:Int)]),recovered:=RE}]
theorem jK{w:RD}{r p:Nat}{s:ByteArray}(h:w.heap[r]? =Ry (bh s p)):
 w.cell? ⟨r,0,RA⟩=Ry (.string s)∧w.cell? ⟨r,1,RA⟩=Ry (.int .i64 (p:Int))∧w.frozen? ⟨r,0,RA⟩=RE∧w.frozen? ⟨r,1,RA⟩=RE:=by
 unfold bh at h;refine⟨?_,?_,?_,?_⟩
 ·simp[R2,h]
 ·simp[R2,h]
 ·simp[SH,h]
 ·simp[SH,h]
theorem Cq(w:RD)(a:Sl)(v:RB)(m n:Nat):((w.drewN m).setCell a v).drewN n=(w.setCell a v).drewN (m+n):=by
 rw[show(w.drewN m).setCell a v=(w.setCell a v).drewN m from by unfold Vn;rfl,World.drewN_drewN]
theorem bP(r p:Nat)(s:ByteArray)(w:RD)(h:w.heap[r]? =Ry (bh s p)):
 Sc (aa.of Rz) 97 #[.pointer (Ry ⟨r,0,RA⟩)] w fun e w'=>e= .panicked (dV p)∧w'=w:=by
 obtain⟨a,b,c,d⟩:=jK h;clear h;go_enter aa.func97,Tryz.ntmps97;go_wp2;exact⟨rfl,rfl,rfl⟩
theorem L2(r p:Nat)(s:ByteArray)(w:RD)(b:s.size≤R3)(j:¬ p<s.size)(k:p≤s.size)(h:w.heap[r]? =Ry (bh s p)):
 Sc (aa.of Rz) 128 #[.pointer (Ry ⟨r,0,RA⟩),.int .i64 1] w fun e w'=>e= .panicked (dV p)∧∃ n,w'=w.drewN n:=by
 obtain⟨c,d,f,g⟩:=jK h;unfold R3 at b;have a:RJ (w.heap[r]? =Ry (bh s p)):=h;clear h;have i:decide ((s.size:Int) - (p:Int)<1)=RF:=by simp;omega
 go_enter aa.func128,Tryz.ntmps128
 go_wp2_with fail
 go_quiet (fail)
 go_wp2_with (go_at_call 97;refine(bP r p s _ (by exact a.out)).mono ?_;rintro e w' ⟨rfl,rfl⟩)
 exact⟨rfl,rfl,nq,rfl⟩
theorem NN(r p:Nat)(s:ByteArray)(w:RD)(a:s.size≤R3)(b:p<s.size)(h:w.heap[r]? =Ry (bh s p)):
 Sc (aa.of Rz) 128 #[.pointer (Ry ⟨r,0,RA⟩),.int .i64 1] w fun e w'=>e= .returned (.string ⟨#[s[p]]⟩)∧∃ n,w'=(w.setCell ⟨r,1,RA⟩ (.int .i64 ((p+1:Nat):Int))).drewN n:=by
 obtain⟨c,d,f,g⟩:=jK h;unfold R3 at a;clear h;have i:decide ((s.size:Int) - (p:Int)<1)=RE:=by simp;omega
 have j:(0:Int)≤(p:Int)+1:=by omega
 have k:(p:Int)+1≤(s.size:Int):=by omega
 have l:(p:Int)≤(p:Int)+1:=by omega
 have o:((p:Int)+1).toNat=p+1:=by omega
 have q:=Cu s p b;go_enter aa.func128,Tryz.ntmps128
 go_wp2_with fail
 go_quiet (fail)
 generalize nq=m at*
 go_wp2_with fail
 go_quiet (fail)
 go_wp2;go_ret;exact⟨rfl,m+nq,Cq _ _ _ _ _⟩
theorem ru(r p:Nat)(s:ByteArray)(w:RD)(b:s.size≤R3)(c:¬ p<s.size)(d:p≤s.size)(h:w.heap[r]? =Ry (bh s p)):
 Sc (aa.of Rz) 129 #[.pointer (Ry ⟨r,0,RA⟩)] w fun e w'=>e= .panicked (dV p)∧∃ n,w'=w.drewN n:=by
 have a:RJ (w.heap[r]? =Ry (bh s p)):=h;clear h;go_enter aa.func129,Tryz.ntmps129
 go_wp2_with (go_at_call 128;refine(L2 r p s _ b c d a.out).mono ?_;rintro e w' ⟨rfl,n,rfl⟩)
 exact⟨rfl,rfl,n,rfl⟩
theorem vj(r p:Nat)(s:ByteArray)(w:RD)(b:s.size≤R3)(c:p<s.size)(h:w.heap[r]? =Ry (bh s p)):
 Sc (aa.of Rz) 129 #[.pointer (Ry ⟨r,0,RA⟩)] w fun e w'=>e= .returned (.int .u8 (s[p].toNat:Int))∧∃ n,w'=(w.setCell ⟨r,1,RA⟩ (.int .i64 ((p+1:Nat):Int))).drewN n:=by
 have a:RJ (w.heap[r]? =Ry (bh s p)):=h;clear h;go_enter aa.func129,Tryz.ntmps129
 go_wp2_with (go_at_call 128;refine(NN r p s _ b c a.out).mono ?_;rintro e w' ⟨rfl,n,rfl⟩)
 go_ret;exact⟨rfl,n,rfl⟩
theorem AM(r p:Nat)(s:ByteArray)(w:RD)(b:s.size≤R3)(j:p<s.size)(h:w.heap[r]? =Ry (bh s p)):
 Sc (aa.of Rz) 93 #[.pointer (Ry ⟨r,0,RA⟩)] w fun e w'=>e= .panicked (dV p)∧∃ n,w'=w.drewN n:=by
 obtain⟨c,d,f,g⟩:=jK h;unfold R3 at b;have a:RJ (w.heap[r]? =Ry (bh s p)):=h;clear h;have i:decide ((p:Int)<(s.size:Int))=RF:=by simp;omega
 go_enter aa.func93,Tryz.ntmps93
 go_wp2_with fail
 go_quiet (fail)
 go_wp2_with (go_at_call 97;refine(bP r p s _ (by exact a.out)).mono ?_;rintro e w' ⟨rfl,rfl⟩)
 exact⟨rfl,rfl,nq,rfl⟩
theorem EA(r p:Nat)(s:ByteArray)(w:RD)(a:s.size≤R3)(i:¬ p<s.size)(h:w.heap[r]? =Ry (bh s p)):
 Sc (aa.of Rz) 93 #[.pointer (Ry ⟨r,0,RA⟩)] w fun e w'=>e= .returned (.tuple #[])∧∃ n,w'=w.drewN n:=by
 obtain⟨b,c,d,f⟩:=jK h;unfold R3 at a;clear h;have g:decide ((p:Int)<(s.size:Int))=RE:=by simp;omega
 go_enter aa.func93,Tryz.ntmps93
 go_wp2_with fail
 go_quiet (fail)
 go_wp2
 go_end0
 exact⟨rfl,nq,rfl⟩
theorem mH(s:ByteArray)(w:RD):
 Sc (aa.of Rz) 65 #[.string s] w fun e w'=>e= .returned (.pointer (Ry ⟨w.heap.size,0,RA⟩))∧w'=w.alloc (bh s 0):=by
 go_enter aa.func65,Tryz.ntmps65;go_wp2;go_ret;exact⟨rfl,rfl⟩
theorem kU{w:RD}{r p q:Nat}{s:ByteArray}(h:w.heap[r]? =Ry (bh s p))(n:Nat):((w.setCell ⟨r,1,RA⟩ (.int .i64 (q:Int))).drewN n).heap[r]? =Ry (bh s q):=by
 show(w.setCell ⟨r,1,RA⟩ (.int .i64 (q:Int))).heap[r]? =_;unfold bh at*;rw[RZ w r 1 _ _ _ h];rfl
def Kp (r:Nat)(w w':RD):Prop:=w.grownBy w' (Ry r)
theorem Kp.refl(r:Nat)(w:RD):Kp r w w:=V7 w _
theorem Kp.size{r:Nat}{w w':RD}(h:Kp r w w'):w.heap.size≤w'.heap.size:=UI h
theorem Kp.trans{r:Nat}{w d e:RD}(h:Kp r w d)(k:Kp r d e):Kp r w e:=
 ⟨k.os.trans h.os,k.tape.trans h.tape,k.output.trans h.output,R4 (UI h) (UI k),fun c a b=>(T2 k c (RK a (UI h)) b).trans (T2 h c a b)⟩
theorem Kp.drewN{r:Nat}{w a:RD}(h:Kp r w a)(n:Nat):Kp r w (a.drewN n):=Kp.trans h ⟨rfl,rfl,rfl,RG _,fun _ _ _=>rfl⟩
theorem Kp.alloc{r:Nat}{w a:RD}(h:Kp r w a)(o:UQ):Kp r w (a.alloc o):=Kp.trans h (World.grownBy_alloc a o _)
theorem Kp.grown{r:Nat}{w d e:RD}{c:Option Nat}(h:Kp r w d)(k:d.grownBy e c)(j:∀ g,c=Ry g→w.heap.size≤g):Kp r w e:=
 ⟨k.os.trans h.os,k.tape.trans h.tape,k.output.trans h.output,R4 (UI h) k.size,fun a b i=>(k.block a (RK b (UI h)) (fun f=>by have:=j a f.symm;omega)).trans (T2 h a b i)⟩
theorem Kp.set{r:Nat}{w a:RD}(h:Kp r w a)(o:Nat)(v:RB)(n:Nat):Kp r w ((a.setCell ⟨r,o,RA⟩ v).drewN n):=
 Kp.trans h ⟨rfl,rfl,rfl,by simp,fun d e c=>by
  show(a.setCell ⟨r,o,RA⟩ v).heap[d]? =_;exact R6 _ _ _ _ (fun b=>c (by cases b;rfl))⟩
theorem Kp.below{r:Nat}{w a:RD}(h:Kp r w a)(e:r≤w.heap.size):RQ r w a:=⟨h.os,h.tape,h.output,UI h,fun c d=>T2 h c (by omega) (fun b=>by cases b;omega)⟩
theorem Kp.bS{r:Nat}{w a:RD}(h:RQ w.heap.size w a):Kp r w a:=⟨h.os,h.tape,h.output,h.size,fun c b _=>h.block c b⟩
theorem Kp.own{r:Nat}{w b:RD}{base e a n:Nat}{v:RB}{c:List RB}(k:Kp r w b)(h:w.ownsRow base e a v n c)(g:r<base):b.ownsRow base e a v n c:=
 h.kept k (by
  cases d:v.ownBlock with
  |none=>exact .inl rfl
  |some f=>exact .inr (fun e=>by cases e;have:=(h.lt r d).1;omega))
theorem Kp.block{r:Nat}{w a:RD}(k:Kp r w a){i:Nat}{o:UQ}(h:w.heap[i]? =Ry o)(c:i≠r):a.heap[i]? =Ry o:=by
 rw[T2 k i (RP h) (fun b=>c (by cases b;rfl))];exact h
end Pk
namespace Ec
open Go.RowKit Pk Pm
def ag (B:List Nat)(p:Nat)(a:List Nat):Prop:=a <+:B.drop p
theorem lU(B:List Nat)(p:Nat):ag B p []:=List.nil_prefix
theorem ap{B:List Nat}{p:Nat}{a b:List Nat}:ag B p (a ++ b)↔ag B p a∧ag B (p+a.length) b:=by
 unfold ag;constructor
 ·rintro⟨e,c⟩;refine⟨⟨b ++ e,by rw[← c];simp⟩,⟨e,?_⟩⟩;rw[← List.drop_drop,← c];simp
 ·rintro⟨⟨e,c⟩,⟨f,d⟩⟩;refine⟨f,?_⟩;rw[← List.drop_drop,← c] at d;simp at d;rw[← c,R9,d]
theorem eA{B:List Nat}{p x:Nat}{r:List Nat}:ag B p (x :: r)↔B[p]? =Ry x∧ag B (p+1) r:=by
 rw[show x :: r=[x] ++ r from rfl,ap];have:ag B p [x]↔B[p]? =Ry x:=by
  unfold ag;rw[← List.head?_drop];cases B.drop p with
  |nil=>simp
  |cons b a=>simp[List.cons_prefix_cons];exact eq_comm
 rw[this];rfl
theorem cX{B:List Nat}{p x:Nat}:ag B p [x]↔B[p]? =Ry x:=by
 rw[eA];simp[lU]
theorem fP{B:List Nat}{p:Nat}{a:List Nat}(h:ag B p a)(b:p≤B.length):p+a.length≤B.length:=by
 have:=h.length_le;rw[Ut] at this;omega
theorem By{B a:List Nat}(h:ag B 0 a)(b:¬ 0+a.length<B.length):a=B:=by
 unfold ag at h;rw[List.drop_zero] at h;exact h.eq_of_length_le (by omega)
theorem eu{B a:List Nat}(h:a=B):ag B 0 a:=by
 subst h;unfold ag;exact List.prefix_refl _
theorem gK{B:List Nat}{p:Nat}{a b:List Nat}(c:ag B p a)(d:ag B p b)(e:a.length=b.length):a=b:=
 (List.prefix_of_prefix_length_le c d (by omega)).eq_of_length e
theorem o8{B:List Nat}{p f c x:Nat}(hc:B[p]? =Ry c)(h:128≤c)(a:ag B p (ia (f+1) x)):128≤x∧x % 128+128=c∧ag B (p+1) (ia f (x / 128)):=by
 by_cases b:x<128
 ·rw[eP f x b,cX,hc] at a;simp at a;omega
 ·rw[gX f x b,eA,hc] at a;simp at a;exact⟨by omega,a.1.symm,a.2⟩
theorem lV{B:List Nat}{p f c x:Nat}(hc:B[p]? =Ry c)(h:c<128):ag B p (ia (f+1) x)↔x=c:=by
 by_cases a:x<128
 ·rw[eP f x a,cX,hc];simp;exact eq_comm
 ·rw[gX f x a,eA,hc];simp;omega
structure zi(B:List Nat)(p j acc:Nat):Prop where
 lt:acc<128 ^ j
 all:∀ v,v<18446744073709551616→(ag B p (aA v)↔∃ x,v=acc+128 ^ j*x∧(x≠0∨j=0)∧ag B (p+j) (ia (10 - j) x))
 len:∀ x,(x≠0∨j=0)→(aA (acc+128 ^ j*x)).length=j+(ia (10 - j) x).length
theorem zi.zero(B:List Nat)(p:Nat):zi B p 0 0:=
 ⟨by simp,fun v _=>⟨fun b=>⟨v,by simp,.inr rfl,b⟩,fun⟨d,a,_,c⟩=>by simp at a;subst a;exact c⟩,fun d _=>by simp[aA]⟩
theorem zi.more{B:List Nat}{p j b c:Nat}(h:zi B p j b)(r:j<10)(hc:B[p+j]? =Ry c)(h1:128≤c)(n:c<256):zi B p (j+1) (b+128 ^ j*(c - 128)):=by
 have t:=h.lt;have g:10 - j=(10 - (j+1))+1:=by omega
 have s:∀ a,c - 128+128*a=128*a+(c - 128):=fun a=>by omega
 have f:∀ a,b+128 ^ j*(c - 128)+128 ^ (j+1)*a=b+128 ^ j*(c - 128+128*a):=fun a=>by
  rw[Uf,Nat.mul_add,Nat.mul_assoc];omega
 refine⟨?_,?_,?_⟩
 ·have d:128 ^ j*(c - 128)≤128 ^ j*127:=Uz _ (by omega);rw[Uf];omega
 ·intro v m;rw[h.all v m];constructor
  ·rintro⟨a,d,k,e⟩;rw[g] at e;obtain⟨o,q,l⟩:=o8 hc h1 e;refine⟨a / 128,?_,.inl (by omega),by rw[← SL];exact l⟩;rw[f,d];congr 2;omega
  ·rintro⟨a,d,k,e⟩;have i:a≠0:=by rcases k with h|h;exact h;omega
   refine⟨c - 128+128*a,by rw[d,f],.inl (by omega),?_⟩;rw[g,gX _ _ (by omega),eA];refine⟨by rw[hc];congr 1;omega,?_⟩;rw[show(c - 128+128*a) / 128=a by omega,SL];exact e
 ·intro a i;have i:a≠0:=by rcases i with h|h;exact h;omega
  rw[f,h.len _ (.inl (by omega)),g,gX _ _ (by omega),show(c - 128+128*a) / 128=a by omega];simp;omega
theorem zi.fin{B:List Nat}{p j d c:Nat}(h:zi B p j d)(i:j<10)(hc:B[p+j]? =Ry c)(h1:c<128)(v:Nat)(g:v<18446744073709551616):
 ag B p (aA v)↔v=d+128 ^ j*c∧(c≠0∨j=0):=by
 rw[h.all v g];have f:10 - j=(10 - (j+1))+1:=by omega
 constructor
 ·rintro⟨k,a,b,e⟩;rw[f,lV hc h1] at e;subst e;exact⟨a,b⟩
 ·rintro⟨a,b⟩;exact⟨c,a,b,by rw[f,lV hc h1]⟩
theorem zi.MW{B:List Nat}{p j a c:Nat}(h:zi B p j a)(b:j<10)(h1:c<128)(hc:c≠0∨j=0):(aA (a+128 ^ j*c)).length=j+1:=by
 rw[h.len c hc,show 10 - j=(10 - (j+1))+1 by omega,eP _ _ h1];rfl
theorem zi.none{B:List Nat}{p j d:Nat}(h:zi B p j d)(k:j<10)(l:¬ p+j<B.length)(v:Nat)(e:v<18446744073709551616):¬ ag B p (aA v):=by
 rw[h.all v e];rintro⟨f,g,i,a⟩;rw[show 10 - j=(10 - (j+1))+1 by omega] at a;have b:B[p+j]? =RA:=List.getElem?_eq_none (by omega);by_cases c:f<128
 ·rw[eP _ _ c,cX,b] at a;simp at a
 ·rw[gX _ _ c,eA,b] at a;simp at a
theorem zi.Rx{B:List Nat}{p a:Nat}(h:zi B p 10 a)(v:Nat)(c:v<18446744073709551616):¬ ag B p (aA v):=by
 rw[h.all v c];rintro⟨f,b,d,e⟩;have:(128:Nat) ^ 10=1180591620717411303424:=by decide
 rw[this] at b;omega
theorem zi.top{B:List Nat}{p j a c:Nat}(h:zi B p j a)(f:j<9∨(j=9∧c≤1))(hc:c<128):a+128 ^ j*c<18446744073709551616:=by
 have g:=h.lt;rcases f with d|⟨rfl,d⟩
 ·have e:128 ^ (j+1)≤128 ^ 9:=Tu (by omega) (by omega);have b:(128:Nat) ^ 9=9223372036854775808:=by decide
  rw[Uf] at e;have i:128 ^ j*c≤128 ^ j*127:=Uz _ (by omega);omega
 ·have b:(128:Nat) ^ 9=9223372036854775808:=by decide
  rw[b] at g ⊢;omega
theorem zi.over{B:List Nat}{p a c:Nat}(h:1<c):¬ a+128 ^ 9*c<18446744073709551616:=by
 have b:(128:Nat) ^ 9=9223372036854775808:=by decide
 rw[b];omega
theorem bW{B:List Nat}{p a b:Nat}(e:a<18446744073709551616)(n:b<18446744073709551616)(h1:ag B p (aA a))(d:ag B p (aA b)):a=b:=by
 have j:∀ f a b p,a<128 ^ f→b<128 ^ f→ag B p (ia f a)→ag B p (ia f b)→a=b:=by
  intro f
  induction f with
  |zero=>intro a b p h1 d;simp at h1 d;omega
  |succ f i=>
   intro a b p h1 d c g;by_cases e:a<128
   ·rw[eP f a e,cX] at c;exact((lV c e).1 g).symm
   ·rw[gX f a e,eA] at c;obtain⟨k,l,h⟩:=o8 c.1 (by omega) g;have m:=i (a / 128) (b / 128) (p+1) (by rw[Uf] at h1;omega) (by rw[Uf] at d;omega) c.2 h;omega
 have c:(128:Nat) ^ 10=1180591620717411303424:=by decide
 exact j 10 a b p (by omega) (by omega) h1 d
def kx (l:List Int):Prop:=∀ a∈l,a=0∨a=1
theorem kJ(x:Int)(r:List Int):0<cW x (x :: r):=by simp[cW]
theorem E9:∀ (f:Nat) (l:List Int),l.length≤f→fU (f+1) l=fU f l:=by
 intro f
 induction f with
 |zero=>intro l c;cases l with
  |nil=>rfl
  |cons a b=>simp at c
 |succ f e=>
  intro l c;cases l with
  |nil=>rfl
  |cons a b=>
   have g:=kJ a b;have d:=e ((a :: b).drop (cW a (a :: b))) (by rw[Ut];simp at c ⊢;omega);rw[fU,fU];simp only[d]
theorem Lx(f:Nat)(l:List Int)(h:l.length≤f):fU f l=bF l:=by
 induction f with
 |zero=>
  have:l=[]:=TQ.1 (by omega);subst this;rfl
 |succ f b=>
  by_cases a:l.length≤f
  ·rw[E9 f l a,b a]
  ·unfold bF;rw[show l.length=f+1 by omega]
theorem IT:bF []=[]:=rfl
theorem xJ(x:Int)(r:List Int):bF (x :: r)=aA (cW x (x :: r)) ++ ([byteOf x] ++ bF ((x :: r).drop (cW x (x :: r)))):=by
 have a:=kJ x r;rw[← Lx r.length ((x :: r).drop (cW x (x :: r))) (by rw[Ut];simp;omega)];rfl
theorem E8(b:Int)(n:Nat)(m:List Int)(h:m.head? ≠Ry b):cW b (Ti n b ++ m)=n:=by
 induction n with
 |zero=>
  cases m with
  |nil=>rfl
  |cons e d=>simp[cW];intro a;subst a;simp at h
 |succ n c=>rw[List.replicate_succ,TP,cW,if_pos rfl,c]
theorem IV(b:Int)(n:Nat)(m:List Int)(e:n≠0)(h:m.head? ≠Ry b):bF (Ti n b ++ m)=aA n ++ ([byteOf b] ++ bF m):=by
 obtain⟨a,rfl⟩:∃ a,n=a+1:=⟨n - 1,by omega⟩;have c:Ti (a+1) b ++ m=b :: (Ti a b ++ m):=by rw[List.replicate_succ];rfl
 have d:=E8 b (a+1) m h;rw[c] at d ⊢;rw[xJ,d,← c];simp
theorem Bh(x:Int)(l:List Int):l=Ti (cW x l) x ++ l.drop (cW x l):=by
 induction l with
 |nil=>rfl
 |cons d c b=>
  simp only[cW]
  split
  ·rename_i a;subst a;rw[List.replicate_succ,TP,List.drop_succ_cons,← b]
  ·simp
theorem Bg(x:Int)(l:List Int):(l.drop (cW x l)).head? ≠Ry x:=by
 intro a;rw[List.head?_drop] at a;obtain⟨b,c⟩:=R8.1 a;exact xH x l b c
structure GP(B:List Nat)(p cn:Nat)(l:List Int)(R:List Nat):Prop where
 le:l.length≤cn
 bits:kx l
 st:ag B p R
 ext:∀ m:List Int,(m=[]∨l=[]∨m.head? ≠l.getLast?)→bF (l ++ m)=R ++ bF m
 GF:∀ L:List Int,L.length=cn→kx L→ag B p (bF L)→∃ m,L=l ++ m∧(m=[]∨l=[]∨m.head? ≠l.getLast?)
theorem GP.zero(B:List Nat)(p cn:Nat):GP B p cn [] []:=
 ⟨Sk _,fun c b=>by simp at b,lU _ _,fun m _=>rfl,fun a _ _ _=>⟨a,rfl,.inr (.inl rfl)⟩⟩
theorem jC{b:Int}(h:b=0∨b=1):byteOf b=b.toNat:=by rcases h with rfl|rfl<;>rfl
theorem GP.next{B:List Nat}{p cn:Nat}{l:List Int}{R:List Nat}(h:GP B p cn l R)(k:l.length<cn)(L:List Int)(hL:L.length=cn)(g:kx L)(e:ag B p (bF L)):
 ∃ (n:Nat) (b:Int) (m:List Int),1≤n∧n≤cn - l.length∧(b=0∨b=1)∧(l=[]∨l.getLast? ≠Ry b)∧ag B (p+R.length) (aA n)∧ag B (p+R.length+(aA n).length) [b.toNat]∧
  L=(l ++ Ti n b) ++ m∧m.head? ≠Ry b:=by
 obtain⟨m,rfl,i⟩:=h.GF L hL g e;rw[RI] at hL;cases m with
 |nil=>simp at hL;omega
 |cons a c=>
  rw[h.ext _ i,ap] at e;have f:=e.2;rw[xJ,ap,ap] at f;have j:a=0∨a=1:=g a (by simp);refine⟨cW a (a :: c),a,(a :: c).drop (cW a (a :: c)),kJ a c,?_,j,?_,f.1,?_,?_,Bg a (a :: c)⟩
  ·have:=z6 a (a :: c);omega
  ·rcases i with d|d|d
   ·simp at d
   ·exact .inl d
   ·right;simpa [eq_comm] using d
  ·rw[← jC j];exact f.2.1
  ·rw[R9,← Bh]
theorem GP.more{B:List Nat}{p cn:Nat}{l:List Int}{R:List Nat}(h:GP B p cn l R){n:Nat}{b:Int}(c:n≠0)(M:n≤cn - l.length)(D:n<18446744073709551616)(e:b=0∨b=1)(z:l=[]∨l.getLast? ≠Ry b)
 (j:ag B (p+R.length) (aA n)) (a:ag B (p+R.length+(aA n).length) [b.toNat]) (L:cn≤100) (A:l.length<cn):GP B p cn (l ++ Ti n b) (R ++ (aA n ++ [b.toNat])):=by
 have N:Ti n b≠[]:=by simp;exact c
 have f:(l ++ Ti n b).getLast?= Ry b:=by
  rw[List.getLast?_append,List.getLast?_replicate,if_neg c];rfl
 have y:∀ m,(Ti n b ++ m).head?= Ry b:=by
  intro m;obtain⟨i,rfl⟩:∃ i,n=i+1:=⟨n - 1,by omega⟩;rw[List.replicate_succ];rfl
 refine⟨by simp;omega,?_,?_,?_,?_⟩
 ·intro H F;rcases SM.1 F with h1|h1
  ·exact h.bits H h1
  ·rw[(List.mem_replicate.1 h1).2];exact e
 ·rw[ap,ap];exact⟨h.st,j,a⟩
 ·intro m g;rw[f] at g;have C:m.head? ≠Ry b:=by
   rcases g with h1|h1|h1
   ·subst h1;simp
   ·simp at h1;omega
   ·exact h1
  rw[R9,h.ext _ (by rw[y];rcases z with h1|h1;exact .inr (.inl h1);exact .inr (.inr (fun q=>h1 q.symm))),IV b n m c C,jC e];simp
 ·intro k w x E;obtain⟨G,o,m,h1,I,J,K,t,d,u,v⟩:=h.next A k w x E;have r:G=n:=bW (by omega) D t j;subst r;have s:o=b:=by
   rw[cX] at d a;rw[d] at a;simp at a;omega
  subst s;exact⟨m,u,.inr (.inr (by rw[f];exact v))⟩
theorem GP.done{B:List Nat}{p cn:Nat}{l:List Int}{R:List Nat}(h:GP B p cn l R)(e:¬ l.length<cn):
 l.length=cn∧bF l=R∧(∀ L:List Int,L.length=cn→kx L→ag B p (bF L)→L=l):=by
 have c:l.length=cn:=by have:=h.le;omega
 refine⟨c,?_,?_⟩
 ·have:=h.ext [] (.inl rfl);simpa [IT] using this
 ·intro L a b d;obtain⟨m,rfl,_⟩:=h.GF L a b d;rw[RI] at a;have:m=[]:=TQ.1 (by omega);rw[this];simp
theorem rq(s:ByteArray)(p:Nat)(h:p<s.size):(bytesOf s)[p]? =Ry s[p].toNat:=by
 rw[RS (by rw[ai];exact h),tW s p h]
theorem OF(c:Nat)(h:c<256):bits .and .u8 (c:Int) 127=((c % 128:Nat):Int):=by
 have:=bits_mask .u8 8 (by decide) wraps_u8 7 (by decide) (c:Int) (by omega) (by omega);rw[show(127:Int)=2 ^ 7 - 1 from by decide,this];omega
theorem tS(n:Int)(a:0≤n)(b:n<2 ^ 64):TT.wrap n=n:=by rw[wrap_u64];omega
theorem cQ(s:ByteArray)(p q:Nat):bytesOf (s.extract p q)=((bytesOf s).drop p).take (q - p):=by
 unfold bytesOf;rw[ByteArray.data_extract];simp only[Array.toList_extract,List.extract_eq_take_drop,List.map_take,List.map_drop]
theorem Ag(r p c:Nat)(s:ByteArray)(w:RD)(b:s.size≤R3)(hc:c≤2147483648)(l:¬ p+c≤s.size)(m:p≤s.size)(h:w.heap[r]? =Ry (bh s p)):
 Sc (aa.of Rz) 128 #[.pointer (Ry ⟨r,0,RA⟩),.int .i64 (c:Int)] w fun e w'=>e= .panicked (dV p)∧∃ n,w'=w.drewN n:=by
 obtain⟨d,f,g,i⟩:=jK h;unfold R3 at b;have a:RJ (w.heap[r]? =Ry (bh s p)):=h;clear h;have k:decide ((c:Int)<0)=RE:=by simp
 have j:decide ((s.size:Int) - (p:Int)<(c:Int))=RF:=by simp;omega
 go_enter aa.func128,Tryz.ntmps128
 go_wp2_with fail
 go_quiet (fail)
 go_wp2_with (go_at_call 97;refine(bP r p s _ (by exact a.out)).mono ?_;rintro e w' ⟨rfl,rfl⟩)
 exact⟨rfl,rfl,nq,rfl⟩
theorem DH(r p c:Nat)(s:ByteArray)(w:RD)(a:s.size≤R3)(k:p+c≤s.size)(h:w.heap[r]? =Ry (bh s p)):
 Sc (aa.of Rz) 128 #[.pointer (Ry ⟨r,0,RA⟩),.int .i64 (c:Int)] w fun e w'=>e= .returned (.string (s.extract p (p+c)))∧∃ n,w'=(w.setCell ⟨r,1,RA⟩ (.int .i64 ((p+c:Nat):Int))).drewN n:=by
 obtain⟨b,d,f,g⟩:=jK h;unfold R3 at a;clear h;have j:decide ((c:Int)<0)=RE:=by simp
 have i:decide ((s.size:Int) - (p:Int)<(c:Int))=RE:=by simp;omega
 have l:(0:Int)≤(p:Int)+(c:Int):=by omega
 have o:(p:Int)+(c:Int)≤(s.size:Int):=by omega
 have q:(p:Int)≤(p:Int)+(c:Int):=by omega
 have t:((p:Int)+(c:Int)).toNat=p+c:=by omega
 go_enter aa.func128,Tryz.ntmps128
 go_wp2_with fail
 go_quiet (fail)
 generalize nq=m at*
 go_wp2_with fail
 go_quiet (fail)
 go_wp2;go_ret;exact⟨rfl,m+nq,Cq _ _ _ _ _⟩
theorem Az(r p:Nat)(s:ByteArray)(w:RD)(l:s.size≤R3)(m:p≤s.size)(h:w.heap[r]? =Ry (bh s p)):
 Sc (aa.of Rz) 152 #[.pointer (Ry ⟨r,0,RA⟩)] w fun e w'=>Kp r w w'∧((∃ b:Int,e= .returned (.int .i64 b)∧(b=0∨b=1)∧ag (bytesOf s) p [b.toNat]∧w'.heap[r]? =Ry (bh s (p+1))∧p+1≤s.size)∨
  (∃ q,e= .panicked (dV q)∧∀ b:Int,(b=0∨b=1)→¬ ag (bytesOf s) p [b.toNat])):=by
 have c:RJ (w.heap[r]? =Ry (bh s p)):=h;clear h;by_cases g:p<s.size
 ·have i:=rq s p g;have k:RJ (∀ w,w.heap[r]? =Ry (bh s p)→Sc (aa.of Rz) 129 #[.pointer (Ry ⟨r,0,RA⟩)] w fun e w'=>e= .returned (.int .u8 (s[p].toNat:Int))∧∃ a,w'=(w.setCell ⟨r,1,RA⟩ (.int .i64 ((p+1:Nat):Int))).drewN a):=
   fun w u=>vj r p s w l g u
  have x:s[p].toNat<256:=s[p].toNat_lt;have j:RJ ((bytesOf s)[p]? =Ry s[p].toNat):=i;clear i;generalize s[p].toNat=d at*;by_cases v:d≤1
  ·have o:decide ((1:Int)<(d:Int))=RE:=by simp;omega
   go_enter aa.func152,Tryz.ntmps152
   go_wp2_with (go_at_call 129;refine(k.out _ c.out).mono ?_;rintro e w' ⟨rfl,a,rfl⟩)
   go_ret;refine⟨(Kp.refl _ _).set _ _ a,.inl ⟨(d:Int),by first|rfl|(congr 2;omega),by omega,?_,kU c.out a,by omega⟩⟩;rw[cX,j.out];simp
  ·have o:decide ((1:Int)<(d:Int))=RF:=by simp;omega
   have f:RJ (∀ b:Int,(b=0∨b=1)→¬ ag (bytesOf s) p [b.toNat]):=by
    intro b n;rw[cX,j.out];simp;omega
   go_enter aa.func152,Tryz.ntmps152
   go_wp2_with first|(go_at_call 129;refine(k.out _ c.out).mono ?_;rintro e w' ⟨rfl,a,rfl⟩)|(go_at_call 97;refine(bP r (p+1) s _ (by exact kU c.out _)).mono ?_;rintro e w' ⟨rfl,rfl⟩)
   exact⟨rfl,(Kp.refl _ _).set _ _ a,.inr ⟨_,rfl,f.out⟩⟩
 ·have f:RJ (∀ b:Int,(b=0∨b=1)→¬ ag (bytesOf s) p [b.toNat]):=by
   intro b n t;have:=fP t (by rw[ai];exact m);rw[ai] at this;simp at this;omega
  go_enter aa.func152,Tryz.ntmps152
  go_wp2_with (go_at_call 129;refine(ru r p s _ l g m c.out).mono ?_;rintro e w' ⟨rfl,a,rfl⟩)
  exact⟨rfl,(Kp.refl _ _).drewN a,.inr ⟨_,rfl,f.out⟩⟩
theorem Pb(j:Nat):(128:Nat) ^ j=2 ^ (7*j):=by rw[Nat.pow_mul]
theorem Nn(b c j:Nat)(h:j≤9)(f:b<128 ^ j)(hc:c<128):∃ d:Nat,bits .or .u64 (b:Int) (TT.wrap ((c:Int)*2 ^ (7*j)))=(d:Int)∧d<18446744073709551616∧((j≤8∨c≤1)→d=b+128 ^ j*c):=by
 have o:(128:Nat) ^ 9=9223372036854775808:=by decide
 have l:128 ^ j≤128 ^ 9:=Tu (by omega) h;have g:(c:Int)*2 ^ (7*j)=((2 ^ (7*j)*c:Nat):Int):=by push_cast;rw[Int.mul_comm]
 have m:TT.wrap ((c:Int)*2 ^ (7*j))=((2 ^ (7*j)*c % 18446744073709551616:Nat):Int):=by rw[g,wrap_u64];omega
 have k:=(bits_nat .u64 64 (by decide) tS b (2 ^ (7*j)*c % 18446744073709551616) (by omega) (by omega)).2;rw[m];refine⟨_,k,?_,?_⟩
 ·exact Nat.or_lt_two_pow (n:=64) (by omega) (by omega)
 ·intro a;have i:2 ^ (7*j)*c<18446744073709551616:=by
   rw[← Pb];rcases a with a|a
   ·have e:128 ^ j≤128 ^ 8:=Tu (by omega) a;have n:(128:Nat) ^ 8=72057594037927936:=by decide
    have:=UW e (show c≤127 by omega);omega
   ·have:=UW l a;omega
  rw[UN i,Nat.or_comm,← Nat.two_pow_add_eq_or_of_lt (by rw[← Pb];exact f) c,Nat.add_comm,Pb]
theorem Aj(r p:Nat)(s:ByteArray)(w:RD)(K:s.size≤R3)(Z:p≤s.size)(h:w.heap[r]? =Ry (bh s p)):
 Sc (aa.of Rz) 130 #[.pointer (Ry ⟨r,0,RA⟩)] w fun e w'=>Kp r w w'∧((∃ v:Nat,e= .returned (.int .u64 (v:Int))∧v<18446744073709551616∧ag (bytesOf s) p (aA v)∧w'.heap[r]? =Ry (bh s (p+(aA v).length)))∨
  (∃ q,e= .panicked (dV q)∧∀ v,v<18446744073709551616→¬ ag (bytesOf s) p (aA v))):=by
 have z:RJ (w.heap[r]? =Ry (bh s p)):=h;clear h;go_enter aa.func130,Tryz.ntmps130
 go_wp2_with fail
 go_loopw [3,4] (fun c sh wr=>∃ (a m d:Nat),a≤10∧sh= .int .i64 ((7*a:Nat):Int)∧c= .int .u64 (d:Int)∧(a≤9→d=m)∧zi (bytesOf s) p a m∧p+a≤s.size∧wr.heap[r]? =Ry (bh s (p+a))∧Kp r w wr) (fun _ sh _=>71 - (SC sh).toNat)
 case atStart=>exact⟨0,0,0,by omega,rfl,rfl,fun _=>rfl,zi.zero _ _,by omega,z.out,Kp.refl _ _⟩
 case round=>
  clear z;obtain⟨a,m,d,Y,rfl,rfl,F,E,S,D,C⟩:=hrel;have i:RJ (zi (bytesOf s) p a m):=E;have g:RJ (wr.heap[r]? =Ry (bh s (p+a))):=D;have j:RJ (Kp r w wr):=C;clear E D C;by_cases J:a≤9
  ·obtain rfl:=F J;clear F;by_cases n:p+a<s.size
   ·have o:RJ (∀ w,w.heap[r]? =Ry (bh s (p+a))→Sc (aa.of Rz) 129 #[.pointer (Ry ⟨r,0,RA⟩)] w fun e w'=>e= .returned (.int .u8 (s[p+a].toNat:Int))∧∃ c,w'=(w.setCell ⟨r,1,RA⟩ (.int .i64 ((p+a+1:Nat):Int))).drewN c):=
     fun w U=>vj r (p+a) s w K n U
    have H:s[p+a].toNat<256:=s[p+a].toNat_lt;have x:RJ ((bytesOf s)[p+a]? =Ry s[p+a].toNat):=rq s (p+a) n;generalize s[p+a].toNat=b at*;have X:bits .and .u8 (b:Int) 127=(b:Int) % 128:=by rw[OF b H];omega
    obtain⟨l,t,W,G⟩:=Nn d (b % 128) a J i.out.lt (by omega);rw[show((b % 128:Nat):Int)=(b:Int) % 128 from by omega] at t;have B:RJ ((a≤8∨b % 128≤1)→l=d+128 ^ a*(b % 128)):=G;clear G;by_cases Q:128≤b
    ·go_wp2_with (go_at_call 129;refine(o.out _ g.out).mono ?_;rintro e w' ⟨rfl,c,rfl⟩)
     refine⟨⟨a+1,d+128 ^ a*(b - 128),l,by omega,by go_num,by first|rfl|rw[t],?_,i.out.more (by omega) x.out Q H,by omega,kU g.out c,j.out.set _ _ c⟩,by simp[SC];omega⟩;intro V;rw[B.out (.inl (by omega)),show b % 128=b - 128 by omega]
    ·have R:(b:Int) % 128=(b:Int):=by omega
     rw[R] at t;have I:=fun v f=>i.out.fin (v:=v) (by omega) x.out (by omega) f;have y:RJ (∀ v,v<18446744073709551616→(ag (bytesOf s) p (aA v)↔v=d+128 ^ a*b∧(b≠0∨a=0))):=I;clear I;by_cases u:(b≠0∨a=0)∧(b≤1∨a≤8)
     ·have A:RJ (d+128 ^ a*b<18446744073709551616):=i.out.top (by omega) (by omega);have L:RJ _:=i.out.MW (c:=b) (by omega) (by omega) u.1;have M:RJ (l=d+128 ^ a*b):=by rw[show RJ (l=d+128 ^ a*b)↔l=d+128 ^ a*b from⟨fun h=>h.out,fun h=>h⟩,B.out (by omega),UN (by omega)]
      go_wp2_with (go_at_call 129;refine(o.out _ g.out).mono ?_;rintro e w' ⟨rfl,c,rfl⟩)
      all_goals
       go_ret;exact⟨j.out.set _ _ c,.inl ⟨d+128 ^ a*b,by rw[← M.out];rfl,A.out,(y.out _ A.out).2 ⟨rfl,u.1⟩,by rw[L.out,← SL];exact kU g.out c⟩⟩
     ·have k:RJ (∀ v,v<18446744073709551616→¬ ag (bytesOf s) p (aA v)):=by
       intro v f T;obtain⟨N,O⟩:=(y.out v f).1 T;by_cases P:b≤1∨a≤8
       ·exact u ⟨O,P⟩
       ·obtain rfl:a=9:=by omega
        rw[N] at f;exact zi.over (B:=bytesOf s) (p:=p) (by omega) f
      go_wp2_with first|(go_at_call 129;refine(o.out _ g.out).mono ?_;rintro e w' ⟨rfl,c,rfl⟩)|(go_at_call 97;refine(bP r (p+a+1) s _ (by exact kU g.out _)).mono ?_;rintro e w' ⟨rfl,rfl⟩)
      all_goals exact⟨rfl,j.out.set _ _ c,.inr ⟨_,rfl,k.out⟩⟩
   ·have k:RJ (∀ v,v<18446744073709551616→¬ ag (bytesOf s) p (aA v)):=fun v f=>i.out.none (by omega) (by rw[ai];exact n) v f
    go_wp2_with (go_at_call 129;refine(ru r (p+a) s _ K n S g.out).mono ?_;rintro e w' ⟨rfl,c,rfl⟩)
    exact⟨rfl,j.out.drewN c,.inr ⟨_,rfl,k.out⟩⟩
  ·obtain rfl:a=10:=by omega
   have k:RJ (∀ v,v<18446744073709551616→¬ ag (bytesOf s) p (aA v)):=fun v f=>i.out.Rx v f
   go_wp2_with (go_at_call 97;refine(bP r (p+10) s _ g.out).mono ?_;rintro e w' ⟨rfl,rfl⟩)
   exact⟨rfl,j.out,.inr ⟨_,rfl,k.out⟩⟩
theorem iR(r p:Nat)(s:ByteArray)(w:RD)(A:s.size≤R3)(t:p≤s.size)(h:w.heap[r]? =Ry (bh s p)):
 Sc (aa.of Rz) 95 #[.pointer (Ry ⟨r,0,RA⟩)] w fun e w'=>Kp r w w'∧((∃ v:Nat,e= .returned (.int .i64 (v:Int))∧v<2147483648∧ag (bytesOf s) p (aA v)∧p+(aA v).length≤s.size∧w'.heap[r]? =Ry (bh s (p+(aA v).length)))∨
  (∃ q,e= .panicked (dV q)∧∀ v,v<2147483648→¬ ag (bytesOf s) p (aA v))):=by
 have g:RJ (w.heap[r]? =Ry (bh s p)):=h;clear h;go_enter aa.func95,Tryz.ntmps95
 go_wp2_with fail
 refine(Aj r p s _ A t g.out).mono ?_;rintro e k ⟨d,⟨v,rfl,j,b,n⟩|⟨q,rfl,o⟩⟩
 ·have c:RJ (Kp r w k):=d;have m:RJ (ag (bytesOf s) p (aA v)):=b;have l:RJ (k.heap[r]? =Ry (bh s (p+(aA v).length))):=n;have u:RJ (p+(aA v).length≤s.size):=by have:=fP b (by rw[ai];exact t);rwa [ai] at this
  have y:RJ (v<18446744073709551616):=j;clear d b n g j;by_cases i:v<2147483648
  ·have x:RJ (v<2147483648):=i;have z:decide ((2147483648:Int)≤(v:Int))=RE:=by rw[decide_eq_false_iff_not];omega
   have C:SW (v:Int)=(v:Int):=by unfold SW;omega
   clear i;go_wp2;go_ret;exact⟨c.out,.inl ⟨v,by first|rfl|go_num,x.out,m.out,u.out,l.out⟩⟩
  ·have f:RJ (∀ a,a<2147483648→¬ ag (bytesOf s) p (aA a)):=by
    intro a B b;have:=bW (by omega) y.out b m.out;omega
   have z:decide ((2147483648:Int)≤(v:Int))=RF:=by rw[decide_eq_true_iff];omega
   clear i
   go_wp2_with (go_at_call 97;refine(bP r (p+(aA v).length) s _ l.out).mono ?_;rintro e w' ⟨rfl,rfl⟩)
   exact⟨rfl,c.out,.inr ⟨_,rfl,f.out⟩⟩
 ·have c:RJ (Kp r w k):=d;have f:RJ (∀ a,a<2147483648→¬ ag (bytesOf s) p (aA a)):=fun v j=>o v (by omega);clear d o g;go_wp2;exact⟨rfl,c.out,.inr ⟨q,rfl,f.out⟩⟩
structure vJ{α:Type}(E:List α→List Nat)(ok:α→Prop)(B:List Nat)(p cn:Nat)(l:List α):Prop where
 le:l.length≤cn
 O3:∀ x∈l,ok x
 st:ag B p (E l)
 GF:∀ L:List α,L.length=cn→(∀ x∈L,ok x)→ag B p (E L)→∃ m,L=l ++ m
theorem xP{α:Type}{E:List α→List Nat}{e:List α→α→List Nat}(b:∀ l x,E (l ++ [x])=E l ++ e l x)(l m:List α):∃ t,E (l ++ m)=E l ++ t:=by
 induction m generalizing l with
 |nil=>exact⟨[],by simp⟩
 |cons x a d=>
  obtain⟨t,c⟩:=d (l ++ [x]);refine⟨e l x ++ t,?_⟩;rw[show l ++ x :: a=l ++ [x] ++ a by simp,c,b,R9]
theorem vJ.zero{α:Type}{E:List α→List Nat}{ok:α→Prop}{B:List Nat}{p cn:Nat}(b:E []=[]):vJ E ok B p cn []:=
 ⟨Sk _,fun d c=>by simp at c,by rw[b];exact lU _ _,fun a _ _ _=>⟨a,rfl⟩⟩
theorem vJ.next{α:Type}{E:List α→List Nat}{ok:α→Prop}{e:List α→α→List Nat}{B:List Nat}{p cn:Nat}{l:List α}(h:vJ E ok B p cn l)(c:∀ l x,E (l ++ [x])=E l ++ e l x)(g:l.length<cn)
 (L:List α) (hL:L.length=cn) (d:∀ x∈L,ok x) (b:ag B p (E L)):∃ x m,L=(l ++ [x]) ++ m∧ok x∧ag B (p+(E l).length) (e l x):=by
 obtain⟨m,rfl⟩:=h.GF L hL d b;cases m with
 |nil=>simp at hL;omega
 |cons x a=>
  obtain⟨i,f⟩:=xP c (l ++ [x]) a;refine⟨x,a,by simp,d x (by simp),?_⟩;rw[show l ++ x :: a=l ++ [x] ++ a by simp,f,c,R9,ap,ap] at b;exact b.2.1
theorem vJ.more{α:Type}{E:List α→List Nat}{ok:α→Prop}{e:List α→α→List Nat}{B:List Nat}{p cn:Nat}{l:List α}(h:vJ E ok B p cn l)(b:∀ l x,E (l ++ [x])=E l ++ e l x)(i:l.length<cn)
 {x:α} (q:ok x) (k:ag B (p+(E l).length) (e l x)) (o:∀ y,ok y→ag B (p+(E l).length) (e l y)→y=x):vJ E ok B p cn (l ++ [x]):=by
 refine⟨by simp;omega,?_,by rw[b,ap];exact⟨h.st,k⟩,?_⟩
 ·intro y r;rcases SM.1 r with a|a
  ·exact h.O3 y a
  ·simp at a;rw[a];exact q
 ·intro c g j n;obtain⟨y,m,a,d,f⟩:=h.next b i c g j n;rw[o y d f] at a;exact⟨m,a⟩
theorem vJ.fail{α:Type}{E:List α→List Nat}{ok:α→Prop}{e:List α→α→List Nat}{B:List Nat}{p cn:Nat}{l:List α}(h:vJ E ok B p cn l)(c:∀ l x,E (l ++ [x])=E l ++ e l x)(d:l.length<cn)
 (i:∀ y,ok y→¬ ag B (p+(E l).length) (e l y)) (L:List α) (hL:L.length=cn) (f:∀ x∈L,ok x):¬ ag B p (E L):=by
 intro g;obtain⟨y,m,j,a,b⟩:=h.next c d L hL f g;exact i y a b
theorem vJ.done{α:Type}{E:List α→List Nat}{ok:α→Prop}{B:List Nat}{p cn:Nat}{l:List α}(h:vJ E ok B p cn l)(e:¬ l.length<cn):
 l.length=cn∧(∀ L:List α,L.length=cn→(∀ x∈L,ok x)→ag B p (E L)→L=l):=by
 have c:l.length=cn:=by have:=h.le;omega
 refine⟨c,?_⟩;intro L a b d;obtain⟨m,rfl⟩:=h.GF L a b d;rw[RI] at a;have:m=[]:=TQ.1 (by omega);rw[this];simp
def uz (m:Nat):Int:=if m % 2=1 then -((m / 2:Nat):Int) - 1 else((m / 2:Nat):Int)
theorem Qz(m:Nat):zz (uz m)=m:=by
 unfold zz uz
 split<;>split<;>omega
theorem GG(n:Int):uz (zz n)=n:=by
 unfold zz uz
 split<;>split<;>omega
theorem Me(m:Nat)(h:m<18446744073709551616): -9223372036854775808≤uz m∧uz m≤9223372036854775807:=by
 unfold uz
 split<;>omega
structure VK(k:Int)(v:aD):Prop where
 there:v.null=RE
 lo: -9223372036854775808≤v.n
 hi:v.n≤9223372036854775807
 s1:k=1→v.s=⟨#[]⟩
 s2:k=2→(v.n=0∨v.n=1)∧v.s=⟨#[]⟩
 s3:k=3→v.n=0∧v.s.size≤32
theorem jR{s:ByteArray}(h:s.toList=[]):s=⟨#[]⟩:=by
 rw[ByteArray.toList_eq s] at h;apply ByteArray.ext;apply Array.ext';simpa using h
theorem Jq{k:Int}{v:aD}(c:k=1∨k=2∨k=3)(b:v.null=RE)(h:D5 v)(a:eU v k=RF):VK k v:=by
 unfold eU at a;rw[b] at a;refine⟨b,h.lo,h.hi,?_,?_,?_⟩
 ·rintro rfl;simp at a;exact jR a
 ·rintro rfl;simp at a;exact⟨a.1,jR a.2⟩
 ·rintro rfl;simp at a;exact⟨a.1,by omega⟩
theorem VK.ok{k:Int}{v:aD}(a:k=1∨k=2∨k=3)(h:VK k v):mN v:=by
 refine⟨h.lo,h.hi,?_⟩;rcases a with rfl|rfl|rfl
 ·rw[h.s1 rfl];decide
 ·rw[(h.s2 rfl).2];decide
 ·exact(h.s3 rfl).2
theorem kY{k:Int}(i:k=1∨k=2∨k=3){B:List Nat}{p:Nat}{x y:aD}(b:VK k x)(c:VK k y)(h1:ag B p (aR k x))(a:ag B p (aR k y)):x=y:=by
 have e:x.n=y.n→x.s=y.s→x=y:=by
  intro f g;have h:=b.there.trans c.there.symm;cases x;cases y;simp at f g h;simp[f,g,h]
 rcases i with rfl|rfl|rfl
 ·have d:∀ v,aR 1 v=aA (zz v.n):=fun v=>rfl;rw[d] at h1 a;have:=bW (Ap _ b.lo b.hi) (Ap _ c.lo c.hi) h1 a;refine e ?_ (by rw[b.s1 rfl,c.s1 rfl]);rw[← GG x.n,this,GG]
 ·have d:∀ v,aR 2 v=[byteOf v.n]:=fun v=>rfl;rw[d,cX] at h1 a;rw[h1] at a;simp at a;refine e ?_ (by rw[(b.s2 rfl).2,(c.s2 rfl).2]);rw[jC (b.s2 rfl).1,jC (c.s2 rfl).1] at a;have:=(b.s2 rfl).1;have:=(c.s2 rfl).1;omega
 ·have d:∀ v,aR 3 v=aA v.s.size ++ bytesOf v.s:=fun v=>rfl;rw[d,ap] at h1 a;have j:=(b.s3 rfl).2;have l:=(c.s3 rfl).2;have:=bW (by omega) (by omega) h1.1 a.1;rw[this] at h1;refine e (by rw[(b.s3 rfl).1,(c.s3 rfl).1]) ?_;exact mi (gK h1.2 a.2 (by rw[ai,ai,this]))
theorem kT(k:Int)(l:List aD)(x:aD):aH k (l ++ [x])=aH k l ++ aR k x:=by
 unfold aH;rw[SU,SO]
theorem uM(a n d:Int)(b: -9223372036854775808≤n)(c:n≤9223372036854775807)(h:SW (n - a)=d):SW (a+d)=n:=by
 unfold SW at*;omega
theorem BJ(a d:Int)(b: -9223372036854775808≤d)(c:d≤9223372036854775807):SW (SW (a+d) - a)=d:=by
 unfold SW;omega
theorem Hl{a:Int}{B:List Nat}{p:Nat}{x y:aD}(b:VK 1 x)(c:VK 1 y)(h1:ag B p (aA (zz (SW (x.n - a)))))(l:ag B p (aA (zz (SW (y.n - a))))):x=y:=by
 have g:=fQ (x.n - a);have h:=fQ (y.n - a);have j:=bW (Ap _ g.1 g.2) (Ap _ h.1 h.2) h1 l;have k:SW (x.n - a)=SW (y.n - a):=by rw[← GG (SW (x.n - a)),j,GG]
 have d:=uM a x.n _ b.lo b.hi rfl;have i:=uM a y.n _ c.lo c.hi rfl;rw[k,i] at d;have e:=b.there.trans c.there.symm;have f:=(b.s1 rfl).trans (c.s1 rfl).symm;cases x;cases y;simp at d e f;simp[d,e,f]
theorem Ia(x:Nat)(a:x<9223372036854775808):bits .xor .i64 (x:Int) 0=(x:Int):=by
 show VQ.wrap (((Uv 64 (x:Int)) ^^^ (Uv 64 0)).toNat:Int)=_;rw[BitVec.ofInt_natCast,show Uv 64 0=0#64 from rfl,BitVec.xor_zero,BitVec.toNat_ofNat,IntKind.wrap_i64];omega
theorem H9(x:Nat)(a:x<9223372036854775808):bits .xor .i64 (x:Int) (-1)= -(x:Int) - 1:=by
 show VQ.wrap (((Uv 64 (x:Int)) ^^^ (Uv 64 (-1))).toNat:Int)=_;rw[BitVec.ofInt_natCast,show Uv 64 (-1)=BitVec.allOnes 64 from by decide +kernel,BitVec.xor_allOnes,BitVec.toNat_not,BitVec.toNat_ofNat,IntKind.wrap_i64];omega
theorem MA(n:Nat)(a:n<18446744073709551616):bits .and .u64 (n:Int) 1=((n % 2:Nat):Int):=by
 have:=bits_mask .u64 64 (by decide) tS 1 (by decide) (n:Int) (by omega) (by omega);rw[show(1:Int)=2 ^ 1 - 1 from by decide,this];omega
theorem Mc(n:Nat)(b:n<18446744073709551616):bits .xor .i64 ((n:Int) / 2) (-((n:Int) % 2))=uz n:=by
 rw[show(n:Int) / 2=((n / 2:Nat):Int) from by omega];unfold uz;by_cases a:n % 2=1
 ·rw[show -((n:Int) % 2)= -1 from by omega,H9 _ (by omega),if_pos a]
 ·rw[show -((n:Int) % 2)=0 from by omega,Ia _ (by omega),if_neg a]
theorem BF(n:Nat)(w:RD)(a:n<18446744073709551616):Sc (aa.of Rz) 161 #[.int .u64 (n:Int)] w fun e w'=>e= .returned (.int .i64 (uz n))∧w'=w:=by
 have c:=MA n a;have d:SW ((n:Int) / 2)=((n / 2:Nat):Int):=by unfold SW;omega
 have b:RJ (n<18446744073709551616):=a;clear a;go_enter aa.func161,Tryz.ntmps161;go_wp2;go_ret;exact⟨by rw[← Mc n b.out];rfl,rfl⟩
theorem Fe(s:ByteArray)(w:RD)(E:s.size≤32):Sc (aa.of Rz) 98 #[.string s] w fun e w'=>e= .returned (.string s)∧RQ w.heap.size w w':=by
 by_cases j:s.size=0
 ·obtain rfl:s=⟨#[]⟩:=ByteArray.ext (Array.eq_empty_of_size_eq_zero j);go_enter aa.func98,Tryz.ntmps98;go_wp2;go_ret;exact⟨rfl,R5 _ _⟩
 ·obtain⟨m,g,x,h,y⟩:=S3 aa.qu;have u:((aa.of Rz).info? 5).map (·.size)=Ry 1:=by rw[g];simp[h]
  have q:(aa.of Rz).cellsOf 5=1:=by simp[Program.cellsOf,g,h]
  obtain⟨a,d⟩:∃ a,a=madeCells (TW .u8 0).cells (((s.size:Nat):Int).toNat*m.size):=⟨_,rfl⟩;have A:a.size=s.size:=by rw[d,size_madeCells,h];simp
  have D:∀ c:RD,(Vd 133 (.int .i64 (s.size:Int)) (.int .i64 (s.size:Int))).run (aa.of Rz) c= .ok (.slice (Ry ⟨c.heap.size,0,RA⟩) s.size s.size) (c.alloc (.cells a 5)):=fun c=>by
   have i:=run_make (P:=(aa.of Rz)) c 133 5 m (.int .u8 0) aa.underlying133 g x .i64 .i64 (s.size:Int) (s.size:Int) (by omega) (by omega) (by rw[y];omega) (by omega);rw[← d] at i;simpa using i
  clear d;have r:=Lib.run_copy_row_string (P:=(aa.of Rz)) (w.alloc (.cells a 5)) 133 9 3 5 w.heap.size 0 s.size s.size s a 5 aa.underlying133 u (TN w _) (RG _) (by omega);obtain⟨b,f⟩:∃ b,b=(a.toList.take 0 ++ Lib.byteCells s.data.toList ++ a.toList.drop (0+s.size)).toArray:=⟨_,rfl⟩;rw[← f] at r;have k:b.toList=Lib.byteCells s.data.toList:=by
   rw[f,List.toList_toArray,List.take_zero,List.nil_append,List.drop_of_length_le (by rw[TL];omega),Ud]
  have B:b.size=s.size:=by rw[← TL,k,Lib.byteCells_length,← Vh]
  have l:((w.alloc (.cells a 5)).setRow w.heap.size b).heap[w.heap.size]? =Ry (.cells b 5 (0,0)):=setRow_heap _ _ a _ 5 (0,0) (TN w _);have t:s.data.toList≠[]:=fun e=>j (by rw[Vh,e];rfl);have n:=Lib.run_unsafeString_row (P:=(aa.of Rz)) ((w.alloc (.cells a 5)).setRow w.heap.size b) 206 3 9 5 aa.underlying206 q w.heap.size b.size (by unfold World.shape?;rw[l]) s.data.toList t (by rw[← Vh];omega) (by rw[← Vh];omega)
   (fun z G v=>Lib.cells_of_row l b.size z _ (by rw[SF (by rw[TL];exact RG _),k];simp[Lib.byteCells,v]))
  rw[← Vh] at n;clear f;go_enter aa.func98,Tryz.ntmps98;go_wp2;go_ret;have o:RQ w.heap.size w (w.alloc (.cells a 5)):=(R5 _ w).alloc (RG _) _;have p:RQ w.heap.size (w.alloc (.cells a 5)) ((w.alloc (.cells a 5)).setRow w.heap.size b):=⟨rfl,rfl,rfl,by simp,fun F C=>setRow_other _ _ _ _ (by omega)⟩;exact⟨rfl,Lib.below_freeze (o.trans p) (p:=⟨w.heap.size,0,RA⟩) (RG _) _⟩
theorem sO(s:ByteArray)(w:RD)(b:s.size≤32):Sc (aa.of Rz) 66 #[.string s] w fun e w'=>e= .returned (.string s)∧RQ w.heap.size w w':=by
 go_enter aa.func66,Tryz.ntmps66
 go_wp2_with fail
 refine(Fe s _ b).mono ?_;rintro e w' ⟨rfl,a⟩;go_wp2;go_ret;exact⟨rfl,a⟩
theorem Be(r p:Nat)(s:ByteArray)(w:RD)(u:s.size≤R3)(P:p≤s.size)(h:w.heap[r]? =Ry (bh s p)):
 Sc (aa.of Rz) 162 #[.pointer (Ry ⟨r,0,RA⟩)] w fun e w'=>Kp r w w'∧((∃ t:ByteArray,e= .returned (.string t)∧t.size≤32∧ag (bytesOf s) p (aA t.size ++ bytesOf t)∧w'.heap[r]? =Ry (bh s (p+(aA t.size ++ bytesOf t).length)))∨
  (∃ q,e= .panicked (dV q)∧∀ t:ByteArray,t.size≤32→¬ ag (bytesOf s) p (aA t.size ++ bytesOf t))):=by
 have S:r<w.heap.size:=RP h;have z:RJ (w.heap[r]? =Ry (bh s p)):=h;clear h;go_enter aa.func162,Tryz.ntmps162
 go_wp2_with fail
 refine(iR r p s _ u P z.out).mono ?_;rintro e j ⟨g,⟨a,rfl,E,G,D,B⟩|⟨q,rfl,F⟩⟩
 ·have c:RJ (Kp r w j):=g;have l:RJ (ag (bytesOf s) p (aA a)):=G;have f:RJ (j.heap[r]? =Ry (bh s (p+(aA a).length))):=B;have y:RJ (a<2147483648):=E;have Q:=g.size;clear g G B E z;by_cases R:32<a
  ·have d:RJ (∀ t:ByteArray,t.size≤32→¬ ag (bytesOf s) p (aA t.size ++ bytesOf t)):=by
    intro t H b;rw[ap] at b;have:=bW (by omega) (by have:=y.out;omega) b.1 l.out;omega
   go_wp2_with (go_at_call 97;refine(bP r _ s _ f.out).mono ?_;rintro e w' ⟨rfl,rfl⟩)
   exact⟨rfl,c.out,.inr ⟨_,rfl,d.out⟩⟩
  ·by_cases C:p+(aA a).length+a≤s.size
   ·have I:(s.extract (p+(aA a).length) (p+(aA a).length+a)).size=a:=by rw[ByteArray.size_extract];omega
    have N:RJ (bytesOf (s.extract (p+(aA a).length) (p+(aA a).length+a))=((bytesOf s).drop (p+(aA a).length)).take a):=by
     show _=_;rw[cQ,show p+(aA a).length+a - (p+(aA a).length)=a by omega]
    have A:RJ (∀ w,w.heap[r]? =Ry (bh s (p+(aA a).length))→Sc (aa.of Rz) 128 #[.pointer (Ry ⟨r,0,RA⟩),.int .i64 (a:Int)] w fun e w'=>e= .returned (.string (s.extract (p+(aA a).length) (p+(aA a).length+a)))∧∃ m,w'=(w.setCell ⟨r,1,RA⟩ (.int .i64 ((p+(aA a).length+a:Nat):Int))).drewN m):=
     fun w i=>DH r _ a s w u C i
    generalize s.extract (p+(aA a).length) (p+(aA a).length+a)=K at*
    go_wp2_with (go_at_call 128;refine(A.out _ f.out).mono ?_;rintro e v ⟨rfl,i⟩;have n:RJ (∃ m,v=(j.setCell ⟨r,1,RA⟩ (.int .i64 ((p+(aA a).length+a:Nat):Int))).drewN m):=i;clear i)
    have k:RJ (v.heap[r]? =Ry (bh s (p+(aA a).length+a))):=by
     obtain⟨m,rfl⟩:=n.out;exact kU f.out m
    have x:RJ (Kp r w v):=by
     obtain⟨m,rfl⟩:=n.out;exact c.out.set 1 _ m
    clear n A f c Q;refine(sO K _ (by omega)).mono ?_;rintro e J ⟨rfl,o⟩;have L:RJ (Kp r w J):=x.out.trans (Kp.bS o);have M:RJ (J.heap[r]? =Ry (bh s (p+(aA a).length+a))):=by
     show _=_;rw[o.block r (RP k.out)];exact k.out
    clear o x k;go_wp2;go_ret;refine⟨L.out,.inl ⟨K,rfl,by omega,?_,?_⟩⟩
    ·rw[ap,I];refine⟨l.out,?_⟩;rw[N.out];exact List.take_prefix _ _
    ·rw[RI,ai,I,← SL];exact M.out
   ·have d:RJ (∀ t:ByteArray,t.size≤32→¬ ag (bytesOf s) p (aA t.size ++ bytesOf t)):=by
     intro t H b;rw[ap] at b;have:=bW (by omega) (by have:=y.out;omega) b.1 l.out;rw[this] at b;have O:=fP b.2 (by rw[ai];exact D);rw[ai,ai] at O;omega
    go_wp2_with (go_at_call 128;refine(Ag r _ a s _ u (by omega) C D f.out).mono ?_;rintro e w' ⟨rfl,m,rfl⟩)
    exact⟨rfl,c.out.drewN m,.inr ⟨_,rfl,d.out⟩⟩
 ·have d:RJ (∀ t:ByteArray,t.size≤32→¬ ag (bytesOf s) p (aA t.size ++ bytesOf t)):=by
   intro t H b;rw[ap] at b;exact F t.size (by omega) b.1
  have c:RJ (Kp r w j):=g;clear F g;go_wp2;exact⟨rfl,c.out,.inr ⟨q,rfl,d.out⟩⟩
theorem pp{w:RD}{g:Nat}{a b c:RB}{t:RO}(h:w.heap[g]? =Ry (.cells #[a,b,c] t (0,0))):
 w.cell? ⟨g,0,RA⟩=Ry a∧w.cell? ⟨g,1,RA⟩=Ry b∧w.cell? ⟨g,2,RA⟩=Ry c∧w.frozen? ⟨g,0,RA⟩=RE∧w.frozen? ⟨g,1,RA⟩=RE∧w.frozen? ⟨g,2,RA⟩=RE:=by
 refine⟨?_,?_,?_,?_,?_,?_⟩<;>first|simp[R2,h]|simp[SH,h]
theorem sG{d:RD}{g:Nat}{a b c:RB}(a' b' f:RB){t:RO}(h:d.heap[g]? =Ry (.cells #[a,b,c] t (0,0)))(r:Nat)(y:r≠g){w:RD}(i:Kp r w d)(z:w.heap.size≤g):
 let e:=((d.setCell ⟨g,0,RA⟩ a').setCell ⟨g,1,RA⟩ b').setCell ⟨g,2,RA⟩ f
 e.cell? ⟨g,0,RA⟩=Ry a'∧e.cell? ⟨g,1,RA⟩=Ry b'∧e.cell? ⟨g,2,RA⟩=Ry f∧e.heap[r]? =d.heap[r]? ∧Kp r w e:=by
 have q:(d.setCell ⟨g,0,RA⟩ a').heap[g]? =Ry (.cells #[a',b,c] t (0,0)):=by rw[RZ d g 0 _ _ _ h];rfl
 have s:((d.setCell ⟨g,0,RA⟩ a').setCell ⟨g,1,RA⟩ b').heap[g]? =Ry (.cells #[a',b',c] t (0,0)):=by rw[RZ _ g 1 _ _ _ q];rfl
 have u:(((d.setCell ⟨g,0,RA⟩ a').setCell ⟨g,1,RA⟩ b').setCell ⟨g,2,RA⟩ f).heap[g]? =Ry (.cells #[a',b',f] t (0,0)):=by rw[RZ _ g 2 _ _ _ s];rfl
 have l:∀ j,j≠g→(((d.setCell ⟨g,0,RA⟩ a').setCell ⟨g,1,RA⟩ b').setCell ⟨g,2,RA⟩ f).heap[j]? =d.heap[j]? :=by
  intro j k;rw[R6 _ _ _ _ (by simpa using k),R6 _ _ _ _ (by simpa using k),R6 _ _ _ _ (by simpa using k)]
 obtain⟨n,o,p,_⟩:=pp u;refine⟨n,o,p,l r y,i.os,i.tape,i.output,?_,?_⟩
 ·simpa using i.size
 ·intro m v x;rw[l m (by omega)];exact T2 i m v x
theorem ji(k:Int)(Y:k=1∨k=2∨k=3)(r p:Nat)(s:ByteArray)(w:RD)(Q:s.size≤R3)(O:p≤s.size)(h:w.heap[r]? =Ry (bh s p)):
 Sc (aa.of Rz) 153 #[.pointer (Ry ⟨r,0,RA⟩),.int .i64 k] w fun e w'=>Kp r w w'∧((∃ v:aD,e= .returned (.agg #[.bool v.null,.int .i64 v.n,.string v.s])∧VK k v∧ag (bytesOf s) p (aR k v)∧p+(aR k v).length≤s.size∧w'.heap[r]? =Ry (bh s (p+(aR k v).length)))∨
  (∃ q,e= .panicked (dV q)∧∀ v:aD,VK k v→¬ ag (bytesOf s) p (aR k v))):=by
 have ab:r<w.heap.size:=RP h;have P:RJ (w.heap[r]? =Ry (bh s p)):=h;have u:RJ ((w.alloc (.cells #[.bool RE,.int .i64 0,.string ⟨#[]⟩] 59)).heap[r]? =Ry (bh s p)):=by
  show _=_;rw[Sr _ _ r ab];exact h
 have g:RJ (Kp r w (w.alloc (.cells #[.bool RE,.int .i64 0,.string ⟨#[]⟩] 59))):=(Kp.refl r w).alloc _;have U:∀ x,ag (bytesOf s) p x→p+x.length≤s.size:=fun x M=>by have:=fP M (by rw[ai];exact O);rwa [ai] at this
 have T:RJ (∀ x,ag (bytesOf s) p x→p+x.length≤s.size):=U;clear h U;rcases Y with rfl|rfl|rfl
 ·go_enter aa.func153,Tryz.ntmps153
  go_wp2_with fail
  refine(Aj r p s _ Q O u.out).mono ?_;rintro e b ⟨a,⟨n,rfl,R,m,j⟩|⟨q,rfl,l⟩⟩
  ·have c:RJ (Kp r w b):=g.out.trans a;have d:b.heap[w.heap.size]? =Ry (.cells #[.bool RE,.int .i64 0,.string ⟨#[]⟩] 59 (0,0)):=Kp.block a (TN w _) (by omega);obtain⟨B,C,D,E,F,G⟩:=pp d;have y:RJ (b.heap[w.heap.size]? =Ry (.cells #[.bool RE,.int .i64 0,.string ⟨#[]⟩] 59 (0,0))):=d;clear d;have A:RJ (b.heap[r]? =Ry (bh s (p+(aA n).length))):=j;have o:RJ (ag (bytesOf s) p (aA n)):=m;have W:RJ (n<18446744073709551616):=R;have X:RJ (∀ w,Sc (aa.of Rz) 161 #[.int .u64 (n:Int)] w fun e w'=>e= .returned (.int .i64 (uz n))∧w'=w):=fun w=>BF n w R;clear R m j a P u g
   go_wp2_with (go_at_call 161;refine(X.out _).mono ?_;rintro e w' ⟨rfl,rfl⟩)
   clear B C D E F G;obtain⟨H,I,J,K,L⟩:=sG (.bool RE) (.int .i64 (uz n)) (.string ⟨#[]⟩) y.out r (by omega) c.out (RG _);simp[TV,SD,Tryz.results153,go_sem,H,I,J];have f:aR 1 ⟨RE,uz n,⟨#[]⟩⟩=aA n:=by show aA (zz (uz n))=_;rw[Qz]
   have V:=Me n W.out;refine⟨L,⟨RE,uz n,⟨#[]⟩⟩,⟨rfl,rfl,rfl⟩,⟨rfl,V.1,V.2,fun _=>rfl,fun h=>by omega,fun h=>by omega⟩,?_,?_,?_⟩
   ·rw[f];exact o.out
   ·rw[f];exact T.out _ o.out
   ·rw[f,K];exact A.out
  ·have z:RJ (∀ v:aD,VK 1 v→¬ ag (bytesOf s) p (aR 1 v)):=fun v t=>l (zz v.n) (Ap _ t.lo t.hi);have c:RJ (Kp r w b):=g.out.trans a;clear l a;go_wp2;exact⟨rfl,c.out,.inr ⟨q,rfl,z.out⟩⟩
 ·go_enter aa.func153,Tryz.ntmps153
  go_wp2_with fail
  refine(Az r p s _ Q O u.out).mono ?_;rintro e b ⟨a,⟨n,rfl,N,m,j,Z⟩|⟨q,rfl,l⟩⟩
  ·have c:RJ (Kp r w b):=g.out.trans a;have d:b.heap[w.heap.size]? =Ry (.cells #[.bool RE,.int .i64 0,.string ⟨#[]⟩] 59 (0,0)):=Kp.block a (TN w _) (by omega);obtain⟨B,C,D,E,F,G⟩:=pp d;have y:RJ (b.heap[w.heap.size]? =Ry (.cells #[.bool RE,.int .i64 0,.string ⟨#[]⟩] 59 (0,0))):=d;clear d;have A:RJ (b.heap[r]? =Ry (bh s (p+1))):=j;have o:RJ (ag (bytesOf s) p [n.toNat]):=m;have S:RJ (n=0∨n=1):=N;clear N m j a P u g;go_wp2;clear B C D E F G;obtain⟨H,I,J,K,L⟩:=sG (.bool RE) (.int .i64 n) (.string ⟨#[]⟩) y.out r (by omega) c.out (RG _);simp[TV,SD,Tryz.results153,go_sem,H,I,J];have f:aR 2 ⟨RE,n,⟨#[]⟩⟩=[n.toNat]:=by show[byteOf n]=_;rw[jC S.out]
   have N:=S.out;refine⟨L,⟨RE,n,⟨#[]⟩⟩,⟨rfl,rfl,rfl⟩,⟨rfl,by show _≤n;omega,by show n≤_;omega,fun h=>by omega,fun _=>⟨N,rfl⟩,fun h=>by omega⟩,?_,?_,?_⟩
   ·rw[f];exact o.out
   ·rw[f];exact Z
   ·rw[f,K];exact A.out
  ·have z:RJ (∀ v:aD,VK 2 v→¬ ag (bytesOf s) p (aR 2 v)):=fun v t M=>l v.n (t.s2 rfl).1 (by rw[← jC (t.s2 rfl).1];exact M);have c:RJ (Kp r w b):=g.out.trans a;clear l a;go_wp2;exact⟨rfl,c.out,.inr ⟨q,rfl,z.out⟩⟩
 ·go_enter aa.func153,Tryz.ntmps153
  go_wp2_with fail
  refine(Be r p s _ Q O u.out).mono ?_;rintro e b ⟨a,⟨i,rfl,ad,m,j⟩|⟨q,rfl,l⟩⟩
  ·have c:RJ (Kp r w b):=g.out.trans a;have d:b.heap[w.heap.size]? =Ry (.cells #[.bool RE,.int .i64 0,.string ⟨#[]⟩] 59 (0,0)):=Kp.block a (TN w _) (by omega);obtain⟨B,C,D,E,F,G⟩:=pp d;have y:RJ (b.heap[w.heap.size]? =Ry (.cells #[.bool RE,.int .i64 0,.string ⟨#[]⟩] 59 (0,0))):=d;clear d;have A:RJ (b.heap[r]? =Ry (bh s (p+(aA i.size ++ bytesOf i).length))):=j;have o:RJ (ag (bytesOf s) p (aA i.size ++ bytesOf i)):=m;clear m j a P u g;go_wp2;clear B C D E F G;obtain⟨H,I,J,K,L⟩:=sG (.bool RE) (.int .i64 0) (.string i) y.out r (by omega) c.out (RG _);simp[TV,SD,Tryz.results153,go_sem,H,I,J];have f:aR 3 ⟨RE,0,i⟩=aA i.size ++ bytesOf i:=rfl;refine⟨L,⟨RE,0,i⟩,⟨rfl,rfl,rfl⟩,⟨rfl,by show _≤(0:Int);omega,by show(0:Int)≤_;omega,fun h=>by omega,fun h=>by omega,fun _=>⟨rfl,ad⟩⟩,?_,?_,?_⟩
   ·rw[f];exact o.out
   ·rw[f];exact T.out _ o.out
   ·rw[f,K];exact A.out
  ·have z:RJ (∀ v:aD,VK 3 v→¬ ag (bytesOf s) p (aR 3 v)):=fun v t M=>l v.s (t.s3 rfl).2 M;have c:RJ (Kp r w b):=g.out.trans a;clear l a;go_wp2;exact⟨rfl,c.out,.inr ⟨q,rfl,z.out⟩⟩
theorem Gk{w:RD}{base g n cap:Nat}{b:List Int}(h:w.ownsRow base 3 1 (.slice (Ry ⟨g,0,RA⟩) n cap) n (aY b))(k:b.length=n)(j:Nat)(i:j<n):w.cell? ⟨g,j,RA⟩=Ry (.int .i64 (b.getD j 0)):=by
 subst k;obtain⟨l,m,q,o,c,d,p,e⟩:=qi.cm h;simp only[T5] at c;obtain⟨a,_,_⟩:=c;have f:=d (by omega);rw[f] at a;simp only[SY,UO] at a;have:=e j i;rw[← a.1,← a.2.1,SA] at this;exact this
theorem rF{a:List Int}(h:0<a.length):a.getLast?= Ry (a.getD (a.length - 1) 0):=by
 rw[List.getLast?_eq_getElem?,VR,RS (by omega)];rfl
theorem C6(a:List Int)(m:Nat)(b:Int):aY (a ++ Ti m b) ++ [.int .i64 b]=aY (a ++ Ti (m+1) b):=by
 rw[gG,R9,List.replicate_succ']
theorem rR(s:ByteArray)(r p cn:Nat)(w:RD)(b3:s.size≤R3)(cu:cn≤100)(c3:p≤s.size)(h:w.heap[r]? =Ry (bh s p)):
 Sc (aa.of Rz) 164 #[.pointer (Ry ⟨r,0,RA⟩),.int .i64 cn] w fun e w'=>Kp r w w'∧
  ((∃ (a:List Int) (v:RB),e= .returned v∧a.length=cn∧kx a∧ag (bytesOf s) p (bF a)∧(∀ L:List Int,L.length=cn→kx L→ag (bytesOf s) p (bF L)→L=a)∧p+(bF a).length≤s.size∧
    w'.heap[r]? =Ry (bh s (p+(bF a).length))∧w'.ownsRow w.heap.size 3 1 v a.length (aY a))∨
   (∃ q,e= .panicked (dV q)∧∀ L:List Int,L.length=cn→kx L→¬ ag (bytesOf s) p (bF L))):=by
 obtain⟨bd,ba,c5,bc,c6⟩:=S3 aa.zH;have bb:r<w.heap.size:=RP h;have bl:RJ (w.heap[r]? =Ry (bh s p)):=h;clear h;go_enter aa.func164,Tryz.ntmps164
 go_wp2_with (at_make;refine TM _ rfl _ _ 22 rfl w.heap.size 3 bd (.int .i64 0) 1 aa.underlying22 ba c5 bc .i64 .i64 _ cn rfl rfl rfl (by rw[c6];omega) (by unfold R3;omega) (RG _) ?_;intro ch cc a9)
 have bi:RJ (Kp r w ch):=(Kp.refl r w).grown a9 (by simp);have bm:RJ (ch.heap[r]? =Ry (bh s p)):=by show _=_;rw[a9.block r bb (by simp)];exact bl.out
 clear bl a9
 go_loopw [5] (fun D wr=>∃ (a:List Int) (c:List Nat),D= .slice (Ry ⟨w.heap.size,0,RA⟩) a.length cn∧GP (bytesOf s) p cn a c∧p+c.length≤s.size∧wr.heap[r]? =Ry (bh s (p+c.length))∧
  wr.ownsRow w.heap.size 3 1 (.slice (Ry ⟨w.heap.size,0,RA⟩) a.length cn) a.length (aY a)∧Kp r w wr) (fun D _=>match D with| .slice _ b _=>cn - b|_=>0)
 case atStart=>exact⟨[],[],rfl,GP.zero _ _ _,by simpa using c3,by simpa using bm.out,cc,bi.out⟩
 case round=>
  clear cc bi bm;obtain⟨a,c,rfl,a7,cd,bx,cb,a6⟩:=hrel;have k:RJ (GP (bytesOf s) p cn a c):=a7;have a0:RJ (wr.heap[r]? =Ry (bh s (p+c.length))):=bx;have M:RJ (Kp r w wr):=a6;have Y:RJ (wr.ownsRow w.heap.size 3 1 (.slice (Ry ⟨w.heap.size,0,RA⟩) a.length cn) a.length (aY a)):=cb;have dq:w.heap.size≤wr.heap.size:=a6.size;have cx:=a7.le;clear a7 bx a6 cb;by_cases l:a.length<cn
  ·go_wp2_with fail
   refine(iR r (p+c.length) s _ b3 cd a0.out).mono ?_;rintro e ae ⟨P,⟨b,rfl,b4,ce,b2,bA⟩|⟨q,rfl,T⟩⟩
   ·have F:RJ (Kp r w ae):=M.out.trans P;have ar:RJ (ae.ownsRow w.heap.size 3 1 (.slice (Ry ⟨w.heap.size,0,RA⟩) a.length cn) a.length (aY a)):=P.own Y.out bb;have Z:RJ (ag (bytesOf s) (p+c.length) (aA b)):=ce;have bo:RJ (ae.heap[r]? =Ry (bh s (p+c.length+(aA b).length))):=bA;have X:RJ (b<2147483648):=b4;clear P ce bA b4 Y M a0
    go_wp2_with fail
    refine(Az r (p+c.length+(aA b).length) s _ b3 b2 bo.out).mono ?_;rintro e al ⟨Q,⟨d,rfl,f,cf,bB,df⟩|⟨q,rfl,T⟩⟩
    ·have j:RJ (Kp r w al):=F.out.trans Q;have G:RJ (al.ownsRow w.heap.size 3 1 (.slice (Ry ⟨w.heap.size,0,RA⟩) a.length cn) a.length (aY a)):=Q.own ar.out bb;have br:RJ (ag (bytesOf s) (p+c.length+(aA b).length) [d.toNat]):=cf;have H:RJ (al.heap[r]? =Ry (bh s (p+c.length+(aA b).length+1))):=bB;have be:RJ (d=0∨d=1):=f;clear Q cf bB F ar bo f;by_cases cs:b=0∨cn - a.length<b
     ·have o:RJ (∀ L:List Int,L.length=cn→kx L→¬ ag (bytesOf s) p (bF L)):=by
       intro L y f B;obtain⟨ad,N,m,a1,a2,ab,i,u,J,a3,a4⟩:=k.out.next l L y f B;have:=bW (by omega) (by have:=X.out;omega) u Z.out;omega
      go_wp2_with (go_at_call 97;refine(bP r _ s _ H.out).mono ?_;rintro e w' ⟨rfl,rfl⟩)
      all_goals exact⟨rfl,j.out,.inr ⟨_,rfl,o.out⟩⟩
     ·have c1:b≠0:=by omega
      have ca:b+a.length≤cn:=by omega
      have dp:((b:Int) == 0)=RE:=by simp;omega
      clear cs;by_cases g:0<a.length∧a.getD (a.length - 1) 0=d
      ·have o:RJ (∀ L:List Int,L.length=cn→kx L→¬ ag (bytesOf s) p (bF L)):=by
        intro L y f B;obtain⟨ad,N,m,a1,a2,ab,i,u,J,a3,a4⟩:=k.out.next l L y f B;have I:=bW (by omega) (by have:=X.out;omega) u Z.out;subst I;have bv:N=d:=by
         have a5:=br.out;rw[cX] at J a5;rw[J] at a5;simp at a5;have:=be.out;omega
        rw[rF g.1,g.2,bv] at i;rcases i with i|i
        ·rw[i] at g;simp at g
        ·exact i rfl
       obtain⟨K,cv⟩:∃ K,a.length=K+1:=⟨a.length - 1,by omega⟩;have b1:=Gk G.out rfl K (by omega);have S:a.getD K 0=d:=by rw[← g.2,cv];rfl
       rw[S] at b1;clear g S;have bu:decide ((cn:Int) - (a.length:Int)<(b:Int))=RE:=by simp;omega
       have I:SW ((cn:Int) - (a.length:Int))=(cn:Int) - (a.length:Int):=by unfold SW;omega
       have bv:SW ((a.length:Int) - 1)=(K:Int):=by unfold SW;omega
       have c9:(K:Int)<(a.length:Int):=by omega
       go_wp2_with (go_at_call 97;refine(bP r _ s _ H.out).mono ?_;rintro e w' ⟨rfl,rfl⟩)
       exact⟨rfl,j.out,.inr ⟨_,rfl,o.out⟩⟩
      ·have ci:RJ (a=[]∨a.getLast? ≠Ry d):=by
        by_cases O:0<a.length
        ·right
         rw[rF O];intro e;simp only[SY] at e;exact g ⟨O,e⟩
        ·left
         exact TQ.1 (by omega)
       have bj:RJ (GP (bytesOf s) p cn (a ++ Ti b d) (c ++ (aA b ++ [d.toNat]))):=k.out.more c1 (by omega) (by have:=X.out;omega) be.out ci.out Z.out br.out cu l;have bu:decide ((cn:Int) - (a.length:Int)<(b:Int))=RE:=by simp;omega
       have I:SW ((cn:Int) - (a.length:Int))=(cn:Int) - (a.length:Int):=by unfold SW;omega
       have dk:b≤100:=by omega
       clear b2;by_cases O:0<a.length
       ·have b1:=Gk G.out rfl (a.length - 1) (by omega);have S:a.getD (a.length - 1) 0≠d:=fun e=>g ⟨O,e⟩;generalize a.getD (a.length - 1) 0=c8 at*;have da:(c8 == d)=RE:=by simp;exact S
        clear g S
        go_wp2_with fail
        go_loopw [5,46] (fun D C E=>∃ m:Nat,m≤b∧C= .int .i64 (m:Int)∧D= .slice (Ry ⟨w.heap.size,0,RA⟩) (a.length+m) cn∧E.heap[r]? =Ry (bh s (p+c.length+(aA b).length+1))∧
         E.ownsRow w.heap.size 3 1 (.slice (Ry ⟨w.heap.size,0,RA⟩) (a.length+m) cn) (a.length+m) (aY (a ++ Ti m d))∧Kp r w E) (fun _ C _=>b - (SC C).toNat)
        case atStart=>exact⟨0,Sk _,rfl,rfl,H.out,by simpa using G.out,j.out⟩
        case round=>
         clear H G j;obtain⟨m,c0,rfl,rfl,R,A,x⟩:=hrel;have t:RJ (wr.heap[r]? =Ry (bh s (p+c.length+(aA b).length+1))):=R;have n:RJ (Kp r w wr):=x;have c4:=x.size;clear R x;by_cases cR:m<b
         ·go_wp2_with (at_builtin;refine Tn _ rfl _ _ 22 rfl w.heap.size 3 bd 1 aa.underlying22 ba bc w.heap.size (a.length+m) cn _ rfl (A.alloc _) ⟨wr.heap.size,0,RA⟩ 1 1 [.int .i64 d] rfl rfl (by exact ga _ _ _) ?c2 (by omega) ?_)
          case c2=>intro c7 V;simp at V;subst V;rfl
          intro W U z;have ao:RJ (Kp r w W):=(n.out.alloc _).grown z (by intro cp a8;simp at a8;omega);have aw:RJ (W.heap[r]? =Ry (bh s (p+c.length+(aA b).length+1))):=by
           show _=_;rw[z.block r (by simp;omega) (by simp;omega),Sr wr _ r (by omega)];exact t.out
          rw[C6] at U;clear A z n t;go_wp2
          go_roundw
          case rel=>exact⟨m+1,by omega,by go_num,by first|rfl|(rw[SL]),aw.out,by rw[← SL];exact U,ao.out⟩
          case measure=>simp[SC];omega
         ·obtain rfl:m=b:=by omega
          go_wp2
          go_roundw
          case rel=>exact⟨a ++ Ti m d,c ++ (aA m ++ [d.toNat]),by simp,bj.out,by simp;omega,by rw[show p+(c ++ (aA m ++ [d.toNat])).length=p+c.length+(aA m).length+1 by simp;omega];exact t.out,by simpa using A,n.out⟩
          case measure=>simp;omega
       ·obtain rfl:a=[]:=TQ.1 (by omega);have dl:b≤cn:=by simpa using ca
        have db:decide (cn<b)=RE:=by simp;omega
        have dc:decide ((cn:Int)<(b:Int))=RE:=by simp;omega
        have dd:0<cn:=by simpa using l
        clear g O bu I ca cx l
        go_wp2_with fail
        go_loopw [5,46] (fun D C E=>∃ m:Nat,m≤b∧C= .int .i64 (m:Int)∧D= .slice (Ry ⟨w.heap.size,0,RA⟩) m cn∧E.heap[r]? =Ry (bh s (p+c.length+(aA b).length+1))∧
         E.ownsRow w.heap.size 3 1 (.slice (Ry ⟨w.heap.size,0,RA⟩) m cn) m (aY (Ti m d))∧Kp r w E) (fun _ C _=>b - (SC C).toNat)
        case atStart=>exact⟨0,Sk _,rfl,rfl,H.out,G.out,j.out⟩
        case round=>
         clear H G j;obtain⟨m,c0,rfl,rfl,R,A,x⟩:=hrel;have t:RJ (wr.heap[r]? =Ry (bh s (p+c.length+(aA b).length+1))):=R;have n:RJ (Kp r w wr):=x;have c4:=x.size;clear R x;by_cases cR:m<b
         ·go_wp2_with (at_builtin;refine Tn _ rfl _ _ 22 rfl w.heap.size 3 bd 1 aa.underlying22 ba bc w.heap.size m cn _ rfl (A.alloc _) ⟨wr.heap.size,0,RA⟩ 1 1 [.int .i64 d] rfl rfl (by exact ga _ _ _) ?c2 (by omega) ?_)
          case c2=>intro c7 V;simp at V;subst V;rfl
          intro W U z;have ao:RJ (Kp r w W):=(n.out.alloc _).grown z (by intro cp a8;simp at a8;omega);have aw:RJ (W.heap[r]? =Ry (bh s (p+c.length+(aA b).length+1))):=by
           show _=_;rw[z.block r (by simp;omega) (by simp;omega),Sr wr _ r (by omega)];exact t.out
          rw[show aY (Ti m d) ++ [.int .i64 d]=aY (Ti (m+1) d) from C6 [] m d] at U;clear A z n t;go_wp2
          go_roundw
          case rel=>exact⟨m+1,by omega,by go_num,rfl,aw.out,U,ao.out⟩
          case measure=>simp[SC];omega
         ·obtain rfl:m=b:=by omega
          go_wp2
          go_roundw
          case rel=>exact⟨Ti m d,c ++ (aA m ++ [d.toNat]),by simp,by simpa using bj.out,by simp;omega,by rw[show p+(c ++ (aA m ++ [d.toNat])).length=p+c.length+(aA m).length+1 by simp;omega];exact t.out,by simpa using A,n.out⟩
          case measure=>simp;omega
    ·have o:RJ (∀ L:List Int,L.length=cn→kx L→¬ ag (bytesOf s) p (bF L)):=by
      intro L y f B;obtain⟨ad,N,m,a1,a2,ab,i,u,J,a3,a4⟩:=k.out.next l L y f B;have I:=bW (by omega) (by have:=X.out;omega) u Z.out;subst I;exact T N ab J
     have j:RJ (Kp r w al):=F.out.trans Q;clear T Q F ar;go_wp2;exact⟨rfl,j.out,.inr ⟨q,rfl,o.out⟩⟩
   ·have o:RJ (∀ L:List Int,L.length=cn→kx L→¬ ag (bytesOf s) p (bF L)):=by
     intro L y f B;obtain⟨ad,N,m,a1,a2,ab,i,u,J,a3,a4⟩:=k.out.next l L y f B;exact T ad (by omega) u
    have F:RJ (Kp r w ae):=M.out.trans P;clear T P M Y;go_wp2;exact⟨rfl,F.out,.inr ⟨q,rfl,o.out⟩⟩
  ·obtain⟨co,bs,bt⟩:=k.out.done l;have am:RJ (bF a=c):=bs;have cl:RJ (∀ L:List Int,L.length=cn→kx L→ag (bytesOf s) p (bF L)→L=a):=bt;have b0:ag (bytesOf s) p c:=k.out.st;have ck:RJ (ag (bytesOf s) p c):=b0;clear bs bt b0;go_wp2;go_ret;exact⟨M.out,.inl ⟨a,_,rfl,co,k.out.bits,by rw[am.out];exact ck.out,cl.out,by rw[am.out];exact cd,by rw[am.out];exact a0.out,Y.out⟩⟩
end Ec
namespace Pk
open Go.RowKit Pm
theorem Mr(a:Nat)(h:a≤16):SW ((2:Int) ^ a)=pw a:=by
 have c:=A6 a;have d:=Gl a h;have b:(2:Int) ^ a=pw a:=by unfold pw;push_cast;rfl
 rw[b];unfold SW;omega
end Pk
end Go.Proofs.YtjidbonhhpkljaaGreat
namespace Go.Proofs.YtjidbonhhpkljaaGreat.Pm
theorem CI(v a b c:Nat)(h:c≤b):v % 2 ^ (a+b) / 2 ^ a % 2 ^ c=v / 2 ^ a % 2 ^ c:=by
 rw[UC,Nat.mod_mul_right_div_self,show b=c+(b - c) by omega,UC,Nat.mod_mul_right_mod]
def dK (v b a i:Nat):Nat:=v % 2 ^ (8*a) / 2 ^ (b*i)
theorem HJ(v b a i q:Nat)(h:8*a=b*i+q):dK v b a i<2 ^ q:=by
 unfold dK;rw[Nat.div_lt_iff_lt_mul (Nat.pow_pos (by omega)),← UC,show q+b*i=8*a by omega];exact Nat.mod_lt _ (Nat.pow_pos (by omega))
theorem Cz(v b a i q:Nat)(h:8*a=b*i+q):dK v b (a+1) i=dK v b a i+2 ^ q*(v / 256 ^ a % 256):=by
 unfold dK;rw[show 8*(a+1)=8*a+8 by omega,UC,Nat.mod_mul,A5,show(2:Nat) ^ 8=256 by rfl]
 conv=>lhs;rw[h,UC,Nat.mul_assoc]
 rw[Nat.add_mul_div_left _ _ (Nat.pow_pos (by omega)),h,UC]
theorem EG(v a b i:Nat)(q:Nat)(h:8*b=a*i+q)(c:a≤q):dK v a b i % 2 ^ a=v / 2 ^ (a*i) % 2 ^ a:=by
 unfold dK;rw[h,CI _ _ _ _ c]
theorem CA(v a b i:Nat):dK v a b i / 2 ^ a=dK v a b (i+1):=by
 unfold dK;rw[Nat.div_div_eq_div_mul,← UC,Nat.mul_succ]
theorem CB(v a:Nat):dK v a 0 0=0:=by simp[dK,Nat.mod_one]
end Go.Proofs.YtjidbonhhpkljaaGreat.Pm
namespace Go.Proofs.YtjidbonhhpkljaaGreat.Pk
open Go.RowKit Go.Proofs.YtjidbonhhpkljaaGreat.Pm
def dB (s:ByteArray)(p:Nat):Nat:=V ((bytesOf s).drop p)
theorem E3(s:ByteArray)(p a:Nat)(h:p+a<s.size):s[p+a].toNat=dB s p / 256 ^ a % 256:=by
 unfold dB;have c:∀ b∈(bytesOf s).drop p,b<256:=fun b d=>iH s b (List.mem_of_mem_drop d);rw[← P5 _ a c,List.getElem?_drop,RS (by rw[ai];exact h),Uu,tW s _ h]
def qV (s:ByteArray)(p a cn:Nat):Prop:=p+(cn*a+7) / 8≤s.size∧dK (dB s p) a ((cn*a+7) / 8) cn=0
theorem JN(b a:Nat)(d:a≤16)(g:b<16777216):bits .and .i64 (b:Int) (SW (pw a - 1))=((b % 2 ^ a:Nat):Int):=by
 have e:=A6 a;have f:=Gl a d;rw[show SW (pw a - 1)=pw a - 1 from by unfold SW;omega];have c:pw a=(2:Int) ^ a:=by unfold pw;push_cast;rfl
 rw[c,bits_mask .i64 62 (by decide) An a (by omega) (b:Int) (by omega) (by omega)]
 push_cast;rfl
theorem Pq(a b:Nat):(a:Int) / 2 ^ b=((a / 2 ^ b:Nat):Int):=by push_cast;rfl
theorem xB(s:ByteArray)(r p a cn:Nat)(w:RD)(P:s.size≤R3)(u:a≤16)(bi:cn≤100)(br:p≤s.size)(h:w.heap[r]? =Ry (bh s p)):
 Sc (aa.of Rz) 177 #[.pointer (Ry ⟨r,0,RA⟩),.int .i64 a,.int .i64 cn] w fun e w'=>Kp r w w'∧
  ((e= .returned (.slice (Ry ⟨w.heap.size,0,RA⟩) cn cn)∧qV s p a cn∧w'.heap[r]? =Ry (bh s (p+(cn*a+7) / 8))∧
    w'.ownsRow w.heap.size 3 1 (.slice (Ry ⟨w.heap.size,0,RA⟩) cn cn) cn (aY (iZ (D a (dB s p) cn))))∨
   (∃ q,e= .panicked (dV q)∧¬ qV s p a cn)):=by
 obtain⟨W,O,a8,V,a9⟩:=S3 aa.zH;have T:r<w.heap.size:=RP h;have bs:=A6 a;have bt:=Gl a u;have bu:=Mr a u;have I:RJ (w.heap[r]? =Ry (bh s p)):=h;clear h;go_enter aa.func177,Tryz.ntmps177
 go_wp2_with (at_make;refine TM _ rfl _ _ 22 rfl w.heap.size 3 W (.int .i64 0) 1 aa.underlying22 O a8 V .i64 .i64 _ cn rfl rfl rfl (by rw[a9];omega) (by unfold R3;omega) (RG _) ?_;intro X R B)
 have L:Kp r w X:=(Kp.refl _ _).grown B (by simp);have J:RJ (X.heap[r]? =Ry (bh s (p+0))):=by show _=_;rw[B.block r T (by simp)];exact I.out
 clear I B
 go_loopw [7,8,9,13] (fun bb h q E wr=>∃ (c b d:Nat),c≤cn∧E= .int .i64 c∧bb= .slice (Ry ⟨w.heap.size,0,RA⟩) c cn∧q= .int .i64 d∧d<8∧8*b=a*c+d∧p+b≤s.size∧
  h= .int .i64 ((dK (dB s p) a b c:Nat):Int)∧wr.heap[r]? =Ry (bh s (p+b))∧
  wr.ownsRow w.heap.size 3 1 (.slice (Ry ⟨w.heap.size,0,RA⟩) c cn) c (aY (iZ (D a (dB s p) c)))∧Kp r w wr) (fun _ _ _ E _=>cn - (SC E).toNat)
 case atStart=>exact⟨0,0,0,Sk _,rfl,rfl,rfl,by omega,by simp,by omega,by rw[CB];rfl,J.out,R,L⟩
 case round=>
  clear R L J;obtain⟨c,b,d,bl,rfl,rfl,rfl,S,j,t,rfl,v,l,f⟩:=hrel;have k:RJ (8*b=a*c+d):=j;have g:RJ (wr.heap[r]? =Ry (bh s (p+b))):=v;clear j v;by_cases a5:c<cn
  ·have bm:a*(c+1)≤16*100:=UW u (by omega);have a0:a*(c+1)≤a*cn:=Uz _ a5
   go_wp2_with fail
   go_loopw [8,9] (fun h q wr=>∃ (b d:Nat),q= .int .i64 d∧d<a+8∧8*b=a*c+d∧p+b≤s.size∧h= .int .i64 ((dK (dB s p) a b c:Nat):Int)∧wr.heap[r]? =Ry (bh s (p+b))∧
    wr.ownsRow w.heap.size 3 1 (.slice (Ry ⟨w.heap.size,0,RA⟩) c cn) c (aY (iZ (D a (dB s p) c)))∧Kp r w wr) (fun _ q _=>a+8 - (SC q).toNat)
   case atStart=>exact⟨b,d,rfl,by omega,k.out,t,rfl,g.out,l,f⟩
   case round=>
    clear l f g k t S;obtain⟨b,d,rfl,S,j,t,rfl,v,l,f⟩:=hrel;have a3:=HJ (dB s p) a b c d j;have H:RJ _:=Cz (dB s p) a b c d j;have G:RJ (a≤d→dK (dB s p) a b c % 2 ^ a=dB s p / 2 ^ (a*c) % 2 ^ a):=EG (dB s p) a b c d j;have F:RJ _:=CA (dB s p) a b c;have k:RJ (8*b=a*c+d):=j;have g:RJ (wr.heap[r]? =Ry (bh s (p+b))):=v;have a2:dK (dB s p) a b c<16777216:=by have i:2 ^ d≤2 ^ 24:=Tu (by omega) (by omega);omega
    clear j v;generalize dK (dB s p) a b c=n at*;by_cases bv:d<a
    ·by_cases C:p+b<s.size
     ·have M:RJ (s[p+b].toNat=dB s p / 256 ^ b % 256):=E3 s p b C;have bx:s[p+b].toNat<256:=s[p+b].toNat_lt;have a6:=K9 n s[p+b].toNat d (by omega) (by omega) a3;rw[show n+2 ^ d*s[p+b].toNat=dK (dB s p) a (b+1) c from by rw[H.out,M.out]] at a6;have Z:RJ (∀ w,w.heap[r]? =Ry (bh s (p+b))→Sc (aa.of Rz) 129 #[.pointer (Ry ⟨r,0,RA⟩)] w fun e w'=>e= .returned (.int .u8 (s[p+b].toNat:Int))∧∃ m,w'=(w.setCell ⟨r,1,RA⟩ (.int .i64 ((p+b+1:Nat):Int))).drewN m):=
       fun w u=>vj r (p+b) s w P C u
      clear M H G F;have ad:RJ (∃ i,i=dK (dB s p) a (b+1) c):=⟨_,rfl⟩;generalize N:dK (dB s p) a (b+1) c=i at*;have ae:RJ (dK (dB s p) a (b+1) c=i):=N;clear N ad;generalize s[p+b].toNat=bA at*
      go_wp2_with (go_at_call 129;refine(Z.out _ g.out).mono ?_;rintro e w' ⟨rfl,m,rfl⟩)
      go_roundw
      case rel=>exact⟨b+1,d+8,by go_num,by omega,by have:=k.out;omega,by omega,by rw[ae.out],kU g.out m,qy (ownsRow_setCell_below l (by exact T) _) m,f.set _ _ m⟩
      case measure=>simp[SC];omega
     ·have am:RJ (¬ qV s p a cn):=by
       rintro⟨ar,_⟩;have i:=k.out;rw[Nat.mul_succ] at a0;rw[Vk cn a] at ar;omega
      go_wp2_with (go_at_call 129;refine(ru r (p+b) s _ P C t g.out).mono ?_;rintro e w' ⟨rfl,m,rfl⟩)
      exact⟨rfl,f.drewN m,.inr ⟨_,rfl,am.out⟩⟩
    ·have K:=JN n a u a2;rw[G.out (by omega)] at K;have a7:=Pq n a;rw[F.out] at a7;have ab:RJ (D a (dB s p) (c+1)=D a (dB s p) c ++ [dB s p / 2 ^ (a*c) % 2 ^ a]):=rfl;generalize dB s p / 2 ^ (a*c) % 2 ^ a=bd at*
     go_wp2_with (at_builtin;refine Tn _ rfl _ _ 22 rfl w.heap.size 3 W 1 aa.underlying22 O V w.heap.size c cn _ rfl (l.alloc _) ⟨wr.heap.size,0,RA⟩ 1 1 [.int .i64 (bd:Int)] rfl rfl ?c1 ?c2 (by omega) ?_)
     case c1=>
      intro ba bc y
      match ba,y with
      |0,y=>simp at y;subst y;simp[VN]
     case c2=>intro bc U;simp at U;subst U;rfl
     ·intro Y Q A;have aw:Kp r w Y:=(f.alloc _).grown A (by intro be a1;simp at a1;omega);have ao:RJ (Y.heap[r]? =Ry (bh s (p+b))):=by
       show _=_;rw[A.block r (by have:=f.size;simp;omega) (by simp;omega),Sr wr _ r (by have:=f.size;omega)];exact g.out
      rw[gG] at Q;clear l A f g K;go_wp2
      go_roundw
      case rel=>exact⟨c+1,b,d - a,by omega,by go_num,rfl,by go_num,by omega,by have:=k.out;rw[Nat.mul_succ];omega,t,rfl,ao.out,by rw[ab.out];simpa [iZ] using Q,aw⟩
      case measure=>simp[SC];omega
  ·have a4:c=cn:=by omega
   subst a4;have o:b=(c*a+7) / 8:=by have:=k.out;rw[Vk a c] at this;omega
   by_cases x:dK (dB s p) a b c=0
   ·have z:RJ (qV s p a c):=⟨by rw[← o];exact t,by rw[← o];exact x⟩;rw[x];have al:RJ (b=(c*a+7) / 8):=o;clear x o;go_wp2;go_ret;exact⟨f,.inl ⟨rfl,z.out,by rw[← al.out];exact g.out,l⟩⟩
   ·have z:RJ (¬ qV s p a c):=by rintro⟨_,i⟩;rw[← o] at i;exact x i
    have bj:0<dK (dB s p) a b c:=by omega
    clear x o;generalize dK (dB s p) a b c=n at*;have bo:((n:Int) != 0)=RF:=by simp;omega
    go_wp2_with (go_at_call 97;refine(bP r (p+b) s _ g.out).mono ?_;rintro e w' ⟨rfl,rfl⟩)
    exact⟨rfl,f,.inr ⟨_,rfl,z.out⟩⟩
end Go.Proofs.YtjidbonhhpkljaaGreat.Pk
namespace Go.Proofs.YtjidbonhhpkljaaGreat
namespace Ec
open Go.RowKit Pk Pm
theorem PX(w:Nat):∀ (a b:List Nat),(∀ x∈a,x<2 ^ w)→(∀ x∈b,x<2 ^ w)→a.length=b.length→N w a=N w b→a=b:=by
 intro a
 induction a with
 |nil=>intro b _ _ c _;exact(TQ.1 (by simpa using c.symm)).symm
 |cons x p o=>
  intro b g h c f;cases b with
  |nil=>simp at c
  |cons j i=>
   simp only[N] at f;have m:=g x (by simp);have n:=h j (by simp);have k:x=j:=by
    have:=congrArg (· % 2 ^ w) f;simpa [Nat.add_mul_mod_self_left,UN m,UN n] using this
   subst k;have l:N w p=N w i:=Nat.eq_of_mul_eq_mul_left (Nat.pow_pos (n:=w) (show 0<2 by omega)) (by omega);rw[o i (fun e d=>g e (by simp[d])) (fun e d=>h e (by simp[d])) (by simpa using c) l]
theorem zY(s:ByteArray)(p a:Nat):V (((bytesOf s).drop p).take a)=dB s p % 2 ^ (8*a):=by
 rw[OD _ _ (fun c b=>iH s c (List.mem_of_mem_drop b)),A5];rfl
theorem zG(v a b cn:Nat):dK v a b cn=0↔v % 2 ^ (8*b)<2 ^ (a*cn):=by
 unfold dK;rw[Nat.div_eq_zero_iff];have:=Nat.pow_pos (n:=a*cn) (show 0<2 by omega);omega
theorem AP(a cn:Nat):a*cn≤8*((cn*a+7) / 8):=by rw[Vk a cn];omega
theorem yW(s:ByteArray)(p a cn:Nat)(g:p≤s.size)(h:qV s p a cn):ag (bytesOf s) p (b7 a (D a (dB s p) cn)):=by
 obtain⟨f,b⟩:=h;rw[zG] at b;have c:(((bytesOf s).drop p).take ((cn*a+7) / 8)).length=(cn*a+7) / 8:=by
  rw[Tb,Ut,ai];omega
 have:=rN a (D a (dB s p) cn) (((bytesOf s).drop p).take ((cn*a+7) / 8)) (by rw[c,og]) (fun e d=>iH s e (List.mem_of_mem_drop (Uc d))) (by
  rw[zY,QA,← Nat.mod_mod_of_dvd (dB s p) (Nat.pow_dvd_pow 2 (AP a cn)),UN b])
 rw[← this];exact List.take_prefix _ _
theorem kS(s:ByteArray)(p a:Nat)(ps:List Nat)(i:p≤s.size)(f:∀ x∈ps,x<2 ^ a)(h:ag (bytesOf s) p (b7 a ps)):qV s p a ps.length∧D a (dB s p) ps.length=ps:=by
 have e:=fP h (by rw[ai];exact i);rw[fp,ai] at e;have d:((bytesOf s).drop p).take ((ps.length*a+7) / 8)=b7 a ps:=by
  obtain⟨j,d⟩:=h;rw[← d,← fp a ps];simp
 have b:=zY s p ((ps.length*a+7) / 8);rw[d] at b;have c:=QM a ps f;have g:V (b7 a ps)=N a ps:=by
  rw[JJ,b7,QA,UN];exact RK c (Tu (by omega) (AP a ps.length))
 rw[g] at b;refine⟨⟨e,?_⟩,?_⟩
 ·rw[zG,← b];exact c
 ·refine PX a _ _ (Ow _ _ _) f (og _ _ _) ?_;rw[QA,← Nat.mod_mod_of_dvd (dB s p) (Nat.pow_dvd_pow 2 (AP a ps.length)),← b,UN c]
def lF:Nat→List Nat→Option Nat
 |s,[]=>Ry s
 |s,a :: b=>if a<s then lF s b else if a=s then lF (s+1) b else RA
theorem nh(s:Nat)(a b:List Nat):lF s (a ++ b)=(lF s a).bind (fun t=>lF t b):=by
 induction a generalizing s with
 |nil=>rfl
 |cons d e c=>
  simp only[TP,lF]
  split
  ·exact c s
  ·split
   ·exact c _
   ·rfl
theorem vV{s t:Nat}{l:List Nat}(h:lF s l=Ry t):s≤t:=by
 induction l generalizing s with
 |nil=>simp[lF] at h;omega
 |cons b c a=>
  simp only[lF] at h
  split at h
  ·exact a h
  ·split at h
   ·have:=a h;omega
   ·cases h
theorem sL{s t:Nat}{l:List Nat}(h:lF s l=Ry t):∀ q∈l,q<t:=by
 induction l generalizing s with
 |nil=>simp
 |cons q e b=>
  intro c a;simp only[lF] at h
  split at h
  ·rename_i d;have:=vV h;rcases Tq.1 a with rfl|a
   ·omega
   ·exact b h c a
  ·split at h
   ·have:=vV h;rcases Tq.1 a with rfl|a
    ·omega
    ·exact b h c a
   ·cases h
theorem yI(l:List Nat)(k:Nat)(a:k<l.length){t:Nat}(h:lF 0 (l.take k)=Ry t):lF 0 (l.take (k+1))=if l[k]<t then Ry t else if l[k]=t then Ry (t+1) else RA:=by
 rw[RR a,nh,h];rfl
theorem sM(l:List Nat)(k:Nat):lF 0 l=(lF 0 (l.take k)).bind (fun t=>lF t (l.drop k)):=by
 rw[← nh,Ul]
theorem rG(d:List aD)(v:aD):idx d v<d.length↔v∈d:=by
 constructor
 ·intro b;rw[← EI d v b];exact RV b
 ·intro b;obtain⟨a,f,rfl⟩:=To b;have:=EJ d d[a] a f;have c:DO d[a] d[a]=RF:=mA.2 rfl;by_cases e:a<idx d d[a]
  ·rw[this e] at c;cases c
  ·omega
theorem sY{d:List aD}(f:d.Nodup){i j:Nat}(b:i<d.length)(c:j<d.length)(h:d[i]=d[j]):i=j:=by
 have e:=List.pairwise_iff_getElem.1 f;rcases Nat.lt_trichotomy i j with a|a|a
 ·exact absurd h (e i j b c a)
 ·exact a
 ·exact absurd h.symm (e j i c b a)
theorem H6(d:List aD)(c:d.Nodup)(j:Nat)(e:j<d.length):idx d d[j]=j:=by
 have a:idx d d[j]<d.length:=(rG d _).2 (RV e);have b:=EI d d[j] a;exact sY c _ _ b
theorem Ex(l:List aD)(v:aD):dfold (l ++ [v])=qs (dfold l) v:=by
 unfold dfold;rw[List.foldl_append];rfl
theorem Kl(d:List aD)(n:d.Nodup)(z:aD)(ps:List Nat):∀ k t,k≤ps.length→lF 0 (ps.take k)=Ry t→t≤d.length→dfold ((ps.take k).map (fun q=>d.getD q z))=(d.take t,ps.take k):=by
 intro k
 induction k with
 |zero=>intro t _ a _;simp[lF] at a;subst a;simp[dfold]
 |succ k s=>
  intro t x a v;have p:k<ps.length:=by omega
  rw[sM (ps.take (k+1)) k,List.take_take,Nat.min_eq_left (by omega)] at a;cases e:lF 0 (ps.take k) with
  |none=>rw[e] at a;cases a
  |some b=>
   rw[e] at a;have u:(ps.take (k+1)).drop k=[ps[k]]:=by
    rw[RR p,List.drop_append_of_le_length (by rw[Tb];omega)];simp
   simp only[U8,u,lF] at a;rw[RR p,SQ,TX,Ex];by_cases m:ps[k]<b
   ·rw[if_pos m] at a;cases a;rw[s t (by omega) e v];have g:ps[k]<d.length:=by omega
    have i:d.getD ps[k] z=d[ps[k]]:=by simp[VR,g]
    have f:idx (d.take t) d[ps[k]]=ps[k]:=by
     have j:ps[k]<(d.take t).length:=by rw[Tb];omega
     have:=H6 (d.take t) (n.sublist (List.take_sublist _ _)) ps[k] j;rwa [Tj] at this
    unfold qs ins;rw[i,f,if_pos (by rw[Tb];omega),f]
   ·rw[if_neg m] at a;by_cases c:ps[k]=b
    ·rw[if_pos c] at a;cases a;rw[s b (by omega) e (by omega)];have g:b<d.length:=by omega
     have i:d.getD ps[k] z=d[b]:=by simp[VR,c,g]
     have j:(d.take b).length=b:=by rw[Tb];omega
     have r:¬ idx (d.take b) d[b]<(d.take b).length:=by
      rw[rG];intro f;obtain⟨y,w,l⟩:=To f;rw[Tj] at l;have:=sY n _ _ l;omega
     have o:ins (d.take b) d[b]=d.take (b+1):=by
      unfold ins;rw[if_neg r,RR g]
     have h:=vr (d.take b) d[b];unfold qs;simp only;rw[i,o];rw[o] at h;rw[h.1,h.2.2 r,j,c]
    ·rw[if_neg c] at a;cases a
theorem tY(l:List aD)(z:aD):(dfold l).1.Nodup∧lF 0 (dfold l).2=Ry (dfold l).1.length∧(dfold l).2.map (fun q=>(dfold l).1.getD q z)=l:=by
 have r:∀ a,a≤l.length→(dfold (l.take a)).1.Nodup∧lF 0 (dfold (l.take a)).2=Ry (dfold (l.take a)).1.length∧(dfold (l.take a)).2.map (fun q=>(dfold (l.take a)).1.getD q z)=l.take a:=by
  intro a
  induction a with
  |zero=>intro _;simp[dfold,lF]
  |succ a p=>
   intro u;obtain⟨h,d,i⟩:=p (by omega);have g:a<l.length:=by omega
   have n:=sL d;rw[dfold_succ l a g];generalize dfold (l.take a)=b at*;have e:=vr b.1 l[a];unfold qs;by_cases c:idx b.1 l[a]<b.1.length
   ·have f:ins b.1 l[a]=b.1:=by unfold ins;rw[if_pos c]
    rw[f];refine⟨h,?_,?_⟩
    ·rw[nh,d];simp[lF,c]
    ·rw[SQ,i,RR g];congr 1;simp[VR,c,EI b.1 l[a] c]
   ·have f:ins b.1 l[a]=b.1 ++ [l[a]]:=by unfold ins;rw[if_neg c]
    rw[f] at e ⊢;rw[e.1,e.2.2 c];refine⟨?_,?_,?_⟩
    ·rw[List.nodup_append];refine⟨h,by simp,?_⟩;intro s m t j k;simp at j;subst j;subst k;exact c ((rG _ _).2 m)
    ·rw[nh,d];simp[lF]
    ·rw[SQ,RR g];congr 1
     ·rw[← i];apply List.map_congr_left;intro q o;have:=n q o;simp[VR,S7 this]
     ·simp
 have:=r l.length (RG _);rwa [SR] at this
theorem Hq{k:Int}(S:k=1∨k=2∨k=3){s:ByteArray}{p cn n:Nat}{d:List aD}{ps:List Nat}(z:aD)(R:cn≤100)(T:n≤cn)(I:d.length=n)(H:∀ x∈d,VK k x)(G:d.Nodup)(u:ps.length=cn)
 (hc:lF 0 ps=Ry n) (y:ag (bytesOf s) p (aA n)) (N:ag (bytesOf s) (p+(aA n).length) (aH k d)) (A:ag (bytesOf s) (p+(aA n).length+(aH k d).length) (b7 (wid n) ps))
 (u2:∀ D:List aD,D.length=n→(∀ x∈D,VK k x)→ag (bytesOf s) (p+(aA n).length) (aH k D)→D=d) (t:p+(aA n).length+(aH k d).length≤s.size):
 (ps.map fun q=>d.getD q z).length=cn∧(∀ x∈ps.map fun q=>d.getD q z,VK k x)∧dQ k (ps.map fun q=>d.getD q z)=aA n ++ (aH k d ++ b7 (wid n) ps)∧ag (bytesOf s) p (dQ k (ps.map fun q=>d.getD q z))∧
   ∀ L:List aD,L.length=cn→(∀ x∈L,VK k x)→ag (bytesOf s) p (dQ k L)→L=ps.map fun q=>d.getD q z:=by
 have J:dfold (ps.map fun q=>d.getD q z)=(d,ps):=by
  have:=Kl d G z ps ps.length n (RG _) (by rw[SR];exact hc) (by omega);rw[SR,SF (by omega:d.length≤n)] at this;exact this
 have o:dQ k (ps.map fun q=>d.getD q z)=aA n ++ (aH k d ++ b7 (wid n) ps):=by
  unfold dQ;rw[J,I]
 refine⟨by simp[u],?_,o,?_,?_⟩
 ·intro x a;obtain⟨q,M,rfl⟩:=S5.1 a;have U:=sL hc q M;have v:q<d.length:=by omega
  simp only[VR,v,RS,Uu];exact H _ (RV v)
 ·rw[o,ap,ap];exact⟨y,N,A⟩
 ·intro L F K b;obtain⟨P,Q,i⟩:=tY L z;obtain⟨C,j,l,m⟩:=rz L L.length (RG _);rw[SR] at C j l m;unfold dQ at b;rw[ap,ap] at b;obtain⟨O,B,f⟩:=b;have g:(dfold L).1.length=n:=bW (by omega) (by omega) O y;rw[g] at B f;have h:(dfold L).1=d:=u2 _ g (fun x a=>K x (m x a)) B;rw[h] at f;have r:∀ (c:List Nat),(∀ x∈c,x<n)→∀ x∈c,x<2 ^ wid n:=fun c E x a=>r8 n (by omega) x (E x a);have e:=(kS s _ (wid n) (dfold L).2 t (r _ (fun x a=>by have:=l x a;omega)) f).2;have w:=(kS s _ (wid n) ps t (r _ (fun x a=>sL hc x a)) A).2;rw[j,F] at e;rw[u] at w;rw[w] at e;rw[h,← e] at i;exact i.symm
def VC (k:Int)(v:aD):Prop:=(v.null=RF∧v.n=0∧v.s=⟨#[]⟩)∨VK k v
theorem Jp{k:Int}{v:aD}(c:k=1∨k=2∨k=3)(h:D5 v)(a:eU v k=RF):VC k v:=by
 cases b:v.null with
 |true=>
  unfold eU at a;rw[b] at a;simp at a;exact .inl ⟨b,a.1,jR a.2⟩
 |false=>exact .inr (Jq c b h a)
theorem DI{k:Int}{l:List aD}(h:∀ x∈l,VC k x):∀ x∈there l,VK k x:=by
 intro x a;unfold there at a;rw[List.mem_filter] at a;rcases h x a.1 with⟨b,_⟩|h
 ·rw[b] at a;simp at a
 ·exact h
theorem Ng{k:Int}:∀ (a b:List aD),(∀ x∈a,VC k x)→(∀ x∈b,VC k x)→a.map mo=b.map mo→there a=there b→a=b:=by
 intro a
 induction a with
 |nil=>intro b _ _ f _;simp at f;exact f.symm
 |cons x y z=>
  intro b t u g s;cases b with
  |nil=>simp at g
  |cons e j=>
   simp only[UP,UB] at g;have w:x.null=e.null:=by
    have:=g.1;unfold mo at this;cases c:x.null<;>cases d:e.null<;>simp[c,d] at this<;>rfl
   have v:=fun f=>z j (fun l i=>t l (by simp[i])) (fun l i=>u l (by simp[i])) g.2 f;cases c:x.null with
   |true=>
    have d:e.null=RF:=by rw[← w];exact c
    have h:there y=there j:=by simpa [there,c,d] using s
    rw[v h];congr 1;rcases t x (by simp) with⟨m,n,o⟩|a
    ·rcases u e (by simp) with⟨p,q,r⟩|b
     ·cases x;cases e;simp at m n o p q r;simp[m,n,o,p,q,r]
     ·rw[b.there] at d;cases d
    ·rw[a.there] at c;cases c
   |false=>
    have d:e.null=RE:=by rw[← w];exact c
    have h:x=e∧there y=there j:=by simpa [there,c,d] using s
    rw[h.1,v h.2]
def j7 (b:List Int):Nat:=(b.filter fun a=>a != 0).length
theorem yf(l:List aD):(there l).length=j7 (l.map mo):=by
 unfold there j7
 induction l with
 |nil=>rfl
 |cons c d b=>
  cases a:c.null with
  |true=>simp[a,mo];simpa [mo] using b
  |false=>simp[a,mo];simpa [mo] using b
theorem wQ(l:List aD):kx (l.map mo):=by
 intro c a;obtain⟨b,_,rfl⟩:=S5.1 a;unfold mo
 split
 ·exact .inl rfl
 ·exact .inr rfl
theorem Ci{k e:Int}{s:ByteArray}{p cn:Nat}{l:List aD}(j:l.length=cn)(g:∀ x∈l,VC k x)
 (h:ag (bytesOf s) p (bF (l.map mo))) (u1:∀ L:List Int,L.length=cn→kx L→ag (bytesOf s) p (bF L)→L=l.map mo)
 (i:ag (bytesOf s) (p+(bF (l.map mo)).length) (cU k e (there l))) (u2:∀ L:List aD,L.length=j7 (l.map mo)→(∀ x∈L,VK k x)→ag (bytesOf s) (p+(bF (l.map mo)).length) (cU k e L)→L=there l):
 ag (bytesOf s) p (aZ k e l)∧∀ L:List aD,L.length=cn→(∀ x∈L,VC k x)→ag (bytesOf s) p (aZ k e L)→L=l:=by
 refine⟨by unfold aZ;rw[ap];exact⟨h,i⟩,?_⟩;intro L f c a;unfold aZ at a;rw[ap] at a;have b:=u1 (L.map mo) (by simpa using f) (wQ L) a.1;rw[b] at a;have d:=u2 (there L) (by rw[yf,b]) (DI c) a.2;exact Ng L l c g b d
theorem eB(l:List aD)(x:aD):aE l ++ [.bool x.null,.int .i64 x.n,.string x.s]=aE (l ++ [x]):=by rw[mK,q8]
theorem qB(k:Int)(J:k=1∨k=2∨k=3)(s:ByteArray)(r p cn:Nat)(w:RD)(aw:s.size≤R3)(a8:cn≤100)(a1:p≤s.size)(h:w.heap[r]? =Ry (bh s p)):
 Sc (aa.of Rz) 173 #[.pointer (Ry ⟨r,0,RA⟩),.int .i64 k,.int .i64 cn] w fun e w'=>Kp r w w'∧
  ((∃ (l:List aD) (v:RB),e= .returned v∧l.length=cn∧(∀ x∈l,VK k x)∧ag (bytesOf s) p (aH k l)∧(∀ L:List aD,L.length=cn→(∀ x∈L,VK k x)→ag (bytesOf s) p (aH k L)→L=l)∧p+(aH k l).length≤s.size∧
    w'.heap[r]? =Ry (bh s (p+(aH k l).length))∧w'.ownsRow w.heap.size 59 3 v l.length (aE l))∨
   (∃ q,e= .panicked (dV q)∧∀ L:List aD,L.length=cn→(∀ x∈L,VK k x)→¬ ag (bytesOf s) p (aH k L))):=by
 obtain⟨U,I,a4,T,a5⟩:=S3 aa.ni;have S:r<w.heap.size:=RP h;have B:RJ (w.heap[r]? =Ry (bh s p)):=h;clear h;go_enter aa.func173,Tryz.ntmps173
 go_wp2_with (at_make;refine TM _ rfl _ _ 43 rfl w.heap.size 59 U _ 3 aa.underlying43 I a4 T .i64 .i64 _ cn rfl rfl rfl (by rw[a5];omega) (by unfold R3;omega) (RG _) ?_;intro V O n)
 have A:RJ (Kp r w V):=(Kp.refl r w).grown n (by simp);have C:RJ (V.heap[r]? =Ry (bh s p)):=by show _=_;rw[n.block r S (by simp)];exact B.out
 clear B n
 go_loopw [7,11] (fun a6 z wr=>∃ l:List aD,z= .int .i64 (l.length:Int)∧a6= .slice (Ry ⟨w.heap.size,0,RA⟩) l.length cn∧vJ (aH k) (VK k) (bytesOf s) p cn l∧p+(aH k l).length≤s.size∧wr.heap[r]? =Ry (bh s (p+(aH k l).length))∧
  wr.ownsRow w.heap.size 59 3 (.slice (Ry ⟨w.heap.size,0,RA⟩) l.length cn) l.length (aE l)∧Kp r w wr) (fun _ z _=>cn - (SC z).toNat)
 case atStart=>exact⟨[],rfl,rfl,vJ.zero rfl,by simpa [aH] using a1,by simpa [aH] using C.out,O,A.out⟩
 case round=>
  clear O A C;obtain⟨l,rfl,rfl,m,R,G,N,j⟩:=hrel;have a:RJ (vJ (aH k) (VK k) (bytesOf s) p cn l):=m;have i:RJ (wr.heap[r]? =Ry (bh s (p+(aH k l).length))):=G;have c:RJ (Kp r w wr):=j;have g:RJ (wr.ownsRow w.heap.size 59 3 (.slice (Ry ⟨w.heap.size,0,RA⟩) l.length cn) l.length (aE l)):=N;have ba:w.heap.size≤wr.heap.size:=j.size;have a9:=m.le;clear m G j N;by_cases t:l.length<cn
  ·go_wp2_with fail
   refine(ji k J r (p+(aH k l).length) s _ aw R i.out).mono ?_;rintro e b ⟨f,⟨x,rfl,y,u,K,H⟩|⟨q,rfl,M⟩⟩
   ·have d:RJ (Kp r w b):=c.out.trans f;have P:b.ownsRow w.heap.size 59 3 (.slice (Ry ⟨w.heap.size,0,RA⟩) l.length cn) l.length (aE l):=f.own g.out S;have ab:RJ (vJ (aH k) (VK k) (bytesOf s) p cn (l ++ [x])):=a.out.more (e:=fun _ v=>aR k v) (kT k) t y u (fun bc a3 a2=>kY J a3 y a2 u);have D:RJ (b.heap[r]? =Ry (bh s (p+(aH k (l ++ [x])).length))):=by
     show _=_;rw[kT,RI,← SL];exact H
    have Z:RJ (p+(aH k (l ++ [x])).length≤s.size):=by
     show _≤_;rw[kT,RI,← SL];exact K
    have bb:=d.out.size;clear f u H K y g c i a
    go_wp2_with (at_builtin;refine Tn _ rfl _ _ 43 rfl w.heap.size 59 U 3 aa.underlying43 I T w.heap.size l.length cn _ rfl (P.alloc _) ⟨b.heap.size,0,RA⟩ 1 1 [.bool x.null,.int .i64 x.n,.string x.s] rfl rfl (by exact iC _ _ _ _ _) (fY x) (by omega) ?_;intro W Q o)
    have Y:RJ (Kp r w W):=(d.out.alloc _).grown o (by intro a7 ar;simp at ar;omega);have ae:RJ (W.heap[r]? =Ry (bh s (p+(aH k (l ++ [x])).length))):=by
     show _=_;rw[o.block r (by simp;omega) (by simp;omega),Sr b _ r (by omega)];exact D.out
    rw[eB] at Q;clear P o d D;go_wp2
    go_roundw
    case rel=>exact⟨l ++ [x],by rw[RI];rfl,by rw[RI];rfl,ab.out,Z.out,ae.out,by rw[RI];exact Q,Y.out⟩
    case measure=>simp[SC];omega
   ·have ad:RJ (∀ L:List aD,L.length=cn→(∀ x∈L,VK k x)→¬ ag (bytesOf s) p (aH k L)):=fun L ao a0=>a.out.fail (e:=fun _ v=>aR k v) (kT k) t M L ao a0;have d:RJ (Kp r w b):=c.out.trans f;clear M f c g;go_wp2;exact⟨rfl,d.out,.inr ⟨q,rfl,ad.out⟩⟩
  ·obtain⟨E,F⟩:=a.out.done t;have am:RJ (∀ L:List aD,L.length=cn→(∀ x∈L,VK k x)→ag (bytesOf s) p (aH k L)→L=l):=F;have al:RJ (ag (bytesOf s) p (aH k l)):=a.out.st;have X:RJ (l.length=cn):=E;clear F E;go_wp2;go_ret;exact⟨c.out,.inl ⟨l,_,rfl,X.out,a.out.O3,al.out,am.out,R,i.out,g.out⟩⟩
def qH (a d:Int):aD:=⟨RE,SW (a+d),⟨#[]⟩⟩
theorem DF(a d:Int):VK 1 (qH a d):=⟨rfl,(fQ _).1,(fQ _).2,fun _=>rfl,fun b=>by omega,fun b=>by omega⟩
theorem Jf(a:Int)(v:aD)(b:VK 1 v):aA (zz (SW ((qH a v.n).n - a)))=aR 1 v:=by
 show aA (zz (SW (SW (a+v.n) - a)))=aA (zz v.n);rw[BJ a v.n b.lo b.hi]
theorem yY(s:ByteArray)(r p cn:Nat)(w:RD)(ba:s.size≤R3)(bm:cn≤100)(bc:p≤s.size)(h:w.heap[r]? =Ry (bh s p)):
 Sc (aa.of Rz) 170 #[.pointer (Ry ⟨r,0,RA⟩),.int .i64 cn] w fun e w'=>Kp r w w'∧
  ((∃ (l:List aD) (v:RB),e= .returned v∧l.length=cn∧(∀ x∈l,VK 1 x)∧ag (bytesOf s) p (bp 0 l)∧(∀ L:List aD,L.length=cn→(∀ x∈L,VK 1 x)→ag (bytesOf s) p (bp 0 L)→L=l)∧p+(bp 0 l).length≤s.size∧
    w'.heap[r]? =Ry (bh s (p+(bp 0 l).length))∧w'.ownsRow w.heap.size 59 3 v l.length (aE l))∨
   (∃ q,e= .panicked (dV q)∧∀ L:List aD,L.length=cn→(∀ x∈L,VK 1 x)→¬ ag (bytesOf s) p (bp 0 L))):=by
 obtain⟨ae,Q,be,ad,bi⟩:=S3 aa.ni;have Y:r<w.heap.size:=RP h;have F:RJ (w.heap[r]? =Ry (bh s p)):=h;have bo:∀ (a6 J a7:RB) (w:RD),(Instr.field 59 (.agg #[a6,J,a7]) 1).run (aa.of Rz) w= .ok J w:=fun _ _ _ _=>by first|rfl|kernel_rfl
 have o:RJ (∀ (l:List aD) (x:aD),bp 0 (l ++ [x])=bp 0 l ++ aA (zz (SW (x.n - ez 0 l)))):=tX 0;clear h;go_enter aa.func170,Tryz.ntmps170
 go_wp2_with (at_make;refine TM _ rfl _ _ 43 rfl w.heap.size 59 ae _ 3 aa.underlying43 Q be ad .i64 .i64 _ cn rfl rfl rfl (by rw[bi];omega) (by unfold R3;omega) (RG _) ?_;intro al U y)
 have E:RJ (Kp r w al):=(Kp.refl r w).grown y (by simp);have G:RJ (al.heap[r]? =Ry (bh s p)):=by show _=_;rw[y.block r Y (by simp)];exact F.out
 clear F y
 go_loopw [5,6,10] (fun bj k D wr=>∃ l:List aD,D= .int .i64 (l.length:Int)∧k= .int .i64 (ez 0 l)∧bj= .slice (Ry ⟨w.heap.size,0,RA⟩) l.length cn∧vJ (bp 0) (VK 1) (bytesOf s) p cn l∧p+(bp 0 l).length≤s.size∧wr.heap[r]? =Ry (bh s (p+(bp 0 l).length))∧
  wr.ownsRow w.heap.size 59 3 (.slice (Ry ⟨w.heap.size,0,RA⟩) l.length cn) l.length (aE l)∧Kp r w wr) (fun _ _ D _=>cn - (SC D).toNat)
 case atStart=>exact⟨[],rfl,rfl,rfl,vJ.zero rfl,by simpa [bp] using bc,by simpa [bp] using G.out,U,E.out⟩
 case round=>
  clear U E G;obtain⟨l,rfl,rfl,rfl,u,X,O,T,t⟩:=hrel;have a:RJ (vJ (bp 0) (VK 1) (bytesOf s) p cn l):=u;have n:RJ (wr.heap[r]? =Ry (bh s (p+(bp 0 l).length))):=O;have c:RJ (Kp r w wr):=t;have i:RJ (wr.ownsRow w.heap.size 59 3 (.slice (Ry ⟨w.heap.size,0,RA⟩) l.length cn) l.length (aE l)):=T;have bs:w.heap.size≤wr.heap.size:=t.size;have br:=u.le;clear u O t T;by_cases A:l.length<cn
  ·go_wp2_with fail
   refine(ji 1 (.inl rfl) r (p+(bp 0 l).length) s _ ba X n.out).mono ?_;rintro e b ⟨f,⟨x,rfl,Z,C,R,P⟩|⟨q,rfl,S⟩⟩
   ·have d:RJ (Kp r w b):=c.out.trans f;have V:b.ownsRow w.heap.size 59 3 (.slice (Ry ⟨w.heap.size,0,RA⟩) l.length cn) l.length (aE l):=f.own i.out Y;have j:=Jf (ez 0 l) x Z;have a1:RJ (vJ (bp 0) (VK 1) (bytesOf s) p cn (l ++ [qH (ez 0 l) x.n])):=
     a.out.more (e:=fun l v=>aA (zz (SW (v.n - ez 0 l)))) o.out A (DF _ _) (by show ag _ _ (aA (zz (SW ((qH (ez 0 l) x.n).n - ez 0 l))));rw[j];exact C) (fun g ab B=>Hl ab (DF _ _) B (by rw[j];exact C))
    have m:RJ ((bp 0 (l ++ [qH (ez 0 l) x.n])).length=(bp 0 l).length+(aR 1 x).length):=by
     show _=_;rw[o.out,RI,j]
    have H:RJ (b.heap[r]? =Ry (bh s (p+(bp 0 (l ++ [qH (ez 0 l) x.n])).length))):=by
     show _=_;rw[m.out,← SL];exact P
    have aw:RJ (p+(bp 0 (l ++ [qH (ez 0 l) x.n])).length≤s.size):=by
     show _≤_;rw[m.out,← SL];exact R
    have a0:RJ (ez 0 (l ++ [qH (ez 0 l) x.n])=SW (ez 0 l+x.n)):=wO _ _ _;have I:RJ (∀ v,v=[Ug RE,.int .i64 (SW (ez 0 l+x.n)),.string ⟨#[]⟩]→aE l ++ v=aE (l ++ [qH (ez 0 l) x.n])):=by
     intro v bd;rw[bd,← eB];rfl
    have bt:=d.out.size;clear f C P R Z i c n a j m;generalize qH (ez 0 l) x.n=g at*;generalize ez 0 l=k at*;generalize x.n=K at*
    go_wp2_with (at_builtin;refine Tn _ rfl _ _ 43 rfl w.heap.size 59 ae 3 aa.underlying43 Q ad w.heap.size l.length cn _ rfl (V.alloc _) ⟨b.heap.size,0,RA⟩ 1 1 [.bool RE,.int .i64 (SW (k+K)),.string ⟨#[]⟩] rfl rfl (by exact iC _ _ _ _ _) (fY ⟨RE,SW (k+K),⟨#[]⟩⟩) (by omega) ?_;intro am W z)
    have ar:RJ (Kp r w am):=(d.out.alloc _).grown z (by intro bl a9;simp at a9;omega);have a3:RJ (am.heap[r]? =Ry (bh s (p+(bp 0 (l ++ [g])).length))):=by
     show _=_;rw[z.block r (by simp;omega) (by simp;omega),Sr b _ r (by omega)];exact H.out
    rw[I.out _ rfl] at W;clear V z d H I;go_wp2
    go_roundw
    case rel=>exact⟨l ++ [g],by rw[RI];rfl,by rw[a0.out],by rw[RI];rfl,a1.out,aw.out,a3.out,by rw[RI];exact W,ar.out⟩
    case measure=>simp[SC];omega
   ·have a2:RJ (∀ L:List aD,L.length=cn→(∀ x∈L,VK 1 x)→¬ ag (bytesOf s) p (bp 0 L)):=fun L a8 bb=>a.out.fail (e:=fun l v=>aA (zz (SW (v.n - ez 0 l)))) o.out A (fun g ab B=>S ⟨RE,SW (g.n - ez 0 l),⟨#[]⟩⟩ ⟨rfl,(fQ _).1,(fQ _).2,fun _=>rfl,fun h=>by omega,fun h=>by omega⟩ B) L a8 bb;have d:RJ (Kp r w b):=c.out.trans f;clear S f c i;go_wp2;exact⟨rfl,d.out,.inr ⟨q,rfl,a2.out⟩⟩
  ·obtain⟨M,N⟩:=a.out.done A;have a5:RJ (∀ L:List aD,L.length=cn→(∀ x∈L,VK 1 x)→ag (bytesOf s) p (bp 0 L)→L=l):=N;have a4:RJ (ag (bytesOf s) p (bp 0 l)):=a.out.st;have ao:RJ (l.length=cn):=M;clear N M;go_wp2;go_ret;exact⟨c.out,.inl ⟨l,_,rfl,ao.out,a.out.O3,a4.out,a5.out,X,n.out,i.out⟩⟩
def yE (z:Int):aD:=⟨RE,z,⟨#[]⟩⟩
theorem BH(f:RB)(a:List Int)(w:RD)(Q:a.length≤100)(H:qi w f a):
 Sc (aa.of Rz) 172 #[f] w fun e w'=>RQ w.heap.size w w'∧∃ v,e= .returned v∧w'.ownsRow w.heap.size 59 3 v a.length (aE (a.map yE)):=by
 obtain⟨u,q,I,t,J⟩:=S3 aa.ni;obtain⟨M,g,l,N,rfl,B,C,n⟩:=H;have y:RJ (∀ k,k<a.length→w.cell? ⟨g,l+k,RA⟩=Ry (.int .i64 (a.getD k 0))):=n;clear n;go_enter aa.func172,Tryz.ntmps172
 go_wp2_with (at_make;refine TM _ rfl _ _ 43 rfl w.heap.size 59 u _ 3 aa.underlying43 q I t .i64 .i64 _ a.length rfl rfl rfl (by rw[J];omega) (by unfold R3;omega) (RG _) ?_;intro K r o)
 have m:RJ (RQ w.heap.size w K):=(R5 _ _).grown o (RG _) (by simp);clear o
 go_loopw [3,11] (fun f j wr=>∃ b:Nat,b≤a.length∧j= .int .i64 (b:Int)∧f= .slice (Ry ⟨w.heap.size,0,RA⟩) b a.length∧wr.ownsRow w.heap.size 59 3 (.slice (Ry ⟨w.heap.size,0,RA⟩) b a.length) b (aE ((a.take b).map yE))∧RQ w.heap.size w wr) (fun _ j _=>a.length - (SC j).toNat)
 case atStart=>exact⟨0,Sk _,rfl,rfl,by simpa [aE] using r,m.out⟩
 case round=>
  clear r m;obtain⟨b,P,rfl,rfl,d,h⟩:=hrel;have c:RJ (RQ w.heap.size w wr):=h;have G:=h.size;clear h;by_cases i:b<a.length
  ·obtain rfl:=B (by omega);have D:=C (by omega);have E:wr.cell? ⟨g,l+b,RA⟩=Ry (.int .i64 (a.getD b 0)):=(c.out.cell (p:=⟨g,l+b,RA⟩) D).trans (y.out b i);have A:RJ (aE ((a.take b).map yE) ++ [.bool RE,.int .i64 (a.getD b 0),.string ⟨#[]⟩]=aE ((a.take (b+1)).map yE)):=by
    show _=_;rw[RR i,SQ,TX,← eB,eE i];rfl
   generalize a.getD b 0=x at*
   go_wp2_with (at_builtin;refine Tn _ rfl _ _ 43 rfl w.heap.size 59 u 3 aa.underlying43 q t w.heap.size b a.length _ rfl (d.alloc _) ⟨wr.heap.size,0,RA⟩ 1 1 [.bool RE,.int .i64 x,.string ⟨#[]⟩] rfl rfl (by exact iC _ _ _ _ _) (fY ⟨RE,x,⟨#[]⟩⟩) (by omega) ?_;intro L s p)
   have z:RJ (RQ w.heap.size w L):=(c.out.alloc G _).grown p (by simp;omega) (by intro O F;simp at F;omega);rw[A.out] at s;clear d p c E;go_wp2
   go_roundw
   case rel=>exact⟨b+1,by omega,by go_num,rfl,s,z.out⟩
   case measure=>simp[SC];omega
  ·obtain rfl:b=a.length:=by omega
   rw[SR] at d;go_wp2;go_ret;exact⟨c.out,_,rfl,d⟩
theorem Gi(a:List Int):j7 a≤a.length:=List.length_filter_le _ _
theorem pG(a:List Int)(d:kx a)(k:Nat)(b:k<a.length):((j7 (a.take (k+1)):Nat):Int)=(j7 (a.take k):Nat)+a.getD k 0:=by
 rw[RR b,eE b];unfold j7;rw[List.filter_append,RI];rcases d _ (RV b) with c|c<;>simp[c]
theorem yM(l:RB)(b:List Int)(w:RD)(D:b.length≤100)(h:kx b)(t:qi w l b):
 Sc (aa.of Rz) 166 #[l] w fun e w'=>e= .returned (.int .i64 ((j7 b:Nat):Int))∧w'=w:=by
 obtain⟨x,p,u,y,rfl,r,z,g⟩:=t;have m:RJ (∀ d,d<b.length→w.cell? ⟨p,u+d,RA⟩=Ry (.int .i64 (b.getD d 0))):=g;have n:RJ (∀ a,a<b.length→((j7 (b.take (a+1)):Nat):Int)=(j7 (b.take a):Nat)+b.getD a 0):=fun a i=>pG b h a i;have f:RJ (∀ a,j7 (b.take a)≤a):=fun a=>by have:=Gi (b.take a);rw[Tb] at this;omega
 clear g h;go_enter aa.func166,Tryz.ntmps166
 go_wp2_with fail
 go_loopw [3,8] (fun q c wr=>∃ a:Nat,a≤b.length∧c= .int .i64 (a:Int)∧q= .int .i64 ((j7 (b.take a):Nat):Int)∧wr=w) (fun _ c _=>b.length - (SC c).toNat)
 case atStart=>exact⟨0,Sk _,rfl,by simp[j7],rfl⟩
 case round=>
  obtain⟨a,i,rfl,rfl,rfl⟩:=hrel;by_cases j:a<b.length
  ·obtain rfl:=r (by omega);have A:=m.out a j;have s:=n.out a j;have B:=f.out a;have C:=f.out (a+1);generalize b.getD a 0=F at*;generalize j7 (b.take a)=E at*;generalize k:j7 (b.take (a+1))=v at*;have o:RJ (j7 (b.take (a+1))=v):=k;clear k;go_wp2
   go_roundw
   case rel=>exact⟨a+1,by omega,by go_num,by rw[o.out,s],by trivial⟩
   case measure=>simp[SC];omega
  ·obtain rfl:a=b.length:=by omega
   rw[SR];go_wp2;go_ret;exact⟨rfl,rfl⟩
def bJ (c:List (List aD))(a:Nat):List aD:=c.map fun b=>b.getD a ⟨RE,0,⟨#[]⟩⟩
theorem AJ(a:List (List aD))(c:Nat)(z:RB)(w:RD)(X:a.length≤100)(u:∀ r∈a,c<r.length∧r.length≤R3)(I:Av w z a):
 Sc (aa.of Rz) 86 #[z,.int .i64 (c:Int)] w fun e w'=>RQ w.heap.size w w'∧∃ v,e= .returned v∧w'.ownsRow w.heap.size 59 3 v a.length (aE (bJ a c)):=by
 obtain⟨y,q,L,x,M⟩:=S3 aa.ni;obtain⟨E,F,O,R,rfl,T,d⟩:=I;have C:RJ (Au w E F O a):=d;have B:RJ (∀ r∈a,c<r.length∧r.length≤R3):=u;clear d u;go_enter aa.func86,Tryz.ntmps86
 go_wp2_with (at_make;refine TM _ rfl _ _ 43 rfl w.heap.size 59 y _ 3 aa.underlying43 q L x .i64 .i64 _ a.length rfl rfl rfl (by rw[M];omega) (by unfold R3;omega) (RG _) ?_;intro P s o)
 have n:RJ (RQ w.heap.size w P):=(R5 _ _).grown o (RG _) (by simp);clear o
 go_loopw [5,13] (fun N m wr=>∃ b:Nat,b≤a.length∧m= .int .i64 (b:Int)∧N= .slice (Ry ⟨w.heap.size,0,RA⟩) b a.length∧wr.ownsRow w.heap.size 59 3 (.slice (Ry ⟨w.heap.size,0,RA⟩) b a.length) b (aE (bJ (a.take b) c))∧RQ w.heap.size w wr) (fun _ m _=>a.length - (SC m).toNat)
 case atStart=>exact⟨0,Sk _,rfl,rfl,by simpa [aE,bJ] using s,n.out⟩
 case round=>
  clear s n;obtain⟨b,V,rfl,rfl,h,f⟩:=hrel;have k:RJ (RQ w.heap.size w wr):=f;have J:=f.size;by_cases l:b<a.length
  ·have d:=C.out.below f;obtain rfl:=d.addr (by omega);obtain⟨v,U,K⟩:=d.c b l;obtain⟨i,H⟩:=B.out a[b] (RV l);obtain⟨am,ae,ao,al,rfl,g⟩:=K;obtain rfl:=g.addr (by omega);have Z:=g.c0 c i;have ab:=g.c1 c i;have ad:=g.c2 c i;have D:RJ (aE (bJ (a.take b) c) ++ [.bool a[b][c].null,.int .i64 a[b][c].n,.string a[b][c].s]=aE (bJ (a.take (b+1)) c)):=by
    show _=_;rw[eB,RR l];unfold bJ;rw[SQ,TX,RX,RS i];rfl
   have W:(c:Int)<(a[b].length:Int):=by omega
   unfold R3 at H;clear d g f;generalize a[b][c]=j at*;generalize a[b].length=Y at*
   go_wp2_with (at_builtin;refine Tn _ rfl _ _ 43 rfl w.heap.size 59 y 3 aa.underlying43 q x w.heap.size b a.length _ rfl (h.alloc _) ⟨wr.heap.size,0,RA⟩ 1 1 [.bool j.null,.int .i64 j.n,.string j.s] rfl rfl (by exact iC _ _ _ _ _) (fY j) (by omega) ?_;intro Q t p)
   have A:RJ (RQ w.heap.size w Q):=(k.out.alloc J _).grown p (by simp;omega) (by intro S G;simp at G;omega);rw[D.out] at t;clear h p k;go_wp2
   go_roundw
   case rel=>exact⟨b+1,by omega,by go_num,rfl,t,A.out⟩
   case measure=>simp[SC];omega
  ·obtain rfl:b=a.length:=by omega
   rw[SR] at h;clear f;go_wp2;go_ret;exact⟨k.out,_,rfl,h⟩
end Ec
namespace Ec
open Go.RowKit Pk
def kB (l:List bO)(es:List Int):Prop:=l.length=es.length∧∀ a,(b:a<l.length)→bf l[a].kind (es.getD a 0)=RF
theorem mQ(l:List bO)(es:List Int)(B D:RB)(w:RD)(Z:l.length≤R3)(ab:es.length≤R3)(U:yy w B l)(W:qi w D es):
 Sc (aa.of Rz) 57 #[D,B] w fun e w'=>∃ bb,e= .returned (.bool bb)∧(bb=RF↔kB l es)∧RQ w.heap.size w w':=by
 obtain⟨Q,R,ad,ao,rfl,a1,f⟩:=U;obtain⟨T,g,j,ar,rfl,s,v,k⟩:=W;unfold R3 at Z ab;by_cases o:l.length=es.length
 ·have F:((es.length:Int) != (l.length:Int))=RE:=by simp[o]
  have z:RJ (l.length=es.length):=o;have A:RJ (qI w Q R ad l):=f;have I:RJ (0<es.length→T=Ry ⟨g,j,RA⟩):=s;have K:RJ (0<es.length→g<w.heap.size):=v;have J:RJ (∀ a,a<es.length→w.cell? ⟨g,j+a,RA⟩=Ry (.int .i64 (es.getD a 0))):=k;clear f o s v k;go_enter aa.func57,Tryz.ntmps57
  go_wp2_with fail
  clear F
  go_loopw [14] (fun b wr=>∃ a:Nat,a≤l.length∧b= .int .i64 a∧(∀ b,(c:b<l.length)→b<a→bf l[b].kind (es.getD b 0)=RF)∧RQ w.heap.size w wr) (fun b _=>l.length - (SC b).toNat)
  case atStart=>exact⟨0,Sk _,rfl,fun a7 _ c=>by omega,R5 _ _⟩
  case round=>
   obtain⟨a,a2,rfl,E,i⟩:=hrel;have m:RJ (∀ b,(c:b<l.length)→b<a→bf l[b].kind (es.getD b 0)=RF):=E;have x:RJ (RQ w.heap.size w wr):=i;have H:=i.size;clear E;by_cases p:a<l.length
   ·have f:=A.out.below i;obtain rfl:=f.addr (by omega);have Y:a<es.length:=by rw[← z.out];exact p
    obtain rfl:=I.out (by omega);have u:=K.out (by omega);have ae:=f.c0 a p;have al:=f.c1 a p;have G:wr.cell? ⟨g,j+a,RA⟩=Ry (.int .i64 (es.getD a 0)):=(i.cell (p:=⟨g,j+a,RA⟩) u).trans (J.out a Y);have V:g<wr.heap.size:=RK u H;have q:RJ (bf l[a].kind (es.getD a 0)=RE→¬ kB l es):=fun c k=>by
     have:=k.2 a p;rw[c] at this;cases this
    have r:RJ (bf l[a].kind (es.getD a 0)=RF→∀ b,(c:b<l.length)→b<a+1→bf l[b].kind (es.getD b 0)=RF):=fun c b X a0=>by
     by_cases S:b=a
     ·subst S;exact c
     ·exact m.out b X (by omega)
    clear f i m A u;generalize l[a]=d at*;generalize es.getD a 0=C at*
    go_upto_region 6 with fail
    obtain⟨a4,a5⟩:=m7 wr (.string d.name) (.int .i64 d.kind) 63;have t:RQ wr.heap.size wr (wr.alloc (.cells #[.string d.name,.int .i64 d.kind] 63)):=(R5 _ _).alloc (RG _) _;have a6:=(t.cell (p:=⟨g,j+a,RA⟩) V).trans G;have y:RJ (RQ w.heap.size w (wr.alloc (.cells #[.string d.name,.int .i64 d.kind] 63))):=x.out.trans (t.mono H);clear t G ae al;generalize wr.alloc (.cells #[.string d.name,.int .i64 d.kind] 63)=am at*;generalize wr.heap.size=aw at*;have n:=fun P=>n8 d.kind C P;have a3:(a:Int)<(es.length:Int):=by omega
    cases h:bf d.kind C
    ·have N:RJ (¬ kB l es):=q.out h;rw[h] at n;clear q r h
     go_quiet ((go_at_call 83;exact Calls.quiet_of_same (n _)))
     go_wp2;go_ret;exact .inl ⟨rfl,N.out,below_drewN y.out _⟩
    ·have O:RJ (∀ b,(c:b<l.length)→b<a+1→bf l[b].kind (es.getD b 0)=RF):=r.out h;rw[h] at n;clear q r h
     go_quiet ((go_at_call 83;exact Calls.quiet_of_same (n _)))
     go_wp2
     go_roundw
     case rel=>exact⟨a+1,by omega,by go_num,O.out,below_drewN y.out _⟩
     case measure=>simp[SC];omega
   ·have M:RJ (kB l es):=⟨z.out,fun b c=>m.out b c (by omega)⟩;clear m i;go_wp2;go_ret;exact⟨RF,rfl,by simp only[true_iff];exact M.out,x.out⟩
 ·have F:((es.length:Int) != (l.length:Int))=RF:=by simp;omega
  have L:RJ (¬ kB l es):=fun c=>o c.1;clear f s v k;go_enter aa.func57,Tryz.ntmps57;go_wp2
  all_goals go_ret
  all_goals exact⟨RE,rfl,by simp only[Sa,false_iff];exact L.out,R5 _ _⟩
def kF (a:Int)(es:List Int)(cs:List bO):Prop:=1≤a∧a≤100∧kB cs es
theorem DJ(w:RD)(a b c:RB)(t:RO):(w.alloc (.cells #[a,b,c] t)).cell? ⟨w.heap.size,0,RA⟩=Ry a∧(w.alloc (.cells #[a,b,c] t)).cell? ⟨w.heap.size,1,RA⟩=Ry b∧(w.alloc (.cells #[a,b,c] t)).cell? ⟨w.heap.size,2,RA⟩=Ry c:=by
 refine⟨?_,?_,?_⟩<;>simp
theorem qi.lower{w w':RD}{v:RB}{f:List Int}(h:qi w v f)(c:RQ w.heap.size w w'):qi w' v f:=by
 obtain⟨g,a,e,i,rfl,k,b,l⟩:=h;exact⟨g,a,e,i,rfl,k,fun j=>RK (b j) c.size,fun d m=>(c.cell (p:=⟨a,e+d,RA⟩) (b (by omega))).trans (l d m)⟩
theorem vO(b:Int)(es:List Int)(y:Bool)(cs:List bO)(s u:RB)(w:RD)(v:cs.length≤R3)(x:es.length≤R3)(q:yy w s cs)(r:qi w u es):
 Sc (aa.of Rz) 41 #[.agg #[.int .i64 b,u,.bool y],s] w fun e w'=>∃ bb,e= .returned (.bool bb)∧(bb=RF↔kF b es cs)∧RQ w.heap.size w w':=by
 have B:=r;have A:=q;obtain⟨l,D,H,m,rfl,G,-⟩:=A;obtain⟨o,E,F,n,rfl,-,-,-⟩:=B;have f:RJ (∀ a,RQ w.heap.size w (w.alloc a)):=fun a=>(R5 _ _).alloc (RG _) _;have d:RJ (∀ a,Sc (aa.of Rz) 57 #[.slice o es.length n,.slice l cs.length m] (w.alloc a) fun e w'=>∃ bb,e= .returned (.bool bb)∧(bb=RF↔kB cs es)∧RQ (w.alloc a).heap.size (w.alloc a) w'):=fun a=>mQ cs es _ _ _ v x (q.below (f.out a)) (r.lower (f.out a));clear q r v x;by_cases g:1≤b
 ·by_cases j:b≤100
  ·have t:decide (1≤b)=RF:=by simp;omega
   have z:decide (b≤100)=RF:=by simp;omega
   by_cases h:kB cs es
   ·have c:RJ (kF b es cs):=⟨g,j,h⟩;have k:RJ (∀ a,Sc (aa.of Rz) 57 #[.slice o es.length n,.slice l cs.length m] (w.alloc a) fun e w'=>e= .returned (.bool RF)∧RQ (w.alloc a).heap.size (w.alloc a) w'):=fun a=>oE (d.out a) h;clear d h g j;go_enter aa.func41,Tryz.ntmps41
    go_wp2_with (go_at_call 57;refine(k.out _).mono ?_;rintro e C ⟨rfl,p⟩)
    go_ret;exact⟨RF,rfl,by simp only[true_iff];exact c.out,(f.out _).trans (p.mono (by simp))⟩
   ·have c:RJ (¬ kF b es cs):=fun i=>h i.2.2;have k:RJ (∀ a,Sc (aa.of Rz) 57 #[.slice o es.length n,.slice l cs.length m] (w.alloc a) fun e w'=>e= .returned (.bool RE)∧RQ (w.alloc a).heap.size (w.alloc a) w'):=fun a=>mU (d.out a) h;clear d h g j;go_enter aa.func41,Tryz.ntmps41
    go_wp2_with (go_at_call 57;refine(k.out _).mono ?_;rintro e C ⟨rfl,p⟩)
    go_ret;exact⟨RE,rfl,by simp only[Sa,false_iff];exact c.out,(f.out _).trans (p.mono (by simp))⟩
  ·have t:decide (1≤b)=RF:=by simp;omega
   have z:decide (b≤100)=RE:=by simp;omega
   have c:RJ (¬ kF b es cs):=fun i=>j i.2.1;clear d g j;go_enter aa.func41,Tryz.ntmps41;go_wp2
   all_goals go_ret
   all_goals exact⟨RE,rfl,by simp only[Sa,false_iff];exact c.out,f.out _⟩
 ·have t:decide (1≤b)=RE:=by simp;omega
  have c:RJ (¬ kF b es cs):=fun i=>g i.1;clear d g;go_enter aa.func41,Tryz.ntmps41;go_wp2
  all_goals go_ret
  all_goals exact⟨RE,rfl,by simp only[Sa,false_iff];exact c.out,f.out _⟩
end Ec
namespace Ec
open Go.RowKit Pk Pm
structure ju where
 text:ByteArray
 dU:kL
structure Bd where
 rows:Nat
 chunks:List ju
theorem kQ{α:Type}(f:α→List RB)(s:Nat)(b:∀ x,(f x).length=s)(l:List α):∀ j (h:j<l.length) i u,(f l[j])[i]? =Ry u→(l.flatMap f)[j*s+i]? =Ry u:=by
 induction l with
 |nil=>intro j h;simp at h
 |cons x e c=>
  intro j h i u a;rw[Ui];cases j with
  |zero=>
   have d:i<(f x).length:=by
    simp only[List.getElem_cons_zero] at a;exact(R8.1 a).1
   rw[S7 (by omega)];simpa using a
  |succ j=>
   have:=c j (by simpa using h) i u (by simpa using a);rw[SX (by rw[b,Nat.succ_mul];omega),b,show(j+1)*s+i - s=j*s+i by rw[Nat.succ_mul];omega];exact this
structure Ar{α:Type}(w:RD)(f:α→List RB)(s:Nat)(ao:Option Sl)(b off:Nat)(l:List α):Prop where
 addr:0<l.length→ao=Ry ⟨b,off,RA⟩
 lt:0<l.length→b<w.heap.size
 c:∀ j (h:j<l.length) i u,(f l[j])[i]? =Ry u→w.cell? ⟨b,off+j*s+i,RA⟩=Ry u
theorem Ar.below{α:Type}{w w':RD}{f:α→List RB}{s:Nat}{a:Option Sl}{b off:Nat}{l:List α}(h:Ar w f s a b off l)(c:RQ w.heap.size w w'):Ar w' f s a b off l:=
 ⟨h.addr,fun g=>RK (h.lt g) c.size,fun e i d k j=>(c.cell (p:=⟨b,off+e*s+d,RA⟩) (h.lt (by omega))).trans (h.c e i d k j)⟩
def Ox {α:Type}(w:RD)(f:α→List RB)(s:Nat)(v:RB)(l:List α):Prop:=∃ a b d c,v= .slice a l.length c∧Ar w f s a b d l
theorem Ox.cm{α:Type}{w:RD}{f:α→List RB}{s base:Nat}{e:RO}{v:RB}{l:List α}(i:∀ x,(f x).length=s)(h:w.ownsRow base e s v l.length (l.flatMap f)):Ox w f s v l:=by
 rcases h.2 with⟨rfl,d⟩|⟨a,c,o,rfl,p,t,u,q,r,y⟩
 ·have:l=[]:=Ta d;subst this;exact⟨RA,0,0,0,rfl,⟨fun h=>by simp at h,fun h=>by simp at h,fun b h=>by simp at h⟩⟩
 ·have g:=h.cells (g:=a) rfl;refine⟨Ry ⟨a,0,RA⟩,a,0,c,rfl,⟨fun _=>rfl,fun _=>(h.lt a rfl).2,?_⟩⟩;intro b j m n k;have:=g _ _ (kQ f s i l b j m n k);simpa [TC] using this
def cH (c:ju):List RB:=[.string c.text,.bool c.dU.there,.bool c.dU.least.null,.int .i64 c.dU.least.n,.string c.dU.least.s,.bool c.dU.most.null,.int .i64 c.dU.most.n,.string c.dU.most.s]
def dx (l:List ju):List RB:=l.flatMap cH
theorem sX(c:ju):(cH c).length=8:=rfl
def kN (p:Bd×RB):List RB:=[.int .i64 (p.1.rows:Int),p.2]
def mE (l:List (Bd×RB)):List RB:=l.flatMap kN
theorem pu(p:Bd×RB):(kN p).length=2:=rfl
structure ij(w:RD)(base:Nat)(v:RB)(L:List (Bd×RB)):Prop where
 own:w.ownsRow base 139 2 v L.length (mE L)
 each:∀ p∈L,w.ownsRow base 143 8 p.2 p.1.chunks.length (dx p.1.chunks)
def Cf (a:List (List aD))(cs:List bO)(es:List Int)(b:Bool)(p:Nat):ju:=
 ⟨(gZ (bJ a p) (cs.getD p ⟨⟨#[]⟩,0⟩).kind (es.getD p 0)).1,if b then bQ (bJ a p) else bZ⟩
def cE (b:List (List aD))(cs:List bO)(es:List Int)(a:Bool)(n:Nat):List ju:=(Sw n).map (Cf b cs es a)
theorem El(b:List (List aD))(cs:List bO)(es:List Int)(a:Bool)(n:Nat):cE b cs es a (n+1)=cE b cs es a n ++ [Cf b cs es a n]:=by
 unfold cE;rw[Vf,SQ,TX]
theorem dn(b:List (List aD))(cs:List bO)(es:List Int)(a:Bool)(n:Nat):(cE b cs es a n).length=n:=by simp[cE]
def mg (a:List (List aD))(cs:List bO)(es:List Int)(b:Bool):Bd:=⟨a.length,cE a cs es b cs.length⟩
def dI (b:List (List aD))(a j:Nat):List (List aD):=(b.drop (j*a)).take a
def dh (d:List (List aD))(cs:List bO)(es:List Int)(b:Bool)(a n:Nat):List Bd:=(Sw n).map fun c=>mg (dI d a c) cs es b
theorem B3(c:List (List aD))(cs:List bO)(es:List Int)(b:Bool)(a n:Nat):dh c cs es b a (n+1)=dh c cs es b a n ++ [mg (dI c a n) cs es b]:=by
 unfold dh;rw[Vf,SQ,TX]
theorem mD(c:List (List aD))(cs:List bO)(es:List Int)(b:Bool)(a n:Nat):(dh c cs es b a n).length=n:=by simp[dh]
def eY (len a:Nat):Nat:=(len+a - 1) / a
theorem oz{len a:Nat}(h:0<a)(k:Nat):k*a<len↔k<eY len a:=by
 unfold eY;have:=Nat.le_div_iff_mul_le (x:=k+1) (y:=len+a - 1) h;rw[Nat.succ_mul] at this;omega
def bL (k:Int)(b:kL):List Nat:=if b.there then[1] ++ (aR k b.least ++ aR k b.most) else[0]
def AI (cs:List bO)(es:List Int)(i:Nat):List Nat:=aA (cs.getD i ⟨⟨#[]⟩,0⟩).name.size ++ (bytesOf (cs.getD i ⟨⟨#[]⟩,0⟩).name ++ [byteOf (cs.getD i ⟨⟨#[]⟩,0⟩).kind,byteOf (es.getD i 0)])
def gY (cs:List bO)(es:List Int)(n:Nat):List Nat:=(Sw n).flatMap (AI cs es)
theorem vZ(cs:List bO)(es:List Int)(n:Nat):gY cs es (n+1)=gY cs es n ++ AI cs es n:=by
 unfold gY;rw[Vf,SU,SO]
def qA (cs:List bO)(l:List ju)(i:Nat):List Nat:=aA (l.getD i ⟨⟨#[]⟩,bZ⟩).text.size ++ bL (cs.getD i ⟨⟨#[]⟩,0⟩).kind (l.getD i ⟨⟨#[]⟩,bZ⟩).dU
def ek (cs:List bO)(l:List ju)(n:Nat):List Nat:=(Sw n).flatMap (qA cs l)
theorem uj(cs:List bO)(l:List ju)(n:Nat):ek cs l (n+1)=ek cs l n ++ qA cs l n:=by
 unfold ek;rw[Vf,SU,SO]
def dW (cs:List bO)(b:Bd):List Nat:=aA b.rows ++ ek cs b.chunks b.chunks.length
def cA (cs:List bO)(bs:List Bd):List Nat:=bs.flatMap (dW cs)
theorem B2(cs:List bO)(bs:List Bd)(k:Nat)(h:k<bs.length):cA cs (bs.take (k+1))=cA cs (bs.take k) ++ dW cs bs[k]:=by
 unfold cA;rw[RR h,SU,SO]
def iX (cs:List bO)(es:List Int)(bs:List Bd):List Nat:=aA cs.length ++ (gY cs es cs.length ++ (aA bs.length ++ cA cs bs))
def gu (n:Nat):List Nat:=[n % 256,n / 256 % 256,n / 65536 % 256,n / 16777216 % 256]
def bN (l:List ju):List Nat:=l.flatMap fun a=>bytesOf a.text
theorem FE(l:List ju)(k:Nat)(h:k<l.length):bN (l.take (k+1))=bN (l.take k) ++ bytesOf l[k].text:=by
 unfold bN;rw[RR h,SU,SO]
theorem qZ(l:List ju)(c:ju):bN (l ++ [c])=bN l ++ bytesOf c.text:=by
 unfold bN;rw[SU,SO]
def bC (bs:List Bd):List Nat:=bs.flatMap fun a=>bN a.chunks
theorem vT(bs:List Bd)(k:Nat)(h:k<bs.length):bC (bs.take (k+1))=bC (bs.take k) ++ bN bs[k].chunks:=by
 unfold bC;rw[RR h,SU,SO]
theorem qO(bs:List Bd)(b:Bd):bC (bs ++ [b])=bC bs ++ bN b.chunks:=by
 unfold bC;rw[SU,SO]
def de:List Nat:=[83,84,82,65]
def ua (cs:List bO)(es:List Int)(bs:List Bd):List Nat:=de ++ (bC bs ++ (iX cs es bs ++ (gu (iX cs es bs).length ++ de)))
theorem aK.nt{w c:RD}{v:RB}{o:UQ}{g n cap:Nat}(e:(w.alloc o).grownBy c v.ownBlock)(d:v.ownBlock=Ry g∨g=(w.alloc o).heap.size):aK w c v (.slice (Ry ⟨g,0,RA⟩) n cap):=by
 refine((aK.refl w v).alloc o).trans ⟨e,fun f b=>?_⟩;simp[Tf] at b;subst b;rcases d with a|a
 ·exact .inl a
 ·exact .inr (by omega)
theorem dA{w:RD}{base:Nat}{e:RO}{b:Nat}{v:RB}{n:Nat}{c:List RB}(h:w.ownsRow base e b v n c):∃ a cap,v= .slice a n cap:=by
 rcases h.2 with⟨rfl,rfl⟩|⟨f,cap,d,rfl,-⟩
 ·exact⟨RA,0,rfl⟩
 ·exact⟨_,cap,rfl⟩
theorem ES{w:RD}{base:Nat}{e:RO}{d:Nat}{v:RB}{n:Nat}{f:List RB}{g:Nat}(h:w.ownsRow base e d v n f)(b:v.ownBlock=Ry g):∃ a,w.heap[g]? =Ry (.cells a e (0,0)):=by
 rcases h.2 with⟨rfl,-⟩|⟨j,i,a,rfl,-,c,-⟩
 ·simp[Tf] at b
 ·simp[Tf] at b;subst b;exact⟨a,c⟩
theorem bw{w:RD}{base:Nat}{e:RO}{f:Nat}{v:RB}{n:Nat}{i:List RB}{g:Nat}{cs:Array RB}{t:RO}(h:w.ownsRow base e f v n i)(b:w.heap[g]? =Ry (.cells cs t (0,0)))(d:t≠e):Ry g≠v.ownBlock:=by
 intro c;obtain⟨j,a⟩:=ES h c.symm;rw[b] at a;simp at a;exact d a.2
theorem ox{w:RD}{base c:Nat}{e b:RO}{j k:Nat}{v v2:RB}{n i:Nat}{l m:List RB}(h:w.ownsRow base e j v n l)(d:w.ownsRow c b k v2 i m)(g:e≠b):Apart v v2:=by
 cases a:v.ownBlock with
 |none=>exact .inl a
 |some p=>
  right
  rw[a];obtain⟨o,f⟩:=ES h a;exact bw d f g
theorem zk(w:RD)(o p q:UQ):(((w.alloc o).alloc p).alloc q).heap[w.heap.size+2]? =Ry q:=by
 have:=bG ((w.alloc o).alloc p) q;rwa [show((w.alloc o).alloc p).heap.size=w.heap.size+2 by simp] at this
structure jW(w W:RD)(bd:Int)(ev:RB)(bo:Bool)(n:Nat)(kv:RB)(l:List ju):Prop where
 opt:W.heap[w.heap.size]? =Ry (.cells #[.int .i64 bd,ev,.bool bo] 48 (0,0))
 res:W.heap[w.heap.size+1]? =Ry (.cells #[.int .i64 0,.slice RA 0 0] 139 (0,0))
 box:W.heap[w.heap.size+2]? =Ry (.cells #[.int .i64 (n:Int),kv] 139 (0,0))
 own:W.ownsRow w.heap.size 143 8 kv l.length (dx l)
 fA:RQ w.heap.size w W
theorem jW.below{w b c:RD}{d:Int}{f:RB}{e:Bool}{n:Nat}{g:RB}{l:List ju}(h:jW w b d f e n g l)(a:RQ b.heap.size b c):jW w c d f e n g l:=
 ⟨(a.block _ (RP h.opt)).trans h.opt,(a.block _ (RP h.res)).trans h.res,(a.block _ (RP h.box)).trans h.box,aQ h.own a,h.fA.trans (a.mono h.fA.size)⟩
theorem jW.jv{w e c:RD}{f:Int}{i:RB}{g:Bool}{n:Nat}{o b:RB}{l d:List ju}(h:jW w e f i g n o l)(a:aK e c o b)(m:c.ownsRow w.heap.size 143 8 b d.length (dx d)):
 jW w (c.setCell ⟨w.heap.size+2,1,RA⟩ b) f i g n b d:=by
 have q:=(a.fS.block _ (RP h.opt) (bw h.own h.opt (by decide))).trans h.opt;have r:=(a.fS.block _ (RP h.res) (bw h.own h.res (by decide))).trans h.res;have j:=(a.fS.block _ (RP h.box) (bw h.own h.box (by decide))).trans h.box;have s:=RZ c (w.heap.size+2) 1 _ _ b j;have k:=h.fA.trans (a.below (fun p a=>(h.own.lt p a).1) h.fA.size);refine⟨?_,?_,s,?_,?_⟩
 ·rw[R6 _ _ _ _ (by simp)];exact q
 ·rw[R6 _ _ _ _ (by simp)];exact r
 ·exact m.kept (aJ c _ 1 b) (.inr (bw m j (by decide)).symm)
 ·exact eC k k.size (by omega) _ _
theorem jW.cells{w a:RD}{g:Int}{d:RB}{c:Bool}{n:Nat}{f:RB}{l:List ju}(h:jW w a g d c n f l):
 a.cell? ⟨w.heap.size,1,RA⟩=Ry d∧a.cell? ⟨w.heap.size,2,RA⟩=Ry (.bool c)∧a.cell? ⟨w.heap.size+2,0,RA⟩=Ry (.int .i64 (n:Int))∧a.cell? ⟨w.heap.size+2,1,RA⟩=Ry f∧a.frozen? ⟨w.heap.size+2,1,RA⟩=RE:=by
 have e:=h.opt;have b:=h.box;exact⟨by simp[R2,e],by simp[R2,e],by simp[R2,b],by simp[R2,b],by simp[SH,b]⟩
theorem jD{w:RD}{g:Nat}{c:ju}{t:RO}(h:w.heap[g]? =Ry (.cells (cH c).toArray t (0,0))):
 (w.cell? ⟨g,0,RA⟩=Ry (.string c.text)∧w.cell? ⟨g,1,RA⟩=Ry (.bool c.dU.there)∧w.cell? ⟨g,2,RA⟩=Ry (.bool c.dU.least.null)∧w.cell? ⟨g,3,RA⟩=Ry (.int .i64 c.dU.least.n)∧w.cell? ⟨g,4,RA⟩=Ry (.string c.dU.least.s)∧
   w.cell? ⟨g,5,RA⟩=Ry (.bool c.dU.most.null)∧w.cell? ⟨g,6,RA⟩=Ry (.int .i64 c.dU.most.n)∧w.cell? ⟨g,7,RA⟩=Ry (.string c.dU.most.s))∧
 (w.frozen? ⟨g,1,RA⟩=RE∧w.frozen? ⟨g,2,RA⟩=RE∧w.frozen? ⟨g,3,RA⟩=RE∧w.frozen? ⟨g,4,RA⟩=RE∧w.frozen? ⟨g,5,RA⟩=RE∧w.frozen? ⟨g,6,RA⟩=RE∧w.frozen? ⟨g,7,RA⟩=RE):=by
 unfold cH at h;refine⟨⟨?_,?_,?_,?_,?_,?_,?_,?_⟩,?_,?_,?_,?_,?_,?_,?_⟩<;>first|simp[R2,h]|simp[SH,h]
theorem MN{w:RD}{g:Nat}{s:ByteArray}{a:kL}(b:kL){t:RO}(h:w.heap[g]? =Ry (.cells (cH ⟨s,a⟩).toArray t (0,0))):
 (((((((w.setCell ⟨g,1,RA⟩ (.bool b.there)).setCell ⟨g,2,RA⟩ (.bool b.least.null)).setCell ⟨g,3,RA⟩ (.int .i64 b.least.n)).setCell ⟨g,4,RA⟩ (.string b.least.s)).setCell ⟨g,5,RA⟩ (.bool b.most.null)).setCell ⟨g,6,RA⟩ (.int .i64 b.most.n)).setCell ⟨g,7,RA⟩ (.string b.most.s)).heap[g]? =Ry (.cells (cH ⟨s,b⟩).toArray t (0,0)):=by
 have c:(w.setCell ⟨g,1,RA⟩ (.bool b.there)).heap[g]? =Ry (.cells #[.string s,.bool b.there,.bool a.least.null,.int .i64 a.least.n,.string a.least.s,.bool a.most.null,.int .i64 a.most.n,.string a.most.s] t (0,0)):=RZ _ g 1 _ _ (.bool b.there) h;have d:((w.setCell ⟨g,1,RA⟩ (.bool b.there)).setCell ⟨g,2,RA⟩ (.bool b.least.null)).heap[g]? =Ry (.cells #[.string s,.bool b.there,.bool b.least.null,.int .i64 a.least.n,.string a.least.s,.bool a.most.null,.int .i64 a.most.n,.string a.most.s] t (0,0)):=RZ _ g 2 _ _ (.bool b.least.null) c;have e:(((w.setCell ⟨g,1,RA⟩ (.bool b.there)).setCell ⟨g,2,RA⟩ (.bool b.least.null)).setCell ⟨g,3,RA⟩ (.int .i64 b.least.n)).heap[g]? =Ry (.cells #[.string s,.bool b.there,.bool b.least.null,.int .i64 b.least.n,.string a.least.s,.bool a.most.null,.int .i64 a.most.n,.string a.most.s] t (0,0)):=RZ _ g 3 _ _ (.int .i64 b.least.n) d;have f:((((w.setCell ⟨g,1,RA⟩ (.bool b.there)).setCell ⟨g,2,RA⟩ (.bool b.least.null)).setCell ⟨g,3,RA⟩ (.int .i64 b.least.n)).setCell ⟨g,4,RA⟩ (.string b.least.s)).heap[g]? =Ry (.cells #[.string s,.bool b.there,.bool b.least.null,.int .i64 b.least.n,.string b.least.s,.bool a.most.null,.int .i64 a.most.n,.string a.most.s] t (0,0)):=RZ _ g 4 _ _ (.string b.least.s) e;have i:(((((w.setCell ⟨g,1,RA⟩ (.bool b.there)).setCell ⟨g,2,RA⟩ (.bool b.least.null)).setCell ⟨g,3,RA⟩ (.int .i64 b.least.n)).setCell ⟨g,4,RA⟩ (.string b.least.s)).setCell ⟨g,5,RA⟩ (.bool b.most.null)).heap[g]? =Ry (.cells #[.string s,.bool b.there,.bool b.least.null,.int .i64 b.least.n,.string b.least.s,.bool b.most.null,.int .i64 a.most.n,.string a.most.s] t (0,0)):=RZ _ g 5 _ _ (.bool b.most.null) f;have j:((((((w.setCell ⟨g,1,RA⟩ (.bool b.there)).setCell ⟨g,2,RA⟩ (.bool b.least.null)).setCell ⟨g,3,RA⟩ (.int .i64 b.least.n)).setCell ⟨g,4,RA⟩ (.string b.least.s)).setCell ⟨g,5,RA⟩ (.bool b.most.null)).setCell ⟨g,6,RA⟩ (.int .i64 b.most.n)).heap[g]? =Ry (.cells #[.string s,.bool b.there,.bool b.least.null,.int .i64 b.least.n,.string b.least.s,.bool b.most.null,.int .i64 b.most.n,.string a.most.s] t (0,0)):=RZ _ g 6 _ _ (.int .i64 b.most.n) i;have k:(((((((w.setCell ⟨g,1,RA⟩ (.bool b.there)).setCell ⟨g,2,RA⟩ (.bool b.least.null)).setCell ⟨g,3,RA⟩ (.int .i64 b.least.n)).setCell ⟨g,4,RA⟩ (.string b.least.s)).setCell ⟨g,5,RA⟩ (.bool b.most.null)).setCell ⟨g,6,RA⟩ (.int .i64 b.most.n)).setCell ⟨g,7,RA⟩ (.string b.most.s)).heap[g]? =Ry (.cells #[.string s,.bool b.there,.bool b.least.null,.int .i64 b.least.n,.string b.least.s,.bool b.most.null,.int .i64 b.most.n,.string b.most.s] t (0,0)):=RZ _ g 7 _ _ (.string b.most.s) j;exact k
theorem v9(w:RD)(c:ju)(t:RO):∀ (j:Nat) (u:RB),(cH c)[j]? =Ry u→(w.alloc (.cells (cH c).toArray t)).cell? ((⟨w.heap.size,0,RA⟩:Sl).add j)=Ry u:=by
 intro j u a;have b:j<8:=by
  have:=(R8.1 a).1;simpa [cH] using this
 have:j=0∨j=1∨j=2∨j=3∨j=4∨j=5∨j=6∨j=7:=by omega
 rcases this with rfl|rfl|rfl|rfl|rfl|rfl|rfl|rfl<;>(simp[cH] at a;subst a;simp[VN,cH])
theorem sQ(c:ju):∀ u∈cH c,u.oneCell'=RF:=by
 intro u a;simp[cH] at a;rcases a with rfl|rfl|rfl|rfl|rfl|rfl|rfl|rfl<;>rfl
theorem En{a:List (List aD)}{e:Nat}(h:∀ r∈a,∀ x∈r,D5 x)(f:∀ r∈a,e<r.length):∀ x∈bJ a e,D5 x:=by
 intro x d;unfold bJ at d;obtain⟨r,c,rfl⟩:=S5.1 d;have b:=f r c;rw[RX,RS b];exact h r c _ (RV b)
theorem iW(a:List (List aD))(b:Nat):(bJ a b).length=a.length:=by simp[bJ]
theorem aa.Ga:((aa.of Rz).info? 143).map (fun i=>(i.zero,i.size,i.bytes))=Ry (Ry (.agg #[.string ⟨#[]⟩,.bool RE,.bool RE,.int .i64 0,.string ⟨#[]⟩,.bool RE,.int .i64 0,.string ⟨#[]⟩]),8,88):=by kernel_rfl
theorem jW.put{w a:RD}{c:Int}{e:RB}{d:Bool}{n:Nat}{b:RB}{l:List ju}(h:jW w a c e d n b l){g:Nat}(i:w.heap.size+2<g)(f:b.ownBlock≠Ry g)(o:Nat)(v:RB):
 jW w (a.setCell ⟨g,o,RA⟩ v) c e d n b l:=by
 refine⟨?_,?_,?_,h.own.kept (aJ a g o v) (.inr f),eC h.fA h.fA.size (by omega) _ _⟩
 ·rw[R6 _ _ _ _ (by simp;omega)];exact h.opt
 ·rw[R6 _ _ _ _ (by simp;omega)];exact h.res
 ·rw[R6 _ _ _ _ (by simp;omega)];exact h.box
theorem jW.zC{w e:RD}{f:Int}{j:RB}{i:Bool}{n:Nat}{d:RB}{l:List ju}(h:jW w e f j i n d l){g:Nat}(a:w.heap.size+2<g)(c:d.ownBlock≠Ry g)(b:kL):
 jW w (((((((e.setCell ⟨g,1,RA⟩ (.bool b.there)).setCell ⟨g,2,RA⟩ (.bool b.least.null)).setCell ⟨g,3,RA⟩ (.int .i64 b.least.n)).setCell ⟨g,4,RA⟩ (.string b.least.s)).setCell ⟨g,5,RA⟩ (.bool b.most.null)).setCell ⟨g,6,RA⟩ (.int .i64 b.most.n)).setCell ⟨g,7,RA⟩ (.string b.most.s)) f j i n d l:=
 ((((((h.put a c _ _).put a c _ _).put a c _ _).put a c _ _).put a c _ _).put a c _ _).put a c _ _
theorem jW.kept{w c a:RD}{e:Int}{g:RB}{f:Bool}{n:Nat}{b j:RB}{l:List ju}(h:jW w c e g f n b l)(i:aK c a b j):
 a.cell? ⟨w.heap.size+2,1,RA⟩=Ry b∧a.frozen? ⟨w.heap.size+2,1,RA⟩=RE:=by
 have d:=(i.fS.block _ (RP h.box) (bw h.own h.box (by decide))).trans h.box;exact⟨by simp[R2,d],by simp[SH,d]⟩
theorem F0{a:List (List aD)}{cs:List bO}{es:List Int}{b:Bool}{k:Nat}(h1:k<cs.length)(c:k<es.length):
 Cf a cs es b k=⟨(gZ (bJ a k) cs[k].kind (es.getD k 0)).1,if b then bQ (bJ a k) else bZ⟩:=by
 unfold Cf;rw[RX (l:=cs),RS h1];rfl
theorem D7(b:List (List aD))(cs:List bO)(es:List Int)(n:Int)(d:Bool)(br b0 b3:RB)(w:RD)(c3:b.length≤100)(cu:∀ r∈b,r.length=cs.length)(cn:∀ r∈b,∀ x∈r,D5 x)(et:cs.length≤8)(cl:es.length=cs.length)
 (cx:Av w br b) (d1:yy w b0 cs) (d3:qi w b3 es):
 Sc (aa.of Rz) 60 #[br,b0,.agg #[.int .i64 n,b3,.bool d]] w fun e w'=>∃ f,e= .returned (.agg #[.int .i64 (b.length:Int),f])∧w'.ownsRow w.heap.size 143 8 f cs.length (dx (cE b cs es d cs.length))∧RQ w.heap.size w w':=by
 obtain⟨c4,co,c0,c1,c2⟩:=S3 aa.Ga;have dk:RJ (Av w br b):=cx;have ar:RJ (∀ r∈b,r.length=cs.length):=cu;have dc:RJ (∀ r∈b,∀ x∈r,D5 x):=cn;obtain⟨eh,e5,bq,aI,rfl,e1,-⟩:=cx;obtain⟨dq,dp,bk,aF,rfl,er,D⟩:=d1;obtain⟨G,i,k,o,rfl,ch,ci,ck⟩:=d3;have c8:RJ (qI w dq dp bk cs):=D;have c9:RJ (0<es.length→G=Ry ⟨i,k,RA⟩):=ch;have T:RJ (0<es.length→i<w.heap.size):=ci;have da:RJ (∀ bo,bo<es.length→w.cell? ⟨i,k+bo,RA⟩=Ry (.int .i64 (es.getD bo 0))):=ck;have db:RJ (es.length=cs.length):=cl;clear cu cn D ch ci ck cl;go_enter aa.func60,Tryz.ntmps60
 go_upto_region 2 with fail
 have cd:jW w (((w.alloc (.cells #[.int .i64 n,.slice G es.length o,.bool d] 48)).alloc (.cells #[.int .i64 0,.slice RA 0 0] 139)).alloc (.cells #[.int .i64 (b.length:Int),.slice RA 0 0] 139)) n (.slice G es.length o) d b.length (.slice RA 0 0) (cE b cs es d 0):=by
  refine⟨alloc_old _ (by simp;omega) (alloc_old _ (by simp) (bG w _)),alloc_old _ (by simp) (jz w _ _),zk w _ _ _,?_,?_⟩
  ·exact⟨by simp[cE,dx],.inl ⟨rfl,by simp[cE]⟩⟩
  ·exact(jB _ _).alloc (by simp;omega) _
 generalize ((w.alloc (.cells #[.int .i64 n,.slice G es.length o,.bool d] 48)).alloc (.cells #[.int .i64 0,.slice RA 0 0] 139)).alloc (.cells #[.int .i64 (b.length:Int),.slice RA 0 0] 139)=eo at*
 go_wp2_with fail
 go_loopw [19] (fun bm wr=>∃ (a:Nat) (f:RB),a≤cs.length∧bm= .int .i64 (a:Int)∧jW w wr n (.slice G es.length o) d b.length f (cE b cs es d a)) (fun bm _=>cs.length - (SC bm).toNat)
 case atStart=>exact⟨0,_,Sk _,rfl,cd⟩
 case round=>
  clear cd;obtain⟨a,f,eQ,rfl,g⟩:=hrel;have V:RJ (jW w wr n (.slice G es.length o) d b.length f (cE b cs es d a)):=g;by_cases I:a<cs.length
  ·have cp:a<es.length:=by rw[db.out];exact I
   have cR:w.heap.size≤wr.heap.size:=g.fA.size;have D:=c8.out.below g.fA;obtain rfl:=D.addr (by omega);obtain rfl:=c9.out (by omega);have ee:=D.c0 a I;have ef:=D.c1 a I;have ao:RJ (i<wr.heap.size):=RK (T.out (by omega)) cR;have b1:wr.cell? ⟨i,k+a,RA⟩=Ry (.int .i64 (es.getD a 0)):=(g.fA.cell (p:=⟨i,k+a,RA⟩) (T.out (by omega))).trans (da.out a cp);have U:RJ (cE b cs es d (a+1)=cE b cs es d a ++ [⟨(gZ (bJ b a) cs[a].kind (es.getD a 0)).1,if d then bQ (bJ b a) else bZ⟩]):=by
    show _=_;rw[El,F0 I cp]
   have dl:RJ (∀ x∈bJ b a,D5 x):=En dc.out (fun r Z=>by rw[ar.out r Z];exact I);have al:RJ ((bJ b a).length=b.length):=iW b a;have bu:RJ (∀ c,RQ w.heap.size w c→Sc (aa.of Rz) 86 #[.slice eh b.length aI,.int .i64 (a:Int)] c fun e w'=>RQ c.heap.size c w'∧∃ v,e= .returned v∧w'.ownsRow c.heap.size 59 3 v b.length (aE (bJ b a))):=fun c dO=>
    AJ b a _ c c3 (fun r Z=>⟨by rw[ar.out r Z];exact I,by rw[ar.out r Z];unfold R3;omega⟩) (dk.out.below dO)
   have e0:(a:Int)<(es.length:Int):=by omega
   generalize dE:bJ b a=h at*;generalize dT:cs[a]=s at*;generalize d2:es.getD a 0=t at*;clear D dE dT d2 g;have bv:RJ (∀ c l,ql c l h→Sc (aa.of Rz) 87 #[l,.int .i64 s.kind,.int .i64 t] c fun r w'=>r= .returned (.tuple #[.string (gZ h s.kind t).1,.int .i64 (gZ h s.kind t).2])∧RQ c.heap.size c w'):=fun c l K=>
    B5 l h s.kind t c (by rw[al.out];unfold R3;omega) dl.out K
   have ae:RJ (∀ c l,ql c l h→Sc (aa.of Rz) 88 #[l] c fun e w'=>e= .returned (Ei (bQ h))∧RQ c.heap.size c w'):=fun c l K=>
    AA l h c (by rw[al.out];exact c3) K
   go_upto_region 6 with(go_at_call 86;refine(bu.out _ (V.out.fA.alloc cR _)).mono ?_;rintro e j ⟨Y,l,rfl,cv⟩)
   have bc:RQ wr.heap.size wr j:=sF Y;have c5:j.cell? ⟨wr.heap.size,1,RA⟩=Ry (.int .i64 s.kind):=(Y.cell (p:=⟨wr.heap.size,1,RA⟩) (by simp)).trans (m7 wr _ _ _).2;have u:RJ (jW w j n (.slice (Ry ⟨i,k,RA⟩) es.length o) d b.length f (cE b cs es d a)):=V.out.below bc;obtain⟨P,ab,Q,R,ad⟩:=u.out.cells;have b2:j.cell? ⟨i,k+a,RA⟩=Ry (.int .i64 t):=(bc.cell (p:=⟨i,k+a,RA⟩) ao.out).trans b1;have a0:RJ (ql j l h):=ql.cm (by rw[al.out];exact cv);have ca:wr.heap.size<j.heap.size:=by have:=Y.size;simp at this;omega
   have y:w.heap.size<j.heap.size:=by omega
   have cb:i<j.heap.size:=by have:=ao.out;omega
   clear ee ef b1 Y bc bu cv Q R ad ao;generalize wr.heap.size=cc at*
   go_cut [11,12] from 27 to 38 (fun en e6 p=>en= .string (gZ h s.kind t).1∧RQ j.heap.size j p)
   case first=>
    have T:RJ (Sc (aa.of Rz) 87 #[l,.int .i64 s.kind,.int .i64 t] j.drew fun r w'=>r= .returned (.tuple #[.string (gZ h s.kind t).1,.int .i64 (gZ h s.kind t).2])∧RQ j.drew.heap.size j.drew w'):=bv.out _ _ (a0.out.below ((R5 _ _).drew))
    go_region_held3 (fun c=>c.cell? ⟨cc,1,RA⟩=Ry (.int .i64 s.kind)∧c.cell? ⟨w.heap.size,1,RA⟩=Ry (.slice (Ry ⟨i,k,RA⟩) es.length o)∧c.cell? ⟨i,k+a,RA⟩=Ry (.int .i64 t)) (go_keep) ((go_at_call 87;refine T.out.mono ?_;rintro e z ⟨rfl,H⟩;have M:RQ j.heap.size j z:=((R5 j.heap.size j).drew).trans H;have d7:=(M.cell (p:=⟨cc,1,RA⟩) ca).trans c5;have d8:=(M.cell (p:=⟨w.heap.size,1,RA⟩) y).trans P;have d9:=(M.cell (p:=⟨i,k+a,RA⟩) cb).trans b2;clear H))
    all_goals
     have c7:RJ (RQ j.heap.size j z):=M;clear M d7 d8 d9
     go_wp2_with fail
     go_meet
     exact⟨rfl,c7.out⟩
   case rest=>
    rename RD=>p
    obtain⟨rfl,bd⟩:=hcut;have W:RJ (jW w p n (.slice (Ry ⟨i,k,RA⟩) es.length o) d b.length f (cE b cs es d a)):=u.out.below bd;have bA:RJ (ql p l h):=a0.out.below bd;clear u a0 bv c5 P ab b2 bd ca y cb V;generalize (gZ h s.kind t).1=m at*
    go_upto_region 8 with fail
    have be:(p.alloc (.cells (cH ⟨m,bZ⟩).toArray 143)).heap[p.heap.size]? =Ry (.cells (cH ⟨m,bZ⟩).toArray 143 (0,0)):=bG _ _;have bb:jW w (p.alloc (.cells (cH ⟨m,bZ⟩).toArray 143)) n (.slice (Ry ⟨i,k,RA⟩) es.length o) d b.length f (cE b cs es d a):=W.out.below ((R5 _ _).alloc (RG _) _);have bl:ql (p.alloc (.cells (cH ⟨m,bZ⟩).toArray 143)) l h:=bA.out.below ((R5 _ _).alloc (RG _) _);have d4:w.heap.size+2<p.heap.size:=RP W.out.box;have dd:RJ (f.ownBlock≠Ry p.heap.size):=fun K=>by have:=(W.out.own.lt _ K).2;omega
    rw[show(cH ⟨m,bZ⟩).toArray=#[.string m,.bool RE,.bool RE,.int .i64 0,.string ⟨#[]⟩,.bool RE,.int .i64 0,.string ⟨#[]⟩] from rfl] at bb bl be;generalize p.alloc (.cells #[.string m,.bool RE,.bool RE,.int .i64 0,.string ⟨#[]⟩,.bool RE,.int .i64 0,.string ⟨#[]⟩] 143)=C at*;have cf:C.heap[p.heap.size]? =Ry (.cells (cH ⟨m,bZ⟩).toArray 143 (0,0)):=be;generalize p.heap.size=gk at*;have u:RJ (jW w C n (.slice (Ry ⟨i,k,RA⟩) es.length o) d b.length f (cE b cs es d a)):=bb;have bx:RJ (ql C l h):=bl;have S:RJ (C.heap[gk]? =Ry (.cells (cH ⟨m,bZ⟩).toArray 143 (0,0))):=cf;clear be bb bl cf W bA;have d6:w.heap.size≤C.heap.size:=u.out.fA.size;obtain⟨P,ab,Q,R,ad⟩:=u.out.cells;cases d
    ·have aw:RJ (cE b cs es RE (a+1)=cE b cs es RE a ++ [⟨m,bZ⟩]):=U.out;clear U ae
     go_upto_region 10 with fail
     obtain⟨⟨a1,a2,a3,a4,a5,a6,a7,a8⟩,-⟩:=jD S.out;have q:=u.out.own;rw[dn] at q
     go_wp2_with (at_builtin;refine wpList_append_lies _ rfl _ _ 137 rfl w.heap.size 143 c4 _ 8 88 aa.underlying137 co c0 c1 c2 rfl (by decide) _ a _ rfl (q.alloc _) ⟨C.heap.size,0,RA⟩ 1 1 (cH ⟨m,bZ⟩) rfl rfl (v9 C ⟨m,bZ⟩ _) (sQ _) (by decide) (by unfold R3;omega) (by omega) (by simp;omega) _ rfl ?_;intro y B z F N L bj;have E:=aK.nt (n:=a+1) (cap:=B) N L;obtain⟨bs,bt⟩:=u.out.kept E)
     have O:z.ownsRow w.heap.size 143 8 (.slice (Ry ⟨y,0,RA⟩) (a+1) B) (cE b cs es RE (a+1)).length (dx (cE b cs es RE (a+1))):=by
      rw[dn,aw.out];unfold dx at F ⊢;rw[SU,SO];exact F
     have am:RJ (jW w (z.setCell ⟨w.heap.size+2,1,RA⟩ (.slice (Ry ⟨y,0,RA⟩) (a+1) B)) n (.slice (Ry ⟨i,k,RA⟩) es.length o) RE b.length (.slice (Ry ⟨y,0,RA⟩) (a+1) B) (cE b cs es RE (a+1))):=u.out.jv E O;clear q F N E bs bt O L bj
     go_roundw
     case rel=>exact⟨a+1,_,by omega,by go_num,am.out⟩
     case measure=>simp[SC];omega
    ·have aw:RJ (cE b cs es RF (a+1)=cE b cs es RF a ++ [⟨m,bQ h⟩]):=U.out;clear U
     go_upto_region 10 with(go_at_call 88;refine(ae.out _ _ bx.out).mono ?_;unfold Ei;rintro e z ⟨rfl,H⟩;have bi:=(H.block gk (RP S.out)).trans S.out;obtain⟨⟨a1,a2,a3,a4,a5,a6,a7,a8⟩,b4,dr,ds,dt,du,dv,dC⟩:=jD bi)
     have d0:=MN (bQ h) bi;have ce:=(u.out.below H).zC d4 dd.out (bQ h);clear a1 a2 a3 a4 a5 a6 a7 a8 b4 dr ds dt du dv dC bi ae bx S P ab Q R ad d6;generalize bQ h=A at*;generalize ((((((z.setCell ⟨gk,1,RA⟩ (.bool A.there)).setCell ⟨gk,2,RA⟩ (.bool A.least.null)).setCell ⟨gk,3,RA⟩ (.int .i64 A.least.n)).setCell ⟨gk,4,RA⟩ (.string A.least.s)).setCell ⟨gk,5,RA⟩ (.bool A.most.null)).setCell ⟨gk,6,RA⟩ (.int .i64 A.most.n)).setCell ⟨gk,7,RA⟩ (.string A.most.s)=X at*;have J:RJ (jW w X n (.slice (Ry ⟨i,k,RA⟩) es.length o) RF b.length f (cE b cs es RF a)):=ce;clear ce H;have e2:w.heap.size≤X.heap.size:=J.out.fA.size;obtain⟨P,ab,Q,R,ad⟩:=J.out.cells;obtain⟨⟨a1,a2,a3,a4,a5,a6,a7,a8⟩,-⟩:=jD d0;have q:=J.out.own;rw[dn] at q
     go_wp2_with (at_builtin;refine wpList_append_lies _ rfl _ _ 137 rfl w.heap.size 143 c4 _ 8 88 aa.underlying137 co c0 c1 c2 rfl (by decide) _ a _ rfl (q.alloc _) ⟨X.heap.size,0,RA⟩ 1 1 (cH ⟨m,A⟩) rfl rfl (v9 X ⟨m,A⟩ _) (sQ _) (by decide) (by unfold R3;omega) (by omega) (by simp;omega) _ rfl ?_;intro y B z F N L bj;have E:=aK.nt (n:=a+1) (cap:=B) N L;obtain⟨bs,bt⟩:=J.out.kept E)
     have O:z.ownsRow w.heap.size 143 8 (.slice (Ry ⟨y,0,RA⟩) (a+1) B) (cE b cs es RF (a+1)).length (dx (cE b cs es RF (a+1))):=by
      rw[dn,aw.out];unfold dx at F ⊢;rw[SU,SO];exact F
     have am:RJ (jW w (z.setCell ⟨w.heap.size+2,1,RA⟩ (.slice (Ry ⟨y,0,RA⟩) (a+1) B)) n (.slice (Ry ⟨i,k,RA⟩) es.length o) RF b.length (.slice (Ry ⟨y,0,RA⟩) (a+1) B) (cE b cs es RF (a+1))):=J.out.jv E O;clear q F N E bs bt O L bj
     go_roundw
     case rel=>exact⟨a+1,_,by omega,by go_num,am.out⟩
     case measure=>simp[SC];omega
  ·obtain rfl:a=cs.length:=by omega
   obtain⟨ec,eb,rfl⟩:=dA g.own;rw[dn] at g;generalize d5:SS ec cs.length eb=f at g;obtain⟨-,-,Q,R,-⟩:=g.cells;have q:=g.own;rw[dn] at q;have a9:=RZ wr (w.heap.size+1) 0 _ _ (.int .i64 (b.length:Int)) g.res;have ba:=RZ _ (w.heap.size+1) 1 _ _ f a9;have df:RJ (((wr.setCell ⟨w.heap.size+1,0,RA⟩ (.int .i64 (b.length:Int))).setCell ⟨w.heap.size+1,1,RA⟩ f).ownsRow w.heap.size 143 8 f cs.length (dx (cE b cs es d cs.length))):=by
    have bB:=q.kept (aJ wr (w.heap.size+1) 0 (.int .i64 (b.length:Int))) (.inr (bw q g.res (by decide)).symm);exact bB.kept (aJ _ (w.heap.size+1) 1 f) (.inr (bw bB a9 (by decide)).symm)
   have c6:RJ (RQ w.heap.size w ((wr.setCell ⟨w.heap.size+1,0,RA⟩ (.int .i64 (b.length:Int))).setCell ⟨w.heap.size+1,1,RA⟩ f)):=eC (eC g.fA g.fA.size (by omega) _ _) (by simpa using g.fA.size) (by omega) _ _;have e3:wr.cell? ⟨w.heap.size+1,0,RA⟩=Ry (.int .i64 0):=by have:=g.res;simp[R2,this]
   have e4:wr.cell? ⟨w.heap.size+1,1,RA⟩=Ry (.slice RA 0 0):=by have:=g.res;simp[R2,this]
   have eq:wr.frozen? ⟨w.heap.size+1,0,RA⟩=RE:=by have:=g.res;simp[SH,this]
   have b4:wr.frozen? ⟨w.heap.size+1,1,RA⟩=RE:=by have:=g.res;simp[SH,this]
   have el:((wr.setCell ⟨w.heap.size+1,0,RA⟩ (.int .i64 (b.length:Int))).setCell ⟨w.heap.size+1,1,RA⟩ f).cell? ⟨w.heap.size+1,0,RA⟩=Ry (.int .i64 (b.length:Int)):=by simp[R2,ba]
   have em:((wr.setCell ⟨w.heap.size+1,0,RA⟩ (.int .i64 (b.length:Int))).setCell ⟨w.heap.size+1,1,RA⟩ f).cell? ⟨w.heap.size+1,1,RA⟩=Ry f:=by simp[R2,ba]
   clear q a9 ba g V;subst d5;go_wp2;simp[TV,SD,Tryz.results60,go_sem,el,em];exact⟨df.out,c6.out⟩
end Ec
namespace Un
open Go.RowKit
section
variable {P:RM}{ops:Array Te}{Q:Exit→TZ→RD→Prop}{md:Region.Mode}{S:RD→Prop}{u:Nat}
def Any (P:RM)(md:Region.Mode)(ops:Array Te)(Q:Exit→TZ→RD→Prop)(S:RD→Prop)(u:Nat):Nat→Array Bool→TZ→RD→Prop
 |0,listed,a,b=>SI md ops listed=[]∧Q .normal a b
 |n+1,listed,a,b=>(SI md ops listed=[]→Q .normal a b)∧
  ∀ c∈SI md ops listed,wpOp P ops Q c (fun e d=>((listed.setIfInBounds c RF).getD u RF=RE→S d)∧Any P md ops Q S u n (listed.setIfInBounds c RF) e d) a b
theorem JO:∀ (n:Nat) (listed:Array Bool) (a:TZ) (w:RD),Any P md ops Q S u n listed a w→wpAny P md ops Q n listed a w
 |0,_,_,_,b=>b
 |n+1,_,_,_,b=>⟨b.1,fun e d=>wpOp_mono (fun c f g=>JO n _ c f g.2) (b.2 e d)⟩
def waits(md:Region.Mode)(ops:Array Te)(u i:Nat):Bool:=
 match ops[u]? with
 |some b=>b.after.any fun a=>S4 md a && a.on == i
 |none=>RE
theorem Io{i:Nat}{listed:Array Bool}(d:waits md ops u i=RF)(e:listed.getD i RF=RE):u∉SI md ops listed:=by
 intro k;obtain⟨-,l,j,g⟩:=mem_ready.1 k;unfold waits at d;rw[j] at d;obtain⟨f,h,c⟩:=Array.any_eq_true'.1 d;simp only[R7,beq_iff_eq] at c;have a:=g f h c.1;rw[c.2] at a;rcases Ts i listed.size with b|b
 ·simp[b] at e a;rw[e] at a;cases a
 ·simp[SZ b] at a
theorem first{i:Nat}{h:Te}{v:RB}(A:ops[i]? =Ry h)(H:∀ (j:Nat) (o:Te) cs b,ops[j]? =Ry o→o.op≠.select cs b)(ad:waits md ops u i=RF)(X:u≠i)
 (M:∀ c a w,Q (.panic c) (a.put h.dst v) w→Q (.panic c) a w):
 ∀ (n:Nat) (listed:Array Bool) (a:TZ) (w:RD),
  (∀ j k,ops[j]? =Ry k→j≠i→listed.getD j RF=RE→(∀ e∈k.after,S4 md e=RF→e.on≠i)→h.apart ops k=RF)→
  i∈SI md ops listed→listed.getD u RF=RE→YieldsIf P ops S h v a→S w→
  Any P md ops Q S u n (listed.setIfInBounds i RF) (a.put h.dst v) w→Any P md ops Q S u (n+1) listed a w:=by
 intro n
 induction n with
 |zero=>
  intro listed a w _ g C t p m;refine⟨fun x=>(by rw[x] at g;cases g),fun j q=>?_⟩;by_cases d:j=i
  ·subst d;exact t.wpOp A p ⟨fun _=>p,m⟩
  ·have:=ready_mono q d;rw[m.1] at this;cases this
 |succ n ae=>
  intro listed a w D g C t p m;refine⟨fun x=>(by rw[x] at g;cases g),fun j q=>?_⟩;by_cases d:j=i
  ·subst d;exact t.wpOp A p ⟨fun _=>p,m⟩
  ·have z:=(mem_ready.1 g).1;have F:j≠u:=fun e=>Io ad z (e▸q);have f:=m.2 j (ready_mono q d);obtain⟨G,k,B,N⟩:=mem_ready.1 q;have Z:∀ e∈k.after,S4 md e=RF→e.on≠i:=fun e R O T=>by
    have f:=N e R O;rw[T] at f;rcases Ts i listed.size with y|y
    ·simp[y] at z f;rw[z] at f;cases f
    ·simp[SZ y] at f
   have L:=wpOp_putIf B (D j k B d G Z) (fun cs b=>H i h cs b A) (fun cs b=>H j k cs b B) M t f;have U:∀ l r,ops[l]? =Ry r→l≠i→(listed.setIfInBounds j RF).getD l RF=RE→
    (∀ e∈r.after,S4 md e=RF→e.on≠i)→h.apart ops r=RF:=fun l r V W J Y=>by
    refine D l r V W ?_ Y;by_cases E:j=l
    ·subst E;exact G
    ·rw[getD_set_ne RF E] at J;exact J
   have ab:(listed.setIfInBounds j RF).getD u RF=RE:=by rw[getD_set_ne RF F];exact C
   have I:((listed.setIfInBounds i RF).setIfInBounds j RF).getD u RF=RE:=by rw[getD_set_ne RF F,getD_set_ne RF X.symm];exact C
   refine wpOp_mono (fun K al s=>⟨fun _=>s.2.1 I,ae (listed.setIfInBounds j RF) K al U (ready_mono g (Ne.symm d)) ab s.1 (s.2.1 I) ?_⟩) L;rw[Array.setIfInBounds_comm _ _ d];exact s.2.2
theorem QT{i:Nat}{k:Te}{v:RB}(y:ops[i]? =Ry k)(G:∀ (j:Nat) (o:Te) cs b,ops[j]? =Ry o→o.op≠.select cs b)(z:u≠i)
 (L:∀ c a w,Q (.panic c) (a.put k.dst v) w→Q (.panic c) a w):
 ∀ (n:Nat) (listed:Array Bool) (a:TZ) (w:RD),
  (∀ j l,ops[j]? =Ry l→j≠i→listed.getD j RF=RE→(∀ e∈l.after,S4 md e=RF→e.on≠i)→k.apart ops l=RF)→
  i∈SI md ops listed→(listed.getD u RF=RE→S w)→YieldsIf P ops (fun _=>True) k v a→
  Any P md ops Q S u n (listed.setIfInBounds i RF) (a.put k.dst v) w→Any P md ops Q S u (n+1) listed a w:=by
 intro n
 induction n with
 |zero=>
  intro listed a w _ h B t p;refine⟨fun d=>(by rw[d] at h;cases h),fun j s=>?_⟩;by_cases f:j=i
  ·subst f;exact t.wpOp y trivial ⟨fun d=>B (by rw[getD_set_ne RF z.symm] at d;exact d),p⟩
  ·have:=ready_mono s f;rw[p.1] at this;cases this
 |succ n Y=>
  intro listed a w D h B t p;refine⟨fun d=>(by rw[d] at h;cases h),fun j s=>?_⟩;by_cases f:j=i
  ·subst f;exact t.wpOp y trivial ⟨fun d=>B (by rw[getD_set_ne RF z.symm] at d;exact d),p⟩
  ·have C:=(mem_ready.1 h).1;have g:=p.2 j (ready_mono s f);obtain⟨F,l,A,M⟩:=mem_ready.1 s;have X:∀ e∈l.after,S4 md e=RF→e.on≠i:=fun e O N R=>by
    have g:=M e O N;rw[R] at g;rcases Ts i listed.size with x|x
    ·simp[x] at C g;rw[C] at g;cases g
    ·simp[SZ x] at g
   have K:=wpOp_putIf A (D j l A f F X) (fun cs b=>G i k cs b y) (fun cs b=>G j l cs b A) L t g;have T:∀ m q,ops[m]? =Ry q→m≠i→(listed.setIfInBounds j RF).getD m RF=RE→
    (∀ e∈q.after,S4 md e=RF→e.on≠i)→k.apart ops q=RF:=fun m q U V I W=>by
    refine D m q U V ?_ W;by_cases E:j=m
    ·subst E;exact F
    ·rw[getD_set_ne RF E] at I;exact I
   have H:((listed.setIfInBounds i RF).setIfInBounds j RF).getD u RF=(listed.setIfInBounds j RF).getD u RF:=by
    rw[Array.setIfInBounds_comm _ _ (Ne.symm f),getD_set_ne RF z.symm]
   refine wpOp_mono (fun J Z r=>⟨fun d=>r.2.1 (H.trans d),Y (listed.setIfInBounds j RF) J Z T (ready_mono h (Ne.symm f)) (fun d=>r.2.1 (H.trans d)) r.1 ?_⟩) K;rw[Array.setIfInBounds_comm _ _ f];exact r.2.2
theorem take{i:Nat}{b:Te}{v:RB}{n:Nat}{listed:Array Bool}{a:TZ}{w:RD}(d:ops[i]? =Ry b)
 (l:Region.noSelect ops=RF) (g:Region.free md ops listed i=RF) (k:(SI md ops listed).contains i=RF) (o:waits md ops u i=RF) (j:(u == i)=RE) (m:listed.getD u RF=RE)
 (e:∀ c a w,Q (.panic c) (a.put b.dst v) w→Q (.panic c) a w) (p:YieldsIf P ops S b v a) (f:S w)
 (h:Any P md ops Q S u n (listed.setIfInBounds i RF) (a.put b.dst v) w):Any P md ops Q S u (n+1) listed a w:=
 first d (Region.noSelect_spec l) o (by simpa using j) e n listed a w (Region.free_spec d g) (by simpa using k) m p f h
theorem pick{i:Nat}{b:Te}{v:RB}{n:Nat}{listed:Array Bool}{a:TZ}{w:RD}(d:ops[i]? =Ry b)
 (l:Region.noSelect ops=RF) (g:Region.free md ops listed i=RF) (k:(SI md ops listed).contains i=RF) (j:(u == i)=RE)
 (e:∀ c a w,Q (.panic c) (a.put b.dst v) w→Q (.panic c) a w) (m:YieldsIf P ops (fun _=>True) b v a) (f:S w)
 (h:Any P md ops Q S u n (listed.setIfInBounds i RF) (a.put b.dst v) w):Any P md ops Q S u (n+1) listed a w:=
 QT d (Region.noSelect_spec l) (by simpa using j) e n listed a w (Region.free_spec d g) (by simpa using k) (fun _=>f) m h
theorem one{i:Nat}{o:Te}{n:Nat}{listed:Array Bool}{a:TZ}{w:RD}(e:SI md ops listed=[i])(k:ops[i]? =Ry o)
 (h:∀ b:TZ→RD→Prop,RJ (∀ a' w',((listed.setIfInBounds i RF).getD u RF=RE→S w')→Any P md ops Q S u n (listed.setIfInBounds i RF) a' w'→b a' w')→if Sn o (S2 ops a.tmps)=RF then Oper.wp P o a w b Q else b (a.put o.dst SP) w):
 Any P md ops Q S u (n+1) listed a w:=by
 refine⟨fun d=>(by rw[e] at d;cases d),fun l c=>?_⟩;rw[e] at c;simp at c;subst c;exact wpOp_step k fun b j=>h b (fun a' w' f g=>j a' w' ⟨f,g⟩)
theorem done{listed:Array Bool}{a:TZ}{w:RD}(b:SI md ops listed=[])(h:Q .normal a w):∀ n,Any P md ops Q S u n listed a w
 |0=>⟨b,h⟩
 |_+1=>⟨fun _=>h,by rw[b];simp⟩
theorem Eb{id:Nat}{a:TZ}{w:RD}(S:RD→Prop)(u:Nat)(b:P.follows .mixedOrders=RF)
 (h:Any P .any ops Q S u ops.size (SN ops.size RE) a w.drew):(Code.region id ops RF).wp P Q a w:=
 wp_region_any b (JO _ _ _ _ h)
end
end Un
namespace Ec
open Go.RowKit Pk Pm
theorem GS(w:RD)(o p q r:UQ):((((w.alloc o).alloc p).alloc q).alloc r).heap[w.heap.size+3]? =Ry r:=by
 have:=bG (((w.alloc o).alloc p).alloc q) r;rwa [show(((w.alloc o).alloc p).alloc q).heap.size=w.heap.size+3 by simp] at this
theorem ij.below{w w':RD}{base:Nat}{v:RB}{L:List (Bd×RB)}(h:ij w base v L)(a:RQ w.heap.size w w'):ij w' base v L:=
 ⟨aQ h.own a,fun c b=>aQ (h.each c b) a⟩
theorem ij.put{w:RD}{base:Nat}{v:RB}{L:List (Bd×RB)}(h:ij w base v L){g:Nat}{cs:Array RB}{t:RO}(a:w.heap[g]? =Ry (.cells cs t (0,0)))(h1:t≠139)(d:t≠143)(o:Nat)(u:RB):ij (w.setCell ⟨g,o,RA⟩ u) base v L:=
 ⟨h.own.kept (aJ w g o u) (.inr (bw h.own a h1).symm),fun c b=>(h.each c b).kept (aJ w g o u) (.inr (bw (h.each c b) a d).symm)⟩
theorem ij.snoc{w d:RD}{base:Nat}{v v1:RB}{L:List (Bd×RB)}(h:ij w base v L)(k:aK w d v v1){b:Bd}{c:RB}(l:w.ownsRow base 143 8 c b.chunks.length (dx b.chunks))
 (m:d.ownsRow base 139 2 v1 (L ++ [(b,c)]).length (mE (L ++ [(b,c)]))):ij d base v1 (L ++ [(b,c)]):=by
 refine⟨m,fun n a=>?_⟩;have f:∀ {i:RB} {g:Nat} {j:List RB},w.ownsRow base 143 8 i g j→d.ownsRow base 143 8 i g j:=fun e=>
  cZ e k (ox e h.own (by decide))
 rcases SM.1 a with a|a
 ·exact f (h.each n a)
 ·simp at a;subst a;exact f l
theorem Av.sub{w:RD}{ro:Option Sl}{rb bq aI:Nat}{b:List (List aD)}(c:Au w ro rb bq b)(hc:b.length≤aI)(a m:Nat)(i:a<b.length):
 Av w (.slice (Ry ⟨rb,bq+a,RA⟩) ((b.drop a).take m).length (aI - a)) ((b.drop a).take m):=by
 refine⟨_,rb,bq+a,aI - a,rfl,by simp;omega,fun _=>rfl,fun _=>c.lt (by omega),fun d g=>?_⟩;have h:a+d<b.length:=by simp at g;omega
 obtain⟨v,e,f⟩:=c.c (a+d) h;refine⟨v,by rw[SL];exact e,?_⟩;rw[Tj,List.getElem_drop];exact f
structure mM(w W:RD)(cv rv ev:RB)(bd:Int)(bo:Bool)(bv:RB)(L:List (Bd×RB)):Prop where
 NO:W.heap[w.heap.size]? =Ry (.cells #[cv,rv] 46 (0,0))
 opt:W.heap[w.heap.size+1]? =Ry (.cells #[.int .i64 bd,ev,.bool bo] 48 (0,0))
 res:W.heap[w.heap.size+2]? =Ry (.cells #[.slice RA 0 0,.slice RA 0 0,.slice RA 0 0] 105 (0,0))
 box:W.heap[w.heap.size+3]? =Ry (.cells #[cv,ev,bv] 105 (0,0))
 bU:ij W w.heap.size bv L
 fA:RQ w.heap.size w W
theorem mM.below{w b c:RD}{g j i:RB}{d:Int}{e:Bool}{f:RB}{L:List (Bd×RB)}(h:mM w b g j i d e f L)(a:RQ b.heap.size b c):mM w c g j i d e f L:=
 ⟨(a.block _ (RP h.NO)).trans h.NO,(a.block _ (RP h.opt)).trans h.opt,(a.block _ (RP h.res)).trans h.res,(a.block _ (RP h.box)).trans h.box,h.bU.below a,h.fA.trans (a.mono h.fA.size)⟩
theorem mM.cells{w a:RD}{c k d:RB}{f:Int}{g:Bool}{i:RB}{L:List (Bd×RB)}(h:mM w a c k d f g i L):
 (a.cell? ⟨w.heap.size,0,RA⟩=Ry c∧a.cell? ⟨w.heap.size,1,RA⟩=Ry k)∧(a.cell? ⟨w.heap.size+1,0,RA⟩=Ry (.int .i64 f)∧a.cell? ⟨w.heap.size+1,1,RA⟩=Ry d∧a.cell? ⟨w.heap.size+1,2,RA⟩=Ry (.bool g))∧
 (a.cell? ⟨w.heap.size+3,0,RA⟩=Ry c∧a.cell? ⟨w.heap.size+3,1,RA⟩=Ry d∧a.cell? ⟨w.heap.size+3,2,RA⟩=Ry i∧a.frozen? ⟨w.heap.size+3,2,RA⟩=RE):=by
 have j:=h.NO;have e:=h.opt;have b:=h.box;exact⟨⟨by simp[R2,j],by simp[R2,j]⟩,⟨by simp[R2,e],by simp[R2,e],by simp[R2,e]⟩,by simp[R2,b],by simp[R2,b],by simp[R2,b],by simp[SH,b]⟩
theorem mM.kept{w c a:RD}{i l j:RB}{e:Int}{f:Bool}{b g:RB}{L:List (Bd×RB)}(h:mM w c i l j e f b L)(k:aK c a b g):
 a.cell? ⟨w.heap.size+3,2,RA⟩=Ry b∧a.frozen? ⟨w.heap.size+3,2,RA⟩=RE:=by
 have d:=(k.fS.block _ (RP h.box) (bw h.bU.own h.box (by decide))).trans h.box;exact⟨by simp[R2,d],by simp[SH,d]⟩
theorem mM.jv{w f d:RD}{k o l:RB}{g:Int}{i:Bool}{j c:RB}{L:List (Bd×RB)}(h:mM w f k o l g i j L)(a:aK f d j c){b:Bd}{e:RB}(u:f.ownsRow w.heap.size 143 8 e b.chunks.length (dx b.chunks))
 (v:d.ownsRow w.heap.size 139 2 c (L ++ [(b,e)]).length (mE (L ++ [(b,e)]))):mM w (d.setCell ⟨w.heap.size+3,2,RA⟩ c) k o l g i c (L ++ [(b,e)]):=by
 have q:=(a.fS.block _ (RP h.NO) (bw h.bU.own h.NO (by decide))).trans h.NO;have r:=(a.fS.block _ (RP h.opt) (bw h.bU.own h.opt (by decide))).trans h.opt;have s:=(a.fS.block _ (RP h.res) (bw h.bU.own h.res (by decide))).trans h.res;have m:=(a.fS.block _ (RP h.box) (bw h.bU.own h.box (by decide))).trans h.box;have t:=RZ d (w.heap.size+3) 2 _ _ c m;have n:=h.fA.trans (a.below (fun p a=>(h.bU.own.lt p a).1) h.fA.size);refine⟨?_,?_,?_,t,(h.bU.snoc a u v).put m (by decide) (by decide) _ _,eC n n.size (by omega) _ _⟩
 ·rw[R6 _ _ _ _ (by simp)];exact q
 ·rw[R6 _ _ _ _ (by simp)];exact r
 ·rw[R6 _ _ _ _ (by simp)];exact s
theorem mM.Q4{w c a:RD}{g l i:RB}{d:Int}{e:Bool}{f m:RB}{L:List (Bd×RB)}(h:mM w c g l i d e f L)(k:aK c a f m):
 a.cell? ⟨w.heap.size,1,RA⟩=Ry l∧a.cell? ⟨w.heap.size,0,RA⟩=Ry g∧a.cell? ⟨w.heap.size+1,0,RA⟩=Ry (.int .i64 d)∧a.cell? ⟨w.heap.size+1,1,RA⟩=Ry i∧a.cell? ⟨w.heap.size+1,2,RA⟩=Ry (.bool e):=by
 have j:=(k.fS.block _ (RP h.NO) (bw h.bU.own h.NO (by decide))).trans h.NO;have b:=(k.fS.block _ (RP h.opt) (bw h.bU.own h.opt (by decide))).trans h.opt;exact⟨by simp[R2,j],by simp[R2,j],by simp[R2,b],by simp[R2,b],by simp[R2,b]⟩
theorem mM.LC{w a:RD}{e g f:RB}{b:Int}{c:Bool}{d:RB}{L:List (Bd×RB)}(h:mM w a e g f b c d L):
 a.cell? ⟨w.heap.size+3,2,RA⟩=Ry d∧a.cell? ⟨w.heap.size,1,RA⟩=Ry g∧a.cell? ⟨w.heap.size,0,RA⟩=Ry e∧a.cell? ⟨w.heap.size+1,0,RA⟩=Ry (.int .i64 b)∧a.cell? ⟨w.heap.size+1,1,RA⟩=Ry f∧a.cell? ⟨w.heap.size+1,2,RA⟩=Ry (.bool c):=by
 obtain⟨⟨m,n⟩,⟨j,k,l⟩,o,p,i,q⟩:=h.cells;exact⟨i,n,m,j,k,l⟩
theorem GB(w:RD)(b:Bd)(a:RB)(t:RO):∀ (j:Nat) (u:RB),(kN (b,a))[j]? =Ry u→(w.alloc (.cells (kN (b,a)).toArray t)).cell? ((⟨w.heap.size,0,RA⟩:Sl).add j)=Ry u:=
 World.news_of_block (bG w _)
theorem aa.F9:((aa.of Rz).info? 139).map (fun i=>(i.zero,i.size,i.bytes))=Ry (Ry (.agg #[.int .i64 0,.slice RA 0 0]),2,32):=by kernel_rfl
theorem gC{b:List (List aD)}{a k:Nat}:(dI b a k).length=min a (b.length - k*a):=by simp[dI]
theorem ED(c:List (List aD))(cs:List bO)(es:List Int)(a:Nat)(f:Bool)(cc C D:RB)(w:RD)(T:1≤a)(dq:a≤100)(dC:c.length≤2000)(b4:∀ r∈c,r.length=cs.length)(b0:∀ r∈c,∀ x∈r,D5 x)(U:cs.length≤8)(bv:es.length=cs.length)
 (cx:Av w cc c) (bu:yy w C cs) (bx:qi w D es):
 Sc (aa.of Rz) 43 #[.agg #[C,cc],.agg #[.int .i64 (a:Int),D,.bool f]] w fun e w'=>∃ h L,e= .returned (.agg #[C,D,h])∧L.map Sb=dh c cs es f a (eY c.length a)∧ij w' w.heap.size h L∧RQ w.heap.size w w':=by
 obtain⟨c4,co,c1,c2,c3⟩:=S3 aa.F9;have a6:RJ (yy w C cs):=bu;have a7:RJ (qi w D es):=bx;have R:RJ (∀ d b,RQ w.heap.size w d→b*a<c.length→∀ P,Av d P (dI c a b)→Sc (aa.of Rz) 60 #[P,C,.agg #[.int .i64 (a:Int),D,.bool f]] d fun e w'=>∃ v,e= .returned (.agg #[.int .i64 ((dI c a b).length:Int),v])∧w'.ownsRow d.heap.size 143 8 v cs.length (dx (cE (dI c a b) cs es f cs.length))∧RQ d.heap.size d w'):=fun d b bs V P n=>
  D7 (dI c a b) cs es a f P C D d (by rw[gC];omega) (fun r Z=>b4 r (List.mem_of_mem_drop (Uc Z))) (fun r Z=>b0 r (List.mem_of_mem_drop (Uc Z))) U bv n (a6.out.below bs) (a7.out.lower bs)
 obtain⟨G,o,bq,aI,rfl,cv,F⟩:=cx;obtain⟨i,dc,bk,aF,rfl,dr,-⟩:=bu;obtain⟨k,dd,df,j,rfl,-,-,-⟩:=bx;have S:RJ (Au w G o bq c):=F;clear b4 b0 F a6 a7 bv;go_enter aa.func43,Tryz.ntmps43
 go_upto_region 2 with fail
 have br:mM w ((((w.alloc (.cells #[.slice i cs.length aF,.slice G c.length aI] 46)).alloc (.cells #[.int .i64 (a:Int),.slice k es.length j,.bool f] 48)).alloc (.cells #[.slice RA 0 0,.slice RA 0 0,.slice RA 0 0] 105)).alloc (.cells #[.slice i cs.length aF,.slice k es.length j,.slice RA 0 0] 105)) (.slice i cs.length aF) (.slice G c.length aI) (.slice k es.length j) a f (.slice RA 0 0) []:=by
  refine⟨alloc_old _ (by simp;omega) (alloc_old _ (by simp;omega) (alloc_old _ (by simp) (bG w _))),alloc_old _ (by simp) (alloc_old _ (by simp) (jz w _ _)),alloc_old _ (by simp) (zk w _ _ _),GS w _ _ _ _,⟨T6 _ _ _ _,fun dO cu=>by simp at cu⟩,?_⟩;exact((jB _ _).alloc (by simp;omega) _).alloc (by simp;omega) _
 generalize (((w.alloc (.cells #[.slice i cs.length aF,.slice G c.length aI] 46)).alloc (.cells #[.int .i64 (a:Int),.slice k es.length j,.bool f] 48)).alloc (.cells #[.slice RA 0 0,.slice RA 0 0,.slice RA 0 0] 105)).alloc (.cells #[.slice i cs.length aF,.slice k es.length j,.slice RA 0 0] 105)=da at*
 go_wp2_with fail
 go_loopw [6] (fun ab wr=>∃ (b:Nat) (h:RB) (L:List (Bd×RB)),b≤eY c.length a∧ab= .int .i64 ((b*a:Nat):Int)∧L.map Sb=dh c cs es f a b∧mM w wr (.slice i cs.length aF) (.slice G c.length aI) (.slice k es.length j) a f h L) (fun ab _=>c.length+200 - (SC ab).toNat)
 case atStart=>exact⟨0,_,[],Sk _,by simp,rfl,br⟩
 case round=>
  clear br;obtain⟨b,h,L,V,rfl,bo,l⟩:=hrel;have bc:RJ (mM w wr (.slice i cs.length aF) (.slice G c.length aI) (.slice k es.length j) a f h L):=l;have J:RJ (L.map Sb=dh c cs es f a b):=bo;have a9:RJ (b≤eY c.length a):=V;clear bo V;by_cases O:b*a<c.length
  ·have cf:RJ (b<eY c.length a):=(oz (by omega) b).1 O;have cl:RJ ((b+1)*a=b*a+a):=Nat.succ_mul b a;have a5:RJ ((dI c a b).length=min a (c.length - b*a)):=gC;have F:=S.out.below l.fA;obtain rfl:=F.addr (by omega);have be:RJ (Av wr (.slice (Ry ⟨o,bq+b*a,RA⟩) (dI c a b).length (aI - b*a)) (dI c a b)):=Av.sub F cv (b*a) a O;have a4:RJ (Sc (aa.of Rz) 60 #[.slice (Ry ⟨o,bq+b*a,RA⟩) (dI c a b).length (aI - b*a),.slice i cs.length aF,.agg #[.int .i64 (a:Int),.slice k es.length j,.bool f]] wr.drew fun e w'=>∃ v,e= .returned (.agg #[.int .i64 ((dI c a b).length:Int),v])∧w'.ownsRow wr.heap.size 143 8 v cs.length (dx (cE (dI c a b) cs es f cs.length))∧RQ wr.heap.size wr w'):=by
    refine(R.out wr.drew b l.fA.drew O _ (be.out.below (R5 _ _).drew)).mono ?_;rintro e w' ⟨v,E,n,M⟩;exact⟨v,E,n,(R5 _ _).drew.trans M⟩
   obtain⟨⟨am,ao⟩,⟨ad,ae,al⟩,bi,bj,bl,bm⟩:=l.cells;have cR:=l.fA.size;clear l F R S;generalize b2:(dI c a b).length=s at*;have ci:RJ ((dI c a b).length=s):=b2;clear b2;generalize bA:b*a=q at*;have ce:RJ (b*a=q):=bA;clear bA;have U:=a5.out;have dt:((q:Nat):Int)<(c.length:Int):=by omega
   obtain⟨A,ca⟩:∃ A:Nat,A=q+s:=⟨_,rfl⟩;have c0:min ((q:Int)+(a:Int)) (c.length:Int)=(A:Int):=by omega
   have E:((q:Nat):Int)≤(A:Int):=by omega
   have n:((A:Nat):Int)≤(aI:Int):=by omega
   have c9:RJ (A=q+s):=ca;have ds:A - q=s:=by omega
   have dv:¬ aI=q:=by omega
   clear ca U a5;have bb:RJ (L.length=b):=by
    show _=_;rw[← Sy (f:=Sb),J.out,mD]
   have du:b≤2000:=by have:=Nat.le_mul_of_pos_right b (show 0<a by omega);have:=ce.out;omega
   go_upto_region 6 with fail
   clear c0;refine Un.Eb (fun d=>d.cell? ⟨w.heap.size+3,2,RA⟩=Ry h∧d.cell? ⟨w.heap.size,1,RA⟩=Ry (.slice (Ry ⟨o,bq,RA⟩) c.length aI)∧d.cell? ⟨w.heap.size,0,RA⟩=Ry (.slice i cs.length aF)∧d.cell? ⟨w.heap.size+1,0,RA⟩=Ry (.int .i64 (a:Int))∧d.cell? ⟨w.heap.size+1,1,RA⟩=Ry (.slice k es.length j)∧d.cell? ⟨w.heap.size+1,2,RA⟩=Ry (.bool f)) 14 (by kernel_rfl) ?_;have I:(fun d=>d.cell? ⟨w.heap.size+3,2,RA⟩=Ry h∧d.cell? ⟨w.heap.size,1,RA⟩=Ry (.slice (Ry ⟨o,bq,RA⟩) c.length aI)∧d.cell? ⟨w.heap.size,0,RA⟩=Ry (.slice i cs.length aF)∧d.cell? ⟨w.heap.size+1,0,RA⟩=Ry (.int .i64 (a:Int))∧d.cell? ⟨w.heap.size+1,1,RA⟩=Ry (.slice k es.length j)∧d.cell? ⟨w.heap.size+1,2,RA⟩=Ry (.bool f)) wr.drew:=by go_keep
   refine Un.pick (i:=0) (v:=?_) rfl (by kernel_rfl) (by kernel_rfl) (by kernel_rfl) (by kernel_rfl) (fun _ _ _ g=>g) (UD ⟨by rfl,?_⟩) (by assumption) ?_;rotate_left
   ·intro w _;go_simp
    try with_reducible rfl
   try simp only[Tc,R1,Sj,Sg]
   refine Un.take (i:=1) (v:=?_) rfl (by kernel_rfl) (by kernel_rfl) (by kernel_rfl) (by kernel_rfl) (by kernel_rfl) (by kernel_rfl) (fun _ _ _ g=>g) (UD ⟨by rfl,?_⟩) (by assumption) ?_;rotate_left
   ·intro w z;(try dsimp only at z);go_simp
    try with_reducible rfl
   try simp only[Tc,R1,Sj,Sg]
   refine Un.pick (i:=2) (v:=?_) rfl (by kernel_rfl) (by kernel_rfl) (by kernel_rfl) (by kernel_rfl) (fun _ _ _ g=>g) (UD ⟨by rfl,?_⟩) (by assumption) ?_;rotate_left
   ·intro w _;go_simp
    try with_reducible rfl
   try simp only[Tc,R1,Sj,Sg]
   refine Un.take (i:=3) (v:=?_) rfl (by kernel_rfl) (by kernel_rfl) (by kernel_rfl) (by kernel_rfl) (by kernel_rfl) (by kernel_rfl) (fun _ _ _ g=>g) (UD ⟨by rfl,?_⟩) (by assumption) ?_;rotate_left
   ·intro w z;(try dsimp only at z);go_simp
    try with_reducible rfl
   try simp only[Tc,R1,Sj,Sg]
   refine Un.pick (i:=4) (v:=?_) rfl (by kernel_rfl) (by kernel_rfl) (by kernel_rfl) (by kernel_rfl) (fun _ _ _ g=>g) (UD ⟨by rfl,?_⟩) (by assumption) ?_;rotate_left
   ·intro w _;go_simp
    try with_reducible rfl
   try simp only[Tc,R1,Sj,Sg]
   refine Un.pick (i:=5) (v:=?_) rfl (by kernel_rfl) (by kernel_rfl) (by kernel_rfl) (by kernel_rfl) (fun _ _ _ g=>g) (UD ⟨by rfl,?_⟩) (by assumption) ?_;rotate_left
   ·intro w _;go_simp
    try with_reducible rfl
   try simp only[Tc,R1,Sj,Sg]
   refine Un.pick (i:=6) (v:=?_) rfl (by kernel_rfl) (by kernel_rfl) (by kernel_rfl) (by kernel_rfl) (fun _ _ _ g=>g) (UD ⟨by rfl,?_⟩) (by assumption) ?_;rotate_left
   ·intro w _;go_simp
    try with_reducible rfl
   try simp only[Tc,R1,Sj,Sg]
   refine Un.pick (i:=7) (v:=?_) rfl (by kernel_rfl) (by kernel_rfl) (by kernel_rfl) (by kernel_rfl) (fun _ _ _ g=>g) (UD ⟨by rfl,?_⟩) (by assumption) ?_;rotate_left
   ·intro w _;go_simp
    try with_reducible rfl
   try simp only[Tc,R1,Sj,Sg]
   refine Un.take (i:=8) (v:=?_) rfl (by kernel_rfl) (by kernel_rfl) (by kernel_rfl) (by kernel_rfl) (by kernel_rfl) (by kernel_rfl) (fun _ _ _ g=>g) (UD ⟨by rfl,?_⟩) (by assumption) ?_;rotate_left
   ·intro w z;(try dsimp only at z);go_simp
    try with_reducible rfl
   try simp only[Tc,R1,Sj,Sg]
   refine Un.take (i:=9) (v:=?_) rfl (by kernel_rfl) (by kernel_rfl) (by kernel_rfl) (by kernel_rfl) (by kernel_rfl) (by kernel_rfl) (fun _ _ _ g=>g) (UD ⟨by rfl,?_⟩) (by assumption) ?_;rotate_left
   ·intro w z;(try dsimp only at z);go_simp
    try with_reducible rfl
   try simp only[Tc,R1,Sj,Sg]
   refine Un.one (i:=10) (by kernel_rfl) rfl (fun y m=>?_);rw[if_pos (by rfl)];go_simp;go_at_call 60;refine a4.out.mono ?_;rintro e B ⟨v,rfl,W,T⟩;obtain⟨u,t,rfl⟩:=dA W;have p:RJ (mM w B (.slice i cs.length aF) (.slice (Ry ⟨o,bq,RA⟩) c.length aI) (.slice k es.length j) a f h L):=bc.out.below T;have ba:RJ (B.ownsRow w.heap.size 143 8 (.slice u cs.length t) cs.length (dx (cE (dI c a b) cs es f cs.length))):=bz W cR;refine m.out _ _ (fun _=>p.out.LC) ?_;clear m y I W T a4 be am ao ad ae al bi bj bl bm
   try simp only[Tc,R1,Sj,Sg]
   have I:(fun d=>d.cell? ⟨w.heap.size+3,2,RA⟩=Ry h∧d.cell? ⟨w.heap.size,1,RA⟩=Ry (.slice (Ry ⟨o,bq,RA⟩) c.length aI)∧d.cell? ⟨w.heap.size,0,RA⟩=Ry (.slice i cs.length aF)∧d.cell? ⟨w.heap.size+1,0,RA⟩=Ry (.int .i64 (a:Int))∧d.cell? ⟨w.heap.size+1,1,RA⟩=Ry (.slice k es.length j)∧d.cell? ⟨w.heap.size+1,2,RA⟩=Ry (.bool f)) B:=p.out.LC;refine Un.one (i:=11) (by kernel_rfl) rfl (fun y m=>?_);rw[if_pos (by rfl)];go_simp;have bd:RJ (mM w (B.alloc (.cells (kN (⟨s,cE (dI c a b) cs es f cs.length⟩,.slice u cs.length t)).toArray 139)) (.slice i cs.length aF) (.slice (Ry ⟨o,bq,RA⟩) c.length aI) (.slice k es.length j) a f h L):=p.out.below ((R5 _ _).alloc (RG _) _);refine m.out _ _ (fun _=>bd.out.LC) ?_;clear m y I
   try simp only[Tc,R1,Sj,Sg]
   refine Un.one (i:=12) (by kernel_rfl) rfl (fun y m=>?_);have X:=p.out.bU.own;rw[bb.out] at X;have dE:w.heap.size≤B.heap.size:=p.out.fA.size;refine step_append_lies _ (by rfl) _ _ 103 (by rfl) w.heap.size 139 c4 _ 2 32 aa.underlying103 co c1 c2 c3 rfl (by decide) h b _ (by rfl) (X.alloc _) ⟨B.heap.size,0,RA⟩ 1 1 (kN (⟨s,cE (dI c a b) cs es f cs.length⟩,.slice u cs.length t)) (by rfl) rfl (GB B _ _ _) (by intro d2 cb;simp[kN] at cb;rcases cb with rfl|rfl<;>rfl) (by decide) (by unfold R3;omega) (by omega) (by simp;omega) _ rfl ?_;intro K H Q Y bB bt cp;have N:=aK.nt (n:=b+1) (cap:=H) bB bt;have b3:Q.ownsRow w.heap.size 139 2 (.slice (Ry ⟨K,0,RA⟩) (b+1) H) (L ++ [((⟨s,cE (dI c a b) cs es f cs.length⟩:Bd),SS u cs.length t)]).length (mE (L ++ [((⟨s,cE (dI c a b) cs es f cs.length⟩:Bd),SS u cs.length t)])):=by
    unfold mE at Y ⊢;rw[SU,SO,RI,bb.out];exact Y
   have a8:RJ (mM w (Q.setCell ⟨w.heap.size+3,2,RA⟩ (.slice (Ry ⟨K,0,RA⟩) (b+1) H)) (.slice i cs.length aF) (.slice (Ry ⟨o,bq,RA⟩) c.length aI) (.slice k es.length j) a f (.slice (Ry ⟨K,0,RA⟩) (b+1) H) (L ++ [((⟨s,cE (dI c a b) cs es f cs.length⟩:Bd),SS u cs.length t)])):=p.out.jv N (by simpa [dn] using ba.out) b3;obtain⟨a3,c8⟩:=p.out.kept N;obtain⟨ar,aw,a0,a1,a2⟩:=p.out.Q4 N;refine m.out _ _ (fun _=>⟨a3,ar,aw,a0,a1,a2⟩) ?_;clear m y X Y bB bt cp b3 N
   try simp only[Tc,R1,Sj,Sg]
   have I:(fun d=>d.cell? ⟨w.heap.size+3,2,RA⟩=Ry h∧d.cell? ⟨w.heap.size,1,RA⟩=Ry (.slice (Ry ⟨o,bq,RA⟩) c.length aI)∧d.cell? ⟨w.heap.size,0,RA⟩=Ry (.slice i cs.length aF)∧d.cell? ⟨w.heap.size+1,0,RA⟩=Ry (.int .i64 (a:Int))∧d.cell? ⟨w.heap.size+1,1,RA⟩=Ry (.slice k es.length j)∧d.cell? ⟨w.heap.size+1,2,RA⟩=Ry (.bool f)) Q:=⟨a3,ar,aw,a0,a1,a2⟩;refine Un.pick (i:=13) (v:=?_) rfl (by kernel_rfl) (by kernel_rfl) (by kernel_rfl) (by kernel_rfl) (fun _ _ _ g=>g) (UD ⟨by rfl,?_⟩) (by assumption) ?_;rotate_left
   ·intro w _;go_simp
    try with_reducible rfl
   try simp only[Tc,R1,Sj,Sg]
   refine Un.one (i:=14) (by kernel_rfl) rfl (fun y m=>?_);rw[if_pos (by rfl)];go_simp;refine m.out _ _ (fun g=>absurd g (by decide)) ?_;clear m y I ar aw a0 a1 a2 a3 c8;refine Un.done (by kernel_rfl) ?_ _
   try simp only[Tc,R1,Sj,Sg]
   clear p bd ba;generalize Q.setCell ⟨w.heap.size+3,2,RA⟩ (.slice (Ry ⟨K,0,RA⟩) (b+1) H)=db at*;obtain⟨⟨am,ao⟩,⟨ad,ae,al⟩,-⟩:=a8.out.cells
   go_wp2_with fail
   go_roundw
   case rel=>exact⟨b+1,_,_,cf.out,by rw[cl.out];go_num,by rw[SQ,J.out,B3,TX];simp[mg,ci.out],a8.out⟩
   case measure=>simp[SC];omega
  ·have b1:b=eY c.length a:=by
    have:=fun g=>O ((oz (show 0<a by omega) b (len:=c.length)).2 g);have n:=a9.out;exact Nat.le_antisymm n (Nat.le_of_not_lt this)
   obtain⟨u,t,rfl⟩:=dA l.bU.own;generalize cn:SS u L.length t=h at l;obtain⟨⟨am,ao⟩,⟨ad,ae,al⟩,bi,bj,bl,bm⟩:=l.cells;have E:=RZ wr (w.heap.size+2) 0 _ _ (.slice i cs.length aF) l.res;have n:=RZ _ (w.heap.size+2) 1 _ _ (.slice k es.length j) E;have M:=RZ _ (w.heap.size+2) 2 _ _ h n;have ck:RJ (ij (((wr.setCell ⟨w.heap.size+2,0,RA⟩ (.slice i cs.length aF)).setCell ⟨w.heap.size+2,1,RA⟩ (.slice k es.length j)).setCell ⟨w.heap.size+2,2,RA⟩ h) w.heap.size h L):=
    ((l.bU.put l.res (by decide) (by decide) _ _).put E (by decide) (by decide) _ _).put n (by decide) (by decide) _ _
   have cd:RJ (RQ w.heap.size w (((wr.setCell ⟨w.heap.size+2,0,RA⟩ (.slice i cs.length aF)).setCell ⟨w.heap.size+2,1,RA⟩ (.slice k es.length j)).setCell ⟨w.heap.size+2,2,RA⟩ h)):=
    b6 (b6 (b6 l.fA (RG _) (by omega) _ _) (RG _) (by omega) _ _) (RG _) (by omega) _ _
   obtain⟨c5,c6,c7⟩:=bR (show _=Ry (Obj.cells #[.slice i cs.length aF,.slice k es.length j,h] 105 (0,0)) from M);obtain⟨dT,d0,d1⟩:=bR l.res;have dk:wr.frozen? ⟨w.heap.size+2,0,RA⟩=RE:=by have:=l.res;simp[SH,this]
   have dl:wr.frozen? ⟨w.heap.size+2,1,RA⟩=RE:=by have:=l.res;simp[SH,this]
   have dp:wr.frozen? ⟨w.heap.size+2,2,RA⟩=RE:=by have:=l.res;simp[SH,this]
   have ch:RJ (L.map Sb=dh c cs es f a (eY c.length a)):=by rw[← b1];exact J.out
   clear E n M l bc R S J a9 b1;subst cn;generalize b*a=q at*;go_wp2;simp[TV,SD,Tryz.results43,go_sem,c5,c6,c7];exact⟨L,ch.out,ck.out,cd.out⟩
def wP (j n:Nat):List Nat:=(Sw j).map fun a=>n / 256 ^ a % 256
theorem Ig(j n:Nat):wP (j+1) n=wP j n ++ [n / 256 ^ j % 256]:=by
 unfold wP;rw[Vf,SQ,TX]
theorem Ie(n:Nat):wP 4 n=gu n:=by
 unfold wP gu;simp[Vf]
theorem AL(n j:Nat):n / 256 ^ j / 256=n / 256 ^ (j+1):=by
 rw[Nat.div_div_eq_div_mul,Uf]
theorem sA(u:RB)(pre:List Nat)(n base:Nat)(w:RD)(z:n<4294967296)(J:pre.length≤100000000000)(H:base≤w.heap.size)
 (d:w.ownsRow base 5 1 u pre.length (ax pre)):
 Sc (aa.of Rz) 59 #[u,.int .i64 (n:Int)] w fun e w'=>∃ i,e= .returned i∧w'.ownsRow base 5 1 i (pre ++ gu n).length (ax (pre ++ gu n))∧aK w w' u i:=by
 obtain⟨E,y,B,C,D⟩:=S3 aa.qu;rw[← Ie];go_enter aa.func59,Tryz.ntmps59
 go_wp2_with fail
 go_loopw [0,1,5] (fun o F h wr=>∃ (a m:Nat) (b:List Nat),a≤4∧h= .int .i64 (a:Int)∧F= .int .i64 (m:Int)∧m<4294967296∧m=n / 256 ^ a∧b=pre ++ wP a n∧wr.ownsRow base 5 1 o b.length (ax b)∧aK w wr u o∧w.heap.size≤wr.heap.size) (fun _ _ h _=>4 - (SC h).toNat)
 case atStart=>exact⟨0,n,pre,by omega,rfl,rfl,z,by simp,by simp[wP],d,aK.refl _ _,RG _⟩
 case round=>
  obtain⟨a,m,b,I,rfl,rfl,L,r,f,d,p,N⟩:=hrel;have k:RJ (m=n / 256 ^ a):=r;have l:RJ (b=pre ++ wP a n):=f;have M:b.length≤100000000004:=by rw[f];simp[wP];omega
  have j:RJ (aK w wr u u0):=p;clear r f p;by_cases K:a<4
  ·obtain⟨c,g⟩:∃ c,c=m % 256:=⟨_,rfl⟩;have O:VF.wrap (m:Int)=(c:Int):=by rw[g];simp[IntKind.wrap,VI,Vq]
   have v:RJ (c=m % 256):=g;clear g
   go_wp2_with (at_builtin;refine aL _ rfl _ _ 133 rfl base 5 E (.int .u8 0) 1 1 aa.underlying133 y B C D rfl (by decide) _ b.length _ rfl (d.alloc _) ⟨wr.heap.size,0,RA⟩ 1 1 [.int .u8 (c:Int)] rfl (by decide) rfl (ga _ _ _) (iy _) (by unfold R3;omega) (by omega) (by simp;omega) ?_;intro P G s x)
   have q:=j.out.trans (aK.append x);have A:w.heap.size≤G.heap.size:=q.fS.size;rw[ey] at s;refine⟨⟨a+1,m / 256,b ++ [c],by omega,by go_num,by go_num,by omega,?_,?_,by simpa using s,q,A⟩,by simp[SC];omega⟩
   ·rw[k.out];exact AL n a
   ·rw[l.out,v.out,k.out,Ig,R9]
  ·obtain rfl:a=4:=by omega
   have t:RJ (wr.ownsRow base 5 1 u0 (pre ++ wP 4 n).length (ax (pre ++ wP 4 n))):=by show World.ownsRow _ _ _ _ _ _ _;rw[← l.out];exact d
   clear d;go_wp2;go_ret;exact⟨_,rfl,t.out,j.out⟩
theorem su(u:RB)(pre:List Nat)(b:kL)(k:Int)(base:Nat)(w:RD)(P:k=1∨k=2∨k=3)(T:mN b.least)(a3:mN b.most)(a6:pre.length≤3000000)(t:base≤w.heap.size)
 (z:w.ownsRow base 5 1 u pre.length (ax pre)):
 Sc (aa.of Rz) 85 #[u,Ei b,.int .i64 k] w fun e w'=>∃ f,e= .returned f∧w'.ownsRow base 5 1 f (pre ++ bL k b).length (ax (pre ++ bL k b))∧aK w w' u f:=by
 obtain⟨X,O,U,V,W⟩:=S3 aa.qu;have S:u.ownBlock≠Ry w.heap.size:=fun s=>by have:=(z.lt _ s).2;omega
 obtain⟨ad,a,c⟩:=b;unfold Ei;cases ad
 ·rw[show bL k ⟨RE,a,c⟩=[0] from rfl];go_enter aa.func85,Tryz.ntmps85
  go_wp2_with (at_builtin;refine aL _ rfl _ _ 133 rfl base 5 X (.int .u8 0) 1 1 aa.underlying133 O U V W rfl (by decide) _ pre.length _ rfl ((z.alloc _).alloc _) ⟨w.heap.size+1,0,RA⟩ 1 1 [.int .u8 ((0:Nat):Int)] rfl (by decide) rfl (by simpa using ga (w.alloc _) _ _) (iy _) (by unfold R3;omega) (by omega) (by simp;omega) ?_;intro K C R ar)
  go_ret;have F:aK w C u K:=aK.box (aK.append ar);rw[ey] at R;exact⟨_,rfl,by simpa using R,F⟩
 ·rw[show bL k ⟨RF,a,c⟩=[1] ++ (aR k a ++ aR k c) from rfl,← R9,← R9];have a1:=jS k a T.sz;have Y:RJ (∀ d v,d.ownsRow base 5 1 v (pre ++ [1]).length (ax (pre ++ [1]))→base≤d.heap.size→Sc (aa.of Rz) 122 #[v,.agg #[.bool a.null,.int .i64 a.n,.string a.s],.int .i64 k] d fun e w'=>∃ f,e= .returned f∧w'.ownsRow base 5 1 f (pre ++ [1] ++ aR k a).length (ax (pre ++ [1] ++ aR k a))∧aK d w' v f):=fun d v H t=>
   gN v (pre ++ [1]) a k base d P T (by simp;omega) t H
  have Z:RJ (∀ d v,d.ownsRow base 5 1 v (pre ++ [1] ++ aR k a).length (ax (pre ++ [1] ++ aR k a))→base≤d.heap.size→Sc (aa.of Rz) 122 #[v,.agg #[.bool c.null,.int .i64 c.n,.string c.s],.int .i64 k] d fun e w'=>∃ f,e= .returned f∧w'.ownsRow base 5 1 f (pre ++ [1] ++ aR k a ++ aR k c).length (ax (pre ++ [1] ++ aR k a ++ aR k c))∧aK d w' v f):=fun d v H t=>
   gN v (pre ++ [1] ++ aR k a) c k base d P a3 (by simp;omega) t H
  have am:base≤(w.alloc (.cells (fo ⟨RF,a,c⟩) 141)).heap.size:=by simp;omega
  generalize al:pre ++ [1] ++ aR k a ++ aR k c=a5 at*;generalize ae:pre ++ [1] ++ aR k a=a4 at*;clear ae al a1;go_enter aa.func85,Tryz.ntmps85
  go_upto_region 1 with fail
  have I:=z.alloc (.cells (fo ⟨RF,a,c⟩) 141);have D:(w.alloc (.cells (fo ⟨RF,a,c⟩) 141)).heap[w.heap.size]? =Ry (.cells (fo ⟨RF,a,c⟩) 141 (0,0)):=bG _ _;have G:aK w (w.alloc (.cells (fo ⟨RF,a,c⟩) 141)) u u:=(aK.refl w u).alloc _;unfold fo at I D G am;generalize w.alloc (.cells #[.bool RF,.bool a.null,.int .i64 a.n,.string a.s,.bool c.null,.int .i64 c.n,.string c.s] 141)=h at*;have L:RJ (aK w h u u):=G;have E:h.heap[w.heap.size]? =Ry (.cells (fo ⟨RF,a,c⟩) 141 (0,0)):=D;generalize w.heap.size=g at*;obtain⟨⟨l,m,n,o,p,q,r⟩,-⟩:=dG E;have j:RJ (h.heap[g]? =Ry (.cells (fo ⟨RF,a,c⟩) 141 (0,0))):=E;clear D E z G
  go_upto_region 4 with(at_builtin;refine aL _ rfl _ _ 133 rfl base 5 X (.int .u8 0) 1 1 aa.underlying133 O U V W rfl (by decide) _ pre.length _ rfl (I.alloc _) ⟨h.heap.size,0,RA⟩ 1 1 [.int .u8 ((1:Nat):Int)] rfl (by decide) rfl (ga _ _ _) (iy _) (by unfold R3;omega) (by omega) (by simp;omega) ?_;intro A B J N)
  have i:aK h B u A:=aK.append N;rw[ey] at J;have Q:B.ownsRow base 5 1 A (pre ++ [1]).length (ax (pre ++ [1])):=by simpa using J
  have x:B.heap[g]? =Ry (.cells (fo ⟨RF,a,c⟩) 141 (0,0)):=(i.fS.block g (RP j.out) (fun e=>S e.symm)).trans j.out;have a7:=i.fS.size;have a2:A.ownBlock≠Ry g:=fun e=>by
   rcases i.at_ g e with s|s
   ·exact S s
   ·have:=RP j.out;omega
  have M:RJ (aK w B u A):=L.out.trans i;clear l m n o p q r J N i j L I;obtain⟨⟨l,m,n,o,p,q,r⟩,-⟩:=dG x
  go_upto_region 5 with(go_at_call 122;refine(Y.out _ _ Q (by omega)).mono ?_;rintro e C ⟨K,rfl,aw,y⟩)
  have ao:C.heap[g]? =Ry (.cells (fo ⟨RF,a,c⟩) 141 (0,0)):=(y.fS.block g (RP x) (fun e=>a2 e.symm)).trans x;have a8:=y.fS.size;have ab:RJ (aK w C u K):=M.out.trans y;clear l m n o p q r M y Q x;obtain⟨⟨l,m,n,o,p,q,r⟩,-⟩:=dG ao
  go_wp2_with (go_at_call 122;refine(Z.out _ _ aw (by omega)).mono ?_;rintro e ba ⟨a9,rfl,a0,F⟩)
  go_ret;exact⟨_,rfl,a0,ab.out.trans F⟩
theorem gL(n:Nat):(aA n).length≤10:=by unfold aA;exact dL 10 n
theorem Eg(k:Int)(b:kL)(h1:b.least.s.size≤32)(a:b.most.s.size≤32):(bL k b).length≤85:=by
 have c:=jS k b.least h1;have d:=jS k b.most a;unfold bL
 split
 ·simp only[RI,TA,List.length_nil];omega
 ·simp
theorem rC{α:Type}(f:α→List Nat)(m:Nat)(l:List α)(h:∀ x∈l,(f x).length≤m):(l.flatMap f).length≤l.length*m:=by
 induction l with
 |nil=>simp
 |cons x g b=>
  rw[Ui,RI,TA,Nat.succ_mul];have d:=h x (by simp);have e:=b (fun c a=>h c (by simp[a]));omega
structure vE(n:Nat)(b:Bd):Prop where
 rows:b.rows<2147483648
 len:b.chunks.length=n
 size:∀ c∈b.chunks,c.text.size<2147483648
 least:∀ c∈b.chunks,mN c.dU.least
 most:∀ c∈b.chunks,mN c.dU.most
theorem MM{l:List ju}{i:Nat}(h:i<l.length):l.getD i ⟨⟨#[]⟩,bZ⟩∈l:=by
 rw[RX,RS h];exact RV h
theorem Iv{n:Nat}{b:Bd}(h:vE n b)(cs:List bO){i:Nat}(c:i<b.chunks.length):(qA cs b.chunks i).length≤95:=by
 have a:=MM c;have d:=gL (b.chunks.getD i ⟨⟨#[]⟩,bZ⟩).text.size;have e:=Eg (cs.getD i ⟨⟨#[]⟩,0⟩).kind (b.chunks.getD i ⟨⟨#[]⟩,bZ⟩).dU (h.least _ a).sz (h.most _ a).sz;unfold qA;rw[RI];omega
theorem xe{n:Nat}{b:Bd}(h:vE n b)(cs:List bO)(k:Nat)(c:k≤b.chunks.length):(ek cs b.chunks k).length≤k*95:=by
 have:=rC (qA cs b.chunks) 95 (Sw k) (fun d a=>Iv h cs (by have:=Tg.1 a;omega));simpa [ek] using this
theorem GV{n:Nat}{b:Bd}(h:vE n b)(e:n≤8)(cs:List bO):(dW cs b).length≤770:=by
 have a:=xe h cs b.chunks.length (RG _);have c:=gL b.rows;have d:=h.len;unfold dW;rw[RI];omega
theorem vR{n:Nat}{bs:List Bd}(h:∀ b∈bs,vE n b)(c:n≤8)(cs:List bO):(cA cs bs).length≤bs.length*770:=
 rC (dW cs) 770 bs (fun b a=>GV (h b a) c cs)
theorem J4{cs:List bO}{es:List Int}(h:∀ c∈cs,c.name.size≤16){i:Nat}(a:i<cs.length):(AI cs es i).length≤28:=by
 have b:=gL (cs.getD i ⟨⟨#[]⟩,0⟩).name.size;have d:=h _ (by rw[RX,RS a];exact RV a:cs.getD i ⟨⟨#[]⟩,0⟩∈cs);unfold AI;rw[RI,RI,ai];simp only[TA,List.length_nil];omega
theorem sP{cs:List bO}{es:List Int}(h:∀ c∈cs,c.name.size≤16)(k:Nat)(b:k≤cs.length):(gY cs es k).length≤k*28:=by
 have:=rC (AI cs es) 28 (Sw k) (fun d a=>J4 h (by have:=Tg.1 a;omega));simpa [gY] using this
structure fR(w W:RD)(cv ev bv u:RB)(pre:List Nat):Prop where
 box:W.heap[w.heap.size]? =Ry (.cells #[cv,ev,bv] 105 (0,0))
 own:W.ownsRow w.heap.size 5 1 u pre.length (ax pre)
 fA:RQ w.heap.size w W
theorem fR.alloc{w a:RD}{c d b u:RB}{pre:List Nat}(h:fR w a c d b u pre)(o:UQ):fR w (a.alloc o) c d b u pre:=
 ⟨alloc_old o (RP h.box) h.box,h.own.alloc o,h.fA.alloc h.fA.size o⟩
theorem fR.drew{w a:RD}{c d b u:RB}{pre:List Nat}(h:fR w a c d b u pre):fR w a.drew c d b u pre:=
 ⟨h.box,aQ h.own (R5 _ _).drew,h.fA.drew⟩
theorem fR.jv{w e b:RD}{g i f u d:RB}{pre c:List Nat}(h:fR w e g i f u pre)(a:aK e b u d)(k:b.ownsRow w.heap.size 5 1 d c.length (ax c)):fR w b g i f d c:=
 ⟨(a.fS.block _ (RP h.box) (bw h.own h.box (by decide))).trans h.box,k,h.fA.trans (a.below (fun j a=>(h.own.lt j a).1) h.fA.size)⟩
theorem fR.cells{w a:RD}{c d b u:RB}{pre:List Nat}(h:fR w a c d b u pre):a.cell? ⟨w.heap.size,0,RA⟩=Ry c∧a.cell? ⟨w.heap.size,1,RA⟩=Ry d∧a.cell? ⟨w.heap.size,2,RA⟩=Ry b:=bR h.box
theorem fR.zC{w a c:RD}{e f d u k:RB}{pre:List Nat}(h:fR w a e f d u pre)(i:aK a c u k){g:Nat}{cs:Array RB}{t:RO}(b:a.heap[g]? =Ry (.cells cs t (0,0)))(j:t≠5):c.heap[g]? =Ry (.cells cs t (0,0)):=
 (i.fS.block _ (RP b) (bw h.own b j)).trans b
theorem lX{w:RD}{g:Nat}{a b:RB}{t:RO}(h:w.heap[g]? =Ry (.cells #[a,b] t (0,0))):w.cell? ⟨g,0,RA⟩=Ry a∧w.cell? ⟨g,1,RA⟩=Ry b:=by
 refine⟨?_,?_⟩<;>simp[R2,h]
theorem GC(w:RD)(a b:RB)(t:RO):∀ (j:Nat) (u:RB),[a,b][j]? =Ry u→(w.alloc (.cells #[a,b] t)).cell? ((⟨w.heap.size,0,RA⟩:Sl).add j)=Ry u:=
 World.news_of_block (bG w _)
theorem iu(a b:List Nat):ax (a ++ b)=ax a ++ ax b:=by simp[ax]
theorem sx(cs:List bO)(es:List Int)(bs:List Bd)(c8 c9 c6:RB)(w:RD)(f0:cs.length≤8)(dq:es.length=cs.length)(ch:∀ c∈cs,c.name.size≤16)(dC:∀ c∈cs,c.kind=1∨c.kind=2∨c.kind=3)(g0:bs.length≤2000)(dc:∀ b∈bs,vE cs.length b)
 (f1:yy w c8 cs) (f3:qi w c9 es) (fx:∃ base L,L.map Sb=bs∧ij w base c6 L):
 Sc (aa.of Rz) 58 #[.slice RA 0 0,.agg #[c8,c9,c6]] w fun e w'=>∃ a0,e= .returned a0∧w'.ownsRow w.heap.size 5 1 a0 (iX cs es bs).length (ax (iX cs es bs))∧RQ w.heap.size w w':=by
 obtain⟨ee,du,d8,d9,eb⟩:=S3 aa.qu;obtain⟨base,L,b1,b0⟩:=fx;have f4:=Ox.cm pu b0.own;obtain⟨p,C,D,i,rfl,ad⟩:=f4;obtain⟨m,l,bk,aF,rfl,g1,E⟩:=f1;obtain⟨j,n,t,g,rfl,dk,dl,dp⟩:=f3;have bc:RJ (qI w m l bk cs):=E;have cR:RJ (0<es.length→j=Ry ⟨n,t,RA⟩):=dk;have c0:RJ (0<es.length→n<w.heap.size):=dl;have c1:RJ (∀ cl,cl<es.length→w.cell? ⟨n,t+cl,RA⟩=Ry (.int .i64 (es.getD cl 0))):=dp;have e1:RJ (es.length=cs.length):=dq;have bt:RJ (∀ c∈cs,c.name.size≤16):=ch;have e5:RJ (∀ c∈cs,c.kind=1∨c.kind=2∨c.kind=3):=dC;have cu:RJ (∀ b∈bs,vE cs.length b):=dc;have e7:RJ (L.map Sb=bs):=b1;have a3:RJ (L.length=bs.length):=by show _=_;rw[← b1,Sy]
 have e3:RJ (Ar w kN 2 p C D L):=ad;have e0:RJ (∀ cn∈L,w.ownsRow base 143 8 cn.2 cn.1.chunks.length (dx cn.1.chunks)):=b0.each;have g5:L.length≤2000:=by have:=a3.out;omega
 clear E dk dl dp dq ch dC dc b1 ad b0;go_enter aa.func58,Tryz.ntmps58
 go_upto_region 1 with fail
 have a5:fR w (w.alloc (.cells #[.slice m cs.length aF,.slice j es.length g,.slice p L.length i] 105)) (.slice m cs.length aF) (.slice j es.length g) (.slice p L.length i) (.slice RA 0 0) []:=
  ⟨bG _ _,T6 _ _ _ _,(R5 _ _).alloc (RG _) _⟩
 generalize w.alloc (.cells #[.slice m cs.length aF,.slice j es.length g,.slice p L.length i] 105)=bx at*;obtain⟨H,I,J⟩:=a5.cells;have r:RJ (Sc (aa.of Rz) 84 #[.slice RA 0 0,.int .i64 (cs.length:Int)] bx fun e w'=>∃ k,e= .returned k∧w'.ownsRow w.heap.size 5 1 k ([] ++ aA cs.length).length (ax ([] ++ aA cs.length))∧aK bx w' (.slice RA 0 0) k):=cz _ [] cs.length w.heap.size bx (by omega) (by simp) a5.fA.size a5.own
 go_upto_region 2 with(go_at_call 84;refine r.out.mono ?_;rintro e gi ⟨gg,rfl,dT,dr⟩)
 have B:RJ (fR w gi (.slice m cs.length aF) (.slice j es.length g) (.slice p L.length i) gg (aA cs.length ++ gY cs es 0)):=by
  have ab:=a5.jv dr dT;rw[List.nil_append] at ab;show fR _ _ _ _ _ _ _;rw[show gY cs es 0=[] from rfl,Ud];exact ab
 clear a5 H I J r dT dr;obtain⟨H,I,J⟩:=B.out.cells
 go_wp2_with fail
 clear H I J
 go_loopw [0,19] (fun aw d wr=>∃ a:Nat,a≤cs.length∧d= .int .i64 (a:Int)∧fR w wr (.slice m cs.length aF) (.slice j es.length g) (.slice p L.length i) aw (aA cs.length ++ gY cs es a)) (fun _ d _=>cs.length - (SC d).toNat)
 case atStart=>exact⟨0,Sk _,rfl,B.out⟩
 case round=>
  rename RD=>wr
  clear B;obtain⟨a,dv,rfl,h⟩:=hrel;have x:RJ (fR w wr (.slice m cs.length aF) (.slice j es.length g) (.slice p L.length i) u0 (aA cs.length ++ gY cs es a)):=h;have d5:w.heap.size≤wr.heap.size:=h.fA.size;by_cases G:a<cs.length
  ·have f6:a<es.length:=by rw[e1.out];exact G
   have E:=bc.out.below h.fA;obtain rfl:=E.addr (by omega);obtain rfl:=cR.out (by omega);have ar:=E.c0 a G;have bl:=E.c1 a G;have br:RJ (n<w.heap.size):=c0.out (by omega);have cx:RJ (w.cell? ⟨n,t+a,RA⟩=Ry (.int .i64 (es.getD a 0))):=c1.out a f6;have bd:RJ (aA cs.length ++ gY cs es (a+1)=aA cs.length ++ gY cs es a ++ aA cs[a].name.size ++ bytesOf cs[a].name ++ [byteOf cs[a].kind,byteOf (es.getD a 0)]):=by
    show _=_;rw[vZ];unfold AI;rw[RX (l:=cs),RS G];simp
   have ch:=bt.out cs[a] (RV G);have d3:(aA cs.length ++ gY cs es a).length≤300:=by
    have be:=gL cs.length;have bB:=sP (es:=es) bt.out a dv;rw[RI];omega
   have g4:(a:Int)<(es.length:Int):=by omega
   generalize fz:cs[a]=c at*;generalize f2:es.getD a 0=N at*;generalize a7:aA cs.length ++ gY cs es a=pre at*;clear E fz f2 a7 h
   go_upto_region 5 with fail
   have q:=x.out.alloc (.cells #[.string c.name,.int .i64 c.kind] 63);have F:(wr.alloc (.cells #[.string c.name,.int .i64 c.kind] 63)).heap[wr.heap.size]? =Ry (.cells #[.string c.name,.int .i64 c.kind] 63 (0,0)):=bG _ _;generalize wr.alloc (.cells #[.string c.name,.int .i64 c.kind] 63)=M at*;have B:RJ (fR w M (.slice (Ry ⟨l,bk,RA⟩) cs.length aF) (.slice (Ry ⟨n,t,RA⟩) es.length g) (.slice p L.length i) u0 pre):=q;generalize wr.heap.size=bA at*;obtain⟨R,S⟩:=lX F;have r:RJ (Sc (aa.of Rz) 84 #[u0,.int .i64 (c.name.size:Int)] M fun e w'=>∃ k,e= .returned k∧w'.ownsRow w.heap.size 5 1 k (pre ++ aA c.name.size).length (ax (pre ++ aA c.name.size))∧aK M w' u0 k):=cz _ pre c.name.size w.heap.size M (by omega) (by omega) q.fA.size q.own;clear q ar bl x
   go_upto_region 6 with(go_at_call 84;refine r.out.mono ?_;rintro e a2 ⟨bb,rfl,W,K⟩)
   have ao:=B.out.zC K F (by decide);have y:RJ (fR w a2 (.slice (Ry ⟨l,bk,RA⟩) cs.length aF) (.slice (Ry ⟨n,t,RA⟩) es.length g) (.slice p L.length i) bb (pre ++ aA c.name.size)):=B.out.jv K W;clear W K B r F R S;obtain⟨R,S⟩:=lX ao;have g8:=gL c.name.size;have f8:(pre ++ aA c.name.size).length≤310:=by rw[RI];omega
   generalize a7:pre ++ aA c.name.size=v at*;have a6:=y.out.own;have ec:w.heap.size≤a2.heap.size:=y.out.fA.size
   go_upto_region 7 with(at_builtin;refine ew _ rfl _ _ 133 9 rfl w.heap.size 5 ee aa.underlying133 aa.underlying9 du d8 d9 eb _ v.length _ rfl a6 c.name rfl (by unfold R3;omega) (by omega) ec ?_;intro bo T ci cc)
   have b4:=y.out.zC cc ao (by decide);have al:RJ (fR w T (.slice (Ry ⟨l,bk,RA⟩) cs.length aF) (.slice (Ry ⟨n,t,RA⟩) es.length g) (.slice p L.length i) bo (v ++ bytesOf c.name)):=y.out.jv cc (by
    rw[jo] at ci;rw[RI,ai,iu];exact ci)
   clear ci cc y ao R S a6 ec;obtain⟨R,S⟩:=lX b4;obtain⟨H,I,J⟩:=al.out.cells;have fu:T.cell? ⟨n,t+a,RA⟩=Ry (.int .i64 N):=(al.out.fA.cell (p:=⟨n,t+a,RA⟩) br.out).trans cx.out;have gv:bA<T.heap.size:=RP b4;have gx:w.heap.size<T.heap.size:=RP al.out.box;have gy:n<T.heap.size:=by have:=br.out;omega
   have f9:(v ++ bytesOf c.name).length≤330:=by rw[RI,ai];omega
   have e8:RJ (aA cs.length ++ gY cs es (a+1)=v ++ bytesOf c.name ++ [byteOf c.kind,byteOf N]):=by show _=_;rw[bd.out]
   have gc:VF.wrap c.kind=(byteOf c.kind:Int):=lB c.kind;have ge:VF.wrap N=(byteOf N:Int):=lB N;clear a7 bd;generalize v ++ bytesOf c.name=A at*;have a6:=al.out.own
   go_region_held3 (fun s=>s.cell? ⟨bA,1,RA⟩=Ry (.int .i64 c.kind)∧s.cell? ⟨w.heap.size,1,RA⟩=Ry (.slice (Ry ⟨n,t,RA⟩) es.length g)∧s.cell? ⟨n,t+a,RA⟩=Ry (.int .i64 N)) (first|go_keep|exact⟨ef,a9,ba⟩)
    ((refine step_append_lies _ (by rfl) _ _ 133 (by rfl) w.heap.size 5 ee _ 1 1 aa.underlying133 du d8 d9 eb rfl (by decide) bo A.length _ (by rfl) ((aQ a6 (R5 _ _).drew).alloc _) ⟨T.heap.size,0,RA⟩ 2 2 [.int .u8 (byteOf c.kind:Int),.int .u8 (byteOf N:Int)] (by rfl) rfl (GC T.drew _ _ _) (by intro aw d7;simp at d7;rcases d7 with rfl|rfl<;>rfl) (by decide) (by unfold R3;omega) (by omega) (by simp;omega) _ rfl ?_;intro da c7 co d0 dt db f7;have cd:aK T co bo (.slice (Ry ⟨da,0,RA⟩) (A.length+2) c7):=((aK.refl T bo).drewN 1).trans (aK.nt dt db);have dd:=al.out.zC cd b4 (by decide);have bu:RJ (fR w co (.slice (Ry ⟨l,bk,RA⟩) cs.length aF) (.slice (Ry ⟨n,t,RA⟩) es.length g) (.slice p L.length i) (.slice (Ry ⟨da,0,RA⟩) (A.length+2) c7) (A ++ [byteOf c.kind,byteOf N])):=al.out.jv cd (by rw[RI,iu];exact d0);have ef:=(lX dd).2;have a9:=bu.out.cells.2.1;have ba:co.cell? ⟨n,t+a,RA⟩=Ry (.int .i64 N):=(bu.out.fA.cell (p:=⟨n,t+a,RA⟩) br.out).trans cx.out))
   clear d0 dt db f7 cd dd ef a9 ba a6 gc ge R S H I J fu
   go_wp2_with fail
   go_roundw
   case rel=>exact⟨a+1,by omega,by go_num,by rw[e8.out];exact bu.out⟩
   case measure=>simp[SC];omega
  ·obtain rfl:a=cs.length:=by omega
   have d3:(aA cs.length ++ gY cs es cs.length).length≤300:=by
    have be:=gL cs.length;have bB:=sP (es:=es) bt.out cs.length (RG _);rw[RI];omega
   have e2:RJ (iX cs es bs=aA cs.length ++ gY cs es cs.length ++ aA bs.length ++ cA cs (bs.take L.length)):=by
    show _=_;rw[a3.out,SR];unfold iX;simp
   have c2:RJ (aA cs.length ++ gY cs es cs.length ++ aA bs.length=aA cs.length ++ gY cs es cs.length ++ aA bs.length ++ cA cs (bs.take 0)):=by
    show _=_;simp[cA]
   generalize aA cs.length ++ gY cs es cs.length=pre at*;obtain⟨H,I,J⟩:=h.cells;have r:RJ (Sc (aa.of Rz) 84 #[u0,.int .i64 (L.length:Int)] wr fun e w'=>∃ k,e= .returned k∧w'.ownsRow w.heap.size 5 1 k (pre ++ aA L.length).length (ax (pre ++ aA L.length))∧aK wr w' u0 k):=cz _ pre L.length w.heap.size wr (by omega) (by omega) h.fA.size h.own;clear h
   go_upto_region 10 with(go_at_call 84;refine r.out.mono ?_;rintro e a2 ⟨bb,rfl,W,K⟩)
   have y:RJ (fR w a2 (.slice m cs.length aF) (.slice j es.length g) (.slice p L.length i) bb (pre ++ aA bs.length ++ cA cs (bs.take 0))):=by
    have ab:=x.out.jv K W;rw[a3.out] at ab;show fR _ _ _ _ _ _ _;rw[← c2.out];rw[a3.out];exact ab
   have f8:(pre ++ aA bs.length).length≤310:=by have:=gL bs.length;rw[RI];omega
   clear W K x r H I J c2 cR c0 c1;generalize pre ++ aA bs.length=v at*;obtain⟨H,I,J⟩:=y.out.cells
   go_wp2_with fail
   clear H I J
   go_loopw [0,54] (fun aw d wr=>∃ a:Nat,a≤L.length∧d= .int .i64 (a:Int)∧fR w wr (.slice m cs.length aF) (.slice j es.length g) (.slice p L.length i) aw (v ++ cA cs (bs.take a))) (fun _ d _=>L.length - (SC d).toNat)
   case atStart=>exact⟨0,Sk _,rfl,y.out⟩
   case round=>
    rename RD=>U
    clear y;obtain⟨a,dv,rfl,h⟩:=hrel;have x:RJ (fR w U (.slice m cs.length aF) (.slice j es.length g) (.slice p L.length i) u0 (v ++ cA cs (bs.take a))):=h;have d5:w.heap.size≤U.heap.size:=h.fA.size;by_cases G:a<L.length
    ·have dO:a<bs.length:=by rw[← a3.out];exact G
     have ad:=e3.out.below h.fA;obtain rfl:=ad.addr (by omega);have ar:U.cell? ⟨C,D+a*2,RA⟩=Ry (.int .i64 (L[a].1.rows:Int)):=ad.c a G 0 _ rfl;have bl:U.cell? ⟨C,D+a*2+1,RA⟩=Ry L[a].2:=ad.c a G 1 _ rfl;have b3:L[a].1=bs[a]:=by
      have:=e7.out;have bB:(L.map Sb)[a]'(by simpa using G)=bs[a]:=by simp only[this]
      simpa using bB
     have c3:RJ (w.ownsRow base 143 8 L[a].2 bs[a].chunks.length (dx bs[a].chunks)):=by have:=e0.out L[a] (RV G);rw[b3] at this;exact this
     have Y:RJ (vE cs.length bs[a]):=cu.out bs[a] (RV dO);have bd:RJ (v ++ cA cs (bs.take (a+1))=v ++ cA cs (bs.take a) ++ aA bs[a].rows ++ ek cs bs[a].chunks bs[a].chunks.length):=by
      show _=_;rw[B2 cs bs a dO];unfold dW;simp
     have d3:(v ++ cA cs (bs.take a)).length≤1540310:=by
      have be:=vR (bs:=bs.take a) (fun b b2=>cu.out b (Uc b2)) f0 cs;rw[RI];rw[Tb] at be;omega
     rw[b3] at ar;obtain⟨a8,O,Q,bj,dE,u⟩:=Ox.cm sX c3.out;rw[dE] at bl;have e6:RJ (Ar w cH 8 a8 O Q bs[a].chunks):=u;have g2:bs[a].chunks.length≤8:=by have:=Y.out.len;omega
     have d4:=Y.out.rows;generalize b2:bs[a]=b at*;generalize a7:v ++ cA cs (bs.take a)=pre at*;clear ad b3 b2 a7 h c3 u dE
     go_upto_region 13 with fail
     have q:=x.out.alloc (.cells #[.int .i64 (b.rows:Int),.slice a8 b.chunks.length bj] 139);have F:(U.alloc (.cells #[.int .i64 (b.rows:Int),.slice a8 b.chunks.length bj] 139)).heap[U.heap.size]? =Ry (.cells #[.int .i64 (b.rows:Int),.slice a8 b.chunks.length bj] 139 (0,0)):=bG _ _;generalize U.alloc (.cells #[.int .i64 (b.rows:Int),.slice a8 b.chunks.length bj] 139)=M at*;have B:RJ (fR w M (.slice m cs.length aF) (.slice j es.length g) (.slice (Ry ⟨C,D,RA⟩) L.length i) u0 pre):=q;generalize U.heap.size=bA at*;obtain⟨R,S⟩:=lX F;have r:RJ (Sc (aa.of Rz) 84 #[u0,.int .i64 (b.rows:Int)] M fun e w'=>∃ k,e= .returned k∧w'.ownsRow w.heap.size 5 1 k (pre ++ aA b.rows).length (ax (pre ++ aA b.rows))∧aK M w' u0 k):=cz _ pre b.rows w.heap.size M d4 (by omega) q.fA.size q.own;clear q ar bl x d4
     go_upto_region 14 with(go_at_call 84;refine r.out.mono ?_;rintro e a2 ⟨bb,rfl,W,K⟩)
     have ao:=B.out.zC K F (by decide);have y:RJ (fR w a2 (.slice m cs.length aF) (.slice j es.length g) (.slice (Ry ⟨C,D,RA⟩) L.length i) bb (pre ++ aA b.rows ++ ek cs b.chunks 0)):=by
      have ab:=B.out.jv K W;show fR _ _ _ _ _ _ _;rw[show ek cs b.chunks 0=[] from rfl,Ud];exact ab
     clear W K B r F R S;obtain⟨R,S⟩:=lX ao;have f9:(pre ++ aA b.rows).length≤1540320:=by have:=gL b.rows;rw[RI];omega
     generalize pre ++ aA b.rows=A at*
     go_wp2_with fail
     clear R S ao
     go_loopw [0,65] (fun aw d wr=>∃ ck:Nat,ck≤b.chunks.length∧d= .int .i64 (ck:Int)∧fR w wr (.slice m cs.length aF) (.slice j es.length g) (.slice (Ry ⟨C,D,RA⟩) L.length i) aw (A ++ ek cs b.chunks ck)) (fun _ d _=>b.chunks.length - (SC d).toNat)
     case atStart=>exact⟨0,Sk _,rfl,y.out⟩
     case round=>
      rename RD=>o
      clear y;obtain⟨d,f5,rfl,h⟩:=hrel;have x:RJ (fR w o (.slice m cs.length aF) (.slice j es.length g) (.slice (Ry ⟨C,D,RA⟩) L.length i) u0 (A ++ ek cs b.chunks d)):=h;have d5:w.heap.size≤o.heap.size:=h.fA.size;by_cases z:d<b.chunks.length
      ·have bi:d<cs.length:=by have:=Y.out.len;omega
       have E:=bc.out.below h.fA;obtain rfl:=E.addr (by omega);have gf:=E.c1 d bi;have u:=e6.out.below h.fA;obtain rfl:=u.addr (by omega);have ar:o.cell? ⟨O,Q+d*8,RA⟩=Ry (.string b.chunks[d].text):=u.c d z 0 _ rfl;have gj:o.cell? ⟨O,Q+d*8+1,RA⟩=Ry (.bool b.chunks[d].dU.there):=u.c d z 1 _ rfl;have gl:o.cell? ⟨O,Q+d*8+2,RA⟩=Ry (.bool b.chunks[d].dU.least.null):=u.c d z 2 _ rfl;have gn:o.cell? ⟨O,Q+d*8+3,RA⟩=Ry (.int .i64 b.chunks[d].dU.least.n):=u.c d z 3 _ rfl;have gq:o.cell? ⟨O,Q+d*8+4,RA⟩=Ry (.string b.chunks[d].dU.least.s):=u.c d z 4 _ rfl;have gr:o.cell? ⟨O,Q+d*8+5,RA⟩=Ry (.bool b.chunks[d].dU.most.null):=u.c d z 5 _ rfl;have gs:o.cell? ⟨O,Q+d*8+6,RA⟩=Ry (.int .i64 b.chunks[d].dU.most.n):=u.c d z 6 _ rfl;have gt:o.cell? ⟨O,Q+d*8+7,RA⟩=Ry (.string b.chunks[d].dU.most.s):=u.c d z 7 _ rfl;have c5:RJ (A ++ ek cs b.chunks (d+1)=A ++ ek cs b.chunks d ++ aA b.chunks[d].text.size ++ bL cs[d].kind b.chunks[d].dU):=by
        show _=_;rw[uj];unfold qA;rw[RX (l:=cs),RS bi,RX (l:=b.chunks),RS z];simp
       have g7:(A ++ ek cs b.chunks d).length≤1542000:=by
        have be:=xe Y.out cs d f5;rw[RI];omega
       have d6:=Y.out.size _ (RV z);have fa:RJ (mN b.chunks[d].dU.least):=Y.out.least _ (RV z);have fb:RJ (mN b.chunks[d].dU.most):=Y.out.most _ (RV z);have e4:RJ (cs[d].kind=1∨cs[d].kind=2∨cs[d].kind=3):=e5.out _ (RV bi);have cv:RJ (l<w.heap.size):=bc.out.lt (by omega);have c4:RJ (w.cell? ⟨l,bk+d*2+1,RA⟩=Ry (.int .i64 cs[d].kind)):=bc.out.c1 d bi;have g3:(d:Int)<(cs.length:Int):=by omega
       generalize b.chunks[d]=f at*;generalize cs[d].kind=P at*;generalize A ++ ek cs b.chunks d=X at*;clear E u h gf
       go_upto_region 17 with fail
       have q:=x.out.alloc (.cells (cH f).toArray 143);have F:(o.alloc (.cells (cH f).toArray 143)).heap[o.heap.size]? =Ry (.cells (cH f).toArray 143 (0,0)):=bG _ _;rw[show(cH f).toArray=#[.string f.text,.bool f.dU.there,.bool f.dU.least.null,.int .i64 f.dU.least.n,.string f.dU.least.s,.bool f.dU.most.null,.int .i64 f.dU.most.n,.string f.dU.most.s] from rfl] at q F;generalize o.alloc (.cells #[.string f.text,.bool f.dU.there,.bool f.dU.least.null,.int .i64 f.dU.least.n,.string f.dU.least.s,.bool f.dU.most.null,.int .i64 f.dU.most.n,.string f.dU.most.s] 143)=a4 at*;have bv:RJ (fR w a4 (.slice (Ry ⟨l,bk,RA⟩) cs.length aF) (.slice j es.length g) (.slice (Ry ⟨C,D,RA⟩) L.length i) u0 X):=q;have ca:a4.heap[o.heap.size]? =Ry (.cells (cH f).toArray 143 (0,0)):=F;generalize o.heap.size=Z at*;have r:RJ (Sc (aa.of Rz) 84 #[u0,.int .i64 (f.text.size:Int)] a4 fun e w'=>∃ k,e= .returned k∧w'.ownsRow w.heap.size 5 1 k (X ++ aA f.text.size).length (ax (X ++ aA f.text.size))∧aK a4 w' u0 k):=cz _ X f.text.size w.heap.size a4 d6 (by omega) q.fA.size q.own;clear q ar gj gl gn gq gr gs gt x d6 F;obtain⟨⟨fd,-⟩,-⟩:=jD ca
       go_upto_region 18 with(go_at_call 84;refine r.out.mono ?_;rintro e ae ⟨a1,rfl,d1,ce⟩)
       have cb:=bv.out.zC ce ca (by decide);have am:RJ (fR w ae (.slice (Ry ⟨l,bk,RA⟩) cs.length aF) (.slice j es.length g) (.slice (Ry ⟨C,D,RA⟩) L.length i) a1 (X ++ aA f.text.size)):=bv.out.jv ce d1;have e9:RJ (A ++ ek cs b.chunks (d+1)=X ++ aA f.text.size ++ bL P f.dU):=c5.out;have g6:(X ++ aA f.text.size).length≤1542010:=by have:=gL f.text.size;rw[RI];omega
       clear d1 ce bv r ca fd c5;generalize X ++ aA f.text.size=bm at*;have eQ:RJ (Sc (aa.of Rz) 85 #[a1,.agg #[.bool f.dU.there,.bool f.dU.least.null,.int .i64 f.dU.least.n,.string f.dU.least.s,.bool f.dU.most.null,.int .i64 f.dU.most.n,.string f.dU.most.s],.int .i64 P] ae.drew fun e w'=>∃ a0,e= .returned a0∧w'.ownsRow w.heap.size 5 1 a0 (bm ++ bL P f.dU).length (ax (bm ++ bL P f.dU))∧aK ae.drew w' a1 a0):=
        su a1 bm f.dU P w.heap.size ae.drew e4.out fa.out fb.out (by omega) am.out.fA.size am.out.drew.own
       obtain⟨⟨-,fe,fg,fi,fk,fl,fm,ft⟩,-⟩:=jD cb;obtain⟨H,I,J⟩:=am.out.cells;have fv:ae.cell? ⟨l,bk+d*2+1,RA⟩=Ry (.int .i64 P):=(am.out.fA.cell (p:=⟨l,bk+d*2+1,RA⟩) cv.out).trans c4.out
       go_region_held3 (fun s=>s.cell? ⟨Z,1,RA⟩=Ry (.bool f.dU.there)∧s.cell? ⟨Z,2,RA⟩=Ry (.bool f.dU.least.null)∧s.cell? ⟨Z,3,RA⟩=Ry (.int .i64 f.dU.least.n)∧s.cell? ⟨Z,4,RA⟩=Ry (.string f.dU.least.s)∧s.cell? ⟨Z,5,RA⟩=Ry (.bool f.dU.most.null)∧s.cell? ⟨Z,6,RA⟩=Ry (.int .i64 f.dU.most.n)∧s.cell? ⟨Z,7,RA⟩=Ry (.string f.dU.most.s)∧s.cell? ⟨w.heap.size,0,RA⟩=Ry (.slice (Ry ⟨l,bk,RA⟩) cs.length aF)∧s.cell? ⟨l,bk+d*2+1,RA⟩=Ry (.int .i64 P)) (first|go_keep|exact⟨a9,ba,eh,el,em,en,eo,eq,er⟩)
        ((go_at_call 85;refine eQ.out.mono ?_;rintro e cp ⟨et,rfl,d2,ds⟩;have cf:aK ae cp a1 et:=((aK.refl ae a1).drewN 1).trans ds;have df:=am.out.zC cf cb (by decide);have V:RJ (fR w cp (.slice (Ry ⟨l,bk,RA⟩) cs.length aF) (.slice j es.length g) (.slice (Ry ⟨C,D,RA⟩) L.length i) et (bm ++ bL P f.dU)):=am.out.jv cf d2;obtain⟨⟨-,a9,ba,eh,el,em,en,eo⟩,-⟩:=jD df;have eq:=V.out.cells.1;have er:cp.cell? ⟨l,bk+d*2+1,RA⟩=Ry (.int .i64 P):=(V.out.fA.cell (p:=⟨l,bk+d*2+1,RA⟩) cv.out).trans c4.out))
       clear d2 ds cf df a9 ba eh el em en eo eq er fe fg fi fk fl fm ft H I J fv cb
       go_wp2_with fail
       go_roundw
       case rel=>exact⟨d+1,by omega,by go_num,by rw[e9.out];exact V.out⟩
       case measure=>simp[SC];omega
      ·obtain rfl:d=b.chunks.length:=by omega
       have V:RJ (fR w o (.slice m cs.length aF) (.slice j es.length g) (.slice (Ry ⟨C,D,RA⟩) L.length i) u0 (v ++ cA cs (bs.take (a+1)))):=by show fR _ _ _ _ _ _ _;rw[bd.out];exact h
       clear h x
       go_wp2_with fail
       go_roundw
       case rel=>exact⟨a+1,by omega,by go_num,V.out⟩
       case measure=>simp[SC];omega
    ·obtain rfl:a=L.length:=by omega
     have V:RJ (fR w U (.slice m cs.length aF) (.slice j es.length g) (.slice p L.length i) u0 (iX cs es bs)):=by show fR _ _ _ _ _ _ _;rw[e2.out];exact h
     clear h x
     go_wp2_with fail
     go_ret;exact⟨_,rfl,V.out.own,V.out.fA⟩
def yB (w:RD)(base:Nat)(v:RB)(pre:List Nat):Prop:=
 w.ownsRow base 5 1 v pre.length (ax pre)∨(pre=de∧∃ a,v= .slice (Ry ⟨a,0,RA⟩) 4 4∧base≤a∧w.heap[a]? =Ry (.cells (ax de).toArray 5 (4,5)))
theorem yB.lt{w:RD}{base:Nat}{v:RB}{pre:List Nat}(h:yB w base v pre):∀ g,v.ownBlock=Ry g→base≤g∧g<w.heap.size:=by
 rcases h with h|⟨-,g,rfl,b,c⟩
 ·exact h.lt
 ·intro d a;simp[Tf] at a;subst a;exact⟨b,(RH.1 c).1⟩
theorem yB.zC{w:RD}{base:Nat}{v:RB}{pre:List Nat}(h:yB w base v pre){g:Nat}{cs:Array RB}{t:RO}(b:w.heap[g]? =Ry (.cells cs t (0,0)))(d:t≠5):Ry g≠v.ownBlock:=by
 rcases h with h|⟨-,e,rfl,-,c⟩
 ·exact bw h b d
 ·intro a;simp[Tf] at a;subst a;rw[b] at c;simp at c
theorem yB.below{w w':RD}{base:Nat}{v:RB}{pre:List Nat}(h:yB w base v pre)(b:RQ w.heap.size w w'):yB w' base v pre:=by
 rcases h with h|⟨d,c,e,f,a⟩
 ·exact .inl (aQ h b)
 ·exact .inr ⟨d,c,e,f,(b.block _ (RH.1 a).1).trans a⟩
theorem wS{w:RD}{g:Nat}(h:w.heap[g]? =Ry (.cells (ax de).toArray 5 (4,5))):∀ j u,(ax de)[j]? =Ry u→w.cell? ((⟨g,0,RA⟩:Sl).add j)=Ry u:=by
 have:=World.news_of_block h;simpa using this
theorem qh{P:RM}(w:RD){ops:Array Te}{rest:List Te}{o:Te}{a:TZ}{Q:Exit→TZ→RD→Prop}(j:o.guard=RA)(sl x:SG)(t u:RO)
 (m:o.op= .call {callee:=.builtin .append,args:= #[sl,x],argTypes:= #[t,u]})
 (base:Nat) (i:Ur) (q:P.underlying t=Ry (.slice 5)) (r:P.underlying u=Ry .string) (k:P.info? 5=Ry i) (z:i.zero=Ry (.int .u8 0))
 (p:i.size=1) (g:i.bytes=1) (v:RB) (pre:List Nat) (n:a.eval sl=v) (d:yB w base v pre) (s:ByteArray) (y:a.eval x= .string s) (N:0<s.size)
 (b:pre.length+s.size≤R3) (C:pre.length+s.size≤140737488355328) (f:base≤w.heap.size)
 (h:∀ e w',w'.ownsRow base 5 1 e (pre.length+s.size) (ax pre ++ Lib.strCells s)→aK w w' v e→wpList P ops Q rest (a.put o.dst e) w'):wpList P ops Q (o :: rest) a w:=by
 rcases d with d|⟨rfl,A,rfl,M,E⟩
 ·exact ew w j sl x t u m base 5 i q r k z p g v pre.length _ n d s y b C f h
 ·refine wpList_plain j fun K B=>?_;have L:4+s.size≤9223372036854775807:=by have:de.length=4:=rfl;unfold R3 at b;omega
  have H:=Lib.run_append_grow_string (P:=P) w t u o.type 5 i (.int .u8 0) q r k z ⟨A,0,RA⟩ 4 4 (ax de) (by rw[p];rfl) (wS E) s (by omega) (by omega) (by rw[g];exact growslice_fits (by omega) (by have:de.length=4:=rfl;omega));unfold Oper.wp Sd;simp only[m,Vj,invoke,builtin,Ue,Sem.run_pure,Result.andThen_ok,List.map_toArray,UP,List.map_nil,n,y,H];refine B _ _ (h _ _ ?_ ?_)
  ·have F:=grownCap_ge w (4+s.size) 4 5;have D:grownCap w (4+s.size) 4 5≤R3:=grownCap_le_maxLen w (4+s.size) 4 5 b;have l:(ax de ++ Lib.strCells s).length=(4+s.size)*1:=by rw[RI,Lib.strCells_length,Vs];rfl
   refine⟨l,.inr ⟨w.heap.size,_,_,rfl,f,TN w.drew _,F,D,?_,?_⟩⟩
   ·have I:(TW VF 0).cells.size=1:=rfl;have G:(ax de).length=4:=rfl;simp only[Array.size_append,List.size_toArray,size_zeroCells,I,G,Lib.strCells_length];omega
   ·simp only[Array.toList_append,R9];rw[← R9];show List.take ((4+s.size)*1) _=_;rw[← l];exact List.take_left
  ·refine⟨⟨rfl,rfl,rfl,by simp,fun J c _=>alloc_old (w:=w.drew) _ c rfl⟩,fun J c=>?_⟩;simp[Tf] at c;exact .inr (by omega)
theorem vi{P:RM}(w:RD){ops:Array Te}{rest:List Te}{o:Te}{a:TZ}{Q:Exit→TZ→RD→Prop}(A:o.guard=RA)(sl x:SG)(t:RO)
 (D:o.op= .call {callee:=.builtin .append,args:= #[sl,x],argTypes:= #[t,t]})
 (base:Nat) (i:Ur) (G:P.underlying t=Ry (.slice 5)) (B:P.info? 5=Ry i) (I:i.zero=Ry (.int .u8 0))
 (F:i.size=1) (z:i.bytes=1) (v:RB) (pre:List Nat) (E:a.eval sl=v) (p:yB w base v pre) (l:Sl) (c:Nat) (b:List Nat) (H:a.eval x= .slice (Ry l) b.length c) (N:0<b.length)
 (hc:∀ j u,(ax b)[j]? =Ry u→w.cell? (l.add j)=Ry u)
 (K:pre.length+b.length≤R3) (S:pre.length+b.length≤140737488355328) (y:base≤w.heap.size)
 (h:∀ d w',w'.ownsRow base 5 1 d (pre ++ b).length (ax (pre ++ b))→aK w w' v d→wpList P ops Q rest (a.put o.dst d) w'):wpList P ops Q (o :: rest) a w:=by
 have r:∀ u∈ax b,u.oneCell'=RF:=by
  intro u O;obtain⟨U,-,rfl⟩:=S5.1 O;rfl
 have C:(ax b).length=b.length*1:=by simp[ax]
 have q:∀ (d:RB) (w':RD),w'.ownsRow base 5 1 d (pre.length+b.length) (ax pre ++ ax b)→w'.ownsRow base 5 1 d (pre ++ b).length (ax (pre ++ b)):=fun d w' M=>by
  rw[RI,iu];exact M
 rcases p with p|⟨rfl,J,rfl,s,L⟩
 ·refine aL w A sl x t D base 5 i (.int .u8 0) 1 1 G B I F z rfl (by decide) v pre.length _ E p l b.length c (ax b) H N C hc r K (by omega) y ?_;intro d w' m g;refine h d w' (q _ _ m) ?_;rcases g with⟨k,n⟩|⟨k,n⟩
  ·exact⟨⟨k.os,k.tape,k.output,k.size,fun f e _=>k.block f e (by simp)⟩,fun f e=>.inr (n.lt f e).1⟩
  ·exact⟨n,fun f e=>.inl (by rw[← k];exact e)⟩
 ·have T:de.length=4:=rfl;refine wpList_append_grows w A sl x t D 5 i (.int .u8 0) 1 1 G B I F z rfl (by decide) (Ry ⟨J,0,RA⟩) 4 4 (ax de) E (fun h=>by cases h) rfl (fun R s=>by cases s;exact wS L) l b.length c (ax b) H C hc r (by omega) (by omega) (by omega) ?_;intro d w' m g;refine h d w' (q _ _ (bz m y)) ⟨⟨g.os,g.tape,g.output,g.size,fun f e _=>g.block f e (by simp)⟩,fun f e=>.inr (m.lt f e).1⟩
structure kE(w W:RD)(cv ev bv u:RB)(pre:List Nat):Prop where
 box:W.heap[w.heap.size]? =Ry (.cells #[cv,ev,bv] 105 (0,0))
 own:yB W w.heap.size u pre
 fA:RQ w.heap.size w W
theorem kE.below{w a c:RD}{e f d u:RB}{pre:List Nat}(h:kE w a e f d u pre)(b:RQ a.heap.size a c):kE w c e f d u pre:=
 ⟨(b.block _ (RP h.box)).trans h.box,h.own.below b,h.fA.trans (b.mono h.fA.size)⟩
theorem kE.alloc{w a:RD}{c d b u:RB}{pre:List Nat}(h:kE w a c d b u pre)(o:UQ):kE w (a.alloc o) c d b u pre:=h.below ((R5 _ _).alloc (RG _) o)
theorem kE.jv{w e b:RD}{g i f u d:RB}{pre c:List Nat}(h:kE w e g i f u pre)(a:aK e b u d)(k:b.ownsRow w.heap.size 5 1 d c.length (ax c)):kE w b g i f d c:=
 ⟨(a.fS.block _ (RP h.box) (h.own.zC h.box (by decide))).trans h.box,.inl k,h.fA.trans (a.below (fun j a=>(h.own.lt j a).1) h.fA.size)⟩
theorem kE.cells{w a:RD}{c d b u:RB}{pre:List Nat}(h:kE w a c d b u pre):a.cell? ⟨w.heap.size,0,RA⟩=Ry c∧a.cell? ⟨w.heap.size,1,RA⟩=Ry d∧a.cell? ⟨w.heap.size,2,RA⟩=Ry b:=bR h.box
theorem DQ(n:Nat):0<(aA n).length:=by
 unfold aA ia
 split<;>simp
theorem L4(l:List ju)(k:Nat):(bN (l.take k)).length≤(bN l).length:=by
 have a:bN l=bN (l.take k) ++ bN (l.drop k):=by
  unfold bN;rw[← SU,Ul]
 rw[a,RI];omega
theorem JS(bs:List Bd)(k:Nat):(bC (bs.take k)).length≤(bC bs).length:=by
 have a:bC bs=bC (bs.take k) ++ bC (bs.drop k):=by
  unfold bC;rw[← SU,Ul]
 rw[a,RI];omega
theorem KI(cs:List bO)(es:List Int)(bs:List Bd)(N O M:RB)(w:RD)(cc:cs.length≤8)(cf:es.length=cs.length)(a0:∀ c∈cs,c.name.size≤16)(cp:∀ c∈cs,c.kind=1∨c.kind=2∨c.kind=3)(dv:bs.length≤2000)(Q:∀ b∈bs,vE cs.length b)(c1:∀ b∈bs,∀ c∈b.chunks,0<c.text.size)(ca:(bC bs).length≤10000000000)
 (cd:yy w N cs) (ch:qi w O es) (b4:∃ base L,L.map Sb=bs∧ij w base M L):
 Sc (aa.of Rz) 42 #[.agg #[N,O,M]] w fun e w'=>e= .returned (.string (strOf (ua cs es bs)))∧RQ w.heap.size w w':=by
 obtain⟨a8,aw,a4,a5,a6⟩:=S3 aa.qu;have br:RJ (∀ z,RQ w.heap.size w z→Sc (aa.of Rz) 58 #[.slice RA 0 0,.agg #[N,O,M]] z fun e w'=>∃ E,e= .returned E∧w'.ownsRow z.heap.size 5 1 E (iX cs es bs).length (ax (iX cs es bs))∧RQ z.heap.size z w'):=fun z am=>
  sx cs es bs N O M z cc cf a0 cp dv Q (cd.below am) (ch.lower am) (by obtain⟨base,L,ad,C⟩:=b4;exact⟨base,L,ad,C.below am⟩)
 have c8:RJ ((iX cs es bs).length≤2000000∧0<(iX cs es bs).length):=by
  have ad:=gL cs.length;have C:=sP (es:=es) a0 cs.length (RG _);have dt:=gL bs.length;have et:=vR Q cc cs;have eQ:=DQ cs.length;show _∧_;unfold iX;simp only[RI];omega
 obtain⟨base,L,al,ae⟩:=b4;have F:=Ox.cm pu ae.own;obtain⟨r,q,s,i,rfl,A⟩:=F;obtain⟨j,el,bk,aF,rfl,e0,-⟩:=cd;obtain⟨l,em,en,k,rfl,-,-,-⟩:=ch;have bu:RJ (L.map Sb=bs):=al;have Z:RJ (L.length=bs.length):=by show _=_;rw[← al,Sy]
 have bt:RJ (Ar w kN 2 r q s L):=A;have bm:RJ (∀ a9∈L,w.ownsRow base 143 8 a9.2 a9.1.chunks.length (dx a9.1.chunks)):=ae.each;have bB:RJ (∀ b∈bs,∀ c∈b.chunks,0<c.text.size):=c1;have bl:RJ (∀ b∈bs,vE cs.length b):=Q;have Y:RJ ((bC bs).length≤10000000000):=ca;have e7:L.length≤2000:=by have:=Z.out;omega
 have d2:∀ (I:UQ) (B:Array RB) (U c:Nat),(convert 133 133 (.slice (Ry ⟨w.heap.size+1,0,RA⟩) U c)).run (aa.of Rz) ((w.alloc I).alloc (.cells B 5))= .ok (.slice (Ry ⟨w.heap.size+1,0,RA⟩) U c) ((w.alloc I).alloc (.cells B 5 (B.size,B.size+1))):=fun I B U c=>by
  have ds:=Lib.run_convert_bytes_const (P:=(aa.of Rz)) (w.alloc I) 133 5 B U c aa.underlying133 aa.underlying5;rwa [show(w.alloc I).heap.size=w.heap.size+1 by simp] at ds
 clear cf a0 cp Q al A ae c1 ca;go_enter aa.func42,Tryz.ntmps42
 go_upto_region 2 with fail
 clear d2;have P:kE w ((w.alloc (.cells #[.slice j cs.length aF,.slice l es.length k,.slice r L.length i] 105)).alloc (.cells (ax de).toArray 5 (4,5))) (.slice j cs.length aF) (.slice l es.length k) (.slice r L.length i) (.slice (Ry ⟨w.heap.size+1,0,RA⟩) 4 4) (de ++ bC (bs.take 0)):=
  ⟨alloc_old _ (by simp) (bG w _),.inr ⟨by simp[bC],w.heap.size+1,rfl,by omega,jz w _ _⟩,jB _ _⟩
 rw[show(ax de).toArray=#[.int .u8 83,.int .u8 84,.int .u8 82,.int .u8 65] from rfl] at P;generalize (w.alloc (.cells #[.slice j cs.length aF,.slice l es.length k,.slice r L.length i] 105)).alloc (.cells #[.int .u8 83,.int .u8 84,.int .u8 82,.int .u8 65] 5 (4,5))=dl at*;obtain⟨bb,bc,bd⟩:=P.cells;have b1:RJ (kE w dl (.slice j cs.length aF) (.slice l es.length k) (.slice r L.length i) (.slice (Ry ⟨w.heap.size+1,0,RA⟩) 4 4) (de ++ bC (bs.take 0))):=P;clear P
 go_wp2_with fail
 clear bb bc bd
 go_loopw [3,14] (fun be a wr=>∃ d:Nat,d≤L.length∧a= .int .i64 (d:Int)∧kE w wr (.slice j cs.length aF) (.slice l es.length k) (.slice r L.length i) be (de ++ bC (bs.take d))) (fun _ a _=>L.length - (SC a).toNat)
 case atStart=>exact⟨0,Sk _,rfl,b1.out⟩
 case round=>
  clear b1;obtain⟨d,e5,rfl,h⟩:=hrel;have o:RJ (kE w wr (.slice j cs.length aF) (.slice l es.length k) (.slice r L.length i) u3 (de ++ bC (bs.take d))):=h;have dT:w.heap.size≤wr.heap.size:=h.fA.size;by_cases G:d<L.length
  ·have R:d<bs.length:=by rw[← Z.out];exact G
   have A:=bt.out.below h.fA;obtain rfl:=A.addr (by omega);have V:wr.cell? ⟨q,s+d*2,RA⟩=Ry (.int .i64 (L[d].1.rows:Int)):=A.c d G 0 _ rfl;have c3:wr.cell? ⟨q,s+d*2+1,RA⟩=Ry L[d].2:=A.c d G 1 _ rfl;have ao:L[d].1=bs[d]:=by
    have:=bu.out;have C:(L.map Sb)[d]'(by simpa using G)=bs[d]:=by simp only[this]
    simpa using C
   have bA:RJ (w.ownsRow base 143 8 L[d].2 bs[d].chunks.length (dx bs[d].chunks)):=by have:=bm.out L[d] (RV G);rw[ao] at this;exact this
   have db:RJ (de ++ bC (bs.take (d+1))=de ++ bC (bs.take d) ++ bN (bs[d].chunks.take bs[d].chunks.length)):=by
    show _=_;rw[vT bs d R,SR,R9]
   have dc:RJ (∀ c∈bs[d].chunks,0<c.text.size):=bB.out _ (RV R);have bv:RJ (∀ a,(de ++ bC (bs.take d) ++ bN (bs[d].chunks.take a)).length≤10000000004):=fun a=>by
    have ad:=L4 bs[d].chunks a;have C:=JS bs (d+1);rw[vT bs d R,RI] at C;have dt:=Y.out;rw[RI,RI];have:de.length=4:=rfl;omega
   have e1:bs[d].chunks.length≤8:=by have:=(bl.out bs[d] (RV R)).len;omega
   rw[ao] at V;obtain⟨H,u,v,T,cu,m⟩:=Ox.cm sX bA.out;rw[cu] at c3;have c9:RJ (Ar w cH 8 H u v bs[d].chunks):=m;generalize du:bs[d]=b at*;generalize a3:de ++ bC (bs.take d)=pre at*;clear A ao du a3 h bA m cu
   go_upto_region 5 with fail
   have x:=o.out.alloc (.cells #[.int .i64 (b.rows:Int),.slice H b.chunks.length T] 139);have D:(wr.alloc (.cells #[.int .i64 (b.rows:Int),.slice H b.chunks.length T] 139)).heap[wr.heap.size]? =Ry (.cells #[.int .i64 (b.rows:Int),.slice H b.chunks.length T] 139 (0,0)):=bG _ _;generalize wr.alloc (.cells #[.int .i64 (b.rows:Int),.slice H b.chunks.length T] 139)=dp at*;have y:RJ (kE w dp (.slice j cs.length aF) (.slice l es.length k) (.slice (Ry ⟨q,s,RA⟩) L.length i) u3 (pre ++ bN (b.chunks.take 0))):=by
    show kE _ _ _ _ _ _ _;rw[show bN (b.chunks.take 0)=[] from rfl,Ud];exact x
   generalize wr.heap.size=eq at*;obtain⟨d3,d4⟩:=lX D;clear x V c3 o
   go_wp2_with fail
   clear d3 d4 D
   go_loopw [3,21] (fun be a wr=>∃ a7:Nat,a7≤b.chunks.length∧a= .int .i64 (a7:Int)∧kE w wr (.slice j cs.length aF) (.slice l es.length k) (.slice (Ry ⟨q,s,RA⟩) L.length i) be (pre ++ bN (b.chunks.take a7))) (fun _ a _=>b.chunks.length - (SC a).toNat)
   case atStart=>exact⟨0,Sk _,rfl,y.out⟩
   case round=>
    rename RD=>g
    clear y;obtain⟨a,e4,rfl,h⟩:=hrel;have o:RJ (kE w g (.slice j cs.length aF) (.slice l es.length k) (.slice (Ry ⟨q,s,RA⟩) L.length i) u3 (pre ++ bN (b.chunks.take a))):=h;have dT:w.heap.size≤g.heap.size:=h.fA.size;by_cases p:a<b.chunks.length
    ·have m:=c9.out.below h.fA;obtain rfl:=m.addr (by omega);have V:g.cell? ⟨u,v+a*8,RA⟩=Ry (.string b.chunks[a].text):=m.c a p 0 _ rfl;have d8:g.cell? ⟨u,v+a*8+1,RA⟩=Ry (.bool b.chunks[a].dU.there):=m.c a p 1 _ rfl;have d9:g.cell? ⟨u,v+a*8+2,RA⟩=Ry (.bool b.chunks[a].dU.least.null):=m.c a p 2 _ rfl;have eb:g.cell? ⟨u,v+a*8+3,RA⟩=Ry (.int .i64 b.chunks[a].dU.least.n):=m.c a p 3 _ rfl;have ec:g.cell? ⟨u,v+a*8+4,RA⟩=Ry (.string b.chunks[a].dU.least.s):=m.c a p 4 _ rfl;have ee:g.cell? ⟨u,v+a*8+5,RA⟩=Ry (.bool b.chunks[a].dU.most.null):=m.c a p 5 _ rfl;have ef:g.cell? ⟨u,v+a*8+6,RA⟩=Ry (.int .i64 b.chunks[a].dU.most.n):=m.c a p 6 _ rfl;have eh:g.cell? ⟨u,v+a*8+7,RA⟩=Ry (.string b.chunks[a].dU.most.s):=m.c a p 7 _ rfl;have b0:RJ (pre ++ bN (b.chunks.take (a+1))=pre ++ bN (b.chunks.take a) ++ bytesOf b.chunks[a].text):=by
      show _=_;rw[FE b.chunks a p,R9]
     have e6:=bv.out a;have dE:=bv.out (a+1);rw[b0.out,RI,ai] at dE;have dO:=dc.out _ (RV p);generalize b.chunks[a]=f at*;generalize pre ++ bN (b.chunks.take a)=c4 at*;clear m h
     go_upto_region 8 with fail
     have x:=o.out.alloc (.cells (cH f).toArray 143);have D:(g.alloc (.cells (cH f).toArray 143)).heap[g.heap.size]? =Ry (.cells (cH f).toArray 143 (0,0)):=bG _ _;rw[show(cH f).toArray=#[.string f.text,.bool f.dU.there,.bool f.dU.least.null,.int .i64 f.dU.least.n,.string f.dU.least.s,.bool f.dU.most.null,.int .i64 f.dU.most.n,.string f.dU.most.s] from rfl] at x D;generalize g.alloc (.cells #[.string f.text,.bool f.dU.there,.bool f.dU.least.null,.int .i64 f.dU.least.n,.string f.dU.least.s,.bool f.dU.most.null,.int .i64 f.dU.most.n,.string f.dU.most.s] 143)=ab at*;have dd:RJ (kE w ab (.slice j cs.length aF) (.slice l es.length k) (.slice (Ry ⟨q,s,RA⟩) L.length i) u3 c4):=x;have ce:ab.heap[g.heap.size]? =Ry (.cells (cH f).toArray 143 (0,0)):=D;have d0:w.heap.size≤ab.heap.size:=x.fA.size;have c0:=x.own;generalize g.heap.size=er at*;clear x V d8 d9 eb ec ee ef eh o D;obtain⟨⟨dq,-⟩,-⟩:=jD ce
     go_wp2_with (at_builtin;refine qh _ rfl _ _ 133 9 rfl w.heap.size a8 aa.underlying133 aa.underlying9 aw a4 a5 a6 _ c4 rfl c0 f.text rfl dO (by unfold R3;omega) (by omega) d0 ?_;intro d6 d7 a1 co)
     have df:RJ (kE w d7 (.slice j cs.length aF) (.slice l es.length k) (.slice (Ry ⟨q,s,RA⟩) L.length i) d6 (pre ++ bN (b.chunks.take (a+1)))):=dd.out.jv co (by
      rw[jo] at a1;rw[b0.out,RI,ai,iu];exact a1)
     clear a1 co c0 dq ce
     go_roundw
     case rel=>exact⟨a+1,by omega,by go_num,df.out⟩
     case measure=>simp[SC];omega
    ·obtain rfl:a=b.chunks.length:=by omega
     have dk:RJ (kE w g (.slice j cs.length aF) (.slice l es.length k) (.slice (Ry ⟨q,s,RA⟩) L.length i) u3 (de ++ bC (bs.take (d+1)))):=by show kE _ _ _ _ _ _ _;rw[db.out];exact h
     clear h o
     go_wp2_with fail
     go_roundw
     case rel=>exact⟨d+1,by omega,by go_num,dk.out⟩
     case measure=>simp[SC];omega
  ·obtain rfl:d=L.length:=by omega
   have ck:de ++ bC (bs.take L.length)=de ++ bC bs:=by rw[Z.out,SR]
   rw[ck] at h;have bo:RJ (ua cs es bs=de ++ bC bs ++ iX cs es bs ++ gu (iX cs es bs).length ++ bytesOf ⟨#[83,84,82,65]⟩):=by
    show _=_;rw[show bytesOf ⟨#[83,84,82,65]⟩=de from rfl];unfold ua;simp only[R9]
   have fa:(de ++ bC bs).length≤10000000004:=by
    have:=Y.out;rw[RI];have:de.length=4:=rfl;omega
   obtain⟨e3,ci⟩:=c8.out;generalize iX cs es bs=n at*;generalize de ++ bC bs=pre at*;have o:RJ (kE w wr (.slice j cs.length aF) (.slice l es.length k) (.slice r L.length i) u3 pre):=h;obtain⟨bb,bc,bd⟩:=h.cells;clear h ck bu bt bm bB bl Y
   go_upto_region 12 with(go_at_call 58;refine(br.out _ o.out.fA).mono ?_;rintro e c5 ⟨eo,rfl,a2,b3⟩)
   have y:RJ (kE w c5 (.slice j cs.length aF) (.slice l es.length k) (.slice r L.length i) u3 pre):=o.out.below b3;obtain⟨b2,dr,rfl,-,-⟩:=a2.form ci;have cb:=a2.cells (g:=b2) rfl;have cv:=y.out.own;have d1:w.heap.size≤c5.heap.size:=y.out.fA.size;clear bb bc bd b3 o br
   go_upto_region 13 with(at_builtin;refine vi _ rfl _ _ 133 rfl w.heap.size a8 aa.underlying133 aw a4 a5 a6 _ pre rfl cv ⟨b2,0,RA⟩ dr n rfl ci cb (by unfold R3;omega) (by omega) d1 ?_;intro W K S cl)
   have ar:RQ w.heap.size w K:=(y.out.jv cl S).fA;have e8:(pre ++ n).length≤10002000004:=by rw[RI];omega
   have c7:RJ (ua cs es bs=pre ++ n ++ gu n.length ++ bytesOf ⟨#[83,84,82,65]⟩):=bo.out;clear cb cv cl y a2 bo;generalize a3:pre ++ n=J at*;have bi:RJ (Sc (aa.of Rz) 59 #[W,.int .i64 (n.length:Int)] K fun e w'=>∃ E,e= .returned E∧w'.ownsRow w.heap.size 5 1 E (J ++ gu n.length).length (ax (J ++ gu n.length))∧aK K w' W E):=sA W J n.length w.heap.size K (by omega) (by omega) ar.size S;have X:RJ (RQ w.heap.size w K):=ar;have bx:RJ (∀ t,W.ownBlock=Ry t→w.heap.size≤t):=fun t F=>(S.lt t F).1;clear a3 S ar
   go_upto_region 14 with(go_at_call 59;refine bi.out.mono ?_;rintro e c6 ⟨d5,rfl,cx,cn⟩)
   have bj:RJ (RQ w.heap.size w c6):=X.out.trans (cn.below bx.out X.out.size);have c2:w.heap.size≤c6.heap.size:=bj.out.size;have da:RJ (∀ t,d5.ownBlock=Ry t→w.heap.size≤t):=fun t F=>(cx.lt t F).1;have e9:(J ++ gu n.length).length≤10002000008:=by rw[RI];have:(gu n.length).length=4:=rfl;omega
   clear cn bi X bx;generalize J ++ gu n.length=ba at*
   go_wp2_with (at_builtin;refine ew _ rfl _ _ 133 9 rfl w.heap.size 5 a8 aa.underlying133 aa.underlying9 aw a4 a5 a6 _ ba.length _ rfl cx ⟨#[83,84,82,65]⟩ rfl (show ba.length+4≤R3 by unfold R3;omega) (show ba.length+4≤140737488355328 by omega) c2 ?_;intro fb fd cR dC;rw[jo,← iu] at cR;have e2:=oU cR (by rw[RI,ai]))
   go_ret;rw[c7.out];exact⟨rfl,bj.out.trans (dC.below da.out c2)⟩
theorem Cg{ps:List Nat}{k:Nat}(h:lF 0 (ps.take k)=RA):lF 0 ps=RA:=by rw[sM ps k,h];rfl
theorem ML{ps:List Nat}{k t n:Nat}(h:lF 0 (ps.take k)=Ry t)(b:n<t):lF 0 ps≠Ry n:=by
 rw[sM ps k,h];intro a;have:=vV (show lF t (ps.drop k)=Ry n from a);omega
theorem uQ(s:ByteArray)(r p n:Nat)(z:RB)(ps:List Nat)(w:RD)(Q:n≤100)(P:ps.length≤100)(D:∀ q∈ps,q<65536)(G:qi w z (iZ ps))(h:w.heap[r]? =Ry (bh s p)):
 Sc (aa.of Rz) 178 #[.pointer (Ry ⟨r,0,RA⟩),z,.int .i64 n] w fun e w'=>w'=w∧((e= .returned (.tuple #[])∧lF 0 ps=Ry n)∨(∃ q,e= .panicked (dV q)∧lF 0 ps≠Ry n)):=by
 have v:RJ (w.heap[r]? =Ry (bh s p)):=h;obtain⟨J,B,H,K,rfl,x,C,y⟩:=G;have i:(iZ ps).length=ps.length:=by simp[iZ]
 rw[i] at x C ⊢;have A:RJ (∀ f,(m:f<ps.length)→w.cell? ⟨B,H+f,RA⟩=Ry (.int .i64 (ps[f]:Int))):=fun f m=>by
  have:=y f (by rw[i];exact m);rw[eE (by rw[i];exact m)] at this;simpa [iZ] using this
 clear y h i;go_enter aa.func178,Tryz.ntmps178
 go_wp2_with fail
 go_loopw [6,11] (fun I t wr=>∃ b a:Nat,b≤ps.length∧t= .int .i64 (b:Int)∧I= .int .i64 (a:Int)∧a≤n∧lF 0 (ps.take b)=Ry a∧wr=w) (fun _ t _=>ps.length - (SC t).toNat)
 case atStart=>exact⟨0,0,Sk _,rfl,rfl,Sk _,rfl,rfl⟩
 case round=>
  obtain⟨b,a,O,rfl,rfl,F,d,rfl⟩:=hrel;have j:RJ (lF 0 (ps.take b)=Ry a):=d;clear d;by_cases o:b<ps.length
  ·obtain rfl:=x (by omega);have N:=A.out b o;have g:RJ (lF 0 (ps.take (b+1))=if ps[b]<a then Ry a else if ps[b]=a then Ry (a+1) else RA):=yI ps b o j.out;have S:=D _ (RV o);generalize ps[b]=q at*;by_cases M:a<q∨n≤q
   ·have k:RJ (lF 0 ps≠Ry n):=by
     by_cases L:a<q
     ·have c:=g.out;rw[if_neg (by omega),if_neg (by omega)] at c;show _≠_;rw[Cg c];simp
     ·have c:=g.out;rw[if_neg (by omega),if_pos (by omega)] at c;exact ML c (by omega)
    go_wp2_with (go_at_call 97;refine(bP r p s _ v.out).mono ?_;rintro e w' ⟨rfl,rfl⟩)
    all_goals exact⟨rfl,rfl,.inr ⟨_,rfl,k.out⟩⟩
   ·by_cases E:q=a
    ·subst E;have l:RJ (lF 0 (ps.take (b+1))=Ry (q+1)):=by
      have c:=g.out;rw[if_neg (by omega),if_pos rfl] at c;exact c
     go_wp2
     go_roundw
     case rel=>exact⟨b+1,q+1,by omega,by go_num,by go_num,by omega,l.out,by trivial⟩
     case measure=>simp[SC];omega
    ·have l:RJ (lF 0 (ps.take (b+1))=Ry a):=by
      have c:=g.out;rw[if_pos (by omega)] at c;exact c
     have R:((q:Int) == (a:Int))=RE:=by simp;omega
     go_wp2
     go_roundw
     case rel=>exact⟨b+1,a,by omega,by go_num,rfl,F,l.out,by trivial⟩
     case measure=>simp[SC];omega
  ·obtain rfl:b=ps.length:=by omega
   have d:=j.out;rw[SR] at d;have u:RJ (lF 0 ps=Ry a):=d;clear d j;by_cases T:a<n
   ·have k:RJ (lF 0 ps≠Ry n):=by
     show _≠_;rw[u.out];simp;omega
    go_wp2_with (go_at_call 97;refine(bP r p s _ v.out).mono ?_;rintro e w' ⟨rfl,rfl⟩)
    exact⟨rfl,rfl,.inr ⟨_,rfl,k.out⟩⟩
   ·obtain rfl:a=n:=by omega
    go_wp2
    go_end0
    exact⟨rfl,.inl ⟨rfl,u.out⟩⟩
theorem jE{k:Int}{s:ByteArray}{p cn:Nat}{L:List aD}(m:cn≤100)(hL:L.length=cn)(i:∀ x∈L,VK k x)(a:ag (bytesOf s) p (dQ k L)):
 ∃ (d:List aD) (ps:List Nat),d.length≤cn∧(∀ x∈d,VK k x)∧d.Nodup∧ps.length=cn∧lF 0 ps=Ry d.length∧ag (bytesOf s) p (aA d.length)∧ag (bytesOf s) (p+(aA d.length).length) (aH k d)∧
  ag (bytesOf s) (p+(aA d.length).length+(aH k d).length) (b7 (wid d.length) ps):=by
 obtain⟨c,e,l⟩:=tY L ⟨RE,0,⟨#[]⟩⟩;obtain⟨f,g,h,b⟩:=rz L L.length (RG _);rw[SR] at f g h b;unfold dQ at a;rw[ap,ap] at a;exact⟨(dfold L).1,(dfold L).2,by omega,fun x j=>i x (b x j),c,by omega,e,a.1,a.2.1,a.2.2⟩
theorem uV(k:Int)(a8:k=1∨k=2∨k=3)(s:ByteArray)(r p cn:Nat)(w:RD)(a9:s.size≤R3)(M:cn≤100)(cd:p≤s.size)(h:w.heap[r]? =Ry (bh s p)):
 Sc (aa.of Rz) 176 #[.pointer (Ry ⟨r,0,RA⟩),.int .i64 k,.int .i64 cn] w fun e w'=>Kp r w w'∧
  ((∃ (d:List aD) (v:RB),e= .returned v∧d.length≤cn∧(∀ x∈d,VK k x)∧d.Nodup∧ag (bytesOf s) p (aA d.length)∧ag (bytesOf s) (p+(aA d.length).length) (aH k d)∧
    (∀ D:List aD,D.length=d.length→(∀ x∈D,VK k x)→ag (bytesOf s) (p+(aA d.length).length) (aH k D)→D=d)∧p+(aA d.length).length+(aH k d).length≤s.size∧
    w'.heap[r]? =Ry (bh s (p+(aA d.length).length+(aH k d).length))∧w'.ownsRow w.heap.size 59 3 v d.length (aE d))∨
   (∃ q,e= .panicked (dV q)∧∀ L:List aD,L.length=cn→(∀ x∈L,VK k x)→¬ ag (bytesOf s) p (dQ k L))):=by
 have c0:r<w.heap.size:=RP h;have ao:RJ (w.heap[r]? =Ry (bh s p)):=h;have cx:= @run_makeMap (aa.of Rz);clear h;go_enter aa.func176,Tryz.ntmps176
 go_wp2_with fail
 refine(iR r p s _ a9 cd ao.out).mono ?_;rintro e ad ⟨C,⟨c,rfl,ba,bb,b4,a4⟩|⟨q,rfl,G⟩⟩
 ·have i:RJ (Kp r w ad):=C;have I:RJ (ag (bytesOf s) p (aA c)):=bb;have R:RJ (ad.heap[r]? =Ry (bh s (p+(aA c).length))):=a4;have P:RJ (c<2147483648):=ba;have be:=C.size;clear C bb a4 ba ao;by_cases cp:cn<c
  ·have j:RJ (∀ L:List aD,L.length=cn→(∀ x∈L,VK k x)→¬ ag (bytesOf s) p (dQ k L)):=by
    intro L n o t;obtain⟨d,ab,U,B,J,V,W,l,m,X⟩:=jE M n o t;have:=bW (by omega) (by have:=P.out;omega) l I.out;omega
   go_wp2_with (go_at_call 97;refine(bP r _ s _ R.out).mono ?_;rintro e w' ⟨rfl,rfl⟩)
   exact⟨rfl,i.out,.inr ⟨_,rfl,j.out⟩⟩
  ·go_wp2_with fail
   refine(qB k a8 s r (p+(aA c).length) c _ a9 (by omega) b4 R.out).mono ?_;rintro e b ⟨K,⟨d,v,rfl,b1,a7,bc,bi,ca,a5,Z⟩|⟨q,rfl,G⟩⟩
   ·subst b1;have ae:RJ (∀ x∈d,VK k x):=a7;have bo:RJ (ag (bytesOf s) (p+(aA d.length).length) (aH k d)):=bc;have a0:RJ (∀ D:List aD,D.length=d.length→(∀ x∈D,VK k x)→ag (bytesOf s) (p+(aA d.length).length) (aH k D)→D=d):=bi;have ar:RJ (b.heap[r]? =Ry (bh s (p+(aA d.length).length+(aH k d).length))):=a5;have A:RJ (Kp r w b):=i.out.trans K;have bl:RJ (b.ownsRow w.heap.size 59 3 v d.length (aE d)):=bz Z be;obtain⟨bs,bt,cf,ck,rfl,g⟩:=ql.cm Z;have br:RJ (ot b bs bt cf d):=g;have f:=World.ownsMap_made b (aa.of Rz) 59 (plainElem (H:=Unit) (aa.of Rz) 3);have c1:=A.out.size;clear a7 bc bi a5 K Z g i R
    go_wp2_with fail
    go_loopw [28] (fun O wr=>∃ (a c:Nat) (D:DataW Unit),a≤d.length∧c≤a∧O= .int .i64 (a:Int)∧(d.take a).Nodup∧wr.ownsMap (aa.of Rz) 59 (plainElem (H:=Unit) (aa.of Rz) 3) b.heap.size c D∧Knows D (d.take a)∧RQ b.heap.size b wr) (fun O _=>d.length - (SC O).toNat)
    case atStart=>exact⟨0,0,.map [],Sk _,RG _,rfl,by simp,f,by simpa using Knows.empty,(R5 _ _).alloc (RG _) _⟩
    case round=>
     clear f;obtain⟨a,c,D,cu,cR,rfl,z,f,N,E⟩:=hrel;have u:RJ (RQ b.heap.size b wr):=E;have bd:b.heap.size≤wr.heap.size:=E.size;have be:b.heap.size+1≤wr.heap.size:=by have:=f.lt;omega
     have H:RJ (d.take a).Nodup:=z;clear z;by_cases y:a<d.length
     ·have g:=br.out.below E;obtain rfl:=g.addr (by omega);have c2:=g.c0 a y;have c3:=g.c1 a y;have c4:=g.c2 a y;have T:RJ (mN d[a]):=(ae.out _ (RV y)).ok a8;have Y:=AU d[a] T.out;have am:RJ (Knows D (d.take a)):=N;have al:=N.has d[a] T.out;have aw:RJ ((d.take a).length=a):=by show _=_;rw[Tb];omega
      have S:RJ (d.take (a+1)=d.take a ++ [d[a]]):=RR y;clear g E N;by_cases F:idx (d.take a) d[a]<(d.take a).length
      ·have j:RJ (∀ L:List aD,L.length=cn→(∀ x∈L,VK k x)→¬ ag (bytesOf s) p (dQ k L)):=by
        intro L n o t;obtain⟨bu,ab,U,B,J,V,W,l,m,X⟩:=jE M n o t;have a2:=bW (by omega) (by have:=P.out;omega) l I.out;rw[a2] at m;have bv:=a0.out bu a2 B m;subst bv;have cb:=(rG _ _).1 F;obtain⟨O,cs,a3⟩:=To cb;rw[Tj] at a3;have co:=aw.out;have:=sY J (by omega) y a3;omega
       rw[decide_eq_true F] at al;generalize d[a]=x at*
       go_wp2_with (first
        |(at_lookup;refine wpList_lookup_own_ok_int _ rfl _ _ 229 rfl 59 3 .i64 EL aa.underlying229 aa.underlying3 (GK _) b.heap.size c D rfl (f.alloc _) _ _ rfl Y ?_;intro a1 bB ce)
        |(go_at_call 97;refine(bP r _ s _ (by rw[Sr _ _ r (by omega),u.out.block r (by omega)];exact ar.out)).mono ?_;rintro e w' ⟨rfl,rfl⟩))
       exact⟨rfl,A.out.trans (Kp.bS (u.out.alloc bd _)),.inr ⟨_,rfl,j.out⟩⟩
      ·rw[decide_eq_false F] at al;have Q:RJ (d.take (a+1)).Nodup:=by
        show List.Nodup _;rw[S.out,List.nodup_append];refine⟨H.out,by simp,?_⟩;intro ci bx a1 a6 e;simp at a6;subst a6;subst e;exact F ((rG _ _).2 bx)
       have bm:RJ (Knows (D.put (kl d[a]) (.lit (.int .i64 (a:Int)))) (d.take (a+1))):=by
        have:=am.out.put d[a] T.out F;rw[aw.out] at this;show Knows _ _;rw[S.out];exact this
       have cv:Ry wr.heap.size≠Ry b.heap.size:=by simp;omega
       have bA:∀ bj:UQ,(wr.alloc bj).heap.size=wr.heap.size+1:=fun bj=>by simp
       clear am H S;generalize d[a]=x at*
       go_wp2_with (first
        |(at_lookup;refine wpList_lookup_own_ok_int _ rfl _ _ 229 rfl 59 3 .i64 EL aa.underlying229 aa.underlying3 (GK _) b.heap.size c D rfl (f.alloc _) _ _ rfl Y ?_;intro a1 bB ce)
        |(at_mapUpdate;refine wpList_mapUpdate_own _ rfl _ _ _ 229 rfl 59 3 EL aa.underlying229 _ b.heap.size c D rfl (f.alloc _) ?_ _ _ _ rfl rfl Y _ [] (plainElem_int aa.underlying3 (wf_i64 _ (by omega) (by omega))) ?_;(unfold R3;omega);intro ch cc b3))
       have b0:RQ b.heap.size b ch:=(u.out.alloc bd _).grown b3 (by rw[bA];omega) (fun cl b2=>by cases b2;exact RG _);refine⟨⟨a+1,c+1,_,by omega,by omega,by simp,Q.out,cc,bm.out,b0⟩,by simp[SC];omega⟩
     ·obtain rfl:a=d.length:=by omega
      have z:=H.out;rw[SR] at z;have Q:RJ d.Nodup:=z;clear z H N E f;go_wp2;go_ret;exact⟨A.out.trans (Kp.bS u.out),.inl ⟨d,_,rfl,by omega,ae.out,Q.out,I.out,bo.out,a0.out,ca,by rw[u.out.block r (by omega)];exact ar.out,aQ bl.out u.out⟩⟩
   ·have j:RJ (∀ L:List aD,L.length=cn→(∀ x∈L,VK k x)→¬ ag (bytesOf s) p (dQ k L)):=by
     intro L n o t;obtain⟨d,ab,U,B,J,V,W,l,m,X⟩:=jE M n o t;have:=bW (by omega) (by have:=P.out;omega) l I.out;rw[this] at m;exact G d this B m
    have A:RJ (Kp r w b):=i.out.trans K;clear G K i;go_wp2;exact⟨rfl,A.out,.inr ⟨q,rfl,j.out⟩⟩
 ·have j:RJ (∀ L:List aD,L.length=cn→(∀ x∈L,VK k x)→¬ ag (bytesOf s) p (dQ k L)):=by
   intro L n o t;obtain⟨d,ab,U,B,J,V,W,l,m,X⟩:=jE M n o t;exact G d.length (by omega) l
  have i:RJ (Kp r w ad):=C;clear G C;go_wp2;exact⟨rfl,i.out,.inr ⟨q,rfl,j.out⟩⟩
end Ec
end Go.Proofs.YtjidbonhhpkljaaGreat
