/- What the proof stands on, in short names. -/
import Derived.Test.YtjidbonhhpkljaaGreatMa
import Derived.Conc.WalkWords
import Derived.Orders
import Derived.Conc.DeferLaws
import Derived.Conc.EventLaws
import Derived.Conc.Neutral
import Derived.Conc.AppendWalk
import Derived.Conc.SmallLaws
import Derived.Conc.AppendEvents3
import Derived.Deep.MidRow
import Derived.Laws.AppendOwn
import Derived.Laws.MakeOwn
import Derived.Great.BuildSlice
import Derived.RangeFuncRecord
import Derived.RangeFuncIn
import Derived.Below
import Derived.Test.YtjidbonhhpkljaaGreatProg
import Derived.KernelRfl
import Derived.WalkKit
import Derived.Test.YtjidbonhhpkljaaGreatRows
import Derived.ProofKit
import Derived.Deep.QuietTactic
import Derived.BigQuiet
import Derived.Laws.BytesArg
import Derived.Deep.RegionWith
import Derived.Laws.BitsLemmas
import Derived.ArgAppend
import Derived.Laws.CopyOwn
import Derived.Laws.StructEq
import Derived.Lib.AppendStr
import Derived.Lib.Strings
import Derived.Lib.Slices
import Derived.Lib.Small
import Derived.Lib.Walk
import Derived.Lib.BitFns
set_option linter.all false
open Array renaming getD_eq_getD_getElem? → Se, getElem?_eq_getElem → Sv, getElem?_eq_none → SZ, getElem?_eq_some_iff → RH, getElem?_modify → TB, getElem?_push → Sp, getElem?_setIfInBounds → Ss, getElem?_setIfInBounds_ne → Ty, length_toList → TL, range → Vg, replicate → SN, size_push → Tx
open BitVec renaming ofInt → Uv
open Bool renaming and_eq_true → R7, false → RE, false_eq_true → Sa, or_eq_true → UA, true → RF
open Classical renaming choose → S0, choose_spec → RY
open False renaming elim → Vt
open Go renaming Act → TZ, Addr → Sl, Calls → Sc, Code → UR, Deferred → TS, Ending → Uw, Event → SV, Frame → RU, Func → Uj, FuncId → TH, GStep → VE, Goroutine → So, IntKind → T3, Item → Uk, Obj → UQ, Oper → Te, Operand → SG, PanicEntry → S1, Program → RM, Sem → T1, TypeId → RO, TypeInfo → Ur, Value → RB, World → RD, doReturn → Us, execOp → Sd, exitTo → Vu, info_parts → S3, lt_of_block → RP, maxLen → R3, resolve → Vj, results → SD, sizeOf → VH, stepG → Sq, tryRecover → UJ, typeInfo → UE, undef → SP, underlying → UK, unwind → Vv, wpList_append_fits → Tn, wpList_make_own → TM, yielded → S2, zeroValue → TO
open Go.Act renaming put → Tc
open Go.Addr renaming add → VN, add_lit → TC, add_mid → U2
open Go.Addr.mk renaming injEq → UO
open Go.Builtin renaming append_ → Vc
open Go.Conc renaming G → RN, served → TR, solo → Vw
open Go.ConcN renaming sumTo → U3
open Go.Deferred renaming ofValue → U5
open Go.Extern renaming find → VP
open Go.Extern.BytealgCompare renaming compare → US
open Go.Extern.Bytes renaming bytesOf → V2, loadBytes → V0
open Go.Extern.ReflectliteType renaming rows → VA
open Go.Extern.RuntimeError renaming boundsError → V9, boundsErrorFmts → V5, boundsNegErrorFmts → V3, described → VU, pkgpathOf → VV, rows → SK, text → VZ, typeAssertionError → VD, unhashableTypeError → VB
open Go.Extern.RuntimeError.boundsError renaming match_1 → V1
open Go.Frame renaming enter → Sz, finish → TD, finish_at → UY, round → Up
open Go.GStep renaming after → Uh
open Go.Goroutine.mk renaming injEq → VX
open Go.Instr renaming buildSlice → Uq, fill → UZ, sureAddr → Ux
open Go.IntKind renaming bits → VI, i64 → VQ, signed → Vq, u64 → TT, u8 → VF
open Go.Item.inRegion renaming injEq → U1
open Go.Proofs.Tryz renaming prog → Rz, underlying160 → Ua, underlying43 → UX
open Go.Region renaming binds → S4, ready → SI, schedule → Ve, wanted → Sn
open Go.Region.linearise renaming go → SJ
open Go.RowKit renaming Below → RQ, Hid → RJ, intOf → SC, wrap64 → SW
open Go.RowKit.Below renaming refl → R5
open Go.Sem renaming run → T0, runT_eq → Vr, run_bind → Ue
open Go.Value renaming cells → Ub, int → TW, ownBlock → Tf
open Go.Value.slice renaming injEq → T5
open Go.World renaming cell? → R2
open Go.World.grownBy renaming refl → V7
open Go.stepG renaming apply → Tt, exec → Si
open List renaming all_eq_true → Sf, append_assoc → R9, append_nil → Ud, cons_append → TP, drop_eq_getElem_cons → S6, eq_nil_of_length_eq_zero → Ta, flatMap_append → SU, flatMap_singleton → SO, getD → VR, getElem?_append_right → SX, getElem?_eq_getElem → RS, getElem_mem → RV, length_append → RI, length_cons → TA, length_drop → Ut, length_map → Sy, length_take → Tb, map_append → SQ, map_cons → UP, mem_append → SM, mem_cons → Tq, mem_cons_self → UL, mem_map → S5, mem_of_getElem? → Td, mem_of_mem_take → Uc, mem_range → Tg, not_mem_nil → U7, range → Sw, set_cons_succ → Sg, take_length → SR, take_of_length_le → SF, take_succ_eq_append_getElem → RR
open List.cons renaming injEq → UB
open MonadExceptOf renaming throw → VW
open Nat renaming add_assoc → SL, eq_zero_or_pos → UM, le_refl → RG, le_trans → R4, lt_of_lt_of_le → RK, lt_or_ge → Ts, mod_eq_of_lt → UN, mul_comm → Vk, mul_le_mul → UW, mul_le_mul_left → Uz, pow_add → UC, pow_le_pow_right → Tu, pow_succ → Uf, zero_add → SA, zero_le → Sk
open Option renaming bind_eq_some_iff → Su, bind_some → U8, getD_some → Uu, isNone_iff_eq_none → TF, map_eq_some_iff → TY, map_some → TG, none → RA, some → Ry
open Option.some renaming inj → Vx, injEq → SY
open Prod renaming fst → Sb
set_option maxRecDepth 100000
set_option maxHeartbeats 8000000
namespace Go.Proofs.YtjidbonhhpkljaaGreat
namespace Cc
open Go Go.Conc
section
variable {P0 P:RM}{Post:RB→RD→Prop}
def RC (P0 P:RM)(Post:RB→RD→Prop)(f:RD→Tr)(S O:Nat→Prop)(μ:Nat→Option (List RB))(g:So)(w:RD)(c:Nat)(z:RB)(g2:So)(l0:List RB):Prop:=
 μ c=Ry l0∧(g2.frame=g.frame∧g2.callers=g.callers∧g2.dying=g.dying)∧∀ a,RelB (fun b=>S b∨O b) w a→Sq P RF g a= .comm g2 #[rcase c z] RF (.recv RF) a #[]∧
  match l0 with
  |v :: d=>Mn P0 P Post (f a) (.sh S O (fy μ c (Ry d))) (TR g2 (recvd RF v RF)) a
  | []=>Mn P0 P Post (f a) (.sh S O (fy μ c RA)) (TR g2 (recvd RF z RE)) a
theorem RC.rely{f:RD→Tr}{S O:Nat→Prop}{μ:Nat→Option (List RB)}{g:So}{w a:RD}{c:Nat}{z:RB}{g2:So}{l0:List RB}(h:RC P0 P Post f S O μ g w c z g2 l0)(e:RelB (fun b=>S b∨O b) w a):RC P0 P Post f S O μ g a c z g2 l0:=
 ⟨h.1,h.2.1,fun i d=>h.2.2 i (e.trans d)⟩
def zg (P0 P:RM)(Post:RB→RD→Prop)(f:RD→Tr)(S O:Nat→Prop)(μ:Nat→Option (List RB))(g:So)(gs:Array So)(w:RD)(wk:Nat→Option uO)(d:Nat):Prop:=
 (d=1∧∃ b,gs[0]? =Ry b∧qJ b g∧b.status= .running)∨
 (d=0∧∃ a h e k j c i s l,gs[0]? =Ry (parked e #[rcase a h] (.recv RF))∧RC P0 P Post f S O μ g w a h e k∧wk j=Ry c∧c.c=a∧c.pc=RA∧w.heap[a]? =Ry (.chan i #[] RE s l RE))
theorem Jn(μ:Nat→Option (List RB)){c:Nat}{l:Option (List RB)}(h:μ c=l):fy μ c l=μ:=by
 funext b;unfold fy
 split
 ·rename_i a;rw[a,h]
 ·rfl
section
variable {S O:Nat→Prop}{μ:Nat→Option (List RB)}{gs:Array So}{w w':RD}{t:Trace}{wk:Nat→Option uO}{vs:Nat→List RB}{q:Nat→Nat}{eI:Nat→Tr}
theorem Inv.J3(h:Inv P0 P S O μ gs w t wk vs q eI){i j:Nat}{x y:uO}(b:wk i=Ry x)(a:wk j=Ry y){es:Array SV}(d:lg P0 S x.own w w' es):w'.heap[y.c]? =w.heap[y.c]? :=by
 refine d.keep _ (h.low j y a).1 ?_;by_cases c:j=i
 ·subst c;rw[b] at a;cases a;exact(h.low j x b).2.2.2.1
 ·exact(h.qd j i y x c a b).2.1
theorem Inv.wV(h:Inv P0 P S O μ gs w t wk vs q eI)(i c:Nat)(b:Bool)(j:∀ e,i≠0→gs[0]? =Ry e→offersAt e c b=[]):partners (gs.setIfInBounds i ph) c b=[]:=by
 refine partners_nil fun g d k=>?_;rcases getElem?_stand gs i g d k with⟨_,rfl⟩|⟨l,f⟩
 ·exact offersAt_ph c b
 ·rcases UM g with rfl|m
  ·exact j d (fun a=>l a.symm) f
  ·exact offersAt_of_not_blocked (by rcases h.status m f with a|a<;>rw[a]<;>simp) c b
end
theorem pR{gs:Array So}{i:Nat}{g g':So}(a:gs[i]? =Ry g):(gs.setIfInBounds i g')[i]? =Ry g':=Array.getElem?_setIfInBounds_self_of_lt (RH.1 a).1
theorem iF{gs:Array So}{i j:Nat}{g':So}(h:j≠i):(gs.setIfInBounds i g')[j]? =gs[j]? :=Ty (fun a=>h a.symm)
theorem CW{k:Nat}{g:So}(h:QuitsIn P k g):(g.status != .blocked && g.status != .waiting)=RF:=by
 rcases h.status with a|a<;>rw[a]<;>rfl
theorem uh{f:RD→Tr}(c7:∀ w,Mz P0 P Post (f w)){S O:Nat→Prop}{μ:Nat→Option (List RB)}{g:So}{n:Nat}{eI:Nat→Tr}
 (a7:∀ b1,Down n b1 eI→∀ w,Mn P0 P Post (.mk f) (.sh S O μ) g w→∀ gs sl t wk vs q o,gs.size=n→zg P0 P Post f S O μ g gs w wk o→Inv P0 P S O μ gs w t wk vs q b1→Ends P Post (crowd gs w sl) t)
 {bA:Nat} (c8:∀ w,Mn P0 P Post (.mk f) (.sh S O μ) g w→∀ gs sl t wk vs q o,gs.size=n→U3 n q+o<bA→zg P0 P Post f S O μ g gs w wk o→Inv P0 P S O μ gs w t wk vs q eI→Ends P Post (crowd gs w sl) t)
 {w:RD} (cs:Mn P0 P Post (.mk f) (.sh S O μ) g w) {gs:Array So} {sl:Option (Nat×Nat)} {t:Trace} {wk:Nat→Option uO} {vs:Nat→List RB} {q:Nat→Nat} {o:Nat} (Q:gs.size=n) (dk:U3 n q+o<bA+1) (bc:zg P0 P Post f S O μ g gs w wk o) (am:Inv P0 P S O μ gs w t wk vs q eI)
 {i:Nat} {A:So} {d:Nat} {u:Option (Nat×Nat)} (c0:0<i) (p:gs[i]? =Ry A) (ba:A.status= .running) (a5:stepT P (crowd gs w sl)=runT P (crowd gs (w.at d) u) i):Ends P Post (crowd gs w sl) t:=by
 have B:=am.at d;have ao:=cs.jm (RelB.at _ w d);have bb:(i == 0)=RE:=by simp;omega
 have b4:i<gs.size:=(RH.1 p).1;have cb:(∀ b,wk i=Ry b→b.pc≠RA)→Ends P Post (crowd gs w sl) t:=by
  intro ca;have Y:=am.quit i A c0 p ca;cases bs:q i with
  |zero=>rw[bs] at Y;rw[show A.status= .finished from Y] at ba;cases ba
  |succ bd=>
   rw[bs] at Y;rcases Y with cv|⟨_,a1,c3,c1⟩
   ·rw[cv] at ba;cases ba
   ·have K:=runT_crowd_go (P:=P) (sl:=u) (i:=i) p (by rw[bb];exact c3 (w.at d));have df:=DG (Q▸b4) bs;refine Ends.step (a5.trans K) (c8 (w.at d) ao _ u _ wk vs (jM q i bd) o (by rw[fV];exact Q) (by omega) ?_ ?_)
    ·rcases bc with⟨a,G,e,X,E⟩|⟨a,x,F,c,M,h,b,k,s,r,e,H,j,c6,D,I⟩
     ·exact .inl ⟨a,G,C5 (by omega) e (lZ (.inl E)),X,E⟩
     ·exact .inr ⟨a,x,F,c,M,h,b,k,s,r,C5 (by omega) e (kW (w':=w.at d) I),H.rely (RelB.at _ w d),j,c6,D,I⟩
    ·rw[ofEvents_none,Array.append_empty];exact B.slip ca c1 fV (pK p) fun h J l=>others am J l
 cases j:wk i with
 |none=>exact cb fun b a=>by rw[j] at a;cases a
 |some b=>
  cases D:b.pc with
  |some dq=>exact cb fun R a=>by rw[j] at a;cases a;rw[D];simp
  |none=>
   have a3:=B.act i A b p j D;obtain⟨c9,be,bi,dl,dp⟩:=B.low i b j;have bj:=a3;generalize cx:eI i=yh at bj;cases yh using Tr.ind with
   |fin=>exact(Tr.oG bj).elim
   |mk a0=>
    replace a3:=uK.1 bj;have aw:∀ bx,bx=a0 (w.at d)→Down n (jM eI i bx) eI:=fun bx a=>⟨i,Q▸b4,⟨a0,w.at d,cx,by rw[cL];exact a⟩,fun h J=>dF _ _ J⟩;obtain⟨k,N,s,r,T,ar,ad⟩:=B.chan i b j;rw[D] at T ar ad;simp only[Option.isSome_none,if_true,forall_const] at T ar ad;obtain⟨_,a3⟩:=a3;rcases a3 with cn|⟨v,bu,c,F,bt,co⟩|⟨bt,a1,bd,Y,c4,cp⟩
    ·
     obtain⟨a1,w',db,bm,a4,a9⟩:=cn (w.at d) (RelB.refl _ _);have K:=runT_crowd_go (P:=P) (sl:=u) (i:=i) p (by rw[bb];exact bm);have hrel:=B.Nd j a4;refine Ends.step (a5.trans K) (a7 _ (aw _ rfl) w' (ao.jm hrel) _ u _ _ vs q o (by rw[fV];exact Q) ?_ (B.PD j D a4 a9 fV (pK p) (fun h J l=>others am J l) _ _));rcases bc with⟨a,G,e,X,E⟩|⟨a,x,F,c,M,h,R,k,s,r,e,H,z,L,a6,I⟩
     ·exact .inl ⟨a,G,C5 (by omega) e (lZ (.inl E)),X,E⟩
     ·have V:w'.heap[x]? =Ry (.chan k #[] RE s r RE):=by
       rw[← L,B.J3 j z a4,L];exact I
      by_cases l:h=i
      ·subst l;rw[j] at z;cases z;exact .inr ⟨a,x,F,c,M,h,⟨b.c,cB b.own (w.at d) w',RA⟩,k,s,r,C5 (by omega) e (kW V),(H.rely (RelB.at _ w d)).rely hrel,cL _ _ _,L,rfl,V⟩
      ·exact .inr ⟨a,x,F,c,M,h,R,k,s,r,C5 (by omega) e (kW V),(H.rely (RelB.at _ w d)).rely hrel,by rw[dF _ _ l];exact z,L,a6,V⟩
    ·
     obtain⟨cu,a9⟩:=co (w.at d) (RelB.refl _ _);have b3:Sq P (i == 0) A (w.at d)= .comm c #[scase b.c v F] RF .send (w.at d) #[]:=by rw[bb];exact cu
     rw[bt] at ar ad;have c2:N.size<k:=by simp at ad;omega
     have ci:(∀ G,i≠0→gs[0]? =Ry G→offersAt G b.c RE=[])→(∀ a8,a8[0]? =gs[0]? →zg P0 P Post f S O μ g a8 ((w.at d).setChan b.c k (N.push v) RE (s+1) r RE) wk o)→Ends P Post (crowd gs w sl) t:=by
      intro br cR;have K:=crowd_send_room (sl:=u) p b3 T c2 (B.wV i b.c RE br);refine Ends.step (a5.trans K) ?_;rw[ofEvents_none,Array.empty_append,finishComm_send];have y:=B.comm (gs':=gs.setIfInBounds i (TR c SP)) (u:= #[{g:=i,fn:=c.frame.fn,pos:=c.frame.place,act:=.send b.c s},{g:=i,fn:=c.frame.fn,pos:=c.frame.place,act:=.sendDone b.c s}]) j (cap:=k) (s':=s+1) (r':=r) (buf':=N.push v) (vi':=bu) (tr':=a0 (w.at d)) (g':=TR c SP) (fun _=>by simp at ad ⊢;omega) (fun _=>a9) (fun _=>pR p) (fun a=>absurd D a) (fun h J l=>iF l) (by simp) (fun bv C m bo=>by simp at C;rcases C with rfl|rfl<;>cases bo) (fun bv C=>by simp at C;rcases C with rfl|rfl<;>rfl);rw[D] at y;simp only[Option.isSome_none,if_true] at y;rw[Jn μ (by rw[ar];simp)] at y;exact a7 _ (aw _ rfl) _ (ao.jm (kg (fun U=>U.elim be bi) _ _ _ _ _ _)) _ u _ wk _ q o (by simpa using Q) (cR _ (iF (by omega))) y
     rcases bc with⟨a,G,e,X,E⟩|⟨a,x,da,al,M,h,R,ae,ab,Z,e,H,z,L,a6,I⟩
     ·refine ci (fun cl _ a2=>?_) fun a8 bl=>.inl ⟨a,G,bl.trans e,X,E⟩;rw[e] at a2;cases a2;exact offersAt_of_not_blocked (by rw[E];simp) _ _
     ·by_cases W:x=b.c
      ·
       subst W;have b0:=I.symm.trans (show w.heap[b.c]? =_ from T);simp only[SY,Obj.chan.injEq] at b0;obtain⟨rfl,rfl,-,rfl,rfl,-⟩:=b0;have br:partners (gs.setIfInBounds i ph) b.c RE=[(0,0)]:=by
        rw[partners_one (j:=0) (stand_get (i:=i) (by omega) e) (fun bd R dc z=>?_)]
        ·rw[offersAt_parked_recv];simp
        ·rcases getElem?_stand gs i bd R z with⟨_,rfl⟩|⟨dd,a4⟩
         ·exact offersAt_ph _ _
         ·exact offersAt_of_not_blocked (by rcases am.status (by omega) a4 with a|a<;>rw[a]<;>simp) _ _
       have K:=crowd_send_meets (sl:=u) p b3 T (j:=0) (by omega) e br;refine Ends.step (a5.trans K) ?_;rw[ofEvents_none,Array.empty_append,finishComm_send,finishComm_recv];obtain⟨cc,⟨cd,ce,cf⟩,ch⟩:=H.rely (RelB.at _ w d);have ck:M=v :: bu:=by
        have:=cc.symm.trans ar;simpa using this
       subst ck;have b2:=(ch (w.at d) (RelB.refl _ _)).2;dsimp only at b2;have y:=B.comm (gs':=(gs.setIfInBounds 0 (TR al (recvd RF v RF))).setIfInBounds i (TR c SP)) (u:= #[{g:=i,fn:=c.frame.fn,pos:=c.frame.place,act:=.send b.c ab},{g:=0,fn:=al.frame.fn,pos:=al.frame.place,act:=.recv b.c Z ae},{g:=i,fn:=c.frame.fn,pos:=c.frame.place,act:=.sendDone b.c ab},{g:=0,fn:=al.frame.fn,pos:=al.frame.place,act:=.recvDone b.c Z}]) j (cap:=ae) (s':=ab+1) (r':=Z+1) (buf':= #[]) (vi':=bu) (tr':=a0 (w.at d)) (g':=TR c SP) (fun _=>by simp at ad ⊢;omega) (fun _=>a9) (fun _=>pR (g:=A) (by rw[iF (by omega)];exact p)) (fun a=>absurd D a) (fun h J l=>by rw[iF l,iF (by omega)]) (by simp) (fun bv C m bo=>by simp at C;rcases C with rfl|rfl|rfl|rfl<;>cases bo) (fun bv C=>by simp at C;rcases C with rfl|rfl|rfl|rfl<;>rfl);rw[D] at y;simp only[Option.isSome_none,if_true] at y;exact(c7 (w.at d)).2 S O _ _ _ (b2.jm (kg (fun U=>U.elim be bi) _ _ _ _ _ _)) _ u _ wk _ q _ _ (by rw[iF (by omega)];exact pR e) (qJ.refl _) rfl y
      ·refine ci (fun cl _ a2=>?_) fun a8 bl=>?_
       ·rw[e] at a2;cases a2;rw[offersAt_parked_recv,if_neg W]
       ·exact .inr ⟨a,x,da,al,M,h,R,ae,ab,Z,bl.trans e,(H.rely (RelB.at _ w d)).rely (kg (fun U=>U.elim be bi) _ _ _ _ _ _),z,L,a6,(vm W _ _ _ _ _ _).trans I⟩
    ·
     have bm:=cp (w.at d) (RelB.refl _ _) k N s r RE T;have K:=runT_crowd_go (P:=P) (sl:=u) (i:=i) p (by rw[bb];exact bm);have hrel:RelB (fun bB=>S bB∨O bB) (w.at d) ((w.at d).setChan b.c k N RF s r RE):=kg (fun U=>U.elim be bi) _ _ _ _ _ _;have y:=B.close (gs':=(gs.map (woken P A a1 ((w.at d).setChan b.c k N RF s r RE))).setIfInBounds i a1) (tr':=a0 (w.at d)) j D bt T Y (pK p) (fun h J l=>others am J l) fV A.frame.fn A.frame.place;refine Ends.step (a5.trans K) ?_;rcases bc with⟨a,G,e,X,E⟩|⟨a,x,F,c,M,h,R,ae,ab,Z,e,H,z,L,a6,I⟩
     ·exact a7 _ (aw _ rfl) _ (ao.jm hrel) _ u _ _ _ _ o (by rw[fV];exact Q) (.inl ⟨a,G,C5 (by omega) e (lZ (.inl E)),X,E⟩) y
     ·by_cases W:x=b.c
      ·subst W;obtain⟨cc,⟨cd,ce,cf⟩,ch⟩:=H;refine a7 _ (aw _ rfl) _ (ao.jm hrel) _ u _ _ _ _ 1 (by rw[fV];exact Q) (.inl ⟨rfl,{parked c #[rcase b.c F] (.recv RF) with status:=.running},?_,⟨cd,ce,cf⟩,rfl⟩) y;have c5:woken P A a1 ((w.at d).setChan b.c k N RF s r RE) (parked c #[rcase b.c F] (.recv RF))= {parked c #[rcase b.c F] (.recv RF) with status:=.running}:=by
        unfold woken;rw[if_pos ?hP]
        case hP=>rw[c4,Bool.true_and];exact CW Y
        exact again_recv_closed (AH c9 _ _ _ _ _ _)
       rw[Ty (by omega),Array.getElem?_map,e,TG,c5]
      ·have l:h≠i:=fun a=>by
        subst a;rw[j] at z;cases z;exact W L.symm
       have V:((w.at d).setChan b.c k N RF s r RE).heap[x]? =Ry (.chan ae #[] RE ab Z RE):=(vm W _ _ _ _ _ _).trans I;exact a7 _ (aw _ rfl) _ (ao.jm hrel) _ u _ _ _ _ o (by rw[fV];exact Q) (.inr ⟨a,x,F,c,M,h,R,ae,ab,Z,C5 (by omega) e (kW V),(H.rely (RelB.at _ w d)).rely hrel,by rw[dF _ _ l];exact z,L,a6,V⟩) y
theorem M3{f:RD→Tr}(C:∀ w,Mz P0 P Post (f w)){S O:Nat→Prop}{μ:Nat→Option (List RB)}{g:So}{n:Nat}(eI:Nat→Tr)(bj:Acc (Down n) eI):
 ∀ (R:Nat) w,Mn P0 P Post (.mk f) (.sh S O μ) g w→∀ gs sl t wk vs q p,gs.size=n→U3 n q+p<R→zg P0 P Post f S O μ g gs w wk p→Inv P0 P S O μ gs w t wk vs q eI→Ends P Post (crowd gs w sl) t:=by
 induction bj with
 |intro eI _ b2=>
  have bb:∀ T,Down n T eI→∀ w,Mn P0 P Post (.mk f) (.sh S O μ) g w→∀ gs sl t wk vs q p,gs.size=n→zg P0 P Post f S O μ g gs w wk p→Inv P0 P S O μ gs w t wk vs q T→Ends P Post (crowd gs w sl) t:=
   fun T bo w U gs sl t wk vs q p E ab d=>b2 T bo (U3 n q+p+1) w U gs sl t wk vs q p E (by omega) ab d
  intro R
  induction R with
  |zero=>intro w U gs sl t wk vs q p E a1;omega
  |succ R a3=>
   intro w V gs sl t wk vs q p E a1 ab d;have ba:=ab;rcases ab with⟨A,al,i,Z,aw⟩|⟨A,D,H,r,G,h,b,I,s,Q,i,N,j,cv,F,cs⟩
   ·have U:=mv.1 V;rcases U with B|B|B|⟨bx,be⟩
    case inr.inr.inr=>exact(C w).1 g w (be w (RelB.refl _ _) d.hp) gs sl t vs q eI al i Z aw (d.Q6 bx)
    all_goals
     obtain⟨a2,K,a,l,c,X,y⟩:=crowd_pick (P:=P) (w:=w) (sl:=sl) (sD d i (awake_of (.inl aw))) ⟨0,al,i,aw⟩;rcases UM a2 with rfl|ar
     case inr=>exact uh C bb a3 V E a1 ba d ar c X y
     obtain rfl:K=al:=by rw[i] at c;exact(Vx c).symm
     have e:=d.at a
    ·obtain⟨J,w',co,bs,a0,br,x⟩:=B (w.at a) (RelB.at _ w a);have v:=runT_crowd_go (P:=P) (sl:=l) (i:=0) c (show Sq P (0 == 0) K (w.at a)=_ from(Z.step RF _).trans bs);exact Ends.step (y.trans v) ((C (w.at a)).2 S _ μ J w' x _ l _ wk vs q eI J (pK c) (qJ.refl _) a0 (e.main br fV (fun h L=>others d L (by omega)) _ _))
    ·obtain⟨D,cc,I,b3,b4,ca,cb,B⟩:=B;obtain⟨J,cn,ck,b0,a0,bi,x⟩:=B (w.at a) (RelB.at _ w a);have v:=runT_crowd_spawn (P:=P) (sl:=l) (i:=0) c (show Sq P (0 == 0) K (w.at a)=_ from(Z.step RF _).trans b0);have a9:0<gs.size:=(RH.1 i).1;refine Ends.step (y.trans v) ((C (w.at a)).2 S _ _ J (w.at a) x _ l _ (jM wk gs.size (Ry ⟨D,fun _=>False,RA⟩)) (jM vs gs.size cc) q (jM eI gs.size ck) J ?_ (qJ.refl _) a0 ?_)
     ·rw[Array.getElem?_push_lt (by simpa using a9)];simp
     ·rw[ofEvents_none];exact e.spawn b3 b4 ca cb bi (by simp) a9 (by rw[Sp];simp) (fun h L bu=>by
       rw[Array.getElem?_push_lt (by simpa using bu),← Sv,iF (by omega)]) _ _ _
    ·obtain⟨D,H,r,G,N⟩:=B;have N:RC P0 P Post f S O μ g w D H r G:=N;have bA:=N.rely (RelB.at _ w a);obtain⟨a4,⟨c1,c2,c3⟩,cf⟩:=bA;obtain⟨bm,x⟩:=cf (w.at a) (RelB.refl _ _);have am:Sq P (0 == 0) K (w.at a)= .comm r #[rcase D H] RF (.recv RF) (w.at a) #[]:=(Z.step RF _).trans bm;obtain⟨k,b,j,rfl⟩:=e.mu D G a4;obtain⟨cx,cd,ce,cR,c0⟩:=e.low k b j;obtain⟨I,o,s,Q,z,ad,bc⟩:=e.chan k b j;have cu:=(e.idx k b j).1;have ao:=e.wV 0 b.c RF (fun cp A=>absurd rfl A);obtain⟨gk,a8⟩:∃ gk,gs[k]? =Ry gk:=⟨gs[k]'(e.idx k b j).2,Sv _⟩;by_cases W:0<o.size
     ·
      have v:=crowd_recv_buf (sl:=l) c am z W ao;refine Ends.step (y.trans v) ?_;rw[ofEvents_none,Array.empty_append,finishComm_recv];have ae:G=o.getD 0 SP :: ((o.extract 1 o.size).toList ++ (if b.pc=RA then vs k else[])):=by
       have:=a4.symm.trans ad;simp only[SY] at this;rw[this];obtain⟨a5⟩:=o;cases a5 with
       |nil=>simp at W
       |cons cl a5=>simp
      subst ae;dsimp only at x;have bd:=e.comm (gs':=gs.setIfInBounds 0 (TR r (recvd RF (o.getD 0 SP) RF))) (u:= #[{g:=0,fn:=r.frame.fn,pos:=r.frame.place,act:=.recv b.c Q I},{g:=0,fn:=r.frame.fn,pos:=r.frame.place,act:=.recvDone b.c Q}]) j (cap:=I) (s':=s) (r':=Q+1) (buf':=o.extract 1 o.size) (vi':=vs k) (tr':=eI k) (g':=gk) (fun A=>by have:=bc A;simp;omega) (fun A=>e.act k gk b a8 j A) (fun _=>by rw[iF (by omega)];exact a8) (fun _=>iF (by omega)) (fun h L _=>iF (by omega)) (by simp) (fun ch M m bv=>by simp at M;rcases M with rfl|rfl<;>cases bv) (fun ch M=>by simp at M;rcases M with rfl|rfl<;>rfl);exact(C (w.at a)).2 S O _ _ _ (x.jm (kg (fun W=>W.elim cd ce) _ _ _ _ _ _)) _ l _ wk _ q _ _ (pR i) (qJ.refl _) rfl bd
     ·have bl:o=#[]:=by
       apply Array.eq_empty_of_size_eq_zero;omega
      subst bl;cases F:b.pc with
      |none=>
       rw[F] at z;have b1:∀ a6∈ #[rcase b.c H],NoWays (w.at a) (gs.setIfInBounds 0 ph) a6:=by
        intro a6 a7;simp at a7;subst a7;refine⟨made_recv H z,?_⟩;simp only[ways,rcase];rw[z];simp[ao]
       have v:=crowd_waits (sl:=l) c am b1;refine Ends.step (y.trans v) ?_;rw[ofEvents_none,Array.append_empty];refine a3 (w.at a) (V.jm (RelB.at _ w a)) _ l _ wk vs q 0 (by simpa using E) (by omega) (.inr ⟨rfl,b.c,H,r,G,k,b,I,s,Q,pR i,N.rely (RelB.at _ w a),j,rfl,F,z⟩) (e.Rp (by simp) fun h L=>iF (by omega))
      |some c4=>
       rw[F] at z ad;have v:=crowd_recv_closed (sl:=l) c am z ao;refine Ends.step (y.trans v) ?_;rw[ofEvents_none,Array.empty_append,finishComm_recv];have ae:G=[]:=by
        have:=a4.symm.trans ad;simpa using this
       subst ae;dsimp only at x;exact(C (w.at a)).2 S O _ _ _ x _ l _ _ vs q eI _ (pR i) (qJ.refl _) rfl (e.KJ j F (by simp) (fun h L=>iF (by omega)) _ _)
   ·
    have bB:∃ u,gs[h]? =Ry u∧u.status= .running:=by
     obtain⟨u,Y⟩:∃ u,gs[h]? =Ry u:=⟨gs[h]'(d.idx h b j).2,Sv _⟩;refine⟨u,Y,?_⟩;have:=d.act h u b Y j F;generalize eI h=ci at this;cases ci using Tr.ind with
     |fin=>exact(Tr.oG this).elim
     |mk f=>exact(uK.1 this).1
    obtain⟨u,Y,bt⟩:=bB;obtain⟨a2,K,a,l,c,X,y⟩:=crowd_pick (P:=P) (w:=w) (sl:=sl) (sD d i (fun t=>by simp[parked])) ⟨h,u,Y,bt⟩;rcases UM a2 with rfl|ar
    ·rw[i] at c;cases c;simp[parked] at X
    ·exact uh C bb a3 V E a1 ba d ar c X y
theorem KE:∀ k:Tr,Mz P0 P Post k:=by
 intro k
 induction k using Tr.ind with
 |fin=>exact⟨fun a w c=>(Tr.oG c).elim,fun S O μ a w c=>(Tr.oG c).elim⟩
 |mk f l=>
  refine⟨fun a w g gs j t vs q eI b d h i e=>M2 l (U3 gs.size q+1) a w g gs j t vs q eI b (by omega) d h i e,fun S O μ a w g gs j t wk vs q eI b d h i e=>?_⟩;exact M3 l eI (JL gs.size eI) (U3 gs.size q+1+1) w g gs j t wk vs q 1 rfl (by omega) (.inl ⟨rfl,b,d,h,i⟩) e
theorem Dg{l:Tr}{fr:RU}{cs:List RU}{w:RD}(h:Mn P0 P Post l .ex (RN fr cs) w)(p:vH P0 w):Ends P Post (Vw (RN fr cs) w) #[]:=by
 rw[solo_eq_crowd];refine(KE l).1 _ w h #[RN fr cs] RA #[] (fun _=>[]) (fun _=>0) (fun _=>.fin) _ rfl (qJ.refl _) rfl ⟨⟨fun x o=>by simp at o,fun z=>?_,fun b g d=>by simp[touchAt,Trace.act?] at d,fun b g d=>by simp[touchAt,Trace.act?] at d,fun k c e=>(by cases e),fun k c e=>(by cases e),fun k c y e=>(by cases e)⟩,p,fun b m u j _=>?_,fun b m c j a=>(by cases a),fun b c a=>(by cases a),fun i f=>f.elim,fun i f=>f.elim,fun b c a=>(by cases a),fun b r c A _ a=>(by cases a),fun b c a=>(by cases a),fun s v n=>(by cases n)⟩
 ·rintro⟨b,r,_,⟨g,i,d,_⟩,_⟩;simp[Trace.act?] at d
 ·have:b<1:=by simpa using(RH.1 j).1
  omega
end
def sn (P0 P:RM)(Post:RB→RD→Prop)(g:So)(w:RD):Prop:=∃ a,Mn P0 P Post a .ex g w
structure Sm(w w':RD):Prop where
 tape:w'.tape=w.tape
 os:w'.os=w.os
 output:w'.output=w.output
 size:w.heap.size≤w'.heap.size
theorem Sm.refl(w:RD):Sm w w:=⟨rfl,rfl,rfl,RG _⟩
theorem Sm.trans{a b c:RD}(h:Sm a b)(d:Sm b c):Sm a c:=⟨d.tape.trans h.tape,d.os.trans h.os,d.output.trans h.output,R4 h.size d.size⟩
section
variable {P0 P:RM}{Post:RB→RD→Prop}
theorem wX{g:So}{w:RD}(h:∀ a,AtRel w a→∃ g' w' es,Sq P RF g a= .go g' w' es∧g'.status= .running∧JF P0 a w' es∧sn P0 P Post g' w'):sn P0 P Post g w:=by
 classical
 let f:RD→Tr:=fun a=>if b:AtRel w a then S0 (RY (RY (RY (h a b)))).2.2.2 else .fin
 refine⟨.mk f,mv.2 <| .inl fun a b=>?_⟩;have c:=RY (RY (RY (h a b)));have d:f a=S0 (RY (RY (RY (h a b)))).2.2.2:=by
  show(if b:AtRel w a then _ else _)=_;rw[dif_pos b]
 exact⟨_,_,_,c.1,c.2.1,c.2.2.1,Mn.cast d (RY c.2.2.2)⟩
theorem Nk{g:So}{w:RD}(h:∀ a,AtRel w a→∃ v es,Sq P RF g a= .ended (.done v) a es∧(∀ e∈es,BO a.heap.size e)∧Post v a):sn P0 P Post g w:=⟨.mk fun _=>.fin,mv.2 (.inr (.inl h))⟩
theorem O2{g:So}{w a:RD}(h:sn P0 P Post g w)(b:AtRel w a):sn P0 P Post g a:=by
 obtain⟨c,h⟩:=h;exact⟨c,h.F2 b⟩
theorem Nf(P0:RM)(u:RD):∃ w,Un w u∧Hp (aV P0) w∧w.tape=u.tape∧w.drawn=u.drawn∧∀ (b:Nat) o,u.heap[b]? =Ry o→aV P0 o→w.heap[b]? =Ry o:=by
 classical
 have h:∀ o,¬ aV P0 o→jk o=RF:=fun o g=>by cases o<;>first|rfl|exact absurd trivial g
 have f:∀ b:Nat,(u.heap.map fun o=>if aV P0 o then o else pz)[b]? =(u.heap[b]?).map fun o=>if aV P0 o then o else pz:=fun b=>by simp
 refine⟨{u with heap:=u.heap.map fun o=>if aV P0 o then o else pz},⟨by simp,fun b o a=>?_,rfl,rfl⟩,fun b o a=>?_,rfl,rfl,fun b o a i=>?_⟩
 ·simp only[f] at a;cases d:u.heap[b]? with
  |none=>rw[d] at a;cases a
  |some e=>
   rw[d] at a;simp only[TG,SY] at a;by_cases c:aV P0 e
   ·rw[if_pos c] at a;subst a;exact .inl rfl
   ·rw[if_neg c] at a;exact .inr ⟨a.symm,e,rfl,h e c⟩
 ·simp only[f] at a;cases d:u.heap[b]? with
  |none=>rw[d] at a;cases a
  |some e=>
   rw[d] at a;simp only[TG,SY] at a;by_cases c:aV P0 e
   ·rw[if_pos c] at a;subst a;exact .inl c
   ·rw[if_neg c] at a;exact .inr a.symm
 ·simp only[f,a,TG,if_pos i]
theorem EO{Stop:RU→List RU→RD→Prop}{fr:RU}{az:List RU}{w u:RD}(h:Fin P0 P Stop fr az w u):∀ {cs:List RU},ei P0 fr az→Hp (aV P0) w→Un w u→(∀ fr' tops' w' b,Stop fr' tops' w'→ei P0 fr' tops'→Hp (aV P0) w'→qL w u w' b→Sm u b→sn P0 P Post (RN fr' (tops' ++ cs)) b)→sn P0 P Post (RN fr (az ++ cs)) u:=by
 intro cs;refine h (fun fr az w u=>ei P0 fr az→Hp (aV P0) w→Un w u→(∀ fr' tops' w' b,Stop fr' tops' w'→ei P0 fr' tops'→Hp (aV P0) w'→qL w u w' b→Sm u b→sn P0 P Post (RN fr' (tops' ++ cs)) b)→sn P0 P Post (RN fr (az ++ cs)) u) ?_ ?_
 ·intro fr az w u i j m e g;exact g _ _ _ _ i j m e.two (Sm.refl _)
 ·intro fr az w u f q B C j E A D m e g;refine wX fun F x=>?_;obtain⟨a,rfl⟩:=x;have d:=B u.tape a;obtain⟨c,z⟩:=C u.tape a;have n:u.heap.size≤(f u.tape a).2.2.2.1.heap.size:=by
   rw[c.un.size,e.size];exact d.size
  have o:(f u.tape a).2.2.2.1.tape=u.tape:=z.trans d.tape;have k:(f u.tape a).2.2.2.1.os=u.os:=c.un.os.trans (d.os.trans e.os.symm);have l:(f u.tape a).2.2.2.1.output=u.output:=c.un.output.trans (d.output.trans e.output.symm);refine⟨_,_,_,q u.tape a RF cs,rfl,⟨n,o,k,l,fun _=>trivial,fun p s=>by rw[c.un.size];exact d.evs p s⟩,?_⟩;exact A u.tape a (j u.tape a) d.hp c.un fun fr' tops' w' b i t v r y=>g fr' tops' w' b i t v ((⟨c.un,c.keep⟩:qL w u _ _).trans r) ((⟨o,k,l,n⟩:Sm u _).trans y)
theorem rI(h:Twins P0 P){Stop:RU→List RU→RD→Prop}(j:∀ fr az w,Stop fr az w→¬ GN fr){fr:RU}{az cs:List RU}{w u:RD}(ok:ei P0 fr az)(d:Hp (aV P0) w)(e:Un w u)
 (k:∀ c,∃ fr' tops' w',Steps P0 (lone fr (az ++ [bg]) (sh c 0 w)) (lone fr' (tops' ++ [bg]) w')∧Stop fr' tops' w')
 (g:∀ fr' tops' w' a,BZ Stop fr' tops' w'→ei P0 fr' tops'→qL w u w' a→Sm u a→sn P0 P Post (RN fr' (tops' ++ cs)) a):sn P0 P Post (RN fr (az ++ cs)) u:=
 EO (uc h j ok d e fun c=>by
  obtain⟨fr',tops',w',⟨N,i⟩,b⟩:=k c;exact⟨N,fr',tops',w',i,b⟩) ok d e fun fr' tops' w' a b l _ f m=>g fr' tops' w' a b l f m
def Left (c:RU):Uw→RU
 | .returned v=>c.finish v
 | .panicked a=>c.raise a
 | .outgrown=>c
def Oi (c:RU):Prop:=c.mode= .run∧((∃ e b f a,c.todo= .inRegion e (b :: f) :: a)∨∃ d a,c.todo= .inRangeFunc d :: a)
def kA (P0 P:RM)(Post:RB→RD→Prop)(f:TH)(args:Array RB)(w:RD)(R:Uw→RD→Prop):Prop:=
 ∀ (a:RU) (d:List RU),ei P0 a []→Oi a→vH P0 w→
  (∀ c b,R c b→vH P0 b→Sm w b→ei P0 (Left a c) []→sn P0 P Post (RN (Left a c) d) b)→sn P0 P Post (RN (Sz P f args .normal) (a :: d)) w
def Tl (w u:RD)(R:Uw→RD→Prop)(e:Uw)(c:RD):Prop:=∃ d b a,qL w u a c∧R e (sh d b a)
theorem Cr(h:Twins P0 P)(f:TH)(args:Array RB)(kind:CallKind)(i:kind= .normal∨kind= .deferred):l6 P0 (Sz P0 f args kind):=by
 refine⟨fun k c=>?_,fun j e=>by simp[Sz] at e,i⟩;simp only[Sz,List.mem_singleton] at c;subst c;show aW P0 RE _=RF;cases g:P0.funcs[f]? with
 |none=>rfl
 |some b=>
  cases a:b.body with
  |none=>simp[a,aW]
  |some d=>simpa [a] using h.A.Ef f b d g a
theorem oB(h:Twins P0 P){f:TH}{args:Array RB}{w u:RD}{R:Uw→RD→Prop}(C:Hp (aV P0) w)(G:Un w u)(y:P.funcs[f]? =P0.funcs[f]?)(n:∀ w',¬ R .outgrown w')(z:∀ e,Sc P0 f args (sh e 0 w) R):kA P0 P Post f args u (Tl w u R):=by
 intro c J k D _ x;have r:Sz P f args .normal=Sz P0 f args .normal:=by unfold Sz;rw[y]
 rw[r];obtain⟨E,d⟩:=D;refine rI (az:=[c]) h (Stop:=fun i az w'=>az=[]∧∃ a,R a w'∧i=Left c a) (fun i az w' j=>?_) ⟨Cr h f args .normal (.inl rfl),fun T p=>by simp at p;rw[p];exact k.top,k.bot⟩ C G (fun e=>?_) (fun K S w' I j B t F=>?_)
 ·obtain⟨_,a,b,rfl⟩:=j;rintro⟨A,s,o⟩;cases a with
  |returned v=>
   rcases d with⟨O,M,Q,H,d⟩|⟨N,H,d⟩
   ·simp[Left,TD,d] at o
   ·simp[Left,TD,d] at o
  |panicked g=>
   simp[Left,Frame.raise,E] at A
  |outgrown=>exact n _ b
 ·obtain⟨a,w',i,b,l,L,m⟩:=z e (c :: [bg]);cases a with
  |returned v=>exact⟨c.finish v,[],w',l.trans (.one (step_leave_returned m)),rfl,.returned v,b,rfl⟩
  |panicked g=>exact⟨c.raise g,[],w',l.trans (.one (step_leave_panicked m)),rfl,.panicked g,b,rfl⟩
  |outgrown=>exact absurd b (n _)
 ·obtain⟨e,q,rfl,a,b,rfl⟩:=j;exact x a I ⟨e,q,w',t,b⟩ trivial F B
end
def D1 (P0 P:RM)(Post:RB→RD→Prop)(fr:RU)(cs:List RU)(w:RD):Prop:=ei P0 fr []→vH P0 w→sn P0 P Post (RN fr cs) w
section
variable {P0 P:RM}{Post:RB→RD→Prop}
theorem NR{w u w' d:RD}(h:qL w u w' d)(e:u.heap=w.heap):d.heap=w'.heap:=by
 apply Array.ext_getElem?;intro b;rcases h.un.cases b with c|⟨c,i,f,g⟩
 ·exact c
 ·rw[(h.keep b c).2,e,(h.keep b c).1,c]
theorem NS{w u g u1 i u2:RD}(h1:qL w u g u1)(h:qL w u i u2)(e:g.heap=i.heap):u1.heap=u2.heap:=by
 apply Array.ext_getElem?;intro b;by_cases c:g.heap[b]? =Ry pz
 ·rw[(h1.keep b c).2,(h.keep b (by rw[← e];exact c)).2]
 ·rcases h1.un.cases b with d|⟨d,_⟩
  ·rcases h.un.cases b with f|⟨f,_⟩
   ·rw[d,f,e]
   ·exact absurd (by rw[e];exact f) c
  ·exact absurd d c
theorem qL.same{w u w' g:RD}(h:qL w u w' g)(i:Un w u){b:Nat}(e:w'.heap[b]? =w.heap[b]?):g.heap[b]? =u.heap[b]? :=by
 by_cases f:w'.heap[b]? =Ry pz
 ·exact(h.keep b f).2
 ·rcases h.un.cases b with c|⟨c,_⟩
  ·rcases i.cases b with d|⟨d,_⟩
   ·rw[c,d,e]
   ·exact absurd (e.trans d) f
  ·exact absurd c f
structure Mk(P0:RM)(ws w:RD):Prop where
 un:Un ws w
 hp:Hp (aV P0) ws
 at_:∀ (b:Nat) o,w.heap[b]? =Ry o→aV P0 o→ws.heap[b]? =Ry o
theorem CH(P0:RM)(w:RD):∃ ws,Mk P0 ws w:=by
 obtain⟨ws,c,d,-,-,e⟩:=Nf P0 w;exact⟨ws,c,d,e⟩
section
variable {b:RU}{a:TZ}{k:List Uk}{cs:List RU}{w:RD}
def QN (P0 P:RM)(Post:RB→RD→Prop)(b:RU)(k:List Uk)(cs:List RU)(w':RD):Exit→TZ→Prop
 | .normal,a=>D1 P0 P Post (b.at a k) cs w'
 | .exit id,a=>∀ d,Vu id k=Ry d→D1 P0 P Post (b.at a d) cs w'
 | .ret,a=>∀ c,D1 P0 P Post {b.at a c with mode:=.returning} cs w'
 | .panic e,a=>∀ c,D1 P0 P Post {b.at a c with mode:=.panicking e} cs w'
 |_,_=>True
theorem wh{id:Nat}{i:Uk}:∀ {k k':List Uk},Vu id k=Ry k'→i∈k'→i∈k
 | [],k',c,_=>by simp[Vu] at c
 |x :: f,k',c,d=>by
  cases x<;>simp only[Vu] at c
  case inBlock e=>
   split at c
   ·cases c;exact List.mem_cons_of_mem _ d
   ·exact List.mem_cons_of_mem _ (wh c d)
  all_goals exact List.mem_cons_of_mem _ (wh c d)
theorem Gh(h:Twins P0 P){c:UR}{Q:RD→Exit→TZ→RD→Prop}(E:∀ ws,Mk P0 ws w→∀ o,c.wp P0 (Q ws) a (sh o 0 ws))(y:∀ s,Item.code (.refuse s)∉k)(C:∀ ws id a w,Q ws (.exit id) a w→Vu id k≠RA)(D:∀ ws l a w,¬ Q ws (.goto l) a w)(F:∀ ws a w,¬ Q ws .outgrown a w)
 (B:∀ ws e a' z w' o d,Mk P0 ws w→Q ws e a' (sh o d z)→qL ws w z w'→Sm w w'→QN P0 P Post b k cs w' e a'):D1 P0 P Post (b.at a (.code c :: k)) cs w:=by
 intro H _;obtain⟨ws,m⟩:=CH P0 w;refine rI (az:=[]) h (Stop:=fun q az w'=>az=[]∧∃ e a',Q ws e a' w'∧(match e with
  | .normal=>q=b.at a' k
  | .exit id=>∃ j,Vu id k=Ry j∧q=b.at a' j
  | .ret=>∃ g,q= {b.at a' g with mode:=.returning}
  | .panic p=>∃ g,q= {b.at a' g with mode:=.panicking p}
  |_=>False)) (fun q az w' n=>?_) H m.hp m.un (fun o=>?_) (fun J K w' I n u A G=>?_)
 ·obtain⟨_,e,a',i,f⟩:=n;rintro⟨m,s,v⟩;cases e with
  |normal=>subst f;exact y s (by simp only[Frame.at] at v;rw[v];exact UL ..)
  |exit id=>obtain⟨j,x,rfl⟩:=f;exact y s (wh x (by simp only[Frame.at] at v;rw[v];exact UL ..))
  |ret=>obtain⟨g,rfl⟩:=f;cases m
  |panic p=>obtain⟨g,rfl⟩:=f;cases m
  |goto l=>exact f
  |outgrown=>exact f
 ·obtain⟨e,a',w',i,t⟩:=E ws m o b k [bg];cases e with
  |normal=>exact⟨_,[],w',t,rfl,.normal,a',i,rfl⟩
  |exit id=>
   cases f:Vu id k with
   |none=>exact absurd f (C ws id a' w' i)
   |some j=>exact⟨_,[],w',t j f,rfl,.exit id,a',i,j,f,rfl⟩
  |ret=>obtain⟨g,n⟩:=t;exact⟨_,[],w',n,rfl,.ret,a',i,g,rfl⟩
  |panic p=>obtain⟨g,n⟩:=t;exact⟨_,[],w',n,rfl,.panic p,a',i,g,rfl⟩
  |goto l=>exact absurd i (D ws l a' w')
  |outgrown=>exact absurd i (F ws a' w')
 ·obtain⟨o,d,rfl,e,a',i,f⟩:=n;have r:=B ws e a' w' I o d m i A G;cases e with
  |normal=>subst f;exact r u trivial
  |exit id=>obtain⟨j,x,rfl⟩:=f;exact r j x u trivial
  |ret=>obtain⟨g,rfl⟩:=f;exact r g u trivial
  |panic p=>obtain⟨g,rfl⟩:=f;exact r g u trivial
  |goto l=>exact f.elim
  |outgrown=>exact f.elim
end
end
section
variable {P0 P:RM}{Post:RB→RD→Prop}{b:RU}{a:TZ}{k:List Uk}{cs:List RU}{w:RD}{ops:Array Te}
theorem Nj{i:Nat}{rest:List Nat}{o:Te}{f:TH}{fn:Uj}{c:UR}{args:Array SG}{ats:Array RO}{R:Uw→RD→Prop}(A:b.kind= .normal)(n:ops[i]? =Ry o)(F:Sn o (S2 ops a.tmps)=RF)(r:o.op= .call {callee:=.value (.func f),args,argTypes:=ats})
 (l:P.funcs[f]? =Ry fn) (m:(fn.name == "runtime.NumGoroutine")=RE) (z:fn.body=Ry c) (hR:∀ d,AtRel w d→kA P0 P Post f (args.map a.eval) d R)
 (y:∀ v w',R (.returned v) w'→Sm w w'→D1 P0 P Post (b.at (a.put o.dst v) (.inRegion ops rest :: k)) cs w') (hP:∀ ch w',R (.panicked ch) w'→Sm w w'→D1 P0 P Post {b.at a (.inRegion ops (i :: rest) :: k) with mode:=.panicking ch} cs w') (B:∀ w',¬ R .outgrown w'):D1 P0 P Post (b.at a (.inRegion ops (i :: rest) :: k)) cs w:=by
 intro G C;refine wX fun d h=>?_;have j:fn.body.isNone=RE:=by rw[z];rfl
 have E:Sq P RF (RN (b.at a (.inRegion ops (i :: rest) :: k)) cs) d= .go (RN (Sz P f (args.map a.eval) .normal) (b.at a (.inRegion ops (i :: rest) :: k) :: cs)) d #[]:=by
  rw[stepG_enter n F (by rw[A];simp) (run_call_body r l m j)];have:listed P b.fn a o d=#[]:=by unfold listed;rw[events_call_body r l m j];exact Conc.seen_none P _
  rw[this]
 have D:vH P0 d:=by obtain⟨x,rfl⟩:=h;exact C
 have t:Sm w d:=by obtain⟨x,rfl⟩:=h;exact⟨rfl,rfl,rfl,RG _⟩
 refine⟨_,_,_,E,rfl,⟨RG _,rfl,rfl,rfl,fun H=>H,fun e g=>by simp at g⟩,?_⟩;refine hR d h _ cs G ⟨rfl,.inl ⟨ops,i,rest,k,rfl⟩⟩ D fun e w' g s u p=>?_;cases e with
 |returned v=>
  have:=y v w' g (t.trans u);have e:=UY b a ops i rest k v;rw[n] at e;have q:ei P0 ((b.at a (.inRegion ops (i :: rest) :: k)).finish v) []:=p;rw[e] at q;show sn P0 P Post (RN ((b.at a (.inRegion ops (i :: rest) :: k)).finish v) cs) w';rw[e];exact this q s
 |panicked ch=>exact hP ch w' g (t.trans u) p s
 |outgrown=>exact absurd g (B w')
theorem EP{fr:RU}{v:RB}(j:P.inits.idxOf? fr.fn=RA)(m:∀ s d,fr.leaving P (sh s d w) (.returned v))(i:∀ c,AtRel w c→∀ fn,P.funcs[fr.fn]? =Ry fn→∀ e∈((SD fn fr.tmps).runT P c #[]).2,yA c.heap.size e)(o:∀ c,AtRel w c→Post v c):sn P0 P Post (RN fr []) w:=by
 refine Nk fun c r=>?_;obtain⟨d,rfl⟩:=r;obtain⟨n,h,l,fn,g,p⟩:=m w.tape d;have q:(SD fn fr.tmps).run P (w.at d)= .ok v (w.at d):=p;have f:=i (w.at d) ⟨d,rfl⟩ fn g;rw[Vr] at f;refine⟨v,seen P fr.fn ((SD fn fr.tmps).events P (w.at d) #[]),?_,Di f,o _ ⟨d,rfl⟩⟩;simp[RN,Sq,Vv,n,h,g,Us,l,j,Uh,q]
end
end Cc
namespace Rl
section
variable {G:k8}
def eH:Nat→RB→Bool
 |_,.bool _|_,.int _ _|_,.string _|_,.pointer RA|_,.slice RA _ _|_,.map RA|_,.chan RA|_,.nilFunc|_,.nilIface=>RF
 |n+1,.iface _ v=>eH n v
 |n+1,.agg a|n+1,.tuple a=>a.toList.all (eH n)
 |_,_=>RE
theorem pM:∀ (n:Nat) {ρ:aN G} (v:RB),eH n v=RF→aq ρ v v
 |n,ρ,v,a=>by
  cases v with
  |bool c=>exact .bool c
  |int e d=>exact .int e d
  |string s=>exact .string s
  |pointer b=>cases b with
   |none=>exact .cG
   |some b=>cases n<;>simp[eH] at a
  |slice b m l=>cases b with
   |none=>exact .ja _ _
   |some b=>cases n<;>simp[eH] at a
  |map g=>cases g with
   |none=>exact .jG
   |some b=>cases n<;>simp[eH] at a
  |chan g=>cases g with
   |none=>exact .gS
   |some b=>cases n<;>simp[eH] at a
  |nilFunc=>exact .nilFunc
  |nilIface=>exact .nilIface
  |float e c=>cases n<;>simp[eH] at a
  |complex e b c=>cases n<;>simp[eH] at a
  |func f o p=>cases n<;>simp[eH] at a
  |iface k v=>cases n with
   |zero=>simp[eH] at a
   |succ n=>exact .iface k (pM n v (by simpa [eH] using a))
  |agg h=>cases n with
   |zero=>simp[eH] at a
   |succ n=>exact .agg rfl (fun d i j=>pM n _ (by
    simp only[eH] at a;exact Sf.1 a _ (by simp)))
  |tuple h=>cases n with
   |zero=>simp[eH] at a
   |succ n=>exact .tuple rfl (fun d i j=>pM n _ (by
    simp only[eH] at a;exact Sf.1 a _ (by simp)))
def cP (G:k8):SG→Bool
 | .tmp _=>RF
 | .const v=>eH 6 v
 | .global _=>RE
 | .func f=>G.b f
def wj (P:RM)(b:Builtin)(c:Array RO):Bool:=
 match b with
 | .append=>match c[1]? with
  |some a=>(match P.underlying a with|some (.int _)=>RE|_=>RF)
  |none=>RF
 | .copy| .len| .recover| .unsafeString=>RF
 |_=>RE
def kG (P:RM)(ρ:aN G)(k:Target)(l:Target):Prop:=∀ a:Target→Target→Prop,(∀ {f h:Fn} (m:mC ρ f h) {d e:Array RB} (j:aU ρ d e),a (.fn f d) (.fn h e))→(a .nil .nil)→(∀ (b:Builtin) (c:Array RO) (i:RO) (g:Array Bool) (j:wj P b c=RF),a (.builtin b c i g) (.builtin b c i g))→a k l
theorem kG.fn{P:RM}{ρ:aN G}{f f':Fn}(d:mC ρ f f'){c a:Array RB}(h:aU ρ c a):kG P ρ (.fn f c) (.fn f' a):=fun e b g i=>b d h
theorem kG.nil{P:RM}{ρ:aN G}:kG P ρ .nil .nil:=fun b c a d=>a
theorem kG.builtin{P:RM}{ρ:aN G}(b:Builtin)(a:Array RO)(t:RO)(cs:Array Bool)(h:wj P b a=RF):kG P ρ (.builtin b a t cs) (.builtin b a t cs):=fun d e f c=>c b a t cs h
theorem kG.ind{P:RM}{ρ:aN G}{e:∀ (a:Target) (d:Target),kG P ρ a d→Prop}(fn:∀ {f f':Fn} (i:mC ρ f f') {c j:Array RB} (h:aU ρ c j),e _ _ (kG.fn i h))(nil:e _ _ (kG.nil))(builtin:∀ (b:Builtin) (g:Array RO) (t:RO) (cs:Array Bool) (h:wj P b g=true),e _ _ (kG.builtin b g t cs h)){a:Target}{d:Target}(h:kG P ρ a d):e a d h:=(h (fun a d=>kG P ρ a d∧∀ h,e a d h) (fun {f} {f'} i {c} {j} h=>⟨kG.fn i h,fun _=>fn i h⟩) (⟨kG.nil,fun _=>nil⟩) (fun b g t cs h=>⟨kG.builtin b g t cs h,fun _=>builtin b g t cs h⟩)).2 h
structure vF(P:RM)(ρ:aN G)(d d':TS):Prop where
 target:kG P ρ d.target d'.target
 args:aU ρ d.args d'.args
def gM (P:RM)(ρ:aN G)(i:Next)(j:Next):Prop:=∀ a:Next→Next→Prop,(∀ {v e:RB} (d:aq ρ v e),a (.value v) (.value e))→(a .skip .skip)→(∀ (f:TH) (k:G.b f=RF) {g h:Array RB} (d:aU ρ g h),a (.enter f g) (.enter f h))→(∀ {b c:TS} (d:vF P ρ b c),a (.defer b) (.defer c))→(a .recover .recover)→a i j
theorem gM.value{P:RM}{ρ:aN G}{v a:RB}(h:aq ρ v a):gM P ρ (.value v) (.value a):=fun c b d e f g=>b h
theorem gM.skip{P:RM}{ρ:aN G}:gM P ρ .skip .skip:=fun b c a d e f=>a
theorem gM.enter{P:RM}{ρ:aN G}(f:TH)(c:G.b f=RF){vs a:Array RB}(h:aU ρ vs a):gM P ρ (.enter f vs) (.enter f a):=fun d e g b i j=>b f c h
theorem gM.defer{P:RM}{ρ:aN G}{d a:TS}(h:vF P ρ d a):gM P ρ (.defer d) (.defer a):=fun c e f g b i=>b h
theorem gM.recover{P:RM}{ρ:aN G}:gM P ρ .recover .recover:=fun b c d e f a=>a
theorem gM.ind{P:RM}{ρ:aN G}{a:∀ (b:Next) (c:Next),gM P ρ b c→Prop}(value:∀ {v j:RB} (h:aq ρ v j),a _ _ (gM.value h))(skip:a _ _ (gM.skip))(enter:∀ (f:TH) (e:G.b f=true) {vs g:Array RB} (h:aU ρ vs g),a _ _ (gM.enter f e h))(defer:∀ {d i:TS} (h:vF P ρ d i),a _ _ (gM.defer h))(recover:a _ _ (gM.recover)){b:Next}{c:Next}(h:gM P ρ b c):a b c h:=(h (fun b c=>gM P ρ b c∧∀ h,a b c h) (fun h=>⟨gM.value h,fun _=>value h⟩) (⟨gM.skip,fun _=>skip⟩) (fun f e {vs} {g} h=>⟨gM.enter f e h,fun _=>enter f e h⟩) (fun h=>⟨gM.defer h,fun _=>defer h⟩) (⟨gM.recover,fun _=>recover⟩)).2 h
section
variable {P P':RM}{ρ:aN G}
theorem aU.two{vs d:Array RB}(h:aU ρ vs d):(∃ a b a' b',vs=#[a,b]∧d=#[a',b']∧aq ρ a a'∧aq ρ b b')∨(vs.size≠2∧d.size≠2):=by
 by_cases c:vs.size=2
 ·have e:d.size=2:=by rw[← h.1];exact c
  obtain⟨f⟩:=vs;obtain⟨g⟩:=d;simp at c e
  match f,g,c,e,h with
  | [a,b],[a',b'],_,_,h=>exact .inl ⟨a,b,a',b',rfl,rfl,h.2 0 (by simp) (by simp),h.2 1 (by simp) (by simp)⟩
 ·exact .inr ⟨c,by rw[← h.1];exact c⟩
theorem uk:∀ (n:Nat) {ρ:aN G} {a a':Sl} (b:ByteArray),cy ρ a a'→an P P' (ig (α:=ByteArray)) ρ (loadBytes a b n) (loadBytes a' b n)
 |0,ρ,a,a',b,c=>.av rfl
 |n+1,ρ,a,a',b,c=>by
  unfold loadBytes;refine .load c (fun v g d=>?_);cases d using aq.ind with
  |int e f=>
   cases e<;>first|exact an.stuck|exact uk n _ (c.add 1)
  |_=>exact an.stuck
theorem Li(L:Alike G P P')(t:RO):an P P' (ig (α:=RO)) ρ (elemOf t) (elemOf t):=by
 unfold elemOf;refine(aO L.S t).bindM (fun e b d c a=>?_);obtain⟨rfl,-⟩:=a;cases b<;>first|exact .av rfl|exact an.stuck
theorem yX(L:Alike G P P'){a a':Sl}(u:RO)(n:Nat)(h:cy ρ a a'):an P P' (ig (α:=Bool)) ρ (variablesAt a u n) (variablesAt a' u n):=by
 unfold variablesAt;refine .asks ?_;refine(nH h.1).bindM (fun g c f d b=>?_);cases b;cases c with
 |none=>exact .av rfl
 |some e=>dsimp only;rw[L.nt,L.depth,L.cells,← h.2.1];exact .av rfl
theorem xw(L:Alike G P P')(c:Array RO)(t:RO){vs e:Array RB}(h:aU ρ vs e):an P P' aq ρ (Builtin.unsafeString_ c t vs) (Builtin.unsafeString_ c t e):=by
 unfold Builtin.unsafeString_;rcases h.two with⟨n,p,o,q,rfl,rfl,b,k⟩|⟨g,i⟩
 ·cases b using aq.ind with
  |cG=>
   refine(nF k).bindM (fun C A B d a=>?_);cases a;cases c[0]? with
   |none=>exact an.stuck
   |some m=>
    dsimp only
    split
    ·exact tj L _ (by simp) (by simp) (by simp)
    ·split
     ·exact eN
     ·split
      ·exact .av (.string _)
      ·exact dZ L.S _ (by simp) (by simp) (by simp)
  |ptr b=>
   refine(nF k).bindM (fun C A B d a=>?_);cases a;cases c[0]? with
   |none=>exact an.stuck
   |some m=>
    dsimp only
    split
    ·exact tj L _ (by simp) (by simp) (by simp)
    ·split
     ·exact eN
     ·split
      ·exact .av (.string _)
      ·refine(Li L m).bindM (fun I v D l a=>?_);cases a;refine(yX L v _ (b.mono (d.trans l))).bindM (fun J r u w a=>?_);cases a;have j:=b.mono (d.trans (l.trans w))
       split
       ·refine(uk _ _ j).bindM (fun K s H x a=>?_);cases a;exact .freeze (j.mono x) (.pure (.string _))
       ·exact an.cS
  |_=>exact an.stuck
 ·obtain⟨y⟩:=vs;obtain⟨z⟩:=e;have f:=h.1;simp only[List.size_toArray] at f g i;rcases y with _|⟨n,_|⟨p,_|⟨r,E⟩⟩⟩<;>rcases z with _|⟨o,_|⟨q,_|⟨u,F⟩⟩⟩<;>first|exact an.stuck|(exfalso;simp at f;done)|(exfalso;simp at g;done)|(exfalso;simp at i;done)
theorem cq{s s':T1 RB}(h:an P P' aq ρ s s'):an P P' (gM P) ρ (do pure (.value (← s))) (do pure (.value (← s'))):=h.bindM (fun _ _ _ _ h=>.av (.value h))
theorem xu{s s':T1 Unit}(h:an P P' (ig (α:=Unit)) ρ s s'):an P P' (gM P) ρ (do s;pure .skip) (do s';pure .skip):=h.bindM (fun _ _ _ _ _=>.av .skip)
theorem IA(L:Alike G P P')(b:Builtin)(a:Array RO)(t:RO)(cs:Array Bool)(c:wj P b a=RF){vs d:Array RB}(h:aU ρ vs d):an P P' (gM P) ρ (builtin b a t cs vs) (builtin b a t cs d):=by
 unfold builtin;cases b<;>first
  |(simp[wj] at c;done)
  |exact cq (Pf L a t h)
  |exact cq (Qo L a t h)
  |exact cq (xw L a t h)
  |exact .av .recover
  |(refine cq (Lg L a t (fun i f g e=>?_) h);simp only[wj,f,e] at c;cases c)
theorem ET(L:Alike G P P')(f:TH)(d:G.b f=RF){vs e:Array RB}(h:aU ρ vs e):an P P' (gM P) ρ (callFunc f vs) (callFunc f e):=by
 unfold callFunc;obtain⟨j,b,g,i⟩:=L.OG f d;refine .asks ?_;have a:=L.OP f;rw[b] at a;cases c:P'.funcs[f]? with
 |none=>rw[c] at a;simp at a
 |some k=>
  rw[c] at a;simp only[TG,SY,Prod.mk.injEq] at a;rw[b];dsimp only;rw[a.1,i,a.2,g];exact .av (.enter f d h)
theorem CX(L:Alike G P P'){t b:Target}(j:kG P ρ t b){vs c:Array RB}(h:aU ρ vs c):an P P' (gM P) ρ (invoke t vs) (invoke b c):=by
 unfold invoke;cases j using kG.ind with
 |nil=>exact dZ L.S _ (by simp) (by simp) (by simp)
 |builtin d k t e g=>exact IA L d k t e g h
 |fn a i=>
  cases a using mC.ind with
  |func f a=>exact ET L f a (h.append i)
def wm (G:k8)(P:RM)(c:Call):Bool:=
 c.args.toList.all (cP G) && match c.callee with
  | .builtin a=>wj P a c.argTypes
  | .value f=>cP G f
  | .invoke _ _=>RE
theorem FK{e e':SG→RB}(b:∀ x,cP G x=RF→aq ρ (e x) (e' x))(a:Array SG)(h:a.toList.all (cP G)=RF):aU ρ (a.map e) (a.map e'):=by
 refine⟨by simp,fun f c d=>?_⟩;simp only[Array.getElem_map];exact b _ (Sf.1 h _ (by simp))
theorem zT{e e':SG→RB}(i:∀ x,cP G x=RF→aq ρ (e x) (e' x))(c:Call)(t:RO)(h:wm G P c=RF):an P P' (vF P) ρ (Vj e c t) (Vj e' c t):=by
 unfold Vj;unfold wm at h;rw[R7] at h;have g:=FK i c.args h.1;have a:=h.2;cases d:c.callee with
 |builtin j=>
  rw[d] at a;exact .av ⟨.builtin j _ t _ a,g⟩
 |value f=>
  rw[d] at a;have b:=i f a;dsimp only;unfold U5;generalize e f=x at b;generalize e' f=p at b;cases b using aq.ind with
  |func b k a l m=>exact .av ⟨.fn b ⟨l,m⟩,aU.append ⟨k,a⟩ g⟩
  |nilFunc=>exact .av ⟨.nil,g⟩
  |_=>exact an.stuck
 |invoke o n=>rw[d] at a;cases a
end
end
section
variable {G:k8}
def wL (P:RM)(t:RO):Bool:=match P.underlying t with|some (.int _)=>RF|_=>RE
def Gb (P:RM)(t:RO):Bool:=match P.underlying t with|some (.map a _)=>plainKey P 10000 a|_=>RF
def eT (G:k8)(P:RM):Op→Bool
 | .move a| .assign a| .box _ a| .load _ a| .nilCheck a| .unOp _ _ a| .makeInterface _ a| .fieldAddr _ a _| .field _ a _| .extract a _| .panic a=>cP G a
 | .pick c b h=>cP G c && cP G b && cP G h
 | .alloc _=>RF
 | .build _ g| .buildSlice _ _ g=>g.toList.all fun o=>cP G o.2
 | .store _ b v| .binOp _ _ b v _| .makeSlice _ b v| .indexAddr _ b v| .index _ b v=>cP G b && cP G v
 | .convert s j a=>cP G a && wL P s && wL P j
 | .makeFunc k first i=>(match k with| .func f=>G.b f|_=>RE) && first.toList.all (cP G) && i.toList.all (cP G)
 | .makeMap _ p=>p.toList.all (cP G)
 | .slice _ a n l m=>cP G a && n.toList.all (cP G) && l.toList.all (cP G) && m.toList.all (cP G)
 | .lookup d b v _=>Gb P d && cP G b && cP G v
 | .mapUpdate d m e v| .insert d m e v=>Gb P d && cP G m && cP G e && cP G v
 | .call c| .defer c=>wm G P c
 |_=>RE
section
variable {P P':RM}{ρ:aN G}
theorem IB(L:Alike G P P')(s d:RO){v f:RB}(b:wL P s=RF)(a:wL P d=RF)(h:aq ρ v f):an P P' aq ρ (convert s d v) (convert s d f):=by
 unfold convert;refine(aO L.S s).bindM (fun n g l j c=>?_);obtain⟨rfl,c⟩:=c;refine(aO L.S d).bindM (fun o i m k e=>?_);obtain⟨rfl,e⟩:=e;unfold wL at b a;rw[c] at b;rw[e] at a;cases g<;>first|(simp at b;done)|skip
 cases i<;>first|(simp at a;done)|skip
 cases h using aq.ind<;>first|exact .av (.int _ _)|exact an.cS
theorem pI{e e':SG→RB}(a:∀ x,cP G x=RF→aq ρ (e x) (e' x))(o:Option SG)(h:o.toList.all (cP G)=RF):dM ρ (o.map e) (o.map e'):=by
 cases o with
 |none=>exact .none
 |some x=>exact .some (a x (by simpa using h))
theorem zO{e e':SG→RB}(a:∀ x,cP G x=RF→aq ρ (e x) (e' x))(ps:Array (Nat×SG))(h:(ps.toList.all fun p=>cP G p.2)=RF):gz ρ (ps.map fun(i,x)=>(i,e x)).toList (ps.map fun(i,x)=>(i,e' x)).toList:=by
 rw[Array.toList_map,Array.toList_map];generalize ps.toList=c at h
 induction c with
 |nil=>exact .nil
 |cons p d b=>
  simp only[List.all_cons,R7] at h;exact .cons p.1 (a _ h.1) (b h.2)
theorem wN{t:RO}(h:Gb P t=RF):∀ a b,P.underlying t=Ry (.map a b)→plainKey P 10000 a=RF:=by
 intro a b c;unfold Gb at h;rw[c] at h;exact h
theorem Pg(L:Alike G P P')(o:Te){e e':SG→RB}(a:eT G P o.op=RF)(b:∀ x,cP G x=RF→aq ρ (e x) (e' x))(I:∀ x,o.op= .panic x→(∃ t v,e x= .iface t v)∨e x=SP):an P P' (gM P) ρ (Sd e o) (Sd e' o):=by
 unfold Sd;cases c:o.op with
 |move x=>rw[c] at a;exact .av (.value (b x a))
 |assign x=>rw[c] at a;exact .av (.value (b x a))
 |pick i g h=>
  rw[c] at a;simp only[eT,R7] at a;refine(Lh (b i a.1.1)).bindM (fun A x q j H=>?_);cases H;cases x
  ·exact .av (.value ((b h a.2).mono j))
  ·exact .av (.value ((b g a.1.2).mono j))
 |alloc t=>exact cq (Nu L t)
 |box t x=>rw[c] at a;exact cq (Qn t (b x a))
 |build t z=>rw[c] at a;exact cq (Nw L t (zO b z a))
 |buildSlice t K z=>rw[c] at a;exact cq (A7 L t K (zO b z a))
 |load t x=>rw[c] at a;exact cq (Ll L t (b x a))
 |store t g v=>
  rw[c] at a;simp only[eT,R7] at a;exact xu (IK L t (b g a.1) (b v a.2))
 |nilCheck x=>
  rw[c] at a;have d:=b x a;dsimp only;generalize e x=v at d;generalize e' x=C at d;have B:=d;cases d using aq.ind with
  |cG=>exact dZ L.S _ (by simp) (by simp) (by simp)
  |nilIface=>exact dZ L.S _ (by simp) (by simp) (by simp)
  |nilFunc=>exact dZ L.S _ (by simp) (by simp) (by simp)
  |func a Q R S T=>
   cases a using mC.ind with
   |func f O=>exact .av (.value B)
  |_=>exact .av (.value B)
 |binOp p t x q U=>
  rw[c] at a;simp only[eT,R7] at a;exact cq ((IC L p t x q (b x a.1) (b q a.2)).bindM (fun A _ _ j _=>Nv L p t ((b x a.1).mono j) ((b q a.2).mono j)))
 |unOp p t x=>rw[c] at a;exact cq (ND p (b x a))
 |convert s r x=>
  rw[c] at a;simp only[eT,R7] at a;exact cq (IB L s r a.1.2 a.2 (b x a.1.1))
 |makeInterface t x=>rw[c] at a;exact cq (uT L t (b x a))
 |makeFunc F first D=>
  rw[c] at a;simp only[eT,R7] at a;have u:=FK b first a.1.2
  have w:=FK b D a.2;cases F with
  |func f=>exact cq (.av (.func (.func f a.1.1) u.1 u.2 w.1 w.2))
  |_=>exact absurd a.1.1 (by simp)
 |makeMap t N=>rw[c] at a;exact cq (II L t (pI b N a))
 |makeSlice t g h=>
  rw[c] at a;simp only[eT,R7] at a;exact cq (CY L t (b g a.1) (b h a.2))
 |slice t x J d m=>
  rw[c] at a;simp only[eT,R7] at a;exact cq (IJ L t (b x a.1.1.1) (pI b J a.1.1.2) (pI b d a.1.2) (pI b m a.2))
 |fieldAddr t x l=>rw[c] at a;exact cq (IE L t (b x a) l)
 |field t x l=>rw[c] at a;exact cq (Nx L t (b x a) l)
 |indexAddr t g h=>
  rw[c] at a;simp only[eT,R7] at a;exact cq (IF L t (b g a.1) (b h a.2))
 |index t g h=>
  rw[c] at a;simp only[eT,R7] at a;exact cq (NA L t (b g a.1) (b h a.2))
 |lookup t g h M=>
  rw[c] at a;simp only[eT,R7] at a;exact cq (Lm L t M (wN a.1.1) (b g a.1.2) (b h a.2))
 |mapUpdate t m y v=>
  rw[c] at a;simp only[eT,R7] at a;exact xu (uq L t (wN a.1.1.1) (b m a.1.1.2) (b y a.1.2) (b v a.2))
 |insert t m y v=>
  rw[c] at a;simp only[eT,R7] at a;exact xu (uq L t (wN a.1.1.1) (b m a.1.1.2) (b y a.1.2) (b v a.2))
 |extract x l=>rw[c] at a;exact cq (ID (b x a) l)
 |call i=>
  rw[c] at a;exact(zT b i o.type a).bindM (fun A r E _ n=>CX L n.target n.args)
 |defer i=>
  rw[c] at a;exact(zT b i o.type a).bindM (fun A r E _ n=>.av (.defer n))
 |panic x=>
  rw[c] at a;have d:=b x a;dsimp only;rcases I x c with⟨t,v,k⟩|k
  ·rw[k] at d ⊢;generalize e' x=C at d;cases d using aq.ind with
   |iface t k=>exact an.halt (.panic (.iface t k))
  ·rw[k] at d ⊢;generalize e' x=C at d;unfold SP at d ⊢;cases d using aq.ind with
   |tuple u w=>exact an.stuck
 |_=>rw[c] at a;simp[eT] at a
end
end
section
variable {G:k8}
def py:Op→Bool
 | .panic _=>RF
 |_=>RE
def ny (ops:Array Te)(a b:Nat):Bool:=
 match ops[b]? with
 |some d=>match d.op with
  | .panic g=>match ops[a]? with
   |some c=>(match c.op,c.dst,g with| .makeInterface _ _,Ry e,.tmp f=>e == f|_,_,_=>RE) && c.guard.isNone
   |none=>RE
  |_=>RF
 |none=>RF
def jO (ops:Array Te):List Nat→Bool
 |a :: b :: c=>ny ops a b && jO ops (b :: c)
 |_=>RF
def Ge (ops:Array Te)(i:Nat):Bool:=match ops[i]? with|some a=> !py a.op|none=>RF
def lJ (G:k8)(P:RM)(ops:Array Te)(b:Bool):Bool:=
 (ops.toList.all fun a=>eT G P a.op) && if b then ops.toList.all (fun a=> !py a.op) else jO ops (Sw ops.size) && Ge ops 0
def bY (G:k8)(P:RM):UR→Bool
 | .region _ e d=>lJ G P e d
 | .seq a b=>bY G P a && bY G P b
 | .cond c a b=>cP G c && bY G P a && bY G P b
 | .block _ a| .loop a| .scope a=>bY G P a
 | .skip| .exit _| .label _| .ret=>RF
 | .rangeFunc _ _ _ _| .goto _| .refuse _=>RE
def bK (G:k8)(P:RM)(h:Uk):Prop:=∀ b:Uk→Prop,(∀ (a:UR) (c:bY G P a=RF),b (.code a))→(∀ (f:Nat),b (.inBlock f))→(∀ (a:UR) (c:bY G P a=RF),b (.inLoop a))→(∀ (a:UR) (c:bY G P a=RF),b (.inScope a))→(∀ (d:Array Te) (e:List Nat) (c:(d.toList.all fun g=>eT G P g.op)=RF) (i:jO d e=RF),b (.inRegion d e))→b h
theorem bK.code{G:k8}{P:RM}(c:UR)(h:bY G P c=RF):bK G P (.code c):=fun b a d e f g=>a c h
theorem bK.inBlock{G:k8}{P:RM}(i:Nat):bK G P (.inBlock i):=fun b c a d e f=>a i
theorem bK.inLoop{G:k8}{P:RM}(c:UR)(h:bY G P c=RF):bK G P (.inLoop c):=fun b d e a f g=>a c h
theorem bK.inScope{G:k8}{P:RM}(c:UR)(h:bY G P c=RF):bK G P (.inScope c):=fun b d e f a g=>a c h
theorem bK.inRegion{G:k8}{P:RM}(ops:Array Te)(todo:List Nat)(h:(ops.toList.all fun o=>eT G P o.op)=RF)(hc:jO ops todo=RF):bK G P (.inRegion ops todo):=fun b c d e f a=>a ops todo h hc
theorem bK.ind{G:k8}{P:RM}{a:∀ (b:Uk),bK G P b→Prop}(code:∀ (c:UR) (h:bY G P c=true),a _ (bK.code c h))(inBlock:∀ (i:Nat),a _ (bK.inBlock i))(inLoop:∀ (c:UR) (h:bY G P c=true),a _ (bK.inLoop c h))(inScope:∀ (c:UR) (h:bY G P c=true),a _ (bK.inScope c h))(inRegion:∀ (ops:Array Te) (todo:List Nat) (h:(ops.toList.all fun o=>eT G P o.op)=true) (hc:jO ops todo=true),a _ (bK.inRegion ops todo h hc)){b:Uk}(h:bK G P b):a b h:=(h (fun b=>bK G P b∧∀ h,a b h) (fun c h=>⟨bK.code c h,fun _=>code c h⟩) (fun i=>⟨bK.inBlock i,fun _=>inBlock i⟩) (fun c h=>⟨bK.inLoop c h,fun _=>inLoop c h⟩) (fun c h=>⟨bK.inScope c h,fun _=>inScope c h⟩) (fun ops todo h hc=>⟨bK.inRegion ops todo h hc,fun _=>inRegion ops todo h hc⟩)).2 h
def BU (G:k8)(P:RM)(l:List Uk):Prop:=∀ a∈l,bK G P a∧∀ b c,a≠.inRegion b c
def qK (G:k8)(P:RM):List Uk→Prop
 | []=>True
 |i :: a=>bK G P i∧BU G P a
structure GO(ρ:aN G)(p p':S1):Prop where
 v:aq ρ p.v p'.v
 r:p.recovered=p'.recovered
 g:p.goexit=p'.goexit
def ic (ρ:aN G)(f:List S1)(g:List S1):Prop:=∀ a:List S1→List S1→Prop,(a [] [])→(∀ {d e:S1} {b c:List S1} (h:GO ρ d e) (i:a b c),a (d :: b) (e :: c))→a f g
theorem ic.nil{ρ:aN G}:ic ρ [] []:=fun b a c=>a
theorem ic.cons{ρ:aN G}{p c:S1}{l b:List S1}(h:GO ρ p c)(f:ic ρ l b):ic ρ (p :: l) (c :: b):=fun d e a=>a h (f d e a)
theorem ic.ind{ρ:aN G}{d:∀ (a:List S1) (b:List S1),ic ρ a b→Prop}(nil:d _ _ (ic.nil))(cons:∀ {p f:S1} {l e:List S1} (h:GO ρ p f) (c:ic ρ l e),(d _ _ c)→d _ _ (ic.cons h c)){a:List S1}{b:List S1}(h:ic ρ a b):d a b h:=(h (fun a b=>ic ρ a b∧∀ h,d a b h) (⟨ic.nil,fun _=>nil⟩) (fun h c=>⟨ic.cons h c.1,fun _=>cons h c.1 (c.2 _)⟩)).2 h
def fE (ρ:aN G)(d:FrameMode)(e:FrameMode):Prop:=∀ a:FrameMode→FrameMode→Prop,(a .run .run)→(a .returning .returning)→(∀ {b c:List S1} (f:ic ρ b c),a (.panicking b) (.panicking c))→a d e
theorem fE.run{ρ:aN G}:fE ρ .run .run:=fun b a c d=>a
theorem fE.returning{ρ:aN G}:fE ρ .returning .returning:=fun b c a d=>a
theorem fE.panicking{ρ:aN G}{c a:List S1}(h:ic ρ c a):fE ρ (.panicking c) (.panicking a):=fun d e f b=>b h
theorem fE.ind{ρ:aN G}{d:∀ (a:FrameMode) (b:FrameMode),fE ρ a b→Prop}(run:d _ _ (fE.run))(returning:d _ _ (fE.returning))(panicking:∀ {c e:List S1} (h:ic ρ c e),d _ _ (fE.panicking h)){a:FrameMode}{b:FrameMode}(h:fE ρ a b):d a b h:=(h (fun a b=>fE ρ a b∧∀ h,d a b h) (⟨fE.run,fun _=>run⟩) (⟨fE.returning,fun _=>returning⟩) (fun h=>⟨fE.panicking h,fun _=>panicking h⟩)).2 h
def iq (P:RM)(ρ:aN G)(f:List TS)(g:List TS):Prop:=∀ a:List TS→List TS→Prop,(a [] [])→(∀ {b c:TS} {d e:List TS} (h:vF P ρ b c) (i:a d e),a (b :: d) (c :: e))→a f g
theorem iq.nil{P:RM}{ρ:aN G}:iq P ρ [] []:=fun b a c=>a
theorem iq.cons{P:RM}{ρ:aN G}{d b:TS}{l c:List TS}(h:vF P ρ d b)(g:iq P ρ l c):iq P ρ (d :: l) (b :: c):=fun e f a=>a h (g e f a)
theorem iq.ind{P:RM}{ρ:aN G}{e:∀ (a:List TS) (b:List TS),iq P ρ a b→Prop}(nil:e _ _ (iq.nil))(cons:∀ {d f:TS} {l g:List TS} (h:vF P ρ d f) (c:iq P ρ l g),(e _ _ c)→e _ _ (iq.cons h c)){a:List TS}{b:List TS}(h:iq P ρ a b):e a b h:=(h (fun a b=>iq P ρ a b∧∀ h,e a b h) (⟨iq.nil,fun _=>nil⟩) (fun h c=>⟨iq.cons h c.1,fun _=>cons h c.1 (c.2 _)⟩)).2 h
structure cw(P:RM)(ρ:aN G)(fr fr':RU):Prop where
 fn:fr'.fn=fr.fn
 may:G.b fr.fn=RF
 tmps:aU ρ fr.tmps fr'.tmps
 todo:fr'.todo=fr.todo
 ok:qK G P fr.todo
 defers:iq P ρ fr.defers fr'.defers
 mode:fE ρ fr.mode fr'.mode
 kind:fr'.kind=fr.kind
 kinds:fr.kind= .normal∨fr.kind= .deferred
 round:fr.roundOf=RA
 round':fr'.roundOf=RA
def eD (fr:RU):Prop:=fr.mode= .run→∀ d b f e c a,fr.todo= .inRegion d (b :: f) :: e→d[b]? =Ry c→c.op= .panic a→(∃ g v,fr.eval a= .iface g v)∨fr.eval a=SP
def ou (fr:RU):Prop:=fr.mode= .run→∃ c a f e b d,fr.todo= .inRegion c (a :: f) :: e∧c[a]? =Ry b∧b.op= .call d
def di (P:RM)(ρ:aN G)(e:List RU)(g:List RU):Prop:=∀ a:List RU→List RU→Prop,(a [] [])→(∀ {f b:RU} {c d:List RU} (h:cw P ρ f b) (j:ou f) (i:a c d),a (f :: c) (b :: d))→a e g
theorem di.nil{P:RM}{ρ:aN G}:di P ρ [] []:=fun b a c=>a
theorem di.cons{P:RM}{ρ:aN G}{f f':RU}{l b:List RU}(h:cw P ρ f f')(g:ou f)(e:di P ρ l b):di P ρ (f :: l) (f' :: b):=fun c d a=>a h g (e c d a)
theorem di.ind{P:RM}{ρ:aN G}{d:∀ (a:List RU) (b:List RU),di P ρ a b→Prop}(nil:d _ _ (di.nil))(cons:∀ {f f':RU} {l g:List RU} (h:cw P ρ f f') (e:ou f) (c:di P ρ l g),(d _ _ c)→d _ _ (di.cons h e c)){a:List RU}{b:List RU}(h:di P ρ a b):d a b h:=(h (fun a b=>di P ρ a b∧∀ h,d a b h) (⟨di.nil,fun _=>nil⟩) (fun h e c=>⟨di.cons h e c.1,fun _=>cons h e c.1 (c.2 _)⟩)).2 h
def cD:RU→List RU→Prop
 |fr,[]=>fr.kind= .normal
 |_,f :: a=>cD f a
theorem cD.of{fr b:RU}(h:b.kind=fr.kind):∀ {l:List RU},cD fr l→cD b l
 | [],a=>h.trans a
 |_ :: _,a=>a
section
variable {P:RM}{ρ σ:aN G}
theorem kG.mono(a:ρ.le σ){t b:Target}(h:kG P ρ t b):kG P σ t b:=by
 cases h using kG.ind with
 |fn e h=>exact .fn (e.mono a) (h.mono a)
 |nil=>exact .nil
 |builtin c f t d h=>exact .builtin c f t d h
theorem vF.mono(a:ρ.le σ){t b:TS}(h:vF P ρ t b):vF P σ t b:=⟨h.target.mono a,h.args.mono a⟩
theorem iq.mono(b:ρ.le σ){t a:List TS}(h:iq P ρ t a):iq P σ t a:=by
 induction h using iq.ind with
 |nil=>exact .nil
 |cons h _ c=>exact .cons (h.mono b) c
theorem GO.mono(b:ρ.le σ){t a:S1}(h:GO ρ t a):GO σ t a:=⟨h.v.mono b,h.r,h.g⟩
theorem ic.mono(b:ρ.le σ){t a:List S1}(h:ic ρ t a):ic σ t a:=by
 induction h using ic.ind with
 |nil=>exact .nil
 |cons h _ c=>exact .cons (h.mono b) c
theorem ic.append{a a' b b':List S1}(h:ic ρ a a')(c:ic ρ b b'):ic ρ (a ++ b) (a' ++ b'):=by
 induction h using ic.ind with
 |nil=>exact c
 |cons h _ d=>exact .cons h d
theorem fE.mono(b:ρ.le σ){t a:FrameMode}(h:fE ρ t a):fE σ t a:=by
 cases h using fE.ind with
 |run=>exact .run
 |returning=>exact .returning
 |panicking h=>exact .panicking (h.mono b)
theorem cw.mono(a:ρ.le σ){f f':RU}(h:cw P ρ f f'):cw P σ f f':=
 ⟨h.fn,h.may,h.tmps.mono a,h.todo,h.ok,h.defers.mono a,h.mode.mono a,h.kind,h.kinds,h.round,h.round'⟩
theorem di.mono(a:ρ.le σ){f f':List RU}(h:di P ρ f f'):di P σ f f':=by
 induction h using di.ind with
 |nil=>exact .nil
 |cons h b _ c=>exact .cons (h.mono a) b c
theorem k6:aq ρ SP SP:=.tuple rfl (fun b a=>by simp at a)
theorem aU.getD{x c:Array RB}(h:aU ρ x c)(i:Nat):aq ρ (x.getD i SP) (c.getD i SP):=by
 rw[Se,Se];rcases h.get i with⟨a,b⟩|⟨v,e,a,b,d⟩
 ·rw[a,b];exact k6
 ·rw[a,b];exact d
theorem cw.eval{f f':RU}(h:cw P ρ f f')(x:SG)(a:cP G x=RF):aq ρ (f.eval x) (f'.eval x):=by
 cases x with
 |tmp c=>exact h.tmps.getD c
 |const v=>exact pM 6 v a
 |global d=>cases a
 |func f=>exact .func (.func f a) rfl (fun b h=>by simp at h) rfl (fun b h=>by simp at h)
theorem DU{x c:Array RB}(h:aU ρ x c)(ops:Array Te)(j:Nat):S2 ops x j=S2 ops c j:=by
 unfold S2;cases(ops[j]?).bind (·.dst) with
 |none=>rfl
 |some e=>
  simp only[U8];rcases h.get e with⟨a,b⟩|⟨v,f,a,b,d⟩
  ·rw[a,b]
  ·rw[a,b];cases d using aq.ind<;>rfl
theorem BU.todo{l:List Uk}(h:BU G P l):qK G P l:=by
 cases l with
 |nil=>trivial
 |cons b l=>exact⟨(h b (by simp)).1,fun c a=>h c (by simp[a])⟩
theorem BU.tail{i:Uk}{l:List Uk}(h:BU G P (i :: l)):BU G P l:=fun b a=>h b (by simp[a])
theorem BU.cons{i:Uk}{l:List Uk}(b:bK G P i)(c:∀ ops t,i≠.inRegion ops t)(h:BU G P l):BU G P (i :: l):=fun d a=>by
 rcases Tq.1 a with rfl|a
 ·exact⟨b,c⟩
 ·exact h d a
theorem AN{id:Nat}:∀ {l k:List Uk},BU G P l→Vu id l=Ry k→BU G P k
 | [],k,_,a=>by simp[Vu] at a
 |i :: l,k,c,a=>by
  have b:BU G P l:=c.tail;cases i<;>simp only[Vu] at a<;>first
   |exact AN b a
   |(split at a
     ·cases a;exact b
     ·exact AN b a)
theorem zF{fr:RU}(h:∀ ops i rest k,fr.todo≠.inRegion ops (i :: rest) :: k):eD fr:=fun _ ops i rest k b c a=>absurd a (h ops i rest k)
theorem OS{fr:RU}{k:List Uk}(h:BU G P k):eD {fr with todo:=k}:=zF (fun c b d e a=>by
 simp only at a;exact(h (.inRegion c (b :: d)) (by rw[a];simp)).2 _ _ rfl)
theorem gR{fr:RU}(h:fr.mode≠.run):eD fr:=fun a=>absurd a h
theorem Am{fr:RU}(h:fr.mode≠.run):ou fr:=fun a=>absurd a h
end
end
section
variable {G:k8}{bu:Nat}
def b5 (P:RM)(gp eZ:List RU)(ρ:aN G)(t:Nat)(w':RD)(q:VE)(r:VE):Prop:=∀ d:VE→VE→Prop,(∀ (o:Outcome) (p:RD) (b:Array SV) (f:VE),d (.ended o p b) f)→(∀ {n:So} {a:RD} {b:Array SV} {f:VE} (s:t<a.drawn),d (.go n a b) f)→(∀ {c:aN G} {h:Nat} {e j:RU} {az k:List RU} {a g:RD} {b i:Array SV} (y:cw P c e j) (z:eD e) (A:di P c az k) (C:ea c h a g) (x:Fr ρ c w' g) (v:∀ l∈i,jx c l) (u:cD e az) (B:a.drawn+h=t),d (.go (RN e (az ++ gp)) a b) (.go (RN j (k ++ eZ)) g i))→d q r
theorem b5.lost{P:RM}{gp eZ:List RU}{ρ:aN G}{t:Nat}{w':RD}(o:Outcome)(a:RD)(es:Array SV)(r:VE):b5 P gp eZ ρ t w' (.ended o a es) r:=fun c b d e=>b o a es r
theorem b5.over{P:RM}{gp eZ:List RU}{ρ:aN G}{t:Nat}{w':RD}{g:So}{a:RD}{es:Array SV}{r:VE}(h:t<a.drawn):b5 P gp eZ ρ t w' (.go g a es) r:=fun c d b e=>b h
theorem b5.go{P:RM}{gp eZ:List RU}{ρ:aN G}{t:Nat}{w':RD}{σ:aN G}{b1:Nat}{fr fr':RU}{az tops':List RU}{a w1':RD}{es b:Array SV}(h:cw P σ fr fr')(i:eD fr)(j:di P σ az tops')(l:ea σ b1 a w1')(g:Fr ρ σ w' w1')(f:∀ e∈b,jx σ e)(d:cD fr az)(k:a.drawn+b1=t):b5 P gp eZ ρ t w' (.go (RN fr (az ++ gp)) a es) (.go (RN fr' (tops' ++ eZ)) w1' b):=fun n o p c=>c h i j l g f d k
theorem b5.ind{P:RM}{gp eZ:List RU}{ρ:aN G}{t:Nat}{w':RD}{d:∀ (a:VE) (b:VE),b5 P gp eZ ρ t w' a b→Prop}(lost:∀ (o:Outcome) (f:RD) (es:Array SV) (r:VE),d (.ended o f es) r (b5.lost o f es r))(over:∀ {g:So} {c:RD} {es:Array SV} {r:VE} (h:t<c.drawn),d (.go g c es) r (b5.over h))(go:∀ {σ:aN G} {b1:Nat} {fr fr':RU} {az tops':List RU} {c w1':RD} {es u:Array SV} (l:cw P σ fr fr') (n:eD fr) (p:di P σ az tops') (s:ea σ b1 c w1') (k:Fr ρ σ w' w1') (j:∀ e∈u,jx σ e) (i:cD fr az) (q:c.drawn+b1=t),d (.go (RN fr (az ++ gp)) c es) (.go (RN fr' (tops' ++ eZ)) w1' u) (b5.go l n p s k j i q)){a:VE}{b:VE}(h:b5 P gp eZ ρ t w' a b):d a b h:=(h (fun a b=>b5 P gp eZ ρ t w' a b∧∀ h,d a b h) (fun o f es r=>⟨b5.lost o f es r,fun _=>lost o f es r⟩) (fun h=>⟨b5.over h,fun _=>over h⟩) (fun l n p s k j i q=>⟨b5.go l n p s k j i q,fun _=>go l n p s k j i q⟩)).2 h
def mB (G:k8)(P P':RM):Prop:=∀ f,G.b f=RF→∃ a b,P.funcs[f]? =Ry a∧P'.funcs[f]? =Ry a∧a.body=Ry b∧bY G P b=RF
section
variable {P P':RM}{ρ:aN G}{gp eZ:List RU}{w w':RD}{m m':Bool}
theorem iw:∀ e∈(#[]:Array SV),jx ρ e:=fun e a=>by simp at a
theorem JR{ops:Array Te}{k:List Uk}(i:BU G P k)(h:lJ G P ops RE=RF)(fr:RU):qK G P (.inRegion ops (Sw ops.size) :: k)∧eD {fr with todo:=.inRegion ops (Sw ops.size) :: k}:=by
 unfold lJ at h;simp only[Sa,if_false,R7] at h;refine⟨⟨.inRegion _ _ h.1 h.2.1,i⟩,fun _ p j q l o r c f g=>?_⟩;simp only[UB,U1] at c;obtain⟨⟨rfl,a⟩,-⟩:=c;have e:j=0:=by
  rw[List.range_eq_range'] at a;cases d:ops.size with
  |zero=>rw[d] at a;simp at a
  |succ n=>rw[d,List.range'_succ] at a;simp at a;omega
 have b:=h.2.2;unfold Ge at b;rw[← e,f] at b;simp only[g,py] at b;cases b
theorem MS{ops:Array Te}{k:List Uk}(o:BU G P k)(h:lJ G P ops RF=RF)(l:List Nat)(fr:RU):qK G P (.inRegion ops l :: k)∧eD {fr with todo:=.inRegion ops l :: k}:=by
 unfold lJ at h;simp only[if_true,R7] at h;have f:∀ (b:Nat) (a:Te),ops[b]? =Ry a→py a.op=RE:=fun b a c=>by
  have:=Sf.1 h.2 a (by
   have:=RH.1 c;obtain⟨s,rfl⟩:=this;simp)
  simpa using this
 refine⟨⟨.inRegion _ _ h.1 ?_,o⟩,fun _ u b v t a x e i j=>?_⟩
 ·have:∀ l,jO ops l=RF:=by
   intro l
   induction l with
   |nil=>rfl
   |cons q g p=>
    cases g with
    |nil=>rfl
    |cons d g=>
     simp only[jO,R7];refine⟨?_,p⟩;unfold ny;cases n:ops[d]? with
     |none=>rfl
     |some a=>
      have:=f d a n;dsimp only;cases c:a.op<;>first|rfl|(rw[c] at this;simp[py] at this)
  exact this l
 ·simp only[UB,U1] at e;obtain⟨⟨rfl,r⟩,-⟩:=e;have:=f b a i;rw[j] at this;simp[py] at this
theorem cw.L6{fr fr':RU}(h:cw P ρ fr fr'){k:List Uk}(a:qK G P k):cw P ρ {fr with todo:=k} {fr' with todo:=k}:=
 ⟨h.fn,h.may,h.tmps,rfl,a,h.defers,h.mode,h.kind,h.kinds,h.round,h.round'⟩
theorem Gy{fr fr':RU}{az tops':List RU}(b:cw P ρ fr fr')(e:di P ρ az tops')(f:ea ρ bu w w'){k:List Uk}(d:qK G P k)(c:eD {fr with todo:=k})(a:cD fr az):
 b5 P gp eZ ρ (w.drawn+bu) w' (.go (RN {fr with todo:=k} (az ++ gp)) w) (.go (RN {fr' with todo:=k} (tops' ++ eZ)) w'):=
 .go (b.L6 d) c e f (Fr.refl _ _) iw (cD.of (by rfl) a) rfl
theorem Pu{fr fr':RU}{az tops':List RU}(c:cw P ρ fr fr')(d:di P ρ az tops')(e:ea ρ bu w w'){k:List Uk}(a:BU G P k)(b:cD fr az):
 b5 P gp eZ ρ (w.drawn+bu) w' (.go (RN {fr with todo:=k} (az ++ gp)) w) (.go (RN {fr' with todo:=k} (tops' ++ eZ)) w'):=Gy c d e a.todo (OS a) b
theorem Dc{fr fr':RU}(b:cw P ρ fr fr')(c:fr.mode= .run):fr'.mode= .run:=by
 have:=b.mode;rw[c] at this;cases a:fr'.mode with
 |run=>rfl
 |returning=>rw[a] at this;cases this using fE.ind
 |panicking d=>rw[a] at this;cases this using fE.ind
theorem Ks(R:P'.follows .mixedOrders=P.follows .mixedOrders){fr fr':RU}{az tops':List RU}(c:cw P ρ fr fr')(B:di P ρ az tops')(p:ea ρ bu w w')(d:fr.mode= .run)(S:∀ ops i r k,fr.todo≠.inRegion ops (i :: r) :: k)(z:cD fr az):
 b5 P gp eZ ρ (w.drawn+bu) w' (Sq P m (RN fr (az ++ gp)) w) (Sq P' m' (RN fr' (tops' ++ eZ)) w'):=by
 have h:=Dc c d;have g:=c.todo;have F:=c.ok;have D:=c.round;have H:=c.round';have I:b5 P gp eZ ρ (w.drawn+bu) w' (.go (RN {fr with mode:=.returning} (az ++ gp)) w) (.go (RN {fr' with mode:=.returning} (tops' ++ eZ)) w'):=
  .go ⟨c.fn,c.may,c.tmps,c.todo,c.ok,c.defers,.returning,c.kind,c.kinds,c.round,c.round'⟩ (gR (by simp)) B p (Fr.refl _ _) iw (cD.of (by rfl) z) rfl
 cases b:fr.todo with
 |nil=>
  rw[b] at g;have j:Sq P m (RN fr (az ++ gp)) w= .go (RN {fr with mode:=.returning} (az ++ gp)) w:=by simp[RN,Sq,Si,d,b,D]
  have o:Sq P' m' (RN fr' (tops' ++ eZ)) w'= .go (RN {fr' with mode:=.returning} (tops' ++ eZ)) w':=by simp[RN,Sq,Si,h,g,H]
  rw[j,o];exact I
 |cons X k=>
  rw[b] at g F;obtain⟨O,l⟩:=F;have move:∀ (t:List Uk),BU G P t→Sq P m (RN fr (az ++ gp)) w= .go (RN {fr with todo:=t} (az ++ gp)) w→Sq P' m' (RN fr' (tops' ++ eZ)) w'= .go (RN {fr' with todo:=t} (tops' ++ eZ)) w'→b5 P gp eZ ρ (w.drawn+bu) w' (Sq P m (RN fr (az ++ gp)) w) (Sq P' m' (RN fr' (tops' ++ eZ)) w'):=fun t s j o=>by
   rw[j,o];exact Pu c B p s z
  cases O using bK.ind with
  |inBlock i=>exact move k l (by simp[RN,Sq,Si,d,b]) (by simp[RN,Sq,Si,h,g])
  |inLoop n a=>exact move (.code n :: .inLoop n :: k) (.cons (.code n a) (by simp) (.cons (.inLoop n a) (by simp) l)) (by simp[RN,Sq,Si,d,b]) (by simp[RN,Sq,Si,h,g])
  |inScope n a=>exact move k l (by simp[RN,Sq,Si,d,b]) (by simp[RN,Sq,Si,h,g])
  |inRegion ops todo a V=>
   cases todo with
   |nil=>exact move k l (by simp[RN,Sq,Si,d,b]) (by simp[RN,Sq,Si,h,g])
   |cons i r=>exact absurd b (S ops i r k)
  |code n a=>
   cases n with
   |skip=>exact move k l (by simp[RN,Sq,Si,d,b]) (by simp[RN,Sq,Si,h,g])
   |label T=>exact move k l (by simp[RN,Sq,Si,d,b]) (by simp[RN,Sq,Si,h,g])
   |seq e q=>
    simp only[bY,R7] at a;exact move (.code e :: .code q :: k) (.cons (.code e a.1) (by simp) (.cons (.code q a.2) (by simp) l)) (by simp[RN,Sq,Si,d,b]) (by simp[RN,Sq,Si,h,g])
   |block id e=>
    simp only[bY] at a;exact move (.code e :: .inBlock id :: k) (.cons (.code e a) (by simp) (.cons (.inBlock id) (by simp) l)) (by simp[RN,Sq,Si,d,b]) (by simp[RN,Sq,Si,h,g])
   |loop e=>
    simp only[bY] at a;exact move (.code e :: .inLoop e :: k) (.cons (.code e a) (by simp) (.cons (.inLoop e a) (by simp) l)) (by simp[RN,Sq,Si,d,b]) (by simp[RN,Sq,Si,h,g])
   |scope e=>
    simp only[bY] at a;exact move (.code e :: .inScope e :: k) (.cons (.code e a) (by simp) (.cons (.inScope e a) (by simp) l)) (by simp[RN,Sq,Si,d,b]) (by simp[RN,Sq,Si,h,g])
   |ret=>
    have j:Sq P m (RN fr (az ++ gp)) w= .go (RN {fr with mode:=.returning} (az ++ gp)) w:=by simp[RN,Sq,Si,d,b,D]
    have o:Sq P' m' (RN fr' (tops' ++ eZ)) w'= .go (RN {fr' with mode:=.returning} (tops' ++ eZ)) w':=by simp[RN,Sq,Si,h,g,H]
    rw[j,o];exact I
   |exit id=>
    cases A:Vu id k with
    |some t=>exact move t (AN l A) (by simp[RN,Sq,Si,d,b,A]) (by simp[RN,Sq,Si,h,g,A])
    |none=>
     have j:∃ x,Sq P m (RN fr (az ++ gp)) w= .ended x w:=by simp[RN,Sq,Si,d,b,A,D]
     obtain⟨x,j⟩:=j;rw[j];exact .lost _ _ _ _
   |cond n e q=>
    simp only[bY,R7] at a;have u:=c.eval n a.1.1;have Q:∀ v,fr.eval n=v→(∀ q,v≠.bool q)→∃ x,Sq P m (RN fr (az ++ gp)) w= .ended x w:=fun v L u=>by
     cases v<;>first|exact absurd rfl (u _)|(simp[RN,Sq,Si,d,b,L])
    cases C:fr.eval n with
    |bool E=>
     rw[C] at u;have N:fr'.eval n= .bool E:=by
      cases M:fr'.eval n<;>rw[M] at u<;>cases u using aq.ind;rfl
     refine move (.code (if E then e else q) :: k) (.cons (.code _ ?_) (by simp) l) (by simp[RN,Sq,Si,d,b,C]) (by simp[RN,Sq,Si,h,g,N]);cases E
     ·exact a.2
     ·exact a.1.2
    |_=>
     obtain⟨x,j⟩:=Q _ C (by simp);rw[j];exact .lost _ _ _ _
   |region id ops K=>
    simp only[bY] at a;cases K with
    |false=>
     obtain⟨y,s⟩:=JR l a fr;have j:Sq P m (RN fr (az ++ gp)) w= .go (RN {fr with todo:=.inRegion ops (Sw ops.size) :: k} (az ++ gp)) w:=by simp[RN,Sq,Si,d,b]
     have o:Sq P' m' (RN fr' (tops' ++ eZ)) w'= .go (RN {fr' with todo:=.inRegion ops (Sw ops.size) :: k} (tops' ++ eZ)) w':=by simp[RN,Sq,Si,h,g]
     rw[j,o];exact Gy c B p y s z
    |true=>
     obtain⟨y,s⟩:=MS l a (Ve (P.follows .mixedOrders) ops (w.tape w.drawn (.order fr.fn id))) fr;have j:Sq P m (RN fr (az ++ gp)) w= .go (RN {fr with todo:=.inRegion ops (Ve (P.follows .mixedOrders) ops (w.tape w.drawn (.order fr.fn id))) :: k} (az ++ gp)) {w with drawn:=w.drawn+1}:=by
      simp[RN,Sq,Si,d,b,choose,T0,Question.forced,Question.cut]
     rw[j];cases bu with
     |zero=>exact .over (by simp)
     |succ bu=>
      have J:=p.tape 0 (.order fr.fn id) (by omega);simp only[Nat.add_zero] at J;have o:Sq P' m' (RN fr' (tops' ++ eZ)) w'= .go (RN {fr' with todo:=.inRegion ops (Ve (P.follows .mixedOrders) ops (w.tape w.drawn (.order fr.fn id))) :: k} (tops' ++ eZ)) {w' with drawn:=w'.drawn+1}:=by
       simp[RN,Sq,Si,h,g,choose,T0,Question.forced,Question.cut,R,c.fn,J]
      rw[o];refine .go (b1:=bu) (c.L6 y) s B ⟨p.gl,p.gr,p.at_,fun i U W=>?_⟩ ⟨aN.le.refl _,rfl,rfl,rfl,by simp,RG _,fun _ _ _=>rfl,fun _ _ a=>.inl a,fun _ y s=>absurd s (by simp;omega)⟩ iw (cD.of (by rfl) z) (by show w.drawn+1+bu=_;omega);have:=p.tape (1+i) U (by omega);simpa [SL] using this
   |rangeFunc f Y e q=>simp[bY] at a
   |goto T=>simp[bY] at a
   |refuse Z=>simp[bY] at a
end
end
section
variable {G:k8}
section
variable {P P':RM}{ρ:aN G}{gp eZ:List RU}{w w':RD}{m m':Bool}
theorem gE{σ:aN G}{fr fr':RU}(h:cw P σ fr fr'){ops:Array Te}{i:Nat}{rest:List Nat}{k:List Uk}(b:fr.todo= .inRegion ops (i :: rest) :: k){v e:RB}(l:aq σ v e):cw P σ (fr.finish v) (fr'.finish e):=by
 have j:fr'.todo= .inRegion ops (i :: rest) :: k:=h.todo.trans b;have a:=h.ok;rw[b] at a;have d:qK G P (.inRegion ops rest :: k):=by
  refine⟨?_,a.2⟩;cases a.1 using bK.ind with
  |inRegion _ _ g c=>
   refine .inRegion _ _ g ?_;cases rest with
   |nil=>rfl
   |cons n o=>simp only[jO,R7] at c;exact c.2
 unfold TD;rw[b,j];dsimp only;cases(ops[i]?).bind (·.dst) with
 |none=>exact⟨h.fn,h.may,h.tmps,rfl,d,h.defers,h.mode,h.kind,h.kinds,h.round,h.round'⟩
 |some f=>exact⟨h.fn,h.may,h.tmps.set l f,rfl,d,h.defers,h.mode,h.kind,h.kinds,h.round,h.round'⟩
theorem gD{fr fr':RU}{σ:aN G}(h:cw P σ fr fr'){ops:Array Te}{i:Nat}{rest:List Nat}{k:List Uk}(l:fr.todo= .inRegion ops (i :: rest) :: k){o:Te}(g:ops[i]? =Ry o)(v:RB)(y:∀ t x,o.op= .makeInterface t x→o.guard=RA→∃ t v1,v= .iface t v1):eD (fr.finish v):=by
 intro _ F C H D E x c q r;have j:=h.ok;rw[l] at j;unfold TD at c ⊢;rw[l] at c ⊢;simp only[UB,U1] at c;obtain⟨⟨rfl,s⟩,rfl⟩:=c;cases j.1 using bK.ind with
 |inRegion _ _ B d=>
  rw[s] at d;simp only[jO,R7] at d;have b:=d.1;unfold ny at b;rw[q] at b;dsimp only at b;rw[r] at b;dsimp only at b;rw[g] at b;simp only[R7] at b;obtain⟨a,u⟩:=b;cases f:o.op with
  |makeInterface t A=>
   rw[f] at a;cases e:o.dst with
   |none=>rw[e] at a;cases x<;>cases a
   |some p=>
    rw[e] at a;cases x with
    |tmp I=>
     simp only[beq_iff_eq] at a;subst a;obtain⟨z,v1,rfl⟩:=y t A f (by simpa using u);simp only[g,U8,e,Frame.eval];by_cases n:p<fr.tmps.size
     ·refine .inl ⟨z,v1,?_⟩;rw[Se,Array.getElem?_setIfInBounds_self_of_lt n];rfl
     ·refine .inr ?_;rw[Se,SZ (by rw[Array.size_setIfInBounds];exact Nat.le_of_not_lt n)];rfl
    |_=>cases a
  |_=>rw[f] at a;cases x<;>cases a
theorem NG{σ:aN G}{fn:TH}{es:Array SV}(h:∀ e∈es,jx σ e):∀ e∈seen P fn es,jx σ e:=fun e a=>h e (Conc.mem_seen a)
theorem tq{σ:aN G}{fr fr':RU}(h:cw P σ fr fr'){c b:List S1}(hc:ic σ c b):cw P σ (fr.raise c) (fr'.raise b):=by
 have a:=h.mode;unfold Frame.raise;generalize e:fr.mode=g at a;generalize f:fr'.mode=i at a;cases a using fE.ind with
 |run=>exact⟨h.fn,h.may,h.tmps,h.todo,h.ok,h.defers,.panicking hc,h.kind,h.kinds,h.round,h.round'⟩
 |returning=>exact⟨h.fn,h.may,h.tmps,h.todo,h.ok,h.defers,.panicking hc,h.kind,h.kinds,h.round,h.round'⟩
 |panicking d=>exact⟨h.fn,h.may,h.tmps,h.todo,h.ok,h.defers,.panicking (hc.append d),h.kind,h.kinds,h.round,h.round'⟩
theorem raise_mode(fr:RU)(c:List S1):(fr.raise c).mode≠.run:=by
 unfold Frame.raise
 split<;>simp
theorem sR(k:mB G P P'){σ:aN G}{f:TH}(d:G.b f=RF){vs e:Array RB}(h:aU σ vs e)(a:CallKind)(l:a= .normal∨a= .deferred):cw P σ (Sz P f vs a) (Sz P' f e a)∧eD (Sz P f vs a):=by
 obtain⟨o,g,b,c,i,j⟩:=k f d;unfold Sz;simp only[b,c,TG,Uu,U8,i];refine⟨⟨rfl,d,?_,rfl,⟨.code g j,fun q n=>by simp at n⟩,.nil,.run,rfl,l,rfl,rfl⟩,zF (by simp)⟩;rw[h.1];refine h.append ⟨by simp,fun p b c=>?_⟩;simp only[Array.getElem_replicate];exact k6
end
end
section
variable {G:k8}{bu:Nat}
section
variable {P P':RM}{ρ:aN G}{gp eZ:List RU}{w w':RD}{m m':Bool}
theorem uv{σ:aN G}{fr fr':RU}{az tops':List RU}(h:cw P σ fr fr')(y:di P σ az tops')(k:cD fr az):
 (UJ fr (az ++ gp)=RA∧UJ fr' (tops' ++ eZ)=RA)∨∃ v e t s,UJ fr (az ++ gp)=Ry (v,t ++ gp)∧UJ fr' (tops' ++ eZ)=Ry (e,s ++ eZ)∧aq σ v e∧di P σ t s∧cD fr t:=by
 rcases h.kinds with d|d
 ·have n:=h.kind.trans d;exact .inl ⟨by unfold UJ;rw[d],by unfold UJ;rw[n]⟩
 ·have n:=h.kind.trans d;cases y using di.ind with
  |nil=>simp[cD,d] at k
  |cons b L u ihz=>
   rename_i f g r z;have a:=b.mode;unfold UJ;rw[d,n];simp only[TP];cases j:f.mode with
   |run=>
    rw[j] at a;cases c:g.mode<;>rw[c] at a<;>first|exact .inl ⟨rfl,rfl⟩|cases a using fE.ind
   |returning=>
    rw[j] at a;cases c:g.mode<;>rw[c] at a<;>first|exact .inl ⟨rfl,rfl⟩|cases a using fE.ind
   |panicking I=>
    rw[j] at a;cases c:g.mode with
    |run=>rw[c] at a;cases a using fE.ind
    |returning=>rw[c] at a;cases a using fE.ind
    |panicking J=>
     rw[c] at a;cases a using fE.ind with
     |panicking l=>
      cases l using ic.ind with
      |nil=>exact .inl ⟨rfl,rfl⟩
      |cons x l ihz=>
       rename_i C D A B;obtain⟨v,E,i⟩:=C;obtain⟨e,M,K⟩:=D;obtain⟨o,q,p⟩:=x;simp only at o q p;subst q p;cases E with
       |true=>exact .inl ⟨by cases i<;>rfl,by cases i<;>rfl⟩
       |false=>
        cases i with
        |true=>exact .inl ⟨rfl,rfl⟩
        |false=>
         refine .inr ⟨v,e,{f with mode:=.panicking ({v,recovered:=RF} :: A)} :: r,{g with mode:=.panicking ({v:=e,recovered:=RF} :: B)} :: z,rfl,rfl,o,?_,?_⟩
         ·exact .cons ⟨b.fn,b.may,b.tmps,b.todo,b.ok,b.defers,.panicking (.cons ⟨o,rfl,rfl⟩ l),b.kind,b.kinds,b.round,b.round'⟩ (Am (by simp)) u
         ·cases r with
          |nil=>exact k
          |cons F H=>exact k
theorem AQ{fr:RU}{fr':RU}{σ:aN G}(h:cw P σ fr fr'){ops:Array Te}{i:Nat}{rest:List Nat}{k:List Uk}(e:fr.todo= .inRegion ops (i :: rest) :: k)(l:ops[i]? =RA)(v:RB):eD (fr.finish v):=by
 intro _ r o s p q t b f g;have d:=h.ok;rw[e] at d;unfold TD at b;rw[e] at b;simp only[UB,U1] at b;obtain⟨⟨rfl,j⟩,rfl⟩:=b;cases d.1 using bK.ind with
 |inRegion _ _ n c=>
  rw[j] at c;simp only[jO,R7] at c;have a:=c.1;unfold ny at a;rw[f] at a;dsimp only at a;rw[g] at a;dsimp only at a;rw[l] at a;cases a
theorem fB(fr:RU)(v:RB):(fr.finish v).kind=fr.kind:=by
 unfold TD
 split<;>rfl
theorem qU(fr:RU)(c:List S1):(fr.raise c).kind=fr.kind:=by
 unfold Frame.raise
 split<;>rfl
theorem NX{fr:RU}{ops:Array Te}{i:Nat}{rest:List Nat}{k:List Uk}(b:fr.todo= .inRegion ops (i :: rest) :: k){o:Te}(a:ops[i]? =Ry o){c:Call}(hc:o.op= .call c):ou fr:=fun _=>⟨ops,i,rest,k,o,c,b,a,hc⟩
theorem EB(L:Alike G P P'){e:SG→RB}{o:Te}(l:eT G P o.op=RF)(t:∀ x,o.op= .nilCheck x→∀ n a b,e x≠.func (.method n) a b){f:TH}{vs:Array RB}{i:RD}{es Kq:Array SV}(h:(Sd e o).runT P w es=(.ok (.enter f vs) i,Kq)):∃ c,o.op= .call c:=by
 have d:(Sd e o).run P w= .ok (.enter f vs) i:=by
  have:=Vr P (Sd e o) w es;rw[h] at this;exact(Prod.mk.inj this).1.symm
 have y:∀ (s:T1 RB),((do pure (Next.value (← s))):T1 Next).run P w= .ok (.enter f vs) i→False:=fun s g=>by
  rw[Ue] at g;cases k:s.run P w<;>rw[k] at g<;>simp at g
 have z:∀ (s:T1 Unit),((do s;pure Next.skip):T1 Next).run P w= .ok (.enter f vs) i→False:=fun s g=>by
  rw[Ue] at g;cases k:s.run P w<;>rw[k] at g<;>simp at g
 unfold Sd at d;cases j:o.op with
 |nilCheck x=>
  have p:=t x j;rw[j] at d;dsimp only at d;have q:(runtimePanic .nilDeref:T1 Next).run P w= .ok (.enter f vs) i→False:=fun h=>by
   unfold runtimePanic at h;simp[program,T0,goPanic] at h
  cases u:e x<;>rw[u] at d p<;>(try dsimp only at d)<;>first
   |exact(q d).elim
   |(simp at d;done)
   |(rename_i a;cases a<;>first|exact(q d).elim|(simp at d;done))
   |(rename_i r a b;cases r<;>first|(simp at d;done)|exact absurd rfl (p _ _ _))
 |_=>
  rw[j] at d l;dsimp only at d
  first
  |exact⟨_,rfl⟩
  |(simp[eT] at l;done)
  |exact(y _ d).elim
  |exact(z _ d).elim
  |(simp at d;done)
  |(rw[Ue] at d;generalize T0 P _ w=v at d;cases v<;>simp at d
    done)
theorem oL{e:SG→RB}{o:Te}{t:RO}{x:SG}(f:o.op= .makeInterface t x){n:Next}{c:RD}{es Kq:Array SV}(h:(Sd e o).runT P w es=(.ok n c,Kq)):∃ t v1,n= .value (.iface t v1):=by
 have a:(Sd e o).run P w= .ok n c:=by
  have:=Vr P (Sd e o) w es;rw[h] at this;exact(Prod.mk.inj this).1.symm
 unfold Sd at a;rw[f] at a;dsimp only at a;unfold Instr.makeInterface UK at a;rw[Ue] at a;cases b:P.underlying t with
 |none=>simp[program,b,T0,stuck] at a
 |some d=>cases d<;>simp[program,b,T0,stuck] at a<;>exact⟨_,_,a.1.symm⟩
theorem eL{σ:aN G}{f:TH}{es:Array SV}(h:∀ e∈es,jx σ e):∀ e∈seen P f es ++ #[],jx σ e:=fun e a=>by
 rw[Array.append_empty] at a;exact NG h e a
theorem O7(L:Alike G P P')(a6:mB G P P'){fr fr':RU}{az tops':List RU}(d:cw P ρ fr fr')(bb:eD fr)(J:di P ρ az tops')(X:ea ρ bu w w')(n:cD fr az)(D:fr.mode= .run){ops:Array Te}{i:Nat}{rest:List Nat}{k:List Uk}(a:fr.todo= .inRegion ops (i :: rest) :: k):
 b5 P gp eZ ρ (w.drawn+bu) w' (Sq P m (RN fr (az ++ gp)) w) (Sq P' m' (RN fr' (tops' ++ eZ)) w'):=by
 have W:=Dc d D;have K:fr'.todo= .inRegion ops (i :: rest) :: k:=d.todo.trans a;have V:=d.round;have ar:=d.round';have aw:S2 ops fr.tmps=S2 ops fr'.tmps:=funext fun be=>DU d.tmps ops be;have ao:(fr.kind == CallKind.early)=RE:=by rcases d.kinds with H|H<;>rw[H]<;>rfl
 have bc:(fr'.kind == CallKind.early)=RE:=by rw[d.kind];exact ao
 cases e:ops[i]? with
 |none=>
  have A:Sq P m (RN fr (az ++ gp)) w= .go (RN (fr.finish SP) (az ++ gp)) w:=by simp[RN,Sq,Si,D,a,e]
  have B:Sq P' m' (RN fr' (tops' ++ eZ)) w'= .go (RN (fr'.finish SP) (tops' ++ eZ)) w':=by simp[RN,Sq,Si,W,K,e]
  rw[A,B];exact .go (gE d a k6) (AQ d a e _) J X (Fr.refl _ _) iw (cD.of (fB _ _) n) rfl
 |some l=>
  have I:eT G P l.op=RF:=by
   have C:=d.ok;rw[a] at C;cases C.1 using bK.ind with
   |inRegion _ _ c x=>
    obtain⟨bA,rfl⟩:=RH.1 e;exact Sf.1 c _ (by simp)
  cases E:Sn l (S2 ops fr.tmps) with
  |false=>
   have Y:Sn l (S2 ops fr'.tmps)=RE:=by rw[← aw];exact E
   have A:Sq P m (RN fr (az ++ gp)) w= .go (RN (fr.finish SP) (az ++ gp)) w:=by simp[RN,Sq,Si,D,a,e,E]
   have B:Sq P' m' (RN fr' (tops' ++ eZ)) w'= .go (RN (fr'.finish SP) (tops' ++ eZ)) w':=by simp[RN,Sq,Si,W,K,e,Y]
   rw[A,B];exact .go (gE d a k6) (gD d a e _ (fun z g _ ba=>by simp[Sn,ba] at E)) J X (Fr.refl _ _) iw (cD.of (fB _ _) n) rfl
  |true=>
   have Y:Sn l (S2 ops fr'.tmps)=RF:=by rw[← aw];exact E
   have A:Sq P m (RN fr (az ++ gp)) w=Tt P RF fr (az ++ gp) RA (Sd fr.eval l) w:=by simp[RN,Sq,Si,stepG.oper,Frame.oper?,D,a,e,E,V]
   have B:Sq P' m' (RN fr' (tops' ++ eZ)) w'=Tt P' RF fr' (tops' ++ eZ) RA (Sd fr'.eval l) w':=by simp[RN,Sq,Si,stepG.oper,Frame.oper?,W,K,e,Y,ar]
   rw[A,B];have T:=(Pg (ρ:=ρ) L l I (fun g p=>d.eval g p) (fun g p=>bb D ops i rest k l g a e p)).runs w w' #[] #[] bu X iw (fun ae H=>by simp at H);generalize t:(Sd fr.eval l).runT P w #[]=br at T;generalize a7:(Sd fr'.eval l).runT P' w' #[]=bs at T;unfold Tt;simp only[if_true,t,a7,a,K,ao,bc,Sa,if_false];cases T using fc.ind with
   |halt p r h q j U=>
    rename_i ab a1 g bo a0 bm al a2;cases p using kD.ind with
    |panic M=>
     rename_i v F;exact .go (fr:=fr.raise [{v,recovered:=RE}]) (fr':=fr'.raise [{v:=F,recovered:=RE}]) (tq (d.mono h.le) (.cons ⟨M,rfl,rfl⟩ .nil)) (gR (raise_mode _ _)) (J.mono h.le) r h (eL q) (cD.of (qU _ _) n) j
    |same _ u=>
     cases g with
     |stuck s=>exact .lost _ _ _ _
     |unsupported Z=>cases Z<;>first|exact .lost _ _ _ _|(simp[oD] at u;done)
     |_=>simp[oD] at u
   |ok S r h q j U=>
    rename_i ab a1 bi bB a0 bm al a2;have b:=d.mono h.le;have y:=J.mono h.le;cases S using gM.ind with
    |value M=>
     rename_i v F;exact .go (fr:=fr.finish v) (fr':=fr'.finish F) (gE b a M) (gD b a e _ (fun z g o _=>by
      obtain⟨N,O,c⟩:=oL o t;cases c;exact⟨_,_,rfl⟩)) y r h (eL q) (cD.of (fB _ _) n) j
    |skip=>
     exact .go (fr:=fr.finish SP) (fr':=fr'.finish SP) (gE b a k6) (gD b a e _ (fun z g o _=>by
      obtain⟨N,O,c⟩:=oL o t;cases c)) y r h (eL q) (cD.of (fB _ _) n) j
    |enter f a9 bd=>
     rename_i bj bl;obtain⟨c,x⟩:=sR a6 a9 bd .normal (.inl rfl);obtain⟨bx,a8⟩:=EB L I (fun g p bi bt bv ae=>by
      have R:=d.eval g (by rw[p] at I;exact I);rw[ae] at R;generalize fr'.eval g=b2 at R;cases R using aq.ind with
      |func h _ _ _ _=>cases h using mC.ind) t
     exact .go (fr:=Sz P f bj .normal) (fr':=Sz P' f bl .normal) (az:=fr :: az) (tops':=fr' :: tops') c x (.cons b (NX a e a8) y) r h (eL q) n j
    |defer u=>
     rename_i Q ad;have C:=b.ok;rw[a] at C;have am:cw P ab {fr with defers:=Q :: fr.defers,todo:=.inRegion ops (i :: rest) :: k} {fr' with defers:=ad :: fr'.defers,todo:=.inRegion ops (i :: rest) :: k}:=⟨b.fn,b.may,b.tmps,rfl,C,.cons u b.defers,b.mode,b.kind,b.kinds,b.round,b.round'⟩;exact .go (fr:=TD {fr with defers:=Q :: fr.defers,todo:=.inRegion ops (i :: rest) :: k} SP) (fr':=TD {fr' with defers:=ad :: fr'.defers,todo:=.inRegion ops (i :: rest) :: k} SP) (gE am rfl k6) (gD am rfl e _ (fun z g o _=>by
      obtain⟨N,O,c⟩:=oL o t;cases c)) y r h (eL q) (cD.of (fB {fr with defers:=Q :: fr.defers,todo:=.inRegion ops (i :: rest) :: k} SP) (cD.of (fr:=fr) (by rfl) n)) j
    |recover=>
     simp only[V,ar];rcases uv (gp:=gp) (eZ:=eZ) b y n with⟨c,x⟩|⟨v,F,z,b1,c,x,a3,a4,a5⟩
     ·rw[c,x];exact .go (fr:=fr.finish .nilIface) (fr':=fr'.finish .nilIface) (gE b a .nilIface) (gD b a e _ (fun z g o _=>by
       obtain⟨N,O,c⟩:=oL o t;cases c)) y r h (eL q) (cD.of (fB _ _) n) j
     ·rw[c,x];exact .go (fr:=fr.finish v) (fr':=fr'.finish F) (gE b a a3) (gD b a e _ (fun z g o _=>by
       obtain⟨N,O,c⟩:=oL o t;cases c)) a4 r h (eL q) (cD.of (fB _ _) a5) j
   |mX p j U=>
    rename_i ab g bo a0 al;cases p using kD.ind with
    |panic M=>exact .over j
    |same _ u=>
     cases g with
     |stuck s=>exact .lost _ _ _ _
     |unsupported Z=>cases Z<;>first|exact .lost _ _ _ _|(simp[oD] at u;done)
     |_=>simp[oD] at u
   |over S j U=>
    cases S using gM.ind with
    |recover=>
     simp only[V];cases UJ fr (az ++ gp) with
     |none=>exact .over j
     |some b0=>exact .over j
    |_=>exact .over j
end
end
section
variable {G:k8}
section
variable {P P':RM}{ρ:aN G}{gp eZ:List RU}{w w':RD}{m m':Bool}
theorem CZ{α:Type}{g g':α→T1 RB}:∀ (l:List α) {ρ:aN G},(∀ σ,ρ.le σ→∀ x∈l,an P P' aq σ (g x) (g' x))→an P P' ir ρ (l.mapM g) (l.mapM g')
 | [],ρ,a=>by rw[List.mapM_nil,List.mapM_nil];exact .av .nil
 |x :: l,ρ,a=>by
  rw[List.mapM_cons,List.mapM_cons];refine(a ρ (aN.le.refl _) x (by simp)).bindM (fun σ j k f d=>?_);refine(CZ l (fun c b i h=>a c (f.trans b) i (by simp[h]))).bindM (fun c n o b e=>?_);exact .av (.cons (d.mono b) e)
theorem zU(L:Alike G P P')(fn:Uj){x g:Array RB}(h:aU ρ x g):an P P' aq ρ (SD fn x) (SD fn g):=by
 unfold SD;refine an.bindM (A:=aU) ?_ (fun i a j d b=>?_)
 ·rw[Array.mapM_eq_mapM_toList,Array.mapM_eq_mapM_toList];refine an.bind (A:=ir) (CZ _ (fun i d n _=>?_)) (fun i a j _ b=>.pure b.toArray);cases n with
  |tmp f=>exact .av ((h.mono d).getD f)
  |cell a f=>
   have e:=(h.mono d).getD a;dsimp only;generalize x.getD a SP=v at e;generalize g.getD a SP=o at e;have k:an P P' cy i (asAddr v) (asAddr o):=by
    cases e using aq.ind with
    |ptr h=>exact .av h
    |cG=>exact dZ L.S .nilDeref (by simp) (by simp) (by simp)
    |_=>exact an.stuck
   exact k.bindM (fun p a j _ l=>zS L.S f l)
 ·refine .av ?_;by_cases c:a.size=1
  ·rw[dif_pos c,dif_pos (by rw[← b.1];exact c)];exact b.2 0 _ _
  ·rw[dif_neg c,dif_neg (by rw[← b.1];exact c)];exact .tuple b.1 b.2
theorem iY{fr:RU}(h:ou fr):eD fr:=by
 intro i r k t n p v d e f;obtain⟨s,l,u,o,q,j,a,b,c⟩:=h i;rw[d] at a;simp only[UB,U1] at a;obtain⟨⟨rfl,g,-⟩,-⟩:=a;subst g;rw[e] at b;cases b;rw[f] at c;cases c
theorem EE{σ:aN G}{fr fr':RU}(h:cw P σ fr fr')(k:ou fr){v f:RB}(r:aq σ v f):cw P σ (fr.finish v) (fr'.finish f)∧eD (fr.finish v):=by
 have c:=h.todo;have j:=h.ok;have e:(∀ b,fr.finish b=fr)→(∀ b,fr'.finish b=fr')→cw P σ (fr.finish v) (fr'.finish f)∧eD (fr.finish v):=fun l n=>by
  rw[l,n];exact⟨h,iY k⟩
 cases a:fr.todo with
 |nil=>rw[a] at c;exact e (fun b=>by unfold TD;rw[a]) (fun b=>by unfold TD;rw[c])
 |cons A B=>
  rw[a] at c j;cases j.1 using bK.ind with
  |inRegion E s u x=>
   cases s with
   |nil=>exact e (fun b=>by unfold TD;rw[a]) (fun b=>by unfold TD;rw[c])
   |cons y H=>
    refine⟨gE h a r,?_⟩;by_cases i:fr.mode= .run
    ·obtain⟨F,z,I,C,D,t,d,o,p⟩:=k i;rw[a] at d;simp only[UB,U1] at d;obtain⟨⟨rfl,q,-⟩,-⟩:=d;subst q;exact gD h a o v (fun J K g _=>by rw[p] at g;cases g)
    ·have:(fr.finish v).mode=fr.mode:=by
      unfold TD;rw[a]
     exact gR (by rw[this];exact i)
  |_=>exact e (fun b=>by unfold TD;rw[a]) (fun b=>by unfold TD;rw[c])
theorem Km{σ:aN G}{c a:List S1}(h:ic σ c a):ic σ (c.dropWhile (!·.goexit)) (a.dropWhile (!·.goexit)):=by
 induction h using ic.ind with
 |nil=>exact .nil
 |cons b d e=>
  simp only[List.dropWhile_cons,b.g]
  split
  ·exact e
  ·exact .cons b d
def eR (c:RU):RU:=match c.mode with
 | .panicking ({recovered:=RF,..} :: a)=>
  match a.dropWhile (!·.goexit) with
  | []=>{c with mode:=.returning}
  |rest=>{c with mode:=.panicking rest}
 |_=>c
theorem GR{σ:aN G}{f f':RU}(h:cw P σ f f')(b:ou f):cw P σ (eR f) (eR f')∧eD (eR f)∧(eR f).kind=f.kind:=by
 have g:=h.mode;have l:∀ {c d:FrameMode},fE σ c d→cw P σ {f with mode:=c} {f' with mode:=d}:=fun n=>⟨h.fn,h.may,h.tmps,h.todo,h.ok,h.defers,n,h.kind,h.kinds,h.round,h.round'⟩;unfold eR;generalize y:f.mode=C at g;generalize z:f'.mode=D at g;cases g using fE.ind with
 |run=>exact⟨h,iY b,rfl⟩
 |returning=>exact⟨h,iY b,rfl⟩
 |panicking a=>
  cases a using ic.ind with
  |nil=>exact⟨h,iY b,rfl⟩
  |cons i a ihz=>
   rename_i r s p q;obtain⟨v,t,u⟩:=r;obtain⟨B,A,x⟩:=s;obtain⟨o,k,j⟩:=i;simp only at o k j;subst k j;cases t with
   |false=>exact⟨h,iY b,rfl⟩
   |true=>
    dsimp only;have e:=Km a;generalize p.dropWhile (!·.goexit)=c at e;generalize q.dropWhile (!·.goexit)=d at e;cases e using ic.ind with
    |nil=>exact⟨l .returning,gR (by simp),rfl⟩
    |cons i a=>exact⟨l (.panicking (.cons i a)),gR (by simp),rfl⟩
end
end
section
variable {G:k8}{bu:Nat}
section
variable {P P':RM}{ρ:aN G}{gp eZ:List RU}{w w':RD}{m m':Bool}
theorem Nh{a a':FrameMode}(h:fE ρ a a')(b:a≠.run):a'≠.run:=by
 cases h using fE.ind with
 |run=>exact absurd rfl b
 |returning=>simp
 |panicking h=>simp
theorem AK(L:Alike G P P')(ae:mB G P P'){fr fr':RU}{az tops':List RU}(B:cw P ρ fr fr')(R:di P ρ az tops')(aw:ea ρ bu w w')(p:cD fr az)(C:fr.mode≠.run){d r:TS}(q:vF P ρ d r):
 b5 P gp eZ ρ (w.drawn+bu) w' (callDeferred P fr (az ++ gp) RA d w) (callDeferred P' fr' (tops' ++ eZ) RA r w'):=by
 have hR:=(CX (ρ:=ρ) L q.target q.args).runs w w' #[] #[] bu aw iw (fun o Z=>by simp at Z);obtain⟨J,V⟩:=d;obtain⟨K,W⟩:=r;have g:=q.target;have a:=B.mode;simp only at g hR;by_cases j:J= .nil∧∃ e,fr.mode= .panicking e
 ·obtain⟨rfl,e,z⟩:=j;unfold callDeferred;rw[if_pos ?hP]
  case hP=>simp[z]
  exact .lost _ _ _ _
 ·have Q:¬ (K= .nil∧∃ e,fr'.mode= .panicking e):=by
   rintro⟨rfl,e,z⟩;rw[z] at a;cases g using kG.ind;generalize fr.mode=n at a j;cases a using fE.ind;exact j ⟨rfl,_,rfl⟩
  unfold callDeferred;rw[if_neg ?hL,if_neg ?hR]
  case hL=>
   intro o;apply j;cases J<;>cases E:fr.mode<;>simp[E] at o ⊢
  case hR=>
   intro o;apply Q;cases K<;>cases E:fr'.mode<;>simp[E] at o ⊢
  clear j Q g a;dsimp only;generalize (invoke J V).runT P w #[]=a5 at hR;generalize (invoke K W).runT P' w' #[]=a6 at hR;cases hR using fc.ind with
  |halt I k c h b D=>
   rename_i U Y N a4 M T t O;cases I using kD.ind with
   |panic H=>
    rename_i v S;exact .go (fr:=fr.raise [{v,recovered:=RE}]) (fr':=fr'.raise [{v:=S,recovered:=RE}]) (tq (B.mono c.le) (.cons ⟨H,rfl,rfl⟩ .nil)) (gR (raise_mode _ _)) (R.mono c.le) k c (eL h) (cD.of (qU _ _) p) b
   |same _ A=>
    cases N with
    |stuck s=>exact .lost _ _ _ _
    |unsupported a1=>exact .lost _ _ _ _
    |_=>simp[oD] at A
  |ok y k c h b D=>
   rename_i U Y a8 a9 M T t O;have i:=B.mono c.le;have F:=R.mono c.le;have l:b5 P gp eZ ρ (w.drawn+bu) w' (Uh (seen P fr.fn t) (.go (RN fr (az ++ gp)) M)) (Uh (seen P' fr'.fn O) (.go (RN fr' (tops' ++ eZ)) T)):=.go i (gR C) F k c (eL h) p b;cases y using gM.ind with
   |value H=>exact l
   |skip=>exact l
   |defer q=>exact l
   |enter f al ar=>
    rename_i a2 a3;obtain⟨g,a⟩:=sR ae al ar .deferred (.inr rfl);exact .go (fr:=Sz P f a2 .deferred) (fr':=Sz P' f a3 .deferred) (az:=fr :: az) (tops':=fr' :: tops') g a (.cons i (Am C) F) k c (eL h) p b
   |recover=>
    have a:=i.mode;rcases uv (gp:=gp) (eZ:=eZ) i F p with⟨u,x⟩|⟨v,S,ba,bb,u,x,a7,ab,ad⟩
    ·dsimp only;rw[u,x];generalize am:fr.mode=n at a;generalize ao:fr'.mode=X at a;cases a using fE.ind<;>exact l
    ·dsimp only;rw[u,x];generalize am:fr.mode=n at a;generalize ao:fr'.mode=X at a;cases a using fE.ind with
     |returning=>exact .go i (gR C) ab k c (eL h) ad b
     |_=>exact l
  |mX I b D=>
   rename_i U N a4 M t;cases I using kD.ind with
   |panic H=>exact .over b
   |same _ A=>
    cases N with
    |stuck s=>exact .lost _ _ _ _
    |unsupported a1=>exact .lost _ _ _ _
    |_=>simp[oD] at A
  |over y b D=>
   cases y using gM.ind with
   |recover=>
    dsimp only;generalize fr.mode=n;generalize UJ fr (az ++ gp)=a0;cases n<;>cases a0<;>exact .over b
   |_=>exact .over b
theorem FI(L:Alike G P P')(A:mB G P P'){fr fr':RU}{az tops':List RU}(a:cw P ρ fr fr')(H:di P ρ az tops')(s:ea ρ bu w w')(h:cD fr az)(i:fr.mode≠.run)(am:az=[]→fr.defers≠[]):
 b5 P gp eZ ρ (w.drawn+bu) w' (Sq P m (RN fr (az ++ gp)) w) (Sq P' m' (RN fr' (tops' ++ eZ)) w'):=by
 have al:=Nh a.mode i;have V:Sq P m (RN fr (az ++ gp)) w=Vv P m fr (az ++ gp) RA w:=by
  cases b:fr.mode<;>first|exact absurd b i|simp[RN,Sq,b]
 have W:Sq P' m' (RN fr' (tops' ++ eZ)) w'=Vv P' m' fr' (tops' ++ eZ) RA w':=by
  cases b:fr'.mode<;>first|exact absurd b al|simp[RN,Sq,b]
 rw[V,W];unfold Vv;have o:=a.defers;generalize Z:fr.defers=a8 at o;generalize bb:fr'.defers=a9 at o;cases o using iq.ind with
 |cons D g ihz=>
  rename_i T U K M;have ae:cw P ρ {fr with defers:=K} {fr' with defers:=M}:=⟨a.fn,a.may,a.tmps,a.todo,a.ok,g,a.mode,a.kind,a.kinds,a.round,a.round'⟩;have ar:=AK (gp:=gp) (eZ:=eZ) L A ae H s (cD.of (fr:=fr) (by rfl) h) i D;obtain⟨bi,a3⟩:=T;obtain⟨bj,a4⟩:=U;have I:=D.target;simp only at I;cases I using kG.ind<;>exact ar
 |nil=>
  cases H using di.ind with
  |nil=>exact absurd Z (am rfl)
  |cons E J g ihz=>
   rename_i f y K M;obtain⟨j,a7,B,C,bd,be⟩:=A fr.fn a.may;have q:=a.mode;dsimp only;generalize ab:fr.mode=a5 at q;generalize bc:fr'.mode=a6 at q;cases q using fE.ind with
   |run=>exact absurd ab i
   |panicking ad=>
    have R:fr.catches P=RE:=by unfold Frame.catches;rw[B]
    have S:fr'.catches P'=RE:=by unfold Frame.catches;rw[a.fn,C]
    simp only[R,S,Sa,if_false,TP];exact .go (fr:=f.raise _) (fr':=y.raise _) (tq E ad) (gR (raise_mode _ _)) g s (Fr.refl _ _) iw (cD.of (qU _ _) h) rfl
   |returning=>
    dsimp only;rw[a.fn,B,C];dsimp only;have n:=(zU (ρ:=ρ) L j a.tmps).runs w w' #[] #[] bu s iw (fun ba b=>by simp at b);generalize (SD j fr.tmps).runT P w #[]=a1 at n;generalize (SD j fr'.tmps).runT P' w' #[]=a2 at n;cases n using fc.ind with
    |halt ao t c p e r=>
     rename_i O Q u a0 N aw x X;cases u<;>exact .lost _ _ _ _
    |mX ao e r=>
     rename_i O u a0 N x;cases u<;>exact .lost _ _ _ _
    |over z e r=>
     dsimp only;unfold Us;simp only[TP];rcases a.kinds with d|d<;>rw[d]<;>exact .over e
    |ok z t c p e r=>
     rename_i O Q v bl N aw x X;have F:=E.mono c.le;dsimp only;unfold Us;simp only[TP];rcases a.kinds with d|d
     ·rw[a.kind,d];obtain⟨k,l⟩:=EE F J z;exact .go k l (g.mono c.le) t c (eL p) (cD.of (fB _ _) h) e
     ·rw[a.kind,d];obtain⟨k,l,Y⟩:=GR F J;exact .go (fr:=eR f) (fr':=eR y) k l (g.mono c.le) t c (eL p) (cD.of Y h) e
theorem LY(L:Alike G P P')(j:mB G P P')(p:P'.follows .mixedOrders=P.follows .mixedOrders){fr fr':RU}{az tops':List RU}(g:cw P ρ fr fr')(o:eD fr)(h:di P ρ az tops')(i:ea ρ bu w w')(f:cD fr az)(q:az=[]→fr.mode≠.run→fr.defers≠[]):
 b5 P gp eZ ρ (w.drawn+bu) w' (Sq P m (RN fr (az ++ gp)) w) (Sq P' m' (RN fr' (tops' ++ eZ)) w'):=by
 by_cases a:fr.mode= .run
 ·by_cases k:∃ d b e c,fr.todo= .inRegion d (b :: e) :: c
  ·obtain⟨d,b,e,c,r⟩:=k;exact O7 L j g o h i f a r
  ·exact Ks p g h i a (fun d b e c l=>k ⟨d,b,e,c,l⟩) f
 ·exact FI L j g h i f a (fun n=>q n a)
end
end
end Rl
namespace Cc
open Go Go.Conc
open Rl (k8 aN mB cw di eD ea Fr jx dg b5 aq aU)
def ov (P0 P:RM)(S:Nat→Prop)(c:Nat)(own:Nat→Prop)(vs:List RB)(g:So)(w:RD):Prop:=∃ a,Wk P0 P S c a own vs g w
section
variable {P0 P:RM}{S:Nat→Prop}{c:Nat}{own:Nat→Prop}{vs:List RB}{g:So}{w:RD}
theorem r9(j:g.status= .running)(h:∀ a,RelB (fun b=>S b∨own b) w a→∃ g' w' es,Sq P RE g a= .go g' w' es∧lg P0 S own a w' es∧ov P0 P S c (cB own a w') vs g' w'):ov P0 P S c own vs g w:=by
 classical
 let f:RD→Tr:=fun a=>if d:RelB (fun b=>S b∨own b) w a then S0 (RY (RY (RY (h a d)))).2.2 else .fin
 refine⟨.mk f,uK.2 ⟨j,.inl fun a d=>?_⟩⟩;have e:=RY (RY (RY (h a d)));have i:f a=S0 (RY (RY (RY (h a d)))).2.2:=by
  show(if d:RelB (fun b=>S b∨own b) w a then _ else _)=_;rw[dif_pos d]
 exact⟨_,_,_,e.1,e.2.1,Wk.cast i (RY e.2.2)⟩
theorem Mp{v:RB}{l:List RB}{g2:So}{z:RB}(i:g.status= .running)(h:∀ a,RelB (fun b=>S b∨own b) w a→Sq P RE g a= .comm g2 #[scase c v z] RF .send a #[]∧ov P0 P S c own l (TR g2 SP) a):ov P0 P S c own (v :: l) g w:=by
 classical
 let f:RD→Tr:=fun a=>if d:RelB (fun b=>S b∨own b) w a then S0 (h a d).2 else .fin
 refine⟨.mk f,uK.2 ⟨i,.inr (.inl ⟨v,l,g2,z,rfl,fun a d=>⟨(h a d).1,?_⟩⟩)⟩⟩;have e:f a=S0 (h a d).2:=by
  show(if d:RelB (fun b=>S b∨own b) w a then _ else _)=_;rw[dif_pos d]
 exact Wk.cast e (RY (h a d).2)
theorem Js{g':So}{n:Nat}(j:g.status= .running)(i:QuitsIn P n g')(f:mayWake P g=RF)(h:∀ a,RelB (fun b=>S b∨own b) w a→∀ cap d s r e,a.heap[c]? =Ry (.chan cap d RE s r e)→Sq P RE g a= .go g' (a.setChan c cap d RF s r e) #[⟨.obj c,RE,RF⟩,⟨.obj c,RF,RF⟩]):ov P0 P S c own [] g w:=
 ⟨.mk fun _=>.fin,uK.2 ⟨j,.inr (.inr ⟨rfl,g',n,i,f,h⟩)⟩⟩
theorem ov.rely{a:RD}(h:ov P0 P S c own vs g w)(d:RelB (fun b=>S b∨own b) w a):ov P0 P S c own vs g a:=by
 obtain⟨e,h⟩:=h;exact⟨e,h.rely d⟩
theorem Jt{g':So}{es:Array SV}(l:g.status= .running)(h:∀ a,RelB (fun b=>S b∨own b) w a→Sq P RE g a= .go g' a es)(j:∀ e∈es,EvW S own e)(k:∀ a,RelB (fun b=>S b∨own b) w a→ov P0 P S c own vs g' a):ov P0 P S c own vs g w:=by
 refine r9 l fun a f=>⟨g',a,es,h a f,⟨fun _ _ _=>rfl,RG _,rfl,rfl,rfl,fun n=>n,fun e i=>?_⟩,?_⟩
 ·have:=j e i;unfold EvW at this ⊢;cases d:e.loc with
  |cell o=>rw[d] at this;exact this.imp (fun h=>.inl h) (fun h=>h)
  |obj p=>rw[d] at this;exact this.imp (fun h=>.inl h) (fun h=>h)
  |mark m=>rw[d] at this;exact this
  |_=>trivial
 ·have e:cB own a a=own:=by
   funext b;unfold cB;apply propext;constructor
   ·rintro(h|h)
    ·exact h
    ·omega
   ·exact .inl
  rw[e];exact k a f
end
section
variable {P0 P:RM}{S:Nat→Prop}{c:Nat}{vs:List RB}{eZ:List RU}{Gc:k8}
theorem LX{gp eZ:List RU}{ρ:aN Gc}{t:Nat}{w':RD}{f i:VE}(h:b5 P gp eZ ρ t w' f i){a:RU}{b:List RU}{d:RD}{m:Array SV}(e:f= .go (RN a (b ++ gp)) d m)(x:d.drawn≤t):
 ∃ (σ:aN Gc) (b1:Nat) (fr':RU) (tops':List RU) (w1':RD) (j:Array SV),i= .go (RN fr' (tops' ++ eZ)) w1' j∧cw P σ a fr'∧eD a∧di P σ b tops'∧ea σ b1 d w1'∧Fr ρ σ w' w1'∧(∀ e∈j,jx σ e)∧Rl.cD a b:=by
 cases h using b5.ind with
 |lost z B v A=>cases e
 |over h=>
  cases e;omega
 |go q r s u p o n y=>
  simp only[RN,GStep.go.injEq,VX] at e;obtain⟨⟨rfl,k,-⟩,rfl,rfl⟩:=e;have l:=List.append_cancel_right k;subst l;exact⟨_,_,_,_,_,_,rfl,q,r,s,u,p,o,n⟩
theorem F6{ρ σ:aN Gc}{b1:Nat}{s h w':RD}{own:Nat→Prop}{es:Array SV}(r:ea σ b1 s w')(d:Fr ρ σ h w')(p:∀ e∈es,jx σ e)(l:∀ b b',ρ.f b=Ry b'→own b'):lg P0 S own h w' es∧∀ b b',σ.f b=Ry b'→cB own h w' b':=by
 have j:∀ b b',σ.f b=Ry b'→cB own h w' b':=fun b b' a=>by
  rcases d.fresh b b' a with f|f
  ·exact .inl (l b b' f)
  ·obtain⟨u,v,_,o,_⟩:=r.at_ b b' a;exact .inr ⟨f,(RH.1 o).1⟩
 refine⟨⟨fun b a q=>d.keep b (fun k e=>?_) a,d.size,d.tape,d.os,d.output,fun _=>trivial,fun e n=>?_⟩,j⟩
 ·rcases d.fresh k b e with f|f
  ·exact q (l k b f)
  ·omega
 ·have:=p e n;unfold jx at this;unfold EvW;cases i:e.loc with
  |cell t=>rw[i] at this;obtain⟨b,a⟩:=this;exact .inl (j _ _ a)
  |obj x=>rw[i] at this;obtain⟨b,a⟩:=this;exact .inl (j _ _ a)
  |mark m=>
   rw[i] at this;cases m<;>first|exact this.elim|exact rfl
  |_=>trivial
theorem Lp{σ:aN Gc}{h w a:RD}{own:Nat→Prop}(d:ea σ 0 h w)(m:∀ b b',σ.f b=Ry b'→own b')(f:RelB (fun b=>S b∨own b) w a)(i:Nat):ea σ i (sh a.tape a.drawn h) a:=
 ⟨d.gl,R4 d.gr f.size,fun b b' e=>by
  obtain⟨n,o,j,k,l⟩:=d.at_ b b' e;exact⟨n,o,j,(f.at_ b' (.inr (m b b' e))).trans k,l⟩,fun p q _=>rfl⟩
theorem ea.zero{σ:aN Gc}{b:Nat}{a w:RD}(h:ea σ b a w):ea σ 0 a w:=⟨h.gl,h.gr,h.at_,fun e f d=>by omega⟩
structure FU(S own:Nat→Prop)(w:RD):Prop where
 sh:∀ b,S b→b<w.heap.size∧¬ own b
 bd:∀ b,own b→b<w.heap.size
theorem FU.step{own:Nat→Prop}{w f w':RD}{es:Array SV}(h:FU S own w)(d:RelB (fun b=>S b∨own b) w f)(e:lg P0 S own f w' es):FU S (cB own f w') w'∧RelB S w w':=
 ⟨⟨fun b a=>⟨RK (h.sh b a).1 (R4 d.size e.size),fun i=>i.elim (h.sh b a).2 fun i=>by have:=(h.sh b a).1;have:=d.size;omega⟩,fun b a=>a.elim (fun a=>RK (h.bd b a) (R4 d.size e.size)) (fun a=>a.2)⟩,
  fun b a=>(e.keep b (RK (h.sh b a).1 d.size) (h.sh b a).2).trans (d.at_ b (.inl a)),R4 d.size e.size,e.tape.trans d.tape,e.os.trans d.os,e.output.trans d.output⟩
theorem FO(L:Rl.Alike Gc P P)(H:mB Gc P P){Stop:RU→List RU→RD→Prop}{fr:RU}{az:List RU}{a e:RD}(h:Fin P0 P Stop fr az a e)(w0:RD):
 ∀ {σ:aN Gc} {fr':RU} {tops':List RU} {own:Nat→Prop} {w:RD},e.heap=a.heap→cw P σ fr fr'→eD fr→di P σ az tops'→Rl.cD fr az→ea σ 0 e w→(∀ b b',σ.f b=Ry b'→own b')→Hp (aV P0) a→FU S own w→RelB S w0 w→
  (∀ (σ:aN Gc) fr az a fr' tops' own w,Stop fr az a→cw P σ fr fr'→di P σ az tops'→ea σ 0 a w→(∀ b b',σ.f b=Ry b'→own b')→Hp (aV P0) a→FU S own w→RelB S w0 w→ov P0 P S c own vs (RN fr' (tops' ++ eZ)) w)→
  ov P0 P S c own vs (RN fr' (tops' ++ eZ)) w:=by
 intro σ fr' tops' own w;refine h (fun fr az a e=>∀ {σ:aN Gc} {fr':RU} {tops':List RU} {own:Nat→Prop} {w:RD},e.heap=a.heap→cw P σ fr fr'→eD fr→di P σ az tops'→Rl.cD fr az→ea σ 0 e w→(∀ b b',σ.f b=Ry b'→own b')→Hp (aV P0) a→FU S own w→RelB S w0 w→
  (∀ (σ:aN Gc) fr az a fr' tops' own w,Stop fr az a→cw P σ fr fr'→di P σ az tops'→ea σ 0 a w→(∀ b b',σ.f b=Ry b'→own b')→Hp (aV P0) a→FU S own w→RelB S w0 w→ov P0 P S c own vs (RN fr' (tops' ++ eZ)) w)→
  ov P0 P S c own vs (RN fr' (tops' ++ eZ)) w) ?_ ?_
 ·intro fr az a e M σ fr' tops' own w k o t p i f j u n l m;exact m σ _ _ _ _ _ _ _ M o p ⟨by rw[← k];exact f.gl,f.gr,fun b b' i=>by rw[← k];exact f.at_ b b' i,fun Y ab X=>by omega⟩ j u n l
 ·intro fr az a e q z Q T Z R O σ fr' tops' own w k o t p i f j u n l m;refine r9 rfl fun d v=>?_;have J:=Lp (S:=S) f j v (q d.tape d.drawn).2.2.2.1.drawn;have N:=Rl.LY (m:=RE) (m':=RE) (gp:=[]) (eZ:=eZ) L H rfl o t p J i (fun x=>((R x).1));obtain⟨al,U,W,ad,ae,V,y,B,C,D,r,E,F,G⟩:=LX N (z d.tape d.drawn RE []) (by
   show(q d.tape d.drawn).2.2.2.1.drawn≤d.drawn+(q d.tape d.drawn).2.2.2.1.drawn;omega)
  obtain⟨s,K⟩:=F6 (P0:=P0) (S:=S) r E F j;obtain⟨I,A⟩:=n.step v s;exact⟨_,_,_,y,s,O d.tape d.drawn (NR (T d.tape d.drawn).1 k) B C D G (ea.zero r) K (Q d.tape d.drawn).hp I (l.trans A) m⟩
end
section
variable {P0 P:RM}{S:Nat→Prop}{c:Nat}{vs:List RB}{eZ:List RU}{Gc:k8}
theorem N1(L:Rl.Alike Gc P P){σ:aN Gc}{fr fr' g:RU}{e w:RD}{own:Nat→Prop}{fn:Uj}{v:RB}(i:cw P σ fr fr')(O:fr.mode= .returning)(I:fr.defers=[])(N:fr.kind= .normal)(K:P.funcs[fr.fn]? =Ry fn)
 (R:∀ D d,(SD fn fr.tmps).run P (sh D d e)= .ok v (sh D d e)) (T:ea σ 0 e w) (B:∀ b b',σ.f b=Ry b'→own b')
 (G:∀ (k:aN Gc) m own' w',aq k v m→ea k 0 e w'→(∀ b b',k.f b=Ry b'→own' b')→FU S own' w'→RelB S w w'→ov P0 P S c own' vs (RN (g.finish m) eZ) w') (x:FU S own w):ov P0 P S c own vs (RN fr' (g :: eZ)) w:=by
 refine r9 rfl fun a r=>?_;have H:=Lp (S:=S) T B r 0;have o:=(Rl.zU (ρ:=σ) L fn i.tmps).runs (sh a.tape a.drawn e) a #[] #[] 0 H Rl.iw (fun t n=>by simp at n);have A:fr'.mode= .returning:=by
  have:=i.mode;rw[O] at this;cases h:fr'.mode with
  |returning=>rfl
  |run=>rw[h] at this;cases this using Rl.fE.ind
  |panicking U=>rw[h] at this;cases this using Rl.fE.ind
 have J:fr'.defers=[]:=by
  have:=i.defers;rw[I] at this;cases h:fr'.defers with
  |nil=>rfl
  |cons E U=>rw[h] at this;cases this using Rl.iq.ind
 have f:((SD fn fr.tmps).runT P (sh a.tape a.drawn e) #[]).1= .ok v (sh a.tape a.drawn e):=by rw[Vr];exact R _ _
 have C:Sq P RE (RN fr' (g :: eZ)) a=Uh (seen P fr'.fn ((SD fn fr'.tmps).runT P a #[]).2) (match ((SD fn fr'.tmps).runT P a #[]).1 with
  | .ok v w=>Us P RE fr' (g :: eZ) RA v w
  | .halt (.stuck s) w=>.ended (.stuck s (fr'.pos P)) w
  | .halt _ w=>.ended (.stuck "return: the result variables cannot be read" (fr'.pos P)) w):=by
  have F:Sq P RE (RN fr' (g :: eZ)) a=Vv P RE fr' (g :: eZ) RA a:=by simp[RN,Sq,A]
  rw[F];unfold Vv;rw[J];simp only[A,i.fn,K];rfl
 generalize ad:(SD fn fr.tmps).runT P (sh a.tape a.drawn e) #[]=W at o f;generalize ae:(SD fn fr'.tmps).runT P a #[]=X at o C;cases o using Rl.fc.ind with
 |halt h j z y l q=>cases f
 |mX h l q=>cases f
 |over u l q=>
  simp only[Result.ok.injEq] at f;obtain⟨-,rfl⟩:=f;simp[sh] at l
 |ok u j z y l q=>
  rename_i k Y E m ao V Z ab;simp only[Result.ok.injEq] at f;obtain⟨rfl,rfl⟩:=f;obtain⟨p,Q⟩:=F6 (P0:=P0) (S:=S) j z (fun t n=>Rl.eL (P:=P) (f:=fr'.fn) y t n) B;refine⟨_,_,_,?_,p,G k m _ V u ⟨j.gl,j.gr,j.at_,fun al am M=>absurd M (by omega)⟩ Q (x.step r p).1 (x.step r p).2⟩;rw[C];simp only[Us,i.kind,N];rfl
def Oq (Gc:k8):aN Gc:=⟨fun _=>RA,fun b d c a=>(by cases a),fun b d a=>(by cases a)⟩
def Ak (g:Nat)(os:Os):RD:={heap:=SN g (.cells #[] 0),tape:=fun _ _=>0,drawn:=0,os,output:= #[]}
theorem Jr(h:Twins P0 P)(L:Rl.Alike Gc P P)(A:mB Gc P P){f:TH}(T:Gc.b f=RF)(C:P.funcs[f]? =P0.funcs[f]?){args:Array RB}(Q:aU (Oq Gc) args args){R:Uw→RD→Prop}(hR:∀ e w',R e w'→∃ v,e= .returned v){os:Os}(ae:∀ a,Sc P0 f args (sh a 0 (Ak Gc.g os)) R)
 {own:Nat→Prop} {w:RD} {s:RU} (K:FU S own w) (ab:Gc.g≤w.heap.size)
 (H:∀ (σ:aN Gc) v r i own' w',(∃ a d,R (.returned v) (sh a d i))→aq σ v r→ea σ 0 i w'→(∀ b b',σ.f b=Ry b'→own' b')→FU S own' w'→RelB S w w'→ov P0 P S c own' vs (RN (s.finish r) eZ) w'):ov P0 P S c own vs (RN (Sz P f args .normal) (s :: eZ)) w:=by
 have x:Sz P f args .normal=Sz P0 f args .normal:=by unfold Sz;rw[C]
 have D:Hp (aV P0) (Ak Gc.g os):=fun b bi o=>by
  simp only[Ak,Array.getElem?_replicate] at o
  split at o
  ·cases o;exact .inl trivial
  ·cases o
 have W:Fin P0 P (BZ fun g az w'=>az=[]∧∃ v,R (.returned v) w'∧g.fn=f∧g.leaving P0 w' (.returned v)) (Sz P0 f args .normal) [] (Ak Gc.g os) (Ak Gc.g os):=by
  refine uc h (fun g az w' j=>?_) ⟨Cr h f args .normal (.inl rfl),fun bl a7=>by simp at a7,rfl⟩ D (Un.refl _) fun a=>?_
  ·obtain⟨_,v,_,_,n⟩:=j;rintro⟨q,_⟩;rw[n.1] at q;cases q
  ·obtain⟨e,w',g,B,U,p,n⟩:=ae a [bg];obtain⟨v,rfl⟩:=hR e w' B;obtain⟨N,I⟩:=U;exact⟨N,g,[],w',I,rfl,v,B,p,n⟩
 obtain⟨y,z⟩:=Rl.sR A T Q .normal (.inl rfl);rw[x] at y z;rw[x];refine FO (az:=[]) (tops':=[]) (eZ:=s :: eZ) L A W w rfl y z .nil rfl ⟨by simp[Ak],ab,fun b b' e=>(by cases e),fun a8 ba u=>absurd u (by omega)⟩ (fun b b' e=>(by cases e)) D K (RelB.refl _ _) fun σ g az i be bj own' w' j Z a3 a5 al ao M ar=>?_;obtain⟨a,d,rfl,v,J,p,n⟩:=j;cases a3 using di.ind;obtain⟨q,V,ad,m,X,a1⟩:=n;have Y:P.funcs[g.fn]? =Ry m:=by rw[p,C,← p];exact X
 have a2:∀ l k,(SD m g.tmps).run P (sh l k i)= .ok v (sh l k i):=by
  intro l k;have a0:=Lv (dS P0) h.A.view (SD m g.tmps) (sh a d i) #[] (x9 h.A.T m g.tmps) (ao.sh a d);have t:((SD m g.tmps).runT P0 (sh a d i) #[]).1= .ok v (sh a d i):=by rw[Vr];exact a1
  rcases a0.shift with⟨bm,w',F⟩|j
  ·rw[t] at F;cases F
  ·obtain⟨bb,E,j⟩:=j l k (sh a d i) (Un.refl _) (by rw[t];intro a8 ba u;simp[rW] at u);rw[t] at j E;have:=congrArg Sb j;rw[Vr] at this;have G:sh l k bb=sh l k i:=GD E l k;simp only[My,rW,Nat.sub_self,Nat.add_zero] at this;rw[G] at this;exact this
 exact N1 (P0:=P0) L Z q V ad Y a2 a5 al (fun bd r a9 bc a4 a6 am O aw=>H bd v r i a9 bc ⟨a,d,J⟩ a4 a6 am O (ar.trans aw)) M
end
end Cc
namespace Cc
open Go Go.Conc
structure pg(P0 P:RM)(S:Nat→Prop)(m:Bool)(X:(Nat→Prop)→RU→List RU→RD→Prop):Prop where
 step:∀ own fr cs w,(∀ w1,RelB (fun b=>S b∨own b) w w1→∃ fr' cs' w' es,Sq P m (RN fr cs) w1= .go (RN fr' cs') w' es∧lg P0 S own w1 w' es∧X (cB own w1 w') fr' cs' w')→X own fr cs w
 rely:∀ own fr cs w w1,X own fr cs w→RelB (fun b=>S b∨own b) w w1→X own fr cs w1
def jy (P0 P:RM)(Post:RB→RD→Prop)(S O:Nat→Prop)(μ:Nat→Option (List RB))(g:So)(w:RD):Prop:=∃ c,Mn P0 P Post c (.sh S O μ) g w
section
variable {P0 P:RM}{Post:RB→RD→Prop}{S O:Nat→Prop}{μ:Nat→Option (List RB)}{g:So}{w:RD}
theorem j4(P0 P:RM)(S:Nat→Prop)(c:Nat)(vs:List RB):pg P0 P S RE (fun own fr cs w=>ov P0 P S c own vs (RN fr cs) w):=
 ⟨fun own fr cs w d=>r9 rfl fun f e=>by
  obtain⟨fr',q,p,h,j,l,n⟩:=d f e;exact⟨_,p,h,j,l,n⟩,fun own fr cs w f d e=>d.rely e⟩
theorem KW(h:∀ c,RelB (fun b=>S b∨O b) w c→∃ g' w' es,Sq P RF g c= .go g' w' es∧g'.status= .running∧lg P0 S O c w' es∧jy P0 P Post S (cB O c w') μ g' w'):jy P0 P Post S O μ g w:=by
 classical
 let f:RD→Tr:=fun c=>if d:RelB (fun b=>S b∨O b) w c then S0 (RY (RY (RY (h c d)))).2.2.2 else .fin
 refine⟨.mk f,mv.2 <| .inl fun c d=>?_⟩;have e:=RY (RY (RY (h c d)));have j:f c=S0 (RY (RY (RY (h c d)))).2.2.2:=by
  show(if d:RelB (fun b=>S b∨O b) w c then _ else _)=_;rw[dif_pos d]
 exact⟨_,_,_,e.1,e.2.1,e.2.2.1,Mn.cast j (RY e.2.2.2)⟩
theorem dw(P0 P:RM)(Post:RB→RD→Prop)(S:Nat→Prop)(μ:Nat→Option (List RB)):pg P0 P S RF (fun O fr cs w=>jy P0 P Post S O μ (RN fr cs) w):=
 ⟨fun own fr cs w c=>KW fun e d=>by
  obtain⟨fr',q,p,f,h,j,l⟩:=c e d;exact⟨_,p,f,h,rfl,j,l⟩,fun own fr cs w e c d=>by
  obtain⟨n,c⟩:=c;exact⟨n,c.jm d⟩⟩
theorem Ik{c cap:Nat}{l:List RB}(p:O c)(s:l.length≤cap)(t:μ c=RA)(hc:w.heap[c]? =Ry (.chan cap #[] RE 0 0 RE))(h:∀ d,RelB (fun b=>S b∨O b) w d→∃ g' n,Sq P RF g d= .spawn g' n d #[]∧g'.status= .running∧ov P0 P S c (fun _=>False) l n d∧jy P0 P Post S (fun b=>O b∧b≠c) (fy μ c (Ry l)) g' d):jy P0 P Post S O μ g w:=by
 classical
 let f:RD→Tr:=fun d=>if e:RelB (fun b=>S b∨O b) w d then S0 (RY (RY (h d e))).2.2.2 else .fin
 refine⟨.mk f,mv.2 <| .inr (.inl ⟨c,l,cap,p,s,t,hc,fun d e=>?_⟩)⟩;have j:=RY (RY (h d e));have r:f d=S0 (RY (RY (h d e))).2.2.2:=by
  show(if e:RelB (fun b=>S b∨O b) w d then _ else _)=_;rw[dif_pos e]
 obtain⟨u,q⟩:=j.2.2.1;exact⟨_,_,u,j.1,j.2.1,q,Mn.cast r (RY j.2.2.2)⟩
theorem KU{c:Nat}{z:RB}{g2:So}{v:RB}{l:List RB}(p:μ c=Ry (v :: l))(n:g2.frame=g.frame∧g2.callers=g.callers∧g2.dying=g.dying)(h:∀ d,RelB (fun b=>S b∨O b) w d→Sq P RF g d= .comm g2 #[rcase c z] RF (.recv RF) d #[]∧jy P0 P Post S O (fy μ c (Ry l)) (TR g2 (recvd RF v RF)) d):jy P0 P Post S O μ g w:=by
 classical
 let f:RD→Tr:=fun d=>if e:RelB (fun b=>S b∨O b) w d then S0 (h d e).2 else .fin
 refine⟨.mk f,mv.2 <| .inr (.inr (.inl ⟨c,z,g2,v :: l,p,n,fun d e=>⟨(h d e).1,?_⟩⟩))⟩;have j:f d=S0 (h d e).2:=by
  show(if e:RelB (fun b=>S b∨O b) w d then _ else _)=_;rw[dif_pos e]
 exact Mn.cast j (RY (h d e).2)
theorem KV{c:Nat}{z:RB}{g2:So}(n:μ c=Ry [])(l:g2.frame=g.frame∧g2.callers=g.callers∧g2.dying=g.dying)(h:∀ d,RelB (fun b=>S b∨O b) w d→Sq P RF g d= .comm g2 #[rcase c z] RF (.recv RF) d #[]∧jy P0 P Post S O (fy μ c RA) (TR g2 (recvd RF z RE)) d):jy P0 P Post S O μ g w:=by
 classical
 let f:RD→Tr:=fun d=>if e:RelB (fun b=>S b∨O b) w d then S0 (h d e).2 else .fin
 refine⟨.mk f,mv.2 <| .inr (.inr (.inl ⟨c,z,g2,[],n,l,fun d e=>⟨(h d e).1,?_⟩⟩))⟩;have j:f d=S0 (h d e).2:=by
  show(if e:RelB (fun b=>S b∨O b) w d then _ else _)=_;rw[dif_pos e]
 exact Mn.cast j (RY (h d e).2)
theorem KT(n:∀ c,μ c=RA)(h:∀ d,RelB (fun b=>S b∨O b) w d→vH P0 d→sn P0 P Post g d):jy P0 P Post S O μ g w:=by
 classical
 let f:RD→Tr:=fun d=>if e:RelB (fun b=>S b∨O b) w d∧vH P0 d then S0 (h d e.1 e.2) else .fin
 refine⟨.mk f,mv.2 <| .inr (.inr (.inr ⟨n,fun d e j=>?_⟩))⟩;have l:f d=S0 (h d e j):=by
  show(if e:RelB (fun b=>S b∨O b) w d∧vH P0 d then _ else _)=_;rw[dif_pos ⟨e,j⟩]
 exact Mn.cast l (RY (h d e j))
theorem Ip(S O:Nat→Prop)(j:∀ b,S b→b<w.heap.size∧¬ O b)(e:∀ b,O b→b<w.heap.size)(h:∀ c,AtRel w c→jy P0 P Post S O (fun _=>RA) g c):sn P0 P Post g w:=by
 classical
 let f:RD→Tr:=fun c=>if d:AtRel w c then S0 (h c d) else .fin
 refine⟨.mk f,mv.2 <| .inr (.inr ⟨S,O,j,e,fun c d=>?_⟩)⟩;have l:f c=S0 (h c d):=by
  show(if d:AtRel w c then _ else _)=_;rw[dif_pos d]
 exact Mn.cast l (RY (h c d))
end
section
variable {P0 P:RM}{S:Nat→Prop}{m:Bool}{X:(Nat→Prop)→RU→List RU→RD→Prop}(hX:pg P0 P S m X){own:Nat→Prop}{fr fr':RU}{cs:List RU}{w:RD}{b:RU}{a:TZ}{k:List Uk}{ops:Array Te}{i:Nat}{rest:List Nat}{o:Te}
theorem mw(own:Nat→Prop)(w:RD):cB own w w=own:=by
 funext b;unfold cB;apply propext;constructor
 ·rintro(c|c)
  ·exact c
  ·omega
 ·exact .inl
theorem wG(P0:RM){es:Array SV}(c:∀ e∈es,EvW S own e):lg P0 S own w w es:=⟨fun _ _ _=>rfl,RG _,rfl,rfl,rfl,fun d=>d,by rw[mw];exact c⟩
theorem jZ(hX:pg P0 P S m X){c:List RU}(j:∀ w,Sq P m (RN fr cs) w= .go (RN fr' c) w)(f:X own fr' c w):X own fr cs w:=
 hX.step _ _ _ _ fun d h=>⟨fr',c,d,#[],j d,wG P0 (fun l e=>by simp at e),by rw[mw];exact hX.rely _ _ _ _ _ f h⟩
theorem JZ(hX:pg P0 P S m X)(l:b.kind≠.early)(p:ops[i]? =Ry o)(r:Sn o (S2 ops a.tmps)=RF)
 (h:∀ d,RelB (fun b=>S b∨own b) w d→∃ v w',(Sd a.eval o).run P d= .ok (.value v) w'∧lg P0 S own d w' ((Sd a.eval o).events P d #[])∧X (cB own d w') (b.at (a.put o.dst v) (.inRegion ops rest :: k)) cs w'):X own (b.at a (.inRegion ops (i :: rest) :: k)) cs w:=
 hX.step _ _ _ _ fun d q=>by
  obtain⟨v,w',f,c,j⟩:=h d q;refine⟨_,_,_,_,stepG_value p r l f,⟨c.keep,c.size,c.tape,c.os,c.output,c.hp,fun e n=>c.evs e (Conc.mem_listed n)⟩,j⟩
theorem ej(hX:pg P0 P S m X)(f:b.kind≠.early)(l:ops[i]? =Ry o)(n:Sn o (S2 ops a.tmps)=RF)(v:RB)
 (h:∀ c,RelB (fun b=>S b∨own b) w c→(Sd a.eval o).run P c= .ok (.value v) c∧∀ e∈(Sd a.eval o).events P c #[],EvW S own e) (j:X own (b.at (a.put o.dst v) (.inRegion ops rest :: k)) cs w):X own (b.at a (.inRegion ops (i :: rest) :: k)) cs w:=
 JZ hX f l n fun c d=>⟨v,c,(h c d).1,wG P0 (h c d).2,by rw[mw];exact hX.rely _ _ _ _ _ j d⟩
end
def aS (a:TZ)(s:Nat):RB:=a.tmps.getD s SP
def QH (ops:Array Te)(l:Array Bool)(s:Nat):Prop:=∃ b c,l.getD b RE=RF∧ops[b]? =Ry c∧c.dst=Ry s
structure b8(ops:Array Te)(Ph:Nat→Bool)(a0 z:TZ)(l:Array Bool)(a:TZ):Prop where
 size:l.size=ops.size
 closed:∀ (i:Nat) o,l.getD i RE=RF→ops[i]? =Ry o→∀ e∈o.after,S4 .any e=RF→l.getD e.on RE=RF
 ph:∀ i:Nat,l.getD i RE=RF→Ph i=RF
 Ou:a.tmps.size=z.tmps.size
 PV:a.defers=z.defers
 yes:∀ s,QH ops l s→aS a s=aS z s
 no:∀ s,¬ QH ops l s→aS a s=aS a0 s
def KH:Op→Bool
 | .select _ _=>RF
 |_=>RE
def nI (ops:Array Te)(Ph:Nat→Bool):Bool:=(Sw ops.size).all fun d=>match ops[d]? with
 |none=>RF
 |some c=> !KH c.op && ((c.looksAt ops).all fun s=>(c.after.toList.any fun b=>S4 .any b && ((ops[b.on]?).bind (·.dst)) == Ry s) || (Sw ops.size).all fun e=> !Ph e || ((ops[e]?).bind (·.dst)) != Ry s) && (match c.guard with|some (f,_)=>((ops[f]?).bind (·.dst)).isSome|none=>RF) && c.after.toList.all fun b=> !S4 .any b || decide (b.on<d)
def Nq (ops:Array Te)(Ph:Nat→Bool)(u:Nat):Bool:=(Sw ops.size).all fun b=>Ph b || b == u || match ops[b]? with
 |none=>RF
 |some d=>d.after.toList.any fun c=>S4 .any c && !Ph c.on
def DL (l:Array Bool):Nat:=l.toList.countP (!·)
theorem countP_set:∀ (x:List Bool) (i:Nat),x[i]? =Ry RE→(x.set i RF).countP (!·)+1=x.countP (!·)
 | [],i,c=>by simp at c
 |b :: d,0,c=>by simp at c;subst c;simp
 |b :: d,i+1,c=>by
  have:=countP_set d i (by simpa using c);simp only[Sg,List.countP_cons];omega
theorem pW{l:Array Bool}{i:Nat}(b:i<l.size)(h:l.getD i RF=RE):DL (l.setIfInBounds i RF)+1=DL l:=by
 unfold DL;rw[Array.toList_setIfInBounds];refine countP_set _ _ ?_;have:l[i]? =Ry l[i]:=Sv b;simp only[Se,this,Uu] at h;rw[Array.getElem?_toList,this,h]
theorem j6{l:Array Bool}{i j:Nat}(d:i<l.size):(l.setIfInBounds i RF).getD j RE=(decide (j=i) || l.getD j RE):=by
 simp only[Se,Ss];by_cases b:i=j
 ·subst b;simp[d]
 ·have:¬ j=i:=fun c=>b c.symm;simp[b,this]
theorem mem_ready{ops:Array Te}{l:Array Bool}{i:Nat}(h:i∈SI .any ops l):∃ o,ops[i]? =Ry o∧i<ops.size∧l.getD i RF=RE∧∀ e∈o.after,S4 .any e=RF→l.getD e.on RE=RF:=by
 unfold SI at h;obtain⟨f,b⟩:=List.mem_filter.1 h;have c:=Tg.1 f;simp only[R7,Bool.not_eq_true'] at b;have d:ops[i]? =Ry ops[i]:=Sv c;rw[d] at b;simp only[TG,Uu] at b;refine⟨_,d,c,b.1,fun e j g=>?_⟩;have:=Array.all_eq_true.1 b.2;obtain⟨m,k,rfl⟩:=Array.mem_iff_getElem.1 j;have:=this m k;simpa [g] using this
theorem E0{ops:Array Te}{Ph:Nat→Bool}{l:Array Bool}(p:l.size=ops.size)(n:nI ops Ph=RF)(h:SI .any ops l=[]):∀ i,i<ops.size→l.getD i RE=RF:=by
 intro i
 induction i using Nat.strongRecOn with
 |_ i o=>
  intro b;cases j:l.getD i RE with
  |true=>rfl
  |false=>
   exfalso
   have:i∈SI .any ops l:=by
    unfold SI;refine List.mem_filter.2 ⟨Tg.2 b,?_⟩;have d:ops[i]? =Ry ops[i]:=Sv b;have c:=Sf.1 n i (Tg.2 b);rw[d] at c;simp only[R7,Sf] at c;have k:l.getD i RF=RE:=by
     have:l[i]? =Ry l[i]:=Sv (by omega);simpa [Se,this] using j
    rw[d,k];simp only[Bool.not_false,Bool.true_and,TG,Uu,Array.all_eq_true];intro e g;have:=c.2 _ (Array.getElem_mem_toList g);cases f:S4 .any (ops[i].after[e]) with
    |false=>rfl
    |true=>
     rw[f] at this;have m:ops[i].after[e].on<i:=by simpa using this
     simpa using o _ m (by omega)
   rw[h] at this;cases this
section
variable {ops:Array Te}{Ph:Nat→Bool}{a0 z:TZ}{l:Array Bool}{a:TZ}
theorem b8.looks(h:b8 ops Ph a0 z l a)(w:nI ops Ph=RF)(y:∀ s,(∀ (j:Nat) o,Ph j=RF→ops[j]? =Ry o→o.dst≠Ry s)→aS z s=aS a0 s){i:Nat}{o:Te}(n:ops[i]? =Ry o)(p:∀ e∈o.after,S4 .any e=RF→l.getD e.on RE=RF):∀ s∈o.looksAt ops,aS a s=aS z s:=by
 intro s x;have r:i<ops.size:=(RH.1 n).1;have k:=Sf.1 w i (Tg.2 r);rw[n] at k;simp only[R7,Sf] at k;have:=k.1.1.2 s x;rw[UA] at this;rcases this with f|f
 ·obtain⟨e,q,g⟩:=List.any_eq_true.1 f;simp only[R7,beq_iff_eq] at g;obtain⟨d,u,b⟩:=Su.1 g.2;exact h.yes s ⟨e.on,d,p e (by simpa using q) g.1,u,b⟩
 ·have m:∀ (j:Nat) o,Ph j=RF→ops[j]? =Ry o→o.dst≠Ry s:=fun j d v c b=>by
   have:=Sf.1 f j (Tg.2 (RH.1 c).1);rw[c] at this;simp[b,v] at this
  rw[y s m];exact h.no s fun⟨j,d,t,c,b⟩=>m j d (h.ph j t) c b
theorem b8.exec(m:b8 ops Ph a0 z l a)(t:nI ops Ph=RF)(B:∀ s,(∀ (j:Nat) o,Ph j=RF→ops[j]? =Ry o→o.dst≠Ry s)→aS z s=aS a0 s){i:Nat}{o:Te}(n:ops[i]? =Ry o)(w:∀ e∈o.after,S4 .any e=RF→l.getD e.on RE=RF):Sd a.eval o=Sd z.eval o∧Sn o (S2 ops a.tmps)=Sn o (S2 ops z.tmps):=by
 have r:=m.looks t B n w;have x:i<ops.size:=(RH.1 n).1;have f:=Sf.1 t i (Tg.2 x);rw[n] at f;simp only[R7] at f;refine⟨execOp_congr o (fun E D e=>by have:=f.1.1.1;rw[e] at this;cases this) fun C y=>?_,?_⟩
 ·cases C with
  |tmp u=>exact r u (List.mem_append_left _ (List.mem_filterMap.2 ⟨.tmp u,by simpa using y,rfl⟩))
  |_=>rfl
 ·unfold Sn;cases q:o.guard with
  |none=>rfl
  |some v=>
   obtain⟨j,F⟩:=v;have k:=f.1.2;rw[q] at k;dsimp only at k ⊢;obtain⟨b,p⟩:=Option.isSome_iff_exists.1 k;have d:aS a b=aS z b:=r b (List.mem_append_right _ (by rw[q];simp[p]));have A:S2 ops a.tmps j=S2 ops z.tmps j:=by
    unfold S2;rw[p];simp only[U8];unfold aS at d;simp only[Se] at d;rcases Ts b z.tmps.size with c|c
    ·have g:z.tmps[b]? =Ry z.tmps[b]:=Sv c;have h:a.tmps[b]? =Ry (a.tmps[b]'(by rw[m.Ou];exact c)):=Sv _;rw[g,h] at d ⊢;simp only[Uu] at d;rw[d]
    ·have g:z.tmps[b]? =RA:=SZ c;have h:a.tmps[b]? =RA:=SZ (by rw[m.Ou];exact c);rw[g,h]
   rw[A]
theorem b8.next(b:b8 ops Ph a0 z l a){i:Nat}{o:Te}(D:Ph i=RF)(n:ops[i]? =Ry o)(A:∀ e∈o.after,S4 .any e=RF→l.getD e.on RE=RF){v:RB}(y:∀ d,o.dst=Ry d→d<z.tmps.size∧aS z d=v):b8 ops Ph a0 z (l.setIfInBounds i RF) (a.put o.dst v):=by
 have j:i<l.size:=by rw[b.size];exact(RH.1 n).1
 have t:∀ s,QH ops (l.setIfInBounds i RF) s↔o.dst=Ry s∨QH ops l s:=by
  intro s;constructor
  ·rintro⟨g,k,f,h,m⟩;rw[j6 j] at f;simp only[UA,decide_eq_true_eq] at f;rcases f with rfl|f
   ·rw[n] at h;cases h;exact .inl m
   ·exact .inr ⟨g,k,f,h,m⟩
  ·rintro(q|⟨g,k,f,h,m⟩)
   ·exact⟨i,o,by rw[j6 j];simp,n,q⟩
   ·exact⟨g,k,by rw[j6 j,f];simp,h,m⟩
 have x:∀ s,aS (a.put o.dst v) s=if o.dst=Ry s then v else aS a s:=by
  intro s;unfold aS Tc;cases B:o.dst with
  |none=>simp
  |some d=>
   have C:=(y d B).1;simp only[Se,Ss,SY];by_cases e:d=s
   ·subst e;simp[b.Ou,C]
   ·simp[e]
 refine⟨by simp[b.size],fun g k c r e w u=>?_,fun g c=>?_,?_,?_,fun s p=>?_,fun s p=>?_⟩
 ·rw[j6 j] at c ⊢;simp only[UA,decide_eq_true_eq] at c ⊢;rcases c with rfl|c
  ·rw[n] at r;cases r;exact .inr (A e w u)
  ·exact .inr (b.closed g k c r e w u)
 ·rw[j6 j] at c;simp only[UA,decide_eq_true_eq] at c;rcases c with rfl|c
  ·exact D
  ·exact b.ph g c
 ·unfold Tc;split
  ·simp[b.Ou]
  ·exact b.Ou
 ·unfold Tc;split
  ·exact b.PV
  ·exact b.PV
 ·rw[x]
  split
  ·rename_i e;exact((y s e).2).symm
  ·rename_i e;exact b.yes s (((t s).1 p).resolve_left e)
 ·rw[x,if_neg fun e=>p ((t s).2 (.inl e))];exact b.no s fun q=>p ((t s).2 (.inr q))
theorem b8.start(a0 z:TZ)(f:a0.tmps.size=z.tmps.size)(e:a0.defers=z.defers):b8 ops Ph a0 z (SN ops.size RE) a0:=by
 have d:∀ c:Nat,(SN ops.size RE).getD c RE=RE:=fun c=>by
  simp only[Se,Array.getElem?_replicate]
  split<;>rfl
 refine⟨by simp,fun c g b=>?_,fun c b=>?_,f,e,fun s ⟨c,g,b,_⟩=>?_,fun s _=>rfl⟩
 ·rw[d] at b;cases b
 ·rw[d] at b;cases b
 ·rw[d] at b;cases b
theorem b8.all(d:b8 ops Ph a0 z l a)(t:∀ s,(∀ (j:Nat) o,Ph j=RF→ops[j]? =Ry o→o.dst≠Ry s)→aS z s=aS a0 s)(h:∀ i,i<ops.size→l.getD i RE=RF):a=z:=by
 have r:∀ s,aS a s=aS z s:=fun s=>by
  by_cases f:∃ (j:Nat) (o:Te),ops[j]? =Ry o∧o.dst=Ry s
  ·obtain⟨j,o,b,c⟩:=f;exact d.yes s ⟨j,o,h j (RH.1 b).1,b,c⟩
  ·have e:∀ (j:Nat) o,ops[j]? =Ry o→o.dst≠Ry s:=fun j o b c=>f ⟨j,o,b,c⟩;rw[t s fun j o _=>e j o];exact d.no s fun⟨j,o,_,b,c⟩=>e j o b c
 obtain⟨u,g⟩:=a;obtain⟨v,k⟩:=z;have n:g=k:=d.PV;have m:u=v:=by
  refine Array.ext d.Ou fun i p q=>?_;have:=r i;unfold aS at this;simpa [Se,p,q] using this
 rw[m,n]
theorem b8.OE(d:b8 ops Ph a0 z l a){u:Nat}(y:∀ s,(∀ (j:Nat) o,Ph j=RF→ops[j]? =Ry o→o.dst≠Ry s)→aS z s=aS a0 s)(x:Ph u=RE)(h:∀ i,i<ops.size→i≠u→l.getD i RE=RF):a=z:=by
 have w:∀ s,aS a s=aS z s:=fun s=>by
  by_cases g:∃ (j:Nat) (o:Te),Ph j=RF∧ops[j]? =Ry o∧o.dst=Ry s
  ·obtain⟨j,o,e,b,c⟩:=g;exact d.yes s ⟨j,o,h j (RH.1 b).1 (fun n=>by rw[n,x] at e;cases e),b,c⟩
  ·have f:∀ (j:Nat) o,Ph j=RF→ops[j]? =Ry o→o.dst≠Ry s:=fun j o e b c=>g ⟨j,o,e,b,c⟩;rw[y s f];exact d.no s fun⟨j,o,v,b,c⟩=>f j o (d.ph j v) b c
 obtain⟨A,k⟩:=a;obtain⟨B,m⟩:=z;have q:k=m:=d.PV;have p:A=B:=by
  refine Array.ext d.Ou fun i r t=>?_;have:=w i;unfold aS at this;simpa [Se,r,t] using this
 rw[p,q]
theorem drawn{Dn:Nat→Bool}{val:Nat→RB}{u:Nat}{G:List Nat→TZ→Prop}(C:nI ops Ph=RF)(K:Nq ops Ph u=RF)
 (U:∀ (i:Nat) o d,Ph i=RF→ops[i]? =Ry o→o.dst=Ry d→d<z.tmps.size∧aS z d=val i)
 (D:∀ s,(∀ (j:Nat) o,Ph j=RF→ops[j]? =Ry o→o.dst≠Ry s)→aS z s=aS a0 s)
 (R:∀ i o a todo,Ph i=RF→Dn i=RE→i≠u→ops[i]? =Ry o→Sd a.eval o=Sd z.eval o→Sn o (S2 ops a.tmps)=Sn o (S2 ops z.tmps)→G todo (a.put o.dst (val i))→G (i :: todo) a)
 (T:∀ c t l a,b8 ops Ph a0 z l a→u∈SI .any ops l→DL l≤c+1→G (u :: SJ .any ops c t (l.setIfInBounds u RF) []) a)
 (N:(∀ i,i<ops.size→Ph i=RF)→G [] z):
 ∀ (c t:Nat) (l:Array Bool) (a:TZ),b8 ops Ph a0 z l a→(∀ i,Dn i=RF→l.getD i RE=RF)→DL l≤c→G (SJ .any ops c t l []) a:=by
 have done:∀ l a,b8 ops Ph a0 z l a→SI .any ops l=[]→G [] a:=fun l a b k=>by
  have y:=E0 b.size C k;rw[b.all D y];exact N fun i e=>b.ph i (y i e)
 intro c
 induction c with
 |zero=>
  intro t l a b q B;simp only[SJ,List.reverse_nil];refine done l a b ?_;cases k:SI .any ops l with
  |nil=>rfl
  |cons i W=>
   obtain⟨o,_,e,f,_⟩:=mem_ready (ops:=ops) (l:=l) (i:=i) (by rw[k];exact UL ..);have:=pW (by rw[b.size];exact e) f;omega
 |succ c V=>
  intro t l a b q B;simp only[SJ];change G (match (SI .any ops l)[t % (SI .any ops l).length]? with
   |some i=>SJ .any ops c (t / (SI .any ops l).length) (l.setIfInBounds i RF) [i]
   |none=>[].reverse) a
  cases e:(SI .any ops l)[t % (SI .any ops l).length]? with
  |none=>
   have Q:SI .any ops l=[]:=by
    cases k:SI .any ops l with
    |nil=>rfl
    |cons E F=>
     rw[k] at e;have g:t % (E :: F).length<(E :: F).length:=Nat.mod_lt _ (by simp);simp at e;simp at g;omega
   exact done l a b Q
  |some i=>
   simp only[];rw[linearise_go_acc,List.reverse_singleton,List.singleton_append];have A:=Td e;obtain⟨o,h,g,f,r⟩:=mem_ready A;by_cases w:i=u
   ·subst w;exact T c _ l a b A B
   ·have x:Ph i=RF:=by
     have:=Sf.1 K i (Tg.2 g);cases S:Ph i with
     |true=>rfl
     |false=>
      rw[S,h] at this;simp only[Bool.false_or,UA,beq_iff_eq] at this;rcases this with p|p
      ·exact absurd p w
      ·obtain⟨n,M,v⟩:=List.any_eq_true.1 p;simp only[R7,Bool.not_eq_true'] at v;have:=b.ph _ (r n (by simpa using M) v.1);rw[v.2] at this;cases this
    obtain⟨m,I⟩:=b.exec C D h r;have J:Dn i=RE:=by
     cases n:Dn i with
     |false=>rfl
     |true=>
      have m:=q i n;have P:i<l.size:=by rw[b.size];exact g
      have H:l[i]? =Ry l[i]:=Sv P;simp only[Se,H,Uu] at m f;rw[m] at f;cases f
    refine R i o a _ x J w h m I (V _ _ _ (b.next x h r fun d L=>U i o d x h L) (fun j O=>by
     rw[j6 (by rw[b.size];exact g),q j O];simp) ?_)
    have:=pW (by rw[b.size];exact g) f;omega
end
section
variable {P0 P:RM}{S:Nat→Prop}{m:Bool}{X:(Nat→Prop)→RU→List RU→RD→Prop}{own:Nat→Prop}{cs:List RU}{w:RD}{b:RU}{a:TZ}{k:List Uk}{ops:Array Te}{i:Nat}{rest:List Nat}{o:Te}
theorem aM(c:pg P0 P S m X){c1 c2:UR}(d:X own (b.at a (.code c1 :: .code c2 :: k)) cs w):X own (b.at a (.code (.seq c1 c2) :: k)) cs w:=jZ c (fun w=>stepG_seq) d
theorem cN(c:pg P0 P S m X){x:SG}{c1 c2:UR}(y:Bool)(e:a.eval x= .bool y)(d:X own (b.at a (.code (if y then c1 else c2) :: k)) cs w):X own (b.at a (.code (.cond x c1 c2) :: k)) cs w:=jZ c (fun w=>stepG_cond e) d
theorem fG(d:pg P0 P S m X){id:Nat}{c:UR}(e:X own (b.at a (.code c :: .inBlock id :: k)) cs w):X own (b.at a (.code (.block id c) :: k)) cs w:=jZ d (fun w=>stepG_block) e
theorem gP(c:pg P0 P S m X){id:Nat}(d:X own (b.at a k) cs w):X own (b.at a (.inBlock id :: k)) cs w:=jZ c (fun w=>stepG_inBlock) d
theorem sI(d:pg P0 P S m X){c:UR}(e:X own (b.at a (.code c :: .inLoop c :: k)) cs w):X own (b.at a (.code (.loop c) :: k)) cs w:=jZ d (fun w=>stepG_loop) e
theorem j3(d:pg P0 P S m X){c:UR}(e:X own (b.at a (.code c :: .inLoop c :: k)) cs w):X own (b.at a (.inLoop c :: k)) cs w:=jZ d (fun w=>stepG_inLoop) e
theorem gB(c:pg P0 P S m X)(d:X own (b.at a k) cs w):X own (b.at a (.code .skip :: k)) cs w:=jZ c (fun w=>stepG_skip) d
theorem sH(c:pg P0 P S m X){id:Nat}{k':List Uk}(d:Vu id k=Ry k')(e:X own (b.at a k') cs w):X own (b.at a (.code (.exit id) :: k)) cs w:=jZ c (fun w=>stepG_exit d) e
theorem nZ(c:pg P0 P S m X)(d:X own {b.at a (.code .ret :: k) with mode:=.returning} cs w):X own (b.at a (.code .ret :: k)) cs w:=jZ c (fun w=>by simp[RN,Sq,Si,Frame.at]) d
theorem JX(c:pg P0 P S m X)(d:X own {b.at a [] with mode:=.returning} cs w):X own (b.at a []) cs w:=jZ c (fun w=>stepG_end) d
theorem JY(c:pg P0 P S m X){id:Nat}(d:X own (b.at a (.inRegion ops (Sw ops.size) :: k)) cs w):X own (b.at a (.code (.region id ops RE) :: k)) cs w:=jZ c (fun w=>stepG_region) d
theorem aj(c:pg P0 P S m X)(d:X own (b.at a k) cs w):X own (b.at a (.inRegion ops [] :: k)) cs w:=jZ c (fun w=>stepG_region_end) d
theorem OJ(d:pg P0 P S m X){id:Nat}(h:P.follows .mixedOrders=RF)(g:∀ t,X own (b.at a (.inRegion ops (SJ .any ops ops.size t (SN ops.size RE) []) :: k)) cs w):X own (b.at a (.code (.region id ops RF) :: k)) cs w:=
 d.step _ _ _ _ fun c n=>by
  have e:Sq P m (RN (b.at a (.code (.region id ops RF) :: k)) cs) c= .go (RN (b.at a (.inRegion ops (Ve (P.follows .mixedOrders) ops (c.tape c.drawn (.order b.fn id))) :: k)) cs) {c with drawn:=c.drawn+1}:=by
   simp[RN,Sq,Si,Frame.at,choose,T0,Question.forced,Question.cut]
  have p:∀ t,Ve (P.follows .mixedOrders) ops t=SJ .any ops ops.size t (SN ops.size RE) []:=fun t=>by
   simp only[Ve,h,Bool.true_or,if_true];rfl
  rw[p] at e;have j:cB own c {c with drawn:=c.drawn+1}=cB own c c:=rfl;refine⟨_,_,_,_,e,⟨fun _ _ _=>rfl,RG _,rfl,rfl,rfl,fun q=>q,fun r f=>by simp at f⟩,?_⟩;rw[j,mw];exact d.rely _ _ _ _ _ (g _) (n.trans ⟨fun _ _=>rfl,RG _,rfl,rfl,rfl⟩)
theorem cT(d:pg P0 P S m X)(c:ops[i]? =Ry o)(g:Sn o (S2 ops a.tmps)=RE)(f:X own (b.at (a.put o.dst SP) (.inRegion ops rest :: k)) cs w):X own (b.at a (.inRegion ops (i :: rest) :: k)) cs w:=by
 refine jZ d (fun w=>?_) f;have e:(b.at a (.inRegion ops (i :: rest) :: k)).finish SP=b.at (a.put o.dst SP) (.inRegion ops rest :: k):=by rw[UY,c];rfl
 rw[← e];simp[RN,Sq,Si,stepG.oper,Frame.oper?,Frame.at,c,g]
theorem ak(e:pg P0 P S m X)(f:b.kind≠.early)(j:ops[i]? =Ry o)(n:Sn o (S2 ops a.tmps)=RF)(v:RB)
 (h:∀ c,(Sd a.eval o).run P c= .ok (.value v) c∧(Sd a.eval o).events P c #[]=#[]) (g:X own (b.at (a.put o.dst v) (.inRegion ops rest :: k)) cs w):X own (b.at a (.inRegion ops (i :: rest) :: k)) cs w:=
 ej e f j n v (fun c _=>⟨(h c).1,fun p d=>by rw[(h c).2] at d;simp at d⟩) g
theorem FY(j:pg P0 P S m X){f:TH}{fn:Uj}{c:UR}{args:Array SG}{ats:Array RO}(p:b.kind≠.early)(r:ops[i]? =Ry o)(s:Sn o (S2 ops a.tmps)=RF)(h:o.op= .call {callee:=.value (.func f),args,argTypes:=ats})
 (e:P.funcs[f]? =Ry fn) (g:(fn.name == "runtime.NumGoroutine")=RE) (n:fn.body=Ry c) (q:X own (Sz P f (args.map a.eval) .normal) (b.at a (.inRegion ops (i :: rest) :: k) :: cs) w):X own (b.at a (.inRegion ops (i :: rest) :: k)) cs w:=by
 have d:fn.body.isNone=RE:=by rw[n];rfl
 refine jZ j (fun w=>?_) q;rw[stepG_enter r s p (run_call_body h e g d)];have:listed P b.fn a o w=#[]:=by unfold listed;rw[events_call_body h e g d];exact Conc.seen_none P _
 rw[this]
theorem MG(d:pg P0 P S m X){fn:Uj}{todo:List Uk}{c:RU}{a0:TZ}{v:RB}(j:b.kind= .normal)(e:a.defers=[])(g:P.funcs[b.fn]? =Ry fn)(p:∀ w,(SD fn a.tmps).run P w= .ok v w)(f:∀ w,(SD fn a.tmps).events P w #[]=#[])(n:ops[i]? =Ry o)
 (h:X own (c.at (a0.put o.dst v) (.inRegion ops rest :: k)) cs w):X own {b.at a todo with mode:=.returning} (c.at a0 (.inRegion ops (i :: rest) :: k) :: cs) w:=by
 refine jZ d (fun w=>?_) h;rw[stepG_leave j e g (p w) (f w),UY,n];rfl
def iG (n:Nat)(S own:Nat→Prop)(e:SV):Prop:=(∃ m,e.loc= .mark m∧Neutral m)∨(∃ c:Sl,e.loc= .cell c∧(c.block=n∨own c.block∨(S c.block∧e.write=RE)))
theorem iG.ev{n:Nat}{own':Nat→Prop}(f:own' n)(g:∀ b,own b→own' b){e:SV}(h:iG n S own e):EvW S own' e:=by
 unfold EvW;rcases h with⟨m,h,d⟩|⟨j,h,c⟩
 ·rw[h];exact d
 ·rw[h];rcases c with rfl|c|c
  ·exact .inl f
  ·exact .inl (g _ c)
  ·exact .inr c
def sj (S own:Nat→Prop)(w:RD):Prop:=∀ b,S b∨own b→b<w.heap.size
theorem kM(y:pg P0 P S m X)(C:sj S own w)(A:b.kind≠.early)(E:ops[i]? =Ry o)(F:Sn o (S2 ops a.tmps)=RF)(j:UQ)(G:aV P0 j)(u:Nat→RB)
 (h:∀ c,RelB (fun b=>S b∨own b) w c→∃ w',(Sd a.eval o).run P c= .ok (.value (u c.heap.size)) w'∧w'.heap=c.heap.push j∧w'.tape=c.tape∧w'.os=c.os∧w'.output=c.output∧∀ e∈(Sd a.eval o).events P c #[],iG c.heap.size S own e)
 (D:∀ n w',w.heap.size≤n→w'.heap.size=n+1→RelB (fun b=>S b∨own b) w w'→w'.heap[n]? =Ry j→X (fun b=>own b∨b=n) (b.at (a.put o.dst (u n)) (.inRegion ops rest :: k)) cs w'):X own (b.at a (.inRegion ops (i :: rest) :: k)) cs w:=
 JZ y A E F fun c d=>by
  obtain⟨w',v,g,p,q,r,x⟩:=h c d;have t:cB own c w'=fun b=>own b∨b=c.heap.size:=by
   funext H;unfold cB;rw[g,Tx];apply propext;constructor
   ·rintro(h|h)
    ·exact .inl h
    ·exact .inr (by omega)
   ·rintro(h|h)
    ·exact .inl h
    ·exact .inr (by omega)
  have s:∀ b:Nat,b<c.heap.size→w'.heap[b]? =c.heap[b]? :=fun b f=>by
   rw[g,Sp];rw[if_neg (by omega)]
  refine⟨_,w',v,⟨fun b f _=>s b f,by rw[g];simp,p,q,r,fun _=>trivial,fun e B=>?_⟩,?_⟩
  ·rw[t];exact(x e B).ev (.inr rfl) (fun b f=>.inl f)
  ·rw[t];refine D c.heap.size w' d.size (by rw[g];simp) ⟨fun b f=>?_,by rw[g];simp;have:=d.size;omega,p.trans d.tape,q.trans d.os,r.trans d.output⟩ (by rw[g];simp);rw[← d.at_ b f];exact s b (RK (C b f) d.size)
theorem sj.new{n:Nat}{w':RD}(h:sj S own w)(d:w.heap.size≤n)(e:w'.heap.size=n+1):sj S (fun b=>own b∨b=n) w':=fun b c=>by
 rcases c with c|c|c
 ·have:=h b (.inl c);omega
 ·have:=h b (.inr c);omega
 ·omega
theorem OK(j:pg P0 P S m X)(n:b.kind≠.early)(q:ops[i]? =Ry o)(s:Sn o (S2 ops a.tmps)=RF)
 (h:∀ d,RelB (fun b=>S b∨own b) w d→∃ w',(Sd a.eval o).run P d= .ok .skip w'∧lg P0 S own d w' ((Sd a.eval o).events P d #[])∧X (cB own d w') (b.at (a.put o.dst SP) (.inRegion ops rest :: k)) cs w'):X own (b.at a (.inRegion ops (i :: rest) :: k)) cs w:=
 j.step _ _ _ _ fun d r=>by
  obtain⟨w',f,c,g⟩:=h d r;exact⟨_,_,_,_,stepG_none q s n f,⟨c.keep,c.size,c.tape,c.os,c.output,c.hp,fun e p=>c.evs e (Conc.mem_listed p)⟩,g⟩
structure yC(S own:Nat→Prop)(n:Nat)(ob:UQ)(w w':RD):Prop where
 at_:∀ b,S b∨own b→b≠n→w'.heap[b]? =w.heap[b]?
 set:w'.heap[n]? =Ry ob
 size:w.heap.size≤w'.heap.size
 tape:w'.tape=w.tape
 os:w'.os=w.os
 output:w'.output=w.output
structure vL(n:Nat)(ob:UQ)(w1 w':RD):Prop where
 heap:w'.heap=w1.heap.setIfInBounds n ob
 tape:w'.tape=w1.tape
 os:w'.os=w1.os
 output:w'.output=w1.output
theorem vL.Qc{n:Nat}{g:UQ}{c w':RD}{es:Array SV}(h:vL n g c w')(j:own n)(u:n<c.heap.size)(y:aV P0 g)(t:∀ e∈es,iG n S own e)(d:RelB (fun b=>S b∨own b) w c):lg P0 S own c w' es∧cB own c w'=own∧yC S own n g w w':=by
 have x:w'.heap.size=c.heap.size:=by rw[h.heap];simp
 have p:∀ b:Nat,b≠n→w'.heap[b]? =c.heap[b]? :=fun b f=>by rw[h.heap,Ss,if_neg (fun e=>f e.symm)]
 have q:cB own c w'=own:=by
  funext A;unfold cB;rw[x];apply propext;constructor
  ·rintro(h|h)
   ·exact h
   ·omega
  ·exact .inl
 refine⟨⟨fun b f v=>p b (fun e=>v (e▸j)),by omega,h.tape,h.os,h.output,fun _=>trivial,fun e r=>?_⟩,q,⟨fun b f s=>(p b s).trans (d.at_ b f),by rw[h.heap,Ss,if_pos rfl,if_pos u],by have:=d.size;omega,h.tape.trans d.tape,h.os.trans d.os,h.output.trans d.output⟩⟩
 ·rw[q];exact(t e r).ev j (fun _ h=>h)
theorem qP(u:pg P0 P S m X)(x:sj S own w)(v:b.kind≠.early)(A:ops[i]? =Ry o)(C:Sn o (S2 ops a.tmps)=RF){n:Nat}(g:own n)(f:UQ)(B:aV P0 f)
 (h:∀ c,RelB (fun b=>S b∨own b) w c→∃ w',(Sd a.eval o).run P c= .ok .skip w'∧vL n f c w'∧∀ e∈(Sd a.eval o).events P c #[],iG n S own e)
 (y:∀ w',yC S own n f w w'→X own (b.at (a.put o.dst SP) (.inRegion ops rest :: k)) cs w'):X own (b.at a (.inRegion ops (i :: rest) :: k)) cs w:=
 OK u v A C fun c d=>by
  obtain⟨w',r,s,t⟩:=h c d;obtain⟨j,p,q⟩:=s.Qc (P0:=P0) g (RK (x n (.inr g)) d.size) B t d;exact⟨w',r,j,by rw[p];exact y w' q⟩
theorem OL(u:pg P0 P S m X)(y:sj S own w)(x:b.kind≠.early)(B:ops[i]? =Ry o)(D:Sn o (S2 ops a.tmps)=RF){n:Nat}(g:own n)(f:UQ)(C:aV P0 f)(v:RB)
 (h:∀ c,RelB (fun b=>S b∨own b) w c→∃ w',(Sd a.eval o).run P c= .ok (.value v) w'∧vL n f c w'∧∀ e∈(Sd a.eval o).events P c #[],iG n S own e)
 (A:∀ w',yC S own n f w w'→X own (b.at (a.put o.dst v) (.inRegion ops rest :: k)) cs w'):X own (b.at a (.inRegion ops (i :: rest) :: k)) cs w:=
 JZ u x B D fun c d=>by
  obtain⟨w',r,s,t⟩:=h c d;obtain⟨j,p,q⟩:=s.Qc (P0:=P0) g (RK (y n (.inr g)) d.size) C t d;exact⟨v,w',r,j,by rw[p];exact A w' q⟩
theorem sj.set{n:Nat}{e:UQ}{w':RD}(h:sj S own w)(d:yC S own n e w w'):sj S own w':=fun b c=>RK (h b c) d.size
theorem MF(q:pg P0 P S m X)(x:b.kind≠.early){Ph Dn:Nat→Bool}{z:TZ}{val:Nat→RB}{u:Nat}{a0:TZ}(G:nI ops Ph=RF)(v:Nq ops Ph u=RF)
 (I:∀ (i:Nat) o d,Ph i=RF→ops[i]? =Ry o→o.dst=Ry d→d<z.tmps.size∧aS z d=val i)
 (J:∀ s,(∀ (j:Nat) o,Ph j=RF→ops[j]? =Ry o→o.dst≠Ry s)→aS z s=aS a0 s)
 (D:∀ i o,Ph i=RF→Dn i=RE→i≠u→ops[i]? =Ry o→(Sn o (S2 ops z.tmps)=RF∧∀ c,RelB (fun b=>S b∨own b) w c→(Sd z.eval o).run P c= .ok (.value (val i)) c∧∀ e∈(Sd z.eval o).events P c #[],EvW S own e)∨(Sn o (S2 ops z.tmps)=RE∧val i=SP))
 (H:∀ f t l a,b8 ops Ph a0 z l a→u∈SI .any ops l→DL l≤f+1→X own (b.at a (.inRegion ops (u :: SJ .any ops f t (l.setIfInBounds u RF) []) :: k)) cs w)
 (B:(∀ i,i<ops.size→Ph i=RF)→X own (b.at z (.inRegion ops [] :: k)) cs w):
 ∀ (f t:Nat) (l:Array Bool) (a:TZ),b8 ops Ph a0 z l a→(∀ i,Dn i=RF→l.getD i RE=RF)→DL l≤f→X own (b.at a (.inRegion ops (SJ .any ops f t l []) :: k)) cs w:=
 drawn (G:=fun l a=>X own (b.at a (.inRegion ops l :: k)) cs w) G v I J (fun i o a K E y C p A r n=>by
  rcases D i o E y C p with⟨g,h⟩|⟨g,h⟩
  ·exact ej q x p (r.trans g) (val i) (fun c F=>by rw[A];exact h c F) n
  ·rw[h] at n;exact cT q p (r.trans g) n) H B
end
section
variable {ops:Array Te}{Ph JC:Nat→Bool}{a0 z z':TZ}{l:Array Bool}{a:TZ}
theorem b8.Q8(c:b8 ops Ph a0 z l a){u:Nat}{o:Te}(y:u∈SI .any ops l)(f:ops[u]? =Ry o)(r:∀ i,Ph i=RF→JC i=RF)(C:JC u=RF)(A:z'.tmps.size=z.tmps.size)(x:z'.defers=z.defers)
 (E:∀ (i:Nat) o d,Ph i=RF→ops[i]? =Ry o→o.dst=Ry d→aS z' d=aS z d) {v:RB} (D:∀ d,o.dst=Ry d→d<z'.tmps.size∧aS z' d=v):b8 ops JC a0 z' (l.setIfInBounds u RF) (a.put o.dst v):=by
 obtain⟨j,g,_,_,t⟩:=mem_ready y;rw[f] at g;cases g;have e:b8 ops JC a0 z' l a:=⟨c.size,c.closed,fun i n=>r i (c.ph i n),c.Ou.trans A.symm,c.PV.trans x.symm,fun s h=>by
  have B:=h;obtain⟨i,j,e,p,q⟩:=B;rw[E i j s (c.ph i e) p q];exact c.yes s h,c.no⟩
 exact e.next C f t D
theorem Jm(n:Nat):DL (SN n RE)≤n:=by
 unfold DL;exact R4 (List.countP_le_length) (by simp)
end
section
variable {P0 P:RM}{S own:Nat→Prop}{a:TZ}{o:Te}{w w1:RD}
theorem EvW.read{e:SV}{b:Sl}(h:e.loc= .cell b)(d:e.write=RE)(c:S b.block∨own b.block):EvW S own e:=by
 unfold EvW;rw[h];exact c.elim (fun f=>.inr ⟨f,d⟩) .inl
theorem mT(e:RelB (fun b=>S b∨own b) w w1){c:Sl}(d:S c.block∨own c.block):w1.cell? c=w.cell? c:=by
 unfold R2;rw[e.at_ c.block d]
theorem bM{t:RO}{x:SG}{c:Sl}{v:RB}(i:o.op= .load t x)(j:a.eval x= .pointer (Ry c))(f:∀ w,(isAgg t).run P w= .ok RE w)(g:S c.block∨own c.block)(hc:w.cell? c=Ry v):∀ w1,RelB (fun b=>S b∨own b) w w1→(Sd a.eval o).run P w1= .ok (.value v) w1∧∀ e∈(Sd a.eval o).events P w1 #[],EvW S own e:=by
 intro w1 k;have h:w1.cell? c=Ry v:=(mT k g).trans hc;constructor
 ·unfold Sd;simp[i,j,Instr.loadAt,Ux,loadVar,f,h]
 ·intro e d;unfold Sd at d;simp[i,j,Instr.loadAt,Ux,loadVar,f,h] at d;subst d;exact EvW.read rfl rfl g
theorem eF{t:RO}{x:SG}{c off:Nat}{cs:List RB}{d:TypeDesc}(m:o.op= .load t x)(p:a.eval x= .pointer (Ry ⟨c,off,RA⟩))(n:P.underlying t=Ry d)(A:d.isRow=RF)(l:(P.info? t).map (·.size)=Ry cs.length)(k:S c∨own c)(hc:w.rangeAt c off cs):∀ w1,RelB (fun b=>S b∨own b) w w1→(Sd a.eval o).run P w1= .ok (.value (.agg cs.toArray)) w1∧∀ e∈(Sd a.eval o).events P w1 #[],EvW S own e:=by
 intro w1 E;have g:w1.rangeAt c off cs:=fun f v i=>(mT E k).trans (hc f v i);have D:=run_loadAt_mid (P:=P) w1 c off t cs d g n A l;constructor
 ·unfold Sd;simp[m,p,D]
 ·intro e h;have z:(isAgg t).run P w1= .ok RF w1:=by
   unfold isAgg;rw[Ue,run_underlying n w1];cases d<;>simp_all
  obtain⟨J,C,G⟩:=TY.1 l;have F:(VH t).run P w1= .ok cs.length w1:=by simp[VH,UE,C,G]
  unfold Sd at h;simp only[m,p] at h;have B:e∈(loadCellsFrom ⟨c,off,RA⟩ 0 cs.length #[]).events P w1 #[]:=by
   have j:∃ q,(loadCells ⟨c,off,RA⟩ cs.length).run P w1= .ok q w1:=⟨_,run_loadCells_list (P:=P) w1 ⟨c,off,RA⟩ cs (fun f v H=>by rw[U2];exact g f v H)⟩;obtain⟨q,j⟩:=j;simpa [Instr.loadAt,Ux,loadVar,z,F,j,loadCells] using h
  rcases events_loadCellsFrom_at (P:=P) ⟨c,off,RA⟩ (fun b=>b=c) rfl cs.length 0 #[] w1 #[] (fun f i=>by
   rw[SA,U2,g f cs[f] (RS i)];rfl) e B with r|⟨I,s,u,y⟩
  ·simp at r
  ·exact EvW.read s u (by rw[y];exact k)
theorem sZ{t:RO}{x:SG}{v:RB}(d:o.op= .box t x)(f:a.eval x=v):∀ w1,RelB (fun b=>S b∨own b) w w1→∃ w',(Sd a.eval o).run P w1= .ok (.value (.pointer (Ry ⟨w1.heap.size,0,RA⟩))) w'∧w'.heap=w1.heap.push (.cells v.cells t)∧w'.tape=w1.tape∧w'.os=w1.os∧w'.output=w1.output∧∀ e∈(Sd a.eval o).events P w1 #[],iG w1.heap.size S own e:=by
 intro w1 g;refine⟨w1.alloc (.cells v.cells t),?_,rfl,rfl,rfl,rfl,?_⟩
 ·unfold Sd;simp[d,f,Instr.box,newVar,newRow]
 ·intro e c;unfold Sd at c;simp[d,f,Instr.box,newVar,newRow] at c
theorem rK{t:RO}{z:RB}(d:o.op= .alloc t)(f:∀ w,(TO t).run P w= .ok z w):∀ w1,RelB (fun b=>S b∨own b) w w1→∃ w',(Sd a.eval o).run P w1= .ok (.value (.pointer (Ry ⟨w1.heap.size,0,RA⟩))) w'∧w'.heap=w1.heap.push (.cells z.cells t)∧w'.tape=w1.tape∧w'.os=w1.os∧w'.output=w1.output∧∀ e∈(Sd a.eval o).events P w1 #[],iG w1.heap.size S own e:=by
 intro w1 g;refine⟨w1.alloc (.cells z.cells t),?_,rfl,rfl,rfl,rfl,?_⟩
 ·unfold Sd;simp[d,Instr.alloc,f,newVar,newRow]
 ·intro e c;unfold Sd at c;simp[d,Instr.alloc,f,newVar,newRow] at c
theorem ux{n:Nat}{f cs:Array RB}{e:RO}{b:Nat×Nat}(d:w1.heap[n]? =Ry (.cells f e b)):vL n (.cells cs e b) w1 (w1.setRow n cs):=by
 refine⟨?_,rfl,rfl,rfl⟩;unfold World.setRow;apply Array.ext_getElem?;intro h;simp only[TB,Ss];by_cases c:n=h
 ·subst c;have g:=(RH.1 d).1;rw[if_pos rfl,if_pos rfl,if_pos g,d];rfl
 ·simp[c]
theorem j8{t:RO}{x y:SG}{n off:Nat}{v:RB}{d:Array RB}{e:RO}(l:o.op= .store t x y)(p:a.eval x= .pointer (Ry ⟨n,off,RA⟩))(q:a.eval y=v)(D:(P.info? t).map (·.size)=Ry v.cells.size)(h1:∀ c∈v.cells.toList,c.oneCell'=RF)(z:S n∨own n)(C:w.heap[n]? =Ry (.cells d e (0,0)))(j:off+v.cells.size≤d.size):
 ∀ w1,RelB (fun b=>S b∨own b) w w1→∃ w',(Sd a.eval o).run P w1= .ok .skip w'∧vL n (.cells (d.toList.take off ++ v.cells.toList ++ d.toList.drop (off+v.cells.size)).toArray e (0,0)) w1 w'∧∀ f∈(Sd a.eval o).events P w1 #[],iG n S own f:=by
 intro w1 E;have g:w1.heap[n]? =Ry (.cells d e (0,0)):=(E.at_ n z).trans C;obtain⟨F,k,m⟩:=TY.1 D;have h:=run_storeCells_at P n off e v.cells.toList 0 d w1 g (by simpa using j) h1;have B:=events_storeCells_at (P:=P) n off e v.cells.toList 0 d w1 #[] g (by simpa using j) h1;simp only[Nat.add_zero,TL] at h;refine⟨_,?_,ux g,fun f i=>?_⟩
 ·unfold Sd;simp[l,p,q,Instr.storeAt,Ux,storeVar,VH,UE,k,m,h]
 ·have A:f∈(storeCells ⟨n,off,RA⟩ v.cells.toList 0).events P w1 #[]:=by
   unfold Sd at i;simpa [l,p,q,Instr.storeAt,Ux,storeVar,VH,UE,k,m,h] using i
  rcases B f A with s|⟨r,h1,u⟩
  ·simp at s
  ·exact .inr ⟨r,h1,.inl u⟩
theorem AY{t e:RO}{l c:SG}{d:Ur}{z:RB}{kl h:T3}{L C:Nat}(m:o.op= .makeSlice t l c)(k:a.eval l= .int kl (L:Int))(hc:a.eval c= .int h (C:Int))(n:P.underlying t=Ry (.slice e))(j:P.info? e=Ry d)(p:d.zero=Ry z)(v:L≤C)(r:C*d.bytes≤140737488355328)(u:C≤9223372036854775807):
 ∀ w1,RelB (fun b=>S b∨own b) w w1→∃ w',(Sd a.eval o).run P w1= .ok (.value (.slice (Ry ⟨w1.heap.size,0,RA⟩) L C)) w'∧w'.heap=w1.heap.push (.cells (madeCells z.cells (C*d.size)) e)∧w'.tape=w1.tape∧w'.os=w1.os∧w'.output=w1.output∧∀ e∈(Sd a.eval o).events P w1 #[],iG w1.heap.size S own e:=by
 intro w1 x;have i:(d.bytes:Int)*(C:Int)≤281474976710656:=by
  rw[← Int.natCast_mul,Vk];omega
 have g:=run_make (P:=P) w1 t e d z n j p kl h (L:Int) (C:Int) (by omega) (by omega) i (by omega);have q:=events_make (P:=P) w1 t e d z n j p kl h (L:Int) (C:Int) (by omega) (by omega) i (by omega) (by simpa using r) #[];simp only[Int.toNat_natCast] at g;refine⟨w1.alloc (.cells (madeCells z.cells (C*d.size)) e),?_,rfl,rfl,rfl,rfl,fun s f=>?_⟩
 ·unfold Sd;simp[m,k,hc,g]
 ·unfold Sd at f;simp only[m,k,hc] at f;simp[g,q] at f
theorem CR{t e:RO}{p:ChanDir}{x:SG}{m:Ur}{k:T3}{n:Nat}(h:o.op= .makeChan t x)(l:a.eval x= .int k (n:Int))(j:P.underlying t=Ry (.chan p e))(g:P.info? e=Ry m)(d:(n:Int)≤9223372036854775807)(f:(m.bytes:Int)*n≤281474976710544):
 ∀ w1,RelB (fun b=>S b∨own b) w w1→∃ w',(Sd a.eval o).run P w1= .ok (.value (.chan (Ry w1.heap.size))) w'∧w'.heap=w1.heap.push (.chan n #[] RE 0 0 RE)∧w'.tape=w1.tape∧w'.os=w1.os∧w'.output=w1.output∧∀ e∈(Sd a.eval o).events P w1 #[],iG w1.heap.size S own e:=by
 intro w1 s;have i:=run_makeChan (P:=P) (w:=w1) j g k n d f;have q:=events_makeChan (P:=P) (w:=w1) j g k n d f #[];refine⟨w1.alloc (.chan n #[] RE 0 0 RE),?_,rfl,rfl,rfl,rfl,fun r c=>?_⟩
 ·unfold Sd;simp[h,l,i]
 ·unfold Sd at c;simp only[h,l] at c;simp[i,q] at c
end
structure Knows(a:TZ)(n:Nat)(l:List (Nat×RB)):Prop where
 size:a.tmps.size=n
 slot:∀ s v,l.lookup s=Ry v→aS a s=v
theorem Dm{a:TZ}{d:Nat}(c:d<a.tmps.size)(v:RB)(s:Nat):aS (a.put (Ry d) v) s=if d=s then v else aS a s:=by
 unfold aS Tc;simp only[Se,Ss];by_cases b:d=s
 ·subst b;simp[c]
 ·simp[b]
theorem size_put(a:TZ)(d:Option Nat)(v:RB):(a.put d v).tmps.size=a.tmps.size:=by
 unfold Tc
 split<;>simp
theorem Knows.put{a:TZ}{n:Nat}{l:List (Nat×RB)}(h:Knows a n l){d:Nat}(f:d<n)(v:RB):Knows (a.put (Ry d) v) n ((d,v) :: l):=by
 refine⟨(size_put _ _ _).trans h.size,fun s g b=>?_⟩;rw[Dm (by rw[h.size];exact f)];simp only[List.lookup_cons] at b;by_cases c:d=s
 ·subst c;simp at b;simp[b]
 ·have:(s == d)=RE:=by simpa using fun e=>c e.symm
  rw[this] at b;rw[if_neg c];exact h.slot s g b
theorem Knows.none{a:TZ}{n:Nat}{l:List (Nat×RB)}(h:Knows a n l)(v:RB):Knows (a.put RA v) n l:=h
theorem Knows.of{a:TZ}{n:Nat}{l:List (Nat×RB)}(h:Knows a n l){s:Nat}{v:RB}(b:l.lookup s=Ry v):a.eval (.tmp s)=v:=h.slot s v b
section
variable {P:RM}{a:TZ}{o:Te}
theorem ay{x:SG}{v:RB}(c:o.op= .move x)(d:a.eval x=v):∀ b,(Sd a.eval o).run P b= .ok (.value v) b∧(Sd a.eval o).events P b #[]=#[]:=fun b=>by
 unfold Sd;simp[c,d]
theorem aG{x:SG}{v:RB}(c:o.op= .assign x)(d:a.eval x=v):∀ b,(Sd a.eval o).run P b= .ok (.value v) b∧(Sd a.eval o).events P b #[]=#[]:=fun b=>by
 unfold Sd;simp[c,d]
theorem K6{t:RO}{x:SG}{f d off:Nat}{e:Array Field}{c:Field}{n:Nat}(h:o.op= .fieldAddr t x f)(k:a.eval x= .pointer (Ry ⟨d,off,RA⟩))(j:P.underlying t=Ry (.struct e))(g:e[f]? =Ry c)(i:∀ w,(VH c.type).run P w= .ok (n+1) w):
 ∀ b,(Sd a.eval o).run P b= .ok (.value (.pointer (Ry ⟨d,off+c.offset,RA⟩))) b∧(Sd a.eval o).events P b #[]=#[]:=fun b=>by
 unfold Sd;simp[h,k,Instr.fieldAt,run_underlying j,g,Ux,fieldPlace,i,U2]
theorem eM{t e:RO}{x y:SG}{d off len cap n:Nat}{k:T3}{i:Nat}(g:o.op= .indexAddr t x y)(l:a.eval x= .slice (Ry ⟨d,off,RA⟩) len cap)(m:a.eval y= .int k (i:Int))(j:P.underlying t=Ry (.slice e))(h:∀ w,(VH e).run P w= .ok n w)(p:i<len):
 ∀ b,(Sd a.eval o).run P b= .ok (.value (.pointer (Ry ⟨d,off+i*n,RA⟩))) b∧(Sd a.eval o).events P b #[]=#[]:=fun b=>by
 have f:(i:Int)<(len:Int):=by omega
 unfold Sd;simp[g,l,m,Instr.indexAt,asIntOf,run_underlying j,f,h,U2];exact⟨fun c=>absurd c (by omega),fun c=>absurd c (by omega)⟩
theorem qS{t:RO}{x:SG}{base:Option Sl}{len cap:Nat}{e:RO}(c:o.op= .call {callee:=.builtin .len,args:= #[x],argTypes:= #[t]})(f:a.eval x= .slice base len cap)(d:P.underlying t=Ry (.slice e)):
 ∀ b,(Sd a.eval o).run P b= .ok (.value (.int .i64 (len:Int))) b∧(Sd a.eval o).events P b #[]=#[]:=fun b=>by
 unfold Sd;simp[c,f,Vj,invoke,builtin,Builtin.len_,run_underlying d,goInt]
theorem bT{x:SG}{i:Nat}{vs:Array RB}{v:RB}(c:o.op= .extract x i)(e:a.eval x= .tuple vs)(d:vs[i]? =Ry v):∀ b,(Sd a.eval o).run P b= .ok (.value v) b∧(Sd a.eval o).events P b #[]=#[]:=fun b=>by
 unfold Sd;simp[c,e,Instr.extract,d]
theorem Gj{x y z:SG}{c:Bool}(d:o.op= .pick x y z)(e:a.eval x= .bool c):∀ b,(Sd a.eval o).run P b= .ok (.value (if c then a.eval y else a.eval z)) b∧(Sd a.eval o).events P b #[]=#[]:=fun b=>by
 unfold Sd;simp[d,e,asBool]
theorem O5{t f:RO}{x y:SG}{i j:Int}(c:o.op= .binOp .lss t x y f)(d:a.eval x= .int .i64 i)(e:a.eval y= .int .i64 j):∀ b,(Sd a.eval o).run P b= .ok (.value (.bool (decide (i<j)))) b∧(Sd a.eval o).events P b #[]=#[]:=fun b=>by
 unfold Sd;simp[c,d,e,binOp,eqGuard,Op.intCmp]
theorem O4{t f:RO}{x y:SG}{i j:Int}(c:o.op= .binOp .eql t x y f)(d:a.eval x= .int .i64 i)(e:a.eval y= .int .i64 j):∀ b,(Sd a.eval o).run P b= .ok (.value (.bool (i == j))) b∧(Sd a.eval o).events P b #[]=#[]:=fun b=>by
 unfold Sd;simp[c,d,e,binOp,eqGuard,Op.intCmp]
theorem O6{t f:RO}{x y:SG}{i j:Int}(c:o.op= .binOp .neq t x y f)(d:a.eval x= .int .i64 i)(e:a.eval y= .int .i64 j):∀ b,(Sd a.eval o).run P b= .ok (.value (.bool (i != j))) b∧(Sd a.eval o).events P b #[]=#[]:=fun b=>by
 unfold Sd;simp[c,d,e,binOp,eqGuard,Op.intCmp]
theorem mJ{t f:RO}{x y:SG}{i j:Nat}(c:o.op= .binOp .add t x y f)(d:a.eval x= .int .i64 (i:Int))(e:a.eval y= .int .i64 (j:Int))(g:i+j≤9223372036854775807):∀ b,(Sd a.eval o).run P b= .ok (.value (.int .i64 ((i+j:Nat):Int))) b∧(Sd a.eval o).events P b #[]=#[]:=fun b=>by
 have:VQ.wrap ((i:Int)+(j:Int))=((i+j:Nat):Int):=by rw[IntKind.wrap_i64]<;>omega
 unfold Sd;simp[c,d,e,binOp,eqGuard,Op.intArith,this]
end
def below(P:RM):RU:={(default:RU) with fn:=P.funcs.size,mode:=.panicking [goexitEntry]}
section
variable {P0 P:RM}{S:Nat→Prop}{c:Nat}{own:Nat→Prop}{vs:List RB}{cs:List RU}{w:RD}{b:RU}{a:TZ}{k:List Uk}{ops:Array Te}{i:Nat}{rest:List Nat}{o:Te}
theorem Mo {f:TH} {fn:Uj} {code:UR} {args:Array RB} (e:P.funcs[f]? =Ry fn) (n:(fn.name == "runtime.NumGoroutine")=RE) (d:fn.body=Ry code) (h:ov P0 P S c own vs (RN ((baseD f).at {tmps:=args ++ SN (fn.ntmps - args.size) SP,defers:=[]} [.code code]) [below P]) w):ov P0 P S c own vs (born P (dcall f args)) w:=by
 have q:∀ w,Sq P RE (born P (dcall f args)) w= .go (RN ((baseD f).at {tmps:=args ++ SN (fn.ntmps - args.size) SP,defers:=[]} [.code code]) [below P]) w #[]:=by
  intro w;have j:¬ fn.name= "runtime.NumGoroutine" :=by simpa using n
  rw[← enter_atD args e d];simp[born,Sq,Vv,callDeferred,dcall,invoke,callFunc,e,j,d,Uh,seen_none,RN,below];rfl
 exact Jt rfl (fun g _=>q g) (fun r l=>by simp at l) (fun g p=>h.rely p)
theorem GI{ats:Array RO}{ty:RO}{co:Array Bool}{fn:Uj}{todo:List Uk}(v:b.kind= .deferred)(u:a.defers=[{target:=.builtin .close ats ty co,args:= #[.chan (Ry c)]}])(h:P.funcs[b.fn]? =Ry fn)(y:fn.results=#[])(x:fn.norace=RE):ov P0 P S c own [] (RN {b.at a todo with mode:=.returning} [below P]) w:=by
 refine Js (n:=2) (g':=RN {b.at ⟨a.tmps,[]⟩ todo with mode:=.returning} [below P]) rfl ?_ ?_ ?_
 ·refine .inr ⟨rfl,RN (below P) [],fun w=>?_,.inr ⟨rfl,{RN (below P) [] with status:=.finished},fun w=>?_,rfl⟩⟩
  ·simp[RN,Sq,Vv,Us,Frame.at,v,h,SD,y,seen,Uh,below,goexitEntry]
  ·have n:(default:RU).defers=[]:=rfl;have p:(default:RU).todo=[]:=rfl;simp[RN,Sq,Vv,below,Frame.catches,goexitEntry,n,p]
 ·simp[mayWake,RN,Frame.at]
 ·intro d _ l j s z A e;have q:(invoke (.builtin .close ats ty co) #[.chan (Ry c)]).run P d= .ok (.value (.tuple #[])) (d.setChan c l j RF s z A):=by
   simp[go_sem,run_close_open _ _ e,World.setChan]
  have r:(invoke (.builtin .close ats ty co) #[.chan (Ry c)]).events P d #[]=#[⟨.obj c,RE,RF⟩,⟨.obj c,RF,RF⟩]:=by
   simp[go_sem,events_close_open _ _ e]
  have t:seen P b.fn #[⟨.obj c,RE,RF⟩,⟨.obj c,RF,RF⟩]=#[⟨.obj c,RE,RF⟩,⟨.obj c,RF,RF⟩]:=seen_eq (by simp[h,x]) (by intro B g f;simp only[List.mem_toArray,Tq,U7,or_false] at g;rcases g with rfl|rfl<;>simp);simp[RN,Sq,Vv,callDeferred,Frame.at,u,q,r,t,Uh]
theorem Px{x y:SG}{v:RB}(j:b.kind≠.early)(e:ops[i]? =Ry o)(s:Sn o (S2 ops a.tmps)=RF)(f:o.op= .send x y)(g:a.eval x= .chan (Ry c))(h:a.eval y=v)
 (n:ov P0 P S c own vs (RN (b.at (a.put o.dst SP) (.inRegion ops rest :: k)) cs) w):ov P0 P S c own (v :: vs) (RN (b.at a (.inRegion ops (i :: rest) :: k)) cs) w:=by
 have r:TR (RN (b.at a (.inRegion ops (i :: rest) :: k)) cs) SP=RN (b.at (a.put o.dst SP) (.inRegion ops rest :: k)) cs:=by
  simp only[TR,RN,UY,e];rfl
 refine Mp (g2:=RN (b.at a (.inRegion ops (i :: rest) :: k)) cs) (z:=.tuple #[]) rfl fun d p=>⟨?_,by rw[r];exact n.rely p⟩;have q:(Sd a.eval o).run P d= .ok (.comm #[scase c v (.tuple #[])] RF .send) d:=by
  unfold Sd;simp[f,g,h,scase]
 have l:(Sd a.eval o).events P d #[]=#[]:=by
  unfold Sd;simp[f,g,h]
 rw[stepG_comm e s j q];unfold listed;rw[l,seen_none]
end
section
variable {P0 P:RM}{S:Nat→Prop}{m:Bool}{X:(Nat→Prop)→RU→List RU→RD→Prop}{own:Nat→Prop}{cs:List RU}{w:RD}{b:RU}{a:TZ}{k:List Uk}{ops:Array Te}{i:Nat}{rest:List Nat}{o:Te}
theorem ME(g:pg P0 P S m X)(h:b.kind≠.early)(e:ops[i]? =Ry o)(r:Sn o (S2 ops a.tmps)=RF){d:Builtin}{x:SG}{v:RB}{ats:Array RO}(f:o.op= .defer {callee:=.builtin d,args:= #[x],argTypes:=ats})(s:a.eval x=v)
 (n:∀ co,X own (b.at (Tc ⟨a.tmps,{target:=.builtin d ats o.type co,args:= #[v]} :: a.defers⟩ o.dst SP) (.inRegion ops rest :: k)) cs w):X own (b.at a (.inRegion ops (i :: rest) :: k)) cs w:=by
 refine jZ g (fun w=>?_) (n (#[x].map fun| .const _=>RF|_=>RE));have q:(Sd a.eval o).run P w= .ok (.defer {target:=.builtin d ats o.type (#[x].map fun| .const _=>RF|_=>RE),args:= #[v]}) w:=by
  unfold Sd;simp[f,Vj,s];cases x<;>rfl
 have j:(Sd a.eval o).events P w #[]=#[]:=by
  unfold Sd;simp[f,Vj]
 have l:(b.at ⟨a.tmps,{target:=.builtin d ats o.type (#[x].map fun| .const _=>RF|_=>RE),args:= #[v]} :: a.defers⟩ (.inRegion ops (i :: rest) :: k)).finish SP=b.at (Tc ⟨a.tmps,{target:=.builtin d ats o.type (#[x].map fun| .const _=>RF|_=>RE),args:= #[v]} :: a.defers⟩ o.dst SP) (.inRegion ops rest :: k):=by rw[UY,e];rfl
 have p:(b.kind == CallKind.early)=RE:=by simpa using h
 rw[stepG_oper e r,← l];simp[Tt,q,j,RN,Frame.at,p,Uh,seen_none]
end
def fill (a:TZ):List (Nat×RB)→TZ
 | []=>a
 |(c,v) :: l=>(fill a l).put (Ry c) v
theorem jF(a:TZ):∀ l,(fill a l).tmps.size=a.tmps.size
 | []=>rfl
 |(c,v) :: l=>(size_put _ _ _).trans (jF a l)
theorem dR(a:TZ):∀ l,(fill a l).defers=a.defers
 | []=>rfl
 |(c,v) :: l=>dR a l
theorem Knows.fill{a:TZ}{n:Nat}{l0:List (Nat×RB)}(h:Knows a n l0):∀ (l:List (Nat×RB)),(l.all fun p=>decide (p.1<n))=RF→Knows (fill a l) n (l ++ l0)
 | [],_=>h
 |(d,v) :: l,c=>by
  simp only[List.all_cons,R7,decide_eq_true_eq] at c;exact(Knows.fill h l c.2).put c.1 v
theorem kX(a:TZ)(s:Nat):∀ (l:List (Nat×RB)),(l.all fun p=>decide (p.1<a.tmps.size))=RF→aS (fill a l) s=(l.lookup s).getD (aS a s)
 | [],_=>rfl
 |(c,v) :: l,e=>by
  simp only[List.all_cons,R7,decide_eq_true_eq] at e;show aS ((fill a l).put (Ry c) v) s=_;rw[Dm (by rw[jF];exact e.1),kX a s l e.2,List.lookup_cons];by_cases d:c=s
  ·subst d;simp
  ·have:(s == c)=RE:=by simpa using fun f=>d f.symm
   rw[this,if_neg d]
def iQ (ops:Array Te)(i:Nat):Option Nat:=(ops[i]?).bind (·.dst)
def fK (ops:Array Te)(Ph:Nat→Bool)(u n:Nat)(ds:List Nat):Bool:=
 nI ops Ph && Nq ops Ph u && ds.all (fun c=>decide (c<n) && (Sw ops.size).any fun a=>Ph a && iQ ops a == Ry c) && (Sw ops.size).all fun a=> !Ph a || match iQ ops a with
  |some c=>ds.contains c
  |none=>RF
theorem qw{s:Nat}:∀ {l:List (Nat×RB)},(l.map (·.1)).contains s=RF→∃ v,l.lookup s=Ry v
 | [],a=>by simp at a
 |(c,v) :: l,a=>by
  simp only[UP,List.contains_cons,UA] at a;rw[List.lookup_cons];cases d:s == c with
  |true=>exact⟨v,rfl⟩
  |false=>
   rw[d] at a;exact qw (a.resolve_left (by simp))
theorem fX{s:Nat}{v:RB}:∀ {l:List (Nat×RB)},l.lookup s=Ry v→s∈l.map (·.1)
 | [],a=>by simp at a
 |(d,e) :: l,a=>by
  rw[List.lookup_cons] at a;cases c:s == d with
  |true=>simp at c;simp[c]
  |false=>rw[c] at a;simp[fX a]
section
variable {P0 P:RM}{S:Nat→Prop}{m:Bool}{X:(Nat→Prop)→RU→List RU→RD→Prop}{own:Nat→Prop}{cs:List RU}{w:RD}{b:RU}{a0:TZ}{k:List Uk}{ops:Array Te}{Ph Dn:Nat→Bool}{u n:Nat}{l l0:List (Nat×RB)}
theorem oO(g:fK ops Ph u n (l.map (·.1))=RF)(t:a0.tmps.size=n):nI ops Ph=RF∧Nq ops Ph u=RF∧(l.all fun p=>decide (p.1<a0.tmps.size))=RF∧(∀ i o d,Ph i=RF→ops[i]? =Ry o→o.dst=Ry d→∃ v,l.lookup d=Ry v∧d<a0.tmps.size)∧∀ s,(∀ (j:Nat) o,Ph j=RF→ops[j]? =Ry o→o.dst≠Ry s)→aS (fill a0 l) s=aS a0 s:=by
 unfold fK at g;simp only[R7] at g;obtain⟨⟨⟨y,z⟩,A⟩,B⟩:=g;have e:=Sf.1 A;have r:(l.all fun p=>decide (p.1<a0.tmps.size))=RF:=Sf.2 fun p q=>by
  have:=e p.1 (S5.2 ⟨p,q,rfl⟩);simp only[R7] at this;rw[t];exact this.1
 refine⟨y,z,r,fun i o d q a c=>?_,fun s C=>?_⟩
 ·have:=Sf.1 B i (Tg.2 (RH.1 a).1);rw[q] at this;have h:iQ ops i=o.dst:=by unfold iQ;rw[a];rfl
  rw[h,c] at this;simp only[Bool.not_true,Bool.false_or] at this;obtain⟨v,x⟩:=qw this;refine⟨v,x,?_⟩;have:=e d (fX x);simp only[R7,decide_eq_true_eq] at this;rw[t];exact this.1
 ·rw[kX a0 s l r];cases c:l.lookup s with
  |none=>rfl
  |some v=>
   exfalso
   have:=e s (fX c);simp only[R7] at this;obtain⟨i,D,f⟩:=List.any_eq_true.1 this.2;simp only[R7,beq_iff_eq,iQ] at f;obtain⟨o,a,h⟩:=Su.1 f.2;exact C i o f.1 a h
theorem jN(H:pg P0 P S m X)(J:b.kind≠.early)(q:Knows a0 n l0)(K:fK ops Ph u n (l.map (·.1))=RF)
 (R:Knows (fill a0 l) n (l ++ l0)→∀ i o,Ph i=RF→Dn i=RE→i≠u→ops[i]? =Ry o→∃ v,(o.dst.bind fun d=>l.lookup d)=Ry v∧((Sn o (S2 ops (fill a0 l).tmps)=RF∧∀ h,RelB (fun b=>S b∨own b) w h→(Sd (fill a0 l).eval o).run P h= .ok (.value v) h∧∀ e∈(Sd (fill a0 l).eval o).events P h #[],EvW S own e)∨(Sn o (S2 ops (fill a0 l).tmps)=RE∧v=SP)))
 (T:∀ o,ops[u]? =Ry o→∀ g t c a,b8 ops Ph a0 (fill a0 l) c a→u∈SI .any ops c→DL c≤g+1→(∀ s∈o.looksAt ops,aS a s=aS (fill a0 l) s)→Sn o (S2 ops a.tmps)=Sn o (S2 ops (fill a0 l).tmps)→X own (b.at a (.inRegion ops (u :: SJ .any ops g t (c.setIfInBounds u RF) []) :: k)) cs w)
 (M:(∀ i,i<ops.size→Ph i=RF)→Knows (fill a0 l) n (l ++ l0)→X own (b.at (fill a0 l) (.inRegion ops [] :: k)) cs w):
 ∀ (g t:Nat) (c:Array Bool) (a:TZ),b8 ops Ph a0 (fill a0 l) c a→(∀ i,Dn i=RF→c.getD i RE=RF)→DL c≤g→X own (b.at a (.inRegion ops (SJ .any ops g t c []) :: k)) cs w:=by
 obtain⟨j,F,z,G,p⟩:=oO (a0:=a0) K q.size;have A:=q.fill l (by rw[← q.size];exact z);refine MF H J (val:=fun i=>((iQ ops i).bind fun d=>l.lookup d).getD SP) j F (fun i o d x f C=>?_) p (fun i o x L N f=>?_) (fun g t c a r D Q=>?_) (fun I=>M I A)
 ·obtain⟨v,y,O⟩:=G i o d x f C;have e:iQ ops i=Ry d:=by unfold iQ;rw[f];exact C
  refine⟨by rw[jF];exact O,?_⟩;rw[kX a0 d l z,e];simp[y]
 ·obtain⟨v,y,E⟩:=R A i o x L N f;have e:iQ ops i=o.dst:=by unfold iQ;rw[f];rfl
  rw[e,y];exact E
 ·obtain⟨o,f,_,_,B⟩:=mem_ready D;exact T o f g t c a r D Q (r.looks j p f B) (r.exec j p f B).2
theorem b8.F5{JC:Nat→Bool}{g:Array Bool}{a:TZ}{o:Te}{l2:List (Nat×RB)}(B:b8 ops Ph a0 (fill a0 l) g a)(F:u∈SI .any ops g)(E:ops[u]? =Ry o)(e:a0.tmps.size=n)(z:fK ops Ph u n (l.map (·.1))=RF)(h:((l2 ++ l).all fun p=>decide (p.1<n))=RF)
 (y:∀ i,Ph i=RF→JC i=RF) (G:JC u=RF) (A:((Sw ops.size).all fun i=> !Ph i || match iQ ops i with|some d=> !(l2.map (·.1)).contains d|none=>RF)=RF) {v:RB} (H:∀ d,o.dst=Ry d→(l2 ++ l).lookup d=Ry v):b8 ops JC a0 (fill a0 (l2 ++ l)) (g.setIfInBounds u RF) (a.put o.dst v):=by
 obtain⟨I,J,x,K,L⟩:=oO (a0:=a0) z e;have j:((l2 ++ l).all fun p=>decide (p.1<a0.tmps.size))=RF:=by rw[e];exact h
 refine B.Q8 F E y G (by rw[jF,jF]) (by rw[dR,dR]) (fun i M d f r c=>?_) (fun d c=>?_)
 ·rw[kX a0 d _ j,kX a0 d l x];have:=Sf.1 A i (Tg.2 (RH.1 r).1);have s:iQ ops i=Ry d:=by unfold iQ;rw[r];exact c
  rw[f,s] at this;simp only[Bool.not_true,Bool.false_or,Bool.not_eq_true'] at this;have D:l2.lookup d=RA:=by
   cases t:l2.lookup d with
   |none=>rfl
   |some N=>
    have:=List.contains_iff_mem.2 (fX t);simp_all
  rw[List.lookup_append,D];rfl
 ·have q:=H d c;refine⟨?_,by rw[kX a0 d _ j,q];rfl⟩;rw[jF,e];have:=Sf.1 h;have C:=fX q;obtain⟨p,f,rfl⟩:=S5.1 C;simpa using this p f
def under(ops:Array Te):Nat→List Nat→List Nat
 |0,l=>l
 |n+1,l=>l ++ under ops n (l.flatMap fun c=>match ops[c]? with
  |some d=>(d.after.toList.filter fun a=>S4 .any a).map (·.on)
  |none=>[])
theorem r7{z:TZ}{o:Array Bool}{a:TZ}(p:b8 ops Ph a0 z o a):∀ (n:Nat) (l:List Nat),(∀ i∈l,o.getD i RE=RF)→∀ j∈under ops n l,o.getD j RE=RF
 |0,l,e,j,c=>e j c
 |n+1,l,e,j,c=>by
  rcases SM.1 c with c|c
  ·exact e j c
  ·refine r7 p n _ (fun i d=>?_) j c;obtain⟨h,r,d⟩:=List.mem_flatMap.1 d;cases g:ops[h]? with
   |none=>rw[g] at d;simp at d
   |some t=>
    rw[g] at d;obtain⟨q,f,rfl⟩:=S5.1 d;obtain⟨f,s⟩:=List.mem_filter.1 f;exact p.closed h t (e h r) g q (by simpa using f) s
theorem fM{z:TZ}{f:Array Bool}{a:TZ}(g:b8 ops Ph a0 z f a)(y:u∈SI .any ops f){j:Nat}(s:((Sw ops.size).all fun i=> !Dn i || i == u || (under ops j (match ops[u]? with
 |some o=>(o.after.toList.filter fun e=>S4 .any e).map (·.on)
 |none=>[])).contains i)=RF) (p:∀ i,Dn i=RF→i<ops.size):∀ i,Dn i=RF→(f.setIfInBounds u RF).getD i RE=RF:=by
 intro i h;obtain⟨o,x,v,_,q⟩:=mem_ready y;rw[j6 (by rw[g.size];exact v)];have:=Sf.1 s i (Tg.2 (p i h));rw[h,x] at this;simp only[Bool.not_true,Bool.false_or,UA,beq_iff_eq] at this;rcases this with c|c
 ·simp[c]
 ·rw[r7 g _ _ (fun A t=>by
   obtain⟨e,d,rfl⟩:=S5.1 t;obtain⟨d,r⟩:=List.mem_filter.1 d;exact q e (by simpa using d) r) i (List.contains_iff_mem.1 c)]
  simp
theorem pq(e:pg P0 P S m X){id:Nat}(f:P.follows .mixedOrders=RF)(h:∀ (d t:Nat) (c:Array Bool) (a:TZ),b8 ops Ph a0 (fill a0 l) c a→(∀ i,(fun _=>RE) i=RF→c.getD i RE=RF)→DL c≤d→X own (b.at a (.inRegion ops (SJ .any ops d t c []) :: k)) cs w):X own (b.at a0 (.code (.region id ops RF) :: k)) cs w:=
 OJ e f fun t=>h _ t _ _ (b8.start a0 _ (jF _ _).symm (dR _ _).symm) (fun i h=>by cases h) (Jm _)
theorem Na{a:Array Bool}(h:∀ i,i<ops.size→a.getD i RE=RF):∀ d t,SJ .any ops d t a []=[]:=by
 have o:SI .any ops a=[]:=by
  refine List.eq_nil_iff_forall_not_mem.2 fun i g=>?_;obtain⟨p,_,j,e,_⟩:=mem_ready g;have c:=h i j;simp only[Se] at c e;cases f:a[i]? with
  |none=>rw[f] at c;cases c
  |some b=>rw[f] at c e;simp at c e;rw[c] at e;cases e
 intro d t;cases d with
 |zero=>rfl
 |succ d=>
  simp only[SJ];change (match (SI .any ops a)[t % (SI .any ops a).length]? with
   |some i=>SJ .any ops d (t / (SI .any ops a).length) (a.setIfInBounds i RF) [i]
   |none=>[].reverse)=[]
  rw[o];rfl
theorem mV{c:Array Bool}{a:TZ}(e:b8 ops Ph a0 (fill a0 l) c a)(r:u∈SI .any ops c)(s:Ph u=RE)(q:a0.tmps.size=n)(h:fK ops Ph u n (l.map (·.1))=RF)(d:∀ i,i<ops.size→(c.setIfInBounds u RF).getD i RE=RF):a=fill a0 l∧∀ f t,SJ .any ops f t (c.setIfInBounds u RF) []=[]:=by
 obtain⟨v,x,y,z,g⟩:=oO (a0:=a0) h q;obtain⟨_,_,p,_,_⟩:=mem_ready r;refine⟨e.OE g s fun i j o=>?_,Na d⟩;have:=d i j;rw[j6 (by rw[e.size];exact p)] at this;simpa [o] using this
end
theorem RelB.mono{B B':Nat→Prop}{w w1:RD}(h:RelB B w w1)(c:∀ b,B' b→B b):RelB B' w w1:=⟨fun b d=>h.at_ b (c b d),h.size,h.tape,h.os,h.output⟩
section
variable {P0 P:RM}{Post:RB→RD→Prop}{S O:Nat→Prop}{μ:Nat→Option (List RB)}{cs:List RU}{w:RD}{b:RU}{a:TZ}{k:List Uk}{ops:Array Te}{i:Nat}{rest:List Nat}{o:Te}
theorem jy.rely{w1:RD}{g:So}(h:jy P0 P Post S O μ g w)(c:RelB (fun b=>S b∨O b) w w1):jy P0 P Post S O μ g w1:=by
 obtain⟨d,h⟩:=h;exact⟨d,h.jm c⟩
theorem z8(v:RB)(c:ops[i]? =Ry o):TR (RN (b.at a (.inRegion ops (i :: rest) :: k)) cs) v=RN (b.at (a.put o.dst v) (.inRegion ops rest :: k)) cs:=by
 simp only[TR,RN,UY,c];rfl
theorem Af{m:Bool}{t e:RO}{j:ChanDir}{x:SG}{c:Nat}{z:RB}(l:b.kind≠.early)(p:ops[i]? =Ry o)(r:Sn o (S2 ops a.tmps)=RF)(d:o.op= .recv t x RF)(f:P.underlying t=Ry (.chan j e))(h:∀ w,(TO e).run P w= .ok z w)(s:∀ w,(TO e).events P w #[]=#[])(g:a.eval x= .chan (Ry c))(w:RD):
 Sq P m (RN (b.at a (.inRegion ops (i :: rest) :: k)) cs) w= .comm (RN (b.at a (.inRegion ops (i :: rest) :: k)) cs) #[rcase c z] RF (.recv RF) w #[]:=by
 have q:(Sd a.eval o).run P w= .ok (.comm #[rcase c z] RF (.recv RF)) w:=by
  unfold Sd;simp[d,g,run_underlying f,h,rcase]
 have n:(Sd a.eval o).events P w #[]=#[]:=by
  unfold Sd;simp[d,g,run_underlying f,h,s]
 rw[stepG_comm p r l q];unfold listed;rw[n,seen_none]
theorem OW{t e:RO}{f:ChanDir}{x:SG}{c:Nat}{z v:RB}{l:List RB}(g:b.kind≠.early)(d:ops[i]? =Ry o)(p:Sn o (S2 ops a.tmps)=RF)(j:o.op= .recv t x RF)(n:P.underlying t=Ry (.chan f e))(r:∀ w,(TO e).run P w= .ok z w)(s:∀ w,(TO e).events P w #[]=#[])(q:a.eval x= .chan (Ry c))(u:μ c=Ry (v :: l))
 (h:jy P0 P Post S O (fy μ c (Ry l)) (RN (b.at (a.put o.dst (recvd RF v RF)) (.inRegion ops rest :: k)) cs) w):jy P0 P Post S O μ (RN (b.at a (.inRegion ops (i :: rest) :: k)) cs) w:=
 KU (g2:=RN (b.at a (.inRegion ops (i :: rest) :: k)) cs) (z:=z) u ⟨rfl,rfl,rfl⟩ fun w1 m=>⟨Af g d p j n r s q w1,by rw[z8 _ d];exact h.rely m⟩
theorem OX{t e:RO}{f:ChanDir}{x:SG}{c:Nat}{z:RB}(g:b.kind≠.early)(d:ops[i]? =Ry o)(n:Sn o (S2 ops a.tmps)=RF)(j:o.op= .recv t x RF)(m:P.underlying t=Ry (.chan f e))(q:∀ w,(TO e).run P w= .ok z w)(r:∀ w,(TO e).events P w #[]=#[])(p:a.eval x= .chan (Ry c))(s:μ c=Ry [])
 (h:jy P0 P Post S O (fy μ c RA) (RN (b.at (a.put o.dst (recvd RF z RE)) (.inRegion ops rest :: k)) cs) w):jy P0 P Post S O μ (RN (b.at a (.inRegion ops (i :: rest) :: k)) cs) w:=
 KV (g2:=RN (b.at a (.inRegion ops (i :: rest) :: k)) cs) (z:=z) s ⟨rfl,rfl,rfl⟩ fun w1 l=>⟨Af g d n j m q r p w1,by rw[z8 _ d];exact h.rely l⟩
theorem Nc{f:TH}{d:Array SG}{ats:Array RO}{args:Array RB}{c cap:Nat}{vs:List RB}(q:b.kind≠.early)(u:ops[i]? =Ry o)(x:Sn o (S2 ops a.tmps)=RF)(g:o.op= .go {callee:=.value (.func f),args:=d,argTypes:=ats})(n:d.map a.eval=args)(l:O c)(t:vs.length≤cap)(y:μ c=RA)(hc:w.heap[c]? =Ry (.chan cap #[] RE 0 0 RE))
 (m:∀ w1,RelB (fun b=>S b∨O b) w w1→ov P0 P S c (fun _=>False) vs (born P (dcall f args)) w1)
 (s:jy P0 P Post S (fun b=>O b∧b≠c) (fy μ c (Ry vs)) (RN (b.at (a.put o.dst SP) (.inRegion ops rest :: k)) cs) w):jy P0 P Post S O μ (RN (b.at a (.inRegion ops (i :: rest) :: k)) cs) w:=by
 have e:a.eval (.func f)= .func (.func f) #[] #[]:=rfl;refine Ik l t y hc fun w1 j=>⟨_,_,?_,rfl,m w1 j,s.rely (j.mono fun b p=>p.imp (fun h=>h) (fun h=>h.1))⟩;have v:(Sd a.eval o).run P w1= .ok (.spawn (dcall f args)) w1:=by
  unfold Sd;simp[g,Vj,U5,e,dcall,n]
 have r:(Sd a.eval o).events P w1 #[]=#[]:=by
  unfold Sd;simp[g,Vj,U5,e]
 rw[stepG_spawn u x q v rfl];unfold listed;rw[r,seen_none]
end
section
variable {P0 P:RM}{S own:Nat→Prop}{a:TZ}{o:Te}{w w1:RD}
theorem Ir{t e:RO}{i:Ur}{z:RB}{x y:SG}{g L C:Nat}{f:Array RB}{d:Sl}{c:Nat}{news:List RB}(B:o.op= .call {callee:=.builtin .append,args:= #[x,y],argTypes:= #[t,t]})(H:a.eval x= .slice (Ry ⟨g,0,RA⟩) L C)(I:a.eval y= .slice (Ry d) 1 c)
 (G:P.underlying t=Ry (.slice e)) (v:P.info? e=Ry i) (ab:i.zero=Ry z) (T:w.heap[g]? =Ry (.cells f e (0,0))) (U:S g∨own g) (r:S d.block∨own d.block) (p:news.length=i.size) (X:∀ j u,news[j]? =Ry u→w.cell? (d.add j)=Ry u) (M:∀ j,(d.add j).block=d.block) (h1:∀ u∈news,u.oneCell'=RF)
 (E:L+1≤C) (F:f.size=C*i.size) (ad:C≤1000000) (N:i.bytes≤1000):
 ∀ w1,RelB (fun b=>S b∨own b) w w1→∃ w',(Sd a.eval o).run P w1= .ok (.value (.slice (Ry ⟨g,0,RA⟩) (L+1) C)) w'∧vL g (.cells (f.toList.take (L*i.size) ++ news ++ f.toList.drop (L*i.size+news.length)).toArray e (0,0)) w1 w'∧∀ l∈(Sd a.eval o).events P w1 #[],iG g S own l:=by
 intro w1 D;have n:w1.heap[g]? =Ry (.cells f e (0,0)):=(D.at_ g U).trans T;have A:∀ j u,news[j]? =Ry u→w1.cell? (d.add j)=Ry u:=fun j u V=>(mT D (by rw[M];exact r)).trans (X j u V);have R:L*i.size+news.length≤f.size:=by
  rw[F,p];have:=Nat.mul_le_mul_right i.size E;rw[Nat.add_mul,Nat.one_mul] at this;exact this
 have Z:=run_append_room (P:=P) (w:=w1) t o.type e i G v g L C f n d 1 c news (by rw[p,Nat.one_mul]) A h1 E R;have ae:1000000≤R3:=by decide
 have Y:w1.ownsRow 0 e i.size (.slice (Ry ⟨g,0,RA⟩) L C) L (f.toList.take (L*i.size)):=by
  refine⟨?_,.inr ⟨g,C,f,rfl,Sk _,n,by omega,?_,F,rfl⟩⟩
  ·rw[Tb,TL];omega
  ·omega
 have Q:=events_append_where (P:=P) w1 0 t o.type e i z i.size i.bytes G v ab rfl rfl (.slice (Ry ⟨g,0,RA⟩) L C) L _ Y d 1 c news (by rw[p,Nat.one_mul]) A h1 (by omega) (by
  have:(L+1)*i.bytes≤1000000*1000:=UW (by omega) N;omega)
 refine⟨_,?_,ux n,fun l s=>?_⟩
 ·unfold Sd;simp[B,H,I,Vj,invoke,builtin,Z]
 ·rw[events_append_op x y t B H I] at s;rcases Q l s with⟨q,h1,h⟩|⟨m,rfl,W⟩
  ·rcases h with⟨h,K⟩|h
   ·refine .inr ⟨q,h1,?_⟩;rw[K];exact .inr (r.elim (fun J=>.inr ⟨J,h⟩) .inl)
   ·refine .inr ⟨q,h1,.inl ?_⟩;simpa [Tf] using h
  ·exact .inl ⟨m,rfl,W⟩
theorem Is{t e:RO}{i:Ur}{h j l v0 v1 v2:RB}{x:SG}(p:o.op= .buildSlice t 1 #[(0,x)])(s:a.eval x= .agg #[v0,v1,v2])(r:P.underlying t=Ry (.slice e))(n:P.info? e=Ry i)(u:i.zero=Ry (.agg #[h,j,l]))(c:i.size=3):
 ∀ w1,RelB (fun b=>S b∨own b) w w1→∃ w',(Sd a.eval o).run P w1= .ok (.value (.slice (Ry ⟨w1.heap.size,0,RA⟩) 1 1)) w'∧w'.heap=w1.heap.push (.cells #[v0,v1,v2] e)∧w'.tape=w1.tape∧w'.os=w1.os∧w'.output=w1.output∧∀ m∈(Sd a.eval o).events P w1 #[],iG w1.heap.size S own m:=by
 intro w1 A;have g:UZ (fun d=>Ry (d*i.size,i.size)) ((Vg (1*i.size)).map ((Value.agg #[h,j,l]).cells[· % (Value.agg #[h,j,l]).cells.size]!)) #[(0,Value.agg #[v0,v1,v2])].toList=Ry #[v0,v1,v2]:=by
  rw[c];simp[UZ,Ub,Vg,Array.zipIdx];apply Array.ext
  ·simp
  ·intro d z v;simp at v;have:d=0∨d=1∨d=2:=by omega
   rcases this with rfl|rfl|rfl<;>simp
 have q:=run_buildSlice (P:=P) w1 t e 1 #[(0,.agg #[v0,v1,v2])] #[v0,v1,v2] i _ r n u (by rw[c];decide) (by rw[c];decide) g;refine⟨w1.alloc (.cells #[v0,v1,v2] e),?_,rfl,rfl,rfl,rfl,fun m f=>?_⟩
 ·unfold Sd;simp[p,s,q]
 ·have y:(Uq t 1 #[(0,.agg #[v0,v1,v2])]).events P w1 #[]=#[]:=by
   simp only[List.toArray,Nat.one_mul,c] at g;simp[Uq,run_underlying r,VH,UE,TO,n,u,c,g,newRow]
  unfold Sd at f;simp only[p] at f;simp[s,q,y] at f
end
theorem put_defers(a:TZ)(d:Option Nat)(v:RB):(a.put d v).defers=a.defers:=by
 unfold Tc
 split<;>rfl
theorem Knows.nil{a:TZ}{n:Nat}{l:List (Nat×RB)}(h:Knows a n l):Knows a n []:=⟨h.size,fun s v c=>by simp at c⟩
theorem Knows.defer{a:TZ}{n:Nat}{l:List (Nat×RB)}(h:Knows a n l)(ds:List TS)(v:RB):Knows (Tc ⟨a.tmps,ds⟩ RA v) n l:=⟨h.size,h.slot⟩
theorem Knows.cons{a:TZ}{n:Nat}{l:List (Nat×RB)}(h:Knows a n l){s:Nat}{v:RB}(f:aS a s=v):Knows a n ((s,v) :: l):=⟨h.size,fun e g c=>by
 rw[List.lookup_cons] at c;cases d:e == s with
 |true=>
  rw[d] at c;cases c;rw[beq_iff_eq] at d;rw[d];exact f
 |false=>rw[d] at c;exact h.slot e g c⟩
theorem Knows.four{a:TZ}{n:Nat}{l:List (Nat×RB)}(h:Knows a n l){c d e f:Nat}{v1 v2 g i:RB}(h1:l.lookup c=Ry v1)(j:l.lookup d=Ry v2)(p:l.lookup e=Ry g)(q:l.lookup f=Ry i):Knows a n [(c,v1),(d,v2),(e,g),(f,i)]:=(((h.nil.cons (h.slot f _ q)).cons (h.slot e _ p)).cons (h.slot d _ j)).cons (h.slot c _ h1)
section
variable {P0 P:RM}{S:Nat→Prop}{m:Bool}{X:(Nat→Prop)→RU→List RU→RD→Prop}{own:Nat→Prop}{cs:List RU}{w:RD}{b:RU}{a:TZ}{k:List Uk}{ops:Array Te}
theorem aX(c:pg P0 P S m X){id:Nat}(l:List Nat)(e:Sw ops.size=l)(d:X own (b.at a (.inRegion ops l :: k)) cs w):X own (b.at a (.code (.region id ops RE) :: k)) cs w:=JY c (by rw[e];exact d)
end
section
variable {P:RM}{a:TZ}{o:Te}
theorem cK{t:RO}{x:SG}{f e off off':Nat}{g:Array Field}{c:Field}{n:Nat}(j:o.op= .fieldAddr t x f)(q:a.eval x= .pointer (Ry ⟨e,off,RA⟩))(p:P.underlying t=Ry (.struct g))(h:g[f]? =Ry c)(l:∀ w,(VH c.type).run P w= .ok (n+1) w)(i:off+c.offset=off'):
 ∀ d,(Sd a.eval o).run P d= .ok (.value (.pointer (Ry ⟨e,off',RA⟩))) d∧(Sd a.eval o).events P d #[]=#[]:=by
 subst i;exact K6 j q p h l
theorem xa{x y z:SG}{v:RB}(d:o.op= .pick x y z)(f:a.eval x= .bool RF)(e:a.eval y=v):∀ c,(Sd a.eval o).run P c= .ok (.value v) c∧(Sd a.eval o).events P c #[]=#[]:=by
 subst e;exact Gj d f
theorem wZ{x y z:SG}{v:RB}(d:o.op= .pick x y z)(f:a.eval x= .bool RE)(e:a.eval z=v):∀ c,(Sd a.eval o).run P c= .ok (.value v) c∧(Sd a.eval o).events P c #[]=#[]:=by
 subst e;exact Gj d f
theorem iE{t h:RO}{x y:SG}{i j:Int}{c:Bool}(e:o.op= .binOp .lss t x y h)(f:a.eval x= .int .i64 i)(g:a.eval y= .int .i64 j)(hc:decide (i<j)=c):∀ d,(Sd a.eval o).run P d= .ok (.value (.bool c)) d∧(Sd a.eval o).events P d #[]=#[]:=by
 subst hc;exact O5 e f g
theorem pH{t h:RO}{x y:SG}{i j:Int}{c:Bool}(e:o.op= .binOp .neq t x y h)(f:a.eval x= .int .i64 i)(g:a.eval y= .int .i64 j)(hc:(i != j)=c):∀ d,(Sd a.eval o).run P d= .ok (.value (.bool c)) d∧(Sd a.eval o).events P d #[]=#[]:=by
 subst hc;exact O6 e f g
end
structure JE(S O O':Nat→Prop)(w w':RD):Prop where
 sub:∀ b,O b→O' b
 new:∀ b,O' b→O b∨w.heap.size≤b
 rel:RelB (fun b=>S b∨O b) w w'
 inr:sj S O' w'
theorem jl{P:RM}{fn:Uj}{a:TZ}{t:Nat}{v:RB}(d:fn.results=#[.tmp t])(c:aS a t=v):(∀ w,(SD fn a.tmps).run P w= .ok v w)∧∀ w,(SD fn a.tmps).events P w #[]=#[]:=by
 unfold aS at c;rw[Se] at c;constructor<;>intro w<;>simp[SD,d,c]
theorem fO{P:RM}{fn:Uj}{a:TZ}{t u:Nat}{v x:RB}(e:fn.results=#[.tmp t,.tmp u])(c:aS a t=v)(d:aS a u=x):(∀ w,(SD fn a.tmps).run P w= .ok (.tuple #[v,x]) w)∧∀ w,(SD fn a.tmps).events P w #[]=#[]:=by
 unfold aS at c d;rw[Se] at c d;constructor<;>intro w<;>simp[SD,e,c,d]
section
variable {P0 P:RM}{Post:RB→RD→Prop}
theorem pF(h:Twins P0 P){fr fr':RU}{az tops' cs:List RU}{w w':RD}(ok:ei P0 fr az)(A:w'.tape=w.tape)(s:∀ ws,Mk P0 ws w→∃ d,qL ws w d w'∧∀ c,Steps P0 (lone fr (az ++ [bg]) (sh c 0 ws)) (lone fr' (tops' ++ [bg]) (sh c 0 d)))(E:¬ GN fr')
 (C:ei P0 fr' tops'→Sm w w'→sn P0 P Post (RN fr' (tops' ++ cs)) w'):sn P0 P Post (RN fr (az ++ cs)) w:=by
 obtain⟨ws,t⟩:=CH P0 w;obtain⟨d,q,s⟩:=s ws t;refine rI h (Stop:=fun f x e=>f=fr'∧x=tops'∧∃ c g,e=sh c g d) (fun f x e u=>?_) ok t.hp t.un (fun c=>⟨fr',tops',_,s c,rfl,rfl,c,0,rfl⟩) (fun f x e u2 u F r j=>?_)
 ·obtain⟨rfl,_⟩:=u;exact E
 ·obtain⟨c,g,rfl,rfl,y,l,v⟩:=u;have B:e.heap=d.heap:=show(sh c g e).heap=(sh y l d).heap by rw[v]
  have m:=NS r q B;have n:u2.os=w'.os:=by
   rw[r.un.os,q.un.os];exact show(sh c g e).os=(sh y l d).os by rw[v]
  have p:u2.output=w'.output:=by
   rw[r.un.output,q.un.output];exact show(sh c g e).output=(sh y l d).output by rw[v]
  have D:AtRel w' u2:=by
   refine⟨u2.drawn,?_⟩;have z:u2.tape=w'.tape:=j.tape.trans A.symm;obtain⟨G,H,I,J,K⟩:=u2;simp only at m n p z;subst m n p z;rfl
  exact O2 (C F ⟨A,n▸j.os,p▸j.output,m▸j.size⟩) D
def D4 (P0 P:RM)(Post:RB→RD→Prop)(l:Nat)(args:Array RB)(w:RD)(R:RB→RD→Prop):Prop:=
 ∃ c:Loop,w.heap[l]? =Ry (.loop c)∧aV P0 (.loop c)∧args.size=c.params.size∧∀ (d:RU) (cs:List RU),ei P0 d []→Oi d→vH P0 w→
  (∀ v e,R v e→vH P0 e→Sm w e→ei P0 (d.finish v) []→sn P0 P Post (RN (d.finish v) cs) e)→
  ei P0 (Up l c.fn ((c.params.zip args).foldl (fun g (f,a)=>g.setIfInBounds f a) c.tmps) c.assign c.body .normal) [d]→sn P0 P Post (RN (Up l c.fn ((c.params.zip args).foldl (fun g (f,a)=>g.setIfInBounds f a) c.tmps) c.assign c.body .normal) (d :: cs)) w
section
variable {b:RU}{a:TZ}{k:List Uk}{cs:List RU}{w:RD}{ops:Array Te}{i:Nat}{rest:List Nat}{o:Te}
theorem K4(h:Twins P0 P){x:SG}{f:Array SG}{ats:Array RO}{l:Nat}{R:RB→RD→Prop}(n:ops[i]? =Ry o)(J:Sn o (S2 ops a.tmps)=RF)(A:o.op= .call {callee:=.value x,args:=f,argTypes:=ats})(K:a.eval x= .func (.yield l) #[] #[])
 (hR:D4 P0 P Post l (f.map a.eval) w R) (u:∀ v w',R v w'→Sm w w'→D1 P0 P Post (b.at (a.put o.dst v) (.inRegion ops rest :: k)) cs w'):D1 P0 P Post (b.at a (.inRegion ops (i :: rest) :: k)) cs w:=by
 intro q M;obtain⟨c,C,D,G,y⟩:=hR;have E:∀ d,Mk P0 d w→∀ e,(Sd a.eval o).run P0 (sh e 0 d)= .ok (.round l c.fn ((c.params.zip (f.map a.eval)).foldl (fun tmps (j,a)=>tmps.setIfInBounds j a) c.tmps) c.assign c.body) (sh e 0 d):=fun d g e=>by
  have r:(sh e 0 d).heap[l]? =Ry (.loop c):=g.at_ l _ C D;have t:=run_yield (P:=P0) (args:=f.map a.eval) r G;unfold Sd;simp[A,Vj,U5,K,invoke,t]
 refine pF (az:=[]) (tops':=[b.at a (.inRegion ops (i :: rest) :: k)]) (fr':=Up l c.fn ((c.params.zip (f.map a.eval)).foldl (fun tmps (j,a)=>tmps.setIfInBounds j a) c.tmps) c.assign c.body .normal) (w':=w) h q rfl (fun d g=>⟨d,g.un.two,fun e=>.one (step_lone_go ?_)⟩) (fun z=>?_) fun L N=>?_
 ·rw[stepG_op n J];simp[Tt,E d g e]
 ·obtain⟨_,s,H⟩:=z;simp[Up] at H
 ·refine y _ cs q ⟨rfl,.inl ⟨ops,i,rest,k,rfl⟩⟩ trivial (fun v w' I B F p=>?_) L;have m:=UY b a ops i rest k v;rw[n] at m;rw[m] at p ⊢;exact u v w' I F p B
end
section
variable {b:RU}{k:List Uk}{cs:List RU}{ops:Array Te}
theorem Nl{o:Te}{i:Nat}{rest:List Nat}{a:TZ}{w:RD}{next:TZ→RD→Prop}{Q:Exit→TZ→RD→Prop}(n:ops[i]? =Ry o)(z:Sn o (S2 ops a.tmps)=RF)(x:∀ c,o.op≠.defer c)(r:∀ ch a w,¬ Q (.panic ch) a w)(y:¬ LetsOut Q)(h:o.wp P0 a w next Q):
 ∃ a' w',next a' w'∧Steps P0 (lone (b.atR a (.inRegion ops (i :: rest) :: k)) cs w) (lone (b.atR a' (.inRegion ops rest :: k)) cs w'):=by
 have e:=stepGR_op (P:=P0) (b:=b) (k:=k) (cs:=cs) (w:=w) (rest:=rest) n z;rw[Oper.semAt_eq _ _ _ x] at e;have j:∀ v,(b.atR a (.inRegion ops (i :: rest) :: k)).finish v=b.atR (a.put o.dst v) (.inRegion ops rest :: k):=by
  intro v;rw[Frame.finish_atR,n];rfl
 simp only[Oper.wp,Oper.upon] at h
 split at h
 ·rename_i v w' d;refine⟨_,_,h,.one (step_lone_go ?_)⟩;rw[e,← j];simp[Tt,d]
 ·rename_i w' d;refine⟨_,_,h,.one (step_lone_go ?_)⟩;rw[e,← j];simp[Tt,d]
 ·rename_i l w' d;refine⟨_,_,h,.one (step_lone_go ?_)⟩;have t:({b.atR a (.inRegion ops (i :: rest) :: k) with defers:=l :: a.defers}:RU).finish SP=b.atR ({a with defers:=l :: a.defers}.put o.dst SP) (.inRegion ops rest :: k):=by
   have:=Frame.finish_atR b {a with defers:=l :: a.defers} ops i rest k SP;rw[n] at this;exact this
  rw[e];simp only[Tt,Vr,d,GStep.bare_after];exact congrArg (fun q=>GStep.go {frame:=q,callers:=cs,status:=.running,dying:=RA} w') t
 ·rename_i f args w' d;obtain⟨s,B,q,g,p,_,u⟩:=h (b.atR a (.inRegion ops (i :: rest) :: k) :: cs);have m:step P0 (lone (b.atR a (.inRegion ops (i :: rest) :: k)) cs w)= .next (lone (Sz P0 f args .normal) (b.atR a (.inRegion ops (i :: rest) :: k) :: cs) w'):=
   step_lone_go (by rw[e];simp[Tt,d,Frame.atR])
  cases s with
  |returned v=>
   refine⟨_,_,g,.head m (p.trans (.one ?_))⟩;rw[← j];exact step_leave_returned u
  |panicked C=>exact absurd g (r _ _ _)
  |outgrown=>exact absurd g y
 ·rename_i A args w' d;obtain⟨v,B,g,p⟩:=h (b.atR a (.inRegion ops (i :: rest) :: k)) cs;have m:step P0 (lone (b.atR a (.inRegion ops (i :: rest) :: k)) cs w)= .next (lone (Frame.ofRow P0 A args .normal) (b.atR a (.inRegion ops (i :: rest) :: k) :: cs) w'):=
   step_lone_go (by rw[e];simp[Tt,d,Frame.atR])
  refine⟨_,_,g,.head m ?_⟩;rw[← j];exact p
 ·exact absurd h (r _ _ _)
 ·exact h.elim
def AT:Op→Bool
 | .defer _=>RF
 |_=>RE
theorem Ot{Q:Exit→TZ→RD→Prop}(rest:List Nat)(v:(ops.toList.all fun o=> !AT o.op)=RF)(x:∀ ch a w,¬ Q (.panic ch) a w)(n:¬ LetsOut Q):∀ (l:List Nat) (a:TZ) (w:RD),wpOps P0 ops Q l a w→
 ∃ a' w',Q .normal a' w'∧Steps P0 (lone (b.atR a (.inRegion ops (l ++ rest) :: k)) cs w) (lone (b.atR a' (.inRegion ops rest :: k)) cs w'):=by
 intro l
 induction l with
 |nil=>exact fun a w c=>⟨a,w,c,.refl _ _⟩
 |cons i l j=>
  intro a w c;simp only[wpOps] at c;cases d:ops[i]? with
  |none=>
   simp only[d] at c;have g:=stepR_op_skip (P:=P0) (b:=b) (a:=a) (k:=k) (cs:=cs) (w:=w) (ops:=ops) (i:=i) (rest:=l ++ rest) (by simp[d]);simp only[d,Option.bind_none,Tc] at g;obtain⟨a',w',e,f⟩:=j a w c;exact⟨a',w',e,.head g f⟩
  |some o=>
   simp only[d] at c;have t:∀ m,o.op≠.defer m:=fun m q=>by
    obtain⟨u,rfl⟩:=RH.1 d;have:=Sf.1 v _ (Array.getElem_mem_toList u);rw[q] at this;cases this
   by_cases h:Sn o (S2 ops a.tmps)=RF
   ·simp only[h,if_true] at c;rcases c with c|⟨_,c⟩
    ·obtain⟨a',w',e,f⟩:=Nl (b:=b) (k:=k) (cs:=cs) (rest:=l ++ rest) d h t x n c;obtain⟨p,y,r,s⟩:=j a' w' e;exact⟨p,y,r,f.trans s⟩
    ·exact absurd c n
   ·simp only[h,if_false,Sa] at c;have g:=stepR_op_skip (P:=P0) (b:=b) (a:=a) (k:=k) (cs:=cs) (w:=w) (ops:=ops) (i:=i) (rest:=l ++ rest) (by simp[d];simpa using h);simp only[d,U8] at g;obtain⟨a',w',e,f⟩:=j _ w c;exact⟨a',w',e,.head g f⟩
end
end
section
variable {P0 P:RM}{Post:RB→RD→Prop}{b:RU}{a:TZ}{k:List Uk}{cs:List RU}{w:RD}
def zV (fn:TH)(tmps:Array RB)(ps:Array Tmp)(assign body:UR)(D:Nat):Loop:={state:=.ready,pending:=RA,fn,tmps,params:=ps,assign,body,defers:=D}
theorem KZ(h:Twins P0 P){g:SG}{ps:Array Tmp}{assign body:UR}{gf:TH}{cap:Array RB}{R:Uw→RD→Prop}(u:a.eval g= .func (.func gf) #[] cap)(hc:∀ args w,(callFunc gf args).run P0 w= .ok (.enter gf args) w)(r:P.funcs[gf]? =P0.funcs[gf]? ∨Sz P gf (#[.func (.yield (w.heap.size+1)) #[] #[]] ++ cap) .normal=Sz P0 gf (#[.func (.yield (w.heap.size+1)) #[] #[]] ++ cap) .normal)
 (hR:kA P0 P Post gf (#[.func (.yield (w.heap.size+1)) #[] #[]] ++ cap) ((w.alloc (.deferred (Ry []))).alloc (.loop (zV b.fn a.tmps ps assign body w.heap.size))) R)
 (n:∀ v w',R (.returned v) w'→Sm w w'→D1 P0 P Post (b.at {a with defers:={target:=.collected w.heap.size,args:= #[]} :: a.defers} (.endRangeFunc (w.heap.size+1) :: k)) cs w') (x:∀ ch w',¬ R (.panicked ch) w') (y:∀ w',¬ R .outgrown w') (z:∀ s,(Sz P0 gf (#[.func (.yield (w.heap.size+1)) #[] #[]] ++ cap) .normal).todo≠[.code (.refuse s)]):D1 P0 P Post (b.at a (.code (.rangeFunc g ps assign body) :: k)) cs w:=by
 intro ok H;have t:Sz P gf (#[.func (.yield (w.heap.size+1)) #[] #[]] ++ cap) .normal=Sz P0 gf (#[.func (.yield (w.heap.size+1)) #[] #[]] ++ cap) .normal:=by
  rcases r with d|d
  ·unfold Sz;rw[d]
  ·exact d
 let j:RU:={b with roundOf:=RA};have G:∀ a todo,j.atR a todo=b.at a todo:=fun a todo=>rfl;refine pF (az:=[]) (tops':=[b.at {a with defers:={target:=.collected w.heap.size,args:= #[]} :: a.defers} (.inRangeFunc (w.heap.size+1) :: k)]) (fr':=Sz P0 gf (#[.func (.yield (w.heap.size+1)) #[] #[]] ++ cap) .normal) (w':=(w.alloc (.deferred (Ry []))).alloc (.loop (zV b.fn a.tmps ps assign body w.heap.size))) h ok rfl (fun c i=>⟨(c.alloc (.deferred (Ry []))).alloc (.loop (zV b.fn a.tmps ps assign body w.heap.size)),?_,fun m=>.one ?_⟩) (fun p=>?_) fun l D=>?_
 ·exact(i.un.push (by simp[pz])).trans ((i.un.push (by simp[pz])).un.push (by simp[pz]))
 ·rw[← i.un.size.symm];have e:=run_enterLoop_outer (P:=P0) (w:=sh m 0 c) b.fn a.tmps ps assign body;have C:=stepR_rangeFunc (P:=P0) (b:=j) (a:=a) (k:=k) (cs:=[bg]) (w:=sh m 0 c) (g:=g) (ps:=ps) (assign:=assign) (body:=body) (w₁':=_) (d:={target:=.fn (.func gf) cap,args:= #[.func (.yield (c.heap.size+1)) #[] #[]]}) (f:=gf) (args:= #[.func (.yield (c.heap.size+1)) #[] #[]] ++ cap) e (by
   have d:a.eval (.const (.func (.yield (c.heap.size+1)) #[] #[]))= .func (.yield (c.heap.size+1)) #[] #[]:=rfl;simp[Vj,rangeCall,u,U5,sh];exact⟨rfl,rfl⟩) (by simp only[invoke];exact hc _ _)
  exact C
 ·obtain⟨_,s,F⟩:=p;exact z s F
 ·have o:ei P0 (b.at {a with defers:={target:=.collected w.heap.size,args:= #[]} :: a.defers} (.inRangeFunc (w.heap.size+1) :: k)) []:=⟨l.rest _ (by simp),fun f q=>by simp at q,l.bot⟩;show sn P0 P Post (RN (Sz P0 gf _ .normal) _) _;rw[← t];refine hR _ cs o ⟨rfl,.inr ⟨_,_,rfl⟩⟩ trivial fun d w' e B E A=>?_;cases d with
  |returned v=>exact n v w' e (D.trans E) A B
  |panicked ch=>exact absurd e (x _ _)
  |outgrown=>exact absurd e (y _)
theorem CP(h:Twins P0 P){l:Nat}{r:Loop}(m:w.heap[l]? =Ry (.loop r))(o:aV P0 (.loop r))(p:r.state≠.busy)(d:r.pending=RA)(n:∀ s,k≠[.code (.refuse s)])(g:D1 P0 P Post (b.at a k) cs (w.putObj l (.loop {r with state:=.exhausted}))):D1 P0 P Post (b.at a (.endRangeFunc l :: k)) cs w:=by
 intro t B;let f:RU:={b with roundOf:=RA};refine pF (az:=[]) (tops':=[]) (fr':=b.at a k) (w':=w.putObj l (.loop {r with state:=.exhausted})) h t rfl (fun e c=>⟨e.putObj l (.loop {r with state:=.exhausted}),c.un.set l (by simp[pz]),fun v=>.one ?_⟩) (fun i=>?_) fun u C=>g u trivial
 ·have j:=run_endLoop (P:=P0) (w:=sh v 0 e) (l:=l) (r:=r) (c.at_ l _ m o) p;have:=stepR_endRangeFunc (P:=P0) (b:=f) (a:=a) (k:=k) (cs:=[bg]) j;obtain⟨F,D,A,G,E,x,y,z⟩:=r;simp only at d;subst d;exact this
 ·obtain⟨_,s,q⟩:=i;exact n s q
theorem AX(h:Twins P0 P){D:Nat}{todo:List Uk}(c:a.defers=[{target:=.collected D,args:= #[]}])(f:w.heap[D]? =Ry (.deferred (Ry [])))(g:D1 P0 P Post {b.at {a with defers:=[]} todo with mode:=.returning} cs (w.putObj D (.deferred RA))):D1 P0 P Post {b.at a todo with mode:=.returning} cs w:=by
 intro j o;refine pF (az:=[]) (tops':=[]) (fr':={b.at {a with defers:=[]} todo with mode:=.returning}) (w':=w.putObj D (.deferred RA)) h j rfl (fun e d=>⟨e.putObj D (.deferred RA),d.un.set D (by simp[pz]),fun m=>.one (step_lone_go ?_)⟩) (fun c=>?_) fun l p=>g l trivial
 ·have i:=run_takeDeferred (P:=P0) (w:=sh m 0 e) (b:=D) (ds:=[]) (d.at_ D _ f (fun n c=>by cases c));simp[Sq,Vv,Frame.at,c,i,Vr,GStep.bare_after];rfl
 ·obtain⟨d,_⟩:=c;cases d
end
end Cc
namespace Cc
open Go Go.Conc
open Go.RowKit (Below)
def Xe (P0 P:RM)(Post:RB→RD→Prop)(own:Nat→Prop)(fr:RU)(cs:List RU)(w:RD):Prop:=
 (∀ b,own b→b<w.heap.size)→∀ c,RelB own w c→vH P0 c→sn P0 P Post (RN fr cs) c
def Il:Nat→Prop:=fun _=>False
theorem Po{own:Nat→Prop}{w c:RD}(h:RelB own w c):RelB (fun b=>Il b∨own b) w c:=h.mono fun b d=>d.elim Vt (fun h=>h)
theorem EM{own:Nat→Prop}{w c:RD}(h:RelB (fun b=>Il b∨own b) w c):RelB own w c:=h.mono fun b d=>.inr d
theorem fZ(P0 P:RM)(Post:RB→RD→Prop):pg P0 P Il RF (Xe P0 P Post):=by
 refine⟨fun own y cs w c h p f n=>?_,fun own y cs w p c f h u C n=>?_⟩
 ·refine wX fun u e=>?_;obtain⟨q,rfl⟩:=e;obtain⟨F,E,g,x,v,d,D⟩:=c (p.at q) (Po (f.trans (RelB.at _ _ _)));have j:∀ b,cB own (p.at q) g b→b<g.heap.size:=fun b A=>A.elim (fun c=>RK (h b c) (R4 f.size d.size)) (fun c=>c.2);refine⟨_,g,x,v,rfl,⟨d.size,d.tape,d.os,d.output,d.hp,fun r B=>?_⟩,D j g (RelB.refl _ _) (d.hp n)⟩;have:=d.evs r B;unfold EvW at this;unfold BO;cases l:r.loc with
  |cell a=>rw[l] at this;exact this.elim (j _) (fun c=>c.1.elim)
  |obj G=>rw[l] at this;exact this.elim (j _) (fun c=>c.1.elim)
  |mark m=>rw[l] at this;exact this
  |_=>trivial
 ·have t:=EM f;refine c (fun b s=>?_) u (t.trans C) n;have z:=h b s;have e:=t.at_ b s;rw[Sv z] at e;exact(RH.1 e.symm).1
def wM (P:RM):Uk→Bool
 | .code c| .inLoop c=>aW P RE c
 | .inBlock _| .inRangeFunc _| .endRangeFunc _=>RF
 | .inRegion ops _=>ops.toList.all fun o=>lC P RE o.op
 |_=>RE
theorem ep{P:RM}{b:RU}{a:TZ}{todo:List Uk}(c:b.kind= .normal)(e:a.defers=[])(l:(todo.all (wM P))=RF):ei P (b.at a todo) []:=by
 refine⟨⟨fun i j=>?_,fun d g=>?_,.inl c⟩,fun f h=>by simp at h,c⟩
 ·have:=Sf.1 l i j;cases i<;>first|exact this|trivial|cases this
 ·have:d∈a.defers:=g;rw[e] at this;cases this
section
variable {P0 P:RM}{Post:RB→RD→Prop}{own:Nat→Prop}{cs:List RU}{w:RD}{b:RU}{a:TZ}{k:List Uk}{ops:Array Te}{i:Nat}{rest:List Nat}{o:Te}
def grown(own:Nat→Prop)(n m:Nat):Nat→Prop:=fun b=>own b∨(n≤b∧b<m)
theorem nV{f:TH}{fn:Uj}{c:UR}{args:Array SG}{ats:Array RO}{vs:Array RB}{R:RD→Uw→RD→Prop}(y:b.kind= .normal)(D:ops[i]? =Ry o)(J:Sn o (S2 ops a.tmps)=RF)(E:o.op= .call {callee:=.value (.func f),args,argTypes:=ats})(u:args.map a.eval=vs)
 (A:P.funcs[f]? =Ry fn) (B:(fn.name == "runtime.NumGoroutine")=RE) (x:fn.body=Ry c) (H:ei P0 (b.at a (.inRegion ops (i :: rest) :: k)) []) (hR:∀ d,RelB own w d→kA P0 P Post f vs d (R d))
 (t:∀ d v w',RelB own w d→R d (.returned v) w'→Sm d w'→vH P0 w'→sn P0 P Post (RN (b.at (a.put o.dst v) (.inRegion ops rest :: k)) cs) w') (hP:∀ d ch w',¬ R d (.panicked ch) w') (C:∀ d w',¬ R d .outgrown w'):Xe P0 P Post own (b.at a (.inRegion ops (i :: rest) :: k)) cs w:=by
 intro K d m F;have:=Nj (P0:=P0) (P:=P) (Post:=Post) (b:=b) (a:=a) (k:=k) (cs:=cs) (w:=d) (R:=fun h w'=>∃ e,R (d.at e) h w') y D J E A B x (fun M l=>by
  obtain⟨e,rfl⟩:=l;rw[u];intro n p q l r s;exact hR _ (m.trans (RelB.at _ _ _)) n p q l r fun h w' z=>s h w' ⟨e,z⟩) (fun v w' ⟨e,I⟩ g L G=>t (d.at e) v w' (m.trans (RelB.at _ _ _)) I ⟨g.tape,g.os,g.output,g.size⟩ G) (fun ch w' ⟨e,j⟩=>absurd j (hP _ _ _)) (fun w' ⟨e,j⟩=>C _ _ j)
 exact this H F
theorem BL(h:Twins P0 P){f:TH}{fn:Uj}{c:UR}{args:Array SG}{ats:Array RO}{vs:Array RB}{R:RD→Uw→RD→Prop}(K:b.kind= .normal)(r:ops[i]? =Ry o)(W:Sn o (S2 ops a.tmps)=RF)(Q:o.op= .call {callee:=.value (.func f),args,argTypes:=ats})(J:args.map a.eval=vs)
 (M:P.funcs[f]? =Ry fn) (O:(fn.name == "runtime.NumGoroutine")=RE) (y:fn.body=Ry c) (N:P.funcs[f]? =P0.funcs[f]?) (T:ei P0 (b.at a (.inRegion ops (i :: rest) :: k)) [])
 (hR:∀ d,(∀ b o,own b→w.heap[b]? =Ry o→aV P0 o→d.heap[b]? =Ry o)→w.heap.size≤d.heap.size→Sc P0 f vs d fun e W'=>Below d.heap.size d W'∧∃ v,e= .returned v∧R d (.returned v) W')
 (H:∀ v w' d W',(∀ b o,own b→w.heap[b]? =Ry o→aV P0 o→d.heap[b]? =Ry o)→w.heap.size≤d.heap.size→Below d.heap.size d W'→R d (.returned v) W'→Un W' w'→RelB own w w'→Xe P0 P Post (grown own d.heap.size w'.heap.size) (b.at (a.put o.dst v) (.inRegion ops rest :: k)) cs w'):Xe P0 P Post own (b.at a (.inRegion ops (i :: rest) :: k)) cs w:=by
 intro z;refine nV (P0:=P0) (R:=fun p e X=>∃ n,Mk P0 n p∧Tl n p (fun e W'=>∃ d,d.heap=n.heap∧Below d.heap.size d W'∧∃ v,e= .returned v∧R d (.returned v) W') e X) K r W Q J M O y T (fun p g=>?_) (fun p v w' g V A S=>?_) (fun p Y w' ⟨_,_,_,_,_,_,d,_,_,v,e,_⟩=>by cases e) (fun p w' ⟨_,_,_,_,_,_,d,_,_,v,e,_⟩=>by cases e) z
 ·obtain⟨n,m⟩:=CH P0 p;intro C D q j F G;exact oB h m.hp m.un N (fun w' ⟨d,_,_,v,e,_⟩=>by cases e) (fun s=>(hR (sh s 0 n) (fun b o y r u=>m.at_ b o ((g.at_ b y).trans r) u) (by show w.heap.size≤n.heap.size;rw[← m.un.size];exact g.size)).mono fun e W' ⟨q,j⟩=>⟨sh s 0 n,rfl,q,j⟩) C D q j F fun e w' L=>G e w' ⟨n,m,L⟩
 obtain⟨n,m,s,E,W',j,d,x,t,Z,e,I⟩:=V;cases e;have U:d.heap.size≤w'.heap.size:=by rw[j.un.size];exact t.size
 have B:d.heap.size=p.heap.size:=by rw[x,m.un.size]
 have hrel:RelB own w w':=⟨fun b l=>by
  have q:W'.heap[b]? =d.heap[b]? :=t.block b (by rw[B];exact RK (z b l) g.size);exact(j.same m.un (by rw[q,x])).trans (g.at_ b l),R4 g.size (by rw[← B];exact U),A.tape.trans g.tape,A.os.trans g.os,A.output.trans g.output⟩
 refine H v w' d (sh s E W') (fun b o l r u=>by rw[x];exact m.at_ b o ((g.at_ b l).trans r) u) (by rw[B];exact g.size) t I ⟨j.un.size,j.un.at_,j.un.os,j.un.output⟩ hrel (fun b l=>?_) w' (RelB.refl _ _) S;rcases l with l|l
 ·exact RK (z b l) hrel.size
 ·exact l.2
theorem N3(h:Twins P0 P){x:SG}{d:Array SG}{ats:Array RO}{vs:Array RB}{l:Nat}{R:RD→RB→RD→Prop}(j:ops[i]? =Ry o)(t:Sn o (S2 ops a.tmps)=RF)(m:o.op= .call {callee:=.value x,args:=d,argTypes:=ats})(u:a.eval x= .func (.yield l) #[] #[])(g:d.map a.eval=vs)(r:ei P0 (b.at a (.inRegion ops (i :: rest) :: k)) [])
 (hR:∀ c,RelB own w c→D4 P0 P Post l vs c (R c)) (f:∀ c v w',RelB own w c→R c v w'→Sm c w'→vH P0 w'→sn P0 P Post (RN (b.at (a.put o.dst v) (.inRegion ops rest :: k)) cs) w'):Xe P0 P Post own (b.at a (.inRegion ops (i :: rest) :: k)) cs w:=by
 intro y c e n;exact K4 h j t m u (by rw[g];exact hR c e) (fun v w' s q _ p=>f c v w' e s q p) r n
theorem Xe.go{fr:RU}(h:Xe P0 P Post own fr cs w)(c:∀ b,own b→b<w.heap.size)(d:vH P0 w):sn P0 P Post (RN fr cs) w:=h c w (RelB.refl _ _) d
end
section
variable {P:RM}{a:TZ}{o:Te}
theorem wY{t:RO}{x:SG}{c:Bool}(e:o.op= .unOp .not t x)(f:a.eval x= .bool c):∀ d,(Sd a.eval o).run P d= .ok (.value (.bool (!c))) d∧(Sd a.eval o).events P d #[]=#[]:=fun d=>by
 unfold Sd;simp[e,f,Op.unary]
end
theorem nU{o:Te}{ops:Array Te}{z:TZ}{j d:Nat}{want b:Bool}(g:o.guard=Ry (j,want))(e:iQ ops j=Ry d)(c:aS z d= .bool b)(f:d<z.tmps.size):Sn o (S2 ops z.tmps)=(b == want):=by
 unfold Sn S2;rw[g];unfold iQ at e;unfold aS at c;rw[Se,Sv f] at c;simp only[e,U8,Sv f];simp only[Uu] at c;rw[c];cases b<;>cases want<;>rfl
theorem Knows.want{a:TZ}{n:Nat}{l:List (Nat×RB)}(c:Knows a n l){o:Te}{ops:Array Te}{j d:Nat}{want b:Bool}(f:o.guard=Ry (j,want))(e:iQ ops j=Ry d)(h:l.lookup d=Ry (.bool b))(g:d<n):Sn o (S2 ops a.tmps)=(b == want):=nU f e (c.slot d _ h) (by rw[c.size];exact g)
end Cc
namespace Cc
open Go
section
variable {P P':RM}
theorem jU(a:P'.toTables=P.toTables)(t:RO):P'.info? t=P.info? t:=by rw[a]
theorem iM(a:P'.toTables=P.toTables)(t:RO):P'.underlying t=P.underlying t:=by unfold Program.underlying;simp only[jU a]
theorem jq(a:P'.toTables=P.toTables)(t:RO):P'.cellsOf t=P.cellsOf t:=by unfold Program.cellsOf;simp only[jU a]
theorem ku(a:P'.toTables=P.toTables)(t:RO):P'.bytesOf t=P.bytesOf t:=by unfold Program.bytesOf;simp only[jU a]
theorem kw(a:P'.toTables=P.toTables):P'.depth=P.depth:=by unfold Program.depth;rw[a]
theorem rZ(a:P'.toTables=P.toTables)(t:RO):P'.underlyingId t=P.underlyingId t:=by unfold Program.underlyingId;simp only[jU a]
theorem q7(a:P'.toTables=P.toTables)(d:Nat):∀ t o,byteOfCell P' d t o=byteOfCell P d t o:=by
 induction d with
 |zero=>intro t o;rfl
 |succ d b=>intro t o;simp only[byteOfCell,iM a,jq a,ku a,b]
theorem ze(a:P'.toTables=P.toTables)(d:Nat):∀ t o,cellOfByte P' d t o=cellOfByte P d t o:=by
 induction d with
 |zero=>intro t o;rfl
 |succ d b=>intro t o;simp only[cellOfByte,iM a,jq a,ku a,b]
theorem Jk(a:P'.toTables=P.toTables)(d:Nat)(e:RO)(c o:Nat)(b:Int):cellAtBytes P' d e c o b=cellAtBytes P d e c o b:=by
 simp only[cellAtBytes,jq a,ku a,q7 a,ze a]
theorem uH(a:P'.toTables=P.toTables)(d:Nat):∀ t u,P'.alikeButTags d t u=P.alikeButTags d t u:=by
 induction d with
 |zero=>intro t u;rfl
 |succ d b=>intro t u;simp only[Program.alikeButTags,iM a,rZ a,jU a,b]
theorem FH(a:P'.toTables=P.toTables)(t:RO):P'.stoodInAs t=P.stoodInAs t:=by
 simp only[Program.stoodInAs,Program.ownRow,iM a,rZ a,jU a,uH a,kw a,a]
theorem rY(a:P'.toTables=P.toTables)(t:RO):P'.stoodInHeld t=P.stoodInHeld t:=by
 simp only[Program.stoodInHeld,FH a,jU a]
theorem Jl(a:P'.toTables=P.toTables)(t:RO):P'.packed t=P.packed t:=by
 simp only[Program.packed,Program.packedAs,Program.ownRow,iM a,rZ a,jU a,uH a,kw a,a]
theorem L8(a:P'.toTables=P.toTables)(d:Nat):∀ t,P'.holdsPacked d t=P.holdsPacked d t:=by
 induction d with
 |zero=>intro t;rfl
 |succ d b=>intro t;simp only[Program.holdsPacked,Jl a,iM a,b]
theorem L7(a:P'.toTables=P.toTables)(d:Nat):∀ t,P'.eqGuardType d t=P.eqGuardType d t:=by
 induction d with
 |zero=>intro t;rfl
 |succ d b=>intro t;simp only[Program.eqGuardType,iM a,b]
theorem Ma(a:P'.toTables=P.toTables)(d:Nat):∀ t u,sameLayout P' d t u=sameLayout P d t u:=by
 induction d with
 |zero=>intro t u;rfl
 |succ d b=>intro t u;simp only[sameLayout,iM a,rZ a,rY a,b]
theorem L9(a:P'.toTables=P.toTables)(f:RO→Bool)(d:Nat):∀ e c o n,rowAt P' f d e c o n=rowAt P f d e c o n:=by
 induction d with
 |zero=>intro e c o n;rfl
 |succ d b=>intro e c o n;simp only[rowAt,iM a,jq a,rY a,b]
theorem NP(a:P'.toTables=P.toTables)(d:Nat):∀ e c o u n,liesAt P' d e c o u n=liesAt P d e c o u n:=by
 induction d with
 |zero=>intro e c o u n;rfl
 |succ d b=>intro e c o u n;simp only[liesAt,iM a,kw a,L9 a,Ma a,b]
theorem BD(a:P'.toTables=P.toTables)(d:Nat):∀ t o,plainCell P' d t o=plainCell P d t o:=by
 induction d with
 |zero=>intro t o;rfl
 |succ d b=>intro t o;simp only[plainCell,iM a,jq a,b]
theorem FG(a:P'.toTables=P.toTables)(d:Nat):∀ t b,cellHolding P' d t b=cellHolding P d t b:=by
 induction d with
 |zero=>intro t b;rfl
 |succ d c=>intro t b;simp only[cellHolding,iM a,jq a,ku a,c]
theorem Mb(a:P'.toTables=P.toTables)(d:Nat):∀ t,tight P' d t=tight P d t:=by
 induction d with
 |zero=>intro t;rfl
 |succ d b=>intro t;simp only[tight,iM a,ku a,b]
theorem BE(a:P'.toTables=P.toTables)(c:Array RB)(e:RO)(f:Nat):∀ x s,seenCells P' c e f x s=seenCells P c e f x s:=by
 induction f with
 |zero=>intro x s;rfl
 |succ f b=>intro x s;simp only[seenCells,FG a,kw a,jq a,ku a,b]
theorem GA(b:P'.toTables=P.toTables){w u:RD}{a:Sl}(h:∀ c e f,w.heap[a.block]? =Ry (.cells c e f)↔u.heap[a.block]? =Ry (.cells c e f))(t:RO)(k:Sl)(m:Bool):u.seen P' a t k m=w.seen P a t k m:=by
 have j:(∃ c e f,w.heap[a.block]? =Ry (.cells c e f)∧u.heap[a.block]? =Ry (.cells c e f))∨((∀ c e f,w.heap[a.block]? ≠Ry (.cells c e f))∧∀ c e f,u.heap[a.block]? ≠Ry (.cells c e f)):=by
  by_cases d:∃ c e f,w.heap[a.block]? =Ry (.cells c e f)
  ·obtain⟨c,e,f,d⟩:=d;exact .inl ⟨c,e,f,d,(h c e f).1 d⟩
  ·exact .inr ⟨fun c e f l=>d ⟨c,e,f,l⟩,fun c e f l=>d ⟨c,e,f,(h c e f).2 l⟩⟩
 unfold World.seen;simp only[BD b,q7 b,jq b,ku b,kw b,BE b];rcases j with⟨c,e,f,g,i⟩|⟨g,i⟩
 ·rw[g,i]
 ·cases j:w.heap[a.block]? with
  |none=>cases n:u.heap[a.block]? with
   |none=>rfl
   |some o=>cases o<;>first|exact absurd n (i _ _ _)|rfl
  |some p=>cases n:u.heap[a.block]? with
   |none=>cases p<;>first|exact absurd j (g _ _ _)|rfl
   |some o=>cases p<;>first|exact absurd j (g _ _ _)|(cases o<;>first|exact absurd n (i _ _ _)|rfl)
theorem Gr{P:RM}{w:RD}{a:Sl}{t:RO}{k:Sl}{m:Bool}{r:_}(h:w.seen P a t k m= .ok r):a.block<w.heap.size:=by
 rcases Ts a.block w.heap.size with b|b
 ·exact b
 ·have c:w.heap[a.block]? =RA:=SZ b;unfold World.seen at h;rw[c] at h;simp only[bind,Except.bind,throw,throwThe,VW,pure,Except.pure] at h
  repeat' first|(cases h;done)|split at h
theorem Mf(q:P'.toTables=P.toTables):Views P P':=by
 refine⟨fun c k b j p m a=>?_,fun c b j p m v s a y w=>?_,fun c k b j p v m a=>?_⟩
 ·unfold World.viewLoad;rw[GA q a]
 ·unfold World.viewLoad at a;cases h:c.seen P b j p m with
  |error e=>rw[h] at a;cases a
  |ok C=>
   have u:=Gr h;rw[h] at a;simp only[bind,Except.bind,throw,throwThe,VW,pure,Except.pure] at a
   split at a
   ·cases a;obtain⟨e,_,rfl⟩:=S5.1 w;exact u
   ·cases a
 ·unfold World.viewStore;rw[GA q a,Mb q,kw q];cases G:tight P P.depth j with
  |false=>exact .inl ⟨_,rfl,rfl⟩
  |true=>
   cases h:c.seen P b j p m with
   |error e=>exact .inl ⟨e,rfl,rfl⟩
   |ok C=>
    have u:=Gr h;obtain⟨t,d,f,first,i,z⟩:=C;cases F:v.bytes? with
    |none=>exact .inl ⟨_,rfl,rfl⟩
    |some bytes=>
     by_cases r:Ry bytes.length≠i.bytes?.map (·.length)
     ·refine .inl ⟨ "memory seen as another type: a value of another size",?_,?_⟩
      ·show(if Ry bytes.length≠i.bytes?.map (·.length) then _ else _)=_;rw[if_pos r];rfl
      ·show(if Ry bytes.length≠i.bytes?.map (·.length) then _ else _)=_;rw[if_pos r];rfl
     ·have E:∀ (l n:Except String (RD×List Sl)) (o:Except String (Array RB)),l=o.bind (fun g=>.ok ({c with heap:=c.heap.setIfInBounds b.block (.cells g d f)},z.map fun x=>({block:=b.block,off:=x.1}:Sl)))→n=o.bind (fun g=>.ok ({k with heap:=k.heap.setIfInBounds b.block (.cells g d f)},z.map fun x=>({block:=b.block,off:=x.1}:Sl)))→
       (∃ D,l= .error D∧n= .error D)∨∃ t d f s,l= .ok ({c with heap:=c.heap.setIfInBounds b.block (.cells t d f)},s)∧n= .ok ({k with heap:=k.heap.setIfInBounds b.block (.cells t d f)},s)∧∀ y∈s,y.block<c.heap.size:=by
       intro l n o A B;cases o with
       |error e=>exact .inl ⟨e,A,B⟩
       |ok g=>
        refine .inr ⟨g,d,f,_,A,B,fun y w=>?_⟩;obtain⟨e,_,rfl⟩:=S5.1 w;exact u
      apply E
      ·show(if Ry bytes.length≠i.bytes?.map (·.length) then _ else _)=_;rw[if_neg r];rfl
      ·show(if Ry bytes.length≠i.bytes?.map (·.length) then _ else _)=_;rw[if_neg r];rfl
theorem NQ(a:P'.toTables=P.toTables)(d:∀ f:Nat,P'.funcs[f]? =P.funcs[f]? ∨∃ fn c:Uj,P.funcs[f]? =Ry fn∧P'.funcs[f]? =Ry c∧c.name=fn.name∧fn.body.isNone=RE∧c.body.isNone=RE):Twin P P':=
 ⟨jU a,iM a,by rw[a],jq a,ku a,kw a,fun b=>NP a b,fun b=>Jk a b,fun b=>q7 a b,fun b=>L7 a b,rY a,fun b=>L8 a b,by rw[a],by rw[a],by rw[a],d⟩
end
end Cc
end Go.Proofs.YtjidbonhhpkljaaGreat
namespace Go.Proofs
def aa.cut (fn:Uj):Uj:={fn with body:=Ry (.refuse "")}
def aa.of(P:RM):RM:={P with funcs:=((P.funcs.modify 78 aa.cut).modify 116 aa.cut).modify 117 aa.cut}
theorem aa.tables(P:RM):P.toTables=(aa.of P).toTables:=rfl
namespace YtjidbonhhpkljaaGreat.Cc
open Go
theorem Ql(P:RM)(f:Nat):(aa.of P).funcs[f]? =if f=78∨f=116∨f=117 then(P.funcs[f]?).map aa.cut else P.funcs[f]? :=by
 show(((P.funcs.modify 78 aa.cut).modify 116 aa.cut).modify 117 aa.cut)[f]? =_;simp only[TB];by_cases b:f=78
 ·subst b;simp
 ·by_cases c:f=116
  ·subst c;simp
  ·by_cases d:f=117
   ·subst d;simp
   ·simp only[b,c,d,or_self,if_false];rw[if_neg (fun a=>d a.symm),if_neg (fun a=>c a.symm),if_neg (fun a=>b a.symm)]
theorem Gm(f:Nat):(aa.of Rz).funcs[f]? =if f=78∨f=116∨f=117 then(Rz.funcs[f]?).map aa.cut else Rz.funcs[f]? :=Ql _ f
theorem jJ{f:Nat}(h1:(f == 78)=RE)(b:(f == 116)=RE)(c:(f == 117)=RE):(aa.of Rz).funcs[f]? =Rz.funcs[f]? :=by
 rw[Gm,if_neg];simp at h1 b c;rintro(a|a|a)
 ·exact h1 a
 ·exact b a
 ·exact c a
theorem nC(f:Nat):Rz.funcs[f]? =(aa.of Rz).funcs[f]? ∨∃ fn:Uj,fn.body.isNone=RE∧Rz.funcs[f]? =Ry fn∧(aa.of Rz).funcs[f]? =Ry (aa.cut fn):=by
 rw[Gm];by_cases a:f=78∨f=116∨f=117
 ·rw[if_pos a]
  right
  rcases a with rfl|rfl|rfl
  ·exact⟨_,rfl,Tryz.func78,by rw[Tryz.func78];rfl⟩
  ·exact⟨_,rfl,Tryz.func116,by rw[Tryz.func116];rfl⟩
  ·exact⟨_,rfl,Tryz.func117,by rw[Tryz.func117];rfl⟩
 ·rw[if_neg a];exact .inl rfl
theorem Lf:Twin (aa.of Rz) Rz:=NQ (aa.tables _) fun f=>by
 rcases nC f with a|⟨b,c,d,e⟩
 ·exact .inl a
 ·exact .inr ⟨_,b,e,d,rfl,rfl,c⟩
theorem iO{P:RM}{p:Uj→Bool}(h:P.funcs.toList.all p=RF){f:Nat}{fn:Uj}(a:P.funcs[f]? =Ry fn):p fn=RF:=by
 obtain⟨b,rfl⟩:=RH.1 a;exact Sf.1 h _ (by simp)
theorem sg:(Rz.funcs.toList.all fun fn=> !(fn.name == "runtime.NumGoroutine"))=RF:=by kernel_rfl
theorem PN:(Rz.funcs.toList.all fun fn=> !fn.body.isNone || (Extern.findNext fn).isNone)=RF:=by kernel_rfl
theorem Pe:((aa.of Rz).funcs.toList.all fun fn=>match fn.body with|some c=>aW (aa.of Rz) RE c|none=>RF)=RF:=by kernel_rfl
end YtjidbonhhpkljaaGreat.Cc
end Go.Proofs
namespace Go.Proofs.YtjidbonhhpkljaaGreat
namespace Cc
open Go
section
variable {P P':RM}{O:UQ→Prop}
theorem rT(a:Twin P P')(b:Plain O)(v:RB):St P P' O (VU v):=by
 unfold VU;refine bX ?_ ?_
 ·have:∀ v,handleType P' v=handleType P v:=fun v=>by unfold handleType;rw[a.wD]
  rw[this]
 ·((try dsimp only);repeat' first|exact bD a _|exact au _|exact qY a _|assumption|(refine af ?_ (fun _=>?_))|intro _|split|(dsimp only)|exact trivial)
theorem Bw(a:Twin P P')(b:Plain O)(i:Ur):St P P' O (VV i):=by
 unfold VV
 ((try dsimp only);repeat' first|exact bD a _|assumption|(refine af ?_ (fun _=>?_))|intro _|split|(dsimp only)|exact trivial)
theorem yc(b:Twin P P')(a:Plain O)(args:Array RB):St P P' O (VD args):=by
 unfold VD VZ
 ((try dsimp only);repeat' first|exact bE b a _|exact rU _ _|(refine aT _ ?_;rfl)|exact oX _|exact mZ b a _|exact rT b a _|exact Bw b a _|assumption|(refine af ?_ (fun _=>?_))|(refine bI ?_ ?_)|intro _|split|(dsimp only)|exact trivial)
theorem O8{o:Option String}{a:String→T1 RB}{b:Unit→T1 RB}(h1:∀ f,St P P' O (a f))(c:St P P' O (b ())):St P P' O (V1 (fun _=>T1 RB) o a b):=by
 cases o with
 |none=>exact c
 |some f=>exact h1 f
theorem Fl(args:Array RB):St P P' O (V9 args):=by
 have a:∀ s:String,St P P' O (stuck s:T1 RB):=fun s=>au s;obtain⟨c⟩:=args;rcases c with _|⟨v,_|⟨o,c⟩⟩
 case cons.nil=>
  cases v with
  |agg b=>
   obtain⟨d⟩:=b;rcases d with _|⟨e,_|⟨g,_|⟨h,_|⟨i,_|⟨k,d⟩⟩⟩⟩⟩
   case cons.cons.cons.cons.nil=>
    cases e with
    |int l b=>
     cases g with
     |int m p=>
      cases h with
      |bool s=>
       cases i with
       |int n j=>
        refine O8 (o:=(if (s && decide (b<0))=RF then V3 else V5)[j.toNat]?) (fun f=>?_) ?_
        ·exact trivial
        ·exact a _
       |_=>exact a _
      |_=>exact a _
     |_=>exact a _
    |_=>exact a _
   all_goals exact a _
  |_=>exact a _
 all_goals exact a _
theorem FA(c:Twin P P')(b:Plain O)(args:Array RB):St P P' O (VB args):=by
 have a:∀ s:String,St P P' O (stuck s:T1 RB):=fun s=>au s;unfold VB VZ;obtain⟨d⟩:=args;rcases d with _|⟨v,_|⟨j,d⟩⟩
 case cons.nil=>
  cases v with
  |agg f=>
   obtain⟨e⟩:=f;rcases e with _|⟨g,_|⟨h,e⟩⟩
   case cons.nil=>
    refine af (rT c b _) fun i=>?_
    split
    ·exact trivial
    ·exact bE c b _
   all_goals exact a _
  |_=>exact a _
 all_goals exact a _
theorem Dt(a:Sl)(n:Nat)(b:ByteArray):St P P' O (V0 a n b):=by
 induction n generalizing a b with
 |zero=>exact trivial
 |succ n c=>
  unfold V0;refine af (rU _ _) fun v=>?_
  split
  ·exact c _ _
  ·exact au _
theorem xT(v:RB):St P P' O (V2 v):=by
 unfold V2
 split<;>first|exact trivial|exact Dt _ _ _|exact au _
theorem Dq(args:Array RB):St P P' O (US args):=by
 have b:∀ s:String,St P P' O (stuck s:T1 RB):=fun s=>au s;unfold US;obtain⟨a⟩:=args;rcases a with _|⟨c,_|⟨d,_|⟨e,a⟩⟩⟩
 case cons.cons.nil=>exact af (xT _) fun _=>af (xT _) fun _=>trivial
 all_goals exact b _
theorem dD(b:Twin P P')(a:Plain O):∀ r∈SK,∀ args,St P P' O (r.2 args):=by
 intro r c args;simp only[SK,Tq,U7,or_false] at c;rcases c with rfl|rfl|rfl|rfl|rfl|rfl|rfl|rfl|rfl|rfl|rfl|rfl|rfl|rfl|rfl
 all_goals first
  |exact Fl _
  |exact yc b a _
  |exact FA b a _
  |exact trivial
  |exact af (oX _) fun _=>trivial
  |exact af (xR _) fun _=>af (oX _) fun _=>trivial
  |exact af (xR _) fun _=>af (ki _) fun _=>trivial
theorem Fw(a:11<VA.length)(args:Array RB):St P P' O ((VA[11]'a).2 args):=af (ki (args.getD 0 (.tuple #[]))) fun _=>trivial
theorem fj{fn:Uj}{n:String}{e:Array RB→T1 RB}(c:fn.name=n)(h1:(Extern.allGenericRows.lookup n).isNone=RF)(a:(Extern.allTypedRows.lookup n).isNone=RF)(b:Extern.allRows.lookup n=Ry e):VP fn=Ry e:=by
 unfold VP;dsimp only;rw[c,TF.1 h1,TF.1 a,b];rfl
theorem sU{fn:Uj}{n m:String}(d:fn.name=n)(c:fn.origin=m)(h1:(Extern.allGenericRows.lookup n).isNone=RF)(a:(Extern.allTypedRows.lookup n).isNone=RF)(b:(Extern.allRows.lookup n).isNone=RF)(e:(Extern.allGenericRows.lookup m).isNone=RF)(f:(Extern.allTypedRows.lookup m).isNone=RF)(g:(Extern.allRows.lookup m).isNone=RF):VP fn=RA:=by
 unfold VP;dsimp only;rw[d,c,TF.1 h1,TF.1 a,TF.1 b,TF.1 e,TF.1 f,TF.1 g];rfl
end
theorem FR:(Rz.funcs.toList.all fun fn=> !fn.body.isNone || (([Tryz.f0.name,Tryz.f1.name,Tryz.f168.name,Tryz.f179.name,Tryz.f180.name,Tryz.f181.name,Tryz.f182.name,Tryz.f183.name,Tryz.f184.name,Tryz.f185.name,Tryz.f186.name,Tryz.f187.name,Tryz.f188.name,Tryz.f189.name,Tryz.f190.name,Tryz.f191.name,Tryz.f192.name,Tryz.f193.name,Tryz.f194.name]:List String).contains fn.name && fn.origin == Tryz.f0.origin))=RF:=by kernel_rfl
theorem PJ{fn:Uj}(a:(([Tryz.f0.name,Tryz.f1.name,Tryz.f168.name,Tryz.f179.name,Tryz.f180.name,Tryz.f181.name,Tryz.f182.name,Tryz.f183.name,Tryz.f184.name,Tryz.f185.name,Tryz.f186.name,Tryz.f187.name,Tryz.f188.name,Tryz.f189.name,Tryz.f190.name,Tryz.f191.name,Tryz.f192.name,Tryz.f193.name,Tryz.f194.name]:List String).contains fn.name)=RF)(f:fn.origin=Tryz.f0.origin){e:Array RB→T1 RB}(b:VP fn=Ry e)(args:Array RB):St (aa.of Rz) Rz (aV (aa.of Rz)) (e args):=by
 have d:=Lf;have c:=dS (aa.of Rz);simp only[List.contains_cons,List.contains_nil,Bool.or_false,UA,beq_iff_eq] at a;rcases a with a|a|a|a|a|a|a|a|a|a|a|a|a|a|a|a|a|a|a
 ·rw[sU a f (by kernel_rfl) (by kernel_rfl) (by kernel_rfl) (by kernel_rfl) (by kernel_rfl) (by kernel_rfl)] at b;cases b
 ·rw[sU a f (by kernel_rfl) (by kernel_rfl) (by kernel_rfl) (by kernel_rfl) (by kernel_rfl) (by kernel_rfl)] at b;cases b
 ·rw[fj (e:=US) a (by kernel_rfl) (by kernel_rfl) (by kernel_rfl)] at b;cases b;exact Dq _
 ·rw[fj (e:=(SK[4]'(by decide)).2) a (by kernel_rfl) (by kernel_rfl) (by kernel_rfl)] at b;cases b;exact dD d c _ (RV _) _
 ·rw[fj (e:=(SK[11]'(by decide)).2) a (by kernel_rfl) (by kernel_rfl) (by kernel_rfl)] at b;cases b;exact dD d c _ (RV _) _
 ·rw[fj (e:=(SK[0]'(by decide)).2) a (by kernel_rfl) (by kernel_rfl) (by kernel_rfl)] at b;cases b;exact dD d c _ (RV _) _
 ·rw[fj (e:=(SK[8]'(by decide)).2) a (by kernel_rfl) (by kernel_rfl) (by kernel_rfl)] at b;cases b;exact dD d c _ (RV _) _
 ·rw[fj (e:=(SK[1]'(by decide)).2) a (by kernel_rfl) (by kernel_rfl) (by kernel_rfl)] at b;cases b;exact dD d c _ (RV _) _
 ·rw[fj (e:=(SK[9]'(by decide)).2) a (by kernel_rfl) (by kernel_rfl) (by kernel_rfl)] at b;cases b;exact dD d c _ (RV _) _
 ·rw[fj (e:=(SK[2]'(by decide)).2) a (by kernel_rfl) (by kernel_rfl) (by kernel_rfl)] at b;cases b;exact dD d c _ (RV _) _
 ·rw[fj (e:=(SK[10]'(by decide)).2) a (by kernel_rfl) (by kernel_rfl) (by kernel_rfl)] at b;cases b;exact dD d c _ (RV _) _
 ·rw[fj (e:=(SK[5]'(by decide)).2) a (by kernel_rfl) (by kernel_rfl) (by kernel_rfl)] at b;cases b;exact dD d c _ (RV _) _
 ·rw[fj (e:=(SK[12]'(by decide)).2) a (by kernel_rfl) (by kernel_rfl) (by kernel_rfl)] at b;cases b;exact dD d c _ (RV _) _
 ·rw[fj (e:=(SK[6]'(by decide)).2) a (by kernel_rfl) (by kernel_rfl) (by kernel_rfl)] at b;cases b;exact dD d c _ (RV _) _
 ·rw[fj (e:=(SK[13]'(by decide)).2) a (by kernel_rfl) (by kernel_rfl) (by kernel_rfl)] at b;cases b;exact dD d c _ (RV _) _
 ·rw[sU a f (by kernel_rfl) (by kernel_rfl) (by kernel_rfl) (by kernel_rfl) (by kernel_rfl) (by kernel_rfl)] at b;cases b
 ·rw[fj (e:=(SK[7]'(by decide)).2) a (by kernel_rfl) (by kernel_rfl) (by kernel_rfl)] at b;cases b;exact dD d c _ (RV _) _
 ·rw[fj (e:=(SK[14]'(by decide)).2) a (by kernel_rfl) (by kernel_rfl) (by kernel_rfl)] at b;cases b;exact dD d c _ (RV _) _
 ·rw[fj (e:=(VA[11]'(by decide)).2) a (by kernel_rfl) (by kernel_rfl) (by kernel_rfl)] at b;cases b;exact Fw _ _
theorem Le{f:Nat}{fn:Uj}(a:(aa.of Rz).funcs[f]? =Ry fn)(d:fn.body.isNone=RF):Rz.funcs[f]? =Ry fn:=by
 rcases nC f with b|⟨e,_,_,c⟩
 ·rw[b];exact a
 ·rw[c] at a;cases a;cases d
theorem Qm:Ext (aa.of Rz) Rz:=by
 refine⟨fun f c a=>?_,fun f c a b=>?_,fun f c j a b i args=>?_⟩
 ·rcases nC f with e|⟨d,_,g,h⟩
  ·have:=iO sg (e.trans a);simpa using this
  ·rw[h] at a;cases a;have:=iO sg g;show(d.name == _)=RE;simpa using this
 ·have:=iO PN (Le a b);rw[b] at this;simpa using this
 ·have:=iO FR (Le a b);rw[b] at this;simp only[Bool.not_true,Bool.false_or,R7,beq_iff_eq] at this;exact PJ this.1 this.2 i args
theorem Nt:nX (aa.of Rz) Rz:=by
 refine⟨Lf,Qm,fun f=>?_,rfl,fun f=>?_,fun f i h g e=>?_,Mf (aa.tables _)⟩
 ·rcases nC f with a|⟨d,_,c,b⟩
  ·rw[a]
  ·rw[c,b];rfl
 ·rcases nC f with a|⟨d,_,c,b⟩
  ·exact .inl a
  ·exact .inr ⟨_,_,b,rfl⟩
 ·have:=iO Pe g;rw[e] at this;exact this
theorem dY:Twins (aa.of Rz) Rz:=by
 refine⟨Nt,fun f=>?_⟩;rcases nC f with b|⟨j,_,a,c⟩
 ·exact⟨by rw[b],fun g h i a=>by rw[b,i] at a;cases a;rfl⟩
 ·refine⟨by rw[a,c];simp,fun g h d e=>?_⟩;rw[c] at d;rw[a] at e;cases d;cases e;rfl
end Cc
end Go.Proofs.YtjidbonhhpkljaaGreat
namespace Go.Proofs
namespace aa
theorem so(P:RM)(t:RO):(aa.of P).underlying t=P.underlying t:=YtjidbonhhpkljaaGreat.Cc.iM (aa.tables P).symm t
theorem bn{f:Nat}{x:Option Uj}(h:Rz.funcs[f]? =x)(h1:(f == 78)=RE)(a:(f == 116)=RE)(b:(f == 117)=RE):(aa.of Rz).funcs[f]? =x:=(YtjidbonhhpkljaaGreat.Cc.jJ h1 a b).trans h
theorem info(P:RM)(t:RO):(aa.of P).info? t=P.info? t:=YtjidbonhhpkljaaGreat.Cc.jU (aa.tables P).symm t
@[simp,go_sem] theorem uw (P:RM) (t:RO) (w:RD):T0 (aa.of P) (UE t) w=T0 P (UE t) w:=by
 unfold UE program;simp only[bind,Sem.bind,T0,info];generalize P.info? t=a;cases a<;>rfl
@[simp,go_sem] theorem Pp (P:RM) (t:RO) (w:RD):T0 (aa.of P) (UK t) w=T0 P (UK t) w:=by
 unfold UK program;simp only[bind,Sem.bind,T0,so];generalize P.underlying t=a;cases a<;>rfl
theorem zeroOf (P:RM) (x:Option RB) (w:RD):T0 (aa.of P) (match x with|some v=>pure v|none=>unsupported (.resourceLimit "a value of more than 2^22 cells")) w=T0 P (match x with|some v=>pure v|none=>unsupported (.resourceLimit "a value of more than 2^22 cells")) w:=by
 cases x with
 |some v=>exact(Sem.run_pure _ _ _).trans (Sem.run_pure _ _ _).symm
 |none=>exact Eq.refl (Result.halt _ w)
@[simp,go_sem] theorem QG (P:RM) (t:RO) (w:RD):T0 (aa.of P) (TO t) w=T0 P (TO t) w:=by
 unfold TO;rw[Ue,Ue,uw];generalize T0 P (UE t) w=d;cases d with
 |ok c a=>exact zeroOf P c.zero a
 |halt b a=>exact Eq.refl (Result.halt b a)
@[simp,go_sem] theorem QF (P:RM) (t:RO) (w:RD):T0 (aa.of P) (VH t) w=T0 P (VH t) w:=by
 unfold VH;rw[Ue,Ue,uw];cases T0 P (UE t) w with
 |ok c a=>rfl
 |halt b a=>rfl
theorem M7(P:RM)(d:TypeDesc)(w:RD):T0 (aa.of P) (match d with| .struct _| .array _ _=>pure RF|_=>pure RE) w=T0 P (match d with| .struct _| .array _ _=>pure RF|_=>pure RE) w:=by
 cases d<;>exact(Sem.run_pure _ _ _).trans (Sem.run_pure _ _ _).symm
@[simp,go_sem] theorem Qq (P:RM) (t:RO) (w:RD):T0 (aa.of P) (isAgg t) w=T0 P (isAgg t) w:=by
 unfold isAgg;rw[Ue,Ue,Pp];generalize T0 P (UK t) w=d;cases d with
 |ok c a=>exact M7 P c a
 |halt b a=>exact Eq.refl (Result.halt b a)
@[simp,go_sem] theorem QC (P:RM) (d:Nat) (t:RO):(aa.of P).eqGuardType d t=P.eqGuardType d t:=YtjidbonhhpkljaaGreat.Cc.L7 (aa.tables P).symm d t
@[simp,go_sem] theorem depth (P:RM):(aa.of P).depth=P.depth:=YtjidbonhhpkljaaGreat.Cc.kw (aa.tables P).symm
@[simp,go_sem] theorem Gz (P:RM) (t:RO):(aa.of P).stoodInHeld t=P.stoodInHeld t:=YtjidbonhhpkljaaGreat.Cc.rY (aa.tables P).symm t
theorem Lu {P:RM} {f:Nat} {fn:Uj} (h:P.funcs[f]? =Ry fn) (b:(fn.name == "runtime.NumGoroutine")=RE) (a:fn.body.isNone=RE) (args:Array RB) (w:RD):T0 P (callFunc f args) w= .ok (.enter f args) w:=by
 unfold callFunc program;simp only[bind,pure,Sem.bind,T0,h,b,a,Sa,if_false]
theorem aB{f:Nat}{fn:Uj}(h:(aa.of Rz).funcs[f]? =Ry fn)(e:fn.body.isNone=RE)(args:Array RB)(w:RD):T0 (aa.of Rz) (callFunc f args) w= .ok (.enter f args) w:=by
 refine Lu h ?_ e args w;rcases YtjidbonhhpkljaaGreat.Cc.nC f with a|⟨b,g,c,d⟩
 ·rw[← a] at h;simpa using YtjidbonhhpkljaaGreat.Cc.iO YtjidbonhhpkljaaGreat.Cc.sg h
 ·rw[d] at h;cases h;exact(by simpa using YtjidbonhhpkljaaGreat.Cc.iO YtjidbonhhpkljaaGreat.Cc.sg c:(b.name == "runtime.NumGoroutine")=RE)
def func8:=bn Tryz.func8 rfl rfl rfl
def func9:=bn Tryz.func9 rfl rfl rfl
def func20:=bn Tryz.func20 rfl rfl rfl
def func29:=bn Tryz.func29 rfl rfl rfl
def func31:=bn Tryz.func31 rfl rfl rfl
def func32:=bn Tryz.func32 rfl rfl rfl
def func36:=bn Tryz.func36 rfl rfl rfl
def func40:=bn Tryz.func40 rfl rfl rfl
def func41:=bn Tryz.func41 rfl rfl rfl
def func42:=bn Tryz.func42 rfl rfl rfl
def func43:=bn Tryz.func43 rfl rfl rfl
def func44:=bn Tryz.func44 rfl rfl rfl
def func45:=bn Tryz.func45 rfl rfl rfl
def func48:=bn Tryz.func48 rfl rfl rfl
def func53:=bn Tryz.func53 rfl rfl rfl
def func55:=bn Tryz.func55 rfl rfl rfl
def func56:=bn Tryz.func56 rfl rfl rfl
def func57:=bn Tryz.func57 rfl rfl rfl
def func58:=bn Tryz.func58 rfl rfl rfl
def func59:=bn Tryz.func59 rfl rfl rfl
def func60:=bn Tryz.func60 rfl rfl rfl
def func61:=bn Tryz.func61 rfl rfl rfl
def func62:=bn Tryz.func62 rfl rfl rfl
def func63:=bn Tryz.func63 rfl rfl rfl
def func64:=bn Tryz.func64 rfl rfl rfl
def func65:=bn Tryz.func65 rfl rfl rfl
def func66:=bn Tryz.func66 rfl rfl rfl
def func68:=bn Tryz.func68 rfl rfl rfl
def func69:=bn Tryz.func69 rfl rfl rfl
def func70:=bn Tryz.func70 rfl rfl rfl
def func71:=bn Tryz.func71 rfl rfl rfl
def func76:=bn Tryz.func76 rfl rfl rfl
def func77:=bn Tryz.func77 rfl rfl rfl
def func80:=bn Tryz.func80 rfl rfl rfl
def func81:=bn Tryz.func81 rfl rfl rfl
def func82:=bn Tryz.func82 rfl rfl rfl
def func83:=bn Tryz.func83 rfl rfl rfl
def func84:=bn Tryz.func84 rfl rfl rfl
def func85:=bn Tryz.func85 rfl rfl rfl
def func86:=bn Tryz.func86 rfl rfl rfl
def func87:=bn Tryz.func87 rfl rfl rfl
def func88:=bn Tryz.func88 rfl rfl rfl
def func89:=bn Tryz.func89 rfl rfl rfl
def func90:=bn Tryz.func90 rfl rfl rfl
def func91:=bn Tryz.func91 rfl rfl rfl
def func92:=bn Tryz.func92 rfl rfl rfl
def func93:=bn Tryz.func93 rfl rfl rfl
def func94:=bn Tryz.func94 rfl rfl rfl
def func95:=bn Tryz.func95 rfl rfl rfl
def func96:=bn Tryz.func96 rfl rfl rfl
def func97:=bn Tryz.func97 rfl rfl rfl
def func98:=bn Tryz.func98 rfl rfl rfl
def func106:=bn Tryz.func106 rfl rfl rfl
def func107:=bn Tryz.func107 rfl rfl rfl
def func110:=bn Tryz.func110 rfl rfl rfl
def func114:=bn Tryz.func114 rfl rfl rfl
def func115:=bn Tryz.func115 rfl rfl rfl
def func118:=bn Tryz.func118 rfl rfl rfl
def func119:=bn Tryz.func119 rfl rfl rfl
def func120:=bn Tryz.func120 rfl rfl rfl
def func121:=bn Tryz.func121 rfl rfl rfl
def func122:=bn Tryz.func122 rfl rfl rfl
def func123:=bn Tryz.func123 rfl rfl rfl
def func124:=bn Tryz.func124 rfl rfl rfl
def func125:=bn Tryz.func125 rfl rfl rfl
def func126:=bn Tryz.func126 rfl rfl rfl
def func127:=bn Tryz.func127 rfl rfl rfl
def func128:=bn Tryz.func128 rfl rfl rfl
def func129:=bn Tryz.func129 rfl rfl rfl
def func130:=bn Tryz.func130 rfl rfl rfl
def func131:=bn Tryz.func131 rfl rfl rfl
def func133:=bn Tryz.func133 rfl rfl rfl
def func135:=bn Tryz.func135 rfl rfl rfl
def func139:=bn Tryz.func139 rfl rfl rfl
def func140:=bn Tryz.func140 rfl rfl rfl
def func141:=bn Tryz.func141 rfl rfl rfl
def func142:=bn Tryz.func142 rfl rfl rfl
def func143:=bn Tryz.func143 rfl rfl rfl
def func144:=bn Tryz.func144 rfl rfl rfl
def func145:=bn Tryz.func145 rfl rfl rfl
def func146:=bn Tryz.func146 rfl rfl rfl
def func147:=bn Tryz.func147 rfl rfl rfl
def func148:=bn Tryz.func148 rfl rfl rfl
def func149:=bn Tryz.func149 rfl rfl rfl
def func150:=bn Tryz.func150 rfl rfl rfl
def func151:=bn Tryz.func151 rfl rfl rfl
def func152:=bn Tryz.func152 rfl rfl rfl
def func153:=bn Tryz.func153 rfl rfl rfl
def func154:=bn Tryz.func154 rfl rfl rfl
def func155:=bn Tryz.func155 rfl rfl rfl
def func156:=bn Tryz.func156 rfl rfl rfl
def func157:=bn Tryz.func157 rfl rfl rfl
def func158:=bn Tryz.func158 rfl rfl rfl
def func159:=bn Tryz.func159 rfl rfl rfl
def func160:=bn Tryz.func160 rfl rfl rfl
def func161:=bn Tryz.func161 rfl rfl rfl
def func162:=bn Tryz.func162 rfl rfl rfl
def func163:=bn Tryz.func163 rfl rfl rfl
def func164:=bn Tryz.func164 rfl rfl rfl
def func165:=bn Tryz.func165 rfl rfl rfl
def func166:=bn Tryz.func166 rfl rfl rfl
def func167:=bn Tryz.func167 rfl rfl rfl
def func168:=bn Tryz.func168 rfl rfl rfl
def func169:=bn Tryz.func169 rfl rfl rfl
def func170:=bn Tryz.func170 rfl rfl rfl
def func171:=bn Tryz.func171 rfl rfl rfl
def func172:=bn Tryz.func172 rfl rfl rfl
def func173:=bn Tryz.func173 rfl rfl rfl
def func175:=bn Tryz.func175 rfl rfl rfl
def func176:=bn Tryz.func176 rfl rfl rfl
def func177:=bn Tryz.func177 rfl rfl rfl
def func178:=bn Tryz.func178 rfl rfl rfl
@[simp,go_sem] def call20:=aB func20 rfl
@[simp,go_sem] def call29:=aB func29 rfl
@[simp,go_sem] def call40:=aB func40 rfl
@[simp,go_sem] def call41:=aB func41 rfl
@[simp,go_sem] def call42:=aB func42 rfl
@[simp,go_sem] def call43:=aB func43 rfl
@[simp,go_sem] def call44:=aB func44 rfl
@[simp,go_sem] def call45:=aB func45 rfl
@[simp,go_sem] def call48:=aB func48 rfl
@[simp,go_sem] def call53:=aB func53 rfl
@[simp,go_sem] def call55:=aB func55 rfl
@[simp,go_sem] def call56:=aB func56 rfl
@[simp,go_sem] def call57:=aB func57 rfl
@[simp,go_sem] def call58:=aB func58 rfl
@[simp,go_sem] def call59:=aB func59 rfl
@[simp,go_sem] def call60:=aB func60 rfl
@[simp,go_sem] def call61:=aB func61 rfl
@[simp,go_sem] def call62:=aB func62 rfl
@[simp,go_sem] def call63:=aB func63 rfl
@[simp,go_sem] def call64:=aB func64 rfl
@[simp,go_sem] def call65:=aB func65 rfl
@[simp,go_sem] def call66:=aB func66 rfl
@[simp,go_sem] def call68:=aB func68 rfl
@[simp,go_sem] def call69:=aB func69 rfl
@[simp,go_sem] def call70:=aB func70 rfl
@[simp,go_sem] def call71:=aB func71 rfl
@[simp,go_sem] def call80:=aB func80 rfl
@[simp,go_sem] def call81:=aB func81 rfl
@[simp,go_sem] def call82:=aB func82 rfl
@[simp,go_sem] def call83:=aB func83 rfl
@[simp,go_sem] def call84:=aB func84 rfl
@[simp,go_sem] def call85:=aB func85 rfl
@[simp,go_sem] def call86:=aB func86 rfl
@[simp,go_sem] def call87:=aB func87 rfl
@[simp,go_sem] def call88:=aB func88 rfl
@[simp,go_sem] def call89:=aB func89 rfl
@[simp,go_sem] def call90:=aB func90 rfl
@[simp,go_sem] def call91:=aB func91 rfl
@[simp,go_sem] def call92:=aB func92 rfl
@[simp,go_sem] def call93:=aB func93 rfl
@[simp,go_sem] def call94:=aB func94 rfl
@[simp,go_sem] def call95:=aB func95 rfl
@[simp,go_sem] def call96:=aB func96 rfl
@[simp,go_sem] def call97:=aB func97 rfl
@[simp,go_sem] def call98:=aB func98 rfl
@[simp,go_sem] def call106:=aB func106 rfl
@[simp,go_sem] def call107:=aB func107 rfl
@[simp,go_sem] def call114:=aB func114 rfl
@[simp,go_sem] def call115:=aB func115 rfl
@[simp,go_sem] def call120:=aB func120 rfl
@[simp,go_sem] def call121:=aB func121 rfl
@[simp,go_sem] def call122:=aB func122 rfl
@[simp,go_sem] def call123:=aB func123 rfl
@[simp,go_sem] def call124:=aB func124 rfl
@[simp,go_sem] def call125:=aB func125 rfl
@[simp,go_sem] def call126:=aB func126 rfl
@[simp,go_sem] def call127:=aB func127 rfl
@[simp,go_sem] def call128:=aB func128 rfl
@[simp,go_sem] def call129:=aB func129 rfl
@[simp,go_sem] def call130:=aB func130 rfl
@[simp,go_sem] def call131:=aB func131 rfl
@[simp,go_sem] def call135:=aB func135 rfl
@[simp,go_sem] def call140:=aB func140 rfl
@[simp,go_sem] def call141:=aB func141 rfl
@[simp,go_sem] def call142:=aB func142 rfl
@[simp,go_sem] def call143:=aB func143 rfl
@[simp,go_sem] def call144:=aB func144 rfl
@[simp,go_sem] def call145:=aB func145 rfl
@[simp,go_sem] def call146:=aB func146 rfl
@[simp,go_sem] def call147:=aB func147 rfl
@[simp,go_sem] def call148:=aB func148 rfl
@[simp,go_sem] def call149:=aB func149 rfl
@[simp,go_sem] def call150:=aB func150 rfl
@[simp,go_sem] def call151:=aB func151 rfl
@[simp,go_sem] def call152:=aB func152 rfl
@[simp,go_sem] def call153:=aB func153 rfl
@[simp,go_sem] def call154:=aB func154 rfl
@[simp,go_sem] def call155:=aB func155 rfl
@[simp,go_sem] def call156:=aB func156 rfl
@[simp,go_sem] def call157:=aB func157 rfl
@[simp,go_sem] def call158:=aB func158 rfl
@[simp,go_sem] def call159:=aB func159 rfl
@[simp,go_sem] def call160:=aB func160 rfl
@[simp,go_sem] def call161:=aB func161 rfl
@[simp,go_sem] def call162:=aB func162 rfl
@[simp,go_sem] def call163:=aB func163 rfl
@[simp,go_sem] def call164:=aB func164 rfl
@[simp,go_sem] def call165:=aB func165 rfl
@[simp,go_sem] def call166:=aB func166 rfl
@[simp,go_sem] def call167:=aB func167 rfl
@[simp,go_sem] def call169:=aB func169 rfl
@[simp,go_sem] def call170:=aB func170 rfl
@[simp,go_sem] def call171:=aB func171 rfl
@[simp,go_sem] def call172:=aB func172 rfl
@[simp,go_sem] def call173:=aB func173 rfl
@[simp,go_sem] def call175:=aB func175 rfl
@[simp,go_sem] def call176:=aB func176 rfl
@[simp,go_sem] def call177:=aB func177 rfl
@[simp,go_sem] def call178:=aB func178 rfl
@[simp,go_sem] def underlying2:=(so _ _).trans Tryz.underlying2
@[simp,go_sem] def underlying3:=(so _ _).trans Tryz.underlying3
@[simp,go_sem] def underlying4:=(so _ _).trans Tryz.underlying4
@[simp,go_sem] def underlying5:=(so _ _).trans Tryz.underlying5
@[simp,go_sem] def underlying9:=(so _ _).trans Tryz.underlying9
@[simp,go_sem] def underlying20:=(so _ _).trans Tryz.underlying20
@[simp,go_sem] def underlying22:=(so _ _).trans Tryz.underlying22
@[simp,go_sem] def underlying23:=(so _ _).trans Tryz.underlying23
@[simp,go_sem] def underlying26:=(so _ _).trans Tryz.underlying26
@[simp,go_sem] def underlying43:=(so _ _).trans UX
@[simp,go_sem] def underlying44:=(so _ _).trans Tryz.underlying44
@[simp,go_sem] def underlying59:=(so _ _).trans Tryz.underlying59
@[simp,go_sem] def underlying103:=(so _ _).trans Tryz.underlying103
@[simp,go_sem] def underlying133:=(so _ _).trans Tryz.underlying133
@[simp,go_sem] def underlying137:=(so _ _).trans Tryz.underlying137
@[simp,go_sem] def underlying141:=(so _ _).trans Tryz.underlying141
@[simp,go_sem] def underlying160:=(so _ _).trans Ua
@[simp,go_sem] def underlying170:=(so _ _).trans Tryz.underlying170
@[simp,go_sem] def underlying176:=(so _ _).trans Tryz.underlying176
@[simp,go_sem] def underlying205:=(so _ _).trans Tryz.underlying205
@[simp,go_sem] def underlying206:=(so _ _).trans Tryz.underlying206
@[simp,go_sem] def underlying229:=(so _ _).trans Tryz.underlying229
end aa
end Go.Proofs
namespace Go.Proofs.YtjidbonhhpkljaaGreat
namespace Pk
open Go.RowKit
theorem Gp{k:T3}{a b:Int}(h:a=b):Ending.returned (.int k a)= .returned (.int k b):=by rw[h]
def pw (n:Nat):Int:=((2 ^ n:Nat):Int)
theorem A6(n:Nat):0<pw n:=by
 have:0<2 ^ n:=Nat.pow_pos (by omega);unfold pw;omega
theorem Qk(n m:Nat)(h:n≤m):pw n≤pw m:=by
 have:=Tu (show 0<2 by omega) h;unfold pw;omega
theorem Ns(n:Nat):pw (n+1)=2*pw n:=by
 unfold pw;rw[Uf];omega
theorem Gl(n:Nat)(h:n≤16):pw n≤65536:=Qk n 16 h
theorem Iy(n:Nat)(j:n≤16)(w:RD):
 Sc (aa.of Rz) 135 #[.int .i64 n] w fun e w'=>e= .returned (.int .i64 (pw n))∧w'=w:=by
 go_enter aa.func135,Tryz.ntmps135;go_wp2
 go_loop [3,4] (fun d b=>∃ a:Nat,a≤n∧b= .int .i64 a∧d= .int .i64 (pw a)) (fun _ b=>n - (SC b).toNat)
 case atStart=>exact⟨0,Sk _,rfl,rfl⟩
 case round=>
  obtain⟨a,h,rfl,rfl⟩:=hrel;have f:=A6 a;have g:=Gl a (by omega);by_cases i:a<n
  ·go_wp2
   go_round
   case rel=>exact⟨a+1,by omega,by go_num,by rw[Ns]⟩
   case measure=>simp[SC];omega
  ·have c:a=n:=by omega
   subst c;go_wp2;go_ret;exact⟨rfl,rfl⟩
def Em (n:Int):Int:=if n<0∨100<n then 6 else 0
theorem oC(n:Int)(w:RD):
 Sc (aa.of Rz) 141 #[.int .i64 n] w fun e w'=>e= .returned (.int .i64 (Em n))∧w'=w:=by
 by_cases a:n<0
 ·go_enter aa.func141,Tryz.ntmps141;go_wp2
  all_goals go_ret
  all_goals exact⟨Gp (by simp[Em,a]),rfl⟩
 ·by_cases b:100<n
  all_goals
   go_enter aa.func141,Tryz.ntmps141;go_wp2
   all_goals go_ret
   all_goals exact⟨Gp (by simp[Em,a,b]),rfl⟩
end Pk
namespace Pm
def V:List Nat→Nat
 | []=>0
 |b :: a=>b+256*V a
def N (w:Nat):List Nat→Nat
 | []=>0
 |x :: a=>x+2 ^ w*N w a
theorem B0(a b:List Nat):V (a ++ b)=V a+256 ^ a.length*V b:=by
 induction a with
 |nil=>simp[V]
 |cons e d c=>simp only[TP,V,c,TA,Uf];rw[Nat.mul_add,Vk (256 ^ d.length) 256,Nat.mul_assoc,SL]
theorem QO(a:List Nat)(h:∀ x∈a,x<256):V a<256 ^ a.length:=by
 induction a with
 |nil=>simp[V]
 |cons x g c=>
  have e:=h x (by simp);have f:=c (fun d b=>h d (by simp[b]));simp only[V,TA,Uf];omega
theorem P6(a b:List Nat)(g:∀ x∈a,x<256)(i:∀ x∈b,x<256)(c:a.length=b.length)(h:V a=V b):a=b:=by
 induction a generalizing b with
 |nil=>cases b with
  |nil=>rfl
  |cons e s=>simp at c
 |cons x m l=>cases b with
  |nil=>simp at c
  |cons e s=>
   simp only[V] at h;have n:=g x (by simp);have o:=i e (by simp);have j:x=e:=by omega
   have k:V m=V s:=by omega
   rw[j,l s (fun f d=>g f (by simp[d])) (fun f d=>i f (by simp[d])) (by simpa using c) k]
theorem OD(a:List Nat)(n:Nat)(h:∀ x∈a,x<256):V (a.take n)=V a % 256 ^ n:=by
 induction a generalizing n with
 |nil=>simp[V]
 |cons b c g=>
  cases n with
  |zero=>simp[V,Nat.mod_one]
  |succ d=>
   have j:=h b (by simp);have e:=g d (fun i f=>h i (by simp[f]));simp only[List.take_succ_cons,V,e,Uf];rw[Vk (256 ^ d) 256,Nat.mod_mul,show(b+256*V c) % 256=b by omega,show(b+256*V c) / 256=V c by omega]
theorem P5(a:List Nat)(j:Nat)(h:∀ x∈a,x<256):(a[j]?.getD 0)=V a / 256 ^ j % 256:=by
 induction a generalizing j with
 |nil=>simp[V]
 |cons d c g=>
  have k:=h d (by simp);cases j with
  |zero=>simp[V];omega
  |succ b=>
   have e:=g b (fun i f=>h i (by simp[f]));simp only[List.getElem?_cons_succ,e,V,Uf];rw[Vk (256 ^ b) 256,← Nat.div_div_eq_div_mul,show(d+256*V c) / 256=V c by omega]
theorem JG(w:Nat)(l:List Nat)(x:Nat):N w (l ++ [x])=N w l+2 ^ (w*l.length)*x:=by
 induction l with
 |nil=>simp[N]
 |cons c a b=>
  simp only[TP,N,b,TA];rw[Nat.mul_add,← Nat.mul_assoc,← UC,SL,show w+w*a.length=w*(a.length+1) by rw[Nat.mul_succ];omega]
theorem QM(w:Nat)(l:List Nat)(h:∀ x∈l,x<2 ^ w):N w l<2 ^ (w*l.length):=by
 induction l with
 |nil=>simp[N]
 |cons f a e=>
  have i:=h f (by simp);have b:=e (fun g d=>h g (by simp[d]));simp only[N,TA];rw[show w*(a.length+1)=w+w*a.length by rw[Nat.mul_succ];omega,UC];have c:2 ^ w*(N w a+1)≤2 ^ w*2 ^ (w*a.length):=Uz _ b;rw[Nat.mul_add] at c;omega
def D (w v:Nat):Nat→List Nat
 |0=>[]
 |n+1=>D w v n ++ [v / 2 ^ (w*n) % 2 ^ w]
theorem og(w v n:Nat):(D w v n).length=n:=by
 induction n with
 |zero=>rfl
 |succ b a=>simp[D,a]
theorem Ow(w v n:Nat):∀ x∈D w v n,x<2 ^ w:=by
 induction n with
 |zero=>simp[D]
 |succ c b=>
  intro x a;simp only[D,SM,List.mem_singleton] at a;rcases a with a|a
  ·exact b x a
  ·rw[a];exact Nat.mod_lt _ (Nat.pow_pos (by omega))
theorem QA(w v n:Nat):N w (D w v n)=v % 2 ^ (w*n):=by
 induction n with
 |zero=>simp[D,N,Nat.mod_one]
 |succ a b=>
  rw[D,JG,b,og,show w*(a+1)=w*a+w by rw[Nat.mul_succ],UC,Nat.mod_mul]
theorem A5(n:Nat):256 ^ n=2 ^ (8*n):=by rw[Nat.pow_mul]
theorem BW(a:Nat)(l:List Nat)(k:Nat)(b:k<l.length):N a (l.take (k+1))=N a (l.take k)+2 ^ (a*k)*l[k]:=by
 rw[RR b,JG,Tb,Nat.min_eq_left (by omega)]
end Pm
namespace Pk
open Go.RowKit Pm
theorem aa.qu:((aa.of Rz).info? 5).map (fun i=>(i.zero,i.size,i.bytes))=Ry (Ry (.int .u8 0),1,1):=by kernel_rfl
theorem aa.zH:((aa.of Rz).info? 3).map (fun i=>(i.zero,i.size,i.bytes))=Ry (Ry (.int .i64 0),1,8):=by kernel_rfl
def ax (b:List Nat):List RB:=b.map fun(a:Nat)=>TW .u8 (a:Int)
theorem Ea(a:List Nat)(i:Nat)(h:i<a.length):(ax a)[i]? =Ry (.int .u8 ((a[i]:Nat):Int)):=by
 simp[ax,h]
theorem GY{w:RD}{base g n cap:Nat}{a:List Nat}(h:w.ownsRow base 5 1 (.slice (Ry ⟨g,0,RA⟩) n cap) n (ax a))(c:a.length=n):
 ∀ i,i<n→w.cell? ⟨g,0+i,RA⟩=Ry (.int .u8 ((a.map (fun(n:Nat)=>(n:Int))).getD i 0)):=by
 intro i b;rw[SA,h.cellAt i (by omega),Ea a i (by omega)];simp[VR,show i<a.length by omega]
theorem FP{x:Int}(a:0≤x)(h1:x<256):VF.wrap x=x:=by
 simp[IntKind.wrap,Vq,VI];omega
theorem below_drewN{B:Nat}{a w:RD}(h:RQ B a w)(n:Nat):RQ B a (w.drewN n):=h.trans ⟨rfl,rfl,rfl,RG _,fun _ _=>rfl⟩
theorem qy{w:RD}{base:Nat}{e:RO}{a:Nat}{v:RB}{n:Nat}{b:List RB}(h:w.ownsRow base e a v n b)(k:Nat):(w.drewN k).ownsRow base e a v n b:=by
 induction k with
 |zero=>exact h
 |succ k c=>exact c.drew
theorem An(n:Int)(a:0≤n)(b:n<2 ^ 62):VQ.wrap n=n:=by rw[IntKind.wrap_i64];omega
theorem K9(b x a:Nat)(f:a≤16)(h:x<65536)(e:b<2 ^ a):bits .or .i64 (b:Int) (SW ((x:Int)*2 ^ a))=((b+2 ^ a*x:Nat):Int):=by
 have d:2 ^ a≤2 ^ 16:=Tu (by omega) f;have g:2 ^ a*x≤2 ^ 16*65536:=UW d (by omega);have c:SW ((x:Int)*2 ^ a)=((2 ^ a*x:Nat):Int):=by
  rw[show(x:Int)*2 ^ a=((2 ^ a*x:Nat):Int) from by push_cast;rw[Int.mul_comm]];generalize 2 ^ a*x=i at*;unfold SW;omega
 rw[c,(bits_nat .i64 62 (by decide) An b (2 ^ a*x) (by omega) (by omega)).2,Nat.or_comm,← Nat.two_pow_add_eq_or_of_lt e x,Nat.add_comm]
theorem M4(n b k a:Nat)(h:8*n+b=k*a):8*n+(b+a)=(k+1)*a:=by rw[Nat.add_mul k 1 a,Nat.one_mul];omega
theorem ey(a:List Nat)(x:Nat):ax a ++ [.int .u8 (x:Int)]=ax (a ++ [x]):=by simp[ax]
theorem Gt(b:List Nat)(x:Nat)(h:∀ y∈b,y<256)(d:x<256):∀ y∈b ++ [x],y<256:=by
 intro y c;rcases SM.1 c with a|a
 ·exact h y a
 ·simp at a;omega
theorem OC(b:List Nat)(a A:Nat)(h:V b+256 ^ b.length*a=A):V (b ++ [a % 256])+256 ^ (b ++ [a % 256]).length*(a / 256)=A:=by
 rw[B0,RI,List.length_singleton,Uf,Nat.mul_assoc,← h];have:V [a % 256]=a % 256:=by simp[V]
 rw[this,SL,← Nat.mul_add];congr 2;omega
theorem Ey(b a:Nat)(c:8≤a)(h:b<2 ^ a):b / 256<2 ^ (a - 8):=by
 rw[Nat.div_lt_iff_lt_mul (by omega),show(256:Nat)=2 ^ 8 by rfl,← UC,show a - 8+8=a by omega];exact h
theorem D6(c x a b:Nat)(h:c<2 ^ a)(d:x<2 ^ b):c+2 ^ a*x<2 ^ (a+b):=by
 rw[UC];have:2 ^ a*(x+1)≤2 ^ a*2 ^ b:=Uz _ d;rw[Nat.mul_add] at this;omega
theorem OA(a:List Nat)(c x d b k:Nat)(l:List Nat)(e:k<l.length)(g:l[k]=x)(f:8*a.length+d=k*b)(h:V a+256 ^ a.length*c=N b (l.take k)):
 V a+256 ^ a.length*(c+2 ^ d*x)=N b (l.take (k+1)):=by
 rw[BW b l k e,g,← h,Nat.mul_add,← Nat.mul_assoc,A5,← UC,f,Vk k b,SL]
end Pk
end Go.Proofs.YtjidbonhhpkljaaGreat
namespace Go.Proofs.YtjidbonhhpkljaaGreat.Pm
theorem JJ(l:List Nat):V l=N 8 l:=by
 induction l with
 |nil=>rfl
 |cons c b a=>simp only[V,N,a]
def b7 (a:Nat)(l:List Nat):List Nat:=D 8 (N a l) ((l.length*a+7) / 8)
theorem rM(b:Nat)(l:List Nat):∀ x∈b7 b l,x<256:=fun x a=>Ow 8 _ _ x a
theorem fp(a:Nat)(l:List Nat):(b7 a l).length=(l.length*a+7) / 8:=og _ _ _
theorem rN(b:Nat)(l a:List Nat)(h1:a.length=(l.length*b+7) / 8)(c:∀ x∈a,x<256)(d:V a=N b l):a=b7 b l:=by
 refine P6 a _ c (rM b l) (by rw[fp,h1]) ?_;rw[JJ (b7 b l),b7,QA,← d,← h1,← A5,UN (QO a c)]
end Go.Proofs.YtjidbonhhpkljaaGreat.Pm
namespace Go.Proofs.YtjidbonhhpkljaaGreat.Pk
open Go.RowKit Go.Proofs.YtjidbonhhpkljaaGreat.Pm
def strOf(b:List Nat):ByteArray:=strOfNums (b.map (fun(a:Nat)=>(a:Int)))
theorem lW(a:List Nat):(strOf a).size=a.length:=by
 unfold strOf strOfNums;simp[ByteArray.size]
def Ol (b:Nat)(c:List Int):Bool:=c.all fun a=>decide (0≤a) && decide (a<pw b)
theorem Hv{a:Nat}{b:List Int}(h:Ol a b=RF):∀ z∈b,0≤z∧z<pw a:=by
 intro z c;have:=Sf.1 h z c;simpa using this
theorem toNat_lt{a:Nat}{b:List Int}(h:Ol a b=RF):∀ x∈b.map Int.toNat,x<2 ^ a:=by
 intro x c;obtain⟨e,d,rfl⟩:=S5.1 c;have:=Hv h e d;unfold pw at this;omega
theorem oU{w:RD}{base n:Nat}{v:RB}{a:List Nat}(h:w.ownsRow base 5 1 v n (ax a))(c:a.length=n):
 (convert 133 9 v).run (aa.of Rz) w= .ok (.string (strOf a)) w:=by
 rcases h.2 with⟨b,i⟩|⟨e,d,g,b,_⟩
 ·have f:a=[]:=Ta (by omega);subst f;subst b;exact run_convert_bytes_nil w 133 5 aa.underlying133 aa.underlying5 0 0 9 aa.underlying9
 ·subst b;exact run_convert_bytes_arg w 133 5 aa.underlying133 aa.underlying5 e 0 n d _ (by simp[c]) (GY h c) 9 aa.underlying9
end Go.Proofs.YtjidbonhhpkljaaGreat.Pk
namespace Go.Proofs.YtjidbonhhpkljaaGreat
namespace Ec
open Pk Pm
def ia:Nat→Nat→List Nat
 |0,a=>[]
 |f+1,a=>if a<128 then[a] else(a % 128+128) :: ia f (a / 128)
def aA (n:Nat):List Nat:=ia 10 n
theorem eP(f n:Nat)(h:n<128):ia (f+1) n=[n]:=by simp[ia,h]
theorem gX(f n:Nat)(h:¬ n<128):ia (f+1) n=(n % 128+128) :: ia f (n / 128):=by simp[ia,h]
theorem Mg(f n:Nat):∀ x∈ia f n,x<256:=by
 induction f generalizing n with
 |zero=>simp[ia]
 |succ f d=>
  intro x a;by_cases b:n<128
  ·rw[eP f n b] at a;simp at a;omega
  ·rw[gX f n b] at a;rcases Tq.1 a with c|c
   ·omega
   ·exact d _ x c
theorem dL(f n:Nat):(ia f n).length≤f:=by
 induction f generalizing n with
 |zero=>simp[ia]
 |succ f b=>
  by_cases a:n<128
  ·rw[eP f n a];simp
  ·rw[gX f n a];have:=b (n / 128);simp;omega
theorem Pa(f:Nat)(n:Nat)(h:n<128 ^ (f+1)):n / 128<128 ^ f:=by
 rw[Uf] at h;exact Nat.div_lt_of_lt_mul (by rw[Vk];exact h)
theorem Ij(n:Nat)(h:n<18446744073709551616):n<128 ^ 10:=by
 have:(128:Nat) ^ 10=1180591620717411303424:=by decide
 omega
def zz (n:Int):Nat:=if n<0 then(-2*n - 1).toNat else(2*n).toNat
theorem Ap(n:Int)(a: -9223372036854775808≤n)(h1:n≤9223372036854775807):zz n<18446744073709551616:=by
 unfold zz;split<;>omega
theorem Qi:∀ x,x<256→x ||| 128=x % 128+128:=by decide +kernel
end Ec
namespace Pk
open Go.RowKit Pm
theorem bz{w:RD}{base B:Nat}{e:RO}{b:Nat}{v:RB}{n:Nat}{c:List RB}(h:w.ownsRow base e b v n c)(k:B≤base):w.ownsRow B e b v n c:=by
 refine⟨h.1,?_⟩;rcases h.2 with a|⟨g,d,f,a,i,j⟩
 ·exact .inl a
 ·exact .inr ⟨g,d,f,a,R4 k i,j⟩
theorem aQ{w w':RD}{base:Nat}{e:RO}{d:Nat}{v:RB}{n:Nat}{f:List RB}(h:w.ownsRow base e d v n f)(l:RQ w.heap.size w w'):w'.ownsRow base e d v n f:=by
 refine⟨h.1,?_⟩;rcases h.2 with a|⟨b,g,i,a,j,c,k⟩
 ·exact .inl a
 ·exact .inr ⟨b,g,i,a,j,by rw[l.block b (RP c)];exact c,k⟩
theorem aL{P:RM}(w:RD){ops:Array Te}{rest:List Te}{o:Te}{a:TZ}{Q:Exit→TZ→RD→Prop}
 (D:o.guard=RA) (s x:SG) (t:RO) (F:o.op=Op.call {callee:=Callee.builtin Builtin.append,args:= #[s,x],argTypes:= #[t,t]})
 (base:Nat) (e:RO) (i:Ur) (z:RB) (b bytes:Nat) (h1:P.underlying t=Ry (.slice e)) (A:P.info? e=Ry i) (J:i.zero=Ry z) (B:i.size=b) (K:i.bytes=bytes) (L:z.cells.size=b) (M:0<b)
 (v:RB) (n:Nat) (g:List RB) (G:a.eval s=v) (l:w.ownsRow base e b v n g)
 (h:Sl) (m c:Nat) (news:List RB) (H:a.eval x= .slice (Ry h) m c) (Y:0<m) (E:news.length=m*b) (hc:∀ j u,news[j]? =Ry u→w.cell? (h.add j)=Ry u) (y:∀ u∈news,u.oneCell'=RF)
 (b1:n+m≤R3) (b2:(n+m)*bytes≤140737488355328) (I:base≤w.heap.size)
 (C:∀ d w',w'.ownsRow base e b d (n+m) (g ++ news)→((w.grownBy w' RA∧w'.ownsRow w.heap.size e b d (n+m) (g ++ news))∨(d.ownBlock=v.ownBlock∧w.grownBy w' v.ownBlock))→wpList P ops Q rest (a.put o.dst d) w'):
 wpList P ops Q (o :: rest) a w:=by
 rcases l.2 with⟨rfl,rfl⟩|⟨q,p,T,rfl,U,X,Z,V,W,ab⟩
 ·have S:g=[]:=Ta (by simpa using l.1);subst S;exact wpList_append_grows w D s x t F e i z b bytes h1 A J B K L M RA 0 0 [] G (fun _=>⟨rfl,rfl⟩) (by simp) (fun N r=>by cases r) h m c news H E hc y (by omega) b1 b2
   fun d w' f k=>C d w' (bz f I) (.inl ⟨k,f⟩)
 ·by_cases R:n+m≤p
  ·exact Tn w D s x t F base e i b h1 A B q n p g G l h m c news H E hc y R fun w' f k=>C _ w' f (.inr ⟨rfl,k⟩)
  ·exact wpList_append_grows w D s x t F e i z b bytes h1 A J B K L M (Ry ⟨q,0,RA⟩) n p g G (fun r=>by cases r) l.1 (fun N O=>by cases O;exact l.cells (g:=q) rfl) h m c news H E hc y (by omega) b1 b2
    fun d w' f k=>C d w' (bz f I) (.inl ⟨k,f⟩)
theorem eE{a:List Int}{k:Nat}(h:k<a.length):a.getD k 0=a[k]:=by simp[VR,h]
def aY (a:List Int):List RB:=a.map (TW .i64)
theorem yF{w:RD}{base g n:Nat}{e:RO}{b:List RB}(h:w.ownsRow base e 1 (.slice (Ry ⟨g,0,RA⟩) n n) n b):w.heap[g]? =Ry (.cells b.toArray e (0,0)):=by
 rcases h.2 with⟨a,_⟩|⟨k,j,c,a,_,d,_,_,f,i⟩
 ·simp at a
 ·simp only[T5,SY,UO,and_true,true_and] at a;obtain⟨rfl,rfl⟩:=a;rw[d];have:c.toList=b:=by rw[← i];exact(SF (by simp[f])).symm
  rw[← this]
theorem EH(a:List Int)(i:Nat)(h:i<a.length):(aY a)[i]? =Ry (.int .i64 a[i]):=by simp[aY,h]
end Pk
end Go.Proofs.YtjidbonhhpkljaaGreat
namespace Go.Proofs.YtjidbonhhpkljaaGreat.Pm
end Go.Proofs.YtjidbonhhpkljaaGreat.Pm
namespace Go.Proofs.YtjidbonhhpkljaaGreat.Pk
open Go.RowKit Go.Proofs.YtjidbonhhpkljaaGreat.Pm
def bytesOf(s:ByteArray):List Nat:=s.data.toList.map UInt8.toNat
theorem iH(s:ByteArray):∀ x∈bytesOf s,x<256:=by
 intro x a;obtain⟨b,_,rfl⟩:=S5.1 a;exact b.toNat_lt
theorem ai(s:ByteArray):(bytesOf s).length=s.size:=by simp[bytesOf]
theorem tW(s:ByteArray)(j:Nat)(h:j<s.size):(bytesOf s)[j]'(by rw[ai];exact h)=s[j].toNat:=by
 simp only[bytesOf,List.getElem_map];rfl
def iZ (l:List Nat):List Int:=l.map (fun(a:Nat)=>(a:Int))
theorem gG(a:List Int)(x:Int):aY a ++ [.int .i64 x]=aY (a ++ [x]):=by simp[aY]
end Go.Proofs.YtjidbonhhpkljaaGreat.Pk
namespace Go.Proofs.YtjidbonhhpkljaaGreat
namespace Pk
open Go.RowKit Pm
theorem qm(a:List Nat)(h:∀ x∈a,x<256):bytesOf (strOf a)=a:=by
 unfold bytesOf strOf strOfNums;simp only[List.map_map];have:∀ x∈a,(UInt8.toNat ∘ (fun(b:Int)=>UInt8.ofNat b.toNat) ∘ fun(b:Nat)=>(b:Int)) x=x:=by
  intro x c;have:=h x c;simp;omega
 rw[List.map_congr_left this];simp
theorem mi{s t:ByteArray}(h:bytesOf s=bytesOf t):s=t:=by
 have a:s.data.toList=t.data.toList:=by
  unfold bytesOf at h;exact List.map_inj_right (fun c d b=>UInt8.toNat_inj.1 b) |>.1 h
 cases s;cases t;simp at a;simp[a]
theorem toList_inj{s t:ByteArray}(h:s.toList=t.toList):s=t:=by
 have b:∀ a:ByteArray,a.toList=a.data.toList:=fun a=>ByteArray.toList_eq a;rw[b,b] at h;cases s;cases t;simp at h;simp[h]
end Pk
namespace Ec
open Go.RowKit Pk
structure aD where
 null:Bool
 n:Int
 s:ByteArray
def aD.agg(v:aD):RB:=.agg #[.bool v.null,.int .i64 v.n,.string v.s]
def aE (l:List aD):List RB:=l.flatMap fun v=>[.bool v.null,.int .i64 v.n,.string v.s]
structure ot(w:RD)(ao:Option Sl)(b off:Nat)(l:List aD):Prop where
 addr:0<l.length→ao=Ry ⟨b,off,RA⟩
 lt:0<l.length→b<w.heap.size
 c0:∀ j (h:j<l.length),w.cell? ⟨b,off+j*3,RA⟩=Ry (.bool l[j].null)
 c1:∀ j (h:j<l.length),w.cell? ⟨b,off+j*3+1,RA⟩=Ry (.int .i64 l[j].n)
 c2:∀ j (h:j<l.length),w.cell? ⟨b,off+j*3+2,RA⟩=Ry (.string l[j].s)
theorem ot.below{w w':RD}{e:Option Sl}{b off:Nat}{l:List aD}(h:ot w e b off l)(d:RQ w.heap.size w w'):ot w' e b off l:=
 ⟨h.addr,fun f=>RK (h.lt f) d.size,
  fun a c=>(d.cell (p:=⟨b,off+a*3,RA⟩) (h.lt (by omega))).trans (h.c0 a c),
  fun a c=>(d.cell (p:=⟨b,off+a*3+1,RA⟩) (h.lt (by omega))).trans (h.c1 a c),
  fun a c=>(d.cell (p:=⟨b,off+a*3+2,RA⟩) (h.lt (by omega))).trans (h.c2 a c)⟩
def DO (x y:aD):Bool:=(x.null == y.null) && (x.n == y.n) && (x.s.toList == y.s.toList)
theorem mA{x y:aD}:DO x y=RF↔x=y:=by
 unfold DO;constructor
 ·intro a;simp only[R7,beq_iff_eq] at a;obtain⟨⟨b,c⟩,d⟩:=a;cases x;cases y;simp only at b c d;rw[b,c,toList_inj d]
 ·rintro rfl;simp
theorem De(w:RD)(x y:aD):(binOp .neq 59 (.agg #[.bool x.null,.int .i64 x.n,.string x.s]) (.agg #[.bool y.null,.int .i64 y.n,.string y.s])).run (aa.of Rz) w= .ok (.bool (!DO x y)) w:=by
 go_simp;unfold DO;by_cases a:x.null=y.null<;>by_cases b:x.n=y.n<;>by_cases c:x.s.toList=y.s.toList<;>simp[a,b,c]
theorem xK(c d:List aD)(y z:Option Sl)(b off cap b2 q H:Nat)(w:RD)(I:c.length≤R3)(J:d.length≤R3)
 (h1:ot w y b off c) (j:ot w z b2 q d):
 Sc (aa.of Rz) 29 #[.slice y c.length cap,.slice z d.length H] w fun e w'=>∃ b,e= .returned (.bool b)∧(b=RF↔c=d)∧∃ n,w'=w.drewN n:=by
 unfold R3 at I J;by_cases o:c.length=d.length
 ·have B:((c.length:Int) != (d.length:Int))=RE:=by simp[o]
  have x:RJ (c.length=d.length):=o;clear o;go_enter aa.func29,Tryz.ntmps29
  go_wp2_with fail
  clear B
  go_loopw [5] (fun t wr=>∃ a:Nat,a≤c.length∧t= .int .i64 a∧c.take a=d.take a∧∃ n,wr=w.drewN n) (fun t _=>c.length - (SC t).toNat)
  case atStart=>exact⟨0,Sk _,rfl,rfl,0,rfl⟩
  case round=>
   obtain⟨a,K,rfl,D,n,f⟩:=hrel;have r:RJ (c.take a=d.take a):=D;clear D;by_cases l:a<c.length
   ·have p:a<d.length:=by rw[← x.out];exact l
    obtain rfl:=h1.addr (by omega);obtain rfl:=j.addr (by omega);have L:wr.cell? ⟨b,off+a*3,RA⟩=Ry (.bool c[a].null):=by rw[f];exact h1.c0 a l
    have M:wr.cell? ⟨b,off+a*3+1,RA⟩=Ry (.int .i64 c[a].n):=by rw[f];exact h1.c1 a l
    have N:wr.cell? ⟨b,off+a*3+2,RA⟩=Ry (.string c[a].s):=by rw[f];exact h1.c2 a l
    have O:wr.cell? ⟨b2,q+a*3,RA⟩=Ry (.bool d[a].null):=by rw[f];exact j.c0 a p
    have P:wr.cell? ⟨b2,q+a*3+1,RA⟩=Ry (.int .i64 d[a].n):=by rw[f];exact j.c1 a p
    have Q:wr.cell? ⟨b2,q+a*3+2,RA⟩=Ry (.string d[a].s):=by rw[f];exact j.c2 a p
    have m:RJ (wr=w.drewN n):=f;have i:RJ (c[a]≠d[a]→c≠d):=fun g e=>g (by subst e;rfl);have s:RJ (c[a]=d[a]→c.take (a+1)=d.take (a+1)):=fun g=>by rw[RR l,RR p,r.out,g]
    have C:=fun w=>De w c[a] d[a];clear f h1 j r;generalize c[a]=u at*;generalize d[a]=v at*;by_cases h:u=v
    ·have k:DO u v=RF:=mA.2 h;have G:RJ (c.take (a+1)=d.take (a+1)):=s.out h;rw[k] at C;clear s i h k
     go_wp2_with fail
     go_quiet (fail)
     go_wp2
     go_roundw
     case rel=>exact⟨a+1,by omega,by go_num,G.out,n+nq,by rw[m.out];exact World.drewN_drewN _ _ _⟩
     case measure=>simp[SC];omega
    ·have k:DO u v=RE:=by rw[Bool.eq_false_iff];intro g;exact h (mA.1 g)
     have F:RJ (c≠d):=i.out h;rw[k] at C;clear s i h k
     go_wp2_with fail
     go_quiet (fail)
     go_wp2;go_ret;exact⟨RE,rfl,by simp;exact F.out,n+nq,by rw[m.out];exact World.drewN_drewN _ _ _⟩
   ·have A:c=d:=by
     have:=r.out;rwa [SF (by omega),SF (by rw[← x.out];omega)] at this
    have E:RJ (c=d):=A;have m:RJ (wr=w.drewN n):=f;clear A f;go_wp2;go_ret;exact⟨RF,rfl,by simp;exact E.out,n,m.out⟩
 ·have B:((c.length:Int) != (d.length:Int))=RF:=by simp;omega
  have i:RJ (c≠d):=fun g=>o (by rw[g]);go_enter aa.func29,Tryz.ntmps29;go_wp2;go_ret;exact⟨RE,rfl,by simp;exact i.out,0,rfl⟩
end Ec
namespace Ec
open Go.RowKit Pk Pm
structure aK(w w':RD)(v v':RB):Prop where
 fS:w.grownBy w' v.ownBlock
 at_:∀ g,v'.ownBlock=Ry g→v.ownBlock=Ry g∨w.heap.size≤g
theorem aK.refl(w:RD)(v:RB):aK w w v v:=⟨V7 w _,fun _ a=>.inl a⟩
theorem aK.trans{w g h:RD}{v v1 v2:RB}(h1:aK w g v v1)(b:aK g h v1 v2):aK w h v v2:=by
 refine⟨⟨b.fS.os.trans h1.fS.os,b.fS.tape.trans h1.fS.tape,b.fS.output.trans h1.fS.output,R4 h1.fS.size b.fS.size,?_⟩,?_⟩
 ·intro c e f;rw[b.fS.block c (RK e h1.fS.size) (fun j=>?_),h1.fS.block c e f];rcases h1.at_ c j.symm with a|a
  ·exact f a.symm
  ·omega
 ·intro d i;rcases b.at_ d i with a|a
  ·exact h1.at_ d a
  ·exact .inr (R4 h1.fS.size a)
theorem aK.alloc{w a:RD}{v v1:RB}(h:aK w a v v1)(o:UQ):aK w (a.alloc o) v v1:=
 h.trans ⟨World.grownBy_alloc a o _,fun _ h=>.inl h⟩
theorem aK.drewN{w a:RD}{v v1:RB}(h:aK w a v v1)(n:Nat):aK w (a.drewN n) v v1:=
 h.trans ⟨⟨rfl,rfl,rfl,RG _,fun _ _ _=>rfl⟩,fun _ h=>.inl h⟩
theorem aK.below{w w':RD}{v c:RB}{base:Nat}(h:aK w w' v c)(b:∀ g,v.ownBlock=Ry g→base≤g)(a:base≤w.heap.size):RQ base w w':=
 (R5 base w).grown h.fS a b
theorem aK.append{w b:RD}{v v1:RB}{e k n:Nat}{l:List RB}{o:UQ}
 (h:((w.alloc o).grownBy b RA∧b.ownsRow (w.alloc o).heap.size e k v1 n l)∨(v1.ownBlock=v.ownBlock∧(w.alloc o).grownBy b v.ownBlock)):aK w b v v1:=by
 have g:=(aK.refl w v).alloc o;refine g.trans ?_;rcases h with⟨a,c⟩|⟨a,c⟩
 ·refine⟨⟨a.os,a.tape,a.output,a.size,fun j i _=>a.block j i (by simp)⟩,fun f d=>.inr (c.lt f d).1⟩
 ·exact⟨c,fun f d=>.inl (by rw[← a];exact d)⟩
theorem J9{w:RD}{g:Nat}{x:Nat}(hc:w.cell? ⟨g,0,RA⟩=Ry (.int .u8 (x:Int))):
 (convert 133 9 (.slice (Ry ⟨g,0,RA⟩) 1 1)).run (aa.of Rz) w= .ok (.string (strOf [x])) w:=
 run_convert_bytes_arg w 133 5 aa.underlying133 aa.underlying5 g 0 1 1 [(x:Int)] rfl (fun a b=>by
  have:a=0:=by omega
  subst this;exact hc) 9 aa.underlying9
theorem ga(w:RD)(a:RB)(t:RO):∀ (j:Nat) (u:RB),[a][j]? =Ry u→(w.alloc (.cells #[a] t)).cell? ((⟨w.heap.size,0,RA⟩:Sl).add j)=Ry u:=by
 intro j u b
 match j,b with
 |0,b=>simp at b;subst b;simp[VN]
theorem iy(x:Int):∀ u∈[TW .u8 x],u.oneCell'=RF:=by
 intro u a;simp at a;subst a;rfl
theorem J8(w:RD)(x:Nat):(convert 133 9 (.slice (Ry ⟨w.heap.size,0,RA⟩) 1 1)).run (aa.of Rz) (w.alloc (.cells #[.int .u8 (x:Int)] 5))= .ok (.string (strOf [x])) (w.alloc (.cells #[.int .u8 (x:Int)] 5)):=
 J9 (by simp)
theorem NT(f n:Nat)(w:RD)(h:n<128):Sc (aa.of Rz) 133 #[.int .u64 n] w fun e w'=>e= .returned (.string (strOf (ia (f+1) n)))∧RQ w.heap.size w w':=by
 rw[eP f n h];have a:=J8 w n;go_enter aa.func133,Tryz.ntmps133;go_wp2;go_ret;exact⟨rfl,(R5 _ _).alloc (RG _) _⟩
theorem Qj(n:Nat):bits .or .u8 ((n:Int) % 256) 128=((n % 128+128:Nat):Int):=by
 have a:=(bits_nat .u8 8 (by decide) wraps_u8 (n % 256) 128 (by omega) (by omega)).2;rw[show((n % 256:Nat):Int)=(n:Int) % 256 from by omega,Qi (n % 256) (by omega)] at a;rw[show(128:Int)=((128:Nat):Int) from rfl,a];omega
theorem mP(v:RB)(pre:List Nat)(n base:Nat)(w:RD)(C:n<18446744073709551616)(S:pre.length≤4000000)(P:base≤w.heap.size)
 (g:w.ownsRow base 5 1 v pre.length (ax pre)):
 Sc (aa.of Rz) 121 #[v,.int .u64 n] w fun e w'=>∃ l,e= .returned l∧w'.ownsRow base 5 1 l (pre ++ aA n).length (ax (pre ++ aA n))∧aK w w' v l:=by
 obtain⟨H,A,E,F,G⟩:=S3 aa.qu;go_enter aa.func121,Tryz.ntmps121
 go_wp2_with fail
 go_loopw [0,1] (fun s k wr=>∃ (f m:Nat) (a:List Nat),f≤9∧k= .int .u64 m∧m<128 ^ (f+1)∧m<18446744073709551616∧a.length+f=9∧a ++ ia (f+1) m=aA n∧wr.ownsRow base 5 1 s (pre ++ a).length (ax (pre ++ a))∧aK w wr v s∧w.heap.size≤wr.heap.size) (fun _ k _=>(SC k).toNat)
 case atStart=>exact⟨9,n,[],by omega,rfl,Ij n C,C,rfl,rfl,by simpa using g,aK.refl _ _,RG _⟩
 case round=>
  obtain⟨f,m,a,Q,rfl,B,T,u,x,g,y,V⟩:=hrel;have q:RJ (m<128 ^ (f+1)):=B;have o:RJ (a ++ ia (f+1) m=aA n):=x;have J:RJ (a.length+f=9):=u;have U:(pre ++ a).length≤4000009:=by simp;omega
  clear B x u;have p:RJ (aK w wr v u0):=y;clear y;have K:RJ (∃ b,b=pre ++ a):=⟨_,rfl⟩;generalize D:pre ++ a=b at*;have r:RJ (pre ++ a=b):=D;clear D K;by_cases t:m<128
  ·have W:VF.wrap (m:Int)=(m:Int):=FP (by omega) (by omega)
   go_wp2_with (at_builtin;refine aL _ rfl _ _ 133 rfl base 5 H (.int .u8 0) 1 1 aa.underlying133 A E F G rfl (by decide) _ b.length _ rfl (g.alloc _) ⟨wr.heap.size,0,RA⟩ 1 1 [.int .u8 (m:Int)] rfl (by decide) rfl (ga _ _ _) (iy _) (by unfold R3;omega) (by omega) (by simp;omega) ?_;intro O I c i)
   go_ret;refine⟨_,rfl,?_,p.out.trans (aK.append i)⟩;rw[ey] at c;have e:pre ++ aA n=b ++ [m]:=by rw[← o.out,eP f m t,← r.out,R9]
   rw[e];simpa using c
  ·have M:=Qj m;obtain⟨d,j⟩:∃ d,d=m % 128+128:=⟨_,rfl⟩;rw[← j] at M;have R:0<f:=by
    rcases UM f with h|h
    ·subst h;have:=q.out;simp at this;omega
    ·exact h
   have L:RJ (d=m % 128+128):=j;clear j
   go_wp2_with (at_builtin;refine aL _ rfl _ _ 133 rfl base 5 H (.int .u8 0) 1 1 aa.underlying133 A E F G rfl (by decide) _ b.length _ rfl (g.alloc _) ⟨wr.heap.size,0,RA⟩ 1 1 [.int .u8 (d:Int)] rfl (by decide) rfl (ga _ _ _) (iy _) (by unfold R3;omega) (by omega) (by simp;omega) ?_;intro O I c i)
   have z:=p.out.trans (aK.append i);have N:w.heap.size≤I.heap.size:=z.fS.size;rw[ey] at c;refine⟨⟨f - 1,m / 128,a ++ [d],by omega,by go_num,?_,by omega,by have:=J.out;simp;omega,?_,?_,z,N⟩,by simp[SC];omega⟩
   ·have:=Pa f m q.out;rwa [show f - 1+1=f by omega]
   ·rw[← o.out,gX f m t,show f - 1+1=f by omega,L.out,R9];rfl
   ·rw[← R9,r.out];simpa using c
theorem wrap_u64(n:Int):TT.wrap n=n % 18446744073709551616:=by simp[IntKind.wrap,VI,Vq]
theorem xor_zero(x:Nat)(a:x<18446744073709551616):bits .xor .u64 (x:Int) 0=(x:Int):=by
 show TT.wrap (((Uv 64 (x:Int)) ^^^ (Uv 64 0)).toNat:Int)=_;rw[BitVec.ofInt_natCast,show Uv 64 0=0#64 from rfl,BitVec.xor_zero,BitVec.toNat_ofNat,wrap_u64];omega
theorem Mt(x:Nat)(a:x<18446744073709551616):bits .xor .u64 (x:Int) 18446744073709551615=((18446744073709551615 - x:Nat):Int):=by
 show TT.wrap (((Uv 64 (x:Int)) ^^^ (Uv 64 18446744073709551615)).toNat:Int)=_;rw[BitVec.ofInt_natCast,show Uv 64 18446744073709551615=BitVec.allOnes 64 from by decide +kernel,BitVec.xor_allOnes,BitVec.toNat_not,BitVec.toNat_ofNat,wrap_u64];omega
theorem Mx(n:Int)(e: -9223372036854775808≤n)(h1:n≤9223372036854775807):
 bits .xor .u64 (TT.wrap (SW (n*2))) (TT.wrap (n / 9223372036854775808))=(zz n:Int):=by
 by_cases d:n<0
 ·have c:TT.wrap (n / 9223372036854775808)=18446744073709551615:=by rw[wrap_u64];omega
  obtain⟨b,a⟩:∃ b:Nat,TT.wrap (SW (n*2))=(b:Int):=⟨(TT.wrap (SW (n*2))).toNat,by rw[wrap_u64];omega⟩;rw[a,c];rw[wrap_u64] at a;unfold SW at a;rw[Mt b (by omega)];unfold zz;rw[if_pos d];omega
 ·have c:TT.wrap (n / 9223372036854775808)=0:=by rw[wrap_u64];omega
  obtain⟨b,a⟩:∃ b:Nat,TT.wrap (SW (n*2))=(b:Int):=⟨(TT.wrap (SW (n*2))).toNat,by rw[wrap_u64];omega⟩;rw[a,c];rw[wrap_u64] at a;unfold SW at a;rw[xor_zero b (by omega)];unfold zz;rw[if_neg d];omega
def fJ (k:Int):Bool:=decide (1≤k) && decide (k≤3)
def bf (k e:Int):Bool:=((e == 0 || e == 2) && fJ k) || (e == 1 && k == 1) || (e == 3 && k == 2)
theorem nj(k:Int)(w:RD):Sc (aa.of Rz) 120 #[.int .i64 k] w fun e w'=>e= .returned (.bool (fJ k))∧w'=w:=by
 by_cases a:1≤k<;>by_cases b:k≤3
 all_goals
  go_enter aa.func120,Tryz.ntmps120;go_wp2
  all_goals go_ret
  all_goals exact⟨by simp[fJ,a,b],rfl⟩
theorem AE(e:Int):e=0∨e=1∨e=2∨e=3∨((e == 0)=RE∧(e == 1)=RE∧(e == 2)=RE∧(e == 3)=RE):=by
 by_cases a:e=0
 ·exact .inl a
 by_cases b:e=1
 ·exact .inr (.inl b)
 by_cases c:e=2
 ·exact .inr (.inr (.inl c))
 by_cases d:e=3
 ·exact .inr (.inr (.inr (.inl d)))
 exact .inr (.inr (.inr (.inr ⟨by simpa using a,by simpa using b,by simpa using c,by simpa using d⟩)))
theorem n8(k e:Int)(w:RD):Sc (aa.of Rz) 83 #[.int .i64 k,.int .i64 e] w fun r w'=>r= .returned (.bool (bf k e))∧w'=w:=by
 have g:∀ a:Bool,(a || false)=a:=by simp
 rcases AE e with rfl|rfl|rfl|rfl|⟨b,c,d,f⟩
 ·rw[show bf k 0=fJ k from by simp[bf]];go_enter aa.func83,Tryz.ntmps83
  go_wp2_with (go_at_call 120;refine(nj k _).mono ?_;rintro e w' ⟨rfl,rfl⟩)
  go_ret;exact⟨rfl,rfl⟩
 ·rw[show bf k 1=(k == 1) from by simp[bf]];go_enter aa.func83,Tryz.ntmps83;go_wp2
  all_goals go_ret
  all_goals exact⟨rfl,rfl⟩
 ·rw[show bf k 2=fJ k from by simp[bf]];go_enter aa.func83,Tryz.ntmps83
  go_wp2_with (go_at_call 120;refine(nj k _).mono ?_;rintro e w' ⟨rfl,rfl⟩)
  go_ret;exact⟨rfl,rfl⟩
 ·rw[show bf k 3=(k == 2) from by simp[bf]];go_enter aa.func83,Tryz.ntmps83;go_wp2
  all_goals go_ret
  all_goals exact⟨rfl,rfl⟩
 ·rw[show bf k e=RE from by simp[bf,b,c,d,f]];go_enter aa.func83,Tryz.ntmps83;go_wp2
  all_goals go_ret
  all_goals exact⟨rfl,rfl⟩
theorem KX{k e:Int}(a:(k == 1)=RE)(b:(k == 2)=RE)(f:(k == 3)=RE):bf k e=RE:=by
 have d:fJ k=RE:=by
  simp at a b f;unfold fJ;by_cases c:1≤k
  ·have:¬ k≤3:=by omega
   simp[this]
  ·simp[c]
 simp[bf,d,a,b]
theorem Ni{k e:Int}(a:(e == 0)=RE)(h1:(e == 1)=RE)(b:(e == 2)=RE)(c:(e == 3)=RE):bf k e=RE:=by simp[bf,a,h1,b,c]
def iv (n k e:Int):Int:=if n<0∨100<n then 6 else if bf k e then 0 else 2
theorem n5(n k e:Int)(w:RD):Sc (aa.of Rz) 123 #[.int .i64 n,.int .i64 k,.int .i64 e] w fun r w'=>r= .returned (.int .i64 (iv n k e))∧w'=w:=by
 by_cases a:n<0∨100<n
 ·have b:=oC n w;rw[show Em n=6 from by simp[Em,a]] at b;rw[show iv n k e=6 from by simp[iv,a]];clear a;go_enter aa.func123,Tryz.ntmps123
  go_wp2_with (go_at_call 141;refine b.mono ?_;rintro e w' ⟨rfl,rfl⟩)
  all_goals go_ret
  all_goals exact⟨rfl,rfl⟩
 ·have b:=oC n w;rw[show Em n=0 from by simp[Em,a]] at b;have d:=n8 k e;by_cases c:bf k e=RF
  ·rw[show iv n k e=0 from by simp[iv,a,c]];rw[c] at d;clear a c;go_enter aa.func123,Tryz.ntmps123
   go_wp2_with (first|(go_at_call 141;refine b.mono ?_;rintro e w' ⟨rfl,rfl⟩)|(go_at_call 83;refine(d _).mono ?_;rintro e w' ⟨rfl,rfl⟩))
   all_goals go_ret
   all_goals exact⟨rfl,rfl⟩
  ·have f:bf k e=RE:=by simpa using c
   rw[show iv n k e=2 from by simp[iv,a,f]];rw[f] at d;clear a c f;go_enter aa.func123,Tryz.ntmps123
   go_wp2_with (first|(go_at_call 141;refine b.mono ?_;rintro e w' ⟨rfl,rfl⟩)|(go_at_call 83;refine(d _).mono ?_;rintro e w' ⟨rfl,rfl⟩))
   all_goals go_ret
   all_goals exact⟨rfl,rfl⟩
theorem cz(v:RB)(pre:List Nat)(n base:Nat)(w:RD)(i:n<2147483648)(h:pre.length≤4000000)(g:base≤w.heap.size)
 (b:w.ownsRow base 5 1 v pre.length (ax pre)):
 Sc (aa.of Rz) 84 #[v,.int .i64 n] w fun e w'=>∃ a,e= .returned a∧w'.ownsRow base 5 1 a (pre ++ aA n).length (ax (pre ++ aA n))∧aK w w' v a:=by
 have c:RJ (Sc (aa.of Rz) 121 #[v,.int .u64 n] w fun e w'=>∃ a,e= .returned a∧w'.ownsRow base 5 1 a (pre ++ aA n).length (ax (pre ++ aA n))∧aK w w' v a):=
  mP v pre n base w (by omega) h g b
 clear b;go_enter aa.func84,Tryz.ntmps84
 go_wp2_with fail
 refine c.out.mono ?_;rintro e w' ⟨a,rfl,d,f⟩;go_wp2;go_ret;exact⟨_,rfl,d,f⟩
theorem Cn(n:Int)(a: -9223372036854775808≤n)(h1:n≤9223372036854775807)(w:RD):
 Sc (aa.of Rz) 140 #[.int .i64 n] w fun e w'=>e= .returned (.int .u64 (zz n))∧w'=w:=by
 have b:=Mx n a h1;go_enter aa.func140,Tryz.ntmps140;go_wp2;go_ret;exact⟨rfl,rfl⟩
def eU (v:aD)(k:Int):Bool:=
 if v.null then(v.n == 0) && (v.s.toList == []) else if k == 1 then v.s.toList == [] else if k == 2 then(v.n == 0 || v.n == 1) && (v.s.toList == []) else(v.n == 0) && decide ((v.s.size:Int)≤32)
theorem oT{a b:Bool}(h:a=b):Ending.returned (.bool a)= .returned (.bool b):=by rw[h]
theorem pE(v:aD)(k:Int)(w:RD)(a:k=1∨k=2∨k=3):
 Sc (aa.of Rz) 82 #[.agg #[.bool v.null,.int .i64 v.n,.string v.s],.int .i64 k] w fun e w'=>e= .returned (.bool (eU v k))∧RQ w.heap.size w w':=by
 have b:=nj k;rw[show fJ k=RF from by rcases a with rfl|rfl|rfl<;>rfl] at b;cases c:v.null
 ·rcases a with rfl|rfl|rfl
  all_goals
   go_enter aa.func82,Tryz.ntmps82;go_wp2
   all_goals go_ret
   all_goals refine⟨oT ?_,(R5 _ _).alloc (RG _) _⟩
   all_goals rw[Bool.eq_iff_iff]
   all_goals simp[eU, *]
   all_goals try omega
 ·rcases a with rfl|rfl|rfl
  all_goals
   go_enter aa.func82,Tryz.ntmps82
   go_wp2_with (go_at_call 120;refine(b _).mono ?_;rintro e w' ⟨rfl,rfl⟩)
   all_goals go_ret
   all_goals refine⟨oT ?_,(R5 _ _).alloc (RG _) _⟩
   all_goals rw[Bool.eq_iff_iff]
   all_goals simp[eU, *]
   all_goals try omega
def cW (x:Int):List Int→Nat
 | []=>0
 |y :: a=>if y=x then cW x a+1 else 0
def byteOf(x:Int):Nat:=(x % 256).toNat
def fU:Nat→List Int→List Nat
 |0,_=>[]
 |f+1,b=>match b with
  | []=>[]
  |x :: a=>aA (cW x (x :: a)) ++ ([byteOf x] ++ fU f ((x :: a).drop (cW x (x :: a))))
def bF (l:List Int):List Nat:=fU l.length l
theorem z6(x:Int)(l:List Int):cW x l≤l.length:=by
 induction l with
 |nil=>simp[cW]
 |cons c b a=>simp only[cW];split<;>simp<;>omega
theorem IR(x:Int)(l:List Int)(n:Nat)(h:n<cW x l):∃ e:n<l.length,l[n]=x:=by
 induction l generalizing n with
 |nil=>simp[cW] at h
 |cons g f d=>
  simp only[cW] at h
  split at h
  ·rename_i c;cases n with
   |zero=>exact⟨by simp,by simpa using c⟩
   |succ m=>
    obtain⟨a,b⟩:=d m (by omega);exact⟨by simp;exact a,by simpa using b⟩
  ·omega
theorem xH(x:Int)(l:List Int)(h:cW x l<l.length):l[cW x l]≠x:=by
 induction l with
 |nil=>simp at h
 |cons c d b=>
  simp only[cW] at h ⊢;by_cases a:c=x
  ·simp only[a,if_true] at h ⊢;have:=b (by simpa using h);simpa using this
  ·simp only[a,if_false] at h ⊢;simpa using a
def kO (a:List Int)(i:Nat):Nat:=cW (a.getD i 0) (a.drop i)
theorem IQ(a:List Int)(i:Nat)(h:i<a.length):0<kO a i:=by
 unfold kO;rw[S6 h,eE h];simp[cW]
theorem Lt(a:List Int)(i:Nat)(h:i<a.length):i+kO a i≤a.length:=by
 have:=z6 (a.getD i 0) (a.drop i);unfold kO;rw[Ut] at this;omega
theorem Ls(a:List Int)(i n:Nat)(h:n<kO a i):∃ e:i+n<a.length,a[i+n]=a.getD i 0:=by
 obtain⟨b,c⟩:=IR _ _ n h;have d:i+n<a.length:=by simp at b;omega
 exact⟨d,by simpa using c⟩
theorem IP(a:List Int)(i:Nat)(h:i+kO a i<a.length):a[i+kO a i]≠a.getD i 0:=by
 have:=xH (a.getD i 0) (a.drop i) (by unfold kO at h;rw[Ut];omega);simpa [kO] using this
theorem Fa(f:Nat)(a:List Int)(i:Nat)(h:i<a.length):fU (f+1) (a.drop i)=aA (kO a i) ++ ([byteOf (a.getD i 0)] ++ fU f (a.drop (i+kO a i))):=by
 unfold kO;rw[S6 h,eE h];simp only[fU];rw[← S6 h,List.drop_drop]
theorem IW(f:Nat)(a:List Int)(i:Nat)(h:¬ i<a.length):fU f (a.drop i)=[]:=by
 rw[List.drop_of_length_le (by omega)];cases f<;>rfl
theorem mS(x:Int):byteOf x<256:=by unfold byteOf;omega
theorem lB(x:Int):x % 256=(byteOf x:Int):=by unfold byteOf;omega
theorem Bl(f:Nat)(l:List Int):(fU f l).length≤11*f:=by
 induction f generalizing l with
 |zero=>simp[fU]
 |succ f c=>
  cases l with
  |nil=>simp[fU]
  |cons a b=>
   simp only[fU];have d:=dL 10 (cW a (a :: b));have e:=c ((a :: b).drop (cW a (a :: b)));simp only[RI,List.length_singleton];unfold aA;omega
theorem oy(v:RB)(pre:List Nat)(a:List Int)(a2:Option Sl)(b off cap base:Nat)(w:RD)(b3:a.length≤100)(ck:pre.length≤100000)(a4:base≤w.heap.size)
 (b0:0<a.length→a2=Ry ⟨b,off,RA⟩) (cc:0<a.length→b<w.heap.size) (ae:0<a.length→v.ownBlock≠Ry b) (hc:∀ j,j<a.length→w.cell? ⟨b,off+j,RA⟩=Ry (.int .i64 (a.getD j 0)))
 (t:w.ownsRow base 5 1 v pre.length (ax pre)):
 Sc (aa.of Rz) 142 #[v,.slice a2 a.length cap] w fun e w'=>∃ q,e= .returned q∧w'.ownsRow base 5 1 q (pre ++ bF a).length (ax (pre ++ bF a))∧aK w w' v q:=by
 obtain⟨bm,a8,bi,bj,bl⟩:=S3 aa.qu;go_enter aa.func142,Tryz.ntmps142
 go_wp2_with fail
 go_loopw [0,5] (fun a3 ao wr=>∃ (c f:Nat) (i:List Nat),c≤a.length∧ao= .int .i64 c∧a.length≤c+f∧f≤100∧i.length+11*f≤1100∧i ++ fU f (a.drop c)=bF a∧wr.ownsRow base 5 1 a3 (pre ++ i).length (ax (pre ++ i))∧aK w wr v a3) (fun _ ao _=>a.length - (SC ao).toNat)
 case atStart=>exact⟨0,a.length,[],Sk _,rfl,by omega,b3,by simp;omega,rfl,by simpa using t,aK.refl _ _⟩
 case round=>
  clear t;obtain⟨c,f,i,ch,rfl,ci,cf,cd,a5,t,Z⟩:=hrel
  rename RD=>C
  have P:RJ (i ++ fU f (a.drop c)=bF a):=a5;have L:RJ (aK w C v u0):=Z;have cv:w.heap.size≤C.heap.size:=Z.fS.size;clear a5 Z;have cp:(pre ++ i).length≤200000:=by simp;omega
  generalize bb:pre ++ i=l at*;have T:RJ (pre ++ i=l):=bb;clear bb;by_cases y:c<a.length
  ·obtain rfl:=b0 (by omega);have Y:∀ j,j<a.length→C.cell? ⟨b,off+j,RA⟩=Ry (.int .i64 (a.getD j 0)):=fun j bA=>L.out.fS.cell (hc j bA) (fun u=>ae (by omega) u.symm);have aw:RJ (∀ j,j<a.length→C.cell? ⟨b,off+j,RA⟩=Ry (.int .i64 (a.getD j 0))):=Y;have a0:RJ _:=Fa (f - 1) a c y;have cu:=IQ a c y;have cs:=Lt a c y;have br:RJ (∀ k,k<kO a c→∃ N:c+k<a.length,a[c+k]=a.getD c 0):=fun k N=>Ls a c k N;have bs:RJ (∀ u:c+kO a c<a.length,a[c+kO a c]≠a.getD c 0):=fun u=>IP a c u;have M:=Y c y;clear Y;generalize kO a c=d at*;generalize bd:a.getD c 0=h at*;have a1:RJ (a.getD c 0=h):=bd;clear bd
   go_wp2_with fail
   go_loopw [6] (fun j cb=>∃ m:Nat,c+1≤m∧m≤c+d∧j= .int .i64 (m:Int)∧∃ k,cb=C.drewN k) (fun j _=>a.length+1 - (SC j).toNat)
   case atStart=>exact⟨c+1,by omega,by omega,by go_num,0,rfl⟩
   case round=>
    obtain⟨m,cl,cn,rfl,k,p⟩:=hrel;have bu:RJ (wr=C.drewN k):=p;have a6:wr.cell? ⟨b,off+c,RA⟩=Ry (.int .i64 h):=by rw[p];exact M
    by_cases ba:m<c+d
    ·obtain⟨N,bc⟩:=br.out (m - c) (by omega);have s:m<a.length:=by omega
     have H:wr.cell? ⟨b,off+m,RA⟩=Ry (.int .i64 h):=by
      rw[p];have:=aw.out m s;rw[eE s] at this;rw[show a[m]=h from by rw[← bc];congr 1;omega] at this;exact this
     have a7:decide ((m:Int)<(a.length:Int))=RF:=by simpa using s
     clear M p t N bc
     go_wp2_with fail
     go_quiet (fail)
     go_wp2
     go_roundw
     case rel=>exact⟨m+1,by omega,by omega,by go_num,k+nq,by rw[bu.out];exact World.drewN_drewN _ _ _⟩
     case measure=>simp[SC];omega
    ·have B:RJ (m=c+d):=by show m=c+d;omega
     have co:c≤m:=by omega
     have bt:RJ (SW ((m:Int) - (c:Int))=(d:Int)):=by have:=B.out;show _=_;unfold SW;omega
     by_cases s:m<a.length
     ·have H:∃ x,wr.cell? ⟨b,off+m,RA⟩=Ry (.int .i64 x)∧x≠h:=by
       refine⟨a.getD m 0,by rw[p];exact aw.out m s,?_⟩;have e:=B.out;clear bt;subst e;rw[eE s];exact bs.out s
      obtain⟨x,H,be⟩:=H;have a7:decide ((m:Int)<(a.length:Int))=RF:=by simpa using s
      have ce:(x == h)=RE:=by simpa using be
      have S:RJ (∀ g,(wr.drewN g).ownsRow base 5 1 u0 l.length (ax l)):=fun g=>by rw[p];exact aQ t (below_drewN (below_drewN (R5 _ _) k) g)
      have D:RJ (∀ g,aK w (wr.drewN g) v u0):=fun g=>by rw[p];exact(L.out.drewN k).drewN g
      clear M p t ba be
      go_wp2_with fail
      go_quiet (fail)
      try clear H
      have am:VF.wrap h=h % 256:=by simp[IntKind.wrap,VI,Vq]
      rw[lB] at am;have bx:=mS h;have Q:RJ (∃ x,x=byteOf h):=⟨_,rfl⟩;generalize K:byteOf h=o at*;have bv:RJ (byteOf h=o):=K;clear Q K;have b2:=dL 10 d;have U:RJ (∃ g,g=l ++ aA d):=⟨_,rfl⟩;generalize z:l ++ aA d=n at*;have bB:n.length≤200010:=by rw[← z,RI];unfold aA;omega
      have E:RJ (l ++ aA d=n):=z;clear z U;have O:RJ (Sc (aa.of Rz) 84 #[u0,.int .i64 ((m:Int) - (c:Int))] (wr.drewN nq) fun e w'=>∃ q,e= .returned q∧w'.ownsRow base 5 1 q n.length (ax n)∧aK (wr.drewN nq) w' u0 q):=by
       have F:=cz u0 l d base (wr.drewN nq) (by omega) (by omega) (R4 a4 (D.out nq).fS.size) (S.out nq);rw[E.out] at F;rw[show(m:Int) - (c:Int)=(d:Int) from by have:=B.out;omega];exact F
      go_wp2_with first
       |(go_at_call 84;refine O.out.mono ?_;rintro e A ⟨ar,rfl,al,I⟩;have r:=(D.out nq).trans I;have X:=r.fS.cell (hc c y) (fun u=>ae (by omega) u.symm);have R:RJ (aK w A v ar):=r;have b1:w.heap.size≤A.heap.size:=r.fS.size;rw[a1.out] at X;clear r I a6)
       |(at_builtin;refine aL _ rfl _ _ 133 rfl base 5 bm (.int .u8 0) 1 1 aa.underlying133 a8 bi bj bl rfl (by decide) _ n.length _ rfl (al.alloc _) ⟨A.heap.size,0,RA⟩ 1 1 [.int .u8 (o:Int)] rfl (by decide) rfl (ga _ _ _) (iy _) (by unfold R3;omega) (by omega) (by simp;omega) ?_;intro b4 ca J ab)
      have ad:=R.out.trans (aK.append ab);rw[ey] at J;have V:pre ++ (i ++ (aA d ++ [o]))=n ++ [o]:=by rw[← E.out,← T.out];simp[R9]
      have W:(i ++ (aA d ++ [o])) ++ fU (f - 1) (a.drop m)=bF a:=by
       have G:=a0.out;rw[show f - 1+1=f by omega] at G;rw[← P.out,G,B.out];simp[R9]
      refine⟨⟨m,f - 1,i ++ (aA d ++ [o]),by omega,rfl,by omega,by omega,?_,W,?_,ad⟩,by simp[SC];omega⟩
      ·rw[RI,RI];unfold aA;simp;omega
      ·rw[V];simpa using J
     ·have a7:decide ((m:Int)<(a.length:Int))=RE:=by simpa using s
      have S:RJ (∀ g,(wr.drewN g).ownsRow base 5 1 u0 l.length (ax l)):=fun g=>by rw[p];exact aQ t (below_drewN (below_drewN (R5 _ _) k) g)
      have D:RJ (∀ g,aK w (wr.drewN g) v u0):=fun g=>by rw[p];exact(L.out.drewN k).drewN g
      clear M p t ba
      go_wp2_with fail
      go_quiet (fail)
      try clear H
      have am:VF.wrap h=h % 256:=by simp[IntKind.wrap,VI,Vq]
      rw[lB] at am;have bx:=mS h;have Q:RJ (∃ x,x=byteOf h):=⟨_,rfl⟩;generalize K:byteOf h=o at*;have bv:RJ (byteOf h=o):=K;clear Q K;have b2:=dL 10 d;have U:RJ (∃ g,g=l ++ aA d):=⟨_,rfl⟩;generalize z:l ++ aA d=n at*;have bB:n.length≤200010:=by rw[← z,RI];unfold aA;omega
      have E:RJ (l ++ aA d=n):=z;clear z U;have O:RJ (Sc (aa.of Rz) 84 #[u0,.int .i64 ((m:Int) - (c:Int))] (wr.drewN nq) fun e w'=>∃ q,e= .returned q∧w'.ownsRow base 5 1 q n.length (ax n)∧aK (wr.drewN nq) w' u0 q):=by
       have F:=cz u0 l d base (wr.drewN nq) (by omega) (by omega) (R4 a4 (D.out nq).fS.size) (S.out nq);rw[E.out] at F;rw[show(m:Int) - (c:Int)=(d:Int) from by have:=B.out;omega];exact F
      go_wp2_with first
       |(go_at_call 84;refine O.out.mono ?_;rintro e A ⟨ar,rfl,al,I⟩;have r:=(D.out nq).trans I;have X:=r.fS.cell (hc c y) (fun u=>ae (by omega) u.symm);have R:RJ (aK w A v ar):=r;have b1:w.heap.size≤A.heap.size:=r.fS.size;rw[a1.out] at X;clear r I a6)
       |(at_builtin;refine aL _ rfl _ _ 133 rfl base 5 bm (.int .u8 0) 1 1 aa.underlying133 a8 bi bj bl rfl (by decide) _ n.length _ rfl (al.alloc _) ⟨A.heap.size,0,RA⟩ 1 1 [.int .u8 (o:Int)] rfl (by decide) rfl (ga _ _ _) (iy _) (by unfold R3;omega) (by omega) (by simp;omega) ?_;intro b4 ca J ab)
      have ad:=R.out.trans (aK.append ab);rw[ey] at J;have V:pre ++ (i ++ (aA d ++ [o]))=n ++ [o]:=by rw[← E.out,← T.out];simp[R9]
      have W:(i ++ (aA d ++ [o])) ++ fU (f - 1) (a.drop m)=bF a:=by
       have G:=a0.out;rw[show f - 1+1=f by omega] at G;rw[← P.out,G,B.out];simp[R9]
      refine⟨⟨m,f - 1,i ++ (aA d ++ [o]),by omega,rfl,by omega,by omega,?_,W,?_,ad⟩,by simp[SC];omega⟩
      ·rw[RI,RI];unfold aA;simp;omega
      ·rw[V];simpa using J
  ·have a9:fU f (a.drop c)=[]:=IW f a c y;have bo:RJ (pre ++ bF a=l):=by show _=_;rw[← P.out,a9,Ud];exact T.out
   clear a9;go_wp2;go_ret;exact⟨_,rfl,by rw[bo.out];exact t,L.out⟩
theorem ai(s:ByteArray):(bytesOf s).length=s.size:=by
 unfold bytesOf;simp
theorem jo(s:ByteArray):Lib.strCells s=ax (bytesOf s):=by
 unfold Lib.strCells ax bytesOf;simp
theorem iH(s:ByteArray):∀ x∈bytesOf s,x<256:=by
 intro x a;unfold bytesOf at a;obtain⟨b,_,rfl⟩:=S5.1 a;exact b.toNat_lt
theorem qg{P:RM}(w:RD)(base:Nat)(t u ty e:RO)(i:Ur)(l:P.underlying t=Ry (.slice e))(m:P.underlying u=Ry .string)(g:P.info? e=Ry i)(y:i.zero=Ry (.int .u8 0))
 (k:i.size=1) (x:i.bytes=1) (v:RB) (n:Nat) (f:List RB) (h:w.ownsRow base e 1 v n f) (s:ByteArray)
 (r:n+s.size≤R3) (A:n+s.size≤140737488355328) (G:base≤w.heap.size):
 ∃ o w',(Vc #[t,u] ty #[v,.string s]).run P w= .ok o w'∧w'.ownsRow base e 1 o (n+s.size) (f ++ Lib.strCells s)∧aK w w' v o:=by
 obtain⟨o,w',j,K,I,J⟩:=Lib.run_append_own_string (P:=P) w base t u ty e i l m g y k x v n f h s r A G;refine⟨o,w',j,K,I,?_⟩;unfold R3 at r;rcases h.2 with⟨rfl,rfl⟩|⟨d,b,p,rfl,O,C,S,R,B,T⟩
 ·by_cases M:s.size=0
  ·rw[J.2 ⟨rfl,M⟩];exact fun _ E=>.inl E
  ·have F:=Lib.run_append_own_string (P:=P) w w.heap.size t u ty e i l m g y k x _ 0 f ⟨h.1,.inl ⟨rfl,rfl⟩⟩ s r A (RG _);obtain⟨U,z,a,L,-,-⟩:=F;rw[j] at a;cases a;exact fun q c=>.inr (L.lt q c).1
 ·by_cases D:n+s.size≤b
  ·by_cases Q:0<b
   ·obtain⟨z,a,-,-⟩:∃ z,(Vc #[t,u] ty #[.slice (Ry ⟨d,0,RA⟩) n b,.string s]).run P w= .ok (.slice (Ry ⟨d,0,RA⟩) (n+s.size) b) z∧True∧True:=by
     have H:p.size=b:=by simpa using B
     exact⟨_,Lib.run_append_room_string (P:=P) w t u ty e i l m g k d n b p C s D (by omega),trivial,trivial⟩
    rw[j] at a;cases a;exact fun q c=>.inl c
   ·have H:p.size=b:=by simpa using B
    have a:=Lib.run_append_room_string (P:=P) w t u ty e i l m g k d n b p C s D (by omega);rw[j] at a;cases a;exact fun q c=>.inl c
  ·have N:f.length=n:=by simpa using h.1
   have a:=Lib.run_append_grow_string (P:=P) w t u ty e i (.int .u8 0) l m g y ⟨d,0,RA⟩ n b f (by rw[k];simpa using N) (h.cells (g:=d) rfl) s (by omega) (by omega) (by rw[x];exact growslice_fits (by omega) (by omega));rw[j] at a;cases a;intro q c;simp[Tf] at c;exact .inr (by omega)
theorem ew{P:RM}(w:RD){ops:Array Te}{rest:List Te}{o:Te}{a:TZ}{Q:Exit→TZ→RD→Prop}(p:o.guard=RA)(sl x:SG)(t u:RO)
 (r:o.op= .call {callee:=.builtin .append,args:= #[sl,x],argTypes:= #[t,u]})
 (base:Nat) (e:RO) (i:Ur) (C:P.underlying t=Ry (.slice e)) (D:P.underlying u=Ry .string) (q:P.info? e=Ry i) (F:i.zero=Ry (.int .u8 0))
 (B:i.size=1) (l:i.bytes=1) (v:RB) (n:Nat) (c:List RB) (A:a.eval sl=v) (y:w.ownsRow base e 1 v n c) (s:ByteArray) (E:a.eval x= .string s)
 (g:n+s.size≤R3) (m:n+s.size≤140737488355328) (k:base≤w.heap.size)
 (h:∀ b w',w'.ownsRow base e 1 b (n+s.size) (c ++ Lib.strCells s)→aK w w' v b→wpList P ops Q rest (a.put o.dst b) w'):wpList P ops Q (o :: rest) a w:=by
 refine wpList_plain p fun G j=>?_;obtain⟨b,w',z,d,f⟩:=qg (P:=P) w base t u o.type e i C D q F B l v n c y s g m k;unfold Oper.wp Sd;simp only[r,Vj,invoke,builtin,Ue,Sem.run_pure,Result.andThen_ok,List.map_toArray,UP,List.map_nil,A,E,z];exact j _ _ (h b w' d f)
def aR (k:Int)(v:aD):List Nat:=if k=1 then aA (zz v.n) else if k=2 then[byteOf v.n] else aA v.s.size ++ bytesOf v.s
theorem jS(k:Int)(v:aD)(h:v.s.size≤32):(aR k v).length≤42:=by
 have a:=dL 10 (zz v.n);have b:=dL 10 v.s.size;unfold aR
 split
 ·unfold aA;omega
 ·split
  ·simp
  ·rw[RI,ai];unfold aA;omega
structure mN(v:aD):Prop where
 lo: -9223372036854775808≤v.n
 hi:v.n≤9223372036854775807
 sz:v.s.size≤32
theorem aK.box{w a:RD}{v v1:RB}{o:UQ}(h:aK (w.alloc o) a v v1):aK w a v v1:=((aK.refl w v).alloc o).trans h
theorem sF{w a:RD}{o:UQ}(h:RQ (w.alloc o).heap.size (w.alloc o) a):RQ w.heap.size w a:=
 ((R5 _ _).alloc (RG _) o).trans (h.mono (by simp))
theorem JV{w d:RD}{u u1 a b c:RB}{t:RO}(e:u.ownBlock≠Ry w.heap.size)(h:aK (w.alloc (.cells #[a,b,c] t)) d u u1):d.cell? ⟨w.heap.size,2,RA⟩=Ry c:=
 h.fS.cell (a:=⟨w.heap.size,2,RA⟩) (v:=c) (by simp) (fun h=>e h.symm)
theorem gN(u:RB)(pre:List Nat)(v:aD)(k:Int)(base:Nat)(w:RD)(C:k=1∨k=2∨k=3)(F:mN v)(O:pre.length≤4000000)(M:base≤w.heap.size)
 (c:w.ownsRow base 5 1 u pre.length (ax pre)):
 Sc (aa.of Rz) 122 #[u,.agg #[.bool v.null,.int .i64 v.n,.string v.s],.int .i64 k] w fun e w'=>∃ j,e= .returned j∧w'.ownsRow base 5 1 j (pre ++ aR k v).length (ax (pre ++ aR k v))∧aK w w' u j:=by
 obtain⟨r,n,o,p,q⟩:=S3 aa.qu;obtain⟨l,m,L⟩:=F;rcases C with rfl|rfl|rfl
 ·rw[show aR 1 v=aA (zz v.n) from by simp[aR]];have y:=Cn v.n l m;have g:RJ (∀ a,Sc (aa.of Rz) 121 #[u,.int .u64 (zz v.n)] (w.alloc a) fun e w'=>∃ b,e= .returned b∧w'.ownsRow base 5 1 b (pre ++ aA (zz v.n)).length (ax (pre ++ aA (zz v.n)))∧aK (w.alloc a) w' u b):=fun a=>
   mP u pre (zz v.n) base (w.alloc a) (Ap _ l m) (by omega) (by simp;omega) (c.alloc a)
  clear c;go_enter aa.func122,Tryz.ntmps122
  go_wp2_with first
   |(go_at_call 140;refine(y _).mono ?_;rintro e t ⟨rfl,rfl⟩)
   |(go_at_call 121;refine(g.out _).mono ?_;rintro e t ⟨J,rfl,i,f⟩)
  go_ret;exact⟨_,rfl,i,f.box⟩
 ·rw[show aR 2 v=[byteOf v.n] from by simp[aR]];have G:VF.wrap v.n=v.n % 256:=by simp[IntKind.wrap,VI,Vq]
  rw[lB] at G;generalize byteOf v.n=K at*;go_enter aa.func122,Tryz.ntmps122
  go_wp2_with (at_builtin;refine aL _ rfl _ _ 133 rfl base 5 r (.int .u8 0) 1 1 aa.underlying133 n o p q rfl (by decide) _ pre.length _ rfl ((c.alloc _).alloc _) ⟨w.heap.size+1,0,RA⟩ 1 1 [.int .u8 (K:Int)] rfl (by decide) rfl (by simpa using ga (w.alloc _) _ _) (iy _) (by unfold R3;omega) (by omega) (by simp;omega) ?_;intro s x d h)
  go_ret;have B:aK w x u s:=aK.box (aK.append h);rw[ey] at d;exact⟨_,rfl,by simpa using d,B⟩
 ·rw[show aR 3 v=aA v.s.size ++ bytesOf v.s from by simp[aR],← R9];have Q:=dL 10 v.s.size;have E:u.ownBlock≠Ry w.heap.size:=fun z=>by have:=(c.lt _ z).2;omega
  have g:RJ (∀ a,Sc (aa.of Rz) 84 #[u,.int .i64 (v.s.size:Int)] (w.alloc a) fun e w'=>∃ b,e= .returned b∧w'.ownsRow base 5 1 b (pre ++ aA v.s.size).length (ax (pre ++ aA v.s.size))∧aK (w.alloc a) w' u b):=fun a=>
   cz u pre v.s.size base (w.alloc a) (by omega) (by omega) (by simp;omega) (c.alloc a)
  have P:(pre ++ aA v.s.size).length≤4000010:=by rw[RI];unfold aA;omega
  generalize pre ++ aA v.s.size=I at*;have A:=ai v.s;have D:=jo v.s;generalize bytesOf v.s=R at*;clear c;go_enter aa.func122,Tryz.ntmps122
  go_wp2_with first
   |(go_at_call 84;refine(g.out _).mono ?_;rintro e t ⟨J,rfl,i,f⟩;have N:=JV E f;have H:=f.fS.size)
   |(at_builtin;refine ew _ rfl _ _ 133 9 rfl base 5 r aa.underlying133 aa.underlying9 n o p q _ I.length _ rfl i v.s rfl ?_ ?_ ?_ ?_;(unfold R3;omega);omega;(simp at H;omega);intro s x d h)
  go_ret;rw[D] at d;refine⟨_,rfl,?_,(f.box).trans h⟩;rw[← A] at d;simpa [ax] using d
def wid (n:Nat):Nat:=if n≤1 then 0 else if n≤2 then 1 else if n≤4 then 2 else if n≤8 then 3 else if n≤16 then 4 else if n≤32 then 5 else if n≤64 then 6 else 7
theorem yx(n:Nat):wid n≤7:=by
 unfold wid
 repeat' split
 all_goals omega
theorem GH:∀ n,n<101→∀ t,t<8→(2 ^ t<n↔t<wid n):=by decide +kernel
theorem r8(n:Nat)(h:n≤100)(j:Nat)(c:j<n):j<2 ^ wid n:=by
 have a:=yx n;have b:=(GH n (by omega) (wid n) (by omega));omega
theorem Ml:∀ x,x<128→Lib.bitLen x=wid (x+1):=by decide +kernel
theorem Qt(n:Nat)(p:n≤100)(w:RD):Sc (aa.of Rz) 110 #[.int .i64 n] w fun e w'=>e= .returned (.int .i64 (wid n))∧w'=w:=by
 have q:=yx n;have f:RJ (∀ a,a≤7→(pw a<(n:Int)↔a<wid n)):=fun a l=>by
  have:=GH n (by omega) a (by omega);unfold pw;omega
 generalize wid n=c at*;go_enter aa.func110,Tryz.ntmps110
 go_wp2_with fail
 go_loopw [3] (fun d wr=>∃ a:Nat,a≤c∧d= .int .i64 a∧wr=w) (fun d _=>8 - (SC d).toNat)
 case atStart=>exact⟨0,Sk _,rfl,rfl⟩
 case round=>
  obtain⟨a,l,rfl,rfl⟩:=hrel;have g:RJ (∀ w,Sc (aa.of Rz) 135 #[.int .i64 a] w fun e w'=>e= .returned (.int .i64 (pw a))∧w'=w):=fun w=>Iy a (by omega) w;have b:=f.out a (by omega);generalize pw a=m at*;by_cases h:a<c
  ·have k:=b.2 h;clear b
   go_wp2_with (go_at_call 135;refine(g.out _).mono ?_;rintro e o ⟨rfl,rfl⟩)
   go_roundw
   case rel=>exact⟨a+1,by omega,by go_num,trivial⟩
   case measure=>simp[SC];omega
  ·have k:¬ m<(n:Int):=fun j=>h (b.1 j);have i:RJ (a=c):=by show a=c;omega
   clear b f
   go_wp2_with (go_at_call 135;refine(g.out _).mono ?_;rintro e o ⟨rfl,rfl⟩)
   go_ret;exact⟨by rw[← i.out];rfl,rfl⟩
theorem L1:∀ y:Nat,y<128→∀ h:y<Lib.len8tab.size,Lib.len8tab[y].toNat=Lib.bitLen y:=by decide +kernel
theorem Ic(x:Int)(w:RD)(a:0≤x)(h1:x≤127):Sc (aa.of Rz) 175 #[.int .u64 x] w fun e w'=>e= .returned (.int .i64 (Lib.bitLen x.toNat))∧w'=w:=by
 go_enter aa.func175,Tryz.ntmps175;go_wp2
 all_goals (go_ret;refine⟨congrArg Ending.returned (congrArg (TW VQ) ?_),rfl⟩)
 all_goals
  have b:=L1 x.toNat (by omega) (by omega);have c:=Lib.bitLen_le8' x a (by omega);rw[b];unfold SW;omega
theorem M9(x:Int)(w:RD)(a:0≤x)(h1:x≤127):Sc (aa.of Rz) 167 #[.int .u64 x] w fun e w'=>e= .returned (.int .i64 (Lib.bitLen x.toNat))∧w'=w:=by
 go_enter aa.func167,Tryz.ntmps167
 go_wp2_with (go_at_call 175;refine(Ic x _ a h1).mono ?_;rintro e w' ⟨rfl,rfl⟩)
 go_ret;exact⟨rfl,rfl⟩
theorem uJ(n:Nat)(d:n≤100)(w:RD):Sc (aa.of Rz) 158 #[.int .i64 n] w fun e w'=>e= .returned (.int .i64 (wid n))∧w'=w:=by
 by_cases c:n<2
 ·rw[show wid n=0 from by unfold wid;rw[if_pos (by omega)]];go_enter aa.func158,Tryz.ntmps158;go_wp2;go_ret;exact⟨rfl,rfl⟩
 ·have b:RJ (∀ w,Sc (aa.of Rz) 167 #[.int .u64 ((n:Int) - 1)] w fun e w'=>e= .returned (.int .i64 (wid n))∧w'=w):=fun w=>by
   have a:=M9 ((n:Int) - 1) w (by omega) (by omega);rw[Ml _ (by omega),show((n:Int) - 1).toNat+1=n by omega] at a;exact a
  go_enter aa.func158,Tryz.ntmps158
  go_wp2_with (go_at_call 167;refine(b.out _).mono ?_;rintro e w' ⟨rfl,rfl⟩)
  go_ret;exact⟨rfl,rfl⟩
def Apart(u v:RB):Prop:=u.ownBlock=RA∨u.ownBlock≠v.ownBlock
theorem Apart.symm{u v:RB}(h:Apart u v):Apart v u:=by
 rcases h with h|h
 ·cases a:v.ownBlock with
  |none=>exact .inl a
  |some c=>exact .inr (by rw[h,a];simp)
 ·exact .inr (fun b=>h b.symm)
theorem cZ{w w':RD}{base e a n:Nat}{u v f:RB}{b:List RB}(h:w.ownsRow base e a u n b)(d:aK w w' v f)(c:Apart u v):w'.ownsRow base e a u n b:=
 h.kept d.fS c
theorem Apart.jv{w w':RD}{base e j n:Nat}{u v f:RB}{k:List RB}(g:Apart u v)(h:w.ownsRow base e j u n k)(i:aK w w' v f):Apart u f:=by
 rcases g with a|a
 ·exact .inl a
 ·cases b:u.ownBlock with
  |none=>exact .inl b
  |some c=>
   right
   intro e;rw[b] at e a;have l:=(h.lt c b).2;rcases i.at_ c e.symm with d|d
   ·exact a d.symm
   ·omega
theorem Apart.new{w:RD}{base B e g n:Nat}{a i f:Nat}{u v:RB}{j k:List RB}{w':RD}(h:w.ownsRow base e g u n j)(d:w'.ownsRow w.heap.size a i v f k):Apart u v:=by
 cases b:u.ownBlock with
 |none=>exact .inl b
 |some c=>
  right
  intro a;rw[b] at a;have l:=(h.lt c b).2;have m:=(d.lt c a.symm).1;omega
def ql (w:RD)(v:RB)(l:List aD):Prop:=∃ a b d c,v= .slice a l.length c∧ot w a b d l
theorem ql.below{w w':RD}{v:RB}{l:List aD}(h:ql w v l)(d:RQ w.heap.size w w'):ql w' v l:=by
 obtain⟨a,b,e,c,rfl,h⟩:=h;exact⟨a,b,e,c,rfl,h.below d⟩
theorem DM(x:aD)(r:List aD):aE (x :: r)=[.bool x.null,.int .i64 x.n,.string x.s] ++ aE r:=by simp[aE]
theorem mK(a b:List aD):aE (a ++ b)=aE a ++ aE b:=by simp[aE]
theorem q8(x:aD):aE [x]=[.bool x.null,.int .i64 x.n,.string x.s]:=by simp[aE]
theorem k7(l:List aD):∀ (j:Nat) (h:j<l.length),(aE l)[j*3]? =Ry (.bool l[j].null)∧(aE l)[j*3+1]? =Ry (.int .i64 l[j].n)∧(aE l)[j*3+2]? =Ry (.string l[j].s):=by
 induction l with
 |nil=>intro j h;simp at h
 |cons d c b=>
  intro j h;rw[DM];cases j with
  |zero=>simp
  |succ j=>
   have:=b j (by simpa using h);have a:(j+1)*3=j*3+3:=by omega
   rw[a,SX (by simp),SX (by simp),SX (by simp)];simpa [show j*3+3+1 - 3=j*3+1 by omega,show j*3+3+2 - 3=j*3+2 by omega] using this
theorem ql.cm{w:RD}{base:Nat}{v:RB}{l:List aD}(h:w.ownsRow base 59 3 v l.length (aE l)):ql w v l:=by
 rcases h.2 with⟨rfl,f⟩|⟨c,e,g,rfl,i,m,n,j,k,o⟩
 ·have:l=[]:=Ta f;subst this;exact⟨RA,0,0,0,rfl,⟨fun h=>by simp at h,fun h=>by simp at h,fun a h=>by simp at h,fun a h=>by simp at h,fun a h=>by simp at h⟩⟩
 ·have d:=h.cells (g:=c) rfl;refine⟨Ry ⟨c,0,RA⟩,c,0,e,rfl,⟨fun _=>rfl,fun _=>(h.lt c rfl).2,?_,?_,?_⟩⟩
  ·intro a b;have:=d _ _ (k7 l a b).1;simpa [TC] using this
  ·intro a b;have:=d _ _ (k7 l a b).2.1;simpa [TC] using this
  ·intro a b;have:=d _ _ (k7 l a b).2.2;simpa [TC] using this
def idx:List aD→aD→Nat
 | [],_=>0
 |y :: b,a=>if DO y a then 0 else idx b a+1
theorem OT(l:List aD)(x:aD):idx l x≤l.length:=by
 induction l with
 |nil=>simp[idx]
 |cons c b a=>simp only[idx];split<;>simp<;>omega
theorem EJ(l:List aD)(x:aD):∀ j,(h:j<l.length)→j<idx l x→DO l[j] x=RE:=by
 induction l with
 |nil=>intro j h;simp at h
 |cons e d c=>
  intro j h a;simp only[idx] at a
  split at a
  ·omega
  ·rename_i b;cases j with
   |zero=>simpa using b
   |succ j=>exact c j (by simpa using h) (by omega)
theorem EI(l:List aD)(x:aD)(h:idx l x<l.length):l[idx l x]=x:=by
 induction l with
 |nil=>simp at h
 |cons c d b=>
  simp only[idx] at h ⊢;by_cases a:DO c x=RF
  ·simp only[a,if_true];exact mA.1 a
  ·simp only[a] at h ⊢;exact b (by simpa using h)
def aH (k:Int)(l:List aD):List Nat:=l.flatMap (aR k)
theorem A4(k:Int)(l:List aD)(i:Nat)(h:i<l.length):aH k (l.take (i+1))=aH k (l.take i) ++ aR k l[i]:=by
 rw[RR h];unfold aH;rw[SU,SO]
theorem jd(k:Int)(l:List aD)(h:∀ x∈l,mN x):(aH k l).length≤42*l.length:=by
 induction l with
 |nil=>simp[aH]
 |cons x f c=>
  have a:=c (fun d b=>h d (by simp[b]));have e:=jS k x (h x (by simp)).sz;unfold aH at a ⊢;simp at a ⊢;omega
theorem kH(u y:RB)(pre:List Nat)(l:List aD)(k:Int)(base:Nat)(w:RD)(M:k=1∨k=2∨k=3)(v:∀ x∈l,mN x)(Y:l.length≤100)(X:pre.length≤50000)(V:base≤w.heap.size)
 (c:w.ownsRow base 5 1 u pre.length (ax pre)) (j:∀ w' b,aK w w' u b→ql w' y l):
 Sc (aa.of Rz) 146 #[u,y,.int .i64 k] w fun e w'=>∃ b,e= .returned b∧w'.ownsRow base 5 1 b (pre ++ aH k l).length (ax (pre ++ aH k l))∧aK w w' u b:=by
 obtain⟨G,q,z,T,rfl,d⟩:=j w u (aK.refl _ _);have B:RJ (∀ w' b,aK w w' u b→∃ q z,ot w' G q z l):=fun w' b K=>by
  obtain⟨R,H,Q,U,J,I⟩:=j w' b K;cases J;exact⟨H,Q,I⟩
 have p:RJ (∀ x∈l,mN x):=v;clear j d v;go_enter aa.func146,Tryz.ntmps146
 go_wp2_with fail
 go_loopw [0,11] (fun r m wr=>∃ (a:Nat),a≤l.length∧m= .int .i64 a∧wr.ownsRow base 5 1 r (pre ++ aH k (l.take a)).length (ax (pre ++ aH k (l.take a)))∧aK w wr u r) (fun _ m _=>l.length - (SC m).toNat)
 case atStart=>exact⟨0,Sk _,rfl,by simpa [aH] using c,aK.refl _ _⟩
 case round=>
  clear c;obtain⟨a,W,rfl,c,f⟩:=hrel;have n:RJ (aK w wr u u0):=f;have ab:w.heap.size≤wr.heap.size:=f.fS.size;by_cases g:a<l.length
  ·obtain⟨S,ad,d⟩:=B.out wr u0 f;obtain rfl:=d.addr (by omega);have ae:=d.c0 a g;have al:=d.c1 a g;have am:=d.c2 a g;have o:=A4 k l a g;have N:(aH k (l.take a)).length≤4200:=by
    have:=jd k (l.take a) (fun x P=>p.out x (Uc P));rw[Tb] at this;omega
   have F:RJ (mN l[a]):=p.out _ (RV g);have E:RJ (aH k (l.take (a+1))=aH k (l.take a) ++ aR k l[a]):=o;clear o d f;generalize l[a]=x at*;have Z:(pre ++ aH k (l.take a)).length≤60000:=by rw[RI];omega
   generalize t:pre ++ aH k (l.take a)=i at*;have D:RJ (pre ++ aH k (l.take a)=i):=t;clear t N;have A:RJ (∀ h,Sc (aa.of Rz) 122 #[u0,.agg #[.bool x.null,.int .i64 x.n,.string x.s],.int .i64 k] (wr.alloc h) fun e w'=>∃ b,e= .returned b∧w'.ownsRow base 5 1 b (i ++ aR k x).length (ax (i ++ aR k x))∧aK (wr.alloc h) w' u0 b):=fun h=>
    gN u0 i x k base (wr.alloc h) M F.out (by omega) (by simp;omega) (c.alloc h)
   go_wp2_with (go_at_call 122;refine(A.out _).mono ?_;rintro e ar ⟨ao,rfl,O,L⟩)
   go_roundw
   case rel=>
    refine⟨a+1,by omega,by go_num,?_,n.out.trans L.box⟩;rw[E.out,← R9,D.out];exact O
   case measure=>simp[SC];omega
  ·have s:l.take a=l:=SF (by omega);rw[s] at c;have C:RJ (wr.ownsRow base 5 1 u0 (pre ++ aH k l).length (ax (pre ++ aH k l))):=c;clear c s f;go_wp2;go_ret;exact⟨_,rfl,C.out,n.out⟩
def bp:Int→List aD→List Nat
 |_,[]=>[]
 |a,v :: b=>aA (zz (SW (v.n - a))) ++ bp v.n b
def ez:Int→List aD→Int
 |a,[]=>a
 |_,v :: b=>ez v.n b
theorem tX(a:Int)(l:List aD)(x:aD):bp a (l ++ [x])=bp a l ++ aA (zz (SW (x.n - ez a l))):=by
 induction l generalizing a with
 |nil=>simp[bp,ez]
 |cons d c b=>simp[bp,ez,b]
theorem wO(a:Int)(l:List aD)(x:aD):ez a (l ++ [x])=x.n:=by
 induction l generalizing a with
 |nil=>simp[ez]
 |cons d c b=>simp[ez,b]
theorem qp(a:Int)(l:List aD):(bp a l).length≤10*l.length:=by
 induction l generalizing a with
 |nil=>simp[bp]
 |cons b f c=>
  have d:=c b.n;have e:=dL 10 (zz (SW (b.n - a)));simp only[bp,RI,TA];unfold aA;omega
theorem KQ(l:List aD)(h:∀ x∈l,mN x)(a:Int)(c: -9223372036854775808≤a)(h1:a≤9223372036854775807): -9223372036854775808≤ez a l∧ez a l≤9223372036854775807:=by
 induction l generalizing a with
 |nil=>exact⟨c,h1⟩
 |cons b f e=>exact e (fun x d=>h x (by simp[d])) b.n (h b (by simp)).lo (h b (by simp)).hi
theorem fQ(x:Int): -9223372036854775808≤SW x∧SW x≤9223372036854775807:=by unfold SW;omega
theorem G2{w d:RD}{u u1 a b c:RB}{t:RO}(e:u.ownBlock≠Ry w.heap.size)(h:aK (w.alloc (.cells #[a,b,c] t)) d u u1):d.cell? ⟨w.heap.size,1,RA⟩=Ry b:=
 h.fS.cell (a:=⟨w.heap.size,1,RA⟩) (v:=b) (by simp) (fun h=>e h.symm)
theorem uP(u y:RB)(pre:List Nat)(l:List aD)(base:Nat)(w:RD)(v:∀ x∈l,mN x)(am:l.length≤100)(ae:pre.length≤50000)(Z:base≤w.heap.size)
 (c:w.ownsRow base 5 1 u pre.length (ax pre)) (k:∀ w' b,aK w w' u b→ql w' y l):
 Sc (aa.of Rz) 143 #[u,y] w fun e w'=>∃ b,e= .returned b∧w'.ownsRow base 5 1 b (pre ++ bp 0 l).length (ax (pre ++ bp 0 l))∧aK w w' u b:=by
 obtain⟨G,p,z,X,rfl,d⟩:=k w u (aK.refl _ _);have B:RJ (∀ w' b,aK w w' u b→∃ p z,ot w' G p z l):=fun w' b L=>by
  obtain⟨V,H,T,Y,K,J⟩:=k w' b L;cases K;exact⟨H,T,J⟩
 have o:RJ (∀ x∈l,mN x):=v;clear k d v;go_enter aa.func143,Tryz.ntmps143
 go_wp2_with fail
 go_loopw [0,5,10] (fun q S m wr=>∃ (a:Nat),a≤l.length∧m= .int .i64 a∧S= .int .i64 (ez 0 (l.take a))∧wr.ownsRow base 5 1 q (pre ++ bp 0 (l.take a)).length (ax (pre ++ bp 0 (l.take a)))∧aK w wr u q) (fun _ _ m _=>l.length - (SC m).toNat)
 case atStart=>exact⟨0,Sk _,rfl,rfl,by simpa [bp] using c,aK.refl _ _⟩
 case round=>
  clear c;obtain⟨a,ab,rfl,rfl,c,h⟩:=hrel;have n:RJ (aK w wr u u0):=h;have ar:w.heap.size≤wr.heap.size:=h.fS.size;by_cases f:a<l.length
  ·obtain⟨W,aw,d⟩:=B.out wr u0 h;obtain rfl:=d.addr (by omega);have a0:=d.c0 a f;have a1:=d.c1 a f;have a2:=d.c2 a f;have M:(bp 0 (l.take a)).length≤1000:=by
    have:=qp 0 (l.take a);rw[Tb] at this;omega
   have al:=(KQ (l.take a) (fun x R=>o.out x (Uc R)) 0 (by omega) (by omega));have U:RJ (mN l[a]):=o.out _ (RV f);have F:RJ (bp 0 (l.take (a+1))=bp 0 (l.take a) ++ aA (zz (SW (l[a].n - ez 0 (l.take a))))):=by
    show _=_;rw[RR f,tX]
   have C:RJ (ez 0 (l.take (a+1))=l[a].n):=by
    show _=_;rw[RR f,wO]
   clear d h;generalize l[a]=x at*;generalize ez 0 (l.take a)=g at*;have ao:(pre ++ bp 0 (l.take a)).length≤60000:=by rw[RI];omega
   generalize t:pre ++ bp 0 (l.take a)=j at*;have E:RJ (pre ++ bp 0 (l.take a)=j):=t;clear t M;have N:u0.ownBlock≠Ry wr.heap.size:=fun I=>by have:=(c.lt _ I).2;omega
   obtain⟨O,Q⟩:=fQ (x.n - g);have A:RJ (∀ i,Sc (aa.of Rz) 122 #[u0,.agg #[.bool RE,.int .i64 (SW (x.n - g)),.string ⟨#[]⟩],.int .i64 1] (wr.alloc i) fun e w'=>∃ b,e= .returned b∧w'.ownsRow base 5 1 b (j ++ aA (zz (SW (x.n - g)))).length (ax (j ++ aA (zz (SW (x.n - g)))))∧aK (wr.alloc i) w' u0 b):=fun i=>
    gN u0 j ⟨RE,SW (x.n - g),⟨#[]⟩⟩ 1 base (wr.alloc i) (.inl rfl) ⟨O,Q,(by decide:(⟨#[]⟩:ByteArray).size≤32)⟩ (by omega) (by simp;omega) (c.alloc i)
   go_wp2_with (go_at_call 122;refine(A.out _).mono ?_;rintro e a4 ⟨a3,rfl,P,r⟩;have ad:=G2 N r)
   go_roundw
   case rel=>
    refine⟨a+1,by omega,by go_num,by rw[C.out],?_,n.out.trans r.box⟩;rw[F.out,← R9,E.out];exact P
   case measure=>simp[SC];omega
  ·have s:l.take a=l:=SF (by omega);rw[s] at c;have D:RJ (wr.ownsRow base 5 1 u0 (pre ++ bp 0 l).length (ax (pre ++ bp 0 l))):=c;clear c s h;go_wp2;go_ret;exact⟨_,rfl,D.out,n.out⟩
theorem oM(x:Int):∀ u∈[TW .i64 x],u.oneCell'=RF:=by
 intro u a;simp at a;subst a;rfl
theorem Ed(u:RB)(l:List aD)(w:RD)(O:l.length≤100)(I:ql w u l):
 Sc (aa.of Rz) 145 #[u] w fun e w'=>∃ v,e= .returned v∧w'.ownsRow w.heap.size 3 1 v l.length (aY (l.map aD.n))∧RQ w.heap.size w w':=by
 obtain⟨A,B,J,M,rfl,b⟩:=I;obtain⟨t,k,q,r,s⟩:=S3 aa.zH;have y:RJ (ot w A B J l):=b;clear b;go_enter aa.func145,Tryz.ntmps145
 go_wp2_with (at_make;refine TM _ rfl _ _ 22 rfl w.heap.size 3 t (.int .i64 0) 1 aa.underlying22 k q r .i64 .i64 _ l.length rfl rfl rfl (by rw[s];omega) (by unfold R3;omega) (RG _) ?_;intro K o j)
 have i:RQ w.heap.size w K:=(R5 _ _).grown j (RG _) (by simp);clear j
 go_loopw [3,11] (fun C g wr=>∃ (a:Nat),a≤l.length∧g= .int .i64 a∧wr.ownsRow w.heap.size 3 1 C a (aY ((l.take a).map aD.n))∧RQ w.heap.size w wr) (fun _ g _=>l.length - (SC g).toNat)
 case atStart=>exact⟨0,Sk _,rfl,o,i⟩
 case round=>
  clear o i;obtain⟨a,N,rfl,c,d⟩:=hrel;have h:RJ (RQ w.heap.size w wr):=d;have H:w.heap.size≤wr.heap.size:=d.size;by_cases f:a<l.length
  ·have b:=y.out.below d;obtain rfl:=b.addr (by omega);have P:=b.c0 a f;have Q:=b.c1 a f;have R:=b.c2 a f;have z:RJ ((l.take (a+1)).map aD.n=(l.take a).map aD.n ++ [l[a].n]):=by
    show _=_;rw[RR f,SQ];rfl
   clear b d;generalize l[a]=L at*
   go_wp2_with (at_builtin;refine aL _ rfl _ _ 22 rfl w.heap.size 3 t (.int .i64 0) 1 8 aa.underlying22 k q r s rfl (by decide) _ a _ rfl ((c.alloc _).alloc _) ⟨wr.heap.size+1,0,RA⟩ 1 1 [.int .i64 L.n] rfl (by decide) rfl (by simpa using ga (wr.alloc _) _ _) (oM _) (by unfold R3;omega) (by omega) (by simp;omega) ?_;intro S T p G)
   go_roundw
   case rel=>
    have F:=aK.box (aK.append G);rw[gG] at p;refine⟨a+1,by omega,by go_num,by rw[z.out];exact p,h.out.trans (F.below (fun D E=>(c.lt D E).1) H)⟩
   case measure=>simp[SC];omega
  ·have m:l.take a=l:=SF (by omega);have n:a=l.length:=by omega
   rw[m] at c;have x:RJ (wr.ownsRow w.heap.size 3 1 u3 l.length (aY (l.map aD.n))):=by rw[n] at c;exact c
   clear c m d n;go_wp2;go_ret;exact⟨_,rfl,x.out,h.out⟩
def qi (w:RD)(v:RB)(a:List Int):Prop:=∃ d b e f,v= .slice d a.length f∧(0<a.length→d=Ry ⟨b,e,RA⟩)∧(0<a.length→b<w.heap.size)∧∀ c,c<a.length→w.cell? ⟨b,e+c,RA⟩=Ry (.int .i64 (a.getD c 0))
theorem qi.cm{w:RD}{base:Nat}{v:RB}{a:List Int}(h:w.ownsRow base 3 1 v a.length (aY a)):qi w v a:=by
 rcases h.2 with⟨rfl,f⟩|⟨b,e,i,rfl,j,m,n,k,l,o⟩
 ·have:a=[]:=Ta f;subst this;exact⟨RA,0,0,0,rfl,fun h=>by simp at h,fun h=>by simp at h,fun d h=>by simp at h⟩
 ·have g:=h.cells (g:=b) rfl;refine⟨Ry ⟨b,0,RA⟩,b,0,e,rfl,fun _=>rfl,fun _=>(h.lt b rfl).2,?_⟩;intro d c;have:=g _ _ (EH a d c);rw[eE c];simpa [TC] using this
theorem yD(u ao:RB)(pre l:List Nat)(d base:Nat)(w:RD)(L:d≤16)(a6:l.length≤100)(a7:∀ x∈l,x<2 ^ d)(b0:pre.length≤60000)(bv:base≤w.heap.size)
 (ba:w.ownsRow base 5 1 u pre.length (ax pre)) (J:∀ w' D,aK w w' u D→qi w' ao (l.map fun(n:Nat)=>(n:Int))):
 Sc (aa.of Rz) 157 #[u,ao,.int .i64 d] w fun e w'=>∃ (v:RB) (a:List Nat),a.length=(l.length*d+7) / 8∧(∀ x∈a,x<256)∧V a=N d l∧
  e= .returned v∧w'.ownsRow base 5 1 v (pre ++ a).length (ax (pre ++ a))∧aK w w' u v:=by
 obtain⟨aw,H,O,bs,Z,-,-,-⟩:=J w u (aK.refl _ _);rw[Sy] at Z;subst Z;have ar:RJ (∀ w' D,aK w w' u D→∃ H O,(0<l.length→aw=Ry ⟨H,O,RA⟩)∧∀ A,(E:A<l.length)→w'.cell? ⟨H,O+A,RA⟩=Ry (.int .i64 ((l[A]:Nat):Int))):=fun w' D a4=>by
  obtain⟨bo,a0,bj,bt,U,o,bu,a1⟩:=J w' D a4;rw[Sy] at U;cases U;refine⟨a0,bj,by simpa using o,fun A Y=>?_⟩;rw[a1 A (by simpa using Y),eE (by simpa using Y)];simp
 clear J;obtain⟨am,X,ad,ae,al⟩:=S3 aa.qu;have bB:l.length*d≤1600:=UW a6 L;go_enter aa.func157,Tryz.ntmps157
 go_wp2_with fail
 go_loopw [0,7,8,13] (fun r E C M wr=>∃ (c b f:Nat) (a:List Nat),c≤l.length∧M= .int .i64 c∧E= .int .i64 b∧C= .int .i64 f∧f<8∧b<2 ^ f∧8*a.length+f=c*d∧(∀ x∈a,x<256)∧V a+256 ^ a.length*b=N d (l.take c)∧
  wr.ownsRow base 5 1 r (pre ++ a).length (ax (pre ++ a))∧aK w wr u r) (fun _ _ _ M _=>l.length - (SC M).toNat)
 case atStart=>exact⟨0,0,0,[],Sk _,rfl,rfl,rfl,by omega,by simp,by simp,by simp,by simp[V,N],by simpa using ba,aK.refl _ _⟩
 case round=>
  obtain⟨c,b,f,a,bx,rfl,rfl,rfl,b3,i,t,j,s,k,g⟩:=hrel;have h:RJ (8*a.length+f=c*d):=t;have m:RJ (V a+256 ^ a.length*b=N d (l.take c)):=s;clear s t;by_cases K:c<l.length
  ·obtain⟨br,b4,ab,T⟩:=ar.out _ _ g;obtain rfl:=ab (by omega);have a3:=T c K;clear ab T;have bi:l[c]<2 ^ d:=a7 _ (RV K);have be:(l[c]:Nat)<65536:=by have o:2 ^ d≤2 ^ 16:=Tu (by omega) L;omega
   have bA:(c+1)*d≤100*16:=UW (by omega) L;have P:RJ (V a+256 ^ a.length*(b+2 ^ f*l[c])=N d (l.take (c+1))):=OA a b _ f d c l K rfl h.out m.out;have S:RJ (8*a.length+(f+d)=(c+1)*d):=M4 _ _ _ _ h.out;have R:RJ (b+2 ^ f*l[c]<2 ^ (f+d)):=D6 b _ f d i bi;have a9:=K9 b l[c] f (by omega) be i;clear h m;generalize l[c]=x at*;generalize b+2 ^ f*x=o at*
   go_wp2_with fail
   clear a9
   go_loopw [0,7,8] (fun r E C wr=>∃ (b F:Nat) (a:List Nat),E= .int .i64 b∧C= .int .i64 F∧F<24∧b<2 ^ F∧8*a.length+F=(c+1)*d∧(∀ x∈a,x<256)∧V a+256 ^ a.length*b=N d (l.take (c+1))∧
    wr.ownsRow base 5 1 r (pre ++ a).length (ax (pre ++ a))∧aK w wr u r) (fun _ _ C _=>(SC C).toNat)
   case atStart=>exact⟨o,f+d,a,rfl,by go_num,by omega,R.out,S.out,j,P.out,k,g⟩
   case round=>
    clear k g j R S P i a3;obtain⟨b,p,a,rfl,rfl,b2,i,t,j,s,k,g⟩:=hrel;have h:RJ (8*a.length+p=(c+1)*d):=t;have m:RJ (V a+256 ^ a.length*b=N d (l.take (c+1))):=s;have a8:a.length≤200:=by omega
    have W:b<16777216:=by have o:2 ^ p≤2 ^ 24:=Tu (by omega) (by omega);omega
    clear s t;have q:RJ (aK w wr u u0):=g;have bd:w.heap.size≤wr.heap.size:=g.fS.size;have bb:(pre ++ a).length≤60200:=by rw[RI];omega
    clear g;by_cases a2:8≤p
    ·generalize z:pre ++ a=B at*;have G:RJ (pre ++ a=B):=z;clear z
     go_wp2_with (at_builtin;refine aL _ rfl _ _ 133 rfl base 5 am (.int .u8 0) 1 1 aa.underlying133 X ad ae al rfl (by decide) _ B.length _ rfl (k.alloc _) ⟨wr.heap.size,0,RA⟩ 1 1 [.int .u8 ((b:Int) % 256)] rfl (by decide) rfl (ga _ _ _) (iy _) (by unfold R3;omega) (by omega) (by simp;omega) ?_;intro bl bm y I)
     rw[show(b:Int) % 256=((b % 256:Nat):Int) from by omega,ey] at y
     go_roundw
     case rel=>exact⟨b / 256,p - 8,a ++ [b % 256],by go_num,by go_num,by omega,Ey b p a2 i,by have:=h.out;simp;omega,Gt a _ j (by omega),OC a b _ m.out,by rw[← R9,G.out];simpa using y,q.out.trans (aK.append I)⟩
     case measure=>simp[SC];omega
    ·go_wp2_with fail
     go_roundw
     case rel=>exact⟨c+1,b,p,a,by omega,by go_num,rfl,rfl,by omega,i,h.out,j,m.out,k,q.out⟩
     case measure=>simp[SC];omega
  ·have a5:c=l.length:=by omega
   subst a5;have Q:RJ (V a+256 ^ a.length*b=N d l):=by have:=m.out;rwa [SR] at this
   have a8:a.length≤200:=by have:=h.out;omega
   have W:b<256:=by have o:2 ^ f≤2 ^ 8:=Tu (by omega) (by omega);omega
   have q:RJ (aK w wr u u0):=g;have bd:w.heap.size≤wr.heap.size:=g.fS.size;have bb:(pre ++ a).length≤60200:=by rw[RI];omega
   clear g;by_cases b1:0<f
   ·generalize z:pre ++ a=B at*;have G:RJ (pre ++ a=B):=z;clear z
    go_wp2_with (at_builtin;refine aL _ rfl _ _ 133 rfl base 5 am (.int .u8 0) 1 1 aa.underlying133 X ad ae al rfl (by decide) _ B.length _ rfl (k.alloc _) ⟨wr.heap.size,0,RA⟩ 1 1 [.int .u8 (b:Int)] rfl (by decide) rfl (ga _ _ _) (iy _) (by unfold R3;omega) (by omega) (by simp;omega) ?_;intro bl bm y I)
    rw[ey] at y;go_ret;exact⟨_,a ++ [b],by have:=h.out;simp;omega,Gt a _ j W,by rw[B0,← Q.out];simp[V],rfl,by rw[← R9,G.out];simpa using y,q.out.trans (aK.append I)⟩
   ·have bc:f=0:=by omega
    subst bc;go_wp2;go_ret;exact⟨_,a,by have:=h.out;omega,j,by have:=Q.out;simp at i;subst i;simpa using this,rfl,k,q.out⟩
end Ec
end Go.Proofs.YtjidbonhhpkljaaGreat
