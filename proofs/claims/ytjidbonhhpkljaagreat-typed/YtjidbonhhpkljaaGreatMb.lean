/- What the proof stands on, in short names. -/
import Derived.Test.YtjidbonhhpkljaaGreatMa
import Derived.Conc.WalkWords
import Derived.Orders
import Derived.Conc.DeferLaws
import Derived.Conc.EventLaws
import Derived.Conc.Neutral
import Derived.Conc.AppendWalk
import Derived.Conc.SmallLaws
import Derived.Conc.AppendEvents3
import Derived.Deep.MidRow
import Derived.Laws.AppendOwn
import Derived.Laws.MakeOwn
import Derived.Great.BuildSlice
import Derived.RangeFuncRecord
import Derived.RangeFuncIn
import Derived.Below
import Derived.Test.YtjidbonhhpkljaaGreatProg
import Derived.KernelRfl
import Derived.WalkKit
import Derived.Test.YtjidbonhhpkljaaGreatRows
import Derived.ProofKit
import Derived.Deep.QuietTactic
import Derived.BigQuiet
import Derived.Laws.BytesArg
import Derived.Deep.RegionWith
import Derived.Laws.BitsLemmas
import Derived.ArgAppend
import Derived.Laws.CopyOwn
import Derived.Laws.StructEq
import Derived.Lib.AppendStr
import Derived.Lib.Strings
import Derived.Lib.Slices
import Derived.Lib.Small
import Derived.Lib.Walk
import Derived.Lib.BitFns
import Derived.Maps.OwnSet
import Derived.Maps.OwnOps
import Derived.DeepKeys4
set_option linter.all false
open Array renaming getD_eq_getD_getElem? → SH, getElem?_eq_getElem → SU, getElem?_eq_none → Tg, getElem?_eq_some_iff → R9, getElem?_modify → TV, getElem?_push → SN, getElem?_setIfInBounds → SQ, getElem?_setIfInBounds_ne → TR, length_toList → T5, range → VA, replicate → S8, size_push → TP
open BitVec renaming ofInt → UP
open Bool renaming and_eq_true → Sz, false → R6, false_eq_true → SD, not_eq_true' → Ve, or_eq_true → UU, true → R7
open Classical renaming choose → Tt, choose_spec → Sp
open False renaming elim → VP
open Go renaming Act → T6, Addr → SL, Calls → SF, Code → U7, Deferred → Uc, Ending → UQ, Event → Ti, Frame → Sn, Func → UB, FuncId → T1, GStep → V0, Goroutine → SM, IntKind → Uo, Item → UC, Obj → U9, Oper → Tx, Operand → S3, PanicEntry → Tv, Program → Sd, Sem → Ul, TypeId → Sg, TypeInfo → UL, Value → R2, World → R3, doReturn → UM, execOp → SE, exitTo → VQ, info_parts → TB, lt_of_block → Sf, maxLen → Sw, resolve → VE, results → SX, sizeOf → V3, stepG → SO, tryRecover → U2, typeInfo → UX, undef → Tq, underlying → U3, unwind → VR, wpList_append_fits → TJ, wpList_make_own → Ui, yielded → Tc, zeroValue → T9
open Go.Act renaming put → Sy
open Go.Addr renaming add → V8, add_lit → TW, add_mid → Vl
open Go.Addr.mk renaming injEq → U6
open Go.Builtin renaming append_ → Vw
open Go.ByteArray renaming toList_eq → Vi
open Go.Conc renaming G → Se, served → Ub, solo → VS
open Go.ConcN renaming sumTo → Vm
open Go.Deferred renaming ofValue → Vo
open Go.Extern renaming find → V9
open Go.Extern.BytealgCompare renaming compare → Va
open Go.Extern.Bytes renaming bytesOf → Wq, loadBytes → Wo
open Go.Extern.ReflectliteType renaming rows → VW
open Go.Extern.RuntimeError renaming boundsError → Ww, boundsErrorFmts → Wt, boundsNegErrorFmts → Wr, described → Wh, pkgpathOf → Wi, rows → S6, text → Wn, typeAssertionError → VZ, unhashableTypeError → VY
open Go.Extern.RuntimeError.boundsError renaming match_1 → Wp
open Go.Frame renaming enter → SW, finish → TX, finish_at → Vg, round → UJ
open Go.GStep renaming after → UE
open Go.Goroutine.mk renaming injEq → Wl
open Go.Instr renaming buildSlice → UK, fill → Vh, sureAddr → UR
open Go.IntKind renaming bits → V4, i64 → Wb, signed → VM, u64 → Ud, u8 → V1
open Go.Item.inRegion renaming injEq → Vk
open Go.Maps.Keyed renaming of_law → WK
open Go.Proofs.Tryz renaming prog → RY, underlying160 → Uv, underlying43 → Vf
open Go.Region renaming binds → Tn, ready → SY, schedule → Vy, wanted → SI
open Go.Region.linearise renaming go → S5
open Go.RowKit renaming Below → Si, Hid → Sb, intOf → S2, wrap64 → Tw
open Go.RowKit.Below renaming refl → So
open Go.Sem renaming run → Uj, runT_eq → VN, run_bind → Uz
open Go.Value renaming bool → UD, cells → Uw, int → T7, ownBlock → TQ
open Go.Value.slice renaming injEq → Uq
open Go.World renaming cell? → Sr
open Go.World.grownBy renaming refl → Wv
open Go.stepG renaming apply → TL, exec → SJ
open List renaming all_eq_true → SC, append_assoc → SG, append_nil → Uy, cons_append → Uk, eq_nil_of_length_eq_zero → TA, flatMap_append → Tf, flatMap_singleton → Ta, getD → Wc, getElem?_append_right → To, getElem?_eq_getElem → Sk, getElem_map → Vq, getElem_mem → Sl, length_append → Sc, length_cons → T0, length_drop → UN, length_take → TO, map_append → Tb, map_cons → U8, mem_append → S7, mem_cons → TE, mem_cons_self → U4, mem_map → Tu, mem_of_getElem? → TD, mem_of_mem_take → UO, mem_range → TC, not_mem_nil → Vr, range → SS, set_cons_succ → R4, take_of_length_le → Tj, take_succ_eq_append_getElem → Su
open List.cons renaming injEq → UW
open MonadExceptOf renaming throw → Wj
open Nat renaming add_assoc → Td, eq_zero_or_pos → Ux, le_refl → R8, le_trans → Ss, lt_of_lt_of_le → Sa, lt_or_ge → TF, mod_eq_of_lt → U5, pow_add → VF, pow_le_pow_right → Uf, pow_succ → UT, zero_add → SZ, zero_le → SK
open Option renaming bind_eq_some_iff → SR, bind_some → Vs, getD_some → UA, isNone_iff_eq_none → TZ, map_eq_some_iff → Uh, map_some → TU, none → RZ, some → RX
open Option.some renaming inj → VT, injEq → Ts
open Prod renaming fst → SB
set_option maxRecDepth 100000
set_option maxHeartbeats 8000000
namespace Go.Proofs.YtjidbonhhpkljaaGreat
namespace Cc
open Go Go.Conc
section
variable {P0 P:Sd}{Post:R2→R3→Prop}
def RC (P0 P:Sd)(Post:R2→R3→Prop)(f:R3→Tr)(S O:Nat→Prop)(μ:Nat→Option (List R2))(g:SM)(w:R3)(c:Nat)(z:R2)(g2:SM)(l0:List R2):Prop:=
 μ c=RX l0∧(g2.frame=g.frame∧g2.callers=g.callers∧g2.dying=g.dying)∧∀ a,RelB (fun b=>S b∨O b) w a→SO P R7 g a= .comm g2 #[rcase c z] R7 (.recv R7) a #[]∧
  match l0 with
  |v :: d=>Mn P0 P Post (f a) (.sh S O (fp μ c (RX d))) (Ub g2 (recvd R7 v R7)) a
  | []=>Mn P0 P Post (f a) (.sh S O (fp μ c RZ)) (Ub g2 (recvd R7 z R6)) a
def RC.rely{f:R3→Tr}{S O:Nat→Prop}{μ:Nat→Option (List R2)}{g:SM}{w a:R3}{c:Nat}{z:R2}{g2:SM}{l0:List R2}(h:RC P0 P Post f S O μ g w c z g2 l0)(e:RelB (fun b=>S b∨O b) w a):RC P0 P Post f S O μ g a c z g2 l0:=
 ⟨h.1,h.2.1,fun i d=>h.2.2 i (e.trans d)⟩
def zy (P0 P:Sd)(Post:R2→R3→Prop)(f:R3→Tr)(S O:Nat→Prop)(μ:Nat→Option (List R2))(g:SM)(gs:Array SM)(w:R3)(wk:Nat→Option va)(d:Nat):Prop:=
 (d=1∧∃ b,gs[0]? =RX b∧qS b g∧b.status= .running)∨
 (d=0∧∃ a h e k j c i s l,gs[0]? =RX (parked e #[rcase a h] (.recv R7))∧RC P0 P Post f S O μ g w a h e k∧wk j=RX c∧c.c=a∧c.pc=RZ∧w.heap[a]? =RX (.chan i #[] R6 s l R6))
def Jz(μ:Nat→Option (List R2)){c:Nat}{l:Option (List R2)}(h:μ c=l):fp μ c l=μ:=by
 funext b;unfold fp
 split
 ·rename_i a;rw[a,h]
 ·rfl
section
variable {S O:Nat→Prop}{μ:Nat→Option (List R2)}{gs:Array SM}{w w':R3}{t:Trace}{wk:Nat→Option va}{vs:Nat→List R2}{q:Nat→Nat}{eE:Nat→Tr}
def Inv.Ki(h:Inv P0 P S O μ gs w t wk vs q eE){i j:Nat}{x y:va}(b:wk i=RX x)(a:wk j=RX y){es:Array Ti}(d:lG P0 S x.own w w' es):w'.heap[y.c]? =w.heap[y.c]? :=by
 refine d.keep _ (h.low j y a).1 ?_;by_cases c:j=i
 ·subst c;rw[b] at a;cases a;exact(h.low j x b).2.2.2.1
 ·exact(h.qp j i y x c a b).2.1
theorem Inv.xu(h:Inv P0 P S O μ gs w t wk vs q eE)(i c:Nat)(b:Bool)(j:∀ e,i≠0→gs[0]? =RX e→offersAt e c b=[]):partners (gs.setIfInBounds i ph) c b=[]:=by
 refine partners_nil fun g d k=>?_;rcases getElem?_stand gs i g d k with⟨_,rfl⟩|⟨l,f⟩
 ·exact offersAt_ph c b
 ·rcases Ux g with rfl|m
  ·exact j d (fun a=>l a.symm) f
  ·exact offersAt_of_not_blocked (by rcases h.status m f with a|a<;>rw[a]<;>simp) c b
end
def p7{gs:Array SM}{i:Nat}{g g':SM}(a:gs[i]? =RX g):(gs.setIfInBounds i g')[i]? =RX g':=Array.getElem?_setIfInBounds_self_of_lt (R9.1 a).1
def iI{gs:Array SM}{i j:Nat}{g':SM}(h:j≠i):(gs.setIfInBounds i g')[j]? =gs[j]? :=TR (fun a=>h a.symm)
def De{k:Nat}{g:SM}(h:QuitsIn P k g):(g.status != .blocked && g.status != .waiting)=R7:=by
 rcases h.status with a|a<;>rw[a]<;>rfl
theorem uB{f:R3→Tr}(c7:∀ w,ML P0 P Post (f w)){S O:Nat→Prop}{μ:Nat→Option (List R2)}{g:SM}{n:Nat}{eE:Nat→Tr}
 (a7:∀ b1,Down n b1 eE→∀ w,Mn P0 P Post (.mk f) (.sh S O μ) g w→∀ gs sl t wk vs q o,gs.size=n→zy P0 P Post f S O μ g gs w wk o→Inv P0 P S O μ gs w t wk vs q b1→Ends P Post (crowd gs w sl) t)
 {bA:Nat} (c8:∀ w,Mn P0 P Post (.mk f) (.sh S O μ) g w→∀ gs sl t wk vs q o,gs.size=n→Vm n q+o<bA→zy P0 P Post f S O μ g gs w wk o→Inv P0 P S O μ gs w t wk vs q eE→Ends P Post (crowd gs w sl) t)
 {w:R3} (cs:Mn P0 P Post (.mk f) (.sh S O μ) g w) {gs:Array SM} {sl:Option (Nat×Nat)} {t:Trace} {wk:Nat→Option va} {vs:Nat→List R2} {q:Nat→Nat} {o:Nat} (Q:gs.size=n) (dk:Vm n q+o<bA+1) (bc:zy P0 P Post f S O μ g gs w wk o) (am:Inv P0 P S O μ gs w t wk vs q eE)
 {i:Nat} {A:SM} {d:Nat} {u:Option (Nat×Nat)} (c0:0<i) (p:gs[i]? =RX A) (ba:A.status= .running) (a5:stepT P (crowd gs w sl)=runT P (crowd gs (w.at d) u) i):Ends P Post (crowd gs w sl) t:=by
 have B:=am.at d;have ao:=cs.jo (RelB.at _ w d);have bb:(i == 0)=R6:=by simp;omega
 have b4:i<gs.size:=(R9.1 p).1;have cb:(∀ b,wk i=RX b→b.pc≠RZ)→Ends P Post (crowd gs w sl) t:=by
  intro ca;have Y:=am.quit i A c0 p ca;cases bs:q i with
  |zero=>rw[bs] at Y;rw[show A.status= .finished from Y] at ba;cases ba
  |succ bd=>
   rw[bs] at Y;rcases Y with cv|⟨_,a1,c3,c1⟩
   ·rw[cv] at ba;cases ba
   ·have K:=runT_crowd_go (P:=P) (sl:=u) (i:=i) p (by rw[bb];exact c3 (w.at d));have df:=DV (Q▸b4) bs;refine Ends.step (a5.trans K) (c8 (w.at d) ao _ u _ wk vs (jN q i bd) o (by rw[fS];exact Q) (by omega) ?_ ?_)
    ·rcases bc with⟨a,G,e,X,E⟩|⟨a,x,F,c,M,h,b,k,s,r,e,H,j,c6,D,I⟩
     ·exact .inl ⟨a,G,Dk (by omega) e (mo (.inl E)),X,E⟩
     ·exact .inr ⟨a,x,F,c,M,h,b,k,s,r,Dk (by omega) e (k9 (w':=w.at d) I),H.rely (RelB.at _ w d),j,c6,D,I⟩
    ·rw[ofEvents_none,Array.append_empty];exact B.slip ca c1 fS (pS p) fun h J l=>others am J l
 cases j:wk i with
 |none=>exact cb fun b a=>by rw[j] at a;cases a
 |some b=>
  cases D:b.pc with
  |some dq=>exact cb fun R a=>by rw[j] at a;cases a;rw[D];simp
  |none=>
   have a3:=B.act i A b p j D;obtain⟨c9,be,bi,dl,dp⟩:=B.low i b j;have bj:=a3;generalize cx:eE i=yz at bj;cases yz using Tr.ind with
   |fin=>exact(Tr.oS bj).elim
   |mk a0=>
    replace a3:=uX.1 bj;have aw:∀ bx,bx=a0 (w.at d)→Down n (jN eE i bx) eE:=fun bx a=>⟨i,Q▸b4,⟨a0,w.at d,cx,by rw[cI];exact a⟩,fun h J=>dF _ _ J⟩;obtain⟨k,N,s,r,T,ar,ad⟩:=B.chan i b j;rw[D] at T ar ad;simp only[Option.isSome_none,if_true,forall_const] at T ar ad;obtain⟨_,a3⟩:=a3;rcases a3 with cn|⟨v,bu,c,F,bt,co⟩|⟨bt,a1,bd,Y,c4,cp⟩
    ·
     obtain⟨a1,w',db,bm,a4,a9⟩:=cn (w.at d) (RelB.refl _ _);have K:=runT_crowd_go (P:=P) (sl:=u) (i:=i) p (by rw[bb];exact bm);have hrel:=B.Nr j a4;refine Ends.step (a5.trans K) (a7 _ (aw _ rfl) w' (ao.jo hrel) _ u _ _ vs q o (by rw[fS];exact Q) ?_ (B.PZ j D a4 a9 fS (pS p) (fun h J l=>others am J l) _ _));rcases bc with⟨a,G,e,X,E⟩|⟨a,x,F,c,M,h,R,k,s,r,e,H,z,L,a6,I⟩
     ·exact .inl ⟨a,G,Dk (by omega) e (mo (.inl E)),X,E⟩
     ·have V:w'.heap[x]? =RX (.chan k #[] R6 s r R6):=by
       rw[← L,B.Ki j z a4,L];exact I
      by_cases l:h=i
      ·subst l;rw[j] at z;cases z;exact .inr ⟨a,x,F,c,M,h,⟨b.c,cw b.own (w.at d) w',RZ⟩,k,s,r,Dk (by omega) e (k9 V),(H.rely (RelB.at _ w d)).rely hrel,cI _ _ _,L,rfl,V⟩
      ·exact .inr ⟨a,x,F,c,M,h,R,k,s,r,Dk (by omega) e (k9 V),(H.rely (RelB.at _ w d)).rely hrel,by rw[dF _ _ l];exact z,L,a6,V⟩
    ·
     obtain⟨cu,a9⟩:=co (w.at d) (RelB.refl _ _);have b3:SO P (i == 0) A (w.at d)= .comm c #[scase b.c v F] R7 .send (w.at d) #[]:=by rw[bb];exact cu
     rw[bt] at ar ad;have c2:N.size<k:=by simp at ad;omega
     have ci:(∀ G,i≠0→gs[0]? =RX G→offersAt G b.c R6=[])→(∀ a8,a8[0]? =gs[0]? →zy P0 P Post f S O μ g a8 ((w.at d).setChan b.c k (N.push v) R6 (s+1) r R6) wk o)→Ends P Post (crowd gs w sl) t:=by
      intro br cR;have K:=crowd_send_room (sl:=u) p b3 T c2 (B.xu i b.c R6 br);refine Ends.step (a5.trans K) ?_;rw[ofEvents_none,Array.empty_append,finishComm_send];have y:=B.comm (gs':=gs.setIfInBounds i (Ub c Tq)) (u:= #[{g:=i,fn:=c.frame.fn,pos:=c.frame.place,act:=.send b.c s},{g:=i,fn:=c.frame.fn,pos:=c.frame.place,act:=.sendDone b.c s}]) j (cap:=k) (s':=s+1) (r':=r) (buf':=N.push v) (vi':=bu) (tr':=a0 (w.at d)) (g':=Ub c Tq) (fun _=>by simp at ad ⊢;omega) (fun _=>a9) (fun _=>p7 p) (fun a=>absurd D a) (fun h J l=>iI l) (by simp) (fun bv C m bo=>by simp at C;rcases C with rfl|rfl<;>cases bo) (fun bv C=>by simp at C;rcases C with rfl|rfl<;>rfl);rw[D] at y;simp only[Option.isSome_none,if_true] at y;rw[Jz μ (by rw[ar];simp)] at y;exact a7 _ (aw _ rfl) _ (ao.jo (ku (fun U=>U.elim be bi) _ _ _ _ _ _)) _ u _ wk _ q o (by simpa using Q) (cR _ (iI (by omega))) y
     rcases bc with⟨a,G,e,X,E⟩|⟨a,x,da,al,M,h,R,ae,ab,Z,e,H,z,L,a6,I⟩
     ·refine ci (fun cl _ a2=>?_) fun a8 bl=>.inl ⟨a,G,bl.trans e,X,E⟩;rw[e] at a2;cases a2;exact offersAt_of_not_blocked (by rw[E];simp) _ _
     ·by_cases W:x=b.c
      ·
       subst W;have b0:=I.symm.trans (show w.heap[b.c]? =_ from T);simp only[Ts,Obj.chan.injEq] at b0;obtain⟨rfl,rfl,-,rfl,rfl,-⟩:=b0;have br:partners (gs.setIfInBounds i ph) b.c R6=[(0,0)]:=by
        rw[partners_one (j:=0) (stand_get (i:=i) (by omega) e) (fun bd R dc z=>?_)]
        ·rw[offersAt_parked_recv];simp
        ·rcases getElem?_stand gs i bd R z with⟨_,rfl⟩|⟨dd,a4⟩
         ·exact offersAt_ph _ _
         ·exact offersAt_of_not_blocked (by rcases am.status (by omega) a4 with a|a<;>rw[a]<;>simp) _ _
       have K:=crowd_send_meets (sl:=u) p b3 T (j:=0) (by omega) e br;refine Ends.step (a5.trans K) ?_;rw[ofEvents_none,Array.empty_append,finishComm_send,finishComm_recv];obtain⟨cc,⟨cd,ce,cf⟩,ch⟩:=H.rely (RelB.at _ w d);have ck:M=v :: bu:=by
        have:=cc.symm.trans ar;simpa using this
       subst ck;have b2:=(ch (w.at d) (RelB.refl _ _)).2;dsimp only at b2;have y:=B.comm (gs':=(gs.setIfInBounds 0 (Ub al (recvd R7 v R7))).setIfInBounds i (Ub c Tq)) (u:= #[{g:=i,fn:=c.frame.fn,pos:=c.frame.place,act:=.send b.c ab},{g:=0,fn:=al.frame.fn,pos:=al.frame.place,act:=.recv b.c Z ae},{g:=i,fn:=c.frame.fn,pos:=c.frame.place,act:=.sendDone b.c ab},{g:=0,fn:=al.frame.fn,pos:=al.frame.place,act:=.recvDone b.c Z}]) j (cap:=ae) (s':=ab+1) (r':=Z+1) (buf':= #[]) (vi':=bu) (tr':=a0 (w.at d)) (g':=Ub c Tq) (fun _=>by simp at ad ⊢;omega) (fun _=>a9) (fun _=>p7 (g:=A) (by rw[iI (by omega)];exact p)) (fun a=>absurd D a) (fun h J l=>by rw[iI l,iI (by omega)]) (by simp) (fun bv C m bo=>by simp at C;rcases C with rfl|rfl|rfl|rfl<;>cases bo) (fun bv C=>by simp at C;rcases C with rfl|rfl|rfl|rfl<;>rfl);rw[D] at y;simp only[Option.isSome_none,if_true] at y;exact(c7 (w.at d)).2 S O _ _ _ (b2.jo (ku (fun U=>U.elim be bi) _ _ _ _ _ _)) _ u _ wk _ q _ _ (by rw[iI (by omega)];exact p7 e) (qS.refl _) rfl y
      ·refine ci (fun cl _ a2=>?_) fun a8 bl=>?_
       ·rw[e] at a2;cases a2;rw[offersAt_parked_recv,if_neg W]
       ·exact .inr ⟨a,x,da,al,M,h,R,ae,ab,Z,bl.trans e,(H.rely (RelB.at _ w d)).rely (ku (fun U=>U.elim be bi) _ _ _ _ _ _),z,L,a6,(vD W _ _ _ _ _ _).trans I⟩
    ·
     have bm:=cp (w.at d) (RelB.refl _ _) k N s r R6 T;have K:=runT_crowd_go (P:=P) (sl:=u) (i:=i) p (by rw[bb];exact bm);have hrel:RelB (fun bB=>S bB∨O bB) (w.at d) ((w.at d).setChan b.c k N R7 s r R6):=ku (fun U=>U.elim be bi) _ _ _ _ _ _;have y:=B.close (gs':=(gs.map (woken P A a1 ((w.at d).setChan b.c k N R7 s r R6))).setIfInBounds i a1) (tr':=a0 (w.at d)) j D bt T Y (pS p) (fun h J l=>others am J l) fS A.frame.fn A.frame.place;refine Ends.step (a5.trans K) ?_;rcases bc with⟨a,G,e,X,E⟩|⟨a,x,F,c,M,h,R,ae,ab,Z,e,H,z,L,a6,I⟩
     ·exact a7 _ (aw _ rfl) _ (ao.jo hrel) _ u _ _ _ _ o (by rw[fS];exact Q) (.inl ⟨a,G,Dk (by omega) e (mo (.inl E)),X,E⟩) y
     ·by_cases W:x=b.c
      ·subst W;obtain⟨cc,⟨cd,ce,cf⟩,ch⟩:=H;refine a7 _ (aw _ rfl) _ (ao.jo hrel) _ u _ _ _ _ 1 (by rw[fS];exact Q) (.inl ⟨rfl,{parked c #[rcase b.c F] (.recv R7) with status:=.running},?_,⟨cd,ce,cf⟩,rfl⟩) y;have c5:woken P A a1 ((w.at d).setChan b.c k N R7 s r R6) (parked c #[rcase b.c F] (.recv R7))= {parked c #[rcase b.c F] (.recv R7) with status:=.running}:=by
        unfold woken;rw[if_pos ?hP]
        case hP=>rw[c4,Bool.true_and];exact De Y
        exact again_recv_closed (AS c9 _ _ _ _ _ _)
       rw[TR (by omega),Array.getElem?_map,e,TU,c5]
      ·have l:h≠i:=fun a=>by
        subst a;rw[j] at z;cases z;exact W L.symm
       have V:((w.at d).setChan b.c k N R7 s r R6).heap[x]? =RX (.chan ae #[] R6 ab Z R6):=(vD W _ _ _ _ _ _).trans I;exact a7 _ (aw _ rfl) _ (ao.jo hrel) _ u _ _ _ _ o (by rw[fS];exact Q) (.inr ⟨a,x,F,c,M,h,R,ae,ab,Z,Dk (by omega) e (k9 V),(H.rely (RelB.at _ w d)).rely hrel,by rw[dF _ _ l];exact z,L,a6,V⟩) y
theorem Nh{f:R3→Tr}(C:∀ w,ML P0 P Post (f w)){S O:Nat→Prop}{μ:Nat→Option (List R2)}{g:SM}{n:Nat}(eE:Nat→Tr)(bj:Acc (Down n) eE):
 ∀ (R:Nat) w,Mn P0 P Post (.mk f) (.sh S O μ) g w→∀ gs sl t wk vs q p,gs.size=n→Vm n q+p<R→zy P0 P Post f S O μ g gs w wk p→Inv P0 P S O μ gs w t wk vs q eE→Ends P Post (crowd gs w sl) t:=by
 induction bj with
 |intro eE _ b2=>
  have bb:∀ T,Down n T eE→∀ w,Mn P0 P Post (.mk f) (.sh S O μ) g w→∀ gs sl t wk vs q p,gs.size=n→zy P0 P Post f S O μ g gs w wk p→Inv P0 P S O μ gs w t wk vs q T→Ends P Post (crowd gs w sl) t:=
   fun T bo w U gs sl t wk vs q p E ab d=>b2 T bo (Vm n q+p+1) w U gs sl t wk vs q p E (by omega) ab d
  intro R
  induction R with
  |zero=>intro w U gs sl t wk vs q p E a1;omega
  |succ R a3=>
   intro w V gs sl t wk vs q p E a1 ab d;have ba:=ab;rcases ab with⟨A,al,i,Z,aw⟩|⟨A,D,H,r,G,h,b,I,s,Q,i,N,j,cv,F,cs⟩
   ·have U:=mJ.1 V;rcases U with B|B|B|⟨bx,be⟩
    case inr.inr.inr=>exact(C w).1 g w (be w (RelB.refl _ _) d.hp) gs sl t vs q eE al i Z aw (d.Rt bx)
    all_goals
     obtain⟨a2,K,a,l,c,X,y⟩:=crowd_pick (P:=P) (w:=w) (sl:=sl) (sS d i (awake_of (.inl aw))) ⟨0,al,i,aw⟩;rcases Ux a2 with rfl|ar
     case inr=>exact uB C bb a3 V E a1 ba d ar c X y
     obtain rfl:K=al:=by rw[i] at c;exact(VT c).symm
     have e:=d.at a
    ·obtain⟨J,w',co,bs,a0,br,x⟩:=B (w.at a) (RelB.at _ w a);have v:=runT_crowd_go (P:=P) (sl:=l) (i:=0) c (show SO P (0 == 0) K (w.at a)=_ from(Z.step R7 _).trans bs);exact Ends.step (y.trans v) ((C (w.at a)).2 S _ μ J w' x _ l _ wk vs q eE J (pS c) (qS.refl _) a0 (e.main br fS (fun h L=>others d L (by omega)) _ _))
    ·obtain⟨D,cc,I,b3,b4,ca,cb,B⟩:=B;obtain⟨J,cn,ck,b0,a0,bi,x⟩:=B (w.at a) (RelB.at _ w a);have v:=runT_crowd_spawn (P:=P) (sl:=l) (i:=0) c (show SO P (0 == 0) K (w.at a)=_ from(Z.step R7 _).trans b0);have a9:0<gs.size:=(R9.1 i).1;refine Ends.step (y.trans v) ((C (w.at a)).2 S _ _ J (w.at a) x _ l _ (jN wk gs.size (RX ⟨D,fun _=>False,RZ⟩)) (jN vs gs.size cc) q (jN eE gs.size ck) J ?_ (qS.refl _) a0 ?_)
     ·rw[Array.getElem?_push_lt (by simpa using a9)];simp
     ·rw[ofEvents_none];exact e.spawn b3 b4 ca cb bi (by simp) a9 (by rw[SN];simp) (fun h L bu=>by
       rw[Array.getElem?_push_lt (by simpa using bu),← SU,iI (by omega)]) _ _ _
    ·obtain⟨D,H,r,G,N⟩:=B;have N:RC P0 P Post f S O μ g w D H r G:=N;have bA:=N.rely (RelB.at _ w a);obtain⟨a4,⟨c1,c2,c3⟩,cf⟩:=bA;obtain⟨bm,x⟩:=cf (w.at a) (RelB.refl _ _);have am:SO P (0 == 0) K (w.at a)= .comm r #[rcase D H] R7 (.recv R7) (w.at a) #[]:=(Z.step R7 _).trans bm;obtain⟨k,b,j,rfl⟩:=e.mu D G a4;obtain⟨cx,cd,ce,cR,c0⟩:=e.low k b j;obtain⟨I,o,s,Q,z,ad,bc⟩:=e.chan k b j;have cu:=(e.idx k b j).1;have ao:=e.xu 0 b.c R7 (fun cp A=>absurd rfl A);obtain⟨gk,a8⟩:∃ gk,gs[k]? =RX gk:=⟨gs[k]'(e.idx k b j).2,SU _⟩;by_cases W:0<o.size
     ·
      have v:=crowd_recv_buf (sl:=l) c am z W ao;refine Ends.step (y.trans v) ?_;rw[ofEvents_none,Array.empty_append,finishComm_recv];have ae:G=o.getD 0 Tq :: ((o.extract 1 o.size).toList ++ (if b.pc=RZ then vs k else[])):=by
       have:=a4.symm.trans ad;simp only[Ts] at this;rw[this];obtain⟨a5⟩:=o;cases a5 with
       |nil=>simp at W
       |cons cl a5=>simp
      subst ae;dsimp only at x;have bd:=e.comm (gs':=gs.setIfInBounds 0 (Ub r (recvd R7 (o.getD 0 Tq) R7))) (u:= #[{g:=0,fn:=r.frame.fn,pos:=r.frame.place,act:=.recv b.c Q I},{g:=0,fn:=r.frame.fn,pos:=r.frame.place,act:=.recvDone b.c Q}]) j (cap:=I) (s':=s) (r':=Q+1) (buf':=o.extract 1 o.size) (vi':=vs k) (tr':=eE k) (g':=gk) (fun A=>by have:=bc A;simp;omega) (fun A=>e.act k gk b a8 j A) (fun _=>by rw[iI (by omega)];exact a8) (fun _=>iI (by omega)) (fun h L _=>iI (by omega)) (by simp) (fun ch M m bv=>by simp at M;rcases M with rfl|rfl<;>cases bv) (fun ch M=>by simp at M;rcases M with rfl|rfl<;>rfl);exact(C (w.at a)).2 S O _ _ _ (x.jo (ku (fun W=>W.elim cd ce) _ _ _ _ _ _)) _ l _ wk _ q _ _ (p7 i) (qS.refl _) rfl bd
     ·have bl:o=#[]:=by
       apply Array.eq_empty_of_size_eq_zero;omega
      subst bl;cases F:b.pc with
      |none=>
       rw[F] at z;have b1:∀ a6∈ #[rcase b.c H],NoWays (w.at a) (gs.setIfInBounds 0 ph) a6:=by
        intro a6 a7;simp at a7;subst a7;refine⟨made_recv H z,?_⟩;simp only[ways,rcase];rw[z];simp[ao]
       have v:=crowd_waits (sl:=l) c am b1;refine Ends.step (y.trans v) ?_;rw[ofEvents_none,Array.append_empty];refine a3 (w.at a) (V.jo (RelB.at _ w a)) _ l _ wk vs q 0 (by simpa using E) (by omega) (.inr ⟨rfl,b.c,H,r,G,k,b,I,s,Q,p7 i,N.rely (RelB.at _ w a),j,rfl,F,z⟩) (e.RJ (by simp) fun h L=>iI (by omega))
      |some c4=>
       rw[F] at z ad;have v:=crowd_recv_closed (sl:=l) c am z ao;refine Ends.step (y.trans v) ?_;rw[ofEvents_none,Array.empty_append,finishComm_recv];have ae:G=[]:=by
        have:=a4.symm.trans ad;simpa using this
       subst ae;dsimp only at x;exact(C (w.at a)).2 S O _ _ _ x _ l _ _ vs q eE _ (p7 i) (qS.refl _) rfl (e.KY j F (by simp) (fun h L=>iI (by omega)) _ _)
   ·
    have bB:∃ u,gs[h]? =RX u∧u.status= .running:=by
     obtain⟨u,Y⟩:∃ u,gs[h]? =RX u:=⟨gs[h]'(d.idx h b j).2,SU _⟩;refine⟨u,Y,?_⟩;have:=d.act h u b Y j F;generalize eE h=ci at this;cases ci using Tr.ind with
     |fin=>exact(Tr.oS this).elim
     |mk f=>exact(uX.1 this).1
    obtain⟨u,Y,bt⟩:=bB;obtain⟨a2,K,a,l,c,X,y⟩:=crowd_pick (P:=P) (w:=w) (sl:=sl) (sS d i (fun t=>by simp[parked])) ⟨h,u,Y,bt⟩;rcases Ux a2 with rfl|ar
    ·rw[i] at c;cases c;simp[parked] at X
    ·exact uB C bb a3 V E a1 ba d ar c X y
theorem KS:∀ k:Tr,ML P0 P Post k:=by
 intro k
 induction k using Tr.ind with
 |fin=>exact⟨fun a w c=>(Tr.oS c).elim,fun S O μ a w c=>(Tr.oS c).elim⟩
 |mk f l=>
  refine⟨fun a w g gs j t vs q eE b d h i e=>Ng l (Vm gs.size q+1) a w g gs j t vs q eE b (by omega) d h i e,fun S O μ a w g gs j t wk vs q eE b d h i e=>?_⟩;exact Nh l eE (J0 gs.size eE) (Vm gs.size q+1+1) w g gs j t wk vs q 1 rfl (by omega) (.inl ⟨rfl,b,d,h,i⟩) e
theorem Dw{l:Tr}{fr:Sn}{cs:List Sn}{w:R3}(h:Mn P0 P Post l .ex (Se fr cs) w)(p:vW P0 w):Ends P Post (VS (Se fr cs) w) #[]:=by
 rw[solo_eq_crowd];refine(KS l).1 _ w h #[Se fr cs] RZ #[] (fun _=>[]) (fun _=>0) (fun _=>.fin) _ rfl (qS.refl _) rfl ⟨⟨fun x o=>by simp at o,fun z=>?_,fun b g d=>by simp[touchAt,Trace.act?] at d,fun b g d=>by simp[touchAt,Trace.act?] at d,fun k c e=>(by cases e),fun k c e=>(by cases e),fun k c y e=>(by cases e)⟩,p,fun b m u j _=>?_,fun b m c j a=>(by cases a),fun b c a=>(by cases a),fun i f=>f.elim,fun i f=>f.elim,fun b c a=>(by cases a),fun b r c A _ a=>(by cases a),fun b c a=>(by cases a),fun s v n=>(by cases n)⟩
 ·rintro⟨b,r,_,⟨g,i,d,_⟩,_⟩;simp[Trace.act?] at d
 ·have:b<1:=by simpa using(R9.1 j).1
  omega
end
def sH (P0 P:Sd)(Post:R2→R3→Prop)(g:SM)(w:R3):Prop:=∃ a,Mn P0 P Post a .ex g w
structure Sm(w w':R3):Prop where
 tape:w'.tape=w.tape
 os:w'.os=w.os
 output:w'.output=w.output
 size:w.heap.size≤w'.heap.size
def Sm.refl(w:R3):Sm w w:=⟨rfl,rfl,rfl,R8 _⟩
def Sm.trans{a b c:R3}(h:Sm a b)(d:Sm b c):Sm a c:=⟨d.tape.trans h.tape,d.os.trans h.os,d.output.trans h.output,Ss h.size d.size⟩
section
variable {P0 P:Sd}{Post:R2→R3→Prop}
theorem xx{g:SM}{w:R3}(h:∀ a,AtRel w a→∃ g' w' es,SO P R7 g a= .go g' w' es∧g'.status= .running∧JU P0 a w' es∧sH P0 P Post g' w'):sH P0 P Post g w:=by
 classical
 let f:R3→Tr:=fun a=>if b:AtRel w a then Tt (Sp (Sp (Sp (h a b)))).2.2.2 else .fin
 refine⟨.mk f,mJ.2 <| .inl fun a b=>?_⟩;have c:=Sp (Sp (Sp (h a b)));have d:f a=Tt (Sp (Sp (Sp (h a b)))).2.2.2:=by
  show(if b:AtRel w a then _ else _)=_;rw[dif_pos b]
 exact⟨_,_,_,c.1,c.2.1,c.2.2.1,Mn.cast d (Sp c.2.2.2)⟩
def Nx{g:SM}{w:R3}(h:∀ a,AtRel w a→∃ v es,SO P R7 g a= .ended (.done v) a es∧(∀ e∈es,B0 a.heap.size e)∧Post v a):sH P0 P Post g w:=⟨.mk fun _=>.fin,mJ.2 (.inr (.inl h))⟩
def Pp{g:SM}{w a:R3}(h:sH P0 P Post g w)(b:AtRel w a):sH P0 P Post g a:=by
 obtain⟨c,h⟩:=h;exact⟨c,h.Gj b⟩
theorem Ns(P0:Sd)(u:R3):∃ w,Un w u∧Hp (aR P0) w∧w.tape=u.tape∧w.drawn=u.drawn∧∀ (b:Nat) o,u.heap[b]? =RX o→aR P0 o→w.heap[b]? =RX o:=by
 classical
 have h:∀ o,¬ aR P0 o→jk o=R7:=fun o g=>by cases o<;>first|rfl|exact absurd trivial g
 have f:∀ b:Nat,(u.heap.map fun o=>if aR P0 o then o else pz)[b]? =(u.heap[b]?).map fun o=>if aR P0 o then o else pz:=fun b=>by simp
 refine⟨{u with heap:=u.heap.map fun o=>if aR P0 o then o else pz},⟨by simp,fun b o a=>?_,rfl,rfl⟩,fun b o a=>?_,rfl,rfl,fun b o a i=>?_⟩
 ·simp only[f] at a;cases d:u.heap[b]? with
  |none=>rw[d] at a;cases a
  |some e=>
   rw[d] at a;simp only[TU,Ts] at a;by_cases c:aR P0 e
   ·rw[if_pos c] at a;subst a;exact .inl rfl
   ·rw[if_neg c] at a;exact .inr ⟨a.symm,e,rfl,h e c⟩
 ·simp only[f] at a;cases d:u.heap[b]? with
  |none=>rw[d] at a;cases a
  |some e=>
   rw[d] at a;simp only[TU,Ts] at a;by_cases c:aR P0 e
   ·rw[if_pos c] at a;subst a;exact .inl c
   ·rw[if_neg c] at a;exact .inr a.symm
 ·simp only[f,a,TU,if_pos i]
theorem E0{Stop:Sn→List Sn→R3→Prop}{fr:Sn}{av:List Sn}{w u:R3}(h:Fin P0 P Stop fr av w u):∀ {cs:List Sn},ed P0 fr av→Hp (aR P0) w→Un w u→(∀ fr' tops' w' b,Stop fr' tops' w'→ed P0 fr' tops'→Hp (aR P0) w'→qU w u w' b→Sm u b→sH P0 P Post (Se fr' (tops' ++ cs)) b)→sH P0 P Post (Se fr (av ++ cs)) u:=by
 intro cs;refine h (fun fr av w u=>ed P0 fr av→Hp (aR P0) w→Un w u→(∀ fr' tops' w' b,Stop fr' tops' w'→ed P0 fr' tops'→Hp (aR P0) w'→qU w u w' b→Sm u b→sH P0 P Post (Se fr' (tops' ++ cs)) b)→sH P0 P Post (Se fr (av ++ cs)) u) ?_ ?_
 ·intro fr av w u i j m e g;exact g _ _ _ _ i j m e.two (Sm.refl _)
 ·intro fr av w u f q B C j E A D m e g;refine xx fun F x=>?_;obtain⟨a,rfl⟩:=x;have d:=B u.tape a;obtain⟨c,z⟩:=C u.tape a;have n:u.heap.size≤(f u.tape a).2.2.2.1.heap.size:=by
   rw[c.un.size,e.size];exact d.size
  have o:(f u.tape a).2.2.2.1.tape=u.tape:=z.trans d.tape;have k:(f u.tape a).2.2.2.1.os=u.os:=c.un.os.trans (d.os.trans e.os.symm);have l:(f u.tape a).2.2.2.1.output=u.output:=c.un.output.trans (d.output.trans e.output.symm);refine⟨_,_,_,q u.tape a R7 cs,rfl,⟨n,o,k,l,fun _=>trivial,fun p s=>by rw[c.un.size];exact d.evs p s⟩,?_⟩;exact A u.tape a (j u.tape a) d.hp c.un fun fr' tops' w' b i t v r y=>g fr' tops' w' b i t v ((⟨c.un,c.keep⟩:qU w u _ _).trans r) ((⟨o,k,l,n⟩:Sm u _).trans y)
def rX(h:Twins P0 P){Stop:Sn→List Sn→R3→Prop}(j:∀ fr av w,Stop fr av w→¬ G4 fr){fr:Sn}{av cs:List Sn}{w u:R3}(ok:ed P0 fr av)(d:Hp (aR P0) w)(e:Un w u)
 (k:∀ c,∃ fr' tops' w',Steps P0 (lone fr (av ++ [aZ]) (sh c 0 w)) (lone fr' (tops' ++ [aZ]) w')∧Stop fr' tops' w')
 (g:∀ fr' tops' w' a,Cd Stop fr' tops' w'→ed P0 fr' tops'→qU w u w' a→Sm u a→sH P0 P Post (Se fr' (tops' ++ cs)) a):sH P0 P Post (Se fr (av ++ cs)) u:=
 E0 (uv h j ok d e fun c=>by
  obtain⟨fr',tops',w',⟨N,i⟩,b⟩:=k c;exact⟨N,fr',tops',w',i,b⟩) ok d e fun fr' tops' w' a b l _ f m=>g fr' tops' w' a b l f m
def Left (c:Sn):UQ→Sn
 | .returned v=>c.finish v
 | .panicked a=>c.raise a
 | .outgrown=>c
def Oz (c:Sn):Prop:=c.mode= .run∧((∃ e b f a,c.todo= .inRegion e (b :: f) :: a)∨∃ d a,c.todo= .inRangeFunc d :: a)
def kG (P0 P:Sd)(Post:R2→R3→Prop)(f:T1)(args:Array R2)(w:R3)(R:UQ→R3→Prop):Prop:=
 ∀ (a:Sn) (d:List Sn),ed P0 a []→Oz a→vW P0 w→
  (∀ c b,R c b→vW P0 b→Sm w b→ed P0 (Left a c) []→sH P0 P Post (Se (Left a c) d) b)→sH P0 P Post (Se (SW P f args .normal) (a :: d)) w
def Tl (w u:R3)(R:UQ→R3→Prop)(e:UQ)(c:R3):Prop:=∃ d b a,qU w u a c∧R e (sh d b a)
def CC(h:Twins P0 P)(f:T1)(args:Array R2)(kind:CallKind)(i:kind= .normal∨kind= .deferred):mq P0 (SW P0 f args kind):=by
 refine⟨fun k c=>?_,fun j e=>by simp[SW] at e,i⟩;simp only[SW,List.mem_singleton] at c;subst c;show aT P0 R6 _=R7;cases g:P0.funcs[f]? with
 |none=>rfl
 |some b=>
  cases a:b.body with
  |none=>simp[a,aT]
  |some d=>simpa [a] using h.A.Es f b d g a
theorem oN(h:Twins P0 P){f:T1}{args:Array R2}{w u:R3}{R:UQ→R3→Prop}(C:Hp (aR P0) w)(G:Un w u)(y:P.funcs[f]? =P0.funcs[f]?)(n:∀ w',¬ R .outgrown w')(z:∀ e,SF P0 f args (sh e 0 w) R):kG P0 P Post f args u (Tl w u R):=by
 intro c J k D _ x;have r:SW P f args .normal=SW P0 f args .normal:=by unfold SW;rw[y]
 rw[r];obtain⟨E,d⟩:=D;refine rX (av:=[c]) h (Stop:=fun i av w'=>av=[]∧∃ a,R a w'∧i=Left c a) (fun i av w' j=>?_) ⟨CC h f args .normal (.inl rfl),fun T p=>by simp at p;rw[p];exact k.top,k.bot⟩ C G (fun e=>?_) (fun K S w' I j B t F=>?_)
 ·obtain⟨_,a,b,rfl⟩:=j;rintro⟨A,s,o⟩;cases a with
  |returned v=>
   rcases d with⟨O,M,Q,H,d⟩|⟨N,H,d⟩
   ·simp[Left,TX,d] at o
   ·simp[Left,TX,d] at o
  |panicked g=>
   simp[Left,Frame.raise,E] at A
  |outgrown=>exact n _ b
 ·obtain⟨a,w',i,b,l,L,m⟩:=z e (c :: [aZ]);cases a with
  |returned v=>exact⟨c.finish v,[],w',l.trans (.one (step_leave_returned m)),rfl,.returned v,b,rfl⟩
  |panicked g=>exact⟨c.raise g,[],w',l.trans (.one (step_leave_panicked m)),rfl,.panicked g,b,rfl⟩
  |outgrown=>exact absurd b (n _)
 ·obtain⟨e,q,rfl,a,b,rfl⟩:=j;exact x a I ⟨e,q,w',t,b⟩ trivial F B
end
def Eg (P0 P:Sd)(Post:R2→R3→Prop)(fr:Sn)(cs:List Sn)(w:R3):Prop:=ed P0 fr []→vW P0 w→sH P0 P Post (Se fr cs) w
section
variable {P0 P:Sd}{Post:R2→R3→Prop}
def N5{w u w' d:R3}(h:qU w u w' d)(e:u.heap=w.heap):d.heap=w'.heap:=by
 apply Array.ext_getElem?;intro b;rcases h.un.cases b with c|⟨c,i,f,g⟩
 ·exact c
 ·rw[(h.keep b c).2,e,(h.keep b c).1,c]
def N6{w u g u1 i u2:R3}(h1:qU w u g u1)(h:qU w u i u2)(e:g.heap=i.heap):u1.heap=u2.heap:=by
 apply Array.ext_getElem?;intro b;by_cases c:g.heap[b]? =RX pz
 ·rw[(h1.keep b c).2,(h.keep b (by rw[← e];exact c)).2]
 ·rcases h1.un.cases b with d|⟨d,_⟩
  ·rcases h.un.cases b with f|⟨f,_⟩
   ·rw[d,f,e]
   ·exact absurd (by rw[e];exact f) c
  ·exact absurd d c
def qU.same{w u w' g:R3}(h:qU w u w' g)(i:Un w u){b:Nat}(e:w'.heap[b]? =w.heap[b]?):g.heap[b]? =u.heap[b]? :=by
 by_cases f:w'.heap[b]? =RX pz
 ·exact(h.keep b f).2
 ·rcases h.un.cases b with c|⟨c,_⟩
  ·rcases i.cases b with d|⟨d,_⟩
   ·rw[c,d,e]
   ·exact absurd (e.trans d) f
  ·exact absurd c f
structure Mk(P0:Sd)(ws w:R3):Prop where
 un:Un ws w
 hp:Hp (aR P0) ws
 at_:∀ (b:Nat) o,w.heap[b]? =RX o→aR P0 o→ws.heap[b]? =RX o
def CW(P0:Sd)(w:R3):∃ ws,Mk P0 ws w:=by
 obtain⟨ws,c,d,-,-,e⟩:=Ns P0 w;exact⟨ws,c,d,e⟩
section
variable {b:Sn}{a:T6}{k:List UC}{cs:List Sn}{w:R3}
def Rb (P0 P:Sd)(Post:R2→R3→Prop)(b:Sn)(k:List UC)(cs:List Sn)(w':R3):Exit→T6→Prop
 | .normal,a=>Eg P0 P Post (b.at a k) cs w'
 | .exit id,a=>∀ d,VQ id k=RX d→Eg P0 P Post (b.at a d) cs w'
 | .ret,a=>∀ c,Eg P0 P Post {b.at a c with mode:=.returning} cs w'
 | .panic e,a=>∀ c,Eg P0 P Post {b.at a c with mode:=.panicking e} cs w'
 |_,_=>True
theorem wL{id:Nat}{i:UC}:∀ {k k':List UC},VQ id k=RX k'→i∈k'→i∈k
 | [],k',c,_=>by simp[VQ] at c
 |x :: f,k',c,d=>by
  cases x<;>simp only[VQ] at c
  case inBlock e=>
   split at c
   ·cases c;exact List.mem_cons_of_mem _ d
   ·exact List.mem_cons_of_mem _ (wL c d)
  all_goals exact List.mem_cons_of_mem _ (wL c d)
theorem Gz(h:Twins P0 P){c:U7}{Q:R3→Exit→T6→R3→Prop}(E:∀ ws,Mk P0 ws w→∀ o,c.wp P0 (Q ws) a (sh o 0 ws))(y:∀ s,Item.code (.refuse s)∉k)(C:∀ ws id a w,Q ws (.exit id) a w→VQ id k≠RZ)(D:∀ ws l a w,¬ Q ws (.goto l) a w)(F:∀ ws a w,¬ Q ws .outgrown a w)
 (B:∀ ws e a' z w' o d,Mk P0 ws w→Q ws e a' (sh o d z)→qU ws w z w'→Sm w w'→Rb P0 P Post b k cs w' e a'):Eg P0 P Post (b.at a (.code c :: k)) cs w:=by
 intro H _;obtain⟨ws,m⟩:=CW P0 w;refine rX (av:=[]) h (Stop:=fun q av w'=>av=[]∧∃ e a',Q ws e a' w'∧(match e with
  | .normal=>q=b.at a' k
  | .exit id=>∃ j,VQ id k=RX j∧q=b.at a' j
  | .ret=>∃ g,q= {b.at a' g with mode:=.returning}
  | .panic p=>∃ g,q= {b.at a' g with mode:=.panicking p}
  |_=>False)) (fun q av w' n=>?_) H m.hp m.un (fun o=>?_) (fun J K w' I n u A G=>?_)
 ·obtain⟨_,e,a',i,f⟩:=n;rintro⟨m,s,v⟩;cases e with
  |normal=>subst f;exact y s (by simp only[Frame.at] at v;rw[v];exact U4 ..)
  |exit id=>obtain⟨j,x,rfl⟩:=f;exact y s (wL x (by simp only[Frame.at] at v;rw[v];exact U4 ..))
  |ret=>obtain⟨g,rfl⟩:=f;cases m
  |panic p=>obtain⟨g,rfl⟩:=f;cases m
  |goto l=>exact f
  |outgrown=>exact f
 ·obtain⟨e,a',w',i,t⟩:=E ws m o b k [aZ];cases e with
  |normal=>exact⟨_,[],w',t,rfl,.normal,a',i,rfl⟩
  |exit id=>
   cases f:VQ id k with
   |none=>exact absurd f (C ws id a' w' i)
   |some j=>exact⟨_,[],w',t j f,rfl,.exit id,a',i,j,f,rfl⟩
  |ret=>obtain⟨g,n⟩:=t;exact⟨_,[],w',n,rfl,.ret,a',i,g,rfl⟩
  |panic p=>obtain⟨g,n⟩:=t;exact⟨_,[],w',n,rfl,.panic p,a',i,g,rfl⟩
  |goto l=>exact absurd i (D ws l a' w')
  |outgrown=>exact absurd i (F ws a' w')
 ·obtain⟨o,d,rfl,e,a',i,f⟩:=n;have r:=B ws e a' w' I o d m i A G;cases e with
  |normal=>subst f;exact r u trivial
  |exit id=>obtain⟨j,x,rfl⟩:=f;exact r j x u trivial
  |ret=>obtain⟨g,rfl⟩:=f;exact r g u trivial
  |panic p=>obtain⟨g,rfl⟩:=f;exact r g u trivial
  |goto l=>exact f.elim
  |outgrown=>exact f.elim
end
end
section
variable {P0 P:Sd}{Post:R2→R3→Prop}{b:Sn}{a:T6}{k:List UC}{cs:List Sn}{w:R3}{ops:Array Tx}
theorem Nw{i:Nat}{rest:List Nat}{o:Tx}{f:T1}{fn:UB}{c:U7}{args:Array S3}{ats:Array Sg}{R:UQ→R3→Prop}(A:b.kind= .normal)(n:ops[i]? =RX o)(F:SI o (Tc ops a.tmps)=R7)(r:o.op= .call {callee:=.value (.func f),args,argTypes:=ats})
 (l:P.funcs[f]? =RX fn) (m:(fn.name == "runtime.NumGoroutine")=R6) (z:fn.body=RX c) (hR:∀ d,AtRel w d→kG P0 P Post f (args.map a.eval) d R)
 (y:∀ v w',R (.returned v) w'→Sm w w'→Eg P0 P Post (b.at (a.put o.dst v) (.inRegion ops rest :: k)) cs w') (hP:∀ ch w',R (.panicked ch) w'→Sm w w'→Eg P0 P Post {b.at a (.inRegion ops (i :: rest) :: k) with mode:=.panicking ch} cs w') (B:∀ w',¬ R .outgrown w'):Eg P0 P Post (b.at a (.inRegion ops (i :: rest) :: k)) cs w:=by
 intro G C;refine xx fun d h=>?_;have j:fn.body.isNone=R6:=by rw[z];rfl
 have E:SO P R7 (Se (b.at a (.inRegion ops (i :: rest) :: k)) cs) d= .go (Se (SW P f (args.map a.eval) .normal) (b.at a (.inRegion ops (i :: rest) :: k) :: cs)) d #[]:=by
  rw[stepG_enter n F (by rw[A];simp) (run_call_body r l m j)];have:listed P b.fn a o d=#[]:=by unfold listed;rw[events_call_body r l m j];exact Conc.seen_none P _
  rw[this]
 have D:vW P0 d:=by obtain⟨x,rfl⟩:=h;exact C
 have t:Sm w d:=by obtain⟨x,rfl⟩:=h;exact⟨rfl,rfl,rfl,R8 _⟩
 refine⟨_,_,_,E,rfl,⟨R8 _,rfl,rfl,rfl,fun H=>H,fun e g=>by simp at g⟩,?_⟩;refine hR d h _ cs G ⟨rfl,.inl ⟨ops,i,rest,k,rfl⟩⟩ D fun e w' g s u p=>?_;cases e with
 |returned v=>
  have:=y v w' g (t.trans u);have e:=Vg b a ops i rest k v;rw[n] at e;have q:ed P0 ((b.at a (.inRegion ops (i :: rest) :: k)).finish v) []:=p;rw[e] at q;show sH P0 P Post (Se ((b.at a (.inRegion ops (i :: rest) :: k)).finish v) cs) w';rw[e];exact this q s
 |panicked ch=>exact hP ch w' g (t.trans u) p s
 |outgrown=>exact absurd g (B w')
theorem E1{fr:Sn}{v:R2}(j:P.inits.idxOf? fr.fn=RZ)(m:∀ s d,fr.leaving P (sh s d w) (.returned v))(i:∀ c,AtRel w c→∀ fn,P.funcs[fr.fn]? =RX fn→∀ e∈((SX fn fr.tmps).runT P c #[]).2,yN c.heap.size e)(o:∀ c,AtRel w c→Post v c):sH P0 P Post (Se fr []) w:=by
 refine Nx fun c r=>?_;obtain⟨d,rfl⟩:=r;obtain⟨n,h,l,fn,g,p⟩:=m w.tape d;have q:(SX fn fr.tmps).run P (w.at d)= .ok v (w.at d):=p;have f:=i (w.at d) ⟨d,rfl⟩ fn g;rw[VN] at f;refine⟨v,seen P fr.fn ((SX fn fr.tmps).events P (w.at d) #[]),?_,Dy f,o _ ⟨d,rfl⟩⟩;simp[Se,SO,VR,n,h,g,UM,l,j,UE,q]
end
end Cc
namespace Rl
section
variable {G:lC}
def eC:Nat→R2→Bool
 |_,.bool _|_,.int _ _|_,.string _|_,.pointer RZ|_,.slice RZ _ _|_,.map RZ|_,.chan RZ|_,.nilFunc|_,.nilIface=>R7
 |n+1,.iface _ v=>eC n v
 |n+1,.agg a|n+1,.tuple a=>a.toList.all (eC n)
 |_,_=>R6
theorem pV:∀ (n:Nat) {ρ:aI G} (v:R2),eC n v=R7→ap ρ v v
 |n,ρ,v,a=>by
  cases v with
  |bool c=>exact .bool c
  |int e d=>exact .int e d
  |string s=>exact .string s
  |pointer b=>cases b with
   |none=>exact .cD
   |some b=>cases n<;>simp[eC] at a
  |slice b m l=>cases b with
   |none=>exact .jd _ _
   |some b=>cases n<;>simp[eC] at a
  |map g=>cases g with
   |none=>exact .jH
   |some b=>cases n<;>simp[eC] at a
  |chan g=>cases g with
   |none=>exact .gP
   |some b=>cases n<;>simp[eC] at a
  |nilFunc=>exact .nilFunc
  |nilIface=>exact .nilIface
  |float e c=>cases n<;>simp[eC] at a
  |complex e b c=>cases n<;>simp[eC] at a
  |func f o p=>cases n<;>simp[eC] at a
  |iface k v=>cases n with
   |zero=>simp[eC] at a
   |succ n=>exact .iface k (pV n v (by simpa [eC] using a))
  |agg h=>cases n with
   |zero=>simp[eC] at a
   |succ n=>exact .agg rfl (fun d i j=>pV n _ (by
    simp only[eC] at a;exact SC.1 a _ (by simp)))
  |tuple h=>cases n with
   |zero=>simp[eC] at a
   |succ n=>exact .tuple rfl (fun d i j=>pV n _ (by
    simp only[eC] at a;exact SC.1 a _ (by simp)))
def cL (G:lC):S3→Bool
 | .tmp _=>R7
 | .const v=>eC 6 v
 | .global _=>R6
 | .func f=>G.b f
def wN (P:Sd)(b:Builtin)(c:Array Sg):Bool:=
 match b with
 | .append=>match c[1]? with
  |some a=>(match P.underlying a with|some (.int _)=>R6|_=>R7)
  |none=>R7
 | .copy| .len| .recover| .unsafeString=>R7
 |_=>R6
def kN (P:Sd)(ρ:aI G)(k:Target)(l:Target):Prop:=∀ a:Target→Target→Prop,(∀ {f h:Fn} (m:mO ρ f h) {d e:Array R2} (j:aQ ρ d e),a (.fn f d) (.fn h e))→(a .nil .nil)→(∀ (b:Builtin) (c:Array Sg) (i:Sg) (g:Array Bool) (j:wN P b c=R7),a (.builtin b c i g) (.builtin b c i g))→a k l
def kN.fn{P:Sd}{ρ:aI G}{f f':Fn}(d:mO ρ f f'){c a:Array R2}(h:aQ ρ c a):kN P ρ (.fn f c) (.fn f' a):=fun e b g i=>b d h
def kN.nil{P:Sd}{ρ:aI G}:kN P ρ .nil .nil:=fun b c a d=>a
def kN.builtin{P:Sd}{ρ:aI G}(b:Builtin)(a:Array Sg)(t:Sg)(cs:Array Bool)(h:wN P b a=R7):kN P ρ (.builtin b a t cs) (.builtin b a t cs):=fun d e f c=>c b a t cs h
def kN.ind{P:Sd}{ρ:aI G}{e:∀ (a:Target) (d:Target),kN P ρ a d→Prop}(fn:∀ {f f':Fn} (i:mO ρ f f') {c j:Array R2} (h:aQ ρ c j),e _ _ (kN.fn i h))(nil:e _ _ (kN.nil))(builtin:∀ (b:Builtin) (g:Array Sg) (t:Sg) (cs:Array Bool) (h:wN P b g=true),e _ _ (kN.builtin b g t cs h)){a:Target}{d:Target}(h:kN P ρ a d):e a d h:=(h (fun a d=>kN P ρ a d∧∀ h,e a d h) (fun {f} {f'} i {c} {j} h=>⟨kN.fn i h,fun _=>fn i h⟩) (⟨kN.nil,fun _=>nil⟩) (fun b g t cs h=>⟨kN.builtin b g t cs h,fun _=>builtin b g t cs h⟩)).2 h
structure vU(P:Sd)(ρ:aI G)(d d':Uc):Prop where
 target:kN P ρ d.target d'.target
 args:aQ ρ d.args d'.args
def gK (P:Sd)(ρ:aI G)(i:Next)(j:Next):Prop:=∀ a:Next→Next→Prop,(∀ {v e:R2} (d:ap ρ v e),a (.value v) (.value e))→(a .skip .skip)→(∀ (f:T1) (k:G.b f=R7) {g h:Array R2} (d:aQ ρ g h),a (.enter f g) (.enter f h))→(∀ {b c:Uc} (d:vU P ρ b c),a (.defer b) (.defer c))→(a .recover .recover)→a i j
def gK.value{P:Sd}{ρ:aI G}{v a:R2}(h:ap ρ v a):gK P ρ (.value v) (.value a):=fun c b d e f g=>b h
def gK.skip{P:Sd}{ρ:aI G}:gK P ρ .skip .skip:=fun b c a d e f=>a
def gK.enter{P:Sd}{ρ:aI G}(f:T1)(c:G.b f=R7){vs a:Array R2}(h:aQ ρ vs a):gK P ρ (.enter f vs) (.enter f a):=fun d e g b i j=>b f c h
def gK.defer{P:Sd}{ρ:aI G}{d a:Uc}(h:vU P ρ d a):gK P ρ (.defer d) (.defer a):=fun c e f g b i=>b h
def gK.recover{P:Sd}{ρ:aI G}:gK P ρ .recover .recover:=fun b c d e f a=>a
def gK.ind{P:Sd}{ρ:aI G}{a:∀ (b:Next) (c:Next),gK P ρ b c→Prop}(value:∀ {v j:R2} (h:ap ρ v j),a _ _ (gK.value h))(skip:a _ _ (gK.skip))(enter:∀ (f:T1) (e:G.b f=true) {vs g:Array R2} (h:aQ ρ vs g),a _ _ (gK.enter f e h))(defer:∀ {d i:Uc} (h:vU P ρ d i),a _ _ (gK.defer h))(recover:a _ _ (gK.recover)){b:Next}{c:Next}(h:gK P ρ b c):a b c h:=(h (fun b c=>gK P ρ b c∧∀ h,a b c h) (fun h=>⟨gK.value h,fun _=>value h⟩) (⟨gK.skip,fun _=>skip⟩) (fun f e {vs} {g} h=>⟨gK.enter f e h,fun _=>enter f e h⟩) (fun h=>⟨gK.defer h,fun _=>defer h⟩) (⟨gK.recover,fun _=>recover⟩)).2 h
section
variable {P P':Sd}{ρ:aI G}
def aQ.two{vs d:Array R2}(h:aQ ρ vs d):(∃ a b a' b',vs=#[a,b]∧d=#[a',b']∧ap ρ a a'∧ap ρ b b')∨(vs.size≠2∧d.size≠2):=by
 by_cases c:vs.size=2
 ·have e:d.size=2:=by rw[← h.1];exact c
  obtain⟨f⟩:=vs;obtain⟨g⟩:=d;simp at c e
  match f,g,c,e,h with
  | [a,b],[a',b'],_,_,h=>exact .inl ⟨a,b,a',b',rfl,rfl,h.2 0 (by simp) (by simp),h.2 1 (by simp) (by simp)⟩
 ·exact .inr ⟨c,by rw[← h.1];exact c⟩
theorem uD:∀ (n:Nat) {ρ:aI G} {a a':SL} (b:ByteArray),cm ρ a a'→ak P P' (ir (α:=ByteArray)) ρ (loadBytes a b n) (loadBytes a' b n)
 |0,ρ,a,a',b,c=>.au rfl
 |n+1,ρ,a,a',b,c=>by
  unfold loadBytes;refine .load c (fun v g d=>?_);cases d using ap.ind with
  |int e f=>
   cases e<;>first|exact ak.stuck|exact uD n _ (c.add 1)
  |_=>exact ak.stuck
def Lu(L:Alike G P P')(t:Sg):ak P P' (ir (α:=Sg)) ρ (elemOf t) (elemOf t):=by
 unfold elemOf;refine(aK L.S t).bindM (fun e b d c a=>?_);obtain⟨rfl,-⟩:=a;cases b<;>first|exact .au rfl|exact ak.stuck
def zl(L:Alike G P P'){a a':SL}(u:Sg)(n:Nat)(h:cm ρ a a'):ak P P' (ir (α:=Bool)) ρ (variablesAt a u n) (variablesAt a' u n):=by
 unfold variablesAt;refine .asks ?_;refine(nP h.1).bindM (fun g c f d b=>?_);cases b;cases c with
 |none=>exact .au rfl
 |some e=>dsimp only;rw[L.j9,L.depth,L.cells,← h.2.1];exact .au rfl
theorem xM(L:Alike G P P')(c:Array Sg)(t:Sg){vs e:Array R2}(h:aQ ρ vs e):ak P P' ap ρ (Builtin.unsafeString_ c t vs) (Builtin.unsafeString_ c t e):=by
 unfold Builtin.unsafeString_;rcases h.two with⟨n,p,o,q,rfl,rfl,b,k⟩|⟨g,i⟩
 ·cases b using ap.ind with
  |cD=>
   refine(nN k).bindM (fun C A B d a=>?_);cases a;cases c[0]? with
   |none=>exact ak.stuck
   |some m=>
    dsimp only
    split
    ·exact tL L _ (by simp) (by simp) (by simp)
    ·split
     ·exact eL
     ·split
      ·exact .au (.string _)
      ·exact dX L.S _ (by simp) (by simp) (by simp)
  |ptr b=>
   refine(nN k).bindM (fun C A B d a=>?_);cases a;cases c[0]? with
   |none=>exact ak.stuck
   |some m=>
    dsimp only
    split
    ·exact tL L _ (by simp) (by simp) (by simp)
    ·split
     ·exact eL
     ·split
      ·exact .au (.string _)
      ·refine(Lu L m).bindM (fun I v D l a=>?_);cases a;refine(zl L v _ (b.mono (d.trans l))).bindM (fun J r u w a=>?_);cases a;have j:=b.mono (d.trans (l.trans w))
       split
       ·refine(uD _ _ j).bindM (fun K s H x a=>?_);cases a;exact .freeze (j.mono x) (.pure (.string _))
       ·exact ak.cO
  |_=>exact ak.stuck
 ·obtain⟨y⟩:=vs;obtain⟨z⟩:=e;have f:=h.1;simp only[List.size_toArray] at f g i;rcases y with _|⟨n,_|⟨p,_|⟨r,E⟩⟩⟩<;>rcases z with _|⟨o,_|⟨q,_|⟨u,F⟩⟩⟩<;>first|exact ak.stuck|(exfalso;simp at f;done)|(exfalso;simp at g;done)|(exfalso;simp at i;done)
def b9{s s':Ul R2}(h:ak P P' ap ρ s s'):ak P P' (gK P) ρ (do pure (.value (← s))) (do pure (.value (← s'))):=h.bindM (fun _ _ _ _ h=>.au (.value h))
def xL{s s':Ul Unit}(h:ak P P' (ir (α:=Unit)) ρ s s'):ak P P' (gK P) ρ (do s;pure .skip) (do s';pure .skip):=h.bindM (fun _ _ _ _ _=>.au .skip)
theorem IQ(L:Alike G P P')(b:Builtin)(a:Array Sg)(t:Sg)(cs:Array Bool)(c:wN P b a=R7){vs d:Array R2}(h:aQ ρ vs d):ak P P' (gK P) ρ (builtin b a t cs vs) (builtin b a t cs d):=by
 unfold builtin;cases b<;>first
  |(simp[wN] at c;done)
  |exact b9 (PD L a t h)
  |exact b9 (QI L a t h)
  |exact b9 (xM L a t h)
  |exact .au .recover
  |(refine b9 (Ls L a t (fun i f g e=>?_) h);simp only[wN,f,e] at c;cases c)
def E6(L:Alike G P P')(f:T1)(d:G.b f=R7){vs e:Array R2}(h:aQ ρ vs e):ak P P' (gK P) ρ (callFunc f vs) (callFunc f e):=by
 unfold callFunc;obtain⟨j,b,g,i⟩:=L.OW f d;refine .asks ?_;have a:=L.O6 f;rw[b] at a;cases c:P'.funcs[f]? with
 |none=>rw[c] at a;simp at a
 |some k=>
  rw[c] at a;simp only[TU,Ts,Prod.mk.injEq] at a;rw[b];dsimp only;rw[a.1,i,a.2,g];exact .au (.enter f d h)
def Df(L:Alike G P P'){t b:Target}(j:kN P ρ t b){vs c:Array R2}(h:aQ ρ vs c):ak P P' (gK P) ρ (invoke t vs) (invoke b c):=by
 unfold invoke;cases j using kN.ind with
 |nil=>exact dX L.S _ (by simp) (by simp) (by simp)
 |builtin d k t e g=>exact IQ L d k t e g h
 |fn a i=>
  cases a using mO.ind with
  |func f a=>exact E6 L f a (h.append i)
def wO (G:lC)(P:Sd)(c:Call):Bool:=
 c.args.toList.all (cL G) && match c.callee with
  | .builtin a=>wN P a c.argTypes
  | .value f=>cL G f
  | .invoke _ _=>R6
def F2{e e':S3→R2}(b:∀ x,cL G x=R7→ap ρ (e x) (e' x))(a:Array S3)(h:a.toList.all (cL G)=R7):aQ ρ (a.map e) (a.map e'):=by
 refine⟨by simp,fun f c d=>?_⟩;simp only[Array.getElem_map];exact b _ (SC.1 h _ (by simp))
theorem z9{e e':S3→R2}(i:∀ x,cL G x=R7→ap ρ (e x) (e' x))(c:Call)(t:Sg)(h:wO G P c=R7):ak P P' (vU P) ρ (VE e c t) (VE e' c t):=by
 unfold VE;unfold wO at h;rw[Sz] at h;have g:=F2 i c.args h.1;have a:=h.2;cases d:c.callee with
 |builtin j=>
  rw[d] at a;exact .au ⟨.builtin j _ t _ a,g⟩
 |value f=>
  rw[d] at a;have b:=i f a;dsimp only;unfold Vo;generalize e f=x at b;generalize e' f=p at b;cases b using ap.ind with
  |func b k a l m=>exact .au ⟨.fn b ⟨l,m⟩,aQ.append ⟨k,a⟩ g⟩
  |nilFunc=>exact .au ⟨.nil,g⟩
  |_=>exact ak.stuck
 |invoke o n=>rw[d] at a;cases a
end
end
section
variable {G:lC}
def xd (P:Sd)(t:Sg):Bool:=match P.underlying t with|some (.int _)=>R7|_=>R6
def Gu (P:Sd)(t:Sg):Bool:=match P.underlying t with|some (.map a _)=>plainKey P 10000 a|_=>R7
def eT (G:lC)(P:Sd):Op→Bool
 | .move a| .assign a| .box _ a| .load _ a| .nilCheck a| .unOp _ _ a| .makeInterface _ a| .fieldAddr _ a _| .field _ a _| .extract a _| .panic a=>cL G a
 | .pick c b h=>cL G c && cL G b && cL G h
 | .alloc _=>R7
 | .build _ g| .buildSlice _ _ g=>g.toList.all fun o=>cL G o.2
 | .store _ b v| .binOp _ _ b v _| .makeSlice _ b v| .indexAddr _ b v| .index _ b v=>cL G b && cL G v
 | .convert s j a=>cL G a && xd P s && xd P j
 | .makeFunc k first i=>(match k with| .func f=>G.b f|_=>R6) && first.toList.all (cL G) && i.toList.all (cL G)
 | .makeMap _ p=>p.toList.all (cL G)
 | .slice _ a n l m=>cL G a && n.toList.all (cL G) && l.toList.all (cL G) && m.toList.all (cL G)
 | .lookup d b v _=>Gu P d && cL G b && cL G v
 | .mapUpdate d m e v| .insert d m e v=>Gu P d && cL G m && cL G e && cL G v
 | .call c| .defer c=>wO G P c
 |_=>R6
section
variable {P P':Sd}{ρ:aI G}
theorem IR(L:Alike G P P')(s d:Sg){v f:R2}(b:xd P s=R7)(a:xd P d=R7)(h:ap ρ v f):ak P P' ap ρ (convert s d v) (convert s d f):=by
 unfold convert;refine(aK L.S s).bindM (fun n g l j c=>?_);obtain⟨rfl,c⟩:=c;refine(aK L.S d).bindM (fun o i m k e=>?_);obtain⟨rfl,e⟩:=e;unfold xd at b a;rw[c] at b;rw[e] at a;cases g<;>first|(simp at b;done)|skip
 cases i<;>first|(simp at a;done)|skip
 cases h using ap.ind<;>first|exact .au (.int _ _)|exact ak.cO
def pQ{e e':S3→R2}(a:∀ x,cL G x=R7→ap ρ (e x) (e' x))(o:Option S3)(h:o.toList.all (cL G)=R7):dN ρ (o.map e) (o.map e'):=by
 cases o with
 |none=>exact .none
 |some x=>exact .some (a x (by simpa using h))
def z4{e e':S3→R2}(a:∀ x,cL G x=R7→ap ρ (e x) (e' x))(ps:Array (Nat×S3))(h:(ps.toList.all fun p=>cL G p.2)=R7):gd ρ (ps.map fun(i,x)=>(i,e x)).toList (ps.map fun(i,x)=>(i,e' x)).toList:=by
 rw[Array.toList_map,Array.toList_map];generalize ps.toList=c at h
 induction c with
 |nil=>exact .nil
 |cons p d b=>
  simp only[List.all_cons,Sz] at h;exact .cons p.1 (a _ h.1) (b h.2)
def xf{t:Sg}(h:Gu P t=R7):∀ a b,P.underlying t=RX (.map a b)→plainKey P 10000 a=R7:=by
 intro a b c;unfold Gu at h;rw[c] at h;exact h
theorem PE(L:Alike G P P')(o:Tx){e e':S3→R2}(a:eT G P o.op=R7)(b:∀ x,cL G x=R7→ap ρ (e x) (e' x))(I:∀ x,o.op= .panic x→(∃ t v,e x= .iface t v)∨e x=Tq):ak P P' (gK P) ρ (SE e o) (SE e' o):=by
 unfold SE;cases c:o.op with
 |move x=>rw[c] at a;exact .au (.value (b x a))
 |assign x=>rw[c] at a;exact .au (.value (b x a))
 |pick i g h=>
  rw[c] at a;simp only[eT,Sz] at a;refine(Lt (b i a.1.1)).bindM (fun A x q j H=>?_);cases H;cases x
  ·exact .au (.value ((b h a.2).mono j))
  ·exact .au (.value ((b g a.1.2).mono j))
 |alloc t=>exact b9 (NI L t)
 |box t x=>rw[c] at a;exact b9 (QH t (b x a))
 |build t z=>rw[c] at a;exact b9 (NK L t (z4 b z a))
 |buildSlice t K z=>rw[c] at a;exact b9 (Bl L t K (z4 b z a))
 |load t x=>rw[c] at a;exact b9 (Ly L t (b x a))
 |store t g v=>
  rw[c] at a;simp only[eT,Sz] at a;exact xL (IZ L t (b g a.1) (b v a.2))
 |nilCheck x=>
  rw[c] at a;have d:=b x a;dsimp only;generalize e x=v at d;generalize e' x=C at d;have B:=d;cases d using ap.ind with
  |cD=>exact dX L.S _ (by simp) (by simp) (by simp)
  |nilIface=>exact dX L.S _ (by simp) (by simp) (by simp)
  |nilFunc=>exact dX L.S _ (by simp) (by simp) (by simp)
  |func a Q R S T=>
   cases a using mO.ind with
   |func f O=>exact .au (.value B)
  |_=>exact .au (.value B)
 |binOp p t x q U=>
  rw[c] at a;simp only[eT,Sz] at a;exact b9 ((IS L p t x q (b x a.1) (b q a.2)).bindM (fun A _ _ j _=>NJ L p t ((b x a.1).mono j) ((b q a.2).mono j)))
 |unOp p t x=>rw[c] at a;exact b9 (NR p (b x a))
 |convert s r x=>
  rw[c] at a;simp only[eT,Sz] at a;exact b9 (IR L s r a.1.2 a.2 (b x a.1.1))
 |makeInterface t x=>rw[c] at a;exact b9 (vj L t (b x a))
 |makeFunc F first D=>
  rw[c] at a;simp only[eT,Sz] at a;have u:=F2 b first a.1.2
  have w:=F2 b D a.2;cases F with
  |func f=>exact b9 (.au (.func (.func f a.1.1) u.1 u.2 w.1 w.2))
  |_=>exact absurd a.1.1 (by simp)
 |makeMap t N=>rw[c] at a;exact b9 (IX L t (pQ b N a))
 |makeSlice t g h=>
  rw[c] at a;simp only[eT,Sz] at a;exact b9 (Dg L t (b g a.1) (b h a.2))
 |slice t x J d m=>
  rw[c] at a;simp only[eT,Sz] at a;exact b9 (IY L t (b x a.1.1.1) (pQ b J a.1.1.2) (pQ b d a.1.2) (pQ b m a.2))
 |fieldAddr t x l=>rw[c] at a;exact b9 (IU L t (b x a) l)
 |field t x l=>rw[c] at a;exact b9 (NL L t (b x a) l)
 |indexAddr t g h=>
  rw[c] at a;simp only[eT,Sz] at a;exact b9 (IV L t (b g a.1) (b h a.2))
 |index t g h=>
  rw[c] at a;simp only[eT,Sz] at a;exact b9 (NO L t (b g a.1) (b h a.2))
 |lookup t g h M=>
  rw[c] at a;simp only[eT,Sz] at a;exact b9 (Lz L t M (xf a.1.1) (b g a.1.2) (b h a.2))
 |mapUpdate t m y v=>
  rw[c] at a;simp only[eT,Sz] at a;exact xL (uF L t (xf a.1.1.1) (b m a.1.1.2) (b y a.1.2) (b v a.2))
 |insert t m y v=>
  rw[c] at a;simp only[eT,Sz] at a;exact xL (uF L t (xf a.1.1.1) (b m a.1.1.2) (b y a.1.2) (b v a.2))
 |extract x l=>rw[c] at a;exact b9 (IT (b x a) l)
 |call i=>
  rw[c] at a;exact(z9 b i o.type a).bindM (fun A r E _ n=>Df L n.target n.args)
 |defer i=>
  rw[c] at a;exact(z9 b i o.type a).bindM (fun A r E _ n=>.au (.defer n))
 |panic x=>
  rw[c] at a;have d:=b x a;dsimp only;rcases I x c with⟨t,v,k⟩|k
  ·rw[k] at d ⊢;generalize e' x=C at d;cases d using ap.ind with
   |iface t k=>exact ak.halt (.panic (.iface t k))
  ·rw[k] at d ⊢;generalize e' x=C at d;unfold Tq at d ⊢;cases d using ap.ind with
   |tuple u w=>exact ak.stuck
 |_=>rw[c] at a;simp[eT] at a
end
end
section
variable {G:lC}
def pL:Op→Bool
 | .panic _=>R7
 |_=>R6
def nI (ops:Array Tx)(a b:Nat):Bool:=
 match ops[b]? with
 |some d=>match d.op with
  | .panic g=>match ops[a]? with
   |some c=>(match c.op,c.dst,g with| .makeInterface _ _,RX e,.tmp f=>e == f|_,_,_=>R6) && c.guard.isNone
   |none=>R6
  |_=>R7
 |none=>R7
def jP (ops:Array Tx):List Nat→Bool
 |a :: b :: c=>nI ops a b && jP ops (b :: c)
 |_=>R7
def Gw (ops:Array Tx)(i:Nat):Bool:=match ops[i]? with|some a=> !pL a.op|none=>R7
def lT (G:lC)(P:Sd)(ops:Array Tx)(b:Bool):Bool:=
 (ops.toList.all fun a=>eT G P a.op) && if b then ops.toList.all (fun a=> !pL a.op) else jP ops (SS ops.size) && Gw ops 0
def bW (G:lC)(P:Sd):U7→Bool
 | .region _ e d=>lT G P e d
 | .seq a b=>bW G P a && bW G P b
 | .cond c a b=>cL G c && bW G P a && bW G P b
 | .block _ a| .loop a| .scope a=>bW G P a
 | .skip| .exit _| .label _| .ret=>R7
 | .rangeFunc _ _ _ _| .goto _| .refuse _=>R6
def bI (G:lC)(P:Sd)(h:UC):Prop:=∀ b:UC→Prop,(∀ (a:U7) (c:bW G P a=R7),b (.code a))→(∀ (f:Nat),b (.inBlock f))→(∀ (a:U7) (c:bW G P a=R7),b (.inLoop a))→(∀ (a:U7) (c:bW G P a=R7),b (.inScope a))→(∀ (d:Array Tx) (e:List Nat) (c:(d.toList.all fun g=>eT G P g.op)=R7) (i:jP d e=R7),b (.inRegion d e))→b h
def bI.code{G:lC}{P:Sd}(c:U7)(h:bW G P c=R7):bI G P (.code c):=fun b a d e f g=>a c h
def bI.inBlock{G:lC}{P:Sd}(i:Nat):bI G P (.inBlock i):=fun b c a d e f=>a i
def bI.inLoop{G:lC}{P:Sd}(c:U7)(h:bW G P c=R7):bI G P (.inLoop c):=fun b d e a f g=>a c h
def bI.inScope{G:lC}{P:Sd}(c:U7)(h:bW G P c=R7):bI G P (.inScope c):=fun b d e f a g=>a c h
def bI.inRegion{G:lC}{P:Sd}(ops:Array Tx)(todo:List Nat)(h:(ops.toList.all fun o=>eT G P o.op)=R7)(hc:jP ops todo=R7):bI G P (.inRegion ops todo):=fun b c d e f a=>a ops todo h hc
def bI.ind{G:lC}{P:Sd}{a:∀ (b:UC),bI G P b→Prop}(code:∀ (c:U7) (h:bW G P c=true),a _ (bI.code c h))(inBlock:∀ (i:Nat),a _ (bI.inBlock i))(inLoop:∀ (c:U7) (h:bW G P c=true),a _ (bI.inLoop c h))(inScope:∀ (c:U7) (h:bW G P c=true),a _ (bI.inScope c h))(inRegion:∀ (ops:Array Tx) (todo:List Nat) (h:(ops.toList.all fun o=>eT G P o.op)=true) (hc:jP ops todo=true),a _ (bI.inRegion ops todo h hc)){b:UC}(h:bI G P b):a b h:=(h (fun b=>bI G P b∧∀ h,a b h) (fun c h=>⟨bI.code c h,fun _=>code c h⟩) (fun i=>⟨bI.inBlock i,fun _=>inBlock i⟩) (fun c h=>⟨bI.inLoop c h,fun _=>inLoop c h⟩) (fun c h=>⟨bI.inScope c h,fun _=>inScope c h⟩) (fun ops todo h hc=>⟨bI.inRegion ops todo h hc,fun _=>inRegion ops todo h hc⟩)).2 h
def B8 (G:lC)(P:Sd)(l:List UC):Prop:=∀ a∈l,bI G P a∧∀ b c,a≠.inRegion b c
def qT (G:lC)(P:Sd):List UC→Prop
 | []=>True
 |i :: a=>bI G P i∧B8 G P a
structure G5(ρ:aI G)(p p':Tv):Prop where
 v:ap ρ p.v p'.v
 r:p.recovered=p'.recovered
 g:p.goexit=p'.goexit
def ig (ρ:aI G)(f:List Tv)(g:List Tv):Prop:=∀ a:List Tv→List Tv→Prop,(a [] [])→(∀ {d e:Tv} {b c:List Tv} (h:G5 ρ d e) (i:a b c),a (d :: b) (e :: c))→a f g
def ig.nil{ρ:aI G}:ig ρ [] []:=fun b a c=>a
def ig.cons{ρ:aI G}{p c:Tv}{l b:List Tv}(h:G5 ρ p c)(f:ig ρ l b):ig ρ (p :: l) (c :: b):=fun d e a=>a h (f d e a)
def ig.ind{ρ:aI G}{d:∀ (a:List Tv) (b:List Tv),ig ρ a b→Prop}(nil:d _ _ (ig.nil))(cons:∀ {p f:Tv} {l e:List Tv} (h:G5 ρ p f) (c:ig ρ l e),(d _ _ c)→d _ _ (ig.cons h c)){a:List Tv}{b:List Tv}(h:ig ρ a b):d a b h:=(h (fun a b=>ig ρ a b∧∀ h,d a b h) (⟨ig.nil,fun _=>nil⟩) (fun h c=>⟨ig.cons h c.1,fun _=>cons h c.1 (c.2 _)⟩)).2 h
def fC (ρ:aI G)(d:FrameMode)(e:FrameMode):Prop:=∀ a:FrameMode→FrameMode→Prop,(a .run .run)→(a .returning .returning)→(∀ {b c:List Tv} (f:ig ρ b c),a (.panicking b) (.panicking c))→a d e
def fC.run{ρ:aI G}:fC ρ .run .run:=fun b a c d=>a
def fC.returning{ρ:aI G}:fC ρ .returning .returning:=fun b c a d=>a
def fC.panicking{ρ:aI G}{c a:List Tv}(h:ig ρ c a):fC ρ (.panicking c) (.panicking a):=fun d e f b=>b h
def fC.ind{ρ:aI G}{d:∀ (a:FrameMode) (b:FrameMode),fC ρ a b→Prop}(run:d _ _ (fC.run))(returning:d _ _ (fC.returning))(panicking:∀ {c e:List Tv} (h:ig ρ c e),d _ _ (fC.panicking h)){a:FrameMode}{b:FrameMode}(h:fC ρ a b):d a b h:=(h (fun a b=>fC ρ a b∧∀ h,d a b h) (⟨fC.run,fun _=>run⟩) (⟨fC.returning,fun _=>returning⟩) (fun h=>⟨fC.panicking h,fun _=>panicking h⟩)).2 h
def iv (P:Sd)(ρ:aI G)(f:List Uc)(g:List Uc):Prop:=∀ a:List Uc→List Uc→Prop,(a [] [])→(∀ {b c:Uc} {d e:List Uc} (h:vU P ρ b c) (i:a d e),a (b :: d) (c :: e))→a f g
def iv.nil{P:Sd}{ρ:aI G}:iv P ρ [] []:=fun b a c=>a
def iv.cons{P:Sd}{ρ:aI G}{d b:Uc}{l c:List Uc}(h:vU P ρ d b)(g:iv P ρ l c):iv P ρ (d :: l) (b :: c):=fun e f a=>a h (g e f a)
def iv.ind{P:Sd}{ρ:aI G}{e:∀ (a:List Uc) (b:List Uc),iv P ρ a b→Prop}(nil:e _ _ (iv.nil))(cons:∀ {d f:Uc} {l g:List Uc} (h:vU P ρ d f) (c:iv P ρ l g),(e _ _ c)→e _ _ (iv.cons h c)){a:List Uc}{b:List Uc}(h:iv P ρ a b):e a b h:=(h (fun a b=>iv P ρ a b∧∀ h,e a b h) (⟨iv.nil,fun _=>nil⟩) (fun h c=>⟨iv.cons h c.1,fun _=>cons h c.1 (c.2 _)⟩)).2 h
structure cj(P:Sd)(ρ:aI G)(fr fr':Sn):Prop where
 fn:fr'.fn=fr.fn
 may:G.b fr.fn=R7
 tmps:aQ ρ fr.tmps fr'.tmps
 todo:fr'.todo=fr.todo
 ok:qT G P fr.todo
 defers:iv P ρ fr.defers fr'.defers
 mode:fC ρ fr.mode fr'.mode
 kind:fr'.kind=fr.kind
 kinds:fr.kind= .normal∨fr.kind= .deferred
 round:fr.roundOf=RZ
 round':fr'.roundOf=RZ
def ez (fr:Sn):Prop:=fr.mode= .run→∀ d b f e c a,fr.todo= .inRegion d (b :: f) :: e→d[b]? =RX c→c.op= .panic a→(∃ g v,fr.eval a= .iface g v)∨fr.eval a=Tq
def oH (fr:Sn):Prop:=fr.mode= .run→∃ c a f e b d,fr.todo= .inRegion c (a :: f) :: e∧c[a]? =RX b∧b.op= .call d
def dh (P:Sd)(ρ:aI G)(e:List Sn)(g:List Sn):Prop:=∀ a:List Sn→List Sn→Prop,(a [] [])→(∀ {f b:Sn} {c d:List Sn} (h:cj P ρ f b) (j:oH f) (i:a c d),a (f :: c) (b :: d))→a e g
def dh.nil{P:Sd}{ρ:aI G}:dh P ρ [] []:=fun b a c=>a
def dh.cons{P:Sd}{ρ:aI G}{f f':Sn}{l b:List Sn}(h:cj P ρ f f')(g:oH f)(e:dh P ρ l b):dh P ρ (f :: l) (f' :: b):=fun c d a=>a h g (e c d a)
def dh.ind{P:Sd}{ρ:aI G}{d:∀ (a:List Sn) (b:List Sn),dh P ρ a b→Prop}(nil:d _ _ (dh.nil))(cons:∀ {f f':Sn} {l g:List Sn} (h:cj P ρ f f') (e:oH f) (c:dh P ρ l g),(d _ _ c)→d _ _ (dh.cons h e c)){a:List Sn}{b:List Sn}(h:dh P ρ a b):d a b h:=(h (fun a b=>dh P ρ a b∧∀ h,d a b h) (⟨dh.nil,fun _=>nil⟩) (fun h e c=>⟨dh.cons h e c.1,fun _=>cons h e c.1 (c.2 _)⟩)).2 h
def cA:Sn→List Sn→Prop
 |fr,[]=>fr.kind= .normal
 |_,f :: a=>cA f a
theorem cA.of{fr b:Sn}(h:b.kind=fr.kind):∀ {l:List Sn},cA fr l→cA b l
 | [],a=>h.trans a
 |_ :: _,a=>a
section
variable {P:Sd}{ρ σ:aI G}
def kN.mono(a:ρ.le σ){t b:Target}(h:kN P ρ t b):kN P σ t b:=by
 cases h using kN.ind with
 |fn e h=>exact .fn (e.mono a) (h.mono a)
 |nil=>exact .nil
 |builtin c f t d h=>exact .builtin c f t d h
def vU.mono(a:ρ.le σ){t b:Uc}(h:vU P ρ t b):vU P σ t b:=⟨h.target.mono a,h.args.mono a⟩
def iv.mono(b:ρ.le σ){t a:List Uc}(h:iv P ρ t a):iv P σ t a:=by
 induction h using iv.ind with
 |nil=>exact .nil
 |cons h _ c=>exact .cons (h.mono b) c
def G5.mono(b:ρ.le σ){t a:Tv}(h:G5 ρ t a):G5 σ t a:=⟨h.v.mono b,h.r,h.g⟩
def ig.mono(b:ρ.le σ){t a:List Tv}(h:ig ρ t a):ig σ t a:=by
 induction h using ig.ind with
 |nil=>exact .nil
 |cons h _ c=>exact .cons (h.mono b) c
def ig.append{a a' b b':List Tv}(h:ig ρ a a')(c:ig ρ b b'):ig ρ (a ++ b) (a' ++ b'):=by
 induction h using ig.ind with
 |nil=>exact c
 |cons h _ d=>exact .cons h d
def fC.mono(b:ρ.le σ){t a:FrameMode}(h:fC ρ t a):fC σ t a:=by
 cases h using fC.ind with
 |run=>exact .run
 |returning=>exact .returning
 |panicking h=>exact .panicking (h.mono b)
def cj.mono(a:ρ.le σ){f f':Sn}(h:cj P ρ f f'):cj P σ f f':=
 ⟨h.fn,h.may,h.tmps.mono a,h.todo,h.ok,h.defers.mono a,h.mode.mono a,h.kind,h.kinds,h.round,h.round'⟩
def dh.mono(a:ρ.le σ){f f':List Sn}(h:dh P ρ f f'):dh P σ f f':=by
 induction h using dh.ind with
 |nil=>exact .nil
 |cons h b _ c=>exact .cons (h.mono a) b c
def lA:ap ρ Tq Tq:=.tuple rfl (fun b a=>by simp at a)
def aQ.getD{x c:Array R2}(h:aQ ρ x c)(i:Nat):ap ρ (x.getD i Tq) (c.getD i Tq):=by
 rw[SH,SH];rcases h.get i with⟨a,b⟩|⟨v,e,a,b,d⟩
 ·rw[a,b];exact lA
 ·rw[a,b];exact d
def cj.eval{f f':Sn}(h:cj P ρ f f')(x:S3)(a:cL G x=R7):ap ρ (f.eval x) (f'.eval x):=by
 cases x with
 |tmp c=>exact h.tmps.getD c
 |const v=>exact pV 6 v a
 |global d=>cases a
 |func f=>exact .func (.func f a) rfl (fun b h=>by simp at h) rfl (fun b h=>by simp at h)
def D9{x c:Array R2}(h:aQ ρ x c)(ops:Array Tx)(j:Nat):Tc ops x j=Tc ops c j:=by
 unfold Tc;cases(ops[j]?).bind (·.dst) with
 |none=>rfl
 |some e=>
  simp only[Vs];rcases h.get e with⟨a,b⟩|⟨v,f,a,b,d⟩
  ·rw[a,b]
  ·rw[a,b];cases d using ap.ind<;>rfl
def B8.todo{l:List UC}(h:B8 G P l):qT G P l:=by
 cases l with
 |nil=>trivial
 |cons b l=>exact⟨(h b (by simp)).1,fun c a=>h c (by simp[a])⟩
def B8.tail{i:UC}{l:List UC}(h:B8 G P (i :: l)):B8 G P l:=fun b a=>h b (by simp[a])
def B8.cons{i:UC}{l:List UC}(b:bI G P i)(c:∀ ops t,i≠.inRegion ops t)(h:B8 G P l):B8 G P (i :: l):=fun d a=>by
 rcases TE.1 a with rfl|a
 ·exact⟨b,c⟩
 ·exact h d a
theorem AZ{id:Nat}:∀ {l k:List UC},B8 G P l→VQ id l=RX k→B8 G P k
 | [],k,_,a=>by simp[VQ] at a
 |i :: l,k,c,a=>by
  have b:B8 G P l:=c.tail;cases i<;>simp only[VQ] at a<;>first
   |exact AZ b a
   |(split at a
     ·cases a;exact b
     ·exact AZ b a)
def zS{fr:Sn}(h:∀ ops i rest k,fr.todo≠.inRegion ops (i :: rest) :: k):ez fr:=fun _ ops i rest k b c a=>absurd a (h ops i rest k)
def O9{fr:Sn}{k:List UC}(h:B8 G P k):ez {fr with todo:=k}:=zS (fun c b d e a=>by
 simp only at a;exact(h (.inRegion c (b :: d)) (by rw[a];simp)).2 _ _ rfl)
def gO{fr:Sn}(h:fr.mode≠.run):ez fr:=fun a=>absurd a h
def Ay{fr:Sn}(h:fr.mode≠.run):oH fr:=fun a=>absurd a h
end
end
section
variable {G:lC}{bu:Nat}
def bY (P:Sd)(ga eZ:List Sn)(ρ:aI G)(t:Nat)(w':R3)(q:V0)(r:V0):Prop:=∀ d:V0→V0→Prop,(∀ (o:Outcome) (p:R3) (b:Array Ti) (f:V0),d (.ended o p b) f)→(∀ {n:SM} {a:R3} {b:Array Ti} {f:V0} (s:t<a.drawn),d (.go n a b) f)→(∀ {c:aI G} {h:Nat} {e j:Sn} {av k:List Sn} {a g:R3} {b i:Array Ti} (y:cj P c e j) (z:ez e) (A:dh P c av k) (C:dY c h a g) (x:Fr ρ c w' g) (v:∀ l∈i,jy c l) (u:cA e av) (B:a.drawn+h=t),d (.go (Se e (av ++ ga)) a b) (.go (Se j (k ++ eZ)) g i))→d q r
def bY.lost{P:Sd}{ga eZ:List Sn}{ρ:aI G}{t:Nat}{w':R3}(o:Outcome)(a:R3)(es:Array Ti)(r:V0):bY P ga eZ ρ t w' (.ended o a es) r:=fun c b d e=>b o a es r
def bY.over{P:Sd}{ga eZ:List Sn}{ρ:aI G}{t:Nat}{w':R3}{g:SM}{a:R3}{es:Array Ti}{r:V0}(h:t<a.drawn):bY P ga eZ ρ t w' (.go g a es) r:=fun c d b e=>b h
def bY.go{P:Sd}{ga eZ:List Sn}{ρ:aI G}{t:Nat}{w':R3}{σ:aI G}{b1:Nat}{fr fr':Sn}{av tops':List Sn}{a w1':R3}{es b:Array Ti}(h:cj P σ fr fr')(i:ez fr)(j:dh P σ av tops')(l:dY σ b1 a w1')(g:Fr ρ σ w' w1')(f:∀ e∈b,jy σ e)(d:cA fr av)(k:a.drawn+b1=t):bY P ga eZ ρ t w' (.go (Se fr (av ++ ga)) a es) (.go (Se fr' (tops' ++ eZ)) w1' b):=fun n o p c=>c h i j l g f d k
def bY.ind{P:Sd}{ga eZ:List Sn}{ρ:aI G}{t:Nat}{w':R3}{d:∀ (a:V0) (b:V0),bY P ga eZ ρ t w' a b→Prop}(lost:∀ (o:Outcome) (f:R3) (es:Array Ti) (r:V0),d (.ended o f es) r (bY.lost o f es r))(over:∀ {g:SM} {c:R3} {es:Array Ti} {r:V0} (h:t<c.drawn),d (.go g c es) r (bY.over h))(go:∀ {σ:aI G} {b1:Nat} {fr fr':Sn} {av tops':List Sn} {c w1':R3} {es u:Array Ti} (l:cj P σ fr fr') (n:ez fr) (p:dh P σ av tops') (s:dY σ b1 c w1') (k:Fr ρ σ w' w1') (j:∀ e∈u,jy σ e) (i:cA fr av) (q:c.drawn+b1=t),d (.go (Se fr (av ++ ga)) c es) (.go (Se fr' (tops' ++ eZ)) w1' u) (bY.go l n p s k j i q)){a:V0}{b:V0}(h:bY P ga eZ ρ t w' a b):d a b h:=(h (fun a b=>bY P ga eZ ρ t w' a b∧∀ h,d a b h) (fun o f es r=>⟨bY.lost o f es r,fun _=>lost o f es r⟩) (fun h=>⟨bY.over h,fun _=>over h⟩) (fun l n p s k j i q=>⟨bY.go l n p s k j i q,fun _=>go l n p s k j i q⟩)).2 h
def mM (G:lC)(P P':Sd):Prop:=∀ f,G.b f=R7→∃ a b,P.funcs[f]? =RX a∧P'.funcs[f]? =RX a∧a.body=RX b∧bW G P b=R7
section
variable {P P':Sd}{ρ:aI G}{ga eZ:List Sn}{w w':R3}{m m':Bool}
def iA:∀ e∈(#[]:Array Ti),jy ρ e:=fun e a=>by simp at a
theorem J6{ops:Array Tx}{k:List UC}(i:B8 G P k)(h:lT G P ops R6=R7)(fr:Sn):qT G P (.inRegion ops (SS ops.size) :: k)∧ez {fr with todo:=.inRegion ops (SS ops.size) :: k}:=by
 unfold lT at h;simp only[SD,if_false,Sz] at h;refine⟨⟨.inRegion _ _ h.1 h.2.1,i⟩,fun _ p j q l o r c f g=>?_⟩;simp only[UW,Vk] at c;obtain⟨⟨rfl,a⟩,-⟩:=c;have e:j=0:=by
  rw[List.range_eq_range'] at a;cases d:ops.size with
  |zero=>rw[d] at a;simp at a
  |succ n=>rw[d,List.range'_succ] at a;simp at a;omega
 have b:=h.2.2;unfold Gw at b;rw[← e,f] at b;simp only[g,pL] at b;cases b
theorem M7{ops:Array Tx}{k:List UC}(o:B8 G P k)(h:lT G P ops R7=R7)(l:List Nat)(fr:Sn):qT G P (.inRegion ops l :: k)∧ez {fr with todo:=.inRegion ops l :: k}:=by
 unfold lT at h;simp only[if_true,Sz] at h;have f:∀ (b:Nat) (a:Tx),ops[b]? =RX a→pL a.op=R6:=fun b a c=>by
  have:=SC.1 h.2 a (by
   have:=R9.1 c;obtain⟨s,rfl⟩:=this;simp)
  simpa using this
 refine⟨⟨.inRegion _ _ h.1 ?_,o⟩,fun _ u b v t a x e i j=>?_⟩
 ·have:∀ l,jP ops l=R7:=by
   intro l
   induction l with
   |nil=>rfl
   |cons q g p=>
    cases g with
    |nil=>rfl
    |cons d g=>
     simp only[jP,Sz];refine⟨?_,p⟩;unfold nI;cases n:ops[d]? with
     |none=>rfl
     |some a=>
      have:=f d a n;dsimp only;cases c:a.op<;>first|rfl|(rw[c] at this;simp[pL] at this)
  exact this l
 ·simp only[UW,Vk] at e;obtain⟨⟨rfl,r⟩,-⟩:=e;have:=f b a i;rw[j] at this;simp[pL] at this
def cj.Mi{fr fr':Sn}(h:cj P ρ fr fr'){k:List UC}(a:qT G P k):cj P ρ {fr with todo:=k} {fr' with todo:=k}:=
 ⟨h.fn,h.may,h.tmps,rfl,a,h.defers,h.mode,h.kind,h.kinds,h.round,h.round'⟩
def GO{fr fr':Sn}{av tops':List Sn}(b:cj P ρ fr fr')(e:dh P ρ av tops')(f:dY ρ bu w w'){k:List UC}(d:qT G P k)(c:ez {fr with todo:=k})(a:cA fr av):
 bY P ga eZ ρ (w.drawn+bu) w' (.go (Se {fr with todo:=k} (av ++ ga)) w) (.go (Se {fr' with todo:=k} (tops' ++ eZ)) w'):=
 .go (b.Mi d) c e f (Fr.refl _ _) iA (cA.of (by rfl) a) rfl
def PO{fr fr':Sn}{av tops':List Sn}(c:cj P ρ fr fr')(d:dh P ρ av tops')(e:dY ρ bu w w'){k:List UC}(a:B8 G P k)(b:cA fr av):
 bY P ga eZ ρ (w.drawn+bu) w' (.go (Se {fr with todo:=k} (av ++ ga)) w) (.go (Se {fr' with todo:=k} (tops' ++ eZ)) w'):=GO c d e a.todo (O9 a) b
def Dt{fr fr':Sn}(b:cj P ρ fr fr')(c:fr.mode= .run):fr'.mode= .run:=by
 have:=b.mode;rw[c] at this;cases a:fr'.mode with
 |run=>rfl
 |returning=>rw[a] at this;cases this using fC.ind
 |panicking d=>rw[a] at this;cases this using fC.ind
theorem KH(R:P'.follows .mixedOrders=P.follows .mixedOrders){fr fr':Sn}{av tops':List Sn}(c:cj P ρ fr fr')(B:dh P ρ av tops')(p:dY ρ bu w w')(d:fr.mode= .run)(S:∀ ops i r k,fr.todo≠.inRegion ops (i :: r) :: k)(z:cA fr av):
 bY P ga eZ ρ (w.drawn+bu) w' (SO P m (Se fr (av ++ ga)) w) (SO P' m' (Se fr' (tops' ++ eZ)) w'):=by
 have h:=Dt c d;have g:=c.todo;have F:=c.ok;have D:=c.round;have H:=c.round';have I:bY P ga eZ ρ (w.drawn+bu) w' (.go (Se {fr with mode:=.returning} (av ++ ga)) w) (.go (Se {fr' with mode:=.returning} (tops' ++ eZ)) w'):=
  .go ⟨c.fn,c.may,c.tmps,c.todo,c.ok,c.defers,.returning,c.kind,c.kinds,c.round,c.round'⟩ (gO (by simp)) B p (Fr.refl _ _) iA (cA.of (by rfl) z) rfl
 cases b:fr.todo with
 |nil=>
  rw[b] at g;have j:SO P m (Se fr (av ++ ga)) w= .go (Se {fr with mode:=.returning} (av ++ ga)) w:=by simp[Se,SO,SJ,d,b,D]
  have o:SO P' m' (Se fr' (tops' ++ eZ)) w'= .go (Se {fr' with mode:=.returning} (tops' ++ eZ)) w':=by simp[Se,SO,SJ,h,g,H]
  rw[j,o];exact I
 |cons X k=>
  rw[b] at g F;obtain⟨O,l⟩:=F;have move:∀ (t:List UC),B8 G P t→SO P m (Se fr (av ++ ga)) w= .go (Se {fr with todo:=t} (av ++ ga)) w→SO P' m' (Se fr' (tops' ++ eZ)) w'= .go (Se {fr' with todo:=t} (tops' ++ eZ)) w'→bY P ga eZ ρ (w.drawn+bu) w' (SO P m (Se fr (av ++ ga)) w) (SO P' m' (Se fr' (tops' ++ eZ)) w'):=fun t s j o=>by
   rw[j,o];exact PO c B p s z
  cases O using bI.ind with
  |inBlock i=>exact move k l (by simp[Se,SO,SJ,d,b]) (by simp[Se,SO,SJ,h,g])
  |inLoop n a=>exact move (.code n :: .inLoop n :: k) (.cons (.code n a) (by simp) (.cons (.inLoop n a) (by simp) l)) (by simp[Se,SO,SJ,d,b]) (by simp[Se,SO,SJ,h,g])
  |inScope n a=>exact move k l (by simp[Se,SO,SJ,d,b]) (by simp[Se,SO,SJ,h,g])
  |inRegion ops todo a V=>
   cases todo with
   |nil=>exact move k l (by simp[Se,SO,SJ,d,b]) (by simp[Se,SO,SJ,h,g])
   |cons i r=>exact absurd b (S ops i r k)
  |code n a=>
   cases n with
   |skip=>exact move k l (by simp[Se,SO,SJ,d,b]) (by simp[Se,SO,SJ,h,g])
   |label T=>exact move k l (by simp[Se,SO,SJ,d,b]) (by simp[Se,SO,SJ,h,g])
   |seq e q=>
    simp only[bW,Sz] at a;exact move (.code e :: .code q :: k) (.cons (.code e a.1) (by simp) (.cons (.code q a.2) (by simp) l)) (by simp[Se,SO,SJ,d,b]) (by simp[Se,SO,SJ,h,g])
   |block id e=>
    simp only[bW] at a;exact move (.code e :: .inBlock id :: k) (.cons (.code e a) (by simp) (.cons (.inBlock id) (by simp) l)) (by simp[Se,SO,SJ,d,b]) (by simp[Se,SO,SJ,h,g])
   |loop e=>
    simp only[bW] at a;exact move (.code e :: .inLoop e :: k) (.cons (.code e a) (by simp) (.cons (.inLoop e a) (by simp) l)) (by simp[Se,SO,SJ,d,b]) (by simp[Se,SO,SJ,h,g])
   |scope e=>
    simp only[bW] at a;exact move (.code e :: .inScope e :: k) (.cons (.code e a) (by simp) (.cons (.inScope e a) (by simp) l)) (by simp[Se,SO,SJ,d,b]) (by simp[Se,SO,SJ,h,g])
   |ret=>
    have j:SO P m (Se fr (av ++ ga)) w= .go (Se {fr with mode:=.returning} (av ++ ga)) w:=by simp[Se,SO,SJ,d,b,D]
    have o:SO P' m' (Se fr' (tops' ++ eZ)) w'= .go (Se {fr' with mode:=.returning} (tops' ++ eZ)) w':=by simp[Se,SO,SJ,h,g,H]
    rw[j,o];exact I
   |exit id=>
    cases A:VQ id k with
    |some t=>exact move t (AZ l A) (by simp[Se,SO,SJ,d,b,A]) (by simp[Se,SO,SJ,h,g,A])
    |none=>
     have j:∃ x,SO P m (Se fr (av ++ ga)) w= .ended x w:=by simp[Se,SO,SJ,d,b,A,D]
     obtain⟨x,j⟩:=j;rw[j];exact .lost _ _ _ _
   |cond n e q=>
    simp only[bW,Sz] at a;have u:=c.eval n a.1.1;have Q:∀ v,fr.eval n=v→(∀ q,v≠.bool q)→∃ x,SO P m (Se fr (av ++ ga)) w= .ended x w:=fun v L u=>by
     cases v<;>first|exact absurd rfl (u _)|(simp[Se,SO,SJ,d,b,L])
    cases C:fr.eval n with
    |bool E=>
     rw[C] at u;have N:fr'.eval n= .bool E:=by
      cases M:fr'.eval n<;>rw[M] at u<;>cases u using ap.ind;rfl
     refine move (.code (if E then e else q) :: k) (.cons (.code _ ?_) (by simp) l) (by simp[Se,SO,SJ,d,b,C]) (by simp[Se,SO,SJ,h,g,N]);cases E
     ·exact a.2
     ·exact a.1.2
    |_=>
     obtain⟨x,j⟩:=Q _ C (by simp);rw[j];exact .lost _ _ _ _
   |region id ops K=>
    simp only[bW] at a;cases K with
    |false=>
     obtain⟨y,s⟩:=J6 l a fr;have j:SO P m (Se fr (av ++ ga)) w= .go (Se {fr with todo:=.inRegion ops (SS ops.size) :: k} (av ++ ga)) w:=by simp[Se,SO,SJ,d,b]
     have o:SO P' m' (Se fr' (tops' ++ eZ)) w'= .go (Se {fr' with todo:=.inRegion ops (SS ops.size) :: k} (tops' ++ eZ)) w':=by simp[Se,SO,SJ,h,g]
     rw[j,o];exact GO c B p y s z
    |true=>
     obtain⟨y,s⟩:=M7 l a (Vy (P.follows .mixedOrders) ops (w.tape w.drawn (.order fr.fn id))) fr;have j:SO P m (Se fr (av ++ ga)) w= .go (Se {fr with todo:=.inRegion ops (Vy (P.follows .mixedOrders) ops (w.tape w.drawn (.order fr.fn id))) :: k} (av ++ ga)) {w with drawn:=w.drawn+1}:=by
      simp[Se,SO,SJ,d,b,choose,Uj,Question.forced,Question.cut]
     rw[j];cases bu with
     |zero=>exact .over (by simp)
     |succ bu=>
      have J:=p.tape 0 (.order fr.fn id) (by omega);simp only[Nat.add_zero] at J;have o:SO P' m' (Se fr' (tops' ++ eZ)) w'= .go (Se {fr' with todo:=.inRegion ops (Vy (P.follows .mixedOrders) ops (w.tape w.drawn (.order fr.fn id))) :: k} (tops' ++ eZ)) {w' with drawn:=w'.drawn+1}:=by
       simp[Se,SO,SJ,h,g,choose,Uj,Question.forced,Question.cut,R,c.fn,J]
      rw[o];refine .go (b1:=bu) (c.Mi y) s B ⟨p.gl,p.gr,p.at_,fun i U W=>?_⟩ ⟨aI.le.refl _,rfl,rfl,rfl,by simp,R8 _,fun _ _ _=>rfl,fun _ _ a=>.inl a,fun _ y s=>absurd s (by simp;omega)⟩ iA (cA.of (by rfl) z) (by show w.drawn+1+bu=_;omega);have:=p.tape (1+i) U (by omega);simpa [Td] using this
   |rangeFunc f Y e q=>simp[bW] at a
   |goto T=>simp[bW] at a
   |refuse Z=>simp[bW] at a
end
end
section
variable {G:lC}
section
variable {P P':Sd}{ρ:aI G}{ga eZ:List Sn}{w w':R3}{m m':Bool}
theorem gA{σ:aI G}{fr fr':Sn}(h:cj P σ fr fr'){ops:Array Tx}{i:Nat}{rest:List Nat}{k:List UC}(b:fr.todo= .inRegion ops (i :: rest) :: k){v e:R2}(l:ap σ v e):cj P σ (fr.finish v) (fr'.finish e):=by
 have j:fr'.todo= .inRegion ops (i :: rest) :: k:=h.todo.trans b;have a:=h.ok;rw[b] at a;have d:qT G P (.inRegion ops rest :: k):=by
  refine⟨?_,a.2⟩;cases a.1 using bI.ind with
  |inRegion _ _ g c=>
   refine .inRegion _ _ g ?_;cases rest with
   |nil=>rfl
   |cons n o=>simp only[jP,Sz] at c;exact c.2
 unfold TX;rw[b,j];dsimp only;cases(ops[i]?).bind (·.dst) with
 |none=>exact⟨h.fn,h.may,h.tmps,rfl,d,h.defers,h.mode,h.kind,h.kinds,h.round,h.round'⟩
 |some f=>exact⟨h.fn,h.may,h.tmps.set l f,rfl,d,h.defers,h.mode,h.kind,h.kinds,h.round,h.round'⟩
theorem gz{fr fr':Sn}{σ:aI G}(h:cj P σ fr fr'){ops:Array Tx}{i:Nat}{rest:List Nat}{k:List UC}(l:fr.todo= .inRegion ops (i :: rest) :: k){o:Tx}(g:ops[i]? =RX o)(v:R2)(y:∀ t x,o.op= .makeInterface t x→o.guard=RZ→∃ t v1,v= .iface t v1):ez (fr.finish v):=by
 intro _ F C H D E x c q r;have j:=h.ok;rw[l] at j;unfold TX at c ⊢;rw[l] at c ⊢;simp only[UW,Vk] at c;obtain⟨⟨rfl,s⟩,rfl⟩:=c;cases j.1 using bI.ind with
 |inRegion _ _ B d=>
  rw[s] at d;simp only[jP,Sz] at d;have b:=d.1;unfold nI at b;rw[q] at b;dsimp only at b;rw[r] at b;dsimp only at b;rw[g] at b;simp only[Sz] at b;obtain⟨a,u⟩:=b;cases f:o.op with
  |makeInterface t A=>
   rw[f] at a;cases e:o.dst with
   |none=>rw[e] at a;cases x<;>cases a
   |some p=>
    rw[e] at a;cases x with
    |tmp I=>
     simp only[beq_iff_eq] at a;subst a;obtain⟨z,v1,rfl⟩:=y t A f (by simpa using u);simp only[g,Vs,e,Frame.eval];by_cases n:p<fr.tmps.size
     ·refine .inl ⟨z,v1,?_⟩;rw[SH,Array.getElem?_setIfInBounds_self_of_lt n];rfl
     ·refine .inr ?_;rw[SH,Tg (by rw[Array.size_setIfInBounds];exact Nat.le_of_not_lt n)];rfl
    |_=>cases a
  |_=>rw[f] at a;cases x<;>cases a
def NU{σ:aI G}{fn:T1}{es:Array Ti}(h:∀ e∈es,jy σ e):∀ e∈seen P fn es,jy σ e:=fun e a=>h e (Conc.mem_seen a)
theorem tM{σ:aI G}{fr fr':Sn}(h:cj P σ fr fr'){c b:List Tv}(hc:ig σ c b):cj P σ (fr.raise c) (fr'.raise b):=by
 have a:=h.mode;unfold Frame.raise;generalize e:fr.mode=g at a;generalize f:fr'.mode=i at a;cases a using fC.ind with
 |run=>exact⟨h.fn,h.may,h.tmps,h.todo,h.ok,h.defers,.panicking hc,h.kind,h.kinds,h.round,h.round'⟩
 |returning=>exact⟨h.fn,h.may,h.tmps,h.todo,h.ok,h.defers,.panicking hc,h.kind,h.kinds,h.round,h.round'⟩
 |panicking d=>exact⟨h.fn,h.may,h.tmps,h.todo,h.ok,h.defers,.panicking (hc.append d),h.kind,h.kinds,h.round,h.round'⟩
def raise_mode(fr:Sn)(c:List Tv):(fr.raise c).mode≠.run:=by
 unfold Frame.raise
 split<;>simp
theorem tA(k:mM G P P'){σ:aI G}{f:T1}(d:G.b f=R7){vs e:Array R2}(h:aQ σ vs e)(a:CallKind)(l:a= .normal∨a= .deferred):cj P σ (SW P f vs a) (SW P' f e a)∧ez (SW P f vs a):=by
 obtain⟨o,g,b,c,i,j⟩:=k f d;unfold SW;simp only[b,c,TU,UA,Vs,i];refine⟨⟨rfl,d,?_,rfl,⟨.code g j,fun q n=>by simp at n⟩,.nil,.run,rfl,l,rfl,rfl⟩,zS (by simp)⟩;rw[h.1];refine h.append ⟨by simp,fun p b c=>?_⟩;simp only[Array.getElem_replicate];exact lA
end
end
section
variable {G:lC}{bu:Nat}
section
variable {P P':Sd}{ρ:aI G}{ga eZ:List Sn}{w w':R3}{m m':Bool}
theorem uJ{σ:aI G}{fr fr':Sn}{av tops':List Sn}(h:cj P σ fr fr')(y:dh P σ av tops')(k:cA fr av):
 (U2 fr (av ++ ga)=RZ∧U2 fr' (tops' ++ eZ)=RZ)∨∃ v e t s,U2 fr (av ++ ga)=RX (v,t ++ ga)∧U2 fr' (tops' ++ eZ)=RX (e,s ++ eZ)∧ap σ v e∧dh P σ t s∧cA fr t:=by
 rcases h.kinds with d|d
 ·have n:=h.kind.trans d;exact .inl ⟨by unfold U2;rw[d],by unfold U2;rw[n]⟩
 ·have n:=h.kind.trans d;cases y using dh.ind with
  |nil=>simp[cA,d] at k
  |cons b L u ihz=>
   rename_i f g r z;have a:=b.mode;unfold U2;rw[d,n];simp only[Uk];cases j:f.mode with
   |run=>
    rw[j] at a;cases c:g.mode<;>rw[c] at a<;>first|exact .inl ⟨rfl,rfl⟩|cases a using fC.ind
   |returning=>
    rw[j] at a;cases c:g.mode<;>rw[c] at a<;>first|exact .inl ⟨rfl,rfl⟩|cases a using fC.ind
   |panicking I=>
    rw[j] at a;cases c:g.mode with
    |run=>rw[c] at a;cases a using fC.ind
    |returning=>rw[c] at a;cases a using fC.ind
    |panicking J=>
     rw[c] at a;cases a using fC.ind with
     |panicking l=>
      cases l using ig.ind with
      |nil=>exact .inl ⟨rfl,rfl⟩
      |cons x l ihz=>
       rename_i C D A B;obtain⟨v,E,i⟩:=C;obtain⟨e,M,K⟩:=D;obtain⟨o,q,p⟩:=x;simp only at o q p;subst q p;cases E with
       |true=>exact .inl ⟨by cases i<;>rfl,by cases i<;>rfl⟩
       |false=>
        cases i with
        |true=>exact .inl ⟨rfl,rfl⟩
        |false=>
         refine .inr ⟨v,e,{f with mode:=.panicking ({v,recovered:=R7} :: A)} :: r,{g with mode:=.panicking ({v:=e,recovered:=R7} :: B)} :: z,rfl,rfl,o,?_,?_⟩
         ·exact .cons ⟨b.fn,b.may,b.tmps,b.todo,b.ok,b.defers,.panicking (.cons ⟨o,rfl,rfl⟩ l),b.kind,b.kinds,b.round,b.round'⟩ (Ay (by simp)) u
         ·cases r with
          |nil=>exact k
          |cons F H=>exact k
theorem A2{fr:Sn}{fr':Sn}{σ:aI G}(h:cj P σ fr fr'){ops:Array Tx}{i:Nat}{rest:List Nat}{k:List UC}(e:fr.todo= .inRegion ops (i :: rest) :: k)(l:ops[i]? =RZ)(v:R2):ez (fr.finish v):=by
 intro _ r o s p q t b f g;have d:=h.ok;rw[e] at d;unfold TX at b;rw[e] at b;simp only[UW,Vk] at b;obtain⟨⟨rfl,j⟩,rfl⟩:=b;cases d.1 using bI.ind with
 |inRegion _ _ n c=>
  rw[j] at c;simp only[jP,Sz] at c;have a:=c.1;unfold nI at a;rw[f] at a;dsimp only at a;rw[g] at a;dsimp only at a;rw[l] at a;cases a
def fy(fr:Sn)(v:R2):(fr.finish v).kind=fr.kind:=by
 unfold TX
 split<;>rfl
def ri(fr:Sn)(c:List Tv):(fr.raise c).kind=fr.kind:=by
 unfold Frame.raise
 split<;>rfl
def Ob{fr:Sn}{ops:Array Tx}{i:Nat}{rest:List Nat}{k:List UC}(b:fr.todo= .inRegion ops (i :: rest) :: k){o:Tx}(a:ops[i]? =RX o){c:Call}(hc:o.op= .call c):oH fr:=fun _=>⟨ops,i,rest,k,o,c,b,a,hc⟩
theorem EM(L:Alike G P P'){e:S3→R2}{o:Tx}(l:eT G P o.op=R7)(t:∀ x,o.op= .nilCheck x→∀ n a b,e x≠.func (.method n) a b){f:T1}{vs:Array R2}{i:R3}{es KF:Array Ti}(h:(SE e o).runT P w es=(.ok (.enter f vs) i,KF)):∃ c,o.op= .call c:=by
 have d:(SE e o).run P w= .ok (.enter f vs) i:=by
  have:=VN P (SE e o) w es;rw[h] at this;exact(Prod.mk.inj this).1.symm
 have y:∀ (s:Ul R2),((do pure (Next.value (← s))):Ul Next).run P w= .ok (.enter f vs) i→False:=fun s g=>by
  rw[Uz] at g;cases k:s.run P w<;>rw[k] at g<;>simp at g
 have z:∀ (s:Ul Unit),((do s;pure Next.skip):Ul Next).run P w= .ok (.enter f vs) i→False:=fun s g=>by
  rw[Uz] at g;cases k:s.run P w<;>rw[k] at g<;>simp at g
 unfold SE at d;cases j:o.op with
 |nilCheck x=>
  have p:=t x j;rw[j] at d;dsimp only at d;have q:(runtimePanic .nilDeref:Ul Next).run P w= .ok (.enter f vs) i→False:=fun h=>by
   unfold runtimePanic at h;simp[program,Uj,goPanic] at h
  cases u:e x<;>rw[u] at d p<;>(try dsimp only at d)<;>first
   |exact(q d).elim
   |(simp at d;done)
   |(rename_i a;cases a<;>first|exact(q d).elim|(simp at d;done))
   |(rename_i r a b;cases r<;>first|(simp at d;done)|exact absurd rfl (p _ _ _))
 |_=>
  rw[j] at d l;dsimp only at d
  first
  |exact⟨_,rfl⟩
  |(simp[eT] at l;done)
  |exact(y _ d).elim
  |exact(z _ d).elim
  |(simp at d;done)
  |(rw[Uz] at d;generalize Uj P _ w=v at d;cases v<;>simp at d
    done)
theorem oX{e:S3→R2}{o:Tx}{t:Sg}{x:S3}(f:o.op= .makeInterface t x){n:Next}{c:R3}{es KF:Array Ti}(h:(SE e o).runT P w es=(.ok n c,KF)):∃ t v1,n= .value (.iface t v1):=by
 have a:(SE e o).run P w= .ok n c:=by
  have:=VN P (SE e o) w es;rw[h] at this;exact(Prod.mk.inj this).1.symm
 unfold SE at a;rw[f] at a;dsimp only at a;unfold Instr.makeInterface U3 at a;rw[Uz] at a;cases b:P.underlying t with
 |none=>simp[program,b,Uj,stuck] at a
 |some d=>cases d<;>simp[program,b,Uj,stuck] at a<;>exact⟨_,_,a.1.symm⟩
def eI{σ:aI G}{f:T1}{es:Array Ti}(h:∀ e∈es,jy σ e):∀ e∈seen P f es ++ #[],jy σ e:=fun e a=>by
 rw[Array.append_empty] at a;exact NU h e a
theorem Pu(L:Alike G P P')(a6:mM G P P'){fr fr':Sn}{av tops':List Sn}(d:cj P ρ fr fr')(bb:ez fr)(J:dh P ρ av tops')(X:dY ρ bu w w')(n:cA fr av)(D:fr.mode= .run){ops:Array Tx}{i:Nat}{rest:List Nat}{k:List UC}(a:fr.todo= .inRegion ops (i :: rest) :: k):
 bY P ga eZ ρ (w.drawn+bu) w' (SO P m (Se fr (av ++ ga)) w) (SO P' m' (Se fr' (tops' ++ eZ)) w'):=by
 have W:=Dt d D;have K:fr'.todo= .inRegion ops (i :: rest) :: k:=d.todo.trans a;have V:=d.round;have ar:=d.round';have aw:Tc ops fr.tmps=Tc ops fr'.tmps:=funext fun be=>D9 d.tmps ops be;have ao:(fr.kind == CallKind.early)=R6:=by rcases d.kinds with H|H<;>rw[H]<;>rfl
 have bc:(fr'.kind == CallKind.early)=R6:=by rw[d.kind];exact ao
 cases e:ops[i]? with
 |none=>
  have A:SO P m (Se fr (av ++ ga)) w= .go (Se (fr.finish Tq) (av ++ ga)) w:=by simp[Se,SO,SJ,D,a,e]
  have B:SO P' m' (Se fr' (tops' ++ eZ)) w'= .go (Se (fr'.finish Tq) (tops' ++ eZ)) w':=by simp[Se,SO,SJ,W,K,e]
  rw[A,B];exact .go (gA d a lA) (A2 d a e _) J X (Fr.refl _ _) iA (cA.of (fy _ _) n) rfl
 |some l=>
  have I:eT G P l.op=R7:=by
   have C:=d.ok;rw[a] at C;cases C.1 using bI.ind with
   |inRegion _ _ c x=>
    obtain⟨bA,rfl⟩:=R9.1 e;exact SC.1 c _ (by simp)
  cases E:SI l (Tc ops fr.tmps) with
  |false=>
   have Y:SI l (Tc ops fr'.tmps)=R6:=by rw[← aw];exact E
   have A:SO P m (Se fr (av ++ ga)) w= .go (Se (fr.finish Tq) (av ++ ga)) w:=by simp[Se,SO,SJ,D,a,e,E]
   have B:SO P' m' (Se fr' (tops' ++ eZ)) w'= .go (Se (fr'.finish Tq) (tops' ++ eZ)) w':=by simp[Se,SO,SJ,W,K,e,Y]
   rw[A,B];exact .go (gA d a lA) (gz d a e _ (fun z g _ ba=>by simp[SI,ba] at E)) J X (Fr.refl _ _) iA (cA.of (fy _ _) n) rfl
  |true=>
   have Y:SI l (Tc ops fr'.tmps)=R7:=by rw[← aw];exact E
   have A:SO P m (Se fr (av ++ ga)) w=TL P R7 fr (av ++ ga) RZ (SE fr.eval l) w:=by simp[Se,SO,SJ,stepG.oper,Frame.oper?,D,a,e,E,V]
   have B:SO P' m' (Se fr' (tops' ++ eZ)) w'=TL P' R7 fr' (tops' ++ eZ) RZ (SE fr'.eval l) w':=by simp[Se,SO,SJ,stepG.oper,Frame.oper?,W,K,e,Y,ar]
   rw[A,B];have T:=(PE (ρ:=ρ) L l I (fun g p=>d.eval g p) (fun g p=>bb D ops i rest k l g a e p)).runs w w' #[] #[] bu X iA (fun ae H=>by simp at H);generalize t:(SE fr.eval l).runT P w #[]=br at T;generalize a7:(SE fr'.eval l).runT P' w' #[]=bs at T;unfold TL;simp only[if_true,t,a7,a,K,ao,bc,SD,if_false];cases T using fc.ind with
   |halt p r h q j U=>
    rename_i ab a1 g bo a0 bm al a2;cases p using kK.ind with
    |panic M=>
     rename_i v F;exact .go (fr:=fr.raise [{v,recovered:=R6}]) (fr':=fr'.raise [{v:=F,recovered:=R6}]) (tM (d.mono h.le) (.cons ⟨M,rfl,rfl⟩ .nil)) (gO (raise_mode _ _)) (J.mono h.le) r h (eI q) (cA.of (ri _ _) n) j
    |same _ u=>
     cases g with
     |stuck s=>exact .lost _ _ _ _
     |unsupported Z=>cases Z<;>first|exact .lost _ _ _ _|(simp[oP] at u;done)
     |_=>simp[oP] at u
   |ok S r h q j U=>
    rename_i ab a1 bi bB a0 bm al a2;have b:=d.mono h.le;have y:=J.mono h.le;cases S using gK.ind with
    |value M=>
     rename_i v F;exact .go (fr:=fr.finish v) (fr':=fr'.finish F) (gA b a M) (gz b a e _ (fun z g o _=>by
      obtain⟨N,O,c⟩:=oX o t;cases c;exact⟨_,_,rfl⟩)) y r h (eI q) (cA.of (fy _ _) n) j
    |skip=>
     exact .go (fr:=fr.finish Tq) (fr':=fr'.finish Tq) (gA b a lA) (gz b a e _ (fun z g o _=>by
      obtain⟨N,O,c⟩:=oX o t;cases c)) y r h (eI q) (cA.of (fy _ _) n) j
    |enter f a9 bd=>
     rename_i bj bl;obtain⟨c,x⟩:=tA a6 a9 bd .normal (.inl rfl);obtain⟨bx,a8⟩:=EM L I (fun g p bi bt bv ae=>by
      have R:=d.eval g (by rw[p] at I;exact I);rw[ae] at R;generalize fr'.eval g=b2 at R;cases R using ap.ind with
      |func h _ _ _ _=>cases h using mO.ind) t
     exact .go (fr:=SW P f bj .normal) (fr':=SW P' f bl .normal) (av:=fr :: av) (tops':=fr' :: tops') c x (.cons b (Ob a e a8) y) r h (eI q) n j
    |defer u=>
     rename_i Q ad;have C:=b.ok;rw[a] at C;have am:cj P ab {fr with defers:=Q :: fr.defers,todo:=.inRegion ops (i :: rest) :: k} {fr' with defers:=ad :: fr'.defers,todo:=.inRegion ops (i :: rest) :: k}:=⟨b.fn,b.may,b.tmps,rfl,C,.cons u b.defers,b.mode,b.kind,b.kinds,b.round,b.round'⟩;exact .go (fr:=TX {fr with defers:=Q :: fr.defers,todo:=.inRegion ops (i :: rest) :: k} Tq) (fr':=TX {fr' with defers:=ad :: fr'.defers,todo:=.inRegion ops (i :: rest) :: k} Tq) (gA am rfl lA) (gz am rfl e _ (fun z g o _=>by
      obtain⟨N,O,c⟩:=oX o t;cases c)) y r h (eI q) (cA.of (fy {fr with defers:=Q :: fr.defers,todo:=.inRegion ops (i :: rest) :: k} Tq) (cA.of (fr:=fr) (by rfl) n)) j
    |recover=>
     simp only[V,ar];rcases uJ (ga:=ga) (eZ:=eZ) b y n with⟨c,x⟩|⟨v,F,z,b1,c,x,a3,a4,a5⟩
     ·rw[c,x];exact .go (fr:=fr.finish .nilIface) (fr':=fr'.finish .nilIface) (gA b a .nilIface) (gz b a e _ (fun z g o _=>by
       obtain⟨N,O,c⟩:=oX o t;cases c)) y r h (eI q) (cA.of (fy _ _) n) j
     ·rw[c,x];exact .go (fr:=fr.finish v) (fr':=fr'.finish F) (gA b a a3) (gz b a e _ (fun z g o _=>by
       obtain⟨N,O,c⟩:=oX o t;cases c)) a4 r h (eI q) (cA.of (fy _ _) a5) j
   |nj p j U=>
    rename_i ab g bo a0 al;cases p using kK.ind with
    |panic M=>exact .over j
    |same _ u=>
     cases g with
     |stuck s=>exact .lost _ _ _ _
     |unsupported Z=>cases Z<;>first|exact .lost _ _ _ _|(simp[oP] at u;done)
     |_=>simp[oP] at u
   |over S j U=>
    cases S using gK.ind with
    |recover=>
     simp only[V];cases U2 fr (av ++ ga) with
     |none=>exact .over j
     |some b0=>exact .over j
    |_=>exact .over j
end
end
section
variable {G:lC}
section
variable {P P':Sd}{ρ:aI G}{ga eZ:List Sn}{w w':R3}{m m':Bool}
theorem Dh{α:Type}{g g':α→Ul R2}:∀ (l:List α) {ρ:aI G},(∀ σ,ρ.le σ→∀ x∈l,ak P P' ap σ (g x) (g' x))→ak P P' iw ρ (l.mapM g) (l.mapM g')
 | [],ρ,a=>by rw[List.mapM_nil,List.mapM_nil];exact .au .nil
 |x :: l,ρ,a=>by
  rw[List.mapM_cons,List.mapM_cons];refine(a ρ (aI.le.refl _) x (by simp)).bindM (fun σ j k f d=>?_);refine(Dh l (fun c b i h=>a c (f.trans b) i (by simp[h]))).bindM (fun c n o b e=>?_);exact .au (.cons (d.mono b) e)
theorem Aa(L:Alike G P P')(fn:UB){x g:Array R2}(h:aQ ρ x g):ak P P' ap ρ (SX fn x) (SX fn g):=by
 unfold SX;refine ak.bindM (A:=aQ) ?_ (fun i a j d b=>?_)
 ·rw[Array.mapM_eq_mapM_toList,Array.mapM_eq_mapM_toList];refine ak.bind (A:=iw) (Dh _ (fun i d n _=>?_)) (fun i a j _ b=>.pure b.toArray);cases n with
  |tmp f=>exact .au ((h.mono d).getD f)
  |cell a f=>
   have e:=(h.mono d).getD a;dsimp only;generalize x.getD a Tq=v at e;generalize g.getD a Tq=o at e;have k:ak P P' cm i (asAddr v) (asAddr o):=by
    cases e using ap.ind with
    |ptr h=>exact .au h
    |cD=>exact dX L.S .nilDeref (by simp) (by simp) (by simp)
    |_=>exact ak.stuck
   exact k.bindM (fun p a j _ l=>z8 L.S f l)
 ·refine .au ?_;by_cases c:a.size=1
  ·rw[dif_pos c,dif_pos (by rw[← b.1];exact c)];exact b.2 0 _ _
  ·rw[dif_neg c,dif_neg (by rw[← b.1];exact c)];exact .tuple b.1 b.2
def ja{fr:Sn}(h:oH fr):ez fr:=by
 intro i r k t n p v d e f;obtain⟨s,l,u,o,q,j,a,b,c⟩:=h i;rw[d] at a;simp only[UW,Vk] at a;obtain⟨⟨rfl,g,-⟩,-⟩:=a;subst g;rw[e] at b;cases b;rw[f] at c;cases c
theorem EP{σ:aI G}{fr fr':Sn}(h:cj P σ fr fr')(k:oH fr){v f:R2}(r:ap σ v f):cj P σ (fr.finish v) (fr'.finish f)∧ez (fr.finish v):=by
 have c:=h.todo;have j:=h.ok;have e:(∀ b,fr.finish b=fr)→(∀ b,fr'.finish b=fr')→cj P σ (fr.finish v) (fr'.finish f)∧ez (fr.finish v):=fun l n=>by
  rw[l,n];exact⟨h,ja k⟩
 cases a:fr.todo with
 |nil=>rw[a] at c;exact e (fun b=>by unfold TX;rw[a]) (fun b=>by unfold TX;rw[c])
 |cons A B=>
  rw[a] at c j;cases j.1 using bI.ind with
  |inRegion E s u x=>
   cases s with
   |nil=>exact e (fun b=>by unfold TX;rw[a]) (fun b=>by unfold TX;rw[c])
   |cons y H=>
    refine⟨gA h a r,?_⟩;by_cases i:fr.mode= .run
    ·obtain⟨F,z,I,C,D,t,d,o,p⟩:=k i;rw[a] at d;simp only[UW,Vk] at d;obtain⟨⟨rfl,q,-⟩,-⟩:=d;subst q;exact gz h a o v (fun J K g _=>by rw[p] at g;cases g)
    ·have:(fr.finish v).mode=fr.mode:=by
      unfold TX;rw[a]
     exact gO (by rw[this];exact i)
  |_=>exact e (fun b=>by unfold TX;rw[a]) (fun b=>by unfold TX;rw[c])
def KC{σ:aI G}{c a:List Tv}(h:ig σ c a):ig σ (c.dropWhile (!·.goexit)) (a.dropWhile (!·.goexit)):=by
 induction h using ig.ind with
 |nil=>exact .nil
 |cons b d e=>
  simp only[List.dropWhile_cons,b.g]
  split
  ·exact e
  ·exact .cons b d
def eR (c:Sn):Sn:=match c.mode with
 | .panicking ({recovered:=R7,..} :: a)=>
  match a.dropWhile (!·.goexit) with
  | []=>{c with mode:=.returning}
  |rest=>{c with mode:=.panicking rest}
 |_=>c
theorem G8{σ:aI G}{f f':Sn}(h:cj P σ f f')(b:oH f):cj P σ (eR f) (eR f')∧ez (eR f)∧(eR f).kind=f.kind:=by
 have g:=h.mode;have l:∀ {c d:FrameMode},fC σ c d→cj P σ {f with mode:=c} {f' with mode:=d}:=fun n=>⟨h.fn,h.may,h.tmps,h.todo,h.ok,h.defers,n,h.kind,h.kinds,h.round,h.round'⟩;unfold eR;generalize y:f.mode=C at g;generalize z:f'.mode=D at g;cases g using fC.ind with
 |run=>exact⟨h,ja b,rfl⟩
 |returning=>exact⟨h,ja b,rfl⟩
 |panicking a=>
  cases a using ig.ind with
  |nil=>exact⟨h,ja b,rfl⟩
  |cons i a ihz=>
   rename_i r s p q;obtain⟨v,t,u⟩:=r;obtain⟨B,A,x⟩:=s;obtain⟨o,k,j⟩:=i;simp only at o k j;subst k j;cases t with
   |false=>exact⟨h,ja b,rfl⟩
   |true=>
    dsimp only;have e:=KC a;generalize p.dropWhile (!·.goexit)=c at e;generalize q.dropWhile (!·.goexit)=d at e;cases e using ig.ind with
    |nil=>exact⟨l .returning,gO (by simp),rfl⟩
    |cons i a=>exact⟨l (.panicking (.cons i a)),gO (by simp),rfl⟩
end
end
section
variable {G:lC}{bu:Nat}
section
variable {P P':Sd}{ρ:aI G}{ga eZ:List Sn}{w w':R3}{m m':Bool}
def Nu{a a':FrameMode}(h:fC ρ a a')(b:a≠.run):a'≠.run:=by
 cases h using fC.ind with
 |run=>exact absurd rfl b
 |returning=>simp
 |panicking h=>simp
theorem AW(L:Alike G P P')(ae:mM G P P'){fr fr':Sn}{av tops':List Sn}(B:cj P ρ fr fr')(R:dh P ρ av tops')(aw:dY ρ bu w w')(p:cA fr av)(C:fr.mode≠.run){d r:Uc}(q:vU P ρ d r):
 bY P ga eZ ρ (w.drawn+bu) w' (callDeferred P fr (av ++ ga) RZ d w) (callDeferred P' fr' (tops' ++ eZ) RZ r w'):=by
 have hR:=(Df (ρ:=ρ) L q.target q.args).runs w w' #[] #[] bu aw iA (fun o Z=>by simp at Z);obtain⟨J,V⟩:=d;obtain⟨K,W⟩:=r;have g:=q.target;have a:=B.mode;simp only at g hR;by_cases j:J= .nil∧∃ e,fr.mode= .panicking e
 ·obtain⟨rfl,e,z⟩:=j;unfold callDeferred;rw[if_pos ?hP]
  case hP=>simp[z]
  exact .lost _ _ _ _
 ·have Q:¬ (K= .nil∧∃ e,fr'.mode= .panicking e):=by
   rintro⟨rfl,e,z⟩;rw[z] at a;cases g using kN.ind;generalize fr.mode=n at a j;cases a using fC.ind;exact j ⟨rfl,_,rfl⟩
  unfold callDeferred;rw[if_neg ?hL,if_neg ?hR]
  case hL=>
   intro o;apply j;cases J<;>cases E:fr.mode<;>simp[E] at o ⊢
  case hR=>
   intro o;apply Q;cases K<;>cases E:fr'.mode<;>simp[E] at o ⊢
  clear j Q g a;dsimp only;generalize (invoke J V).runT P w #[]=a5 at hR;generalize (invoke K W).runT P' w' #[]=a6 at hR;cases hR using fc.ind with
  |halt I k c h b D=>
   rename_i U Y N a4 M T t O;cases I using kK.ind with
   |panic H=>
    rename_i v S;exact .go (fr:=fr.raise [{v,recovered:=R6}]) (fr':=fr'.raise [{v:=S,recovered:=R6}]) (tM (B.mono c.le) (.cons ⟨H,rfl,rfl⟩ .nil)) (gO (raise_mode _ _)) (R.mono c.le) k c (eI h) (cA.of (ri _ _) p) b
   |same _ A=>
    cases N with
    |stuck s=>exact .lost _ _ _ _
    |unsupported a1=>exact .lost _ _ _ _
    |_=>simp[oP] at A
  |ok y k c h b D=>
   rename_i U Y a8 a9 M T t O;have i:=B.mono c.le;have F:=R.mono c.le;have l:bY P ga eZ ρ (w.drawn+bu) w' (UE (seen P fr.fn t) (.go (Se fr (av ++ ga)) M)) (UE (seen P' fr'.fn O) (.go (Se fr' (tops' ++ eZ)) T)):=.go i (gO C) F k c (eI h) p b;cases y using gK.ind with
   |value H=>exact l
   |skip=>exact l
   |defer q=>exact l
   |enter f al ar=>
    rename_i a2 a3;obtain⟨g,a⟩:=tA ae al ar .deferred (.inr rfl);exact .go (fr:=SW P f a2 .deferred) (fr':=SW P' f a3 .deferred) (av:=fr :: av) (tops':=fr' :: tops') g a (.cons i (Ay C) F) k c (eI h) p b
   |recover=>
    have a:=i.mode;rcases uJ (ga:=ga) (eZ:=eZ) i F p with⟨u,x⟩|⟨v,S,ba,bb,u,x,a7,ab,ad⟩
    ·dsimp only;rw[u,x];generalize am:fr.mode=n at a;generalize ao:fr'.mode=X at a;cases a using fC.ind<;>exact l
    ·dsimp only;rw[u,x];generalize am:fr.mode=n at a;generalize ao:fr'.mode=X at a;cases a using fC.ind with
     |returning=>exact .go i (gO C) ab k c (eI h) ad b
     |_=>exact l
  |nj I b D=>
   rename_i U N a4 M t;cases I using kK.ind with
   |panic H=>exact .over b
   |same _ A=>
    cases N with
    |stuck s=>exact .lost _ _ _ _
    |unsupported a1=>exact .lost _ _ _ _
    |_=>simp[oP] at A
  |over y b D=>
   cases y using gK.ind with
   |recover=>
    dsimp only;generalize fr.mode=n;generalize U2 fr (av ++ ga)=a0;cases n<;>cases a0<;>exact .over b
   |_=>exact .over b
theorem F0(L:Alike G P P')(A:mM G P P'){fr fr':Sn}{av tops':List Sn}(a:cj P ρ fr fr')(H:dh P ρ av tops')(s:dY ρ bu w w')(h:cA fr av)(i:fr.mode≠.run)(am:av=[]→fr.defers≠[]):
 bY P ga eZ ρ (w.drawn+bu) w' (SO P m (Se fr (av ++ ga)) w) (SO P' m' (Se fr' (tops' ++ eZ)) w'):=by
 have al:=Nu a.mode i;have V:SO P m (Se fr (av ++ ga)) w=VR P m fr (av ++ ga) RZ w:=by
  cases b:fr.mode<;>first|exact absurd b i|simp[Se,SO,b]
 have W:SO P' m' (Se fr' (tops' ++ eZ)) w'=VR P' m' fr' (tops' ++ eZ) RZ w':=by
  cases b:fr'.mode<;>first|exact absurd b al|simp[Se,SO,b]
 rw[V,W];unfold VR;have o:=a.defers;generalize Z:fr.defers=a8 at o;generalize bb:fr'.defers=a9 at o;cases o using iv.ind with
 |cons D g ihz=>
  rename_i T U K M;have ae:cj P ρ {fr with defers:=K} {fr' with defers:=M}:=⟨a.fn,a.may,a.tmps,a.todo,a.ok,g,a.mode,a.kind,a.kinds,a.round,a.round'⟩;have ar:=AW (ga:=ga) (eZ:=eZ) L A ae H s (cA.of (fr:=fr) (by rfl) h) i D;obtain⟨bi,a3⟩:=T;obtain⟨bj,a4⟩:=U;have I:=D.target;simp only at I;cases I using kN.ind<;>exact ar
 |nil=>
  cases H using dh.ind with
  |nil=>exact absurd Z (am rfl)
  |cons E J g ihz=>
   rename_i f y K M;obtain⟨j,a7,B,C,bd,be⟩:=A fr.fn a.may;have q:=a.mode;dsimp only;generalize ab:fr.mode=a5 at q;generalize bc:fr'.mode=a6 at q;cases q using fC.ind with
   |run=>exact absurd ab i
   |panicking ad=>
    have R:fr.catches P=R6:=by unfold Frame.catches;rw[B]
    have S:fr'.catches P'=R6:=by unfold Frame.catches;rw[a.fn,C]
    simp only[R,S,SD,if_false,Uk];exact .go (fr:=f.raise _) (fr':=y.raise _) (tM E ad) (gO (raise_mode _ _)) g s (Fr.refl _ _) iA (cA.of (ri _ _) h) rfl
   |returning=>
    dsimp only;rw[a.fn,B,C];dsimp only;have n:=(Aa (ρ:=ρ) L j a.tmps).runs w w' #[] #[] bu s iA (fun ba b=>by simp at b);generalize (SX j fr.tmps).runT P w #[]=a1 at n;generalize (SX j fr'.tmps).runT P' w' #[]=a2 at n;cases n using fc.ind with
    |halt ao t c p e r=>
     rename_i O Q u a0 N aw x X;cases u<;>exact .lost _ _ _ _
    |nj ao e r=>
     rename_i O u a0 N x;cases u<;>exact .lost _ _ _ _
    |over z e r=>
     dsimp only;unfold UM;simp only[Uk];rcases a.kinds with d|d<;>rw[d]<;>exact .over e
    |ok z t c p e r=>
     rename_i O Q v bl N aw x X;have F:=E.mono c.le;dsimp only;unfold UM;simp only[Uk];rcases a.kinds with d|d
     ·rw[a.kind,d];obtain⟨k,l⟩:=EP F J z;exact .go k l (g.mono c.le) t c (eI p) (cA.of (fy _ _) h) e
     ·rw[a.kind,d];obtain⟨k,l,Y⟩:=G8 F J;exact .go (fr:=eR f) (fr':=eR y) k l (g.mono c.le) t c (eI p) (cA.of Y h) e
theorem Mb(L:Alike G P P')(j:mM G P P')(p:P'.follows .mixedOrders=P.follows .mixedOrders){fr fr':Sn}{av tops':List Sn}(g:cj P ρ fr fr')(o:ez fr)(h:dh P ρ av tops')(i:dY ρ bu w w')(f:cA fr av)(q:av=[]→fr.mode≠.run→fr.defers≠[]):
 bY P ga eZ ρ (w.drawn+bu) w' (SO P m (Se fr (av ++ ga)) w) (SO P' m' (Se fr' (tops' ++ eZ)) w'):=by
 by_cases a:fr.mode= .run
 ·by_cases k:∃ d b e c,fr.todo= .inRegion d (b :: e) :: c
  ·obtain⟨d,b,e,c,r⟩:=k;exact Pu L j g o h i f a r
  ·exact KH p g h i a (fun d b e c l=>k ⟨d,b,e,c,l⟩) f
 ·exact F0 L j g h i f a (fun n=>q n a)
end
end
end Rl
namespace Cc
open Go Go.Conc
open Rl (lC aI mM cj dh ez dY Fr jy cZ bY ap aQ)
def oI (P0 P:Sd)(S:Nat→Prop)(c:Nat)(own:Nat→Prop)(vs:List R2)(g:SM)(w:R3):Prop:=∃ a,Wk P0 P S c a own vs g w
section
variable {P0 P:Sd}{S:Nat→Prop}{c:Nat}{own:Nat→Prop}{vs:List R2}{g:SM}{w:R3}
theorem sC(j:g.status= .running)(h:∀ a,RelB (fun b=>S b∨own b) w a→∃ g' w' es,SO P R6 g a= .go g' w' es∧lG P0 S own a w' es∧oI P0 P S c (cw own a w') vs g' w'):oI P0 P S c own vs g w:=by
 classical
 let f:R3→Tr:=fun a=>if d:RelB (fun b=>S b∨own b) w a then Tt (Sp (Sp (Sp (h a d)))).2.2 else .fin
 refine⟨.mk f,uX.2 ⟨j,.inl fun a d=>?_⟩⟩;have e:=Sp (Sp (Sp (h a d)));have i:f a=Tt (Sp (Sp (Sp (h a d)))).2.2:=by
  show(if d:RelB (fun b=>S b∨own b) w a then _ else _)=_;rw[dif_pos d]
 exact⟨_,_,_,e.1,e.2.1,Wk.cast i (Sp e.2.2)⟩
theorem MB{v:R2}{l:List R2}{g2:SM}{z:R2}(i:g.status= .running)(h:∀ a,RelB (fun b=>S b∨own b) w a→SO P R6 g a= .comm g2 #[scase c v z] R7 .send a #[]∧oI P0 P S c own l (Ub g2 Tq) a):oI P0 P S c own (v :: l) g w:=by
 classical
 let f:R3→Tr:=fun a=>if d:RelB (fun b=>S b∨own b) w a then Tt (h a d).2 else .fin
 refine⟨.mk f,uX.2 ⟨i,.inr (.inl ⟨v,l,g2,z,rfl,fun a d=>⟨(h a d).1,?_⟩⟩)⟩⟩;have e:f a=Tt (h a d).2:=by
  show(if d:RelB (fun b=>S b∨own b) w a then _ else _)=_;rw[dif_pos d]
 exact Wk.cast e (Sp (h a d).2)
def JF{g':SM}{n:Nat}(j:g.status= .running)(i:QuitsIn P n g')(f:mayWake P g=R7)(h:∀ a,RelB (fun b=>S b∨own b) w a→∀ cap d s r e,a.heap[c]? =RX (.chan cap d R6 s r e)→SO P R6 g a= .go g' (a.setChan c cap d R7 s r e) #[⟨.obj c,R6,R7⟩,⟨.obj c,R7,R7⟩]):oI P0 P S c own [] g w:=
 ⟨.mk fun _=>.fin,uX.2 ⟨j,.inr (.inr ⟨rfl,g',n,i,f,h⟩)⟩⟩
def oI.rely{a:R3}(h:oI P0 P S c own vs g w)(d:RelB (fun b=>S b∨own b) w a):oI P0 P S c own vs g a:=by
 obtain⟨e,h⟩:=h;exact⟨e,h.rely d⟩
theorem JG{g':SM}{es:Array Ti}(l:g.status= .running)(h:∀ a,RelB (fun b=>S b∨own b) w a→SO P R6 g a= .go g' a es)(j:∀ e∈es,EvW S own e)(k:∀ a,RelB (fun b=>S b∨own b) w a→oI P0 P S c own vs g' a):oI P0 P S c own vs g w:=by
 refine sC l fun a f=>⟨g',a,es,h a f,⟨fun _ _ _=>rfl,R8 _,rfl,rfl,rfl,fun n=>n,fun e i=>?_⟩,?_⟩
 ·have:=j e i;unfold EvW at this ⊢;cases d:e.loc with
  |cell o=>rw[d] at this;exact this.imp (fun h=>.inl h) (fun h=>h)
  |obj p=>rw[d] at this;exact this.imp (fun h=>.inl h) (fun h=>h)
  |mark m=>rw[d] at this;exact this
  |_=>trivial
 ·have e:cw own a a=own:=by
   funext b;unfold cw;apply propext;constructor
   ·rintro(h|h)
    ·exact h
    ·omega
   ·exact .inl
  rw[e];exact k a f
end
section
variable {P0 P:Sd}{S:Nat→Prop}{c:Nat}{vs:List R2}{eZ:List Sn}{Gc:lC}
theorem Ma{ga eZ:List Sn}{ρ:aI Gc}{t:Nat}{w':R3}{f i:V0}(h:bY P ga eZ ρ t w' f i){a:Sn}{b:List Sn}{d:R3}{m:Array Ti}(e:f= .go (Se a (b ++ ga)) d m)(x:d.drawn≤t):
 ∃ (σ:aI Gc) (b1:Nat) (fr':Sn) (tops':List Sn) (w1':R3) (j:Array Ti),i= .go (Se fr' (tops' ++ eZ)) w1' j∧cj P σ a fr'∧ez a∧dh P σ b tops'∧dY σ b1 d w1'∧Fr ρ σ w' w1'∧(∀ e∈j,jy σ e)∧Rl.cA a b:=by
 cases h using bY.ind with
 |lost z B v A=>cases e
 |over h=>
  cases e;omega
 |go q r s u p o n y=>
  simp only[Se,GStep.go.injEq,Wl] at e;obtain⟨⟨rfl,k,-⟩,rfl,rfl⟩:=e;have l:=List.append_cancel_right k;subst l;exact⟨_,_,_,_,_,_,rfl,q,r,s,u,p,o,n⟩
theorem Gp{ρ σ:aI Gc}{b1:Nat}{s h w':R3}{own:Nat→Prop}{es:Array Ti}(r:dY σ b1 s w')(d:Fr ρ σ h w')(p:∀ e∈es,jy σ e)(l:∀ b b',ρ.f b=RX b'→own b'):lG P0 S own h w' es∧∀ b b',σ.f b=RX b'→cw own h w' b':=by
 have j:∀ b b',σ.f b=RX b'→cw own h w' b':=fun b b' a=>by
  rcases d.fresh b b' a with f|f
  ·exact .inl (l b b' f)
  ·obtain⟨u,v,_,o,_⟩:=r.at_ b b' a;exact .inr ⟨f,(R9.1 o).1⟩
 refine⟨⟨fun b a q=>d.keep b (fun k e=>?_) a,d.size,d.tape,d.os,d.output,fun _=>trivial,fun e n=>?_⟩,j⟩
 ·rcases d.fresh k b e with f|f
  ·exact q (l k b f)
  ·omega
 ·have:=p e n;unfold jy at this;unfold EvW;cases i:e.loc with
  |cell t=>rw[i] at this;obtain⟨b,a⟩:=this;exact .inl (j _ _ a)
  |obj x=>rw[i] at this;obtain⟨b,a⟩:=this;exact .inl (j _ _ a)
  |mark m=>
   rw[i] at this;cases m<;>first|exact this.elim|exact rfl
  |_=>trivial
def LC{σ:aI Gc}{h w a:R3}{own:Nat→Prop}(d:dY σ 0 h w)(m:∀ b b',σ.f b=RX b'→own b')(f:RelB (fun b=>S b∨own b) w a)(i:Nat):dY σ i (sh a.tape a.drawn h) a:=
 ⟨d.gl,Ss d.gr f.size,fun b b' e=>by
  obtain⟨n,o,j,k,l⟩:=d.at_ b b' e;exact⟨n,o,j,(f.at_ b' (.inr (m b b' e))).trans k,l⟩,fun p q _=>rfl⟩
def dY.zero{σ:aI Gc}{b:Nat}{a w:R3}(h:dY σ b a w):dY σ 0 a w:=⟨h.gl,h.gr,h.at_,fun e f d=>by omega⟩
structure Ga(S own:Nat→Prop)(w:R3):Prop where
 sh:∀ b,S b→b<w.heap.size∧¬ own b
 bd:∀ b,own b→b<w.heap.size
def Ga.step{own:Nat→Prop}{w f w':R3}{es:Array Ti}(h:Ga S own w)(d:RelB (fun b=>S b∨own b) w f)(e:lG P0 S own f w' es):Ga S (cw own f w') w'∧RelB S w w':=
 ⟨⟨fun b a=>⟨Sa (h.sh b a).1 (Ss d.size e.size),fun i=>i.elim (h.sh b a).2 fun i=>by have:=(h.sh b a).1;have:=d.size;omega⟩,fun b a=>a.elim (fun a=>Sa (h.bd b a) (Ss d.size e.size)) (fun a=>a.2)⟩,
  fun b a=>(e.keep b (Sa (h.sh b a).1 d.size) (h.sh b a).2).trans (d.at_ b (.inl a)),Ss d.size e.size,e.tape.trans d.tape,e.os.trans d.os,e.output.trans d.output⟩
theorem F6(L:Rl.Alike Gc P P)(H:mM Gc P P){Stop:Sn→List Sn→R3→Prop}{fr:Sn}{av:List Sn}{a e:R3}(h:Fin P0 P Stop fr av a e)(w0:R3):
 ∀ {σ:aI Gc} {fr':Sn} {tops':List Sn} {own:Nat→Prop} {w:R3},e.heap=a.heap→cj P σ fr fr'→ez fr→dh P σ av tops'→Rl.cA fr av→dY σ 0 e w→(∀ b b',σ.f b=RX b'→own b')→Hp (aR P0) a→Ga S own w→RelB S w0 w→
  (∀ (σ:aI Gc) fr av a fr' tops' own w,Stop fr av a→cj P σ fr fr'→dh P σ av tops'→dY σ 0 a w→(∀ b b',σ.f b=RX b'→own b')→Hp (aR P0) a→Ga S own w→RelB S w0 w→oI P0 P S c own vs (Se fr' (tops' ++ eZ)) w)→
  oI P0 P S c own vs (Se fr' (tops' ++ eZ)) w:=by
 intro σ fr' tops' own w;refine h (fun fr av a e=>∀ {σ:aI Gc} {fr':Sn} {tops':List Sn} {own:Nat→Prop} {w:R3},e.heap=a.heap→cj P σ fr fr'→ez fr→dh P σ av tops'→Rl.cA fr av→dY σ 0 e w→(∀ b b',σ.f b=RX b'→own b')→Hp (aR P0) a→Ga S own w→RelB S w0 w→
  (∀ (σ:aI Gc) fr av a fr' tops' own w,Stop fr av a→cj P σ fr fr'→dh P σ av tops'→dY σ 0 a w→(∀ b b',σ.f b=RX b'→own b')→Hp (aR P0) a→Ga S own w→RelB S w0 w→oI P0 P S c own vs (Se fr' (tops' ++ eZ)) w)→
  oI P0 P S c own vs (Se fr' (tops' ++ eZ)) w) ?_ ?_
 ·intro fr av a e M σ fr' tops' own w k o t p i f j u n l m;exact m σ _ _ _ _ _ _ _ M o p ⟨by rw[← k];exact f.gl,f.gr,fun b b' i=>by rw[← k];exact f.at_ b b' i,fun Y ab X=>by omega⟩ j u n l
 ·intro fr av a e q z Q T Z R O σ fr' tops' own w k o t p i f j u n l m;refine sC rfl fun d v=>?_;have J:=LC (S:=S) f j v (q d.tape d.drawn).2.2.2.1.drawn;have N:=Rl.Mb (m:=R6) (m':=R6) (ga:=[]) (eZ:=eZ) L H rfl o t p J i (fun x=>((R x).1));obtain⟨al,U,W,ad,ae,V,y,B,C,D,r,E,F,G⟩:=Ma N (z d.tape d.drawn R6 []) (by
   show(q d.tape d.drawn).2.2.2.1.drawn≤d.drawn+(q d.tape d.drawn).2.2.2.1.drawn;omega)
  obtain⟨s,K⟩:=Gp (P0:=P0) (S:=S) r E F j;obtain⟨I,A⟩:=n.step v s;exact⟨_,_,_,y,s,O d.tape d.drawn (N5 (T d.tape d.drawn).1 k) B C D G (dY.zero r) K (Q d.tape d.drawn).hp I (l.trans A) m⟩
end
section
variable {P0 P:Sd}{S:Nat→Prop}{c:Nat}{vs:List R2}{eZ:List Sn}{Gc:lC}
theorem Of(L:Rl.Alike Gc P P){σ:aI Gc}{fr fr' g:Sn}{e w:R3}{own:Nat→Prop}{fn:UB}{v:R2}(i:cj P σ fr fr')(O:fr.mode= .returning)(I:fr.defers=[])(N:fr.kind= .normal)(K:P.funcs[fr.fn]? =RX fn)
 (R:∀ D d,(SX fn fr.tmps).run P (sh D d e)= .ok v (sh D d e)) (T:dY σ 0 e w) (B:∀ b b',σ.f b=RX b'→own b')
 (G:∀ (k:aI Gc) m own' w',ap k v m→dY k 0 e w'→(∀ b b',k.f b=RX b'→own' b')→Ga S own' w'→RelB S w w'→oI P0 P S c own' vs (Se (g.finish m) eZ) w') (x:Ga S own w):oI P0 P S c own vs (Se fr' (g :: eZ)) w:=by
 refine sC rfl fun a r=>?_;have H:=LC (S:=S) T B r 0;have o:=(Rl.Aa (ρ:=σ) L fn i.tmps).runs (sh a.tape a.drawn e) a #[] #[] 0 H Rl.iA (fun t n=>by simp at n);have A:fr'.mode= .returning:=by
  have:=i.mode;rw[O] at this;cases h:fr'.mode with
  |returning=>rfl
  |run=>rw[h] at this;cases this using Rl.fC.ind
  |panicking U=>rw[h] at this;cases this using Rl.fC.ind
 have J:fr'.defers=[]:=by
  have:=i.defers;rw[I] at this;cases h:fr'.defers with
  |nil=>rfl
  |cons E U=>rw[h] at this;cases this using Rl.iv.ind
 have f:((SX fn fr.tmps).runT P (sh a.tape a.drawn e) #[]).1= .ok v (sh a.tape a.drawn e):=by rw[VN];exact R _ _
 have C:SO P R6 (Se fr' (g :: eZ)) a=UE (seen P fr'.fn ((SX fn fr'.tmps).runT P a #[]).2) (match ((SX fn fr'.tmps).runT P a #[]).1 with
  | .ok v w=>UM P R6 fr' (g :: eZ) RZ v w
  | .halt (.stuck s) w=>.ended (.stuck s (fr'.pos P)) w
  | .halt _ w=>.ended (.stuck "return: the result variables cannot be read" (fr'.pos P)) w):=by
  have F:SO P R6 (Se fr' (g :: eZ)) a=VR P R6 fr' (g :: eZ) RZ a:=by simp[Se,SO,A]
  rw[F];unfold VR;rw[J];simp only[A,i.fn,K];rfl
 generalize ad:(SX fn fr.tmps).runT P (sh a.tape a.drawn e) #[]=W at o f;generalize ae:(SX fn fr'.tmps).runT P a #[]=X at o C;cases o using Rl.fc.ind with
 |halt h j z y l q=>cases f
 |nj h l q=>cases f
 |over u l q=>
  simp only[Result.ok.injEq] at f;obtain⟨-,rfl⟩:=f;simp[sh] at l
 |ok u j z y l q=>
  rename_i k Y E m ao V Z ab;simp only[Result.ok.injEq] at f;obtain⟨rfl,rfl⟩:=f;obtain⟨p,Q⟩:=Gp (P0:=P0) (S:=S) j z (fun t n=>Rl.eI (P:=P) (f:=fr'.fn) y t n) B;refine⟨_,_,_,?_,p,G k m _ V u ⟨j.gl,j.gr,j.at_,fun al am M=>absurd M (by omega)⟩ Q (x.step r p).1 (x.step r p).2⟩;rw[C];simp only[UM,i.kind,N];rfl
def OG (Gc:lC):aI Gc:=⟨fun _=>RZ,fun b d c a=>(by cases a),fun b d a=>(by cases a)⟩
def Ax (g:Nat)(os:Os):R3:={heap:=S8 g (.cells #[] 0),tape:=fun _ _=>0,drawn:=0,os,output:= #[]}
theorem JE(h:Twins P0 P)(L:Rl.Alike Gc P P)(A:mM Gc P P){f:T1}(T:Gc.b f=R7)(C:P.funcs[f]? =P0.funcs[f]?){args:Array R2}(Q:aQ (OG Gc) args args){R:UQ→R3→Prop}(hR:∀ e w',R e w'→∃ v,e= .returned v){os:Os}(ae:∀ a,SF P0 f args (sh a 0 (Ax Gc.g os)) R)
 {own:Nat→Prop} {w:R3} {s:Sn} (K:Ga S own w) (ab:Gc.g≤w.heap.size)
 (H:∀ (σ:aI Gc) v r i own' w',(∃ a d,R (.returned v) (sh a d i))→ap σ v r→dY σ 0 i w'→(∀ b b',σ.f b=RX b'→own' b')→Ga S own' w'→RelB S w w'→oI P0 P S c own' vs (Se (s.finish r) eZ) w'):oI P0 P S c own vs (Se (SW P f args .normal) (s :: eZ)) w:=by
 have x:SW P f args .normal=SW P0 f args .normal:=by unfold SW;rw[C]
 have D:Hp (aR P0) (Ax Gc.g os):=fun b bi o=>by
  simp only[Ax,Array.getElem?_replicate] at o
  split at o
  ·cases o;exact .inl trivial
  ·cases o
 have W:Fin P0 P (Cd fun g av w'=>av=[]∧∃ v,R (.returned v) w'∧g.fn=f∧g.leaving P0 w' (.returned v)) (SW P0 f args .normal) [] (Ax Gc.g os) (Ax Gc.g os):=by
  refine uv h (fun g av w' j=>?_) ⟨CC h f args .normal (.inl rfl),fun bl a7=>by simp at a7,rfl⟩ D (Un.refl _) fun a=>?_
  ·obtain⟨_,v,_,_,n⟩:=j;rintro⟨q,_⟩;rw[n.1] at q;cases q
  ·obtain⟨e,w',g,B,U,p,n⟩:=ae a [aZ];obtain⟨v,rfl⟩:=hR e w' B;obtain⟨N,I⟩:=U;exact⟨N,g,[],w',I,rfl,v,B,p,n⟩
 obtain⟨y,z⟩:=Rl.tA A T Q .normal (.inl rfl);rw[x] at y z;rw[x];refine F6 (av:=[]) (tops':=[]) (eZ:=s :: eZ) L A W w rfl y z .nil rfl ⟨by simp[Ax],ab,fun b b' e=>(by cases e),fun a8 ba u=>absurd u (by omega)⟩ (fun b b' e=>(by cases e)) D K (RelB.refl _ _) fun σ g av i be bj own' w' j Z a3 a5 al ao M ar=>?_;obtain⟨a,d,rfl,v,J,p,n⟩:=j;cases a3 using dh.ind;obtain⟨q,V,ad,m,X,a1⟩:=n;have Y:P.funcs[g.fn]? =RX m:=by rw[p,C,← p];exact X
 have a2:∀ l k,(SX m g.tmps).run P (sh l k i)= .ok v (sh l k i):=by
  intro l k;have a0:=LJ (dR P0) h.A.view (SX m g.tmps) (sh a d i) #[] (yp h.A.T m g.tmps) (ao.sh a d);have t:((SX m g.tmps).runT P0 (sh a d i) #[]).1= .ok v (sh a d i):=by rw[VN];exact a1
  rcases a0.shift with⟨bm,w',F⟩|j
  ·rw[t] at F;cases F
  ·obtain⟨bb,E,j⟩:=j l k (sh a d i) (Un.refl _) (by rw[t];intro a8 ba u;simp[rW] at u);rw[t] at j E;have:=congrArg SB j;rw[VN] at this;have G:sh l k bb=sh l k i:=GV E l k;simp only[MK,rW,Nat.sub_self,Nat.add_zero] at this;rw[G] at this;exact this
 exact Of (P0:=P0) L Z q V ad Y a2 a5 al (fun bd r a9 bc a4 a6 am O aw=>H bd v r i a9 bc ⟨a,d,J⟩ a4 a6 am O (ar.trans aw)) M
end
end Cc
namespace Cc
open Go Go.Conc
structure mW(P0 P:Sd)(S:Nat→Prop)(m:Bool)(X:(Nat→Prop)→Sn→List Sn→R3→Prop):Prop where
 step:∀ own fr cs w,(∀ w1,RelB (fun b=>S b∨own b) w w1→∃ fr' cs' w' es,SO P m (Se fr cs) w1= .go (Se fr' cs') w' es∧lG P0 S own w1 w' es∧X (cw own w1 w') fr' cs' w')→X own fr cs w
 rely:∀ own fr cs w w1,X own fr cs w→RelB (fun b=>S b∨own b) w w1→X own fr cs w1
def jz (P0 P:Sd)(Post:R2→R3→Prop)(S O:Nat→Prop)(μ:Nat→Option (List R2))(g:SM)(w:R3):Prop:=∃ c,Mn P0 P Post c (.sh S O μ) g w
section
variable {P0 P:Sd}{Post:R2→R3→Prop}{S O:Nat→Prop}{μ:Nat→Option (List R2)}{g:SM}{w:R3}
def j5(P0 P:Sd)(S:Nat→Prop)(c:Nat)(vs:List R2):mW P0 P S R6 (fun own fr cs w=>oI P0 P S c own vs (Se fr cs) w):=
 ⟨fun own fr cs w d=>sC rfl fun f e=>by
  obtain⟨fr',q,p,h,j,l,n⟩:=d f e;exact⟨_,p,h,j,l,n⟩,fun own fr cs w f d e=>d.rely e⟩
theorem Le(h:∀ c,RelB (fun b=>S b∨O b) w c→∃ g' w' es,SO P R7 g c= .go g' w' es∧g'.status= .running∧lG P0 S O c w' es∧jz P0 P Post S (cw O c w') μ g' w'):jz P0 P Post S O μ g w:=by
 classical
 let f:R3→Tr:=fun c=>if d:RelB (fun b=>S b∨O b) w c then Tt (Sp (Sp (Sp (h c d)))).2.2.2 else .fin
 refine⟨.mk f,mJ.2 <| .inl fun c d=>?_⟩;have e:=Sp (Sp (Sp (h c d)));have j:f c=Tt (Sp (Sp (Sp (h c d)))).2.2.2:=by
  show(if d:RelB (fun b=>S b∨O b) w c then _ else _)=_;rw[dif_pos d]
 exact⟨_,_,_,e.1,e.2.1,e.2.2.1,Mn.cast j (Sp e.2.2.2)⟩
def dn(P0 P:Sd)(Post:R2→R3→Prop)(S:Nat→Prop)(μ:Nat→Option (List R2)):mW P0 P S R7 (fun O fr cs w=>jz P0 P Post S O μ (Se fr cs) w):=
 ⟨fun own fr cs w c=>Le fun e d=>by
  obtain⟨fr',q,p,f,h,j,l⟩:=c e d;exact⟨_,p,f,h,rfl,j,l⟩,fun own fr cs w e c d=>by
  obtain⟨n,c⟩:=c;exact⟨n,c.jo d⟩⟩
theorem IA{c cap:Nat}{l:List R2}(p:O c)(s:l.length≤cap)(t:μ c=RZ)(hc:w.heap[c]? =RX (.chan cap #[] R6 0 0 R6))(h:∀ d,RelB (fun b=>S b∨O b) w d→∃ g' n,SO P R7 g d= .spawn g' n d #[]∧g'.status= .running∧oI P0 P S c (fun _=>False) l n d∧jz P0 P Post S (fun b=>O b∧b≠c) (fp μ c (RX l)) g' d):jz P0 P Post S O μ g w:=by
 classical
 let f:R3→Tr:=fun d=>if e:RelB (fun b=>S b∨O b) w d then Tt (Sp (Sp (h d e))).2.2.2 else .fin
 refine⟨.mk f,mJ.2 <| .inr (.inl ⟨c,l,cap,p,s,t,hc,fun d e=>?_⟩)⟩;have j:=Sp (Sp (h d e));have r:f d=Tt (Sp (Sp (h d e))).2.2.2:=by
  show(if e:RelB (fun b=>S b∨O b) w d then _ else _)=_;rw[dif_pos e]
 obtain⟨u,q⟩:=j.2.2.1;exact⟨_,_,u,j.1,j.2.1,q,Mn.cast r (Sp j.2.2.2)⟩
theorem Lc{c:Nat}{z:R2}{g2:SM}{v:R2}{l:List R2}(p:μ c=RX (v :: l))(n:g2.frame=g.frame∧g2.callers=g.callers∧g2.dying=g.dying)(h:∀ d,RelB (fun b=>S b∨O b) w d→SO P R7 g d= .comm g2 #[rcase c z] R7 (.recv R7) d #[]∧jz P0 P Post S O (fp μ c (RX l)) (Ub g2 (recvd R7 v R7)) d):jz P0 P Post S O μ g w:=by
 classical
 let f:R3→Tr:=fun d=>if e:RelB (fun b=>S b∨O b) w d then Tt (h d e).2 else .fin
 refine⟨.mk f,mJ.2 <| .inr (.inr (.inl ⟨c,z,g2,v :: l,p,n,fun d e=>⟨(h d e).1,?_⟩⟩))⟩;have j:f d=Tt (h d e).2:=by
  show(if e:RelB (fun b=>S b∨O b) w d then _ else _)=_;rw[dif_pos e]
 exact Mn.cast j (Sp (h d e).2)
theorem Ld{c:Nat}{z:R2}{g2:SM}(n:μ c=RX [])(l:g2.frame=g.frame∧g2.callers=g.callers∧g2.dying=g.dying)(h:∀ d,RelB (fun b=>S b∨O b) w d→SO P R7 g d= .comm g2 #[rcase c z] R7 (.recv R7) d #[]∧jz P0 P Post S O (fp μ c RZ) (Ub g2 (recvd R7 z R6)) d):jz P0 P Post S O μ g w:=by
 classical
 let f:R3→Tr:=fun d=>if e:RelB (fun b=>S b∨O b) w d then Tt (h d e).2 else .fin
 refine⟨.mk f,mJ.2 <| .inr (.inr (.inl ⟨c,z,g2,[],n,l,fun d e=>⟨(h d e).1,?_⟩⟩))⟩;have j:f d=Tt (h d e).2:=by
  show(if e:RelB (fun b=>S b∨O b) w d then _ else _)=_;rw[dif_pos e]
 exact Mn.cast j (Sp (h d e).2)
theorem Lb(n:∀ c,μ c=RZ)(h:∀ d,RelB (fun b=>S b∨O b) w d→vW P0 d→sH P0 P Post g d):jz P0 P Post S O μ g w:=by
 classical
 let f:R3→Tr:=fun d=>if e:RelB (fun b=>S b∨O b) w d∧vW P0 d then Tt (h d e.1 e.2) else .fin
 refine⟨.mk f,mJ.2 <| .inr (.inr (.inr ⟨n,fun d e j=>?_⟩))⟩;have l:f d=Tt (h d e j):=by
  show(if e:RelB (fun b=>S b∨O b) w d∧vW P0 d then _ else _)=_;rw[dif_pos ⟨e,j⟩]
 exact Mn.cast l (Sp (h d e j))
def ID(S O:Nat→Prop)(j:∀ b,S b→b<w.heap.size∧¬ O b)(e:∀ b,O b→b<w.heap.size)(h:∀ c,AtRel w c→jz P0 P Post S O (fun _=>RZ) g c):sH P0 P Post g w:=by
 classical
 let f:R3→Tr:=fun c=>if d:AtRel w c then Tt (h c d) else .fin
 refine⟨.mk f,mJ.2 <| .inr (.inr ⟨S,O,j,e,fun c d=>?_⟩)⟩;have l:f c=Tt (h c d):=by
  show(if d:AtRel w c then _ else _)=_;rw[dif_pos d]
 exact Mn.cast l (Sp (h c d))
end
section
variable {P0 P:Sd}{S:Nat→Prop}{m:Bool}{X:(Nat→Prop)→Sn→List Sn→R3→Prop}(hX:mW P0 P S m X){own:Nat→Prop}{fr fr':Sn}{cs:List Sn}{w:R3}{b:Sn}{a:T6}{k:List UC}{ops:Array Tx}{i:Nat}{rest:List Nat}{o:Tx}
def mK(own:Nat→Prop)(w:R3):cw own w w=own:=by
 funext b;unfold cw;apply propext;constructor
 ·rintro(c|c)
  ·exact c
  ·omega
 ·exact .inl
def wW(P0:Sd){es:Array Ti}(c:∀ e∈es,EvW S own e):lG P0 S own w w es:=⟨fun _ _ _=>rfl,R8 _,rfl,rfl,rfl,fun d=>d,by rw[mK];exact c⟩
def jZ(hX:mW P0 P S m X){c:List Sn}(j:∀ w,SO P m (Se fr cs) w= .go (Se fr' c) w)(f:X own fr' c w):X own fr cs w:=
 hX.step _ _ _ _ fun d h=>⟨fr',c,d,#[],j d,wW P0 (fun l e=>by simp at e),by rw[mK];exact hX.rely _ _ _ _ _ f h⟩
def Ke(hX:mW P0 P S m X)(l:b.kind≠.early)(p:ops[i]? =RX o)(r:SI o (Tc ops a.tmps)=R7)
 (h:∀ d,RelB (fun b=>S b∨own b) w d→∃ v w',(SE a.eval o).run P d= .ok (.value v) w'∧lG P0 S own d w' ((SE a.eval o).events P d #[])∧X (cw own d w') (b.at (a.put o.dst v) (.inRegion ops rest :: k)) cs w'):X own (b.at a (.inRegion ops (i :: rest) :: k)) cs w:=
 hX.step _ _ _ _ fun d q=>by
  obtain⟨v,w',f,c,j⟩:=h d q;refine⟨_,_,_,_,stepG_value p r l f,⟨c.keep,c.size,c.tape,c.os,c.output,c.hp,fun e n=>c.evs e (Conc.mem_listed n)⟩,j⟩
def nE(hX:mW P0 P S m X)(f:b.kind≠.early)(l:ops[i]? =RX o)(n:SI o (Tc ops a.tmps)=R7)(v:R2)
 (h:∀ c,RelB (fun b=>S b∨own b) w c→(SE a.eval o).run P c= .ok (.value v) c∧∀ e∈(SE a.eval o).events P c #[],EvW S own e) (j:X own (b.at (a.put o.dst v) (.inRegion ops rest :: k)) cs w):X own (b.at a (.inRegion ops (i :: rest) :: k)) cs w:=
 Ke hX f l n fun c d=>⟨v,c,(h c d).1,wW P0 (h c d).2,by rw[mK];exact hX.rely _ _ _ _ _ j d⟩
end
def aN (a:T6)(s:Nat):R2:=a.tmps.getD s Tq
def Q5 (ops:Array Tx)(l:Array Bool)(s:Nat):Prop:=∃ b c,l.getD b R6=R7∧ops[b]? =RX c∧c.dst=RX s
structure b6(ops:Array Tx)(Ph:Nat→Bool)(a0 z:T6)(l:Array Bool)(a:T6):Prop where
 size:l.size=ops.size
 closed:∀ (i:Nat) o,l.getD i R6=R7→ops[i]? =RX o→∀ e∈o.after,Tn .any e=R7→l.getD e.on R6=R7
 ph:∀ i:Nat,l.getD i R6=R7→Ph i=R7
 OI:a.tmps.size=z.tmps.size
 Qi:a.defers=z.defers
 yes:∀ s,Q5 ops l s→aN a s=aN z s
 no:∀ s,¬ Q5 ops l s→aN a s=aN a0 s
def KW:Op→Bool
 | .select _ _=>R7
 |_=>R6
def nQ (ops:Array Tx)(Ph:Nat→Bool):Bool:=(SS ops.size).all fun d=>match ops[d]? with
 |none=>R7
 |some c=> !KW c.op && ((c.looksAt ops).all fun s=>(c.after.toList.any fun b=>Tn .any b && ((ops[b.on]?).bind (·.dst)) == RX s) || (SS ops.size).all fun e=> !Ph e || ((ops[e]?).bind (·.dst)) != RX s) && (match c.guard with|some (f,_)=>((ops[f]?).bind (·.dst)).isSome|none=>R7) && c.after.toList.all fun b=> !Tn .any b || decide (b.on<d)
def ND (ops:Array Tx)(Ph:Nat→Bool)(u:Nat):Bool:=(SS ops.size).all fun b=>Ph b || b == u || match ops[b]? with
 |none=>R7
 |some d=>d.after.toList.any fun c=>Tn .any c && !Ph c.on
def D1 (l:Array Bool):Nat:=l.toList.countP (!·)
theorem countP_set:∀ (x:List Bool) (i:Nat),x[i]? =RX R6→(x.set i R7).countP (!·)+1=x.countP (!·)
 | [],i,c=>by simp at c
 |b :: d,0,c=>by simp at c;subst c;simp
 |b :: d,i+1,c=>by
  have:=countP_set d i (by simpa using c);simp only[R4,List.countP_cons];omega
def qd{l:Array Bool}{i:Nat}(b:i<l.size)(h:l.getD i R7=R6):D1 (l.setIfInBounds i R7)+1=D1 l:=by
 unfold D1;rw[Array.toList_setIfInBounds];refine countP_set _ _ ?_;have:l[i]? =RX l[i]:=SU b;simp only[SH,this,UA] at h;rw[Array.getElem?_toList,this,h]
def j7{l:Array Bool}{i j:Nat}(d:i<l.size):(l.setIfInBounds i R7).getD j R6=(decide (j=i) || l.getD j R6):=by
 simp only[SH,SQ];by_cases b:i=j
 ·subst b;simp[d]
 ·have:¬ j=i:=fun c=>b c.symm;simp[b,this]
theorem mem_ready{ops:Array Tx}{l:Array Bool}{i:Nat}(h:i∈SY .any ops l):∃ o,ops[i]? =RX o∧i<ops.size∧l.getD i R7=R6∧∀ e∈o.after,Tn .any e=R7→l.getD e.on R6=R7:=by
 unfold SY at h;obtain⟨f,b⟩:=List.mem_filter.1 h;have c:=TC.1 f;simp only[Sz,Ve] at b;have d:ops[i]? =RX ops[i]:=SU c;rw[d] at b;simp only[TU,UA] at b;refine⟨_,d,c,b.1,fun e j g=>?_⟩;have:=Array.all_eq_true.1 b.2;obtain⟨m,k,rfl⟩:=Array.mem_iff_getElem.1 j;have:=this m k;simpa [g] using this
theorem Fe{ops:Array Tx}{Ph:Nat→Bool}{l:Array Bool}(p:l.size=ops.size)(n:nQ ops Ph=R7)(h:SY .any ops l=[]):∀ i,i<ops.size→l.getD i R6=R7:=by
 intro i
 induction i using Nat.strongRecOn with
 |_ i o=>
  intro b;cases j:l.getD i R6 with
  |true=>rfl
  |false=>
   exfalso
   have:i∈SY .any ops l:=by
    unfold SY;refine List.mem_filter.2 ⟨TC.2 b,?_⟩;have d:ops[i]? =RX ops[i]:=SU b;have c:=SC.1 n i (TC.2 b);rw[d] at c;simp only[Sz,SC] at c;have k:l.getD i R7=R6:=by
     have:l[i]? =RX l[i]:=SU (by omega);simpa [SH,this] using j
    rw[d,k];simp only[Bool.not_false,Bool.true_and,TU,UA,Array.all_eq_true];intro e g;have:=c.2 _ (Array.getElem_mem_toList g);cases f:Tn .any (ops[i].after[e]) with
    |false=>rfl
    |true=>
     rw[f] at this;have m:ops[i].after[e].on<i:=by simpa using this
     simpa using o _ m (by omega)
   rw[h] at this;cases this
section
variable {ops:Array Tx}{Ph:Nat→Bool}{a0 z:T6}{l:Array Bool}{a:T6}
theorem b6.looks(h:b6 ops Ph a0 z l a)(w:nQ ops Ph=R7)(y:∀ s,(∀ (j:Nat) o,Ph j=R7→ops[j]? =RX o→o.dst≠RX s)→aN z s=aN a0 s){i:Nat}{o:Tx}(n:ops[i]? =RX o)(p:∀ e∈o.after,Tn .any e=R7→l.getD e.on R6=R7):∀ s∈o.looksAt ops,aN a s=aN z s:=by
 intro s x;have r:i<ops.size:=(R9.1 n).1;have k:=SC.1 w i (TC.2 r);rw[n] at k;simp only[Sz,SC] at k;have:=k.1.1.2 s x;rw[UU] at this;rcases this with f|f
 ·obtain⟨e,q,g⟩:=List.any_eq_true.1 f;simp only[Sz,beq_iff_eq] at g;obtain⟨d,u,b⟩:=SR.1 g.2;exact h.yes s ⟨e.on,d,p e (by simpa using q) g.1,u,b⟩
 ·have m:∀ (j:Nat) o,Ph j=R7→ops[j]? =RX o→o.dst≠RX s:=fun j d v c b=>by
   have:=SC.1 f j (TC.2 (R9.1 c).1);rw[c] at this;simp[b,v] at this
  rw[y s m];exact h.no s fun⟨j,d,t,c,b⟩=>m j d (h.ph j t) c b
theorem b6.exec(m:b6 ops Ph a0 z l a)(t:nQ ops Ph=R7)(B:∀ s,(∀ (j:Nat) o,Ph j=R7→ops[j]? =RX o→o.dst≠RX s)→aN z s=aN a0 s){i:Nat}{o:Tx}(n:ops[i]? =RX o)(w:∀ e∈o.after,Tn .any e=R7→l.getD e.on R6=R7):SE a.eval o=SE z.eval o∧SI o (Tc ops a.tmps)=SI o (Tc ops z.tmps):=by
 have r:=m.looks t B n w;have x:i<ops.size:=(R9.1 n).1;have f:=SC.1 t i (TC.2 x);rw[n] at f;simp only[Sz] at f;refine⟨execOp_congr o (fun E D e=>by have:=f.1.1.1;rw[e] at this;cases this) fun C y=>?_,?_⟩
 ·cases C with
  |tmp u=>exact r u (List.mem_append_left _ (List.mem_filterMap.2 ⟨.tmp u,by simpa using y,rfl⟩))
  |_=>rfl
 ·unfold SI;cases q:o.guard with
  |none=>rfl
  |some v=>
   obtain⟨j,F⟩:=v;have k:=f.1.2;rw[q] at k;dsimp only at k ⊢;obtain⟨b,p⟩:=Option.isSome_iff_exists.1 k;have d:aN a b=aN z b:=r b (List.mem_append_right _ (by rw[q];simp[p]));have A:Tc ops a.tmps j=Tc ops z.tmps j:=by
    unfold Tc;rw[p];simp only[Vs];unfold aN at d;simp only[SH] at d;rcases TF b z.tmps.size with c|c
    ·have g:z.tmps[b]? =RX z.tmps[b]:=SU c;have h:a.tmps[b]? =RX (a.tmps[b]'(by rw[m.OI];exact c)):=SU _;rw[g,h] at d ⊢;simp only[UA] at d;rw[d]
    ·have g:z.tmps[b]? =RZ:=Tg c;have h:a.tmps[b]? =RZ:=Tg (by rw[m.OI];exact c);rw[g,h]
   rw[A]
theorem b6.next(b:b6 ops Ph a0 z l a){i:Nat}{o:Tx}(D:Ph i=R7)(n:ops[i]? =RX o)(A:∀ e∈o.after,Tn .any e=R7→l.getD e.on R6=R7){v:R2}(y:∀ d,o.dst=RX d→d<z.tmps.size∧aN z d=v):b6 ops Ph a0 z (l.setIfInBounds i R7) (a.put o.dst v):=by
 have j:i<l.size:=by rw[b.size];exact(R9.1 n).1
 have t:∀ s,Q5 ops (l.setIfInBounds i R7) s↔o.dst=RX s∨Q5 ops l s:=by
  intro s;constructor
  ·rintro⟨g,k,f,h,m⟩;rw[j7 j] at f;simp only[UU,decide_eq_true_eq] at f;rcases f with rfl|f
   ·rw[n] at h;cases h;exact .inl m
   ·exact .inr ⟨g,k,f,h,m⟩
  ·rintro(q|⟨g,k,f,h,m⟩)
   ·exact⟨i,o,by rw[j7 j];simp,n,q⟩
   ·exact⟨g,k,by rw[j7 j,f];simp,h,m⟩
 have x:∀ s,aN (a.put o.dst v) s=if o.dst=RX s then v else aN a s:=by
  intro s;unfold aN Sy;cases B:o.dst with
  |none=>simp
  |some d=>
   have C:=(y d B).1;simp only[SH,SQ,Ts];by_cases e:d=s
   ·subst e;simp[b.OI,C]
   ·simp[e]
 refine⟨by simp[b.size],fun g k c r e w u=>?_,fun g c=>?_,?_,?_,fun s p=>?_,fun s p=>?_⟩
 ·rw[j7 j] at c ⊢;simp only[UU,decide_eq_true_eq] at c ⊢;rcases c with rfl|c
  ·rw[n] at r;cases r;exact .inr (A e w u)
  ·exact .inr (b.closed g k c r e w u)
 ·rw[j7 j] at c;simp only[UU,decide_eq_true_eq] at c;rcases c with rfl|c
  ·exact D
  ·exact b.ph g c
 ·unfold Sy;split
  ·simp[b.OI]
  ·exact b.OI
 ·unfold Sy;split
  ·exact b.Qi
  ·exact b.Qi
 ·rw[x]
  split
  ·rename_i e;exact((y s e).2).symm
  ·rename_i e;exact b.yes s (((t s).1 p).resolve_left e)
 ·rw[x,if_neg fun e=>p ((t s).2 (.inl e))];exact b.no s fun q=>p ((t s).2 (.inr q))
def b6.start(a0 z:T6)(f:a0.tmps.size=z.tmps.size)(e:a0.defers=z.defers):b6 ops Ph a0 z (S8 ops.size R6) a0:=by
 have d:∀ c:Nat,(S8 ops.size R6).getD c R6=R6:=fun c=>by
  simp only[SH,Array.getElem?_replicate]
  split<;>rfl
 refine⟨by simp,fun c g b=>?_,fun c b=>?_,f,e,fun s ⟨c,g,b,_⟩=>?_,fun s _=>rfl⟩
 ·rw[d] at b;cases b
 ·rw[d] at b;cases b
 ·rw[d] at b;cases b
theorem b6.all(d:b6 ops Ph a0 z l a)(t:∀ s,(∀ (j:Nat) o,Ph j=R7→ops[j]? =RX o→o.dst≠RX s)→aN z s=aN a0 s)(h:∀ i,i<ops.size→l.getD i R6=R7):a=z:=by
 have r:∀ s,aN a s=aN z s:=fun s=>by
  by_cases f:∃ (j:Nat) (o:Tx),ops[j]? =RX o∧o.dst=RX s
  ·obtain⟨j,o,b,c⟩:=f;exact d.yes s ⟨j,o,h j (R9.1 b).1,b,c⟩
  ·have e:∀ (j:Nat) o,ops[j]? =RX o→o.dst≠RX s:=fun j o b c=>f ⟨j,o,b,c⟩;rw[t s fun j o _=>e j o];exact d.no s fun⟨j,o,_,b,c⟩=>e j o b c
 obtain⟨u,g⟩:=a;obtain⟨v,k⟩:=z;have n:g=k:=d.Qi;have m:u=v:=by
  refine Array.ext d.OI fun i p q=>?_;have:=r i;unfold aN at this;simpa [SH,p,q] using this
 rw[m,n]
theorem b6.OT(d:b6 ops Ph a0 z l a){u:Nat}(y:∀ s,(∀ (j:Nat) o,Ph j=R7→ops[j]? =RX o→o.dst≠RX s)→aN z s=aN a0 s)(x:Ph u=R6)(h:∀ i,i<ops.size→i≠u→l.getD i R6=R7):a=z:=by
 have w:∀ s,aN a s=aN z s:=fun s=>by
  by_cases g:∃ (j:Nat) (o:Tx),Ph j=R7∧ops[j]? =RX o∧o.dst=RX s
  ·obtain⟨j,o,e,b,c⟩:=g;exact d.yes s ⟨j,o,h j (R9.1 b).1 (fun n=>by rw[n,x] at e;cases e),b,c⟩
  ·have f:∀ (j:Nat) o,Ph j=R7→ops[j]? =RX o→o.dst≠RX s:=fun j o e b c=>g ⟨j,o,e,b,c⟩;rw[y s f];exact d.no s fun⟨j,o,v,b,c⟩=>f j o (d.ph j v) b c
 obtain⟨A,k⟩:=a;obtain⟨B,m⟩:=z;have q:k=m:=d.Qi;have p:A=B:=by
  refine Array.ext d.OI fun i r t=>?_;have:=w i;unfold aN at this;simpa [SH,r,t] using this
 rw[p,q]
theorem drawn{Dn:Nat→Bool}{val:Nat→R2}{u:Nat}{G:List Nat→T6→Prop}(C:nQ ops Ph=R7)(K:ND ops Ph u=R7)
 (U:∀ (i:Nat) o d,Ph i=R7→ops[i]? =RX o→o.dst=RX d→d<z.tmps.size∧aN z d=val i)
 (D:∀ s,(∀ (j:Nat) o,Ph j=R7→ops[j]? =RX o→o.dst≠RX s)→aN z s=aN a0 s)
 (R:∀ i o a todo,Ph i=R7→Dn i=R6→i≠u→ops[i]? =RX o→SE a.eval o=SE z.eval o→SI o (Tc ops a.tmps)=SI o (Tc ops z.tmps)→G todo (a.put o.dst (val i))→G (i :: todo) a)
 (T:∀ c t l a,b6 ops Ph a0 z l a→u∈SY .any ops l→D1 l≤c+1→G (u :: S5 .any ops c t (l.setIfInBounds u R7) []) a)
 (N:(∀ i,i<ops.size→Ph i=R7)→G [] z):
 ∀ (c t:Nat) (l:Array Bool) (a:T6),b6 ops Ph a0 z l a→(∀ i,Dn i=R7→l.getD i R6=R7)→D1 l≤c→G (S5 .any ops c t l []) a:=by
 have done:∀ l a,b6 ops Ph a0 z l a→SY .any ops l=[]→G [] a:=fun l a b k=>by
  have y:=Fe b.size C k;rw[b.all D y];exact N fun i e=>b.ph i (y i e)
 intro c
 induction c with
 |zero=>
  intro t l a b q B;simp only[S5,List.reverse_nil];refine done l a b ?_;cases k:SY .any ops l with
  |nil=>rfl
  |cons i W=>
   obtain⟨o,_,e,f,_⟩:=mem_ready (ops:=ops) (l:=l) (i:=i) (by rw[k];exact U4 ..);have:=qd (by rw[b.size];exact e) f;omega
 |succ c V=>
  intro t l a b q B;simp only[S5];change G (match (SY .any ops l)[t % (SY .any ops l).length]? with
   |some i=>S5 .any ops c (t / (SY .any ops l).length) (l.setIfInBounds i R7) [i]
   |none=>[].reverse) a
  cases e:(SY .any ops l)[t % (SY .any ops l).length]? with
  |none=>
   have Q:SY .any ops l=[]:=by
    cases k:SY .any ops l with
    |nil=>rfl
    |cons E F=>
     rw[k] at e;have g:t % (E :: F).length<(E :: F).length:=Nat.mod_lt _ (by simp);simp at e;simp at g;omega
   exact done l a b Q
  |some i=>
   simp only[];rw[linearise_go_acc,List.reverse_singleton,List.singleton_append];have A:=TD e;obtain⟨o,h,g,f,r⟩:=mem_ready A;by_cases w:i=u
   ·subst w;exact T c _ l a b A B
   ·have x:Ph i=R7:=by
     have:=SC.1 K i (TC.2 g);cases S:Ph i with
     |true=>rfl
     |false=>
      rw[S,h] at this;simp only[Bool.false_or,UU,beq_iff_eq] at this;rcases this with p|p
      ·exact absurd p w
      ·obtain⟨n,M,v⟩:=List.any_eq_true.1 p;simp only[Sz,Ve] at v;have:=b.ph _ (r n (by simpa using M) v.1);rw[v.2] at this;cases this
    obtain⟨m,I⟩:=b.exec C D h r;have J:Dn i=R6:=by
     cases n:Dn i with
     |false=>rfl
     |true=>
      have m:=q i n;have P:i<l.size:=by rw[b.size];exact g
      have H:l[i]? =RX l[i]:=SU P;simp only[SH,H,UA] at m f;rw[m] at f;cases f
    refine R i o a _ x J w h m I (V _ _ _ (b.next x h r fun d L=>U i o d x h L) (fun j O=>by
     rw[j7 (by rw[b.size];exact g),q j O];simp) ?_)
    have:=qd (by rw[b.size];exact g) f;omega
end
section
variable {P0 P:Sd}{S:Nat→Prop}{m:Bool}{X:(Nat→Prop)→Sn→List Sn→R3→Prop}{own:Nat→Prop}{cs:List Sn}{w:R3}{b:Sn}{a:T6}{k:List UC}{ops:Array Tx}{i:Nat}{rest:List Nat}{o:Tx}
def aH(c:mW P0 P S m X){c1 c2:U7}(d:X own (b.at a (.code c1 :: .code c2 :: k)) cs w):X own (b.at a (.code (.seq c1 c2) :: k)) cs w:=jZ c (fun w=>stepG_seq) d
def cJ(c:mW P0 P S m X){x:S3}{c1 c2:U7}(y:Bool)(e:a.eval x= .bool y)(d:X own (b.at a (.code (if y then c1 else c2) :: k)) cs w):X own (b.at a (.code (.cond x c1 c2) :: k)) cs w:=jZ c (fun w=>stepG_cond e) d
def fF(d:mW P0 P S m X){id:Nat}{c:U7}(e:X own (b.at a (.code c :: .inBlock id :: k)) cs w):X own (b.at a (.code (.block id c) :: k)) cs w:=jZ d (fun w=>stepG_block) e
def gL(c:mW P0 P S m X){id:Nat}(d:X own (b.at a k) cs w):X own (b.at a (.inBlock id :: k)) cs w:=jZ c (fun w=>stepG_inBlock) d
def sY(d:mW P0 P S m X){c:U7}(e:X own (b.at a (.code c :: .inLoop c :: k)) cs w):X own (b.at a (.code (.loop c) :: k)) cs w:=jZ d (fun w=>stepG_loop) e
def j3(d:mW P0 P S m X){c:U7}(e:X own (b.at a (.code c :: .inLoop c :: k)) cs w):X own (b.at a (.inLoop c :: k)) cs w:=jZ d (fun w=>stepG_inLoop) e
def gu(c:mW P0 P S m X)(d:X own (b.at a k) cs w):X own (b.at a (.code .skip :: k)) cs w:=jZ c (fun w=>stepG_skip) d
def sX(c:mW P0 P S m X){id:Nat}{k':List UC}(d:VQ id k=RX k')(e:X own (b.at a k') cs w):X own (b.at a (.code (.exit id) :: k)) cs w:=jZ c (fun w=>stepG_exit d) e
def om(c:mW P0 P S m X)(d:X own {b.at a (.code .ret :: k) with mode:=.returning} cs w):X own (b.at a (.code .ret :: k)) cs w:=jZ c (fun w=>by simp[Se,SO,SJ,Frame.at]) d
def Kb(c:mW P0 P S m X)(d:X own {b.at a [] with mode:=.returning} cs w):X own (b.at a []) cs w:=jZ c (fun w=>stepG_end) d
def Kc(c:mW P0 P S m X){id:Nat}(d:X own (b.at a (.inRegion ops (SS ops.size) :: k)) cs w):X own (b.at a (.code (.region id ops R6) :: k)) cs w:=jZ c (fun w=>stepG_region) d
def aj(c:mW P0 P S m X)(d:X own (b.at a k) cs w):X own (b.at a (.inRegion ops [] :: k)) cs w:=jZ c (fun w=>stepG_region_end) d
def OZ(d:mW P0 P S m X){id:Nat}(h:P.follows .mixedOrders=R7)(g:∀ t,X own (b.at a (.inRegion ops (S5 .any ops ops.size t (S8 ops.size R6) []) :: k)) cs w):X own (b.at a (.code (.region id ops R7) :: k)) cs w:=
 d.step _ _ _ _ fun c n=>by
  have e:SO P m (Se (b.at a (.code (.region id ops R7) :: k)) cs) c= .go (Se (b.at a (.inRegion ops (Vy (P.follows .mixedOrders) ops (c.tape c.drawn (.order b.fn id))) :: k)) cs) {c with drawn:=c.drawn+1}:=by
   simp[Se,SO,SJ,Frame.at,choose,Uj,Question.forced,Question.cut]
  have p:∀ t,Vy (P.follows .mixedOrders) ops t=S5 .any ops ops.size t (S8 ops.size R6) []:=fun t=>by
   simp only[Vy,h,Bool.true_or,if_true];rfl
  rw[p] at e;have j:cw own c {c with drawn:=c.drawn+1}=cw own c c:=rfl;refine⟨_,_,_,_,e,⟨fun _ _ _=>rfl,R8 _,rfl,rfl,rfl,fun q=>q,fun r f=>by simp at f⟩,?_⟩;rw[j,mK];exact d.rely _ _ _ _ _ (g _) (n.trans ⟨fun _ _=>rfl,R8 _,rfl,rfl,rfl⟩)
theorem wv(d:mW P0 P S m X)(c:ops[i]? =RX o)(g:SI o (Tc ops a.tmps)=R6)(f:X own (b.at (a.put o.dst Tq) (.inRegion ops rest :: k)) cs w):X own (b.at a (.inRegion ops (i :: rest) :: k)) cs w:=by
 refine jZ d (fun w=>?_) f;have e:(b.at a (.inRegion ops (i :: rest) :: k)).finish Tq=b.at (a.put o.dst Tq) (.inRegion ops rest :: k):=by rw[Vg,c];rfl
 rw[← e];simp[Se,SO,SJ,stepG.oper,Frame.oper?,Frame.at,c,g]
def lM(e:mW P0 P S m X)(f:b.kind≠.early)(j:ops[i]? =RX o)(n:SI o (Tc ops a.tmps)=R7)(v:R2)
 (h:∀ c,(SE a.eval o).run P c= .ok (.value v) c∧(SE a.eval o).events P c #[]=#[]) (g:X own (b.at (a.put o.dst v) (.inRegion ops rest :: k)) cs w):X own (b.at a (.inRegion ops (i :: rest) :: k)) cs w:=
 nE e f j n v (fun c _=>⟨(h c).1,fun p d=>by rw[(h c).2] at d;simp at d⟩) g
theorem Gf(j:mW P0 P S m X){f:T1}{fn:UB}{c:U7}{args:Array S3}{ats:Array Sg}(p:b.kind≠.early)(r:ops[i]? =RX o)(s:SI o (Tc ops a.tmps)=R7)(h:o.op= .call {callee:=.value (.func f),args,argTypes:=ats})
 (e:P.funcs[f]? =RX fn) (g:(fn.name == "runtime.NumGoroutine")=R6) (n:fn.body=RX c) (q:X own (SW P f (args.map a.eval) .normal) (b.at a (.inRegion ops (i :: rest) :: k) :: cs) w):X own (b.at a (.inRegion ops (i :: rest) :: k)) cs w:=by
 have d:fn.body.isNone=R6:=by rw[n];rfl
 refine jZ j (fun w=>?_) q;rw[stepG_enter r s p (run_call_body h e g d)];have:listed P b.fn a o w=#[]:=by unfold listed;rw[events_call_body h e g d];exact Conc.seen_none P _
 rw[this]
theorem MU(d:mW P0 P S m X){fn:UB}{todo:List UC}{c:Sn}{a0:T6}{v:R2}(j:b.kind= .normal)(e:a.defers=[])(g:P.funcs[b.fn]? =RX fn)(p:∀ w,(SX fn a.tmps).run P w= .ok v w)(f:∀ w,(SX fn a.tmps).events P w #[]=#[])(n:ops[i]? =RX o)
 (h:X own (c.at (a0.put o.dst v) (.inRegion ops rest :: k)) cs w):X own {b.at a todo with mode:=.returning} (c.at a0 (.inRegion ops (i :: rest) :: k) :: cs) w:=by
 refine jZ d (fun w=>?_) h;rw[stepG_leave j e g (p w) (f w),Vg,n];rfl
def iJ (n:Nat)(S own:Nat→Prop)(e:Ti):Prop:=(∃ m,e.loc= .mark m∧Neutral m)∨(∃ c:SL,e.loc= .cell c∧(c.block=n∨own c.block∨(S c.block∧e.write=R6)))
def iJ.ev{n:Nat}{own':Nat→Prop}(f:own' n)(g:∀ b,own b→own' b){e:Ti}(h:iJ n S own e):EvW S own' e:=by
 unfold EvW;rcases h with⟨m,h,d⟩|⟨j,h,c⟩
 ·rw[h];exact d
 ·rw[h];rcases c with rfl|c|c
  ·exact .inl f
  ·exact .inl (g _ c)
  ·exact .inr c
def sG (S own:Nat→Prop)(w:R3):Prop:=∀ b,S b∨own b→b<w.heap.size
def kV(y:mW P0 P S m X)(C:sG S own w)(A:b.kind≠.early)(E:ops[i]? =RX o)(F:SI o (Tc ops a.tmps)=R7)(j:U9)(G:aR P0 j)(u:Nat→R2)
 (h:∀ c,RelB (fun b=>S b∨own b) w c→∃ w',(SE a.eval o).run P c= .ok (.value (u c.heap.size)) w'∧w'.heap=c.heap.push j∧w'.tape=c.tape∧w'.os=c.os∧w'.output=c.output∧∀ e∈(SE a.eval o).events P c #[],iJ c.heap.size S own e)
 (D:∀ n w',w.heap.size≤n→w'.heap.size=n+1→RelB (fun b=>S b∨own b) w w'→w'.heap[n]? =RX j→X (fun b=>own b∨b=n) (b.at (a.put o.dst (u n)) (.inRegion ops rest :: k)) cs w'):X own (b.at a (.inRegion ops (i :: rest) :: k)) cs w:=
 Ke y A E F fun c d=>by
  obtain⟨w',v,g,p,q,r,x⟩:=h c d;have t:cw own c w'=fun b=>own b∨b=c.heap.size:=by
   funext H;unfold cw;rw[g,TP];apply propext;constructor
   ·rintro(h|h)
    ·exact .inl h
    ·exact .inr (by omega)
   ·rintro(h|h)
    ·exact .inl h
    ·exact .inr (by omega)
  have s:∀ b:Nat,b<c.heap.size→w'.heap[b]? =c.heap[b]? :=fun b f=>by
   rw[g,SN];rw[if_neg (by omega)]
  refine⟨_,w',v,⟨fun b f _=>s b f,by rw[g];simp,p,q,r,fun _=>trivial,fun e B=>?_⟩,?_⟩
  ·rw[t];exact(x e B).ev (.inr rfl) (fun b f=>.inl f)
  ·rw[t];refine D c.heap.size w' d.size (by rw[g];simp) ⟨fun b f=>?_,by rw[g];simp;have:=d.size;omega,p.trans d.tape,q.trans d.os,r.trans d.output⟩ (by rw[g];simp);rw[← d.at_ b f];exact s b (Sa (C b f) d.size)
def sG.new{n:Nat}{w':R3}(h:sG S own w)(d:w.heap.size≤n)(e:w'.heap.size=n+1):sG S (fun b=>own b∨b=n) w':=fun b c=>by
 rcases c with c|c|c
 ·have:=h b (.inl c);omega
 ·have:=h b (.inr c);omega
 ·omega
def O0(j:mW P0 P S m X)(n:b.kind≠.early)(q:ops[i]? =RX o)(s:SI o (Tc ops a.tmps)=R7)
 (h:∀ d,RelB (fun b=>S b∨own b) w d→∃ w',(SE a.eval o).run P d= .ok .skip w'∧lG P0 S own d w' ((SE a.eval o).events P d #[])∧X (cw own d w') (b.at (a.put o.dst Tq) (.inRegion ops rest :: k)) cs w'):X own (b.at a (.inRegion ops (i :: rest) :: k)) cs w:=
 j.step _ _ _ _ fun d r=>by
  obtain⟨w',f,c,g⟩:=h d r;exact⟨_,_,_,_,stepG_none q s n f,⟨c.keep,c.size,c.tape,c.os,c.output,c.hp,fun e p=>c.evs e (Conc.mem_listed p)⟩,g⟩
structure yP(S own:Nat→Prop)(n:Nat)(ob:U9)(w w':R3):Prop where
 at_:∀ b,S b∨own b→b≠n→w'.heap[b]? =w.heap[b]?
 set:w'.heap[n]? =RX ob
 size:w.heap.size≤w'.heap.size
 tape:w'.tape=w.tape
 os:w'.os=w.os
 output:w'.output=w.output
structure v8(n:Nat)(ob:U9)(w1 w':R3):Prop where
 heap:w'.heap=w1.heap.setIfInBounds n ob
 tape:w'.tape=w1.tape
 os:w'.os=w1.os
 output:w'.output=w1.output
theorem v8.Qw{n:Nat}{g:U9}{c w':R3}{es:Array Ti}(h:v8 n g c w')(j:own n)(u:n<c.heap.size)(y:aR P0 g)(t:∀ e∈es,iJ n S own e)(d:RelB (fun b=>S b∨own b) w c):lG P0 S own c w' es∧cw own c w'=own∧yP S own n g w w':=by
 have x:w'.heap.size=c.heap.size:=by rw[h.heap];simp
 have p:∀ b:Nat,b≠n→w'.heap[b]? =c.heap[b]? :=fun b f=>by rw[h.heap,SQ,if_neg (fun e=>f e.symm)]
 have q:cw own c w'=own:=by
  funext A;unfold cw;rw[x];apply propext;constructor
  ·rintro(h|h)
   ·exact h
   ·omega
  ·exact .inl
 refine⟨⟨fun b f v=>p b (fun e=>v (e▸j)),by omega,h.tape,h.os,h.output,fun _=>trivial,fun e r=>?_⟩,q,⟨fun b f s=>(p b s).trans (d.at_ b f),by rw[h.heap,SQ,if_pos rfl,if_pos u],by have:=d.size;omega,h.tape.trans d.tape,h.os.trans d.os,h.output.trans d.output⟩⟩
 ·rw[q];exact(t e r).ev j (fun _ h=>h)
def qZ(u:mW P0 P S m X)(x:sG S own w)(v:b.kind≠.early)(A:ops[i]? =RX o)(C:SI o (Tc ops a.tmps)=R7){n:Nat}(g:own n)(f:U9)(B:aR P0 f)
 (h:∀ c,RelB (fun b=>S b∨own b) w c→∃ w',(SE a.eval o).run P c= .ok .skip w'∧v8 n f c w'∧∀ e∈(SE a.eval o).events P c #[],iJ n S own e)
 (y:∀ w',yP S own n f w w'→X own (b.at (a.put o.dst Tq) (.inRegion ops rest :: k)) cs w'):X own (b.at a (.inRegion ops (i :: rest) :: k)) cs w:=
 O0 u v A C fun c d=>by
  obtain⟨w',r,s,t⟩:=h c d;obtain⟨j,p,q⟩:=s.Qw (P0:=P0) g (Sa (x n (.inr g)) d.size) B t d;exact⟨w',r,j,by rw[p];exact y w' q⟩
def O1(u:mW P0 P S m X)(y:sG S own w)(x:b.kind≠.early)(B:ops[i]? =RX o)(D:SI o (Tc ops a.tmps)=R7){n:Nat}(g:own n)(f:U9)(C:aR P0 f)(v:R2)
 (h:∀ c,RelB (fun b=>S b∨own b) w c→∃ w',(SE a.eval o).run P c= .ok (.value v) w'∧v8 n f c w'∧∀ e∈(SE a.eval o).events P c #[],iJ n S own e)
 (A:∀ w',yP S own n f w w'→X own (b.at (a.put o.dst v) (.inRegion ops rest :: k)) cs w'):X own (b.at a (.inRegion ops (i :: rest) :: k)) cs w:=
 Ke u x B D fun c d=>by
  obtain⟨w',r,s,t⟩:=h c d;obtain⟨j,p,q⟩:=s.Qw (P0:=P0) g (Sa (y n (.inr g)) d.size) C t d;exact⟨v,w',r,j,by rw[p];exact A w' q⟩
def sG.set{n:Nat}{e:U9}{w':R3}(h:sG S own w)(d:yP S own n e w w'):sG S own w':=fun b c=>Sa (h b c) d.size
def MT(q:mW P0 P S m X)(x:b.kind≠.early){Ph Dn:Nat→Bool}{z:T6}{val:Nat→R2}{u:Nat}{a0:T6}(G:nQ ops Ph=R7)(v:ND ops Ph u=R7)
 (I:∀ (i:Nat) o d,Ph i=R7→ops[i]? =RX o→o.dst=RX d→d<z.tmps.size∧aN z d=val i)
 (J:∀ s,(∀ (j:Nat) o,Ph j=R7→ops[j]? =RX o→o.dst≠RX s)→aN z s=aN a0 s)
 (D:∀ i o,Ph i=R7→Dn i=R6→i≠u→ops[i]? =RX o→(SI o (Tc ops z.tmps)=R7∧∀ c,RelB (fun b=>S b∨own b) w c→(SE z.eval o).run P c= .ok (.value (val i)) c∧∀ e∈(SE z.eval o).events P c #[],EvW S own e)∨(SI o (Tc ops z.tmps)=R6∧val i=Tq))
 (H:∀ f t l a,b6 ops Ph a0 z l a→u∈SY .any ops l→D1 l≤f+1→X own (b.at a (.inRegion ops (u :: S5 .any ops f t (l.setIfInBounds u R7) []) :: k)) cs w)
 (B:(∀ i,i<ops.size→Ph i=R7)→X own (b.at z (.inRegion ops [] :: k)) cs w):
 ∀ (f t:Nat) (l:Array Bool) (a:T6),b6 ops Ph a0 z l a→(∀ i,Dn i=R7→l.getD i R6=R7)→D1 l≤f→X own (b.at a (.inRegion ops (S5 .any ops f t l []) :: k)) cs w:=
 drawn (G:=fun l a=>X own (b.at a (.inRegion ops l :: k)) cs w) G v I J (fun i o a K E y C p A r n=>by
  rcases D i o E y C p with⟨g,h⟩|⟨g,h⟩
  ·exact nE q x p (r.trans g) (val i) (fun c F=>by rw[A];exact h c F) n
  ·rw[h] at n;exact wv q p (r.trans g) n) H B
end
section
variable {ops:Array Tx}{Ph JQ:Nat→Bool}{a0 z z':T6}{l:Array Bool}{a:T6}
theorem b6.Rv(c:b6 ops Ph a0 z l a){u:Nat}{o:Tx}(y:u∈SY .any ops l)(f:ops[u]? =RX o)(r:∀ i,Ph i=R7→JQ i=R7)(C:JQ u=R7)(A:z'.tmps.size=z.tmps.size)(x:z'.defers=z.defers)
 (E:∀ (i:Nat) o d,Ph i=R7→ops[i]? =RX o→o.dst=RX d→aN z' d=aN z d) {v:R2} (D:∀ d,o.dst=RX d→d<z'.tmps.size∧aN z' d=v):b6 ops JQ a0 z' (l.setIfInBounds u R7) (a.put o.dst v):=by
 obtain⟨j,g,_,_,t⟩:=mem_ready y;rw[f] at g;cases g;have e:b6 ops JQ a0 z' l a:=⟨c.size,c.closed,fun i n=>r i (c.ph i n),c.OI.trans A.symm,c.Qi.trans x.symm,fun s h=>by
  have B:=h;obtain⟨i,j,e,p,q⟩:=B;rw[E i j s (c.ph i e) p q];exact c.yes s h,c.no⟩
 exact e.next C f t D
def Jy(n:Nat):D1 (S8 n R6)≤n:=by
 unfold D1;exact Ss (List.countP_le_length) (by simp)
end
section
variable {P0 P:Sd}{S own:Nat→Prop}{a:T6}{o:Tx}{w w1:R3}
def EvW.read{e:Ti}{b:SL}(h:e.loc= .cell b)(d:e.write=R6)(c:S b.block∨own b.block):EvW S own e:=by
 unfold EvW;rw[h];exact c.elim (fun f=>.inr ⟨f,d⟩) .inl
def m9(e:RelB (fun b=>S b∨own b) w w1){c:SL}(d:S c.block∨own c.block):w1.cell? c=w.cell? c:=by
 unfold Sr;rw[e.at_ c.block d]
theorem bK{t:Sg}{x:S3}{c:SL}{v:R2}(i:o.op= .load t x)(j:a.eval x= .pointer (RX c))(f:∀ w,(isAgg t).run P w= .ok R6 w)(g:S c.block∨own c.block)(hc:w.cell? c=RX v):∀ w1,RelB (fun b=>S b∨own b) w w1→(SE a.eval o).run P w1= .ok (.value v) w1∧∀ e∈(SE a.eval o).events P w1 #[],EvW S own e:=by
 intro w1 k;have h:w1.cell? c=RX v:=(m9 k g).trans hc;constructor
 ·unfold SE;simp[i,j,Instr.loadAt,UR,loadVar,f,h]
 ·intro e d;unfold SE at d;simp[i,j,Instr.loadAt,UR,loadVar,f,h] at d;subst d;exact EvW.read rfl rfl g
theorem eA{t:Sg}{x:S3}{c off:Nat}{cs:List R2}{d:TypeDesc}(m:o.op= .load t x)(p:a.eval x= .pointer (RX ⟨c,off,RZ⟩))(n:P.underlying t=RX d)(A:d.isRow=R7)(l:(P.info? t).map (·.size)=RX cs.length)(k:S c∨own c)(hc:w.rangeAt c off cs):∀ w1,RelB (fun b=>S b∨own b) w w1→(SE a.eval o).run P w1= .ok (.value (.agg cs.toArray)) w1∧∀ e∈(SE a.eval o).events P w1 #[],EvW S own e:=by
 intro w1 E;have g:w1.rangeAt c off cs:=fun f v i=>(m9 E k).trans (hc f v i);have D:=run_loadAt_mid (P:=P) w1 c off t cs d g n A l;constructor
 ·unfold SE;simp[m,p,D]
 ·intro e h;have z:(isAgg t).run P w1= .ok R7 w1:=by
   unfold isAgg;rw[Uz,run_underlying n w1];cases d<;>simp_all
  obtain⟨J,C,G⟩:=Uh.1 l;have F:(V3 t).run P w1= .ok cs.length w1:=by simp[V3,UX,C,G]
  unfold SE at h;simp only[m,p] at h;have B:e∈(loadCellsFrom ⟨c,off,RZ⟩ 0 cs.length #[]).events P w1 #[]:=by
   have j:∃ q,(loadCells ⟨c,off,RZ⟩ cs.length).run P w1= .ok q w1:=⟨_,run_loadCells_list (P:=P) w1 ⟨c,off,RZ⟩ cs (fun f v H=>by rw[Vl];exact g f v H)⟩;obtain⟨q,j⟩:=j;simpa [Instr.loadAt,UR,loadVar,z,F,j,loadCells] using h
  rcases events_loadCellsFrom_at (P:=P) ⟨c,off,RZ⟩ (fun b=>b=c) rfl cs.length 0 #[] w1 #[] (fun f i=>by
   rw[SZ,Vl,g f cs[f] (Sk i)];rfl) e B with r|⟨I,s,u,y⟩
  ·simp at r
  ·exact EvW.read s u (by rw[y];exact k)
theorem tI{t:Sg}{x:S3}{v:R2}(d:o.op= .box t x)(f:a.eval x=v):∀ w1,RelB (fun b=>S b∨own b) w w1→∃ w',(SE a.eval o).run P w1= .ok (.value (.pointer (RX ⟨w1.heap.size,0,RZ⟩))) w'∧w'.heap=w1.heap.push (.cells v.cells t)∧w'.tape=w1.tape∧w'.os=w1.os∧w'.output=w1.output∧∀ e∈(SE a.eval o).events P w1 #[],iJ w1.heap.size S own e:=by
 intro w1 g;refine⟨w1.alloc (.cells v.cells t),?_,rfl,rfl,rfl,rfl,?_⟩
 ·unfold SE;simp[d,f,Instr.box,newVar,newRow]
 ·intro e c;unfold SE at c;simp[d,f,Instr.box,newVar,newRow] at c
theorem rZ{t:Sg}{z:R2}(d:o.op= .alloc t)(f:∀ w,(T9 t).run P w= .ok z w):∀ w1,RelB (fun b=>S b∨own b) w w1→∃ w',(SE a.eval o).run P w1= .ok (.value (.pointer (RX ⟨w1.heap.size,0,RZ⟩))) w'∧w'.heap=w1.heap.push (.cells z.cells t)∧w'.tape=w1.tape∧w'.os=w1.os∧w'.output=w1.output∧∀ e∈(SE a.eval o).events P w1 #[],iJ w1.heap.size S own e:=by
 intro w1 g;refine⟨w1.alloc (.cells z.cells t),?_,rfl,rfl,rfl,rfl,?_⟩
 ·unfold SE;simp[d,Instr.alloc,f,newVar,newRow]
 ·intro e c;unfold SE at c;simp[d,Instr.alloc,f,newVar,newRow] at c
def uL{n:Nat}{f cs:Array R2}{e:Sg}{b:Nat×Nat}(d:w1.heap[n]? =RX (.cells f e b)):v8 n (.cells cs e b) w1 (w1.setRow n cs):=by
 refine⟨?_,rfl,rfl,rfl⟩;unfold World.setRow;apply Array.ext_getElem?;intro h;simp only[TV,SQ];by_cases c:n=h
 ·subst c;have g:=(R9.1 d).1;rw[if_pos rfl,if_pos rfl,if_pos g,d];rfl
 ·simp[c]
theorem kq{t:Sg}{x y:S3}{n off:Nat}{v:R2}{d:Array R2}{e:Sg}(l:o.op= .store t x y)(p:a.eval x= .pointer (RX ⟨n,off,RZ⟩))(q:a.eval y=v)(D:(P.info? t).map (·.size)=RX v.cells.size)(h1:∀ c∈v.cells.toList,c.oneCell'=R7)(z:S n∨own n)(C:w.heap[n]? =RX (.cells d e (0,0)))(j:off+v.cells.size≤d.size):
 ∀ w1,RelB (fun b=>S b∨own b) w w1→∃ w',(SE a.eval o).run P w1= .ok .skip w'∧v8 n (.cells (d.toList.take off ++ v.cells.toList ++ d.toList.drop (off+v.cells.size)).toArray e (0,0)) w1 w'∧∀ f∈(SE a.eval o).events P w1 #[],iJ n S own f:=by
 intro w1 E;have g:w1.heap[n]? =RX (.cells d e (0,0)):=(E.at_ n z).trans C;obtain⟨F,k,m⟩:=Uh.1 D;have h:=run_storeCells_at P n off e v.cells.toList 0 d w1 g (by simpa using j) h1;have B:=events_storeCells_at (P:=P) n off e v.cells.toList 0 d w1 #[] g (by simpa using j) h1;simp only[Nat.add_zero,T5] at h;refine⟨_,?_,uL g,fun f i=>?_⟩
 ·unfold SE;simp[l,p,q,Instr.storeAt,UR,storeVar,V3,UX,k,m,h]
 ·have A:f∈(storeCells ⟨n,off,RZ⟩ v.cells.toList 0).events P w1 #[]:=by
   unfold SE at i;simpa [l,p,q,Instr.storeAt,UR,storeVar,V3,UX,k,m,h] using i
  rcases B f A with s|⟨r,h1,u⟩
  ·simp at s
  ·exact .inr ⟨r,h1,.inl u⟩
theorem Ba{t e:Sg}{l c:S3}{d:UL}{z:R2}{kl h:Uo}{L C:Nat}(m:o.op= .makeSlice t l c)(k:a.eval l= .int kl (L:Int))(hc:a.eval c= .int h (C:Int))(n:P.underlying t=RX (.slice e))(j:P.info? e=RX d)(p:d.zero=RX z)(v:L≤C)(r:C*d.bytes≤140737488355328)(u:C≤9223372036854775807):
 ∀ w1,RelB (fun b=>S b∨own b) w w1→∃ w',(SE a.eval o).run P w1= .ok (.value (.slice (RX ⟨w1.heap.size,0,RZ⟩) L C)) w'∧w'.heap=w1.heap.push (.cells (madeCells z.cells (C*d.size)) e)∧w'.tape=w1.tape∧w'.os=w1.os∧w'.output=w1.output∧∀ e∈(SE a.eval o).events P w1 #[],iJ w1.heap.size S own e:=by
 intro w1 x;have i:(d.bytes:Int)*(C:Int)≤281474976710656:=by
  rw[← Int.natCast_mul,Nat.mul_comm];omega
 have g:=run_make (P:=P) w1 t e d z n j p kl h (L:Int) (C:Int) (by omega) (by omega) i (by omega);have q:=events_make (P:=P) w1 t e d z n j p kl h (L:Int) (C:Int) (by omega) (by omega) i (by omega) (by simpa using r) #[];simp only[Int.toNat_natCast] at g;refine⟨w1.alloc (.cells (madeCells z.cells (C*d.size)) e),?_,rfl,rfl,rfl,rfl,fun s f=>?_⟩
 ·unfold SE;simp[m,k,hc,g]
 ·unfold SE at f;simp only[m,k,hc] at f;simp[g,q] at f
theorem Da{t e:Sg}{p:ChanDir}{x:S3}{m:UL}{k:Uo}{n:Nat}(h:o.op= .makeChan t x)(l:a.eval x= .int k (n:Int))(j:P.underlying t=RX (.chan p e))(g:P.info? e=RX m)(d:(n:Int)≤9223372036854775807)(f:(m.bytes:Int)*n≤281474976710544):
 ∀ w1,RelB (fun b=>S b∨own b) w w1→∃ w',(SE a.eval o).run P w1= .ok (.value (.chan (RX w1.heap.size))) w'∧w'.heap=w1.heap.push (.chan n #[] R6 0 0 R6)∧w'.tape=w1.tape∧w'.os=w1.os∧w'.output=w1.output∧∀ e∈(SE a.eval o).events P w1 #[],iJ w1.heap.size S own e:=by
 intro w1 s;have i:=run_makeChan (P:=P) (w:=w1) j g k n d f;have q:=events_makeChan (P:=P) (w:=w1) j g k n d f #[];refine⟨w1.alloc (.chan n #[] R6 0 0 R6),?_,rfl,rfl,rfl,rfl,fun r c=>?_⟩
 ·unfold SE;simp[h,l,i]
 ·unfold SE at c;simp only[h,l] at c;simp[i,q] at c
end
structure Knows(a:T6)(n:Nat)(l:List (Nat×R2)):Prop where
 size:a.tmps.size=n
 slot:∀ s v,l.lookup s=RX v→aN a s=v
def DE{a:T6}{d:Nat}(c:d<a.tmps.size)(v:R2)(s:Nat):aN (a.put (RX d) v) s=if d=s then v else aN a s:=by
 unfold aN Sy;simp only[SH,SQ];by_cases b:d=s
 ·subst b;simp[c]
 ·simp[b]
def size_put(a:T6)(d:Option Nat)(v:R2):(a.put d v).tmps.size=a.tmps.size:=by
 unfold Sy
 split<;>simp
def Knows.put{a:T6}{n:Nat}{l:List (Nat×R2)}(h:Knows a n l){d:Nat}(f:d<n)(v:R2):Knows (a.put (RX d) v) n ((d,v) :: l):=by
 refine⟨(size_put _ _ _).trans h.size,fun s g b=>?_⟩;rw[DE (by rw[h.size];exact f)];simp only[List.lookup_cons] at b;by_cases c:d=s
 ·subst c;simp at b;simp[b]
 ·have:(s == d)=R6:=by simpa using fun e=>c e.symm
  rw[this] at b;rw[if_neg c];exact h.slot s g b
def Knows.none{a:T6}{n:Nat}{l:List (Nat×R2)}(h:Knows a n l)(v:R2):Knows (a.put RZ v) n l:=h
def Knows.of{a:T6}{n:Nat}{l:List (Nat×R2)}(h:Knows a n l){s:Nat}{v:R2}(b:l.lookup s=RX v):a.eval (.tmp s)=v:=h.slot s v b
section
variable {P:Sd}{a:T6}{o:Tx}
def bQ{x:S3}{v:R2}(c:o.op= .move x)(d:a.eval x=v):∀ b,(SE a.eval o).run P b= .ok (.value v) b∧(SE a.eval o).events P b #[]=#[]:=fun b=>by
 unfold SE;simp[c,d]
def jI{x:S3}{v:R2}(c:o.op= .assign x)(d:a.eval x=v):∀ b,(SE a.eval o).run P b= .ok (.value v) b∧(SE a.eval o).events P b #[]=#[]:=fun b=>by
 unfold SE;simp[c,d]
def Lj{t:Sg}{x:S3}{f d off:Nat}{e:Array Field}{c:Field}{n:Nat}(h:o.op= .fieldAddr t x f)(k:a.eval x= .pointer (RX ⟨d,off,RZ⟩))(j:P.underlying t=RX (.struct e))(g:e[f]? =RX c)(i:∀ w,(V3 c.type).run P w= .ok (n+1) w):
 ∀ b,(SE a.eval o).run P b= .ok (.value (.pointer (RX ⟨d,off+c.offset,RZ⟩))) b∧(SE a.eval o).events P b #[]=#[]:=fun b=>by
 unfold SE;simp[h,k,Instr.fieldAt,run_underlying j,g,UR,fieldPlace,i,Vl]
def eK{t e:Sg}{x y:S3}{d off len cap n:Nat}{k:Uo}{i:Nat}(g:o.op= .indexAddr t x y)(l:a.eval x= .slice (RX ⟨d,off,RZ⟩) len cap)(m:a.eval y= .int k (i:Int))(j:P.underlying t=RX (.slice e))(h:∀ w,(V3 e).run P w= .ok n w)(p:i<len):
 ∀ b,(SE a.eval o).run P b= .ok (.value (.pointer (RX ⟨d,off+i*n,RZ⟩))) b∧(SE a.eval o).events P b #[]=#[]:=fun b=>by
 have f:(i:Int)<(len:Int):=by omega
 unfold SE;simp[g,l,m,Instr.indexAt,asIntOf,run_underlying j,f,h,Vl];exact⟨fun c=>absurd c (by omega),fun c=>absurd c (by omega)⟩
def q9{t:Sg}{x:S3}{base:Option SL}{len cap:Nat}{e:Sg}(c:o.op= .call {callee:=.builtin .len,args:= #[x],argTypes:= #[t]})(f:a.eval x= .slice base len cap)(d:P.underlying t=RX (.slice e)):
 ∀ b,(SE a.eval o).run P b= .ok (.value (.int .i64 (len:Int))) b∧(SE a.eval o).events P b #[]=#[]:=fun b=>by
 unfold SE;simp[c,f,VE,invoke,builtin,Builtin.len_,run_underlying d,goInt]
def jJ{x:S3}{i:Nat}{vs:Array R2}{v:R2}(c:o.op= .extract x i)(e:a.eval x= .tuple vs)(d:vs[i]? =RX v):∀ b,(SE a.eval o).run P b= .ok (.value v) b∧(SE a.eval o).events P b #[]=#[]:=fun b=>by
 unfold SE;simp[c,e,Instr.extract,d]
def GB{x y z:S3}{c:Bool}(d:o.op= .pick x y z)(e:a.eval x= .bool c):∀ b,(SE a.eval o).run P b= .ok (.value (if c then a.eval y else a.eval z)) b∧(SE a.eval o).events P b #[]=#[]:=fun b=>by
 unfold SE;simp[d,e,asBool]
def Ps{t f:Sg}{x y:S3}{i j:Int}(c:o.op= .binOp .lss t x y f)(d:a.eval x= .int .i64 i)(e:a.eval y= .int .i64 j):∀ b,(SE a.eval o).run P b= .ok (.value (.bool (decide (i<j)))) b∧(SE a.eval o).events P b #[]=#[]:=fun b=>by
 unfold SE;simp[c,d,e,binOp,eqGuard,Op.intCmp]
def Pr{t f:Sg}{x y:S3}{i j:Int}(c:o.op= .binOp .eql t x y f)(d:a.eval x= .int .i64 i)(e:a.eval y= .int .i64 j):∀ b,(SE a.eval o).run P b= .ok (.value (.bool (i == j))) b∧(SE a.eval o).events P b #[]=#[]:=fun b=>by
 unfold SE;simp[c,d,e,binOp,eqGuard,Op.intCmp]
def Pt{t f:Sg}{x y:S3}{i j:Int}(c:o.op= .binOp .neq t x y f)(d:a.eval x= .int .i64 i)(e:a.eval y= .int .i64 j):∀ b,(SE a.eval o).run P b= .ok (.value (.bool (i != j))) b∧(SE a.eval o).events P b #[]=#[]:=fun b=>by
 unfold SE;simp[c,d,e,binOp,eqGuard,Op.intCmp]
def mV{t f:Sg}{x y:S3}{i j:Nat}(c:o.op= .binOp .add t x y f)(d:a.eval x= .int .i64 (i:Int))(e:a.eval y= .int .i64 (j:Int))(g:i+j≤9223372036854775807):∀ b,(SE a.eval o).run P b= .ok (.value (.int .i64 ((i+j:Nat):Int))) b∧(SE a.eval o).events P b #[]=#[]:=fun b=>by
 have:Wb.wrap ((i:Int)+(j:Int))=((i+j:Nat):Int):=by rw[IntKind.wrap_i64]<;>omega
 unfold SE;simp[c,d,e,binOp,eqGuard,Op.intArith,this]
end
def below(P:Sd):Sn:={(default:Sn) with fn:=P.funcs.size,mode:=.panicking [goexitEntry]}
section
variable {P0 P:Sd}{S:Nat→Prop}{c:Nat}{own:Nat→Prop}{vs:List R2}{cs:List Sn}{w:R3}{b:Sn}{a:T6}{k:List UC}{ops:Array Tx}{i:Nat}{rest:List Nat}{o:Tx}
theorem MA {f:T1} {fn:UB} {code:U7} {args:Array R2} (e:P.funcs[f]? =RX fn) (n:(fn.name == "runtime.NumGoroutine")=R6) (d:fn.body=RX code) (h:oI P0 P S c own vs (Se ((baseD f).at {tmps:=args ++ S8 (fn.ntmps - args.size) Tq,defers:=[]} [.code code]) [below P]) w):oI P0 P S c own vs (born P (dcall f args)) w:=by
 have q:∀ w,SO P R6 (born P (dcall f args)) w= .go (Se ((baseD f).at {tmps:=args ++ S8 (fn.ntmps - args.size) Tq,defers:=[]} [.code code]) [below P]) w #[]:=by
  intro w;have j:¬ fn.name= "runtime.NumGoroutine" :=by simpa using n
  rw[← enter_atD args e d];simp[born,SO,VR,callDeferred,dcall,invoke,callFunc,e,j,d,UE,seen_none,Se,below];rfl
 exact JG rfl (fun g _=>q g) (fun r l=>by simp at l) (fun g p=>h.rely p)
theorem GZ{ats:Array Sg}{ty:Sg}{co:Array Bool}{fn:UB}{todo:List UC}(v:b.kind= .deferred)(u:a.defers=[{target:=.builtin .close ats ty co,args:= #[.chan (RX c)]}])(h:P.funcs[b.fn]? =RX fn)(y:fn.results=#[])(x:fn.norace=R6):oI P0 P S c own [] (Se {b.at a todo with mode:=.returning} [below P]) w:=by
 refine JF (n:=2) (g':=Se {b.at ⟨a.tmps,[]⟩ todo with mode:=.returning} [below P]) rfl ?_ ?_ ?_
 ·refine .inr ⟨rfl,Se (below P) [],fun w=>?_,.inr ⟨rfl,{Se (below P) [] with status:=.finished},fun w=>?_,rfl⟩⟩
  ·simp[Se,SO,VR,UM,Frame.at,v,h,SX,y,seen,UE,below,goexitEntry]
  ·have n:(default:Sn).defers=[]:=rfl;have p:(default:Sn).todo=[]:=rfl;simp[Se,SO,VR,below,Frame.catches,goexitEntry,n,p]
 ·simp[mayWake,Se,Frame.at]
 ·intro d _ l j s z A e;have q:(invoke (.builtin .close ats ty co) #[.chan (RX c)]).run P d= .ok (.value (.tuple #[])) (d.setChan c l j R7 s z A):=by
   simp[go_sem,run_close_open _ _ e,World.setChan]
  have r:(invoke (.builtin .close ats ty co) #[.chan (RX c)]).events P d #[]=#[⟨.obj c,R6,R7⟩,⟨.obj c,R7,R7⟩]:=by
   simp[go_sem,events_close_open _ _ e]
  have t:seen P b.fn #[⟨.obj c,R6,R7⟩,⟨.obj c,R7,R7⟩]=#[⟨.obj c,R6,R7⟩,⟨.obj c,R7,R7⟩]:=seen_eq (by simp[h,x]) (by intro B g f;simp only[List.mem_toArray,TE,Vr,or_false] at g;rcases g with rfl|rfl<;>simp);simp[Se,SO,VR,callDeferred,Frame.at,u,q,r,t,UE]
theorem PT{x y:S3}{v:R2}(j:b.kind≠.early)(e:ops[i]? =RX o)(s:SI o (Tc ops a.tmps)=R7)(f:o.op= .send x y)(g:a.eval x= .chan (RX c))(h:a.eval y=v)
 (n:oI P0 P S c own vs (Se (b.at (a.put o.dst Tq) (.inRegion ops rest :: k)) cs) w):oI P0 P S c own (v :: vs) (Se (b.at a (.inRegion ops (i :: rest) :: k)) cs) w:=by
 have r:Ub (Se (b.at a (.inRegion ops (i :: rest) :: k)) cs) Tq=Se (b.at (a.put o.dst Tq) (.inRegion ops rest :: k)) cs:=by
  simp only[Ub,Se,Vg,e];rfl
 refine MB (g2:=Se (b.at a (.inRegion ops (i :: rest) :: k)) cs) (z:=.tuple #[]) rfl fun d p=>⟨?_,by rw[r];exact n.rely p⟩;have q:(SE a.eval o).run P d= .ok (.comm #[scase c v (.tuple #[])] R7 .send) d:=by
  unfold SE;simp[f,g,h,scase]
 have l:(SE a.eval o).events P d #[]=#[]:=by
  unfold SE;simp[f,g,h]
 rw[stepG_comm e s j q];unfold listed;rw[l,seen_none]
end
section
variable {P0 P:Sd}{S:Nat→Prop}{m:Bool}{X:(Nat→Prop)→Sn→List Sn→R3→Prop}{own:Nat→Prop}{cs:List Sn}{w:R3}{b:Sn}{a:T6}{k:List UC}{ops:Array Tx}{i:Nat}{rest:List Nat}{o:Tx}
theorem MS(g:mW P0 P S m X)(h:b.kind≠.early)(e:ops[i]? =RX o)(r:SI o (Tc ops a.tmps)=R7){d:Builtin}{x:S3}{v:R2}{ats:Array Sg}(f:o.op= .defer {callee:=.builtin d,args:= #[x],argTypes:=ats})(s:a.eval x=v)
 (n:∀ co,X own (b.at (Sy ⟨a.tmps,{target:=.builtin d ats o.type co,args:= #[v]} :: a.defers⟩ o.dst Tq) (.inRegion ops rest :: k)) cs w):X own (b.at a (.inRegion ops (i :: rest) :: k)) cs w:=by
 refine jZ g (fun w=>?_) (n (#[x].map fun| .const _=>R7|_=>R6));have q:(SE a.eval o).run P w= .ok (.defer {target:=.builtin d ats o.type (#[x].map fun| .const _=>R7|_=>R6),args:= #[v]}) w:=by
  unfold SE;simp[f,VE,s];cases x<;>rfl
 have j:(SE a.eval o).events P w #[]=#[]:=by
  unfold SE;simp[f,VE]
 have l:(b.at ⟨a.tmps,{target:=.builtin d ats o.type (#[x].map fun| .const _=>R7|_=>R6),args:= #[v]} :: a.defers⟩ (.inRegion ops (i :: rest) :: k)).finish Tq=b.at (Sy ⟨a.tmps,{target:=.builtin d ats o.type (#[x].map fun| .const _=>R7|_=>R6),args:= #[v]} :: a.defers⟩ o.dst Tq) (.inRegion ops rest :: k):=by rw[Vg,e];rfl
 have p:(b.kind == CallKind.early)=R6:=by simpa using h
 rw[stepG_oper e r,← l];simp[TL,q,j,Se,Frame.at,p,UE,seen_none]
end
def fill (a:T6):List (Nat×R2)→T6
 | []=>a
 |(c,v) :: l=>(fill a l).put (RX c) v
theorem jG(a:T6):∀ l,(fill a l).tmps.size=a.tmps.size
 | []=>rfl
 |(c,v) :: l=>(size_put _ _ _).trans (jG a l)
theorem dQ(a:T6):∀ l,(fill a l).defers=a.defers
 | []=>rfl
 |(c,v) :: l=>dQ a l
theorem Knows.fill{a:T6}{n:Nat}{l0:List (Nat×R2)}(h:Knows a n l0):∀ (l:List (Nat×R2)),(l.all fun p=>decide (p.1<n))=R7→Knows (fill a l) n (l ++ l0)
 | [],_=>h
 |(d,v) :: l,c=>by
  simp only[List.all_cons,Sz,decide_eq_true_eq] at c;exact(Knows.fill h l c.2).put c.1 v
theorem lg(a:T6)(s:Nat):∀ (l:List (Nat×R2)),(l.all fun p=>decide (p.1<a.tmps.size))=R7→aN (fill a l) s=(l.lookup s).getD (aN a s)
 | [],_=>rfl
 |(c,v) :: l,e=>by
  simp only[List.all_cons,Sz,decide_eq_true_eq] at e;show aN ((fill a l).put (RX c) v) s=_;rw[DE (by rw[jG];exact e.1),lg a s l e.2,List.lookup_cons];by_cases d:c=s
  ·subst d;simp
  ·have:(s == c)=R6:=by simpa using fun f=>d f.symm
   rw[this,if_neg d]
def iz (ops:Array Tx)(i:Nat):Option Nat:=(ops[i]?).bind (·.dst)
def fJ (ops:Array Tx)(Ph:Nat→Bool)(u n:Nat)(ds:List Nat):Bool:=
 nQ ops Ph && ND ops Ph u && ds.all (fun c=>decide (c<n) && (SS ops.size).any fun a=>Ph a && iz ops a == RX c) && (SS ops.size).all fun a=> !Ph a || match iz ops a with
  |some c=>ds.contains c
  |none=>R7
theorem qD{s:Nat}:∀ {l:List (Nat×R2)},(l.map (·.1)).contains s=R7→∃ v,l.lookup s=RX v
 | [],a=>by simp at a
 |(c,v) :: l,a=>by
  simp only[U8,List.contains_cons,UU] at a;rw[List.lookup_cons];cases d:s == c with
  |true=>exact⟨v,rfl⟩
  |false=>
   rw[d] at a;exact qD (a.resolve_left (by simp))
theorem fU{s:Nat}{v:R2}:∀ {l:List (Nat×R2)},l.lookup s=RX v→s∈l.map (·.1)
 | [],a=>by simp at a
 |(d,e) :: l,a=>by
  rw[List.lookup_cons] at a;cases c:s == d with
  |true=>simp at c;simp[c]
  |false=>rw[c] at a;simp[fU a]
section
variable {P0 P:Sd}{S:Nat→Prop}{m:Bool}{X:(Nat→Prop)→Sn→List Sn→R3→Prop}{own:Nat→Prop}{cs:List Sn}{w:R3}{b:Sn}{a0:T6}{k:List UC}{ops:Array Tx}{Ph Dn:Nat→Bool}{u n:Nat}{l l0:List (Nat×R2)}
theorem oZ(g:fJ ops Ph u n (l.map (·.1))=R7)(t:a0.tmps.size=n):nQ ops Ph=R7∧ND ops Ph u=R7∧(l.all fun p=>decide (p.1<a0.tmps.size))=R7∧(∀ i o d,Ph i=R7→ops[i]? =RX o→o.dst=RX d→∃ v,l.lookup d=RX v∧d<a0.tmps.size)∧∀ s,(∀ (j:Nat) o,Ph j=R7→ops[j]? =RX o→o.dst≠RX s)→aN (fill a0 l) s=aN a0 s:=by
 unfold fJ at g;simp only[Sz] at g;obtain⟨⟨⟨y,z⟩,A⟩,B⟩:=g;have e:=SC.1 A;have r:(l.all fun p=>decide (p.1<a0.tmps.size))=R7:=SC.2 fun p q=>by
  have:=e p.1 (Tu.2 ⟨p,q,rfl⟩);simp only[Sz] at this;rw[t];exact this.1
 refine⟨y,z,r,fun i o d q a c=>?_,fun s C=>?_⟩
 ·have:=SC.1 B i (TC.2 (R9.1 a).1);rw[q] at this;have h:iz ops i=o.dst:=by unfold iz;rw[a];rfl
  rw[h,c] at this;simp only[Bool.not_true,Bool.false_or] at this;obtain⟨v,x⟩:=qD this;refine⟨v,x,?_⟩;have:=e d (fU x);simp only[Sz,decide_eq_true_eq] at this;rw[t];exact this.1
 ·rw[lg a0 s l r];cases c:l.lookup s with
  |none=>rfl
  |some v=>
   exfalso
   have:=e s (fU c);simp only[Sz] at this;obtain⟨i,D,f⟩:=List.any_eq_true.1 this.2;simp only[Sz,beq_iff_eq,iz] at f;obtain⟨o,a,h⟩:=SR.1 f.2;exact C i o f.1 a h
theorem jO(H:mW P0 P S m X)(J:b.kind≠.early)(q:Knows a0 n l0)(K:fJ ops Ph u n (l.map (·.1))=R7)
 (R:Knows (fill a0 l) n (l ++ l0)→∀ i o,Ph i=R7→Dn i=R6→i≠u→ops[i]? =RX o→∃ v,(o.dst.bind fun d=>l.lookup d)=RX v∧((SI o (Tc ops (fill a0 l).tmps)=R7∧∀ h,RelB (fun b=>S b∨own b) w h→(SE (fill a0 l).eval o).run P h= .ok (.value v) h∧∀ e∈(SE (fill a0 l).eval o).events P h #[],EvW S own e)∨(SI o (Tc ops (fill a0 l).tmps)=R6∧v=Tq)))
 (T:∀ o,ops[u]? =RX o→∀ g t c a,b6 ops Ph a0 (fill a0 l) c a→u∈SY .any ops c→D1 c≤g+1→(∀ s∈o.looksAt ops,aN a s=aN (fill a0 l) s)→SI o (Tc ops a.tmps)=SI o (Tc ops (fill a0 l).tmps)→X own (b.at a (.inRegion ops (u :: S5 .any ops g t (c.setIfInBounds u R7) []) :: k)) cs w)
 (M:(∀ i,i<ops.size→Ph i=R7)→Knows (fill a0 l) n (l ++ l0)→X own (b.at (fill a0 l) (.inRegion ops [] :: k)) cs w):
 ∀ (g t:Nat) (c:Array Bool) (a:T6),b6 ops Ph a0 (fill a0 l) c a→(∀ i,Dn i=R7→c.getD i R6=R7)→D1 c≤g→X own (b.at a (.inRegion ops (S5 .any ops g t c []) :: k)) cs w:=by
 obtain⟨j,F,z,G,p⟩:=oZ (a0:=a0) K q.size;have A:=q.fill l (by rw[← q.size];exact z);refine MT H J (val:=fun i=>((iz ops i).bind fun d=>l.lookup d).getD Tq) j F (fun i o d x f C=>?_) p (fun i o x L N f=>?_) (fun g t c a r D Q=>?_) (fun I=>M I A)
 ·obtain⟨v,y,O⟩:=G i o d x f C;have e:iz ops i=RX d:=by unfold iz;rw[f];exact C
  refine⟨by rw[jG];exact O,?_⟩;rw[lg a0 d l z,e];simp[y]
 ·obtain⟨v,y,E⟩:=R A i o x L N f;have e:iz ops i=o.dst:=by unfold iz;rw[f];rfl
  rw[e,y];exact E
 ·obtain⟨o,f,_,_,B⟩:=mem_ready D;exact T o f g t c a r D Q (r.looks j p f B) (r.exec j p f B).2
theorem b6.Gn{JQ:Nat→Bool}{g:Array Bool}{a:T6}{o:Tx}{l2:List (Nat×R2)}(B:b6 ops Ph a0 (fill a0 l) g a)(F:u∈SY .any ops g)(E:ops[u]? =RX o)(e:a0.tmps.size=n)(z:fJ ops Ph u n (l.map (·.1))=R7)(h:((l2 ++ l).all fun p=>decide (p.1<n))=R7)
 (y:∀ i,Ph i=R7→JQ i=R7) (G:JQ u=R7) (A:((SS ops.size).all fun i=> !Ph i || match iz ops i with|some d=> !(l2.map (·.1)).contains d|none=>R7)=R7) {v:R2} (H:∀ d,o.dst=RX d→(l2 ++ l).lookup d=RX v):b6 ops JQ a0 (fill a0 (l2 ++ l)) (g.setIfInBounds u R7) (a.put o.dst v):=by
 obtain⟨I,J,x,K,L⟩:=oZ (a0:=a0) z e;have j:((l2 ++ l).all fun p=>decide (p.1<a0.tmps.size))=R7:=by rw[e];exact h
 refine B.Rv F E y G (by rw[jG,jG]) (by rw[dQ,dQ]) (fun i M d f r c=>?_) (fun d c=>?_)
 ·rw[lg a0 d _ j,lg a0 d l x];have:=SC.1 A i (TC.2 (R9.1 r).1);have s:iz ops i=RX d:=by unfold iz;rw[r];exact c
  rw[f,s] at this;simp only[Bool.not_true,Bool.false_or,Ve] at this;have D:l2.lookup d=RZ:=by
   cases t:l2.lookup d with
   |none=>rfl
   |some N=>
    have:=List.contains_iff_mem.2 (fU t);simp_all
  rw[List.lookup_append,D];rfl
 ·have q:=H d c;refine⟨?_,by rw[lg a0 d _ j,q];rfl⟩;rw[jG,e];have:=SC.1 h;have C:=fU q;obtain⟨p,f,rfl⟩:=Tu.1 C;simpa using this p f
def under(ops:Array Tx):Nat→List Nat→List Nat
 |0,l=>l
 |n+1,l=>l ++ under ops n (l.flatMap fun c=>match ops[c]? with
  |some d=>(d.after.toList.filter fun a=>Tn .any a).map (·.on)
  |none=>[])
theorem sB{z:T6}{o:Array Bool}{a:T6}(p:b6 ops Ph a0 z o a):∀ (n:Nat) (l:List Nat),(∀ i∈l,o.getD i R6=R7)→∀ j∈under ops n l,o.getD j R6=R7
 |0,l,e,j,c=>e j c
 |n+1,l,e,j,c=>by
  rcases S7.1 c with c|c
  ·exact e j c
  ·refine sB p n _ (fun i d=>?_) j c;obtain⟨h,r,d⟩:=List.mem_flatMap.1 d;cases g:ops[h]? with
   |none=>rw[g] at d;simp at d
   |some t=>
    rw[g] at d;obtain⟨q,f,rfl⟩:=Tu.1 d;obtain⟨f,s⟩:=List.mem_filter.1 f;exact p.closed h t (e h r) g q (by simpa using f) s
theorem fL{z:T6}{f:Array Bool}{a:T6}(g:b6 ops Ph a0 z f a)(y:u∈SY .any ops f){j:Nat}(s:((SS ops.size).all fun i=> !Dn i || i == u || (under ops j (match ops[u]? with
 |some o=>(o.after.toList.filter fun e=>Tn .any e).map (·.on)
 |none=>[])).contains i)=R7) (p:∀ i,Dn i=R7→i<ops.size):∀ i,Dn i=R7→(f.setIfInBounds u R7).getD i R6=R7:=by
 intro i h;obtain⟨o,x,v,_,q⟩:=mem_ready y;rw[j7 (by rw[g.size];exact v)];have:=SC.1 s i (TC.2 (p i h));rw[h,x] at this;simp only[Bool.not_true,Bool.false_or,UU,beq_iff_eq] at this;rcases this with c|c
 ·simp[c]
 ·rw[sB g _ _ (fun A t=>by
   obtain⟨e,d,rfl⟩:=Tu.1 t;obtain⟨d,r⟩:=List.mem_filter.1 d;exact q e (by simpa using d) r) i (List.contains_iff_mem.1 c)]
  simp
def pI(e:mW P0 P S m X){id:Nat}(f:P.follows .mixedOrders=R7)(h:∀ (d t:Nat) (c:Array Bool) (a:T6),b6 ops Ph a0 (fill a0 l) c a→(∀ i,(fun _=>R6) i=R7→c.getD i R6=R7)→D1 c≤d→X own (b.at a (.inRegion ops (S5 .any ops d t c []) :: k)) cs w):X own (b.at a0 (.code (.region id ops R7) :: k)) cs w:=
 OZ e f fun t=>h _ t _ _ (b6.start a0 _ (jG _ _).symm (dQ _ _).symm) (fun i h=>by cases h) (Jy _)
theorem No{a:Array Bool}(h:∀ i,i<ops.size→a.getD i R6=R7):∀ d t,S5 .any ops d t a []=[]:=by
 have o:SY .any ops a=[]:=by
  refine List.eq_nil_iff_forall_not_mem.2 fun i g=>?_;obtain⟨p,_,j,e,_⟩:=mem_ready g;have c:=h i j;simp only[SH] at c e;cases f:a[i]? with
  |none=>rw[f] at c;cases c
  |some b=>rw[f] at c e;simp at c e;rw[c] at e;cases e
 intro d t;cases d with
 |zero=>rfl
 |succ d=>
  simp only[S5];change (match (SY .any ops a)[t % (SY .any ops a).length]? with
   |some i=>S5 .any ops d (t / (SY .any ops a).length) (a.setIfInBounds i R7) [i]
   |none=>[].reverse)=[]
  rw[o];rfl
theorem nh{c:Array Bool}{a:T6}(e:b6 ops Ph a0 (fill a0 l) c a)(r:u∈SY .any ops c)(s:Ph u=R6)(q:a0.tmps.size=n)(h:fJ ops Ph u n (l.map (·.1))=R7)(d:∀ i,i<ops.size→(c.setIfInBounds u R7).getD i R6=R7):a=fill a0 l∧∀ f t,S5 .any ops f t (c.setIfInBounds u R7) []=[]:=by
 obtain⟨v,x,y,z,g⟩:=oZ (a0:=a0) h q;obtain⟨_,_,p,_,_⟩:=mem_ready r;refine⟨e.OT g s fun i j o=>?_,No d⟩;have:=d i j;rw[j7 (by rw[e.size];exact p)] at this;simpa [o] using this
end
def RelB.mono{B B':Nat→Prop}{w w1:R3}(h:RelB B w w1)(c:∀ b,B' b→B b):RelB B' w w1:=⟨fun b d=>h.at_ b (c b d),h.size,h.tape,h.os,h.output⟩
section
variable {P0 P:Sd}{Post:R2→R3→Prop}{S O:Nat→Prop}{μ:Nat→Option (List R2)}{cs:List Sn}{w:R3}{b:Sn}{a:T6}{k:List UC}{ops:Array Tx}{i:Nat}{rest:List Nat}{o:Tx}
def jz.rely{w1:R3}{g:SM}(h:jz P0 P Post S O μ g w)(c:RelB (fun b=>S b∨O b) w w1):jz P0 P Post S O μ g w1:=by
 obtain⟨d,h⟩:=h;exact⟨d,h.jo c⟩
def Ak(v:R2)(c:ops[i]? =RX o):Ub (Se (b.at a (.inRegion ops (i :: rest) :: k)) cs) v=Se (b.at (a.put o.dst v) (.inRegion ops rest :: k)) cs:=by
 simp only[Ub,Se,Vg,c];rfl
theorem As{m:Bool}{t e:Sg}{j:ChanDir}{x:S3}{c:Nat}{z:R2}(l:b.kind≠.early)(p:ops[i]? =RX o)(r:SI o (Tc ops a.tmps)=R7)(d:o.op= .recv t x R7)(f:P.underlying t=RX (.chan j e))(h:∀ w,(T9 e).run P w= .ok z w)(s:∀ w,(T9 e).events P w #[]=#[])(g:a.eval x= .chan (RX c))(w:R3):
 SO P m (Se (b.at a (.inRegion ops (i :: rest) :: k)) cs) w= .comm (Se (b.at a (.inRegion ops (i :: rest) :: k)) cs) #[rcase c z] R7 (.recv R7) w #[]:=by
 have q:(SE a.eval o).run P w= .ok (.comm #[rcase c z] R7 (.recv R7)) w:=by
  unfold SE;simp[d,g,run_underlying f,h,rcase]
 have n:(SE a.eval o).events P w #[]=#[]:=by
  unfold SE;simp[d,g,run_underlying f,h,s]
 rw[stepG_comm p r l q];unfold listed;rw[n,seen_none]
def Pe{t e:Sg}{f:ChanDir}{x:S3}{c:Nat}{z v:R2}{l:List R2}(g:b.kind≠.early)(d:ops[i]? =RX o)(p:SI o (Tc ops a.tmps)=R7)(j:o.op= .recv t x R7)(n:P.underlying t=RX (.chan f e))(r:∀ w,(T9 e).run P w= .ok z w)(s:∀ w,(T9 e).events P w #[]=#[])(q:a.eval x= .chan (RX c))(u:μ c=RX (v :: l))
 (h:jz P0 P Post S O (fp μ c (RX l)) (Se (b.at (a.put o.dst (recvd R7 v R7)) (.inRegion ops rest :: k)) cs) w):jz P0 P Post S O μ (Se (b.at a (.inRegion ops (i :: rest) :: k)) cs) w:=
 Lc (g2:=Se (b.at a (.inRegion ops (i :: rest) :: k)) cs) (z:=z) u ⟨rfl,rfl,rfl⟩ fun w1 m=>⟨As g d p j n r s q w1,by rw[Ak _ d];exact h.rely m⟩
def Pf{t e:Sg}{f:ChanDir}{x:S3}{c:Nat}{z:R2}(g:b.kind≠.early)(d:ops[i]? =RX o)(n:SI o (Tc ops a.tmps)=R7)(j:o.op= .recv t x R7)(m:P.underlying t=RX (.chan f e))(q:∀ w,(T9 e).run P w= .ok z w)(r:∀ w,(T9 e).events P w #[]=#[])(p:a.eval x= .chan (RX c))(s:μ c=RX [])
 (h:jz P0 P Post S O (fp μ c RZ) (Se (b.at (a.put o.dst (recvd R7 z R6)) (.inRegion ops rest :: k)) cs) w):jz P0 P Post S O μ (Se (b.at a (.inRegion ops (i :: rest) :: k)) cs) w:=
 Ld (g2:=Se (b.at a (.inRegion ops (i :: rest) :: k)) cs) (z:=z) s ⟨rfl,rfl,rfl⟩ fun w1 l=>⟨As g d n j m q r p w1,by rw[Ak _ d];exact h.rely l⟩
theorem Nq{f:T1}{d:Array S3}{ats:Array Sg}{args:Array R2}{c cap:Nat}{vs:List R2}(q:b.kind≠.early)(u:ops[i]? =RX o)(x:SI o (Tc ops a.tmps)=R7)(g:o.op= .go {callee:=.value (.func f),args:=d,argTypes:=ats})(n:d.map a.eval=args)(l:O c)(t:vs.length≤cap)(y:μ c=RZ)(hc:w.heap[c]? =RX (.chan cap #[] R6 0 0 R6))
 (m:∀ w1,RelB (fun b=>S b∨O b) w w1→oI P0 P S c (fun _=>False) vs (born P (dcall f args)) w1)
 (s:jz P0 P Post S (fun b=>O b∧b≠c) (fp μ c (RX vs)) (Se (b.at (a.put o.dst Tq) (.inRegion ops rest :: k)) cs) w):jz P0 P Post S O μ (Se (b.at a (.inRegion ops (i :: rest) :: k)) cs) w:=by
 have e:a.eval (.func f)= .func (.func f) #[] #[]:=rfl;refine IA l t y hc fun w1 j=>⟨_,_,?_,rfl,m w1 j,s.rely (j.mono fun b p=>p.imp (fun h=>h) (fun h=>h.1))⟩;have v:(SE a.eval o).run P w1= .ok (.spawn (dcall f args)) w1:=by
  unfold SE;simp[g,VE,Vo,e,dcall,n]
 have r:(SE a.eval o).events P w1 #[]=#[]:=by
  unfold SE;simp[g,VE,Vo,e]
 rw[stepG_spawn u x q v rfl];unfold listed;rw[r,seen_none]
end
section
variable {P0 P:Sd}{S own:Nat→Prop}{a:T6}{o:Tx}{w w1:R3}
theorem IF{t e:Sg}{i:UL}{z:R2}{x y:S3}{g L C:Nat}{f:Array R2}{d:SL}{c:Nat}{news:List R2}(B:o.op= .call {callee:=.builtin .append,args:= #[x,y],argTypes:= #[t,t]})(H:a.eval x= .slice (RX ⟨g,0,RZ⟩) L C)(I:a.eval y= .slice (RX d) 1 c)
 (G:P.underlying t=RX (.slice e)) (v:P.info? e=RX i) (ab:i.zero=RX z) (T:w.heap[g]? =RX (.cells f e (0,0))) (U:S g∨own g) (r:S d.block∨own d.block) (p:news.length=i.size) (X:∀ j u,news[j]? =RX u→w.cell? (d.add j)=RX u) (M:∀ j,(d.add j).block=d.block) (h1:∀ u∈news,u.oneCell'=R7)
 (E:L+1≤C) (F:f.size=C*i.size) (ad:C≤1000000) (N:i.bytes≤1000):
 ∀ w1,RelB (fun b=>S b∨own b) w w1→∃ w',(SE a.eval o).run P w1= .ok (.value (.slice (RX ⟨g,0,RZ⟩) (L+1) C)) w'∧v8 g (.cells (f.toList.take (L*i.size) ++ news ++ f.toList.drop (L*i.size+news.length)).toArray e (0,0)) w1 w'∧∀ l∈(SE a.eval o).events P w1 #[],iJ g S own l:=by
 intro w1 D;have n:w1.heap[g]? =RX (.cells f e (0,0)):=(D.at_ g U).trans T;have A:∀ j u,news[j]? =RX u→w1.cell? (d.add j)=RX u:=fun j u V=>(m9 D (by rw[M];exact r)).trans (X j u V);have R:L*i.size+news.length≤f.size:=by
  rw[F,p];have:=Nat.mul_le_mul_right i.size E;rw[Nat.add_mul,Nat.one_mul] at this;exact this
 have Z:=run_append_room (P:=P) (w:=w1) t o.type e i G v g L C f n d 1 c news (by rw[p,Nat.one_mul]) A h1 E R;have ae:1000000≤Sw:=by decide
 have Y:w1.ownsRow 0 e i.size (.slice (RX ⟨g,0,RZ⟩) L C) L (f.toList.take (L*i.size)):=by
  refine⟨?_,.inr ⟨g,C,f,rfl,SK _,n,by omega,?_,F,rfl⟩⟩
  ·rw[TO,T5];omega
  ·omega
 have Q:=events_append_where (P:=P) w1 0 t o.type e i z i.size i.bytes G v ab rfl rfl (.slice (RX ⟨g,0,RZ⟩) L C) L _ Y d 1 c news (by rw[p,Nat.one_mul]) A h1 (by omega) (by
  have:(L+1)*i.bytes≤1000000*1000:=Nat.mul_le_mul (by omega) N;omega)
 refine⟨_,?_,uL n,fun l s=>?_⟩
 ·unfold SE;simp[B,H,I,VE,invoke,builtin,Z]
 ·rw[events_append_op x y t B H I] at s;rcases Q l s with⟨q,h1,h⟩|⟨m,rfl,W⟩
  ·rcases h with⟨h,K⟩|h
   ·refine .inr ⟨q,h1,?_⟩;rw[K];exact .inr (r.elim (fun J=>.inr ⟨J,h⟩) .inl)
   ·refine .inr ⟨q,h1,.inl ?_⟩;simpa [TQ] using h
  ·exact .inl ⟨m,rfl,W⟩
theorem IG{t e:Sg}{i:UL}{h j l v0 v1 v2:R2}{x:S3}(p:o.op= .buildSlice t 1 #[(0,x)])(s:a.eval x= .agg #[v0,v1,v2])(r:P.underlying t=RX (.slice e))(n:P.info? e=RX i)(u:i.zero=RX (.agg #[h,j,l]))(c:i.size=3):
 ∀ w1,RelB (fun b=>S b∨own b) w w1→∃ w',(SE a.eval o).run P w1= .ok (.value (.slice (RX ⟨w1.heap.size,0,RZ⟩) 1 1)) w'∧w'.heap=w1.heap.push (.cells #[v0,v1,v2] e)∧w'.tape=w1.tape∧w'.os=w1.os∧w'.output=w1.output∧∀ m∈(SE a.eval o).events P w1 #[],iJ w1.heap.size S own m:=by
 intro w1 A;have g:Vh (fun d=>RX (d*i.size,i.size)) ((VA (1*i.size)).map ((Value.agg #[h,j,l]).cells[· % (Value.agg #[h,j,l]).cells.size]!)) #[(0,Value.agg #[v0,v1,v2])].toList=RX #[v0,v1,v2]:=by
  rw[c];simp[Vh,Uw,VA,Array.zipIdx];apply Array.ext
  ·simp
  ·intro d z v;simp at v;have:d=0∨d=1∨d=2:=by omega
   rcases this with rfl|rfl|rfl<;>simp
 have q:=run_buildSlice (P:=P) w1 t e 1 #[(0,.agg #[v0,v1,v2])] #[v0,v1,v2] i _ r n u (by rw[c];decide) (by rw[c];decide) g;refine⟨w1.alloc (.cells #[v0,v1,v2] e),?_,rfl,rfl,rfl,rfl,fun m f=>?_⟩
 ·unfold SE;simp[p,s,q]
 ·have y:(UK t 1 #[(0,.agg #[v0,v1,v2])]).events P w1 #[]=#[]:=by
   simp only[List.toArray,Nat.one_mul,c] at g;simp[UK,run_underlying r,V3,UX,T9,n,u,c,g,newRow]
  unfold SE at f;simp only[p] at f;simp[s,q,y] at f
end
def put_defers(a:T6)(d:Option Nat)(v:R2):(a.put d v).defers=a.defers:=by
 unfold Sy
 split<;>rfl
def Knows.nil{a:T6}{n:Nat}{l:List (Nat×R2)}(h:Knows a n l):Knows a n []:=⟨h.size,fun s v c=>by simp at c⟩
def Knows.defer{a:T6}{n:Nat}{l:List (Nat×R2)}(h:Knows a n l)(ds:List Uc)(v:R2):Knows (Sy ⟨a.tmps,ds⟩ RZ v) n l:=⟨h.size,h.slot⟩
def Knows.cons{a:T6}{n:Nat}{l:List (Nat×R2)}(h:Knows a n l){s:Nat}{v:R2}(f:aN a s=v):Knows a n ((s,v) :: l):=⟨h.size,fun e g c=>by
 rw[List.lookup_cons] at c;cases d:e == s with
 |true=>
  rw[d] at c;cases c;rw[beq_iff_eq] at d;rw[d];exact f
 |false=>rw[d] at c;exact h.slot e g c⟩
def Knows.four{a:T6}{n:Nat}{l:List (Nat×R2)}(h:Knows a n l){c d e f:Nat}{v1 v2 g j:R2}(h1:l.lookup c=RX v1)(p:l.lookup d=RX v2)(q:l.lookup e=RX g)(r:l.lookup f=RX j):Knows a n [(c,v1),(d,v2),(e,g),(f,j)]:=(((h.nil.cons (h.slot f _ r)).cons (h.slot e _ q)).cons (h.slot d _ p)).cons (h.slot c _ h1)
section
variable {P0 P:Sd}{S:Nat→Prop}{m:Bool}{X:(Nat→Prop)→Sn→List Sn→R3→Prop}{own:Nat→Prop}{cs:List Sn}{w:R3}{b:Sn}{a:T6}{k:List UC}{ops:Array Tx}
def aU(c:mW P0 P S m X){id:Nat}(l:List Nat)(e:SS ops.size=l)(d:X own (b.at a (.inRegion ops l :: k)) cs w):X own (b.at a (.code (.region id ops R6) :: k)) cs w:=Kc c (by rw[e];exact d)
variable {i:Nat}{rest:List Nat}{o:Tx}
def qo(g:mW P0 P S m X){n:Nat}{l:List (Nat×R2)}(f:Knows a n l)(s:ops[i]? =RX o)(v:R2)(h:∀ c,RelB (fun b=>S b∨own b) w c→(SE a.eval o).run P c= .ok (.value v) c∧∀ e∈(SE a.eval o).events P c #[],EvW S own e){d:Nat}
 (q:Knows (a.put (RX d) v) n ((d,v) :: l)→X own (b.at (a.put (RX d) v) (.inRegion ops rest :: k)) cs w) (p:o.dst=RX d:=by rfl) (r:d<n:=by decide) (j:b.kind≠.early:=by decide) (t:SI o (Tc ops a.tmps)=R7:=by rfl):X own (b.at a (.inRegion ops (i :: rest) :: k)) cs w:=
 nE g j s t v h (by rw[p];exact q (f.put r v))
def cP(f:mW P0 P S m X){n:Nat}{l:List (Nat×R2)}(e:Knows a n l)(r:ops[i]? =RX o)(v:R2)(h:∀ c,(SE a.eval o).run P c= .ok (.value v) c∧(SE a.eval o).events P c #[]=#[]){d:Nat}
 (p:Knows (a.put (RX d) v) n ((d,v) :: l)→X own (b.at (a.put (RX d) v) (.inRegion ops rest :: k)) cs w) (j:o.dst=RX d:=by rfl) (q:d<n:=by decide) (g:b.kind≠.early:=by decide) (s:SI o (Tc ops a.tmps)=R7:=by rfl):X own (b.at a (.inRegion ops (i :: rest) :: k)) cs w:=
 lM f g r s v h (by rw[j];exact p (e.put q v))
def bV(e:mW P0 P S m X){n:Nat}{l:List (Nat×R2)}(c:Knows a n l){d s:Nat}{v:R2}(h:Knows (a.put (RX d) v) n ((d,v) :: l)→X own (b.at (a.put (RX d) v) (.inRegion ops rest :: k)) cs w)(q:ops[i]? =RX o:=by rfl)(r:o.op= .move (.tmp s):=by rfl)(j:l.lookup s=RX v:=by rfl)(g:o.dst=RX d:=by rfl)(p:d<n:=by decide)(f:b.kind≠.early:=by decide)(t:SI o (Tc ops a.tmps)=R7:=by rfl):X own (b.at a (.inRegion ops (i :: rest) :: k)) cs w:=
 cP e c q v (bQ r (c.of j)) h g p f t
def fE(e:mW P0 P S m X){n:Nat}{l:List (Nat×R2)}(c:Knows a n l){d s:Nat}{v:R2}(h:Knows (a.put (RX d) v) n ((d,v) :: l)→X own (b.at (a.put (RX d) v) (.inRegion ops rest :: k)) cs w)(q:ops[i]? =RX o:=by rfl)(r:o.op= .assign (.tmp s):=by rfl)(j:l.lookup s=RX v:=by rfl)(g:o.dst=RX d:=by rfl)(p:d<n:=by decide)(f:b.kind≠.early:=by decide)(t:SI o (Tc ops a.tmps)=R7:=by rfl):X own (b.at a (.inRegion ops (i :: rest) :: k)) cs w:=
 cP e c q v (jI r (c.of j)) h g p f t
def m8(e:mW P0 P S m X){n:Nat}{l:List (Nat×R2)}(c:Knows a n l){d:Nat}(v:R2)(h:Knows (a.put (RX d) v) n ((d,v) :: l)→X own (b.at (a.put (RX d) v) (.inRegion ops rest :: k)) cs w)(p:ops[i]? =RX o:=by rfl)(q:o.op= .assign (.const v):=by rfl)(g:o.dst=RX d:=by rfl)(j:d<n:=by decide)(f:b.kind≠.early:=by decide)(r:SI o (Tc ops a.tmps)=R7:=by rfl):X own (b.at a (.inRegion ops (i :: rest) :: k)) cs w:=
 cP e c p v (jI q rfl) h g j f r
def oB(e:mW P0 P S m X){n:Nat}{l:List (Nat×R2)}(c:Knows a n l){d s j:Nat}{vs:Array R2}{v:R2}(h:Knows (a.put (RX d) v) n ((d,v) :: l)→X own (b.at (a.put (RX d) v) (.inRegion ops rest :: k)) cs w)(r:ops[i]? =RX o:=by rfl)(t:o.op= .extract (.tmp s) j:=by rfl)(p:l.lookup s=RX (.tuple vs):=by rfl)(u:vs[j]? =RX v:=by rfl)(g:o.dst=RX d:=by rfl)(q:d<n:=by decide)(f:b.kind≠.early:=by decide)(x:SI o (Tc ops a.tmps)=R7:=by rfl):X own (b.at a (.inRegion ops (i :: rest) :: k)) cs w:=
 cP e c r v (jJ t (c.of p) u) h g q f x
end
section
variable {P:Sd}{a:T6}{o:Tx}
def cH{t:Sg}{x:S3}{f e off off':Nat}{g:Array Field}{c:Field}{n:Nat}(l:o.op= .fieldAddr t x f)(r:a.eval x= .pointer (RX ⟨e,off,RZ⟩))(q:P.underlying t=RX (.struct g))(h:g[f]? =RX c)(p:∀ w,(V3 c.type).run P w= .ok (n+1) w)(j:off+c.offset=off'):
 ∀ d,(SE a.eval o).run P d= .ok (.value (.pointer (RX ⟨e,off',RZ⟩))) d∧(SE a.eval o).events P d #[]=#[]:=by
 subst j;exact Lj l r q h p
def xB{x y z:S3}{v:R2}(d:o.op= .pick x y z)(f:a.eval x= .bool R7)(e:a.eval y=v):∀ c,(SE a.eval o).run P c= .ok (.value v) c∧(SE a.eval o).events P c #[]=#[]:=by
 subst e;exact GB d f
def xA{x y z:S3}{v:R2}(d:o.op= .pick x y z)(f:a.eval x= .bool R6)(e:a.eval z=v):∀ c,(SE a.eval o).run P c= .ok (.value v) c∧(SE a.eval o).events P c #[]=#[]:=by
 subst e;exact GB d f
def iH{t h:Sg}{x y:S3}{i j:Int}{c:Bool}(e:o.op= .binOp .lss t x y h)(f:a.eval x= .int .i64 i)(g:a.eval y= .int .i64 j)(hc:decide (i<j)=c):∀ d,(SE a.eval o).run P d= .ok (.value (.bool c)) d∧(SE a.eval o).events P d #[]=#[]:=by
 subst hc;exact Ps e f g
def pP{t h:Sg}{x y:S3}{i j:Int}{c:Bool}(e:o.op= .binOp .neq t x y h)(f:a.eval x= .int .i64 i)(g:a.eval y= .int .i64 j)(hc:(i != j)=c):∀ d,(SE a.eval o).run P d= .ok (.value (.bool c)) d∧(SE a.eval o).events P d #[]=#[]:=by
 subst hc;exact Pt e f g
end
structure JS(S O O':Nat→Prop)(w w':R3):Prop where
 sub:∀ b,O b→O' b
 new:∀ b,O' b→O b∨w.heap.size≤b
 rel:RelB (fun b=>S b∨O b) w w'
 inr:sG S O' w'
def jn{P:Sd}{fn:UB}{a:T6}{t:Nat}{v:R2}(d:fn.results=#[.tmp t])(c:aN a t=v):(∀ w,(SX fn a.tmps).run P w= .ok v w)∧∀ w,(SX fn a.tmps).events P w #[]=#[]:=by
 unfold aN at c;rw[SH] at c;constructor<;>intro w<;>simp[SX,d,c]
def fN{P:Sd}{fn:UB}{a:T6}{t u:Nat}{v x:R2}(e:fn.results=#[.tmp t,.tmp u])(c:aN a t=v)(d:aN a u=x):(∀ w,(SX fn a.tmps).run P w= .ok (.tuple #[v,x]) w)∧∀ w,(SX fn a.tmps).events P w #[]=#[]:=by
 unfold aN at c d;rw[SH] at c d;constructor<;>intro w<;>simp[SX,e,c,d]
section
variable {P0 P:Sd}{Post:R2→R3→Prop}
theorem pN(h:Twins P0 P){fr fr':Sn}{av tops' cs:List Sn}{w w':R3}(ok:ed P0 fr av)(A:w'.tape=w.tape)(s:∀ ws,Mk P0 ws w→∃ d,qU ws w d w'∧∀ c,Steps P0 (lone fr (av ++ [aZ]) (sh c 0 ws)) (lone fr' (tops' ++ [aZ]) (sh c 0 d)))(E:¬ G4 fr')
 (C:ed P0 fr' tops'→Sm w w'→sH P0 P Post (Se fr' (tops' ++ cs)) w'):sH P0 P Post (Se fr (av ++ cs)) w:=by
 obtain⟨ws,t⟩:=CW P0 w;obtain⟨d,q,s⟩:=s ws t;refine rX h (Stop:=fun f x e=>f=fr'∧x=tops'∧∃ c g,e=sh c g d) (fun f x e u=>?_) ok t.hp t.un (fun c=>⟨fr',tops',_,s c,rfl,rfl,c,0,rfl⟩) (fun f x e u2 u F r j=>?_)
 ·obtain⟨rfl,_⟩:=u;exact E
 ·obtain⟨c,g,rfl,rfl,y,l,v⟩:=u;have B:e.heap=d.heap:=show(sh c g e).heap=(sh y l d).heap by rw[v]
  have m:=N6 r q B;have n:u2.os=w'.os:=by
   rw[r.un.os,q.un.os];exact show(sh c g e).os=(sh y l d).os by rw[v]
  have p:u2.output=w'.output:=by
   rw[r.un.output,q.un.output];exact show(sh c g e).output=(sh y l d).output by rw[v]
  have D:AtRel w' u2:=by
   refine⟨u2.drawn,?_⟩;have z:u2.tape=w'.tape:=j.tape.trans A.symm;obtain⟨G,H,I,J,K⟩:=u2;simp only at m n p z;subst m n p z;rfl
  exact Pp (C F ⟨A,n▸j.os,p▸j.output,m▸j.size⟩) D
def Ej (P0 P:Sd)(Post:R2→R3→Prop)(l:Nat)(args:Array R2)(w:R3)(R:R2→R3→Prop):Prop:=
 ∃ c:Loop,w.heap[l]? =RX (.loop c)∧aR P0 (.loop c)∧args.size=c.params.size∧∀ (d:Sn) (cs:List Sn),ed P0 d []→Oz d→vW P0 w→
  (∀ v e,R v e→vW P0 e→Sm w e→ed P0 (d.finish v) []→sH P0 P Post (Se (d.finish v) cs) e)→
  ed P0 (UJ l c.fn ((c.params.zip args).foldl (fun g (f,a)=>g.setIfInBounds f a) c.tmps) c.assign c.body .normal) [d]→sH P0 P Post (Se (UJ l c.fn ((c.params.zip args).foldl (fun g (f,a)=>g.setIfInBounds f a) c.tmps) c.assign c.body .normal) (d :: cs)) w
section
variable {b:Sn}{a:T6}{k:List UC}{cs:List Sn}{w:R3}{ops:Array Tx}{i:Nat}{rest:List Nat}{o:Tx}
theorem Li(h:Twins P0 P){x:S3}{f:Array S3}{ats:Array Sg}{l:Nat}{R:R2→R3→Prop}(n:ops[i]? =RX o)(J:SI o (Tc ops a.tmps)=R7)(A:o.op= .call {callee:=.value x,args:=f,argTypes:=ats})(K:a.eval x= .func (.yield l) #[] #[])
 (hR:Ej P0 P Post l (f.map a.eval) w R) (u:∀ v w',R v w'→Sm w w'→Eg P0 P Post (b.at (a.put o.dst v) (.inRegion ops rest :: k)) cs w'):Eg P0 P Post (b.at a (.inRegion ops (i :: rest) :: k)) cs w:=by
 intro q M;obtain⟨c,C,D,G,y⟩:=hR;have E:∀ d,Mk P0 d w→∀ e,(SE a.eval o).run P0 (sh e 0 d)= .ok (.round l c.fn ((c.params.zip (f.map a.eval)).foldl (fun tmps (j,a)=>tmps.setIfInBounds j a) c.tmps) c.assign c.body) (sh e 0 d):=fun d g e=>by
  have r:(sh e 0 d).heap[l]? =RX (.loop c):=g.at_ l _ C D;have t:=run_yield (P:=P0) (args:=f.map a.eval) r G;unfold SE;simp[A,VE,Vo,K,invoke,t]
 refine pN (av:=[]) (tops':=[b.at a (.inRegion ops (i :: rest) :: k)]) (fr':=UJ l c.fn ((c.params.zip (f.map a.eval)).foldl (fun tmps (j,a)=>tmps.setIfInBounds j a) c.tmps) c.assign c.body .normal) (w':=w) h q rfl (fun d g=>⟨d,g.un.two,fun e=>.one (step_lone_go ?_)⟩) (fun z=>?_) fun L N=>?_
 ·rw[stepG_op n J];simp[TL,E d g e]
 ·obtain⟨_,s,H⟩:=z;simp[UJ] at H
 ·refine y _ cs q ⟨rfl,.inl ⟨ops,i,rest,k,rfl⟩⟩ trivial (fun v w' I B F p=>?_) L;have m:=Vg b a ops i rest k v;rw[n] at m;rw[m] at p ⊢;exact u v w' I F p B
end
section
variable {b:Sn}{k:List UC}{cs:List Sn}{ops:Array Tx}
theorem Ny{o:Tx}{i:Nat}{rest:List Nat}{a:T6}{w:R3}{next:T6→R3→Prop}{Q:Exit→T6→R3→Prop}(n:ops[i]? =RX o)(z:SI o (Tc ops a.tmps)=R7)(x:∀ c,o.op≠.defer c)(r:∀ ch a w,¬ Q (.panic ch) a w)(y:¬ LetsOut Q)(h:o.wp P0 a w next Q):
 ∃ a' w',next a' w'∧Steps P0 (lone (b.atR a (.inRegion ops (i :: rest) :: k)) cs w) (lone (b.atR a' (.inRegion ops rest :: k)) cs w'):=by
 have e:=stepGR_op (P:=P0) (b:=b) (k:=k) (cs:=cs) (w:=w) (rest:=rest) n z;rw[Oper.semAt_eq _ _ _ x] at e;have j:∀ v,(b.atR a (.inRegion ops (i :: rest) :: k)).finish v=b.atR (a.put o.dst v) (.inRegion ops rest :: k):=by
  intro v;rw[Frame.finish_atR,n];rfl
 simp only[Oper.wp,Oper.upon] at h
 split at h
 ·rename_i v w' d;refine⟨_,_,h,.one (step_lone_go ?_)⟩;rw[e,← j];simp[TL,d]
 ·rename_i w' d;refine⟨_,_,h,.one (step_lone_go ?_)⟩;rw[e,← j];simp[TL,d]
 ·rename_i l w' d;refine⟨_,_,h,.one (step_lone_go ?_)⟩;have t:({b.atR a (.inRegion ops (i :: rest) :: k) with defers:=l :: a.defers}:Sn).finish Tq=b.atR ({a with defers:=l :: a.defers}.put o.dst Tq) (.inRegion ops rest :: k):=by
   have:=Frame.finish_atR b {a with defers:=l :: a.defers} ops i rest k Tq;rw[n] at this;exact this
  rw[e];simp only[TL,VN,d,GStep.bare_after];exact congrArg (fun q=>GStep.go {frame:=q,callers:=cs,status:=.running,dying:=RZ} w') t
 ·rename_i f args w' d;obtain⟨s,B,q,g,p,_,u⟩:=h (b.atR a (.inRegion ops (i :: rest) :: k) :: cs);have m:step P0 (lone (b.atR a (.inRegion ops (i :: rest) :: k)) cs w)= .next (lone (SW P0 f args .normal) (b.atR a (.inRegion ops (i :: rest) :: k) :: cs) w'):=
   step_lone_go (by rw[e];simp[TL,d,Frame.atR])
  cases s with
  |returned v=>
   refine⟨_,_,g,.head m (p.trans (.one ?_))⟩;rw[← j];exact step_leave_returned u
  |panicked C=>exact absurd g (r _ _ _)
  |outgrown=>exact absurd g y
 ·rename_i A args w' d;obtain⟨v,B,g,p⟩:=h (b.atR a (.inRegion ops (i :: rest) :: k)) cs;have m:step P0 (lone (b.atR a (.inRegion ops (i :: rest) :: k)) cs w)= .next (lone (Frame.ofRow P0 A args .normal) (b.atR a (.inRegion ops (i :: rest) :: k) :: cs) w'):=
   step_lone_go (by rw[e];simp[TL,d,Frame.atR])
  refine⟨_,_,g,.head m ?_⟩;rw[← j];exact p
 ·exact absurd h (r _ _ _)
 ·exact h.elim
def A6:Op→Bool
 | .defer _=>R7
 |_=>R6
theorem OH{Q:Exit→T6→R3→Prop}(rest:List Nat)(v:(ops.toList.all fun o=> !A6 o.op)=R7)(x:∀ ch a w,¬ Q (.panic ch) a w)(n:¬ LetsOut Q):∀ (l:List Nat) (a:T6) (w:R3),wpOps P0 ops Q l a w→
 ∃ a' w',Q .normal a' w'∧Steps P0 (lone (b.atR a (.inRegion ops (l ++ rest) :: k)) cs w) (lone (b.atR a' (.inRegion ops rest :: k)) cs w'):=by
 intro l
 induction l with
 |nil=>exact fun a w c=>⟨a,w,c,.refl _ _⟩
 |cons i l j=>
  intro a w c;simp only[wpOps] at c;cases d:ops[i]? with
  |none=>
   simp only[d] at c;have g:=stepR_op_skip (P:=P0) (b:=b) (a:=a) (k:=k) (cs:=cs) (w:=w) (ops:=ops) (i:=i) (rest:=l ++ rest) (by simp[d]);simp only[d,Option.bind_none,Sy] at g;obtain⟨a',w',e,f⟩:=j a w c;exact⟨a',w',e,.head g f⟩
  |some o=>
   simp only[d] at c;have t:∀ m,o.op≠.defer m:=fun m q=>by
    obtain⟨u,rfl⟩:=R9.1 d;have:=SC.1 v _ (Array.getElem_mem_toList u);rw[q] at this;cases this
   by_cases h:SI o (Tc ops a.tmps)=R7
   ·simp only[h,if_true] at c;rcases c with c|⟨_,c⟩
    ·obtain⟨a',w',e,f⟩:=Ny (b:=b) (k:=k) (cs:=cs) (rest:=l ++ rest) d h t x n c;obtain⟨p,y,r,s⟩:=j a' w' e;exact⟨p,y,r,f.trans s⟩
    ·exact absurd c n
   ·simp only[h,if_false,SD] at c;have g:=stepR_op_skip (P:=P0) (b:=b) (a:=a) (k:=k) (cs:=cs) (w:=w) (ops:=ops) (i:=i) (rest:=l ++ rest) (by simp[d];simpa using h);simp only[d,Vs] at g;obtain⟨a',w',e,f⟩:=j _ w c;exact⟨a',w',e,.head g f⟩
end
end
section
variable {P0 P:Sd}{Post:R2→R3→Prop}{b:Sn}{a:T6}{k:List UC}{cs:List Sn}{w:R3}
def Ab (fn:T1)(tmps:Array R2)(ps:Array Tmp)(assign body:U7)(D:Nat):Loop:={state:=.ready,pending:=RZ,fn,tmps,params:=ps,assign,body,defers:=D}
theorem Lh(h:Twins P0 P){g:S3}{ps:Array Tmp}{assign body:U7}{gf:T1}{cap:Array R2}{R:UQ→R3→Prop}(u:a.eval g= .func (.func gf) #[] cap)(hc:∀ args w,(callFunc gf args).run P0 w= .ok (.enter gf args) w)(r:P.funcs[gf]? =P0.funcs[gf]? ∨SW P gf (#[.func (.yield (w.heap.size+1)) #[] #[]] ++ cap) .normal=SW P0 gf (#[.func (.yield (w.heap.size+1)) #[] #[]] ++ cap) .normal)
 (hR:kG P0 P Post gf (#[.func (.yield (w.heap.size+1)) #[] #[]] ++ cap) ((w.alloc (.deferred (RX []))).alloc (.loop (Ab b.fn a.tmps ps assign body w.heap.size))) R)
 (n:∀ v w',R (.returned v) w'→Sm w w'→Eg P0 P Post (b.at {a with defers:={target:=.collected w.heap.size,args:= #[]} :: a.defers} (.endRangeFunc (w.heap.size+1) :: k)) cs w') (x:∀ ch w',¬ R (.panicked ch) w') (y:∀ w',¬ R .outgrown w') (z:∀ s,(SW P0 gf (#[.func (.yield (w.heap.size+1)) #[] #[]] ++ cap) .normal).todo≠[.code (.refuse s)]):Eg P0 P Post (b.at a (.code (.rangeFunc g ps assign body) :: k)) cs w:=by
 intro ok H;have t:SW P gf (#[.func (.yield (w.heap.size+1)) #[] #[]] ++ cap) .normal=SW P0 gf (#[.func (.yield (w.heap.size+1)) #[] #[]] ++ cap) .normal:=by
  rcases r with d|d
  ·unfold SW;rw[d]
  ·exact d
 let j:Sn:={b with roundOf:=RZ};have G:∀ a todo,j.atR a todo=b.at a todo:=fun a todo=>rfl;refine pN (av:=[]) (tops':=[b.at {a with defers:={target:=.collected w.heap.size,args:= #[]} :: a.defers} (.inRangeFunc (w.heap.size+1) :: k)]) (fr':=SW P0 gf (#[.func (.yield (w.heap.size+1)) #[] #[]] ++ cap) .normal) (w':=(w.alloc (.deferred (RX []))).alloc (.loop (Ab b.fn a.tmps ps assign body w.heap.size))) h ok rfl (fun c i=>⟨(c.alloc (.deferred (RX []))).alloc (.loop (Ab b.fn a.tmps ps assign body w.heap.size)),?_,fun m=>.one ?_⟩) (fun p=>?_) fun l D=>?_
 ·exact(i.un.push (by simp[pz])).trans ((i.un.push (by simp[pz])).un.push (by simp[pz]))
 ·rw[← i.un.size.symm];have e:=run_enterLoop_outer (P:=P0) (w:=sh m 0 c) b.fn a.tmps ps assign body;have C:=stepR_rangeFunc (P:=P0) (b:=j) (a:=a) (k:=k) (cs:=[aZ]) (w:=sh m 0 c) (g:=g) (ps:=ps) (assign:=assign) (body:=body) (w₁':=_) (d:={target:=.fn (.func gf) cap,args:= #[.func (.yield (c.heap.size+1)) #[] #[]]}) (f:=gf) (args:= #[.func (.yield (c.heap.size+1)) #[] #[]] ++ cap) e (by
   have d:a.eval (.const (.func (.yield (c.heap.size+1)) #[] #[]))= .func (.yield (c.heap.size+1)) #[] #[]:=rfl;simp[VE,rangeCall,u,Vo,sh];exact⟨rfl,rfl⟩) (by simp only[invoke];exact hc _ _)
  exact C
 ·obtain⟨_,s,F⟩:=p;exact z s F
 ·have o:ed P0 (b.at {a with defers:={target:=.collected w.heap.size,args:= #[]} :: a.defers} (.inRangeFunc (w.heap.size+1) :: k)) []:=⟨l.rest _ (by simp),fun f q=>by simp at q,l.bot⟩;show sH P0 P Post (Se (SW P0 gf _ .normal) _) _;rw[← t];refine hR _ cs o ⟨rfl,.inr ⟨_,_,rfl⟩⟩ trivial fun d w' e B E A=>?_;cases d with
  |returned v=>exact n v w' e (D.trans E) A B
  |panicked ch=>exact absurd e (x _ _)
  |outgrown=>exact absurd e (y _)
theorem C8(h:Twins P0 P){l:Nat}{r:Loop}(m:w.heap[l]? =RX (.loop r))(o:aR P0 (.loop r))(p:r.state≠.busy)(d:r.pending=RZ)(n:∀ s,k≠[.code (.refuse s)])(g:Eg P0 P Post (b.at a k) cs (w.putObj l (.loop {r with state:=.exhausted}))):Eg P0 P Post (b.at a (.endRangeFunc l :: k)) cs w:=by
 intro t B;let f:Sn:={b with roundOf:=RZ};refine pN (av:=[]) (tops':=[]) (fr':=b.at a k) (w':=w.putObj l (.loop {r with state:=.exhausted})) h t rfl (fun e c=>⟨e.putObj l (.loop {r with state:=.exhausted}),c.un.set l (by simp[pz]),fun v=>.one ?_⟩) (fun i=>?_) fun u C=>g u trivial
 ·have j:=run_endLoop (P:=P0) (w:=sh v 0 e) (l:=l) (r:=r) (c.at_ l _ m o) p;have:=stepR_endRangeFunc (P:=P0) (b:=f) (a:=a) (k:=k) (cs:=[aZ]) j;obtain⟨F,D,A,G,E,x,y,z⟩:=r;simp only at d;subst d;exact this
 ·obtain⟨_,s,q⟩:=i;exact n s q
theorem A9(h:Twins P0 P){D:Nat}{todo:List UC}(c:a.defers=[{target:=.collected D,args:= #[]}])(f:w.heap[D]? =RX (.deferred (RX [])))(g:Eg P0 P Post {b.at {a with defers:=[]} todo with mode:=.returning} cs (w.putObj D (.deferred RZ))):Eg P0 P Post {b.at a todo with mode:=.returning} cs w:=by
 intro j o;refine pN (av:=[]) (tops':=[]) (fr':={b.at {a with defers:=[]} todo with mode:=.returning}) (w':=w.putObj D (.deferred RZ)) h j rfl (fun e d=>⟨e.putObj D (.deferred RZ),d.un.set D (by simp[pz]),fun m=>.one (step_lone_go ?_)⟩) (fun c=>?_) fun l p=>g l trivial
 ·have i:=run_takeDeferred (P:=P0) (w:=sh m 0 e) (b:=D) (ds:=[]) (d.at_ D _ f (fun n c=>by cases c));simp[SO,VR,Frame.at,c,i,VN,GStep.bare_after];rfl
 ·obtain⟨d,_⟩:=c;cases d
end
end Cc
namespace Cc
open Go Go.Conc
open Go.RowKit (Below)
def Xe (P0 P:Sd)(Post:R2→R3→Prop)(own:Nat→Prop)(fr:Sn)(cs:List Sn)(w:R3):Prop:=
 (∀ b,own b→b<w.heap.size)→∀ c,RelB own w c→vW P0 c→sH P0 P Post (Se fr cs) c
def IB:Nat→Prop:=fun _=>False
def PI{own:Nat→Prop}{w c:R3}(h:RelB own w c):RelB (fun b=>IB b∨own b) w c:=h.mono fun b d=>d.elim VP (fun h=>h)
def EZ{own:Nat→Prop}{w c:R3}(h:RelB (fun b=>IB b∨own b) w c):RelB own w c:=h.mono fun b d=>.inr d
theorem fV(P0 P:Sd)(Post:R2→R3→Prop):mW P0 P IB R7 (Xe P0 P Post):=by
 refine⟨fun own y cs w c h p f n=>?_,fun own y cs w p c f h u C n=>?_⟩
 ·refine xx fun u e=>?_;obtain⟨q,rfl⟩:=e;obtain⟨F,E,g,x,v,d,D⟩:=c (p.at q) (PI (f.trans (RelB.at _ _ _)));have j:∀ b,cw own (p.at q) g b→b<g.heap.size:=fun b A=>A.elim (fun c=>Sa (h b c) (Ss f.size d.size)) (fun c=>c.2);refine⟨_,g,x,v,rfl,⟨d.size,d.tape,d.os,d.output,d.hp,fun r B=>?_⟩,D j g (RelB.refl _ _) (d.hp n)⟩;have:=d.evs r B;unfold EvW at this;unfold B0;cases l:r.loc with
  |cell a=>rw[l] at this;exact this.elim (j _) (fun c=>c.1.elim)
  |obj G=>rw[l] at this;exact this.elim (j _) (fun c=>c.1.elim)
  |mark m=>rw[l] at this;exact this
  |_=>trivial
 ·have t:=EZ f;refine c (fun b s=>?_) u (t.trans C) n;have z:=h b s;have e:=t.at_ b s;rw[SU z] at e;exact(R9.1 e.symm).1
def xe (P:Sd):UC→Bool
 | .code c| .inLoop c=>aT P R6 c
 | .inBlock _| .inRangeFunc _| .endRangeFunc _=>R7
 | .inRegion ops _=>ops.toList.all fun o=>lO P R6 o.op
 |_=>R6
def dM{P:Sd}{b:Sn}{a:T6}{todo:List UC}(c:b.kind= .normal)(e:a.defers=[])(l:(todo.all (xe P))=R7):ed P (b.at a todo) []:=by
 refine⟨⟨fun i j=>?_,fun d g=>?_,.inl c⟩,fun f h=>by simp at h,c⟩
 ·have:=SC.1 l i j;cases i<;>first|exact this|trivial|cases this
 ·have:d∈a.defers:=g;rw[e] at this;cases this
section
variable {P0 P:Sd}{Post:R2→R3→Prop}{own:Nat→Prop}{cs:List Sn}{w:R3}{b:Sn}{a:T6}{k:List UC}{ops:Array Tx}{i:Nat}{rest:List Nat}{o:Tx}
def grown(own:Nat→Prop)(n m:Nat):Nat→Prop:=fun b=>own b∨(n≤b∧b<m)
theorem n9{f:T1}{fn:UB}{c:U7}{args:Array S3}{ats:Array Sg}{vs:Array R2}{R:R3→UQ→R3→Prop}(y:b.kind= .normal)(D:ops[i]? =RX o)(J:SI o (Tc ops a.tmps)=R7)(E:o.op= .call {callee:=.value (.func f),args,argTypes:=ats})(u:args.map a.eval=vs)
 (A:P.funcs[f]? =RX fn) (B:(fn.name == "runtime.NumGoroutine")=R6) (x:fn.body=RX c) (H:ed P0 (b.at a (.inRegion ops (i :: rest) :: k)) []) (hR:∀ d,RelB own w d→kG P0 P Post f vs d (R d))
 (t:∀ d v w',RelB own w d→R d (.returned v) w'→Sm d w'→vW P0 w'→sH P0 P Post (Se (b.at (a.put o.dst v) (.inRegion ops rest :: k)) cs) w') (hP:∀ d ch w',¬ R d (.panicked ch) w') (C:∀ d w',¬ R d .outgrown w'):Xe P0 P Post own (b.at a (.inRegion ops (i :: rest) :: k)) cs w:=by
 intro K d m F;have:=Nw (P0:=P0) (P:=P) (Post:=Post) (b:=b) (a:=a) (k:=k) (cs:=cs) (w:=d) (R:=fun h w'=>∃ e,R (d.at e) h w') y D J E A B x (fun M l=>by
  obtain⟨e,rfl⟩:=l;rw[u];intro n p q l r s;exact hR _ (m.trans (RelB.at _ _ _)) n p q l r fun h w' z=>s h w' ⟨e,z⟩) (fun v w' ⟨e,I⟩ g L G=>t (d.at e) v w' (m.trans (RelB.at _ _ _)) I ⟨g.tape,g.os,g.output,g.size⟩ G) (fun ch w' ⟨e,j⟩=>absurd j (hP _ _ _)) (fun w' ⟨e,j⟩=>C _ _ j)
 exact this H F
theorem BX(h:Twins P0 P){f:T1}{fn:UB}{c:U7}{args:Array S3}{ats:Array Sg}{vs:Array R2}{R:R3→UQ→R3→Prop}(K:b.kind= .normal)(r:ops[i]? =RX o)(W:SI o (Tc ops a.tmps)=R7)(Q:o.op= .call {callee:=.value (.func f),args,argTypes:=ats})(J:args.map a.eval=vs)
 (M:P.funcs[f]? =RX fn) (O:(fn.name == "runtime.NumGoroutine")=R6) (y:fn.body=RX c) (N:P.funcs[f]? =P0.funcs[f]?) (T:ed P0 (b.at a (.inRegion ops (i :: rest) :: k)) [])
 (hR:∀ d,(∀ b o,own b→w.heap[b]? =RX o→aR P0 o→d.heap[b]? =RX o)→w.heap.size≤d.heap.size→SF P0 f vs d fun e W'=>Below d.heap.size d W'∧∃ v,e= .returned v∧R d (.returned v) W')
 (H:∀ v w' d W',(∀ b o,own b→w.heap[b]? =RX o→aR P0 o→d.heap[b]? =RX o)→w.heap.size≤d.heap.size→Below d.heap.size d W'→R d (.returned v) W'→Un W' w'→RelB own w w'→Xe P0 P Post (grown own d.heap.size w'.heap.size) (b.at (a.put o.dst v) (.inRegion ops rest :: k)) cs w'):Xe P0 P Post own (b.at a (.inRegion ops (i :: rest) :: k)) cs w:=by
 intro z;refine n9 (P0:=P0) (R:=fun p e X=>∃ n,Mk P0 n p∧Tl n p (fun e W'=>∃ d,d.heap=n.heap∧Below d.heap.size d W'∧∃ v,e= .returned v∧R d (.returned v) W') e X) K r W Q J M O y T (fun p g=>?_) (fun p v w' g V A S=>?_) (fun p Y w' ⟨_,_,_,_,_,_,d,_,_,v,e,_⟩=>by cases e) (fun p w' ⟨_,_,_,_,_,_,d,_,_,v,e,_⟩=>by cases e) z
 ·obtain⟨n,m⟩:=CW P0 p;intro C D q j F G;exact oN h m.hp m.un N (fun w' ⟨d,_,_,v,e,_⟩=>by cases e) (fun s=>(hR (sh s 0 n) (fun b o y r u=>m.at_ b o ((g.at_ b y).trans r) u) (by show w.heap.size≤n.heap.size;rw[← m.un.size];exact g.size)).mono fun e W' ⟨q,j⟩=>⟨sh s 0 n,rfl,q,j⟩) C D q j F fun e w' L=>G e w' ⟨n,m,L⟩
 obtain⟨n,m,s,E,W',j,d,x,t,Z,e,I⟩:=V;cases e;have U:d.heap.size≤w'.heap.size:=by rw[j.un.size];exact t.size
 have B:d.heap.size=p.heap.size:=by rw[x,m.un.size]
 have hrel:RelB own w w':=⟨fun b l=>by
  have q:W'.heap[b]? =d.heap[b]? :=t.block b (by rw[B];exact Sa (z b l) g.size);exact(j.same m.un (by rw[q,x])).trans (g.at_ b l),Ss g.size (by rw[← B];exact U),A.tape.trans g.tape,A.os.trans g.os,A.output.trans g.output⟩
 refine H v w' d (sh s E W') (fun b o l r u=>by rw[x];exact m.at_ b o ((g.at_ b l).trans r) u) (by rw[B];exact g.size) t I ⟨j.un.size,j.un.at_,j.un.os,j.un.output⟩ hrel (fun b l=>?_) w' (RelB.refl _ _) S;rcases l with l|l
 ·exact Sa (z b l) hrel.size
 ·exact l.2
theorem Oh(h:Twins P0 P){x:S3}{d:Array S3}{ats:Array Sg}{vs:Array R2}{l:Nat}{R:R3→R2→R3→Prop}(j:ops[i]? =RX o)(t:SI o (Tc ops a.tmps)=R7)(m:o.op= .call {callee:=.value x,args:=d,argTypes:=ats})(u:a.eval x= .func (.yield l) #[] #[])(g:d.map a.eval=vs)(r:ed P0 (b.at a (.inRegion ops (i :: rest) :: k)) [])
 (hR:∀ c,RelB own w c→Ej P0 P Post l vs c (R c)) (f:∀ c v w',RelB own w c→R c v w'→Sm c w'→vW P0 w'→sH P0 P Post (Se (b.at (a.put o.dst v) (.inRegion ops rest :: k)) cs) w'):Xe P0 P Post own (b.at a (.inRegion ops (i :: rest) :: k)) cs w:=by
 intro y c e n;exact Li h j t m u (by rw[g];exact hR c e) (fun v w' s q _ p=>f c v w' e s q p) r n
def Xe.go{fr:Sn}(h:Xe P0 P Post own fr cs w)(c:∀ b,own b→b<w.heap.size)(d:vW P0 w):sH P0 P Post (Se fr cs) w:=h c w (RelB.refl _ _) d
end
section
variable {P:Sd}{a:T6}{o:Tx}
def xz{t:Sg}{x:S3}{c:Bool}(e:o.op= .unOp .not t x)(f:a.eval x= .bool c):∀ d,(SE a.eval o).run P d= .ok (.value (.bool (!c))) d∧(SE a.eval o).events P d #[]=#[]:=fun d=>by
 unfold SE;simp[e,f,Op.unary]
end
def n8{o:Tx}{ops:Array Tx}{z:T6}{j d:Nat}{want b:Bool}(g:o.guard=RX (j,want))(e:iz ops j=RX d)(c:aN z d= .bool b)(f:d<z.tmps.size):SI o (Tc ops z.tmps)=(b == want):=by
 unfold SI Tc;rw[g];unfold iz at e;unfold aN at c;rw[SH,SU f] at c;simp only[e,Vs,SU f];simp only[UA] at c;rw[c];cases b<;>cases want<;>rfl
def Knows.want{a:T6}{n:Nat}{l:List (Nat×R2)}(c:Knows a n l){o:Tx}{ops:Array Tx}{j d:Nat}{want b:Bool}(f:o.guard=RX (j,want))(e:iz ops j=RX d)(h:l.lookup d=RX (.bool b))(g:d<n):SI o (Tc ops a.tmps)=(b == want):=n8 f e (c.slot d _ h) (by rw[c.size];exact g)
def rJ{P0 P:Sd}{S:Nat→Prop}{m:Bool}{f:(Nat→Prop)→Sn→List Sn→R3→Prop}{own:Nat→Prop}{cs:List Sn}{w:R3}{b:Sn}{a:T6}{k:List UC}{ops:Array Tx}{i:Nat}{rest:List Nat}{o:Tx}(h:mW P0 P S m f){n:Nat}{l:List (Nat×R2)}(g:Knows a n l){d j e:Nat}{want c:Bool}(s:Knows (a.put (RX d) Tq) n ((d,Tq) :: l)→f own (b.at (a.put (RX d) Tq) (.inRegion ops rest :: k)) cs w)(x:ops[i]? =RX o:=by rfl)(r:o.guard=RX (j,want):=by rfl)(q:iz ops j=RX e:=by rfl)(y:l.lookup e=RX (.bool c):=by rfl)(t:e<n:=by decide)(v:(c == want)=R6:=by rfl)(p:o.dst=RX d:=by rfl)(u:d<n:=by decide):f own (b.at a (.inRegion ops (i :: rest) :: k)) cs w:=
 wv h x ((g.want r q y t).trans v) (by rw[p];exact s (g.put u Tq))
end Cc
namespace Cc
open Go
section
variable {P P':Sd}
def jU(a:P'.toTables=P.toTables)(t:Sg):P'.info? t=P.info? t:=by rw[a]
def iO(a:P'.toTables=P.toTables)(t:Sg):P'.underlying t=P.underlying t:=by unfold Program.underlying;simp only[jU a]
def ju(a:P'.toTables=P.toTables)(t:Sg):P'.cellsOf t=P.cellsOf t:=by unfold Program.cellsOf;simp only[jU a]
def kB(a:P'.toTables=P.toTables)(t:Sg):P'.bytesOf t=P.bytesOf t:=by unfold Program.bytesOf;simp only[jU a]
def kC(a:P'.toTables=P.toTables):P'.depth=P.depth:=by unfold Program.depth;rw[a]
def sA(a:P'.toTables=P.toTables)(t:Sg):P'.underlyingId t=P.underlyingId t:=by unfold Program.underlyingId;simp only[jU a]
def rz(a:P'.toTables=P.toTables)(d:Nat):∀ t o,byteOfCell P' d t o=byteOfCell P d t o:=by
 induction d with
 |zero=>intro t o;rfl
 |succ d b=>intro t o;simp only[byteOfCell,iO a,ju a,kB a,b]
def zw(a:P'.toTables=P.toTables)(d:Nat):∀ t o,cellOfByte P' d t o=cellOfByte P d t o:=by
 induction d with
 |zero=>intro t o;rfl
 |succ d b=>intro t o;simp only[cellOfByte,iO a,ju a,kB a,b]
def Jw(a:P'.toTables=P.toTables)(d:Nat)(e:Sg)(c o:Nat)(b:Int):cellAtBytes P' d e c o b=cellAtBytes P d e c o b:=by
 simp only[cellAtBytes,ju a,kB a,rz a,zw a]
def uV(a:P'.toTables=P.toTables)(d:Nat):∀ t u,P'.alikeButTags d t u=P.alikeButTags d t u:=by
 induction d with
 |zero=>intro t u;rfl
 |succ d b=>intro t u;simp only[Program.alikeButTags,iO a,sA a,jU a,b]
def FZ(a:P'.toTables=P.toTables)(t:Sg):P'.stoodInAs t=P.stoodInAs t:=by
 simp only[Program.stoodInAs,Program.ownRow,iO a,sA a,jU a,uV a,kC a,a]
def sx(a:P'.toTables=P.toTables)(t:Sg):P'.stoodInHeld t=P.stoodInHeld t:=by
 simp only[Program.stoodInHeld,FZ a,jU a]
def Jx(a:P'.toTables=P.toTables)(t:Sg):P'.packed t=P.packed t:=by
 simp only[Program.packed,Program.packedAs,Program.ownRow,iO a,sA a,jU a,uV a,kC a,a]
def Ml(a:P'.toTables=P.toTables)(d:Nat):∀ t,P'.holdsPacked d t=P.holdsPacked d t:=by
 induction d with
 |zero=>intro t;rfl
 |succ d b=>intro t;simp only[Program.holdsPacked,Jx a,iO a,b]
def Mj(a:P'.toTables=P.toTables)(d:Nat):∀ t,P'.eqGuardType d t=P.eqGuardType d t:=by
 induction d with
 |zero=>intro t;rfl
 |succ d b=>intro t;simp only[Program.eqGuardType,iO a,b]
def Mo(a:P'.toTables=P.toTables)(d:Nat):∀ t u,sameLayout P' d t u=sameLayout P d t u:=by
 induction d with
 |zero=>intro t u;rfl
 |succ d b=>intro t u;simp only[sameLayout,iO a,sA a,sx a,b]
def Mm(a:P'.toTables=P.toTables)(f:Sg→Bool)(d:Nat):∀ e c o n,rowAt P' f d e c o n=rowAt P f d e c o n:=by
 induction d with
 |zero=>intro e c o n;rfl
 |succ d b=>intro e c o n;simp only[rowAt,iO a,ju a,sx a,b]
def N2(a:P'.toTables=P.toTables)(d:Nat):∀ e c o u n,liesAt P' d e c o u n=liesAt P d e c o u n:=by
 induction d with
 |zero=>intro e c o u n;rfl
 |succ d b=>intro e c o u n;simp only[liesAt,iO a,kC a,Mm a,Mo a,b]
def BP(a:P'.toTables=P.toTables)(d:Nat):∀ t o,plainCell P' d t o=plainCell P d t o:=by
 induction d with
 |zero=>intro t o;rfl
 |succ d b=>intro t o;simp only[plainCell,iO a,ju a,b]
def FY(a:P'.toTables=P.toTables)(d:Nat):∀ t b,cellHolding P' d t b=cellHolding P d t b:=by
 induction d with
 |zero=>intro t b;rfl
 |succ d c=>intro t b;simp only[cellHolding,iO a,ju a,kB a,c]
def Mp(a:P'.toTables=P.toTables)(d:Nat):∀ t,tight P' d t=tight P d t:=by
 induction d with
 |zero=>intro t;rfl
 |succ d b=>intro t;simp only[tight,iO a,kB a,b]
def BQ(a:P'.toTables=P.toTables)(c:Array R2)(e:Sg)(f:Nat):∀ x s,seenCells P' c e f x s=seenCells P c e f x s:=by
 induction f with
 |zero=>intro x s;rfl
 |succ f b=>intro x s;simp only[seenCells,FY a,kC a,ju a,kB a,b]
theorem GQ(b:P'.toTables=P.toTables){w u:R3}{a:SL}(h:∀ c e f,w.heap[a.block]? =RX (.cells c e f)↔u.heap[a.block]? =RX (.cells c e f))(t:Sg)(k:SL)(m:Bool):u.seen P' a t k m=w.seen P a t k m:=by
 have j:(∃ c e f,w.heap[a.block]? =RX (.cells c e f)∧u.heap[a.block]? =RX (.cells c e f))∨((∀ c e f,w.heap[a.block]? ≠RX (.cells c e f))∧∀ c e f,u.heap[a.block]? ≠RX (.cells c e f)):=by
  by_cases d:∃ c e f,w.heap[a.block]? =RX (.cells c e f)
  ·obtain⟨c,e,f,d⟩:=d;exact .inl ⟨c,e,f,d,(h c e f).1 d⟩
  ·exact .inr ⟨fun c e f l=>d ⟨c,e,f,l⟩,fun c e f l=>d ⟨c,e,f,(h c e f).2 l⟩⟩
 unfold World.seen;simp only[BP b,rz b,ju b,kB b,kC b,BQ b];rcases j with⟨c,e,f,g,i⟩|⟨g,i⟩
 ·rw[g,i]
 ·cases j:w.heap[a.block]? with
  |none=>cases n:u.heap[a.block]? with
   |none=>rfl
   |some o=>cases o<;>first|exact absurd n (i _ _ _)|rfl
  |some p=>cases n:u.heap[a.block]? with
   |none=>cases p<;>first|exact absurd j (g _ _ _)|rfl
   |some o=>cases p<;>first|exact absurd j (g _ _ _)|(cases o<;>first|exact absurd n (i _ _ _)|rfl)
def GJ{P:Sd}{w:R3}{a:SL}{t:Sg}{k:SL}{m:Bool}{r:_}(h:w.seen P a t k m= .ok r):a.block<w.heap.size:=by
 rcases TF a.block w.heap.size with b|b
 ·exact b
 ·have c:w.heap[a.block]? =RZ:=Tg b;unfold World.seen at h;rw[c] at h;simp only[bind,Except.bind,throw,throwThe,Wj,pure,Except.pure] at h
  repeat' first|(cases h;done)|split at h
theorem Mt(q:P'.toTables=P.toTables):Views P P':=by
 refine⟨fun c k b j p m a=>?_,fun c b j p m v s a y w=>?_,fun c k b j p v m a=>?_⟩
 ·unfold World.viewLoad;rw[GQ q a]
 ·unfold World.viewLoad at a;cases h:c.seen P b j p m with
  |error e=>rw[h] at a;cases a
  |ok C=>
   have u:=GJ h;rw[h] at a;simp only[bind,Except.bind,throw,throwThe,Wj,pure,Except.pure] at a
   split at a
   ·cases a;obtain⟨e,_,rfl⟩:=Tu.1 w;exact u
   ·cases a
 ·unfold World.viewStore;rw[GQ q a,Mp q,kC q];cases G:tight P P.depth j with
  |false=>exact .inl ⟨_,rfl,rfl⟩
  |true=>
   cases h:c.seen P b j p m with
   |error e=>exact .inl ⟨e,rfl,rfl⟩
   |ok C=>
    have u:=GJ h;obtain⟨t,d,f,first,i,z⟩:=C;cases F:v.bytes? with
    |none=>exact .inl ⟨_,rfl,rfl⟩
    |some bytes=>
     by_cases r:RX bytes.length≠i.bytes?.map (·.length)
     ·refine .inl ⟨ "memory seen as another type: a value of another size",?_,?_⟩
      ·show(if RX bytes.length≠i.bytes?.map (·.length) then _ else _)=_;rw[if_pos r];rfl
      ·show(if RX bytes.length≠i.bytes?.map (·.length) then _ else _)=_;rw[if_pos r];rfl
     ·have E:∀ (l n:Except String (R3×List SL)) (o:Except String (Array R2)),l=o.bind (fun g=>.ok ({c with heap:=c.heap.setIfInBounds b.block (.cells g d f)},z.map fun x=>({block:=b.block,off:=x.1}:SL)))→n=o.bind (fun g=>.ok ({k with heap:=k.heap.setIfInBounds b.block (.cells g d f)},z.map fun x=>({block:=b.block,off:=x.1}:SL)))→
       (∃ D,l= .error D∧n= .error D)∨∃ t d f s,l= .ok ({c with heap:=c.heap.setIfInBounds b.block (.cells t d f)},s)∧n= .ok ({k with heap:=k.heap.setIfInBounds b.block (.cells t d f)},s)∧∀ y∈s,y.block<c.heap.size:=by
       intro l n o A B;cases o with
       |error e=>exact .inl ⟨e,A,B⟩
       |ok g=>
        refine .inr ⟨g,d,f,_,A,B,fun y w=>?_⟩;obtain⟨e,_,rfl⟩:=Tu.1 w;exact u
      apply E
      ·show(if RX bytes.length≠i.bytes?.map (·.length) then _ else _)=_;rw[if_neg r];rfl
      ·show(if RX bytes.length≠i.bytes?.map (·.length) then _ else _)=_;rw[if_neg r];rfl
def N3(a:P'.toTables=P.toTables)(d:∀ f:Nat,P'.funcs[f]? =P.funcs[f]? ∨∃ fn c:UB,P.funcs[f]? =RX fn∧P'.funcs[f]? =RX c∧c.name=fn.name∧fn.body.isNone=R6∧c.body.isNone=R6):Twin P P':=
 ⟨jU a,iO a,by rw[a],ju a,kB a,kC a,fun b=>N2 a b,fun b=>Jw a b,fun b=>rz a b,fun b=>Mj a b,sx a,fun b=>Ml a b,by rw[a],by rw[a],by rw[a],d⟩
end
end Cc
end Go.Proofs.YtjidbonhhpkljaaGreat
namespace Go.Proofs
def aa.cut (fn:UB):UB:={fn with body:=RX (.refuse "")}
def aa.of(P:Sd):Sd:={P with funcs:=((P.funcs.modify 78 aa.cut).modify 116 aa.cut).modify 117 aa.cut}
def aa.tables(P:Sd):P.toTables=(aa.of P).toTables:=rfl
namespace YtjidbonhhpkljaaGreat.Cc
open Go
theorem QF(P:Sd)(f:Nat):(aa.of P).funcs[f]? =if f=78∨f=116∨f=117 then(P.funcs[f]?).map aa.cut else P.funcs[f]? :=by
 show(((P.funcs.modify 78 aa.cut).modify 116 aa.cut).modify 117 aa.cut)[f]? =_;simp only[TV];by_cases b:f=78
 ·subst b;simp
 ·by_cases c:f=116
  ·subst c;simp
  ·by_cases d:f=117
   ·subst d;simp
   ·simp only[b,c,d,or_self,if_false];rw[if_neg (fun a=>d a.symm),if_neg (fun a=>c a.symm),if_neg (fun a=>b a.symm)]
def GF(f:Nat):(aa.of RY).funcs[f]? =if f=78∨f=116∨f=117 then(RY.funcs[f]?).map aa.cut else RY.funcs[f]? :=QF _ f
def jg{f:Nat}(h1:(f == 78)=R6)(b:(f == 116)=R6)(c:(f == 117)=R6):(aa.of RY).funcs[f]? =RY.funcs[f]? :=by
 rw[GF,if_neg];simp at h1 b c;rintro(a|a|a)
 ·exact h1 a
 ·exact b a
 ·exact c a
theorem nL(f:Nat):RY.funcs[f]? =(aa.of RY).funcs[f]? ∨∃ fn:UB,fn.body.isNone=R6∧RY.funcs[f]? =RX fn∧(aa.of RY).funcs[f]? =RX (aa.cut fn):=by
 rw[GF];by_cases a:f=78∨f=116∨f=117
 ·rw[if_pos a]
  right
  rcases a with rfl|rfl|rfl
  ·exact⟨_,rfl,Tryz.func78,by rw[Tryz.func78];rfl⟩
  ·exact⟨_,rfl,Tryz.func116,by rw[Tryz.func116];rfl⟩
  ·exact⟨_,rfl,Tryz.func117,by rw[Tryz.func117];rfl⟩
 ·rw[if_neg a];exact .inl rfl
def Lr:Twin (aa.of RY) RY:=N3 (aa.tables _) fun f=>by
 rcases nL f with a|⟨b,c,d,e⟩
 ·exact .inl a
 ·exact .inr ⟨_,b,e,d,rfl,rfl,c⟩
def iP{P:Sd}{p:UB→Bool}(h:P.funcs.toList.all p=R7){f:Nat}{fn:UB}(a:P.funcs[f]? =RX fn):p fn=R7:=by
 obtain⟨b,rfl⟩:=R9.1 a;exact SC.1 h _ (by simp)
def sE:(RY.funcs.toList.all fun fn=> !(fn.name == "runtime.NumGoroutine"))=R7:=by kernel_rfl
def Qb:(RY.funcs.toList.all fun fn=> !fn.body.isNone || (Extern.findNext fn).isNone)=R7:=by kernel_rfl
def PC:((aa.of RY).funcs.toList.all fun fn=>match fn.body with|some c=>aT (aa.of RY) R6 c|none=>R7)=R7:=by kernel_rfl
end YtjidbonhhpkljaaGreat.Cc
end Go.Proofs
namespace Go.Proofs.YtjidbonhhpkljaaGreat
namespace Cc
open Go
section
variable {P P':Sd}{O:U9→Prop}
def sq(a:Twin P P')(b:Plain O)(v:R2):St P P' O (Wh v):=by
 unfold Wh;refine bU ?_ ?_
 ·have:∀ v,handleType P' v=handleType P v:=fun v=>by unfold handleType;rw[a.wT]
  rw[this]
 ·((try dsimp only);repeat' first|exact bq a _|exact aq _|exact ru a _|assumption|(refine af ?_ (fun _=>?_))|intro _|split|(dsimp only)|exact trivial)
def BI(a:Twin P P')(b:Plain O)(i:UL):St P P' O (Wi i):=by
 unfold Wi
 ((try dsimp only);repeat' first|exact bq a _|assumption|(refine af ?_ (fun _=>?_))|intro _|split|(dsimp only)|exact trivial)
def yt(b:Twin P P')(a:Plain O)(args:Array R2):St P P' O (VZ args):=by
 unfold VZ Wn
 ((try dsimp only);repeat' first|exact bz b a _|exact sr _ _|(refine aO _ ?_;rfl)|exact pi _|exact nt b a _|exact sq b a _|exact BI b a _|assumption|(refine af ?_ (fun _=>?_))|(refine bF ?_ ?_)|intro _|split|(dsimp only)|exact trivial)
def Pv{o:Option String}{a:String→Ul R2}{b:Unit→Ul R2}(h1:∀ f,St P P' O (a f))(c:St P P' O (b ())):St P P' O (Wp (fun _=>Ul R2) o a b):=by
 cases o with
 |none=>exact c
 |some f=>exact h1 f
theorem FD(args:Array R2):St P P' O (Ww args):=by
 have a:∀ s:String,St P P' O (stuck s:Ul R2):=fun s=>aq s;obtain⟨c⟩:=args;rcases c with _|⟨v,_|⟨o,c⟩⟩
 case cons.nil=>
  cases v with
  |agg b=>
   obtain⟨d⟩:=b;rcases d with _|⟨e,_|⟨g,_|⟨h,_|⟨i,_|⟨k,d⟩⟩⟩⟩⟩
   case cons.cons.cons.cons.nil=>
    cases e with
    |int l b=>
     cases g with
     |int m p=>
      cases h with
      |bool s=>
       cases i with
       |int n j=>
        refine Pv (o:=(if (s && decide (b<0))=R7 then Wr else Wt)[j.toNat]?) (fun f=>?_) ?_
        ·exact trivial
        ·exact a _
       |_=>exact a _
      |_=>exact a _
     |_=>exact a _
    |_=>exact a _
   all_goals exact a _
  |_=>exact a _
 all_goals exact a _
theorem FR(c:Twin P P')(b:Plain O)(args:Array R2):St P P' O (VY args):=by
 have a:∀ s:String,St P P' O (stuck s:Ul R2):=fun s=>aq s;unfold VY Wn;obtain⟨d⟩:=args;rcases d with _|⟨v,_|⟨j,d⟩⟩
 case cons.nil=>
  cases v with
  |agg f=>
   obtain⟨e⟩:=f;rcases e with _|⟨g,_|⟨h,e⟩⟩
   case cons.nil=>
    refine af (sq c b _) fun i=>?_
    split
    ·exact trivial
    ·exact bz c b _
   all_goals exact a _
  |_=>exact a _
 all_goals exact a _
def DJ(a:SL)(n:Nat)(b:ByteArray):St P P' O (Wo a n b):=by
 induction n generalizing a b with
 |zero=>exact trivial
 |succ n c=>
  unfold Wo;refine af (sr _ _) fun v=>?_
  split
  ·exact c _ _
  ·exact aq _
def yf(v:R2):St P P' O (Wq v):=by
 unfold Wq
 split<;>first|exact trivial|exact DJ _ _ _|exact aq _
def DG(args:Array R2):St P P' O (Va args):=by
 have b:∀ s:String,St P P' O (stuck s:Ul R2):=fun s=>aq s;unfold Va;obtain⟨a⟩:=args;rcases a with _|⟨c,_|⟨d,_|⟨e,a⟩⟩⟩
 case cons.cons.nil=>exact af (yf _) fun _=>af (yf _) fun _=>trivial
 all_goals exact b _
theorem dD(b:Twin P P')(a:Plain O):∀ r∈S6,∀ args,St P P' O (r.2 args):=by
 intro r c args;simp only[S6,TE,Vr,or_false] at c;rcases c with rfl|rfl|rfl|rfl|rfl|rfl|rfl|rfl|rfl|rfl|rfl|rfl|rfl|rfl|rfl
 all_goals first
  |exact FD _
  |exact yt b a _
  |exact FR b a _
  |exact trivial
  |exact af (pi _) fun _=>trivial
  |exact af (yd _) fun _=>af (pi _) fun _=>trivial
  |exact af (yd _) fun _=>af (kx _) fun _=>trivial
def FL(a:11<VW.length)(args:Array R2):St P P' O ((VW[11]'a).2 args):=af (kx (args.getD 0 (.tuple #[]))) fun _=>trivial
def fh{fn:UB}{n:String}{e:Array R2→Ul R2}(c:fn.name=n)(h1:(Extern.allGenericRows.lookup n).isNone=R7)(a:(Extern.allTypedRows.lookup n).isNone=R7)(b:Extern.allRows.lookup n=RX e):V9 fn=RX e:=by
 unfold V9;dsimp only;rw[c,TZ.1 h1,TZ.1 a,b];rfl
theorem tC{fn:UB}{n m:String}(d:fn.name=n)(c:fn.origin=m)(h1:(Extern.allGenericRows.lookup n).isNone=R7)(a:(Extern.allTypedRows.lookup n).isNone=R7)(b:(Extern.allRows.lookup n).isNone=R7)(e:(Extern.allGenericRows.lookup m).isNone=R7)(f:(Extern.allTypedRows.lookup m).isNone=R7)(g:(Extern.allRows.lookup m).isNone=R7):V9 fn=RZ:=by
 unfold V9;dsimp only;rw[d,c,TZ.1 h1,TZ.1 a,TZ.1 b,TZ.1 e,TZ.1 f,TZ.1 g];rfl
end
theorem F8:(RY.funcs.toList.all fun fn=> !fn.body.isNone || (([Tryz.f0.name,Tryz.f1.name,Tryz.f168.name,Tryz.f179.name,Tryz.f180.name,Tryz.f181.name,Tryz.f182.name,Tryz.f183.name,Tryz.f184.name,Tryz.f185.name,Tryz.f186.name,Tryz.f187.name,Tryz.f188.name,Tryz.f189.name,Tryz.f190.name,Tryz.f191.name,Tryz.f192.name,Tryz.f193.name,Tryz.f194.name]:List String).contains fn.name && fn.origin == Tryz.f0.origin))=R7:=by kernel_rfl
theorem P7{fn:UB}(a:(([Tryz.f0.name,Tryz.f1.name,Tryz.f168.name,Tryz.f179.name,Tryz.f180.name,Tryz.f181.name,Tryz.f182.name,Tryz.f183.name,Tryz.f184.name,Tryz.f185.name,Tryz.f186.name,Tryz.f187.name,Tryz.f188.name,Tryz.f189.name,Tryz.f190.name,Tryz.f191.name,Tryz.f192.name,Tryz.f193.name,Tryz.f194.name]:List String).contains fn.name)=R7)(f:fn.origin=Tryz.f0.origin){e:Array R2→Ul R2}(b:V9 fn=RX e)(args:Array R2):St (aa.of RY) RY (aR (aa.of RY)) (e args):=by
 have d:=Lr;have c:=dR (aa.of RY);simp only[List.contains_cons,List.contains_nil,Bool.or_false,UU,beq_iff_eq] at a;rcases a with a|a|a|a|a|a|a|a|a|a|a|a|a|a|a|a|a|a|a
 ·rw[tC a f (by kernel_rfl) (by kernel_rfl) (by kernel_rfl) (by kernel_rfl) (by kernel_rfl) (by kernel_rfl)] at b;cases b
 ·rw[tC a f (by kernel_rfl) (by kernel_rfl) (by kernel_rfl) (by kernel_rfl) (by kernel_rfl) (by kernel_rfl)] at b;cases b
 ·rw[fh (e:=Va) a (by kernel_rfl) (by kernel_rfl) (by kernel_rfl)] at b;cases b;exact DG _
 ·rw[fh (e:=(S6[4]'(by decide)).2) a (by kernel_rfl) (by kernel_rfl) (by kernel_rfl)] at b;cases b;exact dD d c _ (Sl _) _
 ·rw[fh (e:=(S6[11]'(by decide)).2) a (by kernel_rfl) (by kernel_rfl) (by kernel_rfl)] at b;cases b;exact dD d c _ (Sl _) _
 ·rw[fh (e:=(S6[0]'(by decide)).2) a (by kernel_rfl) (by kernel_rfl) (by kernel_rfl)] at b;cases b;exact dD d c _ (Sl _) _
 ·rw[fh (e:=(S6[8]'(by decide)).2) a (by kernel_rfl) (by kernel_rfl) (by kernel_rfl)] at b;cases b;exact dD d c _ (Sl _) _
 ·rw[fh (e:=(S6[1]'(by decide)).2) a (by kernel_rfl) (by kernel_rfl) (by kernel_rfl)] at b;cases b;exact dD d c _ (Sl _) _
 ·rw[fh (e:=(S6[9]'(by decide)).2) a (by kernel_rfl) (by kernel_rfl) (by kernel_rfl)] at b;cases b;exact dD d c _ (Sl _) _
 ·rw[fh (e:=(S6[2]'(by decide)).2) a (by kernel_rfl) (by kernel_rfl) (by kernel_rfl)] at b;cases b;exact dD d c _ (Sl _) _
 ·rw[fh (e:=(S6[10]'(by decide)).2) a (by kernel_rfl) (by kernel_rfl) (by kernel_rfl)] at b;cases b;exact dD d c _ (Sl _) _
 ·rw[fh (e:=(S6[5]'(by decide)).2) a (by kernel_rfl) (by kernel_rfl) (by kernel_rfl)] at b;cases b;exact dD d c _ (Sl _) _
 ·rw[fh (e:=(S6[12]'(by decide)).2) a (by kernel_rfl) (by kernel_rfl) (by kernel_rfl)] at b;cases b;exact dD d c _ (Sl _) _
 ·rw[fh (e:=(S6[6]'(by decide)).2) a (by kernel_rfl) (by kernel_rfl) (by kernel_rfl)] at b;cases b;exact dD d c _ (Sl _) _
 ·rw[fh (e:=(S6[13]'(by decide)).2) a (by kernel_rfl) (by kernel_rfl) (by kernel_rfl)] at b;cases b;exact dD d c _ (Sl _) _
 ·rw[tC a f (by kernel_rfl) (by kernel_rfl) (by kernel_rfl) (by kernel_rfl) (by kernel_rfl) (by kernel_rfl)] at b;cases b
 ·rw[fh (e:=(S6[7]'(by decide)).2) a (by kernel_rfl) (by kernel_rfl) (by kernel_rfl)] at b;cases b;exact dD d c _ (Sl _) _
 ·rw[fh (e:=(S6[14]'(by decide)).2) a (by kernel_rfl) (by kernel_rfl) (by kernel_rfl)] at b;cases b;exact dD d c _ (Sl _) _
 ·rw[fh (e:=(VW[11]'(by decide)).2) a (by kernel_rfl) (by kernel_rfl) (by kernel_rfl)] at b;cases b;exact FL _ _
def Lq{f:Nat}{fn:UB}(a:(aa.of RY).funcs[f]? =RX fn)(d:fn.body.isNone=R7):RY.funcs[f]? =RX fn:=by
 rcases nL f with b|⟨e,_,_,c⟩
 ·rw[b];exact a
 ·rw[c] at a;cases a;cases d
theorem QG:Ext (aa.of RY) RY:=by
 refine⟨fun f c a=>?_,fun f c a b=>?_,fun f c j a b i args=>?_⟩
 ·rcases nL f with e|⟨d,_,g,h⟩
  ·have:=iP sE (e.trans a);simpa using this
  ·rw[h] at a;cases a;have:=iP sE g;show(d.name == _)=R6;simpa using this
 ·have:=iP Qb (Lq a b);rw[b] at this;simpa using this
 ·have:=iP F8 (Lq a b);rw[b] at this;simp only[Bool.not_true,Bool.false_or,Sz,beq_iff_eq] at this;exact P7 this.1 this.2 i args
def NH:oe (aa.of RY) RY:=by
 refine⟨Lr,QG,fun f=>?_,rfl,fun f=>?_,fun f i h g e=>?_,Mt (aa.tables _)⟩
 ·rcases nL f with a|⟨d,_,c,b⟩
  ·rw[a]
  ·rw[c,b];rfl
 ·rcases nL f with a|⟨d,_,c,b⟩
  ·exact .inl a
  ·exact .inr ⟨_,_,b,rfl⟩
 ·have:=iP PC g;rw[e] at this;exact this
def dJ:Twins (aa.of RY) RY:=by
 refine⟨NH,fun f=>?_⟩;rcases nL f with b|⟨j,_,a,c⟩
 ·exact⟨by rw[b],fun g h i a=>by rw[b,i] at a;cases a;rfl⟩
 ·refine⟨by rw[a,c];simp,fun g h d e=>?_⟩;rw[c] at d;rw[a] at e;cases d;cases e;rfl
end Cc
end Go.Proofs.YtjidbonhhpkljaaGreat
namespace Go.Proofs
namespace aa
def sI(P:Sd)(t:Sg):(aa.of P).underlying t=P.underlying t:=YtjidbonhhpkljaaGreat.Cc.iO (aa.tables P).symm t
def bf{f:Nat}{x:Option UB}(h:RY.funcs[f]? =x)(h1:(f == 78)=R6)(a:(f == 116)=R6)(b:(f == 117)=R6):(aa.of RY).funcs[f]? =x:=(YtjidbonhhpkljaaGreat.Cc.jg h1 a b).trans h
def info(P:Sd)(t:Sg):(aa.of P).info? t=P.info? t:=YtjidbonhhpkljaaGreat.Cc.jU (aa.tables P).symm t
@[simp,go_sem] theorem uK (P:Sd) (t:Sg) (w:R3):Uj (aa.of P) (UX t) w=Uj P (UX t) w:=by
 unfold UX program;simp only[bind,Sem.bind,Uj,info];generalize P.info? t=a;cases a<;>rfl
@[simp,go_sem] theorem PJ (P:Sd) (t:Sg) (w:R3):Uj (aa.of P) (U3 t) w=Uj P (U3 t) w:=by
 unfold U3 program;simp only[bind,Sem.bind,Uj,sI];generalize P.underlying t=a;cases a<;>rfl
def zeroOf (P:Sd) (x:Option R2) (w:R3):Uj (aa.of P) (match x with|some v=>pure v|none=>unsupported (.resourceLimit "a value of more than 2^22 cells")) w=Uj P (match x with|some v=>pure v|none=>unsupported (.resourceLimit "a value of more than 2^22 cells")) w:=by
 cases x with
 |some v=>exact(Sem.run_pure _ _ _).trans (Sem.run_pure _ _ _).symm
 |none=>exact Eq.refl (Result.halt _ w)
@[simp,go_sem] theorem Q4 (P:Sd) (t:Sg) (w:R3):Uj (aa.of P) (T9 t) w=Uj P (T9 t) w:=by
 unfold T9;rw[Uz,Uz,uK];generalize Uj P (UX t) w=d;cases d with
 |ok c a=>exact zeroOf P c.zero a
 |halt b a=>exact Eq.refl (Result.halt b a)
@[simp,go_sem] theorem Q3 (P:Sd) (t:Sg) (w:R3):Uj (aa.of P) (V3 t) w=Uj P (V3 t) w:=by
 unfold V3;rw[Uz,Uz,uK];cases Uj P (UX t) w with
 |ok c a=>rfl
 |halt b a=>rfl
def Nk(P:Sd)(d:TypeDesc)(w:R3):Uj (aa.of P) (match d with| .struct _| .array _ _=>pure R7|_=>pure R6) w=Uj P (match d with| .struct _| .array _ _=>pure R7|_=>pure R6) w:=by
 cases d<;>exact(Sem.run_pure _ _ _).trans (Sem.run_pure _ _ _).symm
@[simp,go_sem] theorem QK (P:Sd) (t:Sg) (w:R3):Uj (aa.of P) (isAgg t) w=Uj P (isAgg t) w:=by
 unfold isAgg;rw[Uz,Uz,PJ];generalize Uj P (U3 t) w=d;cases d with
 |ok c a=>exact Nk P c a
 |halt b a=>exact Eq.refl (Result.halt b a)
@[simp,go_sem] theorem QY (P:Sd) (d:Nat) (t:Sg):(aa.of P).eqGuardType d t=P.eqGuardType d t:=YtjidbonhhpkljaaGreat.Cc.Mj (aa.tables P).symm d t
@[simp,go_sem] theorem depth (P:Sd):(aa.of P).depth=P.depth:=YtjidbonhhpkljaaGreat.Cc.kC (aa.tables P).symm
@[simp,go_sem] theorem GP (P:Sd) (t:Sg):(aa.of P).stoodInHeld t=P.stoodInHeld t:=YtjidbonhhpkljaaGreat.Cc.sx (aa.tables P).symm t
def LI {P:Sd} {f:Nat} {fn:UB} (h:P.funcs[f]? =RX fn) (b:(fn.name == "runtime.NumGoroutine")=R6) (a:fn.body.isNone=R6) (args:Array R2) (w:R3):Uj P (callFunc f args) w= .ok (.enter f args) w:=by
 unfold callFunc program;simp only[bind,pure,Sem.bind,Uj,h,b,a,SD,if_false]
theorem ay{f:Nat}{fn:UB}(h:(aa.of RY).funcs[f]? =RX fn)(e:fn.body.isNone=R6)(args:Array R2)(w:R3):Uj (aa.of RY) (callFunc f args) w= .ok (.enter f args) w:=by
 refine LI h ?_ e args w;rcases YtjidbonhhpkljaaGreat.Cc.nL f with a|⟨b,g,c,d⟩
 ·rw[← a] at h;simpa using YtjidbonhhpkljaaGreat.Cc.iP YtjidbonhhpkljaaGreat.Cc.sE h
 ·rw[d] at h;cases h;exact(by simpa using YtjidbonhhpkljaaGreat.Cc.iP YtjidbonhhpkljaaGreat.Cc.sE c:(b.name == "runtime.NumGoroutine")=R6)
def func8:=bf Tryz.func8 rfl rfl rfl
def func9:=bf Tryz.func9 rfl rfl rfl
def func20:=bf Tryz.func20 rfl rfl rfl
def func21:=bf Tryz.func21 rfl rfl rfl
def func23:=bf Tryz.func23 rfl rfl rfl
def func24:=bf Tryz.func24 rfl rfl rfl
def func27:=bf Tryz.func27 rfl rfl rfl
def func28:=bf Tryz.func28 rfl rfl rfl
def func31:=bf Tryz.func31 rfl rfl rfl
def func32:=bf Tryz.func32 rfl rfl rfl
def func36:=bf Tryz.func36 rfl rfl rfl
def func40:=bf Tryz.func40 rfl rfl rfl
def func41:=bf Tryz.func41 rfl rfl rfl
def func42:=bf Tryz.func42 rfl rfl rfl
def func43:=bf Tryz.func43 rfl rfl rfl
def func44:=bf Tryz.func44 rfl rfl rfl
def func45:=bf Tryz.func45 rfl rfl rfl
def func48:=bf Tryz.func48 rfl rfl rfl
def func53:=bf Tryz.func53 rfl rfl rfl
def func55:=bf Tryz.func55 rfl rfl rfl
def func56:=bf Tryz.func56 rfl rfl rfl
def func57:=bf Tryz.func57 rfl rfl rfl
def func58:=bf Tryz.func58 rfl rfl rfl
def func59:=bf Tryz.func59 rfl rfl rfl
def func60:=bf Tryz.func60 rfl rfl rfl
def func61:=bf Tryz.func61 rfl rfl rfl
def func62:=bf Tryz.func62 rfl rfl rfl
def func63:=bf Tryz.func63 rfl rfl rfl
def func64:=bf Tryz.func64 rfl rfl rfl
def func65:=bf Tryz.func65 rfl rfl rfl
def func66:=bf Tryz.func66 rfl rfl rfl
def func68:=bf Tryz.func68 rfl rfl rfl
def func69:=bf Tryz.func69 rfl rfl rfl
def func70:=bf Tryz.func70 rfl rfl rfl
def func71:=bf Tryz.func71 rfl rfl rfl
def func76:=bf Tryz.func76 rfl rfl rfl
def func77:=bf Tryz.func77 rfl rfl rfl
def func80:=bf Tryz.func80 rfl rfl rfl
def func81:=bf Tryz.func81 rfl rfl rfl
def func82:=bf Tryz.func82 rfl rfl rfl
def func83:=bf Tryz.func83 rfl rfl rfl
def func84:=bf Tryz.func84 rfl rfl rfl
def func85:=bf Tryz.func85 rfl rfl rfl
def func86:=bf Tryz.func86 rfl rfl rfl
def func87:=bf Tryz.func87 rfl rfl rfl
def func88:=bf Tryz.func88 rfl rfl rfl
def func89:=bf Tryz.func89 rfl rfl rfl
def func90:=bf Tryz.func90 rfl rfl rfl
def func91:=bf Tryz.func91 rfl rfl rfl
def func92:=bf Tryz.func92 rfl rfl rfl
def func93:=bf Tryz.func93 rfl rfl rfl
def func94:=bf Tryz.func94 rfl rfl rfl
def func95:=bf Tryz.func95 rfl rfl rfl
def func96:=bf Tryz.func96 rfl rfl rfl
def func97:=bf Tryz.func97 rfl rfl rfl
def func98:=bf Tryz.func98 rfl rfl rfl
def func106:=bf Tryz.func106 rfl rfl rfl
def func107:=bf Tryz.func107 rfl rfl rfl
def func110:=bf Tryz.func110 rfl rfl rfl
def func114:=bf Tryz.func114 rfl rfl rfl
def func115:=bf Tryz.func115 rfl rfl rfl
def func118:=bf Tryz.func118 rfl rfl rfl
def func119:=bf Tryz.func119 rfl rfl rfl
def func120:=bf Tryz.func120 rfl rfl rfl
def func121:=bf Tryz.func121 rfl rfl rfl
def func122:=bf Tryz.func122 rfl rfl rfl
def func123:=bf Tryz.func123 rfl rfl rfl
def func124:=bf Tryz.func124 rfl rfl rfl
def func125:=bf Tryz.func125 rfl rfl rfl
def func126:=bf Tryz.func126 rfl rfl rfl
def func127:=bf Tryz.func127 rfl rfl rfl
def func128:=bf Tryz.func128 rfl rfl rfl
def func129:=bf Tryz.func129 rfl rfl rfl
def func130:=bf Tryz.func130 rfl rfl rfl
def func131:=bf Tryz.func131 rfl rfl rfl
def func133:=bf Tryz.func133 rfl rfl rfl
def func135:=bf Tryz.func135 rfl rfl rfl
def func139:=bf Tryz.func139 rfl rfl rfl
def func140:=bf Tryz.func140 rfl rfl rfl
def func141:=bf Tryz.func141 rfl rfl rfl
def func142:=bf Tryz.func142 rfl rfl rfl
def func143:=bf Tryz.func143 rfl rfl rfl
def func144:=bf Tryz.func144 rfl rfl rfl
def func145:=bf Tryz.func145 rfl rfl rfl
def func146:=bf Tryz.func146 rfl rfl rfl
def func147:=bf Tryz.func147 rfl rfl rfl
def func148:=bf Tryz.func148 rfl rfl rfl
def func149:=bf Tryz.func149 rfl rfl rfl
def func150:=bf Tryz.func150 rfl rfl rfl
def func151:=bf Tryz.func151 rfl rfl rfl
def func152:=bf Tryz.func152 rfl rfl rfl
def func153:=bf Tryz.func153 rfl rfl rfl
def func154:=bf Tryz.func154 rfl rfl rfl
def func155:=bf Tryz.func155 rfl rfl rfl
def func156:=bf Tryz.func156 rfl rfl rfl
def func158:=bf Tryz.func158 rfl rfl rfl
def func159:=bf Tryz.func159 rfl rfl rfl
def func160:=bf Tryz.func160 rfl rfl rfl
def func161:=bf Tryz.func161 rfl rfl rfl
def func162:=bf Tryz.func162 rfl rfl rfl
def func163:=bf Tryz.func163 rfl rfl rfl
def func164:=bf Tryz.func164 rfl rfl rfl
def func165:=bf Tryz.func165 rfl rfl rfl
def func166:=bf Tryz.func166 rfl rfl rfl
def func167:=bf Tryz.func167 rfl rfl rfl
def func168:=bf Tryz.func168 rfl rfl rfl
def func169:=bf Tryz.func169 rfl rfl rfl
def func170:=bf Tryz.func170 rfl rfl rfl
def func171:=bf Tryz.func171 rfl rfl rfl
def func172:=bf Tryz.func172 rfl rfl rfl
def func173:=bf Tryz.func173 rfl rfl rfl
def func175:=bf Tryz.func175 rfl rfl rfl
def func176:=bf Tryz.func176 rfl rfl rfl
def func177:=bf Tryz.func177 rfl rfl rfl
def func178:=bf Tryz.func178 rfl rfl rfl
@[simp,go_sem] def call20:=ay func20 rfl
@[simp,go_sem] def call23:=ay func23 rfl
@[simp,go_sem] def call24:=ay func24 rfl
@[simp,go_sem] def call27:=ay func27 rfl
@[simp,go_sem] def call28:=ay func28 rfl
@[simp,go_sem] def call40:=ay func40 rfl
@[simp,go_sem] def call41:=ay func41 rfl
@[simp,go_sem] def call42:=ay func42 rfl
@[simp,go_sem] def call43:=ay func43 rfl
@[simp,go_sem] def call44:=ay func44 rfl
@[simp,go_sem] def call45:=ay func45 rfl
@[simp,go_sem] def call48:=ay func48 rfl
@[simp,go_sem] def call53:=ay func53 rfl
@[simp,go_sem] def call55:=ay func55 rfl
@[simp,go_sem] def call56:=ay func56 rfl
@[simp,go_sem] def call57:=ay func57 rfl
@[simp,go_sem] def call58:=ay func58 rfl
@[simp,go_sem] def call59:=ay func59 rfl
@[simp,go_sem] def call60:=ay func60 rfl
@[simp,go_sem] def call61:=ay func61 rfl
@[simp,go_sem] def call62:=ay func62 rfl
@[simp,go_sem] def call63:=ay func63 rfl
@[simp,go_sem] def call64:=ay func64 rfl
@[simp,go_sem] def call65:=ay func65 rfl
@[simp,go_sem] def call66:=ay func66 rfl
@[simp,go_sem] def call68:=ay func68 rfl
@[simp,go_sem] def call69:=ay func69 rfl
@[simp,go_sem] def call70:=ay func70 rfl
@[simp,go_sem] def call71:=ay func71 rfl
@[simp,go_sem] def call80:=ay func80 rfl
@[simp,go_sem] def call81:=ay func81 rfl
@[simp,go_sem] def call82:=ay func82 rfl
@[simp,go_sem] def call83:=ay func83 rfl
@[simp,go_sem] def call84:=ay func84 rfl
@[simp,go_sem] def call85:=ay func85 rfl
@[simp,go_sem] def call86:=ay func86 rfl
@[simp,go_sem] def call87:=ay func87 rfl
@[simp,go_sem] def call88:=ay func88 rfl
@[simp,go_sem] def call89:=ay func89 rfl
@[simp,go_sem] def call90:=ay func90 rfl
@[simp,go_sem] def call91:=ay func91 rfl
@[simp,go_sem] def call92:=ay func92 rfl
@[simp,go_sem] def call93:=ay func93 rfl
@[simp,go_sem] def call94:=ay func94 rfl
@[simp,go_sem] def call95:=ay func95 rfl
@[simp,go_sem] def call96:=ay func96 rfl
@[simp,go_sem] def call97:=ay func97 rfl
@[simp,go_sem] def call98:=ay func98 rfl
@[simp,go_sem] def call106:=ay func106 rfl
@[simp,go_sem] def call107:=ay func107 rfl
@[simp,go_sem] def call114:=ay func114 rfl
@[simp,go_sem] def call115:=ay func115 rfl
@[simp,go_sem] def call120:=ay func120 rfl
@[simp,go_sem] def call121:=ay func121 rfl
@[simp,go_sem] def call122:=ay func122 rfl
@[simp,go_sem] def call123:=ay func123 rfl
@[simp,go_sem] def call124:=ay func124 rfl
@[simp,go_sem] def call125:=ay func125 rfl
@[simp,go_sem] def call126:=ay func126 rfl
@[simp,go_sem] def call127:=ay func127 rfl
@[simp,go_sem] def call128:=ay func128 rfl
@[simp,go_sem] def call129:=ay func129 rfl
@[simp,go_sem] def call130:=ay func130 rfl
@[simp,go_sem] def call131:=ay func131 rfl
@[simp,go_sem] def call135:=ay func135 rfl
@[simp,go_sem] def call140:=ay func140 rfl
@[simp,go_sem] def call141:=ay func141 rfl
@[simp,go_sem] def call142:=ay func142 rfl
@[simp,go_sem] def call143:=ay func143 rfl
@[simp,go_sem] def call144:=ay func144 rfl
@[simp,go_sem] def call145:=ay func145 rfl
@[simp,go_sem] def call146:=ay func146 rfl
@[simp,go_sem] def call147:=ay func147 rfl
@[simp,go_sem] def call148:=ay func148 rfl
@[simp,go_sem] def call149:=ay func149 rfl
@[simp,go_sem] def call150:=ay func150 rfl
@[simp,go_sem] def call151:=ay func151 rfl
@[simp,go_sem] def call152:=ay func152 rfl
@[simp,go_sem] def call153:=ay func153 rfl
@[simp,go_sem] def call154:=ay func154 rfl
@[simp,go_sem] def call155:=ay func155 rfl
@[simp,go_sem] def call156:=ay func156 rfl
@[simp,go_sem] def call158:=ay func158 rfl
@[simp,go_sem] def call159:=ay func159 rfl
@[simp,go_sem] def call160:=ay func160 rfl
@[simp,go_sem] def call161:=ay func161 rfl
@[simp,go_sem] def call162:=ay func162 rfl
@[simp,go_sem] def call163:=ay func163 rfl
@[simp,go_sem] def call164:=ay func164 rfl
@[simp,go_sem] def call165:=ay func165 rfl
@[simp,go_sem] def call166:=ay func166 rfl
@[simp,go_sem] def call167:=ay func167 rfl
@[simp,go_sem] def call169:=ay func169 rfl
@[simp,go_sem] def call170:=ay func170 rfl
@[simp,go_sem] def call171:=ay func171 rfl
@[simp,go_sem] def call172:=ay func172 rfl
@[simp,go_sem] def call173:=ay func173 rfl
@[simp,go_sem] def call175:=ay func175 rfl
@[simp,go_sem] def call176:=ay func176 rfl
@[simp,go_sem] def call177:=ay func177 rfl
@[simp,go_sem] def call178:=ay func178 rfl
@[simp,go_sem] def underlying2:=(sI _ _).trans Tryz.underlying2
@[simp,go_sem] def underlying3:=(sI _ _).trans Tryz.underlying3
@[simp,go_sem] def underlying4:=(sI _ _).trans Tryz.underlying4
@[simp,go_sem] def underlying5:=(sI _ _).trans Tryz.underlying5
@[simp,go_sem] def underlying9:=(sI _ _).trans Tryz.underlying9
@[simp,go_sem] def underlying20:=(sI _ _).trans Tryz.underlying20
@[simp,go_sem] def underlying22:=(sI _ _).trans Tryz.underlying22
@[simp,go_sem] def underlying23:=(sI _ _).trans Tryz.underlying23
@[simp,go_sem] def underlying26:=(sI _ _).trans Tryz.underlying26
@[simp,go_sem] def underlying43:=(sI _ _).trans Vf
@[simp,go_sem] def underlying44:=(sI _ _).trans Tryz.underlying44
@[simp,go_sem] def underlying59:=(sI _ _).trans Tryz.underlying59
@[simp,go_sem] def underlying103:=(sI _ _).trans Tryz.underlying103
@[simp,go_sem] def underlying133:=(sI _ _).trans Tryz.underlying133
@[simp,go_sem] def underlying137:=(sI _ _).trans Tryz.underlying137
@[simp,go_sem] def underlying141:=(sI _ _).trans Tryz.underlying141
@[simp,go_sem] def underlying160:=(sI _ _).trans Uv
@[simp,go_sem] def underlying170:=(sI _ _).trans Tryz.underlying170
@[simp,go_sem] def underlying176:=(sI _ _).trans Tryz.underlying176
@[simp,go_sem] def underlying205:=(sI _ _).trans Tryz.underlying205
@[simp,go_sem] def underlying206:=(sI _ _).trans Tryz.underlying206
@[simp,go_sem] def underlying229:=(sI _ _).trans Tryz.underlying229
end aa
end Go.Proofs
namespace Go.Proofs.YtjidbonhhpkljaaGreat
namespace Pk
open Go.RowKit
def GH{k:Uo}{a b:Int}(h:a=b):Ending.returned (.int k a)= .returned (.int k b):=by rw[h]
def pw (n:Nat):Int:=((2 ^ n:Nat):Int)
def Bj(n:Nat):0<pw n:=by
 have:0<2 ^ n:=Nat.pow_pos (by omega);unfold pw;omega
def QE(n m:Nat)(h:n≤m):pw n≤pw m:=by
 have:=Uf (show 0<2 by omega) h;unfold pw;omega
def NG(n:Nat):pw (n+1)=2*pw n:=by
 unfold pw;rw[UT];omega
def GD(n:Nat)(h:n≤16):pw n≤65536:=QE n 16 h
theorem IN(n:Nat)(j:n≤16)(w:R3):
 SF (aa.of RY) 135 #[.int .i64 n] w fun e w'=>e= .returned (.int .i64 (pw n))∧w'=w:=by
 go_enter aa.func135,Tryz.ntmps135;go_wp2
 go_loop [3,4] (fun d b=>∃ a:Nat,a≤n∧b= .int .i64 a∧d= .int .i64 (pw a)) (fun _ b=>n - (S2 b).toNat)
 case atStart=>exact⟨0,SK _,rfl,rfl⟩
 case round=>
  obtain⟨a,h,rfl,rfl⟩:=hrel;have f:=Bj a;have g:=GD a (by omega);by_cases i:a<n
  ·go_wp2
   go_round
   case rel=>exact⟨a+1,by omega,by go_num,by rw[NG]⟩
   case measure=>simp[S2];omega
  ·have c:a=n:=by omega
   subst c;go_wp2;go_ret;exact⟨rfl,rfl⟩
def EA (n:Int):Int:=if n<0∨100<n then 6 else 0
def oO(n:Int)(w:R3):
 SF (aa.of RY) 141 #[.int .i64 n] w fun e w'=>e= .returned (.int .i64 (EA n))∧w'=w:=by
 by_cases a:n<0
 ·go_enter aa.func141,Tryz.ntmps141;go_wp2
  all_goals go_ret
  all_goals exact⟨GH (by simp[EA,a]),rfl⟩
 ·by_cases b:100<n
  all_goals
   go_enter aa.func141,Tryz.ntmps141;go_wp2
   all_goals go_ret
   all_goals exact⟨GH (by simp[EA,a,b]),rfl⟩
end Pk
namespace Pm
def V:List Nat→Nat
 | []=>0
 |b :: a=>b+256*V a
def N (w:Nat):List Nat→Nat
 | []=>0
 |x :: a=>x+2 ^ w*N w a
def Rc(a:List Nat)(h:∀ x∈a,x<256):V a<256 ^ a.length:=by
 induction a with
 |nil=>simp[V]
 |cons x g c=>
  have e:=h x (by simp);have f:=c (fun d b=>h d (by simp[b]));simp only[V,T0,UT];omega
theorem Qq(a b:List Nat)(g:∀ x∈a,x<256)(i:∀ x∈b,x<256)(c:a.length=b.length)(h:V a=V b):a=b:=by
 induction a generalizing b with
 |nil=>cases b with
  |nil=>rfl
  |cons e s=>simp at c
 |cons x m l=>cases b with
  |nil=>simp at c
  |cons e s=>
   simp only[V] at h;have n:=g x (by simp);have o:=i e (by simp);have j:x=e:=by omega
   have k:V m=V s:=by omega
   rw[j,l s (fun f d=>g f (by simp[d])) (fun f d=>i f (by simp[d])) (by simpa using c) k]
theorem OS(a:List Nat)(n:Nat)(h:∀ x∈a,x<256):V (a.take n)=V a % 256 ^ n:=by
 induction a generalizing n with
 |nil=>simp[V]
 |cons b c g=>
  cases n with
  |zero=>simp[V,Nat.mod_one]
  |succ d=>
   have j:=h b (by simp);have e:=g d (fun i f=>h i (by simp[f]));simp only[List.take_succ_cons,V,e,UT];rw[Nat.mul_comm (256 ^ d) 256,Nat.mod_mul,show(b+256*V c) % 256=b by omega,show(b+256*V c) / 256=V c by omega]
def Qp(a:List Nat)(j:Nat)(h:∀ x∈a,x<256):(a[j]?.getD 0)=V a / 256 ^ j % 256:=by
 induction a generalizing j with
 |nil=>simp[V]
 |cons d c g=>
  have k:=h d (by simp);cases j with
  |zero=>simp[V];omega
  |succ b=>
   have e:=g b (fun i f=>h i (by simp[f]));simp only[List.getElem?_cons_succ,e,V,UT];rw[Nat.mul_comm (256 ^ b) 256,← Nat.div_div_eq_div_mul,show(d+256*V c) / 256=V c by omega]
def OQ(w:Nat)(l:List Nat)(x:Nat):N w (l ++ [x])=N w l+2 ^ (w*l.length)*x:=by
 induction l with
 |nil=>simp[N]
 |cons c a b=>
  simp only[Uk,N,b,T0];rw[Nat.mul_add,← Nat.mul_assoc,← VF,Td,show w+w*a.length=w*(a.length+1) by rw[Nat.mul_succ];omega]
def Ra(w:Nat)(l:List Nat)(h:∀ x∈l,x<2 ^ w):N w l<2 ^ (w*l.length):=by
 induction l with
 |nil=>simp[N]
 |cons f a e=>
  have i:=h f (by simp);have b:=e (fun g d=>h g (by simp[d]));simp only[N,T0];rw[show w*(a.length+1)=w+w*a.length by rw[Nat.mul_succ];omega,VF];have c:2 ^ w*(N w a+1)≤2 ^ w*2 ^ (w*a.length):=Nat.mul_le_mul_left _ b;rw[Nat.mul_add] at c;omega
def D (w v:Nat):Nat→List Nat
 |0=>[]
 |n+1=>D w v n ++ [v / 2 ^ (w*n) % 2 ^ w]
def oC(w v n:Nat):(D w v n).length=n:=by
 induction n with
 |zero=>rfl
 |succ b a=>simp[D,a]
def OM(w v n:Nat):∀ x∈D w v n,x<2 ^ w:=by
 induction n with
 |zero=>simp[D]
 |succ c b=>
  intro x a;simp only[D,S7,List.mem_singleton] at a;rcases a with a|a
  ·exact b x a
  ·rw[a];exact Nat.mod_lt _ (Nat.pow_pos (by omega))
def QW(w v n:Nat):N w (D w v n)=v % 2 ^ (w*n):=by
 induction n with
 |zero=>simp[D,N,Nat.mod_one]
 |succ a b=>
  rw[D,OQ,b,oC,show w*(a+1)=w*a+w by rw[Nat.mul_succ],VF,Nat.mod_mul]
def E5(n:Nat):256 ^ n=2 ^ (8*n):=by rw[Nat.pow_mul]
end Pm
namespace Pk
open Go.RowKit Pm
def aa.rT:((aa.of RY).info? 5).map (fun i=>(i.zero,i.size,i.bytes))=RX (RX (.int .u8 0),1,1):=by kernel_rfl
def aa.CP:((aa.of RY).info? 3).map (fun i=>(i.zero,i.size,i.bytes))=RX (RX (.int .i64 0),1,8):=by kernel_rfl
def aA (b:List Nat):List R2:=b.map fun(a:Nat)=>T7 .u8 (a:Int)
def Eo(a:List Nat)(i:Nat)(h:i<a.length):(aA a)[i]? =RX (.int .u8 ((a[i]:Nat):Int)):=by
 simp[aA,h]
def Hi{w:R3}{base g n cap:Nat}{a:List Nat}(h:w.ownsRow base 5 1 (.slice (RX ⟨g,0,RZ⟩) n cap) n (aA a))(c:a.length=n):
 ∀ i,i<n→w.cell? ⟨g,0+i,RZ⟩=RX (.int .u8 ((a.map (fun(n:Nat)=>(n:Int))).getD i 0)):=by
 intro i b;rw[SZ,h.cellAt i (by omega),Eo a i (by omega)];simp[Wc,show i<a.length by omega]
def F7{x:Int}(a:0≤x)(h1:x<256):V1.wrap x=x:=by
 simp[IntKind.wrap,VM,V4];omega
def below_drewN{B:Nat}{a w:R3}(h:Si B a w)(n:Nat):Si B a (w.drewN n):=h.trans ⟨rfl,rfl,rfl,R8 _,fun _ _=>rfl⟩
def qF{w:R3}{base:Nat}{e:Sg}{a:Nat}{v:R2}{n:Nat}{b:List R2}(h:w.ownsRow base e a v n b)(k:Nat):(w.drewN k).ownsRow base e a v n b:=by
 induction k with
 |zero=>exact h
 |succ k c=>exact c.drew
def Az(n:Int)(a:0≤n)(b:n<2 ^ 62):Wb.wrap n=n:=by rw[IntKind.wrap_i64];omega
theorem Pw(b x a:Nat)(f:a≤16)(h:x<65536)(e:b<2 ^ a):bits .or .i64 (b:Int) (Tw ((x:Int)*2 ^ a))=((b+2 ^ a*x:Nat):Int):=by
 have d:2 ^ a≤2 ^ 16:=Uf (by omega) f;have g:2 ^ a*x≤2 ^ 16*65536:=Nat.mul_le_mul d (by omega);have c:Tw ((x:Int)*2 ^ a)=((2 ^ a*x:Nat):Int):=by
  rw[show(x:Int)*2 ^ a=((2 ^ a*x:Nat):Int) from by push_cast;rw[Int.mul_comm]];generalize 2 ^ a*x=i at*;unfold Tw;omega
 rw[c,(bits_nat .i64 62 (by decide) Az b (2 ^ a*x) (by omega) (by omega)).2,Nat.or_comm,← Nat.two_pow_add_eq_or_of_lt e x,Nat.add_comm]
def fw(a:List Nat)(x:Nat):aA a ++ [.int .u8 (x:Int)]=aA (a ++ [x]):=by simp[aA]
end Pk
end Go.Proofs.YtjidbonhhpkljaaGreat
namespace Go.Proofs.YtjidbonhhpkljaaGreat.Pm
def JY(l:List Nat):V l=N 8 l:=by
 induction l with
 |nil=>rfl
 |cons c b a=>simp only[V,N,a]
def cX (a:Nat)(l:List Nat):List Nat:=D 8 (N a l) ((l.length*a+7) / 8)
def r8(b:Nat)(l:List Nat):∀ x∈cX b l,x<256:=fun x a=>OM 8 _ _ x a
def fo(a:Nat)(l:List Nat):(cX a l).length=(l.length*a+7) / 8:=oC _ _ _
def Be(b:Nat)(l a:List Nat)(h1:a.length=(l.length*b+7) / 8)(c:∀ x∈a,x<256)(d:V a=N b l):a=cX b l:=by
 refine Qq a _ c (r8 b l) (by rw[fo,h1]) ?_;rw[JY (cX b l),cX,QW,← d,← h1,← E5,U5 (Rc a c)]
end Go.Proofs.YtjidbonhhpkljaaGreat.Pm
namespace Go.Proofs.YtjidbonhhpkljaaGreat.Pk
open Go.RowKit Go.Proofs.YtjidbonhhpkljaaGreat.Pm
def strOf(b:List Nat):ByteArray:=strOfNums (b.map (fun(a:Nat)=>(a:Int)))
def mh(a:List Nat):(strOf a).size=a.length:=by
 unfold strOf strOfNums;simp[ByteArray.size]
def OB (b:Nat)(c:List Int):Bool:=c.all fun a=>decide (0≤a) && decide (a<pw b)
def Ih{a:Nat}{b:List Int}(h:OB a b=R7):∀ z∈b,0≤z∧z<pw a:=by
 intro z c;have:=SC.1 h z c;simpa using this
def toNat_lt{a:Nat}{b:List Int}(h:OB a b=R7):∀ x∈b.map Int.toNat,x<2 ^ a:=by
 intro x c;obtain⟨e,d,rfl⟩:=Tu.1 c;have:=Ih h e d;unfold pw at this;omega
theorem o9{w:R3}{base n:Nat}{v:R2}{a:List Nat}(h:w.ownsRow base 5 1 v n (aA a))(c:a.length=n):
 (convert 133 9 v).run (aa.of RY) w= .ok (.string (strOf a)) w:=by
 rcases h.2 with⟨b,i⟩|⟨e,d,g,b,_⟩
 ·have f:a=[]:=TA (by omega);subst f;subst b;exact run_convert_bytes_nil w 133 5 aa.underlying133 aa.underlying5 0 0 9 aa.underlying9
 ·subst b;exact run_convert_bytes_arg w 133 5 aa.underlying133 aa.underlying5 e 0 n d _ (by simp[c]) (Hi h c) 9 aa.underlying9
end Go.Proofs.YtjidbonhhpkljaaGreat.Pk
namespace Go.Proofs.YtjidbonhhpkljaaGreat
namespace Ec
open Pk Pm
def ic:Nat→Nat→List Nat
 |0,a=>[]
 |f+1,a=>if a<128 then[a] else(a % 128+128) :: ic f (a / 128)
def ax (n:Nat):List Nat:=ic 10 n
def eO(f n:Nat)(h:n<128):ic (f+1) n=[n]:=by simp[ic,h]
def gV(f n:Nat)(h:¬ n<128):ic (f+1) n=(n % 128+128) :: ic f (n / 128):=by simp[ic,h]
def Mu(f n:Nat):∀ x∈ic f n,x<256:=by
 induction f generalizing n with
 |zero=>simp[ic]
 |succ f d=>
  intro x a;by_cases b:n<128
  ·rw[eO f n b] at a;simp at a;omega
  ·rw[gV f n b] at a;rcases TE.1 a with c|c
   ·omega
   ·exact d _ x c
def ej(f n:Nat):(ic f n).length≤f:=by
 induction f generalizing n with
 |zero=>simp[ic]
 |succ f b=>
  by_cases a:n<128
  ·rw[eO f n a];simp
  ·rw[gV f n a];have:=b (n / 128);simp;omega
def Py(f:Nat)(n:Nat)(h:n<128 ^ (f+1)):n / 128<128 ^ f:=by
 rw[UT] at h;exact Nat.div_lt_of_lt_mul (by rw[Nat.mul_comm];exact h)
def Iz(n:Nat)(h:n<18446744073709551616):n<128 ^ 10:=by
 have:(128:Nat) ^ 10=1180591620717411303424:=by decide
 omega
def zz (n:Int):Nat:=if n<0 then(-2*n - 1).toNat else(2*n).toNat
def AB(n:Int)(a: -9223372036854775808≤n)(h1:n≤9223372036854775807):zz n<18446744073709551616:=by
 unfold zz;split<;>omega
def QC:∀ x,x<256→x ||| 128=x % 128+128:=by decide +kernel
end Ec
namespace Pk
open Go.RowKit Pm
def bn{w:R3}{base B:Nat}{e:Sg}{b:Nat}{v:R2}{n:Nat}{c:List R2}(h:w.ownsRow base e b v n c)(k:B≤base):w.ownsRow B e b v n c:=by
 refine⟨h.1,?_⟩;rcases h.2 with a|⟨g,d,f,a,i,j⟩
 ·exact .inl a
 ·exact .inr ⟨g,d,f,a,Ss k i,j⟩
def aM{w w':R3}{base:Nat}{e:Sg}{d:Nat}{v:R2}{n:Nat}{f:List R2}(h:w.ownsRow base e d v n f)(l:Si w.heap.size w w'):w'.ownsRow base e d v n f:=by
 refine⟨h.1,?_⟩;rcases h.2 with a|⟨b,g,i,a,j,c,k⟩
 ·exact .inl a
 ·exact .inr ⟨b,g,i,a,j,by rw[l.block b (Sf c)];exact c,k⟩
theorem aS{P:Sd}(w:R3){ops:Array Tx}{rest:List Tx}{o:Tx}{a:T6}{Q:Exit→T6→R3→Prop}
 (D:o.guard=RZ) (s x:S3) (t:Sg) (F:o.op=Op.call {callee:=Callee.builtin Builtin.append,args:= #[s,x],argTypes:= #[t,t]})
 (base:Nat) (e:Sg) (i:UL) (z:R2) (b bytes:Nat) (h1:P.underlying t=RX (.slice e)) (A:P.info? e=RX i) (J:i.zero=RX z) (B:i.size=b) (K:i.bytes=bytes) (L:z.cells.size=b) (M:0<b)
 (v:R2) (n:Nat) (g:List R2) (G:a.eval s=v) (l:w.ownsRow base e b v n g)
 (h:SL) (m c:Nat) (news:List R2) (H:a.eval x= .slice (RX h) m c) (Y:0<m) (E:news.length=m*b) (hc:∀ j u,news[j]? =RX u→w.cell? (h.add j)=RX u) (y:∀ u∈news,u.oneCell'=R7)
 (b1:n+m≤Sw) (b2:(n+m)*bytes≤140737488355328) (I:base≤w.heap.size)
 (C:∀ d w',w'.ownsRow base e b d (n+m) (g ++ news)→((w.grownBy w' RZ∧w'.ownsRow w.heap.size e b d (n+m) (g ++ news))∨(d.ownBlock=v.ownBlock∧w.grownBy w' v.ownBlock))→wpList P ops Q rest (a.put o.dst d) w'):
 wpList P ops Q (o :: rest) a w:=by
 rcases l.2 with⟨rfl,rfl⟩|⟨q,p,T,rfl,U,X,Z,V,W,ab⟩
 ·have S:g=[]:=TA (by simpa using l.1);subst S;exact wpList_append_grows w D s x t F e i z b bytes h1 A J B K L M RZ 0 0 [] G (fun _=>⟨rfl,rfl⟩) (by simp) (fun N r=>by cases r) h m c news H E hc y (by omega) b1 b2
   fun d w' f k=>C d w' (bn f I) (.inl ⟨k,f⟩)
 ·by_cases R:n+m≤p
  ·exact TJ w D s x t F base e i b h1 A B q n p g G l h m c news H E hc y R fun w' f k=>C _ w' f (.inr ⟨rfl,k⟩)
  ·exact wpList_append_grows w D s x t F e i z b bytes h1 A J B K L M (RX ⟨q,0,RZ⟩) n p g G (fun r=>by cases r) l.1 (fun N O=>by cases O;exact l.cells (g:=q) rfl) h m c news H E hc y (by omega) b1 b2
    fun d w' f k=>C d w' (bn f I) (.inl ⟨k,f⟩)
def eJ{a:List Int}{k:Nat}(h:k<a.length):a.getD k 0=a[k]:=by simp[Wc,h]
def aW (a:List Int):List R2:=a.map (T7 .i64)
def yR{w:R3}{base g n:Nat}{e:Sg}{b:List R2}(h:w.ownsRow base e 1 (.slice (RX ⟨g,0,RZ⟩) n n) n b):w.heap[g]? =RX (.cells b.toArray e (0,0)):=by
 rcases h.2 with⟨a,_⟩|⟨k,j,c,a,_,d,_,_,f,i⟩
 ·simp at a
 ·simp only[Uq,Ts,U6,and_true,true_and] at a;obtain⟨rfl,rfl⟩:=a;rw[d];have:c.toList=b:=by rw[← i];exact(Tj (by simp[f])).symm
  rw[← this]
def ES(a:List Int)(i:Nat)(h:i<a.length):(aW a)[i]? =RX (.int .i64 a[i]):=by simp[aW,h]
end Pk
end Go.Proofs.YtjidbonhhpkljaaGreat
namespace Go.Proofs.YtjidbonhhpkljaaGreat.Pm
end Go.Proofs.YtjidbonhhpkljaaGreat.Pm
namespace Go.Proofs.YtjidbonhhpkljaaGreat.Pk
open Go.RowKit Go.Proofs.YtjidbonhhpkljaaGreat.Pm
def bytesOf(s:ByteArray):List Nat:=s.data.toList.map UInt8.toNat
def iK(s:ByteArray):∀ x∈bytesOf s,x<256:=by
 intro x a;obtain⟨b,_,rfl⟩:=Tu.1 a;exact b.toNat_lt
def ai(s:ByteArray):(bytesOf s).length=s.size:=by simp[bytesOf]
def uq(s:ByteArray)(j:Nat)(h:j<s.size):(bytesOf s)[j]'(by rw[ai];exact h)=s[j].toNat:=by
 simp only[bytesOf,Vq];rfl
def jb (l:List Nat):List Int:=l.map (fun(a:Nat)=>(a:Int))
def j8(a:List Int)(x:Int):aW a ++ [.int .i64 x]=aW (a ++ [x]):=by simp[aW]
end Go.Proofs.YtjidbonhhpkljaaGreat.Pk
namespace Go.Proofs.YtjidbonhhpkljaaGreat
namespace Pk
open Go.RowKit Pm
def qz(a:List Nat)(h:∀ x∈a,x<256):bytesOf (strOf a)=a:=by
 unfold bytesOf strOf strOfNums;simp only[List.map_map];have:∀ x∈a,(UInt8.toNat ∘ (fun(b:Int)=>UInt8.ofNat b.toNat) ∘ fun(b:Nat)=>(b:Int)) x=x:=by
  intro x c;have:=h x c;simp;omega
 rw[List.map_congr_left this];simp
def mD{s t:ByteArray}(h:bytesOf s=bytesOf t):s=t:=by
 have a:s.data.toList=t.data.toList:=by
  unfold bytesOf at h;exact List.map_inj_right (fun c d b=>UInt8.toNat_inj.1 b) |>.1 h
 cases s;cases t;simp at a;simp[a]
def toList_inj{s t:ByteArray}(h:s.toList=t.toList):s=t:=by
 have b:∀ a:ByteArray,a.toList=a.data.toList:=fun a=>Vi a;rw[b,b] at h;cases s;cases t;simp at h;simp[h]
end Pk
namespace Ec
open Go.RowKit Pk
structure az where
 null:Bool
 n:Int
 s:ByteArray
def az.agg(v:az):R2:=.agg #[.bool v.null,.int .i64 v.n,.string v.s]
def aC (l:List az):List R2:=l.flatMap fun v=>[.bool v.null,.int .i64 v.n,.string v.s]
structure sM(w:R3)(ao:Option SL)(b off:Nat)(l:List az):Prop where
 addr:0<l.length→ao=RX ⟨b,off,RZ⟩
 lt:0<l.length→b<w.heap.size
 c0:∀ j (h:j<l.length),w.cell? ⟨b,off+j*3,RZ⟩=RX (.bool l[j].null)
 c1:∀ j (h:j<l.length),w.cell? ⟨b,off+j*3+1,RZ⟩=RX (.int .i64 l[j].n)
 c2:∀ j (h:j<l.length),w.cell? ⟨b,off+j*3+2,RZ⟩=RX (.string l[j].s)
def sM.below{w w':R3}{e:Option SL}{b off:Nat}{l:List az}(h:sM w e b off l)(d:Si w.heap.size w w'):sM w' e b off l:=
 ⟨h.addr,fun f=>Sa (h.lt f) d.size,
  fun a c=>(d.cell (p:=⟨b,off+a*3,RZ⟩) (h.lt (by omega))).trans (h.c0 a c),
  fun a c=>(d.cell (p:=⟨b,off+a*3+1,RZ⟩) (h.lt (by omega))).trans (h.c1 a c),
  fun a c=>(d.cell (p:=⟨b,off+a*3+2,RZ⟩) (h.lt (by omega))).trans (h.c2 a c)⟩
def JC (x y:az):Bool:=(x.null == y.null) && (x.n == y.n) && (x.s.toList == y.s.toList)
def qh{x y:az}:JC x y=R7↔x=y:=by
 unfold JC;constructor
 ·intro a;simp only[Sz,beq_iff_eq] at a;obtain⟨⟨b,c⟩,d⟩:=a;cases x;cases y;simp only at b c d;rw[b,c,toList_inj d]
 ·rintro rfl;simp
end Ec
namespace Ec
open Go.RowKit Pk Pm
structure aP(w w':R3)(v v':R2):Prop where
 ij:w.grownBy w' v.ownBlock
 at_:∀ g,v'.ownBlock=RX g→v.ownBlock=RX g∨w.heap.size≤g
def aP.refl(w:R3)(v:R2):aP w w v v:=⟨Wv w _,fun _ a=>.inl a⟩
theorem aP.trans{w g h:R3}{v v1 v2:R2}(h1:aP w g v v1)(b:aP g h v1 v2):aP w h v v2:=by
 refine⟨⟨b.ij.os.trans h1.ij.os,b.ij.tape.trans h1.ij.tape,b.ij.output.trans h1.ij.output,Ss h1.ij.size b.ij.size,?_⟩,?_⟩
 ·intro c e f;rw[b.ij.block c (Sa e h1.ij.size) (fun j=>?_),h1.ij.block c e f];rcases h1.at_ c j.symm with a|a
  ·exact f a.symm
  ·omega
 ·intro d i;rcases b.at_ d i with a|a
  ·exact h1.at_ d a
  ·exact .inr (Ss h1.ij.size a)
def aP.alloc{w a:R3}{v v1:R2}(h:aP w a v v1)(o:U9):aP w (a.alloc o) v v1:=
 h.trans ⟨World.grownBy_alloc a o _,fun _ h=>.inl h⟩
def aP.drewN{w a:R3}{v v1:R2}(h:aP w a v v1)(n:Nat):aP w (a.drewN n) v v1:=
 h.trans ⟨⟨rfl,rfl,rfl,R8 _,fun _ _ _=>rfl⟩,fun _ h=>.inl h⟩
def aP.below{w w':R3}{v c:R2}{base:Nat}(h:aP w w' v c)(b:∀ g,v.ownBlock=RX g→base≤g)(a:base≤w.heap.size):Si base w w':=
 (So base w).grown h.ij a b
theorem aP.append{w b:R3}{v v1:R2}{e k n:Nat}{l:List R2}{o:U9}
 (h:((w.alloc o).grownBy b RZ∧b.ownsRow (w.alloc o).heap.size e k v1 n l)∨(v1.ownBlock=v.ownBlock∧(w.alloc o).grownBy b v.ownBlock)):aP w b v v1:=by
 have g:=(aP.refl w v).alloc o;refine g.trans ?_;rcases h with⟨a,c⟩|⟨a,c⟩
 ·refine⟨⟨a.os,a.tape,a.output,a.size,fun j i _=>a.block j i (by simp)⟩,fun f d=>.inr (c.lt f d).1⟩
 ·exact⟨c,fun f d=>.inl (by rw[← a];exact d)⟩
def Ko{w:R3}{g:Nat}{x:Nat}(hc:w.cell? ⟨g,0,RZ⟩=RX (.int .u8 (x:Int))):
 (convert 133 9 (.slice (RX ⟨g,0,RZ⟩) 1 1)).run (aa.of RY) w= .ok (.string (strOf [x])) w:=
 run_convert_bytes_arg w 133 5 aa.underlying133 aa.underlying5 g 0 1 1 [(x:Int)] rfl (fun a b=>by
  have:a=0:=by omega
  subst this;exact hc) 9 aa.underlying9
def je(w:R3)(a:R2)(t:Sg):∀ (j:Nat) (u:R2),[a][j]? =RX u→(w.alloc (.cells #[a] t)).cell? ((⟨w.heap.size,0,RZ⟩:SL).add j)=RX u:=by
 intro j u b
 match j,b with
 |0,b=>simp at b;subst b;simp[V8]
def kg(x:Int):∀ u∈[T7 .u8 x],u.oneCell'=R7:=by
 intro u a;simp at a;subst a;rfl
def Kn(w:R3)(x:Nat):(convert 133 9 (.slice (RX ⟨w.heap.size,0,RZ⟩) 1 1)).run (aa.of RY) (w.alloc (.cells #[.int .u8 (x:Int)] 5))= .ok (.string (strOf [x])) (w.alloc (.cells #[.int .u8 (x:Int)] 5)):=
 Ko (by simp)
def N7(f n:Nat)(w:R3)(h:n<128):SF (aa.of RY) 133 #[.int .u64 n] w fun e w'=>e= .returned (.string (strOf (ic (f+1) n)))∧Si w.heap.size w w':=by
 rw[eO f n h];have a:=Kn w n;go_enter aa.func133,Tryz.ntmps133;go_wp2;go_ret;exact⟨rfl,(So _ _).alloc (R8 _) _⟩
def QD(n:Nat):bits .or .u8 ((n:Int) % 256) 128=((n % 128+128:Nat):Int):=by
 have a:=(bits_nat .u8 8 (by decide) wraps_u8 (n % 256) 128 (by omega) (by omega)).2;rw[show((n % 256:Nat):Int)=(n:Int) % 256 from by omega,QC (n % 256) (by omega)] at a;rw[show(128:Int)=((128:Nat):Int) from rfl,a];omega
theorem mZ(v:R2)(pre:List Nat)(n base:Nat)(w:R3)(C:n<18446744073709551616)(S:pre.length≤4000000)(P:base≤w.heap.size)
 (g:w.ownsRow base 5 1 v pre.length (aA pre)):
 SF (aa.of RY) 121 #[v,.int .u64 n] w fun e w'=>∃ l,e= .returned l∧w'.ownsRow base 5 1 l (pre ++ ax n).length (aA (pre ++ ax n))∧aP w w' v l:=by
 obtain⟨H,A,E,F,G⟩:=TB aa.rT;go_enter aa.func121,Tryz.ntmps121
 go_wp2_with fail
 go_loopw [0,1] (fun s k wr=>∃ (f m:Nat) (a:List Nat),f≤9∧k= .int .u64 m∧m<128 ^ (f+1)∧m<18446744073709551616∧a.length+f=9∧a ++ ic (f+1) m=ax n∧wr.ownsRow base 5 1 s (pre ++ a).length (aA (pre ++ a))∧aP w wr v s∧w.heap.size≤wr.heap.size) (fun _ k _=>(S2 k).toNat)
 case atStart=>exact⟨9,n,[],by omega,rfl,Iz n C,C,rfl,rfl,by simpa using g,aP.refl _ _,R8 _⟩
 case round=>
  obtain⟨f,m,a,Q,rfl,B,T,u,x,g,y,V⟩:=hrel;have q:Sb (m<128 ^ (f+1)):=B;have o:Sb (a ++ ic (f+1) m=ax n):=x;have J:Sb (a.length+f=9):=u;have U:(pre ++ a).length≤4000009:=by simp;omega
  clear B x u;have p:Sb (aP w wr v u0):=y;clear y;have K:Sb (∃ b,b=pre ++ a):=⟨_,rfl⟩;generalize D:pre ++ a=b at*;have r:Sb (pre ++ a=b):=D;clear D K;by_cases t:m<128
  ·have W:V1.wrap (m:Int)=(m:Int):=F7 (by omega) (by omega)
   go_wp2_with (at_builtin;refine aS _ rfl _ _ 133 rfl base 5 H (.int .u8 0) 1 1 aa.underlying133 A E F G rfl (by decide) _ b.length _ rfl (g.alloc _) ⟨wr.heap.size,0,RZ⟩ 1 1 [.int .u8 (m:Int)] rfl (by decide) rfl (je _ _ _) (kg _) (by unfold Sw;omega) (by omega) (by simp;omega) ?_;intro O I c i)
   go_ret;refine⟨_,rfl,?_,p.out.trans (aP.append i)⟩;rw[fw] at c;have e:pre ++ ax n=b ++ [m]:=by rw[← o.out,eO f m t,← r.out,SG]
   rw[e];simpa using c
  ·have M:=QD m;obtain⟨d,j⟩:∃ d,d=m % 128+128:=⟨_,rfl⟩;rw[← j] at M;have R:0<f:=by
    rcases Ux f with h|h
    ·subst h;have:=q.out;simp at this;omega
    ·exact h
   have L:Sb (d=m % 128+128):=j;clear j
   go_wp2_with (at_builtin;refine aS _ rfl _ _ 133 rfl base 5 H (.int .u8 0) 1 1 aa.underlying133 A E F G rfl (by decide) _ b.length _ rfl (g.alloc _) ⟨wr.heap.size,0,RZ⟩ 1 1 [.int .u8 (d:Int)] rfl (by decide) rfl (je _ _ _) (kg _) (by unfold Sw;omega) (by omega) (by simp;omega) ?_;intro O I c i)
   have z:=p.out.trans (aP.append i);have N:w.heap.size≤I.heap.size:=z.ij.size;rw[fw] at c;refine⟨⟨f - 1,m / 128,a ++ [d],by omega,by go_num,?_,by omega,by have:=J.out;simp;omega,?_,?_,z,N⟩,by simp[S2];omega⟩
   ·have:=Py f m q.out;rwa [show f - 1+1=f by omega]
   ·rw[← o.out,gV f m t,show f - 1+1=f by omega,L.out,SG];rfl
   ·rw[← SG,r.out];simpa using c
def wrap_u64(n:Int):Ud.wrap n=n % 18446744073709551616:=by simp[IntKind.wrap,V4,VM]
def xor_zero(x:Nat)(a:x<18446744073709551616):bits .xor .u64 (x:Int) 0=(x:Int):=by
 show Ud.wrap (((UP 64 (x:Int)) ^^^ (UP 64 0)).toNat:Int)=_;rw[BitVec.ofInt_natCast,show UP 64 0=0#64 from rfl,BitVec.xor_zero,BitVec.toNat_ofNat,wrap_u64];omega
def MF(x:Nat)(a:x<18446744073709551616):bits .xor .u64 (x:Int) 18446744073709551615=((18446744073709551615 - x:Nat):Int):=by
 show Ud.wrap (((UP 64 (x:Int)) ^^^ (UP 64 18446744073709551615)).toNat:Int)=_;rw[BitVec.ofInt_natCast,show UP 64 18446744073709551615=BitVec.allOnes 64 from by decide +kernel,BitVec.xor_allOnes,BitVec.toNat_not,BitVec.toNat_ofNat,wrap_u64];omega
theorem MJ(n:Int)(e: -9223372036854775808≤n)(h1:n≤9223372036854775807):
 bits .xor .u64 (Ud.wrap (Tw (n*2))) (Ud.wrap (n / 9223372036854775808))=(zz n:Int):=by
 by_cases d:n<0
 ·have c:Ud.wrap (n / 9223372036854775808)=18446744073709551615:=by rw[wrap_u64];omega
  obtain⟨b,a⟩:∃ b:Nat,Ud.wrap (Tw (n*2))=(b:Int):=⟨(Ud.wrap (Tw (n*2))).toNat,by rw[wrap_u64];omega⟩;rw[a,c];rw[wrap_u64] at a;unfold Tw at a;rw[MF b (by omega)];unfold zz;rw[if_pos d];omega
 ·have c:Ud.wrap (n / 9223372036854775808)=0:=by rw[wrap_u64];omega
  obtain⟨b,a⟩:∃ b:Nat,Ud.wrap (Tw (n*2))=(b:Int):=⟨(Ud.wrap (Tw (n*2))).toNat,by rw[wrap_u64];omega⟩;rw[a,c];rw[wrap_u64] at a;unfold Tw at a;rw[xor_zero b (by omega)];unfold zz;rw[if_neg d];omega
def fI (k:Int):Bool:=decide (1≤k) && decide (k≤3)
def aY (k e:Int):Bool:=((e == 0 || e == 2) && fI k) || (e == 1 && k == 1) || (e == 3 && k == 2)
def nG(k:Int)(w:R3):SF (aa.of RY) 120 #[.int .i64 k] w fun e w'=>e= .returned (.bool (fI k))∧w'=w:=by
 by_cases a:1≤k<;>by_cases b:k≤3
 all_goals
  go_enter aa.func120,Tryz.ntmps120;go_wp2
  all_goals go_ret
  all_goals exact⟨by simp[fI,a,b],rfl⟩
def AP(e:Int):e=0∨e=1∨e=2∨e=3∨((e == 0)=R6∧(e == 1)=R6∧(e == 2)=R6∧(e == 3)=R6):=by
 by_cases a:e=0
 ·exact .inl a
 by_cases b:e=1
 ·exact .inr (.inl b)
 by_cases c:e=2
 ·exact .inr (.inr (.inl c))
 by_cases d:e=3
 ·exact .inr (.inr (.inr (.inl d)))
 exact .inr (.inr (.inr (.inr ⟨by simpa using a,by simpa using b,by simpa using c,by simpa using d⟩)))
theorem ov(k e:Int)(w:R3):SF (aa.of RY) 83 #[.int .i64 k,.int .i64 e] w fun r w'=>r= .returned (.bool (aY k e))∧w'=w:=by
 have g:∀ a:Bool,(a || false)=a:=by simp
 rcases AP e with rfl|rfl|rfl|rfl|⟨b,c,d,f⟩
 ·rw[show aY k 0=fI k from by simp[aY]];go_enter aa.func83,Tryz.ntmps83
  go_wp2_with (go_at_call 120;refine(nG k _).mono ?_;rintro e w' ⟨rfl,rfl⟩)
  go_ret;exact⟨rfl,rfl⟩
 ·rw[show aY k 1=(k == 1) from by simp[aY]];go_enter aa.func83,Tryz.ntmps83;go_wp2
  all_goals go_ret
  all_goals exact⟨rfl,rfl⟩
 ·rw[show aY k 2=fI k from by simp[aY]];go_enter aa.func83,Tryz.ntmps83
  go_wp2_with (go_at_call 120;refine(nG k _).mono ?_;rintro e w' ⟨rfl,rfl⟩)
  go_ret;exact⟨rfl,rfl⟩
 ·rw[show aY k 3=(k == 2) from by simp[aY]];go_enter aa.func83,Tryz.ntmps83;go_wp2
  all_goals go_ret
  all_goals exact⟨rfl,rfl⟩
 ·rw[show aY k e=R6 from by simp[aY,b,c,d,f]];go_enter aa.func83,Tryz.ntmps83;go_wp2
  all_goals go_ret
  all_goals exact⟨rfl,rfl⟩
def Lf{k e:Int}(a:(k == 1)=R6)(b:(k == 2)=R6)(f:(k == 3)=R6):aY k e=R6:=by
 have d:fI k=R6:=by
  simp at a b f;unfold fI;by_cases c:1≤k
  ·have:¬ k≤3:=by omega
   simp[this]
  ·simp[c]
 simp[aY,d,a,b]
def Nv{k e:Int}(a:(e == 0)=R6)(h1:(e == 1)=R6)(b:(e == 2)=R6)(c:(e == 3)=R6):aY k e=R6:=by simp[aY,a,h1,b,c]
def iy (n k e:Int):Int:=if n<0∨100<n then 6 else if aY k e then 0 else 2
theorem oo(n k e:Int)(w:R3):SF (aa.of RY) 123 #[.int .i64 n,.int .i64 k,.int .i64 e] w fun r w'=>r= .returned (.int .i64 (iy n k e))∧w'=w:=by
 by_cases a:n<0∨100<n
 ·have b:=oO n w;rw[show EA n=6 from by simp[EA,a]] at b;rw[show iy n k e=6 from by simp[iy,a]];clear a;go_enter aa.func123,Tryz.ntmps123
  go_wp2_with (go_at_call 141;refine b.mono ?_;rintro e w' ⟨rfl,rfl⟩)
  all_goals go_ret
  all_goals exact⟨rfl,rfl⟩
 ·have b:=oO n w;rw[show EA n=0 from by simp[EA,a]] at b;have d:=ov k e;by_cases c:aY k e=R7
  ·rw[show iy n k e=0 from by simp[iy,a,c]];rw[c] at d;clear a c;go_enter aa.func123,Tryz.ntmps123
   go_wp2_with (first|(go_at_call 141;refine b.mono ?_;rintro e w' ⟨rfl,rfl⟩)|(go_at_call 83;refine(d _).mono ?_;rintro e w' ⟨rfl,rfl⟩))
   all_goals go_ret
   all_goals exact⟨rfl,rfl⟩
  ·have f:aY k e=R6:=by simpa using c
   rw[show iy n k e=2 from by simp[iy,a,f]];rw[f] at d;clear a c f;go_enter aa.func123,Tryz.ntmps123
   go_wp2_with (first|(go_at_call 141;refine b.mono ?_;rintro e w' ⟨rfl,rfl⟩)|(go_at_call 83;refine(d _).mono ?_;rintro e w' ⟨rfl,rfl⟩))
   all_goals go_ret
   all_goals exact⟨rfl,rfl⟩
theorem cV(v:R2)(pre:List Nat)(n base:Nat)(w:R3)(i:n<2147483648)(h:pre.length≤4000000)(g:base≤w.heap.size)
 (b:w.ownsRow base 5 1 v pre.length (aA pre)):
 SF (aa.of RY) 84 #[v,.int .i64 n] w fun e w'=>∃ a,e= .returned a∧w'.ownsRow base 5 1 a (pre ++ ax n).length (aA (pre ++ ax n))∧aP w w' v a:=by
 have c:Sb (SF (aa.of RY) 121 #[v,.int .u64 n] w fun e w'=>∃ a,e= .returned a∧w'.ownsRow base 5 1 a (pre ++ ax n).length (aA (pre ++ ax n))∧aP w w' v a):=
  mZ v pre n base w (by omega) h g b
 clear b;go_enter aa.func84,Tryz.ntmps84
 go_wp2_with fail
 refine c.out.mono ?_;rintro e w' ⟨a,rfl,d,f⟩;go_wp2;go_ret;exact⟨_,rfl,d,f⟩
def Cx(n:Int)(a: -9223372036854775808≤n)(h1:n≤9223372036854775807)(w:R3):
 SF (aa.of RY) 140 #[.int .i64 n] w fun e w'=>e= .returned (.int .u64 (zz n))∧w'=w:=by
 have b:=MJ n a h1;go_enter aa.func140,Tryz.ntmps140;go_wp2;go_ret;exact⟨rfl,rfl⟩
def eU (v:az)(k:Int):Bool:=
 if v.null then(v.n == 0) && (v.s.toList == []) else if k == 1 then v.s.toList == [] else if k == 2 then(v.n == 0 || v.n == 1) && (v.s.toList == []) else(v.n == 0) && decide ((v.s.size:Int)≤32)
def kw{a b:Bool}(h:a=b):Ending.returned (.bool a)= .returned (.bool b):=by rw[h]
theorem pM(v:az)(k:Int)(w:R3)(a:k=1∨k=2∨k=3):
 SF (aa.of RY) 82 #[.agg #[.bool v.null,.int .i64 v.n,.string v.s],.int .i64 k] w fun e w'=>e= .returned (.bool (eU v k))∧Si w.heap.size w w':=by
 have b:=nG k;rw[show fI k=R7 from by rcases a with rfl|rfl|rfl<;>rfl] at b;cases c:v.null
 ·rcases a with rfl|rfl|rfl
  all_goals
   go_enter aa.func82,Tryz.ntmps82;go_wp2
   all_goals go_ret
   all_goals refine⟨kw ?_,(So _ _).alloc (R8 _) _⟩
   all_goals rw[Bool.eq_iff_iff]
   all_goals simp[eU, *]
   all_goals try omega
 ·rcases a with rfl|rfl|rfl
  all_goals
   go_enter aa.func82,Tryz.ntmps82
   go_wp2_with (go_at_call 120;refine(b _).mono ?_;rintro e w' ⟨rfl,rfl⟩)
   all_goals go_ret
   all_goals refine⟨kw ?_,(So _ _).alloc (R8 _) _⟩
   all_goals rw[Bool.eq_iff_iff]
   all_goals simp[eU, *]
   all_goals try omega
def cT (x:Int):List Int→Nat
 | []=>0
 |y :: a=>if y=x then cT x a+1 else 0
def byteOf(x:Int):Nat:=(x % 256).toNat
def fR:Nat→List Int→List Nat
 |0,_=>[]
 |f+1,b=>match b with
  | []=>[]
  |x :: a=>ax (cT x (x :: a)) ++ ([byteOf x] ++ fR f ((x :: a).drop (cT x (x :: a))))
def bC (l:List Int):List Nat:=fR l.length l
def Ai(x:Int)(l:List Int):cT x l≤l.length:=by
 induction l with
 |nil=>simp[cT]
 |cons c b a=>simp only[cT];split<;>simp<;>omega
def I5(x:Int)(l:List Int)(n:Nat)(h:n<cT x l):∃ e:n<l.length,l[n]=x:=by
 induction l generalizing n with
 |nil=>simp[cT] at h
 |cons g f d=>
  simp only[cT] at h
  split at h
  ·rename_i c;cases n with
   |zero=>exact⟨by simp,by simpa using c⟩
   |succ m=>
    obtain⟨a,b⟩:=d m (by omega);exact⟨by simp;exact a,by simpa using b⟩
  ·omega
def xV(x:Int)(l:List Int)(h:cT x l<l.length):l[cT x l]≠x:=by
 induction l with
 |nil=>simp at h
 |cons c d b=>
  simp only[cT] at h ⊢;by_cases a:c=x
  ·simp only[a,if_true] at h ⊢;have:=b (by simpa using h);simpa using this
  ·simp only[a,if_false] at h ⊢;simpa using a
def kX (a:List Int)(i:Nat):Nat:=cT (a.getD i 0) (a.drop i)
def I4(a:List Int)(i:Nat)(h:i<a.length):0<kX a i:=by
 unfold kX;rw[List.drop_eq_getElem_cons h,eJ h];simp[cT]
def LH(a:List Int)(i:Nat)(h:i<a.length):i+kX a i≤a.length:=by
 have:=Ai (a.getD i 0) (a.drop i);unfold kX;rw[UN] at this;omega
def LG(a:List Int)(i n:Nat)(h:n<kX a i):∃ e:i+n<a.length,a[i+n]=a.getD i 0:=by
 obtain⟨b,c⟩:=I5 _ _ n h;have d:i+n<a.length:=by simp at b;omega
 exact⟨d,by simpa using c⟩
def I3(a:List Int)(i:Nat)(h:i+kX a i<a.length):a[i+kX a i]≠a.getD i 0:=by
 have:=xV (a.getD i 0) (a.drop i) (by unfold kX at h;rw[UN];omega);simpa [kX] using this
def Ft(f:Nat)(a:List Int)(i:Nat)(h:i<a.length):fR (f+1) (a.drop i)=ax (kX a i) ++ ([byteOf (a.getD i 0)] ++ fR f (a.drop (i+kX a i))):=by
 unfold kX;rw[List.drop_eq_getElem_cons h,eJ h];simp only[fR];rw[← List.drop_eq_getElem_cons h,List.drop_drop]
def Ja(f:Nat)(a:List Int)(i:Nat)(h:¬ i<a.length):fR f (a.drop i)=[]:=by
 rw[List.drop_of_length_le (by omega)];cases f<;>rfl
def m7(x:Int):byteOf x<256:=by unfold byteOf;omega
def lK(x:Int):x % 256=(byteOf x:Int):=by unfold byteOf;omega
def Bw(f:Nat)(l:List Int):(fR f l).length≤11*f:=by
 induction f generalizing l with
 |zero=>simp[fR]
 |succ f c=>
  cases l with
  |nil=>simp[fR]
  |cons a b=>
   simp only[fR];have d:=ej 10 (cT a (a :: b));have e:=c ((a :: b).drop (cT a (a :: b)));simp only[Sc,List.length_singleton];unfold ax;omega
theorem oK(v:R2)(pre:List Nat)(a:List Int)(a2:Option SL)(b off cap base:Nat)(w:R3)(b3:a.length≤100)(ck:pre.length≤100000)(a4:base≤w.heap.size)
 (b0:0<a.length→a2=RX ⟨b,off,RZ⟩) (cc:0<a.length→b<w.heap.size) (ae:0<a.length→v.ownBlock≠RX b) (hc:∀ j,j<a.length→w.cell? ⟨b,off+j,RZ⟩=RX (.int .i64 (a.getD j 0)))
 (t:w.ownsRow base 5 1 v pre.length (aA pre)):
 SF (aa.of RY) 142 #[v,.slice a2 a.length cap] w fun e w'=>∃ q,e= .returned q∧w'.ownsRow base 5 1 q (pre ++ bC a).length (aA (pre ++ bC a))∧aP w w' v q:=by
 obtain⟨bm,a8,bi,bj,bl⟩:=TB aa.rT;go_enter aa.func142,Tryz.ntmps142
 go_wp2_with fail
 go_loopw [0,5] (fun a3 ao wr=>∃ (c f:Nat) (i:List Nat),c≤a.length∧ao= .int .i64 c∧a.length≤c+f∧f≤100∧i.length+11*f≤1100∧i ++ fR f (a.drop c)=bC a∧wr.ownsRow base 5 1 a3 (pre ++ i).length (aA (pre ++ i))∧aP w wr v a3) (fun _ ao _=>a.length - (S2 ao).toNat)
 case atStart=>exact⟨0,a.length,[],SK _,rfl,by omega,b3,by simp;omega,rfl,by simpa using t,aP.refl _ _⟩
 case round=>
  clear t;obtain⟨c,f,i,ch,rfl,ci,cf,cd,a5,t,Z⟩:=hrel
  rename R3=>C
  have P:Sb (i ++ fR f (a.drop c)=bC a):=a5;have L:Sb (aP w C v u0):=Z;have cv:w.heap.size≤C.heap.size:=Z.ij.size;clear a5 Z;have cp:(pre ++ i).length≤200000:=by simp;omega
  generalize bb:pre ++ i=l at*;have T:Sb (pre ++ i=l):=bb;clear bb;by_cases y:c<a.length
  ·obtain rfl:=b0 (by omega);have Y:∀ j,j<a.length→C.cell? ⟨b,off+j,RZ⟩=RX (.int .i64 (a.getD j 0)):=fun j bA=>L.out.ij.cell (hc j bA) (fun u=>ae (by omega) u.symm);have aw:Sb (∀ j,j<a.length→C.cell? ⟨b,off+j,RZ⟩=RX (.int .i64 (a.getD j 0))):=Y;have a0:Sb _:=Ft (f - 1) a c y;have cu:=I4 a c y;have cs:=LH a c y;have br:Sb (∀ k,k<kX a c→∃ N:c+k<a.length,a[c+k]=a.getD c 0):=fun k N=>LG a c k N;have bs:Sb (∀ u:c+kX a c<a.length,a[c+kX a c]≠a.getD c 0):=fun u=>I3 a c u;have M:=Y c y;clear Y;generalize kX a c=d at*;generalize bd:a.getD c 0=h at*;have a1:Sb (a.getD c 0=h):=bd;clear bd
   go_wp2_with fail
   go_loopw [6] (fun j cb=>∃ m:Nat,c+1≤m∧m≤c+d∧j= .int .i64 (m:Int)∧∃ k,cb=C.drewN k) (fun j _=>a.length+1 - (S2 j).toNat)
   case atStart=>exact⟨c+1,by omega,by omega,by go_num,0,rfl⟩
   case round=>
    obtain⟨m,cl,cn,rfl,k,p⟩:=hrel;have bu:Sb (wr=C.drewN k):=p;have a6:wr.cell? ⟨b,off+c,RZ⟩=RX (.int .i64 h):=by rw[p];exact M
    by_cases ba:m<c+d
    ·obtain⟨N,bc⟩:=br.out (m - c) (by omega);have s:m<a.length:=by omega
     have H:wr.cell? ⟨b,off+m,RZ⟩=RX (.int .i64 h):=by
      rw[p];have:=aw.out m s;rw[eJ s] at this;rw[show a[m]=h from by rw[← bc];congr 1;omega] at this;exact this
     have a7:decide ((m:Int)<(a.length:Int))=R7:=by simpa using s
     clear M p t N bc
     go_wp2_with fail
     go_quiet (fail)
     go_wp2
     go_roundw
     case rel=>exact⟨m+1,by omega,by omega,by go_num,k+nq,by rw[bu.out];exact World.drewN_drewN _ _ _⟩
     case measure=>simp[S2];omega
    ·have B:Sb (m=c+d):=by show m=c+d;omega
     have co:c≤m:=by omega
     have bt:Sb (Tw ((m:Int) - (c:Int))=(d:Int)):=by have:=B.out;show _=_;unfold Tw;omega
     by_cases s:m<a.length
     ·have H:∃ x,wr.cell? ⟨b,off+m,RZ⟩=RX (.int .i64 x)∧x≠h:=by
       refine⟨a.getD m 0,by rw[p];exact aw.out m s,?_⟩;have e:=B.out;clear bt;subst e;rw[eJ s];exact bs.out s
      obtain⟨x,H,be⟩:=H;have a7:decide ((m:Int)<(a.length:Int))=R7:=by simpa using s
      have ce:(x == h)=R6:=by simpa using be
      have S:Sb (∀ g,(wr.drewN g).ownsRow base 5 1 u0 l.length (aA l)):=fun g=>by rw[p];exact aM t (below_drewN (below_drewN (So _ _) k) g)
      have D:Sb (∀ g,aP w (wr.drewN g) v u0):=fun g=>by rw[p];exact(L.out.drewN k).drewN g
      clear M p t ba be
      go_wp2_with fail
      go_quiet (fail)
      try clear H
      have am:V1.wrap h=h % 256:=by simp[IntKind.wrap,V4,VM]
      rw[lK] at am;have bx:=m7 h;have Q:Sb (∃ x,x=byteOf h):=⟨_,rfl⟩;generalize K:byteOf h=o at*;have bv:Sb (byteOf h=o):=K;clear Q K;have b2:=ej 10 d;have U:Sb (∃ g,g=l ++ ax d):=⟨_,rfl⟩;generalize z:l ++ ax d=n at*;have bB:n.length≤200010:=by rw[← z,Sc];unfold ax;omega
      have E:Sb (l ++ ax d=n):=z;clear z U;have O:Sb (SF (aa.of RY) 84 #[u0,.int .i64 ((m:Int) - (c:Int))] (wr.drewN nq) fun e w'=>∃ q,e= .returned q∧w'.ownsRow base 5 1 q n.length (aA n)∧aP (wr.drewN nq) w' u0 q):=by
       have F:=cV u0 l d base (wr.drewN nq) (by omega) (by omega) (Ss a4 (D.out nq).ij.size) (S.out nq);rw[E.out] at F;rw[show(m:Int) - (c:Int)=(d:Int) from by have:=B.out;omega];exact F
      go_wp2_with first
       |(go_at_call 84;refine O.out.mono ?_;rintro e A ⟨ar,rfl,al,I⟩;have r:=(D.out nq).trans I;have X:=r.ij.cell (hc c y) (fun u=>ae (by omega) u.symm);have R:Sb (aP w A v ar):=r;have b1:w.heap.size≤A.heap.size:=r.ij.size;rw[a1.out] at X;clear r I a6)
       |(at_builtin;refine aS _ rfl _ _ 133 rfl base 5 bm (.int .u8 0) 1 1 aa.underlying133 a8 bi bj bl rfl (by decide) _ n.length _ rfl (al.alloc _) ⟨A.heap.size,0,RZ⟩ 1 1 [.int .u8 (o:Int)] rfl (by decide) rfl (je _ _ _) (kg _) (by unfold Sw;omega) (by omega) (by simp;omega) ?_;intro b4 ca J ab)
      have ad:=R.out.trans (aP.append ab);rw[fw] at J;have V:pre ++ (i ++ (ax d ++ [o]))=n ++ [o]:=by rw[← E.out,← T.out];simp[SG]
      have W:(i ++ (ax d ++ [o])) ++ fR (f - 1) (a.drop m)=bC a:=by
       have G:=a0.out;rw[show f - 1+1=f by omega] at G;rw[← P.out,G,B.out];simp[SG]
      refine⟨⟨m,f - 1,i ++ (ax d ++ [o]),by omega,rfl,by omega,by omega,?_,W,?_,ad⟩,by simp[S2];omega⟩
      ·rw[Sc,Sc];unfold ax;simp;omega
      ·rw[V];simpa using J
     ·have a7:decide ((m:Int)<(a.length:Int))=R6:=by simpa using s
      have S:Sb (∀ g,(wr.drewN g).ownsRow base 5 1 u0 l.length (aA l)):=fun g=>by rw[p];exact aM t (below_drewN (below_drewN (So _ _) k) g)
      have D:Sb (∀ g,aP w (wr.drewN g) v u0):=fun g=>by rw[p];exact(L.out.drewN k).drewN g
      clear M p t ba
      go_wp2_with fail
      go_quiet (fail)
      try clear H
      have am:V1.wrap h=h % 256:=by simp[IntKind.wrap,V4,VM]
      rw[lK] at am;have bx:=m7 h;have Q:Sb (∃ x,x=byteOf h):=⟨_,rfl⟩;generalize K:byteOf h=o at*;have bv:Sb (byteOf h=o):=K;clear Q K;have b2:=ej 10 d;have U:Sb (∃ g,g=l ++ ax d):=⟨_,rfl⟩;generalize z:l ++ ax d=n at*;have bB:n.length≤200010:=by rw[← z,Sc];unfold ax;omega
      have E:Sb (l ++ ax d=n):=z;clear z U;have O:Sb (SF (aa.of RY) 84 #[u0,.int .i64 ((m:Int) - (c:Int))] (wr.drewN nq) fun e w'=>∃ q,e= .returned q∧w'.ownsRow base 5 1 q n.length (aA n)∧aP (wr.drewN nq) w' u0 q):=by
       have F:=cV u0 l d base (wr.drewN nq) (by omega) (by omega) (Ss a4 (D.out nq).ij.size) (S.out nq);rw[E.out] at F;rw[show(m:Int) - (c:Int)=(d:Int) from by have:=B.out;omega];exact F
      go_wp2_with first
       |(go_at_call 84;refine O.out.mono ?_;rintro e A ⟨ar,rfl,al,I⟩;have r:=(D.out nq).trans I;have X:=r.ij.cell (hc c y) (fun u=>ae (by omega) u.symm);have R:Sb (aP w A v ar):=r;have b1:w.heap.size≤A.heap.size:=r.ij.size;rw[a1.out] at X;clear r I a6)
       |(at_builtin;refine aS _ rfl _ _ 133 rfl base 5 bm (.int .u8 0) 1 1 aa.underlying133 a8 bi bj bl rfl (by decide) _ n.length _ rfl (al.alloc _) ⟨A.heap.size,0,RZ⟩ 1 1 [.int .u8 (o:Int)] rfl (by decide) rfl (je _ _ _) (kg _) (by unfold Sw;omega) (by omega) (by simp;omega) ?_;intro b4 ca J ab)
      have ad:=R.out.trans (aP.append ab);rw[fw] at J;have V:pre ++ (i ++ (ax d ++ [o]))=n ++ [o]:=by rw[← E.out,← T.out];simp[SG]
      have W:(i ++ (ax d ++ [o])) ++ fR (f - 1) (a.drop m)=bC a:=by
       have G:=a0.out;rw[show f - 1+1=f by omega] at G;rw[← P.out,G,B.out];simp[SG]
      refine⟨⟨m,f - 1,i ++ (ax d ++ [o]),by omega,rfl,by omega,by omega,?_,W,?_,ad⟩,by simp[S2];omega⟩
      ·rw[Sc,Sc];unfold ax;simp;omega
      ·rw[V];simpa using J
  ·have a9:fR f (a.drop c)=[]:=Ja f a c y;have bo:Sb (pre ++ bC a=l):=by show _=_;rw[← P.out,a9,Uy];exact T.out
   clear a9;go_wp2;go_ret;exact⟨_,rfl,by rw[bo.out];exact t,L.out⟩
def ai(s:ByteArray):(bytesOf s).length=s.size:=by
 unfold bytesOf;simp
def jr(s:ByteArray):Lib.strCells s=aA (bytesOf s):=by
 unfold Lib.strCells aA bytesOf;simp
def iK(s:ByteArray):∀ x∈bytesOf s,x<256:=by
 intro x a;unfold bytesOf at a;obtain⟨b,_,rfl⟩:=Tu.1 a;exact b.toNat_lt
theorem qt{P:Sd}(w:R3)(base:Nat)(t u ty e:Sg)(i:UL)(l:P.underlying t=RX (.slice e))(m:P.underlying u=RX .string)(g:P.info? e=RX i)(y:i.zero=RX (.int .u8 0))
 (k:i.size=1) (x:i.bytes=1) (v:R2) (n:Nat) (f:List R2) (h:w.ownsRow base e 1 v n f) (s:ByteArray)
 (r:n+s.size≤Sw) (A:n+s.size≤140737488355328) (G:base≤w.heap.size):
 ∃ o w',(Vw #[t,u] ty #[v,.string s]).run P w= .ok o w'∧w'.ownsRow base e 1 o (n+s.size) (f ++ Lib.strCells s)∧aP w w' v o:=by
 obtain⟨o,w',j,K,I,J⟩:=Lib.run_append_own_string (P:=P) w base t u ty e i l m g y k x v n f h s r A G;refine⟨o,w',j,K,I,?_⟩;unfold Sw at r;rcases h.2 with⟨rfl,rfl⟩|⟨d,b,p,rfl,O,C,S,R,B,T⟩
 ·by_cases M:s.size=0
  ·rw[J.2 ⟨rfl,M⟩];exact fun _ E=>.inl E
  ·have F:=Lib.run_append_own_string (P:=P) w w.heap.size t u ty e i l m g y k x _ 0 f ⟨h.1,.inl ⟨rfl,rfl⟩⟩ s r A (R8 _);obtain⟨U,z,a,L,-,-⟩:=F;rw[j] at a;cases a;exact fun q c=>.inr (L.lt q c).1
 ·by_cases D:n+s.size≤b
  ·by_cases Q:0<b
   ·obtain⟨z,a,-,-⟩:∃ z,(Vw #[t,u] ty #[.slice (RX ⟨d,0,RZ⟩) n b,.string s]).run P w= .ok (.slice (RX ⟨d,0,RZ⟩) (n+s.size) b) z∧True∧True:=by
     have H:p.size=b:=by simpa using B
     exact⟨_,Lib.run_append_room_string (P:=P) w t u ty e i l m g k d n b p C s D (by omega),trivial,trivial⟩
    rw[j] at a;cases a;exact fun q c=>.inl c
   ·have H:p.size=b:=by simpa using B
    have a:=Lib.run_append_room_string (P:=P) w t u ty e i l m g k d n b p C s D (by omega);rw[j] at a;cases a;exact fun q c=>.inl c
  ·have N:f.length=n:=by simpa using h.1
   have a:=Lib.run_append_grow_string (P:=P) w t u ty e i (.int .u8 0) l m g y ⟨d,0,RZ⟩ n b f (by rw[k];simpa using N) (h.cells (g:=d) rfl) s (by omega) (by omega) (by rw[x];exact growslice_fits (by omega) (by omega));rw[j] at a;cases a;intro q c;simp[TQ] at c;exact .inr (by omega)
theorem ek{P:Sd}(w:R3){ops:Array Tx}{rest:List Tx}{o:Tx}{a:T6}{Q:Exit→T6→R3→Prop}(p:o.guard=RZ)(sl x:S3)(t u:Sg)
 (r:o.op= .call {callee:=.builtin .append,args:= #[sl,x],argTypes:= #[t,u]})
 (base:Nat) (e:Sg) (i:UL) (C:P.underlying t=RX (.slice e)) (D:P.underlying u=RX .string) (q:P.info? e=RX i) (F:i.zero=RX (.int .u8 0))
 (B:i.size=1) (l:i.bytes=1) (v:R2) (n:Nat) (c:List R2) (A:a.eval sl=v) (y:w.ownsRow base e 1 v n c) (s:ByteArray) (E:a.eval x= .string s)
 (g:n+s.size≤Sw) (m:n+s.size≤140737488355328) (k:base≤w.heap.size)
 (h:∀ b w',w'.ownsRow base e 1 b (n+s.size) (c ++ Lib.strCells s)→aP w w' v b→wpList P ops Q rest (a.put o.dst b) w'):wpList P ops Q (o :: rest) a w:=by
 refine wpList_plain p fun G j=>?_;obtain⟨b,w',z,d,f⟩:=qt (P:=P) w base t u o.type e i C D q F B l v n c y s g m k;unfold Oper.wp SE;simp only[r,VE,invoke,builtin,Uz,Sem.run_pure,Result.andThen_ok,List.map_toArray,U8,List.map_nil,A,E,z];exact j _ _ (h b w' d f)
def aL (k:Int)(v:az):List Nat:=if k=1 then ax (zz v.n) else if k=2 then[byteOf v.n] else ax v.s.size ++ bytesOf v.s
def jS(k:Int)(v:az)(h:v.s.size≤32):(aL k v).length≤42:=by
 have a:=ej 10 (zz v.n);have b:=ej 10 v.s.size;unfold aL
 split
 ·unfold ax;omega
 ·split
  ·simp
  ·rw[Sc,ai];unfold ax;omega
structure oG(v:az):Prop where
 lo: -9223372036854775808≤v.n
 hi:v.n≤9223372036854775807
 sz:v.s.size≤32
def aP.box{w a:R3}{v v1:R2}{o:U9}(h:aP (w.alloc o) a v v1):aP w a v v1:=((aP.refl w v).alloc o).trans h
def sV{w a:R3}{o:U9}(h:Si (w.alloc o).heap.size (w.alloc o) a):Si w.heap.size w a:=
 ((So _ _).alloc (R8 _) o).trans (h.mono (by simp))
def J9{w d:R3}{u u1 a b c:R2}{t:Sg}(e:u.ownBlock≠RX w.heap.size)(h:aP (w.alloc (.cells #[a,b,c] t)) d u u1):d.cell? ⟨w.heap.size,2,RZ⟩=RX c:=
 h.ij.cell (a:=⟨w.heap.size,2,RZ⟩) (v:=c) (by simp) (fun h=>e h.symm)
theorem jC(u:R2)(pre:List Nat)(v:az)(k:Int)(base:Nat)(w:R3)(C:k=1∨k=2∨k=3)(F:oG v)(O:pre.length≤4000000)(M:base≤w.heap.size)
 (c:w.ownsRow base 5 1 u pre.length (aA pre)):
 SF (aa.of RY) 122 #[u,.agg #[.bool v.null,.int .i64 v.n,.string v.s],.int .i64 k] w fun e w'=>∃ j,e= .returned j∧w'.ownsRow base 5 1 j (pre ++ aL k v).length (aA (pre ++ aL k v))∧aP w w' u j:=by
 obtain⟨r,n,o,p,q⟩:=TB aa.rT;obtain⟨l,m,L⟩:=F;rcases C with rfl|rfl|rfl
 ·rw[show aL 1 v=ax (zz v.n) from by simp[aL]];have y:=Cx v.n l m;have g:Sb (∀ a,SF (aa.of RY) 121 #[u,.int .u64 (zz v.n)] (w.alloc a) fun e w'=>∃ b,e= .returned b∧w'.ownsRow base 5 1 b (pre ++ ax (zz v.n)).length (aA (pre ++ ax (zz v.n)))∧aP (w.alloc a) w' u b):=fun a=>
   mZ u pre (zz v.n) base (w.alloc a) (AB _ l m) (by omega) (by simp;omega) (c.alloc a)
  clear c;go_enter aa.func122,Tryz.ntmps122
  go_wp2_with first
   |(go_at_call 140;refine(y _).mono ?_;rintro e t ⟨rfl,rfl⟩)
   |(go_at_call 121;refine(g.out _).mono ?_;rintro e t ⟨J,rfl,i,f⟩)
  go_ret;exact⟨_,rfl,i,f.box⟩
 ·rw[show aL 2 v=[byteOf v.n] from by simp[aL]];have G:V1.wrap v.n=v.n % 256:=by simp[IntKind.wrap,V4,VM]
  rw[lK] at G;generalize byteOf v.n=K at*;go_enter aa.func122,Tryz.ntmps122
  go_wp2_with (at_builtin;refine aS _ rfl _ _ 133 rfl base 5 r (.int .u8 0) 1 1 aa.underlying133 n o p q rfl (by decide) _ pre.length _ rfl ((c.alloc _).alloc _) ⟨w.heap.size+1,0,RZ⟩ 1 1 [.int .u8 (K:Int)] rfl (by decide) rfl (by simpa using je (w.alloc _) _ _) (kg _) (by unfold Sw;omega) (by omega) (by simp;omega) ?_;intro s x d h)
  go_ret;have B:aP w x u s:=aP.box (aP.append h);rw[fw] at d;exact⟨_,rfl,by simpa using d,B⟩
 ·rw[show aL 3 v=ax v.s.size ++ bytesOf v.s from by simp[aL],← SG];have Q:=ej 10 v.s.size;have E:u.ownBlock≠RX w.heap.size:=fun z=>by have:=(c.lt _ z).2;omega
  have g:Sb (∀ a,SF (aa.of RY) 84 #[u,.int .i64 (v.s.size:Int)] (w.alloc a) fun e w'=>∃ b,e= .returned b∧w'.ownsRow base 5 1 b (pre ++ ax v.s.size).length (aA (pre ++ ax v.s.size))∧aP (w.alloc a) w' u b):=fun a=>
   cV u pre v.s.size base (w.alloc a) (by omega) (by omega) (by simp;omega) (c.alloc a)
  have P:(pre ++ ax v.s.size).length≤4000010:=by rw[Sc];unfold ax;omega
  generalize pre ++ ax v.s.size=I at*;have A:=ai v.s;have D:=jr v.s;generalize bytesOf v.s=R at*;clear c;go_enter aa.func122,Tryz.ntmps122
  go_wp2_with first
   |(go_at_call 84;refine(g.out _).mono ?_;rintro e t ⟨J,rfl,i,f⟩;have N:=J9 E f;have H:=f.ij.size)
   |(at_builtin;refine ek _ rfl _ _ 133 9 rfl base 5 r aa.underlying133 aa.underlying9 n o p q _ I.length _ rfl i v.s rfl ?_ ?_ ?_ ?_;(unfold Sw;omega);omega;(simp at H;omega);intro s x d h)
  go_ret;rw[D] at d;refine⟨_,rfl,?_,(f.box).trans h⟩;rw[← A] at d;simpa [aA] using d
def wid (n:Nat):Nat:=if n≤1 then 0 else if n≤2 then 1 else if n≤4 then 2 else if n≤8 then 3 else if n≤16 then 4 else if n≤32 then 5 else if n≤64 then 6 else 7
def BV(n:Nat):wid n≤7:=by
 unfold wid
 repeat' split
 all_goals omega
def GY:∀ n,n<101→∀ t,t<8→(2 ^ t<n↔t<wid n):=by decide +kernel
def yK(n:Nat)(h:n≤100)(j:Nat)(c:j<n):j<2 ^ wid n:=by
 have a:=BV n;have b:=(GY n (by omega) (wid n) (by omega));omega
def My:∀ x,x<128→Lib.bitLen x=wid (x+1):=by decide +kernel
theorem QN(n:Nat)(p:n≤100)(w:R3):SF (aa.of RY) 110 #[.int .i64 n] w fun e w'=>e= .returned (.int .i64 (wid n))∧w'=w:=by
 have q:=BV n;have f:Sb (∀ a,a≤7→(pw a<(n:Int)↔a<wid n)):=fun a l=>by
  have:=GY n (by omega) a (by omega);unfold pw;omega
 generalize wid n=c at*;go_enter aa.func110,Tryz.ntmps110
 go_wp2_with fail
 go_loopw [3] (fun d wr=>∃ a:Nat,a≤c∧d= .int .i64 a∧wr=w) (fun d _=>8 - (S2 d).toNat)
 case atStart=>exact⟨0,SK _,rfl,rfl⟩
 case round=>
  obtain⟨a,l,rfl,rfl⟩:=hrel;have g:Sb (∀ w,SF (aa.of RY) 135 #[.int .i64 a] w fun e w'=>e= .returned (.int .i64 (pw a))∧w'=w):=fun w=>IN a (by omega) w;have b:=f.out a (by omega);generalize pw a=m at*;by_cases h:a<c
  ·have k:=b.2 h;clear b
   go_wp2_with (go_at_call 135;refine(g.out _).mono ?_;rintro e o ⟨rfl,rfl⟩)
   go_roundw
   case rel=>exact⟨a+1,by omega,by go_num,trivial⟩
   case measure=>simp[S2];omega
  ·have k:¬ m<(n:Int):=fun j=>h (b.1 j);have i:Sb (a=c):=by show a=c;omega
   clear b f
   go_wp2_with (go_at_call 135;refine(g.out _).mono ?_;rintro e o ⟨rfl,rfl⟩)
   go_ret;exact⟨by rw[← i.out];rfl,rfl⟩
def Me:∀ y:Nat,y<128→∀ h:y<Lib.len8tab.size,Lib.len8tab[y].toNat=Lib.bitLen y:=by decide +kernel
def Iu(x:Int)(w:R3)(a:0≤x)(h1:x≤127):SF (aa.of RY) 175 #[.int .u64 x] w fun e w'=>e= .returned (.int .i64 (Lib.bitLen x.toNat))∧w'=w:=by
 go_enter aa.func175,Tryz.ntmps175;go_wp2
 all_goals (go_ret;refine⟨congrArg Ending.returned (congrArg (T7 Wb) ?_),rfl⟩)
 all_goals
  have b:=Me x.toNat (by omega) (by omega);have c:=Lib.bitLen_le8' x a (by omega);rw[b];unfold Tw;omega
def Nn(x:Int)(w:R3)(a:0≤x)(h1:x≤127):SF (aa.of RY) 167 #[.int .u64 x] w fun e w'=>e= .returned (.int .i64 (Lib.bitLen x.toNat))∧w'=w:=by
 go_enter aa.func167,Tryz.ntmps167
 go_wp2_with (go_at_call 175;refine(Iu x _ a h1).mono ?_;rintro e w' ⟨rfl,rfl⟩)
 go_ret;exact⟨rfl,rfl⟩
theorem D7(n:Nat)(d:n≤100)(w:R3):SF (aa.of RY) 158 #[.int .i64 n] w fun e w'=>e= .returned (.int .i64 (wid n))∧w'=w:=by
 by_cases c:n<2
 ·rw[show wid n=0 from by unfold wid;rw[if_pos (by omega)]];go_enter aa.func158,Tryz.ntmps158;go_wp2;go_ret;exact⟨rfl,rfl⟩
 ·have b:Sb (∀ w,SF (aa.of RY) 167 #[.int .u64 ((n:Int) - 1)] w fun e w'=>e= .returned (.int .i64 (wid n))∧w'=w):=fun w=>by
   have a:=Nn ((n:Int) - 1) w (by omega) (by omega);rw[My _ (by omega),show((n:Int) - 1).toNat+1=n by omega] at a;exact a
  go_enter aa.func158,Tryz.ntmps158
  go_wp2_with (go_at_call 167;refine(b.out _).mono ?_;rintro e w' ⟨rfl,rfl⟩)
  go_ret;exact⟨rfl,rfl⟩
def Apart(u v:R2):Prop:=u.ownBlock=RZ∨u.ownBlock≠v.ownBlock
def Apart.symm{u v:R2}(h:Apart u v):Apart v u:=by
 rcases h with h|h
 ·cases a:v.ownBlock with
  |none=>exact .inl a
  |some c=>exact .inr (by rw[h,a];simp)
 ·exact .inr (fun b=>h b.symm)
def eG{w w':R3}{base e a n:Nat}{u v f:R2}{b:List R2}(h:w.ownsRow base e a u n b)(d:aP w w' v f)(c:Apart u v):w'.ownsRow base e a u n b:=
 h.kept d.ij c
def Apart.kQ{w w':R3}{base e j n:Nat}{u v f:R2}{k:List R2}(g:Apart u v)(h:w.ownsRow base e j u n k)(i:aP w w' v f):Apart u f:=by
 rcases g with a|a
 ·exact .inl a
 ·cases b:u.ownBlock with
  |none=>exact .inl b
  |some c=>
   right
   intro e;rw[b] at e a;have l:=(h.lt c b).2;rcases i.at_ c e.symm with d|d
   ·exact a d.symm
   ·omega
def Apart.new{w:R3}{base B e g n:Nat}{a i f:Nat}{u v:R2}{j k:List R2}{w':R3}(h:w.ownsRow base e g u n j)(d:w'.ownsRow w.heap.size a i v f k):Apart u v:=by
 cases b:u.ownBlock with
 |none=>exact .inl b
 |some c=>
  right
  intro a;rw[b] at a;have l:=(h.lt c b).2;have m:=(d.lt c a.symm).1;omega
def qV (w:R3)(v:R2)(l:List az):Prop:=∃ a b d c,v= .slice a l.length c∧sM w a b d l
def qV.below{w w':R3}{v:R2}{l:List az}(h:qV w v l)(d:Si w.heap.size w w'):qV w' v l:=by
 obtain⟨a,b,e,c,rfl,h⟩:=h;exact⟨a,b,e,c,rfl,h.below d⟩
def D2(x:az)(r:List az):aC (x :: r)=[.bool x.null,.int .i64 x.n,.string x.s] ++ aC r:=by simp[aC]
def qP(a b:List az):aC (a ++ b)=aC a ++ aC b:=by simp[aC]
def yE(x:az):aC [x]=[.bool x.null,.int .i64 x.n,.string x.s]:=by simp[aC]
theorem lB(l:List az):∀ (j:Nat) (h:j<l.length),(aC l)[j*3]? =RX (.bool l[j].null)∧(aC l)[j*3+1]? =RX (.int .i64 l[j].n)∧(aC l)[j*3+2]? =RX (.string l[j].s):=by
 induction l with
 |nil=>intro j h;simp at h
 |cons d c b=>
  intro j h;rw[D2];cases j with
  |zero=>simp
  |succ j=>
   have:=b j (by simpa using h);have a:(j+1)*3=j*3+3:=by omega
   rw[a,To (by simp),To (by simp),To (by simp)];simpa [show j*3+3+1 - 3=j*3+1 by omega,show j*3+3+2 - 3=j*3+2 by omega] using this
theorem qV.cy{w:R3}{base:Nat}{v:R2}{l:List az}(h:w.ownsRow base 59 3 v l.length (aC l)):qV w v l:=by
 rcases h.2 with⟨rfl,f⟩|⟨c,e,g,rfl,i,m,n,j,k,o⟩
 ·have:l=[]:=TA f;subst this;exact⟨RZ,0,0,0,rfl,⟨fun h=>by simp at h,fun h=>by simp at h,fun a h=>by simp at h,fun a h=>by simp at h,fun a h=>by simp at h⟩⟩
 ·have d:=h.cells (g:=c) rfl;refine⟨RX ⟨c,0,RZ⟩,c,0,e,rfl,⟨fun _=>rfl,fun _=>(h.lt c rfl).2,?_,?_,?_⟩⟩
  ·intro a b;have:=d _ _ (lB l a b).1;simpa [TW] using this
  ·intro a b;have:=d _ _ (lB l a b).2.1;simpa [TW] using this
  ·intro a b;have:=d _ _ (lB l a b).2.2;simpa [TW] using this
def idx:List az→az→Nat
 | [],_=>0
 |y :: b,a=>if JC y a then 0 else idx b a+1
def Pa(l:List az)(x:az):idx l x≤l.length:=by
 induction l with
 |nil=>simp[idx]
 |cons c b a=>simp only[idx];split<;>simp<;>omega
def EU(l:List az)(x:az):∀ j,(h:j<l.length)→j<idx l x→JC l[j] x=R6:=by
 induction l with
 |nil=>intro j h;simp at h
 |cons e d c=>
  intro j h a;simp only[idx] at a
  split at a
  ·omega
  ·rename_i b;cases j with
   |zero=>simpa using b
   |succ j=>exact c j (by simpa using h) (by omega)
def ET(l:List az)(x:az)(h:idx l x<l.length):l[idx l x]=x:=by
 induction l with
 |nil=>simp at h
 |cons c d b=>
  simp only[idx] at h ⊢;by_cases a:JC c x=R7
  ·simp only[a,if_true];exact qh.1 a
  ·simp only[a] at h ⊢;exact b (by simpa using h)
def aE (k:Int)(l:List az):List Nat:=l.flatMap (aL k)
def Bh(k:Int)(l:List az)(i:Nat)(h:i<l.length):aE k (l.take (i+1))=aE k (l.take i) ++ aL k l[i]:=by
 rw[Su h];unfold aE;rw[Tf,Ta]
def lW(k:Int)(l:List az)(h:∀ x∈l,oG x):(aE k l).length≤42*l.length:=by
 induction l with
 |nil=>simp[aE]
 |cons x f c=>
  have a:=c (fun d b=>h d (by simp[b]));have e:=jS k x (h x (by simp)).sz;unfold aE at a ⊢;simp at a ⊢;omega
theorem og(u y:R2)(pre:List Nat)(l:List az)(k:Int)(base:Nat)(w:R3)(M:k=1∨k=2∨k=3)(v:∀ x∈l,oG x)(Y:l.length≤100)(X:pre.length≤50000)(V:base≤w.heap.size)
 (c:w.ownsRow base 5 1 u pre.length (aA pre)) (j:∀ w' b,aP w w' u b→qV w' y l):
 SF (aa.of RY) 146 #[u,y,.int .i64 k] w fun e w'=>∃ b,e= .returned b∧w'.ownsRow base 5 1 b (pre ++ aE k l).length (aA (pre ++ aE k l))∧aP w w' u b:=by
 obtain⟨G,q,z,T,rfl,d⟩:=j w u (aP.refl _ _);have B:Sb (∀ w' b,aP w w' u b→∃ q z,sM w' G q z l):=fun w' b K=>by
  obtain⟨R,H,Q,U,J,I⟩:=j w' b K;cases J;exact⟨H,Q,I⟩
 have p:Sb (∀ x∈l,oG x):=v;clear j d v;go_enter aa.func146,Tryz.ntmps146
 go_wp2_with fail
 go_loopw [0,11] (fun r m wr=>∃ (a:Nat),a≤l.length∧m= .int .i64 a∧wr.ownsRow base 5 1 r (pre ++ aE k (l.take a)).length (aA (pre ++ aE k (l.take a)))∧aP w wr u r) (fun _ m _=>l.length - (S2 m).toNat)
 case atStart=>exact⟨0,SK _,rfl,by simpa [aE] using c,aP.refl _ _⟩
 case round=>
  clear c;obtain⟨a,W,rfl,c,f⟩:=hrel;have n:Sb (aP w wr u u0):=f;have ab:w.heap.size≤wr.heap.size:=f.ij.size;by_cases g:a<l.length
  ·obtain⟨S,ad,d⟩:=B.out wr u0 f;obtain rfl:=d.addr (by omega);have ae:=d.c0 a g;have al:=d.c1 a g;have am:=d.c2 a g;have o:=Bh k l a g;have N:(aE k (l.take a)).length≤4200:=by
    have:=lW k (l.take a) (fun x P=>p.out x (UO P));rw[TO] at this;omega
   have F:Sb (oG l[a]):=p.out _ (Sl g);have E:Sb (aE k (l.take (a+1))=aE k (l.take a) ++ aL k l[a]):=o;clear o d f;generalize l[a]=x at*;have Z:(pre ++ aE k (l.take a)).length≤60000:=by rw[Sc];omega
   generalize t:pre ++ aE k (l.take a)=i at*;have D:Sb (pre ++ aE k (l.take a)=i):=t;clear t N;have A:Sb (∀ h,SF (aa.of RY) 122 #[u0,.agg #[.bool x.null,.int .i64 x.n,.string x.s],.int .i64 k] (wr.alloc h) fun e w'=>∃ b,e= .returned b∧w'.ownsRow base 5 1 b (i ++ aL k x).length (aA (i ++ aL k x))∧aP (wr.alloc h) w' u0 b):=fun h=>
    jC u0 i x k base (wr.alloc h) M F.out (by omega) (by simp;omega) (c.alloc h)
   go_wp2_with (go_at_call 122;refine(A.out _).mono ?_;rintro e ar ⟨ao,rfl,O,L⟩)
   go_roundw
   case rel=>
    refine⟨a+1,by omega,by go_num,?_,n.out.trans L.box⟩;rw[E.out,← SG,D.out];exact O
   case measure=>simp[S2];omega
  ·have s:l.take a=l:=Tj (by omega);rw[s] at c;have C:Sb (wr.ownsRow base 5 1 u0 (pre ++ aE k l).length (aA (pre ++ aE k l))):=c;clear c s f;go_wp2;go_ret;exact⟨_,rfl,C.out,n.out⟩
def bM:Int→List az→List Nat
 |_,[]=>[]
 |a,v :: b=>ax (zz (Tw (v.n - a))) ++ bM v.n b
def fA:Int→List az→Int
 |a,[]=>a
 |_,v :: b=>fA v.n b
def CA(a:Int)(l:List az)(x:az):bM a (l ++ [x])=bM a l ++ ax (zz (Tw (x.n - fA a l))):=by
 induction l generalizing a with
 |nil=>simp[bM,fA]
 |cons d c b=>simp[bM,fA,b]
def EX(a:Int)(l:List az)(x:az):fA a (l ++ [x])=x.n:=by
 induction l generalizing a with
 |nil=>simp[fA]
 |cons d c b=>simp[fA,b]
def y8(a:Int)(l:List az):(bM a l).length≤10*l.length:=by
 induction l generalizing a with
 |nil=>simp[bM]
 |cons b f c=>
  have d:=c b.n;have e:=ej 10 (zz (Tw (b.n - a)));simp only[bM,Sc,T0];unfold ax;omega
def gX(x:Int): -9223372036854775808≤Tw x∧Tw x≤9223372036854775807:=by unfold Tw;omega
def mN:Prop:=∀ (e f:R2) (pre:List Nat) (a:List az) (base:Nat) (c:R3) (n:∀ h∈a,oG h) (l:a.length≤100) (k:pre.length≤50000) (i:base≤c.heap.size) (m:c.ownsRow base 5 1 e pre.length (aA pre)) (j:∀ d b,aP c d e b→qV d f a),
 SF (aa.of RY) 143 #[e,f] c fun g d=>∃ b,g= .returned b∧d.ownsRow base 5 1 b (pre ++ bM 0 a).length (aA (pre ++ bM 0 a))∧aP c d e b
def xy(x:Int):∀ u∈[T7 .i64 x],u.oneCell'=R7:=by
 intro u a;simp at a;subst a;rfl
theorem Ep(u:R2)(l:List az)(w:R3)(O:l.length≤100)(I:qV w u l):
 SF (aa.of RY) 145 #[u] w fun e w'=>∃ v,e= .returned v∧w'.ownsRow w.heap.size 3 1 v l.length (aW (l.map az.n))∧Si w.heap.size w w':=by
 obtain⟨A,B,J,M,rfl,b⟩:=I;obtain⟨t,k,q,r,s⟩:=TB aa.CP;have y:Sb (sM w A B J l):=b;clear b;go_enter aa.func145,Tryz.ntmps145
 go_wp2_with (at_make;refine Ui _ rfl _ _ 22 rfl w.heap.size 3 t (.int .i64 0) 1 aa.underlying22 k q r .i64 .i64 _ l.length rfl rfl rfl (by rw[s];omega) (by unfold Sw;omega) (R8 _) ?_;intro K o j)
 have i:Si w.heap.size w K:=(So _ _).grown j (R8 _) (by simp);clear j
 go_loopw [3,11] (fun C g wr=>∃ (a:Nat),a≤l.length∧g= .int .i64 a∧wr.ownsRow w.heap.size 3 1 C a (aW ((l.take a).map az.n))∧Si w.heap.size w wr) (fun _ g _=>l.length - (S2 g).toNat)
 case atStart=>exact⟨0,SK _,rfl,o,i⟩
 case round=>
  clear o i;obtain⟨a,N,rfl,c,d⟩:=hrel;have h:Sb (Si w.heap.size w wr):=d;have H:w.heap.size≤wr.heap.size:=d.size;by_cases f:a<l.length
  ·have b:=y.out.below d;obtain rfl:=b.addr (by omega);have P:=b.c0 a f;have Q:=b.c1 a f;have R:=b.c2 a f;have z:Sb ((l.take (a+1)).map az.n=(l.take a).map az.n ++ [l[a].n]):=by
    show _=_;rw[Su f,Tb];rfl
   clear b d;generalize l[a]=L at*
   go_wp2_with (at_builtin;refine aS _ rfl _ _ 22 rfl w.heap.size 3 t (.int .i64 0) 1 8 aa.underlying22 k q r s rfl (by decide) _ a _ rfl ((c.alloc _).alloc _) ⟨wr.heap.size+1,0,RZ⟩ 1 1 [.int .i64 L.n] rfl (by decide) rfl (by simpa using je (wr.alloc _) _ _) (xy _) (by unfold Sw;omega) (by omega) (by simp;omega) ?_;intro S T p G)
   go_roundw
   case rel=>
    have F:=aP.box (aP.append G);rw[j8] at p;refine⟨a+1,by omega,by go_num,by rw[z.out];exact p,h.out.trans (F.below (fun D E=>(c.lt D E).1) H)⟩
   case measure=>simp[S2];omega
  ·have m:l.take a=l:=Tj (by omega);have n:a=l.length:=by omega
   rw[m] at c;have x:Sb (wr.ownsRow w.heap.size 3 1 u3 l.length (aW (l.map az.n))):=by rw[n] at c;exact c
   clear c m d n;go_wp2;go_ret;exact⟨_,rfl,x.out,h.out⟩
def qx (w:R3)(v:R2)(a:List Int):Prop:=∃ d b e f,v= .slice d a.length f∧(0<a.length→d=RX ⟨b,e,RZ⟩)∧(0<a.length→b<w.heap.size)∧∀ c,c<a.length→w.cell? ⟨b,e+c,RZ⟩=RX (.int .i64 (a.getD c 0))
theorem qx.cy{w:R3}{base:Nat}{v:R2}{a:List Int}(h:w.ownsRow base 3 1 v a.length (aW a)):qx w v a:=by
 rcases h.2 with⟨rfl,f⟩|⟨b,e,i,rfl,j,m,n,k,l,o⟩
 ·have:a=[]:=TA f;subst this;exact⟨RZ,0,0,0,rfl,fun h=>by simp at h,fun h=>by simp at h,fun d h=>by simp at h⟩
 ·have g:=h.cells (g:=b) rfl;refine⟨RX ⟨b,0,RZ⟩,b,0,e,rfl,fun _=>rfl,fun _=>(h.lt b rfl).2,?_⟩;intro d c;have:=g _ _ (ES a d c);rw[eJ c];simpa [TW] using this
def Qy:laidOutB (aa.of RY)=R7:=by kernel_rfl
def QJ:(59:Sg)<(aa.of RY).types.size:=of_decide_eq_true (by kernel_rfl)
def RO:(aa.of RY).keyTypeAt 2 59=R7:=by kernel_rfl
def Nl:Maps.Keyed (aa.of RY) 59:=WK (deep_law_laid Qy (m:=2) (by omega) QJ RO (by rw[aa.underlying59]))
def Kh:(aa.of RY).cellsOf 59=3:=by kernel_rfl
def MW:(aa.of RY).cellsOf 4=1:=by kernel_rfl
def MX:(aa.of RY).cellsOf 3=1:=by kernel_rfl
def MY:(aa.of RY).cellsOf 9=1:=by kernel_rfl
def Jl(n:Nat)(h:59<n):∃ m,n=m+1:=⟨n - 1,by omega⟩
def QL:∃ m,(aa.of RY).types.size=m+1:=Jl _ QJ
def KZ:(aa.of RY).keyType 59=R7:=by kernel_rfl
def kl (x:az):Lit:=.string (keyBytes [.bool x.null,.int .i64 x.n,.string x.s.data.toList])
def wf_i64(a:Int)(b: -9223372036854775808≤a)(h1:a≤9223372036854775807):(Lit.int .i64 a).wf=R7:=by
 simp[Lit.wf,IntKind.min,IntKind.max,VM,V4];omega
theorem EW(x:az)(h:oG x):keyOf (aa.of RY) 59 (.agg #[.bool x.null,.int .i64 x.n,.string x.s])=RX (kl x):=by
 obtain⟨m,b⟩:=QL;have d:=wf_i64 x.n h.lo h.hi;have c:x.s.size≤Sw:=by have:=h.sz;unfold Sw;omega
 have a:(Value.agg #[.bool x.null,.int .i64 x.n,.string x.s]).formed (aa.of RY) 59=R7:=by simp[Value.formed,aa.underlying59,Kh]
 unfold keyOf;simp only[aa.underlying59,KZ,a,Bool.and_self,if_true,b];unfold Program.keyLits;simp[aa.underlying59,Kh,MW,MX,MY,Uw,Program.keyLits,aa.underlying4,aa.underlying3,aa.underlying9,d,c,kl]
def K6{x y:az}(b:oG x)(c:oG y)(h:kl x=kl y):x=y:=by
 have a:=Nl.inj (EW x b) (by rw[h];exact EW y c);cases x;cases y;simp at a;simp[a]
def K7(x:az):WideAt.IsKeyLit (kl x):=trivial
def ins (d:List az)(v:az):List az:=if idx d v<d.length then d else d ++ [v]
def qB(d:List az)(x:az)(r:List az)(h:idx d x<d.length):idx (d ++ r) x=idx d x:=by
 induction d with
 |nil=>simp at h
 |cons c e b=>
  simp only[idx,Uk] at h ⊢;by_cases a:JC c x=R7
  ·simp[a]
  ·simp only[a] at h ⊢;have:=b (by simpa using h);simp[this]
def gC(d:List az)(x:az)(h:¬ idx d x<d.length)(v:az):idx (d ++ [v]) x=if JC v x then d.length else d.length+1:=by
 induction d with
 |nil=>simp[idx]
 |cons c e b=>
  simp only[idx,Uk] at h ⊢;by_cases a:JC c x=R7
  ·simp[a] at h
  ·simp only[a] at h ⊢;have:=b (by simpa using h);rw[if_neg (by simp),this]
   split<;>simp
def A4(d:List az)(v:az):idx (ins d v) v=idx d v∧idx (ins d v) v<(ins d v).length∧(¬ idx d v<d.length→idx d v=d.length):=by
 have c:=Pa d v;unfold ins;by_cases a:idx d v<d.length
 ·simp only[a,if_true];exact⟨trivial,trivial,fun a=>absurd trivial a⟩
 ·have b:JC v v=R7:=qh.2 rfl;have:=gC d v a v;rw[b] at this;simp only[a,if_false];simp at this;rw[this];refine⟨by omega,by simp,fun _=>by omega⟩
def wI (s:List az×List Nat)(v:az):List az×List Nat:=(ins s.1 v,s.2 ++ [idx (ins s.1 v) v])
def dfold(l:List az):List az×List Nat:=l.foldl wI ([],[])
def dfold_succ(l:List az)(k:Nat)(h:k<l.length):dfold (l.take (k+1))=wI (dfold (l.take k)) l[k]:=by
 unfold dfold;rw[Su h,List.foldl_append];rfl
def EV(d:List az)(v:az):(ins d v).length≤d.length+1∧d.length≤(ins d v).length:=by
 unfold ins;split<;>simp
def Nj(d:List az)(v x:az)(h:x∈ins d v):x∈d∨x=v:=by
 unfold ins at h
 split at h
 ·exact .inl h
 ·rcases S7.1 h with h|h
  ·exact .inl h
  ·exact .inr (by simpa using h)
theorem wH(l:List az):∀ k,k≤l.length→(dfold (l.take k)).1.length≤k∧(dfold (l.take k)).2.length=k∧(∀ p∈(dfold (l.take k)).2,p<(dfold (l.take k)).1.length)∧(∀ x∈(dfold (l.take k)).1,x∈l):=by
 intro k
 induction k with
 |zero=>intro _;simp[dfold]
 |succ k h=>
  intro b;obtain⟨i,c,d,e⟩:=h (by omega);rw[dfold_succ l k (by omega)];have j:=EV (dfold (l.take k)).1 l[k];have g:=A4 (dfold (l.take k)).1 l[k];unfold wI;refine⟨by simp only;omega,by simp[c],?_,?_⟩
  ·intro p a;simp only at a ⊢;rcases S7.1 a with a|a
   ·have:=d p a;omega
   ·simp at a;rw[a];exact g.2.1
  ·intro x f;rcases Nj _ _ _ f with b|b
   ·exact e x b
   ·rw[b];exact Sl _
structure Knows(D:DataW Unit)(d:List az):Prop where
 map:Maps.IsMap D
 has:∀ x,oG x→Maps.has D (kl x)=decide (idx d x<d.length)
 at_:∀ x,oG x→idx d x<d.length→D.atKey (kl x) (.lit (.int .i64 0))= .lit (.int .i64 (idx d x:Int))
def Knows.empty:Knows (.map []) []:=⟨Maps.isMap_empty,fun b _=>by simp[Maps.has_eq],fun b _ a=>by simp at a⟩
theorem Knows.put{D:DataW Unit}{d:List az}(h:Knows D d)(v:az)(k:oG v)(j:¬ idx d v<d.length):Knows (D.put (kl v) (.lit (.int .i64 (d.length:Int)))) (d ++ [v]):=by
 have l:JC v v=R7:=qh.2 rfl;refine⟨h.map.put _ _,?_,?_⟩
 ·intro a e;by_cases b:a=v
  ·subst b;rw[Maps.has_put_same h.map (K7 a)];have:=gC d a j a;rw[l] at this;simp at this;simp[this]
  ·rw[Maps.has_put_other (fun f=>b (K6 e k f)),h.has a e];by_cases c:idx d a<d.length
   ·rw[qB d a [v] c];simp;omega
   ·rw[gC d a c v];have:JC v a=R6:=by
     rw[Bool.eq_false_iff];intro g;exact b (qh.1 g).symm
    rw[this];simp;omega
 ·intro a e c;by_cases b:a=v
  ·subst b;rw[Maps.atKey_put_same h.map (K7 a)];have:=gC d a j a;rw[l] at this;simp at this;rw[this]
  ·rw[Maps.atKey_put_other (fun f=>b (K6 e k f))];by_cases i:idx d a<d.length
   ·rw[qB d a [v] i];exact h.at_ a e i
   ·exfalso
    rw[gC d a i v] at c;have:JC v a=R6:=by
     rw[Bool.eq_false_iff];intro g;exact b (qh.1 g).symm
    rw[this] at c;simp at c
def aa.oU:((aa.of RY).info? 59).map (fun i=>(i.zero,i.size,i.bytes))=RX (RX (.agg #[.bool R6,.int .i64 0,.string ⟨#[]⟩]),3,32):=by kernel_rfl
def OL(w:R3):(T9 3).run (aa.of RY) w= .ok (.int .i64 0) w:=by kernel_rfl
def zY{w:R3}{base e b n:Nat}{v:R2}{c:List R2}(h:w.ownsRow base e b v n c):∃ a cap,v= .slice a n cap:=by
 rcases h.2 with⟨rfl,rfl⟩|⟨f,cap,d,rfl,_⟩
 ·exact⟨RZ,0,rfl⟩
 ·exact⟨_,_,rfl⟩
def js(w:R3)(a b c:R2)(t:Sg):∀ (j:Nat) (u:R2),[a,b,c][j]? =RX u→(w.alloc (.cells #[a,b,c] t)).cell? ((⟨w.heap.size,0,RZ⟩:SL).add j)=RX u:=by
 intro j u d
 match j,d with
 |0,d=>simp at d;subst d;simp[V8]
 |1,d=>simp at d;subst d;simp[TW]
 |2,d=>simp at d;subst d;simp[TW]
def gT(x:az):∀ u∈[UD x.null,.int .i64 x.n,.string x.s],u.oneCell'=R7:=by
 intro u a;simp at a;rcases a with rfl|rfl|rfl<;>rfl
def Hq{w d:R3}{a b c:R2}{t:Sg}{g:Option Nat}(e:(w.alloc (.cells #[a,b,c] t)).grownBy d g)(f:RX w.heap.size≠g):
 d.cell? ⟨w.heap.size,0,RZ⟩=RX a∧d.cell? ⟨w.heap.size,1,RZ⟩=RX b∧d.cell? ⟨w.heap.size,2,RZ⟩=RX c:=
 ⟨e.cell (a:=⟨w.heap.size,0,RZ⟩) (by simp) f,e.cell (a:=⟨w.heap.size,1,RZ⟩) (by simp) f,e.cell (a:=⟨w.heap.size,2,RZ⟩) (by simp) f⟩
def aP.bS{w w':R3}{u:R2}(h:Si w.heap.size w w'):aP w w' u u:=⟨⟨h.1,h.2,h.3,h.4,fun b a _=>h.block b a⟩,fun _ h=>.inl h⟩
def dZ (k:Int)(l:List az):List Nat:=ax (dfold l).1.length ++ (aE k (dfold l).1 ++ cX (wid (dfold l).1.length) (dfold l).2)
def qw:Prop:=∀ (d f:R2) (pre:List Nat) (b:List az) (a:Int) (base:Nat) (c:R3) (k:a=1∨a=2∨a=3) (o:∀ i∈b,oG i) (m:b.length≤100) (l:pre.length≤40000) (j:base≤c.heap.size) (n:c.ownsRow base 5 1 d pre.length (aA pre)) (p:qV c f b),
 SF (aa.of RY) 144 #[d,f,.int .i64 a] c fun h g=>∃ e,h= .returned e∧g.ownsRow base 5 1 e (pre ++ dZ a b).length (aA (pre ++ dZ a b))∧aP c g d e
end Ec
end Go.Proofs.YtjidbonhhpkljaaGreat
