/- What the proof stands on, in short names. -/
import Derived.Test.YtjidbonhhpkljabGreatMa
import Derived.Conc.WalkWords
import Derived.Orders
import Derived.Conc.DeferLaws
import Derived.Conc.EventLaws
import Derived.Conc.Neutral
import Derived.Conc.AppendWalk
import Derived.Conc.SmallLaws
import Derived.Conc.AppendEvents3
import Derived.Deep.MidRow
import Derived.Laws.AppendOwn
import Derived.Laws.MakeOwn
import Derived.Great.BuildSlice
import Derived.RangeFuncRecord
import Derived.RangeFuncIn
import Derived.Calls
import Derived.Test.YtjidbonhhpkljabGreatProg
import Derived.KernelRfl
import Derived.WalkKit
import Derived.Test.YtjidbonhhpkljabGreatRows
import Derived.ProofKit
import Derived.Deep.QuietTactic
import Derived.BigQuiet
import Derived.Laws.BytesArg
import Derived.Deep.RegionWith
import Derived.Laws.BitsLemmas
import Derived.ArgAppend
import Derived.Laws.CopyOwn
import Derived.Laws.StructEq
import Derived.Lib.AppendStr
import Derived.Lib.Strings
import Derived.Lib.Slices
import Derived.Lib.Small
import Derived.Lib.Walk
import Derived.Lib.BitFns
import Derived.Maps.OwnSet
import Derived.Maps.OwnOps
import Derived.DeepKeys4
set_option linter.all false
open Array renaming ext_getElem?->Yo,getD_eq_getD_getElem?->Vt,getElem?_eq_getElem->VT,getElem?_eq_none->Wl,getElem?_eq_some_iff->U4,getElem?_modify->WT,getElem?_push->VF,getElem?_setIfInBounds->VE,getElem?_setIfInBounds_ne->WY,length_toList->WW,range->Y3,replicate->V8
open BitVec renaming ofInt->Yf
open Bool renaming and_eq_true->Vr,false->U5,false_eq_true->Vv,or_eq_true->Yj,true->Z
open Classical renaming choose->Wq,choose_spec->Vo
open Go renaming Act->Xa,Addr->VI,Code->XQ,Deferred->Xs,Ending->X6,Event->Wm,Frame->Vg,Func->XJ,FuncId->Xb,GStep->Zr,Goroutine->VL,IntKind->XL,Item->XR,Obj->Yk,Oper->Ww,Operand->V4,PanicEntry->Ws,Program->Vb,Sem->XH,TypeId->Vc,TypeInfo->XX,Value->U,World->F,doReturn->Yb,execOp->Vw,exitTo->YE,info_parts->Wo,madeCells->YH,maxLen->Vp,resolve->Y6,results->V0,run_underlying->X5,sizeOf->Zg,stepG->VN,tryRecover->Ys,typeInfo->Yc,undef->V9,underlying->Yt,unwind->Zh,wpList_make_own->XD,yielded->We,zeroValue->Xl
open Go.Act renaming put->WH
open Go.Addr renaming add->Zl,add_lit->WZ,add_mid->YN
open Go.Addr.mk renaming injEq->Xk
open Go.Builtin renaming append_->YY
open Go.Conc renaming G->Vd,served->Xr
open Go.ConcN renaming sumTo->YP
open Go.Deferred renaming ofValue->YQ
open Go.Extern renaming find->Zz
open Go.Extern.BytealgCompare renaming compare->YA
open Go.Extern.Bytes renaming bytesOf->ZM,loadBytes->ZK
open Go.Extern.ReflectliteType renaming rows->Zo
open Go.Extern.RuntimeError renaming boundsError->ZT,boundsErrorFmts->ZP,boundsNegErrorFmts->ZN,described->ZE,pkgpathOf->ZF,rows->V6,text->ZJ,typeAssertionError->Zq,unhashableTypeError->Zp
open Go.Extern.RuntimeError.boundsError renaming match_1->ZL
open Go.Frame renaming enter->VU,finish->WJ,finish_at->YK,round->Xt
open Go.GStep renaming after->XZ
open Go.Goroutine.mk renaming injEq->ZH
open Go.Instr renaming buildSlice->X9,fill->YL,sureAddr->Yg
open Go.IntKind renaming bits->Zf,i64->ZA,signed->YV,u64->Xu,u8->Zs
open Go.Item.inRegion renaming injEq->YM
open Go.Maps.Keyed renaming of_law->Z6
open Go.Proofs.Tryz renaming prog->U1
open Go.Region renaming binds->Wn,ready->VX,schedule->Y0,wanted->VA
open Go.Region.linearise renaming go->V5
open Go.RowKit renaming Below->XC,intOf->V3,wrap64->Wj
open Go.RowKit.Below renaming refl->Vi
open Go.Sem renaming run->XE,runT_eq->Zd,run_bind->XW
open Go.Value renaming bool->XU,cells->WV,int->Xm,ownBlock->Wz
open Go.Value.slice renaming injEq->V7
open Go.World renaming drewN_drewN->Yi
open Go.World.grownBy renaming refl->ZR
open Go.stepG renaming apply->WO,exec->VG
open List renaming all_eq_true->Vx,append_assoc->Vu,cons_append->XF,drop_eq_getElem_cons->Xy,eq_nil_of_length_eq_zero->Wt,getD->ZB,getElem?_append_right->Wb,getElem_mem->Vn,getElem_of_mem->WN,length_append->U8,length_cons->WS,length_drop->Yd,length_map->VQ,length_take->WB,map_append->V1,map_cons->Yy,mem_append->VM,mem_cons->WI,mem_cons_self->Yu,mem_map->Wu,mem_range->WK,not_mem_nil->YS,range->VS,take_of_length_le->VJ,take_succ_eq_append_getElem->Vh
open List.cons renaming injEq->Yl
open MonadExceptOf renaming throw->ZG
open Nat renaming add_assoc->Wc,eq_zero_or_pos->Yv,le_refl->U7,le_trans->Vm,lt_of_lt_of_le->U9,lt_or_ge->WG,pow_add->Y7,pow_le_pow_right->Xx,pow_succ->Yz,zero_add->VV,zero_le->VB
open Option renaming bind_eq_some_iff->VO,bind_some->YT,getD_some->Ye,isNone_iff_eq_none->Xi,map_eq_some_iff->XB,map_some->Xc,none->K,some->I
open Option.some renaming inj->Zm,injEq->VY
set_option maxRecDepth 100000
set_option maxHeartbeats 8000000
namespace Go.Proofs.YtjidbonhhpkljabGreat
namespace Cc
open Go Go.Conc
section
variable {P0 P:Vb}{Post:U->F->Prop}
def RC (P0 P:Vb)(Post:U->F->Prop)(f:F->Tr)(S O:Nat->Prop)(μ:Nat->Option (List U))(g:VL)(w:F)(c:Nat)(z:U)(g2:VL)(l0:List U):Prop:=
 μ c=I l0/\(g2.frame=g.frame/\g2.callers=g.callers/\g2.dying=g.dying)/\∀a,RelB (λb=>S b\/O b) w a->VN P Z g a= .comm g2 #[rcase c z] Z (.recv Z) a #[]/\
  match l0 with
  |v::d=>Mn P0 P Post (f a) (.sh S O (fV μ c (I d))) (Xr g2 (recvd Z v Z)) a
  | []=>Mn P0 P Post (f a) (.sh S O (fV μ c K)) (Xr g2 (recvd Z z U5)) a
def RC.rely{f:F->Tr}{S O:Nat->Prop}{μ:Nat->Option (List U)}{g:VL}{w a:F}{c:Nat}{z:U}{g2:VL}{l0:List U}(h:RC P0 P Post f S O μ g w c z g2 l0)(e:RelB (λb=>S b\/O b) w a):RC P0 P Post f S O μ g a c z g2 l0:=
 ⟨h.1,h.2.1,λi d=>h.2.2 i (e.trans d)⟩
def A7 (P0 P:Vb)(Post:U->F->Prop)(f:F->Tr)(S O:Nat->Prop)(μ:Nat->Option (List U))(g:VL)(gs:Array VL)(w:F)(wk:Nat->Option wT)(d:Nat):Prop:=
 (d=1/\∃b,gs[0]? =I b/\sI b g/\b.status= .running)\/
 (d=0/\∃a h e k j c i s l,gs[0]? =I (parked e #[rcase a h] (.recv Z))/\RC P0 P Post f S O μ g w a h e k/\wk j=I c/\c.c=a/\c.pc=K/\w.heap[a]? =I (.chan i #[] U5 s l U5))
def LP(μ:Nat->Option (List U)){c:Nat}{l:Option (List U)}(h:μ c=l):fV μ c l=μ:=by
 funext b;unfold fV
 split
 ·rename_i a;rw[a,h]
 ·rfl
section
variable {S O:Nat->Prop}{μ:Nat->Option (List U)}{gs:Array VL}{w w':F}{t:Trace}{wk:Nat->Option wT}{vs:Nat->List U}{q:Nat->Nat}{fc:Nat->Tr}
def Inv.MG(h:Inv P0 P S O μ gs w t wk vs q fc){i j:Nat}{x y:wT}(b:wk i=I x)(a:wk j=I y){es:Array Wm}(d:mH P0 S x.own w w' es):w'.heap[y.c]? =w.heap[y.c]? :=by
 refine d.keep _ (h.low j y a).1 ?_;by_cases c:j=i
 ·subst c;rw[b] at a;cases a;exact(h.low j x b).2.2.2.1
 ·exact(h.rV j i y x c a b).2.1
def Inv.yT(h:Inv P0 P S O μ gs w t wk vs q fc)(i c:Nat)(b:Bool)(j:∀e,i≠0->gs[0]? =I e->offersAt e c b=[]):partners (gs.setIfInBounds i ph) c b=[]:=by
 refine partners_nil λg d k=>?_;rcases getElem?_stand gs i g d k with⟨_,rfl⟩|⟨l,f⟩
 ·exact offersAt_ph c b
 ·rcases Yv g with rfl|m
  ·exact j d (λa=>l a.symm) f
  ·exact offersAt_of_not_blocked (by rcases h.status m f with a|a<;>rw[a]<;>simp) c b
end
def rK{gs:Array VL}{i:Nat}{g g':VL}(a:gs[i]? =I g):(gs.setIfInBounds i g')[i]? =I g':=Array.getElem?_setIfInBounds_self_of_lt (U4.1 a).1
def jo{gs:Array VL}{i j:Nat}{g':VL}(h:j≠i):(gs.setIfInBounds i g')[j]? =gs[j]? :=WY (λa=>h a.symm)
def EZ{k:Nat}{g:VL}(h:QuitsIn P k g):(g.status != .blocked&&g.status != .waiting)=Z:=by
 rcases h.status with a|a<;>rw[a]<;>rfl
def vZ{f:F->Tr}(c5:∀w,Pe P0 P Post (f w)){S O:Nat->Prop}{μ:Nat->Option (List U)}{g:VL}{n:Nat}{fc:Nat->Tr}
 (bb:∀b3,Down n b3 fc->∀w,Mn P0 P Post (.mk f) (.sh S O μ) g w->∀gs sl t wk vs q o,gs.size=n->A7 P0 P Post f S O μ g gs w wk o->Inv P0 P S O μ gs w t wk vs q b3->Ends P Post (crowd gs w sl) t)
 {b0:Nat} (c6:∀w,Mn P0 P Post (.mk f) (.sh S O μ) g w->∀gs sl t wk vs q o,gs.size=n->YP n q+o<b0->A7 P0 P Post f S O μ g gs w wk o->Inv P0 P S O μ gs w t wk vs q fc->Ends P Post (crowd gs w sl) t)
 {w:F} (cp:Mn P0 P Post (.mk f) (.sh S O μ) g w) {gs:Array VL} {sl:Option (Nat×Nat)} {t:Trace} {wk:Nat->Option wT} {vs:Nat->List U} {q:Nat->Nat} {o:Nat} (V:gs.size=n) (dd:YP n q+o<b0+1) (bj:A7 P0 P Post f S O μ g gs w wk o) (a0:Inv P0 P S O μ gs w t wk vs q fc)
 {i:Nat} {A:VL} {d:Nat} {u:Option (Nat×Nat)} (cB:0<i) (p:gs[i]? =I A) (be:A.status= .running) (a9:stepT P (crowd gs w sl)=runT P (crowd gs (w.at d) u) i):Ends P Post (crowd gs w sl) t:=by
 have B:=a0.at d;have a1:=cp.j3 (RelB.at _ w d);have bi:(i==0)=U5:=by simp;omega
 have b6:i<gs.size:=(U4.1 p).1;have b8:(∀b,wk i=I b->b.pc≠K)->Ends P Post (crowd gs w sl) t:=by
  intro b7;have al:=a0.quit i A cB p b7;cases bv:q i with
  |zero=>rw[bv] at al;rw[show A.status= .finished from al] at be;cases be
  |succ bk=>
   rw[bv] at al;rcases al with cu|⟨_,a5,c1,cR⟩
   ·rw[cu] at be;cases be
   ·have N:=runT_crowd_go (P:=P) (sl:=u) (i:=i) p (by rw[bi];exact c1 (w.at d));have dc:=FO (V▸b6) bv;refine Ends.step (a9.trans N) (c6 (w.at d) a1 _ u _ wk vs (kN q i bk) o (by rw[gK];exact V) (by omega) ?_ ?_)
    ·rcases bj with⟨a,H,e,ae,E⟩|⟨a,x,G,c,R,h,b,k,s,r,e,J,j,c4,D,L⟩
     ·exact .inl ⟨a,H,Fa (by omega) e (nC (.inl E)),ae,E⟩
     ·exact .inr ⟨a,x,G,c,R,h,b,k,s,r,Fa (by omega) e (mv (w':=w.at d) L),J.rely (RelB.at _ w d),j,c4,D,L⟩
    ·rw[ofEvents_none,Array.append_empty];exact B.slip b7 cR gK (rD p) λh M l=>others a0 M l
 cases j:wk i with
 |none=>exact b8 λb a=>by rw[j] at a;cases a
 |some b=>
  cases D:b.pc with
  |some dl=>exact b8 λW a=>by rw[j] at a;cases a;rw[D];simp
  |none=>
   have a7:=B.act i A b p j D;obtain⟨c7,bl,bm,df,dk⟩:=B.low i b j;have bo:=a7;generalize cv:fc i=Aa at bo;cases Aa using Tr.ind with
   |fin=>exact(Tr.qC bo).elim
   |mk a4=>
    replace a7:=wO.1 bo;have a3:∀bB,bB=a4 (w.at d)->Down n (kN fc i bB) fc:=λbB a=>⟨i,V▸b6,⟨a4,w.at d,cv,by rw[dg];exact a⟩,λh M=>dV _ _ M⟩;obtain⟨k,T,s,r,X,a2,ar⟩:=B.chan i b j;rw[D] at X a2 ar;simp only[Option.isSome_none,if_true,forall_const] at X a2 ar;obtain⟨_,a7⟩:=a7;rcases a7 with cl|⟨v,bz,c,G,bx,cn⟩|⟨bx,a5,bk,al,c2,co⟩
    ·
     obtain⟨a5,w',c9,bs,a8,bd⟩:=cl (w.at d) (RelB.refl _ _);have N:=runT_crowd_go (P:=P) (sl:=u) (i:=i) p (by rw[bi];exact bs);have hrel:=B.P7 j a8;refine Ends.step (a9.trans N) (bb _ (a3 _ Y) w' (a1.j3 hrel) _ u _ _ vs q o (by rw[gK];exact V) ?_ (B.SW j D a8 bd gK (rD p) (λh M l=>others a0 M l) _ _));rcases bj with⟨a,H,e,ae,E⟩|⟨a,x,G,c,R,h,W,k,s,r,e,J,z,Q,ba,L⟩
     ·exact .inl ⟨a,H,Fa (by omega) e (nC (.inl E)),ae,E⟩
     ·have ab:w'.heap[x]? =I (.chan k #[] U5 s r U5):=by
       rw[<-Q,B.MG j z a8,Q];exact L
      by_cases l:h=i
      ·subst l;rw[j] at z;cases z;exact .inr ⟨a,x,G,c,R,h,⟨b.c,cQ b.own (w.at d) w',K⟩,k,s,r,Fa (by omega) e (mv ab),(J.rely (RelB.at _ w d)).rely hrel,dg _ _ _,Q,rfl,ab⟩
      ·exact .inr ⟨a,x,G,c,R,h,W,k,s,r,Fa (by omega) e (mv ab),(J.rely (RelB.at _ w d)).rely hrel,by rw[dV _ _ l];exact z,Q,ba,ab⟩
    ·
     obtain⟨cs,bd⟩:=cn (w.at d) (RelB.refl _ _);have b5:VN P (i==0) A (w.at d)= .comm c #[scase b.c v G] Z .send (w.at d) #[]:=by rw[bi];exact cs
     rw[bx] at a2 ar;have c0:T.size<k:=by simp at ar;omega
     have ch:(∀H,i≠0->gs[0]? =I H->offersAt H b.c U5=[])->(∀bc,bc[0]? =gs[0]? ->A7 P0 P Post f S O μ g bc ((w.at d).setChan b.c k (T.push v) U5 (s+1) r U5) wk o)->Ends P Post (crowd gs w sl) t:=by
      intro bu cx;have N:=crowd_send_room (sl:=u) p b5 X c0 (B.yT i b.c U5 bu);refine Ends.step (a9.trans N) ?_;rw[ofEvents_none,Array.empty_append,finishComm_send];have y:=B.comm (gs':=gs.setIfInBounds i (Xr c V9)) (u:= #[{g:=i,fn:=c.frame.fn,pos:=c.frame.place,act:=.send b.c s},{g:=i,fn:=c.frame.fn,pos:=c.frame.place,act:=.sendDone b.c s}]) j (cap:=k) (s':=s+1) (r':=r) (buf':=T.push v) (vi':=bz) (tr':=a4 (w.at d)) (g':=Xr c V9) (λ_=>by simp at ar ⊢;omega) (λ_=>bd) (λ_=>rK p) (λa=>absurd D a) (λh M l=>jo l) (by simp) (λbA C m bt=>by simp at C;rcases C with rfl|rfl<;>cases bt) (λbA C=>by simp at C;rcases C with rfl|rfl<;>rfl);rw[D] at y;simp only[Option.isSome_none,if_true] at y;rw[LP μ (by rw[a2];simp)] at y;exact bb _ (a3 _ Y) _ (a1.j3 (lF (λaa=>aa.elim bl bm) _ _ _ _ _ _)) _ u _ wk _ q o (by simpa using V) (cx _ (jo (by omega))) y
     rcases bj with⟨a,H,e,ae,E⟩|⟨a,x,c8,aw,R,h,W,au,ao,am,e,J,z,Q,ba,L⟩
     ·refine ch (λck _ a6=>?_) λbc br=>.inl ⟨a,H,br.trans e,ae,E⟩;rw[e] at a6;cases a6;exact offersAt_of_not_blocked (by rw[E];simp) _ _
     ·by_cases ad:x=b.c
      ·
       subst ad;have b2:=L.symm.trans (show w.heap[b.c]? =_ from X);simp only[VY,Obj.chan.injEq] at b2;obtain⟨rfl,rfl,-,rfl,rfl,-⟩:=b2;have bu:partners (gs.setIfInBounds i ph) b.c U5=[(0,0)]:=by
        rw[partners_one (j:=0) (stand_get (i:=i) (by omega) e) (λbk W da z=>?_)]
        ·rw[offersAt_parked_recv];simp
        ·rcases getElem?_stand gs i bk W z with⟨_,rfl⟩|⟨db,a8⟩
         ·exact offersAt_ph _ _
         ·exact offersAt_of_not_blocked (by rcases a0.status (by omega) a8 with a|a<;>rw[a]<;>simp) _ _
       have N:=crowd_send_meets (sl:=u) p b5 X (j:=0) (by omega) e bu;refine Ends.step (a9.trans N) ?_;rw[ofEvents_none,Array.empty_append,finishComm_send,finishComm_recv];obtain⟨ca,⟨cb,cc,cd⟩,cf⟩:=J.rely (RelB.at _ w d);have ci:R=v::bz:=by
        have:=ca.symm.trans a2;simpa using this
       subst ci;have b4:=(cf (w.at d) (RelB.refl _ _)).2;dsimp only at b4;have y:=B.comm (gs':=(gs.setIfInBounds 0 (Xr aw (recvd Z v Z))).setIfInBounds i (Xr c V9)) (u:= #[{g:=i,fn:=c.frame.fn,pos:=c.frame.place,act:=.send b.c ao},{g:=0,fn:=aw.frame.fn,pos:=aw.frame.place,act:=.recv b.c am au},{g:=i,fn:=c.frame.fn,pos:=c.frame.place,act:=.sendDone b.c ao},{g:=0,fn:=aw.frame.fn,pos:=aw.frame.place,act:=.recvDone b.c am}]) j (cap:=au) (s':=ao+1) (r':=am+1) (buf':= #[]) (vi':=bz) (tr':=a4 (w.at d)) (g':=Xr c V9) (λ_=>by simp at ar ⊢;omega) (λ_=>bd) (λ_=>rK (g:=A) (by rw[jo (by omega)];exact p)) (λa=>absurd D a) (λh M l=>by rw[jo l,jo (by omega)]) (by simp) (λbA C m bt=>by simp at C;rcases C with rfl|rfl|rfl|rfl<;>cases bt) (λbA C=>by simp at C;rcases C with rfl|rfl|rfl|rfl<;>rfl);rw[D] at y;simp only[Option.isSome_none,if_true] at y;exact(c5 (w.at d)).2 S O _ _ _ (b4.j3 (lF (λaa=>aa.elim bl bm) _ _ _ _ _ _)) _ u _ wk _ q _ _ (by rw[jo (by omega)];exact rK e) (sI.refl _) Y y
      ·refine ch (λck _ a6=>?_) λbc br=>?_
       ·rw[e] at a6;cases a6;rw[offersAt_parked_recv,if_neg ad]
       ·exact .inr ⟨a,x,c8,aw,R,h,W,au,ao,am,br.trans e,(J.rely (RelB.at _ w d)).rely (lF (λaa=>aa.elim bl bm) _ _ _ _ _ _),z,Q,ba,(xx ad _ _ _ _ _ _).trans L⟩
    ·
     have bs:=co (w.at d) (RelB.refl _ _) k T s r U5 X;have N:=runT_crowd_go (P:=P) (sl:=u) (i:=i) p (by rw[bi];exact bs);have hrel:RelB (λb1=>S b1\/O b1) (w.at d) ((w.at d).setChan b.c k T Z s r U5):=lF (λaa=>aa.elim bl bm) _ _ _ _ _ _;have y:=B.close (gs':=(gs.map (woken P A a5 ((w.at d).setChan b.c k T Z s r U5))).setIfInBounds i a5) (tr':=a4 (w.at d)) j D bx X al (rD p) (λh M l=>others a0 M l) gK A.frame.fn A.frame.place;refine Ends.step (a9.trans N) ?_;rcases bj with⟨a,H,e,ae,E⟩|⟨a,x,G,c,R,h,W,au,ao,am,e,J,z,Q,ba,L⟩
     ·exact bb _ (a3 _ Y) _ (a1.j3 hrel) _ u _ _ _ _ o (by rw[gK];exact V) (.inl ⟨a,H,Fa (by omega) e (nC (.inl E)),ae,E⟩) y
     ·by_cases ad:x=b.c
      ·subst ad;obtain⟨ca,⟨cb,cc,cd⟩,cf⟩:=J;refine bb _ (a3 _ Y) _ (a1.j3 hrel) _ u _ _ _ _ 1 (by rw[gK];exact V) (.inl ⟨rfl,{parked c #[rcase b.c G] (.recv Z) with status:=.running},?_,⟨cb,cc,cd⟩,rfl⟩) y;have c3:woken P A a5 ((w.at d).setChan b.c k T Z s r U5) (parked c #[rcase b.c G] (.recv Z))= {parked c #[rcase b.c G] (.recv Z) with status:=.running}:=by
        unfold woken;rw[if_pos ?hP]
        case hP=>rw[c2,Bool.true_and];exact EZ al
        exact again_recv_closed (Cu c7 _ _ _ _ _ _)
       rw[WY (by omega),Array.getElem?_map,e,Xc,c3]
      ·have l:h≠i:=λa=>by
        subst a;rw[j] at z;cases z;exact ad Q.symm
       have ab:((w.at d).setChan b.c k T Z s r U5).heap[x]? =I (.chan au #[] U5 ao am U5):=(xx ad _ _ _ _ _ _).trans L;exact bb _ (a3 _ Y) _ (a1.j3 hrel) _ u _ _ _ _ o (by rw[gK];exact V) (.inr ⟨a,x,G,c,R,h,W,au,ao,am,Fa (by omega) e (mv ab),(J.rely (RelB.at _ w d)).rely hrel,by rw[dV _ _ l];exact z,Q,ba,ab⟩) y
def PT{f:F->Tr}(C:∀w,Pe P0 P Post (f w)){S O:Nat->Prop}{μ:Nat->Option (List U)}{g:VL}{n:Nat}(fc:Nat->Tr)(bo:Acc (Down n) fc):
 ∀(W:Nat) w,Mn P0 P Post (.mk f) (.sh S O μ) g w->∀gs sl t wk vs q p,gs.size=n->YP n q+p<W->A7 P0 P Post f S O μ g gs w wk p->Inv P0 P S O μ gs w t wk vs q fc->Ends P Post (crowd gs w sl) t:=by
 induction bo with
 |intro fc _ b4=>
  have bi:∀X,Down n X fc->∀w,Mn P0 P Post (.mk f) (.sh S O μ) g w->∀gs sl t wk vs q p,gs.size=n->A7 P0 P Post f S O μ g gs w wk p->Inv P0 P S O μ gs w t wk vs q X->Ends P Post (crowd gs w sl) t:=
   λX bt w aa gs sl t wk vs q p E ao d=>b4 X bt (YP n q+p+1) w aa gs sl t wk vs q p E (by omega) ao d
  intro W
  induction W with
  |zero=>intro w aa gs sl t wk vs q p E a5;omega
  |succ W a7=>
   intro w ab gs sl t wk vs q p E a5 ao d;have be:=ao;rcases ao with⟨A,aw,i,am,a3⟩|⟨A,D,J,r,H,h,b,L,s,V,i,T,j,cu,G,cp⟩
   ·have aa:=nN.1 ab;rcases aa with B|B|B|⟨bB,bl⟩
    case inr.inr.inr=>exact(C w).1 g w (bl w (RelB.refl _ _) d.hp) gs sl t vs q fc aw i am a3 (d.UA bB)
    all_goals
     obtain⟨a6,N,a,l,c,ae,y⟩:=crowd_pick (P:=P) (w:=w) (sl:=sl) (uI d i (awake_of (.inl a3))) ⟨0,aw,i,a3⟩;rcases Yv a6 with rfl|a2
     case inr=>exact vZ C bi a7 ab E a5 be d a2 c ae y
     obtain rfl:N=aw:=by rw[i] at c;exact(Zm c).symm
     have e:=d.at a
    ·obtain⟨M,w',cn,bv,a4,bu,x⟩:=B (w.at a) (RelB.at _ w a);have v:=runT_crowd_go (P:=P) (sl:=l) (i:=0) c (show VN P (0==0) N (w.at a)=_ from(am.step Z _).trans bv);exact Ends.step (y.trans v) ((C (w.at a)).2 S _ μ M w' x _ l _ wk vs q fc M (rD c) (sI.refl _) a4 (e.main bu gK (λh Q=>others d Q (by omega)) _ _))
    ·obtain⟨D,ca,L,b5,b6,b7,b8,B⟩:=B;obtain⟨M,cl,ci,b2,a4,bm,x⟩:=B (w.at a) (RelB.at _ w a);have v:=runT_crowd_spawn (P:=P) (sl:=l) (i:=0) c (show VN P (0==0) N (w.at a)=_ from(am.step Z _).trans b2);have bd:0<gs.size:=(U4.1 i).1;refine Ends.step (y.trans v) ((C (w.at a)).2 S _ _ M (w.at a) x _ l _ (kN wk gs.size (I ⟨D,λ_=>False,K⟩)) (kN vs gs.size ca) q (kN fc gs.size ci) M ?_ (sI.refl _) a4 ?_)
     ·rw[Array.getElem?_push_lt (by simpa using bd)];simp
     ·rw[ofEvents_none];exact e.spawn b5 b6 b7 b8 bm (by simp) bd (by rw[VF];simp) (λh Q bz=>by
       rw[Array.getElem?_push_lt (by simpa using bz),<-VT,jo (by omega)]) _ _ _
    ·obtain⟨D,J,r,H,T⟩:=B;have T:RC P0 P Post f S O μ g w D J r H:=T;have b0:=T.rely (RelB.at _ w a);obtain⟨a8,⟨cR,c0,c1⟩,cd⟩:=b0;obtain⟨bs,x⟩:=cd (w.at a) (RelB.refl _ _);have a0:VN P (0==0) N (w.at a)= .comm r #[rcase D J] Z (.recv Z) (w.at a) #[]:=(am.step Z _).trans bs;obtain⟨k,b,j,rfl⟩:=e.mu D H a8;obtain⟨cv,cb,cc,cx,cB⟩:=e.low k b j;obtain⟨L,o,s,V,z,ar,bj⟩:=e.chan k b j;have cs:=(e.idx k b j).1;have a1:=e.yT 0 b.c Z (λco A=>absurd Y A);obtain⟨gk,bc⟩:∃gk,gs[k]? =I gk:=⟨gs[k]'(e.idx k b j).2,VT _⟩;by_cases ad:0<o.size
     ·
      have v:=crowd_recv_buf (sl:=l) c a0 z ad a1;refine Ends.step (y.trans v) ?_;rw[ofEvents_none,Array.empty_append,finishComm_recv];have au:H=o.getD 0 V9::((o.extract 1 o.size).toList++(if b.pc=K then vs k else[])):=by
       have:=a8.symm.trans ar;simp only[VY] at this;rw[this];obtain⟨a9⟩:=o;cases a9 with
       |nil=>simp at ad
       |cons ck a9=>simp
      subst au;dsimp only at x;have bk:=e.comm (gs':=gs.setIfInBounds 0 (Xr r (recvd Z (o.getD 0 V9) Z))) (u:= #[{g:=0,fn:=r.frame.fn,pos:=r.frame.place,act:=.recv b.c V L},{g:=0,fn:=r.frame.fn,pos:=r.frame.place,act:=.recvDone b.c V}]) j (cap:=L) (s':=s) (r':=V+1) (buf':=o.extract 1 o.size) (vi':=vs k) (tr':=fc k) (g':=gk) (λA=>by have:=bj A;simp;omega) (λA=>e.act k gk b bc j A) (λ_=>by rw[jo (by omega)];exact bc) (λ_=>jo (by omega)) (λh Q _=>jo (by omega)) (by simp) (λcf R m bA=>by simp at R;rcases R with rfl|rfl<;>cases bA) (λcf R=>by simp at R;rcases R with rfl|rfl<;>rfl);exact(C (w.at a)).2 S O _ _ _ (x.j3 (lF (λad=>ad.elim cb cc) _ _ _ _ _ _)) _ l _ wk _ q _ _ (rK i) (sI.refl _) Y bk
     ·have br:o=#[]:=by
       apply Array.eq_empty_of_size_eq_zero;omega
      subst br;cases G:b.pc with
      |none=>
       rw[G] at z;have b3:∀ba∈ #[rcase b.c J],NoWays (w.at a) (gs.setIfInBounds 0 ph) ba:=by
        intro ba bb;simp at bb;subst bb;refine⟨made_recv J z,?_⟩;simp only[ways,rcase];rw[z];simp[a1]
       have v:=crowd_waits (sl:=l) c a0 b3;refine Ends.step (y.trans v) ?_;rw[ofEvents_none,Array.append_empty];refine a7 (w.at a) (ab.j3 (RelB.at _ w a)) _ l _ wk vs q 0 (by simpa using E) (by omega) (.inr ⟨rfl,b.c,J,r,H,k,b,L,s,V,rK i,T.rely (RelB.at _ w a),j,rfl,G,z⟩) (e.UQ (by simp) λh Q=>jo (by omega))
      |some c2=>
       rw[G] at z ar;have v:=crowd_recv_closed (sl:=l) c a0 z a1;refine Ends.step (y.trans v) ?_;rw[ofEvents_none,Array.empty_append,finishComm_recv];have au:H=[]:=by
        have:=a8.symm.trans ar;simpa using this
       subst au;dsimp only at x;exact(C (w.at a)).2 S O _ _ _ x _ l _ _ vs q fc _ (rK i) (sI.refl _) Y (e.Nn j G (by simp) (λh Q=>jo (by omega)) _ _)
   ·
    have b1:∃u,gs[h]? =I u/\u.status= .running:=by
     obtain⟨u,al⟩:∃u,gs[h]? =I u:=⟨gs[h]'(d.idx h b j).2,VT _⟩;refine⟨u,al,?_⟩;have:=d.act h u b al j G;generalize fc h=ch at this;cases ch using Tr.ind with
     |fin=>exact(Tr.qC this).elim
     |mk f=>exact(wO.1 this).1
    obtain⟨u,al,bx⟩:=b1;obtain⟨a6,N,a,l,c,ae,y⟩:=crowd_pick (P:=P) (w:=w) (sl:=sl) (uI d i (λt=>by simp[parked])) ⟨h,u,al,bx⟩;rcases Yv a6 with rfl|a2
    ·rw[i] at c;cases c;simp[parked] at ae
    ·exact vZ C bi a7 ab E a5 be d a2 c ae y
def Ng:∀k:Tr,Pe P0 P Post k:=by
 intro k
 induction k using Tr.ind with
 |fin=>exact⟨λa w c=>(Tr.qC c).elim,λS O μ a w c=>(Tr.qC c).elim⟩
 |mk f l=>
  refine⟨λa w g gs j t vs q fc b d h i e=>PS l (YP gs.size q+1) a w g gs j t vs q fc b (by omega) d h i e,λS O μ a w g gs j t wk vs q fc b d h i e=>?_⟩;exact PT l fc (Mo gs.size fc) (YP gs.size q+1+1) w g gs j t wk vs q 1 Y (by omega) (.inl ⟨rfl,b,d,h,i⟩) e
def Fq{l:Tr}{fr:Vg}{cs:List Vg}{w:F}(h:Mn P0 P Post l .ex (Vd fr cs) w)(p:xR P0 w):Ends P Post (solo (Vd fr cs) w) #[]:=by
 rw[solo_eq_crowd];refine(Ng l).1 _ w h #[Vd fr cs] K #[] (λ_=>[]) (λ_=>0) (λ_=>.fin) _ Y (sI.refl _) Y ⟨⟨λx o=>by simp at o,λz=>?_,λb g d=>by simp[touchAt,Trace.act?] at d,λb g d=>by simp[touchAt,Trace.act?] at d,λk c e=>(by cases e),λk c e=>(by cases e),λk c y e=>(by cases e)⟩,p,λb m u j _=>?_,λb m c j a=>(by cases a),λb c a=>(by cases a),λi f=>f.elim,λi f=>f.elim,λb c a=>(by cases a),λb r c A _ a=>(by cases a),λb c a=>(by cases a),λs v n=>(by cases n)⟩
 ·rintro⟨b,r,_,⟨g,i,d,_⟩,_⟩;simp[Trace.act?] at d
 ·have:b<1:=by simpa using(U4.1 j).1
  omega
end
def ux (P0 P:Vb)(Post:U->F->Prop)(g:VL)(w:F):Prop:=∃a,Mn P0 P Post a .ex g w
structure Sm(w w':F):Prop where
 tape:w'.tape=w.tape
 os:w'.os=w.os
 output:w'.output=w.output
 size:w.heap.size<=w'.heap.size
def Sm.refl(w:F):Sm w w:=⟨rfl,rfl,rfl,U7 _⟩
def Sm.trans{a b c:F}(h:Sm a b)(d:Sm b c):Sm a c:=⟨d.tape.trans h.tape,d.os.trans h.os,d.output.trans h.output,Vm h.size d.size⟩
section
variable {P0 P:Vb}{Post:U->F->Prop}
def yV{g:VL}{w:F}(h:∀a,AtRel w a->∃g' w' es,VN P Z g a= .go g' w' es/\g'.status= .running/\Mg P0 a w' es/\ux P0 P Post g' w'):ux P0 P Post g w:=by
 classical
 let f:F->Tr:=λa=>if b:AtRel w a then Wq (Vo (Vo (Vo (h a b)))).2.2.2 else .fin
 refine⟨.mk f,nN.2 <| .inl λa b=>?_⟩;have c:=Vo (Vo (Vo (h a b)));have d:f a=Wq (Vo (Vo (Vo (h a b)))).2.2.2:=by
  show(if b:AtRel w a then _ else _)=_;rw[dif_pos b]
 exact⟨_,_,_,c.1,c.2.1,c.2.2.1,Mn.cast d (Vo c.2.2.2)⟩
def Qd{g:VL}{w:F}(h:∀a,AtRel w a->∃v es,VN P Z g a= .ended (.done v) a es/\(∀e∈es,DJ a.heap.size e)/\Post v a):ux P0 P Post g w:=⟨.mk λ_=>.fin,nN.2 (.inr (.inl h))⟩
def Sl{g:VL}{w a:F}(h:ux P0 P Post g w)(b:AtRel w a):ux P0 P Post g a:=by
 obtain⟨c,h⟩:=h;exact⟨c,h.I8 b⟩
def P8(P0:Vb)(u:F):∃w,Un w u/\Hp (bf P0) w/\w.tape=u.tape/\w.drawn=u.drawn/\∀(b:Nat) o,u.heap[b]? =I o->bf P0 o->w.heap[b]? =I o:=by
 classical
 have h:∀o,¬bf P0 o->jk o=Z:=λo g=>by cases o<;>first|rfl|exact absurd trivial g
 have f:∀b:Nat,(u.heap.map λo=>if bf P0 o then o else pz)[b]? =(u.heap[b]?).map λo=>if bf P0 o then o else pz:=λb=>by simp
 refine⟨{u with heap:=u.heap.map λo=>if bf P0 o then o else pz},⟨by simp,λb o a=>?_,rfl,rfl⟩,λb o a=>?_,rfl,rfl,λb o a i=>?_⟩
 ·simp only[f] at a;cases d:u.heap[b]? with
  |none=>rw[d] at a;cases a
  |some e=>
   rw[d] at a;simp only[Xc,VY] at a;by_cases c:bf P0 e
   ·rw[if_pos c] at a;subst a;exact .inl Y
   ·rw[if_neg c] at a;exact .inr ⟨a.symm,e,rfl,h e c⟩
 ·simp only[f] at a;cases d:u.heap[b]? with
  |none=>rw[d] at a;cases a
  |some e=>
   rw[d] at a;simp only[Xc,VY] at a;by_cases c:bf P0 e
   ·rw[if_pos c] at a;subst a;exact .inl c
   ·rw[if_neg c] at a;exact .inr a.symm
 ·simp only[f,a,Xc,if_pos i]
def G7{Stop:Vg->List Vg->F->Prop}{fr:Vg}{aB:List Vg}{w u:F}(h:Fin P0 P Stop fr aB w u):∀{cs:List Vg},eH P0 fr aB->Hp (bf P0) w->Un w u->(∀fr' tops' w' a,Stop fr' tops' w'->eH P0 fr' tops'->Hp (bf P0) w'->sL w u w' a->Sm u a->ux P0 P Post (Vd fr' (tops'++cs)) a)->ux P0 P Post (Vd fr (aB++cs)) u:=by
 intro cs;refine h (λfr aB w u=>eH P0 fr aB->Hp (bf P0) w->Un w u->(∀fr' tops' w' a,Stop fr' tops' w'->eH P0 fr' tops'->Hp (bf P0) w'->sL w u w' a->Sm u a->ux P0 P Post (Vd fr' (tops'++cs)) a)->ux P0 P Post (Vd fr (aB++cs)) u) ?_ ?_
 ·intro fr aB w u g i l e f;exact f _ _ _ _ g i l e.two (Sm.refl _)
 ·intro fr aB w u B p A C i E z D l e f;refine yV λG v=>?_;obtain⟨c,rfl⟩:=v;have d:=A u.tape c;obtain⟨b,y⟩:=C u.tape c;have m:u.heap.size<=(B u.tape c).2.2.2.1.heap.size:=by
   rw[b.un.size,e.size];exact d.size
  have n:=y.trans d.tape;have j:=b.un.os.trans (d.os.trans e.os.symm);have k:=b.un.output.trans (d.output.trans e.output.symm);refine⟨_,_,_,p u.tape c Z cs,rfl,⟨m,n,j,k,λ_=>trivial,λo r=>by rw[b.un.size];exact d.evs o r⟩,?_⟩;exact z u.tape c (i u.tape c) d.hp b.un λfr' tops' w' a g s t q x=>f fr' tops' w' a g s t ((⟨b.un,b.keep⟩:sL w u _ _).trans q) ((⟨n,j,k,m⟩:Sm u _).trans x)
def qH(h:Twins P0 P){Stop:Vg->List Vg->F->Prop}(j:∀fr aB w,Stop fr aB w->¬JQ fr){fr:Vg}{aB cs:List Vg}{w u:F}(ok:eH P0 fr aB)(d:Hp (bf P0) w)(e:Un w u)
 (k:∀c,∃fr' tops' w',Steps P0 (lone fr (aB++[bn]) (sh c 0 w)) (lone fr' (tops'++[bn]) w')/\Stop fr' tops' w')
 (g:∀fr' tops' w' a,DX Stop fr' tops' w'->eH P0 fr' tops'->sL w u w' a->Sm u a->ux P0 P Post (Vd fr' (tops'++cs)) a):ux P0 P Post (Vd fr (aB++cs)) u:=
 G7 (vU h j ok d e λc=>by
  obtain⟨fr',tops',w',⟨N,i⟩,b⟩:=k c;exact⟨N,fr',tops',w',i,b⟩) ok d e λfr' tops' w' a b l _ f m=>g fr' tops' w' a b l f m
def Left (c:Vg):X6->Vg
 | .returned v=>c.finish v
 | .panicked a=>c.raise a
 | .outgrown=>c
def I0 (c:Vg):Prop:=c.mode= .run/\((∃e b f a,c.todo= .inRegion e (b::f)::a)\/∃d a,c.todo= .inRangeFunc d::a)
def kq (P0 P:Vb)(Post:U->F->Prop)(f:Xb)(args:Array U)(w:F)(R:X6->F->Prop):Prop:=
 ∀(a:Vg) (d:List Vg),eH P0 a []->I0 a->xR P0 w->
  (∀c b,R c b->xR P0 b->Sm w b->eH P0 (Left a c) []->ux P0 P Post (Vd (Left a c) d) b)->ux P0 P Post (Vd (VU P f args .normal) (a::d)) w
def Tl (w u:F)(R:X6->F->Prop)(e:X6)(c:F):Prop:=∃d b a,sL w u a c/\R e (sh d b a)
def Et(h:Twins P0 P)(f:Xb)(args:Array U)(kind:CallKind)(i:kind= .normal\/kind= .deferred):nE P0 (VU P0 f args kind):=by
 refine⟨λk c=>?_,λj e=>by simp[VU] at e,i⟩;simp only[VU,List.mem_singleton] at c;subst c;show aX P0 U5 _=Z;cases g:P0.funcs[f]? with
 |none=>rfl
 |some b=>
  cases a:b.body with
  |none=>simp[a,aX]
  |some d=>simpa [a] using h.A.Gu f b d g a
def qw(h:Twins P0 P){f:Xb}{args:Array U}{w u:F}{R:X6->F->Prop}(C:Hp (bf P0) w)(H:Un w u)(y:P.funcs[f]? =P0.funcs[f]?)(n:∀w',¬R .outgrown w')(z:∀e,Calls P0 f args (sh e 0 w) R):kq P0 P Post f args u (Tl w u R):=by
 intro c K k D _ x;have r:VU P f args .normal=VU P0 f args .normal:=by unfold VU;rw[y]
 rw[r];obtain⟨E,d⟩:=D;refine qH (aB:=[c]) h (Stop:=λi aB w'=>aB=[]/\∃a,R a w'/\i=Left c a) (λi aB w' j=>?_) ⟨Et h f args .normal (.inl Y),λV p=>by simp at p;rw[p];exact k.top,k.bot⟩ C H (λe=>?_) (λL T w' J j B t G=>?_)
 ·obtain⟨_,a,b,rfl⟩:=j;rintro⟨A,s,o⟩;cases a with
  |returned v=>
   rcases d with⟨Q,N,S,I,d⟩|⟨O,I,d⟩
   ·simp[Left,WJ,d] at o
   ·simp[Left,WJ,d] at o
  |panicked g=>
   simp[Left,Frame.raise,E] at A
  |outgrown=>exact n _ b
 ·obtain⟨a,w',i,b,l,M,m⟩:=z e (c::[bn]);cases a with
  |returned v=>exact⟨c.finish v,[],w',l.trans (.one (step_leave_returned m)),rfl,.returned v,b,rfl⟩
  |panicked g=>exact⟨c.raise g,[],w',l.trans (.one (step_leave_panicked m)),rfl,.panicked g,b,rfl⟩
  |outgrown=>exact absurd b (n _)
 ·obtain⟨e,q,rfl,a,b,rfl⟩:=j;exact x a J ⟨e,q,w',t,b⟩ trivial G B
end
def DK (P0 P:Vb)(Post:U->F->Prop)(fr:Vg)(cs:List Vg)(w:F):Prop:=eH P0 fr []->xR P0 w->ux P0 P Post (Vd fr cs) w
section
variable {P0 P:Vb}{Post:U->F->Prop}
def QM{w u w' d:F}(h:sL w u w' d)(e:u.heap=w.heap):d.heap=w'.heap:=by
 apply Yo;intro b;rcases h.un.cases b with c|⟨c,i,f,g⟩
 ·exact c
 ·rw[(h.keep b c).2,e,(h.keep b c).1,c]
def QN{w u g u1 i u2:F}(h1:sL w u g u1)(h:sL w u i u2)(e:g.heap=i.heap):u1.heap=u2.heap:=by
 apply Yo;intro b;by_cases c:g.heap[b]? =I pz
 ·rw[(h1.keep b c).2,(h.keep b (by rw[<-e];exact c)).2]
 ·rcases h1.un.cases b with d|⟨d,_⟩
  ·rcases h.un.cases b with f|⟨f,_⟩
   ·rw[d,f,e]
   ·exact absurd (by rw[e];exact f) c
  ·exact absurd d c
def sL.same{w u w' g:F}(h:sL w u w' g)(i:Un w u){b:Nat}(e:w'.heap[b]? =w.heap[b]?):g.heap[b]? =u.heap[b]? :=by
 by_cases f:w'.heap[b]? =I pz
 ·exact(h.keep b f).2
 ·rcases h.un.cases b with c|⟨c,_⟩
  ·rcases i.cases b with d|⟨d,_⟩
   ·rw[c,d,e]
   ·exact absurd (e.trans d) f
  ·exact absurd c f
structure Mk(P0:Vb)(ws w:F):Prop where
 un:Un ws w
 hp:Hp (bf P0) ws
 at_:∀(b:Nat) o,w.heap[b]? =I o->bf P0 o->ws.heap[b]? =I o
def Bw(P0:Vb)(w:F):∃ws,Mk P0 ws w:=by
 obtain⟨ws,c,d,-,-,e⟩:=P8 P0 w;exact⟨ws,c,d,e⟩
section
variable {b:Vg}{a:Xa}{k:List XR}{cs:List Vg}{w:F}
def Ui (P0 P:Vb)(Post:U->F->Prop)(b:Vg)(k:List XR)(cs:List Vg)(w':F):Exit->Xa->Prop
 | .normal,a=>DK P0 P Post (b.at a k) cs w'
 | .exit id,a=>∀d,YE id k=I d->DK P0 P Post (b.at a d) cs w'
 | .ret,a=>∀c,DK P0 P Post {b.at a c with mode:=.returning} cs w'
 | .panic e,a=>∀c,DK P0 P Post {b.at a c with mode:=.panicking e} cs w'
 |_,_=>True
theorem yw{id:Nat}{i:XR}:∀{k k':List XR},YE id k=I k'->i∈k'->i∈k
 | [],k',c,_=>by simp[YE] at c
 |x::f,k',c,d=>by
  cases x<;>simp only[YE] at c
  case inBlock e=>
   split at c
   ·cases c;exact List.mem_cons_of_mem _ d
   ·exact List.mem_cons_of_mem _ (yw c d)
  all_goals exact List.mem_cons_of_mem _ (yw c d)
def Jm(h:Twins P0 P){c:XQ}{Q:F->Exit->Xa->F->Prop}(E:∀ws,Mk P0 ws w->∀o,c.wp P0 (Q ws) a (sh o 0 ws))(y:∀s,Item.code (.refuse s)∉k)(C:∀ws id a w,Q ws (.exit id) a w->YE id k≠K)(D:∀ws l a w,¬Q ws (.goto l) a w)(G:∀ws a w,¬Q ws .outgrown a w)
 (B:∀ws e a' z w' o d,Mk P0 ws w->Q ws e a' (sh o d z)->sL ws w z w'->Sm w w'->Ui P0 P Post b k cs w' e a'):DK P0 P Post (b.at a (.code c::k)) cs w:=by
 intro J _;obtain⟨ws,m⟩:=Bw P0 w;refine qH (aB:=[]) h (Stop:=λq aB w'=>aB=[]/\∃e a',Q ws e a' w'/\(match e with
  | .normal=>q=b.at a' k
  | .exit id=>∃j,YE id k=I j/\q=b.at a' j
  | .ret=>∃g,q= {b.at a' g with mode:=.returning}
  | .panic p=>∃g,q= {b.at a' g with mode:=.panicking p}
  |_=>False)) (λq aB w' n=>?_) J m.hp m.un (λo=>?_) (λM N w' L n u A H=>?_)
 ·obtain⟨_,e,a',i,f⟩:=n;rintro⟨m,s,v⟩;cases e with
  |normal=>subst f;exact y s (by simp only[Frame.at] at v;rw[v];exact Yu ..)
  |exit id=>obtain⟨j,x,rfl⟩:=f;exact y s (yw x (by simp only[Frame.at] at v;rw[v];exact Yu ..))
  |ret=>obtain⟨g,rfl⟩:=f;cases m
  |panic p=>obtain⟨g,rfl⟩:=f;cases m
  |goto l=>exact f
  |outgrown=>exact f
 ·obtain⟨e,a',w',i,t⟩:=E ws m o b k [bn];cases e with
  |normal=>exact⟨_,[],w',t,rfl,.normal,a',i,rfl⟩
  |exit id=>
   cases f:YE id k with
   |none=>exact absurd f (C ws id a' w' i)
   |some j=>exact⟨_,[],w',t j f,rfl,.exit id,a',i,j,f,rfl⟩
  |ret=>obtain⟨g,n⟩:=t;exact⟨_,[],w',n,rfl,.ret,a',i,g,rfl⟩
  |panic p=>obtain⟨g,n⟩:=t;exact⟨_,[],w',n,rfl,.panic p,a',i,g,rfl⟩
  |goto l=>exact absurd i (D ws l a' w')
  |outgrown=>exact absurd i (G ws a' w')
 ·obtain⟨o,d,rfl,e,a',i,f⟩:=n;have r:=B ws e a' w' L o d m i A H;cases e with
  |normal=>subst f;exact r u trivial
  |exit id=>obtain⟨j,x,rfl⟩:=f;exact r j x u trivial
  |ret=>obtain⟨g,rfl⟩:=f;exact r g u trivial
  |panic p=>obtain⟨g,rfl⟩:=f;exact r g u trivial
  |goto l=>exact f.elim
  |outgrown=>exact f.elim
end
end
section
variable {P0 P:Vb}{Post:U->F->Prop}{b:Vg}{a:Xa}{k:List XR}{cs:List Vg}{w:F}{ops:Array Ww}
def Qc{i:Nat}{rest:List Nat}{o:Ww}{f:Xb}{fn:XJ}{c:XQ}{args:Array V4}{ats:Array Vc}{R:X6->F->Prop}(A:b.kind= .normal)(n:ops[i]? =I o)(G:VA o (We ops a.tmps)=Z)(r:o.op= .call {callee:=.value (.func f),args,argTypes:=ats})
 (l:P.funcs[f]? =I fn) (m:(fn.name == "runtime.NumGoroutine")=U5) (z:fn.body=I c) (hR:∀d,AtRel w d->kq P0 P Post f (args.map a.eval) d R)
 (y:∀v w',R (.returned v) w'->Sm w w'->DK P0 P Post (b.at (a.put o.dst v) (.inRegion ops rest::k)) cs w') (hP:∀ch w',R (.panicked ch) w'->Sm w w'->DK P0 P Post {b.at a (.inRegion ops (i::rest)::k) with mode:=.panicking ch} cs w') (B:∀w',¬R .outgrown w'):DK P0 P Post (b.at a (.inRegion ops (i::rest)::k)) cs w:=by
 intro H C;refine yV λd h=>?_;have j:fn.body.isNone=U5:=by rw[z];rfl
 have E:VN P Z (Vd (b.at a (.inRegion ops (i::rest)::k)) cs) d= .go (Vd (VU P f (args.map a.eval) .normal) (b.at a (.inRegion ops (i::rest)::k)::cs)) d #[]:=by
  rw[stepG_enter n G (by rw[A];simp) (run_call_body r l m j)];have:listed P b.fn a o d=#[]:=by unfold listed;rw[events_call_body r l m j];exact Conc.seen_none P _
  rw[this]
 have D:xR P0 d:=by obtain⟨x,rfl⟩:=h;exact C
 have t:Sm w d:=by obtain⟨x,rfl⟩:=h;exact⟨rfl,rfl,rfl,U7 _⟩
 refine⟨_,_,_,E,rfl,⟨U7 _,rfl,rfl,rfl,λJ=>J,λe g=>by simp at g⟩,?_⟩;refine hR d h _ cs H ⟨rfl,.inl ⟨ops,i,rest,k,rfl⟩⟩ D λe w' g s u p=>?_;cases e with
 |returned v=>
  have:=y v w' g (t.trans u);have e:=YK b a ops i rest k v;rw[n] at e;have q:eH P0 ((b.at a (.inRegion ops (i::rest)::k)).finish v) []:=p;rw[e] at q;show ux P0 P Post (Vd ((b.at a (.inRegion ops (i::rest)::k)).finish v) cs) w';rw[e];exact this q s
 |panicked ch=>exact hP ch w' g (t.trans u) p s
 |outgrown=>exact absurd g (B w')
def G8{fr:Vg}{v:U}(j:P.inits.idxOf? fr.fn=K)(m:∀s d,fr.leaving P (sh s d w) (.returned v))(i:∀c,AtRel w c->∀fn,P.funcs[fr.fn]? =I fn->∀e∈((V0 fn fr.tmps).runT P c #[]).2,Ar c.heap.size e)(o:∀c,AtRel w c->Post v c):ux P0 P Post (Vd fr []) w:=by
 refine Qd λc r=>?_;obtain⟨d,rfl⟩:=r;obtain⟨n,h,l,fn,g,p⟩:=m w.tape d;have q:(V0 fn fr.tmps).run P (w.at d)= .ok v (w.at d):=p;have f:=i (w.at d) ⟨d,rfl⟩ fn g;rw[Zd] at f;refine⟨v,seen P fr.fn ((V0 fn fr.tmps).events P (w.at d) #[]),?_,Ft f,o _ ⟨d,rfl⟩⟩;simp[Vd,VN,Zh,n,h,g,Yb,l,j,XZ,q]
end
end Cc
namespace Rl
section
variable {G:mG}
def eZ:Nat->U->Bool
 |_,.bool _|_,.int _ _|_,.string _|_,.pointer K|_,.slice K _ _|_,.map K|_,.chan K|_,.nilFunc|_,.nilIface=>Z
 |n+1,.iface _ v=>eZ n v
 |n+1,.agg a|n+1,.tuple a=>a.toList.all (eZ n)
 |_,_=>U5
theorem rF:∀(n:Nat) {ρ:aN G} (v:U),eZ n v=Z->aq ρ v v
 |n,ρ,v,a=>by
  cases v with
  |bool c=>exact .bool c
  |int e d=>exact .int e d
  |string s=>exact .string s
  |pointer b=>cases b with
   |none=>exact .cZ
   |some b=>cases n<;>simp[eZ] at a
  |slice b m l=>cases b with
   |none=>exact .jR _ _
   |some b=>cases n<;>simp[eZ] at a
  |map g=>cases g with
   |none=>exact .kG
   |some b=>cases n<;>simp[eZ] at a
  |chan g=>cases g with
   |none=>exact .iK
   |some b=>cases n<;>simp[eZ] at a
  |nilFunc=>exact .nilFunc
  |nilIface=>exact .nilIface
  |float e c=>cases n<;>simp[eZ] at a
  |complex e b c=>cases n<;>simp[eZ] at a
  |func f o p=>cases n<;>simp[eZ] at a
  |iface k v=>cases n with
   |zero=>simp[eZ] at a
   |succ n=>exact .iface k (rF n v (by simpa [eZ] using a))
  |agg h=>cases n with
   |zero=>simp[eZ] at a
   |succ n=>exact .agg Y (λd i j=>rF n _ (by
    simp only[eZ] at a;exact Vx.1 a _ (by simp)))
  |tuple h=>cases n with
   |zero=>simp[eZ] at a
   |succ n=>exact .tuple Y (λd i j=>rF n _ (by
    simp only[eZ] at a;exact Vx.1 a _ (by simp)))
def dj (G:mG):V4->Bool
 | .tmp _=>Z
 | .const v=>eZ 6 v
 | .global _=>U5
 | .func f=>G.b f
def yy (P:Vb)(b:Builtin)(c:Array Vc):Bool:=
 match b with
 | .append=>match c[1]? with
  |some a=>(match P.underlying a with|some (.int _)=>U5|_=>Z)
  |none=>Z
 | .copy| .len| .recover| .unsafeString=>Z
 |_=>U5
def lR (P:Vb)(ρ:aN G)(k:Target)(l:Target):Prop:=∀a:Target->Target->Prop,(∀{f h:Fn} (m:nV ρ f h) {d e:Array U} (j:aW ρ d e),a (.fn f d) (.fn h e))->(a .nil .nil)->(∀(b:Builtin) (c:Array Vc) (i:Vc) (g:Array Bool) (j:yy P b c=Z),a (.builtin b c i g) (.builtin b c i g))->a k l
def lR.fn{P:Vb}{ρ:aN G}{f f':Fn}(d:nV ρ f f'){c a:Array U}(h:aW ρ c a):lR P ρ (.fn f c) (.fn f' a):=λe b g i=>b d h
def lR.nil{P:Vb}{ρ:aN G}:lR P ρ .nil .nil:=λb c a d=>a
def lR.builtin{P:Vb}{ρ:aN G}(b:Builtin)(a:Array Vc)(t:Vc)(cs:Array Bool)(h:yy P b a=Z):lR P ρ (.builtin b a t cs) (.builtin b a t cs):=λd e f c=>c b a t cs h
def lR.ind{P:Vb}{ρ:aN G}{e:∀(a:Target) (d:Target),lR P ρ a d->Prop}(fn:∀{f f':Fn} (i:nV ρ f f') {c j:Array U} (h:aW ρ c j),e _ _ (lR.fn i h))(nil:e _ _ (lR.nil))(builtin:∀(b:Builtin) (g:Array Vc) (t:Vc) (cs:Array Bool) (h:yy P b g=true),e _ _ (lR.builtin b g t cs h)){a:Target}{d:Target}(h:lR P ρ a d):e a d h:=(h (λa d=>lR P ρ a d/\∀h,e a d h) (λ{f} {f'} i {c} {j} h=>⟨lR.fn i h,λ_=>fn i h⟩) (⟨lR.nil,λ_=>nil⟩) (λb g t cs h=>⟨lR.builtin b g t cs h,λ_=>builtin b g t cs h⟩)).2 h
structure xP(P:Vb)(ρ:aN G)(d d':Xs):Prop where
 target:lR P ρ d.target d'.target
 args:aW ρ d.args d'.args
def iF (P:Vb)(ρ:aN G)(i:Next)(j:Next):Prop:=∀a:Next->Next->Prop,(∀{v e:U} (d:aq ρ v e),a (.value v) (.value e))->(a .skip .skip)->(∀(f:Xb) (k:G.b f=Z) {g h:Array U} (d:aW ρ g h),a (.enter f g) (.enter f h))->(∀{b c:Xs} (d:xP P ρ b c),a (.defer b) (.defer c))->(a .recover .recover)->a i j
def iF.value{P:Vb}{ρ:aN G}{v a:U}(h:aq ρ v a):iF P ρ (.value v) (.value a):=λc b d e f g=>b h
def iF.skip{P:Vb}{ρ:aN G}:iF P ρ .skip .skip:=λb c a d e f=>a
def iF.enter{P:Vb}{ρ:aN G}(f:Xb)(c:G.b f=Z){vs a:Array U}(h:aW ρ vs a):iF P ρ (.enter f vs) (.enter f a):=λd e g b i j=>b f c h
def iF.defer{P:Vb}{ρ:aN G}{d a:Xs}(h:xP P ρ d a):iF P ρ (.defer d) (.defer a):=λc e f g b i=>b h
def iF.recover{P:Vb}{ρ:aN G}:iF P ρ .recover .recover:=λb c d e f a=>a
def iF.ind{P:Vb}{ρ:aN G}{a:∀(b:Next) (c:Next),iF P ρ b c->Prop}(value:∀{v j:U} (h:aq ρ v j),a _ _ (iF.value h))(skip:a _ _ (iF.skip))(enter:∀(f:Xb) (e:G.b f=true) {vs g:Array U} (h:aW ρ vs g),a _ _ (iF.enter f e h))(defer:∀{d i:Xs} (h:xP P ρ d i),a _ _ (iF.defer h))(recover:a _ _ (iF.recover)){b:Next}{c:Next}(h:iF P ρ b c):a b c h:=(h (λb c=>iF P ρ b c/\∀h,a b c h) (λh=>⟨iF.value h,λ_=>value h⟩) (⟨iF.skip,λ_=>skip⟩) (λf e {vs} {g} h=>⟨iF.enter f e h,λ_=>enter f e h⟩) (λh=>⟨iF.defer h,λ_=>defer h⟩) (⟨iF.recover,λ_=>recover⟩)).2 h
section
variable {P P':Vb}{ρ:aN G}
def aW.two{vs d:Array U}(h:aW ρ vs d):(∃a b a' b',vs=#[a,b]/\d=#[a',b']/\aq ρ a a'/\aq ρ b b')\/(vs.size≠2/\d.size≠2):=by
 by_cases c:vs.size=2
 ·have e:d.size=2:=by rw[<-h.1];exact c
  obtain⟨f⟩:=vs;obtain⟨g⟩:=d;simp at c e
  match f,g,c,e,h with
  | [a,b],[a',b'],_,_,h=>exact .inl ⟨a,b,a',b',rfl,rfl,h.2 0 (by simp) (by simp),h.2 1 (by simp) (by simp)⟩
 ·exact .inr ⟨c,by rw[<-h.1];exact c⟩
theorem v9:∀(n:Nat) {ρ:aN G} {a a':VI} (b:ByteArray),cP ρ a a'->an P P' (iX (α:=ByteArray)) ρ (loadBytes a b n) (loadBytes a' b n)
 |0,ρ,a,a',b,c=>.aA Y
 |n+1,ρ,a,a',b,c=>by
  unfold loadBytes;refine .load c (λv g d=>?_);cases d using aq.ind with
  |int e f=>
   cases e<;>first|exact an.stuck|exact v9 n _ (c.add 1)
  |_=>exact an.stuck
def NR(L:Alike G P P')(t:Vc):an P P' (iX (α:=Vc)) ρ (elemOf t) (elemOf t):=by
 unfold elemOf;refine(aO L.S t).bindM (λe b d c a=>?_);obtain⟨rfl,-⟩:=a;cases b<;>first|exact .aA rfl|exact an.stuck
def AU(L:Alike G P P'){a a':VI}(u:Vc)(n:Nat)(h:cP ρ a a'):an P P' (iX (α:=Bool)) ρ (variablesAt a u n) (variablesAt a' u n):=by
 unfold variablesAt;refine .asks ?_;refine(pu h.1).bindM (λg c f d b=>?_);cases b;cases c with
 |none=>exact .aA Y
 |some e=>dsimp only;rw[L.lU,L.depth,L.cells,<-h.2.1];exact .aA Y
def zn(L:Alike G P P')(c:Array Vc)(t:Vc){vs e:Array U}(h:aW ρ vs e):an P P' aq ρ (Builtin.unsafeString_ c t vs) (Builtin.unsafeString_ c t e):=by
 unfold Builtin.unsafeString_;rcases h.two with⟨n,p,o,q,rfl,rfl,b,k⟩|⟨g,i⟩
 ·cases b using aq.ind with
  |cZ=>
   refine(pp k).bindM (λC A B d a=>?_);cases a;cases c[0]? with
   |none=>exact an.stuck
   |some m=>
    dsimp only
    split
    ·exact vm L _ (by simp) (by simp) (by simp)
    ·split
     ·exact fw
     ·split
      ·exact .aA (.string _)
      ·exact eF L.S _ (by simp) (by simp) (by simp)
  |ptr b=>
   refine(pp k).bindM (λC A B d a=>?_);cases a;cases c[0]? with
   |none=>exact an.stuck
   |some m=>
    dsimp only
    split
    ·exact vm L _ (by simp) (by simp) (by simp)
    ·split
     ·exact fw
     ·split
      ·exact .aA (.string _)
      ·refine(NR L m).bindM (λI v D l a=>?_);cases a;refine(AU L v _ (b.mono (d.trans l))).bindM (λJ r u w a=>?_);cases a;have j:=b.mono (d.trans (l.trans w))
       split
       ·refine(v9 _ _ j).bindM (λK s H x a=>?_);cases a;exact .freeze (j.mono x) (.pure (.string _))
       ·exact an.dx
  |_=>exact an.stuck
 ·obtain⟨y⟩:=vs;obtain⟨z⟩:=e;have f:=h.1;simp only[List.size_toArray] at f g i;rcases y with _|⟨n,_|⟨p,_|⟨r,E⟩⟩⟩<;>rcases z with _|⟨o,_|⟨q,_|⟨u,F⟩⟩⟩<;>first|exact an.stuck|(exfalso;simp at f;done)|(exfalso;simp at g;done)|(exfalso;simp at i;done)
def cM{s s':XH U}(h:an P P' aq ρ s s'):an P P' (iF P) ρ (do pure (.value (<-s))) (do pure (.value (<-s'))):=h.bindM (λ_ _ _ _ h=>.aA (.value h))
def zm{s s':XH Unit}(h:an P P' (iX (α:=Unit)) ρ s s'):an P P' (iF P) ρ (do s;pure .skip) (do s';pure .skip):=h.bindM (λ_ _ _ _ _=>.aA .skip)
def KX(L:Alike G P P')(b:Builtin)(a:Array Vc)(t:Vc)(cs:Array Bool)(c:yy P b a=Z){vs d:Array U}(h:aW ρ vs d):an P P' (iF P) ρ (builtin b a t cs vs) (builtin b a t cs d):=by
 unfold builtin;cases b<;>first
  |(simp[yy] at c;done)
  |exact cM (SC L a t h)
  |exact cM (TT L a t h)
  |exact cM (zn L a t h)
  |exact .aA .recover
  |(refine cM (NP L a t (λi f g e=>?_) h);simp only[yy,f,e] at c;cases c)
def Hh(L:Alike G P P')(f:Xb)(d:G.b f=Z){vs e:Array U}(h:aW ρ vs e):an P P' (iF P) ρ (callFunc f vs) (callFunc f e):=by
 unfold callFunc;obtain⟨j,b,g,i⟩:=L.RJ f d;refine .asks ?_;have a:=L.R5 f;rw[b] at a;cases c:P'.funcs[f]? with
 |none=>rw[c] at a;simp at a
 |some k=>
  rw[c] at a;simp only[Xc,VY,Prod.mk.injEq] at a;rw[b];dsimp only;rw[a.1,i,a.2,g];exact .aA (.enter f d h)
def E5(L:Alike G P P'){t b:Target}(j:lR P ρ t b){vs c:Array U}(h:aW ρ vs c):an P P' (iF P) ρ (invoke t vs) (invoke b c):=by
 unfold invoke;cases j using lR.ind with
 |nil=>exact eF L.S _ (by simp) (by simp) (by simp)
 |builtin d k t e g=>exact KX L d k t e g h
 |fn a i=>
  cases a using nV.ind with
  |func f a=>exact Hh L f a (h.append i)
def yz (G:mG)(P:Vb)(c:Call):Bool:=
 c.args.toList.all (dj G)&&match c.callee with
  | .builtin a=>yy P a c.argTypes
  | .value f=>dj G f
  | .invoke _ _=>U5
def IP{e e':V4->U}(b:∀x,dj G x=Z->aq ρ (e x) (e' x))(a:Array V4)(h:a.toList.all (dj G)=Z):aW ρ (a.map e) (a.map e'):=by
 refine⟨by simp,λf c d=>?_⟩;simp only[Array.getElem_map];exact b _ (Vx.1 h _ (by simp))
def BG{e e':V4->U}(i:∀x,dj G x=Z->aq ρ (e x) (e' x))(c:Call)(t:Vc)(h:yz G P c=Z):an P P' (xP P) ρ (Y6 e c t) (Y6 e' c t):=by
 unfold Y6;unfold yz at h;rw[Vr] at h;have g:=IP i c.args h.1;have a:=h.2;cases d:c.callee with
 |builtin j=>
  rw[d] at a;exact .aA ⟨.builtin j _ t _ a,g⟩
 |value f=>
  rw[d] at a;have b:=i f a;dsimp only;unfold YQ;generalize e f=x at b;generalize e' f=p at b;cases b using aq.ind with
  |func b k a l m=>exact .aA ⟨.fn b ⟨l,m⟩,aW.append ⟨k,a⟩ g⟩
  |nilFunc=>exact .aA ⟨.nil,g⟩
  |_=>exact an.stuck
 |invoke o n=>rw[d] at a;cases a
end
end
section
variable {G:mG}
def yM (P:Vb)(t:Vc):Bool:=match P.underlying t with|some (.int _)=>Z|_=>U5
def Jh (P:Vb)(t:Vc):Bool:=match P.underlying t with|some (.map a _)=>plainKey P 10000 a|_=>Z
def fE (G:mG)(P:Vb):Op->Bool
 | .move a| .assign a| .box _ a| .load _ a| .nilCheck a| .unOp _ _ a| .makeInterface _ a| .fieldAddr _ a _| .field _ a _| .extract a _| .panic a=>dj G a
 | .pick c b h=>dj G c&&dj G b&&dj G h
 | .alloc _=>Z
 | .build _ g| .buildSlice _ _ g=>g.toList.all λo=>dj G o.2
 | .store _ b v| .binOp _ _ b v _| .makeSlice _ b v| .indexAddr _ b v| .index _ b v=>dj G b&&dj G v
 | .convert s j a=>dj G a&&yM P s&&yM P j
 | .makeFunc k first i=>(match k with| .func f=>G.b f|_=>U5)&&first.toList.all (dj G)&&i.toList.all (dj G)
 | .makeMap _ p=>p.toList.all (dj G)
 | .slice _ a n l m=>dj G a&&n.toList.all (dj G)&&l.toList.all (dj G)&&m.toList.all (dj G)
 | .lookup d b v _=>Jh P d&&dj G b&&dj G v
 | .mapUpdate d m e v| .insert d m e v=>Jh P d&&dj G m&&dj G e&&dj G v
 | .call c| .defer c=>yz G P c
 |_=>U5
section
variable {P P':Vb}{ρ:aN G}
def KY(L:Alike G P P')(s d:Vc){v f:U}(b:yM P s=Z)(a:yM P d=Z)(h:aq ρ v f):an P P' aq ρ (convert s d v) (convert s d f):=by
 unfold convert;refine(aO L.S s).bindM (λn g l j c=>?_);obtain⟨rfl,c⟩:=c;refine(aO L.S d).bindM (λo i m k e=>?_);obtain⟨rfl,e⟩:=e;unfold yM at b a;rw[c] at b;rw[e] at a;cases g<;>first|(simp at b;done)|skip
 cases i<;>first|(simp at a;done)|skip
 cases h using aq.ind<;>first|exact .aA (.int _ _)|exact an.dx
def rC{e e':V4->U}(a:∀x,dj G x=Z->aq ρ (e x) (e' x))(o:Option V4)(h:o.toList.all (dj G)=Z):ej ρ (o.map e) (o.map e'):=by
 cases o with
 |none=>exact .none
 |some x=>exact .some (a x (by simpa using h))
def BB{e e':V4->U}(a:∀x,dj G x=Z->aq ρ (e x) (e' x))(ps:Array (Nat×V4))(h:(ps.toList.all λp=>dj G p.2)=Z):ic ρ (ps.map fun(i,x)=>(i,e x)).toList (ps.map fun(i,x)=>(i,e' x)).toList:=by
 rw[Array.toList_map,Array.toList_map];generalize ps.toList=c at h
 induction c with
 |nil=>exact .nil
 |cons p d b=>
  simp only[List.all_cons,Vr] at h;exact .cons p.1 (a _ h.1) (b h.2)
def yN{t:Vc}(h:Jh P t=Z):∀a b,P.underlying t=I (.map a b)->plainKey P 10000 a=Z:=by
 intro a b c;unfold Jh at h;rw[c] at h;exact h
def SD(L:Alike G P P')(o:Ww){e e':V4->U}(a:fE G P o.op=Z)(b:∀x,dj G x=Z->aq ρ (e x) (e' x))(I:∀x,o.op= .panic x->(∃t v,e x= .iface t v)\/e x=V9):an P P' (iF P) ρ (Vw e o) (Vw e' o):=by
 unfold Vw;cases c:o.op with
 |move x=>rw[c] at a;exact .aA (.value (b x a))
 |assign x=>rw[c] at a;exact .aA (.value (b x a))
 |pick i g h=>
  rw[c] at a;simp only[fE,Vr] at a;refine(NQ (b i a.1.1)).bindM (λA x q j H=>?_);cases H;cases x
  ·exact .aA (.value ((b h a.2).mono j))
  ·exact .aA (.value ((b g a.1.2).mono j))
 |alloc t=>exact cM (Qn L t)
 |box t x=>rw[c] at a;exact cM (TS t (b x a))
 |build t z=>rw[c] at a;exact cM (Qp L t (BB b z a))
 |buildSlice t K z=>rw[c] at a;exact cM (CV L t K (BB b z a))
 |load t x=>rw[c] at a;exact cM (NU L t (b x a))
 |store t g v=>
  rw[c] at a;simp only[fE,Vr] at a;exact zm (Ld L t (b g a.1) (b v a.2))
 |nilCheck x=>
  rw[c] at a;have d:=b x a;dsimp only;generalize e x=v at d;generalize e' x=C at d;have B:=d;cases d using aq.ind with
  |cZ=>exact eF L.S _ (by simp) (by simp) (by simp)
  |nilIface=>exact eF L.S _ (by simp) (by simp) (by simp)
  |nilFunc=>exact eF L.S _ (by simp) (by simp) (by simp)
  |func a Q R S T=>
   cases a using nV.ind with
   |func f O=>exact .aA (.value B)
  |_=>exact .aA (.value B)
 |binOp p t x q V=>
  rw[c] at a;simp only[fE,Vr] at a;exact cM ((KZ L p t x q (b x a.1) (b q a.2)).bindM (λA _ _ j _=>Qo L p t ((b x a.1).mono j) ((b q a.2).mono j)))
 |unOp p t x=>rw[c] at a;exact cM (Qw p (b x a))
 |convert s r x=>
  rw[c] at a;simp only[fE,Vr] at a;exact cM (KY L s r a.1.2 a.2 (b x a.1.1))
 |makeInterface t x=>rw[c] at a;exact cM (wY L t (b x a))
 |makeFunc F first D=>
  rw[c] at a;simp only[fE,Vr] at a;have u:=IP b first a.1.2
  have w:=IP b D a.2;cases F with
  |func f=>exact cM (.aA (.func (.func f a.1.1) u.1 u.2 w.1 w.2))
  |_=>exact absurd a.1.1 (by simp)
 |makeMap t N=>rw[c] at a;exact cM (Lb L t (rC b N a))
 |makeSlice t g h=>
  rw[c] at a;simp only[fE,Vr] at a;exact cM (E6 L t (b g a.1) (b h a.2))
 |slice t x J d m=>
  rw[c] at a;simp only[fE,Vr] at a;exact cM (Lc L t (b x a.1.1.1) (rC b J a.1.1.2) (rC b d a.1.2) (rC b m a.2))
 |fieldAddr t x l=>rw[c] at a;exact cM (K6 L t (b x a) l)
 |field t x l=>rw[c] at a;exact cM (Qq L t (b x a) l)
 |indexAddr t g h=>
  rw[c] at a;simp only[fE,Vr] at a;exact cM (K7 L t (b g a.1) (b h a.2))
 |index t g h=>
  rw[c] at a;simp only[fE,Vr] at a;exact cM (Qt L t (b g a.1) (b h a.2))
 |lookup t g h M=>
  rw[c] at a;simp only[fE,Vr] at a;exact cM (NV L t M (yN a.1.1) (b g a.1.2) (b h a.2))
 |mapUpdate t m y v=>
  rw[c] at a;simp only[fE,Vr] at a;exact zm (wh L t (yN a.1.1.1) (b m a.1.1.2) (b y a.1.2) (b v a.2))
 |insert t m y v=>
  rw[c] at a;simp only[fE,Vr] at a;exact zm (wh L t (yN a.1.1.1) (b m a.1.1.2) (b y a.1.2) (b v a.2))
 |extract x l=>rw[c] at a;exact cM (K4 (b x a) l)
 |call i=>
  rw[c] at a;exact(BG b i o.type a).bindM (λA r E _ n=>E5 L n.target n.args)
 |defer i=>
  rw[c] at a;exact(BG b i o.type a).bindM (λA r E _ n=>.aA (.defer n))
 |panic x=>
  rw[c] at a;have d:=b x a;dsimp only;rcases I x c with⟨t,v,k⟩|k
  ·rw[k] at d ⊢;generalize e' x=C at d;cases d using aq.ind with
   |iface t k=>exact an.halt (.panic (.iface t k))
  ·rw[k] at d ⊢;generalize e' x=C at d;unfold V9 at d ⊢;cases d using aq.ind with
   |tuple u w=>exact an.stuck
 |_=>rw[c] at a;simp[fE] at a
end
end
section
variable {G:mG}
def rq:Op->Bool
 | .panic _=>Z
 |_=>U5
def o9 (ops:Array Ww)(a b:Nat):Bool:=
 match ops[b]? with
 |some d=>match d.op with
  | .panic g=>match ops[a]? with
   |some c=>(match c.op,c.dst,g with| .makeInterface _ _,I e,.tmp f=>e==f|_,_,_=>U5)&&c.guard.isNone
   |none=>U5
  |_=>Z
 |none=>Z
def kP (ops:Array Ww):List Nat->Bool
 |a::b::c=>o9 ops a b&&kP ops (b::c)
 |_=>Z
def Jj (ops:Array Ww)(i:Nat):Bool:=match ops[i]? with|some a=> !rq a.op|none=>Z
def mT (G:mG)(P:Vb)(ops:Array Ww)(b:Bool):Bool:=
 (ops.toList.all λa=>fE G P a.op)&&if b then ops.toList.all (λa=> !rq a.op) else kP ops (VS ops.size)&&Jj ops 0
def cE (G:mG)(P:Vb):XQ->Bool
 | .region _ e d=>mT G P e d
 | .seq a b=>cE G P a&&cE G P b
 | .cond c a b=>dj G c&&cE G P a&&cE G P b
 | .block _ a| .loop a| .scope a=>cE G P a
 | .skip| .exit _| .label _| .ret=>Z
 | .rangeFunc _ _ _ _| .goto _| .refuse _=>U5
def bR (G:mG)(P:Vb)(h:XR):Prop:=∀b:XR->Prop,(∀(a:XQ) (c:cE G P a=Z),b (.code a))->(∀(f:Nat),b (.inBlock f))->(∀(a:XQ) (c:cE G P a=Z),b (.inLoop a))->(∀(a:XQ) (c:cE G P a=Z),b (.inScope a))->(∀(d:Array Ww) (e:List Nat) (c:(d.toList.all λg=>fE G P g.op)=Z) (i:kP d e=Z),b (.inRegion d e))->b h
def bR.code{G:mG}{P:Vb}(c:XQ)(h:cE G P c=Z):bR G P (.code c):=λb a d e f g=>a c h
def bR.inBlock{G:mG}{P:Vb}(i:Nat):bR G P (.inBlock i):=λb c a d e f=>a i
def bR.inLoop{G:mG}{P:Vb}(c:XQ)(h:cE G P c=Z):bR G P (.inLoop c):=λb d e a f g=>a c h
def bR.inScope{G:mG}{P:Vb}(c:XQ)(h:cE G P c=Z):bR G P (.inScope c):=λb d e f a g=>a c h
def bR.inRegion{G:mG}{P:Vb}(ops:Array Ww)(todo:List Nat)(h:(ops.toList.all λo=>fE G P o.op)=Z)(hc:kP ops todo=Z):bR G P (.inRegion ops todo):=λb c d e f a=>a ops todo h hc
def bR.ind{G:mG}{P:Vb}{a:∀(b:XR),bR G P b->Prop}(code:∀(c:XQ) (h:cE G P c=true),a _ (bR.code c h))(inBlock:∀(i:Nat),a _ (bR.inBlock i))(inLoop:∀(c:XQ) (h:cE G P c=true),a _ (bR.inLoop c h))(inScope:∀(c:XQ) (h:cE G P c=true),a _ (bR.inScope c h))(inRegion:∀(ops:Array Ww) (todo:List Nat) (h:(ops.toList.all λo=>fE G P o.op)=true) (hc:kP ops todo=true),a _ (bR.inRegion ops todo h hc)){b:XR}(h:bR G P b):a b h:=(h (λb=>bR G P b/\∀h,a b h) (λc h=>⟨bR.code c h,λ_=>code c h⟩) (λi=>⟨bR.inBlock i,λ_=>inBlock i⟩) (λc h=>⟨bR.inLoop c h,λ_=>inLoop c h⟩) (λc h=>⟨bR.inScope c h,λ_=>inScope c h⟩) (λops todo h hc=>⟨bR.inRegion ops todo h hc,λ_=>inRegion ops todo h hc⟩)).2 h
def DT (G:mG)(P:Vb)(l:List XR):Prop:=∀a∈l,bR G P a/\∀b c,a≠.inRegion b c
def sK (G:mG)(P:Vb):List XR->Prop
 | []=>True
 |i::a=>bR G P i/\DT G P a
structure JR(ρ:aN G)(p p':Ws):Prop where
 v:aq ρ p.v p'.v
 r:p.recovered=p'.recovered
 g:p.goexit=p'.goexit
def iU (ρ:aN G)(f:List Ws)(g:List Ws):Prop:=∀a:List Ws->List Ws->Prop,(a [] [])->(∀{d e:Ws} {b c:List Ws} (h:JR ρ d e) (i:a b c),a (d::b) (e::c))->a f g
def iU.nil{ρ:aN G}:iU ρ [] []:=λb a c=>a
def iU.cons{ρ:aN G}{p c:Ws}{l b:List Ws}(h:JR ρ p c)(f:iU ρ l b):iU ρ (p::l) (c::b):=λd e a=>a h (f d e a)
def iU.ind{ρ:aN G}{d:∀(a:List Ws) (b:List Ws),iU ρ a b->Prop}(nil:d _ _ (iU.nil))(cons:∀{p f:Ws} {l e:List Ws} (h:JR ρ p f) (c:iU ρ l e),(d _ _ c)->d _ _ (iU.cons h c)){a:List Ws}{b:List Ws}(h:iU ρ a b):d a b h:=(h (λa b=>iU ρ a b/\∀h,d a b h) (⟨iU.nil,λ_=>nil⟩) (λh c=>⟨iU.cons h c.1,λ_=>cons h c.1 (c.2 _)⟩)).2 h
def gp (ρ:aN G)(d:FrameMode)(e:FrameMode):Prop:=∀a:FrameMode->FrameMode->Prop,(a .run .run)->(a .returning .returning)->(∀{b c:List Ws} (f:iU ρ b c),a (.panicking b) (.panicking c))->a d e
def gp.run{ρ:aN G}:gp ρ .run .run:=λb a c d=>a
def gp.returning{ρ:aN G}:gp ρ .returning .returning:=λb c a d=>a
def gp.panicking{ρ:aN G}{c a:List Ws}(h:iU ρ c a):gp ρ (.panicking c) (.panicking a):=λd e f b=>b h
def gp.ind{ρ:aN G}{d:∀(a:FrameMode) (b:FrameMode),gp ρ a b->Prop}(run:d _ _ (gp.run))(returning:d _ _ (gp.returning))(panicking:∀{c e:List Ws} (h:iU ρ c e),d _ _ (gp.panicking h)){a:FrameMode}{b:FrameMode}(h:gp ρ a b):d a b h:=(h (λa b=>gp ρ a b/\∀h,d a b h) (⟨gp.run,λ_=>run⟩) (⟨gp.returning,λ_=>returning⟩) (λh=>⟨gp.panicking h,λ_=>panicking h⟩)).2 h
def iZ (P:Vb)(ρ:aN G)(f:List Xs)(g:List Xs):Prop:=∀a:List Xs->List Xs->Prop,(a [] [])->(∀{b c:Xs} {d e:List Xs} (h:xP P ρ b c) (i:a d e),a (b::d) (c::e))->a f g
def iZ.nil{P:Vb}{ρ:aN G}:iZ P ρ [] []:=λb a c=>a
def iZ.cons{P:Vb}{ρ:aN G}{d b:Xs}{l c:List Xs}(h:xP P ρ d b)(g:iZ P ρ l c):iZ P ρ (d::l) (b::c):=λe f a=>a h (g e f a)
def iZ.ind{P:Vb}{ρ:aN G}{e:∀(a:List Xs) (b:List Xs),iZ P ρ a b->Prop}(nil:e _ _ (iZ.nil))(cons:∀{d f:Xs} {l g:List Xs} (h:xP P ρ d f) (c:iZ P ρ l g),(e _ _ c)->e _ _ (iZ.cons h c)){a:List Xs}{b:List Xs}(h:iZ P ρ a b):e a b h:=(h (λa b=>iZ P ρ a b/\∀h,e a b h) (⟨iZ.nil,λ_=>nil⟩) (λh c=>⟨iZ.cons h c.1,λ_=>cons h c.1 (c.2 _)⟩)).2 h
structure cO(P:Vb)(ρ:aN G)(fr fr':Vg):Prop where
 fn:fr'.fn=fr.fn
 may:G.b fr.fn=Z
 tmps:aW ρ fr.tmps fr'.tmps
 todo:fr'.todo=fr.todo
 ok:sK G P fr.todo
 defers:iZ P ρ fr.defers fr'.defers
 mode:gp ρ fr.mode fr'.mode
 kind:fr'.kind=fr.kind
 kinds:fr.kind= .normal\/fr.kind= .deferred
 round:fr.roundOf=K
 round':fr'.roundOf=K
def eV (fr:Vg):Prop:=fr.mode= .run->∀d b f e c a,fr.todo= .inRegion d (b::f)::e->d[b]? =I c->c.op= .panic a->(∃g v,fr.eval a= .iface g v)\/fr.eval a=V9
def ql (fr:Vg):Prop:=fr.mode= .run->∃c a f e b d,fr.todo= .inRegion c (a::f)::e/\c[a]? =I b/\b.op= .call d
def dI (P:Vb)(ρ:aN G)(e:List Vg)(g:List Vg):Prop:=∀a:List Vg->List Vg->Prop,(a [] [])->(∀{f b:Vg} {c d:List Vg} (h:cO P ρ f b) (j:ql f) (i:a c d),a (f::c) (b::d))->a e g
def dI.nil{P:Vb}{ρ:aN G}:dI P ρ [] []:=λb a c=>a
def dI.cons{P:Vb}{ρ:aN G}{f f':Vg}{l b:List Vg}(h:cO P ρ f f')(g:ql f)(e:dI P ρ l b):dI P ρ (f::l) (f'::b):=λc d a=>a h g (e c d a)
def dI.ind{P:Vb}{ρ:aN G}{d:∀(a:List Vg) (b:List Vg),dI P ρ a b->Prop}(nil:d _ _ (dI.nil))(cons:∀{f f':Vg} {l g:List Vg} (h:cO P ρ f f') (e:ql f) (c:dI P ρ l g),(d _ _ c)->d _ _ (dI.cons h e c)){a:List Vg}{b:List Vg}(h:dI P ρ a b):d a b h:=(h (λa b=>dI P ρ a b/\∀h,d a b h) (⟨dI.nil,λ_=>nil⟩) (λh e c=>⟨dI.cons h e c.1,λ_=>cons h e c.1 (c.2 _)⟩)).2 h
def cV:Vg->List Vg->Prop
 |fr,[]=>fr.kind= .normal
 |_,f::a=>cV f a
theorem cV.of{fr b:Vg}(h:b.kind=fr.kind):∀{l:List Vg},cV fr l->cV b l
 | [],a=>h.trans a
 |_::_,a=>a
section
variable {P:Vb}{ρ σ:aN G}
def lR.mono(a:ρ.le σ){t b:Target}(h:lR P ρ t b):lR P σ t b:=by
 cases h using lR.ind with
 |fn e h=>exact .fn (e.mono a) (h.mono a)
 |nil=>exact .nil
 |builtin c f t d h=>exact .builtin c f t d h
def xP.mono(a:ρ.le σ){t b:Xs}(h:xP P ρ t b):xP P σ t b:=⟨h.target.mono a,h.args.mono a⟩
def iZ.mono(b:ρ.le σ){t a:List Xs}(h:iZ P ρ t a):iZ P σ t a:=by
 induction h using iZ.ind with
 |nil=>exact .nil
 |cons h _ c=>exact .cons (h.mono b) c
def JR.mono(b:ρ.le σ){t a:Ws}(h:JR ρ t a):JR σ t a:=⟨h.v.mono b,h.r,h.g⟩
def iU.mono(b:ρ.le σ){t a:List Ws}(h:iU ρ t a):iU σ t a:=by
 induction h using iU.ind with
 |nil=>exact .nil
 |cons h _ c=>exact .cons (h.mono b) c
def iU.append{a a' b b':List Ws}(h:iU ρ a a')(c:iU ρ b b'):iU ρ (a++b) (a'++b'):=by
 induction h using iU.ind with
 |nil=>exact c
 |cons h _ d=>exact .cons h d
def gp.mono(b:ρ.le σ){t a:FrameMode}(h:gp ρ t a):gp σ t a:=by
 cases h using gp.ind with
 |run=>exact .run
 |returning=>exact .returning
 |panicking h=>exact .panicking (h.mono b)
def cO.mono(a:ρ.le σ){f f':Vg}(h:cO P ρ f f'):cO P σ f f':=
 ⟨h.fn,h.may,h.tmps.mono a,h.todo,h.ok,h.defers.mono a,h.mode.mono a,h.kind,h.kinds,h.round,h.round'⟩
def dI.mono(a:ρ.le σ){f f':List Vg}(h:dI P ρ f f'):dI P σ f f':=by
 induction h using dI.ind with
 |nil=>exact .nil
 |cons h b _ c=>exact .cons (h.mono a) b c
def mD:aq ρ V9 V9:=.tuple Y (λb a=>by simp at a)
def aW.getD{x c:Array U}(h:aW ρ x c)(i:Nat):aq ρ (x.getD i V9) (c.getD i V9):=by
 rw[Vt,Vt];rcases h.get i with⟨a,b⟩|⟨v,e,a,b,d⟩
 ·rw[a,b];exact mD
 ·rw[a,b];exact d
def cO.eval{f f':Vg}(h:cO P ρ f f')(x:V4)(a:dj G x=Z):aq ρ (f.eval x) (f'.eval x):=by
 cases x with
 |tmp c=>exact h.tmps.getD c
 |const v=>exact rF 6 v a
 |global d=>cases a
 |func f=>exact .func (.func f a) Y (λb h=>by simp at h) Y (λb h=>by simp at h)
def F5{x c:Array U}(h:aW ρ x c)(ops:Array Ww)(j:Nat):We ops x j=We ops c j:=by
 unfold We;cases(ops[j]?).bind (·.dst) with
 |none=>rfl
 |some e=>
  simp only[YT];rcases h.get e with⟨a,b⟩|⟨v,f,a,b,d⟩
  ·rw[a,b]
  ·rw[a,b];cases d using aq.ind<;>rfl
def DT.todo{l:List XR}(h:DT G P l):sK G P l:=by
 cases l with
 |nil=>trivial
 |cons b l=>exact⟨(h b (by simp)).1,λc a=>h c (by simp[a])⟩
def DT.tail{i:XR}{l:List XR}(h:DT G P (i::l)):DT G P l:=λb a=>h b (by simp[a])
def DT.cons{i:XR}{l:List XR}(b:bR G P i)(c:∀ops t,i≠.inRegion ops t)(h:DT G P l):DT G P (i::l):=λd a=>by
 rcases WI.1 a with rfl|a
 ·exact⟨b,c⟩
 ·exact h d a
theorem CB{id:Nat}:∀{l k:List XR},DT G P l->YE id l=I k->DT G P k
 | [],k,_,a=>by simp[YE] at a
 |i::l,k,c,a=>by
  have b:DT G P l:=c.tail;cases i<;>simp only[YE] at a<;>first
   |exact CB b a
   |(split at a
     ·cases a;exact b
     ·exact CB b a)
def Br{fr:Vg}(h:∀ops i rest k,fr.todo≠.inRegion ops (i::rest)::k):eV fr:=λ_ ops i rest k b c a=>absurd a (h ops i rest k)
def R8{fr:Vg}{k:List XR}(h:DT G P k):eV {fr with todo:=k}:=Br (λc b d e a=>by
 simp only at a;exact(h (.inRegion c (b::d)) (by rw[a];simp)).2 _ _ Y)
def iI{fr:Vg}(h:fr.mode≠.run):eV fr:=λa=>absurd a h
def B5{fr:Vg}(h:fr.mode≠.run):ql fr:=λa=>absurd a h
end
end
section
variable {G:mG}{bu:Nat}
def cG (P:Vb)(ia fK:List Vg)(ρ:aN G)(t:Nat)(w':F)(q:Zr)(r:Zr):Prop:=∀d:Zr->Zr->Prop,(∀(o:Outcome) (p:F) (b:Array Wm) (f:Zr),d (.ended o p b) f)->(∀{n:VL} {a:F} {b:Array Wm} {f:Zr} (s:t<a.drawn),d (.go n a b) f)->(∀{c:aN G} {h:Nat} {e j:Vg} {aB k:List Vg} {a g:F} {b i:Array Wm} (y:cO P c e j) (z:eV e) (A:dI P c aB k) (C:eJ c h a g) (x:Fr ρ c w' g) (v:∀l∈i,kr c l) (u:cV e aB) (B:a.drawn+h=t),d (.go (Vd e (aB++ia)) a b) (.go (Vd j (k++fK)) g i))->d q r
def cG.lost{P:Vb}{ia fK:List Vg}{ρ:aN G}{t:Nat}{w':F}(o:Outcome)(a:F)(es:Array Wm)(r:Zr):cG P ia fK ρ t w' (.ended o a es) r:=λc b d e=>b o a es r
def cG.over{P:Vb}{ia fK:List Vg}{ρ:aN G}{t:Nat}{w':F}{g:VL}{a:F}{es:Array Wm}{r:Zr}(h:t<a.drawn):cG P ia fK ρ t w' (.go g a es) r:=λc d b e=>b h
def cG.go{P:Vb}{ia fK:List Vg}{ρ:aN G}{t:Nat}{w':F}{σ:aN G}{b1:Nat}{fr fr':Vg}{aB tops':List Vg}{a w1':F}{es b:Array Wm}(h:cO P σ fr fr')(i:eV fr)(j:dI P σ aB tops')(l:eJ σ b1 a w1')(g:Fr ρ σ w' w1')(f:∀e∈b,kr σ e)(d:cV fr aB)(k:a.drawn+b1=t):cG P ia fK ρ t w' (.go (Vd fr (aB++ia)) a es) (.go (Vd fr' (tops'++fK)) w1' b):=λn o p c=>c h i j l g f d k
def cG.ind{P:Vb}{ia fK:List Vg}{ρ:aN G}{t:Nat}{w':F}{d:∀(a:Zr) (b:Zr),cG P ia fK ρ t w' a b->Prop}(lost:∀(o:Outcome) (f:F) (es:Array Wm) (r:Zr),d (.ended o f es) r (cG.lost o f es r))(over:∀{g:VL} {c:F} {es:Array Wm} {r:Zr} (h:t<c.drawn),d (.go g c es) r (cG.over h))(go:∀{σ:aN G} {b1:Nat} {fr fr':Vg} {aB tops':List Vg} {c w1':F} {es u:Array Wm} (l:cO P σ fr fr') (n:eV fr) (p:dI P σ aB tops') (s:eJ σ b1 c w1') (k:Fr ρ σ w' w1') (j:∀e∈u,kr σ e) (i:cV fr aB) (q:c.drawn+b1=t),d (.go (Vd fr (aB++ia)) c es) (.go (Vd fr' (tops'++fK)) w1' u) (cG.go l n p s k j i q)){a:Zr}{b:Zr}(h:cG P ia fK ρ t w' a b):d a b h:=(h (λa b=>cG P ia fK ρ t w' a b/\∀h,d a b h) (λo f es r=>⟨cG.lost o f es r,λ_=>lost o f es r⟩) (λh=>⟨cG.over h,λ_=>over h⟩) (λl n p s k j i q=>⟨cG.go l n p s k j i q,λ_=>go l n p s k j i q⟩)).2 h
def nT (G:mG)(P P':Vb):Prop:=∀f,G.b f=Z->∃a b,P.funcs[f]? =I a/\P'.funcs[f]? =I a/\a.body=I b/\cE G P b=Z
section
variable {P P':Vb}{ρ:aN G}{ia fK:List Vg}{w w':F}{m m':Bool}
def jf:∀e∈(#[]:Array Wm),kr ρ e:=λe a=>by simp at a
def Mu{ops:Array Ww}{k:List XR}(i:DT G P k)(h:mT G P ops U5=Z)(fr:Vg):sK G P (.inRegion ops (VS ops.size)::k)/\eV {fr with todo:=.inRegion ops (VS ops.size)::k}:=by
 unfold mT at h;simp only[Vv,if_false,Vr] at h;refine⟨⟨.inRegion _ _ h.1 h.2.1,i⟩,λ_ p j q l o r c f g=>?_⟩;simp only[Yl,YM] at c;obtain⟨⟨rfl,a⟩,-⟩:=c;have e:j=0:=by
  rw[List.range_eq_range'] at a;cases d:ops.size with
  |zero=>rw[d] at a;simp at a
  |succ n=>rw[d,List.range'_succ] at a;simp at a;omega
 have b:=h.2.2;unfold Jj at b;rw[<-e,f] at b;simp only[g,rq] at b;cases b
def PE{ops:Array Ww}{k:List XR}(o:DT G P k)(h:mT G P ops Z=Z)(l:List Nat)(fr:Vg):sK G P (.inRegion ops l::k)/\eV {fr with todo:=.inRegion ops l::k}:=by
 unfold mT at h;simp only[if_true,Vr] at h;have f:∀(b:Nat) (a:Ww),ops[b]? =I a->rq a.op=U5:=λb a c=>by
  have:=Vx.1 h.2 a (by
   have:=U4.1 c;obtain⟨s,rfl⟩:=this;simp)
  simpa using this
 refine⟨⟨.inRegion _ _ h.1 ?_,o⟩,λ_ u b v t a x e i j=>?_⟩
 ·have:∀l,kP ops l=Z:=by
   intro l
   induction l with
   |nil=>rfl
   |cons q g p=>
    cases g with
    |nil=>rfl
    |cons d g=>
     simp only[kP,Vr];refine⟨?_,p⟩;unfold o9;cases n:ops[d]? with
     |none=>rfl
     |some a=>
      have:=f d a n;dsimp only;cases c:a.op<;>first|rfl|(rw[c] at this;simp[rq] at this)
  exact this l
 ·simp only[Yl,YM] at e;obtain⟨⟨rfl,r⟩,-⟩:=e;have:=f b a i;rw[j] at this;simp[rq] at this
def cO.OI{fr fr':Vg}(h:cO P ρ fr fr'){k:List XR}(a:sK G P k):cO P ρ {fr with todo:=k} {fr' with todo:=k}:=
 ⟨h.fn,h.may,h.tmps,rfl,a,h.defers,h.mode,h.kind,h.kinds,h.round,h.round'⟩
def JD{fr fr':Vg}{aB tops':List Vg}(b:cO P ρ fr fr')(e:dI P ρ aB tops')(f:eJ ρ bu w w'){k:List XR}(d:sK G P k)(c:eV {fr with todo:=k})(a:cV fr aB):
 cG P ia fK ρ (w.drawn+bu) w' (.go (Vd {fr with todo:=k} (aB++ia)) w) (.go (Vd {fr' with todo:=k} (tops'++fK)) w'):=
 .go (b.OI d) c e f (Fr.refl _ _) jf (cV.of (by rfl) a) Y
def SO{fr fr':Vg}{aB tops':List Vg}(c:cO P ρ fr fr')(d:dI P ρ aB tops')(e:eJ ρ bu w w'){k:List XR}(a:DT G P k)(b:cV fr aB):
 cG P ia fK ρ (w.drawn+bu) w' (.go (Vd {fr with todo:=k} (aB++ia)) w) (.go (Vd {fr' with todo:=k} (tops'++fK)) w'):=JD c d e a.todo (R8 a) b
def Fj{fr fr':Vg}(b:cO P ρ fr fr')(c:fr.mode= .run):fr'.mode= .run:=by
 have:=b.mode;rw[c] at this;cases a:fr'.mode with
 |run=>rfl
 |returning=>rw[a] at this;cases this using gp.ind
 |panicking d=>rw[a] at this;cases this using gp.ind
def M2(R:P'.follows .mixedOrders=P.follows .mixedOrders){fr fr':Vg}{aB tops':List Vg}(c:cO P ρ fr fr')(B:dI P ρ aB tops')(p:eJ ρ bu w w')(d:fr.mode= .run)(S:∀ops i r k,fr.todo≠.inRegion ops (i::r)::k)(z:cV fr aB):
 cG P ia fK ρ (w.drawn+bu) w' (VN P m (Vd fr (aB++ia)) w) (VN P' m' (Vd fr' (tops'++fK)) w'):=by
 have h:=Fj c d;have g:=c.todo;have F:=c.ok;have D:=c.round;have H:=c.round';have I:cG P ia fK ρ (w.drawn+bu) w' (.go (Vd {fr with mode:=.returning} (aB++ia)) w) (.go (Vd {fr' with mode:=.returning} (tops'++fK)) w'):=
  .go ⟨c.fn,c.may,c.tmps,c.todo,c.ok,c.defers,.returning,c.kind,c.kinds,c.round,c.round'⟩ (iI (by simp)) B p (Fr.refl _ _) jf (cV.of (by rfl) z) Y
 cases b:fr.todo with
 |nil=>
  rw[b] at g;have j:VN P m (Vd fr (aB++ia)) w= .go (Vd {fr with mode:=.returning} (aB++ia)) w:=by simp[Vd,VN,VG,d,b,D]
  have o:VN P' m' (Vd fr' (tops'++fK)) w'= .go (Vd {fr' with mode:=.returning} (tops'++fK)) w':=by simp[Vd,VN,VG,h,g,H]
  rw[j,o];exact I
 |cons X k=>
  rw[b] at g F;obtain⟨O,l⟩:=F;have move:∀(t:List XR),DT G P t->VN P m (Vd fr (aB++ia)) w= .go (Vd {fr with todo:=t} (aB++ia)) w->VN P' m' (Vd fr' (tops'++fK)) w'= .go (Vd {fr' with todo:=t} (tops'++fK)) w'->cG P ia fK ρ (w.drawn+bu) w' (VN P m (Vd fr (aB++ia)) w) (VN P' m' (Vd fr' (tops'++fK)) w'):=λt s j o=>by
   rw[j,o];exact SO c B p s z
  cases O using bR.ind with
  |inBlock i=>exact move k l (by simp[Vd,VN,VG,d,b]) (by simp[Vd,VN,VG,h,g])
  |inLoop n a=>exact move (.code n :: .inLoop n::k) (.cons (.code n a) (by simp) (.cons (.inLoop n a) (by simp) l)) (by simp[Vd,VN,VG,d,b]) (by simp[Vd,VN,VG,h,g])
  |inScope n a=>exact move k l (by simp[Vd,VN,VG,d,b]) (by simp[Vd,VN,VG,h,g])
  |inRegion ops todo a V=>
   cases todo with
   |nil=>exact move k l (by simp[Vd,VN,VG,d,b]) (by simp[Vd,VN,VG,h,g])
   |cons i r=>exact absurd b (S ops i r k)
  |code n a=>
   cases n with
   |skip=>exact move k l (by simp[Vd,VN,VG,d,b]) (by simp[Vd,VN,VG,h,g])
   |label T=>exact move k l (by simp[Vd,VN,VG,d,b]) (by simp[Vd,VN,VG,h,g])
   |seq e q=>
    simp only[cE,Vr] at a;exact move (.code e :: .code q::k) (.cons (.code e a.1) (by simp) (.cons (.code q a.2) (by simp) l)) (by simp[Vd,VN,VG,d,b]) (by simp[Vd,VN,VG,h,g])
   |block id e=>
    simp only[cE] at a;exact move (.code e :: .inBlock id::k) (.cons (.code e a) (by simp) (.cons (.inBlock id) (by simp) l)) (by simp[Vd,VN,VG,d,b]) (by simp[Vd,VN,VG,h,g])
   |loop e=>
    simp only[cE] at a;exact move (.code e :: .inLoop e::k) (.cons (.code e a) (by simp) (.cons (.inLoop e a) (by simp) l)) (by simp[Vd,VN,VG,d,b]) (by simp[Vd,VN,VG,h,g])
   |scope e=>
    simp only[cE] at a;exact move (.code e :: .inScope e::k) (.cons (.code e a) (by simp) (.cons (.inScope e a) (by simp) l)) (by simp[Vd,VN,VG,d,b]) (by simp[Vd,VN,VG,h,g])
   |ret=>
    have j:VN P m (Vd fr (aB++ia)) w= .go (Vd {fr with mode:=.returning} (aB++ia)) w:=by simp[Vd,VN,VG,d,b,D]
    have o:VN P' m' (Vd fr' (tops'++fK)) w'= .go (Vd {fr' with mode:=.returning} (tops'++fK)) w':=by simp[Vd,VN,VG,h,g,H]
    rw[j,o];exact I
   |exit id=>
    cases A:YE id k with
    |some t=>exact move t (CB l A) (by simp[Vd,VN,VG,d,b,A]) (by simp[Vd,VN,VG,h,g,A])
    |none=>
     have j:∃x,VN P m (Vd fr (aB++ia)) w= .ended x w:=by simp[Vd,VN,VG,d,b,A,D]
     obtain⟨x,j⟩:=j;rw[j];exact .lost _ _ _ _
   |cond n e q=>
    simp only[cE,Vr] at a;have u:=c.eval n a.1.1;have Q:∀v,fr.eval n=v->(∀q,v≠.bool q)->∃x,VN P m (Vd fr (aB++ia)) w= .ended x w:=λv L u=>by
     cases v<;>first|exact absurd rfl (u _)|(simp[Vd,VN,VG,d,b,L])
    cases C:fr.eval n with
    |bool E=>
     rw[C] at u;have N:fr'.eval n= .bool E:=by
      cases M:fr'.eval n<;>rw[M] at u<;>cases u using aq.ind;rfl
     refine move (.code (if E then e else q)::k) (.cons (.code _ ?_) (by simp) l) (by simp[Vd,VN,VG,d,b,C]) (by simp[Vd,VN,VG,h,g,N]);cases E
     ·exact a.2
     ·exact a.1.2
    |_=>
     obtain⟨x,j⟩:=Q _ C (by simp);rw[j];exact .lost _ _ _ _
   |region id ops K=>
    simp only[cE] at a;cases K with
    |false=>
     obtain⟨y,s⟩:=Mu l a fr;have j:VN P m (Vd fr (aB++ia)) w= .go (Vd {fr with todo:=.inRegion ops (VS ops.size)::k} (aB++ia)) w:=by simp[Vd,VN,VG,d,b]
     have o:VN P' m' (Vd fr' (tops'++fK)) w'= .go (Vd {fr' with todo:=.inRegion ops (VS ops.size)::k} (tops'++fK)) w':=by simp[Vd,VN,VG,h,g]
     rw[j,o];exact JD c B p y s z
    |true=>
     obtain⟨y,s⟩:=PE l a (Y0 (P.follows .mixedOrders) ops (w.tape w.drawn (.order fr.fn id))) fr;have j:VN P m (Vd fr (aB++ia)) w= .go (Vd {fr with todo:=.inRegion ops (Y0 (P.follows .mixedOrders) ops (w.tape w.drawn (.order fr.fn id)))::k} (aB++ia)) {w with drawn:=w.drawn+1}:=by
      simp[Vd,VN,VG,d,b,choose,XE,Question.forced,Question.cut]
     rw[j];cases bu with
     |zero=>exact .over (by simp)
     |succ bu=>
      have J:=p.tape 0 (.order fr.fn id) (by omega);simp only[Nat.add_zero] at J;have o:VN P' m' (Vd fr' (tops'++fK)) w'= .go (Vd {fr' with todo:=.inRegion ops (Y0 (P.follows .mixedOrders) ops (w.tape w.drawn (.order fr.fn id)))::k} (tops'++fK)) {w' with drawn:=w'.drawn+1}:=by
       simp[Vd,VN,VG,h,g,choose,XE,Question.forced,Question.cut,R,c.fn,J]
      rw[o];refine .go (b1:=bu) (c.OI y) s B ⟨p.gl,p.gr,p.at_,λi U W=>?_⟩ ⟨aN.le.refl _,rfl,rfl,rfl,by simp,U7 _,λ_ _ _=>rfl,λ_ _ a=>.inl a,λ_ y s=>absurd s (by simp;omega)⟩ jf (cV.of (by rfl) z) (by show w.drawn+1+bu=_;omega);have:=p.tape (1+i) U (by omega);simpa [Wc] using this
   |rangeFunc f Z e q=>simp[cE] at a
   |goto T=>simp[cE] at a
   |refuse aa=>simp[cE] at a
end
end
section
variable {G:mG}
section
variable {P P':Vb}{ρ:aN G}{ia fK:List Vg}{w w':F}{m m':Bool}
def iu{σ:aN G}{fr fr':Vg}(h:cO P σ fr fr'){ops:Array Ww}{i:Nat}{rest:List Nat}{k:List XR}(b:fr.todo= .inRegion ops (i::rest)::k){v e:U}(l:aq σ v e):cO P σ (fr.finish v) (fr'.finish e):=by
 have j:=h.todo.trans b;have a:=h.ok;rw[b] at a;have d:sK G P (.inRegion ops rest::k):=by
  refine⟨?_,a.2⟩;cases a.1 using bR.ind with
  |inRegion _ _ g c=>
   refine .inRegion _ _ g ?_;cases rest with
   |nil=>rfl
   |cons n o=>simp only[kP,Vr] at c;exact c.2
 unfold WJ;rw[b,j];dsimp only;cases(ops[i]?).bind (·.dst) with
 |none=>exact⟨h.fn,h.may,h.tmps,rfl,d,h.defers,h.mode,h.kind,h.kinds,h.round,h.round'⟩
 |some f=>exact⟨h.fn,h.may,h.tmps.set l f,rfl,d,h.defers,h.mode,h.kind,h.kinds,h.round,h.round'⟩
def ir{fr fr':Vg}{σ:aN G}(h:cO P σ fr fr'){ops:Array Ww}{i:Nat}{rest:List Nat}{k:List XR}(l:fr.todo= .inRegion ops (i::rest)::k){o:Ww}(g:ops[i]? =I o)(v:U)(y:∀t x,o.op= .makeInterface t x->o.guard=K->∃t v1,v= .iface t v1):eV (fr.finish v):=by
 intro _ F C H D E x c q r;have j:=h.ok;rw[l] at j;unfold WJ at c ⊢;rw[l] at c ⊢;simp only[Yl,YM] at c;obtain⟨⟨rfl,s⟩,rfl⟩:=c;cases j.1 using bR.ind with
 |inRegion _ _ B d=>
  rw[s] at d;simp only[kP,Vr] at d;have b:=d.1;unfold o9 at b;rw[q] at b;dsimp only at b;rw[r] at b;dsimp only at b;rw[g] at b;simp only[Vr] at b;obtain⟨a,u⟩:=b;cases f:o.op with
  |makeInterface t A=>
   rw[f] at a;cases e:o.dst with
   |none=>rw[e] at a;cases x<;>cases a
   |some p=>
    rw[e] at a;cases x with
    |tmp J=>
     simp only[beq_iff_eq] at a;subst a;obtain⟨z,v1,rfl⟩:=y t A f (by simpa using u);simp only[g,YT,e,Frame.eval];by_cases n:p<fr.tmps.size
     ·refine .inl ⟨z,v1,?_⟩;rw[Vt,Array.getElem?_setIfInBounds_self_of_lt n];rfl
     ·refine .inr ?_;rw[Vt,Wl (by rw[Array.size_setIfInBounds];exact Nat.le_of_not_lt n)];rfl
    |_=>cases a
  |_=>rw[f] at a;cases x<;>cases a
def QC{σ:aN G}{fn:Xb}{es:Array Wm}(h:∀e∈es,kr σ e):∀e∈seen P fn es,kr σ e:=λe a=>h e (Conc.mem_seen a)
def vn{σ:aN G}{fr fr':Vg}(h:cO P σ fr fr'){c b:List Ws}(hc:iU σ c b):cO P σ (fr.raise c) (fr'.raise b):=by
 have a:=h.mode;unfold Frame.raise;generalize e:fr.mode=g at a;generalize f:fr'.mode=i at a;cases a using gp.ind with
 |run=>exact⟨h.fn,h.may,h.tmps,h.todo,h.ok,h.defers,.panicking hc,h.kind,h.kinds,h.round,h.round'⟩
 |returning=>exact⟨h.fn,h.may,h.tmps,h.todo,h.ok,h.defers,.panicking hc,h.kind,h.kinds,h.round,h.round'⟩
 |panicking d=>exact⟨h.fn,h.may,h.tmps,h.todo,h.ok,h.defers,.panicking (hc.append d),h.kind,h.kinds,h.round,h.round'⟩
def raise_mode(fr:Vg)(c:List Ws):(fr.raise c).mode≠.run:=by
 unfold Frame.raise
 split<;>simp
def uW(k:nT G P P'){σ:aN G}{f:Xb}(d:G.b f=Z){vs e:Array U}(h:aW σ vs e)(a:CallKind)(l:a= .normal\/a= .deferred):cO P σ (VU P f vs a) (VU P' f e a)/\eV (VU P f vs a):=by
 obtain⟨o,g,b,c,i,j⟩:=k f d;unfold VU;simp only[b,c,Xc,Ye,YT,i];refine⟨⟨rfl,d,?_,rfl,⟨.code g j,λq n=>by simp at n⟩,.nil,.run,rfl,l,rfl,rfl⟩,Br (by simp)⟩;rw[h.1];refine h.append ⟨by simp,λp b c=>?_⟩;simp only[Array.getElem_replicate];exact mD
end
end
section
variable {G:mG}{bu:Nat}
section
variable {P P':Vb}{ρ:aN G}{ia fK:List Vg}{w w':F}{m m':Bool}
def wu{σ:aN G}{fr fr':Vg}{aB tops':List Vg}(h:cO P σ fr fr')(y:dI P σ aB tops')(k:cV fr aB):
 (Ys fr (aB++ia)=K/\Ys fr' (tops'++fK)=K)\/∃v e t s,Ys fr (aB++ia)=I (v,t++ia)/\Ys fr' (tops'++fK)=I (e,s++fK)/\aq σ v e/\dI P σ t s/\cV fr t:=by
 rcases h.kinds with d|d
 ·have n:=h.kind.trans d;exact .inl ⟨by unfold Ys;rw[d],by unfold Ys;rw[n]⟩
 ·have n:=h.kind.trans d;cases y using dI.ind with
  |nil=>simp[cV,d] at k
  |cons b N u ihz=>
   rename_i f g r z;have a:=b.mode;unfold Ys;rw[d,n];simp only[XF];cases j:f.mode with
   |run=>
    rw[j] at a;cases c:g.mode<;>rw[c] at a<;>first|exact .inl ⟨rfl,rfl⟩|cases a using gp.ind
   |returning=>
    rw[j] at a;cases c:g.mode<;>rw[c] at a<;>first|exact .inl ⟨rfl,rfl⟩|cases a using gp.ind
   |panicking J=>
    rw[j] at a;cases c:g.mode with
    |run=>rw[c] at a;cases a using gp.ind
    |returning=>rw[c] at a;cases a using gp.ind
    |panicking L=>
     rw[c] at a;cases a using gp.ind with
     |panicking l=>
      cases l using iU.ind with
      |nil=>exact .inl ⟨rfl,rfl⟩
      |cons x l ihz=>
       rename_i C D A B;obtain⟨v,E,i⟩:=C;obtain⟨e,O,M⟩:=D;obtain⟨o,q,p⟩:=x;simp only at o q p;subst q p;cases E with
       |true=>exact .inl ⟨by cases i<;>rfl,by cases i<;>rfl⟩
       |false=>
        cases i with
        |true=>exact .inl ⟨rfl,rfl⟩
        |false=>
         refine .inr ⟨v,e,{f with mode:=.panicking ({v,recovered:=Z}::A)}::r,{g with mode:=.panicking ({v:=e,recovered:=Z}::B)}::z,rfl,rfl,o,?_,?_⟩
         ·exact .cons ⟨b.fn,b.may,b.tmps,b.todo,b.ok,b.defers,.panicking (.cons ⟨o,rfl,rfl⟩ l),b.kind,b.kinds,b.round,b.round'⟩ (B5 (by simp)) u
         ·cases r with
          |nil=>exact k
          |cons F H=>exact k
def CE{fr:Vg}{fr':Vg}{σ:aN G}(h:cO P σ fr fr'){ops:Array Ww}{i:Nat}{rest:List Nat}{k:List XR}(e:fr.todo= .inRegion ops (i::rest)::k)(l:ops[i]? =K)(v:U):eV (fr.finish v):=by
 intro _ r o s p q t b f g;have d:=h.ok;rw[e] at d;unfold WJ at b;rw[e] at b;simp only[Yl,YM] at b;obtain⟨⟨rfl,j⟩,rfl⟩:=b;cases d.1 using bR.ind with
 |inRegion _ _ n c=>
  rw[j] at c;simp only[kP,Vr] at c;have a:=c.1;unfold o9 at a;rw[f] at a;dsimp only at a;rw[g] at a;dsimp only at a;rw[l] at a;cases a
def ga(fr:Vg)(v:U):(fr.finish v).kind=fr.kind:=by
 unfold WJ
 split<;>rfl
def sW(fr:Vg)(c:List Ws):(fr.raise c).kind=fr.kind:=by
 unfold Frame.raise
 split<;>rfl
def QT{fr:Vg}{ops:Array Ww}{i:Nat}{rest:List Nat}{k:List XR}(b:fr.todo= .inRegion ops (i::rest)::k){o:Ww}(a:ops[i]? =I o){c:Call}(hc:o.op= .call c):ql fr:=λ_=>⟨ops,i,rest,k,o,c,b,a,hc⟩
def GR(L:Alike G P P'){e:V4->U}{o:Ww}(l:fE G P o.op=Z)(t:∀x,o.op= .nilCheck x->∀n a b,e x≠.func (.method n) a b){f:Xb}{vs:Array U}{i:F}{es Ap:Array Wm}(h:(Vw e o).runT P w es=(.ok (.enter f vs) i,Ap)):∃c,o.op= .call c:=by
 have d:(Vw e o).run P w= .ok (.enter f vs) i:=by
  have:=Zd P (Vw e o) w es;rw[h] at this;exact(Prod.mk.inj this).1.symm
 have y:∀(s:XH U),((do pure (Next.value (<-s))):XH Next).run P w= .ok (.enter f vs) i->False:=λs g=>by
  rw[XW] at g;cases k:s.run P w<;>rw[k] at g<;>simp at g
 have z:∀(s:XH Unit),((do s;pure Next.skip):XH Next).run P w= .ok (.enter f vs) i->False:=λs g=>by
  rw[XW] at g;cases k:s.run P w<;>rw[k] at g<;>simp at g
 unfold Vw at d;cases j:o.op with
 |nilCheck x=>
  have p:=t x j;rw[j] at d;dsimp only at d;have q:(runtimePanic .nilDeref:XH Next).run P w= .ok (.enter f vs) i->False:=λh=>by
   unfold runtimePanic at h;simp[program,XE,goPanic] at h
  cases u:e x<;>rw[u] at d p<;>(try dsimp only at d)<;>first
   |exact(q d).elim
   |(simp at d;done)
   |(rename_i a;cases a<;>first|exact(q d).elim|(simp at d;done))
   |(rename_i r a b;cases r<;>first|(simp at d;done)|exact absurd Y (p _ _ _))
 |_=>
  rw[j] at d l;dsimp only at d
  first
  |exact⟨_,rfl⟩
  |(simp[fE] at l;done)
  |exact(y _ d).elim
  |exact(z _ d).elim
  |(simp at d;done)
  |(rw[XW] at d;generalize XE P _ w=v at d;cases v<;>simp at d
    done)
def qG{e:V4->U}{o:Ww}{t:Vc}{x:V4}(f:o.op= .makeInterface t x){n:Next}{c:F}{es Ap:Array Wm}(h:(Vw e o).runT P w es=(.ok n c,Ap)):∃t v1,n= .value (.iface t v1):=by
 have a:(Vw e o).run P w= .ok n c:=by
  have:=Zd P (Vw e o) w es;rw[h] at this;exact(Prod.mk.inj this).1.symm
 unfold Vw at a;rw[f] at a;dsimp only at a;unfold Instr.makeInterface Yt at a;rw[XW] at a;cases b:P.underlying t with
 |none=>simp[program,b,XE,stuck] at a
 |some d=>cases d<;>simp[program,b,XE,stuck] at a<;>exact⟨_,_,a.1.symm⟩
def fo{σ:aN G}{f:Xb}{es:Array Wm}(h:∀e∈es,kr σ e):∀e∈seen P f es++#[],kr σ e:=λe a=>by
 rw[Array.append_empty] at a;exact QC h e a
def Sr(L:Alike G P P')(a7:nT G P P'){fr fr':Vg}{aB tops':List Vg}(d:cO P ρ fr fr')(bc:eV fr)(J:dI P ρ aB tops')(aa:eJ ρ bu w w')(n:cV fr aB)(D:fr.mode= .run){ops:Array Ww}{i:Nat}{rest:List Nat}{k:List XR}(a:fr.todo= .inRegion ops (i::rest)::k):
 cG P ia fK ρ (w.drawn+bu) w' (VN P m (Vd fr (aB++ia)) w) (VN P' m' (Vd fr' (tops'++fK)) w'):=by
 have X:=Fj d D;have M:=d.todo.trans a;have W:=d.round;have aw:=d.round';have a0:We ops fr.tmps=We ops fr'.tmps:=funext λbi=>F5 d.tmps ops bi;have au:(fr.kind==CallKind.early)=U5:=by rcases d.kinds with H|H<;>rw[H]<;>rfl
 have bd:(fr'.kind==CallKind.early)=U5:=by rw[d.kind];exact au
 cases e:ops[i]? with
 |none=>
  have A:VN P m (Vd fr (aB++ia)) w= .go (Vd (fr.finish V9) (aB++ia)) w:=by simp[Vd,VN,VG,D,a,e]
  have B:VN P' m' (Vd fr' (tops'++fK)) w'= .go (Vd (fr'.finish V9) (tops'++fK)) w':=by simp[Vd,VN,VG,X,M,e]
  rw[A,B];exact .go (iu d a mD) (CE d a e _) J aa (Fr.refl _ _) jf (cV.of (ga _ _) n) Y
 |some l=>
  have I:fE G P l.op=Z:=by
   have C:=d.ok;rw[a] at C;cases C.1 using bR.ind with
   |inRegion _ _ c x=>
    obtain⟨bz,rfl⟩:=U4.1 e;exact Vx.1 c _ (by simp)
  cases E:VA l (We ops fr.tmps) with
  |false=>
   have ab:VA l (We ops fr'.tmps)=U5:=by rw[<-a0];exact E
   have A:VN P m (Vd fr (aB++ia)) w= .go (Vd (fr.finish V9) (aB++ia)) w:=by simp[Vd,VN,VG,D,a,e,E]
   have B:VN P' m' (Vd fr' (tops'++fK)) w'= .go (Vd (fr'.finish V9) (tops'++fK)) w':=by simp[Vd,VN,VG,X,M,e,ab]
   rw[A,B];exact .go (iu d a mD) (ir d a e _ (λz g _ bb=>by simp[VA,bb] at E)) J aa (Fr.refl _ _) jf (cV.of (ga _ _) n) Y
  |true=>
   have ab:VA l (We ops fr'.tmps)=Z:=by rw[<-a0];exact E
   have A:VN P m (Vd fr (aB++ia)) w=WO P Z fr (aB++ia) K (Vw fr.eval l) w:=by simp[Vd,VN,VG,stepG.oper,Frame.oper?,D,a,e,E,W]
   have B:VN P' m' (Vd fr' (tops'++fK)) w'=WO P' Z fr' (tops'++fK) K (Vw fr'.eval l) w':=by simp[Vd,VN,VG,stepG.oper,Frame.oper?,X,M,e,ab,aw]
   rw[A,B];have U:=(SD (ρ:=ρ) L l I (λg p=>d.eval g p) (λg p=>bc D ops i rest k l g a e p)).runs w w' #[] #[] bu aa jf (λam H=>by simp at H);generalize t:(Vw fr.eval l).runT P w #[]=br at U;generalize a8:(Vw fr'.eval l).runT P' w' #[]=bs at U;unfold WO;simp only[if_true,t,a8,a,M,au,bd,Vv,if_false];cases U using fM.ind with
   |halt p r h q j V=>
    rename_i ae a2 g bo a1 bm ao a3;cases p using lP.ind with
    |panic N=>
     rename_i v F;exact .go (fr:=fr.raise [{v,recovered:=U5}]) (fr':=fr'.raise [{v:=F,recovered:=U5}]) (vn (d.mono h.le) (.cons ⟨N,rfl,rfl⟩ .nil)) (iI (raise_mode _ _)) (J.mono h.le) r h (fo q) (cV.of (sW _ _) n) j
    |same _ u=>
     cases g with
     |stuck s=>exact .lost _ _ _ _
     |unsupported ad=>cases ad<;>first|exact .lost _ _ _ _|(simp[qy] at u;done)
     |_=>simp[qy] at u
   |ok T r h q j V=>
    rename_i ae a2 bj bA a1 bm ao a3;have b:=d.mono h.le;have y:=J.mono h.le;cases T using iF.ind with
    |value N=>
     rename_i v F;exact .go (fr:=fr.finish v) (fr':=fr'.finish F) (iu b a N) (ir b a e _ (λz g o _=>by
      obtain⟨O,Q,c⟩:=qG o t;cases c;exact⟨_,_,rfl⟩)) y r h (fo q) (cV.of (ga _ _) n) j
    |skip=>
     exact .go (fr:=fr.finish V9) (fr':=fr'.finish V9) (iu b a mD) (ir b a e _ (λz g o _=>by
      obtain⟨O,Q,c⟩:=qG o t;cases c)) y r h (fo q) (cV.of (ga _ _) n) j
    |enter f ba be=>
     rename_i bk bl;obtain⟨c,x⟩:=uW a7 ba be .normal (.inl rfl);obtain⟨bx,a9⟩:=GR L I (λg p bj bt bv am=>by
      have S:=d.eval g (by rw[p] at I;exact I);rw[am] at S;generalize fr'.eval g=b1 at S;cases S using aq.ind with
      |func h _ _ _ _=>cases h using nV.ind) t
     exact .go (fr:=VU P f bk .normal) (fr':=VU P' f bl .normal) (aB:=fr::aB) (tops':=fr'::tops') c x (.cons b (QT a e a9) y) r h (fo q) n j
    |defer u=>
     rename_i R al;have C:=b.ok;rw[a] at C;have ar:cO P ae {fr with defers:=R::fr.defers,todo:=.inRegion ops (i::rest)::k} {fr' with defers:=al::fr'.defers,todo:=.inRegion ops (i::rest)::k}:=⟨b.fn,b.may,b.tmps,rfl,C,.cons u b.defers,b.mode,b.kind,b.kinds,b.round,b.round'⟩;exact .go (fr:=WJ {fr with defers:=R::fr.defers,todo:=.inRegion ops (i::rest)::k} V9) (fr':=WJ {fr' with defers:=al::fr'.defers,todo:=.inRegion ops (i::rest)::k} V9) (iu ar Y mD) (ir ar Y e _ (λz g o _=>by
      obtain⟨O,Q,c⟩:=qG o t;cases c)) y r h (fo q) (cV.of (ga {fr with defers:=R::fr.defers,todo:=.inRegion ops (i::rest)::k} V9) (cV.of (fr:=fr) (by rfl) n)) j
    |recover=>
     simp only[W,aw];rcases wu (ia:=ia) (fK:=fK) b y n with⟨c,x⟩|⟨v,F,z,b0,c,x,a4,a5,a6⟩
     ·rw[c,x];exact .go (fr:=fr.finish .nilIface) (fr':=fr'.finish .nilIface) (iu b a .nilIface) (ir b a e _ (λz g o _=>by
       obtain⟨O,Q,c⟩:=qG o t;cases c)) y r h (fo q) (cV.of (ga _ _) n) j
     ·rw[c,x];exact .go (fr:=fr.finish v) (fr':=fr'.finish F) (iu b a a4) (ir b a e _ (λz g o _=>by
       obtain⟨O,Q,c⟩:=qG o t;cases c)) a5 r h (fo q) (cV.of (ga _ _) a6) j
   |oN p j V=>
    rename_i ae g bo a1 ao;cases p using lP.ind with
    |panic N=>exact .over j
    |same _ u=>
     cases g with
     |stuck s=>exact .lost _ _ _ _
     |unsupported ad=>cases ad<;>first|exact .lost _ _ _ _|(simp[qy] at u;done)
     |_=>simp[qy] at u
   |over T j V=>
    cases T using iF.ind with
    |recover=>
     simp only[W];cases Ys fr (aB++ia) with
     |none=>exact .over j
     |some bB=>exact .over j
    |_=>exact .over j
end
end
section
variable {G:mG}
section
variable {P P':Vb}{ρ:aN G}{ia fK:List Vg}{w w':F}{m m':Bool}
theorem E7{α:Type}{g g':α->XH U}:∀(l:List α) {ρ:aN G},(∀ σ,ρ.le σ->∀x∈l,an P P' aq σ (g x) (g' x))->an P P' ja ρ (l.mapM g) (l.mapM g')
 | [],ρ,a=>by rw[List.mapM_nil,List.mapM_nil];exact .aA .nil
 |x::l,ρ,a=>by
  rw[List.mapM_cons,List.mapM_cons];refine(a ρ (aN.le.refl _) x (by simp)).bindM (λσ j k f d=>?_);refine(E7 l (λc b i h=>a c (f.trans b) i (by simp[h]))).bindM (λc n o b e=>?_);exact .aA (.cons (d.mono b) e)
def BH(L:Alike G P P')(fn:XJ){x g:Array U}(h:aW ρ x g):an P P' aq ρ (V0 fn x) (V0 fn g):=by
 unfold V0;refine an.bindM (A:=aW) ?_ (λi a j d b=>?_)
 ·rw[Array.mapM_eq_mapM_toList,Array.mapM_eq_mapM_toList];refine an.bind (A:=ja) (E7 _ (λi d n _=>?_)) (λi a j _ b=>.pure b.toArray);cases n with
  |tmp f=>exact .aA ((h.mono d).getD f)
  |cell a f=>
   have e:=(h.mono d).getD a;dsimp only;generalize x.getD a V9=v at e;generalize g.getD a V9=o at e;have k:an P P' cP i (asAddr v) (asAddr o):=by
    cases e using aq.ind with
    |ptr h=>exact .aA h
    |cZ=>exact eF L.S .nilDeref (by simp) (by simp) (by simp)
    |_=>exact an.stuck
   exact k.bindM (λp a j _ l=>BF L.S f l)
 ·refine .aA ?_;by_cases c:a.size=1
  ·rw[dif_pos c,dif_pos (by rw[<-b.1];exact c)];exact b.2 0 _ _
  ·rw[dif_neg c,dif_neg (by rw[<-b.1];exact c)];exact .tuple b.1 b.2
def jP{fr:Vg}(h:ql fr):eV fr:=by
 intro i r k t n p v d e f;obtain⟨s,l,u,o,q,j,a,b,c⟩:=h i;rw[d] at a;simp only[Yl,YM] at a;obtain⟨⟨rfl,g,-⟩,-⟩:=a;subst g;rw[e] at b;cases b;rw[f] at c;cases c
def GV{σ:aN G}{fr fr':Vg}(h:cO P σ fr fr')(k:ql fr){v f:U}(r:aq σ v f):cO P σ (fr.finish v) (fr'.finish f)/\eV (fr.finish v):=by
 have c:=h.todo;have j:=h.ok;have e:(∀b,fr.finish b=fr)->(∀b,fr'.finish b=fr')->cO P σ (fr.finish v) (fr'.finish f)/\eV (fr.finish v):=λl n=>by
  rw[l,n];exact⟨h,jP k⟩
 cases a:fr.todo with
 |nil=>rw[a] at c;exact e (λb=>by unfold WJ;rw[a]) (λb=>by unfold WJ;rw[c])
 |cons A B=>
  rw[a] at c j;cases j.1 using bR.ind with
  |inRegion E s u x=>
   cases s with
   |nil=>exact e (λb=>by unfold WJ;rw[a]) (λb=>by unfold WJ;rw[c])
   |cons y H=>
    refine⟨iu h a r,?_⟩;by_cases i:fr.mode= .run
    ·obtain⟨F,z,I,C,D,t,d,o,p⟩:=k i;rw[a] at d;simp only[Yl,YM] at d;obtain⟨⟨rfl,q,-⟩,-⟩:=d;subst q;exact ir h a o v (λJ K g _=>by rw[p] at g;cases g)
    ·have:(fr.finish v).mode=fr.mode:=by
      unfold WJ;rw[a]
     exact iI (by rw[this];exact i)
  |_=>exact e (λb=>by unfold WJ;rw[a]) (λb=>by unfold WJ;rw[c])
def MW{σ:aN G}{c a:List Ws}(h:iU σ c a):iU σ (c.dropWhile (!·.goexit)) (a.dropWhile (!·.goexit)):=by
 induction h using iU.ind with
 |nil=>exact .nil
 |cons b d e=>
  simp only[List.dropWhile_cons,b.g]
  split
  ·exact e
  ·exact .cons b d
def fC (c:Vg):Vg:=match c.mode with
 | .panicking ({recovered:=Z,..}::a)=>
  match a.dropWhile (!·.goexit) with
  | []=>{c with mode:=.returning}
  |rest=>{c with mode:=.panicking rest}
 |_=>c
def JS{σ:aN G}{f f':Vg}(h:cO P σ f f')(b:ql f):cO P σ (fC f) (fC f')/\eV (fC f)/\(fC f).kind=f.kind:=by
 have g:=h.mode;have l:∀{c d:FrameMode},gp σ c d->cO P σ {f with mode:=c} {f' with mode:=d}:=λn=>⟨h.fn,h.may,h.tmps,h.todo,h.ok,h.defers,n,h.kind,h.kinds,h.round,h.round'⟩;unfold fC;generalize y:f.mode=C at g;generalize z:f'.mode=D at g;cases g using gp.ind with
 |run=>exact⟨h,jP b,rfl⟩
 |returning=>exact⟨h,jP b,rfl⟩
 |panicking a=>
  cases a using iU.ind with
  |nil=>exact⟨h,jP b,rfl⟩
  |cons i a ihz=>
   rename_i r s p q;obtain⟨v,t,u⟩:=r;obtain⟨B,A,x⟩:=s;obtain⟨o,k,j⟩:=i;simp only at o k j;subst k j;cases t with
   |false=>exact⟨h,jP b,rfl⟩
   |true=>
    dsimp only;have e:=MW a;generalize p.dropWhile (!·.goexit)=c at e;generalize q.dropWhile (!·.goexit)=d at e;cases e using iU.ind with
    |nil=>exact⟨l .returning,iI (by simp),rfl⟩
    |cons i a=>exact⟨l (.panicking (.cons i a)),iI (by simp),rfl⟩
end
end
section
variable {G:mG}{bu:Nat}
section
variable {P P':Vb}{ρ:aN G}{ia fK:List Vg}{w w':F}{m m':Bool}
def Qa{a a':FrameMode}(h:gp ρ a a')(b:a≠.run):a'≠.run:=by
 cases h using gp.ind with
 |run=>exact absurd Y b
 |returning=>simp
 |panicking h=>simp
def Cy(L:Alike G P P')(ad:nT G P P'){fr fr':Vg}{aB tops':List Vg}(B:cO P ρ fr fr')(R:dI P ρ aB tops')(au:eJ ρ bu w w')(o:cV fr aB)(C:fr.mode≠.run){d r:Xs}(p:xP P ρ d r):
 cG P ia fK ρ (w.drawn+bu) w' (callDeferred P fr (aB++ia) K d w) (callDeferred P' fr' (tops'++fK) K r w'):=by
 have hR:=(E5 (ρ:=ρ) L p.target p.args).runs w w' #[] #[] bu au jf (λl Z=>by simp at Z);obtain⟨J,V⟩:=d;obtain⟨M,W⟩:=r;have n:=p.target;have a:=B.mode;simp only at n hR;by_cases q:J= .nil/\∃e,fr.mode= .panicking e
 ·obtain⟨rfl,e,z⟩:=q;unfold callDeferred;rw[if_pos ?hP]
  case hP=>simp[z]
  exact .lost _ _ _ _
 ·have al:¬(M= .nil/\∃e,fr'.mode= .panicking e):=by
   rintro⟨rfl,e,z⟩;rw[z] at a;cases n using lR.ind;generalize fr.mode=k at a q;cases a using gp.ind;exact q ⟨rfl,_,rfl⟩
  unfold callDeferred;rw[if_neg ?hL,if_neg ?hR]
  case hL=>
   intro l;apply q;cases J<;>cases E:fr.mode<;>simp[E] at l ⊢
  case hR=>
   intro l;apply al;cases M<;>cases E:fr'.mode<;>simp[E] at l ⊢
  dsimp only;generalize (invoke J V).runT P w #[]=a4 at hR;generalize (invoke M W).runT P' w' #[]=a5 at hR;cases hR using fM.ind with
  |halt I i c g b D=>
   rename_i U Y O a3 N T t Q;cases I using lP.ind with
   |panic H=>
    rename_i v S;exact .go (fr:=fr.raise [{v,recovered:=U5}]) (fr':=fr'.raise [{v:=S,recovered:=U5}]) (vn (B.mono c.le) (.cons ⟨H,rfl,rfl⟩ .nil)) (iI (raise_mode _ _)) (R.mono c.le) i c (fo g) (cV.of (sW _ _) o) b
   |same _ A=>
    cases O with
    |stuck s=>exact .lost _ _ _ _
    |unsupported a0=>exact .lost _ _ _ _
    |_=>simp[qy] at A
  |ok y i c g b D=>
   rename_i U Y a7 a8 N T t Q;have h:=B.mono c.le;have F:=R.mono c.le;have j:cG P ia fK ρ (w.drawn+bu) w' (XZ (seen P fr.fn t) (.go (Vd fr (aB++ia)) N)) (XZ (seen P' fr'.fn Q) (.go (Vd fr' (tops'++fK)) T)):=.go h (iI C) F i c (fo g) o b;cases y using iF.ind with
   |value H=>exact j
   |skip=>exact j
   |defer p=>exact j
   |enter f ae ar=>
    rename_i a1 a2;obtain⟨n,a⟩:=uW ad ae ar .deferred (.inr rfl);exact .go (fr:=VU P f a1 .deferred) (fr':=VU P' f a2 .deferred) (aB:=fr::aB) (tops':=fr'::tops') n a (.cons h (B5 C) F) i c (fo g) o b
   |recover=>
    have a:=h.mode;rcases wu (ia:=ia) (fK:=fK) h F o with⟨u,x⟩|⟨v,S,a9,ba,u,x,a6,aa,ab⟩
    ·dsimp only;rw[u,x];generalize am:fr.mode=k at a;generalize ao:fr'.mode=X at a;cases a using gp.ind<;>exact j
    ·dsimp only;rw[u,x];generalize am:fr.mode=k at a;generalize ao:fr'.mode=X at a;cases a using gp.ind with
     |returning=>exact .go h (iI C) aa i c (fo g) ab b
     |_=>exact j
  |oN I b D=>
   rename_i U O a3 N t;cases I using lP.ind with
   |panic H=>exact .over b
   |same _ A=>
    cases O with
    |stuck s=>exact .lost _ _ _ _
    |unsupported a0=>exact .lost _ _ _ _
    |_=>simp[qy] at A
  |over y b D=>
   cases y using iF.ind with
   |recover=>
    dsimp only;generalize fr.mode=k;generalize Ys fr (aB++ia)=aw;cases k<;>cases aw<;>exact .over b
   |_=>exact .over b
def II(L:Alike G P P')(A:nT G P P'){fr fr':Vg}{aB tops':List Vg}(a:cO P ρ fr fr')(H:dI P ρ aB tops')(s:eJ ρ bu w w')(h:cV fr aB)(i:fr.mode≠.run)(ao:aB=[]->fr.defers≠[]):
 cG P ia fK ρ (w.drawn+bu) w' (VN P m (Vd fr (aB++ia)) w) (VN P' m' (Vd fr' (tops'++fK)) w'):=by
 have am:=Qa a.mode i;have W:VN P m (Vd fr (aB++ia)) w=Zh P m fr (aB++ia) K w:=by
  cases b:fr.mode<;>first|exact absurd b i|simp[Vd,VN,b]
 have X:VN P' m' (Vd fr' (tops'++fK)) w'=Zh P' m' fr' (tops'++fK) K w':=by
  cases b:fr'.mode<;>first|exact absurd b am|simp[Vd,VN,b]
 rw[W,X];unfold Zh;have o:=a.defers;generalize ab:fr.defers=a8 at o;generalize bb:fr'.defers=a9 at o;cases o using iZ.ind with
 |cons D g ihz=>
  rename_i U V M N;have al:cO P ρ {fr with defers:=M} {fr' with defers:=N}:=⟨a.fn,a.may,a.tmps,a.todo,a.ok,g,a.mode,a.kind,a.kinds,a.round,a.round'⟩;have au:=Cy (ia:=ia) (fK:=fK) L A al H s (cV.of (fr:=fr) (by rfl) h) i D;obtain⟨bi,a3⟩:=U;obtain⟨bj,a4⟩:=V;have I:=D.target;simp only at I;cases I using lR.ind<;>exact au
 |nil=>
  cases H using dI.ind with
  |nil=>exact absurd ab (ao Y)
  |cons E J g ihz=>
   rename_i f y M N;obtain⟨j,a7,B,C,bd,be⟩:=A fr.fn a.may;have q:=a.mode;dsimp only;generalize ad:fr.mode=a5 at q;generalize bc:fr'.mode=a6 at q;cases q using gp.ind with
   |run=>exact absurd ad i
   |panicking ae=>
    have S:fr.catches P=U5:=by unfold Frame.catches;rw[B]
    have T:fr'.catches P'=U5:=by unfold Frame.catches;rw[a.fn,C]
    simp only[S,T,Vv,if_false,XF];exact .go (fr:=f.raise _) (fr':=y.raise _) (vn E ae) (iI (raise_mode _ _)) g s (Fr.refl _ _) jf (cV.of (sW _ _) h) Y
   |returning=>
    dsimp only;rw[a.fn,B,C];dsimp only;have n:=(BH (ρ:=ρ) L j a.tmps).runs w w' #[] #[] bu s jf (λba b=>by simp at b);generalize (V0 j fr.tmps).runT P w #[]=a1 at n;generalize (V0 j fr'.tmps).runT P' w' #[]=a2 at n;cases n using fM.ind with
    |halt ar t c p e r=>
     rename_i Q R u a0 O aw x Z;cases u<;>exact .lost _ _ _ _
    |oN ar e r=>
     rename_i Q u a0 O x;cases u<;>exact .lost _ _ _ _
    |over z e r=>
     dsimp only;unfold Yb;simp only[XF];rcases a.kinds with d|d<;>rw[d]<;>exact .over e
    |ok z t c p e r=>
     rename_i Q R v bk O aw x Z;have F:=E.mono c.le;dsimp only;unfold Yb;simp only[XF];rcases a.kinds with d|d
     ·rw[a.kind,d];obtain⟨k,l⟩:=GV F J z;exact .go k l (g.mono c.le) t c (fo p) (cV.of (ga _ _) h) e
     ·rw[a.kind,d];obtain⟨k,l,aa⟩:=JS F J;exact .go (fr:=fC f) (fr':=fC y) k l (g.mono c.le) t c (fo p) (cV.of aa h) e
def OC(L:Alike G P P')(j:nT G P P')(p:P'.follows .mixedOrders=P.follows .mixedOrders){fr fr':Vg}{aB tops':List Vg}(g:cO P ρ fr fr')(o:eV fr)(h:dI P ρ aB tops')(i:eJ ρ bu w w')(f:cV fr aB)(q:aB=[]->fr.mode≠.run->fr.defers≠[]):
 cG P ia fK ρ (w.drawn+bu) w' (VN P m (Vd fr (aB++ia)) w) (VN P' m' (Vd fr' (tops'++fK)) w'):=by
 by_cases a:fr.mode= .run
 ·by_cases k:∃d b e c,fr.todo= .inRegion d (b::e)::c
  ·obtain⟨d,b,e,c,r⟩:=k;exact Sr L j g o h i f a r
  ·exact M2 p g h i a (λd b e c l=>k ⟨d,b,e,c,l⟩) f
 ·exact II L j g h i f a (λn=>q n a)
end
end
end Rl
namespace Cc
open Go Go.Conc
open Rl (mG aN nT cO dI eV eJ Fr kr dG cG aq aW)
def qm (P0 P:Vb)(S:Nat->Prop)(c:Nat)(own:Nat->Prop)(vs:List U)(g:VL)(w:F):Prop:=∃a,Wk P0 P S c a own vs g w
section
variable {P0 P:Vb}{S:Nat->Prop}{c:Nat}{own:Nat->Prop}{vs:List U}{g:VL}{w:F}
def ur(j:g.status= .running)(h:∀a,RelB (λb=>S b\/own b) w a->∃g' w' es,VN P U5 g a= .go g' w' es/\mH P0 S own a w' es/\qm P0 P S c (cQ own a w') vs g' w'):qm P0 P S c own vs g w:=by
 classical
 let f:F->Tr:=λa=>if d:RelB (λb=>S b\/own b) w a then Wq (Vo (Vo (Vo (h a d)))).2.2 else .fin
 refine⟨.mk f,wO.2 ⟨j,.inl λa d=>?_⟩⟩;have e:=Vo (Vo (Vo (h a d)));have i:f a=Wq (Vo (Vo (Vo (h a d)))).2.2:=by
  show(if d:RelB (λb=>S b\/own b) w a then _ else _)=_;rw[dif_pos d]
 exact⟨_,_,_,e.1,e.2.1,Wk.cast i (Vo e.2.2)⟩
def OY{v:U}{l:List U}{g2:VL}{z:U}(i:g.status= .running)(h:∀a,RelB (λb=>S b\/own b) w a->VN P U5 g a= .comm g2 #[scase c v z] Z .send a #[]/\qm P0 P S c own l (Xr g2 V9) a):qm P0 P S c own (v::l) g w:=by
 classical
 let f:F->Tr:=λa=>if d:RelB (λb=>S b\/own b) w a then Wq (h a d).2 else .fin
 refine⟨.mk f,wO.2 ⟨i,.inr (.inl ⟨v,l,g2,z,rfl,λa d=>⟨(h a d).1,?_⟩⟩)⟩⟩;have e:f a=Wq (h a d).2:=by
  show(if d:RelB (λb=>S b\/own b) w a then _ else _)=_;rw[dif_pos d]
 exact Wk.cast e (Vo (h a d).2)
def LW{g':VL}{n:Nat}(j:g.status= .running)(i:QuitsIn P n g')(f:mayWake P g=Z)(h:∀a,RelB (λb=>S b\/own b) w a->∀cap d s r e,a.heap[c]? =I (.chan cap d U5 s r e)->VN P U5 g a= .go g' (a.setChan c cap d Z s r e) #[⟨.obj c,U5,Z⟩,⟨.obj c,Z,Z⟩]):qm P0 P S c own [] g w:=
 ⟨.mk λ_=>.fin,wO.2 ⟨j,.inr (.inr ⟨rfl,g',n,i,f,h⟩)⟩⟩
def qm.rely{a:F}(h:qm P0 P S c own vs g w)(d:RelB (λb=>S b\/own b) w a):qm P0 P S c own vs g a:=by
 obtain⟨e,h⟩:=h;exact⟨e,h.rely d⟩
def LX{g':VL}{es:Array Wm}(l:g.status= .running)(h:∀a,RelB (λb=>S b\/own b) w a->VN P U5 g a= .go g' a es)(j:∀e∈es,EvW S own e)(k:∀a,RelB (λb=>S b\/own b) w a->qm P0 P S c own vs g' a):qm P0 P S c own vs g w:=by
 refine ur l λa f=>⟨g',a,es,h a f,⟨λ_ _ _=>rfl,U7 _,rfl,rfl,rfl,λn=>n,λe i=>?_⟩,?_⟩
 ·have:=j e i;unfold EvW at this ⊢;cases d:e.loc with
  |cell o=>rw[d] at this;exact this.imp (λh=>.inl h) (λh=>h)
  |obj p=>rw[d] at this;exact this.imp (λh=>.inl h) (λh=>h)
  |mark m=>rw[d] at this;exact this
  |_=>trivial
 ·have e:cQ own a a=own:=by
   funext b;unfold cQ;apply propext;constructor
   ·rintro(h|h)
    ·exact h
    ·omega
   ·exact .inl
  rw[e];exact k a f
end
section
variable {P0 P:Vb}{S:Nat->Prop}{c:Nat}{vs:List U}{fK:List Vg}{Gc:mG}
def OB{ia fK:List Vg}{ρ:aN Gc}{t:Nat}{w':F}{f i:Zr}(h:cG P ia fK ρ t w' f i){a:Vg}{b:List Vg}{d:F}{m:Array Wm}(e:f= .go (Vd a (b++ia)) d m)(x:d.drawn<=t):
 ∃(σ:aN Gc) (b1:Nat) (fr':Vg) (tops':List Vg) (w1':F) (j:Array Wm),i= .go (Vd fr' (tops'++fK)) w1' j/\cO P σ a fr'/\eV a/\dI P σ b tops'/\eJ σ b1 d w1'/\Fr ρ σ w' w1'/\(∀e∈j,kr σ e)/\Rl.cV a b:=by
 cases h using cG.ind with
 |lost z B v A=>cases e
 |over h=>
  cases e;omega
 |go q r s u p o n y=>
  simp only[Vd,GStep.go.injEq,ZH] at e;obtain⟨⟨rfl,k,-⟩,rfl,rfl⟩:=e;have l:=List.append_cancel_right k;subst l;exact⟨_,_,_,_,_,_,rfl,q,r,s,u,p,o,n⟩
def Jd{ρ σ:aN Gc}{b1:Nat}{s h w':F}{own:Nat->Prop}{es:Array Wm}(r:eJ σ b1 s w')(d:Fr ρ σ h w')(p:∀e∈es,kr σ e)(l:∀b b',ρ.f b=I b'->own b'):mH P0 S own h w' es/\∀b b',σ.f b=I b'->cQ own h w' b':=by
 have j:∀b b',σ.f b=I b'->cQ own h w' b':=λb b' a=>by
  rcases d.fresh b b' a with f|f
  ·exact .inl (l b b' f)
  ·obtain⟨u,v,_,o,_⟩:=r.at_ b b' a;exact .inr ⟨f,(U4.1 o).1⟩
 refine⟨⟨λb a q=>d.keep b (λk e=>?_) a,d.size,d.tape,d.os,d.output,λ_=>trivial,λe n=>?_⟩,j⟩
 ·rcases d.fresh k b e with f|f
  ·exact q (l k b f)
  ·omega
 ·have:=p e n;unfold kr at this;unfold EvW;cases i:e.loc with
  |cell t=>rw[i] at this;obtain⟨b,a⟩:=this;exact .inl (j _ _ a)
  |obj x=>rw[i] at this;obtain⟨b,a⟩:=this;exact .inl (j _ _ a)
  |mark m=>
   rw[i] at this;cases m<;>first|exact this.elim|exact rfl
  |_=>trivial
def NY{σ:aN Gc}{h w a:F}{own:Nat->Prop}(d:eJ σ 0 h w)(m:∀b b',σ.f b=I b'->own b')(f:RelB (λb=>S b\/own b) w a)(i:Nat):eJ σ i (sh a.tape a.drawn h) a:=
 ⟨d.gl,Vm d.gr f.size,λb b' e=>by
  obtain⟨n,o,j,k,l⟩:=d.at_ b b' e;exact⟨n,o,j,(f.at_ b' (.inr (m b b' e))).trans k,l⟩,λp q _=>rfl⟩
def eJ.zero{σ:aN Gc}{b:Nat}{a w:F}(h:eJ σ b a w):eJ σ 0 a w:=⟨h.gl,h.gr,h.at_,λe f d=>by omega⟩
structure IX(S own:Nat->Prop)(w:F):Prop where
 sh:∀b,S b->b<w.heap.size/\¬own b
 bd:∀b,own b->b<w.heap.size
def IX.step{own:Nat->Prop}{w f w':F}{es:Array Wm}(h:IX S own w)(d:RelB (λb=>S b\/own b) w f)(e:mH P0 S own f w' es):IX S (cQ own f w') w'/\RelB S w w':=
 ⟨⟨λb a=>⟨U9 (h.sh b a).1 (Vm d.size e.size),λi=>i.elim (h.sh b a).2 λi=>by have:=(h.sh b a).1;have:=d.size;omega⟩,λb a=>a.elim (λa=>U9 (h.bd b a) (Vm d.size e.size)) (λa=>a.2)⟩,
  λb a=>(e.keep b (U9 (h.sh b a).1 d.size) (h.sh b a).2).trans (d.at_ b (.inl a)),Vm d.size e.size,e.tape.trans d.tape,e.os.trans d.os,e.output.trans d.output⟩
def IU(L:Rl.Alike Gc P P)(J:nT Gc P P){Stop:Vg->List Vg->F->Prop}{fr:Vg}{aB:List Vg}{a e:F}(h:Fin P0 P Stop fr aB a e)(w0:F):
 ∀{σ:aN Gc} {fr':Vg} {tops':List Vg} {own:Nat->Prop} {w:F},e.heap=a.heap->cO P σ fr fr'->eV fr->dI P σ aB tops'->Rl.cV fr aB->eJ σ 0 e w->(∀b b',σ.f b=I b'->own b')->Hp (bf P0) a->IX S own w->RelB S w0 w->
  (∀(σ:aN Gc) fr aB a fr' tops' own w,Stop fr aB a->cO P σ fr fr'->dI P σ aB tops'->eJ σ 0 a w->(∀b b',σ.f b=I b'->own b')->Hp (bf P0) a->IX S own w->RelB S w0 w->qm P0 P S c own vs (Vd fr' (tops'++fK)) w)->
  qm P0 P S c own vs (Vd fr' (tops'++fK)) w:=by
 intro σ fr' tops' own w;refine h (λfr aB a e=>∀{σ:aN Gc} {fr':Vg} {tops':List Vg} {own:Nat->Prop} {w:F},e.heap=a.heap->cO P σ fr fr'->eV fr->dI P σ aB tops'->Rl.cV fr aB->eJ σ 0 e w->(∀b b',σ.f b=I b'->own b')->Hp (bf P0) a->IX S own w->RelB S w0 w->
  (∀(σ:aN Gc) fr aB a fr' tops' own w,Stop fr aB a->cO P σ fr fr'->dI P σ aB tops'->eJ σ 0 a w->(∀b b',σ.f b=I b'->own b')->Hp (bf P0) a->IX S own w->RelB S w0 w->qm P0 P S c own vs (Vd fr' (tops'++fK)) w)->
  qm P0 P S c own vs (Vd fr' (tops'++fK)) w) ?_ ?_
 ·intro fr aB a e O σ fr' tops' own w k o t p i f j u n l m;exact m σ _ _ _ _ _ _ _ O o p ⟨by rw[<-k];exact f.gl,f.gr,λb b' i=>by rw[<-k];exact f.at_ b b' i,λab ae aa=>by omega⟩ j u n l
 ·intro fr aB a e q z T V ad U R σ fr' tops' own w k o t p i f j u n l m;refine ur Y λd v=>?_;have M:=NY (S:=S) f j v (q d.tape d.drawn).2.2.2.1.drawn;have Q:=Rl.OC (m:=U5) (m':=U5) (ia:=[]) (fK:=fK) L J Y o t p M i (λx=>((U x).1));obtain⟨ao,W,Z,al,am,X,y,B,C,D,r,E,G,H⟩:=OB Q (z d.tape d.drawn U5 []) (by
   show(q d.tape d.drawn).2.2.2.1.drawn<=d.drawn+(q d.tape d.drawn).2.2.2.1.drawn;omega)
  obtain⟨s,N⟩:=Jd (P0:=P0) (S:=S) r E G j;obtain⟨K,A⟩:=n.step v s;exact⟨_,_,_,y,s,R d.tape d.drawn (QM (V d.tape d.drawn).1 k) B C D H (eJ.zero r) N (T d.tape d.drawn).hp K (l.trans A) m⟩
end
section
variable {P0 P:Vb}{S:Nat->Prop}{c:Nat}{vs:List U}{fK:List Vg}{Gc:mG}
def QY(L:Rl.Alike Gc P P){σ:aN Gc}{fr fr' g:Vg}{e w:F}{own:Nat->Prop}{fn:XJ}{v:U}(i:cO P σ fr fr')(T:fr.mode= .returning)(M:fr.defers=[])(R:fr.kind= .normal)(O:P.funcs[fr.fn]? =I fn)
 (W:∀D d,(V0 fn fr.tmps).run P (sh D d e)= .ok v (sh D d e)) (X:eJ σ 0 e w) (B:∀b b',σ.f b=I b'->own b')
 (H:∀(k:aN Gc) m own' w',aq k v m->eJ k 0 e w'->(∀b b',k.f b=I b'->own' b')->IX S own' w'->RelB S w w'->qm P0 P S c own' vs (Vd (g.finish m) fK) w') (x:IX S own w):qm P0 P S c own vs (Vd fr' (g::fK)) w:=by
 refine ur Y λa r=>?_;have J:=NY (S:=S) X B r 0;have o:=(Rl.BH (ρ:=σ) L fn i.tmps).runs (sh a.tape a.drawn e) a #[] #[] 0 J Rl.jf (λt n=>by simp at n);have A:fr'.mode= .returning:=by
  have:=i.mode;rw[T] at this;cases h:fr'.mode with
  |returning=>rfl
  |run=>rw[h] at this;cases this using Rl.gp.ind
  |panicking Z=>rw[h] at this;cases this using Rl.gp.ind
 have N:fr'.defers=[]:=by
  have:=i.defers;rw[M] at this;cases h:fr'.defers with
  |nil=>rfl
  |cons E Z=>rw[h] at this;cases this using Rl.iZ.ind
 have f:((V0 fn fr.tmps).runT P (sh a.tape a.drawn e) #[]).1= .ok v (sh a.tape a.drawn e):=by rw[Zd];exact W _ _
 have C:VN P U5 (Vd fr' (g::fK)) a=XZ (seen P fr'.fn ((V0 fn fr'.tmps).runT P a #[]).2) (match ((V0 fn fr'.tmps).runT P a #[]).1 with
  | .ok v w=>Yb P U5 fr' (g::fK) K v w
  | .halt (.stuck s) w=>.ended (.stuck s (fr'.pos P)) w
  | .halt _ w=>.ended (.stuck "return: the result variables cannot be read" (fr'.pos P)) w):=by
  have G:VN P U5 (Vd fr' (g::fK)) a=Zh P U5 fr' (g::fK) K a:=by simp[Vd,VN,A]
  rw[G];unfold Zh;rw[N];simp only[A,i.fn,O];rfl
 generalize ao:(V0 fn fr.tmps).runT P (sh a.tape a.drawn e) #[]=ab at o f;generalize ar:(V0 fn fr'.tmps).runT P a #[]=ad at o C;cases o using Rl.fM.ind with
 |halt h j z y l q=>cases f
 |oN h l q=>cases f
 |over u l q=>
  simp only[Result.ok.injEq] at f;obtain⟨-,rfl⟩:=f;simp[sh] at l
 |ok u j z y l q=>
  rename_i k ae E m a0 aa al am;simp only[Result.ok.injEq] at f;obtain⟨rfl,rfl⟩:=f;obtain⟨p,V⟩:=Jd (P0:=P0) (S:=S) j z (λt n=>Rl.fo (P:=P) (f:=fr'.fn) y t n) B;refine⟨_,_,_,?_,p,H k m _ aa u ⟨j.gl,j.gr,j.at_,λau aw Q=>absurd Q (by omega)⟩ V (x.step r p).1 (x.step r p).2⟩;rw[C];simp only[Yb,i.kind,R];rfl
def Rq (Gc:mG):aN Gc:=⟨λ_=>K,λb d c a=>(by cases a),λb d a=>(by cases a)⟩
def B4 (g:Nat)(os:Os):F:={heap:=V8 g (.cells #[] 0),tape:=λ_ _=>0,drawn:=0,os,output:= #[]}
def LV(h:Twins P0 P)(L:Rl.Alike Gc P P)(A:nT Gc P P){f:Xb}(W:Gc.b f=Z)(C:P.funcs[f]? =P0.funcs[f]?){args:Array U}(V:aW (Rq Gc) args args){R:X6->F->Prop}(hR:∀e w',R e w'->∃v,e= .returned v){os:Os}(ar:∀a,Calls P0 f args (sh a 0 (B4 Gc.g os)) R)
 {own:Nat->Prop} {w:F} {s:Vg} (O:IX S own w) (am:Gc.g<=w.heap.size)
 (J:∀(σ:aN Gc) v r i own' w',(∃a d,R (.returned v) (sh a d i))->aq σ v r->eJ σ 0 i w'->(∀b b',σ.f b=I b'->own' b')->IX S own' w'->RelB S w w'->qm P0 P S c own' vs (Vd (s.finish r) fK) w'):qm P0 P S c own vs (Vd (VU P f args .normal) (s::fK)) w:=by
 have x:VU P f args .normal=VU P0 f args .normal:=by unfold VU;rw[C]
 have D:Hp (bf P0) (B4 Gc.g os):=λb bk o=>by
  simp only[B4,Array.getElem?_replicate] at o
  split at o
  ·cases o;exact .inl trivial
  ·cases o
 have ab:Fin P0 P (DX λg aB w'=>aB=[]/\∃v,R (.returned v) w'/\g.fn=f/\g.leaving P0 w' (.returned v)) (VU P0 f args .normal) [] (B4 Gc.g os) (B4 Gc.g os):=by
  refine vU h (λg aB w' j=>?_) ⟨Et h f args .normal (.inl Y),λbo ba=>by simp at ba,rfl⟩ D (Un.refl _) λa=>?_
  ·obtain⟨_,v,_,_,m⟩:=j;rintro⟨q,_⟩;rw[m.1] at q;cases q
  ·obtain⟨e,w',g,B,X,p,m⟩:=ar a [bn];obtain⟨v,rfl⟩:=hR e w' B;obtain⟨N,K⟩:=X;exact⟨N,g,[],w',K,rfl,v,B,p,m⟩
 obtain⟨y,z⟩:=Rl.uW A W V .normal (.inl rfl);rw[x] at y z;rw[x];refine IU (aB:=[]) (tops':=[]) (fK:=s::fK) L A ab w Y y z .nil Y ⟨by simp[B4],am,λb b' e=>(by cases e),λbb bd u=>absurd u (by omega)⟩ (λb b' e=>(by cases e)) D O (RelB.refl _ _) λσ g aB i bj bl own' w' j al a6 a8 au a0 Q a1=>?_;obtain⟨a,d,rfl,v,M,p,m⟩:=j;cases a6 using dI.ind;obtain⟨q,aa,ao,l,ad,a4⟩:=m;have ae:P.funcs[g.fn]? =I l:=by rw[p,C,<-p];exact ad
 have a5:∀n k,(V0 l g.tmps).run P (sh n k i)= .ok v (sh n k i):=by
  intro n k;have a3:=N9 (eu P0) h.A.view (V0 l g.tmps) (sh a d i) #[] (zV h.A.T l g.tmps) (a0.sh a d);have t:((V0 l g.tmps).runT P0 (sh a d i) #[]).1= .ok v (sh a d i):=by rw[Zd];exact a4
  rcases a3.shift with⟨br,w',G⟩|j
  ·rw[t] at G;cases G
  ·obtain⟨bm,E,j⟩:=j n k (sh a d i) (Un.refl _) (by rw[t];intro bb bd u;simp[rW] at u);rw[t] at j E;have:=congrArg Prod.fst j;rw[Zd] at this;have H:=JI E n k;simp only[Pc,rW,Nat.sub_self,Nat.add_zero] at this;rw[H] at this;exact this
 exact QY (P0:=P0) L al q aa ao ae a5 a8 au (λbi r bc be a7 a9 aw T a2=>J bi v r i bc be ⟨a,d,M⟩ a7 a9 aw T (a1.trans a2)) Q
end
end Cc
namespace Cc
open Go Go.Conc
structure oe(P0 P:Vb)(S:Nat->Prop)(m:Bool)(X0:(Nat->Prop)->Vg->List Vg->F->Prop):Prop where
 step:∀own fr cs w,(∀w1,RelB (λb=>S b\/own b) w w1->∃fr' cs' w' es,VN P m (Vd fr cs) w1= .go (Vd fr' cs') w' es/\mH P0 S own w1 w' es/\X0 (cQ own w1 w') fr' cs' w')->X0 own fr cs w
 rely:∀own fr cs w w1,X0 own fr cs w->RelB (λb=>S b\/own b) w w1->X0 own fr cs w1
def ku (P0 P:Vb)(Post:U->F->Prop)(S O:Nat->Prop)(μ:Nat->Option (List U))(g:VL)(w:F):Prop:=∃c,Mn P0 P Post c (.sh S O μ) g w
section
variable {P0 P:Vb}{Post:U->F->Prop}{S O:Nat->Prop}{μ:Nat->Option (List U)}{g:VL}{w:F}
def k8(P0 P:Vb)(S:Nat->Prop)(c:Nat)(vs:List U):oe P0 P S U5 (λown fr cs w=>qm P0 P S c own vs (Vd fr cs) w):=
 ⟨λown fr cs w d=>ur Y λf e=>by
  obtain⟨fr',q,p,h,j,l,n⟩:=d f e;exact⟨_,p,h,j,l,n⟩,λown fr cs w f d e=>d.rely e⟩
def Nx(h:∀c,RelB (λb=>S b\/O b) w c->∃g' w' es,VN P Z g c= .go g' w' es/\g'.status= .running/\mH P0 S O c w' es/\ku P0 P Post S (cQ O c w') μ g' w'):ku P0 P Post S O μ g w:=by
 classical
 let f:F->Tr:=λc=>if d:RelB (λb=>S b\/O b) w c then Wq (Vo (Vo (Vo (h c d)))).2.2.2 else .fin
 refine⟨.mk f,nN.2 <| .inl λc d=>?_⟩;have e:=Vo (Vo (Vo (h c d)));have j:f c=Wq (Vo (Vo (Vo (h c d)))).2.2.2:=by
  show(if d:RelB (λb=>S b\/O b) w c then _ else _)=_;rw[dif_pos d]
 exact⟨_,_,_,e.1,e.2.1,e.2.2.1,Mn.cast j (Vo e.2.2.2)⟩
def dN(P0 P:Vb)(Post:U->F->Prop)(S:Nat->Prop)(μ:Nat->Option (List U)):oe P0 P S Z (λO fr cs w=>ku P0 P Post S O μ (Vd fr cs) w):=
 ⟨λown fr cs w c=>Nx λe d=>by
  obtain⟨fr',q,p,f,h,j,l⟩:=c e d;exact⟨_,p,f,h,rfl,j,l⟩,λown fr cs w e c d=>by
  obtain⟨n,c⟩:=c;exact⟨n,c.j3 d⟩⟩
def KJ{c cap:Nat}{l:List U}(p:O c)(s:l.length<=cap)(t:μ c=K)(hc:w.heap[c]? =I (.chan cap #[] U5 0 0 U5))(h:∀d,RelB (λb=>S b\/O b) w d->∃g' n,VN P Z g d= .spawn g' n d #[]/\g'.status= .running/\qm P0 P S c (λ_=>False) l n d/\ku P0 P Post S (λb=>O b/\b≠c) (fV μ c (I l)) g' d):ku P0 P Post S O μ g w:=by
 classical
 let f:F->Tr:=λd=>if e:RelB (λb=>S b\/O b) w d then Wq (Vo (Vo (h d e))).2.2.2 else .fin
 refine⟨.mk f,nN.2 <| .inr (.inl ⟨c,l,cap,p,s,t,hc,λd e=>?_⟩)⟩;have j:=Vo (Vo (h d e));have r:f d=Wq (Vo (Vo (h d e))).2.2.2:=by
  show(if e:RelB (λb=>S b\/O b) w d then _ else _)=_;rw[dif_pos e]
 obtain⟨u,q⟩:=j.2.2.1;exact⟨_,_,u,j.1,j.2.1,q,Mn.cast r (Vo j.2.2.2)⟩
def Nv{c:Nat}{z:U}{g2:VL}{v:U}{l:List U}(p:μ c=I (v::l))(n:g2.frame=g.frame/\g2.callers=g.callers/\g2.dying=g.dying)(h:∀d,RelB (λb=>S b\/O b) w d->VN P Z g d= .comm g2 #[rcase c z] Z (.recv Z) d #[]/\ku P0 P Post S O (fV μ c (I l)) (Xr g2 (recvd Z v Z)) d):ku P0 P Post S O μ g w:=by
 classical
 let f:F->Tr:=λd=>if e:RelB (λb=>S b\/O b) w d then Wq (h d e).2 else .fin
 refine⟨.mk f,nN.2 <| .inr (.inr (.inl ⟨c,z,g2,v::l,p,n,λd e=>⟨(h d e).1,?_⟩⟩))⟩;have j:f d=Wq (h d e).2:=by
  show(if e:RelB (λb=>S b\/O b) w d then _ else _)=_;rw[dif_pos e]
 exact Mn.cast j (Vo (h d e).2)
def Nw{c:Nat}{z:U}{g2:VL}(n:μ c=I [])(l:g2.frame=g.frame/\g2.callers=g.callers/\g2.dying=g.dying)(h:∀d,RelB (λb=>S b\/O b) w d->VN P Z g d= .comm g2 #[rcase c z] Z (.recv Z) d #[]/\ku P0 P Post S O (fV μ c K) (Xr g2 (recvd Z z U5)) d):ku P0 P Post S O μ g w:=by
 classical
 let f:F->Tr:=λd=>if e:RelB (λb=>S b\/O b) w d then Wq (h d e).2 else .fin
 refine⟨.mk f,nN.2 <| .inr (.inr (.inl ⟨c,z,g2,[],n,l,λd e=>⟨(h d e).1,?_⟩⟩))⟩;have j:f d=Wq (h d e).2:=by
  show(if e:RelB (λb=>S b\/O b) w d then _ else _)=_;rw[dif_pos e]
 exact Mn.cast j (Vo (h d e).2)
def Nu(n:∀c,μ c=K)(h:∀d,RelB (λb=>S b\/O b) w d->xR P0 d->ux P0 P Post g d):ku P0 P Post S O μ g w:=by
 classical
 let f:F->Tr:=λd=>if e:RelB (λb=>S b\/O b) w d/\xR P0 d then Wq (h d e.1 e.2) else .fin
 refine⟨.mk f,nN.2 <| .inr (.inr (.inr ⟨n,λd e j=>?_⟩))⟩;have l:f d=Wq (h d e j):=by
  show(if e:RelB (λb=>S b\/O b) w d/\xR P0 d then _ else _)=_;rw[dif_pos ⟨e,j⟩]
 exact Mn.cast l (Vo (h d e j))
def KN(S O:Nat->Prop)(j:∀b,S b->b<w.heap.size/\¬O b)(e:∀b,O b->b<w.heap.size)(h:∀c,AtRel w c->ku P0 P Post S O (λ_=>K) g c):ux P0 P Post g w:=by
 classical
 let f:F->Tr:=λc=>if d:AtRel w c then Wq (h c d) else .fin
 refine⟨.mk f,nN.2 <| .inr (.inr ⟨S,O,j,e,λc d=>?_⟩)⟩;have l:f c=Wq (h c d):=by
  show(if d:AtRel w c then _ else _)=_;rw[dif_pos d]
 exact Mn.cast l (Vo (h c d))
end
section
variable {P0 P:Vb}{S:Nat->Prop}{m:Bool}{X0:(Nat->Prop)->Vg->List Vg->F->Prop}(hX:oe P0 P S m X0){own:Nat->Prop}{fr fr':Vg}{cs:List Vg}{w:F}{b:Vg}{a:Xa}{k:List XR}{ops:Array Ww}{i:Nat}{rest:List Nat}{o:Ww}
def nO(own:Nat->Prop)(w:F):cQ own w w=own:=by
 funext b;unfold cQ;apply propext;constructor
 ·rintro(c|c)
  ·exact c
  ·omega
 ·exact .inl
def yH(P0:Vb){es:Array Wm}(c:∀e∈es,EvW S own e):mH P0 S own w w es:=⟨λ_ _ _=>rfl,U7 _,rfl,rfl,rfl,λd=>d,by rw[nO];exact c⟩
def kY(hX:oe P0 P S m X0){c:List Vg}(j:∀w,VN P m (Vd fr cs) w= .go (Vd fr' c) w)(f:X0 own fr' c w):X0 own fr cs w:=
 hX.step _ _ _ _ λd h=>⟨fr',c,d,#[],j d,yH P0 (λl e=>by simp at e),by rw[nO];exact hX.rely _ _ _ _ _ f h⟩
def MB(hX:oe P0 P S m X0)(l:b.kind≠.early)(p:ops[i]? =I o)(r:VA o (We ops a.tmps)=Z)
 (h:∀d,RelB (λb=>S b\/own b) w d->∃v w',(Vw a.eval o).run P d= .ok (.value v) w'/\mH P0 S own d w' ((Vw a.eval o).events P d #[])/\X0 (cQ own d w') (b.at (a.put o.dst v) (.inRegion ops rest::k)) cs w'):X0 own (b.at a (.inRegion ops (i::rest)::k)) cs w:=
 hX.step _ _ _ _ λd q=>by
  obtain⟨v,w',f,c,j⟩:=h d q;refine⟨_,_,_,_,stepG_value p r l f,⟨c.keep,c.size,c.tape,c.os,c.output,c.hp,λe n=>c.evs e (Conc.mem_listed n)⟩,j⟩
def oZ(hX:oe P0 P S m X0)(f:b.kind≠.early)(l:ops[i]? =I o)(n:VA o (We ops a.tmps)=Z)(v:U)
 (h:∀c,RelB (λb=>S b\/own b) w c->(Vw a.eval o).run P c= .ok (.value v) c/\∀e∈(Vw a.eval o).events P c #[],EvW S own e) (j:X0 own (b.at (a.put o.dst v) (.inRegion ops rest::k)) cs w):X0 own (b.at a (.inRegion ops (i::rest)::k)) cs w:=
 MB hX f l n λc d=>⟨v,c,(h c d).1,yH P0 (h c d).2,by rw[nO];exact hX.rely _ _ _ _ _ j d⟩
end
def aS (a:Xa)(s:Nat):U:=a.tmps.getD s V9
def Ub (ops:Array Ww)(l:Array Bool)(s:Nat):Prop:=∃b c,l.getD b U5=Z/\ops[b]? =I c/\c.dst=I s
structure cI(ops:Array Ww)(Ph:Nat->Bool)(a0 z:Xa)(l:Array Bool)(a:Xa):Prop where
 size:l.size=ops.size
 closed:∀(i:Nat) o,l.getD i U5=Z->ops[i]? =I o->∀e∈o.after,Wn .any e=Z->l.getD e.on U5=Z
 ph:∀i:Nat,l.getD i U5=Z->Ph i=Z
 Rr:a.tmps.size=z.tmps.size
 Te:a.defers=z.defers
 yes:∀s,Ub ops l s->aS a s=aS z s
 no:∀s,¬Ub ops l s->aS a s=aS a0 s
def Nl:Op->Bool
 | .select _ _=>Z
 |_=>U5
def px (ops:Array Ww)(Ph:Nat->Bool):Bool:=(VS ops.size).all λd=>match ops[d]? with
 |none=>Z
 |some c=> !Nl c.op&&((c.looksAt ops).all λs=>(c.after.toList.any λb=>Wn .any b&&((ops[b.on]?).bind (·.dst))==I s)||(VS ops.size).all λe=> !Ph e||((ops[e]?).bind (·.dst)) !=I s)&&(match c.guard with|some (f,_)=>((ops[f]?).bind (·.dst)).isSome|none=>Z)&&c.after.toList.all λb=> !Wn .any b||decide (b.on<d)
def Qk (ops:Array Ww)(Ph:Nat->Bool)(u:Nat):Bool:=(VS ops.size).all λb=>Ph b||b==u||match ops[b]? with
 |none=>Z
 |some d=>d.after.toList.any λc=>Wn .any c && !Ph c.on
def FW (l:Array Bool):Nat:=l.toList.countP (!·)
theorem countP_set:∀(x:List Bool) (i:Nat),x[i]? =I U5->(x.set i Z).countP (!·)+1=x.countP (!·)
 | [],i,c=>by simp at c
 |b::d,0,c=>by simp at c;subst c;simp
 |b::d,i+1,c=>by
  have:=countP_set d i (by simpa using c);simp only[List.set_cons_succ,List.countP_cons];omega
def rQ{l:Array Bool}{i:Nat}(b:i<l.size)(h:l.getD i Z=U5):FW (l.setIfInBounds i Z)+1=FW l:=by
 unfold FW;rw[Array.toList_setIfInBounds];refine countP_set _ _ ?_;have:l[i]? =I l[i]:=VT b;simp only[Vt,this,Ye] at h;rw[Array.getElem?_toList,this,h]
def lu{l:Array Bool}{i j:Nat}(d:i<l.size):(l.setIfInBounds i Z).getD j U5=(decide (j=i)||l.getD j U5):=by
 simp only[Vt,VE];by_cases b:i=j
 ·subst b;simp[d]
 ·have:¬j=i:=λc=>b c.symm;simp[b,this]
def mem_ready{ops:Array Ww}{l:Array Bool}{i:Nat}(h:i∈VX .any ops l):∃o,ops[i]? =I o/\i<ops.size/\l.getD i Z=U5/\∀e∈o.after,Wn .any e=Z->l.getD e.on U5=Z:=by
 unfold VX at h;obtain⟨f,b⟩:=List.mem_filter.1 h;have c:=WK.1 f;simp only[Vr,Bool.not_eq_true'] at b;have d:ops[i]? =I ops[i]:=VT c;rw[d] at b;simp only[Xc,Ye] at b;refine⟨_,d,c,b.1,λe j g=>?_⟩;have:=Array.all_eq_true.1 b.2;obtain⟨m,k,rfl⟩:=Array.mem_iff_getElem.1 j;have:=this m k;simpa [g] using this
def Hs{ops:Array Ww}{Ph:Nat->Bool}{l:Array Bool}(p:l.size=ops.size)(n:px ops Ph=Z)(h:VX .any ops l=[]):∀i,i<ops.size->l.getD i U5=Z:=by
 intro i
 induction i using Nat.strongRecOn with
 |_ i o=>
  intro b;cases j:l.getD i U5 with
  |true=>rfl
  |false=>
   exfalso
   have:i∈VX .any ops l:=by
    unfold VX;refine List.mem_filter.2 ⟨WK.2 b,?_⟩;have d:ops[i]? =I ops[i]:=VT b;have c:=Vx.1 n i (WK.2 b);rw[d] at c;simp only[Vr,Vx] at c;have k:l.getD i Z=U5:=by
     have:l[i]? =I l[i]:=VT (by omega);simpa [Vt,this] using j
    rw[d,k];simp only[Bool.not_false,Bool.true_and,Xc,Ye,Array.all_eq_true];intro e g;have:=c.2 _ (Array.getElem_mem_toList g);cases f:Wn .any (ops[i].after[e]) with
    |false=>rfl
    |true=>
     rw[f] at this;have m:ops[i].after[e].on<i:=by simpa using this
     simpa using o _ m (by omega)
   rw[h] at this;cases this
section
variable {ops:Array Ww}{Ph:Nat->Bool}{a0 z:Xa}{l:Array Bool}{a:Xa}
def cI.looks(h:cI ops Ph a0 z l a)(w:px ops Ph=Z)(y:∀s,(∀(j:Nat) o,Ph j=Z->ops[j]? =I o->o.dst≠I s)->aS z s=aS a0 s){i:Nat}{o:Ww}(n:ops[i]? =I o)(p:∀e∈o.after,Wn .any e=Z->l.getD e.on U5=Z):∀s∈o.looksAt ops,aS a s=aS z s:=by
 intro s x;have r:i<ops.size:=(U4.1 n).1;have k:=Vx.1 w i (WK.2 r);rw[n] at k;simp only[Vr,Vx] at k;have:=k.1.1.2 s x;rw[Yj] at this;rcases this with f|f
 ·obtain⟨e,q,g⟩:=List.any_eq_true.1 f;simp only[Vr,beq_iff_eq] at g;obtain⟨d,u,b⟩:=VO.1 g.2;exact h.yes s ⟨e.on,d,p e (by simpa using q) g.1,u,b⟩
 ·have m:∀(j:Nat) o,Ph j=Z->ops[j]? =I o->o.dst≠I s:=λj d v c b=>by
   have:=Vx.1 f j (WK.2 (U4.1 c).1);rw[c] at this;simp[b,v] at this
  rw[y s m];exact h.no s fun⟨j,d,t,c,b⟩=>m j d (h.ph j t) c b
def cI.exec(m:cI ops Ph a0 z l a)(t:px ops Ph=Z)(B:∀s,(∀(j:Nat) o,Ph j=Z->ops[j]? =I o->o.dst≠I s)->aS z s=aS a0 s){i:Nat}{o:Ww}(n:ops[i]? =I o)(w:∀e∈o.after,Wn .any e=Z->l.getD e.on U5=Z):Vw a.eval o=Vw z.eval o/\VA o (We ops a.tmps)=VA o (We ops z.tmps):=by
 have r:=m.looks t B n w;have x:i<ops.size:=(U4.1 n).1;have f:=Vx.1 t i (WK.2 x);rw[n] at f;simp only[Vr] at f;refine⟨execOp_congr o (λE D e=>by have:=f.1.1.1;rw[e] at this;cases this) λC y=>?_,?_⟩
 ·cases C with
  |tmp u=>exact r u (List.mem_append_left _ (List.mem_filterMap.2 ⟨.tmp u,by simpa using y,rfl⟩))
  |_=>rfl
 ·unfold VA;cases q:o.guard with
  |none=>rfl
  |some v=>
   obtain⟨j,F⟩:=v;have k:=f.1.2;rw[q] at k;dsimp only at k ⊢;obtain⟨b,p⟩:=Option.isSome_iff_exists.1 k;have d:aS a b=aS z b:=r b (List.mem_append_right _ (by rw[q];simp[p]));have A:We ops a.tmps j=We ops z.tmps j:=by
    unfold We;rw[p];simp only[YT];unfold aS at d;simp only[Vt] at d;rcases WG b z.tmps.size with c|c
    ·have g:z.tmps[b]? =I z.tmps[b]:=VT c;have h:a.tmps[b]? =I (a.tmps[b]'(by rw[m.Rr];exact c)):=VT _;rw[g,h] at d ⊢;simp only[Ye] at d;rw[d]
    ·have g:z.tmps[b]? =K:=Wl c;have h:a.tmps[b]? =K:=Wl (by rw[m.Rr];exact c);rw[g,h]
   rw[A]
def cI.next(b:cI ops Ph a0 z l a){i:Nat}{o:Ww}(D:Ph i=Z)(n:ops[i]? =I o)(A:∀e∈o.after,Wn .any e=Z->l.getD e.on U5=Z){v:U}(y:∀d,o.dst=I d->d<z.tmps.size/\aS z d=v):cI ops Ph a0 z (l.setIfInBounds i Z) (a.put o.dst v):=by
 have j:i<l.size:=by rw[b.size];exact(U4.1 n).1
 have t:∀s,Ub ops (l.setIfInBounds i Z) s↔o.dst=I s\/Ub ops l s:=by
  intro s;constructor
  ·rintro⟨g,k,f,h,m⟩;rw[lu j] at f;simp only[Yj,decide_eq_true_eq] at f;rcases f with rfl|f
   ·rw[n] at h;cases h;exact .inl m
   ·exact .inr ⟨g,k,f,h,m⟩
  ·rintro(q|⟨g,k,f,h,m⟩)
   ·exact⟨i,o,by rw[lu j];simp,n,q⟩
   ·exact⟨g,k,by rw[lu j,f];simp,h,m⟩
 have x:∀s,aS (a.put o.dst v) s=if o.dst=I s then v else aS a s:=by
  intro s;unfold aS WH;cases B:o.dst with
  |none=>simp
  |some d=>
   have C:=(y d B).1;simp only[Vt,VE,VY];by_cases e:d=s
   ·subst e;simp[b.Rr,C]
   ·simp[e]
 refine⟨by simp[b.size],λg k c r e w u=>?_,λg c=>?_,?_,?_,λs p=>?_,λs p=>?_⟩
 ·rw[lu j] at c ⊢;simp only[Yj,decide_eq_true_eq] at c ⊢;rcases c with rfl|c
  ·rw[n] at r;cases r;exact .inr (A e w u)
  ·exact .inr (b.closed g k c r e w u)
 ·rw[lu j] at c;simp only[Yj,decide_eq_true_eq] at c;rcases c with rfl|c
  ·exact D
  ·exact b.ph g c
 ·unfold WH;split
  ·simp[b.Rr]
  ·exact b.Rr
 ·unfold WH;split
  ·exact b.Te
  ·exact b.Te
 ·rw[x]
  split
  ·rename_i e;exact((y s e).2).symm
  ·rename_i e;exact b.yes s (((t s).1 p).resolve_left e)
 ·rw[x,if_neg λe=>p ((t s).2 (.inl e))];exact b.no s λq=>p ((t s).2 (.inr q))
def cI.start(a0 z:Xa)(f:a0.tmps.size=z.tmps.size)(e:a0.defers=z.defers):cI ops Ph a0 z (V8 ops.size U5) a0:=by
 have d:∀c:Nat,(V8 ops.size U5).getD c U5=U5:=λc=>by
  simp only[Vt,Array.getElem?_replicate]
  split<;>rfl
 refine⟨by simp,λc g b=>?_,λc b=>?_,f,e,λs ⟨c,g,b,_⟩=>?_,λs _=>rfl⟩
 ·rw[d] at b;cases b
 ·rw[d] at b;cases b
 ·rw[d] at b;cases b
def cI.all(d:cI ops Ph a0 z l a)(t:∀s,(∀(j:Nat) o,Ph j=Z->ops[j]? =I o->o.dst≠I s)->aS z s=aS a0 s)(h:∀i,i<ops.size->l.getD i U5=Z):a=z:=by
 have r:∀s,aS a s=aS z s:=λs=>by
  by_cases f:∃(j:Nat) (o:Ww),ops[j]? =I o/\o.dst=I s
  ·obtain⟨j,o,b,c⟩:=f;exact d.yes s ⟨j,o,h j (U4.1 b).1,b,c⟩
  ·have e:∀(j:Nat) o,ops[j]? =I o->o.dst≠I s:=λj o b c=>f ⟨j,o,b,c⟩;rw[t s λj o _=>e j o];exact d.no s fun⟨j,o,_,b,c⟩=>e j o b c
 obtain⟨u,g⟩:=a;obtain⟨v,k⟩:=z;have n:g=k:=d.Te;have m:u=v:=by
  refine Array.ext d.Rr λi p q=>?_;have:=r i;unfold aS at this;simpa [Vt,p,q] using this
 rw[m,n]
def cI.RG(d:cI ops Ph a0 z l a){u:Nat}(y:∀s,(∀(j:Nat) o,Ph j=Z->ops[j]? =I o->o.dst≠I s)->aS z s=aS a0 s)(x:Ph u=U5)(h:∀i,i<ops.size->i≠u->l.getD i U5=Z):a=z:=by
 have w:∀s,aS a s=aS z s:=λs=>by
  by_cases g:∃(j:Nat) (o:Ww),Ph j=Z/\ops[j]? =I o/\o.dst=I s
  ·obtain⟨j,o,e,b,c⟩:=g;exact d.yes s ⟨j,o,h j (U4.1 b).1 (λn=>by rw[n,x] at e;cases e),b,c⟩
  ·have f:∀(j:Nat) o,Ph j=Z->ops[j]? =I o->o.dst≠I s:=λj o e b c=>g ⟨j,o,e,b,c⟩;rw[y s f];exact d.no s fun⟨j,o,v,b,c⟩=>f j o (d.ph j v) b c
 obtain⟨A,k⟩:=a;obtain⟨B,m⟩:=z;have q:k=m:=d.Te;have p:A=B:=by
  refine Array.ext d.Rr λi r t=>?_;have:=w i;unfold aS at this;simpa [Vt,r,t] using this
 rw[p,q]
def drawn{Dn:Nat->Bool}{val:Nat->U}{u:Nat}{G:List Nat->Xa->Prop}(C:px ops Ph=Z)(L:Qk ops Ph u=Z)
 (W:∀(i:Nat) o d,Ph i=Z->ops[i]? =I o->o.dst=I d->d<z.tmps.size/\aS z d=val i)
 (D:∀s,(∀(j:Nat) o,Ph j=Z->ops[j]? =I o->o.dst≠I s)->aS z s=aS a0 s)
 (S:∀i o a todo,Ph i=Z->Dn i=U5->i≠u->ops[i]? =I o->Vw a.eval o=Vw z.eval o->VA o (We ops a.tmps)=VA o (We ops z.tmps)->G todo (a.put o.dst (val i))->G (i::todo) a)
 (V:∀c t l a,cI ops Ph a0 z l a->u∈VX .any ops l->FW l<=c+1->G (u::V5 .any ops c t (l.setIfInBounds u Z) []) a)
 (O:(∀i,i<ops.size->Ph i=Z)->G [] z):
 ∀(c t:Nat) (l:Array Bool) (a:Xa),cI ops Ph a0 z l a->(∀i,Dn i=Z->l.getD i U5=Z)->FW l<=c->G (V5 .any ops c t l []) a:=by
 have done:∀l a,cI ops Ph a0 z l a->VX .any ops l=[]->G [] a:=λl a b k=>by
  have y:=Hs b.size C k;rw[b.all D y];exact O λi e=>b.ph i (y i e)
 intro c
 induction c with
 |zero=>
  intro t l a b q B;simp only[V5,List.reverse_nil];refine done l a b ?_;cases k:VX .any ops l with
  |nil=>rfl
  |cons i Y=>
   obtain⟨o,_,e,f,_⟩:=mem_ready (ops:=ops) (l:=l) (i:=i) (by rw[k];exact Yu ..);have:=rQ (by rw[b.size];exact e) f;omega
 |succ c X=>
  intro t l a b q B;simp only[V5];change G (match (VX .any ops l)[t%(VX .any ops l).length]? with
   |some i=>V5 .any ops c (t/(VX .any ops l).length) (l.setIfInBounds i Z) [i]
   |none=>[].reverse) a
  cases e:(VX .any ops l)[t%(VX .any ops l).length]? with
  |none=>
   have R:VX .any ops l=[]:=by
    cases k:VX .any ops l with
    |nil=>rfl
    |cons E F=>
     rw[k] at e;have g:t%(E::F).length<(E::F).length:=Nat.mod_lt _ (by simp);simp at e;simp at g;omega
   exact done l a b R
  |some i=>
   simp only[];rw[linearise_go_acc,List.reverse_singleton,List.singleton_append];have A:=List.mem_of_getElem? e;obtain⟨o,h,g,f,r⟩:=mem_ready A;by_cases w:i=u
   ·subst w;exact V c _ l a b A B
   ·have x:Ph i=Z:=by
     have:=Vx.1 L i (WK.2 g);cases T:Ph i with
     |true=>rfl
     |false=>
      rw[T,h] at this;simp only[Bool.false_or,Yj,beq_iff_eq] at this;rcases this with p|p
      ·exact absurd p w
      ·obtain⟨n,N,v⟩:=List.any_eq_true.1 p;simp only[Vr,Bool.not_eq_true'] at v;have:=b.ph _ (r n (by simpa using N) v.1);rw[v.2] at this;cases this
    obtain⟨m,J⟩:=b.exec C D h r;have K:Dn i=U5:=by
     cases n:Dn i with
     |false=>rfl
     |true=>
      have m:=q i n;have Q:i<l.size:=by rw[b.size];exact g
      have H:l[i]? =I l[i]:=VT Q;simp only[Vt,H,Ye] at m f;rw[m] at f;cases f
    refine S i o a _ x K w h m J (X _ _ _ (b.next x h r λd M=>W i o d x h M) (λj P=>by
     rw[lu (by rw[b.size];exact g),q j P];simp) ?_)
    have:=rQ (by rw[b.size];exact g) f;omega
end
section
variable {P0 P:Vb}{S:Nat->Prop}{m:Bool}{X0:(Nat->Prop)->Vg->List Vg->F->Prop}{own:Nat->Prop}{cs:List Vg}{w:F}{b:Vg}{a:Xa}{k:List XR}{ops:Array Ww}{i:Nat}{rest:List Nat}{o:Ww}
def aJ(c:oe P0 P S m X0){c1 c2:XQ}(d:X0 own (b.at a (.code c1 :: .code c2::k)) cs w):X0 own (b.at a (.code (.seq c1 c2)::k)) cs w:=kY c (λw=>stepG_seq) d
def cY(c:oe P0 P S m X0){x:V4}{c1 c2:XQ}(y:Bool)(e:a.eval x= .bool y)(d:X0 own (b.at a (.code (if y then c1 else c2)::k)) cs w):X0 own (b.at a (.code (.cond x c1 c2)::k)) cs w:=kY c (λw=>stepG_cond e) d
def fO(d:oe P0 P S m X0){id:Nat}{c:XQ}(e:X0 own (b.at a (.code c :: .inBlock id::k)) cs w):X0 own (b.at a (.code (.block id c)::k)) cs w:=kY d (λw=>stepG_block) e
def gM(c:oe P0 P S m X0){id:Nat}(d:X0 own (b.at a k) cs w):X0 own (b.at a (.inBlock id::k)) cs w:=kY c (λw=>stepG_inBlock) d
def uM(d:oe P0 P S m X0){c:XQ}(e:X0 own (b.at a (.code c :: .inLoop c::k)) cs w):X0 own (b.at a (.code (.loop c)::k)) cs w:=kY d (λw=>stepG_loop) e
def kZ(d:oe P0 P S m X0){c:XQ}(e:X0 own (b.at a (.code c :: .inLoop c::k)) cs w):X0 own (b.at a (.inLoop c::k)) cs w:=kY d (λw=>stepG_inLoop) e
def gS(c:oe P0 P S m X0)(d:X0 own (b.at a k) cs w):X0 own (b.at a (.code .skip::k)) cs w:=kY c (λw=>stepG_skip) d
def sP(c:oe P0 P S m X0){id:Nat}{k':List XR}(d:YE id k=I k')(e:X0 own (b.at a k') cs w):X0 own (b.at a (.code (.exit id)::k)) cs w:=kY c (λw=>stepG_exit d) e
def oB(c:oe P0 P S m X0)(d:X0 own {b.at a (.code .ret::k) with mode:=.returning} cs w):X0 own (b.at a (.code .ret::k)) cs w:=kY c (λw=>by simp[Vd,VN,VG,Frame.at]) d
def Mz(c:oe P0 P S m X0)(d:X0 own {b.at a [] with mode:=.returning} cs w):X0 own (b.at a []) cs w:=kY c (λw=>stepG_end) d
def MA(c:oe P0 P S m X0){id:Nat}(d:X0 own (b.at a (.inRegion ops (VS ops.size)::k)) cs w):X0 own (b.at a (.code (.region id ops U5)::k)) cs w:=kY c (λw=>stepG_region) d
def aj(c:oe P0 P S m X0)(d:X0 own (b.at a k) cs w):X0 own (b.at a (.inRegion ops []::k)) cs w:=kY c (λw=>stepG_region_end) d
def RN(d:oe P0 P S m X0){id:Nat}(h:P.follows .mixedOrders=Z)(g:∀t,X0 own (b.at a (.inRegion ops (V5 .any ops ops.size t (V8 ops.size U5) [])::k)) cs w):X0 own (b.at a (.code (.region id ops Z)::k)) cs w:=
 d.step _ _ _ _ λc n=>by
  have e:VN P m (Vd (b.at a (.code (.region id ops Z)::k)) cs) c= .go (Vd (b.at a (.inRegion ops (Y0 (P.follows .mixedOrders) ops (c.tape c.drawn (.order b.fn id)))::k)) cs) {c with drawn:=c.drawn+1}:=by
   simp[Vd,VN,VG,Frame.at,choose,XE,Question.forced,Question.cut]
  have p:∀t,Y0 (P.follows .mixedOrders) ops t=V5 .any ops ops.size t (V8 ops.size U5) []:=λt=>by
   simp only[Y0,h,Bool.true_or,if_true];rfl
  rw[p] at e;have j:cQ own c {c with drawn:=c.drawn+1}=cQ own c c:=rfl;refine⟨_,_,_,_,e,⟨λ_ _ _=>rfl,U7 _,rfl,rfl,rfl,λq=>q,λr f=>by simp at f⟩,?_⟩;rw[j,nO];exact d.rely _ _ _ _ _ (g _) (n.trans ⟨λ_ _=>rfl,U7 _,rfl,rfl,rfl⟩)
def ye(d:oe P0 P S m X0)(c:ops[i]? =I o)(g:VA o (We ops a.tmps)=U5)(f:X0 own (b.at (a.put o.dst V9) (.inRegion ops rest::k)) cs w):X0 own (b.at a (.inRegion ops (i::rest)::k)) cs w:=by
 refine kY d (λw=>?_) f;have e:(b.at a (.inRegion ops (i::rest)::k)).finish V9=b.at (a.put o.dst V9) (.inRegion ops rest::k):=by rw[YK,c];rfl
 rw[<-e];simp[Vd,VN,VG,stepG.oper,Frame.oper?,Frame.at,c,g]
def mP(e:oe P0 P S m X0)(f:b.kind≠.early)(j:ops[i]? =I o)(n:VA o (We ops a.tmps)=Z)(v:U)
 (h:∀c,(Vw a.eval o).run P c= .ok (.value v) c/\(Vw a.eval o).events P c #[]=#[]) (g:X0 own (b.at (a.put o.dst v) (.inRegion ops rest::k)) cs w):X0 own (b.at a (.inRegion ops (i::rest)::k)) cs w:=
 oZ e f j n v (λc _=>⟨(h c).1,λp d=>by rw[(h c).2] at d;simp at d⟩) g
def I3(j:oe P0 P S m X0){f:Xb}{fn:XJ}{c:XQ}{args:Array V4}{ats:Array Vc}(p:b.kind≠.early)(r:ops[i]? =I o)(s:VA o (We ops a.tmps)=Z)(h:o.op= .call {callee:=.value (.func f),args,argTypes:=ats})
 (e:P.funcs[f]? =I fn) (g:(fn.name == "runtime.NumGoroutine")=U5) (n:fn.body=I c) (q:X0 own (VU P f (args.map a.eval) .normal) (b.at a (.inRegion ops (i::rest)::k)::cs) w):X0 own (b.at a (.inRegion ops (i::rest)::k)) cs w:=by
 have d:fn.body.isNone=U5:=by rw[n];rfl
 refine kY j (λw=>?_) q;rw[stepG_enter r s p (run_call_body h e g d)];have:listed P b.fn a o w=#[]:=by unfold listed;rw[events_call_body h e g d];exact Conc.seen_none P _
 rw[this]
def Ps(d:oe P0 P S m X0){fn:XJ}{todo:List XR}{c:Vg}{a0:Xa}{v:U}(j:b.kind= .normal)(e:a.defers=[])(g:P.funcs[b.fn]? =I fn)(p:∀w,(V0 fn a.tmps).run P w= .ok v w)(f:∀w,(V0 fn a.tmps).events P w #[]=#[])(n:ops[i]? =I o)
 (h:X0 own (c.at (a0.put o.dst v) (.inRegion ops rest::k)) cs w):X0 own {b.at a todo with mode:=.returning} (c.at a0 (.inRegion ops (i::rest)::k)::cs) w:=by
 refine kY d (λw=>?_) h;rw[stepG_leave j e g (p w) (f w),YK,n];rfl
def jq (n:Nat)(S own:Nat->Prop)(e:Wm):Prop:=(∃m,e.loc= .mark m/\Neutral m)\/(∃c:VI,e.loc= .cell c/\(c.block=n\/own c.block\/(S c.block/\e.write=U5)))
def jq.ev{n:Nat}{own':Nat->Prop}(f:own' n)(g:∀b,own b->own' b){e:Wm}(h:jq n S own e):EvW S own' e:=by
 unfold EvW;rcases h with⟨m,h,d⟩|⟨j,h,c⟩
 ·rw[h];exact d
 ·rw[h];rcases c with rfl|c|c
  ·exact .inl f
  ·exact .inl (g _ c)
  ·exact .inr c
def uw (S own:Nat->Prop)(w:F):Prop:=∀b,S b\/own b->b<w.heap.size
def kg(y:oe P0 P S m X0)(C:uw S own w)(A:b.kind≠.early)(E:ops[i]? =I o)(F:VA o (We ops a.tmps)=Z)(j:Yk)(G:bf P0 j)(u:Nat->U)
 (h:∀c,RelB (λb=>S b\/own b) w c->∃w',(Vw a.eval o).run P c= .ok (.value (u c.heap.size)) w'/\w'.heap=c.heap.push j/\w'.tape=c.tape/\w'.os=c.os/\w'.output=c.output/\∀e∈(Vw a.eval o).events P c #[],jq c.heap.size S own e)
 (D:∀n w',w.heap.size<=n->w'.heap.size=n+1->RelB (λb=>S b\/own b) w w'->w'.heap[n]? =I j->X0 (λb=>own b\/b=n) (b.at (a.put o.dst (u n)) (.inRegion ops rest::k)) cs w'):X0 own (b.at a (.inRegion ops (i::rest)::k)) cs w:=
 MB y A E F λc d=>by
  obtain⟨w',v,g,p,q,r,x⟩:=h c d;have t:cQ own c w'=λb=>own b\/b=c.heap.size:=by
   funext H;unfold cQ;rw[g,Array.size_push];apply propext;constructor
   ·rintro(h|h)
    ·exact .inl h
    ·exact .inr (by omega)
   ·rintro(h|h)
    ·exact .inl h
    ·exact .inr (by omega)
  have s:∀b:Nat,b<c.heap.size->w'.heap[b]? =c.heap[b]? :=λb f=>by
   rw[g,VF];rw[if_neg (by omega)]
  refine⟨_,w',v,⟨λb f _=>s b f,by rw[g];simp,p,q,r,λ_=>trivial,λe B=>?_⟩,?_⟩
  ·rw[t];exact(x e B).ev (.inr Y) (λb f=>.inl f)
  ·rw[t];refine D c.heap.size w' d.size (by rw[g];simp) ⟨λb f=>?_,by rw[g];simp;have:=d.size;omega,p.trans d.tape,q.trans d.os,r.trans d.output⟩ (by rw[g];simp);rw[<-d.at_ b f];exact s b (U9 (C b f) d.size)
def uw.new{n:Nat}{w':F}(h:uw S own w)(d:w.heap.size<=n)(e:w'.heap.size=n+1):uw S (λb=>own b\/b=n) w':=λb c=>by
 rcases c with c|c|c
 ·have:=h b (.inl c);omega
 ·have:=h b (.inr c);omega
 ·omega
def RO(j:oe P0 P S m X0)(n:b.kind≠.early)(q:ops[i]? =I o)(s:VA o (We ops a.tmps)=Z)
 (h:∀d,RelB (λb=>S b\/own b) w d->∃w',(Vw a.eval o).run P d= .ok .skip w'/\mH P0 S own d w' ((Vw a.eval o).events P d #[])/\X0 (cQ own d w') (b.at (a.put o.dst V9) (.inRegion ops rest::k)) cs w'):X0 own (b.at a (.inRegion ops (i::rest)::k)) cs w:=
 j.step _ _ _ _ λd r=>by
  obtain⟨w',f,c,g⟩:=h d r;exact⟨_,_,_,_,stepG_none q s n f,⟨c.keep,c.size,c.tape,c.os,c.output,c.hp,λe p=>c.evs e (Conc.mem_listed p)⟩,g⟩
structure Au(S own:Nat->Prop)(n:Nat)(ob:Yk)(w w':F):Prop where
 at_:∀b,S b\/own b->b≠n->w'.heap[b]? =w.heap[b]?
 set:w'.heap[n]? =I ob
 size:w.heap.size<=w'.heap.size
 tape:w'.tape=w.tape
 os:w'.os=w.os
 output:w'.output=w.output
structure xV(n:Nat)(ob:Yk)(w1 w':F):Prop where
 heap:w'.heap=w1.heap.setIfInBounds n ob
 tape:w'.tape=w1.tape
 os:w'.os=w1.os
 output:w'.output=w1.output
def xV.TG{n:Nat}{g:Yk}{c w':F}{es:Array Wm}(h:xV n g c w')(j:own n)(u:n<c.heap.size)(y:bf P0 g)(t:∀e∈es,jq n S own e)(d:RelB (λb=>S b\/own b) w c):mH P0 S own c w' es/\cQ own c w'=own/\Au S own n g w w':=by
 have x:w'.heap.size=c.heap.size:=by rw[h.heap];simp
 have p:∀b:Nat,b≠n->w'.heap[b]? =c.heap[b]? :=λb f=>by rw[h.heap,VE,if_neg (λe=>f e.symm)]
 have q:cQ own c w'=own:=by
  funext A;unfold cQ;rw[x];apply propext;constructor
  ·rintro(h|h)
   ·exact h
   ·omega
  ·exact .inl
 refine⟨⟨λb f v=>p b (λe=>v (e▸j)),by omega,h.tape,h.os,h.output,λ_=>trivial,λe r=>?_⟩,q,⟨λb f s=>(p b s).trans (d.at_ b f),by rw[h.heap,VE,if_pos Y,if_pos u],by have:=d.size;omega,h.tape.trans d.tape,h.os.trans d.os,h.output.trans d.output⟩⟩
 ·rw[q];exact(t e r).ev j (λ_ h=>h)
def nY(u:oe P0 P S m X0)(x:uw S own w)(v:b.kind≠.early)(A:ops[i]? =I o)(C:VA o (We ops a.tmps)=Z){n:Nat}(g:own n)(f:Yk)(B:bf P0 f)
 (h:∀c,RelB (λb=>S b\/own b) w c->∃w',(Vw a.eval o).run P c= .ok .skip w'/\xV n f c w'/\∀e∈(Vw a.eval o).events P c #[],jq n S own e)
 (y:∀w',Au S own n f w w'->X0 own (b.at (a.put o.dst V9) (.inRegion ops rest::k)) cs w'):X0 own (b.at a (.inRegion ops (i::rest)::k)) cs w:=
 RO u v A C λc d=>by
  obtain⟨w',r,s,t⟩:=h c d;obtain⟨j,p,q⟩:=s.TG (P0:=P0) g (U9 (x n (.inr g)) d.size) B t d;exact⟨w',r,j,by rw[p];exact y w' q⟩
def RP(u:oe P0 P S m X0)(y:uw S own w)(x:b.kind≠.early)(B:ops[i]? =I o)(D:VA o (We ops a.tmps)=Z){n:Nat}(g:own n)(f:Yk)(C:bf P0 f)(v:U)
 (h:∀c,RelB (λb=>S b\/own b) w c->∃w',(Vw a.eval o).run P c= .ok (.value v) w'/\xV n f c w'/\∀e∈(Vw a.eval o).events P c #[],jq n S own e)
 (A:∀w',Au S own n f w w'->X0 own (b.at (a.put o.dst v) (.inRegion ops rest::k)) cs w'):X0 own (b.at a (.inRegion ops (i::rest)::k)) cs w:=
 MB u x B D λc d=>by
  obtain⟨w',r,s,t⟩:=h c d;obtain⟨j,p,q⟩:=s.TG (P0:=P0) g (U9 (y n (.inr g)) d.size) C t d;exact⟨v,w',r,j,by rw[p];exact A w' q⟩
def uw.set{n:Nat}{e:Yk}{w':F}(h:uw S own w)(d:Au S own n e w w'):uw S own w':=λb c=>U9 (h b c) d.size
def Pr(q:oe P0 P S m X0)(x:b.kind≠.early){Ph Dn:Nat->Bool}{z:Xa}{val:Nat->U}{u:Nat}{a0:Xa}(G:px ops Ph=Z)(v:Qk ops Ph u=Z)
 (J:∀(i:Nat) o d,Ph i=Z->ops[i]? =I o->o.dst=I d->d<z.tmps.size/\aS z d=val i)
 (K:∀s,(∀(j:Nat) o,Ph j=Z->ops[j]? =I o->o.dst≠I s)->aS z s=aS a0 s)
 (D:∀i o,Ph i=Z->Dn i=U5->i≠u->ops[i]? =I o->(VA o (We ops z.tmps)=Z/\∀c,RelB (λb=>S b\/own b) w c->(Vw z.eval o).run P c= .ok (.value (val i)) c/\∀e∈(Vw z.eval o).events P c #[],EvW S own e)\/(VA o (We ops z.tmps)=U5/\val i=V9))
 (H:∀f t l a,cI ops Ph a0 z l a->u∈VX .any ops l->FW l<=f+1->X0 own (b.at a (.inRegion ops (u::V5 .any ops f t (l.setIfInBounds u Z) [])::k)) cs w)
 (B:(∀i,i<ops.size->Ph i=Z)->X0 own (b.at z (.inRegion ops []::k)) cs w):
 ∀(f t:Nat) (l:Array Bool) (a:Xa),cI ops Ph a0 z l a->(∀i,Dn i=Z->l.getD i U5=Z)->FW l<=f->X0 own (b.at a (.inRegion ops (V5 .any ops f t l [])::k)) cs w:=
 drawn (G:=λl a=>X0 own (b.at a (.inRegion ops l::k)) cs w) G v J K (λi o a L E y C p A r n=>by
  rcases D i o E y C p with⟨g,h⟩|⟨g,h⟩
  ·exact oZ q x p (r.trans g) (val i) (λc F=>by rw[A];exact h c F) n
  ·rw[h] at n;exact ye q p (r.trans g) n) H B
end
section
variable {ops:Array Ww}{Ph L4:Nat->Bool}{a0 z z':Xa}{l:Array Bool}{a:Xa}
def cI.UC(c:cI ops Ph a0 z l a){u:Nat}{o:Ww}(y:u∈VX .any ops l)(f:ops[u]? =I o)(r:∀i,Ph i=Z->L4 i=Z)(C:L4 u=Z)(A:z'.tmps.size=z.tmps.size)(x:z'.defers=z.defers)
 (E:∀(i:Nat) o d,Ph i=Z->ops[i]? =I o->o.dst=I d->aS z' d=aS z d) {v:U} (D:∀d,o.dst=I d->d<z'.tmps.size/\aS z' d=v):cI ops L4 a0 z' (l.setIfInBounds u Z) (a.put o.dst v):=by
 obtain⟨j,g,_,_,t⟩:=mem_ready y;rw[f] at g;cases g;have e:cI ops L4 a0 z' l a:=⟨c.size,c.closed,λi n=>r i (c.ph i n),c.Rr.trans A.symm,c.Te.trans x.symm,λs h=>by
  have B:=h;obtain⟨i,j,e,p,q⟩:=B;rw[E i j s (c.ph i e) p q];exact c.yes s h,c.no⟩
 exact e.next C f t D
def LO(n:Nat):FW (V8 n U5)<=n:=by
 unfold FW;exact Vm (List.countP_le_length) (by simp)
end
section
variable {P0 P:Vb}{S own:Nat->Prop}{a:Xa}{o:Ww}{w w1:F}
def EvW.read{e:Wm}{b:VI}(h:e.loc= .cell b)(d:e.write=U5)(c:S b.block\/own b.block):EvW S own e:=by
 unfold EvW;rw[h];exact c.elim (λf=>.inr ⟨f,d⟩) .inl
def oC(e:RelB (λb=>S b\/own b) w w1){c:VI}(d:S c.block\/own c.block):w1.cell? c=w.cell? c:=by
 unfold World.cell?;rw[e.at_ c.block d]
def bP{t:Vc}{x:V4}{c:VI}{v:U}(i:o.op= .load t x)(j:a.eval x= .pointer (I c))(f:∀w,(isAgg t).run P w= .ok U5 w)(g:S c.block\/own c.block)(hc:w.cell? c=I v):∀w1,RelB (λb=>S b\/own b) w w1->(Vw a.eval o).run P w1= .ok (.value v) w1/\∀e∈(Vw a.eval o).events P w1 #[],EvW S own e:=by
 intro w1 k;have h:w1.cell? c=I v:=(oC k g).trans hc;constructor
 ·unfold Vw;simp[i,j,Instr.loadAt,Yg,loadVar,f,h]
 ·intro e d;unfold Vw at d;simp[i,j,Instr.loadAt,Yg,loadVar,f,h] at d;subst d;exact EvW.read Y Y g
def eK{t:Vc}{x:V4}{c off:Nat}{cs:List U}{d:TypeDesc}(m:o.op= .load t x)(p:a.eval x= .pointer (I ⟨c,off,K⟩))(n:P.underlying t=I d)(A:d.isRow=Z)(l:(P.info? t).map (·.size)=I cs.length)(k:S c\/own c)(hc:w.rangeAt c off cs):∀w1,RelB (λb=>S b\/own b) w w1->(Vw a.eval o).run P w1= .ok (.value (.agg cs.toArray)) w1/\∀e∈(Vw a.eval o).events P w1 #[],EvW S own e:=by
 intro w1 E;have g:w1.rangeAt c off cs:=λf v i=>(oC E k).trans (hc f v i);have D:=run_loadAt_mid (P:=P) w1 c off t cs d g n A l;constructor
 ·unfold Vw;simp[m,p,D]
 ·intro e h;have z:(isAgg t).run P w1= .ok Z w1:=by
   unfold isAgg;rw[XW,X5 n w1];cases d<;>simp_all
  obtain⟨L,C,G⟩:=XB.1 l;have F:(Zg t).run P w1= .ok cs.length w1:=by simp[Zg,Yc,C,G]
  unfold Vw at h;simp only[m,p] at h;have B:e∈(loadCellsFrom ⟨c,off,K⟩ 0 cs.length #[]).events P w1 #[]:=by
   have j:∃q,(loadCells ⟨c,off,K⟩ cs.length).run P w1= .ok q w1:=⟨_,run_loadCells_list (P:=P) w1 ⟨c,off,K⟩ cs (λf v H=>by rw[YN];exact g f v H)⟩;obtain⟨q,j⟩:=j;simpa [Instr.loadAt,Yg,loadVar,z,F,j,loadCells] using h
  rcases events_loadCellsFrom_at (P:=P) ⟨c,off,K⟩ (λb=>b=c) rfl cs.length 0 #[] w1 #[] (λf i=>by
   rw[VV,YN,g f cs[f] (List.getElem?_eq_getElem i)];rfl) e B with r|⟨J,s,u,y⟩
  ·simp at r
  ·exact EvW.read s u (by rw[y];exact k)
def vg{t:Vc}{x:V4}{v:U}(d:o.op= .box t x)(f:a.eval x=v):∀w1,RelB (λb=>S b\/own b) w w1->∃w',(Vw a.eval o).run P w1= .ok (.value (aP w1.heap.size)) w'/\w'.heap=w1.heap.push (.cells v.cells t)/\w'.tape=w1.tape/\w'.os=w1.os/\w'.output=w1.output/\∀e∈(Vw a.eval o).events P w1 #[],jq w1.heap.size S own e:=by
 intro w1 g;refine⟨w1.alloc (.cells v.cells t),?_,rfl,rfl,rfl,rfl,?_⟩
 ·unfold Vw;simp[d,f,Instr.box,newVar,newRow]
 ·intro e c;unfold Vw at c;simp[d,f,Instr.box,newVar,newRow] at c
def oL{t:Vc}{z:U}(d:o.op= .alloc t)(f:∀w,(Xl t).run P w= .ok z w):∀w1,RelB (λb=>S b\/own b) w w1->∃w',(Vw a.eval o).run P w1= .ok (.value (aP w1.heap.size)) w'/\w'.heap=w1.heap.push (.cells z.cells t)/\w'.tape=w1.tape/\w'.os=w1.os/\w'.output=w1.output/\∀e∈(Vw a.eval o).events P w1 #[],jq w1.heap.size S own e:=by
 intro w1 g;refine⟨w1.alloc (.cells z.cells t),?_,rfl,rfl,rfl,rfl,?_⟩
 ·unfold Vw;simp[d,Instr.alloc,f,newVar,newRow]
 ·intro e c;unfold Vw at c;simp[d,Instr.alloc,f,newVar,newRow] at c
def wD{n:Nat}{f cs:Array U}{e:Vc}{b:Nat×Nat}(d:w1.heap[n]? =I (.cells f e b)):xV n (.cells cs e b) w1 (w1.setRow n cs):=by
 refine⟨?_,rfl,rfl,rfl⟩;unfold World.setRow;apply Yo;intro h;simp only[WT,VE];by_cases c:n=h
 ·subst c;have g:=(U4.1 d).1;rw[if_pos Y,if_pos Y,if_pos g,d];rfl
 ·simp[c]
def iy{t:Vc}{x y:V4}{n off:Nat}{v:U}{d:Array U}{e:Vc}(l:o.op= .store t x y)(p:a.eval x= .pointer (I ⟨n,off,K⟩))(q:a.eval y=v)(D:(P.info? t).map (·.size)=I v.cells.size)(h1:∀c∈v.cells.toList,c.oneCell'=Z)(z:S n\/own n)(C:w.heap[n]? =I (.cells d e (0,0)))(j:off+v.cells.size<=d.size):
 ∀w1,RelB (λb=>S b\/own b) w w1->∃w',(Vw a.eval o).run P w1= .ok .skip w'/\xV n (.cells (d.toList.take off++v.cells.toList++d.toList.drop (off+v.cells.size)).toArray e (0,0)) w1 w'/\∀f∈(Vw a.eval o).events P w1 #[],jq n S own f:=by
 intro w1 E;have g:w1.heap[n]? =I (.cells d e (0,0)):=(E.at_ n z).trans C;obtain⟨F,k,m⟩:=XB.1 D;have h:=run_storeCells_at P n off e v.cells.toList 0 d w1 g (by simpa using j) h1;have B:=events_storeCells_at (P:=P) n off e v.cells.toList 0 d w1 #[] g (by simpa using j) h1;simp only[Nat.add_zero,WW] at h;refine⟨_,?_,wD g,λf i=>?_⟩
 ·unfold Vw;simp[l,p,q,Instr.storeAt,Yg,storeVar,Zg,Yc,k,m,h]
 ·have A:f∈(storeCells ⟨n,off,K⟩ v.cells.toList 0).events P w1 #[]:=by
   unfold Vw at i;simpa [l,p,q,Instr.storeAt,Yg,storeVar,Zg,Yc,k,m,h] using i
  rcases B f A with s|⟨r,h1,u⟩
  ·simp at s
  ·exact .inr ⟨r,h1,.inl u⟩
def CM{t e:Vc}{l c:V4}{d:XX}{z:U}{kl h:XL}{L C:Nat}(m:o.op= .makeSlice t l c)(k:a.eval l= .int kl (L:Int))(hc:a.eval c= .int h (C:Int))(n:P.underlying t=I (.slice e))(j:P.info? e=I d)(p:d.zero=I z)(v:L<=C)(r:C*d.bytes<=140737488355328)(u:C<=9223372036854775807):
 ∀w1,RelB (λb=>S b\/own b) w w1->∃w',(Vw a.eval o).run P w1= .ok (.value (.slice (I ⟨w1.heap.size,0,K⟩) L C)) w'/\w'.heap=w1.heap.push (.cells (YH z.cells (C*d.size)) e)/\w'.tape=w1.tape/\w'.os=w1.os/\w'.output=w1.output/\∀e∈(Vw a.eval o).events P w1 #[],jq w1.heap.size S own e:=by
 intro w1 x;have i:(d.bytes:Int)*(C:Int)<=281474976710656:=by
  rw[<-Int.natCast_mul,Nat.mul_comm];omega
 have g:=run_make (P:=P) w1 t e d z n j p kl h (L:Int) (C:Int) (by omega) (by omega) i (by omega);have q:=events_make (P:=P) w1 t e d z n j p kl h (L:Int) (C:Int) (by omega) (by omega) i (by omega) (by simpa using r) #[];simp only[Int.toNat_natCast] at g;refine⟨w1.alloc (.cells (YH z.cells (C*d.size)) e),?_,rfl,rfl,rfl,rfl,λs f=>?_⟩
 ·unfold Vw;simp[m,k,hc,g]
 ·unfold Vw at f;simp only[m,k,hc] at f;simp[g,q] at f
def EU{t e:Vc}{p:ChanDir}{x:V4}{m:XX}{k:XL}{n:Nat}(h:o.op= .makeChan t x)(l:a.eval x= .int k (n:Int))(j:P.underlying t=I (.chan p e))(g:P.info? e=I m)(d:(n:Int)<=9223372036854775807)(f:(m.bytes:Int)*n<=281474976710544):
 ∀w1,RelB (λb=>S b\/own b) w w1->∃w',(Vw a.eval o).run P w1= .ok (.value (.chan (I w1.heap.size))) w'/\w'.heap=w1.heap.push (.chan n #[] U5 0 0 U5)/\w'.tape=w1.tape/\w'.os=w1.os/\w'.output=w1.output/\∀e∈(Vw a.eval o).events P w1 #[],jq w1.heap.size S own e:=by
 intro w1 s;have i:=run_makeChan (P:=P) (w:=w1) j g k n d f;have q:=events_makeChan (P:=P) (w:=w1) j g k n d f #[];refine⟨w1.alloc (.chan n #[] U5 0 0 U5),?_,rfl,rfl,rfl,rfl,λr c=>?_⟩
 ·unfold Vw;simp[h,l,i]
 ·unfold Vw at c;simp only[h,l] at c;simp[i,q] at c
end
structure Knows(a:Xa)(n:Nat)(l:List (Nat×U)):Prop where
 size:a.tmps.size=n
 slot:∀s v,l.lookup s=I v->aS a s=v
def Fx{a:Xa}{d:Nat}(c:d<a.tmps.size)(v:U)(s:Nat):aS (a.put (I d) v) s=if d=s then v else aS a s:=by
 unfold aS WH;simp only[Vt,VE];by_cases b:d=s
 ·subst b;simp[c]
 ·simp[b]
def size_put(a:Xa)(d:Option Nat)(v:U):(a.put d v).tmps.size=a.tmps.size:=by
 unfold WH
 split<;>simp
def Knows.put{a:Xa}{n:Nat}{l:List (Nat×U)}(h:Knows a n l){d:Nat}(f:d<n)(v:U):Knows (a.put (I d) v) n ((d,v)::l):=by
 refine⟨(size_put _ _ _).trans h.size,λs g b=>?_⟩;rw[Fx (by rw[h.size];exact f)];simp only[List.lookup_cons] at b;by_cases c:d=s
 ·subst c;simp at b;simp[b]
 ·have:(s==d)=U5:=by simpa using λe=>c e.symm
  rw[this] at b;rw[if_neg c];exact h.slot s g b
def Knows.none{a:Xa}{n:Nat}{l:List (Nat×U)}(h:Knows a n l)(v:U):Knows (a.put K v) n l:=h
def Knows.of{a:Xa}{n:Nat}{l:List (Nat×U)}(h:Knows a n l){s:Nat}{v:U}(b:l.lookup s=I v):a.eval (.tmp s)=v:=h.slot s v b
section
variable {P:Vb}{a:Xa}{o:Ww}
def bZ{x:V4}{v:U}(c:o.op= .move x)(d:a.eval x=v):∀b,(Vw a.eval o).run P b= .ok (.value v) b/\(Vw a.eval o).events P b #[]=#[]:=λb=>by
 unfold Vw;simp[c,d]
def kH{x:V4}{v:U}(c:o.op= .assign x)(d:a.eval x=v):∀b,(Vw a.eval o).run P b= .ok (.value v) b/\(Vw a.eval o).events P b #[]=#[]:=λb=>by
 unfold Vw;simp[c,d]
def ND{t:Vc}{x:V4}{f d off:Nat}{e:Array Field}{c:Field}{n:Nat}(h:o.op= .fieldAddr t x f)(k:a.eval x= .pointer (I ⟨d,off,K⟩))(j:P.underlying t=I (.struct e))(g:e[f]? =I c)(i:∀w,(Zg c.type).run P w= .ok (n+1) w):
 ∀b,(Vw a.eval o).run P b= .ok (.value (.pointer (I ⟨d,off+c.offset,K⟩))) b/\(Vw a.eval o).events P b #[]=#[]:=λb=>by
 unfold Vw;simp[h,k,Instr.fieldAt,X5 j,g,Yg,fieldPlace,i,YN]
def fq{t e:Vc}{x y:V4}{d off len cap n:Nat}{k:XL}{i:Nat}(g:o.op= .indexAddr t x y)(l:a.eval x= .slice (I ⟨d,off,K⟩) len cap)(m:a.eval y= .int k (i:Int))(j:P.underlying t=I (.slice e))(h:∀w,(Zg e).run P w= .ok n w)(p:i<len):
 ∀b,(Vw a.eval o).run P b= .ok (.value (.pointer (I ⟨d,off+i*n,K⟩))) b/\(Vw a.eval o).events P b #[]=#[]:=λb=>by
 have f:(i:Int)<(len:Int):=by omega
 unfold Vw;simp[g,l,m,Instr.indexAt,asIntOf,X5 j,f,h,YN];exact⟨λc=>absurd c (by omega),λc=>absurd c (by omega)⟩
def sV{t:Vc}{x:V4}{base:Option VI}{len cap:Nat}{e:Vc}(c:o.op= .call {callee:=.builtin .len,args:= #[x],argTypes:= #[t]})(f:a.eval x= .slice base len cap)(d:P.underlying t=I (.slice e)):
 ∀b,(Vw a.eval o).run P b= .ok (.value (.int .i64 (len:Int))) b/\(Vw a.eval o).events P b #[]=#[]:=λb=>by
 unfold Vw;simp[c,f,Y6,invoke,builtin,Builtin.len_,X5 d,goInt]
def kI{x:V4}{i:Nat}{vs:Array U}{v:U}(c:o.op= .extract x i)(e:a.eval x= .tuple vs)(d:vs[i]? =I v):∀b,(Vw a.eval o).run P b= .ok (.value v) b/\(Vw a.eval o).events P b #[]=#[]:=λb=>by
 unfold Vw;simp[c,e,Instr.extract,d]
def Jo{x y z:V4}{c:Bool}(d:o.op= .pick x y z)(e:a.eval x= .bool c):∀b,(Vw a.eval o).run P b= .ok (.value (if c then a.eval y else a.eval z)) b/\(Vw a.eval o).events P b #[]=#[]:=λb=>by
 unfold Vw;simp[d,e,asBool]
def Sp{t f:Vc}{x y:V4}{i j:Int}(c:o.op= .binOp .lss t x y f)(d:a.eval x= .int .i64 i)(e:a.eval y= .int .i64 j):∀b,(Vw a.eval o).run P b= .ok (.value (.bool (decide (i<j)))) b/\(Vw a.eval o).events P b #[]=#[]:=λb=>by
 unfold Vw;simp[c,d,e,binOp,eqGuard,Op.intCmp]
def So{t f:Vc}{x y:V4}{i j:Int}(c:o.op= .binOp .eql t x y f)(d:a.eval x= .int .i64 i)(e:a.eval y= .int .i64 j):∀b,(Vw a.eval o).run P b= .ok (.value (.bool (i==j))) b/\(Vw a.eval o).events P b #[]=#[]:=λb=>by
 unfold Vw;simp[c,d,e,binOp,eqGuard,Op.intCmp]
def Sq{t f:Vc}{x y:V4}{i j:Int}(c:o.op= .binOp .neq t x y f)(d:a.eval x= .int .i64 i)(e:a.eval y= .int .i64 j):∀b,(Vw a.eval o).run P b= .ok (.value (.bool (i !=j))) b/\(Vw a.eval o).events P b #[]=#[]:=λb=>by
 unfold Vw;simp[c,d,e,binOp,eqGuard,Op.intCmp]
def n9{t f:Vc}{x y:V4}{i j:Nat}(c:o.op= .binOp .add t x y f)(d:a.eval x= .int .i64 (i:Int))(e:a.eval y= .int .i64 (j:Int))(g:i+j<=9223372036854775807):∀b,(Vw a.eval o).run P b= .ok (.value (.int .i64 ((i+j:Nat):Int))) b/\(Vw a.eval o).events P b #[]=#[]:=λb=>by
 have:ZA.wrap ((i:Int)+(j:Int))=((i+j:Nat):Int):=by rw[IntKind.wrap_i64]<;>omega
 unfold Vw;simp[c,d,e,binOp,eqGuard,Op.intArith,this]
end
def below(P:Vb):Vg:={(default:Vg) with fn:=P.funcs.size,mode:=.panicking [goexitEntry]}
section
variable {P0 P:Vb}{S:Nat->Prop}{c:Nat}{own:Nat->Prop}{vs:List U}{cs:List Vg}{w:F}{b:Vg}{a:Xa}{k:List XR}{ops:Array Ww}{i:Nat}{rest:List Nat}{o:Ww}
def OX {f:Xb} {fn:XJ} {code:XQ} {args:Array U} (e:P.funcs[f]? =I fn) (n:(fn.name == "runtime.NumGoroutine")=U5) (d:fn.body=I code) (h:qm P0 P S c own vs (Vd ((baseD f).at {tmps:=args++V8 (fn.ntmps-args.size) V9,defers:=[]} [.code code]) [below P]) w):qm P0 P S c own vs (born P (dcall f args)) w:=by
 have q:∀w,VN P U5 (born P (dcall f args)) w= .go (Vd ((baseD f).at {tmps:=args++V8 (fn.ntmps-args.size) V9,defers:=[]} [.code code]) [below P]) w #[]:=by
  intro w;have j:¬fn.name= "runtime.NumGoroutine" :=by simpa using n
  rw[<-enter_atD args e d];simp[born,VN,Zh,callDeferred,dcall,invoke,callFunc,e,j,d,XZ,seen_none,Vd,below];rfl
 exact LX Y (λg _=>q g) (λr l=>by simp at l) (λg p=>h.rely p)
def JL{ats:Array Vc}{ty:Vc}{co:Array Bool}{fn:XJ}{todo:List XR}(v:b.kind= .deferred)(u:a.defers=[{target:=.builtin .close ats ty co,args:= #[.chan (I c)]}])(h:P.funcs[b.fn]? =I fn)(y:fn.results=#[])(x:fn.norace=U5):qm P0 P S c own [] (Vd {b.at a todo with mode:=.returning} [below P]) w:=by
 refine LW (n:=2) (g':=Vd {b.at ⟨a.tmps,[]⟩ todo with mode:=.returning} [below P]) Y ?_ ?_ ?_
 ·refine .inr ⟨rfl,Vd (below P) [],λw=>?_,.inr ⟨rfl,{Vd (below P) [] with status:=.finished},λw=>?_,rfl⟩⟩
  ·simp[Vd,VN,Zh,Yb,Frame.at,v,h,V0,y,seen,XZ,below,goexitEntry]
  ·have n:(default:Vg).defers=[]:=rfl;have p:(default:Vg).todo=[]:=rfl;simp[Vd,VN,Zh,below,Frame.catches,goexitEntry,n,p]
 ·simp[mayWake,Vd,Frame.at]
 ·intro d _ l j s z A e;have q:(invoke (.builtin .close ats ty co) #[.chan (I c)]).run P d= .ok (.value (.tuple #[])) (d.setChan c l j Z s z A):=by
   simp[go_sem,run_close_open _ _ e,World.setChan]
  have r:(invoke (.builtin .close ats ty co) #[.chan (I c)]).events P d #[]=#[⟨.obj c,U5,Z⟩,⟨.obj c,Z,Z⟩]:=by
   simp[go_sem,events_close_open _ _ e]
  have t:seen P b.fn #[⟨.obj c,U5,Z⟩,⟨.obj c,Z,Z⟩]=#[⟨.obj c,U5,Z⟩,⟨.obj c,Z,Z⟩]:=seen_eq (by simp[h,x]) (by intro B g f;simp only[List.mem_toArray,WI,YS,or_false] at g;rcases g with rfl|rfl<;>simp);simp[Vd,VN,Zh,callDeferred,Frame.at,u,q,r,t,XZ]
def SP{x y:V4}{v:U}(j:b.kind≠.early)(e:ops[i]? =I o)(s:VA o (We ops a.tmps)=Z)(f:o.op= .send x y)(g:a.eval x= .chan (I c))(h:a.eval y=v)
 (n:qm P0 P S c own vs (Vd (b.at (a.put o.dst V9) (.inRegion ops rest::k)) cs) w):qm P0 P S c own (v::vs) (Vd (b.at a (.inRegion ops (i::rest)::k)) cs) w:=by
 have r:Xr (Vd (b.at a (.inRegion ops (i::rest)::k)) cs) V9=Vd (b.at (a.put o.dst V9) (.inRegion ops rest::k)) cs:=by
  simp only[Xr,Vd,YK,e];rfl
 refine OY (g2:=Vd (b.at a (.inRegion ops (i::rest)::k)) cs) (z:=.tuple #[]) Y λd p=>⟨?_,by rw[r];exact n.rely p⟩;have q:(Vw a.eval o).run P d= .ok (.comm #[scase c v (.tuple #[])] Z .send) d:=by
  unfold Vw;simp[f,g,h,scase]
 have l:(Vw a.eval o).events P d #[]=#[]:=by
  unfold Vw;simp[f,g,h]
 rw[stepG_comm e s j q];unfold listed;rw[l,seen_none]
end
section
variable {P0 P:Vb}{S:Nat->Prop}{m:Bool}{X0:(Nat->Prop)->Vg->List Vg->F->Prop}{own:Nat->Prop}{cs:List Vg}{w:F}{b:Vg}{a:Xa}{k:List XR}{ops:Array Ww}{i:Nat}{rest:List Nat}{o:Ww}
def Pq(g:oe P0 P S m X0)(h:b.kind≠.early)(e:ops[i]? =I o)(r:VA o (We ops a.tmps)=Z){d:Builtin}{x:V4}{v:U}{ats:Array Vc}(f:o.op= .defer {callee:=.builtin d,args:= #[x],argTypes:=ats})(s:a.eval x=v)
 (n:∀co,X0 own (b.at (WH ⟨a.tmps,{target:=.builtin d ats o.type co,args:= #[v]}::a.defers⟩ o.dst V9) (.inRegion ops rest::k)) cs w):X0 own (b.at a (.inRegion ops (i::rest)::k)) cs w:=by
 refine kY g (λw=>?_) (n (#[x].map fun| .const _=>Z|_=>U5));have q:(Vw a.eval o).run P w= .ok (.defer {target:=.builtin d ats o.type (#[x].map fun| .const _=>Z|_=>U5),args:= #[v]}) w:=by
  unfold Vw;simp[f,Y6,s];cases x<;>rfl
 have j:(Vw a.eval o).events P w #[]=#[]:=by
  unfold Vw;simp[f,Y6]
 have l:(b.at ⟨a.tmps,{target:=.builtin d ats o.type (#[x].map fun| .const _=>Z|_=>U5),args:= #[v]}::a.defers⟩ (.inRegion ops (i::rest)::k)).finish V9=b.at (WH ⟨a.tmps,{target:=.builtin d ats o.type (#[x].map fun| .const _=>Z|_=>U5),args:= #[v]}::a.defers⟩ o.dst V9) (.inRegion ops rest::k):=by rw[YK,e];rfl
 have p:(b.kind==CallKind.early)=U5:=by simpa using h
 rw[stepG_oper e r,<-l];simp[WO,q,j,Vd,Frame.at,p,XZ,seen_none]
end
def fill (a:Xa):List (Nat×U)->Xa
 | []=>a
 |(c,v)::l=>(fill a l).put (I c) v
theorem kF(a:Xa):∀l,(fill a l).tmps.size=a.tmps.size
 | []=>rfl
 |(c,v)::l=>(size_put _ _ _).trans (kF a l)
theorem ep(a:Xa):∀l,(fill a l).defers=a.defers
 | []=>rfl
 |(c,v)::l=>ep a l
theorem Knows.fill{a:Xa}{n:Nat}{l0:List (Nat×U)}(h:Knows a n l0):∀(l:List (Nat×U)),(l.all λp=>decide (p.1<n))=Z->Knows (fill a l) n (l++l0)
 | [],_=>h
 |(d,v)::l,c=>by
  simp only[List.all_cons,Vr,decide_eq_true_eq] at c;exact(Knows.fill h l c.2).put c.1 v
theorem mw(a:Xa)(s:Nat):∀(l:List (Nat×U)),(l.all λp=>decide (p.1<a.tmps.size))=Z->aS (fill a l) s=(l.lookup s).getD (aS a s)
 | [],_=>rfl
 |(c,v)::l,e=>by
  simp only[List.all_cons,Vr,decide_eq_true_eq] at e;show aS ((fill a l).put (I c) v) s=_;rw[Fx (by rw[kF];exact e.1),mw a s l e.2,List.lookup_cons];by_cases d:c=s
  ·subst d;simp
  ·have:(s==c)=U5:=by simpa using λf=>d f.symm
   rw[this,if_neg d]
def je (ops:Array Ww)(i:Nat):Option Nat:=(ops[i]?).bind (·.dst)
def gF (ops:Array Ww)(Ph:Nat->Bool)(u n:Nat)(ds:List Nat):Bool:=
 px ops Ph&&Qk ops Ph u&&ds.all (λc=>decide (c<n)&&(VS ops.size).any λa=>Ph a&&je ops a==I c)&&(VS ops.size).all λa=> !Ph a||match je ops a with
  |some c=>ds.contains c
  |none=>Z
theorem si{s:Nat}:∀{l:List (Nat×U)},(l.map (·.1)).contains s=Z->∃v,l.lookup s=I v
 | [],a=>by simp at a
 |(c,v)::l,a=>by
  simp only[Yy,List.contains_cons,Yj] at a;rw[List.lookup_cons];cases d:s==c with
  |true=>exact⟨v,rfl⟩
  |false=>
   rw[d] at a;exact si (a.resolve_left (by simp))
theorem gN{s:Nat}{v:U}:∀{l:List (Nat×U)},l.lookup s=I v->s∈l.map (·.1)
 | [],a=>by simp at a
 |(d,e)::l,a=>by
  rw[List.lookup_cons] at a;cases c:s==d with
  |true=>simp at c;simp[c]
  |false=>rw[c] at a;simp[gN a]
section
variable {P0 P:Vb}{S:Nat->Prop}{m:Bool}{X0:(Nat->Prop)->Vg->List Vg->F->Prop}{own:Nat->Prop}{cs:List Vg}{w:F}{b:Vg}{a0:Xa}{k:List XR}{ops:Array Ww}{Ph Dn:Nat->Bool}{u n:Nat}{l l0:List (Nat×U)}
def qI(g:gF ops Ph u n (l.map (·.1))=Z)(t:a0.tmps.size=n):px ops Ph=Z/\Qk ops Ph u=Z/\(l.all λp=>decide (p.1<a0.tmps.size))=Z/\(∀i o d,Ph i=Z->ops[i]? =I o->o.dst=I d->∃v,l.lookup d=I v/\d<a0.tmps.size)/\∀s,(∀(j:Nat) o,Ph j=Z->ops[j]? =I o->o.dst≠I s)->aS (fill a0 l) s=aS a0 s:=by
 unfold gF at g;simp only[Vr] at g;obtain⟨⟨⟨y,z⟩,A⟩,B⟩:=g;have e:=Vx.1 A;have r:(l.all λp=>decide (p.1<a0.tmps.size))=Z:=Vx.2 λp q=>by
  have:=e p.1 (Wu.2 ⟨p,q,rfl⟩);simp only[Vr] at this;rw[t];exact this.1
 refine⟨y,z,r,λi o d q a c=>?_,λs C=>?_⟩
 ·have:=Vx.1 B i (WK.2 (U4.1 a).1);rw[q] at this;have h:je ops i=o.dst:=by unfold je;rw[a];rfl
  rw[h,c] at this;simp only[Bool.not_true,Bool.false_or] at this;obtain⟨v,x⟩:=si this;refine⟨v,x,?_⟩;have:=e d (gN x);simp only[Vr,decide_eq_true_eq] at this;rw[t];exact this.1
 ·rw[mw a0 s l r];cases c:l.lookup s with
  |none=>rfl
  |some v=>
   exfalso
   have:=e s (gN c);simp only[Vr] at this;obtain⟨i,D,f⟩:=List.any_eq_true.1 this.2;simp only[Vr,beq_iff_eq,je] at f;obtain⟨o,a,h⟩:=VO.1 f.2;exact C i o f.1 a h
def kO(H:oe P0 P S m X0)(K:b.kind≠.early)(q:Knows a0 n l0)(L:gF ops Ph u n (l.map (·.1))=Z)
 (T:Knows (fill a0 l) n (l++l0)->∀i o,Ph i=Z->Dn i=U5->i≠u->ops[i]? =I o->∃v,(o.dst.bind λd=>l.lookup d)=I v/\((VA o (We ops (fill a0 l).tmps)=Z/\∀h,RelB (λb=>S b\/own b) w h->(Vw (fill a0 l).eval o).run P h= .ok (.value v) h/\∀e∈(Vw (fill a0 l).eval o).events P h #[],EvW S own e)\/(VA o (We ops (fill a0 l).tmps)=U5/\v=V9)))
 (U:∀o,ops[u]? =I o->∀g t c a,cI ops Ph a0 (fill a0 l) c a->u∈VX .any ops c->FW c<=g+1->(∀s∈o.looksAt ops,aS a s=aS (fill a0 l) s)->VA o (We ops a.tmps)=VA o (We ops (fill a0 l).tmps)->X0 own (b.at a (.inRegion ops (u::V5 .any ops g t (c.setIfInBounds u Z) [])::k)) cs w)
 (N:(∀i,i<ops.size->Ph i=Z)->Knows (fill a0 l) n (l++l0)->X0 own (b.at (fill a0 l) (.inRegion ops []::k)) cs w):
 ∀(g t:Nat) (c:Array Bool) (a:Xa),cI ops Ph a0 (fill a0 l) c a->(∀i,Dn i=Z->c.getD i U5=Z)->FW c<=g->X0 own (b.at a (.inRegion ops (V5 .any ops g t c [])::k)) cs w:=by
 obtain⟨j,F,z,G,p⟩:=qI (a0:=a0) L q.size;have A:=q.fill l (by rw[<-q.size];exact z);refine Pr H K (val:=λi=>((je ops i).bind λd=>l.lookup d).getD V9) j F (λi o d x f C=>?_) p (λi o x M O f=>?_) (λg t c a r D R=>?_) (λJ=>N J A)
 ·obtain⟨v,y,Q⟩:=G i o d x f C;have e:je ops i=I d:=by unfold je;rw[f];exact C
  refine⟨by rw[kF];exact Q,?_⟩;rw[mw a0 d l z,e];simp[y]
 ·obtain⟨v,y,E⟩:=T A i o x M O f;have e:je ops i=o.dst:=by unfold je;rw[f];rfl
  rw[e,y];exact E
 ·obtain⟨o,f,_,_,B⟩:=mem_ready D;exact U o f g t c a r D R (r.looks j p f B) (r.exec j p f B).2
def cI.Jc{L4:Nat->Bool}{g:Array Bool}{a:Xa}{o:Ww}{l2:List (Nat×U)}(B:cI ops Ph a0 (fill a0 l) g a)(F:u∈VX .any ops g)(E:ops[u]? =I o)(e:a0.tmps.size=n)(z:gF ops Ph u n (l.map (·.1))=Z)(h:((l2++l).all λp=>decide (p.1<n))=Z)
 (y:∀i,Ph i=Z->L4 i=Z) (G:L4 u=Z) (A:((VS ops.size).all λi=> !Ph i||match je ops i with|some d=> !(l2.map (·.1)).contains d|none=>Z)=Z) {v:U} (H:∀d,o.dst=I d->(l2++l).lookup d=I v):cI ops L4 a0 (fill a0 (l2++l)) (g.setIfInBounds u Z) (a.put o.dst v):=by
 obtain⟨J,L,x,M,N⟩:=qI (a0:=a0) z e;have j:((l2++l).all λp=>decide (p.1<a0.tmps.size))=Z:=by rw[e];exact h
 refine B.UC F E y G (by rw[kF,kF]) (by rw[ep,ep]) (λi O d f r c=>?_) (λd c=>?_)
 ·rw[mw a0 d _ j,mw a0 d l x];have:=Vx.1 A i (WK.2 (U4.1 r).1);have s:je ops i=I d:=by unfold je;rw[r];exact c
  rw[f,s] at this;simp only[Bool.not_true,Bool.false_or,Bool.not_eq_true'] at this;have D:l2.lookup d=K:=by
   cases t:l2.lookup d with
   |none=>rfl
   |some Q=>
    have:=List.contains_iff_mem.2 (gN t);simp_all
  rw[List.lookup_append,D];rfl
 ·have q:=H d c;refine⟨?_,by rw[mw a0 d _ j,q];rfl⟩;rw[kF,e];have:=Vx.1 h;have C:=gN q;obtain⟨p,f,rfl⟩:=Wu.1 C;simpa using this p f
def under(ops:Array Ww):Nat->List Nat->List Nat
 |0,l=>l
 |n+1,l=>l++under ops n (l.flatMap λc=>match ops[c]? with
  |some d=>(d.after.toList.filter λa=>Wn .any a).map (·.on)
  |none=>[])
theorem uq{z:Xa}{o:Array Bool}{a:Xa}(p:cI ops Ph a0 z o a):∀(n:Nat) (l:List Nat),(∀i∈l,o.getD i U5=Z)->∀j∈under ops n l,o.getD j U5=Z
 |0,l,e,j,c=>e j c
 |n+1,l,e,j,c=>by
  rcases VM.1 c with c|c
  ·exact e j c
  ·refine uq p n _ (λi d=>?_) j c;obtain⟨h,r,d⟩:=List.mem_flatMap.1 d;cases g:ops[h]? with
   |none=>rw[g] at d;simp at d
   |some t=>
    rw[g] at d;obtain⟨q,f,rfl⟩:=Wu.1 d;obtain⟨f,s⟩:=List.mem_filter.1 f;exact p.closed h t (e h r) g q (by simpa using f) s
def gG{z:Xa}{f:Array Bool}{a:Xa}(g:cI ops Ph a0 z f a)(y:u∈VX .any ops f){j:Nat}(s:((VS ops.size).all λi=> !Dn i||i==u||(under ops j (match ops[u]? with
 |some o=>(o.after.toList.filter λe=>Wn .any e).map (·.on)
 |none=>[])).contains i)=Z) (p:∀i,Dn i=Z->i<ops.size):∀i,Dn i=Z->(f.setIfInBounds u Z).getD i U5=Z:=by
 intro i h;obtain⟨o,x,v,_,q⟩:=mem_ready y;rw[lu (by rw[g.size];exact v)];have:=Vx.1 s i (WK.2 (p i h));rw[h,x] at this;simp only[Bool.not_true,Bool.false_or,Yj,beq_iff_eq] at this;rcases this with c|c
 ·simp[c]
 ·rw[uq g _ _ (λA t=>by
   obtain⟨e,d,rfl⟩:=Wu.1 t;obtain⟨d,r⟩:=List.mem_filter.1 d;exact q e (by simpa using d) r) i (List.contains_iff_mem.1 c)]
  simp
def q9(e:oe P0 P S m X0){id:Nat}(f:P.follows .mixedOrders=Z)(h:∀(d t:Nat) (c:Array Bool) (a:Xa),cI ops Ph a0 (fill a0 l) c a->(∀i,(λ_=>U5) i=Z->c.getD i U5=Z)->FW c<=d->X0 own (b.at a (.inRegion ops (V5 .any ops d t c [])::k)) cs w):X0 own (b.at a0 (.code (.region id ops Z)::k)) cs w:=
 RN e f λt=>h _ t _ _ (cI.start a0 _ (kF _ _).symm (ep _ _).symm) (λi h=>by cases h) (LO _)
def P4{a:Array Bool}(h:∀i,i<ops.size->a.getD i U5=Z):∀d t,V5 .any ops d t a []=[]:=by
 have o:VX .any ops a=[]:=by
  refine List.eq_nil_iff_forall_not_mem.2 λi g=>?_;obtain⟨p,_,j,e,_⟩:=mem_ready g;have c:=h i j;simp only[Vt] at c e;cases f:a[i]? with
  |none=>rw[f] at c;cases c
  |some b=>rw[f] at c e;simp at c e;rw[c] at e;cases e
 intro d t;cases d with
 |zero=>rfl
 |succ d=>
  simp only[V5];change (match (VX .any ops a)[t%(VX .any ops a).length]? with
   |some i=>V5 .any ops d (t/(VX .any ops a).length) (a.setIfInBounds i Z) [i]
   |none=>[].reverse)=[]
  rw[o];rfl
def oH{c:Array Bool}{a:Xa}(e:cI ops Ph a0 (fill a0 l) c a)(r:u∈VX .any ops c)(s:Ph u=U5)(q:a0.tmps.size=n)(h:gF ops Ph u n (l.map (·.1))=Z)(d:∀i,i<ops.size->(c.setIfInBounds u Z).getD i U5=Z):a=fill a0 l/\∀f t,V5 .any ops f t (c.setIfInBounds u Z) []=[]:=by
 obtain⟨v,x,y,z,g⟩:=qI (a0:=a0) h q;obtain⟨_,_,p,_,_⟩:=mem_ready r;refine⟨e.RG g s λi j o=>?_,P4 d⟩;have:=d i j;rw[lu (by rw[e.size];exact p)] at this;simpa [o] using this
end
def RelB.mono{B B':Nat->Prop}{w w1:F}(h:RelB B w w1)(c:∀b,B' b->B b):RelB B' w w1:=⟨λb d=>h.at_ b (c b d),h.size,h.tape,h.os,h.output⟩
section
variable {P0 P:Vb}{Post:U->F->Prop}{S O:Nat->Prop}{μ:Nat->Option (List U)}{cs:List Vg}{w:F}{b:Vg}{a:Xa}{k:List XR}{ops:Array Ww}{i:Nat}{rest:List Nat}{o:Ww}
def ku.rely{w1:F}{g:VL}(h:ku P0 P Post S O μ g w)(c:RelB (λb=>S b\/O b) w w1):ku P0 P Post S O μ g w1:=by
 obtain⟨d,h⟩:=h;exact⟨d,h.j3 c⟩
def BR(v:U)(c:ops[i]? =I o):Xr (Vd (b.at a (.inRegion ops (i::rest)::k)) cs) v=Vd (b.at (a.put o.dst v) (.inRegion ops rest::k)) cs:=by
 simp only[Xr,Vd,YK,c];rfl
def BY{m:Bool}{t e:Vc}{j:ChanDir}{x:V4}{c:Nat}{z:U}(l:b.kind≠.early)(p:ops[i]? =I o)(r:VA o (We ops a.tmps)=Z)(d:o.op= .recv t x Z)(f:P.underlying t=I (.chan j e))(h:∀w,(Xl e).run P w= .ok z w)(s:∀w,(Xl e).events P w #[]=#[])(g:a.eval x= .chan (I c))(w:F):
 VN P m (Vd (b.at a (.inRegion ops (i::rest)::k)) cs) w= .comm (Vd (b.at a (.inRegion ops (i::rest)::k)) cs) #[rcase c z] Z (.recv Z) w #[]:=by
 have q:(Vw a.eval o).run P w= .ok (.comm #[rcase c z] Z (.recv Z)) w:=by
  unfold Vw;simp[d,g,X5 f,h,rcase]
 have n:(Vw a.eval o).events P w #[]=#[]:=by
  unfold Vw;simp[d,g,X5 f,h,s]
 rw[stepG_comm p r l q];unfold listed;rw[n,seen_none]
def Sf{t e:Vc}{f:ChanDir}{x:V4}{c:Nat}{z v:U}{l:List U}(g:b.kind≠.early)(d:ops[i]? =I o)(p:VA o (We ops a.tmps)=Z)(j:o.op= .recv t x Z)(n:P.underlying t=I (.chan f e))(r:∀w,(Xl e).run P w= .ok z w)(s:∀w,(Xl e).events P w #[]=#[])(q:a.eval x= .chan (I c))(u:μ c=I (v::l))
 (h:ku P0 P Post S O (fV μ c (I l)) (Vd (b.at (a.put o.dst (recvd Z v Z)) (.inRegion ops rest::k)) cs) w):ku P0 P Post S O μ (Vd (b.at a (.inRegion ops (i::rest)::k)) cs) w:=
 Nv (g2:=Vd (b.at a (.inRegion ops (i::rest)::k)) cs) (z:=z) u ⟨rfl,rfl,rfl⟩ λw1 m=>⟨BY g d p j n r s q w1,by rw[BR _ d];exact h.rely m⟩
def Sg{t e:Vc}{f:ChanDir}{x:V4}{c:Nat}{z:U}(g:b.kind≠.early)(d:ops[i]? =I o)(n:VA o (We ops a.tmps)=Z)(j:o.op= .recv t x Z)(m:P.underlying t=I (.chan f e))(q:∀w,(Xl e).run P w= .ok z w)(r:∀w,(Xl e).events P w #[]=#[])(p:a.eval x= .chan (I c))(s:μ c=I [])
 (h:ku P0 P Post S O (fV μ c K) (Vd (b.at (a.put o.dst (recvd Z z U5)) (.inRegion ops rest::k)) cs) w):ku P0 P Post S O μ (Vd (b.at a (.inRegion ops (i::rest)::k)) cs) w:=
 Nw (g2:=Vd (b.at a (.inRegion ops (i::rest)::k)) cs) (z:=z) s ⟨rfl,rfl,rfl⟩ λw1 l=>⟨BY g d n j m q r p w1,by rw[BR _ d];exact h.rely l⟩
def P6{f:Xb}{d:Array V4}{ats:Array Vc}{args:Array U}{c cap:Nat}{vs:List U}(q:b.kind≠.early)(u:ops[i]? =I o)(x:VA o (We ops a.tmps)=Z)(g:o.op= .go {callee:=.value (.func f),args:=d,argTypes:=ats})(n:d.map a.eval=args)(l:O c)(t:vs.length<=cap)(y:μ c=K)(hc:w.heap[c]? =I (.chan cap #[] U5 0 0 U5))
 (m:∀w1,RelB (λb=>S b\/O b) w w1->qm P0 P S c (λ_=>False) vs (born P (dcall f args)) w1)
 (s:ku P0 P Post S (λb=>O b/\b≠c) (fV μ c (I vs)) (Vd (b.at (a.put o.dst V9) (.inRegion ops rest::k)) cs) w):ku P0 P Post S O μ (Vd (b.at a (.inRegion ops (i::rest)::k)) cs) w:=by
 have e:a.eval (.func f)= .func (.func f) #[] #[]:=rfl;refine KJ l t y hc λw1 j=>⟨_,_,?_,rfl,m w1 j,s.rely (j.mono λb p=>p.imp (λh=>h) (λh=>h.1))⟩;have v:(Vw a.eval o).run P w1= .ok (.spawn (dcall f args)) w1:=by
  unfold Vw;simp[g,Y6,YQ,e,dcall,n]
 have r:(Vw a.eval o).events P w1 #[]=#[]:=by
  unfold Vw;simp[g,Y6,YQ,e]
 rw[stepG_spawn u x q v Y];unfold listed;rw[r,seen_none]
end
section
variable {P0 P:Vb}{S own:Nat->Prop}{a:Xa}{o:Ww}{w w1:F}
def KP{t e:Vc}{i:XX}{z:U}{x y:V4}{g L C:Nat}{f:Array U}{d:VI}{c:Nat}{news:List U}(B:o.op= .call {callee:=.builtin .append,args:= #[x,y],argTypes:= #[t,t]})(H:a.eval x= .slice (I ⟨g,0,K⟩) L C)(J:a.eval y= .slice (I d) 1 c)
 (G:P.underlying t=I (.slice e)) (v:P.info? e=I i) (am:i.zero=I z) (W:w.heap[g]? =I (.cells f e (0,0))) (X:S g\/own g) (r:S d.block\/own d.block) (p:news.length=i.size) (ad:∀j u,news[j]? =I u->w.cell? (d.add j)=I u) (Q:∀j,(d.add j).block=d.block) (h1:∀u∈news,u.oneCell'=Z)
 (E:L+1<=C) (F:f.size=C*i.size) (ao:C<=1000000) (R:i.bytes<=1000):
 ∀w1,RelB (λb=>S b\/own b) w w1->∃w',(Vw a.eval o).run P w1= .ok (.value (.slice (I ⟨g,0,K⟩) (L+1) C)) w'/\xV g (.cells (f.toList.take (L*i.size)++news++f.toList.drop (L*i.size+news.length)).toArray e (0,0)) w1 w'/\∀l∈(Vw a.eval o).events P w1 #[],jq g S own l:=by
 intro w1 D;have n:w1.heap[g]? =I (.cells f e (0,0)):=(D.at_ g X).trans W;have A:∀j u,news[j]? =I u->w1.cell? (d.add j)=I u:=λj u aa=>(oC D (by rw[Q];exact r)).trans (ad j u aa);have V:L*i.size+news.length<=f.size:=by
  rw[F,p];have:=Nat.mul_le_mul_right i.size E;rw[Nat.add_mul,Nat.one_mul] at this;exact this
 have al:=run_append_room (P:=P) (w:=w1) t o.type e i G v g L C f n d 1 c news (by rw[p,Nat.one_mul]) A h1 E V;have ar:1000000<=Vp:=by decide
 have ae:w1.ownsRow 0 e i.size (.slice (I ⟨g,0,K⟩) L C) L (f.toList.take (L*i.size)):=by
  refine⟨?_,.inr ⟨g,C,f,rfl,VB _,n,by omega,?_,F,rfl⟩⟩
  ·rw[WB,WW];omega
  ·omega
 have T:=events_append_where (P:=P) w1 0 t o.type e i z i.size i.bytes G v am Y Y (.slice (I ⟨g,0,K⟩) L C) L _ ae d 1 c news (by rw[p,Nat.one_mul]) A h1 (by omega) (by
  have:(L+1)*i.bytes<=1000000*1000:=Nat.mul_le_mul (by omega) R;omega)
 refine⟨_,?_,wD n,λl s=>?_⟩
 ·unfold Vw;simp[B,H,J,Y6,invoke,builtin,al]
 ·rw[events_append_op x y t B H J] at s;rcases T l s with⟨q,h1,h⟩|⟨m,rfl,ab⟩
  ·rcases h with⟨h,N⟩|h
   ·refine .inr ⟨q,h1,?_⟩;rw[N];exact .inr (r.elim (λM=>.inr ⟨M,h⟩) .inl)
   ·refine .inr ⟨q,h1,.inl ?_⟩;simpa [Wz] using h
  ·exact .inl ⟨m,rfl,ab⟩
def KQ{t e:Vc}{i:XX}{h j l v0 v1 v2:U}{x:V4}(p:o.op= .buildSlice t 1 #[(0,x)])(s:a.eval x= .agg #[v0,v1,v2])(r:P.underlying t=I (.slice e))(n:P.info? e=I i)(u:i.zero=I (.agg #[h,j,l]))(c:i.size=3):
 ∀w1,RelB (λb=>S b\/own b) w w1->∃w',(Vw a.eval o).run P w1= .ok (.value (.slice (I ⟨w1.heap.size,0,K⟩) 1 1)) w'/\w'.heap=w1.heap.push (.cells #[v0,v1,v2] e)/\w'.tape=w1.tape/\w'.os=w1.os/\w'.output=w1.output/\∀m∈(Vw a.eval o).events P w1 #[],jq w1.heap.size S own m:=by
 intro w1 A;have g:YL (λd=>I (d*i.size,i.size)) ((Y3 (1*i.size)).map ((Value.agg #[h,j,l]).cells[· % (Value.agg #[h,j,l]).cells.size]!)) #[(0,Value.agg #[v0,v1,v2])].toList=I #[v0,v1,v2]:=by
  rw[c];simp[YL,WV,Y3,Array.zipIdx];apply Array.ext
  ·simp
  ·intro d z v;simp at v;have:d=0\/d=1\/d=2:=by omega
   rcases this with rfl|rfl|rfl<;>simp
 have q:=run_buildSlice (P:=P) w1 t e 1 #[(0,.agg #[v0,v1,v2])] #[v0,v1,v2] i _ r n u (by rw[c];decide) (by rw[c];decide) g;refine⟨w1.alloc (.cells #[v0,v1,v2] e),?_,rfl,rfl,rfl,rfl,λm f=>?_⟩
 ·unfold Vw;simp[p,s,q]
 ·have y:(X9 t 1 #[(0,.agg #[v0,v1,v2])]).events P w1 #[]=#[]:=by
   simp only[List.toArray,Nat.one_mul,c] at g;simp[X9,X5 r,Zg,Yc,Xl,n,u,c,g,newRow]
  unfold Vw at f;simp only[p] at f;simp[s,q,y] at f
end
def put_defers(a:Xa)(d:Option Nat)(v:U):(a.put d v).defers=a.defers:=by
 unfold WH
 split<;>rfl
def Knows.nil{a:Xa}{n:Nat}{l:List (Nat×U)}(h:Knows a n l):Knows a n []:=⟨h.size,λs v c=>by simp at c⟩
def Knows.defer{a:Xa}{n:Nat}{l:List (Nat×U)}(h:Knows a n l)(ds:List Xs)(v:U):Knows (WH ⟨a.tmps,ds⟩ K v) n l:=⟨h.size,h.slot⟩
def Knows.cons{a:Xa}{n:Nat}{l:List (Nat×U)}(h:Knows a n l){s:Nat}{v:U}(f:aS a s=v):Knows a n ((s,v)::l):=⟨h.size,λe g c=>by
 rw[List.lookup_cons] at c;cases d:e==s with
 |true=>
  rw[d] at c;cases c;rw[beq_iff_eq] at d;rw[d];exact f
 |false=>rw[d] at c;exact h.slot e g c⟩
def Knows.four{a:Xa}{n:Nat}{l:List (Nat×U)}(h:Knows a n l){c d e f:Nat}{v1 v2 g j:U}(h1:l.lookup c=I v1)(p:l.lookup d=I v2)(q:l.lookup e=I g)(r:l.lookup f=I j):Knows a n [(c,v1),(d,v2),(e,g),(f,j)]:=(((h.nil.cons (h.slot f _ r)).cons (h.slot e _ q)).cons (h.slot d _ p)).cons (h.slot c _ h1)
section
variable {P0 P:Vb}{S:Nat->Prop}{m:Bool}{X0:(Nat->Prop)->Vg->List Vg->F->Prop}{own:Nat->Prop}{cs:List Vg}{w:F}{b:Vg}{a:Xa}{k:List XR}{ops:Array Ww}
def bg(c:oe P0 P S m X0){id:Nat}(l:List Nat)(e:VS ops.size=l)(d:X0 own (b.at a (.inRegion ops l::k)) cs w):X0 own (b.at a (.code (.region id ops U5)::k)) cs w:=MA c (by rw[e];exact d)
variable {i:Nat}{rest:List Nat}{o:Ww}
def qd(g:oe P0 P S m X0){n:Nat}{l:List (Nat×U)}(f:Knows a n l)(s:ops[i]? =I o)(v:U)(h:∀c,RelB (λb=>S b\/own b) w c->(Vw a.eval o).run P c= .ok (.value v) c/\∀e∈(Vw a.eval o).events P c #[],EvW S own e){d:Nat}
 (q:Knows (a.put (I d) v) n ((d,v)::l)->X0 own (b.at (a.put (I d) v) (.inRegion ops rest::k)) cs w) (p:o.dst=I d:=by rfl) (r:d<n:=by decide) (j:b.kind≠.early:=by decide) (t:VA o (We ops a.tmps)=Z:=by rfl):X0 own (b.at a (.inRegion ops (i::rest)::k)) cs w:=
 oZ g j s t v h (by rw[p];exact q (f.put r v))
def dw(f:oe P0 P S m X0){n:Nat}{l:List (Nat×U)}(e:Knows a n l)(r:ops[i]? =I o)(v:U)(h:∀c,(Vw a.eval o).run P c= .ok (.value v) c/\(Vw a.eval o).events P c #[]=#[]){d:Nat}
 (p:Knows (a.put (I d) v) n ((d,v)::l)->X0 own (b.at (a.put (I d) v) (.inRegion ops rest::k)) cs w) (j:o.dst=I d:=by rfl) (q:d<n:=by decide) (g:b.kind≠.early:=by decide) (s:VA o (We ops a.tmps)=Z:=by rfl):X0 own (b.at a (.inRegion ops (i::rest)::k)) cs w:=
 mP f g r s v h (by rw[j];exact p (e.put q v))
def bX(e:oe P0 P S m X0){n:Nat}{l:List (Nat×U)}(c:Knows a n l){d s:Nat}{v:U}(h:Knows (a.put (I d) v) n ((d,v)::l)->X0 own (b.at (a.put (I d) v) (.inRegion ops rest::k)) cs w)(q:ops[i]? =I o:=by rfl)(r:o.op= .move (.tmp s):=by rfl)(j:l.lookup s=I v:=by rfl)(g:o.dst=I d:=by rfl)(p:d<n:=by decide)(f:b.kind≠.early:=by decide)(t:VA o (We ops a.tmps)=Z:=by rfl):X0 own (b.at a (.inRegion ops (i::rest)::k)) cs w:=
 dw e c q v (bZ r (c.of j)) h g p f t
def gw(e:oe P0 P S m X0){n:Nat}{l:List (Nat×U)}(c:Knows a n l){d s:Nat}{v:U}(h:Knows (a.put (I d) v) n ((d,v)::l)->X0 own (b.at (a.put (I d) v) (.inRegion ops rest::k)) cs w)(q:ops[i]? =I o:=by rfl)(r:o.op= .assign (.tmp s):=by rfl)(j:l.lookup s=I v:=by rfl)(g:o.dst=I d:=by rfl)(p:d<n:=by decide)(f:b.kind≠.early:=by decide)(t:VA o (We ops a.tmps)=Z:=by rfl):X0 own (b.at a (.inRegion ops (i::rest)::k)) cs w:=
 dw e c q v (kH r (c.of j)) h g p f t
def oz(e:oe P0 P S m X0){n:Nat}{l:List (Nat×U)}(c:Knows a n l){d:Nat}(v:U)(h:Knows (a.put (I d) v) n ((d,v)::l)->X0 own (b.at (a.put (I d) v) (.inRegion ops rest::k)) cs w)(p:ops[i]? =I o:=by rfl)(q:o.op= .assign (.const v):=by rfl)(g:o.dst=I d:=by rfl)(j:d<n:=by decide)(f:b.kind≠.early:=by decide)(r:VA o (We ops a.tmps)=Z:=by rfl):X0 own (b.at a (.inRegion ops (i::rest)::k)) cs w:=
 dw e c p v (kH q Y) h g j f r
def qu(e:oe P0 P S m X0){n:Nat}{l:List (Nat×U)}(c:Knows a n l){d s j:Nat}{vs:Array U}{v:U}(h:Knows (a.put (I d) v) n ((d,v)::l)->X0 own (b.at (a.put (I d) v) (.inRegion ops rest::k)) cs w)(r:ops[i]? =I o:=by rfl)(t:o.op= .extract (.tmp s) j:=by rfl)(p:l.lookup s=I (.tuple vs):=by rfl)(u:vs[j]? =I v:=by rfl)(g:o.dst=I d:=by rfl)(q:d<n:=by decide)(f:b.kind≠.early:=by decide)(x:VA o (We ops a.tmps)=Z:=by rfl):X0 own (b.at a (.inRegion ops (i::rest)::k)) cs w:=
 dw e c r v (kI t (c.of p) u) h g q f x
end
section
variable {P:Vb}{a:Xa}{o:Ww}
def de{t:Vc}{x:V4}{f e off off':Nat}{g:Array Field}{c:Field}{n:Nat}(l:o.op= .fieldAddr t x f)(r:a.eval x= .pointer (I ⟨e,off,K⟩))(q:P.underlying t=I (.struct g))(h:g[f]? =I c)(p:∀w,(Zg c.type).run P w= .ok (n+1) w)(j:off+c.offset=off'):
 ∀d,(Vw a.eval o).run P d= .ok (.value (.pointer (I ⟨e,off',K⟩))) d/\(Vw a.eval o).events P d #[]=#[]:=by
 subst j;exact ND l r q h p
def yZ{x y z:V4}{v:U}(d:o.op= .pick x y z)(f:a.eval x= .bool Z)(e:a.eval y=v):∀c,(Vw a.eval o).run P c= .ok (.value v) c/\(Vw a.eval o).events P c #[]=#[]:=by
 subst e;exact Jo d f
def yY{x y z:V4}{v:U}(d:o.op= .pick x y z)(f:a.eval x= .bool U5)(e:a.eval z=v):∀c,(Vw a.eval o).run P c= .ok (.value v) c/\(Vw a.eval o).events P c #[]=#[]:=by
 subst e;exact Jo d f
def jn{t h:Vc}{x y:V4}{i j:Int}{c:Bool}(e:o.op= .binOp .lss t x y h)(f:a.eval x= .int .i64 i)(g:a.eval y= .int .i64 j)(hc:decide (i<j)=c):∀d,(Vw a.eval o).run P d= .ok (.value (.bool c)) d/\(Vw a.eval o).events P d #[]=#[]:=by
 subst hc;exact Sp e f g
def rB{t h:Vc}{x y:V4}{i j:Int}{c:Bool}(e:o.op= .binOp .neq t x y h)(f:a.eval x= .int .i64 i)(g:a.eval y= .int .i64 j)(hc:(i !=j)=c):∀d,(Vw a.eval o).run P d= .ok (.value (.bool c)) d/\(Vw a.eval o).events P d #[]=#[]:=by
 subst hc;exact Sq e f g
end
structure Mf(S O O':Nat->Prop)(w w':F):Prop where
 sub:∀b,O b->O' b
 new:∀b,O' b->O b\/w.heap.size<=b
 rel:RelB (λb=>S b\/O b) w w'
 inr:uw S O' w'
def iM{P:Vb}{fn:XJ}{a:Xa}{t:Nat}{v:U}(d:fn.results=#[.tmp t])(c:aS a t=v):(∀w,(V0 fn a.tmps).run P w= .ok v w)/\∀w,(V0 fn a.tmps).events P w #[]=#[]:=by
 unfold aS at c;rw[Vt] at c;constructor<;>intro w<;>simp[V0,d,c]
def gI{P:Vb}{fn:XJ}{a:Xa}{t u:Nat}{v x:U}(e:fn.results=#[.tmp t,.tmp u])(c:aS a t=v)(d:aS a u=x):(∀w,(V0 fn a.tmps).run P w= .ok (.tuple #[v,x]) w)/\∀w,(V0 fn a.tmps).events P w #[]=#[]:=by
 unfold aS at c d;rw[Vt] at c d;constructor<;>intro w<;>simp[V0,e,c,d]
section
variable {P0 P:Vb}{Post:U->F->Prop}
def mz(h:Twins P0 P){fr fr':Vg}{aB tops' cs:List Vg}{w w':F}(ok:eH P0 fr aB)(A:w'.tape=w.tape)(s:∀ws,Mk P0 ws w->∃d,sL ws w d w'/\∀c,Steps P0 (lone fr (aB++[bn]) (sh c 0 ws)) (lone fr' (tops'++[bn]) (sh c 0 d)))(E:¬JQ fr')
 (C:eH P0 fr' tops'->Sm w w'->ux P0 P Post (Vd fr' (tops'++cs)) w'):ux P0 P Post (Vd fr (aB++cs)) w:=by
 obtain⟨ws,t⟩:=Bw P0 w;obtain⟨d,q,s⟩:=s ws t;refine qH h (Stop:=λf x e=>f=fr'/\x=tops'/\∃c g,e=sh c g d) (λf x e u=>?_) ok t.hp t.un (λc=>⟨fr',tops',_,s c,rfl,rfl,c,0,rfl⟩) (λf x e u2 u G r j=>?_)
 ·obtain⟨rfl,_⟩:=u;exact E
 ·obtain⟨c,g,rfl,rfl,y,l,v⟩:=u;have B:e.heap=d.heap:=show(sh c g e).heap=(sh y l d).heap by rw[v]
  have m:=QN r q B;have n:u2.os=w'.os:=by
   rw[r.un.os,q.un.os];exact show(sh c g e).os=(sh y l d).os by rw[v]
  have p:u2.output=w'.output:=by
   rw[r.un.output,q.un.output];exact show(sh c g e).output=(sh y l d).output by rw[v]
  have D:AtRel w' u2:=by
   refine⟨u2.drawn,?_⟩;have z:=j.tape.trans A.symm;obtain⟨H,I,J,K,L⟩:=u2;simp only at m n p z;subst m n p z;rfl
  exact Sl (C G ⟨A,n▸j.os,p▸j.output,m▸j.size⟩) D
def Gm (P0 P:Vb)(Post:U->F->Prop)(l:Nat)(args:Array U)(w:F)(R:U->F->Prop):Prop:=
 ∃c:Loop,w.heap[l]? =I (.loop c)/\bf P0 (.loop c)/\args.size=c.params.size/\∀(d:Vg) (cs:List Vg),eH P0 d []->I0 d->xR P0 w->
  (∀v e,R v e->xR P0 e->Sm w e->eH P0 (d.finish v) []->ux P0 P Post (Vd (d.finish v) cs) e)->
  eH P0 (Xt l c.fn ((c.params.zip args).foldl (λg (f,a)=>g.setIfInBounds f a) c.tmps) c.assign c.body .normal) [d]->ux P0 P Post (Vd (Xt l c.fn ((c.params.zip args).foldl (λg (f,a)=>g.setIfInBounds f a) c.tmps) c.assign c.body .normal) (d::cs)) w
section
variable {b:Vg}{a:Xa}{k:List XR}{cs:List Vg}{w:F}{ops:Array Ww}{i:Nat}{rest:List Nat}{o:Ww}
def NC(h:Twins P0 P){x:V4}{f:Array V4}{ats:Array Vc}{l:Nat}{R:U->F->Prop}(n:ops[i]? =I o)(L:VA o (We ops a.tmps)=Z)(A:o.op= .call {callee:=.value x,args:=f,argTypes:=ats})(M:a.eval x= .func (.yield l) #[] #[])
 (hR:Gm P0 P Post l (f.map a.eval) w R) (u:∀v w',R v w'->Sm w w'->DK P0 P Post (b.at (a.put o.dst v) (.inRegion ops rest::k)) cs w'):DK P0 P Post (b.at a (.inRegion ops (i::rest)::k)) cs w:=by
 intro q O;obtain⟨c,C,D,H,y⟩:=hR;have E:∀d,Mk P0 d w->∀e,(Vw a.eval o).run P0 (sh e 0 d)= .ok (.round l c.fn ((c.params.zip (f.map a.eval)).foldl (λtmps (j,a)=>tmps.setIfInBounds j a) c.tmps) c.assign c.body) (sh e 0 d):=λd g e=>by
  have r:(sh e 0 d).heap[l]? =I (.loop c):=g.at_ l _ C D;have t:=run_yield (P:=P0) (args:=f.map a.eval) r H;unfold Vw;simp[A,Y6,YQ,M,invoke,t]
 refine mz (aB:=[]) (tops':=[b.at a (.inRegion ops (i::rest)::k)]) (fr':=Xt l c.fn ((c.params.zip (f.map a.eval)).foldl (λtmps (j,a)=>tmps.setIfInBounds j a) c.tmps) c.assign c.body .normal) (w':=w) h q Y (λd g=>⟨d,g.un.two,λe=>.one (step_lone_go ?_)⟩) (λz=>?_) λN Q=>?_
 ·rw[stepG_op n L];simp[WO,E d g e]
 ·obtain⟨_,s,J⟩:=z;simp[Xt] at J
 ·refine y _ cs q ⟨rfl,.inl ⟨ops,i,rest,k,rfl⟩⟩ trivial (λv w' K B G p=>?_) N;have m:=YK b a ops i rest k v;rw[n] at m;rw[m] at p ⊢;exact u v w' K G p B
end
section
variable {b:Vg}{k:List XR}{cs:List Vg}{ops:Array Ww}
def Qe{o:Ww}{i:Nat}{rest:List Nat}{a:Xa}{w:F}{next:Xa->F->Prop}{Q:Exit->Xa->F->Prop}(n:ops[i]? =I o)(z:VA o (We ops a.tmps)=Z)(x:∀c,o.op≠.defer c)(r:∀ch a w,¬Q (.panic ch) a w)(y:¬LetsOut Q)(h:o.wp P0 a w next Q):
 ∃a' w',next a' w'/\Steps P0 (lone (b.atR a (.inRegion ops (i::rest)::k)) cs w) (lone (b.atR a' (.inRegion ops rest::k)) cs w'):=by
 have e:=stepGR_op (P:=P0) (b:=b) (k:=k) (cs:=cs) (w:=w) (rest:=rest) n z;rw[Oper.semAt_eq _ _ _ x] at e;have j:∀v,(b.atR a (.inRegion ops (i::rest)::k)).finish v=b.atR (a.put o.dst v) (.inRegion ops rest::k):=by
  intro v;rw[Frame.finish_atR,n];rfl
 simp only[Oper.wp,Oper.upon] at h
 split at h
 ·rename_i v w' d;refine⟨_,_,h,.one (step_lone_go ?_)⟩;rw[e,<-j];simp[WO,d]
 ·rename_i w' d;refine⟨_,_,h,.one (step_lone_go ?_)⟩;rw[e,<-j];simp[WO,d]
 ·rename_i l w' d;refine⟨_,_,h,.one (step_lone_go ?_)⟩;have t:({b.atR a (.inRegion ops (i::rest)::k) with defers:=l::a.defers}:Vg).finish V9=b.atR ({a with defers:=l::a.defers}.put o.dst V9) (.inRegion ops rest::k):=by
   have:=Frame.finish_atR b {a with defers:=l::a.defers} ops i rest k V9;rw[n] at this;exact this
  rw[e];simp only[WO,Zd,d,GStep.bare_after];exact congrArg (λq=>GStep.go {frame:=q,callers:=cs,status:=.running,dying:=K} w') t
 ·rename_i f args w' d;obtain⟨s,B,q,g,p,_,u⟩:=h (b.atR a (.inRegion ops (i::rest)::k)::cs);have m:step P0 (lone (b.atR a (.inRegion ops (i::rest)::k)) cs w)= .next (lone (VU P0 f args .normal) (b.atR a (.inRegion ops (i::rest)::k)::cs) w'):=
   step_lone_go (by rw[e];simp[WO,d,Frame.atR])
  cases s with
  |returned v=>
   refine⟨_,_,g,.head m (p.trans (.one ?_))⟩;rw[<-j];exact step_leave_returned u
  |panicked C=>exact absurd g (r _ _ _)
  |outgrown=>exact absurd g y
 ·rename_i A args w' d;obtain⟨v,B,g,p⟩:=h (b.atR a (.inRegion ops (i::rest)::k)) cs;have m:step P0 (lone (b.atR a (.inRegion ops (i::rest)::k)) cs w)= .next (lone (Frame.ofRow P0 A args .normal) (b.atR a (.inRegion ops (i::rest)::k)::cs) w'):=
   step_lone_go (by rw[e];simp[WO,d,Frame.atR])
  refine⟨_,_,g,.head m ?_⟩;rw[<-j];exact p
 ·exact absurd h (r _ _ _)
 ·exact h.elim
def rm:Op->Bool
 | .defer _=>Z
 |_=>U5
def NE{Q:Exit->Xa->F->Prop}(rest:List Nat)(v:(ops.toList.all λo=> !rm o.op)=Z)(x:∀ch a w,¬Q (.panic ch) a w)(n:¬LetsOut Q):∀(l:List Nat) (a:Xa) (w:F),wpOps P0 ops Q l a w->
 ∃a' w',Q .normal a' w'/\Steps P0 (lone (b.atR a (.inRegion ops (l++rest)::k)) cs w) (lone (b.atR a' (.inRegion ops rest::k)) cs w'):=by
 intro l
 induction l with
 |nil=>exact λa w c=>⟨a,w,c,.refl _ _⟩
 |cons i l j=>
  intro a w c;simp only[wpOps] at c;cases d:ops[i]? with
  |none=>
   simp only[d] at c;have g:=stepR_op_skip (P:=P0) (b:=b) (a:=a) (k:=k) (cs:=cs) (w:=w) (ops:=ops) (i:=i) (rest:=l++rest) (by simp[d]);simp only[d,Option.bind_none,WH] at g;obtain⟨a',w',e,f⟩:=j a w c;exact⟨a',w',e,.head g f⟩
  |some o=>
   simp only[d] at c;have t:∀m,o.op≠.defer m:=λm q=>by
    obtain⟨u,rfl⟩:=U4.1 d;have:=Vx.1 v _ (Array.getElem_mem_toList u);rw[q] at this;cases this
   by_cases h:VA o (We ops a.tmps)=Z
   ·simp only[h,if_true] at c;rcases c with c|⟨_,c⟩
    ·obtain⟨a',w',e,f⟩:=Qe (b:=b) (k:=k) (cs:=cs) (rest:=l++rest) d h t x n c;obtain⟨p,y,r,s⟩:=j a' w' e;exact⟨p,y,r,f.trans s⟩
    ·exact absurd c n
   ·simp only[h,if_false,Vv] at c;have g:=stepR_op_skip (P:=P0) (b:=b) (a:=a) (k:=k) (cs:=cs) (w:=w) (ops:=ops) (i:=i) (rest:=l++rest) (by simp[d];simpa using h);simp only[d,YT] at g;obtain⟨a',w',e,f⟩:=j _ w c;exact⟨a',w',e,.head g f⟩
end
end
section
variable {P0 P:Vb}{Post:U->F->Prop}{b:Vg}{a:Xa}{k:List XR}{cs:List Vg}{w:F}
def qN (fn:Xb)(tmps:Array U)(ps:Array Tmp)(assign body:XQ)(D:Nat):Loop:={state:=.ready,pending:=K,fn,tmps,params:=ps,assign,body,defers:=D}
def ES(h:Twins P0 P){g:V4}{ps:Array Tmp}{assign body:XQ}{gf:Xb}{cap:Array U}{R:X6->F->Prop}(u:a.eval g= .func (.func gf) #[] cap)(hc:∀args w,(callFunc gf args).run P0 w= .ok (.enter gf args) w)(r:P.funcs[gf]? =P0.funcs[gf]? \/VU P gf (#[.func (.yield (w.heap.size+1)) #[] #[]]++cap) .normal=VU P0 gf (#[.func (.yield (w.heap.size+1)) #[] #[]]++cap) .normal)
 (hR:kq P0 P Post gf (#[.func (.yield (w.heap.size+1)) #[] #[]]++cap) ((w.alloc (.deferred (I []))).alloc (.loop (qN b.fn a.tmps ps assign body w.heap.size))) R)
 (n:∀v w',R (.returned v) w'->Sm w w'->DK P0 P Post (b.at {a with defers:={target:=.collected w.heap.size,args:= #[]}::a.defers} (.endRangeFunc (w.heap.size+1)::k)) cs w') (x:∀ch w',¬R (.panicked ch) w') (y:∀w',¬R .outgrown w') (z:∀s,(VU P0 gf (#[.func (.yield (w.heap.size+1)) #[] #[]]++cap) .normal).todo≠[.code (.refuse s)]):DK P0 P Post (b.at a (.code (.rangeFunc g ps assign body)::k)) cs w:=by
 intro ok J;have t:VU P gf (#[.func (.yield (w.heap.size+1)) #[] #[]]++cap) .normal=VU P0 gf (#[.func (.yield (w.heap.size+1)) #[] #[]]++cap) .normal:=by
  rcases r with d|d
  ·unfold VU;rw[d]
  ·exact d
 let j:Vg:={b with roundOf:=K};have H:∀a todo,j.atR a todo=b.at a todo:=λa todo=>rfl;refine mz (aB:=[]) (tops':=[b.at {a with defers:={target:=.collected w.heap.size,args:= #[]}::a.defers} (.inRangeFunc (w.heap.size+1)::k)]) (fr':=VU P0 gf (#[.func (.yield (w.heap.size+1)) #[] #[]]++cap) .normal) (w':=(w.alloc (.deferred (I []))).alloc (.loop (qN b.fn a.tmps ps assign body w.heap.size))) h ok Y (λc i=>⟨(c.alloc (.deferred (I []))).alloc (.loop (qN b.fn a.tmps ps assign body w.heap.size)),?_,λm=>.one ?_⟩) (λp=>?_) λl D=>?_
 ·exact(i.un.push (by simp[pz])).trans ((i.un.push (by simp[pz])).un.push (by simp[pz]))
 ·rw[<-i.un.size.symm];have e:=run_enterLoop_outer (P:=P0) (w:=sh m 0 c) b.fn a.tmps ps assign body;have C:=stepR_rangeFunc (P:=P0) (b:=j) (a:=a) (k:=k) (cs:=[bn]) (w:=sh m 0 c) (g:=g) (ps:=ps) (assign:=assign) (body:=body) (w₁':=_) (d:={target:=.fn (.func gf) cap,args:= #[.func (.yield (c.heap.size+1)) #[] #[]]}) (f:=gf) (args:= #[.func (.yield (c.heap.size+1)) #[] #[]]++cap) e (by
   have d:a.eval (.const (.func (.yield (c.heap.size+1)) #[] #[]))= .func (.yield (c.heap.size+1)) #[] #[]:=rfl;simp[Y6,rangeCall,u,YQ,sh];exact⟨rfl,rfl⟩) (by simp only[invoke];exact hc _ _)
  exact C
 ·obtain⟨_,s,G⟩:=p;exact z s G
 ·have o:eH P0 (b.at {a with defers:={target:=.collected w.heap.size,args:= #[]}::a.defers} (.inRangeFunc (w.heap.size+1)::k)) []:=⟨l.rest _ (by simp),λf q=>by simp at q,l.bot⟩;show ux P0 P Post (Vd (VU P0 gf _ .normal) _) _;rw[<-t];refine hR _ cs o ⟨rfl,.inr ⟨_,_,rfl⟩⟩ trivial λd w' e B E A=>?_;cases d with
  |returned v=>exact n v w' e (D.trans E) A B
  |panicked ch=>exact absurd e (x _ _)
  |outgrown=>exact absurd e (y _)
def ER(h:Twins P0 P){l:Nat}{r:Loop}(m:w.heap[l]? =I (.loop r))(o:bf P0 (.loop r))(p:r.state≠.busy)(d:r.pending=K)(n:∀s,k≠[.code (.refuse s)])(g:DK P0 P Post (b.at a k) cs (w.putObj l (.loop {r with state:=.exhausted}))):DK P0 P Post (b.at a (.endRangeFunc l::k)) cs w:=by
 intro t B;let f:Vg:={b with roundOf:=K};refine mz (aB:=[]) (tops':=[]) (fr':=b.at a k) (w':=w.putObj l (.loop {r with state:=.exhausted})) h t Y (λe c=>⟨e.putObj l (.loop {r with state:=.exhausted}),c.un.set l (by simp[pz]),λv=>.one ?_⟩) (λi=>?_) λu C=>g u trivial
 ·have j:=run_endLoop (P:=P0) (w:=sh v 0 e) (l:=l) (r:=r) (c.at_ l _ m o) p;have:=stepR_endRangeFunc (P:=P0) (b:=f) (a:=a) (k:=k) (cs:=[bn]) j;obtain⟨F,D,A,G,E,x,y,z⟩:=r;simp only at d;subst d;exact this
 ·obtain⟨_,s,q⟩:=i;exact n s q
def CK(h:Twins P0 P){D:Nat}{todo:List XR}(c:a.defers=[{target:=.collected D,args:= #[]}])(f:w.heap[D]? =I (.deferred (I [])))(g:DK P0 P Post {b.at {a with defers:=[]} todo with mode:=.returning} cs (w.putObj D (.deferred K))):DK P0 P Post {b.at a todo with mode:=.returning} cs w:=by
 intro j o;refine mz (aB:=[]) (tops':=[]) (fr':={b.at {a with defers:=[]} todo with mode:=.returning}) (w':=w.putObj D (.deferred K)) h j Y (λe d=>⟨e.putObj D (.deferred K),d.un.set D (by simp[pz]),λm=>.one (step_lone_go ?_)⟩) (λc=>?_) λl p=>g l trivial
 ·have i:=run_takeDeferred (P:=P0) (w:=sh m 0 e) (b:=D) (ds:=[]) (d.at_ D _ f (λn c=>by cases c));simp[VN,Zh,Frame.at,c,i,Zd,GStep.bare_after];rfl
 ·obtain⟨d,_⟩:=c;cases d
end
end Cc
namespace Cc
open Go Go.Conc
open Go.RowKit (Below)
def Xe (P0 P:Vb)(Post:U->F->Prop)(own:Nat->Prop)(fr:Vg)(cs:List Vg)(w:F):Prop:=
 (∀b,own b->b<w.heap.size)->∀c,RelB own w c->xR P0 c->ux P0 P Post (Vd fr cs) c
def KL:Nat->Prop:=λ_=>False
def SG{own:Nat->Prop}{w c:F}(h:RelB own w c):RelB (λb=>KL b\/own b) w c:=h.mono λb d=>d.elim False.elim (λh=>h)
def G6{own:Nat->Prop}{w c:F}(h:RelB (λb=>KL b\/own b) w c):RelB own w c:=h.mono λb d=>.inr d
def eX(P0 P:Vb)(Post:U->F->Prop):oe P0 P KL Z (Xe P0 P Post):=by
 refine⟨λown y cs w c h p f n=>?_,λown y cs w p c f h u C n=>?_⟩
 ·refine yV λu e=>?_;obtain⟨q,rfl⟩:=e;obtain⟨G,E,g,x,v,d,D⟩:=c (p.at q) (SG (f.trans (RelB.at _ _ _)));have j:∀b,cQ own (p.at q) g b->b<g.heap.size:=λb A=>A.elim (λc=>U9 (h b c) (Vm f.size d.size)) (λc=>c.2);refine⟨_,g,x,v,rfl,⟨d.size,d.tape,d.os,d.output,d.hp,λr B=>?_⟩,D j g (RelB.refl _ _) (d.hp n)⟩;have:=d.evs r B;unfold EvW at this;unfold DJ;cases l:r.loc with
  |cell a=>rw[l] at this;exact this.elim (j _) (λc=>c.1.elim)
  |obj H=>rw[l] at this;exact this.elim (j _) (λc=>c.1.elim)
  |mark m=>rw[l] at this;exact this
  |_=>trivial
 ·have t:=G6 f;refine c (λb s=>?_) u (t.trans C) n;have z:=h b s;have e:=t.at_ b s;rw[VT z] at e;exact(U4.1 e.symm).1
def vX (P:Vb):XR->Bool
 | .code c| .inLoop c=>aX P U5 c
 | .inBlock _| .inRangeFunc _| .endRangeFunc _=>Z
 | .inRegion ops _=>ops.toList.all λo=>mQ P U5 o.op
 |_=>U5
def bL{P:Vb}{b:Vg}{a:Xa}{todo:List XR}(c:b.kind= .normal)(e:a.defers=[])(l:(todo.all (vX P))=Z):eH P (b.at a todo) []:=by
 refine⟨⟨λi j=>?_,λd g=>?_,.inl c⟩,λf h=>by simp at h,c⟩
 ·have:=Vx.1 l i j;cases i<;>first|exact this|trivial|cases this
 ·have:d∈a.defers:=g;rw[e] at this;cases this
section
variable {P0 P:Vb}{Post:U->F->Prop}{own:Nat->Prop}{cs:List Vg}{w:F}{b:Vg}{a:Xa}{k:List XR}{ops:Array Ww}{i:Nat}{rest:List Nat}{o:Ww}
def grown(own:Nat->Prop)(n m:Nat):Nat->Prop:=λb=>own b\/(n<=b/\b<m)
def oa{f:Xb}{fn:XJ}{c:XQ}{args:Array V4}{ats:Array Vc}{vs:Array U}{R:F->X6->F->Prop}(y:b.kind= .normal)(D:ops[i]? =I o)(K:VA o (We ops a.tmps)=Z)(E:o.op= .call {callee:=.value (.func f),args,argTypes:=ats})(u:args.map a.eval=vs)
 (A:P.funcs[f]? =I fn) (B:(fn.name == "runtime.NumGoroutine")=U5) (x:fn.body=I c) (J:eH P0 (b.at a (.inRegion ops (i::rest)::k)) []) (hR:∀d,RelB own w d->kq P0 P Post f vs d (R d))
 (t:∀d v w',RelB own w d->R d (.returned v) w'->Sm d w'->xR P0 w'->ux P0 P Post (Vd (b.at (a.put o.dst v) (.inRegion ops rest::k)) cs) w') (hP:∀d ch w',¬R d (.panicked ch) w') (C:∀d w',¬R d .outgrown w'):Xe P0 P Post own (b.at a (.inRegion ops (i::rest)::k)) cs w:=by
 intro M d m G;have:=Qc (P0:=P0) (P:=P) (Post:=Post) (b:=b) (a:=a) (k:=k) (cs:=cs) (w:=d) (R:=λh w'=>∃e,R (d.at e) h w') y D K E A B x (λO l=>by
  obtain⟨e,rfl⟩:=l;rw[u];intro n p q l r s;exact hR _ (m.trans (RelB.at _ _ _)) n p q l r λh w' z=>s h w' ⟨e,z⟩) (λv w' ⟨e,L⟩ g N H=>t (d.at e) v w' (m.trans (RelB.at _ _ _)) L ⟨g.tape,g.os,g.output,g.size⟩ H) (λch w' ⟨e,j⟩=>absurd j (hP _ _ _)) (λw' ⟨e,j⟩=>C _ _ j)
 exact this J G
def DG(h:Twins P0 P){f:Xb}{fn:XJ}{c:XQ}{args:Array V4}{ats:Array Vc}{vs:Array U}{R:F->X6->F->Prop}(M:b.kind= .normal)(r:ops[i]? =I o)(aa:VA o (We ops a.tmps)=Z)(T:o.op= .call {callee:=.value (.func f),args,argTypes:=ats})(L:args.map a.eval=vs)
 (O:P.funcs[f]? =I fn) (S:(fn.name == "runtime.NumGoroutine")=U5) (y:fn.body=I c) (Q:P.funcs[f]? =P0.funcs[f]?) (W:eH P0 (b.at a (.inRegion ops (i::rest)::k)) [])
 (hR:∀d,(∀b o,own b->w.heap[b]? =I o->bf P0 o->d.heap[b]? =I o)->w.heap.size<=d.heap.size->Calls P0 f vs d λe W'=>aQ d W'/\∃v,e= .returned v/\R d (.returned v) W')
 (J:∀v w' d W',(∀b o,own b->w.heap[b]? =I o->bf P0 o->d.heap[b]? =I o)->w.heap.size<=d.heap.size->aQ d W'->R d (.returned v) W'->Un W' w'->RelB own w w'->Xe P0 P Post (grown own d.heap.size w'.heap.size) (b.at (a.put o.dst v) (.inRegion ops rest::k)) cs w'):Xe P0 P Post own (b.at a (.inRegion ops (i::rest)::k)) cs w:=by
 intro z;refine oa (P0:=P0) (R:=λp e ab=>∃n,Mk P0 n p/\Tl n p (λe W'=>∃d,d.heap=n.heap/\aQ d W'/\∃v,e= .returned v/\R d (.returned v) W') e ab) M r aa T L O S y W (λp g=>?_) (λp v w' g Y A V=>?_) (λp ad w' ⟨_,_,_,_,_,_,d,_,_,v,e,_⟩=>by cases e) (λp w' ⟨_,_,_,_,_,_,d,_,_,v,e,_⟩=>by cases e) z
 ·obtain⟨n,m⟩:=Bw P0 p;intro C D q j G H;exact qw h m.hp m.un Q (λw' ⟨d,_,_,v,e,_⟩=>by cases e) (λs=>(hR (sh s 0 n) (λb o y r u=>m.at_ b o ((g.at_ b y).trans r) u) (by show w.heap.size<=n.heap.size;rw[<-m.un.size];exact g.size)).mono λe W' ⟨q,j⟩=>⟨sh s 0 n,rfl,q,j⟩) C D q j G λe w' N=>H e w' ⟨n,m,N⟩
 obtain⟨n,m,s,E,W',j,d,x,t,ae,e,K⟩:=Y;cases e;have X:d.heap.size<=w'.heap.size:=by rw[j.un.size];exact t.size
 have B:d.heap.size=p.heap.size:=by rw[x,m.un.size]
 have hrel:RelB own w w':=⟨λb l=>by
  have q:W'.heap[b]? =d.heap[b]? :=t.block b (by rw[B];exact U9 (z b l) g.size);exact(j.same m.un (by rw[q,x])).trans (g.at_ b l),Vm g.size (by rw[<-B];exact X),A.tape.trans g.tape,A.os.trans g.os,A.output.trans g.output⟩
 refine J v w' d (sh s E W') (λb o l r u=>by rw[x];exact m.at_ b o ((g.at_ b l).trans r) u) (by rw[B];exact g.size) t K ⟨j.un.size,j.un.at_,j.un.os,j.un.output⟩ hrel (λb l=>?_) w' (RelB.refl _ _) V;rcases l with l|l
 ·exact U9 (z b l) hrel.size
 ·exact l.2
def Q0(h:Twins P0 P){x:V4}{d:Array V4}{ats:Array Vc}{vs:Array U}{l:Nat}{R:F->U->F->Prop}(j:ops[i]? =I o)(t:VA o (We ops a.tmps)=Z)(m:o.op= .call {callee:=.value x,args:=d,argTypes:=ats})(u:a.eval x= .func (.yield l) #[] #[])(g:d.map a.eval=vs)(r:eH P0 (b.at a (.inRegion ops (i::rest)::k)) [])
 (hR:∀c,RelB own w c->Gm P0 P Post l vs c (R c)) (f:∀c v w',RelB own w c->R c v w'->Sm c w'->xR P0 w'->ux P0 P Post (Vd (b.at (a.put o.dst v) (.inRegion ops rest::k)) cs) w'):Xe P0 P Post own (b.at a (.inRegion ops (i::rest)::k)) cs w:=by
 intro y c e n;exact NC h j t m u (by rw[g];exact hR c e) (λv w' s q _ p=>f c v w' e s q p) r n
def Xe.go{fr:Vg}(h:Xe P0 P Post own fr cs w)(c:∀b,own b->b<w.heap.size)(d:xR P0 w):ux P0 P Post (Vd fr cs) w:=h c w (RelB.refl _ _) d
end
section
variable {P:Vb}{a:Xa}{o:Ww}
def yX{t:Vc}{x:V4}{c:Bool}(e:o.op= .unOp .not t x)(f:a.eval x= .bool c):∀d,(Vw a.eval o).run P d= .ok (.value (.bool (!c))) d/\(Vw a.eval o).events P d #[]=#[]:=λd=>by
 unfold Vw;simp[e,f,Op.unary]
end
def pO{o:Ww}{ops:Array Ww}{z:Xa}{j d:Nat}{want b:Bool}(g:o.guard=I (j,want))(e:je ops j=I d)(c:aS z d= .bool b)(f:d<z.tmps.size):VA o (We ops z.tmps)=(b==want):=by
 unfold VA We;rw[g];unfold je at e;unfold aS at c;rw[Vt,VT f] at c;simp only[e,YT,VT f];simp only[Ye] at c;rw[c];cases b<;>cases want<;>rfl
def Knows.want{a:Xa}{n:Nat}{l:List (Nat×U)}(c:Knows a n l){o:Ww}{ops:Array Ww}{j d:Nat}{want b:Bool}(f:o.guard=I (j,want))(e:je ops j=I d)(h:l.lookup d=I (.bool b))(g:d<n):VA o (We ops a.tmps)=(b==want):=pO f e (c.slot d _ h) (by rw[c.size];exact g)
def tH{P0 P:Vb}{S:Nat->Prop}{m:Bool}{f:(Nat->Prop)->Vg->List Vg->F->Prop}{own:Nat->Prop}{cs:List Vg}{w:F}{b:Vg}{a:Xa}{k:List XR}{ops:Array Ww}{i:Nat}{rest:List Nat}{o:Ww}(h:oe P0 P S m f){n:Nat}{l:List (Nat×U)}(g:Knows a n l){d j e:Nat}{want c:Bool}(s:Knows (a.put (I d) V9) n ((d,V9)::l)->f own (b.at (a.put (I d) V9) (.inRegion ops rest::k)) cs w)(x:ops[i]? =I o:=by rfl)(r:o.guard=I (j,want):=by rfl)(q:je ops j=I e:=by rfl)(y:l.lookup e=I (.bool c):=by rfl)(t:e<n:=by decide)(v:(c==want)=U5:=by rfl)(p:o.dst=I d:=by rfl)(u:d<n:=by decide):f own (b.at a (.inRegion ops (i::rest)::k)) cs w:=
 ye h x ((g.want r q y t).trans v) (by rw[p];exact s (g.put u V9))
end Cc
namespace Cc
open Go
section
variable {P P':Vb}
def kV(a:P'.toTables=P.toTables)(t:Vc):P'.info? t=P.info? t:=by rw[a]
def jA(a:P'.toTables=P.toTables)(t:Vc):P'.underlying t=P.underlying t:=by unfold Program.underlying;simp only[kV a]
def j6(a:P'.toTables=P.toTables)(t:Vc):P'.cellsOf t=P.cellsOf t:=by unfold Program.cellsOf;simp only[kV a]
def lJ(a:P'.toTables=P.toTables)(t:Vc):P'.bytesOf t=P.bytesOf t:=by unfold Program.bytesOf;simp only[kV a]
def lK(a:P'.toTables=P.toTables):P'.depth=P.depth:=by unfold Program.depth;rw[a]
def um(a:P'.toTables=P.toTables)(t:Vc):P'.underlyingId t=P.underlyingId t:=by unfold Program.underlyingId;simp only[kV a]
def tj(a:P'.toTables=P.toTables)(d:Nat):∀t o,byteOfCell P' d t o=byteOfCell P d t o:=by
 induction d with
 |zero=>intro t o;rfl
 |succ d b=>intro t o;simp only[byteOfCell,jA a,j6 a,lJ a,b]
def A4(a:P'.toTables=P.toTables)(d:Nat):∀t o,cellOfByte P' d t o=cellOfByte P d t o:=by
 induction d with
 |zero=>intro t o;rfl
 |succ d b=>intro t o;simp only[cellOfByte,jA a,j6 a,lJ a,b]
def LM(a:P'.toTables=P.toTables)(d:Nat)(e:Vc)(c o:Nat)(b:Int):cellAtBytes P' d e c o b=cellAtBytes P d e c o b:=by
 simp only[cellAtBytes,j6 a,lJ a,tj a,A4 a]
def wM(a:P'.toTables=P.toTables)(d:Nat):∀t u,P'.alikeButTags d t u=P.alikeButTags d t u:=by
 induction d with
 |zero=>intro t u;rfl
 |succ d b=>intro t u;simp only[Program.alikeButTags,jA a,um a,kV a,b]
def IF(a:P'.toTables=P.toTables)(t:Vc):P'.stoodInAs t=P.stoodInAs t:=by
 simp only[Program.stoodInAs,Program.ownRow,jA a,um a,kV a,wM a,lK a,a]
def uk(a:P'.toTables=P.toTables)(t:Vc):P'.stoodInHeld t=P.stoodInHeld t:=by
 simp only[Program.stoodInHeld,IF a,kV a]
def LN(a:P'.toTables=P.toTables)(t:Vc):P'.packed t=P.packed t:=by
 simp only[Program.packed,Program.packedAs,Program.ownRow,jA a,um a,kV a,wM a,lK a,a]
def OK(a:P'.toTables=P.toTables)(d:Nat):∀t,P'.holdsPacked d t=P.holdsPacked d t:=by
 induction d with
 |zero=>intro t;rfl
 |succ d b=>intro t;simp only[Program.holdsPacked,LN a,jA a,b]
def OJ(a:P'.toTables=P.toTables)(d:Nat):∀t,P'.eqGuardType d t=P.eqGuardType d t:=by
 induction d with
 |zero=>intro t;rfl
 |succ d b=>intro t;simp only[Program.eqGuardType,jA a,b]
def OM(a:P'.toTables=P.toTables)(d:Nat):∀t u,sameLayout P' d t u=sameLayout P d t u:=by
 induction d with
 |zero=>intro t u;rfl
 |succ d b=>intro t u;simp only[sameLayout,jA a,um a,uk a,b]
def OL(a:P'.toTables=P.toTables)(f:Vc->Bool)(d:Nat):∀e c o n,rowAt P' f d e c o n=rowAt P f d e c o n:=by
 induction d with
 |zero=>intro e c o n;rfl
 |succ d b=>intro e c o n;simp only[rowAt,jA a,j6 a,uk a,b]
def QK(a:P'.toTables=P.toTables)(d:Nat):∀e c o u n,liesAt P' d e c o u n=liesAt P d e c o u n:=by
 induction d with
 |zero=>intro e c o u n;rfl
 |succ d b=>intro e c o u n;simp only[liesAt,jA a,lK a,OL a,OM a,b]
def Dw(a:P'.toTables=P.toTables)(d:Nat):∀t o,plainCell P' d t o=plainCell P d t o:=by
 induction d with
 |zero=>intro t o;rfl
 |succ d b=>intro t o;simp only[plainCell,jA a,j6 a,b]
def IE(a:P'.toTables=P.toTables)(d:Nat):∀t b,cellHolding P' d t b=cellHolding P d t b:=by
 induction d with
 |zero=>intro t b;rfl
 |succ d c=>intro t b;simp only[cellHolding,jA a,j6 a,lJ a,c]
def ON(a:P'.toTables=P.toTables)(d:Nat):∀t,tight P' d t=tight P d t:=by
 induction d with
 |zero=>intro t;rfl
 |succ d b=>intro t;simp only[tight,jA a,lJ a,b]
def Dx(a:P'.toTables=P.toTables)(c:Array U)(e:Vc)(f:Nat):∀x s,seenCells P' c e f x s=seenCells P c e f x s:=by
 induction f with
 |zero=>intro x s;rfl
 |succ f b=>intro x s;simp only[seenCells,IE a,lK a,j6 a,lJ a,b]
def JF(b:P'.toTables=P.toTables){w u:F}{a:VI}(h:∀c e f,w.heap[a.block]? =I (.cells c e f)↔u.heap[a.block]? =I (.cells c e f))(t:Vc)(k:VI)(m:Bool):u.seen P' a t k m=w.seen P a t k m:=by
 have j:(∃c e f,w.heap[a.block]? =I (.cells c e f)/\u.heap[a.block]? =I (.cells c e f))\/((∀c e f,w.heap[a.block]? ≠I (.cells c e f))/\∀c e f,u.heap[a.block]? ≠I (.cells c e f)):=by
  by_cases d:∃c e f,w.heap[a.block]? =I (.cells c e f)
  ·obtain⟨c,e,f,d⟩:=d;exact .inl ⟨c,e,f,d,(h c e f).1 d⟩
  ·exact .inr ⟨λc e f l=>d ⟨c,e,f,l⟩,λc e f l=>d ⟨c,e,f,(h c e f).2 l⟩⟩
 unfold World.seen;simp only[Dw b,tj b,j6 b,lJ b,lK b,Dx b];rcases j with⟨c,e,f,g,i⟩|⟨g,i⟩
 ·rw[g,i]
 ·cases j:w.heap[a.block]? with
  |none=>cases n:u.heap[a.block]? with
   |none=>rfl
   |some o=>cases o<;>first|exact absurd n (i _ _ _)|rfl
  |some p=>cases n:u.heap[a.block]? with
   |none=>cases p<;>first|exact absurd j (g _ _ _)|rfl
   |some o=>cases p<;>first|exact absurd j (g _ _ _)|(cases o<;>first|exact absurd n (i _ _ _)|rfl)
def Jy{P:Vb}{w:F}{a:VI}{t:Vc}{k:VI}{m:Bool}{r:_}(h:w.seen P a t k m= .ok r):a.block<w.heap.size:=by
 rcases WG a.block w.heap.size with b|b
 ·exact b
 ·have c:w.heap[a.block]? =K:=Wl b;unfold World.seen at h;rw[c] at h;simp only[bind,Except.bind,throw,throwThe,ZG,pure,Except.pure] at h
  repeat' first|(cases h;done)|split at h
def OQ(q:P'.toTables=P.toTables):Views P P':=by
 refine⟨λc k b j p m a=>?_,λc b j p m v s a y w=>?_,λc k b j p v m a=>?_⟩
 ·unfold World.viewLoad;rw[JF q a]
 ·unfold World.viewLoad at a;cases h:c.seen P b j p m with
  |error e=>rw[h] at a;cases a
  |ok C=>
   have u:=Jy h;rw[h] at a;simp only[bind,Except.bind,throw,throwThe,ZG,pure,Except.pure] at a
   split at a
   ·cases a;obtain⟨e,_,rfl⟩:=Wu.1 w;exact u
   ·cases a
 ·unfold World.viewStore;rw[JF q a,ON q,lK q];cases H:tight P P.depth j with
  |false=>exact .inl ⟨_,rfl,rfl⟩
  |true=>
   cases h:c.seen P b j p m with
   |error e=>exact .inl ⟨e,rfl,rfl⟩
   |ok C=>
    have u:=Jy h;obtain⟨t,d,f,first,i,z⟩:=C;cases G:v.bytes? with
    |none=>exact .inl ⟨_,rfl,rfl⟩
    |some bytes=>
     by_cases r:I bytes.length≠i.bytes?.map (·.length)
     ·refine .inl ⟨ "memory seen as another type: a value of another size",?_,?_⟩
      ·show(if I bytes.length≠i.bytes?.map (·.length) then _ else _)=_;rw[if_pos r];rfl
      ·show(if I bytes.length≠i.bytes?.map (·.length) then _ else _)=_;rw[if_pos r];rfl
     ·have E:∀(l n:Except String (F×List VI)) (o:Except String (Array U)),l=o.bind (λg=>.ok ({c with heap:=c.heap.setIfInBounds b.block (.cells g d f)},z.map λx=>({block:=b.block,off:=x.1}:VI)))->n=o.bind (λg=>.ok ({k with heap:=k.heap.setIfInBounds b.block (.cells g d f)},z.map λx=>({block:=b.block,off:=x.1}:VI)))->
       (∃D,l= .error D/\n= .error D)\/∃t d f s,l= .ok ({c with heap:=c.heap.setIfInBounds b.block (.cells t d f)},s)/\n= .ok ({k with heap:=k.heap.setIfInBounds b.block (.cells t d f)},s)/\∀y∈s,y.block<c.heap.size:=by
       intro l n o A B;cases o with
       |error e=>exact .inl ⟨e,A,B⟩
       |ok g=>
        refine .inr ⟨g,d,f,_,A,B,λy w=>?_⟩;obtain⟨e,_,rfl⟩:=Wu.1 w;exact u
      apply E
      ·show(if I bytes.length≠i.bytes?.map (·.length) then _ else _)=_;rw[if_neg r];rfl
      ·show(if I bytes.length≠i.bytes?.map (·.length) then _ else _)=_;rw[if_neg r];rfl
def QL(a:P'.toTables=P.toTables)(d:∀f:Nat,P'.funcs[f]? =P.funcs[f]? \/∃fn c:XJ,P.funcs[f]? =I fn/\P'.funcs[f]? =I c/\c.name=fn.name/\fn.body.isNone=U5/\c.body.isNone=U5):Twin P P':=
 ⟨kV a,jA a,by rw[a],j6 a,lJ a,lK a,λb=>QK a b,λb=>LM a b,λb=>tj a b,λb=>OJ a b,uk a,λb=>OK a b,by rw[a],by rw[a],by rw[a],d⟩
end
end Cc
end Go.Proofs.YtjidbonhhpkljabGreat
namespace Go.Proofs
def av.cut (fn:XJ):XJ:={fn with body:=I (.refuse "")}
def ax (P:Vb):Vb:={P with funcs:=((P.funcs.modify 39 av.cut).modify 60 av.cut).modify 61 av.cut}
def av.tables(P:Vb):P.toTables=(ax P).toTables:=rfl
namespace YtjidbonhhpkljabGreat.Cc
open Go
def TQ(P:Vb)(f:Nat):(ax P).funcs[f]? =if f=39\/f=60\/f=61 then(P.funcs[f]?).map av.cut else P.funcs[f]? :=by
 show(((P.funcs.modify 39 av.cut).modify 60 av.cut).modify 61 av.cut)[f]? =_;simp only[WT];by_cases b:f=39
 ·subst b;simp
 ·by_cases c:f=60
  ·subst c;simp
  ·by_cases d:f=61
   ·subst d;simp
   ·simp only[b,c,d,or_self,if_false];rw[if_neg (λa=>d a.symm),if_neg (λa=>c a.symm),if_neg (λa=>b a.symm)]
def Jr(f:Nat):(ax U1).funcs[f]? =if f=39\/f=60\/f=61 then(U1.funcs[f]?).map av.cut else U1.funcs[f]? :=TQ _ f
def iW{f:Nat}(h1:(f==39)=U5)(b:(f==60)=U5)(c:(f==61)=U5):(ax U1).funcs[f]? =U1.funcs[f]? :=by
 rw[Jr,if_neg];simp at h1 b c;rintro(a|a|a)
 ·exact h1 a
 ·exact b a
 ·exact c a
def pi(f:Nat):U1.funcs[f]? =(ax U1).funcs[f]? \/∃fn:XJ,fn.body.isNone=U5/\U1.funcs[f]? =I fn/\(ax U1).funcs[f]? =I (av.cut fn):=by
 rw[Jr];by_cases a:f=39\/f=60\/f=61
 ·rw[if_pos a]
  right
  rcases a with rfl|rfl|rfl
  ·exact⟨_,rfl,Tryz.func39,by rw[Tryz.func39];rfl⟩
  ·exact⟨_,rfl,Tryz.func60,by rw[Tryz.func60];rfl⟩
  ·exact⟨_,rfl,Tryz.func61,by rw[Tryz.func61];rfl⟩
 ·rw[if_neg a];exact .inl rfl
def NO:Twin (ax U1) U1:=QL (av.tables _) λf=>by
 rcases pi f with a|⟨b,c,d,e⟩
 ·exact .inl a
 ·exact .inr ⟨_,b,e,d,rfl,rfl,c⟩
def jB{P:Vb}{p:XJ->Bool}(h:P.funcs.toList.all p=Z){f:Nat}{fn:XJ}(a:P.funcs[f]? =I fn):p fn=Z:=by
 obtain⟨b,rfl⟩:=U4.1 a;exact Vx.1 h _ (by simp)
def us:(U1.funcs.toList.all λfn=> !(fn.name == "runtime.NumGoroutine"))=Z:=by kernel_rfl
def S8:(U1.funcs.toList.all λfn=> !fn.body.isNone||(Extern.findNext fn).isNone)=Z:=by kernel_rfl
def SB:((ax U1).funcs.toList.all λfn=>match fn.body with|some c=>aX (ax U1) U5 c|none=>Z)=Z:=by kernel_rfl
end YtjidbonhhpkljabGreat.Cc
end Go.Proofs
namespace Go.Proofs.YtjidbonhhpkljabGreat
abbrev bK(f:Xb)(a:Array U)(w:F)(R:X6->F->Prop):Prop:=Go.Calls (ax U1) f a w R
end Go.Proofs.YtjidbonhhpkljabGreat
namespace Go.Proofs.YtjidbonhhpkljabGreat
namespace Cc
open Go
section
variable {P P':Vb}{O:Yk->Prop}
def uf(a:Twin P P')(b:Plain O)(v:U):St P P' O (ZE v):=by
 unfold ZE;refine cA ?_ ?_
 ·have:∀v,handleType P' v=handleType P v:=λv=>by unfold handleType;rw[a.yE]
  rw[this]
 ·((try dsimp only);repeat' first|exact bG a _|exact ay _|exact td a _|assumption|(refine ag ?_ (λ_=>?_))|intro _|split|(dsimp only)|exact trivial)
def Dp(a:Twin P P')(b:Plain O)(i:XX):St P P' O (ZF i):=by
 unfold ZF
 ((try dsimp only);repeat' first|exact bG a _|assumption|(refine ag ?_ (λ_=>?_))|intro _|split|(dsimp only)|exact trivial)
def zX(b:Twin P P')(a:Plain O)(args:Array U):St P P' O (Zq args):=by
 unfold Zq ZJ
 ((try dsimp only);repeat' first|exact bJ b a _|exact ug _ _|(refine aT _ ?_;rfl)|exact qR _|exact oR b a _|exact uf b a _|exact Dp b a _|assumption|(refine ag ?_ (λ_=>?_))|(refine bN ?_ ?_)|intro _|split|(dsimp only)|exact trivial)
def Ss{o:Option String}{a:String->XH U}{b:Unit->XH U}(h1:∀f,St P P' O (a f))(c:St P P' O (b ())):St P P' O (ZL (λ_=>XH U) o a b):=by
 cases o with
 |none=>exact c
 |some f=>exact h1 f
def Il(args:Array U):St P P' O (ZT args):=by
 have a:∀s:String,St P P' O (stuck s:XH U):=λs=>ay s;obtain⟨c⟩:=args;rcases c with _|⟨v,_|⟨o,c⟩⟩
 case cons.nil=>
  cases v with
  |agg b=>
   obtain⟨d⟩:=b;rcases d with _|⟨e,_|⟨g,_|⟨h,_|⟨i,_|⟨k,d⟩⟩⟩⟩⟩
   case cons.cons.cons.cons.nil=>
    cases e with
    |int l b=>
     cases g with
     |int m p=>
      cases h with
      |bool s=>
       cases i with
       |int n j=>
        refine Ss (o:=(if (s&&decide (b<0))=Z then ZN else ZP)[j.toNat]?) (λf=>?_) ?_
        ·exact trivial
        ·exact a _
       |_=>exact a _
      |_=>exact a _
     |_=>exact a _
    |_=>exact a _
   all_goals exact a _
  |_=>exact a _
 all_goals exact a _
def Iy(c:Twin P P')(b:Plain O)(args:Array U):St P P' O (Zp args):=by
 have a:∀s:String,St P P' O (stuck s:XH U):=λs=>ay s;unfold Zp ZJ;obtain⟨d⟩:=args;rcases d with _|⟨v,_|⟨j,d⟩⟩
 case cons.nil=>
  cases v with
  |agg f=>
   obtain⟨e⟩:=f;rcases e with _|⟨g,_|⟨h,e⟩⟩
   case cons.nil=>
    refine ag (uf c b _) λi=>?_
    split
    ·exact trivial
    ·exact bJ c b _
   all_goals exact a _
  |_=>exact a _
 all_goals exact a _
def FC(a:VI)(n:Nat)(b:ByteArray):St P P' O (ZK a n b):=by
 induction n generalizing a b with
 |zero=>exact trivial
 |succ n c=>
  unfold ZK;refine ag (ug _ _) λv=>?_
  split
  ·exact c _ _
  ·exact ay _
def zO(v:U):St P P' O (ZM v):=by
 unfold ZM
 split<;>first|exact trivial|exact FC _ _ _|exact ay _
def Fz(args:Array U):St P P' O (YA args):=by
 have b:∀s:String,St P P' O (stuck s:XH U):=λs=>ay s;unfold YA;obtain⟨a⟩:=args;rcases a with _|⟨c,_|⟨d,_|⟨e,a⟩⟩⟩
 case cons.cons.nil=>exact ag (zO _) λ_=>ag (zO _) λ_=>trivial
 all_goals exact b _
def dU(b:Twin P P')(a:Plain O):∀r∈V6,∀args,St P P' O (r.2 args):=by
 intro r c args;simp only[V6,WI,YS,or_false] at c;rcases c with rfl|rfl|rfl|rfl|rfl|rfl|rfl|rfl|rfl|rfl|rfl|rfl|rfl|rfl|rfl
 all_goals first
  |exact Il _
  |exact zX b a _
  |exact Iy b a _
  |exact trivial
  |exact ag (qR _) λ_=>trivial
  |exact ag (zM _) λ_=>ag (qR _) λ_=>trivial
  |exact ag (zM _) λ_=>ag (lG _) λ_=>trivial
def Iu(a:11<Zo.length)(args:Array U):St P P' O ((Zo[11]'a).2 args):=ag (lG (args.getD 0 (.tuple #[]))) λ_=>trivial
def fP{fn:XJ}{n:String}{e:Array U->XH U}(c:fn.name=n)(h1:(Extern.allGenericRows.lookup n).isNone=Z)(a:(Extern.allTypedRows.lookup n).isNone=Z)(b:Extern.allRows.lookup n=I e):Zz fn=I e:=by
 unfold Zz;dsimp only;rw[c,Xi.1 h1,Xi.1 a,b];rfl
def uX{fn:XJ}{n m:String}(d:fn.name=n)(c:fn.origin=m)(h1:(Extern.allGenericRows.lookup n).isNone=Z)(a:(Extern.allTypedRows.lookup n).isNone=Z)(b:(Extern.allRows.lookup n).isNone=Z)(e:(Extern.allGenericRows.lookup m).isNone=Z)(f:(Extern.allTypedRows.lookup m).isNone=Z)(g:(Extern.allRows.lookup m).isNone=Z):Zz fn=K:=by
 unfold Zz;dsimp only;rw[d,c,Xi.1 h1,Xi.1 a,Xi.1 b,Xi.1 e,Xi.1 f,Xi.1 g];rfl
end
def IW:(U1.funcs.toList.all λfn=> !fn.body.isNone||(([Tryz.f0.name,Tryz.f1.name,Tryz.f116.name,Tryz.f127.name,Tryz.f128.name,Tryz.f129.name,Tryz.f130.name,Tryz.f131.name,Tryz.f132.name,Tryz.f133.name,Tryz.f134.name,Tryz.f135.name,Tryz.f136.name,Tryz.f137.name,Tryz.f138.name,Tryz.f139.name,Tryz.f140.name,Tryz.f141.name,Tryz.f142.name]:List String).contains fn.name&&fn.origin==Tryz.f0.origin))=Z:=by kernel_rfl
def S0{fn:XJ}(a:(([Tryz.f0.name,Tryz.f1.name,Tryz.f116.name,Tryz.f127.name,Tryz.f128.name,Tryz.f129.name,Tryz.f130.name,Tryz.f131.name,Tryz.f132.name,Tryz.f133.name,Tryz.f134.name,Tryz.f135.name,Tryz.f136.name,Tryz.f137.name,Tryz.f138.name,Tryz.f139.name,Tryz.f140.name,Tryz.f141.name,Tryz.f142.name]:List String).contains fn.name)=Z)(f:fn.origin=Tryz.f0.origin){e:Array U->XH U}(b:Zz fn=I e)(args:Array U):St (ax U1) U1 (bf (ax U1)) (e args):=by
 have d:=NO;have c:=eu (ax U1);simp only[List.contains_cons,List.contains_nil,Bool.or_false,Yj,beq_iff_eq] at a;rcases a with a|a|a|a|a|a|a|a|a|a|a|a|a|a|a|a|a|a|a
 ·rw[uX a f (by kernel_rfl) (by kernel_rfl) (by kernel_rfl) (by kernel_rfl) (by kernel_rfl) (by kernel_rfl)] at b;cases b
 ·rw[uX a f (by kernel_rfl) (by kernel_rfl) (by kernel_rfl) (by kernel_rfl) (by kernel_rfl) (by kernel_rfl)] at b;cases b
 ·rw[fP (e:=YA) a (by kernel_rfl) (by kernel_rfl) (by kernel_rfl)] at b;cases b;exact Fz _
 ·rw[fP (e:=(V6[4]'(by decide)).2) a (by kernel_rfl) (by kernel_rfl) (by kernel_rfl)] at b;cases b;exact dU d c _ (Vn _) _
 ·rw[fP (e:=(V6[11]'(by decide)).2) a (by kernel_rfl) (by kernel_rfl) (by kernel_rfl)] at b;cases b;exact dU d c _ (Vn _) _
 ·rw[fP (e:=(V6[0]'(by decide)).2) a (by kernel_rfl) (by kernel_rfl) (by kernel_rfl)] at b;cases b;exact dU d c _ (Vn _) _
 ·rw[fP (e:=(V6[8]'(by decide)).2) a (by kernel_rfl) (by kernel_rfl) (by kernel_rfl)] at b;cases b;exact dU d c _ (Vn _) _
 ·rw[fP (e:=(V6[1]'(by decide)).2) a (by kernel_rfl) (by kernel_rfl) (by kernel_rfl)] at b;cases b;exact dU d c _ (Vn _) _
 ·rw[fP (e:=(V6[9]'(by decide)).2) a (by kernel_rfl) (by kernel_rfl) (by kernel_rfl)] at b;cases b;exact dU d c _ (Vn _) _
 ·rw[fP (e:=(V6[2]'(by decide)).2) a (by kernel_rfl) (by kernel_rfl) (by kernel_rfl)] at b;cases b;exact dU d c _ (Vn _) _
 ·rw[fP (e:=(V6[10]'(by decide)).2) a (by kernel_rfl) (by kernel_rfl) (by kernel_rfl)] at b;cases b;exact dU d c _ (Vn _) _
 ·rw[fP (e:=(V6[5]'(by decide)).2) a (by kernel_rfl) (by kernel_rfl) (by kernel_rfl)] at b;cases b;exact dU d c _ (Vn _) _
 ·rw[fP (e:=(V6[12]'(by decide)).2) a (by kernel_rfl) (by kernel_rfl) (by kernel_rfl)] at b;cases b;exact dU d c _ (Vn _) _
 ·rw[fP (e:=(V6[6]'(by decide)).2) a (by kernel_rfl) (by kernel_rfl) (by kernel_rfl)] at b;cases b;exact dU d c _ (Vn _) _
 ·rw[fP (e:=(V6[13]'(by decide)).2) a (by kernel_rfl) (by kernel_rfl) (by kernel_rfl)] at b;cases b;exact dU d c _ (Vn _) _
 ·rw[uX a f (by kernel_rfl) (by kernel_rfl) (by kernel_rfl) (by kernel_rfl) (by kernel_rfl) (by kernel_rfl)] at b;cases b
 ·rw[fP (e:=(V6[7]'(by decide)).2) a (by kernel_rfl) (by kernel_rfl) (by kernel_rfl)] at b;cases b;exact dU d c _ (Vn _) _
 ·rw[fP (e:=(V6[14]'(by decide)).2) a (by kernel_rfl) (by kernel_rfl) (by kernel_rfl)] at b;cases b;exact dU d c _ (Vn _) _
 ·rw[fP (e:=(Zo[11]'(by decide)).2) a (by kernel_rfl) (by kernel_rfl) (by kernel_rfl)] at b;cases b;exact Iu _ _
def NN{f:Nat}{fn:XJ}(a:(ax U1).funcs[f]? =I fn)(d:fn.body.isNone=Z):U1.funcs[f]? =I fn:=by
 rcases pi f with b|⟨e,_,_,c⟩
 ·rw[b];exact a
 ·rw[c] at a;cases a;cases d
def TR:Ext (ax U1) U1:=by
 refine⟨λf c a=>?_,λf c a b=>?_,λf c j a b i args=>?_⟩
 ·rcases pi f with e|⟨d,_,g,h⟩
  ·have:=jB us (e.trans a);simpa using this
  ·rw[h] at a;cases a;have:=jB us g;show(d.name==_)=U5;simpa using this
 ·have:=jB S8 (NN a b);rw[b] at this;simpa using this
 ·have:=jB IW (NN a b);rw[b] at this;simp only[Bool.not_true,Bool.false_or,Vr,beq_iff_eq] at this;exact S0 this.1 this.2 i args
def Qm:pS (ax U1) U1:=by
 refine⟨NO,TR,λf=>?_,rfl,λf=>?_,λf i h g e=>?_,OQ (av.tables _)⟩
 ·rcases pi f with a|⟨d,_,c,b⟩
  ·rw[a]
  ·rw[c,b];rfl
 ·rcases pi f with a|⟨d,_,c,b⟩
  ·exact .inl a
  ·exact .inr ⟨_,_,b,rfl⟩
 ·have:=jB SB g;rw[e] at this;exact this
def bI:Twins (ax U1) U1:=by
 refine⟨Qm,λf=>?_⟩;rcases pi f with b|⟨j,_,a,c⟩
 ·exact⟨by rw[b],λg h i a=>by rw[b,i] at a;cases a;rfl⟩
 ·refine⟨by rw[a,c];simp,λg h d e=>?_⟩;rw[c] at d;rw[a] at e;cases d;cases e;rfl
end Cc
end Go.Proofs.YtjidbonhhpkljabGreat
namespace Go.Proofs
namespace av
def rP(P:Vb)(t:Vc):(ax P).underlying t=P.underlying t:=YtjidbonhhpkljabGreat.Cc.jA (av.tables P).symm t
def bp{f:Nat}{x:Option XJ}(h:U1.funcs[f]? =x)(h1:(f==39||(f==60||f==61))=U5):(ax U1).funcs[f]? =x:=(YtjidbonhhpkljabGreat.Cc.iW (Bool.or_eq_false_iff.1 h1).1 (Bool.or_eq_false_iff.1 (Bool.or_eq_false_iff.1 h1).2).1 (Bool.or_eq_false_iff.1 (Bool.or_eq_false_iff.1 h1).2).2).trans h
def info(P:Vb)(t:Vc):(ax P).info? t=P.info? t:=YtjidbonhhpkljabGreat.Cc.kV (av.tables P).symm t
@[simp,go_sem] theorem wz (P:Vb) (t:Vc) (w:F):XE (ax P) (Yc t) w=XE P (Yc t) w:=by
 unfold Yc program;simp only[bind,Sem.bind,XE,info];generalize P.info? t=a;cases a<;>rfl
@[simp,go_sem] theorem SJ (P:Vb) (t:Vc) (w:F):XE (ax P) (Yt t) w=XE P (Yt t) w:=by
 unfold Yt program;simp only[bind,Sem.bind,XE,rP];generalize P.underlying t=a;cases a<;>rfl
def zeroOf (P:Vb) (x:Option U) (w:F):XE (ax P) (match x with|some v=>pure v|none=>unsupported (.resourceLimit "a value of more than 2^22 cells")) w=XE P (match x with|some v=>pure v|none=>unsupported (.resourceLimit "a value of more than 2^22 cells")) w:=by
 cases x with
 |some v=>exact(Sem.run_pure _ _ _).trans (Sem.run_pure _ _ _).symm
 |none=>exact Eq.refl (Result.halt _ w)
@[simp,go_sem] theorem Ua (P:Vb) (t:Vc) (w:F):XE (ax P) (Xl t) w=XE P (Xl t) w:=by
 unfold Xl;rw[XW,XW,wz];generalize XE P (Yc t) w=d;cases d with
 |ok c a=>exact zeroOf P c.zero a
 |halt b a=>exact Eq.refl (Result.halt b a)
@[simp,go_sem] theorem T9 (P:Vb) (t:Vc) (w:F):XE (ax P) (Zg t) w=XE P (Zg t) w:=by
 unfold Zg;rw[XW,XW,wz];cases XE P (Yc t) w with
 |ok c a=>rfl
 |halt b a=>rfl
def PX(P:Vb)(d:TypeDesc)(w:F):XE (ax P) (match d with| .struct _| .array _ _=>pure Z|_=>pure U5) w=XE P (match d with| .struct _| .array _ _=>pure Z|_=>pure U5) w:=by
 cases d<;>exact(Sem.run_pure _ _ _).trans (Sem.run_pure _ _ _).symm
@[simp,go_sem] theorem TV (P:Vb) (t:Vc) (w:F):XE (ax P) (isAgg t) w=XE P (isAgg t) w:=by
 unfold isAgg;rw[XW,XW,SJ];generalize XE P (Yt t) w=d;cases d with
 |ok c a=>exact PX P c a
 |halt b a=>exact Eq.refl (Result.halt b a)
@[simp,go_sem] theorem T5 (P:Vb) (d:Nat) (t:Vc):(ax P).eqGuardType d t=P.eqGuardType d t:=YtjidbonhhpkljabGreat.Cc.OJ (av.tables P).symm d t
@[simp,go_sem] theorem depth (P:Vb):(ax P).depth=P.depth:=YtjidbonhhpkljabGreat.Cc.lK (av.tables P).symm
@[simp,go_sem] theorem JE (P:Vb) (t:Vc):(ax P).stoodInHeld t=P.stoodInHeld t:=YtjidbonhhpkljabGreat.Cc.uk (av.tables P).symm t
def N8 {P:Vb} {f:Nat} {fn:XJ} (h:P.funcs[f]? =I fn) (b:(fn.name == "runtime.NumGoroutine")=U5) (a:fn.body.isNone=U5) (args:Array U) (w:F):XE P (callFunc f args) w= .ok (.enter f args) w:=by
 unfold callFunc program;simp only[bind,pure,Sem.bind,XE,h,b,a,Vv,if_false]
def aD{f:Nat}{fn:XJ}(h:(ax U1).funcs[f]? =I fn)(e:fn.body.isNone=U5)(args:Array U)(w:F):XE (ax U1) (callFunc f args) w= .ok (.enter f args) w:=by
 refine N8 h ?_ e args w;rcases YtjidbonhhpkljabGreat.Cc.pi f with a|⟨b,g,c,d⟩
 ·rw[<-a] at h;simpa using YtjidbonhhpkljabGreat.Cc.jB YtjidbonhhpkljabGreat.Cc.us h
 ·rw[d] at h;cases h;exact(by simpa using YtjidbonhhpkljabGreat.Cc.jB YtjidbonhhpkljabGreat.Cc.us c:(b.name == "runtime.NumGoroutine")=U5)
def func4:=bp Tryz.func4 rfl
def func5:=bp Tryz.func5 rfl
def func8:=bp Tryz.func8 rfl
def func9:=bp Tryz.func9 rfl
def func10:=bp Tryz.func10 rfl
def func11:=bp Tryz.func11 rfl
def func12:=bp Tryz.func12 rfl
def func13:=bp Tryz.func13 rfl
def func14:=bp Tryz.func14 rfl
def func15:=bp Tryz.func15 rfl
def func16:=bp Tryz.func16 rfl
def func17:=bp Tryz.func17 rfl
def func18:=bp Tryz.func18 rfl
def func19:=bp Tryz.func19 rfl
def func20:=bp Tryz.func20 rfl
def func21:=bp Tryz.func21 rfl
def func22:=bp Tryz.func22 rfl
def func23:=bp Tryz.func23 rfl
def func24:=bp Tryz.func24 rfl
def func26:=bp Tryz.func26 rfl
def func27:=bp Tryz.func27 rfl
def func28:=bp Tryz.func28 rfl
def func29:=bp Tryz.func29 rfl
def func30:=bp Tryz.func30 rfl
def func31:=bp Tryz.func31 rfl
def func32:=bp Tryz.func32 rfl
def func33:=bp Tryz.func33 rfl
def func34:=bp Tryz.func34 rfl
def func35:=bp Tryz.func35 rfl
def func36:=bp Tryz.func36 rfl
def func37:=bp Tryz.func37 rfl
def func38:=bp Tryz.func38 rfl
def func41:=bp Tryz.func41 rfl
def func42:=bp Tryz.func42 rfl
def func43:=bp Tryz.func43 rfl
def func44:=bp Tryz.func44 rfl
def func45:=bp Tryz.func45 rfl
def func46:=bp Tryz.func46 rfl
def func47:=bp Tryz.func47 rfl
def func48:=bp Tryz.func48 rfl
def func49:=bp Tryz.func49 rfl
def func50:=bp Tryz.func50 rfl
def func51:=bp Tryz.func51 rfl
def func52:=bp Tryz.func52 rfl
def func53:=bp Tryz.func53 rfl
def func54:=bp Tryz.func54 rfl
def func55:=bp Tryz.func55 rfl
def func56:=bp Tryz.func56 rfl
def func57:=bp Tryz.func57 rfl
def func58:=bp Tryz.func58 rfl
def func59:=bp Tryz.func59 rfl
def func62:=bp Tryz.func62 rfl
def func63:=bp Tryz.func63 rfl
def func64:=bp Tryz.func64 rfl
def func65:=bp Tryz.func65 rfl
def func66:=bp Tryz.func66 rfl
def func67:=bp Tryz.func67 rfl
def func68:=bp Tryz.func68 rfl
def func69:=bp Tryz.func69 rfl
def func70:=bp Tryz.func70 rfl
def func71:=bp Tryz.func71 rfl
def func72:=bp Tryz.func72 rfl
def func73:=bp Tryz.func73 rfl
def func74:=bp Tryz.func74 rfl
def func75:=bp Tryz.func75 rfl
def func76:=bp Tryz.func76 rfl
def func77:=bp Tryz.func77 rfl
def func78:=bp Tryz.func78 rfl
def func79:=bp Tryz.func79 rfl
def func80:=bp Tryz.func80 rfl
def func81:=bp Tryz.func81 rfl
def func82:=bp Tryz.func82 rfl
def func83:=bp Tryz.func83 rfl
def func84:=bp Tryz.func84 rfl
def func85:=bp Tryz.func85 rfl
def func86:=bp Tryz.func86 rfl
def func87:=bp Tryz.func87 rfl
def func88:=bp Tryz.func88 rfl
def func89:=bp Tryz.func89 rfl
def func90:=bp Tryz.func90 rfl
def func91:=bp Tryz.func91 rfl
def func92:=bp Tryz.func92 rfl
def func93:=bp Tryz.func93 rfl
def func94:=bp Tryz.func94 rfl
def func95:=bp Tryz.func95 rfl
def func96:=bp Tryz.func96 rfl
def func97:=bp Tryz.func97 rfl
def func98:=bp Tryz.func98 rfl
def func99:=bp Tryz.func99 rfl
def func100:=bp Tryz.func100 rfl
def func101:=bp Tryz.func101 rfl
def func102:=bp Tryz.func102 rfl
def func103:=bp Tryz.func103 rfl
def func104:=bp Tryz.func104 rfl
def func106:=bp Tryz.func106 rfl
def func107:=bp Tryz.func107 rfl
def func108:=bp Tryz.func108 rfl
def func109:=bp Tryz.func109 rfl
def func110:=bp Tryz.func110 rfl
def func111:=bp Tryz.func111 rfl
def func112:=bp Tryz.func112 rfl
def func113:=bp Tryz.func113 rfl
def func114:=bp Tryz.func114 rfl
def func115:=bp Tryz.func115 rfl
def func116:=bp Tryz.func116 rfl
def func117:=bp Tryz.func117 rfl
def func118:=bp Tryz.func118 rfl
def func119:=bp Tryz.func119 rfl
def func120:=bp Tryz.func120 rfl
def func121:=bp Tryz.func121 rfl
def func123:=bp Tryz.func123 rfl
def func124:=bp Tryz.func124 rfl
def func125:=bp Tryz.func125 rfl
def func126:=bp Tryz.func126 rfl
@[simp,go_sem] def call9:=aD func9 rfl
@[simp,go_sem] def call11:=aD func11 rfl
@[simp,go_sem] def call12:=aD func12 rfl
@[simp,go_sem] def call13:=aD func13 rfl
@[simp,go_sem] def call14:=aD func14 rfl
@[simp,go_sem] def call15:=aD func15 rfl
@[simp,go_sem] def call17:=aD func17 rfl
@[simp,go_sem] def call18:=aD func18 rfl
@[simp,go_sem] def call19:=aD func19 rfl
@[simp,go_sem] def call20:=aD func20 rfl
@[simp,go_sem] def call21:=aD func21 rfl
@[simp,go_sem] def call22:=aD func22 rfl
@[simp,go_sem] def call23:=aD func23 rfl
@[simp,go_sem] def call24:=aD func24 rfl
@[simp,go_sem] def call26:=aD func26 rfl
@[simp,go_sem] def call27:=aD func27 rfl
@[simp,go_sem] def call28:=aD func28 rfl
@[simp,go_sem] def call29:=aD func29 rfl
@[simp,go_sem] def call30:=aD func30 rfl
@[simp,go_sem] def call31:=aD func31 rfl
@[simp,go_sem] def call32:=aD func32 rfl
@[simp,go_sem] def call33:=aD func33 rfl
@[simp,go_sem] def call34:=aD func34 rfl
@[simp,go_sem] def call35:=aD func35 rfl
@[simp,go_sem] def call36:=aD func36 rfl
@[simp,go_sem] def call41:=aD func41 rfl
@[simp,go_sem] def call42:=aD func42 rfl
@[simp,go_sem] def call43:=aD func43 rfl
@[simp,go_sem] def call44:=aD func44 rfl
@[simp,go_sem] def call45:=aD func45 rfl
@[simp,go_sem] def call46:=aD func46 rfl
@[simp,go_sem] def call47:=aD func47 rfl
@[simp,go_sem] def call48:=aD func48 rfl
@[simp,go_sem] def call49:=aD func49 rfl
@[simp,go_sem] def call50:=aD func50 rfl
@[simp,go_sem] def call51:=aD func51 rfl
@[simp,go_sem] def call52:=aD func52 rfl
@[simp,go_sem] def call53:=aD func53 rfl
@[simp,go_sem] def call54:=aD func54 rfl
@[simp,go_sem] def call55:=aD func55 rfl
@[simp,go_sem] def call56:=aD func56 rfl
@[simp,go_sem] def call57:=aD func57 rfl
@[simp,go_sem] def call58:=aD func58 rfl
@[simp,go_sem] def call59:=aD func59 rfl
@[simp,go_sem] def call64:=aD func64 rfl
@[simp,go_sem] def call65:=aD func65 rfl
@[simp,go_sem] def call66:=aD func66 rfl
@[simp,go_sem] def call67:=aD func67 rfl
@[simp,go_sem] def call68:=aD func68 rfl
@[simp,go_sem] def call69:=aD func69 rfl
@[simp,go_sem] def call70:=aD func70 rfl
@[simp,go_sem] def call71:=aD func71 rfl
@[simp,go_sem] def call72:=aD func72 rfl
@[simp,go_sem] def call73:=aD func73 rfl
@[simp,go_sem] def call74:=aD func74 rfl
@[simp,go_sem] def call75:=aD func75 rfl
@[simp,go_sem] def call76:=aD func76 rfl
@[simp,go_sem] def call77:=aD func77 rfl
@[simp,go_sem] def call78:=aD func78 rfl
@[simp,go_sem] def call79:=aD func79 rfl
@[simp,go_sem] def call80:=aD func80 rfl
@[simp,go_sem] def call82:=aD func82 rfl
@[simp,go_sem] def call83:=aD func83 rfl
@[simp,go_sem] def call84:=aD func84 rfl
@[simp,go_sem] def call85:=aD func85 rfl
@[simp,go_sem] def call86:=aD func86 rfl
@[simp,go_sem] def call87:=aD func87 rfl
@[simp,go_sem] def call88:=aD func88 rfl
@[simp,go_sem] def call89:=aD func89 rfl
@[simp,go_sem] def call90:=aD func90 rfl
@[simp,go_sem] def call91:=aD func91 rfl
@[simp,go_sem] def call92:=aD func92 rfl
@[simp,go_sem] def call93:=aD func93 rfl
@[simp,go_sem] def call94:=aD func94 rfl
@[simp,go_sem] def call95:=aD func95 rfl
@[simp,go_sem] def call96:=aD func96 rfl
@[simp,go_sem] def call97:=aD func97 rfl
@[simp,go_sem] def call98:=aD func98 rfl
@[simp,go_sem] def call99:=aD func99 rfl
@[simp,go_sem] def call100:=aD func100 rfl
@[simp,go_sem] def call101:=aD func101 rfl
@[simp,go_sem] def call102:=aD func102 rfl
@[simp,go_sem] def call103:=aD func103 rfl
@[simp,go_sem] def call104:=aD func104 rfl
@[simp,go_sem] def call106:=aD func106 rfl
@[simp,go_sem] def call107:=aD func107 rfl
@[simp,go_sem] def call108:=aD func108 rfl
@[simp,go_sem] def call109:=aD func109 rfl
@[simp,go_sem] def call110:=aD func110 rfl
@[simp,go_sem] def call111:=aD func111 rfl
@[simp,go_sem] def call112:=aD func112 rfl
@[simp,go_sem] def call113:=aD func113 rfl
@[simp,go_sem] def call114:=aD func114 rfl
@[simp,go_sem] def call115:=aD func115 rfl
@[simp,go_sem] def call117:=aD func117 rfl
@[simp,go_sem] def call118:=aD func118 rfl
@[simp,go_sem] def call119:=aD func119 rfl
@[simp,go_sem] def call120:=aD func120 rfl
@[simp,go_sem] def call121:=aD func121 rfl
@[simp,go_sem] def call123:=aD func123 rfl
@[simp,go_sem] def call124:=aD func124 rfl
@[simp,go_sem] def call125:=aD func125 rfl
@[simp,go_sem] def call126:=aD func126 rfl
@[simp,go_sem] def underlying2:=(rP _ _).trans Tryz.underlying2
@[simp,go_sem] def underlying3:=(rP _ _).trans Tryz.underlying3
@[simp,go_sem] def underlying4:=(rP _ _).trans Tryz.underlying4
@[simp,go_sem] def underlying5:=(rP _ _).trans Tryz.underlying5
@[simp,go_sem] def underlying9:=(rP _ _).trans Tryz.underlying9
@[simp,go_sem] def underlying20:=(rP _ _).trans Tryz.underlying20
@[simp,go_sem] def underlying22:=(rP _ _).trans Tryz.underlying22
@[simp,go_sem] def underlying23:=(rP _ _).trans Tryz.underlying23
@[simp,go_sem] def underlying27:=(rP _ _).trans Tryz.underlying27
@[simp,go_sem] def underlying31:=(rP _ _).trans Tryz.underlying31
@[simp,go_sem] def underlying35:=(rP _ _).trans Tryz.underlying35
@[simp,go_sem] def underlying36:=(rP _ _).trans Tryz.underlying36
@[simp,go_sem] def underlying37:=(rP _ _).trans Tryz.underlying37
@[simp,go_sem] def underlying38:=(rP _ _).trans Tryz.underlying38
@[simp,go_sem] def underlying44:=(rP _ _).trans Tryz.underlying44
@[simp,go_sem] def underlying52:=(rP _ _).trans Tryz.underlying52
@[simp,go_sem] def underlying54:=(rP _ _).trans Tryz.underlying54
@[simp,go_sem] def underlying55:=(rP _ _).trans Tryz.underlying55
@[simp,go_sem] def underlying64:=(rP _ _).trans Tryz.underlying64
@[simp,go_sem] def underlying95:=(rP _ _).trans Tryz.underlying95
@[simp,go_sem] def underlying96:=(rP _ _).trans Tryz.underlying96
@[simp,go_sem] def underlying100:=(rP _ _).trans Tryz.underlying100
@[simp,go_sem] def underlying106:=(rP _ _).trans Tryz.underlying106
@[simp,go_sem] def underlying128:=(rP _ _).trans Tryz.underlying128
@[simp,go_sem] def underlying140:=(rP _ _).trans Tryz.underlying140
@[simp,go_sem] def underlying161:=(rP _ _).trans Tryz.underlying161
@[simp,go_sem] def underlying162:=(rP _ _).trans Tryz.underlying162
@[simp,go_sem] def underlying176:=(rP _ _).trans Tryz.underlying176
end av
end Go.Proofs
namespace Go.Proofs.YtjidbonhhpkljabGreat
namespace Pk
open Go.RowKit
def Jt{k:XL}{a b:Int}(h:a=b):Ending.returned (.int k a)= .returned (.int k b):=by rw[h]
def pw (n:Nat):Int:=((2^n:Nat):Int)
def Hg(n:Nat):0<pw n:=by
 have:0<2^n:=Nat.pow_pos (by omega);unfold pw;omega
def TP(n m:Nat)(h:n<=m):pw n<=pw m:=by
 have:=Xx (show 0<2 by omega) h;unfold pw;omega
def NM(n:Nat)(h:n<=16):pw n<=65536:=TP n 16 h
def GC (n:Int):Int:=if n<0\/100<n then 6 else 0
def qx(n:Int)(w:F):
 bK 89 #[.int .i64 n] w λe w'=>e= .returned (.int .i64 (GC n))/\w'=w:=by
 by_cases a:n<0
 ·go_enter av.func89,Tryz.ntmps89;go_wp2
  all_goals go_ret
  all_goals exact⟨Jt (by simp[GC,a]),rfl⟩
 ·by_cases b:100<n
  all_goals
   go_enter av.func89,Tryz.ntmps89;go_wp2
   all_goals go_ret
   all_goals exact⟨Jt (by simp[GC,a,b]),rfl⟩
end Pk
namespace Pm
def V:List Nat->Nat
 | []=>0
 |b::a=>b+256*V a
def N (w:Nat):List Nat->Nat
 | []=>0
 |x::a=>x+2^w*N w a
def Uk(a:List Nat)(h:∀x∈a,x<256):V a<256^a.length:=by
 induction a with
 |nil=>simp[V]
 |cons x g c=>
  have e:=h x (by simp);have f:=c (λd b=>h d (by simp[b]));simp only[V,WS,Yz];omega
def Ts(a b:List Nat)(g:∀x∈a,x<256)(i:∀x∈b,x<256)(c:a.length=b.length)(h:V a=V b):a=b:=by
 induction a generalizing b with
 |nil=>cases b with
  |nil=>rfl
  |cons e s=>simp at c
 |cons x m l=>cases b with
  |nil=>simp at c
  |cons e s=>
   simp only[V] at h;have n:=g x (by simp);have o:=i e (by simp);have j:x=e:=by omega
   have k:V m=V s:=by omega
   rw[j,l s (λf d=>g f (by simp[d])) (λf d=>i f (by simp[d])) (by simpa using c) k]
def RF(a:List Nat)(n:Nat)(h:∀x∈a,x<256):V (a.take n)=V a%256^n:=by
 induction a generalizing n with
 |nil=>simp[V]
 |cons b c g=>
  cases n with
  |zero=>simp[V,Nat.mod_one]
  |succ d=>
   have j:=h b (by simp);have e:=g d (λi f=>h i (by simp[f]));simp only[List.take_succ_cons,V,e,Yz];rw[Nat.mul_comm (256^d) 256,Nat.mod_mul,show(b+256*V c)%256=b by omega,show(b+256*V c)/256=V c by omega]
def Tq(a:List Nat)(j:Nat)(h:∀x∈a,x<256):(a[j]?.getD 0)=V a/256^j%256:=by
 induction a generalizing j with
 |nil=>simp[V]
 |cons d c g=>
  have k:=h d (by simp);cases j with
  |zero=>simp[V];omega
  |succ b=>
   have e:=g b (λi f=>h i (by simp[f]));simp only[List.getElem?_cons_succ,e,V,Yz];rw[Nat.mul_comm (256^b) 256,<-Nat.div_div_eq_div_mul,show(d+256*V c)/256=V c by omega]
def RB(w:Nat)(l:List Nat)(x:Nat):N w (l++[x])=N w l+2^(w*l.length)*x:=by
 induction l with
 |nil=>simp[N]
 |cons c a b=>
  simp only[XF,N,b,WS];rw[Nat.mul_add,<-Nat.mul_assoc,<-Y7,Wc,show w+w*a.length=w*(a.length+1) by rw[Nat.mul_succ];omega]
def Uh(w:Nat)(l:List Nat)(h:∀x∈l,x<2^w):N w l<2^(w*l.length):=by
 induction l with
 |nil=>simp[N]
 |cons f a e=>
  have i:=h f (by simp);have b:=e (λg d=>h g (by simp[d]));simp only[N,WS];rw[show w*(a.length+1)=w+w*a.length by rw[Nat.mul_succ];omega,Y7];have c:2^w*(N w a+1)<=2^w*2^(w*a.length):=Nat.mul_le_mul_left _ b;rw[Nat.mul_add] at c;omega
def D (w v:Nat):Nat->List Nat
 |0=>[]
 |n+1=>D w v n++[v/2^(w*n)%2^w]
def qf(w v n:Nat):(D w v n).length=n:=by
 induction n with
 |zero=>rfl
 |succ b a=>simp[D,a]
def Rw(w v n:Nat):∀x∈D w v n,x<2^w:=by
 induction n with
 |zero=>simp[D]
 |succ c b=>
  intro x a;simp only[D,VM,List.mem_singleton] at a;rcases a with a|a
  ·exact b x a
  ·rw[a];exact Nat.mod_lt _ (Nat.pow_pos (by omega))
def T3(w v n:Nat):N w (D w v n)=v%2^(w*n):=by
 induction n with
 |zero=>simp[D,N,Nat.mod_one]
 |succ a b=>
  rw[D,RB,b,qf,show w*(a+1)=w*a+w by rw[Nat.mul_succ],Y7,Nat.mod_mul]
def Hf(n:Nat):256^n=2^(8*n):=by rw[Nat.pow_mul]
end Pm
namespace Pk
open Go.RowKit Pm
def av.tQ:((ax U1).info? 5).map (λi=>(i.zero,i.size,i.bytes))=I (I (.int .u8 0),1,1):=by kernel_rfl
def av.EF:((ax U1).info? 3).map (λi=>(i.zero,i.size,i.bytes))=I (I (.int .i64 0),1,8):=by kernel_rfl
def aF (b:List Nat):List U:=b.map fun(a:Nat)=>Xm .u8 (a:Int)
def Gr(a:List Nat)(i:Nat)(h:i<a.length):(aF a)[i]? =I (.int .u8 ((a[i]:Nat):Int)):=by
 simp[aF,h]
def JZ{w:F}{base g n cap:Nat}{a:List Nat}(h:w.ownsRow base 5 1 (.slice (I ⟨g,0,K⟩) n cap) n (aF a))(c:a.length=n):
 ∀i,i<n->w.cell? ⟨g,0+i,K⟩=I (.int .u8 ((a.map (fun(n:Nat)=>(n:Int))).getD i 0)):=by
 intro i b;rw[VV,h.cellAt i (by omega),Gr a i (by omega)];simp[ZB,show i<a.length by omega]
def IV{x:Int}(a:0<=x)(h1:x<256):Zs.wrap x=x:=by
 simp[IntKind.wrap,YV,Zf];omega
def below_drewN{B:Nat}{a w:F}(h:XC B a w)(n:Nat):XC B a (w.drewN n):=h.trans ⟨rfl,rfl,rfl,U7 _,λ_ _=>rfl⟩
def sn{w:F}{base:Nat}{e:Vc}{a:Nat}{v:U}{n:Nat}{b:List U}(h:w.ownsRow base e a v n b)(k:Nat):(w.drewN k).ownsRow base e a v n b:=by
 induction k with
 |zero=>exact h
 |succ k c=>exact c.drew
def B7(n:Int)(a:0<=n)(b:n<2^62):ZA.wrap n=n:=by rw[IntKind.wrap_i64];omega
def Su(b x a:Nat)(f:a<=16)(h:x<65536)(e:b<2^a):bits .or .i64 (b:Int) (Wj ((x:Int)*2^a))=((b+2^a*x:Nat):Int):=by
 have d:2^a<=2^16:=Xx (by omega) f;have g:2^a*x<=2^16*65536:=Nat.mul_le_mul d (by omega);have c:Wj ((x:Int)*2^a)=((2^a*x:Nat):Int):=by
  rw[show(x:Int)*2^a=((2^a*x:Nat):Int) from by push_cast;rw[Int.mul_comm]];generalize 2^a*x=i at*;unfold Wj;omega
 rw[c,(bits_nat .i64 62 (by decide) B7 b (2^a*x) (by omega) (by omega)).2,Nat.or_comm,<-Nat.two_pow_add_eq_or_of_lt e x,Nat.add_comm]
def fY(a:List Nat)(x:Nat):aF a++[.int .u8 (x:Int)]=aF (a++[x]):=by simp[aF]
end Pk
end Go.Proofs.YtjidbonhhpkljabGreat
namespace Go.Proofs.YtjidbonhhpkljabGreat.Pm
def Ml(l:List Nat):V l=N 8 l:=by
 induction l with
 |nil=>rfl
 |cons c b a=>simp only[V,N,a]
def dX (a:Nat)(l:List Nat):List Nat:=D 8 (N a l) ((l.length*a+7)/8)
def tV(b:Nat)(l:List Nat):∀x∈dX b l,x<256:=λx a=>Rw 8 _ _ x a
def fR(a:Nat)(l:List Nat):(dX a l).length=(l.length*a+7)/8:=qf _ _ _
def CP(b:Nat)(l a:List Nat)(h1:a.length=(l.length*b+7)/8)(c:∀x∈a,x<256)(d:V a=N b l):a=dX b l:=by
 refine Ts a _ c (tV b l) (by rw[fR,h1]) ?_;rw[Ml (dX b l),dX,T3,<-d,<-h1,<-Hf,Nat.mod_eq_of_lt (Uk a c)]
end Go.Proofs.YtjidbonhhpkljabGreat.Pm
namespace Go.Proofs.YtjidbonhhpkljabGreat.Pk
open Go.RowKit Go.Proofs.YtjidbonhhpkljabGreat.Pm
def strOf(b:List Nat):ByteArray:=strOfNums (b.map (fun(a:Nat)=>(a:Int)))
def nu(a:List Nat):(strOf a).size=a.length:=by
 unfold strOf strOfNums;simp[ByteArray.size]
def Rj (b:Nat)(c:List Int):Bool:=c.all λa=>decide (0<=a)&&decide (a<pw b)
def Ko{a:Nat}{b:List Int}(h:Rj a b=Z):∀z∈b,0<=z/\z<pw a:=by
 intro z c;have:=Vx.1 h z c;simpa using this
def toNat_lt{a:Nat}{b:List Int}(h:Rj a b=Z):∀x∈b.map Int.toNat,x<2^a:=by
 intro x c;obtain⟨e,d,rfl⟩:=Wu.1 c;have:=Ko h e d;unfold pw at this;omega
def qP{w:F}{base n:Nat}{v:U}{a:List Nat}(h:w.ownsRow base 5 1 v n (aF a))(c:a.length=n):
 (convert 95 9 v).run (ax U1) w= .ok (.string (strOf a)) w:=by
 rcases h.2 with⟨b,i⟩|⟨e,d,g,b,_⟩
 ·have f:a=[]:=Wt (by omega);subst f;subst b;exact run_convert_bytes_nil w 95 5 av.underlying95 av.underlying5 0 0 9 av.underlying9
 ·subst b;exact run_convert_bytes_arg w 95 5 av.underlying95 av.underlying5 e 0 n d _ (by simp[c]) (JZ h c) 9 av.underlying9
end Go.Proofs.YtjidbonhhpkljabGreat.Pk
namespace Go.Proofs.YtjidbonhhpkljabGreat
namespace Ec
open Pk Pm
def jl:Nat->Nat->List Nat
 |0,a=>[]
 |f+1,a=>if a<128 then[a] else(a%128+128)::jl f (a/128)
def aH (n:Nat):List Nat:=jl 10 n
def gm(f n:Nat)(h:n<128):jl (f+1) n=[n]:=by simp[jl,h]
def iR(f n:Nat)(h:¬n<128):jl (f+1) n=(n%128+128)::jl f (n/128):=by simp[jl,h]
def OR(f n:Nat):∀x∈jl f n,x<256:=by
 induction f generalizing n with
 |zero=>simp[jl]
 |succ f d=>
  intro x a;by_cases b:n<128
  ·rw[gm f n b] at a;simp at a;omega
  ·rw[iR f n b] at a;rcases WI.1 a with c|c
   ·omega
   ·exact d _ x c
def eO(f n:Nat):(jl f n).length<=f:=by
 induction f generalizing n with
 |zero=>simp[jl]
 |succ f b=>
  by_cases a:n<128
  ·rw[gm f n a];simp
  ·rw[iR f n a];have:=b (n/128);simp;omega
def Sw(f:Nat)(n:Nat)(h:n<128^(f+1)):n/128<128^f:=by
 rw[Yz] at h;exact Nat.div_lt_of_lt_mul (by rw[Nat.mul_comm];exact h)
def KH(n:Nat)(h:n<18446744073709551616):n<128^10:=by
 have:(128:Nat)^10=1180591620717411303424:=by decide
 omega
def zz (n:Int):Nat:=if n<0 then(-2*n-1).toNat else(2*n).toNat
def Ca(n:Int)(a: -9223372036854775808<=n)(h1:n<=9223372036854775807):zz n<18446744073709551616:=by
 unfold zz;split<;>omega
def TN:∀x,x<256->x|||128=x%128+128:=by decide +kernel
end Ec
namespace Pk
open Go.RowKit Pm
def bE{w:F}{base B:Nat}{e:Vc}{b:Nat}{v:U}{n:Nat}{c:List U}(h:w.ownsRow base e b v n c)(k:B<=base):w.ownsRow B e b v n c:=by
 refine⟨h.1,?_⟩;rcases h.2 with a|⟨g,d,f,a,i,j⟩
 ·exact .inl a
 ·exact .inr ⟨g,d,f,a,Vm k i,j⟩
def aR{w w':F}{base:Nat}{e:Vc}{d:Nat}{v:U}{n:Nat}{f:List U}(h:w.ownsRow base e d v n f)(l:aQ w w'):w'.ownsRow base e d v n f:=by
 refine⟨h.1,?_⟩;rcases h.2 with a|⟨b,g,i,a,j,c,k⟩
 ·exact .inl a
 ·exact .inr ⟨b,g,i,a,j,by rw[l.block b (lt_of_block c)];exact c,k⟩
def aZ{P:Vb}(w:F){ops:Array Ww}{rest:List Ww}{o:Ww}{a:Xa}{Q:Exit->Xa->F->Prop}
 (D:o.guard=K) (s x:V4) (t:Vc) (G:o.op=Op.call {callee:=Callee.builtin Builtin.append,args:= #[s,x],argTypes:= #[t,t]})
 (base:Nat) (e:Vc) (i:XX) (z:U) (b bytes:Nat) (h1:P.underlying t=I (.slice e)) (A:P.info? e=I i) (M:i.zero=I z) (B:i.size=b) (N:i.bytes=bytes) (O:z.cells.size=b) (R:0<b)
 (v:U) (n:Nat) (g:List U) (H:a.eval s=v) (l:w.ownsRow base e b v n g)
 (h:VI) (m c:Nat) (news:List U) (J:a.eval x= .slice (I h) m c) (al:0<m) (E:news.length=m*b) (hc:∀j u,news[j]? =I u->w.cell? (h.add j)=I u) (y:∀u∈news,u.oneCell'=Z)
 (b1:n+m<=Vp) (b2:(n+m)*bytes<=140737488355328) (L:base<=w.heap.size)
 (C:∀d w',w'.ownsRow base e b d (n+m) (g++news)->((w.grownBy w' K/\w'.ownsRow w.heap.size e b d (n+m) (g++news))\/(d.ownBlock=v.ownBlock/\w.grownBy w' v.ownBlock))->wpList P ops Q rest (a.put o.dst d) w'):
 wpList P ops Q (o::rest) a w:=by
 rcases l.2 with⟨rfl,rfl⟩|⟨q,p,X,rfl,aa,ae,am,ab,ad,ao⟩
 ·have W:g=[]:=Wt (by simpa using l.1);subst W;exact wpList_append_grows w D s x t G e i z b bytes h1 A M B N O R K 0 0 [] H (λ_=>⟨rfl,rfl⟩) (by simp) (λS r=>by cases r) h m c news J E hc y (by omega) b1 b2
   λd w' f k=>C d w' (bE f L) (.inl ⟨k,f⟩)
 ·by_cases V:n+m<=p
  ·exact wpList_append_fits w D s x t G base e i b h1 A B q n p g H l h m c news J E hc y V λw' f k=>C _ w' f (.inr ⟨rfl,k⟩)
  ·exact wpList_append_grows w D s x t G e i z b bytes h1 A M B N O R (I ⟨q,0,K⟩) n p g H (λr=>by cases r) l.1 (λS T=>by cases T;exact l.cells (g:=q) Y) h m c news J E hc y (by omega) b1 b2
    λd w' f k=>C d w' (bE f L) (.inl ⟨k,f⟩)
def fp{a:List Int}{k:Nat}(h:k<a.length):a.getD k 0=a[k]:=by simp[ZB,h]
def bq (a:List Int):List U:=a.map (Xm .i64)
def Av{w:F}{base g n:Nat}{e:Vc}{b:List U}(h:w.ownsRow base e 1 (.slice (I ⟨g,0,K⟩) n n) n b):w.heap[g]? =I (.cells b.toArray e (0,0)):=by
 rcases h.2 with⟨a,_⟩|⟨k,j,c,a,_,d,_,_,f,i⟩
 ·simp at a
 ·simp only[V7,VY,Xk,and_true,true_and] at a;obtain⟨rfl,rfl⟩:=a;rw[d];have:c.toList=b:=by rw[<-i];exact(VJ (by simp[f])).symm
  rw[<-this]
def sR(a:List Int)(i:Nat)(h:i<a.length):(bq a)[i]? =I (.int .i64 a[i]):=by simp[bq,h]
end Pk
end Go.Proofs.YtjidbonhhpkljabGreat
namespace Go.Proofs.YtjidbonhhpkljabGreat.Pm
end Go.Proofs.YtjidbonhhpkljabGreat.Pm
namespace Go.Proofs.YtjidbonhhpkljabGreat.Pk
open Go.RowKit Go.Proofs.YtjidbonhhpkljabGreat.Pm
def bytesOf(s:ByteArray):List Nat:=s.data.toList.map UInt8.toNat
def jr(s:ByteArray):∀x∈bytesOf s,x<256:=by
 intro x a;obtain⟨b,_,rfl⟩:=Wu.1 a;exact b.toNat_lt
def ak(s:ByteArray):(bytesOf s).length=s.size:=by simp[bytesOf]
def vS(s:ByteArray)(j:Nat)(h:j<s.size):(bytesOf s)[j]'(by rw[ak];exact h)=s[j].toNat:=by
 simp only[bytesOf,List.getElem_map];rfl
def jQ (l:List Nat):List Int:=l.map (fun(a:Nat)=>(a:Int))
def jE(a:List Int)(x:Int):bq a++[.int .i64 x]=bq (a++[x]):=by simp[bq]
end Go.Proofs.YtjidbonhhpkljabGreat.Pk
namespace Go.Proofs.YtjidbonhhpkljabGreat
namespace Pk
open Go.RowKit Pm
def r9(a:List Nat)(h:∀x∈a,x<256):bytesOf (strOf a)=a:=by
 unfold bytesOf strOf strOfNums;simp only[List.map_map];have:∀x∈a,(UInt8.toNat ∘ (fun(b:Int)=>UInt8.ofNat b.toNat) ∘ fun(b:Nat)=>(b:Int)) x=x:=by
  intro x c;have:=h x c;simp;omega
 rw[List.map_congr_left this];simp
def nK{s t:ByteArray}(h:bytesOf s=bytesOf t):s=t:=by
 have a:s.data.toList=t.data.toList:=by
  unfold bytesOf at h;exact List.map_inj_right (λc d b=>UInt8.toNat_inj.1 b) |>.1 h
 cases s;cases t;simp at a;simp[a]
def toList_inj{s t:ByteArray}(h:s.toList=t.toList):s=t:=by
 have b:∀a:ByteArray,a.toList=a.data.toList:=λa=>ByteArray.toList_eq a;rw[b,b] at h;cases s;cases t;simp at h;simp[h]
end Pk
end Go.Proofs.YtjidbonhhpkljabGreat
namespace Go.Proofs.YtjidbonhhpkljabGreat.Ec
open Go.RowKit Go.Proofs.YtjidbonhhpkljabGreat.Pk
structure aC where
 null:Bool
 n:Int
 s:ByteArray
def aC.agg(v:aC):U:=.agg #[.bool v.null,.int .i64 v.n,.string v.s]
def az (l:List aC):List U:=l.flatMap λv=>[.bool v.null,.int .i64 v.n,.string v.s]
structure DY(w:F)(ao:Option VI)(b off:Nat)(l:List aC):Prop where
 addr:0<l.length->ao=I ⟨b,off,K⟩
 lt:0<l.length->b<w.heap.size
 c0:∀j (h:j<l.length),w.cell? ⟨b,off+j*3,K⟩=I (.bool l[j].null)
 c1:∀j (h:j<l.length),w.cell? ⟨b,off+j*3+1,K⟩=I (.int .i64 l[j].n)
 c2:∀j (h:j<l.length),w.cell? ⟨b,off+j*3+2,K⟩=I (.string l[j].s)
def DY.below{w w':F}{e:Option VI}{b off:Nat}{l:List aC}(h:DY w e b off l)(d:aQ w w'):DY w' e b off l:=
 ⟨h.addr,λf=>U9 (h.lt f) d.size,
  λa c=>(d.cell (p:=⟨b,off+a*3,K⟩) (h.lt (by omega))).trans (h.c0 a c),
  λa c=>(d.cell (p:=⟨b,off+a*3+1,K⟩) (h.lt (by omega))).trans (h.c1 a c),
  λa c=>(d.cell (p:=⟨b,off+a*3+2,K⟩) (h.lt (by omega))).trans (h.c2 a c)⟩
def Ge (x y:aC):Bool:=(x.null==y.null)&&(x.n==y.n)&&(x.s.toList==y.s.toList)
def mq{x y:aC}:Ge x y=Z↔x=y:=by
 unfold Ge;constructor
 ·intro a;simp only[Vr,beq_iff_eq] at a;obtain⟨⟨b,c⟩,d⟩:=a;cases x;cases y;simp only at b c d;rw[b,c,toList_inj d]
 ·rintro rfl;simp
def wC(w:F)(x y:aC):(binOp .neq 54 (.agg #[.bool x.null,.int .i64 x.n,.string x.s]) (.agg #[.bool y.null,.int .i64 y.n,.string y.s])).run (ax U1) w= .ok (.bool (!Ge x y)) w:=by
 go_simp;unfold Ge;by_cases a:x.null=y.null<;>by_cases b:x.n=y.n<;>by_cases c:x.s.toList=y.s.toList<;>simp[a,b,c]
def zF(c d:List aC)(v x:Option VI)(b off cap b2 q I:Nat)(w:F)(J:c.length<=Vp)(K:d.length<=Vp)
 (h1:DY w v b off c) (j:DY w x b2 q d):
 bK 19 #[.slice v c.length cap,.slice x d.length I] w λe w'=>∃b,e= .returned (.bool b)/\(b=Z↔c=d)/\∃n,w'=w.drewN n:=by
 unfold Vp at J K;by_cases o:c.length=d.length
 ·have z:((c.length:Int) !=(d.length:Int))=U5:=by simp[o]
  have u:=af o;clear o;go_enter av.func19,Tryz.ntmps19
  go_wp2_with fail
  clear z
  go_loopw [5] (λt wr=>∃a:Nat,a<=c.length/\t= .int .i64 a/\c.take a=d.take a/\∃n,wr=w.drewN n) (λt _=>c.length-(V3 t).toNat)
  case atStart=>exact⟨0,VB _,rfl,rfl,0,rfl⟩
  case round=>
   obtain⟨a,L,rfl,B,n,f⟩:=hrel;have r:=af B;clear B;by_cases l:a<c.length
   ·have p:a<d.length:=by rw[<-u.o];exact l
    obtain rfl:=h1.addr (by omega);obtain rfl:=j.addr (by omega);have M:cD wr b (off+a*3) (.bool c[a].null):=by rw[f];exact h1.c0 a l
    have N:cD wr b (off+a*3+1) (.int .i64 c[a].n):=by rw[f];exact h1.c1 a l
    have O:cD wr b (off+a*3+2) (.string c[a].s):=by rw[f];exact h1.c2 a l
    have P:cD wr b2 (q+a*3) (.bool d[a].null):=by rw[f];exact j.c0 a p
    have Q:cD wr b2 (q+a*3+1) (.int .i64 d[a].n):=by rw[f];exact j.c1 a p
    have R:cD wr b2 (q+a*3+2) (.string d[a].s):=by rw[f];exact j.c2 a p
    have m:=af f;have i:X (c[a]≠d[a]->c≠d):=λg e=>g (by subst e;rfl);have s:X (c[a]=d[a]->c.take (a+1)=d.take (a+1)):=λg=>by rw[Vh l,Vh p,r.o,g]
    have A:=λw=>wC w c[a] d[a];clear f h1 j r;generalize c[a]=C at*;generalize d[a]=D at*;by_cases h:C=D
    ·have k:=mq.2 h;have H:=af (s.o h);rw[k] at A;clear s i h k
     go_wp2_with fail
     go_quiet (fail)
     go_wp2
     go_roundw
     case rel=>exact⟨a+1,by omega,by go_num,H.o,n+nq,by rw[m.o];exact Yi _ _ _⟩
     case measure=>simp[V3];omega
    ·have k:Ge C D=U5:=by rw[Bool.eq_false_iff];intro g;exact h (mq.1 g)
     have G:=af (i.o h);rw[k] at A;clear s i h k
     go_wp2_with fail
     go_quiet (fail)
     go_wp2;go_ret;exact⟨U5,rfl,by simp;exact G.o,n+nq,by rw[m.o];exact Yi _ _ _⟩
   ·have y:c=d:=by
     have:=r.o;rwa [VJ (by omega),VJ (by rw[<-u.o];omega)] at this
    have E:=af y;have m:=af f;clear y f;go_wp2;go_ret;exact⟨Z,rfl,by simp;exact E.o,n,m.o⟩
 ·have z:((c.length:Int) !=(d.length:Int))=Z:=by simp;omega
  have i:X (c≠d):=λg=>o (by rw[g]);go_enter av.func19,Tryz.ntmps19;go_wp2;go_ret;exact⟨U5,rfl,by simp;exact i.o,0,rfl⟩
end Go.Proofs.YtjidbonhhpkljabGreat.Ec
namespace Go.Proofs.YtjidbonhhpkljabGreat
abbrev j9(x:Ec.aC):Array U:= #[.bool x.null,.int .i64 x.n,.string x.s]
end Go.Proofs.YtjidbonhhpkljabGreat
namespace Go.Proofs.YtjidbonhhpkljabGreat
namespace Ec
open Go.RowKit Pk Pm
structure aY(w w':F)(v v':U):Prop where
 gZ:w.grownBy w' v.ownBlock
 at_:∀g,v'.ownBlock=I g->v.ownBlock=I g\/w.heap.size<=g
def aY.refl(w:F)(v:U):aY w w v v:=⟨ZR w _,λ_ a=>.inl a⟩
def aY.trans{w g h:F}{v v1 v2:U}(h1:aY w g v v1)(b:aY g h v1 v2):aY w h v v2:=by
 refine⟨⟨b.gZ.os.trans h1.gZ.os,b.gZ.tape.trans h1.gZ.tape,b.gZ.output.trans h1.gZ.output,Vm h1.gZ.size b.gZ.size,?_⟩,?_⟩
 ·intro c e f;rw[b.gZ.block c (U9 e h1.gZ.size) (λj=>?_),h1.gZ.block c e f];rcases h1.at_ c j.symm with a|a
  ·exact f a.symm
  ·omega
 ·intro d i;rcases b.at_ d i with a|a
  ·exact h1.at_ d a
  ·exact .inr (Vm h1.gZ.size a)
def aY.alloc{w a:F}{v v1:U}(h:aY w a v v1)(o:Yk):aY w (a.alloc o) v v1:=
 h.trans ⟨World.grownBy_alloc a o _,λ_ h=>.inl h⟩
def aY.drewN{w a:F}{v v1:U}(h:aY w a v v1)(n:Nat):aY w (a.drewN n) v v1:=
 h.trans ⟨⟨rfl,rfl,rfl,U7 _,λ_ _ _=>rfl⟩,λ_ h=>.inl h⟩
def aY.below{w w':F}{v c:U}{base:Nat}(h:aY w w' v c)(b:∀g,v.ownBlock=I g->base<=g)(a:base<=w.heap.size):XC base w w':=
 (Vi base w).grown h.gZ a b
def aY.append{w b:F}{v v1:U}{e k n:Nat}{l:List U}{o:Yk}
 (h:((w.alloc o).grownBy b K/\b.ownsRow (w.alloc o).heap.size e k v1 n l)\/(v1.ownBlock=v.ownBlock/\(w.alloc o).grownBy b v.ownBlock)):aY w b v v1:=by
 have g:=(aY.refl w v).alloc o;refine g.trans ?_;rcases h with⟨a,c⟩|⟨a,c⟩
 ·refine⟨⟨a.os,a.tape,a.output,a.size,λj i _=>a.block j i (by simp)⟩,λf d=>.inr (c.lt f d).1⟩
 ·exact⟨c,λf d=>.inl (by rw[<-a];exact d)⟩
def jS(w:F)(a:U)(t:Vc):∀(j:Nat) (u:U),[a][j]? =I u->(w.alloc (.cells #[a] t)).cell? ((⟨w.heap.size,0,K⟩:VI).add j)=I u:=by
 intro j u b
 match j,b with
 |0,b=>simp at b;subst b;simp[Zl]
def lC(x:Int):∀u∈[Xm .u8 x],u.oneCell'=Z:=by
 intro u a;simp at a;subst a;rfl
def TO(n:Nat):bits .or .u8 ((n:Int)%256) 128=((n%128+128:Nat):Int):=by
 have a:=(bits_nat .u8 8 (by decide) wraps_u8 (n%256) 128 (by omega) (by omega)).2;rw[show((n%256:Nat):Int)=(n:Int)%256 from by omega,TN (n%256) (by omega)] at a;rw[show(128:Int)=((128:Nat):Int) from rfl,a];omega
def ot(v:U)(pre:List Nat)(n base:Nat)(w:F)(C:n<18446744073709551616)(V:pre.length<=4000000)(R:base<=w.heap.size)
 (g:w.ownsRow base 5 1 v pre.length (aF pre)):
 bK 76 #[v,.int .u64 n] w λe w'=>∃l,e= .returned l/\w'.ownsRow base 5 1 l (pre++aH n).length (aF (pre++aH n))/\aY w w' v l:=by
 obtain⟨I,A,E,G,H⟩:=Wo av.tQ;go_enter av.func76,Tryz.ntmps76
 go_wp2_with fail
 go_loopw [0,1] (λs k wr=>∃(f m:Nat) (a:List Nat),f<=9/\k= .int .u64 m/\m<128^(f+1)/\m<18446744073709551616/\a.length+f=9/\a++jl (f+1) m=aH n/\wr.ownsRow base 5 1 s (pre++a).length (aF (pre++a))/\aY w wr v s/\w.heap.size<=wr.heap.size) (λ_ k _=>(V3 k).toNat)
 case atStart=>exact⟨9,n,[],by omega,rfl,KH n C,C,rfl,rfl,by simpa using g,aY.refl _ _,U7 _⟩
 case round=>
  obtain⟨f,m,a,S,rfl,B,W,u,x,g,y,aa⟩:=hrel;have q:X (m<128^(f+1)):=B;have o:X (a++jl (f+1) m=aH n):=x;have L:X (a.length+f=9):=u;have Z:(pre++a).length<=4000009:=by simp;omega
  clear B x u;have p:X (aY w wr v u0):=y;clear y;have M:X (∃b,b=pre++a):=⟨_,rfl⟩;generalize D:pre++a=b at*;have r:X (pre++a=b):=D;clear D M;by_cases t:m<128
  ·have ab:Zs.wrap (m:Int)=(m:Int):=IV (by omega) (by omega)
   go_wp2_with (at_builtin;refine aZ _ Y _ _ 95 Y base 5 I (.int .u8 0) 1 1 av.underlying95 A E G H Y (by decide) _ b.length _ Y (g.alloc _) ⟨wr.heap.size,0,K⟩ 1 1 [.int .u8 (m:Int)] Y (by decide) Y (jS _ _ _) (lC _) (by unfold Vp;omega) (by omega) (by simp;omega) ?_;intro Q J c i)
   go_ret;refine⟨_,rfl,?_,p.o.trans (aY.append i)⟩;rw[fY] at c;have e:pre++aH n=b++[m]:=by rw[<-o.o,gm f m t,<-r.o,Vu]
   rw[e];simpa using c
  ·have O:=TO m;obtain⟨d,j⟩:∃d,d=m%128+128:=⟨_,rfl⟩;rw[<-j] at O;have T:0<f:=by
    rcases Yv f with h|h
    ·subst h;have:=q.o;simp at this;omega
    ·exact h
   have N:X (d=m%128+128):=j;clear j
   go_wp2_with (at_builtin;refine aZ _ Y _ _ 95 Y base 5 I (.int .u8 0) 1 1 av.underlying95 A E G H Y (by decide) _ b.length _ Y (g.alloc _) ⟨wr.heap.size,0,K⟩ 1 1 [.int .u8 (d:Int)] Y (by decide) Y (jS _ _ _) (lC _) (by unfold Vp;omega) (by omega) (by simp;omega) ?_;intro Q J c i)
   have z:=p.o.trans (aY.append i);have P:w.heap.size<=J.heap.size:=z.gZ.size;rw[fY] at c;refine⟨⟨f-1,m/128,a++[d],by omega,by go_num,?_,by omega,by have:=L.o;simp;omega,?_,?_,z,P⟩,by simp[V3];omega⟩
   ·have:=Sw f m q.o;rwa [show f-1+1=f by omega]
   ·rw[<-o.o,iR f m t,show f-1+1=f by omega,N.o,Vu];rfl
   ·rw[<-Vu,r.o];simpa using c
def wrap_u64(n:Int):Xu.wrap n=n%18446744073709551616:=by simp[IntKind.wrap,Zf,YV]
def xor_zero(x:Nat)(a:x<18446744073709551616):bits .xor .u64 (x:Int) 0=(x:Int):=by
 show Xu.wrap (((Yf 64 (x:Int))^^^(Yf 64 0)).toNat:Int)=_;rw[BitVec.ofInt_natCast,show Yf 64 0=0#64 from rfl,BitVec.xor_zero,BitVec.toNat_ofNat,wrap_u64];omega
def O5(x:Nat)(a:x<18446744073709551616):bits .xor .u64 (x:Int) 18446744073709551615=((18446744073709551615-x:Nat):Int):=by
 show Xu.wrap (((Yf 64 (x:Int))^^^(Yf 64 18446744073709551615)).toNat:Int)=_;rw[BitVec.ofInt_natCast,show Yf 64 18446744073709551615=BitVec.allOnes 64 from by decide +kernel,BitVec.xor_allOnes,BitVec.toNat_not,BitVec.toNat_ofNat,wrap_u64];omega
def Pb(n:Int)(e: -9223372036854775808<=n)(h1:n<=9223372036854775807):
 bits .xor .u64 (Xu.wrap (Wj (n*2))) (Xu.wrap (n/9223372036854775808))=(zz n:Int):=by
 by_cases d:n<0
 ·have c:Xu.wrap (n/9223372036854775808)=18446744073709551615:=by rw[wrap_u64];omega
  obtain⟨b,a⟩:∃b:Nat,Xu.wrap (Wj (n*2))=(b:Int):=⟨(Xu.wrap (Wj (n*2))).toNat,by rw[wrap_u64];omega⟩;rw[a,c];rw[wrap_u64] at a;unfold Wj at a;rw[O5 b (by omega)];unfold zz;rw[if_pos d];omega
 ·have c:Xu.wrap (n/9223372036854775808)=0:=by rw[wrap_u64];omega
  obtain⟨b,a⟩:∃b:Nat,Xu.wrap (Wj (n*2))=(b:Int):=⟨(Xu.wrap (Wj (n*2))).toNat,by rw[wrap_u64];omega⟩;rw[a,c];rw[wrap_u64] at a;unfold Wj at a;rw[xor_zero b (by omega)];unfold zz;rw[if_neg d];omega
def gC (k:Int):Bool:=decide (1<=k)&&decide (k<=3)
def bw (k e:Int):Bool:=((e==0||e==2)&&gC k)||(e==1&&k==1)||(e==3&&k==2)
def o6(k:Int)(w:F):bK 75 #[.int .i64 k] w λe w'=>e= .returned (.bool (gC k))/\w'=w:=by
 by_cases a:1<=k<;>by_cases b:k<=3
 all_goals
  go_enter av.func75,Tryz.ntmps75;go_wp2
  all_goals go_ret
  all_goals exact⟨by simp[gC,a,b],rfl⟩
def Cr(e:Int):e=0\/e=1\/e=2\/e=3\/((e==0)=U5/\(e==1)=U5/\(e==2)=U5/\(e==3)=U5):=by
 by_cases a:e=0
 ·exact .inl a
 by_cases b:e=1
 ·exact .inr (.inl b)
 by_cases c:e=2
 ·exact .inr (.inr (.inl c))
 by_cases d:e=3
 ·exact .inr (.inr (.inr (.inl d)))
 exact .inr (.inr (.inr (.inr ⟨by simpa using a,by simpa using b,by simpa using c,by simpa using d⟩)))
def p7(k e:Int)(w:F):bK 52 #[.int .i64 k,.int .i64 e] w λr w'=>r= .returned (.bool (bw k e))/\w'=w:=by
 have g:∀a:Bool,(a||false)=a:=by simp
 rcases Cr e with rfl|rfl|rfl|rfl|⟨b,c,d,f⟩
 ·rw[show bw k 0=gC k from by simp[bw]];go_enter av.func52,Tryz.ntmps52
  go_wp2_with (go_at_call 75;refine(o6 k _).mono ?_;rintro e w' ⟨rfl,rfl⟩)
  go_ret;exact⟨rfl,rfl⟩
 ·rw[show bw k 1=(k==1) from by simp[bw]];go_enter av.func52,Tryz.ntmps52;go_wp2
  all_goals go_ret
  all_goals exact⟨rfl,rfl⟩
 ·rw[show bw k 2=gC k from by simp[bw]];go_enter av.func52,Tryz.ntmps52
  go_wp2_with (go_at_call 75;refine(o6 k _).mono ?_;rintro e w' ⟨rfl,rfl⟩)
  go_ret;exact⟨rfl,rfl⟩
 ·rw[show bw k 3=(k==2) from by simp[bw]];go_enter av.func52,Tryz.ntmps52;go_wp2
  all_goals go_ret
  all_goals exact⟨rfl,rfl⟩
 ·rw[show bw k e=U5 from by simp[bw,b,c,d,f]];go_enter av.func52,Tryz.ntmps52;go_wp2
  all_goals go_ret
  all_goals exact⟨rfl,rfl⟩
def Nz{k e:Int}(a:(k==1)=U5)(b:(k==2)=U5)(f:(k==3)=U5):bw k e=U5:=by
 have d:gC k=U5:=by
  simp at a b f;unfold gC;by_cases c:1<=k
  ·have:¬k<=3:=by omega
   simp[this]
  ·simp[c]
 simp[bw,d,a,b]
def Qb{k e:Int}(a:(e==0)=U5)(h1:(e==1)=U5)(b:(e==2)=U5)(c:(e==3)=U5):bw k e=U5:=by simp[bw,a,h1,b,c]
def js (n k e:Int):Int:=if n<0\/100<n then 6 else if bw k e then 0 else 2
def pW(n k e:Int)(w:F):bK 78 #[.int .i64 n,.int .i64 k,.int .i64 e] w λr w'=>r= .returned (.int .i64 (js n k e))/\w'=w:=by
 by_cases b:n<0\/100<n
 ·have a:=qx n w;rw[show GC n=6 from by simp[GC,b]] at a;rw[show js n k e=6 from by simp[js,b]];go_enter av.func78,Tryz.ntmps78
  go_wp2_with (go_at_call 89;refine a.mono ?_;rintro e w' ⟨rfl,rfl⟩)
  all_goals go_ret
  all_goals exact⟨rfl,rfl⟩
 ·have a:=qx n w;rw[show GC n=0 from by simp[GC,b]] at a;have c:=p7 k e;by_cases d:bw k e=Z
  ·rw[show js n k e=0 from by simp[js,b,d]];rw[d] at c;go_enter av.func78,Tryz.ntmps78
   go_wp2_with (first|(go_at_call 89;refine a.mono ?_;rintro e w' ⟨rfl,rfl⟩)|(go_at_call 52;refine(c _).mono ?_;rintro e w' ⟨rfl,rfl⟩))
   all_goals go_ret
   all_goals exact⟨rfl,rfl⟩
  ·have f:bw k e=U5:=by simpa using d
   rw[show js n k e=2 from by simp[js,b,f]];rw[f] at c;go_enter av.func78,Tryz.ntmps78
   go_wp2_with (first|(go_at_call 89;refine a.mono ?_;rintro e w' ⟨rfl,rfl⟩)|(go_at_call 52;refine(c _).mono ?_;rintro e w' ⟨rfl,rfl⟩))
   all_goals go_ret
   all_goals exact⟨rfl,rfl⟩
def dB(v:U)(pre:List Nat)(n base:Nat)(w:F)(i:n<2147483648)(g:pre.length<=4000000)(f:base<=w.heap.size)
 (h:w.ownsRow base 5 1 v pre.length (aF pre)):
 bK 53 #[v,.int .i64 n] w λe w'=>∃a,e= .returned a/\w'.ownsRow base 5 1 a (pre++aH n).length (aF (pre++aH n))/\aY w w' v a:=by
 have b:X (bK 76 #[v,.int .u64 n] w λe w'=>∃a,e= .returned a/\w'.ownsRow base 5 1 a (pre++aH n).length (aF (pre++aH n))/\aY w w' v a):=
  ot v pre n base w (by omega) g f h
 go_enter av.func53,Tryz.ntmps53
 go_wp2_with fail
 refine b.o.mono ?_;rintro e w' ⟨a,rfl,c,d⟩;go_wp2;go_ret;exact⟨_,rfl,c,d⟩
def Em(n:Int)(a: -9223372036854775808<=n)(h1:n<=9223372036854775807)(w:F):
 bK 88 #[.int .i64 n] w λe w'=>e= .returned (.int .u64 (zz n))/\w'=w:=by
 have b:=Pb n a h1;go_enter av.func88,Tryz.ntmps88;go_wp2;go_ret;exact⟨rfl,rfl⟩
def gD (v:aC)(k:Int):Bool:=
 if v.null then(v.n==0)&&(v.s.toList==[]) else if k==1 then v.s.toList==[] else if k==2 then(v.n==0||v.n==1)&&(v.s.toList==[]) else(v.n==0)&&decide ((v.s.size:Int)<=32)
def qO{a b:Bool}(h:a=b):Ending.returned (.bool a)= .returned (.bool b):=by rw[h]
def ru(v:aC)(k:Int)(w:F)(a:k=1\/k=2\/k=3):
 bK 48 #[.agg (j9 v),.int .i64 k] w λe w'=>e= .returned (.bool (gD v k))/\aQ w w':=by
 have b:=o6 k;rw[show gC k=Z from by rcases a with rfl|rfl|rfl<;>rfl] at b;cases c:v.null
 ·rcases a with rfl|rfl|rfl
  all_goals
   go_enter av.func48,Tryz.ntmps48;go_wp2
   all_goals go_ret
   all_goals refine⟨qO ?_,(Vi _ _).alloc (U7 _) _⟩
   all_goals rw[Bool.eq_iff_iff]
   all_goals simp[gD, *]
   all_goals try omega
 ·rcases a with rfl|rfl|rfl
  all_goals
   go_enter av.func48,Tryz.ntmps48
   go_wp2_with (go_at_call 75;refine(b _).mono ?_;rintro e w' ⟨rfl,rfl⟩)
   all_goals go_ret
   all_goals refine⟨qO ?_,(Vi _ _).alloc (U7 _) _⟩
   all_goals rw[Bool.eq_iff_iff]
   all_goals simp[gD, *]
   all_goals try omega
def dz (x:Int):List Int->Nat
 | []=>0
 |y::a=>if y=x then dz x a+1 else 0
def byteOf(x:Int):Nat:=(x%256).toNat
def iC:Nat->List Int->List Nat
 |0,_=>[]
 |f+1,b=>match b with
  | []=>[]
  |x::a=>aH (dz x (x::a))++([byteOf x]++iC f ((x::a).drop (dz x (x::a))))
def cC (l:List Int):List Nat:=iC l.length l
def BP(x:Int)(l:List Int):dz x l<=l.length:=by
 induction l with
 |nil=>simp[dz]
 |cons c b a=>simp only[dz];split<;>simp<;>omega
def Lj(x:Int)(l:List Int)(n:Nat)(h:n<dz x l):∃e:n<l.length,l[n]=x:=by
 induction l generalizing n with
 |nil=>simp[dz] at h
 |cons g f d=>
  simp only[dz] at h
  split at h
  ·rename_i c;cases n with
   |zero=>exact⟨by simp,by simpa using c⟩
   |succ m=>
    obtain⟨a,b⟩:=d m (by omega);exact⟨by simp;exact a,by simpa using b⟩
  ·omega
def zD(x:Int)(l:List Int)(h:dz x l<l.length):l[dz x l]≠x:=by
 induction l with
 |nil=>simp at h
 |cons c d b=>
  simp only[dz] at h ⊢;by_cases a:c=x
  ·simp only[a,if_true] at h ⊢;have:=b (by simpa using h);simpa using this
  ·simp only[a,if_false] at h ⊢;simpa using a
def l9 (a:List Int)(i:Nat):Nat:=dz (a.getD i 0) (a.drop i)
def Li(a:List Int)(i:Nat)(h:i<a.length):0<l9 a i:=by
 unfold l9;rw[Xy h,fp h];simp[dz]
def N7(a:List Int)(i:Nat)(h:i<a.length):i+l9 a i<=a.length:=by
 have:=BP (a.getD i 0) (a.drop i);unfold l9;rw[Yd] at this;omega
def N6(a:List Int)(i n:Nat)(h:n<l9 a i):∃e:i+n<a.length,a[i+n]=a.getD i 0:=by
 obtain⟨b,c⟩:=Lj _ _ n h;have d:i+n<a.length:=by simp at b;omega
 exact⟨d,by simpa using c⟩
def Lh(a:List Int)(i:Nat)(h:i+l9 a i<a.length):a[i+l9 a i]≠a.getD i 0:=by
 have:=zD (a.getD i 0) (a.drop i) (by unfold l9 at h;rw[Yd];omega);simpa [l9] using this
def Ia(f:Nat)(a:List Int)(i:Nat)(h:i<a.length):iC (f+1) (a.drop i)=aH (l9 a i)++([byteOf (a.getD i 0)]++iC f (a.drop (i+l9 a i))):=by
 unfold l9;rw[Xy h,fp h];simp only[iC];rw[<-Xy h,List.drop_drop]
def Lo(f:Nat)(a:List Int)(i:Nat)(h:¬i<a.length):iC f (a.drop i)=[]:=by
 rw[List.drop_of_length_le (by omega)];cases f<;>rfl
def oy(x:Int):byteOf x<256:=by unfold byteOf;omega
def mO(x:Int):x%256=(byteOf x:Int):=by unfold byteOf;omega
def Dc(f:Nat)(l:List Int):(iC f l).length<=11*f:=by
 induction f generalizing l with
 |zero=>simp[iC]
 |succ f c=>
  cases l with
  |nil=>simp[iC]
  |cons a b=>
   simp only[iC];have d:=eO 10 (dz a (a::b));have e:=c ((a::b).drop (dz a (a::b)));simp only[U8,List.length_singleton];unfold aH;omega
def qp(v:U)(pre:List Nat)(a:List Int)(a6:Option VI)(b off cap base:Nat)(w:F)(b5:a.length<=100)(ck:pre.length<=100000)(a8:base<=w.heap.size)
 (b2:0<a.length->a6=I ⟨b,off,K⟩) (cb:0<a.length->b<w.heap.size) (au:0<a.length->v.ownBlock≠I b) (hc:∀j,j<a.length->cD w b (off+j) (.int .i64 (a.getD j 0)))
 (t:w.ownsRow base 5 1 v pre.length (aF pre)):
 bK 90 #[v,.slice a6 a.length cap] w λe w'=>∃p,e= .returned p/\w'.ownsRow base 5 1 p (pre++cC a).length (aF (pre++cC a))/\aY w w' v p:=by
 obtain⟨bs,bc,bm,bo,br⟩:=Wo av.tQ;go_enter av.func90,Tryz.ntmps90
 go_wp2_with fail
 go_loopw [0,5] (λa7 a1 wr=>∃(c f:Nat) (i:List Nat),c<=a.length/\a1= .int .i64 c/\a.length<=c+f/\f<=100/\i.length+11*f<=1100/\i++iC f (a.drop c)=cC a/\wr.ownsRow base 5 1 a7 (pre++i).length (aF (pre++i))/\aY w wr v a7) (λ_ a1 _=>a.length-(V3 a1).toNat)
 case atStart=>exact⟨0,a.length,[],VB _,rfl,by omega,b5,by simp;omega,rfl,by simpa using t,aY.refl _ _⟩
 case round=>
  clear t;obtain⟨c,f,i,ch,rfl,ci,cf,cc,a9,t,am⟩:=hrel
  rename F=>a2
  have R:=af a9;have N:=af am;have cv:w.heap.size<=a2.heap.size:=am.gZ.size;clear a9 am;have cp:(pre++i).length<=200000:=by simp;omega
  generalize bi:pre++i=n at*;have W:=af bi;clear bi;by_cases y:c<a.length
  ·obtain rfl:=b2 (by omega);have al:∀j,j<a.length->cD a2 b (off+j) (.int .i64 (a.getD j 0)):=λj b0=>N.o.gZ.cell (hc j b0) (λu=>au (by omega) u.symm);have a3:=af al;have a4:=af (Ia (f-1) a c y);have cu:=Li a c y;have cs:=N7 a c y;have bu:X (∀k,k<l9 a c->∃P:c+k<a.length,a[c+k]=a.getD c 0):=λk P=>N6 a c k P;have bv:X (∀u:c+l9 a c<a.length,a[c+l9 a c]≠a.getD c 0):=λu=>Lh a c u;have O:=al c y;clear al;generalize l9 a c=d at*;generalize bk:a.getD c 0=h at*;have a5:=af bk;clear bk
   go_wp2_with fail
   go_loopw [6] (λj ca=>∃m:Nat,c+1<=m/\m<=c+d/\j= .int .i64 (m:Int)/\∃k,ca=a2.drewN k) (λj _=>a.length+1-(V3 j).toNat)
   case atStart=>exact⟨c+1,by omega,by omega,by go_num,0,rfl⟩
   case round=>
    obtain⟨m,cl,cn,rfl,k,l⟩:=hrel;have bz:=af l;have ba:cD wr b (off+c) (.int .i64 h):=by rw[l];exact O
    by_cases be:m<c+d
    ·obtain⟨P,bj⟩:=bu.o (m-c) (by omega);have s:m<a.length:=by omega
     have G:cD wr b (off+m) (.int .i64 h):=by
      rw[l];have:=a3.o m s;rw[fp s] at this;rw[show a[m]=h from by rw[<-bj];congr 1;omega] at this;exact this
     have bb:decide ((m:Int)<(a.length:Int))=Z:=by simpa using s
     clear O l t P bj
     go_wp2_with fail
     go_quiet (fail)
     go_wp2
     go_roundw
     case rel=>exact⟨m+1,by omega,by omega,by go_num,k+nq,by rw[bz.o];exact Yi _ _ _⟩
     case measure=>simp[V3];omega
    ·have A:X (m=c+d):=by show m=c+d;omega
     have co:c<=m:=by omega
     have bx:X (Wj ((m:Int)-(c:Int))=(d:Int)):=by have:=A.o;show _=_;unfold Wj;omega
     by_cases s:m<a.length
     ·have G:∃x,cD wr b (off+m) (.int .i64 x)/\x≠h:=by
       refine⟨a.getD m 0,by rw[l];exact a3.o m s,?_⟩;have e:=A.o;clear bx;subst e;rw[fp s];exact bv.o s
      obtain⟨x,G,bl⟩:=G;have bb:decide ((m:Int)<(a.length:Int))=Z:=by simpa using s
      have cd:(x==h)=U5:=by simpa using bl
      have V:X (∀g,(wr.drewN g).ownsRow base 5 1 u0 n.length (aF n)):=λg=>by rw[l];exact aR t (below_drewN (below_drewN (Vi _ _) k) g)
      have B:X (∀g,aY w (wr.drewN g) v u0):=λg=>by rw[l];exact(N.o.drewN k).drewN g
      clear O l t be bl
      go_wp2_with fail
      go_quiet (fail)
      try clear G
      have a0:Zs.wrap h=h%256:=by simp[IntKind.wrap,Zf,YV]
      rw[mO] at a0;have bB:=oy h;have S:X (∃x,x=byteOf h):=⟨_,rfl⟩;generalize L:byteOf h=q at*;have bA:=af L;clear S L;have b4:=eO 10 d;have aa:X (∃g,g=n++aH d):=⟨_,rfl⟩;generalize z:n++aH d=o at*;have b1:o.length<=200010:=by rw[<-z,U8];unfold aH;omega
      have C:=af z;clear z aa;have Q:X (bK 53 #[u0,.int .i64 ((m:Int)-(c:Int))] (wr.drewN nq) λe w'=>∃p,e= .returned p/\w'.ownsRow base 5 1 p o.length (aF o)/\aY (wr.drewN nq) w' u0 p):=by
       have D:=dB u0 n d base (wr.drewN nq) (by omega) (by omega) (Vm a8 (B.o nq).gZ.size) (V.o nq);rw[C.o] at D;rw[show(m:Int)-(c:Int)=(d:Int) from by have:=A.o;omega];exact D
      go_wp2_with first
       |(go_at_call 53;refine Q.o.mono ?_;rintro e M ⟨b6,rfl,aw,H⟩;have r:=(B.o nq).trans H;have ae:=r.gZ.cell (hc c y) (λu=>au (by omega) u.symm);have T:=af r;have b3:w.heap.size<=M.heap.size:=r.gZ.size;rw[a5.o] at ae;clear r H ba)
       |(at_builtin;refine aZ _ Y _ _ 95 Y base 5 bs (.int .u8 0) 1 1 av.underlying95 bc bm bo br Y (by decide) _ o.length _ Y (aw.alloc _) ⟨M.heap.size,0,K⟩ 1 1 [.int .u8 (q:Int)] Y (by decide) Y (jS _ _ _) (lC _) (by unfold Vp;omega) (by omega) (by simp;omega) ?_;intro b7 b8 J ao)
      have ar:=T.o.trans (aY.append ao);rw[fY] at J;have ab:pre++(i++(aH d++[q]))=o++[q]:=by rw[<-C.o,<-W.o];simp[Vu]
      have ad:(i++(aH d++[q]))++iC (f-1) (a.drop m)=cC a:=by
       have E:=a4.o;rw[show f-1+1=f by omega] at E;rw[<-R.o,E,A.o];simp[Vu]
      refine⟨⟨m,f-1,i++(aH d++[q]),by omega,rfl,by omega,by omega,?_,ad,?_,ar⟩,by simp[V3];omega⟩
      ·rw[U8,U8];unfold aH;simp;omega
      ·rw[ab];simpa using J
     ·have bb:decide ((m:Int)<(a.length:Int))=U5:=by simpa using s
      have V:X (∀g,(wr.drewN g).ownsRow base 5 1 u0 n.length (aF n)):=λg=>by rw[l];exact aR t (below_drewN (below_drewN (Vi _ _) k) g)
      have B:X (∀g,aY w (wr.drewN g) v u0):=λg=>by rw[l];exact(N.o.drewN k).drewN g
      clear O l t be
      go_wp2_with fail
      go_quiet (fail)
      try clear G
      have a0:Zs.wrap h=h%256:=by simp[IntKind.wrap,Zf,YV]
      rw[mO] at a0;have bB:=oy h;have S:X (∃x,x=byteOf h):=⟨_,rfl⟩;generalize L:byteOf h=q at*;have bA:=af L;clear S L;have b4:=eO 10 d;have aa:X (∃g,g=n++aH d):=⟨_,rfl⟩;generalize z:n++aH d=o at*;have b1:o.length<=200010:=by rw[<-z,U8];unfold aH;omega
      have C:=af z;clear z aa;have Q:X (bK 53 #[u0,.int .i64 ((m:Int)-(c:Int))] (wr.drewN nq) λe w'=>∃p,e= .returned p/\w'.ownsRow base 5 1 p o.length (aF o)/\aY (wr.drewN nq) w' u0 p):=by
       have D:=dB u0 n d base (wr.drewN nq) (by omega) (by omega) (Vm a8 (B.o nq).gZ.size) (V.o nq);rw[C.o] at D;rw[show(m:Int)-(c:Int)=(d:Int) from by have:=A.o;omega];exact D
      go_wp2_with first
       |(go_at_call 53;refine Q.o.mono ?_;rintro e M ⟨b6,rfl,aw,H⟩;have r:=(B.o nq).trans H;have ae:=r.gZ.cell (hc c y) (λu=>au (by omega) u.symm);have T:=af r;have b3:w.heap.size<=M.heap.size:=r.gZ.size;rw[a5.o] at ae;clear r H ba)
       |(at_builtin;refine aZ _ Y _ _ 95 Y base 5 bs (.int .u8 0) 1 1 av.underlying95 bc bm bo br Y (by decide) _ o.length _ Y (aw.alloc _) ⟨M.heap.size,0,K⟩ 1 1 [.int .u8 (q:Int)] Y (by decide) Y (jS _ _ _) (lC _) (by unfold Vp;omega) (by omega) (by simp;omega) ?_;intro b7 b8 J ao)
      have ar:=T.o.trans (aY.append ao);rw[fY] at J;have ab:pre++(i++(aH d++[q]))=o++[q]:=by rw[<-C.o,<-W.o];simp[Vu]
      have ad:(i++(aH d++[q]))++iC (f-1) (a.drop m)=cC a:=by
       have E:=a4.o;rw[show f-1+1=f by omega] at E;rw[<-R.o,E,A.o];simp[Vu]
      refine⟨⟨m,f-1,i++(aH d++[q]),by omega,rfl,by omega,by omega,?_,ad,?_,ar⟩,by simp[V3];omega⟩
      ·rw[U8,U8];unfold aH;simp;omega
      ·rw[ab];simpa using J
  ·have bd:=Lo f a c y;have bt:X (pre++cC a=n):=by show _=_;rw[<-R.o,bd,List.append_nil];exact W.o
   clear bd;go_wp2;go_ret;exact⟨_,rfl,by rw[bt.o];exact t,N.o⟩
def ak(s:ByteArray):(bytesOf s).length=s.size:=by
 unfold bytesOf;simp
def j5(s:ByteArray):Lib.strCells s=aF (bytesOf s):=by
 unfold Lib.strCells aF bytesOf;simp
def jr(s:ByteArray):∀x∈bytesOf s,x<256:=by
 intro x a;unfold bytesOf at a;obtain⟨b,_,rfl⟩:=Wu.1 a;exact b.toNat_lt
def rZ{P:Vb}(w:F)(base:Nat)(t u ty e:Vc)(i:XX)(l:P.underlying t=I (.slice e))(m:P.underlying u=I .string)(g:P.info? e=I i)(y:i.zero=I (.int .u8 0))
 (k:i.size=1) (x:i.bytes=1) (v:U) (n:Nat) (f:List U) (h:w.ownsRow base e 1 v n f) (s:ByteArray)
 (r:n+s.size<=Vp) (A:n+s.size<=140737488355328) (H:base<=w.heap.size):
 ∃o w',(YY #[t,u] ty #[v,.string s]).run P w= .ok o w'/\w'.ownsRow base e 1 o (n+s.size) (f++Lib.strCells s)/\aY w w' v o:=by
 obtain⟨o,w',j,N,L,M⟩:=Lib.run_append_own_string (P:=P) w base t u ty e i l m g y k x v n f h s r A H;refine⟨o,w',j,N,L,?_⟩;unfold Vp at r;rcases h.2 with⟨rfl,rfl⟩|⟨d,b,p,rfl,S,C,W,V,B,X⟩
 ·by_cases Q:s.size=0
  ·rw[M.2 ⟨rfl,Q⟩];exact λ_ E=>.inl E
  ·have G:=Lib.run_append_own_string (P:=P) w w.heap.size t u ty e i l m g y k x _ 0 f ⟨h.1,.inl ⟨rfl,rfl⟩⟩ s r A (U7 _);obtain⟨Z,z,a,O,-,-⟩:=G;rw[j] at a;cases a;exact λq c=>.inr (O.lt q c).1
 ·by_cases D:n+s.size<=b
  ·by_cases T:0<b
   ·obtain⟨z,a,-,-⟩:∃z,(YY #[t,u] ty #[.slice (I ⟨d,0,K⟩) n b,.string s]).run P w= .ok (.slice (I ⟨d,0,K⟩) (n+s.size) b) z/\True/\True:=by
     have J:p.size=b:=by simpa using B
     exact⟨_,Lib.run_append_room_string (P:=P) w t u ty e i l m g k d n b p C s D (by omega),trivial,trivial⟩
    rw[j] at a;cases a;exact λq c=>.inl c
   ·have J:p.size=b:=by simpa using B
    have a:=Lib.run_append_room_string (P:=P) w t u ty e i l m g k d n b p C s D (by omega);rw[j] at a;cases a;exact λq c=>.inl c
  ·have R:f.length=n:=by simpa using h.1
   have a:=Lib.run_append_grow_string (P:=P) w t u ty e i (.int .u8 0) l m g y ⟨d,0,K⟩ n b f (by rw[k];simpa using R) (h.cells (g:=d) Y) s (by omega) (by omega) (by rw[x];exact growslice_fits (by omega) (by omega));rw[j] at a;cases a;intro q c;simp[Wz] at c;exact .inr (by omega)
def eP{P:Vb}(w:F){ops:Array Ww}{rest:List Ww}{o:Ww}{a:Xa}{Q:Exit->Xa->F->Prop}(p:o.guard=K)(sl x:V4)(t u:Vc)
 (r:o.op= .call {callee:=.builtin .append,args:= #[sl,x],argTypes:= #[t,u]})
 (base:Nat) (e:Vc) (i:XX) (C:P.underlying t=I (.slice e)) (D:P.underlying u=I .string) (q:P.info? e=I i) (G:i.zero=I (.int .u8 0))
 (B:i.size=1) (l:i.bytes=1) (v:U) (n:Nat) (c:List U) (A:a.eval sl=v) (y:w.ownsRow base e 1 v n c) (s:ByteArray) (E:a.eval x= .string s)
 (g:n+s.size<=Vp) (m:n+s.size<=140737488355328) (k:base<=w.heap.size)
 (h:∀b w',w'.ownsRow base e 1 b (n+s.size) (c++Lib.strCells s)->aY w w' v b->wpList P ops Q rest (a.put o.dst b) w'):wpList P ops Q (o::rest) a w:=by
 refine wpList_plain p λH j=>?_;obtain⟨b,w',z,d,f⟩:=rZ (P:=P) w base t u o.type e i C D q G B l v n c y s g m k;unfold Oper.wp Vw;simp only[r,Y6,invoke,builtin,XW,Sem.run_pure,Result.andThen_ok,List.map_toArray,Yy,List.map_nil,A,E,z];exact j _ _ (h b w' d f)
def aU (k:Int)(v:aC):List Nat:=if k=1 then aH (zz v.n) else if k=2 then[byteOf v.n] else aH v.s.size++bytesOf v.s
def kT(k:Int)(v:aC)(h:v.s.size<=32):(aU k v).length<=42:=by
 have a:=eO 10 (zz v.n);have b:=eO 10 v.s.size;unfold aU
 split
 ·unfold aH;omega
 ·split
  ·simp
  ·rw[U8,ak];unfold aH;omega
structure tv(v:aC):Prop where
 lo: -9223372036854775808<=v.n
 hi:v.n<=9223372036854775807
 sz:v.s.size<=32
def aY.box{w a:F}{v v1:U}{o:Yk}(h:aY (w.alloc o) a v v1):aY w a v v1:=((aY.refl w v).alloc o).trans h
def uK{w a:F}{o:Yk}(h:XC (w.alloc o).heap.size (w.alloc o) a):aQ w a:=
 ((Vi _ _).alloc (U7 _) o).trans (h.mono (by simp))
def Mx{w d:F}{u u1 a b c:U}{t:Vc}(e:u.ownBlock≠I w.heap.size)(h:aY (w.alloc (.cells #[a,b,c] t)) d u u1):cD d w.heap.size 2 c:=
 h.gZ.cell (a:=⟨w.heap.size,2,K⟩) (v:=c) (by simp) (λh=>e h.symm)
def kz(u:U)(pre:List Nat)(v:aC)(k:Int)(base:Nat)(w:F)(A:k=1\/k=2\/k=3)(D:tv v)(R:pre.length<=4000000)(P:base<=w.heap.size)
 (f:w.ownsRow base 5 1 u pre.length (aF pre)):
 bK 77 #[u,.agg (j9 v),.int .i64 k] w λe w'=>∃j,e= .returned j/\w'.ownsRow base 5 1 j (pre++aU k v).length (aF (pre++aU k v))/\aY w w' u j:=by
 obtain⟨r,n,o,p,q⟩:=Wo av.tQ;obtain⟨l,m,O⟩:=D;rcases A with rfl|rfl|rfl
 ·rw[show aU 1 v=aH (zz v.n) from by simp[aU]];have t:=Em v.n l m;have g:X (∀a,bK 76 #[u,.int .u64 (zz v.n)] (w.alloc a) λe w'=>∃b,e= .returned b/\w'.ownsRow base 5 1 b (pre++aH (zz v.n)).length (aF (pre++aH (zz v.n)))/\aY (w.alloc a) w' u b):=λa=>
   ot u pre (zz v.n) base (w.alloc a) (Ca _ l m) (by omega) (by simp;omega) (f.alloc a)
  go_enter av.func77,Tryz.ntmps77
  go_wp2_with first
   |(go_at_call 88;refine(t _).mono ?_;rintro e s ⟨rfl,rfl⟩)
   |(go_at_call 76;refine(g.o _).mono ?_;rintro e s ⟨J,rfl,i,d⟩)
  go_ret;exact⟨_,rfl,i,d.box⟩
 ·rw[show aU 2 v=[byteOf v.n] from by simp[aU]];have E:Zs.wrap v.n=v.n%256:=by simp[IntKind.wrap,Zf,YV]
  rw[mO] at E;generalize byteOf v.n=N at*;go_enter av.func77,Tryz.ntmps77
  go_wp2_with (at_builtin;refine aZ _ Y _ _ 95 Y base 5 r (.int .u8 0) 1 1 av.underlying95 n o p q Y (by decide) _ pre.length _ Y ((f.alloc _).alloc _) ⟨w.heap.size+1,0,K⟩ 1 1 [.int .u8 (N:Int)] Y (by decide) Y (by simpa using jS (w.alloc _) _ _) (lC _) (by unfold Vp;omega) (by omega) (by simp;omega) ?_;intro L M c h)
  go_ret;have z:=aY.box (aY.append h);rw[fY] at c;exact⟨_,rfl,by simpa using c,z⟩
 ·rw[show aU 3 v=aH v.s.size++bytesOf v.s from by simp[aU],<-Vu];have T:=eO 10 v.s.size;have C:u.ownBlock≠I w.heap.size:=λx=>by have:=(f.lt _ x).2;omega
  have g:X (∀a,bK 53 #[u,.int .i64 (v.s.size:Int)] (w.alloc a) λe w'=>∃b,e= .returned b/\w'.ownsRow base 5 1 b (pre++aH v.s.size).length (aF (pre++aH v.s.size))/\aY (w.alloc a) w' u b):=λa=>
   dB u pre v.s.size base (w.alloc a) (by omega) (by omega) (by simp;omega) (f.alloc a)
  have S:(pre++aH v.s.size).length<=4000010:=by rw[U8];unfold aH;omega
  generalize pre++aH v.s.size=H at*;have y:=ak v.s;have B:=j5 v.s;generalize bytesOf v.s=V at*;go_enter av.func77,Tryz.ntmps77
  go_wp2_with first
   |(go_at_call 53;refine(g.o _).mono ?_;rintro e s ⟨J,rfl,i,d⟩;have Q:=Mx C d;have G:=d.gZ.size)
   |(at_builtin;refine eP _ Y _ _ 95 9 Y base 5 r av.underlying95 av.underlying9 n o p q _ H.length _ Y i v.s Y ?_ ?_ ?_ ?_;(unfold Vp;omega);omega;(simp at G;omega);intro L M c h)
  go_ret;rw[B] at c;refine⟨_,rfl,?_,(d.box).trans h⟩;rw[<-y] at c;simpa [aF] using c
def wid (n:Nat):Nat:=if n<=1 then 0 else if n<=2 then 1 else if n<=4 then 2 else if n<=8 then 3 else if n<=16 then 4 else if n<=32 then 5 else if n<=64 then 6 else 7
def IT(n:Nat):wid n<=7:=by
 unfold wid
 repeat' split
 all_goals omega
def QU:∀n,n<101->∀t,t<8->(2^t<n↔t<wid n):=by decide +kernel
def An(n:Nat)(h:n<=100)(j:Nat)(c:j<n):j<2^wid n:=by
 have a:=IT n;have b:=(QU n (by omega) (wid n) (by omega));omega
def OV:∀x,x<128->Lib.bitLen x=wid (x+1):=by decide +kernel
def OE:∀y:Nat,y<128->∀h:y<Lib.len8tab.size,Lib.len8tab[y].toNat=Lib.bitLen y:=by decide +kernel
def KC(x:Int)(w:F)(a:0<=x)(h1:x<=127):bK 123 #[.int .u64 x] w λe w'=>e= .returned (.int .i64 (Lib.bitLen x.toNat))/\w'=w:=by
 go_enter av.func123,Tryz.ntmps123;go_wp2
 all_goals (go_ret;refine⟨congrArg Ending.returned (congrArg (Xm ZA) ?_),rfl⟩)
 all_goals
  have b:=OE x.toNat (by omega) (by omega);have c:=Lib.bitLen_le8' x a (by omega);rw[b];unfold Wj;omega
def P3(x:Int)(w:F)(a:0<=x)(h1:x<=127):bK 115 #[.int .u64 x] w λe w'=>e= .returned (.int .i64 (Lib.bitLen x.toNat))/\w'=w:=by
 go_enter av.func115,Tryz.ntmps115
 go_wp2_with (go_at_call 123;refine(KC x _ a h1).mono ?_;rintro e w' ⟨rfl,rfl⟩)
 go_ret;exact⟨rfl,rfl⟩
def F3(n:Nat)(d:n<=100)(w:F):bK 106 #[.int .i64 n] w λe w'=>e= .returned (.int .i64 (wid n))/\w'=w:=by
 by_cases c:n<2
 ·rw[show wid n=0 from by unfold wid;rw[if_pos (by omega)]];go_enter av.func106,Tryz.ntmps106;go_wp2;go_ret;exact⟨rfl,rfl⟩
 ·have b:X (∀w,bK 115 #[.int .u64 ((n:Int)-1)] w λe w'=>e= .returned (.int .i64 (wid n))/\w'=w):=λw=>by
   have a:=P3 ((n:Int)-1) w (by omega) (by omega);rw[OV _ (by omega),show((n:Int)-1).toNat+1=n by omega] at a;exact a
  go_enter av.func106,Tryz.ntmps106
  go_wp2_with (go_at_call 115;refine(b.o _).mono ?_;rintro e w' ⟨rfl,rfl⟩)
  go_ret;exact⟨rfl,rfl⟩
def Apart(u v:U):Prop:=u.ownBlock=K\/u.ownBlock≠v.ownBlock
def Apart.symm{u v:U}(h:Apart u v):Apart v u:=by
 rcases h with h|h
 ·cases a:v.ownBlock with
  |none=>exact .inl a
  |some c=>exact .inr (by rw[h,a];simp)
 ·exact .inr (λb=>h b.symm)
def fh{w w':F}{base e a n:Nat}{u v f:U}{b:List U}(h:w.ownsRow base e a u n b)(d:aY w w' v f)(c:Apart u v):w'.ownsRow base e a u n b:=
 h.kept d.gZ c
def Apart.lT{w w':F}{base e j n:Nat}{u v f:U}{k:List U}(g:Apart u v)(h:w.ownsRow base e j u n k)(i:aY w w' v f):Apart u f:=by
 rcases g with a|a
 ·exact .inl a
 ·cases b:u.ownBlock with
  |none=>exact .inl b
  |some c=>
   right
   intro e;rw[b] at e a;have l:=(h.lt c b).2;rcases i.at_ c e.symm with d|d
   ·exact a d.symm
   ·omega
def Apart.new{w:F}{base B e g n:Nat}{a i f:Nat}{u v:U}{j k:List U}{w':F}(h:w.ownsRow base e g u n j)(d:w'.ownsRow w.heap.size a i v f k):Apart u v:=by
 cases b:u.ownBlock with
 |none=>exact .inl b
 |some c=>
  right
  intro a;rw[b] at a;have l:=(h.lt c b).2;have m:=(d.lt c a.symm).1;omega
def tE (w:F)(v:U)(l:List aC):Prop:=∃a b d c,v= .slice a l.length c/\DY w a b d l
def tE.below{w w':F}{v:U}{l:List aC}(h:tE w v l)(d:aQ w w'):tE w' v l:=by
 obtain⟨a,b,e,c,rfl,h⟩:=h;exact⟨a,b,e,c,rfl,h.below d⟩
def fH(l:List aC):(az l).length=l.length*3:=by
 induction l with
 |nil=>rfl
 |cons c b a=>unfold az at a ⊢;simp at a ⊢;omega
def nR(x:aC)(r:List aC):az (x::r)=[.bool x.null,.int .i64 x.n,.string x.s]++az r:=by simp[az]
def sF(a b:List aC):az (a++b)=az a++az b:=by simp[az]
def Ae(x:aC):az [x]=[.bool x.null,.int .i64 x.n,.string x.s]:=by simp[az]
def gP(l:List aC):∀(j:Nat) (h:j<l.length),(az l)[j*3]? =I (.bool l[j].null)/\(az l)[j*3+1]? =I (.int .i64 l[j].n)/\(az l)[j*3+2]? =I (.string l[j].s):=by
 induction l with
 |nil=>intro j h;simp at h
 |cons d c b=>
  intro j h;rw[nR];cases j with
  |zero=>simp
  |succ j=>
   have:=b j (by simpa using h);have a:(j+1)*3=j*3+3:=by omega
   rw[a,Wb (by simp),Wb (by simp),Wb (by simp)];simpa [show j*3+3+1-3=j*3+1 by omega,show j*3+3+2-3=j*3+2 by omega] using this
def tE.cS{w:F}{base:Nat}{v:U}{l:List aC}(h:w.ownsRow base 54 3 v l.length (az l)):tE w v l:=by
 rcases h.2 with⟨rfl,f⟩|⟨c,e,g,rfl,i,m,n,j,k,o⟩
 ·have:l=[]:=Wt f;subst this;exact⟨K,0,0,0,rfl,⟨λh=>by simp at h,λh=>by simp at h,λa h=>by simp at h,λa h=>by simp at h,λa h=>by simp at h⟩⟩
 ·have d:=h.cells (g:=c) Y;refine⟨I ⟨c,0,K⟩,c,0,e,rfl,⟨λ_=>rfl,λ_=>(h.lt c Y).2,?_,?_,?_⟩⟩
  ·intro a b;have:=d _ _ (gP l a b).1;simpa [WZ] using this
  ·intro a b;have:=d _ _ (gP l a b).2.1;simpa [WZ] using this
  ·intro a b;have:=d _ _ (gP l a b).2.2;simpa [WZ] using this
def idx:List aC->aC->Nat
 | [],_=>0
 |y::b,a=>if Ge y a then 0 else idx b a+1
def R9(l:List aC)(x:aC):idx l x<=l.length:=by
 induction l with
 |nil=>simp[idx]
 |cons c b a=>simp only[idx];split<;>simp<;>omega
def GZ(l:List aC)(x:aC):∀j,(h:j<l.length)->j<idx l x->Ge l[j] x=U5:=by
 induction l with
 |nil=>intro j h;simp at h
 |cons e d c=>
  intro j h a;simp only[idx] at a
  split at a
  ·omega
  ·rename_i b;cases j with
   |zero=>simpa using b
   |succ j=>exact c j (by simpa using h) (by omega)
def GY(l:List aC)(x:aC)(h:idx l x<l.length):l[idx l x]=x:=by
 induction l with
 |nil=>simp at h
 |cons c d b=>
  simp only[idx] at h ⊢;by_cases a:Ge c x=Z
  ·simp only[a,if_true];exact mq.1 a
  ·simp only[a] at h ⊢;exact b (by simpa using h)
def aV (k:Int)(l:List aC):List Nat:=l.flatMap (aU k)
def CS(k:Int)(l:List aC)(i:Nat)(h:i<l.length):aV k (l.take (i+1))=aV k (l.take i)++aU k l[i]:=by
 rw[Vh h];unfold aV;rw[List.flatMap_append,List.flatMap_singleton]
def m6(k:Int)(l:List aC)(h:∀x∈l,tv x):(aV k l).length<=42*l.length:=by
 induction l with
 |nil=>simp[aV]
 |cons x f c=>
  have a:=c (λd b=>h d (by simp[b]));have e:=kT k x (h x (by simp)).sz;unfold aV at a ⊢;simp at a ⊢;omega
def pU(u r:U)(pre:List Nat)(l:List aC)(k:Int)(base:Nat)(w:F)(L:k=1\/k=2\/k=3)(N:∀x∈l,tv x)(aa:l.length<=100)(Z:pre.length<=50000)(W:base<=w.heap.size)
 (d:w.ownsRow base 5 1 u pre.length (aF pre)) (q:∀w' b,aY w w' u b->tE w' r l):
 bK 94 #[u,r,.int .i64 k] w λe w'=>∃b,e= .returned b/\w'.ownsRow base 5 1 b (pre++aV k l).length (aF (pre++aV k l))/\aY w w' u b:=by
 obtain⟨D,o,s,T,rfl,f⟩:=q w u (aY.refl _ _);have v:X (∀w' b,aY w w' u b->∃o s,DY w' D o s l):=λw' b I=>by
  obtain⟨R,E,Q,V,H,G⟩:=q w' b I;cases H;exact⟨E,Q,G⟩
 have n:=af N;go_enter av.func94,Tryz.ntmps94
 go_wp2_with fail
 go_loopw [0,11] (λp i wr=>∃(a:Nat),a<=l.length/\i= .int .i64 a/\wr.ownsRow base 5 1 p (pre++aV k (l.take a)).length (aF (pre++aV k (l.take a)))/\aY w wr u p) (λ_ i _=>l.length-(V3 i).toNat)
 case atStart=>exact⟨0,VB _,rfl,by simpa [aV] using d,aY.refl _ _⟩
 case round=>
  obtain⟨a,Y,rfl,d,h⟩:=hrel;have m:=af h;have ae:w.heap.size<=wr.heap.size:=h.gZ.size;by_cases c:a<l.length
  ·obtain⟨S,al,f⟩:=v.o wr u0 h;obtain rfl:=f.addr (by omega);have am:=f.c0 a c;have ao:=f.c1 a c;have ar:=f.c2 a c;have A:=CS k l a c;have ab:(aV k (l.take a)).length<=4200:=by
    have:=m6 k (l.take a) (λx P=>n.o x (List.mem_of_mem_take P));rw[WB] at this;omega
   have C:=af (n.o _ (Vn c));have B:=af A;generalize l[a]=x at*;have ad:(pre++aV k (l.take a)).length<=60000:=by rw[U8];omega
   generalize M:pre++aV k (l.take a)=j at*;have z:=af M;have t:X (∀g,bK 77 #[u0,.agg (j9 x),.int .i64 k] (wr.alloc g) λe w'=>∃b,e= .returned b/\w'.ownsRow base 5 1 b (j++aU k x).length (aF (j++aU k x))/\aY (wr.alloc g) w' u0 b):=λg=>
    kz u0 j x k base (wr.alloc g) L C.o (by omega) (by simp;omega) (d.alloc g)
   go_wp2_with (go_at_call 77;refine(t.o _).mono ?_;rintro e aw ⟨au,rfl,O,J⟩)
   go_roundw
   case rel=>
    refine⟨a+1,by omega,by go_num,?_,m.o.trans J.box⟩;rw[B.o,<-Vu,z.o];exact O
   case measure=>simp[V3];omega
  ·have K:l.take a=l:=VJ (by omega);rw[K] at d;have y:=af d;go_wp2;go_ret;exact⟨_,rfl,y.o,m.o⟩
def cz:Int->List aC->List Nat
 |_,[]=>[]
 |a,v::b=>aH (zz (Wj (v.n-a)))++cz v.n b
def gd:Int->List aC->Int
 |a,[]=>a
 |_,v::b=>gd v.n b
def Ep(a:Int)(l:List aC)(x:aC):cz a (l++[x])=cz a l++aH (zz (Wj (x.n-gd a l))):=by
 induction l generalizing a with
 |nil=>simp[cz,gd]
 |cons d c b=>simp[cz,gd,b]
def G3(a:Int)(l:List aC)(x:aC):gd a (l++[x])=x.n:=by
 induction l generalizing a with
 |nil=>simp[gd]
 |cons d c b=>simp[gd,b]
def AF(a:Int)(l:List aC):(cz a l).length<=10*l.length:=by
 induction l generalizing a with
 |nil=>simp[cz]
 |cons b f c=>
  have d:=c b.n;have e:=eO 10 (zz (Wj (b.n-a)));simp only[cz,U8,WS];unfold aH;omega
def iT(x:Int): -9223372036854775808<=Wj x/\Wj x<=9223372036854775807:=by unfold Wj;omega
def uA:Prop:=∀(e f:U) (pre:List Nat) (a:List aC) (base:Nat) (c:F) (n:∀h∈a,tv h) (l:a.length<=100) (k:pre.length<=50000) (i:base<=c.heap.size) (m:c.ownsRow base 5 1 e pre.length (aF pre)) (j:∀d b,aY c d e b->tE d f a),
 bK 91 #[e,f] c λg d=>∃b,g= .returned b/\d.ownsRow base 5 1 b (pre++cz 0 a).length (aF (pre++cz 0 a))/\aY c d e b
def yW(x:Int):∀u∈[Xm .i64 x],u.oneCell'=Z:=by
 intro u a;simp at a;subst a;rfl
def Gs(p:U)(l:List aC)(w:F)(P:l.length<=100)(H:tE w p l):
 bK 93 #[p] w λe w'=>∃q,e= .returned q/\w'.ownsRow w.heap.size 3 1 q l.length (bq (l.map aC.n))/\aQ w w':=by
 obtain⟨L,M,Q,N,rfl,b⟩:=H;obtain⟨o,i,k,m,n⟩:=Wo av.EF;have s:=af b;go_enter av.func93,Tryz.ntmps93
 go_wp2_with (at_make;refine XD _ Y _ _ 22 Y w.heap.size 3 o (.int .i64 0) 1 av.underlying22 i k m .i64 .i64 _ l.length Y Y Y (by rw[n];omega) (by unfold Vp;omega) (U7 _) ?_;intro I E B)
 have x:aQ w I:=(Vi _ _).grown B (U7 _) (by simp)
 go_loopw [3,11] (λu g wr=>∃(a:Nat),a<=l.length/\g= .int .i64 a/\wr.ownsRow w.heap.size 3 1 u a (bq ((l.take a).map aC.n))/\aQ w wr) (λ_ g _=>l.length-(V3 g).toNat)
 case atStart=>exact⟨0,VB _,rfl,E,x⟩
 case round=>
  obtain⟨a,O,rfl,c,f⟩:=hrel;have h:=af f;have G:w.heap.size<=wr.heap.size:=f.size;by_cases d:a<l.length
  ·have b:=s.o.below f;obtain rfl:=b.addr (by omega);have R:=b.c0 a d;have S:=b.c1 a d;have T:=b.c2 a d;have t:X ((l.take (a+1)).map aC.n=(l.take a).map aC.n++[l[a].n]):=by
    show _=_;rw[Vh d,V1];rfl
   generalize l[a]=J at*
   go_wp2_with (at_builtin;refine aZ _ Y _ _ 22 Y w.heap.size 3 o (.int .i64 0) 1 8 av.underlying22 i k m n Y (by decide) _ a _ Y ((c.alloc _).alloc _) ⟨wr.heap.size+1,0,K⟩ 1 1 [.int .i64 J.n] Y (by decide) Y (by simpa using jS (wr.alloc _) _ _) (yW _) (by unfold Vp;omega) (by omega) (by simp;omega) ?_;intro V W j A)
   go_roundw
   case rel=>
    have z:=aY.box (aY.append A);rw[jE] at j;refine⟨a+1,by omega,by go_num,by rw[t.o];exact j,h.o.trans (z.below (λv y=>(c.lt v y).1) G)⟩
   case measure=>simp[V3];omega
  ·have C:l.take a=l:=VJ (by omega);have D:a=l.length:=by omega
   rw[C] at c;have r:X (wr.ownsRow w.heap.size 3 1 u3 l.length (bq (l.map aC.n))):=by rw[D] at c;exact c
   go_wp2;go_ret;exact⟨_,rfl,r.o,h.o⟩
def uv (w:F)(v:U)(a:List Int):Prop:=∃d b e f,v= .slice d a.length f/\(0<a.length->d=I ⟨b,e,K⟩)/\(0<a.length->b<w.heap.size)/\∀c,c<a.length->cD w b (e+c) (.int .i64 (a.getD c 0))
def uv.cS{w:F}{base:Nat}{v:U}{a:List Int}(h:w.ownsRow base 3 1 v a.length (bq a)):uv w v a:=by
 rcases h.2 with⟨rfl,f⟩|⟨b,e,i,rfl,j,m,n,k,l,o⟩
 ·have:a=[]:=Wt f;subst this;exact⟨K,0,0,0,rfl,λh=>by simp at h,λh=>by simp at h,λd h=>by simp at h⟩
 ·have g:=h.cells (g:=b) Y;refine⟨I ⟨b,0,K⟩,b,0,e,rfl,λ_=>rfl,λ_=>(h.lt b Y).2,?_⟩;intro d c;have:=g _ _ (sR a d c);rw[fp c];simpa [WZ] using this
def TI:laidOutB (ax U1)=Z:=by kernel_rfl
def TU:(54:Vc)<(ax U1).types.size:=of_decide_eq_true (by kernel_rfl)
def US:(ax U1).keyTypeAt 2 54=Z:=by kernel_rfl
def PY:Maps.Keyed (ax U1) 54:=Z6 (deep_law_laid TI (m:=2) (by omega) TU US (by rw[av.underlying54]))
def MF:(ax U1).cellsOf 54=3:=by kernel_rfl
def Pu:(ax U1).cellsOf 4=1:=by kernel_rfl
def Pv:(ax U1).cellsOf 3=1:=by kernel_rfl
def Pw:(ax U1).cellsOf 9=1:=by kernel_rfl
def Lz(n:Nat)(h:54<n):∃m,n=m+1:=⟨n-1,by omega⟩
def TW:∃m,(ax U1).types.size=m+1:=Lz _ TU
def No:(ax U1).keyType 54=Z:=by kernel_rfl
def kl (x:aC):Lit:=.string (keyBytes [.bool x.null,.int .i64 x.n,.string x.s.data.toList])
def wf_i64(a:Int)(b: -9223372036854775808<=a)(h1:a<=9223372036854775807):(Lit.int .i64 a).wf=Z:=by
 simp[Lit.wf,IntKind.min,IntKind.max,YV,Zf];omega
def G2(x:aC)(h:tv x):keyOf (ax U1) 54 (.agg (j9 x))=I (kl x):=by
 obtain⟨m,b⟩:=TW;have d:=wf_i64 x.n h.lo h.hi;have c:x.s.size<=Vp:=by have:=h.sz;unfold Vp;omega
 have a:(Value.agg (j9 x)).formed (ax U1) 54=Z:=by simp[Value.formed,av.underlying54,MF]
 unfold keyOf;simp only[av.underlying54,No,a,Bool.and_self,if_true,b];unfold Program.keyLits;simp[av.underlying54,MF,Pu,Pv,Pw,WV,Program.keyLits,av.underlying4,av.underlying3,av.underlying9,d,c,kl]
def Nq{x y:aC}(b:tv x)(c:tv y)(h:kl x=kl y):x=y:=by
 have a:=PY.inj (G2 x b) (by rw[h];exact G2 y c);cases x;cases y;simp at a;simp[a]
def Nr(x:aC):WideAt.IsKeyLit (kl x):=trivial
def ins (d:List aC)(v:aC):List aC:=if idx d v<d.length then d else d++[v]
def sg(d:List aC)(x:aC)(r:List aC)(h:idx d x<d.length):idx (d++r) x=idx d x:=by
 induction d with
 |nil=>simp at h
 |cons c e b=>
  simp only[idx,XF] at h ⊢;by_cases a:Ge c x=Z
  ·simp[a]
  ·simp only[a] at h ⊢;have:=b (by simpa using h);simp[this]
def ix(d:List aC)(x:aC)(h:¬idx d x<d.length)(v:aC):idx (d++[v]) x=if Ge v x then d.length else d.length+1:=by
 induction d with
 |nil=>simp[idx]
 |cons c e b=>
  simp only[idx,XF] at h ⊢;by_cases a:Ge c x=Z
  ·simp[a] at h
  ·simp only[a] at h ⊢;have:=b (by simpa using h);rw[if_neg (by simp),this]
   split<;>simp
def CG(d:List aC)(v:aC):idx (ins d v) v=idx d v/\idx (ins d v) v<(ins d v).length/\(¬idx d v<d.length->idx d v=d.length):=by
 have c:=R9 d v;unfold ins;by_cases a:idx d v<d.length
 ·simp only[a,if_true];exact⟨trivial,trivial,λa=>absurd trivial a⟩
 ·have b:Ge v v=Z:=mq.2 Y;have:=ix d v a v;rw[b] at this;simp only[a,if_false];simp at this;rw[this];refine⟨by omega,by simp,λ_=>by omega⟩
def yq (s:List aC×List Nat)(v:aC):List aC×List Nat:=(ins s.1 v,s.2++[idx (ins s.1 v) v])
def dfold(l:List aC):List aC×List Nat:=l.foldl yq ([],[])
def dfold_succ(l:List aC)(k:Nat)(h:k<l.length):dfold (l.take (k+1))=yq (dfold (l.take k)) l[k]:=by
 unfold dfold;rw[Vh h,List.foldl_append];rfl
def G0(d:List aC)(v:aC):(ins d v).length<=d.length+1/\d.length<=(ins d v).length:=by
 unfold ins;split<;>simp
def PW(d:List aC)(v x:aC)(h:x∈ins d v):x∈d\/x=v:=by
 unfold ins at h
 split at h
 ·exact .inl h
 ·rcases VM.1 h with h|h
  ·exact .inl h
  ·exact .inr (by simpa using h)
def yp(l:List aC):∀k,k<=l.length->(dfold (l.take k)).1.length<=k/\(dfold (l.take k)).2.length=k/\(∀p∈(dfold (l.take k)).2,p<(dfold (l.take k)).1.length)/\(∀x∈(dfold (l.take k)).1,x∈l):=by
 intro k
 induction k with
 |zero=>intro _;simp[dfold]
 |succ k h=>
  intro b;obtain⟨i,c,d,e⟩:=h (by omega);rw[dfold_succ l k (by omega)];have j:=G0 (dfold (l.take k)).1 l[k];have g:=CG (dfold (l.take k)).1 l[k];unfold yq;refine⟨by simp only;omega,by simp[c],?_,?_⟩
  ·intro p a;simp only at a ⊢;rcases VM.1 a with a|a
   ·have:=d p a;omega
   ·simp at a;rw[a];exact g.2.1
  ·intro x f;rcases PW _ _ _ f with b|b
   ·exact e x b
   ·rw[b];exact Vn _
structure Knows(D:DataW Unit)(d:List aC):Prop where
 map:Maps.IsMap D
 has:∀x,tv x->Maps.has D (kl x)=decide (idx d x<d.length)
 at_:∀x,tv x->idx d x<d.length->D.atKey (kl x) (.lit (.int .i64 0))= .lit (.int .i64 (idx d x:Int))
def Knows.empty:Knows (.map []) []:=⟨Maps.isMap_empty,λb _=>by simp[Maps.has_eq],λb _ a=>by simp at a⟩
def Knows.put{D:DataW Unit}{d:List aC}(h:Knows D d)(v:aC)(k:tv v)(j:¬idx d v<d.length):Knows (D.put (kl v) (.lit (.int .i64 (d.length:Int)))) (d++[v]):=by
 have l:Ge v v=Z:=mq.2 Y;refine⟨h.map.put _ _,?_,?_⟩
 ·intro a e;by_cases b:a=v
  ·subst b;rw[Maps.has_put_same h.map (Nr a)];have:=ix d a j a;rw[l] at this;simp at this;simp[this]
  ·rw[Maps.has_put_other (λf=>b (Nq e k f)),h.has a e];by_cases c:idx d a<d.length
   ·rw[sg d a [v] c];simp;omega
   ·rw[ix d a c v];have:Ge v a=U5:=by
     rw[Bool.eq_false_iff];intro g;exact b (mq.1 g).symm
    rw[this];simp;omega
 ·intro a e c;by_cases b:a=v
  ·subst b;rw[Maps.atKey_put_same h.map (Nr a)];have:=ix d a j a;rw[l] at this;simp at this;rw[this]
  ·rw[Maps.atKey_put_other (λf=>b (Nq e k f))];by_cases i:idx d a<d.length
   ·rw[sg d a [v] i];exact h.at_ a e i
   ·exfalso
    rw[ix d a i v] at c;have:Ge v a=U5:=by
     rw[Bool.eq_false_iff];intro g;exact b (mq.1 g).symm
    rw[this] at c;simp at c
def av.mW:((ax U1).info? 54).map (λi=>(i.zero,i.size,i.bytes))=I (I (.agg #[.bool U5,.int .i64 0,.string ⟨#[]⟩]),3,32):=by kernel_rfl
def Rv(w:F):(Xl 3).run (ax U1) w= .ok (.int .i64 0) w:=by kernel_rfl
def Bz{w:F}{base e b n:Nat}{v:U}{c:List U}(h:w.ownsRow base e b v n c):∃a cap,v= .slice a n cap:=by
 rcases h.2 with⟨rfl,rfl⟩|⟨f,cap,d,rfl,_⟩
 ·exact⟨K,0,rfl⟩
 ·exact⟨_,_,rfl⟩
def jj(w:F)(a b c:U)(t:Vc):∀(j:Nat) (u:U),[a,b,c][j]? =I u->(w.alloc (.cells #[a,b,c] t)).cell? ((⟨w.heap.size,0,K⟩:VI).add j)=I u:=by
 intro j u d
 match j,d with
 |0,d=>simp at d;subst d;simp[Zl]
 |1,d=>simp at d;subst d;simp[WZ]
 |2,d=>simp at d;subst d;simp[WZ]
def fU(x:aC):∀u∈[XU x.null,.int .i64 x.n,.string x.s],u.oneCell'=Z:=by
 intro u a;simp at a;rcases a with rfl|rfl|rfl<;>rfl
def J3{w d:F}{a b c:U}{t:Vc}{g:Option Nat}(e:(w.alloc (.cells #[a,b,c] t)).grownBy d g)(f:I w.heap.size≠g):
 cD d w.heap.size 0 a/\cD d w.heap.size 1 b/\cD d w.heap.size 2 c:=
 ⟨e.cell (a:=⟨w.heap.size,0,K⟩) (by simp) f,e.cell (a:=⟨w.heap.size,1,K⟩) (by simp) f,e.cell (a:=⟨w.heap.size,2,K⟩) (by simp) f⟩
def aY.cr{w w':F}{u:U}(h:aQ w w'):aY w w' u u:=⟨⟨h.1,h.2,h.3,h.4,λb a _=>h.block b a⟩,λ_ h=>.inl h⟩
def eR (k:Int)(l:List aC):List Nat:=aH (dfold l).1.length++(aV k (dfold l).1++dX (wid (dfold l).1.length) (dfold l).2)
def A5:Prop:=∀(d f:U) (pre:List Nat) (b:List aC) (a:Int) (base:Nat) (c:F) (k:a=1\/a=2\/a=3) (o:∀i∈b,tv i) (m:b.length<=100) (l:pre.length<=40000) (j:base<=c.heap.size) (n:c.ownsRow base 5 1 d pre.length (aF pre)) (p:tE c f b),
 bK 92 #[d,f,.int .i64 a] c λh g=>∃e,h= .returned e/\g.ownsRow base 5 1 e (pre++eR a b).length (aF (pre++eR a b))/\aY c g d e
def oI (x:aC):Int:=if x.null then 0 else 1
def there(l:List aC):List aC:=l.filter λa=> !a.null
def eg (k e:Int)(l:List aC):List Nat:=if e=1 then cz 0 l else if e=2 then eR k l else if e=3 then cC (l.map aC.n) else aV k l
def bD (k e:Int)(l:List aC):List Nat:=cC (l.map oI)++eg k e (there l)
def B2{l:List aC}{x:aC}(h:x∈there l):x∈l:=(List.mem_filter.1 h).1
def pM(l:List aC):(there l).length<=l.length:=List.length_filter_le _ _
def ID(l:List aC)(j:Nat)(h:j<l.length):there (l.take (j+1))=if l[j].null then there (l.take j) else there (l.take j)++[l[j]]:=by
 unfold there;rw[Vh h,List.filter_append];cases a:l[j].null<;>simp[a]
def KF(l:List aC)(j:Nat)(h:j<l.length):(l.take (j+1)).map oI=(l.take j).map oI++[oI l[j]]:=by
 rw[Vh h,V1];rfl
def pE(l:List Int)(h:l.length<=100):(cC l).length<=1100:=by
 have:=Dc l.length l;unfold cC;omega
def vQ(u d:U)(pre:List Nat)(a:List Int)(base o:Nat)(w:F)(m:a.length<=100)(j:pre.length<=100000)(h:base<=w.heap.size)
 (l:w.ownsRow base 5 1 u pre.length (aF pre)) (k:w.ownsRow o 3 1 d a.length (bq a)) (v:Apart d u):
 bK 90 #[u,d] w λe w'=>∃f,e= .returned f/\w'.ownsRow base 5 1 f (pre++cC a).length (aF (pre++cC a))/\aY w w' u f:=by
 rcases k.2 with⟨rfl,r⟩|⟨q,p,B,rfl,C,G,H,D,E,J⟩
 ·rw[show(Value.slice K 0 0)= .slice K a.length 0 from by rw[r]];exact qp u pre a K 0 0 0 base w m j h (λb=>by omega) (λb=>by omega) (λb=>by omega) (λL b=>by omega) l
 ·obtain⟨z,n,y,A,i,g,s,t⟩:=uv.cS k;simp only[V7,true_and] at i;obtain⟨rfl,rfl⟩:=i;refine qp u pre a (I ⟨q,0,K⟩) n y p base w m j h g s (λb=>?_) t l;have e:=g b;simp only[VY,Xk] at e;rw[<-e.1];intro x;rcases v with c|c
  ·simp[Wz] at c
  ·exact c (by rw[x];simp[Wz])
def uE{e:Int}(b8:e=0\/A5/\uA)(u br:U)(pre:List Nat)(l:List aC)(k:Int)(base:Nat)(w:F)(ae:k=1\/k=2\/k=3)(co:∀x∈l,tv x)(c3:l.length<=100)(c2:pre.length<=30000)(c0:base<=w.heap.size)
 (ci:w.ownsRow base 5 1 u pre.length (aF pre)) (cp:tE w br l):
 bK 79 #[u,br,.int .i64 k,.int .i64 e] w λr w'=>∃h,r= .returned h/\w'.ownsRow base 5 1 h (pre++bD k e l).length (aF (pre++bD k e l))/\aY w w' u h:=by
 have a0:=af b8;obtain⟨aw,ad,am,ao,ar⟩:=Wo av.EF;obtain⟨bm,ba,bj,bk,bl⟩:=Wo av.mW;obtain⟨cv,cx,c8,cB,rfl,D⟩:=cp;have bA:=af co;have bx:=af D;have W:=af ci;go_enter av.func79,Tryz.ntmps79
 go_wp2_with (first
  |(at_make;refine XD _ Y _ _ 22 Y w.heap.size 3 aw (.int .i64 0) 1 av.underlying22 ad am ao .i64 .i64 _ l.length Y Y Y (by rw[ar];omega) (by unfold Vp;omega) (U7 _) ?_;intro cu bc a8;have bi:=a8.size)
  |(at_make;refine XD _ Y _ _ 55 Y w.heap.size 54 bm _ 3 av.underlying55 ba bj bk .i64 .i64 _ l.length Y Y Y (by rw[bl];omega) (by unfold Vp;omega) bi ?_;intro a cl a9))
 have b3:Apart (.slice (I ⟨w.heap.size,0,K⟩) 0 l.length) (.slice (I ⟨cu.heap.size,0,K⟩) 0 l.length):=.inr (by
  have:=(bc.lt w.heap.size (by simp[Wz])).2;simp[Wz];omega)
 have ck:=bc.kept a9 (.inr (by simp[Wz]));have b5:aQ w a:=((Vi _ _).grown a8 (U7 _) (by simp)).grown a9 bi (by simp)
 go_loopw [9,10,21] (λbo bt au wr=>∃(f:Nat),f<=l.length/\au= .int .i64 f/\wr.ownsRow w.heap.size 3 1 bo f (bq ((l.take f).map oI))/\wr.ownsRow w.heap.size 54 3 bt (there (l.take f)).length (az (there (l.take f)))/\Apart bo bt/\aQ w wr) (λ_ _ au _=>l.length-(V3 au).toNat)
 case atStart=>exact⟨0,VB _,rfl,by simpa [bq] using ck,by simpa [there,az] using cl,b3,b5⟩
 case round=>
  obtain⟨f,c1,rfl,i,B,R,aa⟩:=hrel;have z:=af aa;have al:w.heap.size<=wr.heap.size:=aa.size;have c6:(there (l.take f)).length<=f:=by have:=pM (l.take f);rw[WB] at this;omega
  have ch:I wr.heap.size≠u9.ownBlock:=λe=>by have:=(i.lt _ e.symm).2;omega
  by_cases N:f<l.length
  ·have D:=bx.o.below aa;obtain rfl:=D.addr (by omega);have bs:=D.c0 f N;have c9:=D.c1 f N;have da:=D.c2 f N;have P:=ID l f N;have a1:=af (KF l f N);generalize l[f]=x at*;cases C:x.null
   ·rw[C] at bs P;have V:X (there (l.take (f+1))=there (l.take f)++[x]):=by show _=_;simpa using P
    have T:X (oI x=1):=by show _=_;unfold oI;rw[C];rfl
    have b7:az [x]=[.bool U5,.int .i64 x.n,.string x.s]:=by rw[Ae,C]
    have b1:∀u∈[XU U5,.int .i64 x.n,.string x.s],u.oneCell'=Z:=by have:=fU x;rwa [C] at this
    go_wp2_with (first
     |(at_builtin;refine aZ _ Y _ _ 22 Y w.heap.size 3 aw (.int .i64 0) 1 8 av.underlying22 ad am ao ar Y (by decide) _ f _ Y ((i.alloc _).alloc _) ⟨wr.heap.size+1,0,K⟩ 1 1 [.int .i64 1] Y (by decide) Y (by simpa using jS (wr.alloc _) _ _) (yW _) (by unfold Vp;omega) (by omega) (by simp;omega) ?_;intro p j O ab;have a7:=aY.append ab;have b6:=J3 a7.gZ ch;obtain⟨db,dc,dd⟩:=b6;have m:=a7.box;have be:=fh B m R.symm;have cn:=m.gZ.size)
     |(at_builtin;refine aZ _ Y _ _ 55 Y w.heap.size 54 bm _ 3 32 av.underlying55 ba bj bk bl Y (by decide) _ _ _ Y (be.alloc _) ⟨j.heap.size,0,K⟩ 1 1 [.bool U5,.int .i64 x.n,.string x.s] Y (by decide) Y (jj _ _ _ _ _) b1 (by unfold Vp;omega) (by omega) (by simp;omega) ?_;intro cs bu bd ca))
    have M:=aY.append ca;have a2:Apart p u10:=(R.symm.lT B m).symm;have S:=fh O M a2;rw[jE] at S;rw[<-b7,<-sF] at bd;have v:XC w.heap.size wr j:=m.below (λJ d=>(i.lt J d).1) al;have b4:XC w.heap.size j bu:=M.below (λJ d=>(be.lt J d).1) (Vm al cn);refine⟨⟨f+1,by omega,by simp,by rw[a1.o,T.o];exact S,by rw[V.o];simpa using bd,a2.lT O M,(z.o.trans v).trans b4⟩,by simp[V3];omega⟩
   ·rw[C] at bs P;have V:X (there (l.take (f+1))=there (l.take f)):=by show _=_;simpa using P
    have T:X (oI x=0):=by show _=_;unfold oI;rw[C];rfl
    go_wp2_with (at_builtin;refine aZ _ Y _ _ 22 Y w.heap.size 3 aw (.int .i64 0) 1 8 av.underlying22 ad am ao ar Y (by decide) _ f _ Y ((i.alloc _).alloc _) ⟨wr.heap.size+1,0,K⟩ 1 1 [.int .i64 0] Y (by decide) Y (by simpa using jS (wr.alloc _) _ _) (yW _) (by unfold Vp;omega) (by omega) (by simp;omega) ?_;intro p j O ab)
    have m:=aY.box (aY.append ab);rw[jE] at O;have v:XC w.heap.size wr j:=m.below (λJ d=>(i.lt J d).1) al;refine⟨⟨f+1,by omega,by simp,by rw[a1.o,T.o];exact O,by rw[V.o];exact fh B m R.symm,(R.symm.lT B m).symm,z.o.trans v⟩,by simp[V3];omega⟩
  ·have cc:f=l.length:=by omega
   have cb:l.take f=l:=VJ (by omega);rw[cb] at i B;have cd:((l.map oI).length)=l.length:=VQ _;have bb:wr.ownsRow w.heap.size 3 1 u9 (l.map oI).length (bq (l.map oI)):=by rw[cd,<-cc];exact i
   have G:X (bD k e l=cC (l.map oI)++eg k e (there l)):=rfl;have Q:X (∀x∈there l,tv x):=λx C=>bA.o x (B2 C);have c7:=pM l;have c5:=pE (l.map oI) (by omega);have b0:Apart u9 u:=(Apart.new (B:=0) W.o bb).symm;have a3:Apart u10 u:=(Apart.new (B:=0) W.o B).symm;have bz:=af (aR W.o z.o);have E:X (bK 90 #[u,u9] wr λe w'=>∃q,e= .returned q/\w'.ownsRow base 5 1 q (pre++cC (l.map oI)).length (aF (pre++cC (l.map oI)))/\aY wr w' u q):=
    vQ u u9 pre (l.map oI) base w.heap.size wr (by omega) (by omega) (by omega) bz.o bb b0
   have c4:(pre++cC (l.map oI)).length<=32000:=by rw[U8];omega
   generalize cC (l.map oI)=bB at*;generalize b2:pre++bB=g at*;have H:=af b2;generalize there l=c at*;have A:X (∀a b,aY wr a u b->a.ownsRow w.heap.size 54 3 u10 c.length (az c)/\Apart u10 b):=λa b d=>⟨fh B d a3,a3.lT B d⟩;rcases Cr e with rfl|rfl|rfl|rfl|⟨cR,a4,a5,a6⟩
   ·have t:X (eg k 0 c=aV k c):=rfl;have s:X (∀a b,a.ownsRow base 5 1 b g.length (aF g)->aY wr a u b->bK 94 #[b,u10,.int .i64 k] a λe w'=>∃h,e= .returned h/\w'.ownsRow base 5 1 h (g++aV k c).length (aF (g++aV k c))/\aY a w' b h):=λa b i d=>
     pU b _ g c k base a ae Q.o (by omega) (by omega) (by have:=d.gZ.size;omega) i (λw' h L=>tE.cS (fh (A.o a b d).1 L (A.o a b d).2))
    go_wp2_with first
     |(go_at_call 90;refine E.o.mono ?_;rintro e a ⟨b,rfl,y,n⟩)
     |(go_at_call 94;refine(s.o _ _ y n).mono ?_;rintro e j ⟨p,rfl,o,m⟩)
    go_ret;refine⟨_,rfl,?_,(aY.cr z.o).trans (n.trans m)⟩;rw[G.o,t.o,<-Vu,H.o];exact o
   ·have t:X (eg k 1 c=cz 0 c):=rfl;have s:X (∀a b,a.ownsRow base 5 1 b g.length (aF g)->aY wr a u b->bK 91 #[b,u10] a λe w'=>∃h,e= .returned h/\w'.ownsRow base 5 1 h (g++cz 0 c).length (aF (g++cz 0 c))/\aY a w' b h):=λa b i d=>
     (a0.o.resolve_left (by decide)).2 b _ g c base a Q.o (by omega) (by omega) (by have:=d.gZ.size;omega) i (λw' h L=>tE.cS (fh (A.o a b d).1 L (A.o a b d).2))
    go_wp2_with first
     |(go_at_call 90;refine E.o.mono ?_;rintro e a ⟨b,rfl,y,n⟩)
     |(go_at_call 91;refine(s.o _ _ y n).mono ?_;rintro e j ⟨p,rfl,o,m⟩)
    go_ret;refine⟨_,rfl,?_,(aY.cr z.o).trans (n.trans m)⟩;rw[G.o,t.o,<-Vu,H.o];exact o
   ·have t:X (eg k 2 c=eR k c):=rfl;have s:X (∀a b,a.ownsRow base 5 1 b g.length (aF g)->aY wr a u b->bK 92 #[b,u10,.int .i64 k] a λe w'=>∃h,e= .returned h/\w'.ownsRow base 5 1 h (g++eR k c).length (aF (g++eR k c))/\aY a w' b h):=λa b i d=>
     (a0.o.resolve_left (by decide)).1 b _ g c k base a ae Q.o (by omega) (by omega) (by have:=d.gZ.size;omega) i (tE.cS (A.o a b d).1)
    go_wp2_with first
     |(go_at_call 90;refine E.o.mono ?_;rintro e a ⟨b,rfl,y,n⟩)
     |(go_at_call 92;refine(s.o _ _ y n).mono ?_;rintro e j ⟨p,rfl,o,m⟩)
    go_ret;refine⟨_,rfl,?_,(aY.cr z.o).trans (n.trans m)⟩;rw[G.o,t.o,<-Vu,H.o];exact o
   ·have t:X (eg k 3 c=cC (c.map aC.n)):=rfl;have cf:(c.map aC.n).length=c.length:=VQ _;have s:X (∀a b,aY wr a u b->bK 93 #[u10] a λe w'=>∃q,e= .returned q/\w'.ownsRow a.heap.size 3 1 q c.length (bq (c.map aC.n))/\aQ a w'):=λa b d=>
     Gs u10 c a (by omega) (tE.cS (A.o a b d).1)
    have bv:X (∀a j b p,a.ownsRow base 5 1 b g.length (aF g)->aY wr a u b->j.ownsRow a.heap.size 3 1 p c.length (bq (c.map aC.n))->aQ a j->bK 90 #[b,p] j λe w'=>∃q,e= .returned q/\w'.ownsRow base 5 1 q (g++cC (c.map aC.n)).length (aF (g++cC (c.map aC.n)))/\aY j w' b q):=λa j b p i d o v=>
     vQ b p g (c.map aC.n) base a.heap.size j (by omega) (by omega) (by have:=d.gZ.size;have:=v.size;omega) (aR i v) (by rw[cf];exact o) (Apart.new (B:=0) i o).symm
    go_wp2_with fail
    refine E.o.mono ?_;rintro e a ⟨b,rfl,y,n⟩
    go_wp2_with first
     |(go_at_call 93;refine(s.o _ _ n).mono ?_;rintro e j ⟨p,rfl,o,v⟩)
     |(go_at_call 90;refine(bv.o _ _ _ _ y n o v).mono ?_;rintro e bu ⟨cs,rfl,S,M⟩)
    go_ret;refine⟨_,rfl,?_,(aY.cr z.o).trans (n.trans ((aY.cr v).trans M))⟩;rw[G.o,t.o,<-Vu,H.o];exact S
   ·have t:X (eg k e c=aV k c):=by
     show _=_;simp at a4 a5 a6;unfold eg;rw[if_neg a4,if_neg a5,if_neg a6]
    have s:X (∀a b,a.ownsRow base 5 1 b g.length (aF g)->aY wr a u b->bK 94 #[b,u10,.int .i64 k] a λe w'=>∃h,e= .returned h/\w'.ownsRow base 5 1 h (g++aV k c).length (aF (g++aV k c))/\aY a w' b h):=λa b i d=>
     pU b _ g c k base a ae Q.o (by omega) (by omega) (by have:=d.gZ.size;omega) i (λw' h L=>tE.cS (fh (A.o a b d).1 L (A.o a b d).2))
    go_wp2_with first
     |(go_at_call 90;refine E.o.mono ?_;rintro e a ⟨b,rfl,y,n⟩)
     |(go_at_call 94;refine(s.o _ _ y n).mono ?_;rintro e j ⟨p,rfl,o,m⟩)
    go_ret;refine⟨_,rfl,?_,(aY.cr z.o).trans (n.trans m)⟩;rw[G.o,t.o,<-Vu,H.o];exact o
def AB(k e:Int)(l:List aC)(h:∀x∈l,tv x)(j:l.length<=100):(eg k e l).length<=100000:=by
 unfold eg
 split
 ·have:=AF 0 l;omega
 ·split
  ·unfold eR;have a:=yp l l.length (U7 _);rw[List.take_length] at a;obtain⟨f,g,i,b⟩:=a;have n:=m6 k (dfold l).1 (λx d=>h x (b x d));have o:=eO 10 (dfold l).1.length;have c:=IT (dfold l).1.length;have m:(dfold l).2.length*wid (dfold l).1.length<=100*7:=Nat.mul_le_mul (by omega) c;rw[U8,U8,fR];unfold aH;omega
  ·split
   ·have:=pE (l.map aC.n) (by rw[VQ];omega);omega
   ·have:=m6 k l h;omega
structure L7(v:aC):Prop where
 lo: -9223372036854775808<=v.n
 hi:v.n<=9223372036854775807
def zJ{s:ByteArray}(h:s.toList=[]):s.size=0:=by
 have a:=ByteArray.toList_eq s;rw[a] at h;show s.data.size=0;rw[<-WW,h];rfl
def Ai{x:aC}{k:Int}(h:L7 x)(a:gD x k=Z):tv x:=by
 refine⟨h.lo,h.hi,?_⟩;unfold gD at a
 split at a
 ·simp at a;have:=zJ a.2;omega
 ·split at a
  ·simp at a;have:=zJ a;omega
  ·split at a
   ·simp at a;have:=zJ a.2;omega
   ·simp at a;omega
def jD (l:List aC)(k e:Int):ByteArray×Int:=
 if 100<l.length then(⟨#[]⟩,6) else if bw k e=U5 then(⟨#[]⟩,2) else if (l.all λa=>gD a k)=U5 then(⟨#[]⟩,1) else(strOf (bD k e l),0)
def MY{l:List aC}{k e:Int}(h:100<l.length):jD l k e=(⟨#[]⟩,6):=by unfold jD;rw[if_pos h]
def PG{l:List aC}{k e:Int}(h:¬ 100<l.length)(a:bw k e=U5):jD l k e=(⟨#[]⟩,2):=by unfold jD;rw[if_neg h,if_pos a]
def PF{l:List aC}{k e:Int}(h:¬ 100<l.length)(a:bw k e=Z)(j:Nat)(c:j<l.length)(d:gD l[j] k=U5):jD l k e=(⟨#[]⟩,1):=by
 unfold jD;rw[if_neg h,if_neg (by simp[a]),if_pos];rw[Bool.eq_false_iff];intro b;have:=Vx.1 b _ (Vn c);rw[d] at this;cases this
def MZ{l:List aC}{k e:Int}(h:¬ 100<l.length)(c:bw k e=Z)(d:∀j,(a:j<l.length)->gD l[j] k=Z):jD l k e=(strOf (bD k e l),0):=by
 unfold jD;rw[if_neg h,if_neg (by simp[c]),if_neg];have:(l.all λb=>gD b k)=Z:=by
  rw[Vx];intro b f;obtain⟨j,a,rfl⟩:=WN f;exact d j a
 simp[this]
def Bn{k e:Int}(h:bw k e=Z):(k=1\/k=2\/k=3)/\(e=0\/e=1\/e=2\/e=3):=by
 constructor
 ·rcases Cr k with rfl|rfl|rfl|rfl|⟨j,f,g,i⟩
  ·simp[bw,gC] at h
  ·exact .inl Y
  ·exact .inr (.inl Y)
  ·exact .inr (.inr Y)
  ·rw[Nz f g i] at h;cases h
 ·rcases Cr e with rfl|rfl|rfl|rfl|⟨a,b,c,d⟩
  ·exact .inl Y
  ·exact .inr (.inl Y)
  ·exact .inr (.inr (.inl Y))
  ·exact .inr (.inr (.inr Y))
  ·rw[Qb a b c d] at h;cases h
def D5{e:Int}(H:e=0\/A5/\uA)(J:U)(l:List aC)(k:Int)(w:F)(ae:l.length<=Vp)(ab:∀x∈l,L7 x)(ao:tE w J l):
 bK 56 #[J,.int .i64 k,.int .i64 e] w λr w'=>r= .returned (.tuple #[.string (jD l k e).1,.int .i64 (jD l k e).2])/\aQ w w':=by
 have M:=af H;obtain⟨t,T,au,u,rfl,g⟩:=ao;unfold Vp at ae;have d:=pW (l.length:Int) k e;by_cases m:100<l.length
 ·rw[MY m];rw[show js (l.length:Int) k e=6 from by unfold js;rw[if_pos (by omega)]] at d;go_enter av.func56,Tryz.ntmps56
  go_wp2_with (go_at_call 78;refine(d _).mono ?_;rintro e w' ⟨rfl,rfl⟩)
  all_goals go_ret2
  all_goals exact⟨rfl,Vi _ _⟩
 cases f:bw k e
 ·rw[PG m f];rw[show js (l.length:Int) k e=2 from by unfold js;rw[if_neg (by omega),f];rfl] at d;go_enter av.func56,Tryz.ntmps56
  go_wp2_with (go_at_call 78;refine(d _).mono ?_;rintro e w' ⟨rfl,rfl⟩)
  all_goals go_ret2
  all_goals exact⟨rfl,Vi _ _⟩
 rw[show js (l.length:Int) k e=0 from by unfold js;rw[if_neg (by omega),f];rfl] at d;obtain⟨ad,H⟩:=Bn f;have C:=af f;have D:=af ad;have N:=af ab;have E:=af g;go_enter av.func56,Tryz.ntmps56
 go_wp2_with (go_at_call 78;refine(d _).mono ?_;rintro e w' ⟨rfl,ar⟩;rw[ar])
 go_loopw [21] (λz wr=>∃a:Nat,a<=l.length/\z= .int .i64 a/\(∀b,(c:b<l.length)->b<a->gD l[b] k=Z)/\aQ w wr) (λz _=>l.length-(V3 z).toNat)
 case atStart=>exact⟨0,VB _,rfl,λb _ j=>by omega,Vi _ _⟩
 case round=>
  obtain⟨a,a1,rfl,n,o⟩:=hrel;have B:=af n;have s:=af o;have y:=o.size;by_cases p:a<l.length
  ·have g:=E.o.below o;obtain rfl:=g.addr (by omega);have a2:=g.c0 a p;have a3:=g.c1 a p;have a4:=g.c2 a p;have P:X (gD l[a] k=U5->jD l k e=(⟨#[]⟩,1)):=λj=>PF m C.o a p j;have R:X (gD l[a] k=Z->∀b,(c:b<l.length)->b<a+1->gD l[b] k=Z):=λj b c f=>by
    by_cases V:b=a
    ·subst V;exact j
    ·exact B.o b c (by omega)
   have h:X (∀i,bK 48 #[.agg #[.bool l[a].null,.int .i64 l[a].n,.string l[a].s],.int .i64 k] i λe w'=>e= .returned (.bool (gD l[a] k))/\aQ i w'):=λi=>ru l[a] k i D.o;generalize l[a]=x at*;cases q:gD x k
   ·have Q:=af (P.o q);rw[q] at h
    go_wp2_with (go_at_call 48;refine(h.o _).mono ?_;rintro e K ⟨rfl,v⟩)
    go_ret2
    rw[Q.o];exact⟨rfl,s.o.trans ((uK v).mono y)⟩
   ·have S:=af (R.o q);rw[q] at h
    go_wp2_with (go_at_call 48;refine(h.o _).mono ?_;rintro e K ⟨rfl,v⟩)
    go_roundw
    case rel=>exact⟨a+1,by omega,by go_num,S.o,s.o.trans ((uK v).mono y)⟩
    case measure=>simp[V3];omega
  ·have n:∀b,(c:b<l.length)->gD l[b] k=Z:=λb c=>B.o b c (by omega);have O:=af (MZ m C.o n);have am:∀x∈l,tv x:=λx I=>by
    obtain⟨b,c,rfl⟩:=WN I;exact Ai (N.o _ I) (n b c)
   have L:X (bK 79 #[aM,.slice t l.length u,.int .i64 k,.int .i64 e] wr λr w'=>∃A,r= .returned A/\w'.ownsRow wr.heap.size 5 1 A (bD k e l).length (aF (bD k e l))/\aY wr w' aM A):=by
    have G:=uE M.o aM (.slice t l.length u) [] l k wr.heap.size wr D.o am (by omega) (by simp) (U7 _) (World.ownsRow_nil _ _ _ _) ⟨t,T,au,u,rfl,E.o.below o⟩;rw[List.nil_append] at G;exact G
   go_wp2_with (go_at_call 79;refine L.o.mono ?_;rintro e K ⟨u1,rfl,al,aa⟩;have a0:=qP al Y)
   go_ret2
   rw[O.o];exact⟨rfl,s.o.trans ((aa.below (λaw W=>by simp[Wz] at W) (U7 _)).mono y)⟩
end Ec
end Go.Proofs.YtjidbonhhpkljabGreat
