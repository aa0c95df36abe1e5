/- What the proof stands on, in short names. -/
import Derived.Test.YtjidbonhhpkljaaGreatMb
import Derived.Conc.LoneCalls
import Derived.Conc.Know
import Derived.Conc.CrowdComm
import Derived.Conc.WalkWords
import Derived.Orders
import Derived.Conc.DeferLaws
import Derived.Conc.EventLaws
import Derived.Conc.Neutral
import Derived.Conc.AppendWalk
import Derived.Conc.SmallLaws
import Derived.Conc.AppendEvents3
import Derived.Laws.AppendOwn
import Derived.Great.BuildSlice
import Derived.Lib.SlBytesConst
set_option linter.all false
open Array renaming getD_eq_getD_getElem?->UD,getElem?_eq_getElem->UU,getElem?_eq_none->Vl,getElem?_eq_some_iff->Ua,getElem?_push->VB,getElem?_setIfInBounds->UP,getElem?_setIfInBounds_ne->VS,length_toList->V9,range->Yp,replicate->U3
open Bool renaming and_eq_true->Uv,false->T5,false_eq_true->UA,not_eq_true'->WO,or_eq_true->WS,true->Z
open Classical renaming byContradiction->VZ,choose->Vq,choose_spec->Uu
open Go renaming Act->V5,Addr->UJ,Calls->UB,Code->WU,Deferred->Wj,Ending->Xa,Event->Vm,Frame->Us,Func->WC,FuncId->V6,GStep->Yt,Goroutine->UL,IntKind->Wx,Item->WM,MemOp->Yy,Obj->Xv,Oper->Vu,Operand->U6,PanicEntry->Vr,Program->Ue,Sem->Wu,TypeId->Ug,TypeInfo->Xg,Value->U,World->F,doReturn->WY,execOp->UH,exitTo->Yh,info_parts->Ve,lt_of_block->Ud,maxLen->Up,resolve->X6,results->UX,stepG->UM,step_append_lies->WK,tryRecover->Xp,typeInfo->XC,undef->Vk,unwind->Yi,yielded->Vj,zeroValue->Wn
open Go.Act renaming put->UW
open Go.Addr renaming add_mid->Xc
open Go.Conc renaming G->Uf,mem_ofEvents->WV,served->Wi,solo->Yj
open Go.ConcN renaming sumTo->XL
open Go.Deferred renaming ofValue->XN
open Go.Frame renaming enter->UY,finish->VW,finish_at->XG
open Go.GStep renaming after->WQ
open Go.Goroutine.mk renaming injEq->YG
open Go.Instr renaming buildSlice->XO,fill->X7,sureAddr->Xd
open Go.IntKind renaming bits->Yg,i64->XM,signed->XU,u8->Yu,wrap_i64->WX
open Go.Item.inRegion renaming injEq->XK
open Go.Machine.mk renaming injEq->Y5
open Go.MemAct renaming ofEvent->WD,touch?->X8
open Go.MemOp renaming ofEvents->XV
open Go.Proofs.Tryz renaming f19->Wc
open Go.Region renaming binds->Vn,ready->UZ,schedule->XZ,wanted->UF
open Go.Region.linearise renaming go->U9
open Go.RowKit renaming intOf->US
open Go.RowKit.Below renaming refl->Uo
open Go.Sem renaming run->Wt,runT_eq->Yd,run_bind->WJ
open Go.Stepped.next renaming injEq->Y2
open Go.Value renaming ownBlock->Vz
open Go.World renaming cell?->Ur,news_of_block->VJ
open Go.stepG renaming apply->VN,exec->UI
open List renaming all_eq_true->Uy,append_assoc->UC,append_nil->Wr,cons_append->Wd,flatMap_append->Vi,getD_eq_getElem?_getD->Uh,getElem?_eq_getElem->Ul,getElem_mem->Ui,getElem_of_mem->Vv,length_append->T8,length_cons->VI,length_map->UG,length_nil->XH,length_take->Vs,map_cons->Xw,mem_cons->VM,mem_cons_self->Xs,mem_map->U7,mem_of_mem_take->V4,mem_range->Vt,range->UK,range_succ->XI,setIfInBounds_toArray->Ub,set_cons_succ->Uj,set_cons_zero->Uk,take_append_drop->Ww,take_length->Vf
open List.cons renaming injEq->Xj
open Nat renaming eq_zero_or_pos->Xt,le_refl->T6,le_trans->Ux,lt_of_lt_of_le->Uc,lt_or_ge->Vy,zero_le->UE
open Option renaming bind_eq_some_iff->UR,bind_some->XR,getD_some->V1,map_eq_some_iff->Wq,map_some->V2,none->K,some->I
open Option.some renaming inj->Yk,injEq->U8
open Prod renaming fst->Uw
open WellFounded renaming fixF->Y6,fixF_eq->Y0
set_option maxRecDepth 100000
set_option maxHeartbeats 8000000
namespace Go.Proofs.YtjidbonhhpkljaaGreat
namespace Cc
open Go
def Dg (Stop:Us->List Us->F->Prop)(fr:Us)(aE:List Us)(w:F):Prop:=∃b a,Stop fr aE (sh b a w)
structure Node(P P':Ue)(Stop:Us->List Us->F->Prop) where
 fr:Us
 aE:List Us
 w:F
 u:F
 ok:eM P fr aE
 hp:Hp (bn P) w
 un:Un w u
 no:¬Fin P P' (Dg Stop) fr aE w u
section
variable {P P':Ue}{Stop:Us->List Us->F->Prop}
def Qp (x:Node P P' Stop)(b:Tp)(d:Nat)(y:Node P P' Stop):Prop:=∃a,Da P P (sh b d x.w) (dN x.fr x.aE) y.fr y.aE y.w a
def Ln (x:Node P P' Stop)(e:Tp)(d:Nat):Prop:=¬oX x.fr x.aE\/(∀m f,∃g b a,dN x.fr x.aE P m f (sh e d x.w)= .ended g b a)\/∃c h b a,Da P P (sh e d x.w) (dN x.fr x.aE) c h b a/\IV c
def IK{w w' c:F}(h:rV w w w' c)(e:Tp)(d:Nat):sh e d c=sh e d w':=by
 have f:c.heap=w'.heap:=by
  apply Array.ext_getElem?;intro b;rcases h.un.cases b with a|⟨a,j,g,i⟩
  ·exact a
  ·rw[(h.keep b a).2,(h.keep b a).1,a]
 unfold sh;rw[f,h.un.os,h.un.output]
def CE{w w':F}{c:Ue->Bool->List Us->F->Yt}{fr':Us}{tops':List Us}{es:Array Vm}(h:∀a d u,Un w u->Al w.tape w.drawn a d (w'.drawn-w.drawn)->∃b,rV w u w' b/\∀m cs,c P m cs (sh a d u)= .go (Uf fr' (tops'++cs)) (sh a (d+(w'.drawn-w.drawn)) b) es)(a:Tp)(d:Nat)(f:Al w.tape w.drawn a d (w'.drawn-w.drawn)):c P Z [bG] (sh a d w)= .go (Uf fr' (tops'++[bG])) (sh a (d+(w'.drawn-w.drawn)) w') es:=by
 obtain⟨b,g,e⟩:=h a d w (Un.refl w) f;rw[e Z [bG],IK g]
def Jy{w:F}{fr:Us}{aE:List Us}(h:Twins P P')(e:Hp (bn P) w)(ok:eM P fr aE)(f:oX fr aE){fr':Us}{tops':List Us}{w':F}{es:Array Vm}(b:Da P P' w (dN fr aE) fr' tops' w' es):Da P P w (dN fr aE) fr' tops' w' es:=by
 rcases zb h.self.A h.self.R e ok f with d|⟨i,k,m,g,c⟩
 ·obtain⟨j,l,L8,a⟩:=d Z [];rw[b.eq] at a;cases a
 ·have a:=(c.eq Z []).symm.trans (b.eq Z []);simp only[Uf,Wr,GStep.go.injEq,YG] at a;obtain⟨⟨rfl,rfl,-⟩,rfl,rfl⟩:=a;exact c
def JS(h:Twins P P')(x:Node P P' Stop):∃a d y,Ln x a d\/Qp x a d y:=by
 apply VZ;intro s;have t:∀a d,¬Ln x a d/\∀y,¬Qp x a d y:=λa d=>⟨λi=>s ⟨a,d,x,.inl i⟩,λy C=>s ⟨a,d,y,.inr C⟩⟩;have j:∀a d,∃b:Us×List Us×F×F×Array Vm,(∀m g,UM P' m (Uf x.fr (x.aE++g)) (sh a d x.u)= .go (Uf b.1 (b.2.1++g)) b.2.2.2.1 b.2.2.2.2)/\BB P (sh a d x.w) b.2.2.1 b.2.2.2.2/\(rV (sh a d x.w) (sh a d x.u) b.2.2.1 b.2.2.2.1/\b.2.2.2.1.tape=b.2.2.1.tape)/\eM P b.1 b.2.1/\Fin P P' (Dg Stop) b.1 b.2.1 b.2.2.1 b.2.2.2.1:=by
  intro a d;obtain⟨p,A⟩:=t a d;have f:oX x.fr x.aE:=VZ λf=>p (.inl f);rcases zb h.A h.R (x.hp.sh a d) x.ok f with z|⟨n,q,e,l,c⟩
  ·exact absurd (.inr (.inl z)) p
  ·have u:=Jy h (x.hp.sh a d) x.ok f c;rcases c.twin with o|i
   ·exact absurd (.inr (.inr ⟨n,q,e,l,u,o.2⟩)) p
   ·obtain⟨r,k,i⟩:=i a d x.u ⟨x.un.size,x.un.at_,x.un.os,x.un.output⟩ (Al.refl _ _ _);have o:=c.drawn;have w:(sh a d x.w).drawn=d:=rfl;rw[w] at o i;have v:rV (sh a d x.w) (sh a d x.u) e (sh a e.drawn r):=⟨⟨k.un.size,k.un.at_,k.un.os,k.un.output⟩,k.keep⟩;refine⟨(n,q,e,sh a e.drawn r,l),λm g=>?_,⟨c.hp,c.tape,c.drawn,c.size,c.os,c.output,c.evs⟩,⟨v,c.tape.symm⟩,c.ok,?_⟩
    ·have:=i m g;rw[show d+(e.drawn-d)=e.drawn by omega] at this;exact this
    ·apply VZ;intro B;exact A ⟨n,q,e,sh a e.drawn r,c.ok,c.hp,v.un,B⟩ ⟨l,u⟩
 have f:oX x.fr x.aE:=VZ λf=>(t (λ_ _=>0) 0).1 (.inl f);exact x.no (.step (λa d=>Vq (j a d)) (λa d m g=>(Uu (j a d)).1 m g) (λa d=>(Uu (j a d)).2.1) (λa d=>(Uu (j a d)).2.2.1) (λa d=>(Uu (j a d)).2.2.2.1) f λa d=>(Uu (j a d)).2.2.2.2)
def least{p:Nat->Prop}:∀(n:Nat),p n->∃m,m<=n/\p m/\∀i<m,¬p i:=by
 intro n
 induction n using Nat.strongRecOn with
 |_ n g=>
  intro f;by_cases c:∃i,i<n/\p i
  ·obtain⟨i,a,b⟩:=c;obtain⟨m,h,d,e⟩:=g i a b;exact⟨m,by omega,d,e⟩
  ·exact⟨n,T6 _,f,λi a b=>c ⟨i,a,b⟩⟩
def zn{fr fr':Us}{l b:List Us}{w w':F}(h:Stepped.next (Yj (Uf fr l) w)= .next (Yj (Uf fr' b) w')):fr=fr'/\l=b/\w=w':=by
 simp only[Y2,Yj,Uf,Y5,YG,Array.mk.injEq,Xj] at h;obtain⟨c,a,-⟩:=h;simp at a;exact⟨a.1,a.2,c⟩
def step_end{fr:Us}{l:List Us}{w w':F}{o:Outcome}{es:Array Vm}(h:UM P Z (Uf fr l) w= .ended o w' es):step P (Yj (Uf fr l) w)= .ended o w':=
 step_lone_ended (by simp only[Uf] at h;rw[h];rfl)
def Jo{fr:Us}(h:IV fr)(l:List Us)(w:F):∃o w',step P (Yj (Uf fr l) w)= .ended o w':=by
 obtain⟨c,s,d⟩:=h;have:∃o w' a,UM P Z (Uf fr l) w= .ended o w' a:=by simp[Uf,UM,UI,c,d]
 obtain⟨o,w',a,b⟩:=this;exact⟨o,w',step_end b⟩
def vB(h:Twins P P')(a6:∀fr aE w,Stop fr aE w->¬IV fr){fr:Us}{aE:List Us}{w u:F}(ok:eM P fr aE)(bc:Hp (bn P) w)(bj:Un w u)
 (a9:∀bl,∃N fr' tops' w',runN P N (Yj (Uf fr (aE++[bG])) (sh bl 0 w))= .next (Yj (Uf fr' (tops'++[bG])) w')/\Stop fr' tops' w'):Fin P P' (Dg Stop) fr aE w u:=by
 apply VZ;intro bb;obtain⟨l,Q⟩:=Classical.axiomOfChoice (JS (Stop:=Stop) h);obtain⟨k,a5⟩:=Classical.axiomOfChoice Q;obtain⟨s,bd⟩:=Classical.axiomOfChoice a5;let b:Nat->Node P P' Stop:=λa=>Nat.rec ⟨fr,aE,w,u,ok,bc,bj,bb⟩ (λ_ L=>s L) a;let V:Node P P' Stop->Nat:=λL=>(s L).w.drawn-k L;let D:Nat->Nat:=λa=>Nat.rec 0 (λa a0=>a0+V (b a)) a;let q:Nat->Prop:=λa=>Ln (b a) (l (b a)) (k (b a));have aa:∀a,D (a+1)=D a+V (b a):=λa=>rfl;have bm:∀a,b (a+1)=s (b a):=λa=>rfl;have al:∀a c,c<a->D (c+1)<=D a:=by
  intro a
  induction a with
  |zero=>intro c n;omega
  |succ a U=>
   intro c n;rcases Vy c a with h|h
   ·have:=U c h;rw[aa a];omega
   ·have:c=a:=by omega
    subst this;exact T6 _
 let W:Nat->Nat->Prop:=λi a=>D a<=i/\(q a\/i<D (a+1));have t:∃d:Tp,∀a,(∀c<a,¬q c)->∀i g,W i a->d i g=l (b a) (k (b a)+(i-D a)) g:=by
  have a8:∀(i:Nat),∃f:Question->Nat,∀a,(∀c<a,¬q c)->W i a->∀g,f g=l (b a) (k (b a)+(i-D a)) g:=by
   intro i;by_cases E:∃a,(∀c<a,¬q c)/\W i a
   ·obtain⟨a,o,G⟩:=E;refine⟨λg=>l (b a) (k (b a)+(i-D a)) g,λA ba am g=>?_⟩;have:a=A:=by
     rcases Nat.lt_trichotomy a A with z|S|z
     ·have Q:=al A a z;rcases G.2 with p|p
      ·exact absurd p (ba a z)
      ·have:=am.1;omega
     ·exact S
     ·have Q:=al a A z;rcases am.2 with p|p
      ·exact absurd p (o A z)
      ·have:=G.1;omega
    subst this;rfl
   ·exact⟨λ_=>0,λa o G=>absurd ⟨a,o,G⟩ E⟩
  obtain⟨d,t⟩:=Classical.axiomOfChoice a8;exact⟨λi g=>d i g,λa o i g E=>t i a o E g⟩
 obtain⟨d,t⟩:=t;have ar:∀a,(∀c<a,¬q c)->runN P a (Yj (Uf fr (aE++[bG])) (sh d 0 w))= .next (Yj (Uf (b a).fr ((b a).aE++[bG])) (sh d (D a) (b a).w)):=by
  intro a
  induction a with
  |zero=>intro _;rfl
  |succ a U=>
   intro o;have O:=U λc n=>o c (by omega);rcases bd (b a) with p|⟨B,y⟩
   ·exact absurd p (o a (by omega))
   ·rcases y.twin with j|j
    ·exact absurd Y j.1
    ·have C:Al (sh (l (b a)) (k (b a)) (b a).w).tape (sh (l (b a)) (k (b a)) (b a).w).drawn d (D a) ((s (b a)).w.drawn-(sh (l (b a)) (k (b a)) (b a).w).drawn):=by
      intro c g n;have:=t a (λc n=>o c (by omega)) (D a+c) g ⟨by omega,.inr (by rw[aa];exact Nat.add_lt_add_left n _)⟩;rw[this,Nat.add_sub_cancel_left];rfl
     have T:=CE j d (D a) C;have H:step P (Yj (Uf (b a).fr ((b a).aE++[bG])) (sh d (D a) (b a).w))= .next (Yj (Uf (s (b a)).fr ((s (b a)).aE++[bG])) (sh d (D a+V (b a)) (s (b a)).w)):=Conc.step_solo_go Y T;rw[runN_add,O];simp only[runN,H];rfl
 obtain⟨N,fr',tops',w',e,R⟩:=a9 d;by_cases ab:∀c<N,¬q c
 ·have:=(ar N ab).symm.trans e;obtain⟨M,x,a2⟩:=zn this;have a3:=List.append_cancel_right x;rw[<-M,<-a3,<-a2] at R;exact(b N).no (.stop ⟨d,D N,R⟩)
 ·have:∃c,c<N/\q c:=VZ λj=>ab λc n p=>j ⟨c,n,p⟩;obtain⟨c,n,bi⟩:=this;obtain⟨a,bo,au,ad⟩:=least (p:=q) c bi;have O:=ar a ad;obtain⟨v,rfl⟩:∃v,N=a+(v+1):=⟨N-a-1,by omega⟩;rw[runN_add,O] at e;simp only[runN] at e;have C:∀av,Al (l (b a)) (k (b a)) d (D a) av:=λav c g n=>by
   rw[t a ad (D a+c) g ⟨by omega,.inl au⟩,Nat.add_sub_cancel_left]
  have ao:=(b a).hp.sh d (D a);have ap:¬oX (b a).fr (b a).aE->False:=by
   intro r;have be:(b a).aE=[]:=VZ λj=>r λm=>absurd m j;have aw:=(b a).ok;rw[be] at r aw e;rcases Tv h ao aw r with⟨I,J,B,m⟩|⟨a1,J,B,m⟩
   ·rw[show([]:List Us)++[bG]=[bG] from rfl,step_end m] at e;cases e
   ·rw[show([]:List Us)++[bG]=[bG] from rfl,Conc.step_solo_go Y m] at e;dsimp only at e;cases v with
    |zero=>
     obtain⟨-,x,-⟩:=zn e;simp at x
    |succ v=>
     obtain⟨I,K,X,x⟩:=CQ (P:=P) a1 J;simp only[runN,step_end x] at e;cases e
  rcases au with r|S|⟨a4,az,K,X,y,ae⟩
  ·exact ap r
  ·by_cases r:oX (b a).fr (b a).aE
   ·rcases zb h.self.A h.self.R ao (b a).ok r with a7|⟨a4,az,K,X,y⟩
    ·obtain⟨I,J,B,m⟩:=a7 Z [bG];rw[step_end m] at e;cases e
    ·rcases y.twin with j|j
     ·exact absurd Y j.1
     ·obtain⟨I,J,B,m⟩:=S Z [bG];have:=CE j (l (b a)) (k (b a)) (λc g n=>((C _) c g n).symm);rw[show sh (l (b a)) (k (b a)) (sh d (D a) (b a).w)=sh (l (b a)) (k (b a)) (b a).w from rfl,m] at this;cases this
   ·exact ap r
  ·rcases y.twin with j|j
   ·exact absurd Y j.1
   ·have T:=CE j d (D a) (C _);have H:=Conc.step_solo_go (P:=P) (a:=Uf (b a).fr ((b a).aE++[bG])) Y T;rw[show sh d (D a) (sh (l (b a)) (k (b a)) (b a).w)=sh d (D a) (b a).w from rfl] at H;rw[H] at e;dsimp only at e;cases v with
    |zero=>
     obtain⟨M,-,-⟩:=zn e;exact a6 _ _ _ R (M▸ae)
    |succ v=>
     obtain⟨I,br,m⟩:=Jo (P:=P) ae (az++[bG]) (sh d (D a+(K.drawn-(sh (l (b a)) (k (b a)) (b a).w).drawn)) K);simp only[runN,m] at e;cases e
end
end Cc
namespace Cc
open Go Go.Conc
def blk:Loc->Nat
 | .cell a=>a.block
 | .obj b=>b
 |_=>0
structure wF where
 c:Nat
 own:Nat->Prop
 pc:Option Nat
def Od (S:Nat->Prop)(x:wF)(a:Touch):Prop:=x.own (blk a.loc)\/blk a.loc=x.c\/(S (blk a.loc)/\a.write=T5)
structure tS(S:Nat->Prop)(wk:Nat->Option wF)(B:Nat)(t:Trace):Prop where
 wl:Wordless t
 clean:∀said,¬Race said t
 low:∀i a,touchAt t i=I a->a.loc.isMemory=Z->blk a.loc<B
 known:∀i a,touchAt t i=I a->a.loc.isMemory=Z->Knows t 0 i\/∃k x,wk k=I x/\t.g? i=I k/\Od S x a/\∀p,x.pc=I p->Before t i p
 wr:∀k x,wk k=I x->x.pc=K->∀i a,touchAt t i=I a->a.loc.isMemory=Z->a.write=Z->S (blk a.loc)->Knows t k i
 ow:∀k x,wk k=I x->x.pc=K->∀i a,touchAt t i=I a->a.loc.isMemory=Z->(x.own (blk a.loc)\/blk a.loc=x.c)->Knows t k i
 shut:∀k x p,wk k=I x->x.pc=I p->t.act? p=I (.close x.c)
section
variable {S:Nat->Prop}{wk:Nat->Option wF}{B B':Nat}{t u:Trace}
def yl{i k:Nat}(h:t.g? i=I k):(t++u).g? i=I k:=by
 unfold Trace.g? at h ⊢;obtain⟨c,a,b⟩:=Wq.1 h;rw[getElem?_append_old (lt_size_of_getElem? a),a];simpa using b
def cK{i:Nat}{a:Touch}(h:touchAt (t++u) i=I a):touchAt t i=I a\/∃b,b∈u/\(t++u)[i]? =I b/\b.act.touch?= I a:=by
 obtain⟨g,c,d⟩:=touch_of h;rcases getElem?_append_cases c with⟨_,e⟩|⟨_,f⟩
 ·exact .inl (by rw[touchAt_of e];exact d)
 ·exact .inr ⟨g,f,c,d⟩
def tS.mute(h:tS S wk B t){γ:Nat}(y:∀j∈u,j.g=γ)(z:Wordless u)(p:∀j∈u,j.act.touch?= K)(s:B<=B'):tS S wk B' (t++u):=by
 have m:∀{b a},touchAt (t++u) b=I a->touchAt t b=I a:=λc=>by
  rcases cK c with g|⟨j,g,_,l⟩
  ·exact g
  ·rw[p j g] at l;cases l
 refine⟨h.wl.append z,λC=>noRace_append (h.clean C) y λb a _ j w D o _=>(by rw[p j w] at o;cases o),λb a c i=>Uc (h.low b a (m c) i) s,λb a c i=>?_,λe f k d b a c i A x=>(h.wr e f k d b a (m c) i A x).app u,λe f k d b a c i v=>(h.ow e f k d b a (m c) i v).app u,λe f n k d=>by rw[act?_old (lt_of_act? (h.shut e f n k d))];exact h.shut e f n k d⟩;rcases h.known b a (m c) i with g|⟨e,f,g,l,q,r⟩
 ·exact .inl (g.app u)
 ·exact .inr ⟨e,f,g,yl l,q,λn d=>(r n d).app u⟩
def tS.main(h:tS S wk B t)(w:∀d∈u,d.g=0)(G:Wordless u)(A:B<=B')
 (o:∀d∈u,∀b,d.act.touch?= I b->b.loc.isMemory=Z->blk b.loc<B'/\(∀k x,wk k=I x->¬x.own (blk b.loc)/\blk b.loc≠x.c)/\(S (blk b.loc)->b.write=T5)):tS S wk B' (t++u):=by
 refine⟨h.wl.append G,λH=>noRace_append (h.clean H) w λj e i d E b C D=>?_,λj e i c=>?_,λj e i c=>?_,λk x g l j e i c s v=>?_,λk x g l j e i c n=>?_,λk x q g l=>by rw[act?_old (lt_of_act? (h.shut k x q g l))];exact h.shut k x q g l⟩
 ·obtain⟨p,c,y,_⟩:=D;obtain⟨_,f,r⟩:=o d E b C (p▸c);rcases h.known j e i c with a|⟨k,x,g,_,F,_⟩
  ·exact a
  ·rcases F with m|m|⟨m,z⟩
   ·exact absurd (p▸m) (f k x g).1
   ·exact absurd (p▸m) (f k x g).2
   ·have:=r (p▸m);rw[z,this] at y;simp at y
 ·rcases cK i with a|⟨d,a,_,f⟩
  ·exact Uc (h.low j e a c) A
  ·exact(o d a e f c).1
 ·rcases cK i with a|⟨d,a,f,_⟩
  ·rcases h.known j e a c with a|⟨k,x,a,f,r,m⟩
   ·exact .inl (a.app u)
   ·exact .inr ⟨k,x,a,yl f,r,λq l=>(m q l).app u⟩
  ·have:=knows_own f;rw[w d a] at this;exact .inl this
 ·rcases cK i with a|⟨d,a,_,f⟩
  ·exact(h.wr k x g l j e a c s v).app u
  ·rw[(o d a e f c).2.2 v] at s;cases s
 ·rcases cK i with a|⟨d,a,_,f⟩
  ·exact(h.ow k x g l j e a c n).app u
  ·rcases n with n|n
   ·exact absurd n ((o d a e f c).2.1 k x g).1
   ·exact absurd n ((o d a e f c).2.1 k x g).2
def tS.RN(h:tS S wk B t){k:Nat}{x:wF}(r:wk k=I x)(s:x.pc=K){own':Nat->Prop}(X:∀b,x.own b->own' b)(L:∀b,own' b->x.own b\/B<=b)(F:∀l∈u,l.g=k)(Y:Wordless u)(P:B<=B')
 (Q:∀b,own' b->¬S b) (R:¬S x.c)
 (V:∀j y,j≠k->wk j=I y->(∀b,own' b->¬y.own b/\b≠y.c)/\¬y.own x.c/\x.c≠y.c/\(∀b,S b->¬y.own b/\b≠y.c))
 (z:∀l∈u,∀b,l.act.touch?= I b->b.loc.isMemory=Z->blk b.loc<B'/\Od S ⟨x.c,own',K⟩ b):tS S (λj=>if j=k then I ⟨x.c,own',K⟩ else wk j) B' (t++u):=by
 have G:∀{j y},(if j=k then I (⟨x.c,own',K⟩:wF) else wk j)=I y->(j=k/\y=⟨x.c,own',K⟩)\/(j≠k/\wk j=I y):=λ{j y} D=>by
  split at D
  ·rename_i g;cases D;exact .inl ⟨g,rfl⟩
  ·rename_i g;exact .inr ⟨g,D⟩
 refine⟨h.wl.append Y,λaa=>noRace_append (h.clean aa) F λi f m l W b T U=>?_,λi f m d=>?_,λi f m d=>?_,λj y g n i f m d C A=>?_,λj y g n i f m d e=>?_,λj y v g n=>?_⟩
 ·obtain⟨w,d,M,_⟩:=U;rcases(z l W b T (w▸d)).2 with c|c|⟨c,p⟩
  ·rcases L _ c with p|p
   ·exact h.ow k x r s i f m d (.inl (w▸p))
   ·have:=h.low i f m d;rw[w] at this;omega
  ·exact h.ow k x r s i f m d (.inr (w▸c))
  ·rw[p] at M;exact h.wr k x r s i f m d (by simpa using M) (w▸c)
 ·rcases cK m with a|⟨l,a,_,o⟩
  ·exact Uc (h.low i f a d) P
  ·exact(z l a f o d).1
 ·rcases cK m with a|⟨l,a,o,q⟩
  ·rcases h.known i f a d with a|⟨j,y,a,o,q,c⟩
   ·exact .inl (a.app u)
   ·by_cases g:j=k
    ·subst g;rw[r] at a;cases a;refine .inr ⟨j,⟨x.c,own',K⟩,by simp,yl o,?_,λv n=>by cases n⟩;exact q.imp (X _) id
    ·exact .inr ⟨j,y,by simp[g,a],yl o,q,λv n=>(c v n).app u⟩
  ·refine .inr ⟨k,⟨x.c,own',K⟩,by simp,?_,(z l a f q d).2,λv n=>by cases n⟩;simp[Trace.g?,o,F l a]
 ·rcases cK m with a|⟨l,a,_,o⟩
  ·rcases G g with⟨rfl,rfl⟩|⟨E,g⟩
   ·exact(h.wr j x r s i f a d C A).app u
   ·exact(h.wr j y g n i f a d C A).app u
  ·rcases(z l a f o d).2 with c|c|⟨c,p⟩
   ·exact absurd A (Q _ c)
   ·exact absurd A (c▸R)
   ·rw[p] at C;cases C
 ·rcases G g with⟨rfl,rfl⟩|⟨E,g⟩
  ·rcases cK m with a|⟨l,a,o,q⟩
   ·refine Knows.app u ?_;rcases e with e|e
    ·rcases L _ e with p|p
     ·exact h.ow j x r s i f a d (.inl p)
     ·have:=h.low i f a d;omega
    ·exact h.ow j x r s i f a d (.inr e)
   ·have:=knows_own o;rw[F l a] at this;exact this
  ·obtain⟨H,N,O,J⟩:=V j y E g;rcases cK m with a|⟨l,a,o,q⟩
   ·exact(h.ow j y g n i f a d e).app u
   ·rcases(z l a f q d).2 with c|c|⟨c,p⟩
    ·rcases e with e|e
     ·exact absurd e (H _ c).1
     ·exact absurd e (H _ c).2
    ·rcases e with e|e
     ·exact absurd (c▸e) N
     ·exact absurd (c.symm.trans e) O
    ·rcases e with e|e
     ·exact absurd e (J _ c).1
     ·exact absurd e (J _ c).2
 ·rcases G g with⟨rfl,rfl⟩|⟨E,g⟩
  ·cases n
  ·rw[act?_old (lt_of_act? (h.shut j y v g n))];exact h.shut j y v g n
def tS.close(h:tS S wk B t){k:Nat}{x:wF}(H:wk k=I x)(V:x.pc=K)(R:x.c<B)(aa:¬S x.c)(fn:V6)(pos:String)
 (T:∀j y,j≠k->wk j=I y->¬y.own x.c/\x.c≠y.c):
 tS S (λj=>if j=k then I ⟨x.c,x.own,I (t.size+1)⟩ else wk j) B (t++XV k fn pos #[⟨.obj x.c,T5,Z⟩,⟨.obj x.c,Z,Z⟩]):=by
 have O:XV k fn pos #[⟨.obj x.c,T5,Z⟩,⟨.obj x.c,Z,Z⟩]=#[{g:=k,fn,pos,act:=.access ⟨.obj x.c,T5,Z⟩},{g:=k,fn,pos,act:=.close x.c}]:=by
  rw[ofEvents_eq];simp[WD]
 rw[O];have J:∀d∈ #[({g:=k,fn,pos,act:=.access ⟨.obj x.c,T5,Z⟩}:Yy),{g:=k,fn,pos,act:=.close x.c}],d.g=k:=by
  intro d o;simp at o;rcases o with rfl|rfl<;>rfl
 have w:∀d∈ #[({g:=k,fn,pos,act:=.access ⟨.obj x.c,T5,Z⟩}:Yy),{g:=k,fn,pos,act:=.close x.c}],∀r,d.act.touch?= I r->r=⟨.obj x.c,T5,.atomic⟩:=by
  intro d o r v;simp at o;rcases o with rfl|rfl
  ·simp[X8] at v;exact v.symm
  ·simp[X8] at v
 have A:(t++#[({g:=k,fn,pos,act:=.access ⟨.obj x.c,T5,Z⟩}:Yy),{g:=k,fn,pos,act:=.close x.c}])[t.size+1]? =I {g:=k,fn,pos,act:=.close x.c}:=by
  rw[Array.getElem?_append_right (by omega)];simp
 have E:∀b,(t++#[({g:=k,fn,pos,act:=.access ⟨.obj x.c,T5,Z⟩}:Yy),{g:=k,fn,pos,act:=.close x.c}]).g? b=I k->b≠t.size+1->Before (t++#[({g:=k,fn,pos,act:=.access ⟨.obj x.c,T5,Z⟩}:Yy),{g:=k,fn,pos,act:=.close x.c}]) b (t.size+1):=by
  intro b G z;unfold Trace.g? at G;obtain⟨d,n,s⟩:=Wq.1 G;have:=lt_size_of_getElem? n;simp at this;exact .inr (hb_po (by omega) n A s)
 have D:∀{j y},(if j=k then I (⟨x.c,x.own,I (t.size+1)⟩:wF) else wk j)=I y->(j=k/\y=⟨x.c,x.own,I (t.size+1)⟩)\/(j≠k/\wk j=I y):=λ{j y} s=>by
  split at s
  ·rename_i c;cases s;exact .inl ⟨c,rfl⟩
  ·rename_i c;exact .inr ⟨c,s⟩
 have X:Wordless #[({g:=k,fn,pos,act:=.access ⟨.obj x.c,T5,Z⟩}:Yy),{g:=k,fn,pos,act:=.close x.c}]:=by
  intro d o m i;simp at o;rcases o with rfl|rfl<;>cases i
 have L:∀{b e},touchAt (t++#[({g:=k,fn,pos,act:=.access ⟨.obj x.c,T5,Z⟩}:Yy),{g:=k,fn,pos,act:=.close x.c}]) b=I e->b≠t.size+1:=by
  rintro b e g rfl;rw[touchAt_of A] at g;simp[X8] at g
 refine⟨h.wl.append X,λY=>noRace_append (h.clean Y) J λb e g d o r v Q=>?_,λb e g i=>?_,λb e g i=>?_,λj y c f b e g i C W=>?_,λj y c f b e g i n=>?_,λj y q c f=>?_⟩
 ·obtain⟨U,i,_⟩:=Q;have:=w d o r v;subst this;exact h.ow k x H V b e g i (.inr (by rw[U];rfl))
 ·rcases cK g with a|⟨d,a,_,l⟩
  ·exact h.low b e a i
  ·rw[w d a e l];exact R
 ·rcases cK g with a|⟨d,a,l,p⟩
  ·rcases h.known b e a i with a|⟨j,y,a,l,p,P⟩
   ·exact .inl (a.app _)
   ·by_cases c:j=k
    ·subst c;rw[H] at a;cases a;exact .inr ⟨j,⟨x.c,x.own,I (t.size+1)⟩,by simp,yl l,p,λq f=>by cases f;exact E b (yl l) (L g)⟩
    ·exact .inr ⟨j,y,by simp[c,a],yl l,p,λq f=>(P q f).app _⟩
  ·have F:(t++#[({g:=k,fn,pos,act:=.access ⟨.obj x.c,T5,Z⟩}:Yy),{g:=k,fn,pos,act:=.close x.c}]).g? b=I k:=by simp only[Trace.g?,l,V2,J d a]
   refine .inr ⟨k,⟨x.c,x.own,I (t.size+1)⟩,by simp,F,.inr (.inl (by rw[w d a e p];rfl)),λq f=>by cases f;exact E b F (L g)⟩
 ·rcases D c with⟨rfl,rfl⟩|⟨z,c⟩
  ·cases f
  ·rcases cK g with a|⟨d,a,_,l⟩
   ·exact(h.wr j y c f b e a i C W).app _
   ·rw[w d a e l] at C;cases C
 ·rcases D c with⟨rfl,rfl⟩|⟨z,c⟩
  ·cases f
  ·obtain⟨M,N⟩:=T j y z c;rcases cK g with a|⟨d,a,l,p⟩
   ·exact(h.ow j y c f b e a i n).app _
   ·rw[w d a e p] at n;rcases n with n|n
    ·exact absurd n M
    ·exact absurd n N
 ·rcases D c with⟨rfl,rfl⟩|⟨z,c⟩
  ·cases f;rw[act?_of A]
  ·rw[act?_old (lt_of_act? (h.shut j y q c f))];exact h.shut j y q c f
def tS.Mv(h:tS S wk B t){k p:Nat}{x:wF}(r:wk k=I x)(s:x.pc=I p)(fn:V6)(pos:String):
 tS S (λj=>if j=k then K else wk j) B (t++#[{g:=0,fn,pos,act:=.recvClosed x.c}]):=by
 have D:Wordless #[({g:=0,fn,pos,act:=.recvClosed x.c}:Yy)]:=by
  intro f d m l;simp at d;subst d;cases l
 have A:∀f∈ #[({g:=0,fn,pos,act:=.recvClosed x.c}:Yy)],f.act.touch?= K:=by
  intro f d;simp at d;subst d;rfl
 have c:=h.mute (B':=B) (γ:=0) (λf d=>by simp at d;subst d;rfl) D A (T6 _);have i:(t++#[({g:=0,fn,pos,act:=.recvClosed x.c}:Yy)])[t.size]? =I {g:=0,fn,pos,act:=.recvClosed x.c}:=by
  rw[Array.getElem?_append_right (T6 _)];simp
 have q:=c.shut k x p r s;obtain⟨H,E,_⟩:=Wq.1 q;have C:Knows (t++#[({g:=0,fn,pos,act:=.recvClosed x.c}:Yy)]) 0 p:=⟨t.size,_,i,rfl,.inr (.single (.inr ⟨.closed q (by rw[act?_of i]),c.wl.heard E,c.wl.heard i⟩))⟩;have n:∀{j a},(if j=k then K else wk j)=I a->j≠k/\wk j=I a:=λ{j a} g=>by
  split at g
  ·cases g
  ·rename_i b;exact⟨b,g⟩
 refine⟨c.wl,c.clean,c.low,λF v z l=>?_,λj a b=>c.wr j a (n b).2,λj a b=>c.ow j a (n b).2,λj a G b=>c.shut j a G (n b).2⟩;rcases c.known F v z l with e|⟨j,a,e,w,y,o⟩
 ·exact .inl e
 ·by_cases b:j=k
  ·subst b;rw[r] at e;cases e;exact .inl (Knows.of_before (o p s) C)
  ·exact .inr ⟨j,a,by simp[b,e],w,y,o⟩
def tS.spawn(h:tS S wk B t){k c:Nat}(R:wk k=K)(fn n:V6)(pos:String)
 (C:∀j y,wk j=I y->¬y.own c/\c≠y.c/\∀b,S b->¬y.own b/\b≠y.c) (P:¬S c):
 tS S (λj=>if j=k then I ⟨c,λ_=>False,K⟩ else wk j) B (t++#[{g:=0,fn,pos,act:=.go k},{g:=k,fn:=n,pos,act:=.start}]):=by
 have O:t++#[({g:=0,fn,pos,act:=.go k}:Yy),{g:=k,fn:=n,pos,act:=.start}]=t++#[({g:=0,fn,pos,act:=.go k}:Yy)]++#[({g:=k,fn:=n,pos,act:=.start}:Yy)]:=by apply Array.ext';simp
 have T:Wordless #[({g:=0,fn,pos,act:=.go k}:Yy)]:=by
  intro v d m l;simp at d;subst d;cases l
 have U:Wordless #[({g:=k,fn:=n,pos,act:=.start}:Yy)]:=by
  intro v d m l;simp at d;subst d;cases l
 have r:tS S wk B (t++#[({g:=0,fn,pos,act:=.go k}:Yy),{g:=k,fn:=n,pos,act:=.start}]):=by
  rw[O];refine(h.mute (B':=B) (γ:=0) (λv d=>by simp at d;subst d;rfl) T (λv d=>by simp at d;subst d;rfl) (T6 _)).mute (γ:=k) (λv d=>by simp at d;subst d;rfl) U (λv d=>by simp at d;subst d;rfl) (T6 _)
 have a:(t++#[({g:=0,fn,pos,act:=.go k}:Yy),{g:=k,fn:=n,pos,act:=.start}])[t.size]? =I {g:=0,fn,pos,act:=.go k}:=by
  rw[Array.getElem?_append_right (T6 _)];simp
 have p:(t++#[({g:=0,fn,pos,act:=.go k}:Yy),{g:=k,fn:=n,pos,act:=.start}])[t.size+1]? =I {g:=k,fn:=n,pos,act:=.start}:=by
  rw[Array.getElem?_append_right (by omega)];simp
 have L:∀{g},Knows t 0 g->Knows (t++#[({g:=0,fn,pos,act:=.go k}:Yy),{g:=k,fn:=n,pos,act:=.start}]) k g:=λ{g} Q=>
  ⟨t.size+1,_,p,rfl,.inr ((Q.hb_new (T6 _) a Y).trans (.single (.inr ⟨.spawn (by rw[act?_of a]) (by rw[act?_of p]) (by simp[Trace.g?]),r.wl.heard a,r.wl.heard p⟩)))⟩
 have J:∀{g i},touchAt (t++#[({g:=0,fn,pos,act:=.go k}:Yy),{g:=k,fn:=n,pos,act:=.start}]) g=I i->touchAt t g=I i:=λq=>by
  rcases cK q with a|⟨v,a,_,p⟩
  ·exact a
  ·simp at a;rcases a with rfl|rfl<;>simp[X8] at p
 have F:∀{j y},(if j=k then I (⟨c,λ_=>False,K⟩:wF) else wk j)=I y->(j=k/\y=⟨c,λ_=>False,K⟩)\/(j≠k/\wk j=I y):=λ{j y} w=>by
  split at w
  ·rename_i f;cases w;exact .inl ⟨f,rfl⟩
  ·rename_i f;exact .inr ⟨f,w⟩
 refine⟨r.wl,r.clean,r.low,λg i q l=>?_,λj y f s g i q l E D=>?_,λj y f s g i q l o=>?_,λj y V f s=>?_⟩
 ·rcases r.known g i q l with a|⟨j,y,a,p,e,A⟩
  ·exact .inl a
  ·refine .inr ⟨j,y,?_,p,e,A⟩;rw[if_neg (λw=>by rw[w,R] at a;cases a)];exact a
 ·rcases F f with⟨rfl,rfl⟩|⟨H,f⟩
  ·refine L ?_;rcases h.known g i (J q) l with a|⟨x,z,a,p,e,A⟩
   ·exact a
   ·rcases e with e|e|⟨e,G⟩
    ·exact absurd e ((C x z a).2.2 _ D).1
    ·exact absurd e ((C x z a).2.2 _ D).2
    ·rw[G] at E;cases E
  ·exact r.wr j y f s g i q l E D
 ·rcases F f with⟨rfl,rfl⟩|⟨H,f⟩
  ·refine L ?_;rcases o with o|o
   ·exact o.elim
   ·have o:blk i.loc=c:=o;rcases h.known g i (J q) l with a|⟨x,z,a,p,e,A⟩
    ·exact a
    ·obtain⟨M,N,W⟩:=C x z a;rcases e with e|e|⟨e,G⟩
     ·exact absurd (o▸e) M
     ·exact absurd (o.symm.trans e) N
     ·exact absurd (o▸e) P
  ·exact r.ow j y f s g i q l o
 ·rcases F f with⟨rfl,rfl⟩|⟨H,f⟩
  ·cases s
  ·exact r.shut j y V f s
def tS.over(h:tS S (λ_=>K) B t):t.HandedOver:=by
 intro k n d i e;obtain⟨m,j,g,_⟩:=e;rcases h.known k m j g with⟨l,q,b,c,a⟩|⟨o,p,f,_⟩
 ·refine⟨l,by simp[Trace.g?,b,c],?_⟩;rcases a with rfl|a
  ·simp[Trace.g?,b] at d;exact absurd (d.symm.trans c) i
  ·exact a
 ·cases f
end
def NR (t:List F->Prop)(w:F):List F->Prop:=λa=>t (w::a)
def S0 (s t:List F->Prop):Prop:=t []/\∃a,s=NR t a
structure Tr where TM ::
 t:List F->Prop
 a:Acc S0 t
 c:∀p q,t (p++q)->t p
def Tr.ext{x y:Tr}(h:x.t=y.t):x=y:=by
 cases x;cases y;cases h;rfl
def Tr.fin:Tr:=⟨λ_=>False,⟨_,λ_ a=>a.1.elim⟩,λ_ _ a=>a⟩
def Tr.mk(f:F->Tr):Tr:=⟨λa=>match a with
 | []=>True
 |w::a=>(f w).t a,⟨_,λs b=>by obtain⟨_,w,rfl⟩:=b;exact(f w).a⟩,λa d b=>by
 cases a with
 |nil=>trivial
 |cons w a=>exact(f w).c a d b⟩
def Tr.mk_inj{f g:F->Tr}(h:Tr.mk f= .mk g):f=g:=funext λb=>Tr.ext (funext λa=>congrFun (congrArg Tr.t h) (b::a))
def Tr.Q6{f:F->Tr}(h:Tr.fin= .mk f):False:=(congrFun (congrArg Tr.t h) []).mpr trivial
def Tr.ind{d:Tr->Prop}(fin:d .fin)(mk:∀f,(∀w,d (f w))->d (.mk f))(i:Tr):d i:=by
 obtain⟨b,a,c⟩:=i
 induction a with
 |intro b h j=>
  by_cases g:b []
  ·have e:Tr.TM b (.intro b h) c= .mk λw=>⟨NR b w,h _ ⟨g,w,rfl⟩,λp k=>c (w::p) k⟩:=Tr.ext (funext λp=>by
    cases p with
    |nil=>exact eq_true g
    |cons w p=>rfl)
   rw[e];exact mk _ λw=>j _ ⟨g,w,rfl⟩ _
  ·have e:Tr.TM b (.intro b h) c= .fin:=Tr.ext (funext λp=>eq_false λh=>g (c [] p h));rw[e];exact fin
def Tr.go{C:Type}(b:(F->C->Prop)->C->Prop)(d:Tr):C->Prop:=Y6 (r:=S0) (C:=λ_=>C->Prop) (λa f h=>∃g:a [],b (λe=>f (NR a e) ⟨g,e,rfl⟩) h) d.t d.a
def Tr.go_eq{C:Type}{b:(F->C->Prop)->C->Prop}(a:Tr)(x:C):Tr.go b a x↔∃h:a.t [],b (λw=>Tr.go b ⟨NR a.t w,a.a.inv ⟨h,w,rfl⟩,λp q=>a.c (w::p) q⟩) x:=Iff.of_eq (congrFun (Y0 (r:=S0) (C:=λ_=>C->Prop) (λt d x=>∃h:t [],b (λw=>d (NR t w) ⟨h,w,rfl⟩) x) a.t a.a) x:)
def Tr.pR{C:Type}{b:(F->C->Prop)->C->Prop}{x:C}(h:Tr.go b .fin x):False:=by
 obtain⟨h,_⟩:=(Tr.go_eq _ _).1 h;exact h
def Tr.Qz{C:Type}{b:(F->C->Prop)->C->Prop}{f:F->Tr}{x:C}:Tr.go b (.mk f) x↔b (λw=>Tr.go b (f w)) x:=(Tr.go_eq _ _).trans ⟨fun⟨_,a⟩=>a,λa=>⟨trivial,a⟩⟩
def xF (_:Ue)(_:F):Prop:=True
structure RelB(B:Nat->Prop)(w w1:F):Prop where
 at_:∀b:Nat,B b->w1.heap[b]? =w.heap[b]?
 size:w.heap.size<=w1.heap.size
 tape:w1.tape=w.tape
 os:w1.os=w.os
 output:w1.output=w.output
def RelB.refl(B:Nat->Prop)(w:F):RelB B w w:=⟨λ_ _=>rfl,T6 _,rfl,rfl,rfl⟩
def RelB.trans{B:Nat->Prop}{w e f:F}(h:RelB B w e)(a:RelB B e f):RelB B w f:=⟨λb d=>(a.at_ b d).trans (h.at_ b d),Ux h.size a.size,a.tape.trans h.tape,a.os.trans h.os,a.output.trans h.output⟩
def RelB.at(B:Nat->Prop)(w:F)(d:Nat):RelB B w (w.at d):=⟨λ_ _=>rfl,T6 _,rfl,rfl,rfl⟩
def cT (own:Nat->Prop)(w w':F):Nat->Prop:=λa=>own a\/(w.heap.size<=a/\a<w'.heap.size)
def EvW (S o:Nat->Prop)(e:Vm):Prop:=match e.loc with
 | .cell a=>o a.block\/(S a.block/\e.write=T5)
 | .obj b=>o b\/(S b/\e.write=T5)
 | .mark m=>Neutral m
 |_=>True
structure mj(P0:Ue)(S own:Nat->Prop)(w w':F)(es:Array Vm):Prop where
 keep:∀b:Nat,b<w.heap.size->¬own b->w'.heap[b]? =w.heap[b]?
 size:w.heap.size<=w'.heap.size
 tape:w'.tape=w.tape
 os:w'.os=w.os
 output:w'.output=w.output
 hp:xF P0 w->xF P0 w'
 evs:∀e∈es,EvW S (cT own w w') e
structure Li(P0:Ue)(w w':F)(es:Array Vm):Prop where
 size:w.heap.size<=w'.heap.size
 tape:w'.tape=w.tape
 os:w'.os=w.os
 output:w'.output=w.output
 hp:xF P0 w->xF P0 w'
 evs:∀e∈es,C6 w'.heap.size e
def TG (P0 P:Ue)(S:Nat->Prop)(c:Nat)(R:F->(Nat->Prop)->List U->UL->F->Prop)(own:Nat->Prop)(vs:List U)(g:UL)(w:F):Prop:=g.status= .running/\
 ((∀a,RelB (λb=>S b\/own b) w a->∃d e i,UM P T5 g a= .go d e i/\mj P0 S own a e i/\R a (cT own a e) vs d e)\/
 (∃v k j o,vs=v::k/\∀a,RelB (λb=>S b\/own b) w a->UM P T5 g a= .comm j #[scase c v o] Z .send a #[]/\R a own k (Wi j Vk) a)\/
 (vs=[]/\∃d n,QuitsIn P n d/\mayWake P g=Z/\∀a,RelB (λb=>S b\/own b) w a->∀h f s l m,a.heap[c]? =I (.chan h f T5 s l m)->UM P T5 g a= .go d (a.setChan c h f Z s l m) #[⟨.obj c,T5,Z⟩,⟨.obj c,Z,Z⟩]))
def Wk (P0 P:Ue)(S:Nat->Prop)(c:Nat)(e:Tr)(own:Nat->Prop)(vs:List U)(g:UL)(w:F):Prop:=e.go (C:=(Nat->Prop)×List U×UL×F) (λb a=>TG P0 P S c (λw d v g f=>b w (d,v,g,f)) a.1 a.2.1 a.2.2.1 a.2.2.2) (own,vs,g,w)
def wm{P0 P:Ue}{S:Nat->Prop}{c:Nat}{f:F->Tr}{own:Nat->Prop}{vs:List U}{g:UL}{w:F}:Wk P0 P S c (.mk f) own vs g w↔TG P0 P S c (λw=>Wk P0 P S c (f w)) own vs g w:=Tr.Qz
abbrev Md:Type:=Option ((Nat->Prop)×(Nat->Prop)×(Nat->Option (List U)))
abbrev Md.ex:Md:=K
abbrev Md.sh(S a:Nat->Prop)(b:Nat->Option (List U)):Md:=I (S,a,b)
def gb (b:Nat->Option (List U))(c:Nat)(l:Option (List U)):Nat->Option (List U):=λa=>if a=c then l else b a
def TF (P0 P:Ue)(Post:U->F->Prop)(R:F->Md->UL->F->Prop):Md->UL->F->Prop
 |none,e,g=>
  (∀a,AtRel g a->∃f i h,UM P Z e a= .go f i h/\f.status= .running/\Li P0 a i h/\R a Md.ex f i)\/
  (∀a,AtRel g a->∃v h,UM P Z e a= .ended (.done v) a h/\(∀p∈h,C6 a.heap.size p)/\Post v a)\/
  (∃S d,(∀b,S b->b<g.heap.size/\¬d b)/\(∀b,d b->b<g.heap.size)/\∀a,AtRel g a->R a (Md.sh S d (λ_=>K)) e a)
 |some (S,d,j),e,g=>
  (∀a,RelB (λb=>S b\/d b) g a->∃f i h,UM P Z e a= .go f i h/\f.status= .running/\mj P0 S d a i h/\R a (Md.sh S (cT d a i) j) f i)\/
  (∃c l m,d c/\l.length<=m/\j c=K/\g.heap[c]? =I (.chan m #[] T5 0 0 T5)/\∀a,RelB (λb=>S b\/d b) g a->∃f n r,UM P Z e a= .spawn f n a #[]/\f.status= .running/\Wk P0 P S c r (λ_=>False) l n a/\R a (Md.sh S (λb=>d b/\b≠c) (gb j c (I l))) f a)\/
  (∃c o k l,j c=I l/\(k.frame=e.frame/\k.callers=e.callers/\k.dying=e.dying)/\∀a,RelB (λb=>S b\/d b) g a->UM P Z e a= .comm k #[rcase c o] Z (.recv Z) a #[]/\
    match l with
    |v::q=>R a (Md.sh S d (gb j c (I q))) (Wi k (recvd Z v Z)) a
    | []=>R a (Md.sh S d (gb j c K)) (Wi k (recvd Z o T5)) a)\/
  ((∀c,j c=K)/\∀a,RelB (λb=>S b\/d b) g a->xF P0 a->R a Md.ex e a)
def Mn (P0 P:Ue)(Post:U->F->Prop)(e:Tr)(d:Md)(g:UL)(w:F):Prop:=e.go (C:=Md×UL×F) (λb a=>TF P0 P Post (λw m g f=>b w (m,g,f)) a.1 a.2.1 a.2.2) (d,g,w)
def nl{P0 P:Ue}{Post:U->F->Prop}{f:F->Tr}{a:Md}{g:UL}{w:F}:Mn P0 P Post (.mk f) a g w↔TF P0 P Post (λw=>Mn P0 P Post (f w)) a g w:=Tr.Qz
section
variable {P0 P:Ue}{S:Nat->Prop}{c:Nat}{Post:U->F->Prop}
def Wk.rely{j:Tr}{own:Nat->Prop}{vs:List U}{g:UL}{w k:F}(h:Wk P0 P S c j own vs g w)(i:RelB (λb=>S b\/own b) w k):Wk P0 P S c j own vs g k:=by
 cases j using Tr.ind with
 |fin=>exact(Tr.pR h).elim
 |mk f=>
  obtain⟨p,h⟩:=wm.1 h;refine wm.2 ⟨p,?_⟩;rcases h with h|⟨v,q,m,s,e,h⟩|⟨e,l,r,o,n,h⟩
  ·exact .inl λd a=>h d (i.trans a)
  ·exact .inr (.inl ⟨v,q,m,s,e,λd a=>h d (i.trans a)⟩)
  ·exact .inr (.inr ⟨e,l,r,o,n,λd a=>h d (i.trans a)⟩)
def ou{a b c:F}(h:AtRel a b)(k:AtRel b c):AtRel a c:=atRel_trans a b c h k
def Mn.H9{e:Tr}{g:UL}{w i:F}(h:Mn P0 P Post e .ex g w)(d:AtRel w i):Mn P0 P Post e .ex g i:=by
 cases e using Tr.ind with
 |fin=>exact(Tr.pR h).elim
 |mk f=>
  have j:i.heap=w.heap:=by obtain⟨n,rfl⟩:=d;rfl
  refine nl.2 ?_;rcases nl.1 h with h|h|⟨S,k,l,a,m⟩
  ·exact .inl λb a=>h b (ou d a)
  ·exact .inr (.inl λb a=>h b (ou d a))
  ·exact .inr (.inr ⟨S,k,by rw[j];exact l,by rw[j];exact a,λb a=>m b (ou d a)⟩)
def Mn.j6{k:Tr}{g:UL}{j:Nat->Prop}{n:Nat->Option (List U)}{w m:F}(h:Mn P0 P Post k (.sh S j n) g w)(i:RelB (λb=>S b\/j b) w m):Mn P0 P Post k (.sh S j n) g m:=by
 cases k using Tr.ind with
 |fin=>exact(Tr.pR h).elim
 |mk f=>
  refine nl.2 ?_;rcases nl.1 h with h|⟨c,l,o,e,a,q,r,h⟩|⟨c,s,p,l,e,a,h⟩|⟨e,h⟩
  ·exact .inl λd a=>h d (i.trans a)
  ·exact .inr (.inl ⟨c,l,o,e,a,q,(i.at_ c (.inr e)).trans r,λd a=>h d (i.trans a)⟩)
  ·exact .inr (.inr (.inl ⟨c,s,p,l,e,a,λd a=>h d (i.trans a)⟩))
  ·exact .inr (.inr (.inr ⟨e,λd a=>h d (i.trans a)⟩))
end
def Mn.cast{P0 P:Ue}{Post:U->F->Prop}{b tr':Tr}{a:Md}{g:UL}{w:F}(e:b=tr')(h:Mn P0 P Post tr' a g w):Mn P0 P Post b a g w:=e▸h
def Wk.cast{P0 P:Ue}{S:Nat->Prop}{c:Nat}{a tr':Tr}{own:Nat->Prop}{vs:List U}{g:UL}{w:F}(e:a=tr')(h:Wk P0 P S c tr' own vs g w):Wk P0 P S c a own vs g w:=e▸h
def Down (n:Nat)(d fy:Nat->Tr):Prop:=∃a,a<n/\(∃f e,fy a= .mk f/\d a=f e)/\∀b,b≠a->d b=fy b
def Lq:∀(n:Nat) (fy:Nat->Tr),Acc (Down n) fy:=by
 intro n
 induction n with
 |zero=>exact λfy=>⟨_,λd e=>by obtain⟨b,q,_⟩:=e;omega⟩
 |succ n r=>
  have t:∀(l:Tr) (fy:Nat->Tr),fy n=l->Acc (Down (n+1)) fy:=by
   intro l
   induction l using Tr.ind with
   |fin=>
    intro fy;have o:=r fy
    induction o with
    |intro fy _ p=>
     intro h;refine⟨_,λd e=>?_⟩;obtain⟨b,q,⟨f,j,a,k⟩,g⟩:=e;by_cases i:b=n
     ·subst i;rw[h] at a;exact(Tr.Q6 a).elim
     ·exact p d ⟨b,by omega,⟨f,j,a,k⟩,g⟩ ((g n (λm=>i m.symm)).trans h)
   |mk u s=>
    intro fy;have o:=r fy
    induction o with
    |intro fy _ p=>
     intro h;refine⟨_,λd e=>?_⟩;obtain⟨b,q,⟨f,j,a,k⟩,g⟩:=e;by_cases i:b=n
     ·subst i;rw[h] at a;exact s j d (k.trans (congrFun (Tr.mk_inj a) j).symm)
     ·exact p d ⟨b,by omega,⟨f,j,a,k⟩,g⟩ ((g n (λm=>i m.symm)).trans h)
  exact λfy=>t (fy n) fy Y
def G4{P:Ue}{m:Bool}{g g':UL}(h1:g'.frame=g.frame)(a:g'.callers=g.callers)(b:g'.dying=g.dying)(w:F):UM P m g' w=UM P m g w:=by
 obtain⟨f,c,s,e,j⟩:=g;obtain⟨i,d,l,h,k⟩:=g';simp only at h1 a b;subst h1 a b;rfl
structure Inv(P0 P:Ue)(S O:Nat->Prop)(μ:Nat->Option (List U))(gs:Array UL)(w:F)(t:Trace)(wk:Nat->Option wF)(vs:Nat->List U)(q:Nat->Nat)(fy:Nat->Tr):Prop where
 zJ:tS S wk w.heap.size t
 hp:xF P0 w
 quit:∀i g,0<i->gs[i]? =I g->(∀x,wk i=I x->x.pc≠K)->QuitsIn P (q i) g
 act:∀i g x,gs[i]? =I g->wk i=I x->x.pc=K->Wk P0 P S x.c (fy i) x.own (vs i) g w
 idx:∀i x,wk i=I x->0<i/\i<gs.size
 mP:∀b,S b->b<w.heap.size/\¬O b
 wS:∀b,O b->b<w.heap.size
 low:∀i x,wk i=I x->x.c<w.heap.size/\¬S x.c/\¬O x.c/\¬x.own x.c/\∀b,x.own b->b<w.heap.size/\¬S b/\¬O b
 ri:∀i j x y,i≠j->wk i=I x->wk j=I y->x.c≠y.c/\¬y.own x.c/\∀b,x.own b->¬y.own b
 chan:∀i x,wk i=I x->∃cap buf s r,w.heap[x.c]? =I (.chan cap buf x.pc.isSome s r T5)/\μ x.c=I (buf.toList++(if x.pc=K then vs i else[]))/\(x.pc=K->buf.size+(vs i).length<=cap)
 mu:∀c l,μ c=I l->∃i x,wk i=I x/\x.c=c
def kK {α:Type}(f:Nat->α)(i:Nat)(x:α):Nat->α:=λa=>if a=i then x else f a
def dj{α:Type}(f:Nat->α)(i:Nat)(x:α):kK f i x i=x:=by simp[kK]
def dX{α:Type}(f:Nat->α){i j:Nat}(x:α)(h:j≠i):kK f i x j=f j:=by simp[kK,h]
def E3{e:Vm}{b:Touch}(h:(WD e).touch?= I b)(c:∀m,e.loc= .mark m->Neutral m):b.loc=e.loc/\b.write=e.write:=by
 obtain⟨d,wr,a⟩:=e;cases d with
 |cell f=>simp[WD,X8] at h;subst h;exact⟨rfl,rfl⟩
 |obj g=>cases wr<;>cases a<;>simp[WD,X8] at h<;>subst h<;>exact⟨rfl,rfl⟩
 |output=>simp[WD,X8] at h;subst h;exact⟨rfl,rfl⟩
 |goroutines=>simp[WD,X8] at h;subst h;exact⟨rfl,rfl⟩
 |mark m=>
  have:WD ⟨.mark m,wr,a⟩= .mark m:=by cases wr<;>cases a<;>rfl
  rw[this,(c m Y).touch] at h;cases h
def yc{S o:Nat->Prop}{e:Vm}(h:EvW S o e):∀m,e.loc= .mark m->Neutral m:=λm a=>by
 unfold EvW at h;rw[a] at h;exact h
def DN{n:Nat}{e:Vm}(h:C6 n e):∀m,e.loc= .mark m->Neutral m:=λm a=>by
 unfold C6 at h;rw[a] at h;exact h
def AP{S o:Nat->Prop}{e:Vm}{b:Touch}(h:EvW S o e)(g:(WD e).touch?= I b)(c:b.loc.isMemory=Z):o (blk b.loc)\/(S (blk b.loc)/\b.write=T5):=by
 obtain⟨d,f⟩:=E3 g (yc h);unfold EvW at h;rw[d,f];rw[d] at c;cases a:e.loc with
 |cell i=>rw[a] at h;exact h
 |obj j=>rw[a] at h;exact h
 |_=>rw[a] at c;simp[Loc.isMemory] at c
def Jt{n:Nat}{e:Vm}{b:Touch}(h:C6 n e)(f:(WD e).touch?= I b)(c:b.loc.isMemory=Z):blk b.loc<n:=by
 obtain⟨d,i⟩:=E3 f (DN h);unfold C6 at h;rw[d];rw[d] at c;cases a:e.loc with
 |cell g=>rw[a] at h;exact h
 |obj j=>rw[a] at h;exact h
 |_=>rw[a] at c;simp[Loc.isMemory] at c
def nM{g:Nat}{fn:V6}{pos:String}{es:Array Vm}(h:∀e∈es,∀m,e.loc= .mark m->Neutral m):Wordless (XV g fn pos es):=by
 intro j f m a;obtain⟨e,d,rfl⟩:=WV f;obtain⟨i,wr,b⟩:=e;cases i with
 |mark c=>
  have:WD ⟨.mark c,wr,b⟩= .mark c:=by cases wr<;>cases b<;>rfl
  simp only[this] at a;cases a;exact h _ d m Y
 |obj k=>cases wr<;>cases b<;>simp[WD] at a
 |_=>simp[WD] at a
def k7{B:Nat->Prop}{w:F}{c:Nat}(h:¬B c)(cap:Nat)(b:Array U)(d:Bool)(s r:Nat)(i:Bool):RelB B w (w.setChan c cap b d s r i):=
 ⟨λa f=>by
  have g:c≠a:=λe=>h (by rw[e];exact f);simp only[World.setChan];rw[VS g],by simp[World.setChan],rfl,rfl,rfl⟩
def Ih{P0:Ue}{w:F}(h:xF P0 w)(c cap:Nat)(a:Array U)(b:Bool)(s r:Nat)(d:Bool):xF P0 (w.setChan c cap a b s r d):=trivial
def xf{w:F}{c b:Nat}(h:b≠c)(cap:Nat)(a:Array U)(d:Bool)(s r:Nat)(f:Bool):(w.setChan c cap a d s r f).heap[b]? =w.heap[b]? :=by
 simp only[World.setChan];rw[VS (λe=>h e.symm)]
def iJ(w:F)(c cap:Nat)(a:Array U)(b:Bool)(s r:Nat)(d:Bool):(w.setChan c cap a b s r d).heap.size=w.heap.size:=by simp[World.setChan]
def BO{w:F}{c:Nat}(h:c<w.heap.size)(cap:Nat)(a:Array U)(b:Bool)(s r:Nat)(d:Bool):(w.setChan c cap a b s r d).heap[c]? =I (.chan cap a b s r d):=by
 simp[World.setChan,h]
section
variable {P0 P:Ue}{S O:Nat->Prop}{μ:Nat->Option (List U)}{gs gs':Array UL}{w w':F}{t u:Trace}{wk:Nat->Option wF}{vs:Nat->List U}{q:Nat->Nat}{fy:Nat->Tr}
def m0{k:Nat}{y:Option wF}{j:Nat}{z:wF}(e:kK wk k y j=I z):(j=k/\y=I z)\/(j≠k/\wk j=I z):=by
 unfold kK at e
 split at e
 ·rename_i a;exact .inl ⟨a,e⟩
 ·rename_i a;exact .inr ⟨a,e⟩
def Inv.at(h:Inv P0 P S O μ gs w t wk vs q fy)(d:Nat):Inv P0 P S O μ gs (w.at d) t wk vs q fy:=
 ⟨h.zJ,h.hp,h.quit,λf a g b e c=>(h.act f a g b e c).rely (RelB.at _ w d),h.idx,h.mP,h.wS,h.low,h.ri,h.chan,h.mu⟩
def Inv.TS(h:Inv P0 P S O μ gs w t wk vs q fy)(k:gs'.size=gs.size)(g:∀j,0<j->gs'[j]? =gs[j]?):Inv P0 P S O μ gs' w t wk vs q fy:=
 ⟨h.zJ,h.hp,λa d f e=>h.quit a d f ((g a f).symm.trans e),λa d c e b i=>h.act a d c ((g a (h.idx a c b).1).symm.trans e) b i,λa c b=>by rw[k];exact h.idx a c b,h.mP,h.wS,h.low,h.ri,h.chan,h.mu⟩
def Inv.slip(h:Inv P0 P S O μ gs w t wk vs q fy){i k:Nat}{g':UL}(m:∀x,wk i=I x->x.pc≠K)(n:QuitsIn P k g')(o:gs'.size=gs.size)(l:gs'[i]? =I g')(f:∀j,0<j->j≠i->gs'[j]? =gs[j]?):Inv P0 P S O μ gs' w t wk vs (kK q i k) fy:=by
 refine⟨h.zJ,h.hp,λj d e c a=>?_,λj d x c a g=>?_,λj x a=>by rw[o];exact h.idx j x a,h.mP,h.wS,h.low,h.ri,h.chan,h.mu⟩
 ·by_cases b:j=i
  ·subst b;rw[l] at c;cases c;rw[dj];exact n
  ·rw[dX _ _ b];exact h.quit j d e ((f j e b).symm.trans c) a
 ·by_cases b:j=i
  ·subst b;exact absurd g (m x a)
  ·exact h.act j d x ((f j (h.idx j x a).1 b).symm.trans c) a g
def Inv.Pe(h:Inv P0 P S O μ gs w t wk vs q fy){i:Nat}{x:wF}(e:wk i=I x){es:Array Vm}(c:mj P0 S x.own w w' es):RelB (λb=>S b\/O b) w w':=
 ⟨λb a=>a.elim (λa=>c.keep b (h.mP b a).1 λd=>((h.low i x e).2.2.2.2 b d).2.1 a) (λa=>c.keep b (h.wS b a) λd=>((h.low i x e).2.2.2.2 b d).2.2 a),c.size,c.tape,c.os,c.output⟩
def Inv.RN(h:Inv P0 P S O μ gs w t wk vs q fy){i:Nat}{x:wF}(l:wk i=I x)(X:x.pc=K){es:Array Vm}{g':UL}{tr':Tr}(g:mj P0 S x.own w w' es)(ao:Wk P0 P S x.c tr' (cT x.own w w') (vs i) g' w')(Z:gs'.size=gs.size)(ar:gs'[i]? =I g')(W:∀j,0<j->j≠i->gs'[j]? =gs[j]?)(fn:V6)(pos:String):
 Inv P0 P S O μ gs' w' (t++XV i fn pos es) (kK wk i (I ⟨x.c,cT x.own w w',K⟩)) vs q (kK fy i tr'):=by
 obtain⟨ab,ad,az,ae,E⟩:=h.low i x l;have R:∀b,cT x.own w w' b->¬S b:=λb a r=>a.elim (λa=>(E b a).2.1 r) λa=>by have:=(h.mP b r).1;omega
 have am:∀b,cT x.own w w' b->¬O b:=λb a r=>a.elim (λa=>(E b a).2.2 r) λa=>by have:=h.wS b r;omega
 have C:∀j f,j≠i->wk j=I f->∀b,cT x.own w w' b->¬f.own b/\b≠f.c:=λj f k d b a=>a.elim (λa=>⟨(h.ri i j x f (λe=>k e.symm) l d).2.2 b a,λe=>(h.ri j i f x k d l).2.1 (e▸a)⟩) λa=>⟨λn=>by have:=((h.low j f d).2.2.2.2 b n).1;omega,λe=>by have:=(h.low j f d).1;omega⟩;have T:∀b,cT x.own w w' b->b<w'.heap.size:=λb a=>a.elim (λa=>Uc (E b a).1 g.size) (λa=>a.2);refine⟨?_,g.hp h.hp,λj J Q k U=>?_,λj J f k d av=>?_,λj f d=>?_,λb a=>⟨Uc (h.mP b a).1 g.size,(h.mP b a).2⟩,λb a=>Uc (h.wS b a) g.size,λj f d=>?_,λj y f F p d aa=>?_,λj f d=>?_,λc aw ap=>?_⟩
 ·refine h.zJ.RN l X (λb a=>.inl a) (λb a=>a.imp id And.left) (λa4 M=>by obtain⟨e,_,rfl⟩:=WV M;rfl) (nM λe L=>yc (g.evs e L)) g.size R ad (λj f k d=>⟨C j f k d,(h.ri i j x f (λe=>k e.symm) l d).2.1,(h.ri i j x f (λe=>k e.symm) l d).1,λb a=>⟨λn=>((h.low j f d).2.2.2.2 b n).2.1 a,λe=>(h.low j f d).2.1 (e▸a)⟩⟩) λa4 M b a au=>?_;obtain⟨e,L,rfl⟩:=WV M;rcases AP (g.evs e L) a au with o|o
  ·exact⟨T _ o,.inl o⟩
  ·exact⟨Uc (h.mP _ o.1).1 g.size,.inr (.inr o)⟩
 ·by_cases e:j=i
  ·subst e;exact absurd Y (U ⟨x.c,cT x.own w w',K⟩ (dj _ _ _))
  ·exact h.quit j J Q ((W j Q e).symm.trans k) λf d=>U f (by rw[dX _ _ e];exact d)
 ·rcases m0 d with⟨rfl,e⟩|⟨m,d⟩
  ·cases e;rw[ar] at k;cases k;rw[dj];exact ao
  ·rw[dX _ _ m];refine(h.act j J f ((W j (h.idx j f d).1 m).symm.trans k) d av).rely ⟨λb a=>?_,g.size,g.tape,g.os,g.output⟩;rcases a with a|a
   ·exact g.keep b (h.mP b a).1 λn=>(E b n).2.1 a
   ·exact g.keep b ((h.low j f d).2.2.2.2 b a).1 λn=>(h.ri i j x f (λe=>m e.symm) l d).2.2 b n a
 ·rcases m0 d with⟨rfl,e⟩|⟨m,d⟩
  ·rw[Z];exact h.idx j x l
  ·rw[Z];exact h.idx j f d
 ·rcases m0 d with⟨rfl,e⟩|⟨m,d⟩
  ·cases e;exact⟨Uc ab g.size,ad,az,λa=>a.elim ae λa=>by have:=a.1;dsimp only at this;omega,λb a=>⟨T b a,R b a,am b a⟩⟩
  ·obtain⟨a0,a1,a2,a3,al⟩:=h.low j f d;exact⟨Uc a0 g.size,a1,a2,a3,λb a=>⟨Uc (al b a).1 g.size,(al b a).2⟩⟩
 ·rcases m0 d with⟨rfl,e⟩|⟨m,D⟩
  ·cases e;rcases m0 aa with⟨rfl,e⟩|⟨V,v⟩
   ·exact absurd Y p
   ·exact⟨(h.ri j y x F p l v).1,(h.ri j y x F p l v).2.1,λb a=>(C y F V v b a).1⟩
  ·rcases m0 aa with⟨rfl,e⟩|⟨V,v⟩
   ·cases e;exact⟨(h.ri j y f x p D l).1,λa=>(C j f m D _ a).2 Y,λb a n=>(C j f m D b n).1 a⟩
   ·exact h.ri j y f F p D v
 ·rcases m0 d with⟨rfl,e⟩|⟨m,d⟩
  ·cases e;obtain⟨H,G,s,N,z,A,B⟩:=h.chan j x l;rw[X] at z A B;exact⟨H,G,s,N,(g.keep _ ab ae).trans z,A,B⟩
  ·obtain⟨H,G,s,N,z,A,B⟩:=h.chan j f d;exact⟨H,G,s,N,(g.keep _ (h.low j f d).1 (h.ri j i f x m d l).2.1).trans z,A,B⟩
 ·obtain⟨j,f,d,e⟩:=h.mu c aw ap;by_cases k:j=i
  ·subst k;rw[l] at d;cases d;exact⟨j,_,dj _ _ _,e⟩
  ·exact⟨j,f,by rw[dX _ _ k];exact d,e⟩
end
section
variable {P0 P:Ue}{S O:Nat->Prop}{μ:Nat->Option (List U)}{gs gs':Array UL}{w w':F}{t u:Trace}{wk:Nat->Option wF}{vs:Nat->List U}{q:Nat->Nat}{fy:Nat->Tr}{B:Nat}
def tS.Ss(h:tS S wk B t)(g:Wordless u)(f:∀b∈u,b.act.touch?= K):tS S wk B (t++u):=by
 have k:∀(c:List Yy) (t:Trace),tS S wk B t->Wordless c.toArray->(∀b∈c,b.act.touch?= K)->tS S wk B (t++c.toArray):=by
  intro c
  induction c with
  |nil=>intro t h _ _;simpa using h
  |cons d c j=>
   intro t h g f;have i:t++(d::c).toArray=(t++#[d])++c.toArray:=by apply Array.ext';simp
   rw[i];refine j _ (h.mute (B':=B) (γ:=d.g) (λb a=>by simp at a;rw[a]) (λb a m e=>?_) (λb a=>by simp at a;rw[a];exact f d (by simp)) (T6 _)) (λb a m e=>g b (by simp at a ⊢;exact .inr a) m e) λb a=>f b (by simp[a]);simp at a;rw[a] at e;exact g d (by simp) m e
 have:=k u.toList t h (by simpa using g) (λb a=>f b (by simpa using a));simpa using this
def va(μ:Nat->Option (List U))(c:Nat)(l:Option (List U)):gb μ c l c=l:=by simp[gb]
def qY(μ:Nat->Option (List U)){c j:Nat}(l:Option (List U))(h:j≠c):gb μ c l j=μ j:=by simp[gb,h]
def Inv.comm(h:Inv P0 P S O μ gs w t wk vs q fy){i:Nat}{x:wF}(g:wk i=I x){cap s' r':Nat}{buf':Array U}{vi':List U}{tr':Tr}{g':UL}(G:x.pc=K->buf'.size+vi'.length<=cap)
 (F:x.pc=K->Wk P0 P S x.c tr' x.own vi' g' w) (H:x.pc=K->gs'[i]? =I g') (J:x.pc≠K->gs'[i]? =gs[i]?) (s:∀j,0<j->j≠i->gs'[j]? =gs[j]?) (M:gs'.size=gs.size) (N:Wordless u) (L:∀V∈u,V.act.touch?= K):
 Inv P0 P S O (gb μ x.c (I (buf'.toList++(if x.pc=K then vi' else[])))) gs' (w.setChan x.c cap buf' x.pc.isSome s' r' T5) (t++u) wk (kK vs i vi') q (kK fy i tr'):=by
 obtain⟨R,v,Y,T,Z⟩:=h.low i x g;have r:∀j d,j≠i->wk j=I d->d.c≠x.c:=λj d e b=>(h.ri j i d x e b g).1;refine⟨by rw[iJ];exact h.zJ.Ss N L,Ih h.hp _ _ _ _ _ _ _,λj k m e n=>?_,λj k d e b o=>?_,λj d b=>by rw[M];exact h.idx j d b,λl f=>by rw[iJ];exact h.mP l f,λl f=>by rw[iJ];exact h.wS l f,λj d b=>by rw[iJ];exact h.low j d b,h.ri,λj d b=>?_,λc Q p=>?_⟩
 ·by_cases a:j=i
  ·subst a;exact h.quit j k m ((J (n x g)).symm.trans e) n
  ·exact h.quit j k m ((s j m a).symm.trans e) n
 ·by_cases a:j=i
  ·subst a;rw[g] at b;cases b;rw[H o] at e;cases e;rw[dj,dj];exact(F o).rely (k7 (λf=>f.elim v T) _ _ _ _ _ _)
  ·rw[dX _ _ a,dX _ _ a];exact(h.act j k d ((s j (h.idx j d b).1 a).symm.trans e) b o).rely (k7 (λf=>f.elim v (h.ri i j x d (λE=>a E.symm) g b).2.1) _ _ _ _ _ _)
 ·by_cases a:j=i
  ·subst a;rw[g] at b;cases b;exact⟨cap,buf',s',r',BO R _ _ _ _ _ _,by rw[va,dj],by rw[dj];exact G⟩
  ·obtain⟨D,y,X,W,z,A,C⟩:=h.chan j d b;refine⟨D,y,X,W,(xf (r j d a b) _ _ _ _ _ _).trans z,?_,by rw[dX _ _ a];exact C⟩;rw[qY _ _ (r j d a b),dX _ _ a];exact A
 ·by_cases a:c=x.c
  ·exact⟨i,x,g,a.symm⟩
  ·rw[qY _ _ a] at p;exact h.mu c Q p
def Inv.close(h:Inv P0 P S O μ gs w t wk vs q fy){i:Nat}{x:wF}(g:wk i=I x)(A:x.pc=K)(ao:vs i=[]){cap s r n:Nat}{v:Array U}{g':UL}{tr':Tr}(hc:w.heap[x.c]? =I (.chan cap v T5 s r T5))(am:QuitsIn P n g')(ab:gs'[i]? =I g')(M:∀j,0<j->j≠i->gs'[j]? =gs[j]?)(Q:gs'.size=gs.size)(fn:V6)(pos:String):
 Inv P0 P S O μ gs' (w.setChan x.c cap v Z s r T5) (t++XV i fn pos #[⟨.obj x.c,T5,Z⟩,⟨.obj x.c,Z,Z⟩]) (kK wk i (I ⟨x.c,x.own,I (t.size+1)⟩)) vs (kK q i n) (kK fy i tr'):=by
 obtain⟨E,F,ar,au,av⟩:=h.low i x g;have ad:∀j b,j≠i->wk j=I b->b.c≠x.c:=λj b e d=>(h.ri j i b x e d g).1;refine⟨?_,Ih h.hp _ _ _ _ _ _ _,λj z L e al=>?_,λj z b e d N=>?_,λj b d=>?_,λp l=>by rw[iJ];exact h.mP p l,λp l=>by rw[iJ];exact h.wS p l,λj b d=>?_,λj D b W o d R=>?_,λj b d=>?_,λc ap aa=>?_⟩
 ·rw[iJ];exact h.zJ.close g A E F fn pos λj b e d=>⟨(h.ri i j x b (λa=>e a.symm) g d).2.1,(h.ri i j x b (λa=>e a.symm) g d).1⟩
 ·by_cases a:j=i
  ·subst a;rw[ab] at e;cases e;rw[dj];exact am
  ·rw[dX _ _ a];exact h.quit j z L ((M j L a).symm.trans e) λb d=>al b (by rw[dX _ _ a];exact d)
 ·rcases m0 d with⟨rfl,a⟩|⟨k,f⟩
  ·cases a;cases N
  ·rw[dX _ _ k];exact(h.act j z b ((M j (h.idx j b f).1 k).symm.trans e) f N).rely (k7 (λl=>l.elim F (h.ri i j x b (λX=>k X.symm) g f).2.1) _ _ _ _ _ _)
 ·rcases m0 d with⟨rfl,a⟩|⟨k,f⟩
  ·rw[Q];exact h.idx j x g
  ·rw[Q];exact h.idx j b f
 ·rcases m0 d with⟨rfl,a⟩|⟨k,f⟩
  ·cases a;rw[iJ];exact⟨E,F,ar,au,av⟩
  ·rw[iJ];exact h.low j b f
 ·rcases m0 d with⟨rfl,a⟩|⟨k,f⟩
  ·cases a;rcases m0 R with⟨rfl,a⟩|⟨ae,C⟩
   ·exact absurd Y o
   ·exact h.ri j D x W o g C
  ·rcases m0 R with⟨rfl,a⟩|⟨ae,C⟩
   ·cases a;exact h.ri j D b x o f g
   ·exact h.ri j D b W o f C
 ·rcases m0 d with⟨rfl,a⟩|⟨k,f⟩
  ·cases a;obtain⟨J,G,V,T,m,y,H⟩:=h.chan j x g;rw[A] at m;have:=m.symm.trans hc;cases this;refine⟨cap,v,s,r,BO E _ _ _ _ _ _,?_,λa=>by cases a⟩;rw[y,A,ao];rfl
  ·obtain⟨J,G,V,T,m,y,H⟩:=h.chan j b f;exact⟨J,G,V,T,(xf (ad j b k f) _ _ _ _ _ _).trans m,y,H⟩
 ·obtain⟨j,b,d,a⟩:=h.mu c ap aa;by_cases e:j=i
  ·subst e;rw[g] at d;cases d;exact⟨j,_,dj _ _ _,a⟩
  ·exact⟨j,b,by rw[dX _ _ e];exact d,a⟩
def Inv.main(h:Inv P0 P S O μ gs w t wk vs q fy){es:Array Vm}(d:mj P0 S O w w' es)(T:gs'.size=gs.size)(F:∀j,0<j->gs'[j]? =gs[j]?)(fn:V6)(pos:String):
 Inv P0 P S (cT O w w') μ gs' w' (t++XV 0 fn pos es) wk vs q fy:=by
 have E:∀b,cT O w w' b->b<w'.heap.size:=λb a=>a.elim (λa=>Uc (h.wS b a) d.size) (λa=>a.2);have p:∀j c,wk j=I c->∀b,cT O w w' b->¬c.own b/\b≠c.c:=λj c e b a=>by
  obtain⟨y,l,z,A,k⟩:=h.low j c e;rcases a with a|a
  ·exact⟨λf=>(k b f).2.2 a,λg=>z (g▸a)⟩
  ·exact⟨λf=>by have:=(k b f).1;omega,λg=>by omega⟩
 refine⟨?_,d.hp h.hp,λj m D o Q=>h.quit j m D ((F j D).symm.trans o) Q,λj m c o e R=>?_,λj c e=>by rw[T];exact h.idx j c e,λb a=>⟨Uc (h.mP b a).1 d.size,λf=>f.elim (h.mP b a).2 λf=>by have:=(h.mP b a).1;omega⟩,E,λj c e=>?_,h.ri,λj c e=>?_,h.mu⟩
 ·refine h.zJ.main (λU r=>by obtain⟨g,_,rfl⟩:=WV r;rfl) (nM λg n=>yc (d.evs g n)) d.size λU r b a N=>?_;obtain⟨g,n,rfl⟩:=WV r;rcases AP (d.evs g n) a N with i|i
  ·exact⟨E _ i,λx C v=>p x C v _ i,λG=>absurd i (λf=>f.elim (h.mP _ G).2 λf=>by have:=(h.mP _ G).1;omega)⟩
  ·refine⟨Uc (h.mP _ i.1).1 d.size,λx C v=>?_,λ_=>i.2⟩;obtain⟨y,l,z,A,k⟩:=h.low x C v;exact⟨λf=>(k _ f).2.1 i.1,λg=>l (g▸i.1)⟩
 ·refine(h.act j m c ((F j (h.idx j c e).1).symm.trans o) e R).rely ⟨λb a=>?_,d.size,d.tape,d.os,d.output⟩;rcases a with a|a
  ·exact d.keep b (h.mP b a).1 (h.mP b a).2
  ·exact d.keep b ((h.low j c e).2.2.2.2 b a).1 ((h.low j c e).2.2.2.2 b a).2.2
 ·obtain⟨y,l,z,A,k⟩:=h.low j c e;exact⟨Uc y d.size,l,λf=>(p j c e _ f).2 Y,A,λb a=>⟨Uc (k b a).1 d.size,(k b a).2.1,λf=>(p j c e b f).1 a⟩⟩
 ·obtain⟨M,H,s,V,J,K,L⟩:=h.chan j c e;exact⟨M,H,s,V,(d.keep _ (h.low j c e).1 (h.low j c e).2.2.1).trans J,K,L⟩
def Inv.spawn(h:Inv P0 P S O μ gs w t wk vs q fy){c cap:Nat}{l:List U}{z:UL}{tr':Tr}(p:O c)(ad:l.length<=cap)(a2:μ c=K)(hc:w.heap[c]? =I (.chan cap #[] T5 0 0 T5))(aa:Wk P0 P S c tr' (λ_=>False) l z w)(M:gs'.size=gs.size+1)(Z:0<gs.size)(ab:gs'[gs.size]? =I z)(L:∀j,0<j->j<gs.size->gs'[j]? =gs[j]?)(fn C:V6)(pos:String):
 Inv P0 P S (λb=>O b/\b≠c) (gb μ c (I l)) gs' w (t++#[{g:=0,fn,pos,act:=.go gs.size},{g:=gs.size,fn:=C,pos,act:=.start}]) (kK wk gs.size (I ⟨c,λ_=>False,K⟩)) (kK vs gs.size l) q (kK fy gs.size tr'):=by
 have H:wk gs.size=K:=by
  cases d:wk gs.size with
  |none=>rfl
  |some a1=>have:=(h.idx _ a1 d).2;omega
 have E:¬S c:=λap=>(h.mP c ap).2 p;have al:∀j a,wk j=I a->j≠gs.size:=λj a e d=>by rw[d,H] at e;cases e
 have r:∀j a,wk j=I a->c≠a.c:=λj a e d=>(h.low j a e).2.2.1 (d▸p);refine⟨?_,h.hp,λj g D o J=>?_,λj g a o e ao=>?_,λj a e=>?_,λb i=>⟨(h.mP b i).1,λf=>(h.mP b i).2 f.1⟩,λb i=>h.wS b i.1,λj a e=>?_,λj v a y G e N=>?_,λj a e=>?_,λA m F=>?_⟩
 ·exact h.zJ.spawn H fn C pos (λj a e=>⟨λf=>((h.low j a e).2.2.2.2 c f).2.2 p,r j a e,λb i=>⟨λf=>((h.low j a e).2.2.2.2 b f).2.1 i,λd=>(h.low j a e).2.1 (d▸i)⟩⟩) E
 ·by_cases d:j=gs.size
  ·subst d;exact absurd Y (J ⟨c,λ_=>False,K⟩ (dj _ _ _))
  ·have ae:j<gs.size:=by
    have:=(Ua.1 o).1;omega
   exact h.quit j g D ((L j D ae).symm.trans o) λa e=>J a (by rw[dX _ _ d];exact e)
 ·rcases m0 e with⟨rfl,d⟩|⟨n,k⟩
  ·cases d;rw[ab] at o;cases o;rw[dj,dj];exact aa
  ·rw[dX _ _ n,dX _ _ n];exact h.act j g a ((L j (h.idx j a k).1 (h.idx j a k).2).symm.trans o) k ao
 ·rcases m0 e with⟨rfl,d⟩|⟨n,k⟩
  ·rw[M];exact⟨Z,by omega⟩
  ·have:=h.idx j a k;rw[M];exact⟨this.1,by omega⟩
 ·rcases m0 e with⟨rfl,d⟩|⟨n,k⟩
  ·cases d;exact⟨h.wS c p,E,λf=>f.2 Y,λf=>f,λb i=>i.elim⟩
  ·obtain⟨ar,au,av,aw,x⟩:=h.low j a k;exact⟨ar,au,λf=>av f.1,aw,λb i=>⟨(x b i).1,(x b i).2.1,λf=>(x b i).2.2 f.1⟩⟩
 ·rcases m0 e with⟨rfl,d⟩|⟨n,k⟩
  ·cases d;rcases m0 N with⟨rfl,d⟩|⟨am,s⟩
   ·exact absurd Y G
   ·exact⟨r v y s,λf=>((h.low v y s).2.2.2.2 c f).2.2 p,λb i=>i.elim⟩
  ·rcases m0 N with⟨rfl,d⟩|⟨am,s⟩
   ·cases d;exact⟨λd=>r j a k d.symm,λf=>f,λb i f=>f⟩
   ·exact h.ri j v a y G k s
 ·rcases m0 e with⟨rfl,d⟩|⟨n,k⟩
  ·cases d;exact⟨cap,#[],0,0,hc,by rw[va,dj];simp,by rw[dj];simpa using ad⟩
  ·obtain⟨W,Q,a0,az,R,T,V⟩:=h.chan j a k;refine⟨W,Q,a0,az,R,?_,by rw[dX _ _ n];exact V⟩;rw[qY _ _ (λd=>r j a k d.symm),dX _ _ n];exact T
 ·by_cases d:A=c
  ·exact⟨gs.size,_,dj _ _ _,d.symm⟩
  ·rw[qY _ _ d] at F;obtain⟨j,a,e,X⟩:=h.mu A m F;exact⟨j,a,by rw[dX _ _ (al j a e)];exact e,X⟩
def Inv.Mv(h:Inv P0 P S O μ gs w t wk vs q fy){i p:Nat}{x:wF}(k:wk i=I x)(r:x.pc=I p)(H:gs'.size=gs.size)(o:∀j,0<j->gs'[j]? =gs[j]?)(fn:V6)(pos:String):
 Inv P0 P S O (gb μ x.c K) gs' w (t++#[{g:=0,fn,pos,act:=.recvClosed x.c}]) (kK wk i K) vs q fy:=by
 have e:∀{j b},kK wk i K j=I b->j≠i/\wk j=I b:=λ{j b} d=>by
  rcases m0 d with⟨_,d⟩|d
  ·cases d
  ·exact d
 refine⟨h.zJ.Mv k r fn pos,h.hp,λj g n l F=>?_,λj g b l a G=>?_,λj b a=>by rw[H];exact h.idx j b (e a).2,h.mP,h.wS,λj b a=>h.low j b (e a).2,λj L b Q E a J=>h.ri j L b Q E (e a).2 (e J).2,λj b a=>?_,λc M f=>?_⟩
 ·refine h.quit j g n ((o j n).symm.trans l) λb a=>?_;by_cases d:j=i
  ·subst d;rw[k] at a;cases a;rw[r];simp
  ·exact F b (by rw[dX _ _ d];exact a)
 ·exact h.act j g b ((o j (h.idx j b (e a).2).1).symm.trans l) (e a).2 G
 ·obtain⟨C,v,s,N,y,z,A⟩:=h.chan j b (e a).2;exact⟨C,v,s,N,y,by rw[qY _ _ (h.ri j i b x (e a).1 (e a).2 k).1];exact z,A⟩
 ·by_cases d:c=x.c
  ·rw[d,va] at f;cases f
  ·rw[qY _ _ d] at f;obtain⟨j,b,a,m⟩:=h.mu c M f;refine⟨j,b,?_,m⟩;rw[dX _ _ (λD=>?_)]
   ·exact a
   ·subst D;rw[k] at a;cases a;exact d m.symm
end
def Ends (P:Ue)(Post:U->F->Prop)(m:Machine)(t:Trace):Prop:=
 ∃N a b c d,runNT P (N+1) m t=(.ended b c,d)/\runN P N m= .next a/\step P a= .ended b c/\Good P Post a b c d
section
variable {P0 P:Ue}{Post:U->F->Prop}
def Ends.step{m m':Machine}{t ops:Trace}(h:stepT P m=(.next m',ops))(a:Ends P Post m' (t++ops)):Ends P Post m t:=by
 obtain⟨N,f,g,j,i,b,c,d,e⟩:=a;refine⟨N+1,f,g,j,i,?_,?_,d,e⟩
 ·rw[runNT,h];exact b
 ·rw[runN,Go.step,h];exact c
def Ends.now{m:Machine}{t ops:Trace}{o:Outcome}{w:F}(h:stepT P m=(.ended o w,ops))(a:Good P Post m o w (t++ops)):Ends P Post m t:=
 ⟨0,m,o,w,t++ops,by rw[runNT,h],rfl,by rw[Go.step,h],a⟩
structure rT(g0 g:UL):Prop where
 frame:g0.frame=g.frame
 callers:g0.callers=g.callers
 dying:g0.dying=g.dying
def rT.refl(g:UL):rT g g:=⟨rfl,rfl,rfl⟩
def rT.step{a g:UL}(h:rT a g)(m:Bool)(w:F):UM P m a w=UM P m g w:=G4 h.frame h.callers h.dying w
section
variable {S O:Nat->Prop}{μ:Nat->Option (List U)}{gs:Array UL}{w:F}{t:Trace}{wk:Nat->Option wF}{vs:Nat->List U}{q:Nat->Nat}{fy:Nat->Tr}
def Inv.status(h:Inv P0 P S O μ gs w t wk vs q fy){i:Nat}{g:UL}(e:0<i)(b:gs[i]? =I g):g.status= .running\/g.status= .finished:=by
 cases c:wk i with
 |none=>exact(h.quit i g e b λd a=>by rw[c] at a;cases a).status
 |some d=>
  cases j:d.pc with
  |some l=>exact(h.quit i g e b λm a=>by rw[c] at a;cases a;rw[j];simp).status
  |none=>
   have:=h.act i g d b c j;generalize fy i=k at this;cases k using Tr.ind with
   |fin=>exact(Tr.pR this).elim
   |mk f=>exact .inl (wm.1 this).1
def mW{g g' o:UL}{w':F}(h:o.status= .running\/o.status= .finished):woken P g g' w' o=o:=by
 unfold woken
 split
 ·exact again_running _ h
 ·rfl
def lX{g g' g2:UL}{w':F}{c cap s r:Nat}{b:Array U}{d:Bool}{z:U}{a:CommShape}(hc:w'.heap[c]? =I (.chan cap b T5 s r d)):woken P g g' w' (parked g2 #[rcase c z] a)=parked g2 #[rcase c z] a:=by
 unfold woken
 split
 ·exact again_recv_open hc
 ·rfl
def others(h:Inv P0 P S O μ gs w t wk vs q fy){i:Nat}{g g':UL}{w':F}{j:Nat}(b:0<j)(d:j≠i):((gs.map (woken P g g' w')).setIfInBounds i g')[j]? =gs[j]? :=by
 rw[VS (λa=>d a.symm),Array.getElem?_map];cases c:gs[j]? with
 |none=>rfl
 |some e=>rw[V2,mW (h.status b c)]
def qM{i:Nat}{g g':UL}{w':F}(a:gs[i]? =I g):((gs.map (woken P g g' w')).setIfInBounds i g')[i]? =I g':=by
 rw[Array.getElem?_setIfInBounds_self_of_lt (by simpa using(Ua.1 a).1)]
def Er{i:Nat}{g g' a:UL}{w':F}(c:i≠0)(b:gs[0]? =I a)(d:woken P g g' w' a=a):((gs.map (woken P g g' w')).setIfInBounds i g')[0]? =I a:=by
 rw[VS c,Array.getElem?_map,b,V2,d]
def gM{i:Nat}{g g':UL}{w':F}:((gs.map (woken P g g' w')).setIfInBounds i g').size=gs.size:=by simp
def Inv.TA(h:Inv P0 P S O μ gs w t wk vs q fy)(y:∀c,μ c=K):Inv P0 P (λ_=>False) (λ_=>False) (λ_=>K) gs w t (λ_=>K) vs q fy:=by
 have m:∀a,wk a=K:=λa=>by
  cases b:wk a with
  |none=>rfl
  |some d=>
   obtain⟨A,z,s,E,_,i,_⟩:=h.chan a d b;rw[y] at i;cases i
 refine⟨⟨h.zJ.wl,h.zJ.clean,h.zJ.low,λa n u x=>?_,λg d e=>(by cases e),λg d e=>(by cases e),λg d D e=>(by cases e)⟩,h.hp,λa k p l _=>h.quit a k p l λd j=>(by rw[m] at j;cases j),λa k d l b=>(by cases b),λa d b=>(by cases b),λo f=>f.elim,λo f=>f.elim,λa d b=>(by cases b),λa B d F _ b=>(by cases b),λa d b=>(by cases b),λc C v=>(by cases v)⟩;rcases h.zJ.known a n u x with r|⟨g,d,e,_⟩
 ·exact .inl r
 ·rw[m] at e;cases e
def Inv.TB(h:Inv P0 P (λ_=>False) (λ_=>False) (λ_=>K) gs w t (λ_=>K) vs q fy)(k:∀b,S b->b<w.heap.size/\¬O b)(j:∀b,O b->b<w.heap.size):Inv P0 P S O (λ_=>K) gs w t (λ_=>K) vs q fy:=by
 refine⟨⟨h.zJ.wl,h.zJ.clean,h.zJ.low,λe g l n=>?_,λf c d=>(by cases d),λf c d=>(by cases d),λf c v d=>(by cases d)⟩,h.hp,h.quit,λe p c r a=>(by cases a),λe c a=>(by cases a),k,j,λe c a=>(by cases a),λe s c x _ a=>(by cases a),λe c a=>(by cases a),λo u m=>(by cases m)⟩;rcases h.zJ.known e g l n with i|⟨f,c,d,_⟩
 ·exact .inl i
 ·cases d
def Inv.L9(h:Inv P0 P (λ_=>False) (λ_=>False) (λ_=>K) gs w t (λ_=>K) vs q fy){gs':Array UL}{w':F}{es:Array Vm}(f:Li P0 w w' es)(y:gs'.size=gs.size)(s:∀j,0<j->gs'[j]? =gs[j]?)(fn:V6)(pos:String):
 Inv P0 P (λ_=>False) (λ_=>False) (λ_=>K) gs' w' (t++XV 0 fn pos es) (λ_=>K) vs q fy:=by
 refine⟨?_,f.hp h.hp,λb l m n a=>h.quit b l m ((s b m).symm.trans n) a,λb l d n a=>(by cases a),λb d a=>(by cases a),λk c=>c.elim,λk c=>c.elim,λb d a=>(by cases a),λb j d B _ a=>(by cases a),λb d a=>(by cases a),λx A o=>(by cases o)⟩;refine h.zJ.main (λv i=>by obtain⟨e,_,rfl⟩:=WV i;rfl) (nM λe g=>DN (f.evs e g)) f.size λv i k c r=>?_;obtain⟨e,g,rfl⟩:=WV i;exact⟨Jt (f.evs e g) c r,λz d p=>(by cases p),λu=>u.elim⟩
def Inv.good(h:Inv P0 P (λ_=>False) (λ_=>False) (λ_=>K) gs w t (λ_=>K) vs q fy)(sl:Option (Nat×Nat)){v:U}{es:Array Vm}(g:∀e∈es,C6 w.heap.size e)(i:Post v w)(fn:V6)(pos:String)(w0:F):Good P Post (crowd gs w0 sl) (.done v) w (t++XV 0 fn pos es):=by
 have b:=h.L9 (w':=w) (es:=es) ⟨T6 _,rfl,rfl,rfl,id,g⟩ Y (λ_ _=>rfl) fn pos;refine⟨v,rfl,i,b.zJ.clean,b.zJ.over,⟨λf d=>?_,rfl⟩,λa f d c=>?_⟩
 ·obtain⟨a,c⟩:=List.mem_iff_getElem?.1 d;rw[List.getElem?_drop] at c;exact⟨_,(h.quit (1+a) f (by omega) (by simpa [crowd] using c) λj e=>by cases e).leaves⟩
 ·rw[b.zJ.wl.deaf];exact⟨q a,(h.quit a f (by omega) d λj e=>by cases e).hears _ 0⟩
end
end
section
variable {P0 P:Ue}{Post:U->F->Prop}
def Om (P0 P:Ue)(Post:U->F->Prop)(k:Tr):Prop:=
 (∀d c,Mn P0 P Post k .ex d c->∀b g e h f fy a,b[0]? =I a->rT a d->a.status= .running->Inv P0 P (λ_=>False) (λ_=>False) (λ_=>K) b c e (λ_=>K) h f fy->Ends P Post (crowd b c g) e)/\
 (∀j i l d c,Mn P0 P Post k (.sh j i l) d c->∀b g e m h f fy a,b[0]? =I a->rT a d->a.status= .running->Inv P0 P j i l b c e m h f fy->Ends P Post (crowd b c g) e)
def EZ{q:Nat->Nat}{i n k:Nat}(a:i<n)(b:q i=k+1):XL n (kK q i k)+1=XL n q:=by
 have c:XL n (kK q i k)+(k+1)=XL n q+k:=by
  have:=ConcN.sumTo_upd q k id a;simp only[id,b] at this;exact this
 omega
def tX{S d:Nat->Prop}{n:Nat->Option (List U)}{a:Array UL}{w:F}{t:Trace}{l:Nat->Option wF}{vs:Nat->List U}{q:Nat->Nat}{fy:Nat->Tr}(h:Inv P0 P S d n a w t l vs q fy){b:UL}(e:a[0]? =I b)(f:awake b):∀g∈a,awake g:=by
 intro g i;obtain⟨k,c,rfl⟩:=Array.mem_iff_getElem.1 i;rcases Xt k with rfl|j
 ·have:a[0]=b:=by simpa [UU c] using e
  rw[this];exact f
 ·exact awake_of ((h.status j (UU c)).elim .inl λm=>.inr (.inr m))
def OW{f:F->Tr}(C:∀w,Om P0 P Post (f w)):∀(n:Nat) g w,Mn P0 P Post (.mk f) .ex g w->∀d sl t vs q fy c,XL d.size q<n->d[0]? =I c->rT c g->c.status= .running->Inv P0 P (λ_=>False) (λ_=>False) (λ_=>K) d w t (λ_=>K) vs q fy->Ends P Post (crowd d w sl) t:=by
 intro n
 induction n with
 |zero=>intro g w y d sl t vs q fy c ae;omega
 |succ n al=>
  intro g w y d sl t vs q fy c ae j p k e;have N:=y;rcases nl.1 y with x|x|⟨E,D,H,J,L⟩
  case inr.inr=>exact(C w).2 E D _ g w (L w (atRel_refl w)) d sl t _ vs q fy c j p k (e.TB H J)
  all_goals
   obtain⟨h,i,a,m,b,o,B⟩:=crowd_pick (P:=P) (w:=w) (sl:=sl) (tX e j (awake_of (.inl k))) ⟨0,c,j,k⟩;rcases Xt h with rfl|Y
   case inr=>
    have r:=e.quit h i Y b (λar s=>by cases s);have U:(h==0)=T5:=by simp;omega
    have W:h<d.size:=(Ua.1 b).1;cases A:q h with
    |zero=>rw[A] at r;rw[show i.status= .finished from r] at o;cases o
    |succ ao=>
     rw[A] at r;rcases r with R|⟨_,u,ad,aa⟩
     ·rw[R] at o;cases o
     ·have l:=runT_crowd_go (P:=P) (sl:=m) (i:=h) b (by rw[U];exact ad (w.at a));have au:=EZ W A;refine Ends.step (B.trans l) (al g (w.at a) (N.H9 ⟨a,rfl⟩) _ m _ vs (kK q h ao) fy c (by rw[gM];omega) (Er (by omega) j (mW (.inl k))) p k ?_);rw[ofEvents_none,Array.append_empty];exact(e.at a).slip (λar s=>by cases s) aa gM (qM b) λam z V=>others e z V
  ·obtain rfl:i=c:=by rw[j] at b;exact(Yk b).symm
   obtain⟨u,ap,G,T,ab,S,M⟩:=x (w.at a) ⟨a,rfl⟩;have l:=runT_crowd_go (P:=P) (sl:=m) (i:=0) b (show UM P (0==0) i (w.at a)=_ from(p.step Z _).trans T);refine Ends.step (B.trans l) ((C (w.at a)).1 u ap M _ m _ vs q fy u (qM b) (rT.refl _) ab ?_);exact(e.at a).L9 S gM (λam z=>others e z (by omega)) _ _
  ·obtain rfl:i=c:=by rw[j] at b;exact(Yk b).symm
   obtain⟨v,G,O,Q,X⟩:=x (w.at a) ⟨a,rfl⟩;have l:=runT_many_ended (P:=P) (sl:=m) (i:=0) b (show UM P (0==0) i (w.at a)=_ from(p.step Z _).trans O);exact Ends.now (B.trans l) ((e.at a).good sl Q X _ _ w)
end
section
variable {P0 P:Ue}{Post:U->F->Prop}
def RC (P0 P:Ue)(Post:U->F->Prop)(f:F->Tr)(S O:Nat->Prop)(μ:Nat->Option (List U))(g:UL)(w:F)(c:Nat)(z:U)(g2:UL)(l0:List U):Prop:=
 μ c=I l0/\(g2.frame=g.frame/\g2.callers=g.callers/\g2.dying=g.dying)/\∀a,RelB (λb=>S b\/O b) w a->UM P Z g a= .comm g2 #[rcase c z] Z (.recv Z) a #[]/\
  match l0 with
  |v::d=>Mn P0 P Post (f a) (.sh S O (gb μ c (I d))) (Wi g2 (recvd Z v Z)) a
  | []=>Mn P0 P Post (f a) (.sh S O (gb μ c K)) (Wi g2 (recvd Z z T5)) a
def RC.rely{f:F->Tr}{S O:Nat->Prop}{μ:Nat->Option (List U)}{g:UL}{w a:F}{c:Nat}{z:U}{g2:UL}{l0:List U}(h:RC P0 P Post f S O μ g w c z g2 l0)(e:RelB (λb=>S b\/O b) w a):RC P0 P Post f S O μ g a c z g2 l0:=
 ⟨h.1,h.2.1,λi d=>h.2.2 i (e.trans d)⟩
def Ay (P0 P:Ue)(Post:U->F->Prop)(f:F->Tr)(S O:Nat->Prop)(μ:Nat->Option (List U))(g:UL)(gs:Array UL)(w:F)(wk:Nat->Option wF)(d:Nat):Prop:=
 (d=1/\∃b,gs[0]? =I b/\rT b g/\b.status= .running)\/
 (d=0/\∃a h e k j c i s l,gs[0]? =I (parked e #[rcase a h] (.recv Z))/\RC P0 P Post f S O μ g w a h e k/\wk j=I c/\c.c=a/\c.pc=K/\w.heap[a]? =I (.chan i #[] T5 s l T5))
def KS(μ:Nat->Option (List U)){c:Nat}{l:Option (List U)}(h:μ c=l):gb μ c l=μ:=by
 funext b;unfold gb
 split
 ·rename_i a;rw[a,h]
 ·rfl
section
variable {S O:Nat->Prop}{μ:Nat->Option (List U)}{gs:Array UL}{w w':F}{t:Trace}{wk:Nat->Option wF}{vs:Nat->List U}{q:Nat->Nat}{fy:Nat->Tr}
def Inv.LK(h:Inv P0 P S O μ gs w t wk vs q fy){i j:Nat}{x y:wF}(b:wk i=I x)(a:wk j=I y){es:Array Vm}(d:mj P0 S x.own w w' es):w'.heap[y.c]? =w.heap[y.c]? :=by
 refine d.keep _ (h.low j y a).1 ?_;by_cases c:j=i
 ·subst c;rw[b] at a;cases a;exact(h.low j x b).2.2.2.1
 ·exact(h.ri j i y x c a b).2.1
def Inv.yG(h:Inv P0 P S O μ gs w t wk vs q fy)(i c:Nat)(b:Bool)(j:∀e,i≠0->gs[0]? =I e->offersAt e c b=[]):partners (gs.setIfInBounds i ph) c b=[]:=by
 refine partners_nil λg d k=>?_;rcases getElem?_stand gs i g d k with⟨_,rfl⟩|⟨l,f⟩
 ·exact offersAt_ph c b
 ·rcases Xt g with rfl|m
  ·exact j d (λa=>l a.symm) f
  ·exact offersAt_of_not_blocked (by rcases h.status m f with a|a<;>rw[a]<;>simp) c b
end
def qT{gs:Array UL}{i:Nat}{g g':UL}(a:gs[i]? =I g):(gs.setIfInBounds i g')[i]? =I g':=Array.getElem?_setIfInBounds_self_of_lt (Ua.1 a).1
def jx{gs:Array UL}{i j:Nat}{g':UL}(h:j≠i):(gs.setIfInBounds i g')[j]? =gs[j]? :=VS (λa=>h a.symm)
def Ek{k:Nat}{g:UL}(h:QuitsIn P k g):(g.status != .blocked&&g.status != .waiting)=Z:=by
 rcases h.status with a|a<;>rw[a]<;>rfl
def vJ{f:F->Tr}(c7:∀w,Om P0 P Post (f w)){S O:Nat->Prop}{μ:Nat->Option (List U)}{g:UL}{n:Nat}{fy:Nat->Tr}
 (a8:∀b2,Down n b2 fy->∀w,Mn P0 P Post (.mk f) (.sh S O μ) g w->∀gs sl t wk vs q o,gs.size=n->Ay P0 P Post f S O μ g gs w wk o->Inv P0 P S O μ gs w t wk vs q b2->Ends P Post (crowd gs w sl) t)
 {bB:Nat} (c8:∀w,Mn P0 P Post (.mk f) (.sh S O μ) g w->∀gs sl t wk vs q o,gs.size=n->XL n q+o<bB->Ay P0 P Post f S O μ g gs w wk o->Inv P0 P S O μ gs w t wk vs q fy->Ends P Post (crowd gs w sl) t)
 {w:F} (cs:Mn P0 P Post (.mk f) (.sh S O μ) g w) {gs:Array UL} {sl:Option (Nat×Nat)} {t:Trace} {wk:Nat->Option wF} {vs:Nat->List U} {q:Nat->Nat} {o:Nat} (V:gs.size=n) (dk:XL n q+o<bB+1) (bd:Ay P0 P Post f S O μ g gs w wk o) (av:Inv P0 P S O μ gs w t wk vs q fy)
 {i:Nat} {A:UL} {d:Nat} {u:Option (Nat×Nat)} (c0:0<i) (p:gs[i]? =I A) (bb:A.status= .running) (a6:stepT P (crowd gs w sl)=runT P (crowd gs (w.at d) u) i):Ends P Post (crowd gs w sl) t:=by
 have B:=av.at d;have aw:=cs.j6 (RelB.at _ w d);have bc:(i==0)=T5:=by simp;omega
 have b5:i<gs.size:=(Ua.1 p).1;have ca:(∀b,wk i=I b->b.pc≠K)->Ends P Post (crowd gs w sl) t:=by
  intro b6;have al:=av.quit i A c0 p b6;cases bt:q i with
  |zero=>rw[bt] at al;rw[show A.status= .finished from al] at bb;cases bb
  |succ be=>
   rw[bt] at al;rcases al with cv|⟨_,a2,c3,c1⟩
   ·rw[cv] at bb;cases bb
   ·have N:=runT_crowd_go (P:=P) (sl:=u) (i:=i) p (by rw[bc];exact c3 (w.at d));have df:=EZ (V▸b5) bt;refine Ends.step (a6.trans N) (c8 (w.at d) aw _ u _ wk vs (kK q i be) o (by rw[gM];exact V) (by omega) ?_ ?_)
    ·rcases bd with⟨a,H,e,ae,E⟩|⟨a,x,G,c,R,h,b,k,s,r,e,J,j,c6,D,L⟩
     ·exact .inl ⟨a,H,Er (by omega) e (mW (.inl E)),ae,E⟩
     ·exact .inr ⟨a,x,G,c,R,h,b,k,s,r,Er (by omega) e (lX (w':=w.at d) L),J.rely (RelB.at _ w d),j,c6,D,L⟩
    ·rw[ofEvents_none,Array.append_empty];exact B.slip b6 c1 gM (qM p) λh M l=>others av M l
 cases j:wk i with
 |none=>exact ca λb a=>by rw[j] at a;cases a
 |some b=>
  cases D:b.pc with
  |some dq=>exact ca λW a=>by rw[j] at a;cases a;rw[D];simp
  |none=>
   have a4:=B.act i A b p j D;obtain⟨c9,bi,bj,dl,dp⟩:=B.low i b j;have bl:=a4;generalize cx:fy i=zJ at bl;cases zJ using Tr.ind with
   |fin=>exact(Tr.pR bl).elim
   |mk a1=>
    replace a4:=wm.1 bl;have a0:∀bA,bA=a1 (w.at d)->Down n (kK fy i bA) fy:=λbA a=>⟨i,V▸b5,⟨a1,w.at d,cx,by rw[dj];exact a⟩,λh M=>dX _ _ M⟩;obtain⟨k,T,s,r,X,az,ap⟩:=B.chan i b j;rw[D] at X az ap;simp only[Option.isSome_none,if_true,forall_const] at X az ap;obtain⟨_,a4⟩:=a4;rcases a4 with cn|⟨v,bv,c,G,bu,co⟩|⟨bu,a2,be,al,c4,cp⟩
    ·
     obtain⟨a2,w',db,bo,a5,ba⟩:=cn (w.at d) (RelB.refl _ _);have N:=runT_crowd_go (P:=P) (sl:=u) (i:=i) p (by rw[bc];exact bo);have hrel:=B.Pe j a5;refine Ends.step (a6.trans N) (a8 _ (a0 _ Y) w' (aw.j6 hrel) _ u _ _ vs q o (by rw[gM];exact V) ?_ (B.RN j D a5 ba gM (qM p) (λh M l=>others av M l) _ _));rcases bd with⟨a,H,e,ae,E⟩|⟨a,x,G,c,R,h,W,k,s,r,e,J,z,Q,a7,L⟩
     ·exact .inl ⟨a,H,Er (by omega) e (mW (.inl E)),ae,E⟩
     ·have ab:w'.heap[x]? =I (.chan k #[] T5 s r T5):=by
       rw[<-Q,B.LK j z a5,Q];exact L
      by_cases l:h=i
      ·subst l;rw[j] at z;cases z;exact .inr ⟨a,x,G,c,R,h,⟨b.c,cT b.own (w.at d) w',K⟩,k,s,r,Er (by omega) e (lX ab),(J.rely (RelB.at _ w d)).rely hrel,dj _ _ _,Q,rfl,ab⟩
      ·exact .inr ⟨a,x,G,c,R,h,W,k,s,r,Er (by omega) e (lX ab),(J.rely (RelB.at _ w d)).rely hrel,by rw[dX _ _ l];exact z,Q,a7,ab⟩
    ·
     obtain⟨cu,ba⟩:=co (w.at d) (RelB.refl _ _);have b4:UM P (i==0) A (w.at d)= .comm c #[scase b.c v G] Z .send (w.at d) #[]:=by rw[bc];exact cu
     rw[bu] at az ap;have c2:T.size<k:=by simp at ap;omega
     have ci:(∀H,i≠0->gs[0]? =I H->offersAt H b.c T5=[])->(∀a9,a9[0]? =gs[0]? ->Ay P0 P Post f S O μ g a9 ((w.at d).setChan b.c k (T.push v) T5 (s+1) r T5) wk o)->Ends P Post (crowd gs w sl) t:=by
      intro bs cR;have N:=crowd_send_room (sl:=u) p b4 X c2 (B.yG i b.c T5 bs);refine Ends.step (a6.trans N) ?_;rw[ofEvents_none,Array.empty_append,finishComm_send];have y:=B.comm (gs':=gs.setIfInBounds i (Wi c Vk)) (u:= #[{g:=i,fn:=c.frame.fn,pos:=c.frame.place,act:=.send b.c s},{g:=i,fn:=c.frame.fn,pos:=c.frame.place,act:=.sendDone b.c s}]) j (cap:=k) (s':=s+1) (r':=r) (buf':=T.push v) (vi':=bv) (tr':=a1 (w.at d)) (g':=Wi c Vk) (λ_=>by simp at ap ⊢;omega) (λ_=>ba) (λ_=>qT p) (λa=>absurd D a) (λh M l=>jx l) (by simp) (λbx C m br=>by simp at C;rcases C with rfl|rfl<;>cases br) (λbx C=>by simp at C;rcases C with rfl|rfl<;>rfl);rw[D] at y;simp only[Option.isSome_none,if_true] at y;rw[KS μ (by rw[az];simp)] at y;exact a8 _ (a0 _ Y) _ (aw.j6 (k7 (λaa=>aa.elim bi bj) _ _ _ _ _ _)) _ u _ wk _ q o (by simpa using V) (cR _ (jx (by omega))) y
     rcases bd with⟨a,H,e,ae,E⟩|⟨a,x,da,au,R,h,W,ar,ao,am,e,J,z,Q,a7,L⟩
     ·refine ci (λcl _ a3=>?_) λa9 bm=>.inl ⟨a,H,bm.trans e,ae,E⟩;rw[e] at a3;cases a3;exact offersAt_of_not_blocked (by rw[E];simp) _ _
     ·by_cases ad:x=b.c
      ·
       subst ad;have b1:=L.symm.trans (show w.heap[b.c]? =_ from X);simp only[U8,Obj.chan.injEq] at b1;obtain⟨rfl,rfl,-,rfl,rfl,-⟩:=b1;have bs:partners (gs.setIfInBounds i ph) b.c T5=[(0,0)]:=by
        rw[partners_one (j:=0) (stand_get (i:=i) (by omega) e) (λbe W dc z=>?_)]
        ·rw[offersAt_parked_recv];simp
        ·rcases getElem?_stand gs i be W z with⟨_,rfl⟩|⟨dd,a5⟩
         ·exact offersAt_ph _ _
         ·exact offersAt_of_not_blocked (by rcases av.status (by omega) a5 with a|a<;>rw[a]<;>simp) _ _
       have N:=crowd_send_meets (sl:=u) p b4 X (j:=0) (by omega) e bs;refine Ends.step (a6.trans N) ?_;rw[ofEvents_none,Array.empty_append,finishComm_send,finishComm_recv];obtain⟨cb,⟨cc,cd,cf⟩,ch⟩:=J.rely (RelB.at _ w d);have ck:R=v::bv:=by
        have:=cb.symm.trans az;simpa using this
       subst ck;have b3:=(ch (w.at d) (RelB.refl _ _)).2;dsimp only at b3;have y:=B.comm (gs':=(gs.setIfInBounds 0 (Wi au (recvd Z v Z))).setIfInBounds i (Wi c Vk)) (u:= #[{g:=i,fn:=c.frame.fn,pos:=c.frame.place,act:=.send b.c ao},{g:=0,fn:=au.frame.fn,pos:=au.frame.place,act:=.recv b.c am ar},{g:=i,fn:=c.frame.fn,pos:=c.frame.place,act:=.sendDone b.c ao},{g:=0,fn:=au.frame.fn,pos:=au.frame.place,act:=.recvDone b.c am}]) j (cap:=ar) (s':=ao+1) (r':=am+1) (buf':= #[]) (vi':=bv) (tr':=a1 (w.at d)) (g':=Wi c Vk) (λ_=>by simp at ap ⊢;omega) (λ_=>ba) (λ_=>qT (g:=A) (by rw[jx (by omega)];exact p)) (λa=>absurd D a) (λh M l=>by rw[jx l,jx (by omega)]) (by simp) (λbx C m br=>by simp at C;rcases C with rfl|rfl|rfl|rfl<;>cases br) (λbx C=>by simp at C;rcases C with rfl|rfl|rfl|rfl<;>rfl);rw[D] at y;simp only[Option.isSome_none,if_true] at y;exact(c7 (w.at d)).2 S O _ _ _ (b3.j6 (k7 (λaa=>aa.elim bi bj) _ _ _ _ _ _)) _ u _ wk _ q _ _ (by rw[jx (by omega)];exact qT e) (rT.refl _) Y y
      ·refine ci (λcl _ a3=>?_) λa9 bm=>?_
       ·rw[e] at a3;cases a3;rw[offersAt_parked_recv,if_neg ad]
       ·exact .inr ⟨a,x,da,au,R,h,W,ar,ao,am,bm.trans e,(J.rely (RelB.at _ w d)).rely (k7 (λaa=>aa.elim bi bj) _ _ _ _ _ _),z,Q,a7,(xf ad _ _ _ _ _ _).trans L⟩
    ·
     have bo:=cp (w.at d) (RelB.refl _ _) k T s r T5 X;have N:=runT_crowd_go (P:=P) (sl:=u) (i:=i) p (by rw[bc];exact bo);have hrel:RelB (λb0=>S b0\/O b0) (w.at d) ((w.at d).setChan b.c k T Z s r T5):=k7 (λaa=>aa.elim bi bj) _ _ _ _ _ _;have y:=B.close (gs':=(gs.map (woken P A a2 ((w.at d).setChan b.c k T Z s r T5))).setIfInBounds i a2) (tr':=a1 (w.at d)) j D bu X al (qM p) (λh M l=>others av M l) gM A.frame.fn A.frame.place;refine Ends.step (a6.trans N) ?_;rcases bd with⟨a,H,e,ae,E⟩|⟨a,x,G,c,R,h,W,ar,ao,am,e,J,z,Q,a7,L⟩
     ·exact a8 _ (a0 _ Y) _ (aw.j6 hrel) _ u _ _ _ _ o (by rw[gM];exact V) (.inl ⟨a,H,Er (by omega) e (mW (.inl E)),ae,E⟩) y
     ·by_cases ad:x=b.c
      ·subst ad;obtain⟨cb,⟨cc,cd,cf⟩,ch⟩:=J;refine a8 _ (a0 _ Y) _ (aw.j6 hrel) _ u _ _ _ _ 1 (by rw[gM];exact V) (.inl ⟨rfl,{parked c #[rcase b.c G] (.recv Z) with status:=.running},?_,⟨cc,cd,cf⟩,rfl⟩) y;have c5:woken P A a2 ((w.at d).setChan b.c k T Z s r T5) (parked c #[rcase b.c G] (.recv Z))= {parked c #[rcase b.c G] (.recv Z) with status:=.running}:=by
        unfold woken;rw[if_pos ?hP]
        case hP=>rw[c4,Bool.true_and];exact Ek al
        exact again_recv_closed (BO c9 _ _ _ _ _ _)
       rw[VS (by omega),Array.getElem?_map,e,V2,c5]
      ·have l:h≠i:=λa=>by
        subst a;rw[j] at z;cases z;exact ad Q.symm
       have ab:((w.at d).setChan b.c k T Z s r T5).heap[x]? =I (.chan ar #[] T5 ao am T5):=(xf ad _ _ _ _ _ _).trans L;exact a8 _ (a0 _ Y) _ (aw.j6 hrel) _ u _ _ _ _ o (by rw[gM];exact V) (.inr ⟨a,x,G,c,R,h,W,ar,ao,am,Er (by omega) e (lX ab),(J.rely (RelB.at _ w d)).rely hrel,by rw[dX _ _ l];exact z,Q,a7,ab⟩) y
def OX{f:F->Tr}(C:∀w,Om P0 P Post (f w)){S O:Nat->Prop}{μ:Nat->Option (List U)}{g:UL}{n:Nat}(fy:Nat->Tr)(bl:Acc (Down n) fy):
 ∀(W:Nat) w,Mn P0 P Post (.mk f) (.sh S O μ) g w->∀gs sl t wk vs q p,gs.size=n->XL n q+p<W->Ay P0 P Post f S O μ g gs w wk p->Inv P0 P S O μ gs w t wk vs q fy->Ends P Post (crowd gs w sl) t:=by
 induction bl with
 |intro fy _ b3=>
  have bc:∀X,Down n X fy->∀w,Mn P0 P Post (.mk f) (.sh S O μ) g w->∀gs sl t wk vs q p,gs.size=n->Ay P0 P Post f S O μ g gs w wk p->Inv P0 P S O μ gs w t wk vs q X->Ends P Post (crowd gs w sl) t:=
   λX br w aa gs sl t wk vs q p E ao d=>b3 X br (XL n q+p+1) w aa gs sl t wk vs q p E (by omega) ao d
  intro W
  induction W with
  |zero=>intro w aa gs sl t wk vs q p E a2;omega
  |succ W a4=>
   intro w ab gs sl t wk vs q p E a2 ao d;have bb:=ao;rcases ao with⟨A,au,i,am,a0⟩|⟨A,D,J,r,H,h,b,L,s,V,i,T,j,cv,G,cs⟩
   ·have aa:=nl.1 ab;rcases aa with B|B|B|⟨bA,bi⟩
    case inr.inr.inr=>exact(C w).1 g w (bi w (RelB.refl _ _) d.hp) gs sl t vs q fy au i am a0 (d.TA bA)
    all_goals
     obtain⟨a3,N,a,l,c,ae,y⟩:=crowd_pick (P:=P) (w:=w) (sl:=sl) (tX d i (awake_of (.inl a0))) ⟨0,au,i,a0⟩;rcases Xt a3 with rfl|az
     case inr=>exact vJ C bc a4 ab E a2 bb d az c ae y
     obtain rfl:N=au:=by rw[i] at c;exact(Yk c).symm
     have e:=d.at a
    ·obtain⟨M,w',co,bt,a1,bs,x⟩:=B (w.at a) (RelB.at _ w a);have v:=runT_crowd_go (P:=P) (sl:=l) (i:=0) c (show UM P (0==0) N (w.at a)=_ from(am.step Z _).trans bt);exact Ends.step (y.trans v) ((C (w.at a)).2 S _ μ M w' x _ l _ wk vs q fy M (qM c) (rT.refl _) a1 (e.main bs gM (λh Q=>others d Q (by omega)) _ _))
    ·obtain⟨D,cb,L,b4,b5,b6,ca,B⟩:=B;obtain⟨M,cn,ck,b1,a1,bj,x⟩:=B (w.at a) (RelB.at _ w a);have v:=runT_crowd_spawn (P:=P) (sl:=l) (i:=0) c (show UM P (0==0) N (w.at a)=_ from(am.step Z _).trans b1);have ba:0<gs.size:=(Ua.1 i).1;refine Ends.step (y.trans v) ((C (w.at a)).2 S _ _ M (w.at a) x _ l _ (kK wk gs.size (I ⟨D,λ_=>False,K⟩)) (kK vs gs.size cb) q (kK fy gs.size ck) M ?_ (rT.refl _) a1 ?_)
     ·rw[Array.getElem?_push_lt (by simpa using ba)];simp
     ·rw[ofEvents_none];exact e.spawn b4 b5 b6 ca bj (by simp) ba (by rw[VB];simp) (λh Q bv=>by
       rw[Array.getElem?_push_lt (by simpa using bv),<-UU,jx (by omega)]) _ _ _
    ·obtain⟨D,J,r,H,T⟩:=B;have T:RC P0 P Post f S O μ g w D J r H:=T;have bB:=T.rely (RelB.at _ w a);obtain⟨a5,⟨c1,c2,c3⟩,cf⟩:=bB;obtain⟨bo,x⟩:=cf (w.at a) (RelB.refl _ _);have av:UM P (0==0) N (w.at a)= .comm r #[rcase D J] Z (.recv Z) (w.at a) #[]:=(am.step Z _).trans bo;obtain⟨k,b,j,rfl⟩:=e.mu D H a5;obtain⟨cx,cc,cd,cR,c0⟩:=e.low k b j;obtain⟨L,o,s,V,z,ap,bd⟩:=e.chan k b j;have cu:=(e.idx k b j).1;have aw:=e.yG 0 b.c Z (λcp A=>absurd Y A);obtain⟨gk,a9⟩:∃gk,gs[k]? =I gk:=⟨gs[k]'(e.idx k b j).2,UU _⟩;by_cases ad:0<o.size
     ·
      have v:=crowd_recv_buf (sl:=l) c av z ad aw;refine Ends.step (y.trans v) ?_;rw[ofEvents_none,Array.empty_append,finishComm_recv];have ar:H=o.getD 0 Vk::((o.extract 1 o.size).toList++(if b.pc=K then vs k else[])):=by
       have:=a5.symm.trans ap;simp only[U8] at this;rw[this];obtain⟨a6⟩:=o;cases a6 with
       |nil=>simp at ad
       |cons cl a6=>simp
      subst ar;dsimp only at x;have be:=e.comm (gs':=gs.setIfInBounds 0 (Wi r (recvd Z (o.getD 0 Vk) Z))) (u:= #[{g:=0,fn:=r.frame.fn,pos:=r.frame.place,act:=.recv b.c V L},{g:=0,fn:=r.frame.fn,pos:=r.frame.place,act:=.recvDone b.c V}]) j (cap:=L) (s':=s) (r':=V+1) (buf':=o.extract 1 o.size) (vi':=vs k) (tr':=fy k) (g':=gk) (λA=>by have:=bd A;simp;omega) (λA=>e.act k gk b a9 j A) (λ_=>by rw[jx (by omega)];exact a9) (λ_=>jx (by omega)) (λh Q _=>jx (by omega)) (by simp) (λch R m bx=>by simp at R;rcases R with rfl|rfl<;>cases bx) (λch R=>by simp at R;rcases R with rfl|rfl<;>rfl);exact(C (w.at a)).2 S O _ _ _ (x.j6 (k7 (λad=>ad.elim cc cd) _ _ _ _ _ _)) _ l _ wk _ q _ _ (qT i) (rT.refl _) Y be
     ·have bm:o=#[]:=by
       apply Array.eq_empty_of_size_eq_zero;omega
      subst bm;cases G:b.pc with
      |none=>
       rw[G] at z;have b2:∀a7∈ #[rcase b.c J],NoWays (w.at a) (gs.setIfInBounds 0 ph) a7:=by
        intro a7 a8;simp at a8;subst a8;refine⟨made_recv J z,?_⟩;simp only[ways,rcase];rw[z];simp[aw]
       have v:=crowd_waits (sl:=l) c av b2;refine Ends.step (y.trans v) ?_;rw[ofEvents_none,Array.append_empty];refine a4 (w.at a) (ab.j6 (RelB.at _ w a)) _ l _ wk vs q 0 (by simpa using E) (by omega) (.inr ⟨rfl,b.c,J,r,H,k,b,L,s,V,qT i,T.rely (RelB.at _ w a),j,rfl,G,z⟩) (e.TS (by simp) λh Q=>jx (by omega))
      |some c4=>
       rw[G] at z ap;have v:=crowd_recv_closed (sl:=l) c av z aw;refine Ends.step (y.trans v) ?_;rw[ofEvents_none,Array.empty_append,finishComm_recv];have ar:H=[]:=by
        have:=a5.symm.trans ap;simpa using this
       subst ar;dsimp only at x;exact(C (w.at a)).2 S O _ _ _ x _ l _ _ vs q fy _ (qT i) (rT.refl _) Y (e.Mv j G (by simp) (λh Q=>jx (by omega)) _ _)
   ·
    have b0:∃u,gs[h]? =I u/\u.status= .running:=by
     obtain⟨u,al⟩:∃u,gs[h]? =I u:=⟨gs[h]'(d.idx h b j).2,UU _⟩;refine⟨u,al,?_⟩;have:=d.act h u b al j G;generalize fy h=ci at this;cases ci using Tr.ind with
     |fin=>exact(Tr.pR this).elim
     |mk f=>exact(wm.1 this).1
    obtain⟨u,al,bu⟩:=b0;obtain⟨a3,N,a,l,c,ae,y⟩:=crowd_pick (P:=P) (w:=w) (sl:=sl) (tX d i (λt=>by simp[parked])) ⟨h,u,al,bu⟩;rcases Xt a3 with rfl|az
    ·rw[i] at c;cases c;simp[parked] at ae
    ·exact vJ C bc a4 ab E a2 bb d az c ae y
def Mm:∀k:Tr,Om P0 P Post k:=by
 intro k
 induction k using Tr.ind with
 |fin=>exact⟨λa w c=>(Tr.pR c).elim,λS O μ a w c=>(Tr.pR c).elim⟩
 |mk f l=>
  refine⟨λa w g gs j t vs q fy b d h i e=>OW l (XL gs.size q+1) a w g gs j t vs q fy b (by omega) d h i e,λS O μ a w g gs j t wk vs q fy b d h i e=>?_⟩;exact OX l fy (Lq gs.size fy) (XL gs.size q+1+1) w g gs j t wk vs q 1 Y (by omega) (.inl ⟨rfl,b,d,h,i⟩) e
def ED{l:Tr}{fr:Us}{cs:List Us}{w:F}(h:Mn P0 P Post l .ex (Uf fr cs) w)(p:xF P0 w):Ends P Post (Yj (Uf fr cs) w) #[]:=by
 rw[solo_eq_crowd];refine(Mm l).1 _ w h #[Uf fr cs] K #[] (λ_=>[]) (λ_=>0) (λ_=>.fin) _ Y (rT.refl _) Y ⟨⟨λx o=>by simp at o,λz=>?_,λb g d=>by simp[touchAt,Trace.act?] at d,λb g d=>by simp[touchAt,Trace.act?] at d,λk c e=>(by cases e),λk c e=>(by cases e),λk c y e=>(by cases e)⟩,p,λb m u j _=>?_,λb m c j a=>(by cases a),λb c a=>(by cases a),λi f=>f.elim,λi f=>f.elim,λb c a=>(by cases a),λb r c A _ a=>(by cases a),λb c a=>(by cases a),λs v n=>(by cases n)⟩
 ·rintro⟨b,r,_,⟨g,i,d,_⟩,_⟩;simp[Trace.act?] at d
 ·have:b<1:=by simpa using(Ua.1 j).1
  omega
end
def tQ (P0 P:Ue)(Post:U->F->Prop)(g:UL)(w:F):Prop:=∃a,Mn P0 P Post a .ex g w
structure Sm(w w':F):Prop where
 tape:w'.tape=w.tape
 os:w'.os=w.os
 output:w'.output=w.output
 size:w.heap.size<=w'.heap.size
def Sm.refl(w:F):Sm w w:=⟨rfl,rfl,rfl,T6 _⟩
def Sm.trans{a b c:F}(h:Sm a b)(d:Sm b c):Sm a c:=⟨d.tape.trans h.tape,d.os.trans h.os,d.output.trans h.output,Ux h.size d.size⟩
section
variable {P0 P:Ue}{Post:U->F->Prop}
def yI{g:UL}{w:F}(h:∀a,AtRel w a->∃g' w' es,UM P Z g a= .go g' w' es/\g'.status= .running/\Li P0 a w' es/\tQ P0 P Post g' w'):tQ P0 P Post g w:=by
 classical
 let f:F->Tr:=λa=>if b:AtRel w a then Vq (Uu (Uu (Uu (h a b)))).2.2.2 else .fin
 refine⟨.mk f,nl.2 <| .inl λa b=>?_⟩;have c:=Uu (Uu (Uu (h a b)));have d:f a=Vq (Uu (Uu (Uu (h a b)))).2.2.2:=by
  show(if b:AtRel w a then _ else _)=_;rw[dif_pos b]
 exact⟨_,_,_,c.1,c.2.1,c.2.2.1,Mn.cast d (Uu c.2.2.2)⟩
def Pw{g:UL}{w:F}(h:∀a,AtRel w a->∃v es,UM P Z g a= .ended (.done v) a es/\(∀e∈es,C6 a.heap.size e)/\Post v a):tQ P0 P Post g w:=⟨.mk λ_=>.fin,nl.2 (.inr (.inl h))⟩
def Rk{g:UL}{w a:F}(h:tQ P0 P Post g w)(b:AtRel w a):tQ P0 P Post g a:=by
 obtain⟨c,h⟩:=h;exact⟨c,h.H9 b⟩
def Pf(P0:Ue)(u:F):∃w,Un w u/\Hp (bn P0) w/\w.tape=u.tape/\w.drawn=u.drawn/\∀(b:Nat) o,u.heap[b]? =I o->bn P0 o->w.heap[b]? =I o:=by
 classical
 have h:∀o,¬bn P0 o->jk o=Z:=λo g=>by cases o<;>first|rfl|exact absurd trivial g
 have f:∀b:Nat,(u.heap.map λo=>if bn P0 o then o else pz)[b]? =(u.heap[b]?).map λo=>if bn P0 o then o else pz:=λb=>by simp
 refine⟨{u with heap:=u.heap.map λo=>if bn P0 o then o else pz},⟨by simp,λb o a=>?_,rfl,rfl⟩,λb o a=>?_,rfl,rfl,λb o a i=>?_⟩
 ·simp only[f] at a;cases d:u.heap[b]? with
  |none=>rw[d] at a;cases a
  |some e=>
   rw[d] at a;simp only[V2,U8] at a;by_cases c:bn P0 e
   ·rw[if_pos c] at a;subst a;exact .inl Y
   ·rw[if_neg c] at a;exact .inr ⟨a.symm,e,rfl,h e c⟩
 ·simp only[f] at a;cases d:u.heap[b]? with
  |none=>rw[d] at a;cases a
  |some e=>
   rw[d] at a;simp only[V2,U8] at a;by_cases c:bn P0 e
   ·rw[if_pos c] at a;subst a;exact .inl c
   ·rw[if_neg c] at a;exact .inr a.symm
 ·simp only[f,a,V2,if_pos i]
def Ge{Stop:Us->List Us->F->Prop}{fr:Us}{aE:List Us}{w u:F}(h:Fin P0 P Stop fr aE w u):∀{cs:List Us},eM P0 fr aE->Hp (bn P0) w->Un w u->(∀fr' tops' w' a,Stop fr' tops' w'->eM P0 fr' tops'->Hp (bn P0) w'->rV w u w' a->Sm u a->tQ P0 P Post (Uf fr' (tops'++cs)) a)->tQ P0 P Post (Uf fr (aE++cs)) u:=by
 intro cs;refine h (λfr aE w u=>eM P0 fr aE->Hp (bn P0) w->Un w u->(∀fr' tops' w' a,Stop fr' tops' w'->eM P0 fr' tops'->Hp (bn P0) w'->rV w u w' a->Sm u a->tQ P0 P Post (Uf fr' (tops'++cs)) a)->tQ P0 P Post (Uf fr (aE++cs)) u) ?_ ?_
 ·intro fr aE w u g i l e f;exact f _ _ _ _ g i l e.two (Sm.refl _)
 ·intro fr aE w u B p A C i E z D l e f;refine yI λG v=>?_;obtain⟨c,rfl⟩:=v;have d:=A u.tape c;obtain⟨b,y⟩:=C u.tape c;have m:u.heap.size<=(B u.tape c).2.2.2.1.heap.size:=by
   rw[b.un.size,e.size];exact d.size
  have n:=y.trans d.tape;have j:=b.un.os.trans (d.os.trans e.os.symm);have k:=b.un.output.trans (d.output.trans e.output.symm);refine⟨_,_,_,p u.tape c Z cs,rfl,⟨m,n,j,k,λ_=>trivial,λo r=>by rw[b.un.size];exact d.evs o r⟩,?_⟩;exact z u.tape c (i u.tape c) d.hp b.un λfr' tops' w' a g s t q x=>f fr' tops' w' a g s t ((⟨b.un,b.keep⟩:rV w u _ _).trans q) ((⟨n,j,k,m⟩:Sm u _).trans x)
def sW(h:Twins P0 P){Stop:Us->List Us->F->Prop}(j:∀fr aE w,Stop fr aE w->¬IV fr){fr:Us}{aE cs:List Us}{w u:F}(ok:eM P0 fr aE)(d:Hp (bn P0) w)(e:Un w u)
 (k:∀c,∃fr' tops' w',Steps P0 (lone fr (aE++[bG]) (sh c 0 w)) (lone fr' (tops'++[bG]) w')/\Stop fr' tops' w')
 (g:∀fr' tops' w' a,Dg Stop fr' tops' w'->eM P0 fr' tops'->rV w u w' a->Sm u a->tQ P0 P Post (Uf fr' (tops'++cs)) a):tQ P0 P Post (Uf fr (aE++cs)) u:=
 Ge (vB h j ok d e λc=>by
  obtain⟨fr',tops',w',⟨N,i⟩,b⟩:=k c;exact⟨N,fr',tops',w',i,b⟩) ok d e λfr' tops' w' a b l _ f m=>g fr' tops' w' a b l f m
def Left (c:Us):Xa->Us
 | .returned v=>c.finish v
 | .panicked a=>c.raise a
 | .outgrown=>c
def Qu (c:Us):Prop:=c.mode= .run/\((∃e b f a,c.todo= .inRegion e (b::f)::a)\/∃d a,c.todo= .inRangeFunc d::a)
def mh (P0 P:Ue)(Post:U->F->Prop)(f:V6)(args:Array U)(w:F)(R:Xa->F->Prop):Prop:=
 ∀(a:Us) (d:List Us),eM P0 a []->Qu a->xF P0 w->
  (∀c b,R c b->xF P0 b->Sm w b->eM P0 (Left a c) []->tQ P0 P Post (Uf (Left a c) d) b)->tQ P0 P Post (Uf (UY P f args .normal) (a::d)) w
def Tl (w u:F)(R:Xa->F->Prop)(e:Xa)(c:F):Prop:=∃d b a,rV w u a c/\R e (sh d b a)
def DL(h:Twins P0 P)(f:V6)(args:Array U)(kind:CallKind)(i:kind= .normal\/kind= .deferred):mX P0 (UY P0 f args kind):=by
 refine⟨λk c=>?_,λj e=>by simp[UY] at e,i⟩;simp only[UY,List.mem_singleton] at c;subst c;show bp P0 T5 _=Z;cases g:P0.funcs[f]? with
 |none=>rfl
 |some b=>
  cases a:b.body with
  |none=>simp[a,bp]
  |some d=>simpa [a] using h.A.FA f b d g a
def pL(h:Twins P0 P){f:V6}{args:Array U}{w u:F}{R:Xa->F->Prop}(C:Hp (bn P0) w)(H:Un w u)(y:P.funcs[f]? =P0.funcs[f]?)(n:∀w',¬R .outgrown w')(z:∀e,UB P0 f args (sh e 0 w) R):mh P0 P Post f args u (Tl w u R):=by
 intro c K k D _ x;have r:UY P f args .normal=UY P0 f args .normal:=by unfold UY;rw[y]
 rw[r];obtain⟨E,d⟩:=D;refine sW (aE:=[c]) h (Stop:=λi aE w'=>aE=[]/\∃a,R a w'/\i=Left c a) (λi aE w' j=>?_) ⟨DL h f args .normal (.inl Y),λV p=>by simp at p;rw[p];exact k.top,k.bot⟩ C H (λe=>?_) (λL T w' J j B t G=>?_)
 ·obtain⟨_,a,b,rfl⟩:=j;rintro⟨A,s,o⟩;cases a with
  |returned v=>
   rcases d with⟨Q,N,S,I,d⟩|⟨O,I,d⟩
   ·simp[Left,VW,d] at o
   ·simp[Left,VW,d] at o
  |panicked g=>
   simp[Left,Frame.raise,E] at A
  |outgrown=>exact n _ b
 ·obtain⟨a,w',i,b,l,M,m⟩:=z e (c::[bG]);cases a with
  |returned v=>exact⟨c.finish v,[],w',l.trans (.one (step_leave_returned m)),rfl,.returned v,b,rfl⟩
  |panicked g=>exact⟨c.raise g,[],w',l.trans (.one (step_leave_panicked m)),rfl,.panicked g,b,rfl⟩
  |outgrown=>exact absurd b (n _)
 ·obtain⟨e,q,rfl,a,b,rfl⟩:=j;exact x a J ⟨e,q,w',t,b⟩ trivial G B
end
def Fg (P0 P:Ue)(Post:U->F->Prop)(fr:Us)(cs:List Us)(w:F):Prop:=eM P0 fr []->xF P0 w->tQ P0 P Post (Uf fr cs) w
section
variable {P0 P:Ue}{Post:U->F->Prop}
def P9{w u w' d:F}(h:rV w u w' d)(e:u.heap=w.heap):d.heap=w'.heap:=by
 apply Array.ext_getElem?;intro b;rcases h.un.cases b with c|⟨c,i,f,g⟩
 ·exact c
 ·rw[(h.keep b c).2,e,(h.keep b c).1,c]
def Qa{w u g u1 i u2:F}(h1:rV w u g u1)(h:rV w u i u2)(e:g.heap=i.heap):u1.heap=u2.heap:=by
 apply Array.ext_getElem?;intro b;by_cases c:g.heap[b]? =I pz
 ·rw[(h1.keep b c).2,(h.keep b (by rw[<-e];exact c)).2]
 ·rcases h1.un.cases b with d|⟨d,_⟩
  ·rcases h.un.cases b with f|⟨f,_⟩
   ·rw[d,f,e]
   ·exact absurd (by rw[e];exact f) c
  ·exact absurd d c
def rV.same{w u w' g:F}(h:rV w u w' g)(i:Un w u){b:Nat}(e:w'.heap[b]? =w.heap[b]?):g.heap[b]? =u.heap[b]? :=by
 by_cases f:w'.heap[b]? =I pz
 ·exact(h.keep b f).2
 ·rcases h.un.cases b with c|⟨c,_⟩
  ·rcases i.cases b with d|⟨d,_⟩
   ·rw[c,d,e]
   ·exact absurd (e.trans d) f
  ·exact absurd c f
structure Mk(P0:Ue)(ws w:F):Prop where
 un:Un ws w
 hp:Hp (bn P0) ws
 at_:∀(b:Nat) o,w.heap[b]? =I o->bn P0 o->ws.heap[b]? =I o
def D5(P0:Ue)(w:F):∃ws,Mk P0 ws w:=by
 obtain⟨ws,c,d,-,-,e⟩:=Pf P0 w;exact⟨ws,c,d,e⟩
section
variable {b:Us}{a:V5}{k:List WM}{cs:List Us}{w:F}
def S2 (P0 P:Ue)(Post:U->F->Prop)(b:Us)(k:List WM)(cs:List Us)(w':F):Exit->V5->Prop
 | .normal,a=>Fg P0 P Post (b.at a k) cs w'
 | .exit id,a=>∀d,Yh id k=I d->Fg P0 P Post (b.at a d) cs w'
 | .ret,a=>∀c,Fg P0 P Post {b.at a c with mode:=.returning} cs w'
 | .panic e,a=>∀c,Fg P0 P Post {b.at a c with mode:=.panicking e} cs w'
 |_,_=>True
theorem yd{id:Nat}{i:WM}:∀{k k':List WM},Yh id k=I k'->i∈k'->i∈k
 | [],k',c,_=>by simp[Yh] at c
 |x::f,k',c,d=>by
  cases x<;>simp only[Yh] at c
  case inBlock e=>
   split at c
   ·cases c;exact List.mem_cons_of_mem _ d
   ·exact List.mem_cons_of_mem _ (yd c d)
  all_goals exact List.mem_cons_of_mem _ (yd c d)
def Ip(h:Twins P0 P){c:WU}{Q:F->Exit->V5->F->Prop}(E:∀ws,Mk P0 ws w->∀o,c.wp P0 (Q ws) a (sh o 0 ws))(y:∀s,Item.code (.refuse s)∉k)(C:∀ws id a w,Q ws (.exit id) a w->Yh id k≠K)(D:∀ws l a w,¬Q ws (.goto l) a w)(G:∀ws a w,¬Q ws .outgrown a w)
 (B:∀ws e a' z w' o d,Mk P0 ws w->Q ws e a' (sh o d z)->rV ws w z w'->Sm w w'->S2 P0 P Post b k cs w' e a'):Fg P0 P Post (b.at a (.code c::k)) cs w:=by
 intro J _;obtain⟨ws,m⟩:=D5 P0 w;refine sW (aE:=[]) h (Stop:=λq aE w'=>aE=[]/\∃e a',Q ws e a' w'/\(match e with
  | .normal=>q=b.at a' k
  | .exit id=>∃j,Yh id k=I j/\q=b.at a' j
  | .ret=>∃g,q= {b.at a' g with mode:=.returning}
  | .panic p=>∃g,q= {b.at a' g with mode:=.panicking p}
  |_=>False)) (λq aE w' n=>?_) J m.hp m.un (λo=>?_) (λM N w' L n u A H=>?_)
 ·obtain⟨_,e,a',i,f⟩:=n;rintro⟨m,s,v⟩;cases e with
  |normal=>subst f;exact y s (by simp only[Frame.at] at v;rw[v];exact Xs ..)
  |exit id=>obtain⟨j,x,rfl⟩:=f;exact y s (yd x (by simp only[Frame.at] at v;rw[v];exact Xs ..))
  |ret=>obtain⟨g,rfl⟩:=f;cases m
  |panic p=>obtain⟨g,rfl⟩:=f;cases m
  |goto l=>exact f
  |outgrown=>exact f
 ·obtain⟨e,a',w',i,t⟩:=E ws m o b k [bG];cases e with
  |normal=>exact⟨_,[],w',t,rfl,.normal,a',i,rfl⟩
  |exit id=>
   cases f:Yh id k with
   |none=>exact absurd f (C ws id a' w' i)
   |some j=>exact⟨_,[],w',t j f,rfl,.exit id,a',i,j,f,rfl⟩
  |ret=>obtain⟨g,n⟩:=t;exact⟨_,[],w',n,rfl,.ret,a',i,g,rfl⟩
  |panic p=>obtain⟨g,n⟩:=t;exact⟨_,[],w',n,rfl,.panic p,a',i,g,rfl⟩
  |goto l=>exact absurd i (D ws l a' w')
  |outgrown=>exact absurd i (G ws a' w')
 ·obtain⟨o,d,rfl,e,a',i,f⟩:=n;have r:=B ws e a' w' L o d m i A H;cases e with
  |normal=>subst f;exact r u trivial
  |exit id=>obtain⟨j,x,rfl⟩:=f;exact r j x u trivial
  |ret=>obtain⟨g,rfl⟩:=f;exact r g u trivial
  |panic p=>obtain⟨g,rfl⟩:=f;exact r g u trivial
  |goto l=>exact f.elim
  |outgrown=>exact f.elim
end
end
section
variable {P0 P:Ue}{Post:U->F->Prop}{b:Us}{a:V5}{k:List WM}{cs:List Us}{w:F}{ops:Array Vu}
def Pv{i:Nat}{rest:List Nat}{o:Vu}{f:V6}{fn:WC}{c:WU}{args:Array U6}{ats:Array Ug}{R:Xa->F->Prop}(A:b.kind= .normal)(n:ops[i]? =I o)(G:UF o (Vj ops a.tmps)=Z)(r:o.op= .call {callee:=.value (.func f),args,argTypes:=ats})
 (l:P.funcs[f]? =I fn) (m:(fn.name == "runtime.NumGoroutine")=T5) (z:fn.body=I c) (hR:∀d,AtRel w d->mh P0 P Post f (args.map a.eval) d R)
 (y:∀v w',R (.returned v) w'->Sm w w'->Fg P0 P Post (b.at (a.put o.dst v) (.inRegion ops rest::k)) cs w') (hP:∀ch w',R (.panicked ch) w'->Sm w w'->Fg P0 P Post {b.at a (.inRegion ops (i::rest)::k) with mode:=.panicking ch} cs w') (B:∀w',¬R .outgrown w'):Fg P0 P Post (b.at a (.inRegion ops (i::rest)::k)) cs w:=by
 intro H C;refine yI λd h=>?_;have j:fn.body.isNone=T5:=by rw[z];rfl
 have E:UM P Z (Uf (b.at a (.inRegion ops (i::rest)::k)) cs) d= .go (Uf (UY P f (args.map a.eval) .normal) (b.at a (.inRegion ops (i::rest)::k)::cs)) d #[]:=by
  rw[stepG_enter n G (by rw[A];simp) (run_call_body r l m j)];have:listed P b.fn a o d=#[]:=by unfold listed;rw[events_call_body r l m j];exact Conc.seen_none P _
  rw[this]
 have D:xF P0 d:=by obtain⟨x,rfl⟩:=h;exact C
 have t:Sm w d:=by obtain⟨x,rfl⟩:=h;exact⟨rfl,rfl,rfl,T6 _⟩
 refine⟨_,_,_,E,rfl,⟨T6 _,rfl,rfl,rfl,λJ=>J,λe g=>by simp at g⟩,?_⟩;refine hR d h _ cs H ⟨rfl,.inl ⟨ops,i,rest,k,rfl⟩⟩ D λe w' g s u p=>?_;cases e with
 |returned v=>
  have:=y v w' g (t.trans u);have e:=XG b a ops i rest k v;rw[n] at e;have q:eM P0 ((b.at a (.inRegion ops (i::rest)::k)).finish v) []:=p;rw[e] at q;show tQ P0 P Post (Uf ((b.at a (.inRegion ops (i::rest)::k)).finish v) cs) w';rw[e];exact this q s
 |panicked ch=>exact hP ch w' g (t.trans u) p s
 |outgrown=>exact absurd g (B w')
def Gf{fr:Us}{v:U}(j:P.inits.idxOf? fr.fn=K)(m:∀s d,fr.leaving P (sh s d w) (.returned v))(i:∀c,AtRel w c->∀fn,P.funcs[fr.fn]? =I fn->∀e∈((UX fn fr.tmps).runT P c #[]).2,zS c.heap.size e)(o:∀c,AtRel w c->Post v c):tQ P0 P Post (Uf fr []) w:=by
 refine Pw λc r=>?_;obtain⟨d,rfl⟩:=r;obtain⟨n,h,l,fn,g,p⟩:=m w.tape d;have q:(UX fn fr.tmps).run P (w.at d)= .ok v (w.at d):=p;have f:=i (w.at d) ⟨d,rfl⟩ fn g;rw[Yd] at f;refine⟨v,seen P fr.fn ((UX fn fr.tmps).events P (w.at d) #[]),?_,EF f,o _ ⟨d,rfl⟩⟩;simp[Uf,UM,Yi,n,h,g,WY,l,j,WQ,q]
end
end Cc
namespace Rl
section
variable {G:mi}
def fw:Nat->U->Bool
 |_,.bool _|_,.int _ _|_,.string _|_,.pointer K|_,.slice K _ _|_,.map K|_,.chan K|_,.nilFunc|_,.nilIface=>Z
 |n+1,.iface _ v=>fw n v
 |n+1,.agg a|n+1,.tuple a=>a.toList.all (fw n)
 |_,_=>T5
theorem qO:∀(n:Nat) {ρ:aU G} (v:U),fw n v=Z->ay ρ v v
 |n,ρ,v,a=>by
  cases v with
  |bool c=>exact .bool c
  |int e d=>exact .int e d
  |string s=>exact .string s
  |pointer b=>cases b with
   |none=>exact .cZ
   |some b=>cases n<;>simp[fw] at a
  |slice b m l=>cases b with
   |none=>exact .jU _ _
   |some b=>cases n<;>simp[fw] at a
  |map g=>cases g with
   |none=>exact .kD
   |some b=>cases n<;>simp[fw] at a
  |chan g=>cases g with
   |none=>exact .iL
   |some b=>cases n<;>simp[fw] at a
  |nilFunc=>exact .nilFunc
  |nilIface=>exact .nilIface
  |float e c=>cases n<;>simp[fw] at a
  |complex e b c=>cases n<;>simp[fw] at a
  |func f o p=>cases n<;>simp[fw] at a
  |iface k v=>cases n with
   |zero=>simp[fw] at a
   |succ n=>exact .iface k (qO n v (by simpa [fw] using a))
  |agg h=>cases n with
   |zero=>simp[fw] at a
   |succ n=>exact .agg Y (λd i j=>qO n _ (by
    simp only[fw] at a;exact Uy.1 a _ (by simp)))
  |tuple h=>cases n with
   |zero=>simp[fw] at a
   |succ n=>exact .tuple Y (λd i j=>qO n _ (by
    simp only[fw] at a;exact Uy.1 a _ (by simp)))
def dw (G:mi):U6->Bool
 | .tmp _=>Z
 | .const v=>fw 6 v
 | .global _=>T5
 | .func f=>G.b f
def ye (P:Ue)(b:Builtin)(c:Array Ug):Bool:=
 match b with
 | .append=>match c[1]? with
  |some a=>(match P.underlying a with|some (.int _)=>T5|_=>Z)
  |none=>Z
 | .copy| .len| .recover| .unsafeString=>Z
 |_=>T5
def lF (P:Ue)(ρ:aU G)(k:Target)(l:Target):Prop:=∀a:Target->Target->Prop,(∀{f h:Fn} (m:nE ρ f h) {d e:Array U} (j:bg ρ d e),a (.fn f d) (.fn h e))->(a .nil .nil)->(∀(b:Builtin) (c:Array Ug) (i:Ug) (g:Array Bool) (j:ye P b c=Z),a (.builtin b c i g) (.builtin b c i g))->a k l
def lF.fn{P:Ue}{ρ:aU G}{f f':Fn}(d:nE ρ f f'){c a:Array U}(h:bg ρ c a):lF P ρ (.fn f c) (.fn f' a):=λe b g i=>b d h
def lF.nil{P:Ue}{ρ:aU G}:lF P ρ .nil .nil:=λb c a d=>a
def lF.builtin{P:Ue}{ρ:aU G}(b:Builtin)(a:Array Ug)(t:Ug)(cs:Array Bool)(h:ye P b a=Z):lF P ρ (.builtin b a t cs) (.builtin b a t cs):=λd e f c=>c b a t cs h
def lF.ind{P:Ue}{ρ:aU G}{e:∀(a:Target) (d:Target),lF P ρ a d->Prop}(fn:∀{f f':Fn} (i:nE ρ f f') {c j:Array U} (h:bg ρ c j),e _ _ (lF.fn i h))(nil:e _ _ (lF.nil))(builtin:∀(b:Builtin) (g:Array Ug) (t:Ug) (cs:Array Bool) (h:ye P b g=true),e _ _ (lF.builtin b g t cs h)){a:Target}{d:Target}(h:lF P ρ a d):e a d h:=(h (λa d=>lF P ρ a d/\∀h,e a d h) (λ{f} {f'} i {c} {j} h=>⟨lF.fn i h,λ_=>fn i h⟩) (⟨lF.nil,λ_=>nil⟩) (λb g t cs h=>⟨lF.builtin b g t cs h,λ_=>builtin b g t cs h⟩)).2 h
structure xB(P:Ue)(ρ:aU G)(d d':Wj):Prop where
 target:lF P ρ d.target d'.target
 args:bg ρ d.args d'.args
def iF (P:Ue)(ρ:aU G)(i:Next)(j:Next):Prop:=∀a:Next->Next->Prop,(∀{v e:U} (d:ay ρ v e),a (.value v) (.value e))->(a .skip .skip)->(∀(f:V6) (k:G.b f=Z) {g h:Array U} (d:bg ρ g h),a (.enter f g) (.enter f h))->(∀{b c:Wj} (d:xB P ρ b c),a (.defer b) (.defer c))->(a .recover .recover)->a i j
def iF.value{P:Ue}{ρ:aU G}{v a:U}(h:ay ρ v a):iF P ρ (.value v) (.value a):=λc b d e f g=>b h
def iF.skip{P:Ue}{ρ:aU G}:iF P ρ .skip .skip:=λb c a d e f=>a
def iF.enter{P:Ue}{ρ:aU G}(f:V6)(c:G.b f=Z){vs a:Array U}(h:bg ρ vs a):iF P ρ (.enter f vs) (.enter f a):=λd e g b i j=>b f c h
def iF.defer{P:Ue}{ρ:aU G}{d a:Wj}(h:xB P ρ d a):iF P ρ (.defer d) (.defer a):=λc e f g b i=>b h
def iF.recover{P:Ue}{ρ:aU G}:iF P ρ .recover .recover:=λb c d e f a=>a
def iF.ind{P:Ue}{ρ:aU G}{a:∀(b:Next) (c:Next),iF P ρ b c->Prop}(value:∀{v j:U} (h:ay ρ v j),a _ _ (iF.value h))(skip:a _ _ (iF.skip))(enter:∀(f:V6) (e:G.b f=true) {vs g:Array U} (h:bg ρ vs g),a _ _ (iF.enter f e h))(defer:∀{d i:Wj} (h:xB P ρ d i),a _ _ (iF.defer h))(recover:a _ _ (iF.recover)){b:Next}{c:Next}(h:iF P ρ b c):a b c h:=(h (λb c=>iF P ρ b c/\∀h,a b c h) (λh=>⟨iF.value h,λ_=>value h⟩) (⟨iF.skip,λ_=>skip⟩) (λf e {vs} {g} h=>⟨iF.enter f e h,λ_=>enter f e h⟩) (λh=>⟨iF.defer h,λ_=>defer h⟩) (⟨iF.recover,λ_=>recover⟩)).2 h
section
variable {P P':Ue}{ρ:aU G}
def bg.two{vs d:Array U}(h:bg ρ vs d):(∃a b a' b',vs=#[a,b]/\d=#[a',b']/\ay ρ a a'/\ay ρ b b')\/(vs.size≠2/\d.size≠2):=by
 by_cases c:vs.size=2
 ·have e:d.size=2:=by rw[<-h.1];exact c
  obtain⟨f⟩:=vs;obtain⟨g⟩:=d;simp at c e
  match f,g,c,e,h with
  | [a,b],[a',b'],_,_,h=>exact .inl ⟨a,b,a',b',rfl,rfl,h.2 0 (by simp) (by simp),h.2 1 (by simp) (by simp)⟩
 ·exact .inr ⟨c,by rw[<-h.1];exact c⟩
theorem vL:∀(n:Nat) {ρ:aU G} {a a':UJ} (b:ByteArray),cM ρ a a'->aq P P' (iW (α:=ByteArray)) ρ (loadBytes a b n) (loadBytes a' b n)
 |0,ρ,a,a',b,c=>.aB Y
 |n+1,ρ,a,a',b,c=>by
  unfold loadBytes;refine .load c (λv g d=>?_);cases d using ay.ind with
  |int e f=>
   cases e<;>first|exact aq.stuck|exact vL n _ (c.add 1)
  |_=>exact aq.stuck
def M9(L:Alike G P P')(t:Ug):aq P P' (iW (α:=Ug)) ρ (elemOf t) (elemOf t):=by
 unfold elemOf;refine(aV L.S t).bindM (λe b d c a=>?_);obtain⟨rfl,-⟩:=a;cases b<;>first|exact .aB rfl|exact aq.stuck
def Ap(L:Alike G P P'){a a':UJ}(u:Ug)(n:Nat)(h:cM ρ a a'):aq P P' (iW (α:=Bool)) ρ (variablesAt a u n) (variablesAt a' u n):=by
 unfold variablesAt;refine .asks ?_;refine(oG h.1).bindM (λg c f d b=>?_);cases b;cases c with
 |none=>exact .aB Y
 |some e=>dsimp only;rw[L.ji,L.depth,L.cells,<-h.2.1];exact .aB Y
def yW(L:Alike G P P')(c:Array Ug)(t:Ug){vs e:Array U}(h:bg ρ vs e):aq P P' ay ρ (Builtin.unsafeString_ c t vs) (Builtin.unsafeString_ c t e):=by
 unfold Builtin.unsafeString_;rcases h.two with⟨n,p,o,q,rfl,rfl,b,k⟩|⟨g,i⟩
 ·cases b using ay.ind with
  |cZ=>
   refine(oE k).bindM (λC A B d a=>?_);cases a;cases c[0]? with
   |none=>exact aq.stuck
   |some m=>
    dsimp only
    split
    ·exact uI L _ (by simp) (by simp) (by simp)
    ·split
     ·exact fH
     ·split
      ·exact .aB (.string _)
      ·exact eE L.S _ (by simp) (by simp) (by simp)
  |ptr b=>
   refine(oE k).bindM (λC A B d a=>?_);cases a;cases c[0]? with
   |none=>exact aq.stuck
   |some m=>
    dsimp only
    split
    ·exact uI L _ (by simp) (by simp) (by simp)
    ·split
     ·exact fH
     ·split
      ·exact .aB (.string _)
      ·refine(M9 L m).bindM (λI v D l a=>?_);cases a;refine(Ap L v _ (b.mono (d.trans l))).bindM (λJ r u w a=>?_);cases a;have j:=b.mono (d.trans (l.trans w))
       split
       ·refine(vL _ _ j).bindM (λK s H x a=>?_);cases a;exact .freeze (j.mono x) (.pure (.string _))
       ·exact aq.dz
  |_=>exact aq.stuck
 ·obtain⟨y⟩:=vs;obtain⟨z⟩:=e;have f:=h.1;simp only[List.size_toArray] at f g i;rcases y with _|⟨n,_|⟨p,_|⟨r,E⟩⟩⟩<;>rcases z with _|⟨o,_|⟨q,_|⟨u,F⟩⟩⟩<;>first|exact aq.stuck|(exfalso;simp at f;done)|(exfalso;simp at g;done)|(exfalso;simp at i;done)
def cJ{s s':Wu U}(h:aq P P' ay ρ s s'):aq P P' (iF P) ρ (do pure (.value (<-s))) (do pure (.value (<-s'))):=h.bindM (λ_ _ _ _ h=>.aB (.value h))
def yV{s s':Wu Unit}(h:aq P P' (iW (α:=Unit)) ρ s s'):aq P P' (iF P) ρ (do s;pure .skip) (do s';pure .skip):=h.bindM (λ_ _ _ _ _=>.aB .skip)
def J4(L:Alike G P P')(b:Builtin)(a:Array Ug)(t:Ug)(cs:Array Bool)(c:ye P b a=Z){vs d:Array U}(h:bg ρ vs d):aq P P' (iF P) ρ (builtin b a t cs vs) (builtin b a t cs d):=by
 unfold builtin;cases b<;>first
  |(simp[ye] at c;done)
  |exact cJ (Ry L a t h)
  |exact cJ (SE L a t h)
  |exact cJ (yW L a t h)
  |exact .aB .recover
  |(refine cJ (M7 L a t (λi f g e=>?_) h);simp only[ye,f,e] at c;cases c)
def Gk(L:Alike G P P')(f:V6)(d:G.b f=Z){vs e:Array U}(h:bg ρ vs e):aq P P' (iF P) ρ (callFunc f vs) (callFunc f e):=by
 unfold callFunc;obtain⟨j,b,g,i⟩:=L.QV f d;refine .asks ?_;have a:=L.Q8 f;rw[b] at a;cases c:P'.funcs[f]? with
 |none=>rw[c] at a;simp at a
 |some k=>
  rw[c] at a;simp only[V2,U8,Prod.mk.injEq] at a;rw[b];dsimp only;rw[a.1,i,a.2,g];exact .aB (.enter f d h)
def El(L:Alike G P P'){t b:Target}(j:lF P ρ t b){vs c:Array U}(h:bg ρ vs c):aq P P' (iF P) ρ (invoke t vs) (invoke b c):=by
 unfold invoke;cases j using lF.ind with
 |nil=>exact eE L.S _ (by simp) (by simp) (by simp)
 |builtin d k t e g=>exact J4 L d k t e g h
 |fn a i=>
  cases a using nE.ind with
  |func f a=>exact Gk L f a (h.append i)
def yf (G:mi)(P:Ue)(c:Call):Bool:=
 c.args.toList.all (dw G)&&match c.callee with
  | .builtin a=>ye P a c.argTypes
  | .value f=>dw G f
  | .invoke _ _=>T5
def Hg{e e':U6->U}(b:∀x,dw G x=Z->ay ρ (e x) (e' x))(a:Array U6)(h:a.toList.all (dw G)=Z):bg ρ (a.map e) (a.map e'):=by
 refine⟨by simp,λf c d=>?_⟩;simp only[Array.getElem_map];exact b _ (Uy.1 h _ (by simp))
def A6{e e':U6->U}(i:∀x,dw G x=Z->ay ρ (e x) (e' x))(c:Call)(t:Ug)(h:yf G P c=Z):aq P P' (xB P) ρ (X6 e c t) (X6 e' c t):=by
 unfold X6;unfold yf at h;rw[Uv] at h;have g:=Hg i c.args h.1;have a:=h.2;cases d:c.callee with
 |builtin j=>
  rw[d] at a;exact .aB ⟨.builtin j _ t _ a,g⟩
 |value f=>
  rw[d] at a;have b:=i f a;dsimp only;unfold XN;generalize e f=x at b;generalize e' f=p at b;cases b using ay.ind with
  |func b k a l m=>exact .aB ⟨.fn b ⟨l,m⟩,bg.append ⟨k,a⟩ g⟩
  |nilFunc=>exact .aB ⟨.nil,g⟩
  |_=>exact aq.stuck
 |invoke o n=>rw[d] at a;cases a
end
end
section
variable {G:mi}
def yy (P:Ue)(t:Ug):Bool:=match P.underlying t with|some (.int _)=>Z|_=>T5
def Ik (P:Ue)(t:Ug):Bool:=match P.underlying t with|some (.map a _)=>plainKey P 10000 a|_=>Z
def fO (G:mi)(P:Ue):Op->Bool
 | .move a| .assign a| .box _ a| .load _ a| .nilCheck a| .unOp _ _ a| .makeInterface _ a| .fieldAddr _ a _| .field _ a _| .extract a _| .panic a=>dw G a
 | .pick c b h=>dw G c&&dw G b&&dw G h
 | .alloc _=>Z
 | .build _ g| .buildSlice _ _ g=>g.toList.all λo=>dw G o.2
 | .store _ b v| .binOp _ _ b v _| .makeSlice _ b v| .indexAddr _ b v| .index _ b v=>dw G b&&dw G v
 | .convert s j a=>dw G a&&yy P s&&yy P j
 | .makeFunc k first i=>(match k with| .func f=>G.b f|_=>T5)&&first.toList.all (dw G)&&i.toList.all (dw G)
 | .makeMap _ p=>p.toList.all (dw G)
 | .slice _ a n l m=>dw G a&&n.toList.all (dw G)&&l.toList.all (dw G)&&m.toList.all (dw G)
 | .lookup d b v _=>Ik P d&&dw G b&&dw G v
 | .mapUpdate d m e v| .insert d m e v=>Ik P d&&dw G m&&dw G e&&dw G v
 | .call c| .defer c=>yf G P c
 |_=>T5
section
variable {P P':Ue}{ρ:aU G}
def J5(L:Alike G P P')(s d:Ug){v f:U}(b:yy P s=Z)(a:yy P d=Z)(h:ay ρ v f):aq P P' ay ρ (convert s d v) (convert s d f):=by
 unfold convert;refine(aV L.S s).bindM (λn g l j c=>?_);obtain⟨rfl,c⟩:=c;refine(aV L.S d).bindM (λo i m k e=>?_);obtain⟨rfl,e⟩:=e;unfold yy at b a;rw[c] at b;rw[e] at a;cases g<;>first|(simp at b;done)|skip
 cases i<;>first|(simp at a;done)|skip
 cases h using ay.ind<;>first|exact .aB (.int _ _)|exact aq.dz
def qK{e e':U6->U}(a:∀x,dw G x=Z->ay ρ (e x) (e' x))(o:Option U6)(h:o.toList.all (dw G)=Z):ek ρ (o.map e) (o.map e'):=by
 cases o with
 |none=>exact .none
 |some x=>exact .some (a x (by simpa using h))
def A1{e e':U6->U}(a:∀x,dw G x=Z->ay ρ (e x) (e' x))(ps:Array (Nat×U6))(h:(ps.toList.all λp=>dw G p.2)=Z):hU ρ (ps.map fun(i,x)=>(i,e x)).toList (ps.map fun(i,x)=>(i,e' x)).toList:=by
 rw[Array.toList_map,Array.toList_map];generalize ps.toList=c at h
 induction c with
 |nil=>exact .nil
 |cons p d b=>
  simp only[List.all_cons,Uv] at h;exact .cons p.1 (a _ h.1) (b h.2)
def yA{t:Ug}(h:Ik P t=Z):∀a b,P.underlying t=I (.map a b)->plainKey P 10000 a=Z:=by
 intro a b c;unfold Ik at h;rw[c] at h;exact h
def Rz(L:Alike G P P')(o:Vu){e e':U6->U}(a:fO G P o.op=Z)(b:∀x,dw G x=Z->ay ρ (e x) (e' x))(I:∀x,o.op= .panic x->(∃t v,e x= .iface t v)\/e x=Vk):aq P P' (iF P) ρ (UH e o) (UH e' o):=by
 unfold UH;cases c:o.op with
 |move x=>rw[c] at a;exact .aB (.value (b x a))
 |assign x=>rw[c] at a;exact .aB (.value (b x a))
 |pick i g h=>
  rw[c] at a;simp only[fO,Uv] at a;refine(M8 (b i a.1.1)).bindM (λA x q j H=>?_);cases H;cases x
  ·exact .aB (.value ((b h a.2).mono j))
  ·exact .aB (.value ((b g a.1.2).mono j))
 |alloc t=>exact cJ (PG L t)
 |box t x=>rw[c] at a;exact cJ (SD t (b x a))
 |build t z=>rw[c] at a;exact cJ (PJ L t (A1 b z a))
 |buildSlice t K z=>rw[c] at a;exact cJ (Cm L t K (A1 b z a))
 |load t x=>rw[c] at a;exact cJ (Nc L t (b x a))
 |store t g v=>
  rw[c] at a;simp only[fO,Uv] at a;exact yV (Ke L t (b g a.1) (b v a.2))
 |nilCheck x=>
  rw[c] at a;have d:=b x a;dsimp only;generalize e x=v at d;generalize e' x=C at d;have B:=d;cases d using ay.ind with
  |cZ=>exact eE L.S _ (by simp) (by simp) (by simp)
  |nilIface=>exact eE L.S _ (by simp) (by simp) (by simp)
  |nilFunc=>exact eE L.S _ (by simp) (by simp) (by simp)
  |func a Q R S T=>
   cases a using nE.ind with
   |func f O=>exact .aB (.value B)
  |_=>exact .aB (.value B)
 |binOp p t x q V=>
  rw[c] at a;simp only[fO,Uv] at a;exact cJ ((J6 L p t x q (b x a.1) (b q a.2)).bindM (λA _ _ j _=>PI L p t ((b x a.1).mono j) ((b q a.2).mono j)))
 |unOp p t x=>rw[c] at a;exact cJ (PS p (b x a))
 |convert s r x=>
  rw[c] at a;simp only[fO,Uv] at a;exact cJ (J5 L s r a.1.2 a.2 (b x a.1.1))
 |makeInterface t x=>rw[c] at a;exact cJ (wN L t (b x a))
 |makeFunc F first D=>
  rw[c] at a;simp only[fO,Uv] at a;have u:=Hg b first a.1.2
  have w:=Hg b D a.2;cases F with
  |func f=>exact cJ (.aB (.func (.func f a.1.1) u.1 u.2 w.1 w.2))
  |_=>exact absurd a.1.1 (by simp)
 |makeMap t N=>rw[c] at a;exact cJ (Kb L t (qK b N a))
 |makeSlice t g h=>
  rw[c] at a;simp only[fO,Uv] at a;exact cJ (Em L t (b g a.1) (b h a.2))
 |slice t x J d m=>
  rw[c] at a;simp only[fO,Uv] at a;exact cJ (Kc L t (b x a.1.1.1) (qK b J a.1.1.2) (qK b d a.1.2) (qK b m a.2))
 |fieldAddr t x l=>rw[c] at a;exact cJ (J8 L t (b x a) l)
 |field t x l=>rw[c] at a;exact cJ (PK L t (b x a) l)
 |indexAddr t g h=>
  rw[c] at a;simp only[fO,Uv] at a;exact cJ (J9 L t (b g a.1) (b h a.2))
 |index t g h=>
  rw[c] at a;simp only[fO,Uv] at a;exact cJ (PN L t (b g a.1) (b h a.2))
 |lookup t g h M=>
  rw[c] at a;simp only[fO,Uv] at a;exact cJ (Nd L t M (yA a.1.1) (b g a.1.2) (b h a.2))
 |mapUpdate t m y v=>
  rw[c] at a;simp only[fO,Uv] at a;exact yV (vN L t (yA a.1.1.1) (b m a.1.1.2) (b y a.1.2) (b v a.2))
 |insert t m y v=>
  rw[c] at a;simp only[fO,Uv] at a;exact yV (vN L t (yA a.1.1.1) (b m a.1.1.2) (b y a.1.2) (b v a.2))
 |extract x l=>rw[c] at a;exact cJ (J7 (b x a) l)
 |call i=>
  rw[c] at a;exact(A6 b i o.type a).bindM (λA r E _ n=>El L n.target n.args)
 |defer i=>
  rw[c] at a;exact(A6 b i o.type a).bindM (λA r E _ n=>.aB (.defer n))
 |panic x=>
  rw[c] at a;have d:=b x a;dsimp only;rcases I x c with⟨t,v,k⟩|k
  ·rw[k] at d ⊢;generalize e' x=C at d;cases d using ay.ind with
   |iface t k=>exact aq.halt (.panic (.iface t k))
  ·rw[k] at d ⊢;generalize e' x=C at d;unfold Vk at d ⊢;cases d using ay.ind with
   |tuple u w=>exact aq.stuck
 |_=>rw[c] at a;simp[fO] at a
end
end
section
variable {G:mi}
def qF:Op->Bool
 | .panic _=>Z
 |_=>T5
def oA (ops:Array Vu)(a b:Nat):Bool:=
 match ops[b]? with
 |some d=>match d.op with
  | .panic g=>match ops[a]? with
   |some c=>(match c.op,c.dst,g with| .makeInterface _ _,I e,.tmp f=>e==f|_,_,_=>T5)&&c.guard.isNone
   |none=>T5
  |_=>Z
 |none=>Z
def kM (ops:Array Vu):List Nat->Bool
 |a::b::c=>oA ops a b&&kM ops (b::c)
 |_=>Z
def Im (ops:Array Vu)(i:Nat):Bool:=match ops[i]? with|some a=> !qF a.op|none=>Z
def mG (G:mi)(P:Ue)(ops:Array Vu)(b:Bool):Bool:=
 (ops.toList.all λa=>fO G P a.op)&&if b then ops.toList.all (λa=> !qF a.op) else kM ops (UK ops.size)&&Im ops 0
def cC (G:mi)(P:Ue):WU->Bool
 | .region _ e d=>mG G P e d
 | .seq a b=>cC G P a&&cC G P b
 | .cond c a b=>dw G c&&cC G P a&&cC G P b
 | .block _ a| .loop a| .scope a=>cC G P a
 | .skip| .exit _| .label _| .ret=>Z
 | .rangeFunc _ _ _ _| .goto _| .refuse _=>T5
def bW (G:mi)(P:Ue)(h:WM):Prop:=∀b:WM->Prop,(∀(a:WU) (c:cC G P a=Z),b (.code a))->(∀(f:Nat),b (.inBlock f))->(∀(a:WU) (c:cC G P a=Z),b (.inLoop a))->(∀(a:WU) (c:cC G P a=Z),b (.inScope a))->(∀(d:Array Vu) (e:List Nat) (c:(d.toList.all λg=>fO G P g.op)=Z) (i:kM d e=Z),b (.inRegion d e))->b h
def bW.code{G:mi}{P:Ue}(c:WU)(h:cC G P c=Z):bW G P (.code c):=λb a d e f g=>a c h
def bW.inBlock{G:mi}{P:Ue}(i:Nat):bW G P (.inBlock i):=λb c a d e f=>a i
def bW.inLoop{G:mi}{P:Ue}(c:WU)(h:cC G P c=Z):bW G P (.inLoop c):=λb d e a f g=>a c h
def bW.inScope{G:mi}{P:Ue}(c:WU)(h:cC G P c=Z):bW G P (.inScope c):=λb d e f a g=>a c h
def bW.inRegion{G:mi}{P:Ue}(ops:Array Vu)(todo:List Nat)(h:(ops.toList.all λo=>fO G P o.op)=Z)(hc:kM ops todo=Z):bW G P (.inRegion ops todo):=λb c d e f a=>a ops todo h hc
def bW.ind{G:mi}{P:Ue}{a:∀(b:WM),bW G P b->Prop}(code:∀(c:WU) (h:cC G P c=true),a _ (bW.code c h))(inBlock:∀(i:Nat),a _ (bW.inBlock i))(inLoop:∀(c:WU) (h:cC G P c=true),a _ (bW.inLoop c h))(inScope:∀(c:WU) (h:cC G P c=true),a _ (bW.inScope c h))(inRegion:∀(ops:Array Vu) (todo:List Nat) (h:(ops.toList.all λo=>fO G P o.op)=true) (hc:kM ops todo=true),a _ (bW.inRegion ops todo h hc)){b:WM}(h:bW G P b):a b h:=(h (λb=>bW G P b/\∀h,a b h) (λc h=>⟨bW.code c h,λ_=>code c h⟩) (λi=>⟨bW.inBlock i,λ_=>inBlock i⟩) (λc h=>⟨bW.inLoop c h,λ_=>inLoop c h⟩) (λc h=>⟨bW.inScope c h,λ_=>inScope c h⟩) (λops todo h hc=>⟨bW.inRegion ops todo h hc,λ_=>inRegion ops todo h hc⟩)).2 h
def Db (G:mi)(P:Ue)(l:List WM):Prop:=∀a∈l,bW G P a/\∀b c,a≠.inRegion b c
def rU (G:mi)(P:Ue):List WM->Prop
 | []=>True
 |i::a=>bW G P i/\Db G P a
structure IX(ρ:aU G)(p p':Vr):Prop where
 v:ay ρ p.v p'.v
 r:p.recovered=p'.recovered
 g:p.goexit=p'.goexit
def iS (ρ:aU G)(f:List Vr)(g:List Vr):Prop:=∀a:List Vr->List Vr->Prop,(a [] [])->(∀{d e:Vr} {b c:List Vr} (h:IX ρ d e) (i:a b c),a (d::b) (e::c))->a f g
def iS.nil{ρ:aU G}:iS ρ [] []:=λb a c=>a
def iS.cons{ρ:aU G}{p c:Vr}{l b:List Vr}(h:IX ρ p c)(f:iS ρ l b):iS ρ (p::l) (c::b):=λd e a=>a h (f d e a)
def iS.ind{ρ:aU G}{d:∀(a:List Vr) (b:List Vr),iS ρ a b->Prop}(nil:d _ _ (iS.nil))(cons:∀{p f:Vr} {l e:List Vr} (h:IX ρ p f) (c:iS ρ l e),(d _ _ c)->d _ _ (iS.cons h c)){a:List Vr}{b:List Vr}(h:iS ρ a b):d a b h:=(h (λa b=>iS ρ a b/\∀h,d a b h) (⟨iS.nil,λ_=>nil⟩) (λh c=>⟨iS.cons h c.1,λ_=>cons h c.1 (c.2 _)⟩)).2 h
def gw (ρ:aU G)(d:FrameMode)(e:FrameMode):Prop:=∀a:FrameMode->FrameMode->Prop,(a .run .run)->(a .returning .returning)->(∀{b c:List Vr} (f:iS ρ b c),a (.panicking b) (.panicking c))->a d e
def gw.run{ρ:aU G}:gw ρ .run .run:=λb a c d=>a
def gw.returning{ρ:aU G}:gw ρ .returning .returning:=λb c a d=>a
def gw.panicking{ρ:aU G}{c a:List Vr}(h:iS ρ c a):gw ρ (.panicking c) (.panicking a):=λd e f b=>b h
def gw.ind{ρ:aU G}{d:∀(a:FrameMode) (b:FrameMode),gw ρ a b->Prop}(run:d _ _ (gw.run))(returning:d _ _ (gw.returning))(panicking:∀{c e:List Vr} (h:iS ρ c e),d _ _ (gw.panicking h)){a:FrameMode}{b:FrameMode}(h:gw ρ a b):d a b h:=(h (λa b=>gw ρ a b/\∀h,d a b h) (⟨gw.run,λ_=>run⟩) (⟨gw.returning,λ_=>returning⟩) (λh=>⟨gw.panicking h,λ_=>panicking h⟩)).2 h
def iY (P:Ue)(ρ:aU G)(f:List Wj)(g:List Wj):Prop:=∀a:List Wj->List Wj->Prop,(a [] [])->(∀{b c:Wj} {d e:List Wj} (h:xB P ρ b c) (i:a d e),a (b::d) (c::e))->a f g
def iY.nil{P:Ue}{ρ:aU G}:iY P ρ [] []:=λb a c=>a
def iY.cons{P:Ue}{ρ:aU G}{d b:Wj}{l c:List Wj}(h:xB P ρ d b)(g:iY P ρ l c):iY P ρ (d::l) (b::c):=λe f a=>a h (g e f a)
def iY.ind{P:Ue}{ρ:aU G}{e:∀(a:List Wj) (b:List Wj),iY P ρ a b->Prop}(nil:e _ _ (iY.nil))(cons:∀{d f:Wj} {l g:List Wj} (h:xB P ρ d f) (c:iY P ρ l g),(e _ _ c)->e _ _ (iY.cons h c)){a:List Wj}{b:List Wj}(h:iY P ρ a b):e a b h:=(h (λa b=>iY P ρ a b/\∀h,e a b h) (⟨iY.nil,λ_=>nil⟩) (λh c=>⟨iY.cons h c.1,λ_=>cons h c.1 (c.2 _)⟩)).2 h
structure cL(P:Ue)(ρ:aU G)(fr fr':Us):Prop where
 fn:fr'.fn=fr.fn
 may:G.b fr.fn=Z
 tmps:bg ρ fr.tmps fr'.tmps
 todo:fr'.todo=fr.todo
 ok:rU G P fr.todo
 defers:iY P ρ fr.defers fr'.defers
 mode:gw ρ fr.mode fr'.mode
 kind:fr'.kind=fr.kind
 kinds:fr.kind= .normal\/fr.kind= .deferred
 round:fr.roundOf=K
 round':fr'.roundOf=K
def eZ (fr:Us):Prop:=fr.mode= .run->∀d b f e c a,fr.todo= .inRegion d (b::f)::e->d[b]? =I c->c.op= .panic a->(∃g v,fr.eval a= .iface g v)\/fr.eval a=Vk
def pG (fr:Us):Prop:=fr.mode= .run->∃c a f e b d,fr.todo= .inRegion c (a::f)::e/\c[a]? =I b/\b.op= .call d
def dL (P:Ue)(ρ:aU G)(e:List Us)(g:List Us):Prop:=∀a:List Us->List Us->Prop,(a [] [])->(∀{f b:Us} {c d:List Us} (h:cL P ρ f b) (j:pG f) (i:a c d),a (f::c) (b::d))->a e g
def dL.nil{P:Ue}{ρ:aU G}:dL P ρ [] []:=λb a c=>a
def dL.cons{P:Ue}{ρ:aU G}{f f':Us}{l b:List Us}(h:cL P ρ f f')(g:pG f)(e:dL P ρ l b):dL P ρ (f::l) (f'::b):=λc d a=>a h g (e c d a)
def dL.ind{P:Ue}{ρ:aU G}{d:∀(a:List Us) (b:List Us),dL P ρ a b->Prop}(nil:d _ _ (dL.nil))(cons:∀{f f':Us} {l g:List Us} (h:cL P ρ f f') (e:pG f) (c:dL P ρ l g),(d _ _ c)->d _ _ (dL.cons h e c)){a:List Us}{b:List Us}(h:dL P ρ a b):d a b h:=(h (λa b=>dL P ρ a b/\∀h,d a b h) (⟨dL.nil,λ_=>nil⟩) (λh e c=>⟨dL.cons h e c.1,λ_=>cons h e c.1 (c.2 _)⟩)).2 h
def cX:Us->List Us->Prop
 |fr,[]=>fr.kind= .normal
 |_,f::a=>cX f a
theorem cX.of{fr b:Us}(h:b.kind=fr.kind):∀{l:List Us},cX fr l->cX b l
 | [],a=>h.trans a
 |_::_,a=>a
section
variable {P:Ue}{ρ σ:aU G}
def lF.mono(a:ρ.le σ){t b:Target}(h:lF P ρ t b):lF P σ t b:=by
 cases h using lF.ind with
 |fn e h=>exact .fn (e.mono a) (h.mono a)
 |nil=>exact .nil
 |builtin c f t d h=>exact .builtin c f t d h
def xB.mono(a:ρ.le σ){t b:Wj}(h:xB P ρ t b):xB P σ t b:=⟨h.target.mono a,h.args.mono a⟩
def iY.mono(b:ρ.le σ){t a:List Wj}(h:iY P ρ t a):iY P σ t a:=by
 induction h using iY.ind with
 |nil=>exact .nil
 |cons h _ c=>exact .cons (h.mono b) c
def IX.mono(b:ρ.le σ){t a:Vr}(h:IX ρ t a):IX σ t a:=⟨h.v.mono b,h.r,h.g⟩
def iS.mono(b:ρ.le σ){t a:List Vr}(h:iS ρ t a):iS σ t a:=by
 induction h using iS.ind with
 |nil=>exact .nil
 |cons h _ c=>exact .cons (h.mono b) c
def iS.append{a a' b b':List Vr}(h:iS ρ a a')(c:iS ρ b b'):iS ρ (a++b) (a'++b'):=by
 induction h using iS.ind with
 |nil=>exact c
 |cons h _ d=>exact .cons h d
def gw.mono(b:ρ.le σ){t a:FrameMode}(h:gw ρ t a):gw σ t a:=by
 cases h using gw.ind with
 |run=>exact .run
 |returning=>exact .returning
 |panicking h=>exact .panicking (h.mono b)
def cL.mono(a:ρ.le σ){f f':Us}(h:cL P ρ f f'):cL P σ f f':=
 ⟨h.fn,h.may,h.tmps.mono a,h.todo,h.ok,h.defers.mono a,h.mode.mono a,h.kind,h.kinds,h.round,h.round'⟩
def dL.mono(a:ρ.le σ){f f':List Us}(h:dL P ρ f f'):dL P σ f f':=by
 induction h using dL.ind with
 |nil=>exact .nil
 |cons h b _ c=>exact .cons (h.mono a) b c
def l9:ay ρ Vk Vk:=.tuple Y (λb a=>by simp at a)
def bg.getD{x c:Array U}(h:bg ρ x c)(i:Nat):ay ρ (x.getD i Vk) (c.getD i Vk):=by
 rw[UD,UD];rcases h.get i with⟨a,b⟩|⟨v,e,a,b,d⟩
 ·rw[a,b];exact l9
 ·rw[a,b];exact d
def cL.eval{f f':Us}(h:cL P ρ f f')(x:U6)(a:dw G x=Z):ay ρ (f.eval x) (f'.eval x):=by
 cases x with
 |tmp c=>exact h.tmps.getD c
 |const v=>exact qO 6 v a
 |global d=>cases a
 |func f=>exact .func (.func f a) Y (λb h=>by simp at h) Y (λb h=>by simp at h)
def E9{x c:Array U}(h:bg ρ x c)(ops:Array Vu)(j:Nat):Vj ops x j=Vj ops c j:=by
 unfold Vj;cases(ops[j]?).bind (·.dst) with
 |none=>rfl
 |some e=>
  simp only[XR];rcases h.get e with⟨a,b⟩|⟨v,f,a,b,d⟩
  ·rw[a,b]
  ·rw[a,b];cases d using ay.ind<;>rfl
def Db.todo{l:List WM}(h:Db G P l):rU G P l:=by
 cases l with
 |nil=>trivial
 |cons b l=>exact⟨(h b (by simp)).1,λc a=>h c (by simp[a])⟩
def Db.tail{i:WM}{l:List WM}(h:Db G P (i::l)):Db G P l:=λb a=>h b (by simp[a])
def Db.cons{i:WM}{l:List WM}(b:bW G P i)(c:∀ops t,i≠.inRegion ops t)(h:Db G P l):Db G P (i::l):=λd a=>by
 rcases VM.1 a with rfl|a
 ·exact⟨b,c⟩
 ·exact h d a
theorem BX{id:Nat}:∀{l k:List WM},Db G P l->Yh id l=I k->Db G P k
 | [],k,_,a=>by simp[Yh] at a
 |i::l,k,c,a=>by
  have b:Db G P l:=c.tail;cases i<;>simp only[Yh] at a<;>first
   |exact BX b a
   |(split at a
     ·cases a;exact b
     ·exact BX b a)
def AU{fr:Us}(h:∀ops i rest k,fr.todo≠.inRegion ops (i::rest)::k):eZ fr:=λ_ ops i rest k b c a=>absurd a (h ops i rest k)
def Rb{fr:Us}{k:List WM}(h:Db G P k):eZ {fr with todo:=k}:=AU (λc b d e a=>by
 simp only at a;exact(h (.inRegion c (b::d)) (by rw[a];simp)).2 _ _ Y)
def iK{fr:Us}(h:fr.mode≠.run):eZ fr:=λa=>absurd a h
def Bw{fr:Us}(h:fr.mode≠.run):pG fr:=λa=>absurd a h
end
end
section
variable {G:mi}{bu:Nat}
def cF (P:Ue)(gX fT:List Us)(ρ:aU G)(t:Nat)(w':F)(q:Yt)(r:Yt):Prop:=∀d:Yt->Yt->Prop,(∀(o:Outcome) (p:F) (b:Array Vm) (f:Yt),d (.ended o p b) f)->(∀{n:UL} {a:F} {b:Array Vm} {f:Yt} (s:t<a.drawn),d (.go n a b) f)->(∀{c:aU G} {h:Nat} {e j:Us} {aE k:List Us} {a g:F} {b i:Array Vm} (y:cL P c e j) (z:eZ e) (A:dL P c aE k) (C:eJ c h a g) (x:Fr ρ c w' g) (v:∀l∈i,kq c l) (u:cX e aE) (B:a.drawn+h=t),d (.go (Uf e (aE++gX)) a b) (.go (Uf j (k++fT)) g i))->d q r
def cF.lost{P:Ue}{gX fT:List Us}{ρ:aU G}{t:Nat}{w':F}(o:Outcome)(a:F)(es:Array Vm)(r:Yt):cF P gX fT ρ t w' (.ended o a es) r:=λc b d e=>b o a es r
def cF.over{P:Ue}{gX fT:List Us}{ρ:aU G}{t:Nat}{w':F}{g:UL}{a:F}{es:Array Vm}{r:Yt}(h:t<a.drawn):cF P gX fT ρ t w' (.go g a es) r:=λc d b e=>b h
def cF.go{P:Ue}{gX fT:List Us}{ρ:aU G}{t:Nat}{w':F}{σ:aU G}{b1:Nat}{fr fr':Us}{aE tops':List Us}{a w1':F}{es b:Array Vm}(h:cL P σ fr fr')(i:eZ fr)(j:dL P σ aE tops')(l:eJ σ b1 a w1')(g:Fr ρ σ w' w1')(f:∀e∈b,kq σ e)(d:cX fr aE)(k:a.drawn+b1=t):cF P gX fT ρ t w' (.go (Uf fr (aE++gX)) a es) (.go (Uf fr' (tops'++fT)) w1' b):=λn o p c=>c h i j l g f d k
def cF.ind{P:Ue}{gX fT:List Us}{ρ:aU G}{t:Nat}{w':F}{d:∀(a:Yt) (b:Yt),cF P gX fT ρ t w' a b->Prop}(lost:∀(o:Outcome) (f:F) (es:Array Vm) (r:Yt),d (.ended o f es) r (cF.lost o f es r))(over:∀{g:UL} {c:F} {es:Array Vm} {r:Yt} (h:t<c.drawn),d (.go g c es) r (cF.over h))(go:∀{σ:aU G} {b1:Nat} {fr fr':Us} {aE tops':List Us} {c w1':F} {es u:Array Vm} (l:cL P σ fr fr') (n:eZ fr) (p:dL P σ aE tops') (s:eJ σ b1 c w1') (k:Fr ρ σ w' w1') (j:∀e∈u,kq σ e) (i:cX fr aE) (q:c.drawn+b1=t),d (.go (Uf fr (aE++gX)) c es) (.go (Uf fr' (tops'++fT)) w1' u) (cF.go l n p s k j i q)){a:Yt}{b:Yt}(h:cF P gX fT ρ t w' a b):d a b h:=(h (λa b=>cF P gX fT ρ t w' a b/\∀h,d a b h) (λo f es r=>⟨cF.lost o f es r,λ_=>lost o f es r⟩) (λh=>⟨cF.over h,λ_=>over h⟩) (λl n p s k j i q=>⟨cF.go l n p s k j i q,λ_=>go l n p s k j i q⟩)).2 h
def nC (G:mi)(P P':Ue):Prop:=∀f,G.b f=Z->∃a b,P.funcs[f]? =I a/\P'.funcs[f]? =I a/\a.body=I b/\cC G P b=Z
section
variable {P P':Ue}{ρ:aU G}{gX fT:List Us}{w w':F}{m m':Bool}
def jg:∀e∈(#[]:Array Vm),kq ρ e:=λe a=>by simp at a
def Lx{ops:Array Vu}{k:List WM}(i:Db G P k)(h:mG G P ops T5=Z)(fr:Us):rU G P (.inRegion ops (UK ops.size)::k)/\eZ {fr with todo:=.inRegion ops (UK ops.size)::k}:=by
 unfold mG at h;simp only[UA,if_false,Uv] at h;refine⟨⟨.inRegion _ _ h.1 h.2.1,i⟩,λ_ p j q l o r c f g=>?_⟩;simp only[Xj,XK] at c;obtain⟨⟨rfl,a⟩,-⟩:=c;have e:j=0:=by
  rw[List.range_eq_range'] at a;cases d:ops.size with
  |zero=>rw[d] at a;simp at a
  |succ n=>rw[d,List.range'_succ] at a;simp at a;omega
 have b:=h.2.2;unfold Im at b;rw[<-e,f] at b;simp only[g,qF] at b;cases b
def OL{ops:Array Vu}{k:List WM}(o:Db G P k)(h:mG G P ops Z=Z)(l:List Nat)(fr:Us):rU G P (.inRegion ops l::k)/\eZ {fr with todo:=.inRegion ops l::k}:=by
 unfold mG at h;simp only[if_true,Uv] at h;have f:∀(b:Nat) (a:Vu),ops[b]? =I a->qF a.op=T5:=λb a c=>by
  have:=Uy.1 h.2 a (by
   have:=Ua.1 c;obtain⟨s,rfl⟩:=this;simp)
  simpa using this
 refine⟨⟨.inRegion _ _ h.1 ?_,o⟩,λ_ u b v t a x e i j=>?_⟩
 ·have:∀l,kM ops l=Z:=by
   intro l
   induction l with
   |nil=>rfl
   |cons q g p=>
    cases g with
    |nil=>rfl
    |cons d g=>
     simp only[kM,Uv];refine⟨?_,p⟩;unfold oA;cases n:ops[d]? with
     |none=>rfl
     |some a=>
      have:=f d a n;dsimp only;cases c:a.op<;>first|rfl|(rw[c] at this;simp[qF] at this)
  exact this l
 ·simp only[Xj,XK] at e;obtain⟨⟨rfl,r⟩,-⟩:=e;have:=f b a i;rw[j] at this;simp[qF] at this
def cL.NW{fr fr':Us}(h:cL P ρ fr fr'){k:List WM}(a:rU G P k):cL P ρ {fr with todo:=k} {fr' with todo:=k}:=
 ⟨h.fn,h.may,h.tmps,rfl,a,h.defers,h.mode,h.kind,h.kinds,h.round,h.round'⟩
def IE{fr fr':Us}{aE tops':List Us}(b:cL P ρ fr fr')(e:dL P ρ aE tops')(f:eJ ρ bu w w'){k:List WM}(d:rU G P k)(c:eZ {fr with todo:=k})(a:cX fr aE):
 cF P gX fT ρ (w.drawn+bu) w' (.go (Uf {fr with todo:=k} (aE++gX)) w) (.go (Uf {fr' with todo:=k} (tops'++fT)) w'):=
 .go (b.NW d) c e f (Fr.refl _ _) jg (cX.of (by rfl) a) Y
def RJ{fr fr':Us}{aE tops':List Us}(c:cL P ρ fr fr')(d:dL P ρ aE tops')(e:eJ ρ bu w w'){k:List WM}(a:Db G P k)(b:cX fr aE):
 cF P gX fT ρ (w.drawn+bu) w' (.go (Uf {fr with todo:=k} (aE++gX)) w) (.go (Uf {fr' with todo:=k} (tops'++fT)) w'):=IE c d e a.todo (Rb a) b
def Ey{fr fr':Us}(b:cL P ρ fr fr')(c:fr.mode= .run):fr'.mode= .run:=by
 have:=b.mode;rw[c] at this;cases a:fr'.mode with
 |run=>rfl
 |returning=>rw[a] at this;cases this using gw.ind
 |panicking d=>rw[a] at this;cases this using gw.ind
def Ma(R:P'.follows .mixedOrders=P.follows .mixedOrders){fr fr':Us}{aE tops':List Us}(c:cL P ρ fr fr')(B:dL P ρ aE tops')(p:eJ ρ bu w w')(d:fr.mode= .run)(S:∀ops i r k,fr.todo≠.inRegion ops (i::r)::k)(z:cX fr aE):
 cF P gX fT ρ (w.drawn+bu) w' (UM P m (Uf fr (aE++gX)) w) (UM P' m' (Uf fr' (tops'++fT)) w'):=by
 have h:=Ey c d;have g:=c.todo;have F:=c.ok;have D:=c.round;have H:=c.round';have I:cF P gX fT ρ (w.drawn+bu) w' (.go (Uf {fr with mode:=.returning} (aE++gX)) w) (.go (Uf {fr' with mode:=.returning} (tops'++fT)) w'):=
  .go ⟨c.fn,c.may,c.tmps,c.todo,c.ok,c.defers,.returning,c.kind,c.kinds,c.round,c.round'⟩ (iK (by simp)) B p (Fr.refl _ _) jg (cX.of (by rfl) z) Y
 cases b:fr.todo with
 |nil=>
  rw[b] at g;have j:UM P m (Uf fr (aE++gX)) w= .go (Uf {fr with mode:=.returning} (aE++gX)) w:=by simp[Uf,UM,UI,d,b,D]
  have o:UM P' m' (Uf fr' (tops'++fT)) w'= .go (Uf {fr' with mode:=.returning} (tops'++fT)) w':=by simp[Uf,UM,UI,h,g,H]
  rw[j,o];exact I
 |cons X k=>
  rw[b] at g F;obtain⟨O,l⟩:=F;have move:∀(t:List WM),Db G P t->UM P m (Uf fr (aE++gX)) w= .go (Uf {fr with todo:=t} (aE++gX)) w->UM P' m' (Uf fr' (tops'++fT)) w'= .go (Uf {fr' with todo:=t} (tops'++fT)) w'->cF P gX fT ρ (w.drawn+bu) w' (UM P m (Uf fr (aE++gX)) w) (UM P' m' (Uf fr' (tops'++fT)) w'):=λt s j o=>by
   rw[j,o];exact RJ c B p s z
  cases O using bW.ind with
  |inBlock i=>exact move k l (by simp[Uf,UM,UI,d,b]) (by simp[Uf,UM,UI,h,g])
  |inLoop n a=>exact move (.code n :: .inLoop n::k) (.cons (.code n a) (by simp) (.cons (.inLoop n a) (by simp) l)) (by simp[Uf,UM,UI,d,b]) (by simp[Uf,UM,UI,h,g])
  |inScope n a=>exact move k l (by simp[Uf,UM,UI,d,b]) (by simp[Uf,UM,UI,h,g])
  |inRegion ops todo a V=>
   cases todo with
   |nil=>exact move k l (by simp[Uf,UM,UI,d,b]) (by simp[Uf,UM,UI,h,g])
   |cons i r=>exact absurd b (S ops i r k)
  |code n a=>
   cases n with
   |skip=>exact move k l (by simp[Uf,UM,UI,d,b]) (by simp[Uf,UM,UI,h,g])
   |label T=>exact move k l (by simp[Uf,UM,UI,d,b]) (by simp[Uf,UM,UI,h,g])
   |seq e q=>
    simp only[cC,Uv] at a;exact move (.code e :: .code q::k) (.cons (.code e a.1) (by simp) (.cons (.code q a.2) (by simp) l)) (by simp[Uf,UM,UI,d,b]) (by simp[Uf,UM,UI,h,g])
   |block id e=>
    simp only[cC] at a;exact move (.code e :: .inBlock id::k) (.cons (.code e a) (by simp) (.cons (.inBlock id) (by simp) l)) (by simp[Uf,UM,UI,d,b]) (by simp[Uf,UM,UI,h,g])
   |loop e=>
    simp only[cC] at a;exact move (.code e :: .inLoop e::k) (.cons (.code e a) (by simp) (.cons (.inLoop e a) (by simp) l)) (by simp[Uf,UM,UI,d,b]) (by simp[Uf,UM,UI,h,g])
   |scope e=>
    simp only[cC] at a;exact move (.code e :: .inScope e::k) (.cons (.code e a) (by simp) (.cons (.inScope e a) (by simp) l)) (by simp[Uf,UM,UI,d,b]) (by simp[Uf,UM,UI,h,g])
   |ret=>
    have j:UM P m (Uf fr (aE++gX)) w= .go (Uf {fr with mode:=.returning} (aE++gX)) w:=by simp[Uf,UM,UI,d,b,D]
    have o:UM P' m' (Uf fr' (tops'++fT)) w'= .go (Uf {fr' with mode:=.returning} (tops'++fT)) w':=by simp[Uf,UM,UI,h,g,H]
    rw[j,o];exact I
   |exit id=>
    cases A:Yh id k with
    |some t=>exact move t (BX l A) (by simp[Uf,UM,UI,d,b,A]) (by simp[Uf,UM,UI,h,g,A])
    |none=>
     have j:∃x,UM P m (Uf fr (aE++gX)) w= .ended x w:=by simp[Uf,UM,UI,d,b,A,D]
     obtain⟨x,j⟩:=j;rw[j];exact .lost _ _ _ _
   |cond n e q=>
    simp only[cC,Uv] at a;have u:=c.eval n a.1.1;have Q:∀v,fr.eval n=v->(∀q,v≠.bool q)->∃x,UM P m (Uf fr (aE++gX)) w= .ended x w:=λv L u=>by
     cases v<;>first|exact absurd rfl (u _)|(simp[Uf,UM,UI,d,b,L])
    cases C:fr.eval n with
    |bool E=>
     rw[C] at u;have N:fr'.eval n= .bool E:=by
      cases M:fr'.eval n<;>rw[M] at u<;>cases u using ay.ind;rfl
     refine move (.code (if E then e else q)::k) (.cons (.code _ ?_) (by simp) l) (by simp[Uf,UM,UI,d,b,C]) (by simp[Uf,UM,UI,h,g,N]);cases E
     ·exact a.2
     ·exact a.1.2
    |_=>
     obtain⟨x,j⟩:=Q _ C (by simp);rw[j];exact .lost _ _ _ _
   |region id ops K=>
    simp only[cC] at a;cases K with
    |false=>
     obtain⟨y,s⟩:=Lx l a fr;have j:UM P m (Uf fr (aE++gX)) w= .go (Uf {fr with todo:=.inRegion ops (UK ops.size)::k} (aE++gX)) w:=by simp[Uf,UM,UI,d,b]
     have o:UM P' m' (Uf fr' (tops'++fT)) w'= .go (Uf {fr' with todo:=.inRegion ops (UK ops.size)::k} (tops'++fT)) w':=by simp[Uf,UM,UI,h,g]
     rw[j,o];exact IE c B p y s z
    |true=>
     obtain⟨y,s⟩:=OL l a (XZ (P.follows .mixedOrders) ops (w.tape w.drawn (.order fr.fn id))) fr;have j:UM P m (Uf fr (aE++gX)) w= .go (Uf {fr with todo:=.inRegion ops (XZ (P.follows .mixedOrders) ops (w.tape w.drawn (.order fr.fn id)))::k} (aE++gX)) {w with drawn:=w.drawn+1}:=by
      simp[Uf,UM,UI,d,b,choose,Wt,Question.forced,Question.cut]
     rw[j];cases bu with
     |zero=>exact .over (by simp)
     |succ bu=>
      have J:=p.tape 0 (.order fr.fn id) (by omega);simp only[Nat.add_zero] at J;have o:UM P' m' (Uf fr' (tops'++fT)) w'= .go (Uf {fr' with todo:=.inRegion ops (XZ (P.follows .mixedOrders) ops (w.tape w.drawn (.order fr.fn id)))::k} (tops'++fT)) {w' with drawn:=w'.drawn+1}:=by
       simp[Uf,UM,UI,h,g,choose,Wt,Question.forced,Question.cut,R,c.fn,J]
      rw[o];refine .go (b1:=bu) (c.NW y) s B ⟨p.gl,p.gr,p.at_,λi U W=>?_⟩ ⟨aU.le.refl _,rfl,rfl,rfl,by simp,T6 _,λ_ _ _=>rfl,λ_ _ a=>.inl a,λ_ y s=>absurd s (by simp;omega)⟩ jg (cX.of (by rfl) z) (by show w.drawn+1+bu=_;omega);have:=p.tape (1+i) U (by omega);simpa [Nat.add_assoc] using this
   |rangeFunc f Z e q=>simp[cC] at a
   |goto T=>simp[cC] at a
   |refuse aa=>simp[cC] at a
end
end
section
variable {G:mi}
section
variable {P P':Ue}{ρ:aU G}{gX fT:List Us}{w w':F}{m m':Bool}
def iv{σ:aU G}{fr fr':Us}(h:cL P σ fr fr'){ops:Array Vu}{i:Nat}{rest:List Nat}{k:List WM}(b:fr.todo= .inRegion ops (i::rest)::k){v e:U}(l:ay σ v e):cL P σ (fr.finish v) (fr'.finish e):=by
 have j:=h.todo.trans b;have a:=h.ok;rw[b] at a;have d:rU G P (.inRegion ops rest::k):=by
  refine⟨?_,a.2⟩;cases a.1 using bW.ind with
  |inRegion _ _ g c=>
   refine .inRegion _ _ g ?_;cases rest with
   |nil=>rfl
   |cons n o=>simp only[kM,Uv] at c;exact c.2
 unfold VW;rw[b,j];dsimp only;cases(ops[i]?).bind (·.dst) with
 |none=>exact⟨h.fn,h.may,h.tmps,rfl,d,h.defers,h.mode,h.kind,h.kinds,h.round,h.round'⟩
 |some f=>exact⟨h.fn,h.may,h.tmps.set l f,rfl,d,h.defers,h.mode,h.kind,h.kinds,h.round,h.round'⟩
def iu{fr fr':Us}{σ:aU G}(h:cL P σ fr fr'){ops:Array Vu}{i:Nat}{rest:List Nat}{k:List WM}(l:fr.todo= .inRegion ops (i::rest)::k){o:Vu}(g:ops[i]? =I o)(v:U)(y:∀t x,o.op= .makeInterface t x->o.guard=K->∃t v1,v= .iface t v1):eZ (fr.finish v):=by
 intro _ F C H D E x c q r;have j:=h.ok;rw[l] at j;unfold VW at c ⊢;rw[l] at c ⊢;simp only[Xj,XK] at c;obtain⟨⟨rfl,s⟩,rfl⟩:=c;cases j.1 using bW.ind with
 |inRegion _ _ B d=>
  rw[s] at d;simp only[kM,Uv] at d;have b:=d.1;unfold oA at b;rw[q] at b;dsimp only at b;rw[r] at b;dsimp only at b;rw[g] at b;simp only[Uv] at b;obtain⟨a,u⟩:=b;cases f:o.op with
  |makeInterface t A=>
   rw[f] at a;cases e:o.dst with
   |none=>rw[e] at a;cases x<;>cases a
   |some p=>
    rw[e] at a;cases x with
    |tmp J=>
     simp only[beq_iff_eq] at a;subst a;obtain⟨z,v1,rfl⟩:=y t A f (by simpa using u);simp only[g,XR,e,Frame.eval];by_cases n:p<fr.tmps.size
     ·refine .inl ⟨z,v1,?_⟩;rw[UD,Array.getElem?_setIfInBounds_self_of_lt n];rfl
     ·refine .inr ?_;rw[UD,Vl (by rw[Array.size_setIfInBounds];exact Nat.le_of_not_lt n)];rfl
    |_=>cases a
  |_=>rw[f] at a;cases x<;>cases a
def PV{σ:aU G}{fn:V6}{es:Array Vm}(h:∀e∈es,kq σ e):∀e∈seen P fn es,kq σ e:=λe a=>h e (Conc.mem_seen a)
def uJ{σ:aU G}{fr fr':Us}(h:cL P σ fr fr'){c b:List Vr}(hc:iS σ c b):cL P σ (fr.raise c) (fr'.raise b):=by
 have a:=h.mode;unfold Frame.raise;generalize e:fr.mode=g at a;generalize f:fr'.mode=i at a;cases a using gw.ind with
 |run=>exact⟨h.fn,h.may,h.tmps,h.todo,h.ok,h.defers,.panicking hc,h.kind,h.kinds,h.round,h.round'⟩
 |returning=>exact⟨h.fn,h.may,h.tmps,h.todo,h.ok,h.defers,.panicking hc,h.kind,h.kinds,h.round,h.round'⟩
 |panicking d=>exact⟨h.fn,h.may,h.tmps,h.todo,h.ok,h.defers,.panicking (hc.append d),h.kind,h.kinds,h.round,h.round'⟩
def raise_mode(fr:Us)(c:List Vr):(fr.raise c).mode≠.run:=by
 unfold Frame.raise
 split<;>simp
def us(j:nC G P P'){σ:aU G}{f:V6}(c:G.b f=Z){vs d:Array U}(h:bg σ vs d)(kd:CallKind)(k:kd= .normal\/kd= .deferred):cL P σ (UY P f vs kd) (UY P' f d kd)/\eZ (UY P f vs kd):=by
 obtain⟨n,e,a,b,g,i⟩:=j f c;unfold UY;simp only[a,b,V2,V1,XR,g];refine⟨⟨rfl,c,?_,rfl,⟨.code e i,λp l=>by simp at l⟩,.nil,.run,rfl,k,rfl,rfl⟩,AU (by simp)⟩;rw[h.1];refine h.append ⟨by simp,λo a b=>?_⟩;simp only[Array.getElem_replicate];exact l9
end
end
section
variable {G:mi}{bu:Nat}
section
variable {P P':Ue}{ρ:aU G}{gX fT:List Us}{w w':F}{m m':Bool}
def vR{σ:aU G}{fr fr':Us}{aE tops':List Us}(h:cL P σ fr fr')(y:dL P σ aE tops')(k:cX fr aE):
 (Xp fr (aE++gX)=K/\Xp fr' (tops'++fT)=K)\/∃v e t s,Xp fr (aE++gX)=I (v,t++gX)/\Xp fr' (tops'++fT)=I (e,s++fT)/\ay σ v e/\dL P σ t s/\cX fr t:=by
 rcases h.kinds with d|d
 ·have n:=h.kind.trans d;exact .inl ⟨by unfold Xp;rw[d],by unfold Xp;rw[n]⟩
 ·have n:=h.kind.trans d;cases y using dL.ind with
  |nil=>simp[cX,d] at k
  |cons b N u ihz=>
   rename_i f g r z;have a:=b.mode;unfold Xp;rw[d,n];simp only[Wd];cases j:f.mode with
   |run=>
    rw[j] at a;cases c:g.mode<;>rw[c] at a<;>first|exact .inl ⟨rfl,rfl⟩|cases a using gw.ind
   |returning=>
    rw[j] at a;cases c:g.mode<;>rw[c] at a<;>first|exact .inl ⟨rfl,rfl⟩|cases a using gw.ind
   |panicking J=>
    rw[j] at a;cases c:g.mode with
    |run=>rw[c] at a;cases a using gw.ind
    |returning=>rw[c] at a;cases a using gw.ind
    |panicking L=>
     rw[c] at a;cases a using gw.ind with
     |panicking l=>
      cases l using iS.ind with
      |nil=>exact .inl ⟨rfl,rfl⟩
      |cons x l ihz=>
       rename_i C D A B;obtain⟨v,E,i⟩:=C;obtain⟨e,O,M⟩:=D;obtain⟨o,q,p⟩:=x;simp only at o q p;subst q p;cases E with
       |true=>exact .inl ⟨by cases i<;>rfl,by cases i<;>rfl⟩
       |false=>
        cases i with
        |true=>exact .inl ⟨rfl,rfl⟩
        |false=>
         refine .inr ⟨v,e,{f with mode:=.panicking ({v,recovered:=Z}::A)}::r,{g with mode:=.panicking ({v:=e,recovered:=Z}::B)}::z,rfl,rfl,o,?_,?_⟩
         ·exact .cons ⟨b.fn,b.may,b.tmps,b.todo,b.ok,b.defers,.panicking (.cons ⟨o,rfl,rfl⟩ l),b.kind,b.kinds,b.round,b.round'⟩ (Bw (by simp)) u
         ·cases r with
          |nil=>exact k
          |cons F H=>exact k
def B0{fr:Us}{fr':Us}{σ:aU G}(h:cL P σ fr fr'){ops:Array Vu}{i:Nat}{rest:List Nat}{k:List WM}(e:fr.todo= .inRegion ops (i::rest)::k)(l:ops[i]? =K)(v:U):eZ (fr.finish v):=by
 intro _ r o s p q t b f g;have d:=h.ok;rw[e] at d;unfold VW at b;rw[e] at b;simp only[Xj,XK] at b;obtain⟨⟨rfl,j⟩,rfl⟩:=b;cases d.1 using bW.ind with
 |inRegion _ _ n c=>
  rw[j] at c;simp only[kM,Uv] at c;have a:=c.1;unfold oA at a;rw[f] at a;dsimp only at a;rw[g] at a;dsimp only at a;rw[l] at a;cases a
def gp(fr:Us)(v:U):(fr.finish v).kind=fr.kind:=by
 unfold VW
 split<;>rfl
def so(fr:Us)(c:List Vr):(fr.raise c).kind=fr.kind:=by
 unfold Frame.raise
 split<;>rfl
def Qe{fr:Us}{ops:Array Vu}{i:Nat}{rest:List Nat}{k:List WM}(b:fr.todo= .inRegion ops (i::rest)::k){o:Vu}(a:ops[i]? =I o){c:Call}(hc:o.op= .call c):pG fr:=λ_=>⟨ops,i,rest,k,o,c,b,a,hc⟩
def FY(L:Alike G P P'){e:U6->U}{o:Vu}(l:fO G P o.op=Z)(t:∀x,o.op= .nilCheck x->∀n a b,e x≠.func (.method n) a b){f:V6}{vs:Array U}{i:F}{es L8:Array Vm}(h:(UH e o).runT P w es=(.ok (.enter f vs) i,L8)):∃c,o.op= .call c:=by
 have d:(UH e o).run P w= .ok (.enter f vs) i:=by
  have:=Yd P (UH e o) w es;rw[h] at this;exact(Prod.mk.inj this).1.symm
 have y:∀(s:Wu U),((do pure (Next.value (<-s))):Wu Next).run P w= .ok (.enter f vs) i->False:=λs g=>by
  rw[WJ] at g;cases k:s.run P w<;>rw[k] at g<;>simp at g
 have z:∀(s:Wu Unit),((do s;pure Next.skip):Wu Next).run P w= .ok (.enter f vs) i->False:=λs g=>by
  rw[WJ] at g;cases k:s.run P w<;>rw[k] at g<;>simp at g
 unfold UH at d;cases j:o.op with
 |nilCheck x=>
  have p:=t x j;rw[j] at d;dsimp only at d;have q:(runtimePanic .nilDeref:Wu Next).run P w= .ok (.enter f vs) i->False:=λh=>by
   unfold runtimePanic at h;simp[program,Wt,goPanic] at h
  cases u:e x<;>rw[u] at d p<;>(try dsimp only at d)<;>first
   |exact(q d).elim
   |(simp at d;done)
   |(rename_i a;cases a<;>first|exact(q d).elim|(simp at d;done))
   |(rename_i r a b;cases r<;>first|(simp at d;done)|exact absurd Y (p _ _ _))
 |_=>
  rw[j] at d l;dsimp only at d
  first
  |exact⟨_,rfl⟩
  |(simp[fO] at l;done)
  |exact(y _ d).elim
  |exact(z _ d).elim
  |(simp at d;done)
  |(rw[WJ] at d;generalize Wt P _ w=v at d;cases v<;>simp at d
    done)
def pY{e:U6->U}{o:Vu}{t:Ug}{x:U6}(f:o.op= .makeInterface t x){n:Next}{c:F}{es L8:Array Vm}(h:(UH e o).runT P w es=(.ok n c,L8)):∃t v1,n= .value (.iface t v1):=by
 have a:(UH e o).run P w= .ok n c:=by
  have:=Yd P (UH e o) w es;rw[h] at this;exact(Prod.mk.inj this).1.symm
 unfold UH at a;rw[f] at a;dsimp only at a;unfold Instr.makeInterface underlying at a;rw[WJ] at a;cases b:P.underlying t with
 |none=>simp[program,b,Wt,stuck] at a
 |some d=>cases d<;>simp[program,b,Wt,stuck] at a<;>exact⟨_,_,a.1.symm⟩
def fD{σ:aU G}{f:V6}{es:Array Vm}(h:∀e∈es,kq σ e):∀e∈seen P f es++#[],kq σ e:=λe a=>by
 rw[Array.append_empty] at a;exact PV h e a
def Rq(L:Alike G P P')(a4:nC G P P'){fr fr':Us}{aE tops':List Us}(d:cL P ρ fr fr')(a9:eZ fr)(J:dL P ρ aE tops')(aa:eJ ρ bu w w')(n:cX fr aE)(D:fr.mode= .run){ops:Array Vu}{i:Nat}{rest:List Nat}{k:List WM}(a:fr.todo= .inRegion ops (i::rest)::k):
 cF P gX fT ρ (w.drawn+bu) w' (UM P m (Uf fr (aE++gX)) w) (UM P' m' (Uf fr' (tops'++fT)) w'):=by
 have X:=Ey d D;have M:=d.todo.trans a;have W:=d.round;have au:=d.round';have av:Vj ops fr.tmps=Vj ops fr'.tmps:=funext λbc=>E9 d.tmps ops bc;have ar:(fr.kind==CallKind.early)=T5:=by rcases d.kinds with H|H<;>rw[H]<;>rfl
 have ba:(fr'.kind==CallKind.early)=T5:=by rw[d.kind];exact ar
 cases e:ops[i]? with
 |none=>
  have A:UM P m (Uf fr (aE++gX)) w= .go (Uf (fr.finish Vk) (aE++gX)) w:=by simp[Uf,UM,UI,D,a,e]
  have B:UM P' m' (Uf fr' (tops'++fT)) w'= .go (Uf (fr'.finish Vk) (tops'++fT)) w':=by simp[Uf,UM,UI,X,M,e]
  rw[A,B];exact .go (iv d a l9) (B0 d a e _) J aa (Fr.refl _ _) jg (cX.of (gp _ _) n) Y
 |some l=>
  have I:fO G P l.op=Z:=by
   have C:=d.ok;rw[a] at C;cases C.1 using bW.ind with
   |inRegion _ _ c x=>
    obtain⟨bv,rfl⟩:=Ua.1 e;exact Uy.1 c _ (by simp)
  cases E:UF l (Vj ops fr.tmps) with
  |false=>
   have ab:UF l (Vj ops fr'.tmps)=T5:=by rw[<-av];exact E
   have A:UM P m (Uf fr (aE++gX)) w= .go (Uf (fr.finish Vk) (aE++gX)) w:=by simp[Uf,UM,UI,D,a,e,E]
   have B:UM P' m' (Uf fr' (tops'++fT)) w'= .go (Uf (fr'.finish Vk) (tops'++fT)) w':=by simp[Uf,UM,UI,X,M,e,ab]
   rw[A,B];exact .go (iv d a l9) (iu d a e _ (λz g _ a8=>by simp[UF,a8] at E)) J aa (Fr.refl _ _) jg (cX.of (gp _ _) n) Y
  |true=>
   have ab:UF l (Vj ops fr'.tmps)=Z:=by rw[<-av];exact E
   have A:UM P m (Uf fr (aE++gX)) w=VN P Z fr (aE++gX) K (UH fr.eval l) w:=by simp[Uf,UM,UI,stepG.oper,Frame.oper?,D,a,e,E,W]
   have B:UM P' m' (Uf fr' (tops'++fT)) w'=VN P' Z fr' (tops'++fT) K (UH fr'.eval l) w':=by simp[Uf,UM,UI,stepG.oper,Frame.oper?,X,M,e,ab,au]
   rw[A,B];have U:=(Rz (ρ:=ρ) L l I (λg p=>d.eval g p) (λg p=>a9 D ops i rest k l g a e p)).runs w w' #[] #[] bu aa jg (λam H=>by simp at H);generalize t:(UH fr.eval l).runT P w #[]=bm at U;generalize a5:(UH fr'.eval l).runT P' w' #[]=bo at U;unfold VN;simp only[if_true,t,a5,a,M,ar,ba,UA,if_false];cases U using fU.ind with
   |halt p r h q j V=>
    rename_i ae az g bl aw bj ao a0;cases p using lE.ind with
    |panic N=>
     rename_i v F;exact .go (fr:=fr.raise [{v,recovered:=T5}]) (fr':=fr'.raise [{v:=F,recovered:=T5}]) (uJ (d.mono h.le) (.cons ⟨N,rfl,rfl⟩ .nil)) (iK (raise_mode _ _)) (J.mono h.le) r h (fD q) (cX.of (so _ _) n) j
    |same _ u=>
     cases g with
     |stuck s=>exact .lost _ _ _ _
     |unsupported ad=>cases ad<;>first|exact .lost _ _ _ _|(simp[pN] at u;done)
     |_=>simp[pN] at u
   |ok T r h q j V=>
    rename_i ae az bd bx aw bj ao a0;have b:=d.mono h.le;have y:=J.mono h.le;cases T using iF.ind with
    |value N=>
     rename_i v F;exact .go (fr:=fr.finish v) (fr':=fr'.finish F) (iv b a N) (iu b a e _ (λz g o _=>by
      obtain⟨O,Q,c⟩:=pY o t;cases c;exact⟨_,_,rfl⟩)) y r h (fD q) (cX.of (gp _ _) n) j
    |skip=>
     exact .go (fr:=fr.finish Vk) (fr':=fr'.finish Vk) (iv b a l9) (iu b a e _ (λz g o _=>by
      obtain⟨O,Q,c⟩:=pY o t;cases c)) y r h (fD q) (cX.of (gp _ _) n) j
    |enter f a7 bb=>
     rename_i be bi;obtain⟨c,x⟩:=us a4 a7 bb .normal (.inl rfl);obtain⟨bt,a6⟩:=FY L I (λg p bd br bs am=>by
      have S:=d.eval g (by rw[p] at I;exact I);rw[am] at S;generalize fr'.eval g=b0 at S;cases S using ay.ind with
      |func h _ _ _ _=>cases h using nE.ind) t
     exact .go (fr:=UY P f be .normal) (fr':=UY P' f bi .normal) (aE:=fr::aE) (tops':=fr'::tops') c x (.cons b (Qe a e a6) y) r h (fD q) n j
    |defer u=>
     rename_i R al;have C:=b.ok;rw[a] at C;have ap:cL P ae {fr with defers:=R::fr.defers,todo:=.inRegion ops (i::rest)::k} {fr' with defers:=al::fr'.defers,todo:=.inRegion ops (i::rest)::k}:=⟨b.fn,b.may,b.tmps,rfl,C,.cons u b.defers,b.mode,b.kind,b.kinds,b.round,b.round'⟩;exact .go (fr:=VW {fr with defers:=R::fr.defers,todo:=.inRegion ops (i::rest)::k} Vk) (fr':=VW {fr' with defers:=al::fr'.defers,todo:=.inRegion ops (i::rest)::k} Vk) (iv ap Y l9) (iu ap Y e _ (λz g o _=>by
      obtain⟨O,Q,c⟩:=pY o t;cases c)) y r h (fD q) (cX.of (gp {fr with defers:=R::fr.defers,todo:=.inRegion ops (i::rest)::k} Vk) (cX.of (fr:=fr) (by rfl) n)) j
    |recover=>
     simp only[W,au];rcases vR (gX:=gX) (fT:=fT) b y n with⟨c,x⟩|⟨v,F,z,bB,c,x,a1,a2,a3⟩
     ·rw[c,x];exact .go (fr:=fr.finish .nilIface) (fr':=fr'.finish .nilIface) (iv b a .nilIface) (iu b a e _ (λz g o _=>by
       obtain⟨O,Q,c⟩:=pY o t;cases c)) y r h (fD q) (cX.of (gp _ _) n) j
     ·rw[c,x];exact .go (fr:=fr.finish v) (fr':=fr'.finish F) (iv b a a1) (iu b a e _ (λz g o _=>by
       obtain⟨O,Q,c⟩:=pY o t;cases c)) a2 r h (fD q) (cX.of (gp _ _) a3) j
   |oa p j V=>
    rename_i ae g bl aw ao;cases p using lE.ind with
    |panic N=>exact .over j
    |same _ u=>
     cases g with
     |stuck s=>exact .lost _ _ _ _
     |unsupported ad=>cases ad<;>first|exact .lost _ _ _ _|(simp[pN] at u;done)
     |_=>simp[pN] at u
   |over T j V=>
    cases T using iF.ind with
    |recover=>
     simp only[W];cases Xp fr (aE++gX) with
     |none=>exact .over j
     |some bA=>exact .over j
    |_=>exact .over j
end
end
section
variable {G:mi}
section
variable {P P':Ue}{ρ:aU G}{gX fT:List Us}{w w':F}{m m':Bool}
theorem En{α:Type}{g g':α->Wu U}:∀(l:List α) {ρ:aU G},(∀ σ,ρ.le σ->∀x∈l,aq P P' ay σ (g x) (g' x))->aq P P' iZ ρ (l.mapM g) (l.mapM g')
 | [],ρ,a=>by rw[List.mapM_nil,List.mapM_nil];exact .aB .nil
 |x::l,ρ,a=>by
  rw[List.mapM_cons,List.mapM_cons];refine(a ρ (aU.le.refl _) x (by simp)).bindM (λσ j k f d=>?_);refine(En l (λc b i h=>a c (f.trans b) i (by simp[h]))).bindM (λc n o b e=>?_);exact .aB (.cons (d.mono b) e)
def A7(L:Alike G P P')(fn:WC){x g:Array U}(h:bg ρ x g):aq P P' ay ρ (UX fn x) (UX fn g):=by
 unfold UX;refine aq.bindM (A:=bg) ?_ (λi a j d b=>?_)
 ·rw[Array.mapM_eq_mapM_toList,Array.mapM_eq_mapM_toList];refine aq.bind (A:=iZ) (En _ (λi d n _=>?_)) (λi a j _ b=>.pure b.toArray);cases n with
  |tmp f=>exact .aB ((h.mono d).getD f)
  |cell a f=>
   have e:=(h.mono d).getD a;dsimp only;generalize x.getD a Vk=v at e;generalize g.getD a Vk=o at e;have k:aq P P' cM i (asAddr v) (asAddr o):=by
    cases e using ay.ind with
    |ptr h=>exact .aB h
    |cZ=>exact eE L.S .nilDeref (by simp) (by simp) (by simp)
    |_=>exact aq.stuck
   exact k.bindM (λp a j _ l=>A5 L.S f l)
 ·refine .aB ?_;by_cases c:a.size=1
  ·rw[dif_pos c,dif_pos (by rw[<-b.1];exact c)];exact b.2 0 _ _
  ·rw[dif_neg c,dif_neg (by rw[<-b.1];exact c)];exact .tuple b.1 b.2
def jS{fr:Us}(h:pG fr):eZ fr:=by
 intro i r k t n p v d e f;obtain⟨s,l,u,o,q,j,a,b,c⟩:=h i;rw[d] at a;simp only[Xj,XK] at a;obtain⟨⟨rfl,g,-⟩,-⟩:=a;subst g;rw[e] at b;cases b;rw[f] at c;cases c
def F2{σ:aU G}{fr fr':Us}(h:cL P σ fr fr')(k:pG fr){v f:U}(r:ay σ v f):cL P σ (fr.finish v) (fr'.finish f)/\eZ (fr.finish v):=by
 have c:=h.todo;have j:=h.ok;have e:(∀b,fr.finish b=fr)->(∀b,fr'.finish b=fr')->cL P σ (fr.finish v) (fr'.finish f)/\eZ (fr.finish v):=λl n=>by
  rw[l,n];exact⟨h,jS k⟩
 cases a:fr.todo with
 |nil=>rw[a] at c;exact e (λb=>by unfold VW;rw[a]) (λb=>by unfold VW;rw[c])
 |cons A B=>
  rw[a] at c j;cases j.1 using bW.ind with
  |inRegion E s u x=>
   cases s with
   |nil=>exact e (λb=>by unfold VW;rw[a]) (λb=>by unfold VW;rw[c])
   |cons y H=>
    refine⟨iv h a r,?_⟩;by_cases i:fr.mode= .run
    ·obtain⟨F,z,I,C,D,t,d,o,p⟩:=k i;rw[a] at d;simp only[Xj,XK] at d;obtain⟨⟨rfl,q,-⟩,-⟩:=d;subst q;exact iu h a o v (λJ K g _=>by rw[p] at g;cases g)
    ·have:(fr.finish v).mode=fr.mode:=by
      unfold VW;rw[a]
     exact iK (by rw[this];exact i)
  |_=>exact e (λb=>by unfold VW;rw[a]) (λb=>by unfold VW;rw[c])
def L3{σ:aU G}{c a:List Vr}(h:iS σ c a):iS σ (c.dropWhile (!·.goexit)) (a.dropWhile (!·.goexit)):=by
 induction h using iS.ind with
 |nil=>exact .nil
 |cons b d e=>
  simp only[List.dropWhile_cons,b.g]
  split
  ·exact e
  ·exact .cons b d
def fL (c:Us):Us:=match c.mode with
 | .panicking ({recovered:=Z,..}::a)=>
  match a.dropWhile (!·.goexit) with
  | []=>{c with mode:=.returning}
  |rest=>{c with mode:=.panicking rest}
 |_=>c
def IY{σ:aU G}{f f':Us}(h:cL P σ f f')(b:pG f):cL P σ (fL f) (fL f')/\eZ (fL f)/\(fL f).kind=f.kind:=by
 have g:=h.mode;have l:∀{c d:FrameMode},gw σ c d->cL P σ {f with mode:=c} {f' with mode:=d}:=λn=>⟨h.fn,h.may,h.tmps,h.todo,h.ok,h.defers,n,h.kind,h.kinds,h.round,h.round'⟩;unfold fL;generalize y:f.mode=C at g;generalize z:f'.mode=D at g;cases g using gw.ind with
 |run=>exact⟨h,jS b,rfl⟩
 |returning=>exact⟨h,jS b,rfl⟩
 |panicking a=>
  cases a using iS.ind with
  |nil=>exact⟨h,jS b,rfl⟩
  |cons i a ihz=>
   rename_i r s p q;obtain⟨v,t,u⟩:=r;obtain⟨B,A,x⟩:=s;obtain⟨o,k,j⟩:=i;simp only at o k j;subst k j;cases t with
   |false=>exact⟨h,jS b,rfl⟩
   |true=>
    dsimp only;have e:=L3 a;generalize p.dropWhile (!·.goexit)=c at e;generalize q.dropWhile (!·.goexit)=d at e;cases e using iS.ind with
    |nil=>exact⟨l .returning,iK (by simp),rfl⟩
    |cons i a=>exact⟨l (.panicking (.cons i a)),iK (by simp),rfl⟩
end
end
section
variable {G:mi}{bu:Nat}
section
variable {P P':Ue}{ρ:aU G}{gX fT:List Us}{w w':F}{m m':Bool}
def Pr{a a':FrameMode}(h:gw ρ a a')(b:a≠.run):a'≠.run:=by
 cases h using gw.ind with
 |run=>exact absurd Y b
 |returning=>simp
 |panicking h=>simp
def BU(L:Alike G P P')(ad:nC G P P'){fr fr':Us}{aE tops':List Us}(B:cL P ρ fr fr')(R:dL P ρ aE tops')(ar:eJ ρ bu w w')(o:cX fr aE)(C:fr.mode≠.run){d r:Wj}(p:xB P ρ d r):
 cF P gX fT ρ (w.drawn+bu) w' (callDeferred P fr (aE++gX) K d w) (callDeferred P' fr' (tops'++fT) K r w'):=by
 have hR:=(El (ρ:=ρ) L p.target p.args).runs w w' #[] #[] bu ar jg (λl Z=>by simp at Z);obtain⟨J,V⟩:=d;obtain⟨M,W⟩:=r;have n:=p.target;have a:=B.mode;simp only at n hR;by_cases q:J= .nil/\∃e,fr.mode= .panicking e
 ·obtain⟨rfl,e,z⟩:=q;unfold callDeferred;rw[if_pos ?hP]
  case hP=>simp[z]
  exact .lost _ _ _ _
 ·have al:¬(M= .nil/\∃e,fr'.mode= .panicking e):=by
   rintro⟨rfl,e,z⟩;rw[z] at a;cases n using lF.ind;generalize fr.mode=k at a q;cases a using gw.ind;exact q ⟨rfl,_,rfl⟩
  unfold callDeferred;rw[if_neg ?hL,if_neg ?hR]
  case hL=>
   intro l;apply q;cases J<;>cases E:fr.mode<;>simp[E] at l ⊢
  case hR=>
   intro l;apply al;cases M<;>cases E:fr'.mode<;>simp[E] at l ⊢
  dsimp only;generalize (invoke J V).runT P w #[]=a1 at hR;generalize (invoke M W).runT P' w' #[]=a2 at hR;cases hR using fU.ind with
  |halt I i c g b D=>
   rename_i U Y O a0 N T t Q;cases I using lE.ind with
   |panic H=>
    rename_i v S;exact .go (fr:=fr.raise [{v,recovered:=T5}]) (fr':=fr'.raise [{v:=S,recovered:=T5}]) (uJ (B.mono c.le) (.cons ⟨H,rfl,rfl⟩ .nil)) (iK (raise_mode _ _)) (R.mono c.le) i c (fD g) (cX.of (so _ _) o) b
   |same _ A=>
    cases O with
    |stuck s=>exact .lost _ _ _ _
    |unsupported av=>exact .lost _ _ _ _
    |_=>simp[pN] at A
  |ok y i c g b D=>
   rename_i U Y a4 a5 N T t Q;have h:=B.mono c.le;have F:=R.mono c.le;have j:cF P gX fT ρ (w.drawn+bu) w' (WQ (seen P fr.fn t) (.go (Uf fr (aE++gX)) N)) (WQ (seen P' fr'.fn Q) (.go (Uf fr' (tops'++fT)) T)):=.go h (iK C) F i c (fD g) o b;cases y using iF.ind with
   |value H=>exact j
   |skip=>exact j
   |defer p=>exact j
   |enter f ae ap=>
    rename_i aw az;obtain⟨n,a⟩:=us ad ae ap .deferred (.inr rfl);exact .go (fr:=UY P f aw .deferred) (fr':=UY P' f az .deferred) (aE:=fr::aE) (tops':=fr'::tops') n a (.cons h (Bw C) F) i c (fD g) o b
   |recover=>
    have a:=h.mode;rcases vR (gX:=gX) (fT:=fT) h F o with⟨u,x⟩|⟨v,S,a6,a7,u,x,a3,aa,ab⟩
    ·dsimp only;rw[u,x];generalize am:fr.mode=k at a;generalize ao:fr'.mode=X at a;cases a using gw.ind<;>exact j
    ·dsimp only;rw[u,x];generalize am:fr.mode=k at a;generalize ao:fr'.mode=X at a;cases a using gw.ind with
     |returning=>exact .go h (iK C) aa i c (fD g) ab b
     |_=>exact j
  |oa I b D=>
   rename_i U O a0 N t;cases I using lE.ind with
   |panic H=>exact .over b
   |same _ A=>
    cases O with
    |stuck s=>exact .lost _ _ _ _
    |unsupported av=>exact .lost _ _ _ _
    |_=>simp[pN] at A
  |over y b D=>
   cases y using iF.ind with
   |recover=>
    dsimp only;generalize fr.mode=k;generalize Xp fr (aE++gX)=au;cases k<;>cases au<;>exact .over b
   |_=>exact .over b
def He(L:Alike G P P')(A:nC G P P'){fr fr':Us}{aE tops':List Us}(a:cL P ρ fr fr')(H:dL P ρ aE tops')(s:eJ ρ bu w w')(h:cX fr aE)(i:fr.mode≠.run)(ao:aE=[]->fr.defers≠[]):
 cF P gX fT ρ (w.drawn+bu) w' (UM P m (Uf fr (aE++gX)) w) (UM P' m' (Uf fr' (tops'++fT)) w'):=by
 have am:=Pr a.mode i;have W:UM P m (Uf fr (aE++gX)) w=Yi P m fr (aE++gX) K w:=by
  cases b:fr.mode<;>first|exact absurd b i|simp[Uf,UM,b]
 have X:UM P' m' (Uf fr' (tops'++fT)) w'=Yi P' m' fr' (tops'++fT) K w':=by
  cases b:fr'.mode<;>first|exact absurd b am|simp[Uf,UM,b]
 rw[W,X];unfold Yi;have o:=a.defers;generalize ab:fr.defers=a5 at o;generalize a8:fr'.defers=a6 at o;cases o using iY.ind with
 |cons D g ihz=>
  rename_i U V M N;have al:cL P ρ {fr with defers:=M} {fr' with defers:=N}:=⟨a.fn,a.may,a.tmps,a.todo,a.ok,g,a.mode,a.kind,a.kinds,a.round,a.round'⟩;have ar:=BU (gX:=gX) (fT:=fT) L A al H s (cX.of (fr:=fr) (by rfl) h) i D;obtain⟨bc,a0⟩:=U;obtain⟨bd,a1⟩:=V;have I:=D.target;simp only at I;cases I using lF.ind<;>exact ar
 |nil=>
  cases H using dL.ind with
  |nil=>exact absurd ab (ao Y)
  |cons E J g ihz=>
   rename_i f y M N;obtain⟨j,a4,B,C,ba,bb⟩:=A fr.fn a.may;have q:=a.mode;dsimp only;generalize ad:fr.mode=a2 at q;generalize a9:fr'.mode=a3 at q;cases q using gw.ind with
   |run=>exact absurd ad i
   |panicking ae=>
    have S:fr.catches P=T5:=by unfold Frame.catches;rw[B]
    have T:fr'.catches P'=T5:=by unfold Frame.catches;rw[a.fn,C]
    simp only[S,T,UA,if_false,Wd];exact .go (fr:=f.raise _) (fr':=y.raise _) (uJ E ae) (iK (raise_mode _ _)) g s (Fr.refl _ _) jg (cX.of (so _ _) h) Y
   |returning=>
    dsimp only;rw[a.fn,B,C];dsimp only;have n:=(A7 (ρ:=ρ) L j a.tmps).runs w w' #[] #[] bu s jg (λa7 b=>by simp at b);generalize (UX j fr.tmps).runT P w #[]=aw at n;generalize (UX j fr'.tmps).runT P' w' #[]=az at n;cases n using fU.ind with
    |halt ap t c p e r=>
     rename_i Q R u av O au x Z;cases u<;>exact .lost _ _ _ _
    |oa ap e r=>
     rename_i Q u av O x;cases u<;>exact .lost _ _ _ _
    |over z e r=>
     dsimp only;unfold WY;simp only[Wd];rcases a.kinds with d|d<;>rw[d]<;>exact .over e
    |ok z t c p e r=>
     rename_i Q R v be O au x Z;have F:=E.mono c.le;dsimp only;unfold WY;simp only[Wd];rcases a.kinds with d|d
     ·rw[a.kind,d];obtain⟨k,l⟩:=F2 F J z;exact .go k l (g.mono c.le) t c (fD p) (cX.of (gp _ _) h) e
     ·rw[a.kind,d];obtain⟨k,l,aa⟩:=IY F J;exact .go (fr:=fL f) (fr':=fL y) k l (g.mono c.le) t c (fD p) (cX.of aa h) e
def NQ(L:Alike G P P')(j:nC G P P')(p:P'.follows .mixedOrders=P.follows .mixedOrders){fr fr':Us}{aE tops':List Us}(g:cL P ρ fr fr')(o:eZ fr)(h:dL P ρ aE tops')(i:eJ ρ bu w w')(f:cX fr aE)(q:aE=[]->fr.mode≠.run->fr.defers≠[]):
 cF P gX fT ρ (w.drawn+bu) w' (UM P m (Uf fr (aE++gX)) w) (UM P' m' (Uf fr' (tops'++fT)) w'):=by
 by_cases a:fr.mode= .run
 ·by_cases k:∃d b e c,fr.todo= .inRegion d (b::e)::c
  ·obtain⟨d,b,e,c,r⟩:=k;exact Rq L j g o h i f a r
  ·exact Ma p g h i a (λd b e c l=>k ⟨d,b,e,c,l⟩) f
 ·exact He L j g h i f a (λn=>q n a)
end
end
end Rl
namespace Cc
open Go Go.Conc
open Rl (mi aU nC cL dL eZ eJ Fr kq dJ cF ay bg)
def pH (P0 P:Ue)(S:Nat->Prop)(c:Nat)(own:Nat->Prop)(vs:List U)(g:UL)(w:F):Prop:=∃a,Wk P0 P S c a own vs g w
section
variable {P0 P:Ue}{S:Nat->Prop}{c:Nat}{own:Nat->Prop}{vs:List U}{g:UL}{w:F}
def tL(j:g.status= .running)(h:∀a,RelB (λb=>S b\/own b) w a->∃g' w' es,UM P T5 g a= .go g' w' es/\mj P0 S own a w' es/\pH P0 P S c (cT own a w') vs g' w'):pH P0 P S c own vs g w:=by
 classical
 let f:F->Tr:=λa=>if d:RelB (λb=>S b\/own b) w a then Vq (Uu (Uu (Uu (h a d)))).2.2 else .fin
 refine⟨.mk f,wm.2 ⟨j,.inl λa d=>?_⟩⟩;have e:=Uu (Uu (Uu (h a d)));have i:f a=Vq (Uu (Uu (Uu (h a d)))).2.2:=by
  show(if d:RelB (λb=>S b\/own b) w a then _ else _)=_;rw[dif_pos d]
 exact⟨_,_,_,e.1,e.2.1,Wk.cast i (Uu e.2.2)⟩
def Oa{v:U}{l:List U}{g2:UL}{z:U}(i:g.status= .running)(h:∀a,RelB (λb=>S b\/own b) w a->UM P T5 g a= .comm g2 #[scase c v z] Z .send a #[]/\pH P0 P S c own l (Wi g2 Vk) a):pH P0 P S c own (v::l) g w:=by
 classical
 let f:F->Tr:=λa=>if d:RelB (λb=>S b\/own b) w a then Vq (h a d).2 else .fin
 refine⟨.mk f,wm.2 ⟨i,.inr (.inl ⟨v,l,g2,z,rfl,λa d=>⟨(h a d).1,?_⟩⟩)⟩⟩;have e:f a=Vq (h a d).2:=by
  show(if d:RelB (λb=>S b\/own b) w a then _ else _)=_;rw[dif_pos d]
 exact Wk.cast e (Uu (h a d).2)
def KX{g':UL}{n:Nat}(j:g.status= .running)(i:QuitsIn P n g')(f:mayWake P g=Z)(h:∀a,RelB (λb=>S b\/own b) w a->∀cap d s r e,a.heap[c]? =I (.chan cap d T5 s r e)->UM P T5 g a= .go g' (a.setChan c cap d Z s r e) #[⟨.obj c,T5,Z⟩,⟨.obj c,Z,Z⟩]):pH P0 P S c own [] g w:=
 ⟨.mk λ_=>.fin,wm.2 ⟨j,.inr (.inr ⟨rfl,g',n,i,f,h⟩)⟩⟩
def pH.rely{a:F}(h:pH P0 P S c own vs g w)(d:RelB (λb=>S b\/own b) w a):pH P0 P S c own vs g a:=by
 obtain⟨e,h⟩:=h;exact⟨e,h.rely d⟩
def KY{g':UL}{es:Array Vm}(l:g.status= .running)(h:∀a,RelB (λb=>S b\/own b) w a->UM P T5 g a= .go g' a es)(j:∀e∈es,EvW S own e)(k:∀a,RelB (λb=>S b\/own b) w a->pH P0 P S c own vs g' a):pH P0 P S c own vs g w:=by
 refine tL l λa f=>⟨g',a,es,h a f,⟨λ_ _ _=>rfl,T6 _,rfl,rfl,rfl,λn=>n,λe i=>?_⟩,?_⟩
 ·have:=j e i;unfold EvW at this ⊢;cases d:e.loc with
  |cell o=>rw[d] at this;exact this.imp (λh=>.inl h) (λh=>h)
  |obj p=>rw[d] at this;exact this.imp (λh=>.inl h) (λh=>h)
  |mark m=>rw[d] at this;exact this
  |_=>trivial
 ·have e:cT own a a=own:=by
   funext b;unfold cT;apply propext;constructor
   ·rintro(h|h)
    ·exact h
    ·omega
   ·exact .inl
  rw[e];exact k a f
end
section
variable {P0 P:Ue}{S:Nat->Prop}{c:Nat}{vs:List U}{fT:List Us}{Gc:mi}
def NP{gX fT:List Us}{ρ:aU Gc}{t:Nat}{w':F}{f i:Yt}(h:cF P gX fT ρ t w' f i){a:Us}{b:List Us}{d:F}{m:Array Vm}(e:f= .go (Uf a (b++gX)) d m)(x:d.drawn<=t):
 ∃(σ:aU Gc) (b1:Nat) (fr':Us) (tops':List Us) (w1':F) (j:Array Vm),i= .go (Uf fr' (tops'++fT)) w1' j/\cL P σ a fr'/\eZ a/\dL P σ b tops'/\eJ σ b1 d w1'/\Fr ρ σ w' w1'/\(∀e∈j,kq σ e)/\Rl.cX a b:=by
 cases h using cF.ind with
 |lost z B v A=>cases e
 |over h=>
  cases e;omega
 |go q r s u p o n y=>
  simp only[Uf,GStep.go.injEq,YG] at e;obtain⟨⟨rfl,k,-⟩,rfl,rfl⟩:=e;have l:=List.append_cancel_right k;subst l;exact⟨_,_,_,_,_,_,rfl,q,r,s,u,p,o,n⟩
def Ie{ρ σ:aU Gc}{b1:Nat}{s h w':F}{own:Nat->Prop}{es:Array Vm}(r:eJ σ b1 s w')(d:Fr ρ σ h w')(p:∀e∈es,kq σ e)(l:∀b b',ρ.f b=I b'->own b'):mj P0 S own h w' es/\∀b b',σ.f b=I b'->cT own h w' b':=by
 have j:∀b b',σ.f b=I b'->cT own h w' b':=λb b' a=>by
  rcases d.fresh b b' a with f|f
  ·exact .inl (l b b' f)
  ·obtain⟨u,v,_,o,_⟩:=r.at_ b b' a;exact .inr ⟨f,(Ua.1 o).1⟩
 refine⟨⟨λb a q=>d.keep b (λk e=>?_) a,d.size,d.tape,d.os,d.output,λ_=>trivial,λe n=>?_⟩,j⟩
 ·rcases d.fresh k b e with f|f
  ·exact q (l k b f)
  ·omega
 ·have:=p e n;unfold kq at this;unfold EvW;cases i:e.loc with
  |cell t=>rw[i] at this;obtain⟨b,a⟩:=this;exact .inl (j _ _ a)
  |obj x=>rw[i] at this;obtain⟨b,a⟩:=this;exact .inl (j _ _ a)
  |mark m=>
   rw[i] at this;cases m<;>first|exact this.elim|exact rfl
  |_=>trivial
def Ni{σ:aU Gc}{h w a:F}{own:Nat->Prop}(d:eJ σ 0 h w)(m:∀b b',σ.f b=I b'->own b')(f:RelB (λb=>S b\/own b) w a)(i:Nat):eJ σ i (sh a.tape a.drawn h) a:=
 ⟨d.gl,Ux d.gr f.size,λb b' e=>by
  obtain⟨n,o,j,k,l⟩:=d.at_ b b' e;exact⟨n,o,j,(f.at_ b' (.inr (m b b' e))).trans k,l⟩,λp q _=>rfl⟩
def eJ.zero{σ:aU Gc}{b:Nat}{a w:F}(h:eJ σ b a w):eJ σ 0 a w:=⟨h.gl,h.gr,h.at_,λe f d=>by omega⟩
structure Hu(S own:Nat->Prop)(w:F):Prop where
 sh:∀b,S b->b<w.heap.size/\¬own b
 bd:∀b,own b->b<w.heap.size
def Hu.step{own:Nat->Prop}{w f w':F}{es:Array Vm}(h:Hu S own w)(d:RelB (λb=>S b\/own b) w f)(e:mj P0 S own f w' es):Hu S (cT own f w') w'/\RelB S w w':=
 ⟨⟨λb a=>⟨Uc (h.sh b a).1 (Ux d.size e.size),λi=>i.elim (h.sh b a).2 λi=>by have:=(h.sh b a).1;have:=d.size;omega⟩,λb a=>a.elim (λa=>Uc (h.bd b a) (Ux d.size e.size)) (λa=>a.2)⟩,
  λb a=>(e.keep b (Uc (h.sh b a).1 d.size) (h.sh b a).2).trans (d.at_ b (.inl a)),Ux d.size e.size,e.tape.trans d.tape,e.os.trans d.os,e.output.trans d.output⟩
def Hq(L:Rl.Alike Gc P P)(J:nC Gc P P){Stop:Us->List Us->F->Prop}{fr:Us}{aE:List Us}{a e:F}(h:Fin P0 P Stop fr aE a e)(w0:F):
 ∀{σ:aU Gc} {fr':Us} {tops':List Us} {own:Nat->Prop} {w:F},e.heap=a.heap->cL P σ fr fr'->eZ fr->dL P σ aE tops'->Rl.cX fr aE->eJ σ 0 e w->(∀b b',σ.f b=I b'->own b')->Hp (bn P0) a->Hu S own w->RelB S w0 w->
  (∀(σ:aU Gc) fr aE a fr' tops' own w,Stop fr aE a->cL P σ fr fr'->dL P σ aE tops'->eJ σ 0 a w->(∀b b',σ.f b=I b'->own b')->Hp (bn P0) a->Hu S own w->RelB S w0 w->pH P0 P S c own vs (Uf fr' (tops'++fT)) w)->
  pH P0 P S c own vs (Uf fr' (tops'++fT)) w:=by
 intro σ fr' tops' own w;refine h (λfr aE a e=>∀{σ:aU Gc} {fr':Us} {tops':List Us} {own:Nat->Prop} {w:F},e.heap=a.heap->cL P σ fr fr'->eZ fr->dL P σ aE tops'->Rl.cX fr aE->eJ σ 0 e w->(∀b b',σ.f b=I b'->own b')->Hp (bn P0) a->Hu S own w->RelB S w0 w->
  (∀(σ:aU Gc) fr aE a fr' tops' own w,Stop fr aE a->cL P σ fr fr'->dL P σ aE tops'->eJ σ 0 a w->(∀b b',σ.f b=I b'->own b')->Hp (bn P0) a->Hu S own w->RelB S w0 w->pH P0 P S c own vs (Uf fr' (tops'++fT)) w)->
  pH P0 P S c own vs (Uf fr' (tops'++fT)) w) ?_ ?_
 ·intro fr aE a e O σ fr' tops' own w k o t p i f j u n l m;exact m σ _ _ _ _ _ _ _ O o p ⟨by rw[<-k];exact f.gl,f.gr,λb b' i=>by rw[<-k];exact f.at_ b b' i,λab ae aa=>by omega⟩ j u n l
 ·intro fr aE a e q z T V ad U R σ fr' tops' own w k o t p i f j u n l m;refine tL Y λd v=>?_;have M:=Ni (S:=S) f j v (q d.tape d.drawn).2.2.2.1.drawn;have Q:=Rl.NQ (m:=T5) (m':=T5) (gX:=[]) (fT:=fT) L J Y o t p M i (λx=>((U x).1));obtain⟨ao,W,Z,al,am,X,y,B,C,D,r,E,G,H⟩:=NP Q (z d.tape d.drawn T5 []) (by
   show(q d.tape d.drawn).2.2.2.1.drawn<=d.drawn+(q d.tape d.drawn).2.2.2.1.drawn;omega)
  obtain⟨s,N⟩:=Ie (P0:=P0) (S:=S) r E G j;obtain⟨K,A⟩:=n.step v s;exact⟨_,_,_,y,s,R d.tape d.drawn (P9 (V d.tape d.drawn).1 k) B C D H (eJ.zero r) N (T d.tape d.drawn).hp K (l.trans A) m⟩
end
section
variable {P0 P:Ue}{S:Nat->Prop}{c:Nat}{vs:List U}{fT:List Us}{Gc:mi}
def Qf(L:Rl.Alike Gc P P){σ:aU Gc}{fr fr' g:Us}{e w:F}{own:Nat->Prop}{fn:WC}{v:U}(i:cL P σ fr fr')(T:fr.mode= .returning)(M:fr.defers=[])(R:fr.kind= .normal)(O:P.funcs[fr.fn]? =I fn)
 (W:∀D d,(UX fn fr.tmps).run P (sh D d e)= .ok v (sh D d e)) (X:eJ σ 0 e w) (B:∀b b',σ.f b=I b'->own b')
 (H:∀(k:aU Gc) m own' w',ay k v m->eJ k 0 e w'->(∀b b',k.f b=I b'->own' b')->Hu S own' w'->RelB S w w'->pH P0 P S c own' vs (Uf (g.finish m) fT) w') (x:Hu S own w):pH P0 P S c own vs (Uf fr' (g::fT)) w:=by
 refine tL Y λa r=>?_;have J:=Ni (S:=S) X B r 0;have o:=(Rl.A7 (ρ:=σ) L fn i.tmps).runs (sh a.tape a.drawn e) a #[] #[] 0 J Rl.jg (λt n=>by simp at n);have A:fr'.mode= .returning:=by
  have:=i.mode;rw[T] at this;cases h:fr'.mode with
  |returning=>rfl
  |run=>rw[h] at this;cases this using Rl.gw.ind
  |panicking Z=>rw[h] at this;cases this using Rl.gw.ind
 have N:fr'.defers=[]:=by
  have:=i.defers;rw[M] at this;cases h:fr'.defers with
  |nil=>rfl
  |cons E Z=>rw[h] at this;cases this using Rl.iY.ind
 have f:((UX fn fr.tmps).runT P (sh a.tape a.drawn e) #[]).1= .ok v (sh a.tape a.drawn e):=by rw[Yd];exact W _ _
 have C:UM P T5 (Uf fr' (g::fT)) a=WQ (seen P fr'.fn ((UX fn fr'.tmps).runT P a #[]).2) (match ((UX fn fr'.tmps).runT P a #[]).1 with
  | .ok v w=>WY P T5 fr' (g::fT) K v w
  | .halt (.stuck s) w=>.ended (.stuck s (fr'.pos P)) w
  | .halt _ w=>.ended (.stuck "return: the result variables cannot be read" (fr'.pos P)) w):=by
  have G:UM P T5 (Uf fr' (g::fT)) a=Yi P T5 fr' (g::fT) K a:=by simp[Uf,UM,A]
  rw[G];unfold Yi;rw[N];simp only[A,i.fn,O];rfl
 generalize ao:(UX fn fr.tmps).runT P (sh a.tape a.drawn e) #[]=ab at o f;generalize ap:(UX fn fr'.tmps).runT P a #[]=ad at o C;cases o using Rl.fU.ind with
 |halt h j z y l q=>cases f
 |oa h l q=>cases f
 |over u l q=>
  simp only[Result.ok.injEq] at f;obtain⟨-,rfl⟩:=f;simp[sh] at l
 |ok u j z y l q=>
  rename_i k ae E m av aa al am;simp only[Result.ok.injEq] at f;obtain⟨rfl,rfl⟩:=f;obtain⟨p,V⟩:=Ie (P0:=P0) (S:=S) j z (λt n=>Rl.fD (P:=P) (f:=fr'.fn) y t n) B;refine⟨_,_,_,?_,p,H k m _ aa u ⟨j.gl,j.gr,j.at_,λar au Q=>absurd Q (by omega)⟩ V (x.step r p).1 (x.step r p).2⟩;rw[C];simp only[WY,i.kind,R];rfl
def QD (Gc:mi):aU Gc:=⟨λ_=>K,λb d c a=>(by cases a),λb d a=>(by cases a)⟩
def Bv (g:Nat)(os:Os):F:={heap:=U3 g (.cells #[] 0),tape:=λ_ _=>0,drawn:=0,os,output:= #[]}
def KW(h:Twins P0 P)(L:Rl.Alike Gc P P)(A:nC Gc P P){f:V6}(W:Gc.b f=Z)(C:P.funcs[f]? =P0.funcs[f]?){args:Array U}(V:bg (QD Gc) args args){R:Xa->F->Prop}(hR:∀e w',R e w'->∃v,e= .returned v){os:Os}(ap:∀a,UB P0 f args (sh a 0 (Bv Gc.g os)) R)
 {own:Nat->Prop} {w:F} {s:Us} (O:Hu S own w) (am:Gc.g<=w.heap.size)
 (J:∀(σ:aU Gc) v r i own' w',(∃a d,R (.returned v) (sh a d i))->ay σ v r->eJ σ 0 i w'->(∀b b',σ.f b=I b'->own' b')->Hu S own' w'->RelB S w w'->pH P0 P S c own' vs (Uf (s.finish r) fT) w'):pH P0 P S c own vs (Uf (UY P f args .normal) (s::fT)) w:=by
 have x:UY P f args .normal=UY P0 f args .normal:=by unfold UY;rw[C]
 have D:Hp (bn P0) (Bv Gc.g os):=λb be o=>by
  simp only[Bv,Array.getElem?_replicate] at o
  split at o
  ·cases o;exact .inl trivial
  ·cases o
 have ab:Fin P0 P (Dg λg aE w'=>aE=[]/\∃v,R (.returned v) w'/\g.fn=f/\g.leaving P0 w' (.returned v)) (UY P0 f args .normal) [] (Bv Gc.g os) (Bv Gc.g os):=by
  refine vB h (λg aE w' j=>?_) ⟨DL h f args .normal (.inl Y),λbl a7=>by simp at a7,rfl⟩ D (Un.refl _) λa=>?_
  ·obtain⟨_,v,_,_,m⟩:=j;rintro⟨q,_⟩;rw[m.1] at q;cases q
  ·obtain⟨e,w',g,B,X,p,m⟩:=ap a [bG];obtain⟨v,rfl⟩:=hR e w' B;obtain⟨N,K⟩:=X;exact⟨N,g,[],w',K,rfl,v,B,p,m⟩
 obtain⟨y,z⟩:=Rl.us A W V .normal (.inl rfl);rw[x] at y z;rw[x];refine Hq (aE:=[]) (tops':=[]) (fT:=s::fT) L A ab w Y y z .nil Y ⟨by simp[Bv],am,λb b' e=>(by cases e),λa8 ba u=>absurd u (by omega)⟩ (λb b' e=>(by cases e)) D O (RelB.refl _ _) λσ g aE i bd bi own' w' j al a3 a5 ar av Q aw=>?_;obtain⟨a,d,rfl,v,M,p,m⟩:=j;cases a3 using dL.ind;obtain⟨q,aa,ao,l,ad,a1⟩:=m;have ae:P.funcs[g.fn]? =I l:=by rw[p,C,<-p];exact ad
 have a2:∀n k,(UX l g.tmps).run P (sh n k i)= .ok v (sh n k i):=by
  intro n k;have a0:=Np (ez P0) h.A.view (UX l g.tmps) (sh a d i) #[] (zC h.A.T l g.tmps) (av.sh a d);have t:((UX l g.tmps).runT P0 (sh a d i) #[]).1= .ok v (sh a d i):=by rw[Yd];exact a1
  rcases a0.shift with⟨bm,w',G⟩|j
  ·rw[t] at G;cases G
  ·obtain⟨bj,E,j⟩:=j n k (sh a d i) (Un.refl _) (by rw[t];intro a8 ba u;simp[rW] at u);rw[t] at j E;have:=congrArg Uw j;rw[Yd] at this;have H:=IK E n k;simp only[Ok,rW,Nat.sub_self,Nat.add_zero] at this;rw[H] at this;exact this
 exact Qf (P0:=P0) L al q aa ao ae a2 a5 ar (λbc r a9 bb a4 a6 au T az=>J bc v r i a9 bb ⟨a,d,M⟩ a4 a6 au T (aw.trans az)) Q
end
end Cc
namespace Cc
open Go Go.Conc
structure nP(P0 P:Ue)(S:Nat->Prop)(m:Bool)(X0:(Nat->Prop)->Us->List Us->F->Prop):Prop where
 step:∀own fr cs w,(∀w1,RelB (λb=>S b\/own b) w w1->∃fr' cs' w' es,UM P m (Uf fr cs) w1= .go (Uf fr' cs') w' es/\mj P0 S own w1 w' es/\X0 (cT own w1 w') fr' cs' w')->X0 own fr cs w
 rely:∀own fr cs w w1,X0 own fr cs w->RelB (λb=>S b\/own b) w w1->X0 own fr cs w1
def kr (P0 P:Ue)(Post:U->F->Prop)(S O:Nat->Prop)(μ:Nat->Option (List U))(g:UL)(w:F):Prop:=∃c,Mn P0 P Post c (.sh S O μ) g w
section
variable {P0 P:Ue}{Post:U->F->Prop}{S O:Nat->Prop}{μ:Nat->Option (List U)}{g:UL}{w:F}
def kV(P0 P:Ue)(S:Nat->Prop)(c:Nat)(vs:List U):nP P0 P S T5 (λown fr cs w=>pH P0 P S c own vs (Uf fr cs) w):=
 ⟨λown fr cs w d=>tL Y λf e=>by
  obtain⟨fr',q,p,h,j,l,n⟩:=d f e;exact⟨_,p,h,j,l,n⟩,λown fr cs w f d e=>d.rely e⟩
def MP(h:∀c,RelB (λb=>S b\/O b) w c->∃g' w' es,UM P Z g c= .go g' w' es/\g'.status= .running/\mj P0 S O c w' es/\kr P0 P Post S (cT O c w') μ g' w'):kr P0 P Post S O μ g w:=by
 classical
 let f:F->Tr:=λc=>if d:RelB (λb=>S b\/O b) w c then Vq (Uu (Uu (Uu (h c d)))).2.2.2 else .fin
 refine⟨.mk f,nl.2 <| .inl λc d=>?_⟩;have e:=Uu (Uu (Uu (h c d)));have j:f c=Vq (Uu (Uu (Uu (h c d)))).2.2.2:=by
  show(if d:RelB (λb=>S b\/O b) w c then _ else _)=_;rw[dif_pos d]
 exact⟨_,_,_,e.1,e.2.1,e.2.2.1,Mn.cast j (Uu e.2.2.2)⟩
def dR(P0 P:Ue)(Post:U->F->Prop)(S:Nat->Prop)(μ:Nat->Option (List U)):nP P0 P S Z (λO fr cs w=>kr P0 P Post S O μ (Uf fr cs) w):=
 ⟨λown fr cs w c=>MP λe d=>by
  obtain⟨fr',q,p,f,h,j,l⟩:=c e d;exact⟨_,p,f,h,rfl,j,l⟩,λown fr cs w e c d=>by
  obtain⟨n,c⟩:=c;exact⟨n,c.j6 d⟩⟩
def JP{c cap:Nat}{l:List U}(p:O c)(s:l.length<=cap)(t:μ c=K)(hc:w.heap[c]? =I (.chan cap #[] T5 0 0 T5))(h:∀d,RelB (λb=>S b\/O b) w d->∃g' n,UM P Z g d= .spawn g' n d #[]/\g'.status= .running/\pH P0 P S c (λ_=>False) l n d/\kr P0 P Post S (λb=>O b/\b≠c) (gb μ c (I l)) g' d):kr P0 P Post S O μ g w:=by
 classical
 let f:F->Tr:=λd=>if e:RelB (λb=>S b\/O b) w d then Vq (Uu (Uu (h d e))).2.2.2 else .fin
 refine⟨.mk f,nl.2 <| .inr (.inl ⟨c,l,cap,p,s,t,hc,λd e=>?_⟩)⟩;have j:=Uu (Uu (h d e));have r:f d=Vq (Uu (Uu (h d e))).2.2.2:=by
  show(if e:RelB (λb=>S b\/O b) w d then _ else _)=_;rw[dif_pos e]
 obtain⟨u,q⟩:=j.2.2.1;exact⟨_,_,u,j.1,j.2.1,q,Mn.cast r (Uu j.2.2.2)⟩
def MN{c:Nat}{z:U}{g2:UL}{v:U}{l:List U}(p:μ c=I (v::l))(n:g2.frame=g.frame/\g2.callers=g.callers/\g2.dying=g.dying)(h:∀d,RelB (λb=>S b\/O b) w d->UM P Z g d= .comm g2 #[rcase c z] Z (.recv Z) d #[]/\kr P0 P Post S O (gb μ c (I l)) (Wi g2 (recvd Z v Z)) d):kr P0 P Post S O μ g w:=by
 classical
 let f:F->Tr:=λd=>if e:RelB (λb=>S b\/O b) w d then Vq (h d e).2 else .fin
 refine⟨.mk f,nl.2 <| .inr (.inr (.inl ⟨c,z,g2,v::l,p,n,λd e=>⟨(h d e).1,?_⟩⟩))⟩;have j:f d=Vq (h d e).2:=by
  show(if e:RelB (λb=>S b\/O b) w d then _ else _)=_;rw[dif_pos e]
 exact Mn.cast j (Uu (h d e).2)
def MO{c:Nat}{z:U}{g2:UL}(n:μ c=I [])(l:g2.frame=g.frame/\g2.callers=g.callers/\g2.dying=g.dying)(h:∀d,RelB (λb=>S b\/O b) w d->UM P Z g d= .comm g2 #[rcase c z] Z (.recv Z) d #[]/\kr P0 P Post S O (gb μ c K) (Wi g2 (recvd Z z T5)) d):kr P0 P Post S O μ g w:=by
 classical
 let f:F->Tr:=λd=>if e:RelB (λb=>S b\/O b) w d then Vq (h d e).2 else .fin
 refine⟨.mk f,nl.2 <| .inr (.inr (.inl ⟨c,z,g2,[],n,l,λd e=>⟨(h d e).1,?_⟩⟩))⟩;have j:f d=Vq (h d e).2:=by
  show(if e:RelB (λb=>S b\/O b) w d then _ else _)=_;rw[dif_pos e]
 exact Mn.cast j (Uu (h d e).2)
def MM(n:∀c,μ c=K)(h:∀d,RelB (λb=>S b\/O b) w d->xF P0 d->tQ P0 P Post g d):kr P0 P Post S O μ g w:=by
 classical
 let f:F->Tr:=λd=>if e:RelB (λb=>S b\/O b) w d/\xF P0 d then Vq (h d e.1 e.2) else .fin
 refine⟨.mk f,nl.2 <| .inr (.inr (.inr ⟨n,λd e j=>?_⟩))⟩;have l:f d=Vq (h d e j):=by
  show(if e:RelB (λb=>S b\/O b) w d/\xF P0 d then _ else _)=_;rw[dif_pos ⟨e,j⟩]
 exact Mn.cast l (Uu (h d e j))
def JU(S O:Nat->Prop)(j:∀b,S b->b<w.heap.size/\¬O b)(e:∀b,O b->b<w.heap.size)(h:∀c,AtRel w c->kr P0 P Post S O (λ_=>K) g c):tQ P0 P Post g w:=by
 classical
 let f:F->Tr:=λc=>if d:AtRel w c then Vq (h c d) else .fin
 refine⟨.mk f,nl.2 <| .inr (.inr ⟨S,O,j,e,λc d=>?_⟩)⟩;have l:f c=Vq (h c d):=by
  show(if d:AtRel w c then _ else _)=_;rw[dif_pos d]
 exact Mn.cast l (Uu (h c d))
end
section
variable {P0 P:Ue}{S:Nat->Prop}{m:Bool}{X0:(Nat->Prop)->Us->List Us->F->Prop}(hX:nP P0 P S m X0){own:Nat->Prop}{fr fr':Us}{cs:List Us}{w:F}{b:Us}{a:V5}{k:List WM}{ops:Array Vu}{i:Nat}{rest:List Nat}{o:Vu}
def nt(own:Nat->Prop)(w:F):cT own w w=own:=by
 funext b;unfold cT;apply propext;constructor
 ·rintro(c|c)
  ·exact c
  ·omega
 ·exact .inl
def yt(P0:Ue){es:Array Vm}(c:∀e∈es,EvW S own e):mj P0 S own w w es:=⟨λ_ _ _=>rfl,T6 _,rfl,rfl,rfl,λd=>d,by rw[nt];exact c⟩
def kT(hX:nP P0 P S m X0){c:List Us}(j:∀w,UM P m (Uf fr cs) w= .go (Uf fr' c) w)(f:X0 own fr' c w):X0 own fr cs w:=
 hX.step _ _ _ _ λd h=>⟨fr',c,d,#[],j d,yt P0 (λl e=>by simp at e),by rw[nt];exact hX.rely _ _ _ _ _ f h⟩
def LF(hX:nP P0 P S m X0)(l:b.kind≠.early)(p:ops[i]? =I o)(r:UF o (Vj ops a.tmps)=Z)
 (h:∀d,RelB (λb=>S b\/own b) w d->∃v w',(UH a.eval o).run P d= .ok (.value v) w'/\mj P0 S own d w' ((UH a.eval o).events P d #[])/\X0 (cT own d w') (b.at (a.put o.dst v) (.inRegion ops rest::k)) cs w'):X0 own (b.at a (.inRegion ops (i::rest)::k)) cs w:=
 hX.step _ _ _ _ λd q=>by
  obtain⟨v,w',f,c,j⟩:=h d q;refine⟨_,_,_,_,stepG_value p r l f,⟨c.keep,c.size,c.tape,c.os,c.output,c.hp,λe n=>c.evs e (Conc.mem_listed n)⟩,j⟩
def ov(hX:nP P0 P S m X0)(f:b.kind≠.early)(l:ops[i]? =I o)(n:UF o (Vj ops a.tmps)=Z)(v:U)
 (h:∀c,RelB (λb=>S b\/own b) w c->(UH a.eval o).run P c= .ok (.value v) c/\∀e∈(UH a.eval o).events P c #[],EvW S own e) (j:X0 own (b.at (a.put o.dst v) (.inRegion ops rest::k)) cs w):X0 own (b.at a (.inRegion ops (i::rest)::k)) cs w:=
 LF hX f l n λc d=>⟨v,c,(h c d).1,yt P0 (h c d).2,by rw[nt];exact hX.rely _ _ _ _ _ j d⟩
end
def aW (a:V5)(s:Nat):U:=a.tmps.getD s Vk
def SW (ops:Array Vu)(l:Array Bool)(s:Nat):Prop:=∃b c,l.getD b T5=Z/\ops[b]? =I c/\c.dst=I s
structure cH(ops:Array Vu)(Ph:Nat->Bool)(a0 z:V5)(l:Array Bool)(a:V5):Prop where
 size:l.size=ops.size
 closed:∀(i:Nat) o,l.getD i T5=Z->ops[i]? =I o->∀e∈o.after,Vn .any e=Z->l.getD e.on T5=Z
 ph:∀i:Nat,l.getD i T5=Z->Ph i=Z
 QF:a.tmps.size=z.tmps.size
 R6:a.defers=z.defers
 yes:∀s,SW ops l s->aW a s=aW z s
 no:∀s,¬SW ops l s->aW a s=aW a0 s
def Mt:Op->Bool
 | .select _ _=>Z
 |_=>T5
def oH (ops:Array Vu)(Ph:Nat->Bool):Bool:=(UK ops.size).all λd=>match ops[d]? with
 |none=>Z
 |some c=> !Mt c.op&&((c.looksAt ops).all λs=>(c.after.toList.any λb=>Vn .any b&&((ops[b.on]?).bind (·.dst))==I s)||(UK ops.size).all λe=> !Ph e||((ops[e]?).bind (·.dst)) !=I s)&&(match c.guard with|some (f,_)=>((ops[f]?).bind (·.dst)).isSome|none=>Z)&&c.after.toList.all λb=> !Vn .any b||decide (b.on<d)
def PC (ops:Array Vu)(Ph:Nat->Bool)(u:Nat):Bool:=(UK ops.size).all λb=>Ph b||b==u||match ops[b]? with
 |none=>Z
 |some d=>d.after.toList.any λc=>Vn .any c && !Ph c.on
def E4 (l:Array Bool):Nat:=l.toList.countP (!·)
theorem countP_set:∀(x:List Bool) (i:Nat),x[i]? =I T5->(x.set i Z).countP (!·)+1=x.countP (!·)
 | [],i,c=>by simp at c
 |b::d,0,c=>by simp at c;subst c;simp
 |b::d,i+1,c=>by
  have:=countP_set d i (by simpa using c);simp only[Uj,List.countP_cons];omega
def qX{l:Array Bool}{i:Nat}(b:i<l.size)(h:l.getD i Z=T5):E4 (l.setIfInBounds i Z)+1=E4 l:=by
 unfold E4;rw[Array.toList_setIfInBounds];refine countP_set _ _ ?_;have:l[i]? =I l[i]:=UU b;simp only[UD,this,V1] at h;rw[Array.getElem?_toList,this,h]
def kX{l:Array Bool}{i j:Nat}(d:i<l.size):(l.setIfInBounds i Z).getD j T5=(decide (j=i)||l.getD j T5):=by
 simp only[UD,UP];by_cases b:i=j
 ·subst b;simp[d]
 ·have:¬j=i:=λc=>b c.symm;simp[b,this]
def mem_ready{ops:Array Vu}{l:Array Bool}{i:Nat}(h:i∈UZ .any ops l):∃o,ops[i]? =I o/\i<ops.size/\l.getD i Z=T5/\∀e∈o.after,Vn .any e=Z->l.getD e.on T5=Z:=by
 unfold UZ at h;obtain⟨f,b⟩:=List.mem_filter.1 h;have c:=Vt.1 f;simp only[Uv,WO] at b;have d:ops[i]? =I ops[i]:=UU c;rw[d] at b;simp only[V2,V1] at b;refine⟨_,d,c,b.1,λe j g=>?_⟩;have:=Array.all_eq_true.1 b.2;obtain⟨m,k,rfl⟩:=Array.mem_iff_getElem.1 j;have:=this m k;simpa [g] using this
def Gs{ops:Array Vu}{Ph:Nat->Bool}{l:Array Bool}(p:l.size=ops.size)(n:oH ops Ph=Z)(h:UZ .any ops l=[]):∀i,i<ops.size->l.getD i T5=Z:=by
 intro i
 induction i using Nat.strongRecOn with
 |_ i o=>
  intro b;cases j:l.getD i T5 with
  |true=>rfl
  |false=>
   exfalso
   have:i∈UZ .any ops l:=by
    unfold UZ;refine List.mem_filter.2 ⟨Vt.2 b,?_⟩;have d:ops[i]? =I ops[i]:=UU b;have c:=Uy.1 n i (Vt.2 b);rw[d] at c;simp only[Uv,Uy] at c;have k:l.getD i Z=T5:=by
     have:l[i]? =I l[i]:=UU (by omega);simpa [UD,this] using j
    rw[d,k];simp only[Bool.not_false,Bool.true_and,V2,V1,Array.all_eq_true];intro e g;have:=c.2 _ (Array.getElem_mem_toList g);cases f:Vn .any (ops[i].after[e]) with
    |false=>rfl
    |true=>
     rw[f] at this;have m:ops[i].after[e].on<i:=by simpa using this
     simpa using o _ m (by omega)
   rw[h] at this;cases this
section
variable {ops:Array Vu}{Ph:Nat->Bool}{a0 z:V5}{l:Array Bool}{a:V5}
def cH.looks(h:cH ops Ph a0 z l a)(w:oH ops Ph=Z)(y:∀s,(∀(j:Nat) o,Ph j=Z->ops[j]? =I o->o.dst≠I s)->aW z s=aW a0 s){i:Nat}{o:Vu}(n:ops[i]? =I o)(p:∀e∈o.after,Vn .any e=Z->l.getD e.on T5=Z):∀s∈o.looksAt ops,aW a s=aW z s:=by
 intro s x;have r:i<ops.size:=(Ua.1 n).1;have k:=Uy.1 w i (Vt.2 r);rw[n] at k;simp only[Uv,Uy] at k;have:=k.1.1.2 s x;rw[WS] at this;rcases this with f|f
 ·obtain⟨e,q,g⟩:=List.any_eq_true.1 f;simp only[Uv,beq_iff_eq] at g;obtain⟨d,u,b⟩:=UR.1 g.2;exact h.yes s ⟨e.on,d,p e (by simpa using q) g.1,u,b⟩
 ·have m:∀(j:Nat) o,Ph j=Z->ops[j]? =I o->o.dst≠I s:=λj d v c b=>by
   have:=Uy.1 f j (Vt.2 (Ua.1 c).1);rw[c] at this;simp[b,v] at this
  rw[y s m];exact h.no s fun⟨j,d,t,c,b⟩=>m j d (h.ph j t) c b
def cH.exec(m:cH ops Ph a0 z l a)(t:oH ops Ph=Z)(B:∀s,(∀(j:Nat) o,Ph j=Z->ops[j]? =I o->o.dst≠I s)->aW z s=aW a0 s){i:Nat}{o:Vu}(n:ops[i]? =I o)(w:∀e∈o.after,Vn .any e=Z->l.getD e.on T5=Z):UH a.eval o=UH z.eval o/\UF o (Vj ops a.tmps)=UF o (Vj ops z.tmps):=by
 have r:=m.looks t B n w;have x:i<ops.size:=(Ua.1 n).1;have f:=Uy.1 t i (Vt.2 x);rw[n] at f;simp only[Uv] at f;refine⟨execOp_congr o (λE D e=>by have:=f.1.1.1;rw[e] at this;cases this) λC y=>?_,?_⟩
 ·cases C with
  |tmp u=>exact r u (List.mem_append_left _ (List.mem_filterMap.2 ⟨.tmp u,by simpa using y,rfl⟩))
  |_=>rfl
 ·unfold UF;cases q:o.guard with
  |none=>rfl
  |some v=>
   obtain⟨j,F⟩:=v;have k:=f.1.2;rw[q] at k;dsimp only at k ⊢;obtain⟨b,p⟩:=Option.isSome_iff_exists.1 k;have d:aW a b=aW z b:=r b (List.mem_append_right _ (by rw[q];simp[p]));have A:Vj ops a.tmps j=Vj ops z.tmps j:=by
    unfold Vj;rw[p];simp only[XR];unfold aW at d;simp only[UD] at d;rcases Vy b z.tmps.size with c|c
    ·have g:z.tmps[b]? =I z.tmps[b]:=UU c;have h:a.tmps[b]? =I (a.tmps[b]'(by rw[m.QF];exact c)):=UU _;rw[g,h] at d ⊢;simp only[V1] at d;rw[d]
    ·have g:z.tmps[b]? =K:=Vl c;have h:a.tmps[b]? =K:=Vl (by rw[m.QF];exact c);rw[g,h]
   rw[A]
def cH.next(b:cH ops Ph a0 z l a){i:Nat}{o:Vu}(D:Ph i=Z)(n:ops[i]? =I o)(A:∀e∈o.after,Vn .any e=Z->l.getD e.on T5=Z){v:U}(y:∀d,o.dst=I d->d<z.tmps.size/\aW z d=v):cH ops Ph a0 z (l.setIfInBounds i Z) (a.put o.dst v):=by
 have j:i<l.size:=by rw[b.size];exact(Ua.1 n).1
 have t:∀s,SW ops (l.setIfInBounds i Z) s↔o.dst=I s\/SW ops l s:=by
  intro s;constructor
  ·rintro⟨g,k,f,h,m⟩;rw[kX j] at f;simp only[WS,decide_eq_true_eq] at f;rcases f with rfl|f
   ·rw[n] at h;cases h;exact .inl m
   ·exact .inr ⟨g,k,f,h,m⟩
  ·rintro(q|⟨g,k,f,h,m⟩)
   ·exact⟨i,o,by rw[kX j];simp,n,q⟩
   ·exact⟨g,k,by rw[kX j,f];simp,h,m⟩
 have x:∀s,aW (a.put o.dst v) s=if o.dst=I s then v else aW a s:=by
  intro s;unfold aW UW;cases B:o.dst with
  |none=>simp
  |some d=>
   have C:=(y d B).1;simp only[UD,UP,U8];by_cases e:d=s
   ·subst e;simp[b.QF,C]
   ·simp[e]
 refine⟨by simp[b.size],λg k c r e w u=>?_,λg c=>?_,?_,?_,λs p=>?_,λs p=>?_⟩
 ·rw[kX j] at c ⊢;simp only[WS,decide_eq_true_eq] at c ⊢;rcases c with rfl|c
  ·rw[n] at r;cases r;exact .inr (A e w u)
  ·exact .inr (b.closed g k c r e w u)
 ·rw[kX j] at c;simp only[WS,decide_eq_true_eq] at c;rcases c with rfl|c
  ·exact D
  ·exact b.ph g c
 ·unfold UW;split
  ·simp[b.QF]
  ·exact b.QF
 ·unfold UW;split
  ·exact b.R6
  ·exact b.R6
 ·rw[x]
  split
  ·rename_i e;exact((y s e).2).symm
  ·rename_i e;exact b.yes s (((t s).1 p).resolve_left e)
 ·rw[x,if_neg λe=>p ((t s).2 (.inl e))];exact b.no s λq=>p ((t s).2 (.inr q))
def cH.start(a0 z:V5)(f:a0.tmps.size=z.tmps.size)(e:a0.defers=z.defers):cH ops Ph a0 z (U3 ops.size T5) a0:=by
 have d:∀c:Nat,(U3 ops.size T5).getD c T5=T5:=λc=>by
  simp only[UD,Array.getElem?_replicate]
  split<;>rfl
 refine⟨by simp,λc g b=>?_,λc b=>?_,f,e,λs ⟨c,g,b,_⟩=>?_,λs _=>rfl⟩
 ·rw[d] at b;cases b
 ·rw[d] at b;cases b
 ·rw[d] at b;cases b
def cH.all(d:cH ops Ph a0 z l a)(t:∀s,(∀(j:Nat) o,Ph j=Z->ops[j]? =I o->o.dst≠I s)->aW z s=aW a0 s)(h:∀i,i<ops.size->l.getD i T5=Z):a=z:=by
 have r:∀s,aW a s=aW z s:=λs=>by
  by_cases f:∃(j:Nat) (o:Vu),ops[j]? =I o/\o.dst=I s
  ·obtain⟨j,o,b,c⟩:=f;exact d.yes s ⟨j,o,h j (Ua.1 b).1,b,c⟩
  ·have e:∀(j:Nat) o,ops[j]? =I o->o.dst≠I s:=λj o b c=>f ⟨j,o,b,c⟩;rw[t s λj o _=>e j o];exact d.no s fun⟨j,o,_,b,c⟩=>e j o b c
 obtain⟨u,g⟩:=a;obtain⟨v,k⟩:=z;have n:g=k:=d.R6;have m:u=v:=by
  refine Array.ext d.QF λi p q=>?_;have:=r i;unfold aW at this;simpa [UD,p,q] using this
 rw[m,n]
def cH.QS(d:cH ops Ph a0 z l a){u:Nat}(y:∀s,(∀(j:Nat) o,Ph j=Z->ops[j]? =I o->o.dst≠I s)->aW z s=aW a0 s)(x:Ph u=T5)(h:∀i,i<ops.size->i≠u->l.getD i T5=Z):a=z:=by
 have w:∀s,aW a s=aW z s:=λs=>by
  by_cases g:∃(j:Nat) (o:Vu),Ph j=Z/\ops[j]? =I o/\o.dst=I s
  ·obtain⟨j,o,e,b,c⟩:=g;exact d.yes s ⟨j,o,h j (Ua.1 b).1 (λn=>by rw[n,x] at e;cases e),b,c⟩
  ·have f:∀(j:Nat) o,Ph j=Z->ops[j]? =I o->o.dst≠I s:=λj o e b c=>g ⟨j,o,e,b,c⟩;rw[y s f];exact d.no s fun⟨j,o,v,b,c⟩=>f j o (d.ph j v) b c
 obtain⟨A,k⟩:=a;obtain⟨B,m⟩:=z;have q:k=m:=d.R6;have p:A=B:=by
  refine Array.ext d.QF λi r t=>?_;have:=w i;unfold aW at this;simpa [UD,r,t] using this
 rw[p,q]
def drawn{Dn:Nat->Bool}{val:Nat->U}{u:Nat}{G:List Nat->V5->Prop}(C:oH ops Ph=Z)(L:PC ops Ph u=Z)
 (W:∀(i:Nat) o d,Ph i=Z->ops[i]? =I o->o.dst=I d->d<z.tmps.size/\aW z d=val i)
 (D:∀s,(∀(j:Nat) o,Ph j=Z->ops[j]? =I o->o.dst≠I s)->aW z s=aW a0 s)
 (S:∀i o a todo,Ph i=Z->Dn i=T5->i≠u->ops[i]? =I o->UH a.eval o=UH z.eval o->UF o (Vj ops a.tmps)=UF o (Vj ops z.tmps)->G todo (a.put o.dst (val i))->G (i::todo) a)
 (V:∀c t l a,cH ops Ph a0 z l a->u∈UZ .any ops l->E4 l<=c+1->G (u::U9 .any ops c t (l.setIfInBounds u Z) []) a)
 (O:(∀i,i<ops.size->Ph i=Z)->G [] z):
 ∀(c t:Nat) (l:Array Bool) (a:V5),cH ops Ph a0 z l a->(∀i,Dn i=Z->l.getD i T5=Z)->E4 l<=c->G (U9 .any ops c t l []) a:=by
 have done:∀l a,cH ops Ph a0 z l a->UZ .any ops l=[]->G [] a:=λl a b k=>by
  have y:=Gs b.size C k;rw[b.all D y];exact O λi e=>b.ph i (y i e)
 intro c
 induction c with
 |zero=>
  intro t l a b q B;simp only[U9,List.reverse_nil];refine done l a b ?_;cases k:UZ .any ops l with
  |nil=>rfl
  |cons i Y=>
   obtain⟨o,_,e,f,_⟩:=mem_ready (ops:=ops) (l:=l) (i:=i) (by rw[k];exact Xs ..);have:=qX (by rw[b.size];exact e) f;omega
 |succ c X=>
  intro t l a b q B;simp only[U9];change G (match (UZ .any ops l)[t%(UZ .any ops l).length]? with
   |some i=>U9 .any ops c (t/(UZ .any ops l).length) (l.setIfInBounds i Z) [i]
   |none=>[].reverse) a
  cases e:(UZ .any ops l)[t%(UZ .any ops l).length]? with
  |none=>
   have R:UZ .any ops l=[]:=by
    cases k:UZ .any ops l with
    |nil=>rfl
    |cons E F=>
     rw[k] at e;have g:t%(E::F).length<(E::F).length:=Nat.mod_lt _ (by simp);simp at e;simp at g;omega
   exact done l a b R
  |some i=>
   simp only[];rw[linearise_go_acc,List.reverse_singleton,List.singleton_append];have A:=List.mem_of_getElem? e;obtain⟨o,h,g,f,r⟩:=mem_ready A;by_cases w:i=u
   ·subst w;exact V c _ l a b A B
   ·have x:Ph i=Z:=by
     have:=Uy.1 L i (Vt.2 g);cases T:Ph i with
     |true=>rfl
     |false=>
      rw[T,h] at this;simp only[Bool.false_or,WS,beq_iff_eq] at this;rcases this with p|p
      ·exact absurd p w
      ·obtain⟨n,N,v⟩:=List.any_eq_true.1 p;simp only[Uv,WO] at v;have:=b.ph _ (r n (by simpa using N) v.1);rw[v.2] at this;cases this
    obtain⟨m,J⟩:=b.exec C D h r;have K:Dn i=T5:=by
     cases n:Dn i with
     |false=>rfl
     |true=>
      have m:=q i n;have Q:i<l.size:=by rw[b.size];exact g
      have H:l[i]? =I l[i]:=UU Q;simp only[UD,H,V1] at m f;rw[m] at f;cases f
    refine S i o a _ x K w h m J (X _ _ _ (b.next x h r λd M=>W i o d x h M) (λj P=>by
     rw[kX (by rw[b.size];exact g),q j P];simp) ?_)
    have:=qX (by rw[b.size];exact g) f;omega
end
section
variable {P0 P:Ue}{S:Nat->Prop}{m:Bool}{X0:(Nat->Prop)->Us->List Us->F->Prop}{own:Nat->Prop}{cs:List Us}{w:F}{b:Us}{a:V5}{k:List WM}{ops:Array Vu}{i:Nat}{rest:List Nat}{o:Vu}
def aS(c:nP P0 P S m X0){c1 c2:WU}(d:X0 own (b.at a (.code c1 :: .code c2::k)) cs w):X0 own (b.at a (.code (.seq c1 c2)::k)) cs w:=kT c (λw=>stepG_seq) d
def dm(c:nP P0 P S m X0){x:U6}{c1 c2:WU}(y:Bool)(e:a.eval x= .bool y)(d:X0 own (b.at a (.code (if y then c1 else c2)::k)) cs w):X0 own (b.at a (.code (.cond x c1 c2)::k)) cs w:=kT c (λw=>stepG_cond e) d
def gA(d:nP P0 P S m X0){id:Nat}{c:WU}(e:X0 own (b.at a (.code c :: .inBlock id::k)) cs w):X0 own (b.at a (.code (.block id c)::k)) cs w:=kT d (λw=>stepG_block) e
def iI(c:nP P0 P S m X0){id:Nat}(d:X0 own (b.at a k) cs w):X0 own (b.at a (.inBlock id::k)) cs w:=kT c (λw=>stepG_inBlock) d
def ud(d:nP P0 P S m X0){c:WU}(e:X0 own (b.at a (.code c :: .inLoop c::k)) cs w):X0 own (b.at a (.code (.loop c)::k)) cs w:=kT d (λw=>stepG_loop) e
def kU(d:nP P0 P S m X0){c:WU}(e:X0 own (b.at a (.code c :: .inLoop c::k)) cs w):X0 own (b.at a (.inLoop c::k)) cs w:=kT d (λw=>stepG_inLoop) e
def ig(c:nP P0 P S m X0)(d:X0 own (b.at a k) cs w):X0 own (b.at a (.code .skip::k)) cs w:=kT c (λw=>stepG_skip) d
def uc(c:nP P0 P S m X0){id:Nat}{k':List WM}(d:Yh id k=I k')(e:X0 own (b.at a k') cs w):X0 own (b.at a (.code (.exit id)::k)) cs w:=kT c (λw=>stepG_exit d) e
def pK(c:nP P0 P S m X0)(d:X0 own {b.at a (.code .ret::k) with mode:=.returning} cs w):X0 own (b.at a (.code .ret::k)) cs w:=kT c (λw=>by simp[Uf,UM,UI,Frame.at]) d
def LC(c:nP P0 P S m X0)(d:X0 own {b.at a [] with mode:=.returning} cs w):X0 own (b.at a []) cs w:=kT c (λw=>stepG_end) d
def LD(c:nP P0 P S m X0){id:Nat}(d:X0 own (b.at a (.inRegion ops (UK ops.size)::k)) cs w):X0 own (b.at a (.code (.region id ops T5)::k)) cs w:=kT c (λw=>stepG_region) d
def ak(c:nP P0 P S m X0)(d:X0 own (b.at a k) cs w):X0 own (b.at a (.inRegion ops []::k)) cs w:=kT c (λw=>stepG_region_end) d
def QY(d:nP P0 P S m X0){id:Nat}(h:P.follows .mixedOrders=Z)(g:∀t,X0 own (b.at a (.inRegion ops (U9 .any ops ops.size t (U3 ops.size T5) [])::k)) cs w):X0 own (b.at a (.code (.region id ops Z)::k)) cs w:=
 d.step _ _ _ _ λc n=>by
  have e:UM P m (Uf (b.at a (.code (.region id ops Z)::k)) cs) c= .go (Uf (b.at a (.inRegion ops (XZ (P.follows .mixedOrders) ops (c.tape c.drawn (.order b.fn id)))::k)) cs) {c with drawn:=c.drawn+1}:=by
   simp[Uf,UM,UI,Frame.at,choose,Wt,Question.forced,Question.cut]
  have p:∀t,XZ (P.follows .mixedOrders) ops t=U9 .any ops ops.size t (U3 ops.size T5) []:=λt=>by
   simp only[XZ,h,Bool.true_or,if_true];rfl
  rw[p] at e;have j:cT own c {c with drawn:=c.drawn+1}=cT own c c:=rfl;refine⟨_,_,_,_,e,⟨λ_ _ _=>rfl,T6 _,rfl,rfl,rfl,λq=>q,λr f=>by simp at f⟩,?_⟩;rw[j,nt];exact d.rely _ _ _ _ _ (g _) (n.trans ⟨λ_ _=>rfl,T6 _,rfl,rfl,rfl⟩)
def xS(d:nP P0 P S m X0)(c:ops[i]? =I o)(g:UF o (Vj ops a.tmps)=T5)(f:X0 own (b.at (a.put o.dst Vk) (.inRegion ops rest::k)) cs w):X0 own (b.at a (.inRegion ops (i::rest)::k)) cs w:=by
 refine kT d (λw=>?_) f;have e:(b.at a (.inRegion ops (i::rest)::k)).finish Vk=b.at (a.put o.dst Vk) (.inRegion ops rest::k):=by rw[XG,c];rfl
 rw[<-e];simp[Uf,UM,UI,stepG.oper,Frame.oper?,Frame.at,c,g]
def mB(e:nP P0 P S m X0)(f:b.kind≠.early)(j:ops[i]? =I o)(n:UF o (Vj ops a.tmps)=Z)(v:U)
 (h:∀c,(UH a.eval o).run P c= .ok (.value v) c/\(UH a.eval o).events P c #[]=#[]) (g:X0 own (b.at (a.put o.dst v) (.inRegion ops rest::k)) cs w):X0 own (b.at a (.inRegion ops (i::rest)::k)) cs w:=
 ov e f j n v (λc _=>⟨(h c).1,λp d=>by rw[(h c).2] at d;simp at d⟩) g
def HJ(j:nP P0 P S m X0){f:V6}{fn:WC}{c:WU}{args:Array U6}{ats:Array Ug}(p:b.kind≠.early)(r:ops[i]? =I o)(s:UF o (Vj ops a.tmps)=Z)(h:o.op= .call {callee:=.value (.func f),args,argTypes:=ats})
 (e:P.funcs[f]? =I fn) (g:(fn.name == "runtime.NumGoroutine")=T5) (n:fn.body=I c) (q:X0 own (UY P f (args.map a.eval) .normal) (b.at a (.inRegion ops (i::rest)::k)::cs) w):X0 own (b.at a (.inRegion ops (i::rest)::k)) cs w:=by
 have d:fn.body.isNone=T5:=by rw[n];rfl
 refine kT j (λw=>?_) q;rw[stepG_enter r s p (run_call_body h e g d)];have:listed P b.fn a o w=#[]:=by unfold listed;rw[events_call_body h e g d];exact Conc.seen_none P _
 rw[this]
def Ox(d:nP P0 P S m X0){fn:WC}{todo:List WM}{c:Us}{a0:V5}{v:U}(j:b.kind= .normal)(e:a.defers=[])(g:P.funcs[b.fn]? =I fn)(p:∀w,(UX fn a.tmps).run P w= .ok v w)(f:∀w,(UX fn a.tmps).events P w #[]=#[])(n:ops[i]? =I o)
 (h:X0 own (c.at (a0.put o.dst v) (.inRegion ops rest::k)) cs w):X0 own {b.at a todo with mode:=.returning} (c.at a0 (.inRegion ops (i::rest)::k)::cs) w:=by
 refine kT d (λw=>?_) h;rw[stepG_leave j e g (p w) (f w),XG,n];rfl
def jN (n:Nat)(S own:Nat->Prop)(e:Vm):Prop:=(∃m,e.loc= .mark m/\Neutral m)\/(∃c:UJ,e.loc= .cell c/\(c.block=n\/own c.block\/(S c.block/\e.write=T5)))
def jN.ev{n:Nat}{own':Nat->Prop}(f:own' n)(g:∀b,own b->own' b){e:Vm}(h:jN n S own e):EvW S own' e:=by
 unfold EvW;rcases h with⟨m,h,d⟩|⟨j,h,c⟩
 ·rw[h];exact d
 ·rw[h];rcases c with rfl|c|c
  ·exact .inl f
  ·exact .inl (g _ c)
  ·exact .inr c
def tP (S own:Nat->Prop)(w:F):Prop:=∀b,S b\/own b->b<w.heap.size
def mA(y:nP P0 P S m X0)(C:tP S own w)(A:b.kind≠.early)(E:ops[i]? =I o)(F:UF o (Vj ops a.tmps)=Z)(j:Xv)(G:bn P0 j)(u:Nat->U)
 (h:∀c,RelB (λb=>S b\/own b) w c->∃w',(UH a.eval o).run P c= .ok (.value (u c.heap.size)) w'/\w'.heap=c.heap.push j/\w'.tape=c.tape/\w'.os=c.os/\w'.output=c.output/\∀e∈(UH a.eval o).events P c #[],jN c.heap.size S own e)
 (D:∀n w',w.heap.size<=n->w'.heap.size=n+1->RelB (λb=>S b\/own b) w w'->w'.heap[n]? =I j->X0 (λb=>own b\/b=n) (b.at (a.put o.dst (u n)) (.inRegion ops rest::k)) cs w'):X0 own (b.at a (.inRegion ops (i::rest)::k)) cs w:=
 LF y A E F λc d=>by
  obtain⟨w',v,g,p,q,r,x⟩:=h c d;have t:cT own c w'=λb=>own b\/b=c.heap.size:=by
   funext H;unfold cT;rw[g,Array.size_push];apply propext;constructor
   ·rintro(h|h)
    ·exact .inl h
    ·exact .inr (by omega)
   ·rintro(h|h)
    ·exact .inl h
    ·exact .inr (by omega)
  have s:∀b:Nat,b<c.heap.size->w'.heap[b]? =c.heap[b]? :=λb f=>by
   rw[g,VB];rw[if_neg (by omega)]
  refine⟨_,w',v,⟨λb f _=>s b f,by rw[g];simp,p,q,r,λ_=>trivial,λe B=>?_⟩,?_⟩
  ·rw[t];exact(x e B).ev (.inr Y) (λb f=>.inl f)
  ·rw[t];refine D c.heap.size w' d.size (by rw[g];simp) ⟨λb f=>?_,by rw[g];simp;have:=d.size;omega,p.trans d.tape,q.trans d.os,r.trans d.output⟩ (by rw[g];simp);rw[<-d.at_ b f];exact s b (Uc (C b f) d.size)
def tP.new{n:Nat}{w':F}(h:tP S own w)(d:w.heap.size<=n)(e:w'.heap.size=n+1):tP S (λb=>own b\/b=n) w':=λb c=>by
 rcases c with c|c|c
 ·have:=h b (.inl c);omega
 ·have:=h b (.inr c);omega
 ·omega
def QZ(j:nP P0 P S m X0)(n:b.kind≠.early)(q:ops[i]? =I o)(s:UF o (Vj ops a.tmps)=Z)
 (h:∀d,RelB (λb=>S b\/own b) w d->∃w',(UH a.eval o).run P d= .ok .skip w'/\mj P0 S own d w' ((UH a.eval o).events P d #[])/\X0 (cT own d w') (b.at (a.put o.dst Vk) (.inRegion ops rest::k)) cs w'):X0 own (b.at a (.inRegion ops (i::rest)::k)) cs w:=
 j.step _ _ _ _ λd r=>by
  obtain⟨w',f,c,g⟩:=h d r;exact⟨_,_,_,_,stepG_none q s n f,⟨c.keep,c.size,c.tape,c.os,c.output,c.hp,λe p=>c.evs e (Conc.mem_listed p)⟩,g⟩
structure zV(S own:Nat->Prop)(n:Nat)(ob:Xv)(w w':F):Prop where
 at_:∀b,S b\/own b->b≠n->w'.heap[b]? =w.heap[b]?
 set:w'.heap[n]? =I ob
 size:w.heap.size<=w'.heap.size
 tape:w'.tape=w.tape
 os:w'.os=w.os
 output:w'.output=w.output
structure xH(n:Nat)(ob:Xv)(w1 w':F):Prop where
 heap:w'.heap=w1.heap.setIfInBounds n ob
 tape:w'.tape=w1.tape
 os:w'.os=w1.os
 output:w'.output=w1.output
def xH.So{n:Nat}{g:Xv}{c w':F}{es:Array Vm}(h:xH n g c w')(j:own n)(u:n<c.heap.size)(y:bn P0 g)(t:∀e∈es,jN n S own e)(d:RelB (λb=>S b\/own b) w c):mj P0 S own c w' es/\cT own c w'=own/\zV S own n g w w':=by
 have x:w'.heap.size=c.heap.size:=by rw[h.heap];simp
 have p:∀b:Nat,b≠n->w'.heap[b]? =c.heap[b]? :=λb f=>by rw[h.heap,UP,if_neg (λe=>f e.symm)]
 have q:cT own c w'=own:=by
  funext A;unfold cT;rw[x];apply propext;constructor
  ·rintro(h|h)
   ·exact h
   ·omega
  ·exact .inl
 refine⟨⟨λb f v=>p b (λe=>v (e▸j)),by omega,h.tape,h.os,h.output,λ_=>trivial,λe r=>?_⟩,q,⟨λb f s=>(p b s).trans (d.at_ b f),by rw[h.heap,UP,if_pos Y,if_pos u],by have:=d.size;omega,h.tape.trans d.tape,h.os.trans d.os,h.output.trans d.output⟩⟩
 ·rw[q];exact(t e r).ev j (λ_ h=>h)
def r8(u:nP P0 P S m X0)(x:tP S own w)(v:b.kind≠.early)(A:ops[i]? =I o)(C:UF o (Vj ops a.tmps)=Z){n:Nat}(g:own n)(f:Xv)(B:bn P0 f)
 (h:∀c,RelB (λb=>S b\/own b) w c->∃w',(UH a.eval o).run P c= .ok .skip w'/\xH n f c w'/\∀e∈(UH a.eval o).events P c #[],jN n S own e)
 (y:∀w',zV S own n f w w'->X0 own (b.at (a.put o.dst Vk) (.inRegion ops rest::k)) cs w'):X0 own (b.at a (.inRegion ops (i::rest)::k)) cs w:=
 QZ u v A C λc d=>by
  obtain⟨w',r,s,t⟩:=h c d;obtain⟨j,p,q⟩:=s.So (P0:=P0) g (Uc (x n (.inr g)) d.size) B t d;exact⟨w',r,j,by rw[p];exact y w' q⟩
def Q0(u:nP P0 P S m X0)(y:tP S own w)(x:b.kind≠.early)(B:ops[i]? =I o)(D:UF o (Vj ops a.tmps)=Z){n:Nat}(g:own n)(f:Xv)(C:bn P0 f)(v:U)
 (h:∀c,RelB (λb=>S b\/own b) w c->∃w',(UH a.eval o).run P c= .ok (.value v) w'/\xH n f c w'/\∀e∈(UH a.eval o).events P c #[],jN n S own e)
 (A:∀w',zV S own n f w w'->X0 own (b.at (a.put o.dst v) (.inRegion ops rest::k)) cs w'):X0 own (b.at a (.inRegion ops (i::rest)::k)) cs w:=
 LF u x B D λc d=>by
  obtain⟨w',r,s,t⟩:=h c d;obtain⟨j,p,q⟩:=s.So (P0:=P0) g (Uc (y n (.inr g)) d.size) C t d;exact⟨v,w',r,j,by rw[p];exact A w' q⟩
def tP.set{n:Nat}{e:Xv}{w':F}(h:tP S own w)(d:zV S own n e w w'):tP S own w':=λb c=>Uc (h b c) d.size
def Ow(q:nP P0 P S m X0)(x:b.kind≠.early){Ph Dn:Nat->Bool}{z:V5}{val:Nat->U}{u:Nat}{a0:V5}(G:oH ops Ph=Z)(v:PC ops Ph u=Z)
 (J:∀(i:Nat) o d,Ph i=Z->ops[i]? =I o->o.dst=I d->d<z.tmps.size/\aW z d=val i)
 (K:∀s,(∀(j:Nat) o,Ph j=Z->ops[j]? =I o->o.dst≠I s)->aW z s=aW a0 s)
 (D:∀i o,Ph i=Z->Dn i=T5->i≠u->ops[i]? =I o->(UF o (Vj ops z.tmps)=Z/\∀c,RelB (λb=>S b\/own b) w c->(UH z.eval o).run P c= .ok (.value (val i)) c/\∀e∈(UH z.eval o).events P c #[],EvW S own e)\/(UF o (Vj ops z.tmps)=T5/\val i=Vk))
 (H:∀f t l a,cH ops Ph a0 z l a->u∈UZ .any ops l->E4 l<=f+1->X0 own (b.at a (.inRegion ops (u::U9 .any ops f t (l.setIfInBounds u Z) [])::k)) cs w)
 (B:(∀i,i<ops.size->Ph i=Z)->X0 own (b.at z (.inRegion ops []::k)) cs w):
 ∀(f t:Nat) (l:Array Bool) (a:V5),cH ops Ph a0 z l a->(∀i,Dn i=Z->l.getD i T5=Z)->E4 l<=f->X0 own (b.at a (.inRegion ops (U9 .any ops f t l [])::k)) cs w:=
 drawn (G:=λl a=>X0 own (b.at a (.inRegion ops l::k)) cs w) G v J K (λi o a L E y C p A r n=>by
  rcases D i o E y C p with⟨g,h⟩|⟨g,h⟩
  ·exact ov q x p (r.trans g) (val i) (λc F=>by rw[A];exact h c F) n
  ·rw[h] at n;exact xS q p (r.trans g) n) H B
end
section
variable {ops:Array Vu}{Ph La:Nat->Bool}{a0 z z':V5}{l:Array Bool}{a:V5}
def cH.TC(c:cH ops Ph a0 z l a){u:Nat}{o:Vu}(y:u∈UZ .any ops l)(f:ops[u]? =I o)(r:∀i,Ph i=Z->La i=Z)(C:La u=Z)(A:z'.tmps.size=z.tmps.size)(x:z'.defers=z.defers)
 (E:∀(i:Nat) o d,Ph i=Z->ops[i]? =I o->o.dst=I d->aW z' d=aW z d) {v:U} (D:∀d,o.dst=I d->d<z'.tmps.size/\aW z' d=v):cH ops La a0 z' (l.setIfInBounds u Z) (a.put o.dst v):=by
 obtain⟨j,g,_,_,t⟩:=mem_ready y;rw[f] at g;cases g;have e:cH ops La a0 z' l a:=⟨c.size,c.closed,λi n=>r i (c.ph i n),c.QF.trans A.symm,c.R6.trans x.symm,λs h=>by
  have B:=h;obtain⟨i,j,e,p,q⟩:=B;rw[E i j s (c.ph i e) p q];exact c.yes s h,c.no⟩
 exact e.next C f t D
def KR(n:Nat):E4 (U3 n T5)<=n:=by
 unfold E4;exact Ux (List.countP_le_length) (by simp)
end
section
variable {P0 P:Ue}{S own:Nat->Prop}{a:V5}{o:Vu}{w w1:F}
def EvW.read{e:Vm}{b:UJ}(h:e.loc= .cell b)(d:e.write=T5)(c:S b.block\/own b.block):EvW S own e:=by
 unfold EvW;rw[h];exact c.elim (λf=>.inr ⟨f,d⟩) .inl
def nY(e:RelB (λb=>S b\/own b) w w1){c:UJ}(d:S c.block\/own c.block):w1.cell? c=w.cell? c:=by
 unfold Ur;rw[e.at_ c.block d]
def bY{t:Ug}{x:U6}{c:UJ}{v:U}(i:o.op= .load t x)(j:a.eval x= .pointer (I c))(f:∀w,(isAgg t).run P w= .ok T5 w)(g:S c.block\/own c.block)(hc:w.cell? c=I v):∀w1,RelB (λb=>S b\/own b) w w1->(UH a.eval o).run P w1= .ok (.value v) w1/\∀e∈(UH a.eval o).events P w1 #[],EvW S own e:=by
 intro w1 k;have h:w1.cell? c=I v:=(nY k g).trans hc;constructor
 ·unfold UH;simp[i,j,Instr.loadAt,Xd,loadVar,f,h]
 ·intro e d;unfold UH at d;simp[i,j,Instr.loadAt,Xd,loadVar,f,h] at d;subst d;exact EvW.read Y Y g
def fh{t:Ug}{x:U6}{c off:Nat}{cs:List U}{d:TypeDesc}(m:o.op= .load t x)(p:a.eval x= .pointer (I ⟨c,off,K⟩))(n:P.underlying t=I d)(A:d.isRow=Z)(l:(P.info? t).map (·.size)=I cs.length)(k:S c\/own c)(hc:w.rangeAt c off cs):∀w1,RelB (λb=>S b\/own b) w w1->(UH a.eval o).run P w1= .ok (.value (.agg cs.toArray)) w1/\∀e∈(UH a.eval o).events P w1 #[],EvW S own e:=by
 intro w1 E;have g:w1.rangeAt c off cs:=λf v i=>(nY E k).trans (hc f v i);have D:=run_loadAt_mid (P:=P) w1 c off t cs d g n A l;constructor
 ·unfold UH;simp[m,p,D]
 ·intro e h;have z:(isAgg t).run P w1= .ok Z w1:=by
   unfold isAgg;rw[WJ,run_underlying n w1];cases d<;>simp_all
  obtain⟨L,C,G⟩:=Wq.1 l;have F:(sizeOf t).run P w1= .ok cs.length w1:=by simp[sizeOf,XC,C,G]
  unfold UH at h;simp only[m,p] at h;have B:e∈(loadCellsFrom ⟨c,off,K⟩ 0 cs.length #[]).events P w1 #[]:=by
   have j:∃q,(loadCells ⟨c,off,K⟩ cs.length).run P w1= .ok q w1:=⟨_,run_loadCells_list (P:=P) w1 ⟨c,off,K⟩ cs (λf v H=>by rw[Xc];exact g f v H)⟩;obtain⟨q,j⟩:=j;simpa [Instr.loadAt,Xd,loadVar,z,F,j,loadCells] using h
  rcases events_loadCellsFrom_at (P:=P) ⟨c,off,K⟩ (λb=>b=c) rfl cs.length 0 #[] w1 #[] (λf i=>by
   rw[Nat.zero_add,Xc,g f cs[f] (Ul i)];rfl) e B with r|⟨J,s,u,y⟩
  ·simp at r
  ·exact EvW.read s u (by rw[y];exact k)
def uD{t:Ug}{x:U6}{v:U}(d:o.op= .box t x)(f:a.eval x=v):∀w1,RelB (λb=>S b\/own b) w w1->∃w',(UH a.eval o).run P w1= .ok (.value (.pointer (I ⟨w1.heap.size,0,K⟩))) w'/\w'.heap=w1.heap.push (.cells v.cells t)/\w'.tape=w1.tape/\w'.os=w1.os/\w'.output=w1.output/\∀e∈(UH a.eval o).events P w1 #[],jN w1.heap.size S own e:=by
 intro w1 g;refine⟨w1.alloc (.cells v.cells t),?_,rfl,rfl,rfl,rfl,?_⟩
 ·unfold UH;simp[d,f,Instr.box,newVar,newRow]
 ·intro e c;unfold UH at c;simp[d,f,Instr.box,newVar,newRow] at c
def sY{t:Ug}{z:U}(d:o.op= .alloc t)(f:∀w,(Wn t).run P w= .ok z w):∀w1,RelB (λb=>S b\/own b) w w1->∃w',(UH a.eval o).run P w1= .ok (.value (.pointer (I ⟨w1.heap.size,0,K⟩))) w'/\w'.heap=w1.heap.push (.cells z.cells t)/\w'.tape=w1.tape/\w'.os=w1.os/\w'.output=w1.output/\∀e∈(UH a.eval o).events P w1 #[],jN w1.heap.size S own e:=by
 intro w1 g;refine⟨w1.alloc (.cells z.cells t),?_,rfl,rfl,rfl,rfl,?_⟩
 ·unfold UH;simp[d,Instr.alloc,f,newVar,newRow]
 ·intro e c;unfold UH at c;simp[d,Instr.alloc,f,newVar,newRow] at c
def vU{n:Nat}{f cs:Array U}{e:Ug}{b:Nat×Nat}(d:w1.heap[n]? =I (.cells f e b)):xH n (.cells cs e b) w1 (w1.setRow n cs):=by
 refine⟨?_,rfl,rfl,rfl⟩;unfold World.setRow;apply Array.ext_getElem?;intro h;simp only[Array.getElem?_modify,UP];by_cases c:n=h
 ·subst c;have g:=(Ua.1 d).1;rw[if_pos Y,if_pos Y,if_pos g,d];rfl
 ·simp[c]
def kY{t:Ug}{x y:U6}{n off:Nat}{v:U}{d:Array U}{e:Ug}(l:o.op= .store t x y)(p:a.eval x= .pointer (I ⟨n,off,K⟩))(q:a.eval y=v)(D:(P.info? t).map (·.size)=I v.cells.size)(h1:∀c∈v.cells.toList,c.oneCell'=Z)(z:S n\/own n)(C:w.heap[n]? =I (.cells d e (0,0)))(j:off+v.cells.size<=d.size):
 ∀w1,RelB (λb=>S b\/own b) w w1->∃w',(UH a.eval o).run P w1= .ok .skip w'/\xH n (.cells (d.toList.take off++v.cells.toList++d.toList.drop (off+v.cells.size)).toArray e (0,0)) w1 w'/\∀f∈(UH a.eval o).events P w1 #[],jN n S own f:=by
 intro w1 E;have g:w1.heap[n]? =I (.cells d e (0,0)):=(E.at_ n z).trans C;obtain⟨F,k,m⟩:=Wq.1 D;have h:=run_storeCells_at P n off e v.cells.toList 0 d w1 g (by simpa using j) h1;have B:=events_storeCells_at (P:=P) n off e v.cells.toList 0 d w1 #[] g (by simpa using j) h1;simp only[Nat.add_zero,V9] at h;refine⟨_,?_,vU g,λf i=>?_⟩
 ·unfold UH;simp[l,p,q,Instr.storeAt,Xd,storeVar,sizeOf,XC,k,m,h]
 ·have A:f∈(storeCells ⟨n,off,K⟩ v.cells.toList 0).events P w1 #[]:=by
   unfold UH at i;simpa [l,p,q,Instr.storeAt,Xd,storeVar,sizeOf,XC,k,m,h] using i
  rcases B f A with s|⟨r,h1,u⟩
  ·simp at s
  ·exact .inr ⟨r,h1,.inl u⟩
def Ca{t e:Ug}{l c:U6}{d:Xg}{z:U}{kl h:Wx}{L C:Nat}(m:o.op= .makeSlice t l c)(k:a.eval l= .int kl (L:Int))(hc:a.eval c= .int h (C:Int))(n:P.underlying t=I (.slice e))(j:P.info? e=I d)(p:d.zero=I z)(v:L<=C)(r:C*d.bytes<=140737488355328)(u:C<=9223372036854775807):
 ∀w1,RelB (λb=>S b\/own b) w w1->∃w',(UH a.eval o).run P w1= .ok (.value (.slice (I ⟨w1.heap.size,0,K⟩) L C)) w'/\w'.heap=w1.heap.push (.cells (madeCells z.cells (C*d.size)) e)/\w'.tape=w1.tape/\w'.os=w1.os/\w'.output=w1.output/\∀e∈(UH a.eval o).events P w1 #[],jN w1.heap.size S own e:=by
 intro w1 x;have i:(d.bytes:Int)*(C:Int)<=281474976710656:=by
  rw[<-Int.natCast_mul,Nat.mul_comm];omega
 have g:=run_make (P:=P) w1 t e d z n j p kl h (L:Int) (C:Int) (by omega) (by omega) i (by omega);have q:=events_make (P:=P) w1 t e d z n j p kl h (L:Int) (C:Int) (by omega) (by omega) i (by omega) (by simpa using r) #[];simp only[Int.toNat_natCast] at g;refine⟨w1.alloc (.cells (madeCells z.cells (C*d.size)) e),?_,rfl,rfl,rfl,rfl,λs f=>?_⟩
 ·unfold UH;simp[m,k,hc,g]
 ·unfold UH at f;simp only[m,k,hc] at f;simp[g,q] at f
def Ef{t e:Ug}{p:ChanDir}{x:U6}{m:Xg}{k:Wx}{n:Nat}(h:o.op= .makeChan t x)(l:a.eval x= .int k (n:Int))(j:P.underlying t=I (.chan p e))(g:P.info? e=I m)(d:(n:Int)<=9223372036854775807)(f:(m.bytes:Int)*n<=281474976710544):
 ∀w1,RelB (λb=>S b\/own b) w w1->∃w',(UH a.eval o).run P w1= .ok (.value (.chan (I w1.heap.size))) w'/\w'.heap=w1.heap.push (.chan n #[] T5 0 0 T5)/\w'.tape=w1.tape/\w'.os=w1.os/\w'.output=w1.output/\∀e∈(UH a.eval o).events P w1 #[],jN w1.heap.size S own e:=by
 intro w1 s;have i:=run_makeChan (P:=P) (w:=w1) j g k n d f;have q:=events_makeChan (P:=P) (w:=w1) j g k n d f #[];refine⟨w1.alloc (.chan n #[] T5 0 0 T5),?_,rfl,rfl,rfl,rfl,λr c=>?_⟩
 ·unfold UH;simp[h,l,i]
 ·unfold UH at c;simp only[h,l] at c;simp[i,q] at c
end
structure Knows(a:V5)(n:Nat)(l:List (Nat×U)):Prop where
 size:a.tmps.size=n
 slot:∀s v,l.lookup s=I v->aW a s=v
def EJ{a:V5}{d:Nat}(c:d<a.tmps.size)(v:U)(s:Nat):aW (a.put (I d) v) s=if d=s then v else aW a s:=by
 unfold aW UW;simp only[UD,UP];by_cases b:d=s
 ·subst b;simp[c]
 ·simp[b]
def size_put(a:V5)(d:Option Nat)(v:U):(a.put d v).tmps.size=a.tmps.size:=by
 unfold UW
 split<;>simp
def Knows.put{a:V5}{n:Nat}{l:List (Nat×U)}(h:Knows a n l){d:Nat}(f:d<n)(v:U):Knows (a.put (I d) v) n ((d,v)::l):=by
 refine⟨(size_put _ _ _).trans h.size,λs g b=>?_⟩;rw[EJ (by rw[h.size];exact f)];simp only[List.lookup_cons] at b;by_cases c:d=s
 ·subst c;simp at b;simp[b]
 ·have:(s==d)=T5:=by simpa using λe=>c e.symm
  rw[this] at b;rw[if_neg c];exact h.slot s g b
def Knows.none{a:V5}{n:Nat}{l:List (Nat×U)}(h:Knows a n l)(v:U):Knows (a.put K v) n l:=h
def Knows.of{a:V5}{n:Nat}{l:List (Nat×U)}(h:Knows a n l){s:Nat}{v:U}(b:l.lookup s=I v):a.eval (.tmp s)=v:=h.slot s v b
section
variable {P:Ue}{a:V5}{o:Vu}
def cg{x:U6}{v:U}(c:o.op= .move x)(d:a.eval x=v):∀b,(UH a.eval o).run P b= .ok (.value v) b/\(UH a.eval o).events P b #[]=#[]:=λb=>by
 unfold UH;simp[c,d]
def kE{x:U6}{v:U}(c:o.op= .assign x)(d:a.eval x=v):∀b,(UH a.eval o).run P b= .ok (.value v) b/\(UH a.eval o).events P b #[]=#[]:=λb=>by
 unfold UH;simp[c,d]
def MV{t:Ug}{x:U6}{f d off:Nat}{e:Array Field}{c:Field}{n:Nat}(h:o.op= .fieldAddr t x f)(k:a.eval x= .pointer (I ⟨d,off,K⟩))(j:P.underlying t=I (.struct e))(g:e[f]? =I c)(i:∀w,(sizeOf c.type).run P w= .ok (n+1) w):
 ∀b,(UH a.eval o).run P b= .ok (.value (.pointer (I ⟨d,off+c.offset,K⟩))) b/\(UH a.eval o).events P b #[]=#[]:=λb=>by
 unfold UH;simp[h,k,Instr.fieldAt,run_underlying j,g,Xd,fieldPlace,i,Xc]
def fG{t e:Ug}{x y:U6}{d off len cap n:Nat}{k:Wx}{i:Nat}(g:o.op= .indexAddr t x y)(l:a.eval x= .slice (I ⟨d,off,K⟩) len cap)(m:a.eval y= .int k (i:Int))(j:P.underlying t=I (.slice e))(h:∀w,(sizeOf e).run P w= .ok n w)(p:i<len):
 ∀b,(UH a.eval o).run P b= .ok (.value (.pointer (I ⟨d,off+i*n,K⟩))) b/\(UH a.eval o).events P b #[]=#[]:=λb=>by
 have f:(i:Int)<(len:Int):=by omega
 unfold UH;simp[g,l,m,Instr.indexAt,asIntOf,run_underlying j,f,h,Xc];exact⟨λc=>absurd c (by omega),λc=>absurd c (by omega)⟩
def sj{t:Ug}{x:U6}{base:Option UJ}{len cap:Nat}{e:Ug}(c:o.op= .call {callee:=.builtin .len,args:= #[x],argTypes:= #[t]})(f:a.eval x= .slice base len cap)(d:P.underlying t=I (.slice e)):
 ∀b,(UH a.eval o).run P b= .ok (.value (.int .i64 (len:Int))) b/\(UH a.eval o).events P b #[]=#[]:=λb=>by
 unfold UH;simp[c,f,X6,invoke,builtin,Builtin.len_,run_underlying d,goInt]
def kF{x:U6}{i:Nat}{vs:Array U}{v:U}(c:o.op= .extract x i)(e:a.eval x= .tuple vs)(d:vs[i]? =I v):∀b,(UH a.eval o).run P b= .ok (.value v) b/\(UH a.eval o).events P b #[]=#[]:=λb=>by
 unfold UH;simp[c,e,Instr.extract,d]
def Ir{x y z:U6}{c:Bool}(d:o.op= .pick x y z)(e:a.eval x= .bool c):∀b,(UH a.eval o).run P b= .ok (.value (if c then a.eval y else a.eval z)) b/\(UH a.eval o).events P b #[]=#[]:=λb=>by
 unfold UH;simp[d,e,asBool]
def Ro{t f:Ug}{x y:U6}{i j:Int}(c:o.op= .binOp .lss t x y f)(d:a.eval x= .int .i64 i)(e:a.eval y= .int .i64 j):∀b,(UH a.eval o).run P b= .ok (.value (.bool (decide (i<j)))) b/\(UH a.eval o).events P b #[]=#[]:=λb=>by
 unfold UH;simp[c,d,e,binOp,eqGuard,Op.intCmp]
def Rn{t f:Ug}{x y:U6}{i j:Int}(c:o.op= .binOp .eql t x y f)(d:a.eval x= .int .i64 i)(e:a.eval y= .int .i64 j):∀b,(UH a.eval o).run P b= .ok (.value (.bool (i==j))) b/\(UH a.eval o).events P b #[]=#[]:=λb=>by
 unfold UH;simp[c,d,e,binOp,eqGuard,Op.intCmp]
def Rp{t f:Ug}{x y:U6}{i j:Int}(c:o.op= .binOp .neq t x y f)(d:a.eval x= .int .i64 i)(e:a.eval y= .int .i64 j):∀b,(UH a.eval o).run P b= .ok (.value (.bool (i !=j))) b/\(UH a.eval o).events P b #[]=#[]:=λb=>by
 unfold UH;simp[c,d,e,binOp,eqGuard,Op.intCmp]
def nN{t f:Ug}{x y:U6}{i j:Nat}(c:o.op= .binOp .add t x y f)(d:a.eval x= .int .i64 (i:Int))(e:a.eval y= .int .i64 (j:Int))(g:i+j<=9223372036854775807):∀b,(UH a.eval o).run P b= .ok (.value (.int .i64 ((i+j:Nat):Int))) b/\(UH a.eval o).events P b #[]=#[]:=λb=>by
 have:XM.wrap ((i:Int)+(j:Int))=((i+j:Nat):Int):=by rw[WX]<;>omega
 unfold UH;simp[c,d,e,binOp,eqGuard,Op.intArith,this]
end
def below(P:Ue):Us:={(default:Us) with fn:=P.funcs.size,mode:=.panicking [goexitEntry]}
section
variable {P0 P:Ue}{S:Nat->Prop}{c:Nat}{own:Nat->Prop}{vs:List U}{cs:List Us}{w:F}{b:Us}{a:V5}{k:List WM}{ops:Array Vu}{i:Nat}{rest:List Nat}{o:Vu}
def N9 {f:V6} {fn:WC} {code:WU} {args:Array U} (e:P.funcs[f]? =I fn) (n:(fn.name == "runtime.NumGoroutine")=T5) (d:fn.body=I code) (h:pH P0 P S c own vs (Uf ((baseD f).at {tmps:=args++U3 (fn.ntmps-args.size) Vk,defers:=[]} [.code code]) [below P]) w):pH P0 P S c own vs (born P (dcall f args)) w:=by
 have q:∀w,UM P T5 (born P (dcall f args)) w= .go (Uf ((baseD f).at {tmps:=args++U3 (fn.ntmps-args.size) Vk,defers:=[]} [.code code]) [below P]) w #[]:=by
  intro w;have j:¬fn.name= "runtime.NumGoroutine" :=by simpa using n
  rw[<-enter_atD args e d];simp[born,UM,Yi,callDeferred,dcall,invoke,callFunc,e,j,d,WQ,seen_none,Uf,below];rfl
 exact KY Y (λg _=>q g) (λr l=>by simp at l) (λg p=>h.rely p)
def IP{ats:Array Ug}{ty:Ug}{co:Array Bool}{fn:WC}{todo:List WM}(v:b.kind= .deferred)(u:a.defers=[{target:=.builtin .close ats ty co,args:= #[.chan (I c)]}])(h:P.funcs[b.fn]? =I fn)(y:fn.results=#[])(x:fn.norace=T5):pH P0 P S c own [] (Uf {b.at a todo with mode:=.returning} [below P]) w:=by
 refine KX (n:=2) (g':=Uf {b.at ⟨a.tmps,[]⟩ todo with mode:=.returning} [below P]) Y ?_ ?_ ?_
 ·refine .inr ⟨rfl,Uf (below P) [],λw=>?_,.inr ⟨rfl,{Uf (below P) [] with status:=.finished},λw=>?_,rfl⟩⟩
  ·simp[Uf,UM,Yi,WY,Frame.at,v,h,UX,y,seen,WQ,below,goexitEntry]
  ·have n:(default:Us).defers=[]:=rfl;have p:(default:Us).todo=[]:=rfl;simp[Uf,UM,Yi,below,Frame.catches,goexitEntry,n,p]
 ·simp[mayWake,Uf,Frame.at]
 ·intro d _ l j s z A e;have q:(invoke (.builtin .close ats ty co) #[.chan (I c)]).run P d= .ok (.value (.tuple #[])) (d.setChan c l j Z s z A):=by
   simp[go_sem,run_close_open _ _ e,World.setChan]
  have r:(invoke (.builtin .close ats ty co) #[.chan (I c)]).events P d #[]=#[⟨.obj c,T5,Z⟩,⟨.obj c,Z,Z⟩]:=by
   simp[go_sem,events_close_open _ _ e]
  have t:seen P b.fn #[⟨.obj c,T5,Z⟩,⟨.obj c,Z,Z⟩]=#[⟨.obj c,T5,Z⟩,⟨.obj c,Z,Z⟩]:=seen_eq (by simp[h,x]) (by intro B g f;simp only[List.mem_toArray,VM,List.not_mem_nil,or_false] at g;rcases g with rfl|rfl<;>simp);simp[Uf,UM,Yi,callDeferred,Frame.at,u,q,r,t,WQ]
def RM{x y:U6}{v:U}(j:b.kind≠.early)(e:ops[i]? =I o)(s:UF o (Vj ops a.tmps)=Z)(f:o.op= .send x y)(g:a.eval x= .chan (I c))(h:a.eval y=v)
 (n:pH P0 P S c own vs (Uf (b.at (a.put o.dst Vk) (.inRegion ops rest::k)) cs) w):pH P0 P S c own (v::vs) (Uf (b.at a (.inRegion ops (i::rest)::k)) cs) w:=by
 have r:Wi (Uf (b.at a (.inRegion ops (i::rest)::k)) cs) Vk=Uf (b.at (a.put o.dst Vk) (.inRegion ops rest::k)) cs:=by
  simp only[Wi,Uf,XG,e];rfl
 refine Oa (g2:=Uf (b.at a (.inRegion ops (i::rest)::k)) cs) (z:=.tuple #[]) Y λd p=>⟨?_,by rw[r];exact n.rely p⟩;have q:(UH a.eval o).run P d= .ok (.comm #[scase c v (.tuple #[])] Z .send) d:=by
  unfold UH;simp[f,g,h,scase]
 have l:(UH a.eval o).events P d #[]=#[]:=by
  unfold UH;simp[f,g,h]
 rw[stepG_comm e s j q];unfold listed;rw[l,seen_none]
end
section
variable {P0 P:Ue}{S:Nat->Prop}{m:Bool}{X0:(Nat->Prop)->Us->List Us->F->Prop}{own:Nat->Prop}{cs:List Us}{w:F}{b:Us}{a:V5}{k:List WM}{ops:Array Vu}{i:Nat}{rest:List Nat}{o:Vu}
def Ov(g:nP P0 P S m X0)(h:b.kind≠.early)(e:ops[i]? =I o)(r:UF o (Vj ops a.tmps)=Z){d:Builtin}{x:U6}{v:U}{ats:Array Ug}(f:o.op= .defer {callee:=.builtin d,args:= #[x],argTypes:=ats})(s:a.eval x=v)
 (n:∀co,X0 own (b.at (UW ⟨a.tmps,{target:=.builtin d ats o.type co,args:= #[v]}::a.defers⟩ o.dst Vk) (.inRegion ops rest::k)) cs w):X0 own (b.at a (.inRegion ops (i::rest)::k)) cs w:=by
 refine kT g (λw=>?_) (n (#[x].map fun| .const _=>Z|_=>T5));have q:(UH a.eval o).run P w= .ok (.defer {target:=.builtin d ats o.type (#[x].map fun| .const _=>Z|_=>T5),args:= #[v]}) w:=by
  unfold UH;simp[f,X6,s];cases x<;>rfl
 have j:(UH a.eval o).events P w #[]=#[]:=by
  unfold UH;simp[f,X6]
 have l:(b.at ⟨a.tmps,{target:=.builtin d ats o.type (#[x].map fun| .const _=>Z|_=>T5),args:= #[v]}::a.defers⟩ (.inRegion ops (i::rest)::k)).finish Vk=b.at (UW ⟨a.tmps,{target:=.builtin d ats o.type (#[x].map fun| .const _=>Z|_=>T5),args:= #[v]}::a.defers⟩ o.dst Vk) (.inRegion ops rest::k):=by rw[XG,e];rfl
 have p:(b.kind==CallKind.early)=T5:=by simpa using h
 rw[stepG_oper e r,<-l];simp[VN,q,j,Uf,Frame.at,p,WQ,seen_none]
end
def fill (a:V5):List (Nat×U)->V5
 | []=>a
 |(c,v)::l=>(fill a l).put (I c) v
theorem kB(a:V5):∀l,(fill a l).tmps.size=a.tmps.size
 | []=>rfl
 |(c,v)::l=>(size_put _ _ _).trans (kB a l)
theorem ey(a:V5):∀l,(fill a l).defers=a.defers
 | []=>rfl
 |(c,v)::l=>ey a l
theorem Knows.fill{a:V5}{n:Nat}{l0:List (Nat×U)}(h:Knows a n l0):∀(l:List (Nat×U)),(l.all λp=>decide (p.1<n))=Z->Knows (fill a l) n (l++l0)
 | [],_=>h
 |(d,v)::l,c=>by
  simp only[List.all_cons,Uv,decide_eq_true_eq] at c;exact(Knows.fill h l c.2).put c.1 v
theorem lZ(a:V5)(s:Nat):∀(l:List (Nat×U)),(l.all λp=>decide (p.1<a.tmps.size))=Z->aW (fill a l) s=(l.lookup s).getD (aW a s)
 | [],_=>rfl
 |(c,v)::l,e=>by
  simp only[List.all_cons,Uv,decide_eq_true_eq] at e;show aW ((fill a l).put (I c) v) s=_;rw[EJ (by rw[kB];exact e.1),lZ a s l e.2,List.lookup_cons];by_cases d:c=s
  ·subst d;simp
  ·have:(s==c)=T5:=by simpa using λf=>d f.symm
   rw[this,if_neg d]
def je (ops:Array Vu)(i:Nat):Option Nat:=(ops[i]?).bind (·.dst)
def gD (ops:Array Vu)(Ph:Nat->Bool)(u n:Nat)(ds:List Nat):Bool:=
 oH ops Ph&&PC ops Ph u&&ds.all (λc=>decide (c<n)&&(UK ops.size).any λa=>Ph a&&je ops a==I c)&&(UK ops.size).all λa=> !Ph a||match je ops a with
  |some c=>ds.contains c
  |none=>Z
theorem rG{s:Nat}:∀{l:List (Nat×U)},(l.map (·.1)).contains s=Z->∃v,l.lookup s=I v
 | [],a=>by simp at a
 |(c,v)::l,a=>by
  simp only[Xw,List.contains_cons,WS] at a;rw[List.lookup_cons];cases d:s==c with
  |true=>exact⟨v,rfl⟩
  |false=>
   rw[d] at a;exact rG (a.resolve_left (by simp))
theorem gP{s:Nat}{v:U}:∀{l:List (Nat×U)},l.lookup s=I v->s∈l.map (·.1)
 | [],a=>by simp at a
 |(d,e)::l,a=>by
  rw[List.lookup_cons] at a;cases c:s==d with
  |true=>simp at c;simp[c]
  |false=>rw[c] at a;simp[gP a]
section
variable {P0 P:Ue}{S:Nat->Prop}{m:Bool}{X0:(Nat->Prop)->Us->List Us->F->Prop}{own:Nat->Prop}{cs:List Us}{w:F}{b:Us}{a0:V5}{k:List WM}{ops:Array Vu}{Ph Dn:Nat->Bool}{u n:Nat}{l l0:List (Nat×U)}
def p8(g:gD ops Ph u n (l.map (·.1))=Z)(t:a0.tmps.size=n):oH ops Ph=Z/\PC ops Ph u=Z/\(l.all λp=>decide (p.1<a0.tmps.size))=Z/\(∀i o d,Ph i=Z->ops[i]? =I o->o.dst=I d->∃v,l.lookup d=I v/\d<a0.tmps.size)/\∀s,(∀(j:Nat) o,Ph j=Z->ops[j]? =I o->o.dst≠I s)->aW (fill a0 l) s=aW a0 s:=by
 unfold gD at g;simp only[Uv] at g;obtain⟨⟨⟨y,z⟩,A⟩,B⟩:=g;have e:=Uy.1 A;have r:(l.all λp=>decide (p.1<a0.tmps.size))=Z:=Uy.2 λp q=>by
  have:=e p.1 (U7.2 ⟨p,q,rfl⟩);simp only[Uv] at this;rw[t];exact this.1
 refine⟨y,z,r,λi o d q a c=>?_,λs C=>?_⟩
 ·have:=Uy.1 B i (Vt.2 (Ua.1 a).1);rw[q] at this;have h:je ops i=o.dst:=by unfold je;rw[a];rfl
  rw[h,c] at this;simp only[Bool.not_true,Bool.false_or] at this;obtain⟨v,x⟩:=rG this;refine⟨v,x,?_⟩;have:=e d (gP x);simp only[Uv,decide_eq_true_eq] at this;rw[t];exact this.1
 ·rw[lZ a0 s l r];cases c:l.lookup s with
  |none=>rfl
  |some v=>
   exfalso
   have:=e s (gP c);simp only[Uv] at this;obtain⟨i,D,f⟩:=List.any_eq_true.1 this.2;simp only[Uv,beq_iff_eq,je] at f;obtain⟨o,a,h⟩:=UR.1 f.2;exact C i o f.1 a h
def kL(H:nP P0 P S m X0)(K:b.kind≠.early)(q:Knows a0 n l0)(L:gD ops Ph u n (l.map (·.1))=Z)
 (T:Knows (fill a0 l) n (l++l0)->∀i o,Ph i=Z->Dn i=T5->i≠u->ops[i]? =I o->∃v,(o.dst.bind λd=>l.lookup d)=I v/\((UF o (Vj ops (fill a0 l).tmps)=Z/\∀h,RelB (λb=>S b\/own b) w h->(UH (fill a0 l).eval o).run P h= .ok (.value v) h/\∀e∈(UH (fill a0 l).eval o).events P h #[],EvW S own e)\/(UF o (Vj ops (fill a0 l).tmps)=T5/\v=Vk)))
 (U:∀o,ops[u]? =I o->∀g t c a,cH ops Ph a0 (fill a0 l) c a->u∈UZ .any ops c->E4 c<=g+1->(∀s∈o.looksAt ops,aW a s=aW (fill a0 l) s)->UF o (Vj ops a.tmps)=UF o (Vj ops (fill a0 l).tmps)->X0 own (b.at a (.inRegion ops (u::U9 .any ops g t (c.setIfInBounds u Z) [])::k)) cs w)
 (N:(∀i,i<ops.size->Ph i=Z)->Knows (fill a0 l) n (l++l0)->X0 own (b.at (fill a0 l) (.inRegion ops []::k)) cs w):
 ∀(g t:Nat) (c:Array Bool) (a:V5),cH ops Ph a0 (fill a0 l) c a->(∀i,Dn i=Z->c.getD i T5=Z)->E4 c<=g->X0 own (b.at a (.inRegion ops (U9 .any ops g t c [])::k)) cs w:=by
 obtain⟨j,F,z,G,p⟩:=p8 (a0:=a0) L q.size;have A:=q.fill l (by rw[<-q.size];exact z);refine Ow H K (val:=λi=>((je ops i).bind λd=>l.lookup d).getD Vk) j F (λi o d x f C=>?_) p (λi o x M O f=>?_) (λg t c a r D R=>?_) (λJ=>N J A)
 ·obtain⟨v,y,Q⟩:=G i o d x f C;have e:je ops i=I d:=by unfold je;rw[f];exact C
  refine⟨by rw[kB];exact Q,?_⟩;rw[lZ a0 d l z,e];simp[y]
 ·obtain⟨v,y,E⟩:=T A i o x M O f;have e:je ops i=o.dst:=by unfold je;rw[f];rfl
  rw[e,y];exact E
 ·obtain⟨o,f,_,_,B⟩:=mem_ready D;exact U o f g t c a r D R (r.looks j p f B) (r.exec j p f B).2
def cH.Ic{La:Nat->Bool}{g:Array Bool}{a:V5}{o:Vu}{l2:List (Nat×U)}(B:cH ops Ph a0 (fill a0 l) g a)(F:u∈UZ .any ops g)(E:ops[u]? =I o)(e:a0.tmps.size=n)(z:gD ops Ph u n (l.map (·.1))=Z)(h:((l2++l).all λp=>decide (p.1<n))=Z)
 (y:∀i,Ph i=Z->La i=Z) (G:La u=Z) (A:((UK ops.size).all λi=> !Ph i||match je ops i with|some d=> !(l2.map (·.1)).contains d|none=>Z)=Z) {v:U} (H:∀d,o.dst=I d->(l2++l).lookup d=I v):cH ops La a0 (fill a0 (l2++l)) (g.setIfInBounds u Z) (a.put o.dst v):=by
 obtain⟨J,L,x,M,N⟩:=p8 (a0:=a0) z e;have j:((l2++l).all λp=>decide (p.1<a0.tmps.size))=Z:=by rw[e];exact h
 refine B.TC F E y G (by rw[kB,kB]) (by rw[ey,ey]) (λi O d f r c=>?_) (λd c=>?_)
 ·rw[lZ a0 d _ j,lZ a0 d l x];have:=Uy.1 A i (Vt.2 (Ua.1 r).1);have s:je ops i=I d:=by unfold je;rw[r];exact c
  rw[f,s] at this;simp only[Bool.not_true,Bool.false_or,WO] at this;have D:l2.lookup d=K:=by
   cases t:l2.lookup d with
   |none=>rfl
   |some Q=>
    have:=List.contains_iff_mem.2 (gP t);simp_all
  rw[List.lookup_append,D];rfl
 ·have q:=H d c;refine⟨?_,by rw[lZ a0 d _ j,q];rfl⟩;rw[kB,e];have:=Uy.1 h;have C:=gP q;obtain⟨p,f,rfl⟩:=U7.1 C;simpa using this p f
def under(ops:Array Vu):Nat->List Nat->List Nat
 |0,l=>l
 |n+1,l=>l++under ops n (l.flatMap λc=>match ops[c]? with
  |some d=>(d.after.toList.filter λa=>Vn .any a).map (·.on)
  |none=>[])
theorem tJ{z:V5}{o:Array Bool}{a:V5}(p:cH ops Ph a0 z o a):∀(n:Nat) (l:List Nat),(∀i∈l,o.getD i T5=Z)->∀j∈under ops n l,o.getD j T5=Z
 |0,l,e,j,c=>e j c
 |n+1,l,e,j,c=>by
  rcases List.mem_append.1 c with c|c
  ·exact e j c
  ·refine tJ p n _ (λi d=>?_) j c;obtain⟨h,r,d⟩:=List.mem_flatMap.1 d;cases g:ops[h]? with
   |none=>rw[g] at d;simp at d
   |some t=>
    rw[g] at d;obtain⟨q,f,rfl⟩:=U7.1 d;obtain⟨f,s⟩:=List.mem_filter.1 f;exact p.closed h t (e h r) g q (by simpa using f) s
def gF{z:V5}{f:Array Bool}{a:V5}(g:cH ops Ph a0 z f a)(y:u∈UZ .any ops f){j:Nat}(s:((UK ops.size).all λi=> !Dn i||i==u||(under ops j (match ops[u]? with
 |some o=>(o.after.toList.filter λe=>Vn .any e).map (·.on)
 |none=>[])).contains i)=Z) (p:∀i,Dn i=Z->i<ops.size):∀i,Dn i=Z->(f.setIfInBounds u Z).getD i T5=Z:=by
 intro i h;obtain⟨o,x,v,_,q⟩:=mem_ready y;rw[kX (by rw[g.size];exact v)];have:=Uy.1 s i (Vt.2 (p i h));rw[h,x] at this;simp only[Bool.not_true,Bool.false_or,WS,beq_iff_eq] at this;rcases this with c|c
 ·simp[c]
 ·rw[tJ g _ _ (λA t=>by
   obtain⟨e,d,rfl⟩:=U7.1 t;obtain⟨d,r⟩:=List.mem_filter.1 d;exact q e (by simpa using d) r) i (List.contains_iff_mem.1 c)]
  simp
def qB(e:nP P0 P S m X0){id:Nat}(f:P.follows .mixedOrders=Z)(h:∀(d t:Nat) (c:Array Bool) (a:V5),cH ops Ph a0 (fill a0 l) c a->(∀i,(λ_=>T5) i=Z->c.getD i T5=Z)->E4 c<=d->X0 own (b.at a (.inRegion ops (U9 .any ops d t c [])::k)) cs w):X0 own (b.at a0 (.code (.region id ops Z)::k)) cs w:=
 QY e f λt=>h _ t _ _ (cH.start a0 _ (kB _ _).symm (ey _ _).symm) (λi h=>by cases h) (KR _)
def Pb{a:Array Bool}(h:∀i,i<ops.size->a.getD i T5=Z):∀d t,U9 .any ops d t a []=[]:=by
 have o:UZ .any ops a=[]:=by
  refine List.eq_nil_iff_forall_not_mem.2 λi g=>?_;obtain⟨p,_,j,e,_⟩:=mem_ready g;have c:=h i j;simp only[UD] at c e;cases f:a[i]? with
  |none=>rw[f] at c;cases c
  |some b=>rw[f] at c e;simp at c e;rw[c] at e;cases e
 intro d t;cases d with
 |zero=>rfl
 |succ d=>
  simp only[U9];change (match (UZ .any ops a)[t%(UZ .any ops a).length]? with
   |some i=>U9 .any ops d (t/(UZ .any ops a).length) (a.setIfInBounds i Z) [i]
   |none=>[].reverse)=[]
  rw[o];rfl
def n8{c:Array Bool}{a:V5}(e:cH ops Ph a0 (fill a0 l) c a)(r:u∈UZ .any ops c)(s:Ph u=T5)(q:a0.tmps.size=n)(h:gD ops Ph u n (l.map (·.1))=Z)(d:∀i,i<ops.size->(c.setIfInBounds u Z).getD i T5=Z):a=fill a0 l/\∀f t,U9 .any ops f t (c.setIfInBounds u Z) []=[]:=by
 obtain⟨v,x,y,z,g⟩:=p8 (a0:=a0) h q;obtain⟨_,_,p,_,_⟩:=mem_ready r;refine⟨e.QS g s λi j o=>?_,Pb d⟩;have:=d i j;rw[kX (by rw[e.size];exact p)] at this;simpa [o] using this
end
def RelB.mono{B B':Nat->Prop}{w w1:F}(h:RelB B w w1)(c:∀b,B' b->B b):RelB B' w w1:=⟨λb d=>h.at_ b (c b d),h.size,h.tape,h.os,h.output⟩
section
variable {P0 P:Ue}{Post:U->F->Prop}{S O:Nat->Prop}{μ:Nat->Option (List U)}{cs:List Us}{w:F}{b:Us}{a:V5}{k:List WM}{ops:Array Vu}{i:Nat}{rest:List Nat}{o:Vu}
def kr.rely{w1:F}{g:UL}(h:kr P0 P Post S O μ g w)(c:RelB (λb=>S b\/O b) w w1):kr P0 P Post S O μ g w1:=by
 obtain⟨d,h⟩:=h;exact⟨d,h.j6 c⟩
def Bj(v:U)(c:ops[i]? =I o):Wi (Uf (b.at a (.inRegion ops (i::rest)::k)) cs) v=Uf (b.at (a.put o.dst v) (.inRegion ops rest::k)) cs:=by
 simp only[Wi,Uf,XG,c];rfl
def Br{m:Bool}{t e:Ug}{j:ChanDir}{x:U6}{c:Nat}{z:U}(l:b.kind≠.early)(p:ops[i]? =I o)(r:UF o (Vj ops a.tmps)=Z)(d:o.op= .recv t x Z)(f:P.underlying t=I (.chan j e))(h:∀w,(Wn e).run P w= .ok z w)(s:∀w,(Wn e).events P w #[]=#[])(g:a.eval x= .chan (I c))(w:F):
 UM P m (Uf (b.at a (.inRegion ops (i::rest)::k)) cs) w= .comm (Uf (b.at a (.inRegion ops (i::rest)::k)) cs) #[rcase c z] Z (.recv Z) w #[]:=by
 have q:(UH a.eval o).run P w= .ok (.comm #[rcase c z] Z (.recv Z)) w:=by
  unfold UH;simp[d,g,run_underlying f,h,rcase]
 have n:(UH a.eval o).events P w #[]=#[]:=by
  unfold UH;simp[d,g,run_underlying f,h,s]
 rw[stepG_comm p r l q];unfold listed;rw[n,seen_none]
def Re{t e:Ug}{f:ChanDir}{x:U6}{c:Nat}{z v:U}{l:List U}(g:b.kind≠.early)(d:ops[i]? =I o)(p:UF o (Vj ops a.tmps)=Z)(j:o.op= .recv t x Z)(n:P.underlying t=I (.chan f e))(r:∀w,(Wn e).run P w= .ok z w)(s:∀w,(Wn e).events P w #[]=#[])(q:a.eval x= .chan (I c))(u:μ c=I (v::l))
 (h:kr P0 P Post S O (gb μ c (I l)) (Uf (b.at (a.put o.dst (recvd Z v Z)) (.inRegion ops rest::k)) cs) w):kr P0 P Post S O μ (Uf (b.at a (.inRegion ops (i::rest)::k)) cs) w:=
 MN (g2:=Uf (b.at a (.inRegion ops (i::rest)::k)) cs) (z:=z) u ⟨rfl,rfl,rfl⟩ λw1 m=>⟨Br g d p j n r s q w1,by rw[Bj _ d];exact h.rely m⟩
def Rf{t e:Ug}{f:ChanDir}{x:U6}{c:Nat}{z:U}(g:b.kind≠.early)(d:ops[i]? =I o)(n:UF o (Vj ops a.tmps)=Z)(j:o.op= .recv t x Z)(m:P.underlying t=I (.chan f e))(q:∀w,(Wn e).run P w= .ok z w)(r:∀w,(Wn e).events P w #[]=#[])(p:a.eval x= .chan (I c))(s:μ c=I [])
 (h:kr P0 P Post S O (gb μ c K) (Uf (b.at (a.put o.dst (recvd Z z T5)) (.inRegion ops rest::k)) cs) w):kr P0 P Post S O μ (Uf (b.at a (.inRegion ops (i::rest)::k)) cs) w:=
 MO (g2:=Uf (b.at a (.inRegion ops (i::rest)::k)) cs) (z:=z) s ⟨rfl,rfl,rfl⟩ λw1 l=>⟨Br g d n j m q r p w1,by rw[Bj _ d];exact h.rely l⟩
def Pd{f:V6}{d:Array U6}{ats:Array Ug}{args:Array U}{c cap:Nat}{vs:List U}(q:b.kind≠.early)(u:ops[i]? =I o)(x:UF o (Vj ops a.tmps)=Z)(g:o.op= .go {callee:=.value (.func f),args:=d,argTypes:=ats})(n:d.map a.eval=args)(l:O c)(t:vs.length<=cap)(y:μ c=K)(hc:w.heap[c]? =I (.chan cap #[] T5 0 0 T5))
 (m:∀w1,RelB (λb=>S b\/O b) w w1->pH P0 P S c (λ_=>False) vs (born P (dcall f args)) w1)
 (s:kr P0 P Post S (λb=>O b/\b≠c) (gb μ c (I vs)) (Uf (b.at (a.put o.dst Vk) (.inRegion ops rest::k)) cs) w):kr P0 P Post S O μ (Uf (b.at a (.inRegion ops (i::rest)::k)) cs) w:=by
 have e:a.eval (.func f)= .func (.func f) #[] #[]:=rfl;refine JP l t y hc λw1 j=>⟨_,_,?_,rfl,m w1 j,s.rely (j.mono λb p=>p.imp (λh=>h) (λh=>h.1))⟩;have v:(UH a.eval o).run P w1= .ok (.spawn (dcall f args)) w1:=by
  unfold UH;simp[g,X6,XN,e,dcall,n]
 have r:(UH a.eval o).events P w1 #[]=#[]:=by
  unfold UH;simp[g,X6,XN,e]
 rw[stepG_spawn u x q v Y];unfold listed;rw[r,seen_none]
end
section
variable {P0 P:Ue}{S own:Nat->Prop}{a:V5}{o:Vu}{w w1:F}
def JW{t e:Ug}{i:Xg}{z:U}{x y:U6}{g L C:Nat}{f:Array U}{d:UJ}{c:Nat}{news:List U}(B:o.op= .call {callee:=.builtin .append,args:= #[x,y],argTypes:= #[t,t]})(H:a.eval x= .slice (I ⟨g,0,K⟩) L C)(J:a.eval y= .slice (I d) 1 c)
 (G:P.underlying t=I (.slice e)) (v:P.info? e=I i) (am:i.zero=I z) (W:w.heap[g]? =I (.cells f e (0,0))) (X:S g\/own g) (r:S d.block\/own d.block) (p:news.length=i.size) (ad:∀j u,news[j]? =I u->w.cell? (d.add j)=I u) (Q:∀j,(d.add j).block=d.block) (h1:∀u∈news,u.oneCell'=Z)
 (E:L+1<=C) (F:f.size=C*i.size) (ao:C<=1000000) (R:i.bytes<=1000):
 ∀w1,RelB (λb=>S b\/own b) w w1->∃w',(UH a.eval o).run P w1= .ok (.value (.slice (I ⟨g,0,K⟩) (L+1) C)) w'/\xH g (.cells (f.toList.take (L*i.size)++news++f.toList.drop (L*i.size+news.length)).toArray e (0,0)) w1 w'/\∀l∈(UH a.eval o).events P w1 #[],jN g S own l:=by
 intro w1 D;have n:w1.heap[g]? =I (.cells f e (0,0)):=(D.at_ g X).trans W;have A:∀j u,news[j]? =I u->w1.cell? (d.add j)=I u:=λj u aa=>(nY D (by rw[Q];exact r)).trans (ad j u aa);have V:L*i.size+news.length<=f.size:=by
  rw[F,p];have:=Nat.mul_le_mul_right i.size E;rw[Nat.add_mul,Nat.one_mul] at this;exact this
 have al:=run_append_room (P:=P) (w:=w1) t o.type e i G v g L C f n d 1 c news (by rw[p,Nat.one_mul]) A h1 E V;have ap:1000000<=Up:=by decide
 have ae:w1.ownsRow 0 e i.size (.slice (I ⟨g,0,K⟩) L C) L (f.toList.take (L*i.size)):=by
  refine⟨?_,.inr ⟨g,C,f,rfl,UE _,n,by omega,?_,F,rfl⟩⟩
  ·rw[Vs,V9];omega
  ·omega
 have T:=events_append_where (P:=P) w1 0 t o.type e i z i.size i.bytes G v am Y Y (.slice (I ⟨g,0,K⟩) L C) L _ ae d 1 c news (by rw[p,Nat.one_mul]) A h1 (by omega) (by
  have:(L+1)*i.bytes<=1000000*1000:=Nat.mul_le_mul (by omega) R;omega)
 refine⟨_,?_,vU n,λl s=>?_⟩
 ·unfold UH;simp[B,H,J,X6,invoke,builtin,al]
 ·rw[events_append_op x y t B H J] at s;rcases T l s with⟨q,h1,h⟩|⟨m,rfl,ab⟩
  ·rcases h with⟨h,N⟩|h
   ·refine .inr ⟨q,h1,?_⟩;rw[N];exact .inr (r.elim (λM=>.inr ⟨M,h⟩) .inl)
   ·refine .inr ⟨q,h1,.inl ?_⟩;simpa [Vz] using h
  ·exact .inl ⟨m,rfl,ab⟩
def JX{t e:Ug}{i:Xg}{h j l v0 v1 v2:U}{x:U6}(p:o.op= .buildSlice t 1 #[(0,x)])(s:a.eval x= .agg #[v0,v1,v2])(r:P.underlying t=I (.slice e))(n:P.info? e=I i)(u:i.zero=I (.agg #[h,j,l]))(c:i.size=3):
 ∀w1,RelB (λb=>S b\/own b) w w1->∃w',(UH a.eval o).run P w1= .ok (.value (.slice (I ⟨w1.heap.size,0,K⟩) 1 1)) w'/\w'.heap=w1.heap.push (.cells #[v0,v1,v2] e)/\w'.tape=w1.tape/\w'.os=w1.os/\w'.output=w1.output/\∀m∈(UH a.eval o).events P w1 #[],jN w1.heap.size S own m:=by
 intro w1 A;have g:X7 (λd=>I (d*i.size,i.size)) ((Yp (1*i.size)).map ((Value.agg #[h,j,l]).cells[· % (Value.agg #[h,j,l]).cells.size]!)) #[(0,Value.agg #[v0,v1,v2])].toList=I #[v0,v1,v2]:=by
  rw[c];simp[X7,Value.cells,Yp,Array.zipIdx];apply Array.ext
  ·simp
  ·intro d z v;simp at v;have:d=0\/d=1\/d=2:=by omega
   rcases this with rfl|rfl|rfl<;>simp
 have q:=run_buildSlice (P:=P) w1 t e 1 #[(0,.agg #[v0,v1,v2])] #[v0,v1,v2] i _ r n u (by rw[c];decide) (by rw[c];decide) g;refine⟨w1.alloc (.cells #[v0,v1,v2] e),?_,rfl,rfl,rfl,rfl,λm f=>?_⟩
 ·unfold UH;simp[p,s,q]
 ·have y:(XO t 1 #[(0,.agg #[v0,v1,v2])]).events P w1 #[]=#[]:=by
   simp only[List.toArray,Nat.one_mul,c] at g;simp[XO,run_underlying r,sizeOf,XC,Wn,n,u,c,g,newRow]
  unfold UH at f;simp only[p] at f;simp[s,q,y] at f
end
def put_defers(a:V5)(d:Option Nat)(v:U):(a.put d v).defers=a.defers:=by
 unfold UW
 split<;>rfl
def Knows.nil{a:V5}{n:Nat}{l:List (Nat×U)}(h:Knows a n l):Knows a n []:=⟨h.size,λs v c=>by simp at c⟩
def Knows.defer{a:V5}{n:Nat}{l:List (Nat×U)}(h:Knows a n l)(ds:List Wj)(v:U):Knows (UW ⟨a.tmps,ds⟩ K v) n l:=⟨h.size,h.slot⟩
def Knows.cons{a:V5}{n:Nat}{l:List (Nat×U)}(h:Knows a n l){s:Nat}{v:U}(f:aW a s=v):Knows a n ((s,v)::l):=⟨h.size,λe g c=>by
 rw[List.lookup_cons] at c;cases d:e==s with
 |true=>
  rw[d] at c;cases c;rw[beq_iff_eq] at d;rw[d];exact f
 |false=>rw[d] at c;exact h.slot e g c⟩
def Knows.four{a:V5}{n:Nat}{l:List (Nat×U)}(h:Knows a n l){c d e f:Nat}{v1 v2 g j:U}(h1:l.lookup c=I v1)(p:l.lookup d=I v2)(q:l.lookup e=I g)(r:l.lookup f=I j):Knows a n [(c,v1),(d,v2),(e,g),(f,j)]:=(((h.nil.cons (h.slot f _ r)).cons (h.slot e _ q)).cons (h.slot d _ p)).cons (h.slot c _ h1)
section
variable {P0 P:Ue}{S:Nat->Prop}{m:Bool}{X0:(Nat->Prop)->Us->List Us->F->Prop}{own:Nat->Prop}{cs:List Us}{w:F}{b:Us}{a:V5}{k:List WM}{ops:Array Vu}
def bq(c:nP P0 P S m X0){id:Nat}(l:List Nat)(e:UK ops.size=l)(d:X0 own (b.at a (.inRegion ops l::k)) cs w):X0 own (b.at a (.code (.region id ops T5)::k)) cs w:=LD c (by rw[e];exact d)
variable {i:Nat}{rest:List Nat}{o:Vu}
def q9(g:nP P0 P S m X0){n:Nat}{l:List (Nat×U)}(f:Knows a n l)(s:ops[i]? =I o)(v:U)(h:∀c,RelB (λb=>S b\/own b) w c->(UH a.eval o).run P c= .ok (.value v) c/\∀e∈(UH a.eval o).events P c #[],EvW S own e){d:Nat}
 (q:Knows (a.put (I d) v) n ((d,v)::l)->X0 own (b.at (a.put (I d) v) (.inRegion ops rest::k)) cs w) (p:o.dst=I d:=by rfl) (r:d<n:=by decide) (j:b.kind≠.early:=by decide) (t:UF o (Vj ops a.tmps)=Z:=by rfl):X0 own (b.at a (.inRegion ops (i::rest)::k)) cs w:=
 ov g j s t v h (by rw[p];exact q (f.put r v))
def dB(f:nP P0 P S m X0){n:Nat}{l:List (Nat×U)}(e:Knows a n l)(r:ops[i]? =I o)(v:U)(h:∀c,(UH a.eval o).run P c= .ok (.value v) c/\(UH a.eval o).events P c #[]=#[]){d:Nat}
 (p:Knows (a.put (I d) v) n ((d,v)::l)->X0 own (b.at (a.put (I d) v) (.inRegion ops rest::k)) cs w) (j:o.dst=I d:=by rfl) (q:d<n:=by decide) (g:b.kind≠.early:=by decide) (s:UF o (Vj ops a.tmps)=Z:=by rfl):X0 own (b.at a (.inRegion ops (i::rest)::k)) cs w:=
 mB f g r s v h (by rw[j];exact p (e.put q v))
def cG(e:nP P0 P S m X0){n:Nat}{l:List (Nat×U)}(c:Knows a n l){d s:Nat}{v:U}(h:Knows (a.put (I d) v) n ((d,v)::l)->X0 own (b.at (a.put (I d) v) (.inRegion ops rest::k)) cs w)(q:ops[i]? =I o:=by rfl)(r:o.op= .move (.tmp s):=by rfl)(j:l.lookup s=I v:=by rfl)(g:o.dst=I d:=by rfl)(p:d<n:=by decide)(f:b.kind≠.early:=by decide)(t:UF o (Vj ops a.tmps)=Z:=by rfl):X0 own (b.at a (.inRegion ops (i::rest)::k)) cs w:=
 dB e c q v (cg r (c.of j)) h g p f t
def gW(e:nP P0 P S m X0){n:Nat}{l:List (Nat×U)}(c:Knows a n l){d s:Nat}{v:U}(h:Knows (a.put (I d) v) n ((d,v)::l)->X0 own (b.at (a.put (I d) v) (.inRegion ops rest::k)) cs w)(q:ops[i]? =I o:=by rfl)(r:o.op= .assign (.tmp s):=by rfl)(j:l.lookup s=I v:=by rfl)(g:o.dst=I d:=by rfl)(p:d<n:=by decide)(f:b.kind≠.early:=by decide)(t:UF o (Vj ops a.tmps)=Z:=by rfl):X0 own (b.at a (.inRegion ops (i::rest)::k)) cs w:=
 dB e c q v (kE r (c.of j)) h g p f t
def mZ(e:nP P0 P S m X0){n:Nat}{l:List (Nat×U)}(c:Knows a n l){d:Nat}(v:U)(h:Knows (a.put (I d) v) n ((d,v)::l)->X0 own (b.at (a.put (I d) v) (.inRegion ops rest::k)) cs w)(p:ops[i]? =I o:=by rfl)(q:o.op= .assign (.const v):=by rfl)(g:o.dst=I d:=by rfl)(j:d<n:=by decide)(f:b.kind≠.early:=by decide)(r:UF o (Vj ops a.tmps)=Z:=by rfl):X0 own (b.at a (.inRegion ops (i::rest)::k)) cs w:=
 dB e c p v (kE q Y) h g j f r
def rf(e:nP P0 P S m X0){n:Nat}{l:List (Nat×U)}(c:Knows a n l){d s j:Nat}{vs:Array U}{v:U}(h:Knows (a.put (I d) v) n ((d,v)::l)->X0 own (b.at (a.put (I d) v) (.inRegion ops rest::k)) cs w)(r:ops[i]? =I o:=by rfl)(t:o.op= .extract (.tmp s) j:=by rfl)(p:l.lookup s=I (.tuple vs):=by rfl)(u:vs[j]? =I v:=by rfl)(g:o.dst=I d:=by rfl)(q:d<n:=by decide)(f:b.kind≠.early:=by decide)(x:UF o (Vj ops a.tmps)=Z:=by rfl):X0 own (b.at a (.inRegion ops (i::rest)::k)) cs w:=
 dB e c r v (kF t (c.of p) u) h g q f x
end
section
variable {P:Ue}{a:V5}{o:Vu}
def di{t:Ug}{x:U6}{f e off off':Nat}{g:Array Field}{c:Field}{n:Nat}(l:o.op= .fieldAddr t x f)(r:a.eval x= .pointer (I ⟨e,off,K⟩))(q:P.underlying t=I (.struct g))(h:g[f]? =I c)(p:∀w,(sizeOf c.type).run P w= .ok (n+1) w)(j:off+c.offset=off'):
 ∀d,(UH a.eval o).run P d= .ok (.value (.pointer (I ⟨e,off',K⟩))) d/\(UH a.eval o).events P d #[]=#[]:=by
 subst j;exact MV l r q h p
def yL{x y z:U6}{v:U}(d:o.op= .pick x y z)(f:a.eval x= .bool Z)(e:a.eval y=v):∀c,(UH a.eval o).run P c= .ok (.value v) c/\(UH a.eval o).events P c #[]=#[]:=by
 subst e;exact Ir d f
def yK{x y z:U6}{v:U}(d:o.op= .pick x y z)(f:a.eval x= .bool T5)(e:a.eval z=v):∀c,(UH a.eval o).run P c= .ok (.value v) c/\(UH a.eval o).events P c #[]=#[]:=by
 subst e;exact Ir d f
def jw{t h:Ug}{x y:U6}{i j:Int}{c:Bool}(e:o.op= .binOp .lss t x y h)(f:a.eval x= .int .i64 i)(g:a.eval y= .int .i64 j)(hc:decide (i<j)=c):∀d,(UH a.eval o).run P d= .ok (.value (.bool c)) d/\(UH a.eval o).events P d #[]=#[]:=by
 subst hc;exact Ro e f g
def qJ{t h:Ug}{x y:U6}{i j:Int}{c:Bool}(e:o.op= .binOp .neq t x y h)(f:a.eval x= .int .i64 i)(g:a.eval y= .int .i64 j)(hc:(i !=j)=c):∀d,(UH a.eval o).run P d= .ok (.value (.bool c)) d/\(UH a.eval o).events P d #[]=#[]:=by
 subst hc;exact Rp e f g
end
structure Lh(S O O':Nat->Prop)(w w':F):Prop where
 sub:∀b,O b->O' b
 new:∀b,O' b->O b\/w.heap.size<=b
 rel:RelB (λb=>S b\/O b) w w'
 inr:tP S O' w'
def j5{P:Ue}{fn:WC}{a:V5}{t:Nat}{v:U}(d:fn.results=#[.tmp t])(c:aW a t=v):(∀w,(UX fn a.tmps).run P w= .ok v w)/\∀w,(UX fn a.tmps).events P w #[]=#[]:=by
 unfold aW at c;rw[UD] at c;constructor<;>intro w<;>simp[UX,d,c]
def gH{P:Ue}{fn:WC}{a:V5}{t u:Nat}{v x:U}(e:fn.results=#[.tmp t,.tmp u])(c:aW a t=v)(d:aW a u=x):(∀w,(UX fn a.tmps).run P w= .ok (.tuple #[v,x]) w)/\∀w,(UX fn a.tmps).events P w #[]=#[]:=by
 unfold aW at c d;rw[UD] at c d;constructor<;>intro w<;>simp[UX,e,c,d]
end Cc
namespace Ec
open Go.RowKit Pk Pm
def px (cs:List bK):Prop:=∀a (b:a<cs.length),cs[a].name=nameOf a/\(cs[a].kind=1\/cs[a].kind=2\/cs[a].kind=3)
def px.snoc{cs:List bK}(h:px cs){k:Int}(c:k=1\/k=2\/k=3):px (cs++[⟨nameOf cs.length,k⟩]):=by
 intro a b;rw[List.getElem_append]
 split
 ·exact h a _
 ·have:a=cs.length:=by simp at b;omega
  subst this;simpa using c
def lO (x:Int):Prop:= -9223372036854775808<=x/\x<=9223372036854775807
def Td (fn:WC):WU:=match fn.body with|some (.seq _ (.seq _ (.seq a _)))=>a|_=>.skip
def SQ (fn:WC):WU:=match fn.body with|some (.seq _ (.seq _ (.seq _ (.seq a _))))=>a|_=>.skip
def Tf (fn:WC):WU:=match fn.body with|some (.seq _ (.seq _ (.seq _ (.seq _ (.seq a _)))))=>a|_=>.skip
def Te (fn:WC):WU:=match fn.body with|some (.seq _ (.seq _ (.seq _ (.seq _ (.seq _ (.seq a _))))))=>a|_=>.skip
def Tg (fn:WC):WU:=match fn.body with|some (.seq _ (.seq _ (.seq _ (.seq _ (.seq _ (.seq _ (.seq a _)))))))=>a|_=>.skip
def Ak{a:V5}{n s:Nat}{v:U}(h:a.tmps.size=n)(b:Cc.aW a s=v):Cc.Knows a n [(s,v)]:=Cc.Knows.cons (l:=[]) ⟨h,λs v h=>by simp at h⟩ b
def pV (v:Nat->U):V5:=⟨#[v 0,v 1,v 2,v 3,v 4,v 5,v 6,v 7,v 8,v 9,v 10,v 11,v 12,v 13,v 14,v 15,v 16,v 17,v 18,v 19,v 20,v 21,v 22,v 23,v 24,v 25,v 26,v 27,v 28,v 29,v 30,v 31,v 32,v 33,v 34,v 35,v 36,v 37,v 38,v 39,v 40,v 41,v 42,v 43,v 44,v 45,v 46,v 47,v 48,v 49,v 50,v 51,v 52,v 53,v 54,v 55,v 56,v 57,v 58,v 59,v 60,v 61,v 62,v 63,v 64,v 65,v 66,v 67,v 68,v 69,v 70,v 71,v 72,v 73,v 74,v 75,v 76,v 77,v 78,v 79,v 80,v 81,v 82,v 83,v 84,v 85,v 86,v 87,v 88,v 89,v 90,v 91,v 92,v 93,v 94,v 95,v 96,v 97,v 98,v 99,v 100,v 101,v 102,v 103,v 104,v 105,v 106,v 107,v 108,v 109,v 110,v 111,v 112,v 113,v 114,v 115,v 116,v 117,v 118,v 119,v 120,v 121,v 122,v 123,v 124,v 125,v 126,v 127,v 128,v 129,v 130,v 131,v 132,v 133,v 134,v 135,v 136,v 137,v 138,v 139,v 140,v 141,v 142,v 143,v 144,v 145,v 146,v 147,v 148,v 149,v 150,v 151,v 152,v 153,v 154,v 155],[]⟩
abbrev Sr(v:Nat->U):List (Nat×U):=[(0,v 0),(1,v 1),(2,v 2),(3,v 3),(4,v 4),(10,v 10),(11,v 11)]
def Pj(w W:F)(v:Nat->U)(g:Nat)(kinds:List Int)(S:Option UJ)(kb gL fE:Nat)(H:v 0= .slice S kinds.length fE)(J:v 11= .pointer (I ⟨g,0,K⟩))(a5:kinds.length<=Up)(a4:(0<kinds.length->S=I ⟨kb,gL,K⟩)/\(0<kinds.length->kb<w.heap.size)/\∀j,j<kinds.length->aM w kb (gL+j) (.int .i64 (kinds.getD j 0)))(a2:∀x∈kinds,lO x)(ar:eL w W g aO [] aO [] 0 aO [] T5):
 (Td Wc).wp aI (λe a' W'=>e= .normal/\∃cs a,cs.length<=8/\px cs/\eL w W' g a cs aO [] 0 aO [] T5/\Cc.Knows a' 156 (Sr v)/\a'.defers=[]) (pV v) W:=by
 obtain⟨bb,a3,a8,a9,ba⟩:=Ve an.F8;unfold Up at a5;have aa:=af a2;have q:=af a4;have al:=af ar;have E:=af H;have G:=af J;unfold pV;rw[H,J];unfold Td Wc;dsimp only
 go_wp2_with fail
 go_loopw [12] (λo wr=>∃(cs:List bK) (a:U),o= .int .i64 (cs.length:Int)/\cs.length<=kinds.length/\cs.length<=8/\px cs/\eL w wr g a cs aO [] 0 aO [] T5) (λo _=>kinds.length-(US o).toNat)
 case atStart=>exact⟨[],_,rfl,UE _,UE _,λo f=>absurd f (by simp),al.o⟩
 case round=>
  obtain⟨cs,a,rfl,br,P,ap,u⟩:=hrel;have r:=af ap;have s:=af u;by_cases n:cs.length<kinds.length
  ·by_cases L:cs.length<8
   ·obtain rfl:=q.o.1 (by omega);have O:=q.o.2.1 (by omega);have bj:=af O;have k:X (∀W,aP w W->aM W kb (gL+cs.length) (.int .i64 (kinds.getD cs.length 0))):=λW av=>(av.cell (p:=⟨kb,gL+cs.length,K⟩) O).trans (q.o.2.2 _ n);have C:X (lO (kinds.getD cs.length 0)):=aa.o _ (by rw[Uh,Ul n];exact Ui n);have az:=k.o wr u.de;generalize kinds.getD cs.length 0=h at*;have ad:X (∀W:F,UB aI 38 #[.int .i64 (cs.length:Int)] W λe z=>aP W z/\e= .returned (.string (nameOf cs.length))):=λW=>MQ cs.length W L;have ae:X (∀W:F,UB aI 23 #[.int .i64 h,.int .i64 3] W λe z=>z=W/\∃b,e= .returned (.int .i64 b)/\0<=b/\b<3):=λW=>p9 h 3 W (by omega) (by omega) C.o.1 C.o.2;obtain⟨⟨bc,-,-,-,-⟩,-⟩:=u.cells
    go_upto_region 5 with fail
    refine Un.open_ (λW=>aM W g 0 a/\aM W kb (gL+cs.length) (.int .i64 h)) 16 (λ_ _ _ _ _ f=>absurd (And.left f) (λf=>by cases f)) λbt=>?_;have M:(λW:F=>aM W g 0 a/\aM W kb (gL+cs.length) (.int .i64 h)) wr.drew:=⟨bc,az⟩;refine Un.pk 0 ?_;refine Un.pk 1 ?_;refine Un.ld [16] 2 ?_;refine Un.pk 3 ?_;refine Un.pk 5 ?_;refine Un.pk 6 ?_;refine Un.pk 7 ?_;refine Un.ld [16] 8 ?_;refine Un.on 4 λl c=>?_;go_simp;go_at_call 38;refine(ad.o _).mono ?_;rintro e T ⟨y,rfl⟩;replace y:=((Uo wr.heap.size wr).drew).trans (y.mono (by simp));have d:=af (s.o.below y);have A:=d.o.cells.1.1;have B:=k.o T d.o.de;refine c.o _ _ (λ_=>⟨A,B⟩) ?_
    try simp only[UW,Ub,Uk,Uj]
    have M:(λW:F=>aM W g 0 a/\aM W kb (gL+cs.length) (.int .i64 h)) T:=⟨A,B⟩;refine Un.on 9 λl c=>?_;go_simp;go_at_call 23;refine(ae.o _).mono ?_;rintro e p ⟨rfl,b,rfl,bu,bv⟩;have bo:XM.wrap (1+b)=1+b:=by rw[WX]<;>omega
    refine c.o _ _ (λ_=>⟨A,B⟩) ?_
    try simp only[UW,Ub,Uk,Uj]
    refine Un.pk 10 ?_;refine Un.pk 11 ?_;refine Un.on 12 λl c=>?_;go_simp;have D:X (eL w (p.alloc (.cells #[.string (nameOf cs.length),.int .i64 (1+b)] 63)) g a cs aO [] 0 aO [] T5):=d.o.below ((Uo _ _).alloc (T6 _) _);have bd:=D.o.cells.1.1;have be:=k.o _ D.o.de;refine c.o _ _ (λ_=>⟨bd,be⟩) ?_
    try simp only[UW,Ub,Uk,Uj]
    refine Un.one (i:=13) (by kernel_rfl) Y (λl c=>?_);have Q:=d.o.ah;have bx:w.heap.size<=p.heap.size:=d.o.de.size;refine WK _ (by rfl) _ _ 44 (by rfl) w.heap.size 63 bb _ 2 24 an.underlying44 a3 a8 a9 ba Y (by decide) a cs.length _ (by rfl) (Q.alloc _) ⟨p.heap.size,0,K⟩ 1 1 [.string (nameOf cs.length),.int .i64 (1+b)] (by rfl) Y (VJ (bk p _)) (by intro bA R;simp at R;rcases R with rfl|rfl<;>rfl) (by decide) (by unfold Up;omega) (by omega) (by simp;omega) _ Y ?_;intro t m i a7 a1 aw bs;have N:=aR.ji (n:=cs.length+1) (cap:=m) a1 aw;have a6:i.ownsRow w.heap.size 63 2 (.slice (I ⟨t,0,K⟩) (cs.length+1) m) (cs++[(⟨nameOf cs.length,1+b⟩:bK)]).length (eG (cs++[(⟨nameOf cs.length,1+b⟩:bK)])):=by
     rw[rC,T8];exact a7
    obtain⟨au,V,bi⟩:=d.o.QB N a6;have bB:=bi 0;have am:=af au;have Z:aM i kb (gL+cs.length) (.int .i64 h):=k.o i (d.o.de.trans (N.below (λg a0=>(Q.lt g a0).1) d.o.de.size));refine c.o _ _ (λ_=>⟨V,Z⟩) ?_
    try simp only[UW,Ub,Uk,Uj]
    have M:(λW:F=>aM W g 0 a/\aM W kb (gL+cs.length) (.int .i64 h)) i:=⟨V,Z⟩;refine Un.pk 14 ?_;refine Un.pk 15 ?_;refine Un.on 16 λl c=>?_;go_simp;refine c.o _ _ (λf=>absurd f (by decide)) ?_;refine Un.done (by kernel_rfl) ?_ _
    try simp only[UW,Ub,Uk,Uj]
    generalize i.setCell ⟨g,0,K⟩ (.slice (I ⟨t,0,K⟩) (cs.length+1) m)=bl at*;generalize Value.slice (I ⟨t,0,K⟩) (cs.length+1) m=bm at*;have ab:X (px (cs++[(⟨nameOf cs.length,1+b⟩:bK)])):=r.o.snoc (by omega)
    go_wp2_with fail
    go_roundw
    case rel=>exact⟨_,_,by rw[T8];go_num,by rw[T8];exact n,by rw[T8];exact L,ab.o,am.o⟩
    case measure=>simp[US];omega
   ·have ao:cs.length=8:=by omega
    go_wp2_with fail
    exact⟨cs,P,r.o,⟨a,s.o⟩,(((((((Ak Y (by exact G.o.symm)).cons Y).cons Y).cons Y).cons Y).cons Y).cons (by exact E.o.symm))⟩
  ·have ao:cs.length=kinds.length:=by omega
   go_wp2_with fail
   exact⟨cs,P,r.o,⟨a,s.o⟩,(((((((Ak Y (by exact G.o.symm)).cons Y).cons Y).cons Y).cons Y).cons Y).cons (by exact E.o.symm))⟩
def MR:∀i j:Fin 8,i≠j->nameOf i.1≠nameOf j.1:=by decide
def JQ(i:Nat):(nameOf i).size=1:=rfl
def OG{cs:List bK}(h:px cs)(h1:1<=cs.length)(g:cs.length<=8):gZ cs:=by
 refine⟨h1,g,λb c=>⟨?_,λd i=>?_⟩⟩
 ·obtain⟨e,f⟩:=h b c;unfold nZ fW;rw[e,JQ];rcases f with a|a|a<;>rw[a]<;>decide
 ·rw[(h b c).1,(h d (by omega)).1];exact MR ⟨d,by omega⟩ ⟨b,by omega⟩ (λa=>by have:=congrArg Fin.val a;simp at this;omega)
def TD:gZ [⟨⟨#[120]⟩,1⟩]:=⟨by decide,by decide,λb a=>by
 have:b=0:=by simp at a;omega
 subst this;exact⟨(by decide +kernel:nZ ⟨⟨#[120]⟩,1⟩=Z),λd c=>by omega⟩⟩
def To(w W:F)(v:Nat->U)(g:Nat)(cs:List bK)(c:U)(f:v 11= .pointer (I ⟨g,0,K⟩))(l:cs.length<=8)(m:px cs)(a:eL w W g c cs aO [] 0 aO [] T5):
 (SQ Wc).wp aI (λe a' W'=>e= .normal/\∃cs c,gZ cs/\eL w W' g c cs aO [] 0 aO [] T5/\Cc.Knows a' 156 (Sr v)/\a'.defers=[]) (pV v) W:=by
 obtain⟨y,r,t,u,x⟩:=Ve an.F8;have d:=af f;obtain⟨B,aJ,rfl⟩:=bC a.ah;have b:=af a;obtain⟨⟨z,-,-,-,-⟩,-⟩:=a.cells;have h:=a.ah;have G:=a.de.size;unfold pV;rw[f];by_cases k:cs.length=0
 ·obtain rfl:=List.eq_nil_of_length_eq_zero k;simp only[XH] at z h b;unfold SQ Wc;dsimp only
  go_wp2_with (at_builtin;refine wpList_append_lies _ Y _ _ 44 Y w.heap.size 63 y _ 2 24 an.underlying44 r t u x Y (by decide) _ 0 _ Y (h.alloc _) ⟨W.heap.size,0,K⟩ 1 1 [.string ⟨#[120]⟩,.int .i64 1] Y Y (VJ (bk W _)) (by intro H i;simp at i;rcases i with rfl|rfl<;>rfl) (by decide) (by decide) (by decide) (by simp;omega) _ Y ?_;intro C j J s q o D;have p:=aR.ji (n:=0+1) (cap:=j) q o;obtain⟨n,L,A⟩:=b.o.QB p (c:=⟨⟨#[120]⟩,1⟩) s;have M:=A 0)
  exact⟨_,TD,⟨_,n⟩,(((((((Ak Y (by exact d.o.symm)).cons Y).cons Y).cons Y).cons Y).cons Y).cons Y)⟩
 ·have E:¬(cs.length:Int)=0:=by omega
  unfold SQ Wc;dsimp only
  go_wp2_with fail
  exact⟨cs,OG m (by omega) l,⟨_,b.o⟩,(((((((Ak Y (by exact d.o.symm)).cons Y).cons Y).cons Y).cons Y).cons Y).cons Y)⟩
def Tn(w W:F)(v:Nat->U)(g:Nat)(cs:List bK)(d:U)(a:v 11= .pointer (I ⟨g,0,K⟩))(b:eL w W g d cs aO [] 0 aO [] T5):
 (Tf Wc).wp aI (λe a' W'=>e= .normal/\W'=W/\Cc.Knows a' 156 ((13,.int .i64 (cs.length:Int))::Sr v)/\a'.defers=[]) (pV v) W:=by
 have c:=af a;obtain⟨f,aJ,rfl⟩:=bC b.ah;obtain⟨⟨h,-,-,-,-⟩,-⟩:=b.cells;unfold pV;rw[a];unfold Tf Wc;dsimp only
 go_wp2_with fail
 exact((((((((Ak Y (by exact c.o.symm)).cons Y).cons Y).cons Y).cons Y).cons Y).cons Y).cons Y)
def Am (j n:Nat):List Nat:=(UK j).map λa=>n/256^a%256
def JL(j n:Nat):Am (j+1) n=Am j n++[n/256^j%256]:=by
 unfold Am;rw[XI,List.map_append,List.map_singleton]
def JK(n:Nat):Am 4 n=iz n:=by
 unfold Am iz;simp[XI]
def BV(n j:Nat):n/256^j/256=n/256^(j+1):=by
 rw[Nat.div_div_eq_div_mul,Nat.pow_succ]
def tW(u:U)(pre:List Nat)(n base:Nat)(w:F)(z:n<4294967296)(L:pre.length<=100000000000)(I:base<=w.heap.size)
 (c:w.ownsRow base 5 1 u pre.length (aF pre)):
 UB aI 59 #[u,.int .i64 (n:Int)] w λe w'=>∃i,e= .returned i/\w'.ownsRow base 5 1 i (pre++iz n).length (aF (pre++iz n))/\aR w w' u i:=by
 obtain⟨E,y,B,C,D⟩:=Ve an.rF;rw[<-JK];go_enter an.func59,Tryz.ntmps59
 go_wp2_with fail
 go_loopw [0,1,5] (λo G h wr=>∃(a m:Nat) (b:List Nat),a<=4/\h= .int .i64 (a:Int)/\G= .int .i64 (m:Int)/\m<4294967296/\m=n/256^a/\b=pre++Am a n/\wr.ownsRow base 5 1 o b.length (aF b)/\aR w wr u o/\w.heap.size<=wr.heap.size) (λ_ _ h _=>4-(US h).toNat)
 case atStart=>exact⟨0,n,pre,by omega,rfl,rfl,z,by simp,by simp[Am],c,aR.refl _ _,T6 _⟩
 case round=>
  obtain⟨a,m,b,J,rfl,rfl,N,r,f,c,p,P⟩:=hrel;have k:=af r;have l:=af f;have O:b.length<=100000000004:=by rw[f];simp[Am];omega
  have j:=af p;clear r f p;by_cases M:a<4
  ·obtain⟨d,g⟩:∃d,d=m%256:=⟨_,rfl⟩;have Q:Yu.wrap (m:Int)=(d:Int):=by rw[g];simp[IntKind.wrap,Yg,XU]
   have v:=af g;clear g
   go_wp2_with (at_builtin;refine aT _ Y _ _ 133 Y base 5 E (.int .u8 0) 1 1 an.underlying133 y B C D Y (by decide) _ b.length _ Y (c.alloc _) ⟨wr.heap.size,0,K⟩ 1 1 [.int .u8 (d:Int)] Y (by decide) Y (gR _ _ _) (jl _) (by unfold Up;omega) (by omega) (by simp;omega) ?_;intro R H s x)
   have q:=j.o.trans (aR.append x);have A:w.heap.size<=H.heap.size:=q.fN.size;rw[eP] at s;refine⟨⟨a+1,m/256,b++[d],by omega,by go_num,by go_num,by omega,?_,?_,by simpa using s,q,A⟩,by simp[US];omega⟩
   ·rw[k.o];exact BV n a
   ·rw[l.o,v.o,k.o,JL,UC]
  ·obtain rfl:a=4:=by omega
   have t:X (wr.ownsRow base 5 1 u0 (pre++Am 4 n).length (aF (pre++Am 4 n))):=by show World.ownsRow _ _ _ _ _ _ _;rw[<-l.o];exact c
   clear c;go_wp2;go_ret;exact⟨_,rfl,t.o,j.o⟩
def tT(u:U)(pre:List Nat)(b:lA)(k:Int)(base:Nat)(w:F)(R:k=1\/k=2\/k=3)(W:pp b.least)(a5:pp b.most)(a8:pre.length<=3000000)(s:base<=w.heap.size)
 (y:w.ownsRow base 5 1 u pre.length (aF pre)):
 UB aI 85 #[u,FD b,.int .i64 k] w λe w'=>∃f,e= .returned f/\w'.ownsRow base 5 1 f (pre++cm k b).length (aF (pre++cm k b))/\aR w w' u f:=by
 obtain⟨ae,Q,aa,ab,ad⟩:=Ve an.rF;have V:u.ownBlock≠I w.heap.size:=λr=>by have:=(y.lt _ r).2;omega
 obtain⟨ar,a,c⟩:=b;unfold FD;cases ar
 ·rw[show cm k ⟨T5,a,c⟩=[0] from rfl];go_enter an.func85,Tryz.ntmps85
  go_wp2_with (at_builtin;refine aT _ Y _ _ 133 Y base 5 ae (.int .u8 0) 1 1 an.underlying133 Q aa ab ad Y (by decide) _ pre.length _ Y ((y.alloc _).alloc _) ⟨w.heap.size+1,0,K⟩ 1 1 [.int .u8 ((0:Nat):Int)] Y (by decide) Y (by simpa using gR (w.alloc _) _ _) (jl _) (by unfold Up;omega) (by omega) (by simp;omega) ?_;intro al M T a0)
  go_ret;have C:aR w M u al:=aR.box (aR.append a0);rw[eP] at T;exact⟨_,rfl,by simpa using T,C⟩
 ·rw[show cm k ⟨Z,a,c⟩=[1]++(bf k a++bf k c) from rfl,<-UC,<-UC];have a3:=gQ k a W.sz;have am:X (∀d v,d.ownsRow base 5 1 v (pre++[1]).length (aF (pre++[1]))->base<=d.heap.size->UB aI 122 #[v,.agg (gY a),.int .i64 k] d λe w'=>∃f,e= .returned f/\w'.ownsRow base 5 1 f (pre++[1]++bf k a).length (aF (pre++[1]++bf k a))/\aR d w' v f):=λd v E s=>
   iH v (pre++[1]) a k base d R W (by simp;omega) s E
  have ao:X (∀d v,d.ownsRow base 5 1 v (pre++[1]++bf k a).length (aF (pre++[1]++bf k a))->base<=d.heap.size->UB aI 122 #[v,.agg (gY c),.int .i64 k] d λe w'=>∃f,e= .returned f/\w'.ownsRow base 5 1 f (pre++[1]++bf k a++bf k c).length (aF (pre++[1]++bf k a++bf k c))/\aR d w' v f):=λd v E s=>
   iH v (pre++[1]++bf k a) c k base d R a5 (by simp;omega) s E
  have aw:base<=(w.alloc (.cells (gh ⟨Z,a,c⟩) 141)).heap.size:=by simp;omega
  generalize av:pre++[1]++bf k a++bf k c=a7 at*;generalize au:pre++[1]++bf k a=a6 at*;clear au av a3;go_enter an.func85,Tryz.ntmps85
  go_upto_region 1 with fail
  have G:=y.alloc (.cells (gh ⟨Z,a,c⟩) 141);have A:(w.alloc (.cells (gh ⟨Z,a,c⟩) 141)).heap[w.heap.size]? =I (.cells (gh ⟨Z,a,c⟩) 141 (0,0)):=bk _ _;have D:aR w (w.alloc (.cells (gh ⟨Z,a,c⟩) 141)) u u:=(aR.refl w u).alloc _;unfold gh at G A D aw;generalize w.alloc (.cells #[.bool Z,.bool a.null,.int .i64 a.n,.string a.s,.bool c.null,.int .i64 c.n,.string c.s] 141)=z at*;have N:=af D;have B:z.heap[w.heap.size]? =I (.cells (gh ⟨Z,a,c⟩) 141 (0,0)):=A;generalize w.heap.size=g at*;obtain⟨⟨j,l,m,n,o,p,q⟩,-⟩:=dY B;have i:=af B;clear A B y D
  go_upto_region 4 with(at_builtin;refine aT _ Y _ _ 133 Y base 5 ae (.int .u8 0) 1 1 an.underlying133 Q aa ab ad Y (by decide) _ pre.length _ Y (G.alloc _) ⟨z.heap.size,0,K⟩ 1 1 [.int .u8 ((1:Nat):Int)] Y (by decide) Y (gR _ _ _) (jl _) (by unfold Up;omega) (by omega) (by simp;omega) ?_;intro J L H P)
  have h:aR z L u J:=aR.append P;rw[eP] at H;have S:L.ownsRow base 5 1 J (pre++[1]).length (aF (pre++[1])):=by simpa using H
  have t:L.heap[g]? =I (.cells (gh ⟨Z,a,c⟩) 141 (0,0)):=(h.fN.block g (Ud i.o) (λe=>V e.symm)).trans i.o;have a9:=h.fN.size;have a4:J.ownBlock≠I g:=λe=>by
   rcases h.at_ g e with r|r
   ·exact V r
   ·have:=Ud i.o;omega
  have O:=af (N.o.trans h);clear j l m n o p q H P h i N G;obtain⟨⟨j,l,m,n,o,p,q⟩,-⟩:=dY t
  go_upto_region 5 with(go_at_call 122;refine(am.o _ _ S (by omega)).mono ?_;rintro e M ⟨al,rfl,a1,x⟩)
  have az:M.heap[g]? =I (.cells (gh ⟨Z,a,c⟩) 141 (0,0)):=(x.fN.block g (Ud t) (λe=>a4 e.symm)).trans t;have ba:=x.fN.size;have ap:=af (O.o.trans x);clear j l m n o p q O x S t;obtain⟨⟨j,l,m,n,o,p,q⟩,-⟩:=dY az
  go_wp2_with (go_at_call 122;refine(ao.o _ _ a1 (by omega)).mono ?_;rintro e bc ⟨bb,rfl,a2,C⟩)
  go_ret;exact⟨_,rfl,a2,ap.o.trans C⟩
def iE(n:Nat):(aL n).length<=10:=by unfold aL;exact cj 10 n
def FB(k:Int)(b:lA)(h1:b.least.s.size<=32)(a:b.most.s.size<=32):(cm k b).length<=85:=by
 have c:=gQ k b.least h1;have d:=gQ k b.most a;unfold cm
 split
 ·simp only[T8,VI,XH];omega
 ·simp
def lQ{α:Type}(f:α->List Nat)(m:Nat)(l:List α)(h:∀x∈l,(f x).length<=m):(l.flatMap f).length<=l.length*m:=by
 induction l with
 |nil=>simp
 |cons x g b=>
  rw[List.flatMap_cons,T8,VI,Nat.succ_mul];have d:=h x (by simp);have e:=b (λc a=>h c (by simp[a]));omega
structure C8(n:Nat)(b:Bd):Prop where
 rows:b.rows<2147483648
 len:b.chunks.length=n
 size:∀c∈b.chunks,c.text.size<2147483648
 least:∀c∈b.chunks,pp c.eX.least
 most:∀c∈b.chunks,pp c.eX.most
def OD{l:List ki}{i:Nat}(h:i<l.length):l.getD i ⟨⟨#[]⟩,cD⟩∈l:=by
 rw[Uh,Ul h];exact Ui h
def JZ{n:Nat}{b:Bd}(h:C8 n b)(cs:List bK){i:Nat}(c:i<b.chunks.length):(o7 cs b.chunks i).length<=95:=by
 have a:=OD c;have d:=iE (b.chunks.getD i ⟨⟨#[]⟩,cD⟩).text.size;have e:=FB (cs.getD i ⟨⟨#[]⟩,0⟩).kind (b.chunks.getD i ⟨⟨#[]⟩,cD⟩).eX (h.least _ a).sz (h.most _ a).sz;unfold o7;rw[T8];omega
def yM{n:Nat}{b:Bd}(h:C8 n b)(cs:List bK)(k:Nat)(c:k<=b.chunks.length):(fj cs b.chunks k).length<=k*95:=by
 have:=lQ (o7 cs b.chunks) 95 (UK k) (λd a=>JZ h cs (by have:=Vt.1 a;omega));simpa [fj] using this
def I2{n:Nat}{b:Bd}(h:C8 n b)(e:n<=8)(cs:List bK):(ej cs b).length<=770:=by
 have a:=yM h cs b.chunks.length (T6 _);have c:=iE b.rows;have d:=h.len;unfold ej;rw[T8];omega
def xN{n:Nat}{bs:List Bd}(h:∀b∈bs,C8 n b)(c:n<=8)(cs:List bK):(cP cs bs).length<=bs.length*770:=
 lQ (ej cs) 770 bs (λb a=>I2 (h b a) c cs)
def LL{cs:List bK}{es:List Int}(h:∀c∈cs,c.name.size<=16){i:Nat}(a:i<cs.length):(xX cs es i).length<=28:=by
 have b:=iE (cs.getD i ⟨⟨#[]⟩,0⟩).name.size;have d:=h _ (by rw[Uh,Ul a];exact Ui a:cs.getD i ⟨⟨#[]⟩,0⟩∈cs);unfold xX;rw[T8,T8,aj];simp only[VI,XH];omega
def uq{cs:List bK}{es:List Int}(h:∀c∈cs,c.name.size<=16)(k:Nat)(b:k<=cs.length):(iR cs es k).length<=k*28:=by
 have:=lQ (xX cs es) 28 (UK k) (λd a=>LL h (by have:=Vt.1 a;omega));simpa [iR] using this
structure jQ(w W:F)(cv ev bv u:U)(pre:List Nat):Prop where
 box:W.heap[w.heap.size]? =I (.cells #[cv,ev,bv] 105 (0,0))
 own:W.ownsRow w.heap.size 5 1 u pre.length (aF pre)
 de:aP w W
def jQ.alloc{w W:F}{b c a u:U}{pre:List Nat}(h:jQ w W b c a u pre)(o:Xv):jQ w (W.alloc o) b c a u pre:=
 ⟨alloc_old o (Ud h.box) h.box,h.own.alloc o,h.de.alloc h.de.size o⟩
def jQ.drew{w W:F}{b c a u:U}{pre:List Nat}(h:jQ w W b c a u pre):jQ w W.drew b c a u pre:=
 ⟨h.box,aK h.own (Uo _ _).drew,h.de.drew⟩
def jQ.jO{w W b:F}{f g e u d:U}{pre c:List Nat}(h:jQ w W f g e u pre)(a:aR W b u d)(j:b.ownsRow w.heap.size 5 1 d c.length (aF c)):jQ w b f g e d c:=
 ⟨(a.fN.block _ (Ud h.box) (bw h.own h.box (by decide))).trans h.box,j,h.de.trans (a.below (λi a=>(h.own.lt i a).1) h.de.size)⟩
def jQ.cells{w W:F}{b c a u:U}{pre:List Nat}(h:jQ w W b c a u pre):aM W w.heap.size 0 b/\aM W w.heap.size 1 c/\aM W w.heap.size 2 a:=cA h.box
def jQ.zQ{w W b:F}{d e c u j:U}{pre:List Nat}(h:jQ w W d e c u pre)(f:aR W b u j){g:Nat}{cs:Array U}{t:Ug}(a:W.heap[g]? =I (.cells cs t (0,0)))(i:t≠5):b.heap[g]? =I (.cells cs t (0,0)):=
 (f.fN.block _ (Ud a) (bw h.own a i)).trans a
def qz{w:F}{g:Nat}{a b:U}{t:Ug}(h:w.heap[g]? =I (.cells #[a,b] t (0,0))):aM w g 0 a/\aM w g 1 b:=by
 refine⟨?_,?_⟩<;>simp[Ur,h]
def IJ(w:F)(a b:U)(t:Ug):∀(j:Nat) (u:U),[a,b][j]? =I u->(w.alloc (.cells #[a,b] t)).cell? ((⟨w.heap.size,0,K⟩:UJ).add j)=I u:=
 VJ (bk w _)
def jb(a b:List Nat):aF (a++b)=aF a++aF b:=by simp[aF]
def tV(cs:List bK)(es:List Int)(bs:List Bd)(c0 c1 cx:U)(w:F)(fi:cs.length<=8)(da:es.length=cs.length)(b6:∀c∈cs,c.name.size<=16)(dl:∀c∈cs,c.kind=1\/c.kind=2\/c.kind=3)(gm:bs.length<=2000)(c4:∀b∈bs,C8 cs.length b)
 (fk:vm w c0 cs) (fm:rz w c1 es) (fe:∃base L,L.map Uw=bs/\iX w base cx L):
 UB aI 58 #[aO,.agg #[c0,c1,cx]] w λe w'=>∃ao,e= .returned ao/\w'.ownsRow w.heap.size 5 1 ao (jh cs es bs).length (aF (jh cs es bs))/\aP w w':=by
 obtain⟨d4,df,d0,d1,d2⟩:=Ve an.rF;obtain⟨base,L,bv,bu⟩:=fe;have ft:=QJ.bN qC bu.own;obtain⟨C,au,av,m,rfl,aa⟩:=ft;obtain⟨t,H,bE,aJ,rfl,gn,v⟩:=fk;obtain⟨u,D,jf,bV,rfl,c7,c8,c9⟩:=fm;have a6:=af v;have ck:=af c7;have cl:=af c8;have cn:=af c9;have el:=af da;have bj:=af b6;have eq:=af dl;have cf:=af c4;have et:=af bv;have ar:X (L.length=bs.length):=by show _=_;rw[<-bv,UG]
 have en:=af aa;have eh:=af bu.each;have gt:L.length<=2000:=by have:=ar.o;omega
 clear v c7 c8 c9 da b6 dl c4 bv aa bu;go_enter an.func58,Tryz.ntmps58
 go_upto_region 1 with fail
 have aw:jQ w (w.alloc (.cells #[.slice t cs.length aJ,.slice u es.length bV,.slice C L.length m] 105)) (.slice t cs.length aJ) (.slice u es.length bV) (.slice C L.length m) aO []:=
  ⟨bk _ _,World.ownsRow_nil _ _ _ _,(Uo _ _).alloc (T6 _) _⟩
 generalize w.alloc (.cells #[.slice t cs.length aJ,.slice u es.length bV,.slice C L.length m] 105)=bo at*;obtain⟨z,A,B⟩:=aw.cells;have k:X (UB aI 84 #[aO,.int .i64 (cs.length:Int)] bo λe w'=>∃h,e= .returned h/\w'.ownsRow w.heap.size 5 1 h ([]++aL cs.length).length (aF ([]++aL cs.length))/\aR bo w' aO h):=cO _ [] cs.length w.heap.size bo (by omega) (by simp) aw.de.size aw.own
 go_upto_region 2 with(go_at_call 84;refine k.o.mono ?_;rintro e f6 ⟨f4,rfl,dr,db⟩)
 have s:X (jQ w f6 (.slice t cs.length aJ) (.slice u es.length bV) (.slice C L.length m) f4 (aL cs.length++iR cs es 0)):=by
  have Z:=aw.jO db dr;rw[List.nil_append] at Z;show jQ _ _ _ _ _ _ _;rw[show iR cs es 0=[] from rfl,Wr];exact Z
 clear aw z A B k dr db;obtain⟨z,A,B⟩:=s.o.cells
 go_wp2_with fail
 clear z A B
 go_loopw [0,19] (λam d wr=>∃a:Nat,a<=cs.length/\d= .int .i64 (a:Int)/\jQ w wr (.slice t cs.length aJ) (.slice u es.length bV) (.slice C L.length m) am (aL cs.length++iR cs es a)) (λ_ d _=>cs.length-(US d).toNat)
 case atStart=>exact⟨0,UE _,rfl,s.o⟩
 case round=>
  rename F=>wr
  clear s;obtain⟨a,dk,rfl,g⟩:=hrel;have o:=af g;have dE:w.heap.size<=wr.heap.size:=g.de.size;by_cases y:a<cs.length
  ·have fv:a<es.length:=by rw[el.o];exact y
   have v:=a6.o.below g.de;obtain rfl:=v.addr (by omega);obtain rfl:=ck.o (by omega);have al:=v.c0 a y;have bc:=v.c1 a y;have bi:X (D<w.heap.size):=cl.o (by omega);have ci:=af (cn.o a fv);have a7:X (aL cs.length++iR cs es (a+1)=aL cs.length++iR cs es a++aL cs[a].name.size++bytesOf cs[a].name++[byteOf cs[a].kind,byteOf (es.getD a 0)]):=by
    show _=_;rw[xY];unfold xX;rw[Uh (l:=cs),Ul y];simp
   have b6:=bj.o cs[a] (Ui y);have dv:(aL cs.length++iR cs es a).length<=300:=by
    have a9:=iE cs.length;have bt:=uq (es:=es) bj.o a dk;rw[T8];omega
   have gs:(a:Int)<(es.length:Int):=by omega
   generalize fg:cs[a]=c at*;generalize fl:es.getD a 0=J at*;generalize a0:aL cs.length++iR cs es a=pre at*;clear v fg fl a0 g
   go_upto_region 5 with fail
   have i:=o.o.alloc (.cells #[.string c.name,.int .i64 c.kind] 63);have x:(wr.alloc (.cells #[.string c.name,.int .i64 c.kind] 63)).heap[wr.heap.size]? =I (.cells #[.string c.name,.int .i64 c.kind] 63 (0,0)):=bk _ _;generalize wr.alloc (.cells #[.string c.name,.int .i64 c.kind] 63)=V at*;have s:=af i;generalize wr.heap.size=br at*;obtain⟨M,N⟩:=qz x;have k:X (UB aI 84 #[u0,.int .i64 (c.name.size:Int)] V λe w'=>∃h,e= .returned h/\w'.ownsRow w.heap.size 5 1 h (pre++aL c.name.size).length (aF (pre++aL c.name.size))/\aR V w' u0 h):=cO _ pre c.name.size w.heap.size V (by omega) (by omega) i.de.size i.own;clear i al bc o
   go_upto_region 6 with(go_at_call 84;refine k.o.mono ?_;rintro e a5 ⟨bd,rfl,Q,E⟩)
   have ae:=s.o.zQ E x (by decide);have p:=af (s.o.jO E Q);clear Q E s k x M N;obtain⟨M,N⟩:=qz ae;have gy:=iE c.name.size;have fz:(pre++aL c.name.size).length<=310:=by rw[T8];omega
   generalize a0:pre++aL c.name.size=r at*;have az:=p.o.own;have d3:w.heap.size<=a5.heap.size:=p.o.de.size
   go_upto_region 7 with(at_builtin;refine eO _ Y _ _ 133 9 Y w.heap.size 5 d4 an.underlying133 an.underlying9 df d0 d1 d2 _ r.length _ Y az c.name Y (by unfold Up;omega) (by omega) d3 ?_;intro be O ca b2)
   have bB:=p.o.zQ b2 ae (by decide);have ab:X (jQ w O (.slice (I ⟨H,bE,K⟩) cs.length aJ) (.slice (I ⟨D,jf,K⟩) es.length bV) (.slice C L.length m) be (r++bytesOf c.name)):=p.o.jO b2 (by
    rw[j8] at ca;rw[T8,aj,jb];exact ca)
   clear ca b2 p ae M N az d3;obtain⟨M,N⟩:=qz bB;obtain⟨z,A,B⟩:=ab.o.cells;have fb:aM O D (jf+a) (.int .i64 J):=(ab.o.de.cell (p:=⟨D,jf+a,K⟩) bi.o).trans ci.o;have gi:br<O.heap.size:=Ud bB;have gj:w.heap.size<O.heap.size:=Ud ab.o.box;have gl:D<O.heap.size:=by have:=bi.o;omega
   have f0:(r++bytesOf c.name).length<=330:=by rw[T8,aj];omega
   have eQ:X (aL cs.length++iR cs es (a+1)=r++bytesOf c.name++[byteOf c.kind,byteOf J]):=by show _=_;rw[a7.o]
   have f1:Yu.wrap c.kind=(byteOf c.kind:Int):=mz c.kind;have f2:Yu.wrap J=(byteOf J:Int):=mz J;clear a0 a7;generalize r++bytesOf c.name=G at*;have az:=ab.o.own
   go_region_held3 (λl=>aM l br 1 (.int .i64 c.kind)/\aM l w.heap.size 1 (.slice (I ⟨D,jf,K⟩) es.length bV)/\aM l D (jf+a) (.int .i64 J)) (first|go_keep|exact⟨d5,a2,a3⟩)
    ((refine WK _ (by rfl) _ _ 133 (by rfl) w.heap.size 5 d4 _ 1 1 an.underlying133 df d0 d1 d2 Y (by decide) be G.length _ (by rfl) ((aK az (Uo _ _).drew).alloc _) ⟨O.heap.size,0,K⟩ 2 2 [.int .u8 (byteOf c.kind:Int),.int .u8 (byteOf J:Int)] (by rfl) Y (IJ O.drew _ _ _) (by intro am dT;simp at dT;rcases dT with rfl|rfl<;>rfl) (by decide) (by unfold Up;omega) (by omega) (by simp;omega) _ Y ?_;intro c2 cR cd ds dd c3 fx;have b3:aR O cd be (.slice (I ⟨c2,0,K⟩) (G.length+2) cR):=((aR.refl O be).drewN 1).trans (aR.ji dd c3);have c5:=ab.o.zQ b3 bB (by decide);have bl:X (jQ w cd (.slice (I ⟨H,bE,K⟩) cs.length aJ) (.slice (I ⟨D,jf,K⟩) es.length bV) (.slice C L.length m) (.slice (I ⟨c2,0,K⟩) (G.length+2) cR) (G++[byteOf c.kind,byteOf J])):=ab.o.jO b3 (by rw[T8,jb];exact ds);have d5:=(qz c5).2;have a2:=bl.o.cells.2.1;have a3:aM cd D (jf+a) (.int .i64 J):=(bl.o.de.cell (p:=⟨D,jf+a,K⟩) bi.o).trans ci.o))
   clear ds dd c3 fx b3 c5 d5 a2 a3 az f1 f2 M N z A B fb
   go_wp2_with fail
   go_roundw
   case rel=>exact⟨a+1,by omega,by go_num,by rw[eQ.o];exact bl.o⟩
   case measure=>simp[US];omega
  ·obtain rfl:a=cs.length:=by omega
   have dv:(aL cs.length++iR cs es cs.length).length<=300:=by
    have a9:=iE cs.length;have bt:=uq (es:=es) bj.o cs.length (T6 _);rw[T8];omega
   have em:X (jh cs es bs=aL cs.length++iR cs es cs.length++aL bs.length++cP cs (bs.take L.length)):=by
    show _=_;rw[ar.o,Vf];unfold jh;simp
   have co:X (aL cs.length++iR cs es cs.length++aL bs.length=aL cs.length++iR cs es cs.length++aL bs.length++cP cs (bs.take 0)):=by
    show _=_;simp[cP]
   generalize aL cs.length++iR cs es cs.length=pre at*;obtain⟨z,A,B⟩:=g.cells;have k:X (UB aI 84 #[u0,.int .i64 (L.length:Int)] wr λe w'=>∃h,e= .returned h/\w'.ownsRow w.heap.size 5 1 h (pre++aL L.length).length (aF (pre++aL L.length))/\aR wr w' u0 h):=cO _ pre L.length w.heap.size wr (by omega) (by omega) g.de.size g.own;clear g
   go_upto_region 10 with(go_at_call 84;refine k.o.mono ?_;rintro e a5 ⟨bd,rfl,Q,E⟩)
   have p:X (jQ w a5 (.slice t cs.length aJ) (.slice u es.length bV) (.slice C L.length m) bd (pre++aL bs.length++cP cs (bs.take 0))):=by
    have Z:=o.o.jO E Q;rw[ar.o] at Z;show jQ _ _ _ _ _ _ _;rw[<-co.o];rw[ar.o];exact Z
   have fz:(pre++aL bs.length).length<=310:=by have:=iE bs.length;rw[T8];omega
   clear Q E o k z A B co ck cl cn;generalize pre++aL bs.length=r at*;obtain⟨z,A,B⟩:=p.o.cells
   go_wp2_with fail
   clear z A B
   go_loopw [0,54] (λam d wr=>∃a:Nat,a<=L.length/\d= .int .i64 (a:Int)/\jQ w wr (.slice t cs.length aJ) (.slice u es.length bV) (.slice C L.length m) am (r++cP cs (bs.take a))) (λ_ d _=>L.length-(US d).toNat)
   case atStart=>exact⟨0,UE _,rfl,p.o⟩
   case round=>
    rename F=>S
    clear p;obtain⟨a,dk,rfl,g⟩:=hrel;have o:=af g;have dE:w.heap.size<=S.heap.size:=g.de.size;by_cases y:a<L.length
    ·have dq:a<bs.length:=by rw[<-ar.o];exact y
     have aa:=en.o.below g.de;obtain rfl:=aa.addr (by omega);have al:aM S au (av+a*2) (.int .i64 (L[a].1.rows:Int)):=aa.c a y 0 _ Y;have bc:aM S au (av+a*2+1) L[a].2:=aa.c a y 1 _ Y;have bA:L[a].1=bs[a]:=by
      have:=et.o;have bt:(L.map Uw)[a]'(by simpa using y)=bs[a]:=by simp only[this]
      simpa using bt
     have cp:X (w.ownsRow base 143 8 L[a].2 bs[a].chunks.length (ei bs[a].chunks)):=by have:=eh.o L[a] (Ui y);rw[bA] at this;exact this
     have T:=af (cf.o bs[a] (Ui dq));have a7:X (r++cP cs (bs.take (a+1))=r++cP cs (bs.take a)++aL bs[a].rows++fj cs bs[a].chunks bs[a].chunks.length):=by
      show _=_;rw[Dk cs bs a dq];unfold ej;simp
     have dv:(r++cP cs (bs.take a)).length<=1540310:=by
      have a9:=xN (bs:=bs.take a) (λb bx=>cf.o b (V4 bx)) fi cs;rw[T8];rw[Vs] at a9;omega
     rw[bA] at al;obtain⟨bb,R,gL,fE,dp,n⟩:=QJ.bN ux cp.o;rw[dp] at bc;have er:=af n;have gq:bs[a].chunks.length<=8:=by have:=T.o.len;omega
     have dC:=T.o.rows;generalize bx:bs[a]=b at*;generalize a0:r++cP cs (bs.take a)=pre at*;clear aa bA bx a0 g cp n dp
     go_upto_region 13 with fail
     have i:=o.o.alloc (.cells #[.int .i64 (b.rows:Int),.slice bb b.chunks.length fE] 139);have x:(S.alloc (.cells #[.int .i64 (b.rows:Int),.slice bb b.chunks.length fE] 139)).heap[S.heap.size]? =I (.cells #[.int .i64 (b.rows:Int),.slice bb b.chunks.length fE] 139 (0,0)):=bk _ _;generalize S.alloc (.cells #[.int .i64 (b.rows:Int),.slice bb b.chunks.length fE] 139)=V at*;have s:=af i;generalize S.heap.size=br at*;obtain⟨M,N⟩:=qz x;have k:X (UB aI 84 #[u0,.int .i64 (b.rows:Int)] V λe w'=>∃h,e= .returned h/\w'.ownsRow w.heap.size 5 1 h (pre++aL b.rows).length (aF (pre++aL b.rows))/\aR V w' u0 h):=cO _ pre b.rows w.heap.size V dC (by omega) i.de.size i.own;clear i al bc o dC
     go_upto_region 14 with(go_at_call 84;refine k.o.mono ?_;rintro e a5 ⟨bd,rfl,Q,E⟩)
     have ae:=s.o.zQ E x (by decide);have p:X (jQ w a5 (.slice t cs.length aJ) (.slice u es.length bV) (.slice (I ⟨au,av,K⟩) L.length m) bd (pre++aL b.rows++fj cs b.chunks 0)):=by
      have Z:=s.o.jO E Q;show jQ _ _ _ _ _ _ _;rw[show fj cs b.chunks 0=[] from rfl,Wr];exact Z
     clear Q E s k x M N;obtain⟨M,N⟩:=qz ae;have f0:(pre++aL b.rows).length<=1540320:=by have:=iE b.rows;rw[T8];omega
     generalize pre++aL b.rows=G at*
     go_wp2_with fail
     clear M N ae
     go_loopw [0,65] (λam d wr=>∃cb:Nat,cb<=b.chunks.length/\d= .int .i64 (cb:Int)/\jQ w wr (.slice t cs.length aJ) (.slice u es.length bV) (.slice (I ⟨au,av,K⟩) L.length m) am (G++fj cs b.chunks cb)) (λ_ d _=>b.chunks.length-(US d).toNat)
     case atStart=>exact⟨0,UE _,rfl,p.o⟩
     case round=>
      rename F=>j
      clear p;obtain⟨d,fu,rfl,g⟩:=hrel;have o:=af g;have dE:w.heap.size<=j.heap.size:=g.de.size;by_cases q:d<b.chunks.length
      ·have ba:d<cs.length:=by have:=T.o.len;omega
       have v:=a6.o.below g.de;obtain rfl:=v.addr (by omega);have f3:=v.c1 d ba;have n:=er.o.below g.de;obtain rfl:=n.addr (by omega);have al:aM j R (gL+d*8) (.string b.chunks[d].text):=n.c d q 0 _ Y;have f7:aM j R (gL+d*8+1) (.bool b.chunks[d].eX.there):=n.c d q 1 _ Y;have f8:aM j R (gL+d*8+2) (.bool b.chunks[d].eX.least.null):=n.c d q 2 _ Y;have f9:aM j R (gL+d*8+3) (.int .i64 b.chunks[d].eX.least.n):=n.c d q 3 _ Y;have gc:aM j R (gL+d*8+4) (.string b.chunks[d].eX.least.s):=n.c d q 4 _ Y;have ge:aM j R (gL+d*8+5) (.bool b.chunks[d].eX.most.null):=n.c d q 5 _ Y;have gf:aM j R (gL+d*8+6) (.int .i64 b.chunks[d].eX.most.n):=n.c d q 6 _ Y;have gg:aM j R (gL+d*8+7) (.string b.chunks[d].eX.most.s):=n.c d q 7 _ Y;have cv:X (G++fj cs b.chunks (d+1)=G++fj cs b.chunks d++aL b.chunks[d].text.size++cm cs[d].kind b.chunks[d].eX):=by
        show _=_;rw[vK];unfold o7;rw[Uh (l:=cs),Ul ba,Uh (l:=b.chunks),Ul q];simp
       have gx:(G++fj cs b.chunks d).length<=1542000:=by
        have a9:=yM T.o cs d fu;rw[T8];omega
       have dO:=T.o.size _ (Ui q);have e1:=af (T.o.least _ (Ui q));have e2:=af (T.o.most _ (Ui q));have eo:=af (eq.o _ (Ui ba));have ch:X (H<w.heap.size):=a6.o.lt (by omega);have cu:=af (a6.o.c1 d ba);have gr:(d:Int)<(cs.length:Int):=by omega
       generalize b.chunks[d]=f at*;generalize cs[d].kind=kd at*;generalize G++fj cs b.chunks d=a1 at*;clear v n g f3
       go_upto_region 17 with fail
       have i:=o.o.alloc (.cells (dH f).toArray 143);have x:(j.alloc (.cells (dH f).toArray 143)).heap[j.heap.size]? =I (.cells (dH f).toArray 143 (0,0)):=bk _ _;rw[show(dH f).toArray=#[.string f.text,.bool f.eX.there,.bool f.eX.least.null,.int .i64 f.eX.least.n,.string f.eX.least.s,.bool f.eX.most.null,.int .i64 f.eX.most.n,.string f.eX.most.s] from rfl] at i x;generalize j.alloc (.cells #[.string f.text,.bool f.eX.there,.bool f.eX.least.null,.int .i64 f.eX.least.n,.string f.eX.least.s,.bool f.eX.most.null,.int .i64 f.eX.most.n,.string f.eX.most.s] 143)=a8 at*;have bm:=af i;have b0:a8.heap[j.heap.size]? =I (.cells (dH f).toArray 143 (0,0)):=x;generalize j.heap.size=W at*;have k:X (UB aI 84 #[u0,.int .i64 (f.text.size:Int)] a8 λe w'=>∃h,e= .returned h/\w'.ownsRow w.heap.size 5 1 h (a1++aL f.text.size).length (aF (a1++aL f.text.size))/\aR a8 w' u0 h):=cO _ a1 f.text.size w.heap.size a8 dO (by omega) i.de.size i.own;clear i al f7 f8 f9 gc ge gf gg o dO x;obtain⟨⟨e3,-⟩,-⟩:=kx b0
       go_upto_region 18 with(go_at_call 84;refine k.o.mono ?_;rintro e ap ⟨a4,rfl,dt,b4⟩)
       have b1:=bm.o.zQ b4 b0 (by decide);have ad:=af (bm.o.jO b4 dt);have e0:=af cv.o;have gv:(a1++aL f.text.size).length<=1542010:=by have:=iE f.text.size;rw[T8];omega
       clear dt b4 bm k b0 e3 cv;generalize a1++aL f.text.size=cc at*;have ef:X (UB aI 85 #[a4,.agg #[.bool f.eX.there,.bool f.eX.least.null,.int .i64 f.eX.least.n,.string f.eX.least.s,.bool f.eX.most.null,.int .i64 f.eX.most.n,.string f.eX.most.s],.int .i64 kd] ap.drew λe w'=>∃ao,e= .returned ao/\w'.ownsRow w.heap.size 5 1 ao (cc++cm kd f.eX).length (aF (cc++cm kd f.eX))/\aR ap.drew w' a4 ao):=
        tT a4 cc f.eX kd w.heap.size ap.drew eo.o e1.o e2.o (by omega) ad.o.de.size ad.o.drew.own
       obtain⟨⟨-,e4,e5,e6,e7,e8,e9,fa⟩,-⟩:=kx b1;obtain⟨z,A,B⟩:=ad.o.cells;have fd:aM ap H (bE+d*2+1) (.int .i64 kd):=(ad.o.de.cell (p:=⟨H,bE+d*2+1,K⟩) ch.o).trans cu.o
       go_region_held3 (λl=>aM l W 1 (.bool f.eX.there)/\aM l W 2 (.bool f.eX.least.null)/\aM l W 3 (.int .i64 f.eX.least.n)/\aM l W 4 (.string f.eX.least.s)/\aM l W 5 (.bool f.eX.most.null)/\aM l W 6 (.int .i64 f.eX.most.n)/\aM l W 7 (.string f.eX.most.s)/\aM l w.heap.size 0 (.slice (I ⟨H,bE,K⟩) cs.length aJ)/\aM l H (bE+d*2+1) (.int .i64 kd)) (first|go_keep|exact⟨a2,a3,d6,d7,d8,d9,ea,eb,ec⟩)
        ((go_at_call 85;refine ef.o.mono ?_;rintro e ee ⟨f5,rfl,du,dc⟩;have b5:aR ap ee a4 f5:=((aR.refl ap a4).drewN 1).trans dc;have c6:=ad.o.zQ b5 b1 (by decide);have P:=af (ad.o.jO b5 du);obtain⟨⟨-,a2,a3,d6,d7,d8,d9,ea⟩,-⟩:=kx c6;have eb:=P.o.cells.1;have ec:aM ee H (bE+d*2+1) (.int .i64 kd):=(P.o.de.cell (p:=⟨H,bE+d*2+1,K⟩) ch.o).trans cu.o))
       clear du dc b5 c6 a2 a3 d6 d7 d8 d9 ea eb ec e4 e5 e6 e7 e8 e9 fa z A B fd b1
       go_wp2_with fail
       go_roundw
       case rel=>exact⟨d+1,by omega,by go_num,by rw[e0.o];exact P.o⟩
       case measure=>simp[US];omega
      ·obtain rfl:d=b.chunks.length:=by omega
       have P:X (jQ w j (.slice t cs.length aJ) (.slice u es.length bV) (.slice (I ⟨au,av,K⟩) L.length m) u0 (r++cP cs (bs.take (a+1)))):=by show jQ _ _ _ _ _ _ _;rw[a7.o];exact g
       clear g o
       go_wp2_with fail
       go_roundw
       case rel=>exact⟨a+1,by omega,by go_num,P.o⟩
       case measure=>simp[US];omega
    ·obtain rfl:a=L.length:=by omega
     have P:X (jQ w S (.slice t cs.length aJ) (.slice u es.length bV) (.slice C L.length m) u0 (jh cs es bs)):=by show jQ _ _ _ _ _ _ _;rw[em.o];exact g
     clear g o
     go_wp2_with fail
     go_ret;exact⟨_,rfl,P.o.own,P.o.de⟩
def zU (w:F)(base:Nat)(v:U)(pre:List Nat):Prop:=
 w.ownsRow base 5 1 v pre.length (aF pre)\/(pre=dM/\∃a,v= .slice (I ⟨a,0,K⟩) 4 4/\base<=a/\w.heap[a]? =I (.cells (aF dM).toArray 5 (4,5)))
def zU.lt{w:F}{base:Nat}{v:U}{pre:List Nat}(h:zU w base v pre):∀g,v.ownBlock=I g->base<=g/\g<w.heap.size:=by
 rcases h with h|⟨-,g,rfl,b,c⟩
 ·exact h.lt
 ·intro d a;simp[Vz] at a;subst a;exact⟨b,(Ua.1 c).1⟩
def zU.zQ{w:F}{base:Nat}{v:U}{pre:List Nat}(h:zU w base v pre){g:Nat}{cs:Array U}{t:Ug}(b:w.heap[g]? =I (.cells cs t (0,0)))(d:t≠5):I g≠v.ownBlock:=by
 rcases h with h|⟨-,e,rfl,-,c⟩
 ·exact bw h b d
 ·intro a;simp[Vz] at a;subst a;rw[b] at c;simp at c
def zU.below{w w':F}{base:Nat}{v:U}{pre:List Nat}(h:zU w base v pre)(b:aP w w'):zU w' base v pre:=by
 rcases h with h|⟨d,c,e,f,a⟩
 ·exact .inl (aK h b)
 ·exact .inr ⟨d,c,e,f,(b.block _ (Ua.1 a).1).trans a⟩
def yE{w:F}{g:Nat}(h:w.heap[g]? =I (.cells (aF dM).toArray 5 (4,5))):∀j u,(aF dM)[j]? =I u->w.cell? ((⟨g,0,K⟩:UJ).add j)=I u:=by
 have:=VJ h;simpa using this
def ru{P:Ue}(w:F){ops:Array Vu}{rest:List Vu}{o:Vu}{a:V5}{Q:Exit->V5->F->Prop}(j:o.guard=K)(sl x:U6)(t u:Ug)
 (m:o.op= .call {callee:=.builtin .append,args:= #[sl,x],argTypes:= #[t,u]})
 (base:Nat) (i:Xg) (q:P.underlying t=I (.slice 5)) (r:P.underlying u=I .string) (k:P.info? 5=I i) (z:i.zero=I (.int .u8 0))
 (p:i.size=1) (g:i.bytes=1) (v:U) (pre:List Nat) (n:a.eval sl=v) (d:zU w base v pre) (s:ByteArray) (y:a.eval x= .string s) (S:0<s.size)
 (b:pre.length+s.size<=Up) (C:pre.length+s.size<=140737488355328) (f:base<=w.heap.size)
 (h:∀e w',w'.ownsRow base 5 1 e (pre.length+s.size) (aF pre++Lib.strCells s)->aR w w' v e->wpList P ops Q rest (a.put o.dst e) w'):wpList P ops Q (o::rest) a w:=by
 rcases d with d|⟨rfl,A,rfl,R,E⟩
 ·exact eO w j sl x t u m base 5 i q r k z p g v pre.length _ n d s y b C f h
 ·refine wpList_plain j λN B=>?_;have O:4+s.size<=9223372036854775807:=by have:dM.length=4:=rfl;unfold Up at b;omega
  have J:=Lib.run_append_grow_string (P:=P) w t u o.type 5 i (.int .u8 0) q r k z ⟨A,0,K⟩ 4 4 (aF dM) (by rw[p];rfl) (yE E) s (by omega) (by omega) (by rw[g];exact growslice_fits (by omega) (by have:dM.length=4:=rfl;omega));unfold Oper.wp UH;simp only[m,X6,invoke,builtin,WJ,Sem.run_pure,Result.andThen_ok,List.map_toArray,Xw,List.map_nil,n,y,J];refine B _ _ (h _ _ ?_ ?_)
  ·have G:=grownCap_ge w (4+s.size) 4 5;have D:=grownCap_le_maxLen w (4+s.size) 4 5 b;have l:(aF dM++Lib.strCells s).length=(4+s.size)*1:=by rw[T8,Lib.strCells_length,Nat.mul_one];rfl
   refine⟨l,.inr ⟨w.heap.size,_,_,rfl,f,heap_alloc_new w.drew _,G,D,?_,?_⟩⟩
   ·have L:(Value.int Yu 0).cells.size=1:=rfl;have H:(aF dM).length=4:=rfl;simp only[Array.size_append,List.size_toArray,size_zeroCells,L,H,Lib.strCells_length];omega
   ·simp only[Array.toList_append,UC];rw[<-UC];show List.take ((4+s.size)*1) _=_;rw[<-l];exact List.take_left
  ·refine⟨⟨rfl,rfl,rfl,by simp,λM c _=>alloc_old (w:=w.drew) _ c Y⟩,λM c=>?_⟩;simp[Vz] at c;exact .inr (by omega)
def wZ{P:Ue}(w:F){ops:Array Vu}{rest:List Vu}{o:Vu}{a:V5}{Q:Exit->V5->F->Prop}(A:o.guard=K)(sl x:U6)(t:Ug)
 (D:o.op= .call {callee:=.builtin .append,args:= #[sl,x],argTypes:= #[t,t]})
 (base:Nat) (i:Xg) (H:P.underlying t=I (.slice 5)) (B:P.info? 5=I i) (L:i.zero=I (.int .u8 0))
 (G:i.size=1) (z:i.bytes=1) (v:U) (pre:List Nat) (E:a.eval sl=v) (p:zU w base v pre) (l:UJ) (c:Nat) (b:List Nat) (J:a.eval x= .slice (I l) b.length c) (S:0<b.length)
 (hc:∀j u,(aF b)[j]? =I u->w.cell? (l.add j)=I u)
 (N:pre.length+b.length<=Up) (W:pre.length+b.length<=140737488355328) (y:base<=w.heap.size)
 (h:∀d w',w'.ownsRow base 5 1 d (pre++b).length (aF (pre++b))->aR w w' v d->wpList P ops Q rest (a.put o.dst d) w'):wpList P ops Q (o::rest) a w:=by
 have r:∀u∈aF b,u.oneCell'=Z:=by
  intro u T;obtain⟨aa,-,rfl⟩:=U7.1 T;rfl
 have C:(aF b).length=b.length*1:=by simp[aF]
 have q:∀(d:U) (w':F),w'.ownsRow base 5 1 d (pre.length+b.length) (aF pre++aF b)->w'.ownsRow base 5 1 d (pre++b).length (aF (pre++b)):=λd w' R=>by
  rw[T8,jb];exact R
 rcases p with p|⟨rfl,M,rfl,s,O⟩
 ·refine aT w A sl x t D base 5 i (.int .u8 0) 1 1 H B L G z Y (by decide) v pre.length _ E p l b.length c (aF b) J S C hc r N (by omega) y ?_;intro d w' m g;refine h d w' (q _ _ m) ?_;rcases g with⟨k,n⟩|⟨k,n⟩
  ·exact⟨⟨k.os,k.tape,k.output,k.size,λf e _=>k.block f e (by simp)⟩,λf e=>.inr (n.lt f e).1⟩
  ·exact⟨n,λf e=>.inl (by rw[<-k];exact e)⟩
 ·have X:dM.length=4:=rfl;refine wpList_append_grows w A sl x t D 5 i (.int .u8 0) 1 1 H B L G z Y (by decide) (I ⟨M,0,K⟩) 4 4 (aF dM) E (λh=>by cases h) Y (λV s=>by cases s;exact yE O) l b.length c (aF b) J C hc r (by omega) (by omega) (by omega) ?_;intro d w' m g;refine h d w' (q _ _ (bL m y)) ⟨⟨g.os,g.tape,g.output,g.size,λf e _=>g.block f e (by simp)⟩,λf e=>.inr (m.lt f e).1⟩
structure ot(w W:F)(cv ev bv u:U)(pre:List Nat):Prop where
 box:W.heap[w.heap.size]? =I (.cells #[cv,ev,bv] 105 (0,0))
 own:zU W w.heap.size u pre
 de:aP w W
def ot.below{w W b:F}{d e c u:U}{pre:List Nat}(h:ot w W d e c u pre)(a:aP W b):ot w b d e c u pre:=
 ⟨(a.block _ (Ud h.box)).trans h.box,h.own.below a,h.de.trans (a.mono h.de.size)⟩
def ot.alloc{w W:F}{b c a u:U}{pre:List Nat}(h:ot w W b c a u pre)(o:Xv):ot w (W.alloc o) b c a u pre:=h.below ((Uo _ _).alloc (T6 _) o)
def ot.jO{w W b:F}{f g e u d:U}{pre c:List Nat}(h:ot w W f g e u pre)(a:aR W b u d)(j:b.ownsRow w.heap.size 5 1 d c.length (aF c)):ot w b f g e d c:=
 ⟨(a.fN.block _ (Ud h.box) (h.own.zQ h.box (by decide))).trans h.box,.inl j,h.de.trans (a.below (λi a=>(h.own.lt i a).1) h.de.size)⟩
def ot.cells{w W:F}{b c a u:U}{pre:List Nat}(h:ot w W b c a u pre):aM W w.heap.size 0 b/\aM W w.heap.size 1 c/\aM W w.heap.size 2 a:=cA h.box
def E7(n:Nat):0<(aL n).length:=by
 unfold aL js
 split<;>simp
def NV(l:List ki)(k:Nat):(cr (l.take k)).length<=(cr l).length:=by
 have a:cr l=cr (l.take k)++cr (l.drop k):=by
  unfold cr;rw[<-Vi,Ww]
 rw[a,T8];omega
def Ly(bs:List Bd)(k:Nat):(bQ (bs.take k)).length<=(bQ bs).length:=by
 have a:bQ bs=bQ (bs.take k)++bQ (bs.drop k):=by
  unfold bQ;rw[<-Vi,Ww]
 rw[a,T8];omega
def Mu(cs:List bK)(es:List Int)(bs:List Bd)(M N J:U)(w:F)(b4:cs.length<=8)(ca:es.length=cs.length)(av:∀c∈cs,c.name.size<=16)(ck:∀c∈cs,c.kind=1\/c.kind=2\/c.kind=3)(dk:bs.length<=2000)(P:∀b∈bs,C8 cs.length b)(cv:∀b∈bs,∀c∈b.chunks,0<c.text.size)(b2:(bQ bs).length<=10000000000)
 (b5:vm w M cs) (cb:rz w N es) (b1:∃base L,L.map Uw=bs/\iX w base J L):
 UB aI 42 #[.agg #[M,N,J]] w λe w'=>e= .returned (.string (strOf (vA cs es bs)))/\aP w w':=by
 obtain⟨a5,au,a1,a2,a3⟩:=Ve an.rF;have bj:X (∀v,aP w v->UB aI 58 #[aO,.agg #[M,N,J]] v λe w'=>∃B,e= .returned B/\w'.ownsRow v.heap.size 5 1 B (jh cs es bs).length (aF (jh cs es bs))/\aP v w'):=λv ao=>
  tV cs es bs M N J v b4 ca av ck dk P (b5.below ao) (cb.lower ao) (by obtain⟨base,L,ae,z⟩:=b1;exact⟨base,L,ae,z.below ao⟩)
 have c1:X ((jh cs es bs).length<=2000000/\0<(jh cs es bs).length):=by
  have ae:=iE cs.length;have z:=uq (es:=es) av cs.length (T6 _);have dd:=iE bs.length;have el:=xN P b4 cs;have em:=E7 cs.length;show _/\_;unfold jh;simp only[T8];omega
 obtain⟨base,L,am,al⟩:=b1;have C:=QJ.bN qC al.own;obtain⟨H,x,y,n,rfl,t⟩:=C;obtain⟨o,eb,bE,aJ,rfl,en,-⟩:=b5;obtain⟨p,ec,jf,bV,rfl,-,-,-⟩:=cb;have bm:=af am;have ad:X (L.length=bs.length):=by show _=_;rw[<-am,UG]
 have bl:=af t;have be:=af al.each;have bu:=af cv;have bd:=af P;have ab:=af b2;have e1:L.length<=2000:=by have:=ad.o;omega
 have du:∀(E:Xv) (u:Array U) (T c:Nat),(convert 133 133 (.slice (I ⟨w.heap.size+1,0,K⟩) T c)).run aI ((w.alloc E).alloc (.cells u 5))= .ok (.slice (I ⟨w.heap.size+1,0,K⟩) T c) ((w.alloc E).alloc (.cells u 5 (u.size,u.size+1))):=λE u T c=>by
  have dc:=Lib.run_convert_bytes_const (P:=aI) (w.alloc E) 133 5 u T c an.underlying133 an.underlying5;rwa [show(w.alloc E).heap.size=w.heap.size+1 by simp] at dc
 clear ca av ck P am t al cv b2;go_enter an.func42,Tryz.ntmps42
 go_upto_region 2 with fail
 clear du;have O:ot w ((w.alloc (.cells #[.slice o cs.length aJ,.slice p es.length bV,.slice H L.length n] 105)).alloc (.cells (aF dM).toArray 5 (4,5))) (.slice o cs.length aJ) (.slice p es.length bV) (.slice H L.length n) (.slice (I ⟨w.heap.size+1,0,K⟩) 4 4) (dM++bQ (bs.take 0)):=
  ⟨alloc_old _ (by simp) (bk w _),.inr ⟨by simp[bQ],w.heap.size+1,rfl,by omega,jG w _ _⟩,gz _ _⟩
 rw[show(aF dM).toArray=#[.int .u8 83,.int .u8 84,.int .u8 82,.int .u8 65] from rfl] at O;generalize (w.alloc (.cells #[.slice o cs.length aJ,.slice p es.length bV,.slice H L.length n] 105)).alloc (.cells #[.int .u8 83,.int .u8 84,.int .u8 82,.int .u8 65] 5 (4,5))=ea at*;obtain⟨a7,a8,a9⟩:=O.cells;have bx:=af O;clear O
 go_wp2_with fail
 clear a7 a8 a9
 go_loopw [3,14] (λba a wr=>∃d:Nat,d<=L.length/\a= .int .i64 (d:Int)/\ot w wr (.slice o cs.length aJ) (.slice p es.length bV) (.slice H L.length n) ba (dM++bQ (bs.take d))) (λ_ a _=>L.length-(US a).toNat)
 case atStart=>exact⟨0,UE _,rfl,bx.o⟩
 case round=>
  clear bx;obtain⟨d,eQ,rfl,g⟩:=hrel;have j:=af g;have dr:w.heap.size<=wr.heap.size:=g.de.size;by_cases D:d<L.length
  ·have Q:d<bs.length:=by rw[<-ad.o];exact D
   have t:=bl.o.below g.de;obtain rfl:=t.addr (by omega);have V:aM wr x (y+d*2) (.int .i64 (L[d].1.rows:Int)):=t.c d D 0 _ Y;have cR:aM wr x (y+d*2+1) L[d].2:=t.c d D 1 _ Y;have ap:L[d].1=bs[d]:=by
    have:=bm.o;have z:(L.map Uw)[d]'(by simpa using D)=bs[d]:=by simp only[this]
    simpa using z
   have bt:X (w.ownsRow base 143 8 L[d].2 bs[d].chunks.length (ei bs[d].chunks)):=by have:=be.o L[d] (Ui D);rw[ap] at this;exact this
   have c4:X (dM++bQ (bs.take (d+1))=dM++bQ (bs.take d)++cr (bs[d].chunks.take bs[d].chunks.length)):=by
    show _=_;rw[xQ bs d Q,Vf,UC]
   have c5:=af (bu.o _ (Ui Q));have bo:X (∀a,(dM++bQ (bs.take d)++cr (bs[d].chunks.take a)).length<=10000000004):=λa=>by
    have ae:=NV bs[d].chunks a;have z:=Ly bs (d+1);rw[xQ bs d Q,T8] at z;have dd:=ab.o;rw[T8,T8];have:dM.length=4:=rfl;omega
   have eo:bs[d].chunks.length<=8:=by have:=(bd.o bs[d] (Ui Q)).len;omega
   rw[ap] at V;obtain⟨S,r,gL,fE,cl,i⟩:=QJ.bN ux bt.o;rw[cl] at cR;have c2:=af i;generalize df:bs[d]=b at*;generalize a0:dM++bQ (bs.take d)=pre at*;clear t ap df a0 g bt i cl
   go_upto_region 5 with fail
   have q:=j.o.alloc (.cells #[.int .i64 (b.rows:Int),.slice S b.chunks.length fE] 139);have A:(wr.alloc (.cells #[.int .i64 (b.rows:Int),.slice S b.chunks.length fE] 139)).heap[wr.heap.size]? =I (.cells #[.int .i64 (b.rows:Int),.slice S b.chunks.length fE] 139 (0,0)):=bk _ _;generalize wr.alloc (.cells #[.int .i64 (b.rows:Int),.slice S b.chunks.length fE] 139)=c9 at*;have s:X (ot w c9 (.slice o cs.length aJ) (.slice p es.length bV) (.slice (I ⟨x,y,K⟩) L.length n) u3 (pre++cr (b.chunks.take 0))):=by
    show ot _ _ _ _ _ _ _;rw[show cr (b.chunks.take 0)=[] from rfl,Wr];exact q
   generalize wr.heap.size=ef at*;obtain⟨dC,dE⟩:=qz A;clear q V cR j
   go_wp2_with fail
   clear dC dE A
   go_loopw [3,21] (λba a wr=>∃a4:Nat,a4<=b.chunks.length/\a= .int .i64 (a4:Int)/\ot w wr (.slice o cs.length aJ) (.slice p es.length bV) (.slice (I ⟨x,y,K⟩) L.length n) ba (pre++cr (b.chunks.take a4))) (λ_ a _=>b.chunks.length-(US a).toNat)
   case atStart=>exact⟨0,UE _,rfl,s.o⟩
   case round=>
    rename F=>h
    clear s;obtain⟨a,et,rfl,g⟩:=hrel;have j:=af g;have dr:w.heap.size<=h.heap.size:=g.de.size;by_cases l:a<b.chunks.length
    ·have i:=c2.o.below g.de;obtain rfl:=i.addr (by omega);have V:aM h r (gL+a*8) (.string b.chunks[a].text):=i.c a l 0 _ Y;have d3:aM h r (gL+a*8+1) (.bool b.chunks[a].eX.there):=i.c a l 1 _ Y;have d4:aM h r (gL+a*8+2) (.bool b.chunks[a].eX.least.null):=i.c a l 2 _ Y;have d5:aM h r (gL+a*8+3) (.int .i64 b.chunks[a].eX.least.n):=i.c a l 3 _ Y;have d6:aM h r (gL+a*8+4) (.string b.chunks[a].eX.least.s):=i.c a l 4 _ Y;have d7:aM h r (gL+a*8+5) (.bool b.chunks[a].eX.most.null):=i.c a l 5 _ Y;have d8:aM h r (gL+a*8+6) (.int .i64 b.chunks[a].eX.most.n):=i.c a l 6 _ Y;have d9:aM h r (gL+a*8+7) (.string b.chunks[a].eX.most.s):=i.c a l 7 _ Y;have bv:X (pre++cr (b.chunks.take (a+1))=pre++cr (b.chunks.take a)++bytesOf b.chunks[a].text):=by
      show _=_;rw[G6 b.chunks a l,UC]
     have e0:=bo.o a;have dp:=bo.o (a+1);rw[bv.o,T8,aj] at dp;have dq:=c5.o _ (Ui l);generalize b.chunks[a]=f at*;generalize pre++cr (b.chunks.take a)=dv at*;clear i g
     go_upto_region 8 with fail
     have q:=j.o.alloc (.cells (dH f).toArray 143);have A:(h.alloc (.cells (dH f).toArray 143)).heap[h.heap.size]? =I (.cells (dH f).toArray 143 (0,0)):=bk _ _;rw[show(dH f).toArray=#[.string f.text,.bool f.eX.there,.bool f.eX.least.null,.int .i64 f.eX.least.n,.string f.eX.least.s,.bool f.eX.most.null,.int .i64 f.eX.most.n,.string f.eX.most.s] from rfl] at q A;generalize h.alloc (.cells #[.string f.text,.bool f.eX.there,.bool f.eX.least.null,.int .i64 f.eX.least.n,.string f.eX.least.s,.bool f.eX.most.null,.int .i64 f.eX.most.n,.string f.eX.most.s] 143)=bA at*;have c6:=af q;have b6:bA.heap[h.heap.size]? =I (.cells (dH f).toArray 143 (0,0)):=A;have ds:w.heap.size<=bA.heap.size:=q.de.size;have cu:=q.own;generalize h.heap.size=eh at*;clear q V d3 d4 d5 d6 d7 d8 d9 j A;obtain⟨⟨da,-⟩,-⟩:=kx b6
     go_wp2_with (at_builtin;refine ru _ Y _ _ 133 9 Y w.heap.size a5 an.underlying133 an.underlying9 au a1 a2 a3 _ dv Y cu f.text Y dq (by unfold Up;omega) (by omega) ds ?_;intro dT d2 aw ci)
     have c7:X (ot w d2 (.slice o cs.length aJ) (.slice p es.length bV) (.slice (I ⟨x,y,K⟩) L.length n) dT (pre++cr (b.chunks.take (a+1)))):=c6.o.jO ci (by
      rw[j8] at aw;rw[bv.o,T8,aj,jb];exact aw)
     clear aw ci cu da b6
     go_roundw
     case rel=>exact⟨a+1,by omega,by go_num,c7.o⟩
     case measure=>simp[US];omega
    ·obtain rfl:a=b.chunks.length:=by omega
     have c8:X (ot w h (.slice o cs.length aJ) (.slice p es.length bV) (.slice (I ⟨x,y,K⟩) L.length n) u3 (dM++bQ (bs.take (d+1)))):=by show ot _ _ _ _ _ _ _;rw[c4.o];exact g
     clear g j
     go_wp2_with fail
     go_roundw
     case rel=>exact⟨d+1,by omega,by go_num,c8.o⟩
     case measure=>simp[US];omega
  ·obtain rfl:d=L.length:=by omega
   have cd:dM++bQ (bs.take L.length)=dM++bQ bs:=by rw[ad.o,Vf]
   rw[cd] at g;have bi:X (vA cs es bs=dM++bQ bs++jh cs es bs++iz (jh cs es bs).length++bytesOf ⟨#[83,84,82,65]⟩):=by
    show _=_;rw[show bytesOf ⟨#[83,84,82,65]⟩=dM from rfl];unfold vA;simp only[UC]
   have e4:(dM++bQ bs).length<=10000000004:=by
    have:=ab.o;rw[T8];have:dM.length=4:=rfl;omega
   obtain⟨er,cc⟩:=c1.o;generalize jh cs es bs=k at*;generalize dM++bQ bs=pre at*;have j:=af g;obtain⟨a7,a8,a9⟩:=g.cells;clear g cd bm bl be bu bd ab
   go_upto_region 12 with(go_at_call 58;refine(bj.o _ j.o.de).mono ?_;rintro e d0 ⟨ee,rfl,az,b0⟩)
   have s:=af (j.o.below b0);obtain⟨bB,db,rfl,-,-⟩:=az.form cc;have b3:=az.cells (g:=bB) Y;have cn:=s.o.own;have dt:w.heap.size<=d0.heap.size:=s.o.de.size;clear a7 a8 a9 b0 j bj
   go_upto_region 13 with(at_builtin;refine wZ _ Y _ _ 133 Y w.heap.size a5 an.underlying133 au a1 a2 a3 _ pre Y cn ⟨bB,0,K⟩ db k Y cc b3 (by unfold Up;omega) (by omega) dt ?_;intro W Z R cf)
   have ar:aP w Z:=(s.o.jO cf R).de;have e2:(pre++k).length<=10002000004:=by rw[T8];omega
   have c0:=af bi.o;clear b3 cn cf s az bi;generalize a0:pre++k=G at*;have bb:X (UB aI 59 #[W,.int .i64 (k.length:Int)] Z λe w'=>∃B,e= .returned B/\w'.ownsRow w.heap.size 5 1 B (G++iz k.length).length (aF (G++iz k.length))/\aR Z w' W B):=tW W G k.length w.heap.size Z (by omega) (by omega) ar.size R;have aa:=af ar;have br:X (∀m,W.ownBlock=I m->w.heap.size<=m):=λm C=>(R.lt m C).1;clear a0 R ar
   go_upto_region 14 with(go_at_call 59;refine bb.o.mono ?_;rintro e d1 ⟨dO,rfl,co,ch⟩)
   have bc:=af (aa.o.trans (ch.below br.o aa.o.size));have cx:w.heap.size<=d1.heap.size:=bc.o.size;have c3:X (∀m,dO.ownBlock=I m->w.heap.size<=m):=λm C=>(co.lt m C).1;have e3:(G++iz k.length).length<=10002000008:=by rw[T8];have:(iz k.length).length=4:=rfl;omega
   clear ch bb aa br;generalize G++iz k.length=a6 at*
   go_wp2_with (at_builtin;refine eO _ Y _ _ 133 9 Y w.heap.size 5 a5 an.underlying133 an.underlying9 au a1 a2 a3 _ a6.length _ Y co ⟨#[83,84,82,65]⟩ Y (show a6.length+4<=Up by unfold Up;omega) (show a6.length+4<=140737488355328 by omega) cx ?_;intro e5 e6 cp dl;rw[j8,<-jb] at cp;have eq:=qh cp (by rw[T8,aj]))
   go_ret;rw[c0.o];exact⟨rfl,bc.o.trans (dl.below c3.o cx)⟩
def vH{cs:List bK}(h:gZ cs):∀c∈cs,c.name.size<=16:=by
 intro c a;obtain⟨d,b,rfl⟩:=Vv a;have:=(h.2.2 d b).1;simp[nZ] at this;omega
def LB{P:aD->Prop}{b:lA}{v:aD}(h1:P b.least)(a:P b.most)(c:P v):P (nW b v).least/\P (nW b v).most:=by
 unfold nW
 split
 ·exact⟨h1,a⟩
 ·dsimp only;constructor<;>split<;>assumption
def FC{P:aD->Prop}(d:P ⟨T5,0,⟨#[]⟩⟩)(l:List aD)(h:∀x∈l,P x):P (ct l).least/\P (ct l).most:=by
 have:∀(l:List aD) (a:lA),P a.least->P a.most->(∀x∈l,P x)->P (l.foldl nW a).least/\P (l.foldl nW a).most:=by
  intro l
  induction l with
  |nil=>intro a b c _;exact⟨b,c⟩
  |cons x j g=>
   intro a b c h;rw[List.foldl_cons];have e:=LB b c (h x (by simp));exact g _ e.1 e.2 (λi f=>h i (by simp[f]))
 exact this l cD d d h
def zP:pp ⟨T5,0,⟨#[]⟩⟩:=⟨by decide,by decide,by decide⟩
def Kn{l:List Int}(h:0<l.length):0<(cw l).length:=by
 cases l with
 |nil=>simp at h
 |cons b a=>
  unfold cw iC;simp;omega
def Dx{k e:Int}{l:List aD}(h:0<l.length):0<(bJ k e l).length:=by
 unfold bJ;rw[T8];have:=Kn (l:=l.map nK) (by simpa using h);omega
def FK{k e:Int}{l:List aD}(h:∀x∈l,pp x)(a:l.length<=100):(bJ k e l).length<=110000:=by
 unfold bJ;rw[T8];have c:=oJ (l.map nK) (by simpa using a);have d:=z7 k e (there l) (λx b=>h x (uZ b)) (by have:=lV l;omega);omega
structure mY(cs:List bK)(rows:List (List aD))(es:List Int)(bd:Nat):Prop where
 table:iG cs rows
 eH:lB cs es
 lo:1<=bd
 hi:bd<=100
 vals:∀r∈rows,∀x∈r,rB x
def mY.len{cs:List bK}{a:List (List aD)}{es:List Int}{b:Nat}(h:mY cs a es b):∀r∈a,r.length=cs.length:=by
 intro r d;obtain⟨e,c,rfl⟩:=Vv d;exact(h.table.2.2 e c).1
def DF{a:List (List aD)}{b j:Nat}{r:List aD}(h:r∈bX a b j):r∈a:=List.mem_of_mem_drop (V4 h)
def mY.col{cs:List bK}{k:List (List aD)}{es:List Int}{c:Nat}(h:mY cs k es c)(j p:Nat)(e:p<cs.length):∀x∈bH (bX k c j) p,fP x cs[p].kind=Z/\pp x:=by
 intro x g;unfold bH at g;obtain⟨i,m,rfl⟩:=U7.1 g;have f:=DF m;obtain⟨o,l,n⟩:=Vv f;have b:=h.table.2.2 o l;rw[n] at b;have a:p<i.length:=by rw[b.1];exact e
 have d:=b.2 p a e;rw[Uh,Ul a];exact⟨d,zO (h.vals i f _ (Ui a)) d⟩
def mY.cut{cs:List bK}{b:List (List aD)}{es:List Int}{a:Nat}(h:mY cs b es a)(j p:Nat):(bH (bX b a j) p).length<=100:=by
 rw[fZ,ir];have:=h.hi;omega
def mY.FV{cs:List bK}{b:List (List aD)}{es:List Int}{a:Nat}(h:mY cs b es a):es.length=cs.length:=h.eH.1.symm
def mY.lM{cs:List bK}{c:List (List aD)}{es:List Int}{a:Nat}(h:mY cs c es a)(bo:Bool)(j p:Nat)(b:p<cs.length):
 BP (bX c a j) cs es bo p=⟨strOf (bJ cs[p].kind (es.getD p 0) (bH (bX c a j) p)),if bo then ct (bH (bX c a j) p) else cD⟩:=by
 rw[H8 b (by rw[h.FV];exact b)];have d:=h.col j p b;rw[L6 (by have:=h.cut j p;omega) (h.eH.2 p b) (λf e=>(d _ (Ui e)).1)]
def mY.chunks{cs:List bK}{d:List (List aD)}{es:List Int}{a:Nat}(h:mY cs d es a)(bo:Bool)(j:Nat):∀c∈ep (bX d a j) cs es bo cs.length,c.text.size<=110000/\pp c.eX.least/\pp c.eX.most/\(j*a<d.length->0<c.text.size):=by
 intro c i;unfold ep at i;obtain⟨b,e,rfl⟩:=U7.1 i;have e:=Vt.1 e;rw[h.lM bo j b e];have k:∀f∈bH (bX d a j) b,pp f:=λf m=>(h.col j b e f m).2;have l:=FC zP _ k;have g:pp (if bo=Z then ct (bH (bX d a j) b) else cD).least/\pp (if bo=Z then ct (bH (bX d a j) b) else cD).most:=by
  cases bo
  ·exact⟨zP,zP⟩
  ·exact l
 refine⟨?_,g.1,g.2,λn=>?_⟩
 ·show(strOf _).size<=_;rw[kJ];exact FK k (h.cut j b)
 ·show 0<(strOf _).size;rw[kJ];refine Dx ?_;rw[fZ,ir];have:=h.lo;omega
def mY.Fu{cs:List bK}{e:List (List aD)}{es:List Int}{c:Nat}(h:mY cs e es c)(bo:Bool)(j:Nat):C8 cs.length (gK (bX e c j) cs es bo):=by
 have d:=h.chunks bo j;refine⟨?_,cS _ _ _ _ _,λa b=>?_,λa b=>(d a b).2.1,λa b=>(d a b).2.2.1⟩
 ·show(bX e c j).length<_;rw[ir];have:=h.hi;omega
 ·have:=(d a b).1;omega
def mY.nb{cs:List bK}{b:List (List aD)}{es:List Int}{a:Nat}(h:mY cs b es a):bZ b.length a<=2000:=by
 have d:=h.table.2.1;have e:=h.lo;unfold bZ;have:=Nat.div_le_self (b.length+a-1) a;rcases Vy a 2 with c|c
 ·have:a=1:=by omega
  subst this;simp;omega
 ·have f:=Nat.div_mul_le_self (b.length+a-1) a;have g:(b.length+a-1)/a*2<=(b.length+a-1)/a*a:=Nat.mul_le_mul_left _ c;have:=h.hi;omega
def mY.b8{cs:List bK}{d:List (List aD)}{es:List Int}{a:Nat}(h:mY cs d es a)(bo:Bool)(n:Nat):∀b∈bO d cs es bo a n,C8 cs.length b:=by
 intro b c;unfold bO at c;obtain⟨e,-,rfl⟩:=U7.1 c;exact h.Fu bo e
def mY.pos{cs:List bK}{d:List (List aD)}{es:List Int}{a:Nat}(h:mY cs d es a)(bo:Bool):∀b∈bO d cs es bo a (bZ d.length a),∀c∈b.chunks,0<c.text.size:=by
 intro b e c g;unfold bO at e;obtain⟨f,i,rfl⟩:=U7.1 e;exact(h.chunks bo f c g).2.2.2 ((mv h.lo f).2 (Vt.1 i))
def mY.body{cs:List bK}{b:List (List aD)}{es:List Int}{a:Nat}(h:mY cs b es a)(bo:Bool):(bQ (bO b cs es bo a (bZ b.length a))).length<=10000000000:=by
 have g:=lQ (λe:Bd=>cr e.chunks) 880000 (bO b cs es bo a (bZ b.length a)) (λe f=>by
  unfold bO at f;obtain⟨c,-,rfl⟩:=U7.1 f;have i:=lQ (λd:ki=>bytesOf d.text) 110000 (ep (bX b a c) cs es bo cs.length) (λd j=>by rw[aj];exact(h.chunks bo c d j).1);have k:=h.table.1.2.1;rw[cS] at i;show(List.flatMap _ _).length<=_;have:(gK (bX b a c) cs es bo).chunks=ep (bX b a c) cs es bo cs.length:=rfl;rw[this];omega)
 have l:=h.nb;rw[ja] at g;show(List.flatMap _ _).length<=_;omega
def eB (cs:List bK)(b:List (List aD))(es:List Int)(bo:Bool)(a:Nat):List Nat:=vA cs es (bO b cs es bo a (bZ b.length a))
def Lp (cs:List bK)(a:List (List aD))(b:Int)(es:List Int)(bo:Bool)(s:ByteArray)(n:Int):Prop:=
 (¬iG cs a/\s=⟨#[]⟩/\n=1)\/(iG cs a/\¬mo b es cs/\s=⟨#[]⟩/\n=2)\/
 (iG cs a/\mo b es cs/\65536<(eB cs a es bo b.toNat).length/\s=⟨#[]⟩/\n=6)\/
 (iG cs a/\mo b es cs/\¬ 65536<(eB cs a es bo b.toNat).length/\s=strOf (eB cs a es bo b.toNat)/\n=0)
end Ec
end Go.Proofs.YtjidbonhhpkljaaGreat
