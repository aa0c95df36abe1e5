/- What the proof stands on, in short names. -/
import Derived.Test.YtjidbonhhpkljaaGreatMb
import Derived.Conc.LoneCalls
import Derived.Conc.Know
import Derived.Conc.CrowdComm
import Derived.Conc.WalkWords
import Derived.Orders
import Derived.Conc.DeferLaws
import Derived.Conc.EventLaws
import Derived.Conc.Neutral
import Derived.Conc.AppendWalk
import Derived.Conc.SmallLaws
import Derived.Conc.AppendEvents3
import Derived.Laws.AppendOwn
import Derived.Great.BuildSlice
import Derived.Lib.SlBytesConst
set_option linter.all false
open Array renaming getD_eq_getD_getElem?->UD,getElem?_eq_getElem->UU,getElem?_eq_none->Vl,getElem?_eq_some_iff->Ub,getElem?_push->VB,getElem?_setIfInBounds->UP,getElem?_setIfInBounds_ne->VS,length_toList->V9,range->Yp,replicate->U3
open Bool renaming and_eq_true->Uw,false->T7,false_eq_true->UB,not_eq_true'->WO,or_eq_true->WT,true->Z
open Classical renaming byContradiction->VZ,choose->Vq,choose_spec->Uv
open Go renaming Act->V6,Addr->UJ,Code->WV,Deferred->Wj,Ending->WS,Event->Vm,Frame->Ut,Func->WC,FuncId->V1,GStep->Yt,Goroutine->UL,IntKind->Wx,Item->WM,MemOp->Yy,Obj->Xv,Oper->Vu,Operand->U6,PanicEntry->Vr,Program->Uf,Sem->Wu,TypeId->Uh,TypeInfo->Xg,Value->U,World->F,doReturn->WZ,execOp->UH,exitTo->Yh,heap_alloc_new->V4,info_parts->Ve,lt_of_block->Ue,maxLen->Uq,resolve->X6,results->UX,stepG->UM,step_append_lies->WK,tryRecover->Xp,typeInfo->XC,undef->Vk,unwind->Yi,yielded->Vj,zeroValue->Wn
open Go.Act renaming put->UW
open Go.Addr renaming add_mid->Xc
open Go.Conc renaming G->Ug,mem_ofEvents->WW,served->Wi,solo->Yj
open Go.ConcN renaming sumTo->XL
open Go.Deferred renaming ofValue->XN
open Go.Frame renaming enter->UY,finish->VW,finish_at->XG
open Go.GStep renaming after->WQ
open Go.Goroutine.mk renaming injEq->YG
open Go.Instr renaming buildSlice->XO,fill->X7,sureAddr->Xd
open Go.IntKind renaming bits->Yg,i64->XM,signed->XU,u8->Yu,wrap_i64->WY
open Go.Item.inRegion renaming injEq->XK
open Go.Machine.mk renaming injEq->Y5
open Go.MemAct renaming ofEvent->WD,touch?->X8
open Go.MemOp renaming ofEvents->XV
open Go.Proofs.Tryz renaming f19->Wc,prog->T4
open Go.Region renaming binds->Vn,ready->UZ,schedule->XZ,wanted->UF
open Go.Region.linearise renaming go->U9
open Go.RowKit renaming intOf->US
open Go.RowKit.Below renaming heap_alloc->UN,refl->Up
open Go.Sem renaming run->Wt,runT_eq->Yd,run_bind->WJ
open Go.Stepped.next renaming injEq->Y2
open Go.Value renaming ownBlock->Vz
open Go.World renaming cell?->Us,news_of_block->VJ
open Go.stepG renaming apply->VN,exec->UI
open List renaming all_eq_true->Uz,append_assoc->UC,append_nil->Wr,cons_append->Wd,flatMap_append->Vi,getD_eq_getElem?_getD->Ui,getElem?_eq_getElem->Um,getElem_mem->Uj,getElem_of_mem->Vv,length_append->Ua,length_cons->VI,length_map->UG,length_nil->XH,length_take->Vs,map_cons->Xw,mem_cons->VM,mem_cons_self->Xs,mem_map->U7,mem_of_mem_take->V5,mem_range->Vt,range->UK,range_succ->XI,setIfInBounds_toArray->Uc,set_cons_succ->Uk,set_cons_zero->Ul,take_append_drop->Ww,take_length->Vf
open List.cons renaming injEq->Xj
open Nat renaming eq_zero_or_pos->Xt,le_refl->T8,le_trans->Uy,lt_of_lt_of_le->Ud,lt_or_ge->Vy,zero_le->UE
open Option renaming bind_eq_some_iff->UR,bind_some->XR,getD_some->V2,map_eq_some_iff->Wq,map_some->V3,none->K,some->I
open Option.some renaming inj->Yk,injEq->U8
open Prod renaming fst->Ux
open WellFounded renaming fixF->Y6,fixF_eq->Y0
set_option maxRecDepth 100000
set_option maxHeartbeats 8000000
namespace Go.Proofs.YtjidbonhhpkljaaGreat
namespace Cc
open Go
def Dh (Stop:Ut->List Ut->F->Prop)(fr:Ut)(aF:List Ut)(w:F):Prop:=∃b a,Stop fr aF (sh b a w)
structure Node(P P':Uf)(Stop:Ut->List Ut->F->Prop) where
 fr:Ut
 aF:List Ut
 w:F
 u:F
 ok:eN P fr aF
 hp:Hp (bn P) w
 un:Un w u
 no:¬Fin P P' (Dh Stop) fr aF w u
section
variable {P P':Uf}{Stop:Ut->List Ut->F->Prop}
def Qq (x:Node P P' Stop)(b:Tp)(d:Nat)(y:Node P P' Stop):Prop:=∃a,Db P P (sh b d x.w) (dP x.fr x.aF) y.fr y.aF y.w a
def Lo (x:Node P P' Stop)(e:Tp)(d:Nat):Prop:=¬oY x.fr x.aF\/(∀m f,∃g b a,dP x.fr x.aF P m f (sh e d x.w)= .ended g b a)\/∃c h b a,Db P P (sh e d x.w) (dP x.fr x.aF) c h b a/\IW c
def IL{w w' c:F}(h:rX w w w' c)(e:Tp)(d:Nat):sh e d c=sh e d w':=by
 have f:c.heap=w'.heap:=by
  apply Array.ext_getElem?;intro b;rcases h.un.cases b with a|⟨a,j,g,i⟩
  ·exact a
  ·rw[(h.keep b a).2,(h.keep b a).1,a]
 unfold sh;rw[f,h.un.os,h.un.output]
def CF{w w':F}{c:Uf->Bool->List Ut->F->Yt}{fr':Ut}{tops':List Ut}{es:Array Vm}(h:∀a d u,Un w u->Al w.tape w.drawn a d (w'.drawn-w.drawn)->∃b,rX w u w' b/\∀m cs,c P m cs (sh a d u)= .go (Ug fr' (tops'++cs)) (sh a (d+(w'.drawn-w.drawn)) b) es)(a:Tp)(d:Nat)(f:Al w.tape w.drawn a d (w'.drawn-w.drawn)):c P Z [bG] (sh a d w)= .go (Ug fr' (tops'++[bG])) (sh a (d+(w'.drawn-w.drawn)) w') es:=by
 obtain⟨b,g,e⟩:=h a d w (Un.refl w) f;rw[e Z [bG],IL g]
def Jz{w:F}{fr:Ut}{aF:List Ut}(h:Twins P P')(e:Hp (bn P) w)(ok:eN P fr aF)(f:oY fr aF){fr':Ut}{tops':List Ut}{w':F}{es:Array Vm}(b:Db P P' w (dP fr aF) fr' tops' w' es):Db P P w (dP fr aF) fr' tops' w' es:=by
 rcases ze h.self.A h.self.R e ok f with d|⟨i,k,m,g,c⟩
 ·obtain⟨j,l,L9,a⟩:=d Z [];rw[b.eq] at a;cases a
 ·have a:=(c.eq Z []).symm.trans (b.eq Z []);simp only[Ug,Wr,GStep.go.injEq,YG] at a;obtain⟨⟨rfl,rfl,-⟩,rfl,rfl⟩:=a;exact c
def JU(h:Twins P P')(x:Node P P' Stop):∃a d y,Lo x a d\/Qq x a d y:=by
 apply VZ;intro s;have t:∀a d,¬Lo x a d/\∀y,¬Qq x a d y:=λa d=>⟨λi=>s ⟨a,d,x,.inl i⟩,λy C=>s ⟨a,d,y,.inr C⟩⟩;have j:∀a d,∃b:Ut×List Ut×F×F×Array Vm,(∀m g,UM P' m (Ug x.fr (x.aF++g)) (sh a d x.u)= .go (Ug b.1 (b.2.1++g)) b.2.2.2.1 b.2.2.2.2)/\BC P (sh a d x.w) b.2.2.1 b.2.2.2.2/\(rX (sh a d x.w) (sh a d x.u) b.2.2.1 b.2.2.2.1/\b.2.2.2.1.tape=b.2.2.1.tape)/\eN P b.1 b.2.1/\Fin P P' (Dh Stop) b.1 b.2.1 b.2.2.1 b.2.2.2.1:=by
  intro a d;obtain⟨p,A⟩:=t a d;have f:oY x.fr x.aF:=VZ λf=>p (.inl f);rcases ze h.A h.R (x.hp.sh a d) x.ok f with z|⟨n,q,e,l,c⟩
  ·exact absurd (.inr (.inl z)) p
  ·have u:=Jz h (x.hp.sh a d) x.ok f c;rcases c.twin with o|i
   ·exact absurd (.inr (.inr ⟨n,q,e,l,u,o.2⟩)) p
   ·obtain⟨r,k,i⟩:=i a d x.u ⟨x.un.size,x.un.at_,x.un.os,x.un.output⟩ (Al.refl _ _ _);have o:=c.drawn;have w:(sh a d x.w).drawn=d:=rfl;rw[w] at o i;have v:rX (sh a d x.w) (sh a d x.u) e (sh a e.drawn r):=⟨⟨k.un.size,k.un.at_,k.un.os,k.un.output⟩,k.keep⟩;refine⟨(n,q,e,sh a e.drawn r,l),λm g=>?_,⟨c.hp,c.tape,c.drawn,c.size,c.os,c.output,c.evs⟩,⟨v,c.tape.symm⟩,c.ok,?_⟩
    ·have:=i m g;rw[show d+(e.drawn-d)=e.drawn by omega] at this;exact this
    ·apply VZ;intro B;exact A ⟨n,q,e,sh a e.drawn r,c.ok,c.hp,v.un,B⟩ ⟨l,u⟩
 have f:oY x.fr x.aF:=VZ λf=>(t (λ_ _=>0) 0).1 (.inl f);exact x.no (.step (λa d=>Vq (j a d)) (λa d m g=>(Uv (j a d)).1 m g) (λa d=>(Uv (j a d)).2.1) (λa d=>(Uv (j a d)).2.2.1) (λa d=>(Uv (j a d)).2.2.2.1) f λa d=>(Uv (j a d)).2.2.2.2)
def least{p:Nat->Prop}:∀(n:Nat),p n->∃m,m<=n/\p m/\∀i<m,¬p i:=by
 intro n
 induction n using Nat.strongRecOn with
 |_ n g=>
  intro f;by_cases c:∃i,i<n/\p i
  ·obtain⟨i,a,b⟩:=c;obtain⟨m,h,d,e⟩:=g i a b;exact⟨m,by omega,d,e⟩
  ·exact⟨n,T8 _,f,λi a b=>c ⟨i,a,b⟩⟩
def zo{fr fr':Ut}{l b:List Ut}{w w':F}(h:Stepped.next (Yj (Ug fr l) w)= .next (Yj (Ug fr' b) w')):fr=fr'/\l=b/\w=w':=by
 simp only[Y2,Yj,Ug,Y5,YG,Array.mk.injEq,Xj] at h;obtain⟨c,a,-⟩:=h;simp at a;exact⟨a.1,a.2,c⟩
def step_end{fr:Ut}{l:List Ut}{w w':F}{o:Outcome}{es:Array Vm}(h:UM P Z (Ug fr l) w= .ended o w' es):step P (Yj (Ug fr l) w)= .ended o w':=
 step_lone_ended (by simp only[Ug] at h;rw[h];rfl)
def Jp{fr:Ut}(h:IW fr)(l:List Ut)(w:F):∃o w',step P (Yj (Ug fr l) w)= .ended o w':=by
 obtain⟨c,s,d⟩:=h;have:∃o w' a,UM P Z (Ug fr l) w= .ended o w' a:=by simp[Ug,UM,UI,c,d]
 obtain⟨o,w',a,b⟩:=this;exact⟨o,w',step_end b⟩
def vC(h:Twins P P')(a6:∀fr aF w,Stop fr aF w->¬IW fr){fr:Ut}{aF:List Ut}{w u:F}(ok:eN P fr aF)(bc:Hp (bn P) w)(bj:Un w u)
 (a9:∀bl,∃N fr' tops' w',runN P N (Yj (Ug fr (aF++[bG])) (sh bl 0 w))= .next (Yj (Ug fr' (tops'++[bG])) w')/\Stop fr' tops' w'):Fin P P' (Dh Stop) fr aF w u:=by
 apply VZ;intro bb;obtain⟨l,Q⟩:=Classical.axiomOfChoice (JU (Stop:=Stop) h);obtain⟨k,a5⟩:=Classical.axiomOfChoice Q;obtain⟨s,bd⟩:=Classical.axiomOfChoice a5;let b:Nat->Node P P' Stop:=λa=>Nat.rec ⟨fr,aF,w,u,ok,bc,bj,bb⟩ (λ_ L=>s L) a;let V:Node P P' Stop->Nat:=λL=>(s L).w.drawn-k L;let D:Nat->Nat:=λa=>Nat.rec 0 (λa a0=>a0+V (b a)) a;let q:Nat->Prop:=λa=>Lo (b a) (l (b a)) (k (b a));have aa:∀a,D (a+1)=D a+V (b a):=λa=>rfl;have bm:∀a,b (a+1)=s (b a):=λa=>rfl;have al:∀a c,c<a->D (c+1)<=D a:=by
  intro a
  induction a with
  |zero=>intro c n;omega
  |succ a U=>
   intro c n;rcases Vy c a with h|h
   ·have:=U c h;rw[aa a];omega
   ·have:c=a:=by omega
    subst this;exact T8 _
 let W:Nat->Nat->Prop:=λi a=>D a<=i/\(q a\/i<D (a+1));have t:∃d:Tp,∀a,(∀c<a,¬q c)->∀i g,W i a->d i g=l (b a) (k (b a)+(i-D a)) g:=by
  have a8:∀(i:Nat),∃f:Question->Nat,∀a,(∀c<a,¬q c)->W i a->∀g,f g=l (b a) (k (b a)+(i-D a)) g:=by
   intro i;by_cases E:∃a,(∀c<a,¬q c)/\W i a
   ·obtain⟨a,o,G⟩:=E;refine⟨λg=>l (b a) (k (b a)+(i-D a)) g,λA ba am g=>?_⟩;have:a=A:=by
     rcases Nat.lt_trichotomy a A with z|S|z
     ·have Q:=al A a z;rcases G.2 with p|p
      ·exact absurd p (ba a z)
      ·have:=am.1;omega
     ·exact S
     ·have Q:=al a A z;rcases am.2 with p|p
      ·exact absurd p (o A z)
      ·have:=G.1;omega
    subst this;rfl
   ·exact⟨λ_=>0,λa o G=>absurd ⟨a,o,G⟩ E⟩
  obtain⟨d,t⟩:=Classical.axiomOfChoice a8;exact⟨λi g=>d i g,λa o i g E=>t i a o E g⟩
 obtain⟨d,t⟩:=t;have aq:∀a,(∀c<a,¬q c)->runN P a (Yj (Ug fr (aF++[bG])) (sh d 0 w))= .next (Yj (Ug (b a).fr ((b a).aF++[bG])) (sh d (D a) (b a).w)):=by
  intro a
  induction a with
  |zero=>intro _;rfl
  |succ a U=>
   intro o;have O:=U λc n=>o c (by omega);rcases bd (b a) with p|⟨B,y⟩
   ·exact absurd p (o a (by omega))
   ·rcases y.twin with j|j
    ·exact absurd Y j.1
    ·have C:Al (sh (l (b a)) (k (b a)) (b a).w).tape (sh (l (b a)) (k (b a)) (b a).w).drawn d (D a) ((s (b a)).w.drawn-(sh (l (b a)) (k (b a)) (b a).w).drawn):=by
      intro c g n;have:=t a (λc n=>o c (by omega)) (D a+c) g ⟨by omega,.inr (by rw[aa];exact Nat.add_lt_add_left n _)⟩;rw[this,Nat.add_sub_cancel_left];rfl
     have T:=CF j d (D a) C;have H:step P (Yj (Ug (b a).fr ((b a).aF++[bG])) (sh d (D a) (b a).w))= .next (Yj (Ug (s (b a)).fr ((s (b a)).aF++[bG])) (sh d (D a+V (b a)) (s (b a)).w)):=Conc.step_solo_go Y T;rw[runN_add,O];simp only[runN,H];rfl
 obtain⟨N,fr',tops',w',e,R⟩:=a9 d;by_cases ab:∀c<N,¬q c
 ·have:=(aq N ab).symm.trans e;obtain⟨M,x,a2⟩:=zo this;have a3:=List.append_cancel_right x;rw[<-M,<-a3,<-a2] at R;exact(b N).no (.stop ⟨d,D N,R⟩)
 ·have:∃c,c<N/\q c:=VZ λj=>ab λc n p=>j ⟨c,n,p⟩;obtain⟨c,n,bi⟩:=this;obtain⟨a,bo,ar,ad⟩:=least (p:=q) c bi;have O:=aq a ad;obtain⟨v,rfl⟩:∃v,N=a+(v+1):=⟨N-a-1,by omega⟩;rw[runN_add,O] at e;simp only[runN] at e;have C:∀av,Al (l (b a)) (k (b a)) d (D a) av:=λav c g n=>by
   rw[t a ad (D a+c) g ⟨by omega,.inl ar⟩,Nat.add_sub_cancel_left]
  have ao:=(b a).hp.sh d (D a);have ap:¬oY (b a).fr (b a).aF->False:=by
   intro r;have be:(b a).aF=[]:=VZ λj=>r λm=>absurd m j;have aw:=(b a).ok;rw[be] at r aw e;rcases Tw h ao aw r with⟨I,J,B,m⟩|⟨a1,J,B,m⟩
   ·rw[show([]:List Ut)++[bG]=[bG] from rfl,step_end m] at e;cases e
   ·rw[show([]:List Ut)++[bG]=[bG] from rfl,Conc.step_solo_go Y m] at e;dsimp only at e;cases v with
    |zero=>
     obtain⟨-,x,-⟩:=zo e;simp at x
    |succ v=>
     obtain⟨I,K,X,x⟩:=CR (P:=P) a1 J;simp only[runN,step_end x] at e;cases e
  rcases ar with r|S|⟨a4,az,K,X,y,ae⟩
  ·exact ap r
  ·by_cases r:oY (b a).fr (b a).aF
   ·rcases ze h.self.A h.self.R ao (b a).ok r with a7|⟨a4,az,K,X,y⟩
    ·obtain⟨I,J,B,m⟩:=a7 Z [bG];rw[step_end m] at e;cases e
    ·rcases y.twin with j|j
     ·exact absurd Y j.1
     ·obtain⟨I,J,B,m⟩:=S Z [bG];have:=CF j (l (b a)) (k (b a)) (λc g n=>((C _) c g n).symm);rw[show sh (l (b a)) (k (b a)) (sh d (D a) (b a).w)=sh (l (b a)) (k (b a)) (b a).w from rfl,m] at this;cases this
   ·exact ap r
  ·rcases y.twin with j|j
   ·exact absurd Y j.1
   ·have T:=CF j d (D a) (C _);have H:=Conc.step_solo_go (P:=P) (a:=Ug (b a).fr ((b a).aF++[bG])) Y T;rw[show sh d (D a) (sh (l (b a)) (k (b a)) (b a).w)=sh d (D a) (b a).w from rfl] at H;rw[H] at e;dsimp only at e;cases v with
    |zero=>
     obtain⟨M,-,-⟩:=zo e;exact a6 _ _ _ R (M▸ae)
    |succ v=>
     obtain⟨I,br,m⟩:=Jp (P:=P) ae (az++[bG]) (sh d (D a+(K.drawn-(sh (l (b a)) (k (b a)) (b a).w).drawn)) K);simp only[runN,m] at e;cases e
end
end Cc
namespace Cc
open Go Go.Conc
def blk:Loc->Nat
 | .cell a=>a.block
 | .obj b=>b
 |_=>0
structure wG where
 c:Nat
 own:Nat->Prop
 pc:Option Nat
def Oe (S:Nat->Prop)(x:wG)(a:Touch):Prop:=x.own (blk a.loc)\/blk a.loc=x.c\/(S (blk a.loc)/\a.write=T7)
structure tT(S:Nat->Prop)(wk:Nat->Option wG)(B:Nat)(t:Trace):Prop where
 wl:Wordless t
 clean:∀said,¬Race said t
 low:∀i a,touchAt t i=I a->a.loc.isMemory=Z->blk a.loc<B
 known:∀i a,touchAt t i=I a->a.loc.isMemory=Z->Knows t 0 i\/∃k x,wk k=I x/\t.g? i=I k/\Oe S x a/\∀p,x.pc=I p->Before t i p
 wr:∀k x,wk k=I x->x.pc=K->∀i a,touchAt t i=I a->a.loc.isMemory=Z->a.write=Z->S (blk a.loc)->Knows t k i
 ow:∀k x,wk k=I x->x.pc=K->∀i a,touchAt t i=I a->a.loc.isMemory=Z->(x.own (blk a.loc)\/blk a.loc=x.c)->Knows t k i
 shut:∀k x p,wk k=I x->x.pc=I p->t.act? p=I (.close x.c)
section
variable {S:Nat->Prop}{wk:Nat->Option wG}{B B':Nat}{t u:Trace}
def ym{i k:Nat}(h:t.g? i=I k):(t++u).g? i=I k:=by
 unfold Trace.g? at h ⊢;obtain⟨c,a,b⟩:=Wq.1 h;rw[getElem?_append_old (lt_size_of_getElem? a),a];simpa using b
def cL{i:Nat}{a:Touch}(h:touchAt (t++u) i=I a):touchAt t i=I a\/∃b,b∈u/\(t++u)[i]? =I b/\b.act.touch?= I a:=by
 obtain⟨g,c,d⟩:=touch_of h;rcases getElem?_append_cases c with⟨_,e⟩|⟨_,f⟩
 ·exact .inl (by rw[touchAt_of e];exact d)
 ·exact .inr ⟨g,f,c,d⟩
def tT.mute(h:tT S wk B t){γ:Nat}(y:∀j∈u,j.g=γ)(z:Wordless u)(p:∀j∈u,j.act.touch?= K)(s:B<=B'):tT S wk B' (t++u):=by
 have m:∀{b a},touchAt (t++u) b=I a->touchAt t b=I a:=λc=>by
  rcases cL c with g|⟨j,g,_,l⟩
  ·exact g
  ·rw[p j g] at l;cases l
 refine⟨h.wl.append z,λC=>noRace_append (h.clean C) y λb a _ j w D o _=>(by rw[p j w] at o;cases o),λb a c i=>Ud (h.low b a (m c) i) s,λb a c i=>?_,λe f k d b a c i A x=>(h.wr e f k d b a (m c) i A x).app u,λe f k d b a c i v=>(h.ow e f k d b a (m c) i v).app u,λe f n k d=>by rw[act?_old (lt_of_act? (h.shut e f n k d))];exact h.shut e f n k d⟩;rcases h.known b a (m c) i with g|⟨e,f,g,l,q,r⟩
 ·exact .inl (g.app u)
 ·exact .inr ⟨e,f,g,ym l,q,λn d=>(r n d).app u⟩
def tT.main(h:tT S wk B t)(w:∀d∈u,d.g=0)(G:Wordless u)(A:B<=B')
 (o:∀d∈u,∀b,d.act.touch?= I b->b.loc.isMemory=Z->blk b.loc<B'/\(∀k x,wk k=I x->¬x.own (blk b.loc)/\blk b.loc≠x.c)/\(S (blk b.loc)->b.write=T7)):tT S wk B' (t++u):=by
 refine⟨h.wl.append G,λH=>noRace_append (h.clean H) w λj e i d E b C D=>?_,λj e i c=>?_,λj e i c=>?_,λk x g l j e i c s v=>?_,λk x g l j e i c n=>?_,λk x q g l=>by rw[act?_old (lt_of_act? (h.shut k x q g l))];exact h.shut k x q g l⟩
 ·obtain⟨p,c,y,_⟩:=D;obtain⟨_,f,r⟩:=o d E b C (p▸c);rcases h.known j e i c with a|⟨k,x,g,_,F,_⟩
  ·exact a
  ·rcases F with m|m|⟨m,z⟩
   ·exact absurd (p▸m) (f k x g).1
   ·exact absurd (p▸m) (f k x g).2
   ·have:=r (p▸m);rw[z,this] at y;simp at y
 ·rcases cL i with a|⟨d,a,_,f⟩
  ·exact Ud (h.low j e a c) A
  ·exact(o d a e f c).1
 ·rcases cL i with a|⟨d,a,f,_⟩
  ·rcases h.known j e a c with a|⟨k,x,a,f,r,m⟩
   ·exact .inl (a.app u)
   ·exact .inr ⟨k,x,a,ym f,r,λq l=>(m q l).app u⟩
  ·have:=knows_own f;rw[w d a] at this;exact .inl this
 ·rcases cL i with a|⟨d,a,_,f⟩
  ·exact(h.wr k x g l j e a c s v).app u
  ·rw[(o d a e f c).2.2 v] at s;cases s
 ·rcases cL i with a|⟨d,a,_,f⟩
  ·exact(h.ow k x g l j e a c n).app u
  ·rcases n with n|n
   ·exact absurd n ((o d a e f c).2.1 k x g).1
   ·exact absurd n ((o d a e f c).2.1 k x g).2
def tT.RO(h:tT S wk B t){k:Nat}{x:wG}(r:wk k=I x)(s:x.pc=K){own':Nat->Prop}(X:∀b,x.own b->own' b)(L:∀b,own' b->x.own b\/B<=b)(F:∀l∈u,l.g=k)(Y:Wordless u)(P:B<=B')
 (Q:∀b,own' b->¬S b) (R:¬S x.c)
 (V:∀j y,j≠k->wk j=I y->(∀b,own' b->¬y.own b/\b≠y.c)/\¬y.own x.c/\x.c≠y.c/\(∀b,S b->¬y.own b/\b≠y.c))
 (z:∀l∈u,∀b,l.act.touch?= I b->b.loc.isMemory=Z->blk b.loc<B'/\Oe S ⟨x.c,own',K⟩ b):tT S (λj=>if j=k then I ⟨x.c,own',K⟩ else wk j) B' (t++u):=by
 have G:∀{j y},(if j=k then I (⟨x.c,own',K⟩:wG) else wk j)=I y->(j=k/\y=⟨x.c,own',K⟩)\/(j≠k/\wk j=I y):=λ{j y} D=>by
  split at D
  ·rename_i g;cases D;exact .inl ⟨g,rfl⟩
  ·rename_i g;exact .inr ⟨g,D⟩
 refine⟨h.wl.append Y,λaa=>noRace_append (h.clean aa) F λi f m l W b T U=>?_,λi f m d=>?_,λi f m d=>?_,λj y g n i f m d C A=>?_,λj y g n i f m d e=>?_,λj y v g n=>?_⟩
 ·obtain⟨w,d,M,_⟩:=U;rcases(z l W b T (w▸d)).2 with c|c|⟨c,p⟩
  ·rcases L _ c with p|p
   ·exact h.ow k x r s i f m d (.inl (w▸p))
   ·have:=h.low i f m d;rw[w] at this;omega
  ·exact h.ow k x r s i f m d (.inr (w▸c))
  ·rw[p] at M;exact h.wr k x r s i f m d (by simpa using M) (w▸c)
 ·rcases cL m with a|⟨l,a,_,o⟩
  ·exact Ud (h.low i f a d) P
  ·exact(z l a f o d).1
 ·rcases cL m with a|⟨l,a,o,q⟩
  ·rcases h.known i f a d with a|⟨j,y,a,o,q,c⟩
   ·exact .inl (a.app u)
   ·by_cases g:j=k
    ·subst g;rw[r] at a;cases a;refine .inr ⟨j,⟨x.c,own',K⟩,by simp,ym o,?_,λv n=>by cases n⟩;exact q.imp (X _) id
    ·exact .inr ⟨j,y,by simp[g,a],ym o,q,λv n=>(c v n).app u⟩
  ·refine .inr ⟨k,⟨x.c,own',K⟩,by simp,?_,(z l a f q d).2,λv n=>by cases n⟩;simp[Trace.g?,o,F l a]
 ·rcases cL m with a|⟨l,a,_,o⟩
  ·rcases G g with⟨rfl,rfl⟩|⟨E,g⟩
   ·exact(h.wr j x r s i f a d C A).app u
   ·exact(h.wr j y g n i f a d C A).app u
  ·rcases(z l a f o d).2 with c|c|⟨c,p⟩
   ·exact absurd A (Q _ c)
   ·exact absurd A (c▸R)
   ·rw[p] at C;cases C
 ·rcases G g with⟨rfl,rfl⟩|⟨E,g⟩
  ·rcases cL m with a|⟨l,a,o,q⟩
   ·refine Knows.app u ?_;rcases e with e|e
    ·rcases L _ e with p|p
     ·exact h.ow j x r s i f a d (.inl p)
     ·have:=h.low i f a d;omega
    ·exact h.ow j x r s i f a d (.inr e)
   ·have:=knows_own o;rw[F l a] at this;exact this
  ·obtain⟨H,N,O,J⟩:=V j y E g;rcases cL m with a|⟨l,a,o,q⟩
   ·exact(h.ow j y g n i f a d e).app u
   ·rcases(z l a f q d).2 with c|c|⟨c,p⟩
    ·rcases e with e|e
     ·exact absurd e (H _ c).1
     ·exact absurd e (H _ c).2
    ·rcases e with e|e
     ·exact absurd (c▸e) N
     ·exact absurd (c.symm.trans e) O
    ·rcases e with e|e
     ·exact absurd e (J _ c).1
     ·exact absurd e (J _ c).2
 ·rcases G g with⟨rfl,rfl⟩|⟨E,g⟩
  ·cases n
  ·rw[act?_old (lt_of_act? (h.shut j y v g n))];exact h.shut j y v g n
def tT.close(h:tT S wk B t){k:Nat}{x:wG}(H:wk k=I x)(V:x.pc=K)(R:x.c<B)(aa:¬S x.c)(fn:V1)(pos:String)
 (T:∀j y,j≠k->wk j=I y->¬y.own x.c/\x.c≠y.c):
 tT S (λj=>if j=k then I ⟨x.c,x.own,I (t.size+1)⟩ else wk j) B (t++XV k fn pos #[⟨.obj x.c,T7,Z⟩,⟨.obj x.c,Z,Z⟩]):=by
 have O:XV k fn pos #[⟨.obj x.c,T7,Z⟩,⟨.obj x.c,Z,Z⟩]=#[{g:=k,fn,pos,act:=.access ⟨.obj x.c,T7,Z⟩},{g:=k,fn,pos,act:=.close x.c}]:=by
  rw[ofEvents_eq];simp[WD]
 rw[O];have J:∀d∈ #[({g:=k,fn,pos,act:=.access ⟨.obj x.c,T7,Z⟩}:Yy),{g:=k,fn,pos,act:=.close x.c}],d.g=k:=by
  intro d o;simp at o;rcases o with rfl|rfl<;>rfl
 have w:∀d∈ #[({g:=k,fn,pos,act:=.access ⟨.obj x.c,T7,Z⟩}:Yy),{g:=k,fn,pos,act:=.close x.c}],∀r,d.act.touch?= I r->r=⟨.obj x.c,T7,.atomic⟩:=by
  intro d o r v;simp at o;rcases o with rfl|rfl
  ·simp[X8] at v;exact v.symm
  ·simp[X8] at v
 have A:(t++#[({g:=k,fn,pos,act:=.access ⟨.obj x.c,T7,Z⟩}:Yy),{g:=k,fn,pos,act:=.close x.c}])[t.size+1]? =I {g:=k,fn,pos,act:=.close x.c}:=by
  rw[Array.getElem?_append_right (by omega)];simp
 have E:∀b,(t++#[({g:=k,fn,pos,act:=.access ⟨.obj x.c,T7,Z⟩}:Yy),{g:=k,fn,pos,act:=.close x.c}]).g? b=I k->b≠t.size+1->Before (t++#[({g:=k,fn,pos,act:=.access ⟨.obj x.c,T7,Z⟩}:Yy),{g:=k,fn,pos,act:=.close x.c}]) b (t.size+1):=by
  intro b G z;unfold Trace.g? at G;obtain⟨d,n,s⟩:=Wq.1 G;have:=lt_size_of_getElem? n;simp at this;exact .inr (hb_po (by omega) n A s)
 have D:∀{j y},(if j=k then I (⟨x.c,x.own,I (t.size+1)⟩:wG) else wk j)=I y->(j=k/\y=⟨x.c,x.own,I (t.size+1)⟩)\/(j≠k/\wk j=I y):=λ{j y} s=>by
  split at s
  ·rename_i c;cases s;exact .inl ⟨c,rfl⟩
  ·rename_i c;exact .inr ⟨c,s⟩
 have X:Wordless #[({g:=k,fn,pos,act:=.access ⟨.obj x.c,T7,Z⟩}:Yy),{g:=k,fn,pos,act:=.close x.c}]:=by
  intro d o m i;simp at o;rcases o with rfl|rfl<;>cases i
 have L:∀{b e},touchAt (t++#[({g:=k,fn,pos,act:=.access ⟨.obj x.c,T7,Z⟩}:Yy),{g:=k,fn,pos,act:=.close x.c}]) b=I e->b≠t.size+1:=by
  rintro b e g rfl;rw[touchAt_of A] at g;simp[X8] at g
 refine⟨h.wl.append X,λY=>noRace_append (h.clean Y) J λb e g d o r v Q=>?_,λb e g i=>?_,λb e g i=>?_,λj y c f b e g i C W=>?_,λj y c f b e g i n=>?_,λj y q c f=>?_⟩
 ·obtain⟨U,i,_⟩:=Q;have:=w d o r v;subst this;exact h.ow k x H V b e g i (.inr (by rw[U];rfl))
 ·rcases cL g with a|⟨d,a,_,l⟩
  ·exact h.low b e a i
  ·rw[w d a e l];exact R
 ·rcases cL g with a|⟨d,a,l,p⟩
  ·rcases h.known b e a i with a|⟨j,y,a,l,p,P⟩
   ·exact .inl (a.app _)
   ·by_cases c:j=k
    ·subst c;rw[H] at a;cases a;exact .inr ⟨j,⟨x.c,x.own,I (t.size+1)⟩,by simp,ym l,p,λq f=>by cases f;exact E b (ym l) (L g)⟩
    ·exact .inr ⟨j,y,by simp[c,a],ym l,p,λq f=>(P q f).app _⟩
  ·have F:(t++#[({g:=k,fn,pos,act:=.access ⟨.obj x.c,T7,Z⟩}:Yy),{g:=k,fn,pos,act:=.close x.c}]).g? b=I k:=by simp only[Trace.g?,l,V3,J d a]
   refine .inr ⟨k,⟨x.c,x.own,I (t.size+1)⟩,by simp,F,.inr (.inl (by rw[w d a e p];rfl)),λq f=>by cases f;exact E b F (L g)⟩
 ·rcases D c with⟨rfl,rfl⟩|⟨z,c⟩
  ·cases f
  ·rcases cL g with a|⟨d,a,_,l⟩
   ·exact(h.wr j y c f b e a i C W).app _
   ·rw[w d a e l] at C;cases C
 ·rcases D c with⟨rfl,rfl⟩|⟨z,c⟩
  ·cases f
  ·obtain⟨M,N⟩:=T j y z c;rcases cL g with a|⟨d,a,l,p⟩
   ·exact(h.ow j y c f b e a i n).app _
   ·rw[w d a e p] at n;rcases n with n|n
    ·exact absurd n M
    ·exact absurd n N
 ·rcases D c with⟨rfl,rfl⟩|⟨z,c⟩
  ·cases f;rw[act?_of A]
  ·rw[act?_old (lt_of_act? (h.shut j y q c f))];exact h.shut j y q c f
def tT.Mw(h:tT S wk B t){k p:Nat}{x:wG}(r:wk k=I x)(s:x.pc=I p)(fn:V1)(pos:String):
 tT S (λj=>if j=k then K else wk j) B (t++#[{g:=0,fn,pos,act:=.recvClosed x.c}]):=by
 have D:Wordless #[({g:=0,fn,pos,act:=.recvClosed x.c}:Yy)]:=by
  intro f d m l;simp at d;subst d;cases l
 have A:∀f∈ #[({g:=0,fn,pos,act:=.recvClosed x.c}:Yy)],f.act.touch?= K:=by
  intro f d;simp at d;subst d;rfl
 have c:=h.mute (B':=B) (γ:=0) (λf d=>by simp at d;subst d;rfl) D A (T8 _);have i:(t++#[({g:=0,fn,pos,act:=.recvClosed x.c}:Yy)])[t.size]? =I {g:=0,fn,pos,act:=.recvClosed x.c}:=by
  rw[Array.getElem?_append_right (T8 _)];simp
 have q:=c.shut k x p r s;obtain⟨H,E,_⟩:=Wq.1 q;have C:Knows (t++#[({g:=0,fn,pos,act:=.recvClosed x.c}:Yy)]) 0 p:=⟨t.size,_,i,rfl,.inr (.single (.inr ⟨.closed q (by rw[act?_of i]),c.wl.heard E,c.wl.heard i⟩))⟩;have n:∀{j a},(if j=k then K else wk j)=I a->j≠k/\wk j=I a:=λ{j a} g=>by
  split at g
  ·cases g
  ·rename_i b;exact⟨b,g⟩
 refine⟨c.wl,c.clean,c.low,λF v z l=>?_,λj a b=>c.wr j a (n b).2,λj a b=>c.ow j a (n b).2,λj a G b=>c.shut j a G (n b).2⟩;rcases c.known F v z l with e|⟨j,a,e,w,y,o⟩
 ·exact .inl e
 ·by_cases b:j=k
  ·subst b;rw[r] at e;cases e;exact .inl (Knows.of_before (o p s) C)
  ·exact .inr ⟨j,a,by simp[b,e],w,y,o⟩
def tT.spawn(h:tT S wk B t){k c:Nat}(R:wk k=K)(fn n:V1)(pos:String)
 (C:∀j y,wk j=I y->¬y.own c/\c≠y.c/\∀b,S b->¬y.own b/\b≠y.c) (P:¬S c):
 tT S (λj=>if j=k then I ⟨c,λ_=>False,K⟩ else wk j) B (t++#[{g:=0,fn,pos,act:=.go k},{g:=k,fn:=n,pos,act:=.start}]):=by
 have O:t++#[({g:=0,fn,pos,act:=.go k}:Yy),{g:=k,fn:=n,pos,act:=.start}]=t++#[({g:=0,fn,pos,act:=.go k}:Yy)]++#[({g:=k,fn:=n,pos,act:=.start}:Yy)]:=by apply Array.ext';simp
 have T:Wordless #[({g:=0,fn,pos,act:=.go k}:Yy)]:=by
  intro v d m l;simp at d;subst d;cases l
 have U:Wordless #[({g:=k,fn:=n,pos,act:=.start}:Yy)]:=by
  intro v d m l;simp at d;subst d;cases l
 have r:tT S wk B (t++#[({g:=0,fn,pos,act:=.go k}:Yy),{g:=k,fn:=n,pos,act:=.start}]):=by
  rw[O];refine(h.mute (B':=B) (γ:=0) (λv d=>by simp at d;subst d;rfl) T (λv d=>by simp at d;subst d;rfl) (T8 _)).mute (γ:=k) (λv d=>by simp at d;subst d;rfl) U (λv d=>by simp at d;subst d;rfl) (T8 _)
 have a:(t++#[({g:=0,fn,pos,act:=.go k}:Yy),{g:=k,fn:=n,pos,act:=.start}])[t.size]? =I {g:=0,fn,pos,act:=.go k}:=by
  rw[Array.getElem?_append_right (T8 _)];simp
 have p:(t++#[({g:=0,fn,pos,act:=.go k}:Yy),{g:=k,fn:=n,pos,act:=.start}])[t.size+1]? =I {g:=k,fn:=n,pos,act:=.start}:=by
  rw[Array.getElem?_append_right (by omega)];simp
 have L:∀{g},Knows t 0 g->Knows (t++#[({g:=0,fn,pos,act:=.go k}:Yy),{g:=k,fn:=n,pos,act:=.start}]) k g:=λ{g} Q=>
  ⟨t.size+1,_,p,rfl,.inr ((Q.hb_new (T8 _) a Y).trans (.single (.inr ⟨.spawn (by rw[act?_of a]) (by rw[act?_of p]) (by simp[Trace.g?]),r.wl.heard a,r.wl.heard p⟩)))⟩
 have J:∀{g i},touchAt (t++#[({g:=0,fn,pos,act:=.go k}:Yy),{g:=k,fn:=n,pos,act:=.start}]) g=I i->touchAt t g=I i:=λq=>by
  rcases cL q with a|⟨v,a,_,p⟩
  ·exact a
  ·simp at a;rcases a with rfl|rfl<;>simp[X8] at p
 have F:∀{j y},(if j=k then I (⟨c,λ_=>False,K⟩:wG) else wk j)=I y->(j=k/\y=⟨c,λ_=>False,K⟩)\/(j≠k/\wk j=I y):=λ{j y} w=>by
  split at w
  ·rename_i f;cases w;exact .inl ⟨f,rfl⟩
  ·rename_i f;exact .inr ⟨f,w⟩
 refine⟨r.wl,r.clean,r.low,λg i q l=>?_,λj y f s g i q l E D=>?_,λj y f s g i q l o=>?_,λj y V f s=>?_⟩
 ·rcases r.known g i q l with a|⟨j,y,a,p,e,A⟩
  ·exact .inl a
  ·refine .inr ⟨j,y,?_,p,e,A⟩;rw[if_neg (λw=>by rw[w,R] at a;cases a)];exact a
 ·rcases F f with⟨rfl,rfl⟩|⟨H,f⟩
  ·refine L ?_;rcases h.known g i (J q) l with a|⟨x,z,a,p,e,A⟩
   ·exact a
   ·rcases e with e|e|⟨e,G⟩
    ·exact absurd e ((C x z a).2.2 _ D).1
    ·exact absurd e ((C x z a).2.2 _ D).2
    ·rw[G] at E;cases E
  ·exact r.wr j y f s g i q l E D
 ·rcases F f with⟨rfl,rfl⟩|⟨H,f⟩
  ·refine L ?_;rcases o with o|o
   ·exact o.elim
   ·have o:blk i.loc=c:=o;rcases h.known g i (J q) l with a|⟨x,z,a,p,e,A⟩
    ·exact a
    ·obtain⟨M,N,W⟩:=C x z a;rcases e with e|e|⟨e,G⟩
     ·exact absurd (o▸e) M
     ·exact absurd (o.symm.trans e) N
     ·exact absurd (o▸e) P
  ·exact r.ow j y f s g i q l o
 ·rcases F f with⟨rfl,rfl⟩|⟨H,f⟩
  ·cases s
  ·exact r.shut j y V f s
def tT.over(h:tT S (λ_=>K) B t):t.HandedOver:=by
 intro k n d i e;obtain⟨m,j,g,_⟩:=e;rcases h.known k m j g with⟨l,q,b,c,a⟩|⟨o,p,f,_⟩
 ·refine⟨l,by simp[Trace.g?,b,c],?_⟩;rcases a with rfl|a
  ·simp[Trace.g?,b] at d;exact absurd (d.symm.trans c) i
  ·exact a
 ·cases f
end
def NS (t:List F->Prop)(w:F):List F->Prop:=λa=>t (w::a)
def S1 (s t:List F->Prop):Prop:=t []/\∃a,s=NS t a
structure Tr where TN ::
 t:List F->Prop
 a:Acc S1 t
 c:∀p q,t (p++q)->t p
def Tr.ext{x y:Tr}(h:x.t=y.t):x=y:=by
 cases x;cases y;cases h;rfl
def Tr.fin:Tr:=⟨λ_=>False,⟨_,λ_ a=>a.1.elim⟩,λ_ _ a=>a⟩
def Tr.mk(f:F->Tr):Tr:=⟨λa=>match a with
 | []=>True
 |w::a=>(f w).t a,⟨_,λs b=>by obtain⟨_,w,rfl⟩:=b;exact(f w).a⟩,λa d b=>by
 cases a with
 |nil=>trivial
 |cons w a=>exact(f w).c a d b⟩
def Tr.mk_inj{f g:F->Tr}(h:Tr.mk f= .mk g):f=g:=funext λb=>Tr.ext (funext λa=>congrFun (congrArg Tr.t h) (b::a))
def Tr.Q7{f:F->Tr}(h:Tr.fin= .mk f):False:=(congrFun (congrArg Tr.t h) []).mpr trivial
def Tr.ind{d:Tr->Prop}(fin:d .fin)(mk:∀f,(∀w,d (f w))->d (.mk f))(i:Tr):d i:=by
 obtain⟨b,a,c⟩:=i
 induction a with
 |intro b h j=>
  by_cases g:b []
  ·have e:Tr.TN b (.intro b h) c= .mk λw=>⟨NS b w,h _ ⟨g,w,rfl⟩,λp k=>c (w::p) k⟩:=Tr.ext (funext λp=>by
    cases p with
    |nil=>exact eq_true g
    |cons w p=>rfl)
   rw[e];exact mk _ λw=>j _ ⟨g,w,rfl⟩ _
  ·have e:Tr.TN b (.intro b h) c= .fin:=Tr.ext (funext λp=>eq_false λh=>g (c [] p h));rw[e];exact fin
def Tr.go{C:Type}(b:(F->C->Prop)->C->Prop)(d:Tr):C->Prop:=Y6 (r:=S1) (C:=λ_=>C->Prop) (λa f h=>∃g:a [],b (λe=>f (NS a e) ⟨g,e,rfl⟩) h) d.t d.a
def Tr.go_eq{C:Type}{b:(F->C->Prop)->C->Prop}(a:Tr)(x:C):Tr.go b a x↔∃h:a.t [],b (λw=>Tr.go b ⟨NS a.t w,a.a.inv ⟨h,w,rfl⟩,λp q=>a.c (w::p) q⟩) x:=Iff.of_eq (congrFun (Y0 (r:=S1) (C:=λ_=>C->Prop) (λt d x=>∃h:t [],b (λw=>d (NS t w) ⟨h,w,rfl⟩) x) a.t a.a) x:)
def Tr.pS{C:Type}{b:(F->C->Prop)->C->Prop}{x:C}(h:Tr.go b .fin x):False:=by
 obtain⟨h,_⟩:=(Tr.go_eq _ _).1 h;exact h
def Tr.QA{C:Type}{b:(F->C->Prop)->C->Prop}{f:F->Tr}{x:C}:Tr.go b (.mk f) x↔b (λw=>Tr.go b (f w)) x:=(Tr.go_eq _ _).trans ⟨fun⟨_,a⟩=>a,λa=>⟨trivial,a⟩⟩
def xG (_:Uf)(_:F):Prop:=True
structure RelB(B:Nat->Prop)(w w1:F):Prop where
 at_:∀b:Nat,B b->w1.heap[b]? =w.heap[b]?
 size:w.heap.size<=w1.heap.size
 tape:w1.tape=w.tape
 os:w1.os=w.os
 output:w1.output=w.output
def RelB.refl(B:Nat->Prop)(w:F):RelB B w w:=⟨λ_ _=>rfl,T8 _,rfl,rfl,rfl⟩
def RelB.trans{B:Nat->Prop}{w e f:F}(h:RelB B w e)(a:RelB B e f):RelB B w f:=⟨λb d=>(a.at_ b d).trans (h.at_ b d),Uy h.size a.size,a.tape.trans h.tape,a.os.trans h.os,a.output.trans h.output⟩
def RelB.at(B:Nat->Prop)(w:F)(d:Nat):RelB B w (w.at d):=⟨λ_ _=>rfl,T8 _,rfl,rfl,rfl⟩
def cU (own:Nat->Prop)(w w':F):Nat->Prop:=λa=>own a\/(w.heap.size<=a/\a<w'.heap.size)
def EvW (S o:Nat->Prop)(e:Vm):Prop:=match e.loc with
 | .cell a=>o a.block\/(S a.block/\e.write=T7)
 | .obj b=>o b\/(S b/\e.write=T7)
 | .mark m=>Neutral m
 |_=>True
structure mo(P0:Uf)(S own:Nat->Prop)(w w':F)(es:Array Vm):Prop where
 keep:∀b:Nat,b<w.heap.size->¬own b->w'.heap[b]? =w.heap[b]?
 size:w.heap.size<=w'.heap.size
 tape:w'.tape=w.tape
 os:w'.os=w.os
 output:w'.output=w.output
 hp:xG P0 w->xG P0 w'
 evs:∀e∈es,EvW S (cU own w w') e
structure Lj(P0:Uf)(w w':F)(es:Array Vm):Prop where
 size:w.heap.size<=w'.heap.size
 tape:w'.tape=w.tape
 os:w'.os=w.os
 output:w'.output=w.output
 hp:xG P0 w->xG P0 w'
 evs:∀e∈es,C7 w'.heap.size e
def TH (P0 P:Uf)(S:Nat->Prop)(c:Nat)(R:F->(Nat->Prop)->List U->UL->F->Prop)(own:Nat->Prop)(vs:List U)(g:UL)(w:F):Prop:=g.status= .running/\
 ((∀a,RelB (λb=>S b\/own b) w a->∃d e i,UM P T7 g a= .go d e i/\mo P0 S own a e i/\R a (cU own a e) vs d e)\/
 (∃v k j o,vs=v::k/\∀a,RelB (λb=>S b\/own b) w a->UM P T7 g a= .comm j #[scase c v o] Z .send a #[]/\R a own k (Wi j Vk) a)\/
 (vs=[]/\∃d n,QuitsIn P n d/\mayWake P g=Z/\∀a,RelB (λb=>S b\/own b) w a->∀h f s l m,a.heap[c]? =I (.chan h f T7 s l m)->UM P T7 g a= .go d (a.setChan c h f Z s l m) #[⟨.obj c,T7,Z⟩,⟨.obj c,Z,Z⟩]))
def Wk (P0 P:Uf)(S:Nat->Prop)(c:Nat)(e:Tr)(own:Nat->Prop)(vs:List U)(g:UL)(w:F):Prop:=e.go (C:=(Nat->Prop)×List U×UL×F) (λb a=>TH P0 P S c (λw d v g f=>b w (d,v,g,f)) a.1 a.2.1 a.2.2.1 a.2.2.2) (own,vs,g,w)
def wu{P0 P:Uf}{S:Nat->Prop}{c:Nat}{f:F->Tr}{own:Nat->Prop}{vs:List U}{g:UL}{w:F}:Wk P0 P S c (.mk f) own vs g w↔TH P0 P S c (λw=>Wk P0 P S c (f w)) own vs g w:=Tr.QA
abbrev Md:Type:=Option ((Nat->Prop)×(Nat->Prop)×(Nat->Option (List U)))
abbrev Md.ex:Md:=K
abbrev Md.sh(S a:Nat->Prop)(b:Nat->Option (List U)):Md:=I (S,a,b)
def gd (b:Nat->Option (List U))(c:Nat)(l:Option (List U)):Nat->Option (List U):=λa=>if a=c then l else b a
def TG (P0 P:Uf)(Post:U->F->Prop)(R:F->Md->UL->F->Prop):Md->UL->F->Prop
 |none,e,g=>
  (∀a,AtRel g a->∃f i h,UM P Z e a= .go f i h/\f.status= .running/\Lj P0 a i h/\R a Md.ex f i)\/
  (∀a,AtRel g a->∃v h,UM P Z e a= .ended (.done v) a h/\(∀p∈h,C7 a.heap.size p)/\Post v a)\/
  (∃S d,(∀b,S b->b<g.heap.size/\¬d b)/\(∀b,d b->b<g.heap.size)/\∀a,AtRel g a->R a (Md.sh S d (λ_=>K)) e a)
 |some (S,d,j),e,g=>
  (∀a,RelB (λb=>S b\/d b) g a->∃f i h,UM P Z e a= .go f i h/\f.status= .running/\mo P0 S d a i h/\R a (Md.sh S (cU d a i) j) f i)\/
  (∃c l m,d c/\l.length<=m/\j c=K/\g.heap[c]? =I (.chan m #[] T7 0 0 T7)/\∀a,RelB (λb=>S b\/d b) g a->∃f n r,UM P Z e a= .spawn f n a #[]/\f.status= .running/\Wk P0 P S c r (λ_=>False) l n a/\R a (Md.sh S (λb=>d b/\b≠c) (gd j c (I l))) f a)\/
  (∃c o k l,j c=I l/\(k.frame=e.frame/\k.callers=e.callers/\k.dying=e.dying)/\∀a,RelB (λb=>S b\/d b) g a->UM P Z e a= .comm k #[rcase c o] Z (.recv Z) a #[]/\
    match l with
    |v::q=>R a (Md.sh S d (gd j c (I q))) (Wi k (recvd Z v Z)) a
    | []=>R a (Md.sh S d (gd j c K)) (Wi k (recvd Z o T7)) a)\/
  ((∀c,j c=K)/\∀a,RelB (λb=>S b\/d b) g a->xG P0 a->R a Md.ex e a)
def Mn (P0 P:Uf)(Post:U->F->Prop)(e:Tr)(d:Md)(g:UL)(w:F):Prop:=e.go (C:=Md×UL×F) (λb a=>TG P0 P Post (λw m g f=>b w (m,g,f)) a.1 a.2.1 a.2.2) (d,g,w)
def nt{P0 P:Uf}{Post:U->F->Prop}{f:F->Tr}{a:Md}{g:UL}{w:F}:Mn P0 P Post (.mk f) a g w↔TG P0 P Post (λw=>Mn P0 P Post (f w)) a g w:=Tr.QA
section
variable {P0 P:Uf}{S:Nat->Prop}{c:Nat}{Post:U->F->Prop}
def Wk.rely{j:Tr}{own:Nat->Prop}{vs:List U}{g:UL}{w k:F}(h:Wk P0 P S c j own vs g w)(i:RelB (λb=>S b\/own b) w k):Wk P0 P S c j own vs g k:=by
 cases j using Tr.ind with
 |fin=>exact(Tr.pS h).elim
 |mk f=>
  obtain⟨p,h⟩:=wu.1 h;refine wu.2 ⟨p,?_⟩;rcases h with h|⟨v,q,m,s,e,h⟩|⟨e,l,r,o,n,h⟩
  ·exact .inl λd a=>h d (i.trans a)
  ·exact .inr (.inl ⟨v,q,m,s,e,λd a=>h d (i.trans a)⟩)
  ·exact .inr (.inr ⟨e,l,r,o,n,λd a=>h d (i.trans a)⟩)
def ov{a b c:F}(h:AtRel a b)(k:AtRel b c):AtRel a c:=atRel_trans a b c h k
def Mn.Ia{e:Tr}{g:UL}{w i:F}(h:Mn P0 P Post e .ex g w)(d:AtRel w i):Mn P0 P Post e .ex g i:=by
 cases e using Tr.ind with
 |fin=>exact(Tr.pS h).elim
 |mk f=>
  have j:i.heap=w.heap:=by obtain⟨n,rfl⟩:=d;rfl
  refine nt.2 ?_;rcases nt.1 h with h|h|⟨S,k,l,a,m⟩
  ·exact .inl λb a=>h b (ov d a)
  ·exact .inr (.inl λb a=>h b (ov d a))
  ·exact .inr (.inr ⟨S,k,by rw[j];exact l,by rw[j];exact a,λb a=>m b (ov d a)⟩)
def Mn.j7{k:Tr}{g:UL}{j:Nat->Prop}{n:Nat->Option (List U)}{w m:F}(h:Mn P0 P Post k (.sh S j n) g w)(i:RelB (λb=>S b\/j b) w m):Mn P0 P Post k (.sh S j n) g m:=by
 cases k using Tr.ind with
 |fin=>exact(Tr.pS h).elim
 |mk f=>
  refine nt.2 ?_;rcases nt.1 h with h|⟨c,l,o,e,a,q,r,h⟩|⟨c,s,p,l,e,a,h⟩|⟨e,h⟩
  ·exact .inl λd a=>h d (i.trans a)
  ·exact .inr (.inl ⟨c,l,o,e,a,q,(i.at_ c (.inr e)).trans r,λd a=>h d (i.trans a)⟩)
  ·exact .inr (.inr (.inl ⟨c,s,p,l,e,a,λd a=>h d (i.trans a)⟩))
  ·exact .inr (.inr (.inr ⟨e,λd a=>h d (i.trans a)⟩))
end
def Mn.cast{P0 P:Uf}{Post:U->F->Prop}{b tr':Tr}{a:Md}{g:UL}{w:F}(e:b=tr')(h:Mn P0 P Post tr' a g w):Mn P0 P Post b a g w:=e▸h
def Wk.cast{P0 P:Uf}{S:Nat->Prop}{c:Nat}{a tr':Tr}{own:Nat->Prop}{vs:List U}{g:UL}{w:F}(e:a=tr')(h:Wk P0 P S c tr' own vs g w):Wk P0 P S c a own vs g w:=e▸h
def Down (n:Nat)(d fA:Nat->Tr):Prop:=∃a,a<n/\(∃f e,fA a= .mk f/\d a=f e)/\∀b,b≠a->d b=fA b
def Lr:∀(n:Nat) (fA:Nat->Tr),Acc (Down n) fA:=by
 intro n
 induction n with
 |zero=>exact λfA=>⟨_,λd e=>by obtain⟨b,q,_⟩:=e;omega⟩
 |succ n r=>
  have t:∀(l:Tr) (fA:Nat->Tr),fA n=l->Acc (Down (n+1)) fA:=by
   intro l
   induction l using Tr.ind with
   |fin=>
    intro fA;have o:=r fA
    induction o with
    |intro fA _ p=>
     intro h;refine⟨_,λd e=>?_⟩;obtain⟨b,q,⟨f,j,a,k⟩,g⟩:=e;by_cases i:b=n
     ·subst i;rw[h] at a;exact(Tr.Q7 a).elim
     ·exact p d ⟨b,by omega,⟨f,j,a,k⟩,g⟩ ((g n (λm=>i m.symm)).trans h)
   |mk u s=>
    intro fA;have o:=r fA
    induction o with
    |intro fA _ p=>
     intro h;refine⟨_,λd e=>?_⟩;obtain⟨b,q,⟨f,j,a,k⟩,g⟩:=e;by_cases i:b=n
     ·subst i;rw[h] at a;exact s j d (k.trans (congrFun (Tr.mk_inj a) j).symm)
     ·exact p d ⟨b,by omega,⟨f,j,a,k⟩,g⟩ ((g n (λm=>i m.symm)).trans h)
  exact λfA=>t (fA n) fA Y
def G5{P:Uf}{m:Bool}{g g':UL}(h1:g'.frame=g.frame)(a:g'.callers=g.callers)(b:g'.dying=g.dying)(w:F):UM P m g' w=UM P m g w:=by
 obtain⟨f,c,s,e,j⟩:=g;obtain⟨i,d,l,h,k⟩:=g';simp only at h1 a b;subst h1 a b;rfl
structure Inv(P0 P:Uf)(S O:Nat->Prop)(μ:Nat->Option (List U))(gs:Array UL)(w:F)(t:Trace)(wk:Nat->Option wG)(vs:Nat->List U)(q:Nat->Nat)(fA:Nat->Tr):Prop where
 zK:tT S wk w.heap.size t
 hp:xG P0 w
 quit:∀i g,0<i->gs[i]? =I g->(∀x,wk i=I x->x.pc≠K)->QuitsIn P (q i) g
 act:∀i g x,gs[i]? =I g->wk i=I x->x.pc=K->Wk P0 P S x.c (fA i) x.own (vs i) g w
 idx:∀i x,wk i=I x->0<i/\i<gs.size
 mQ:∀b,S b->b<w.heap.size/\¬O b
 wT:∀b,O b->b<w.heap.size
 low:∀i x,wk i=I x->x.c<w.heap.size/\¬S x.c/\¬O x.c/\¬x.own x.c/\∀b,x.own b->b<w.heap.size/\¬S b/\¬O b
 rj:∀i j x y,i≠j->wk i=I x->wk j=I y->x.c≠y.c/\¬y.own x.c/\∀b,x.own b->¬y.own b
 chan:∀i x,wk i=I x->∃cap buf s r,w.heap[x.c]? =I (.chan cap buf x.pc.isSome s r T7)/\μ x.c=I (buf.toList++(if x.pc=K then vs i else[]))/\(x.pc=K->buf.size+(vs i).length<=cap)
 mu:∀c l,μ c=I l->∃i x,wk i=I x/\x.c=c
def kL {α:Type}(f:Nat->α)(i:Nat)(x:α):Nat->α:=λa=>if a=i then x else f a
def dm{α:Type}(f:Nat->α)(i:Nat)(x:α):kL f i x i=x:=by simp[kL]
def dY{α:Type}(f:Nat->α){i j:Nat}(x:α)(h:j≠i):kL f i x j=f j:=by simp[kL,h]
def E4{e:Vm}{b:Touch}(h:(WD e).touch?= I b)(c:∀m,e.loc= .mark m->Neutral m):b.loc=e.loc/\b.write=e.write:=by
 obtain⟨d,wr,a⟩:=e;cases d with
 |cell f=>simp[WD,X8] at h;subst h;exact⟨rfl,rfl⟩
 |obj g=>cases wr<;>cases a<;>simp[WD,X8] at h<;>subst h<;>exact⟨rfl,rfl⟩
 |output=>simp[WD,X8] at h;subst h;exact⟨rfl,rfl⟩
 |goroutines=>simp[WD,X8] at h;subst h;exact⟨rfl,rfl⟩
 |mark m=>
  have:WD ⟨.mark m,wr,a⟩= .mark m:=by cases wr<;>cases a<;>rfl
  rw[this,(c m Y).touch] at h;cases h
def yd{S o:Nat->Prop}{e:Vm}(h:EvW S o e):∀m,e.loc= .mark m->Neutral m:=λm a=>by
 unfold EvW at h;rw[a] at h;exact h
def DO{n:Nat}{e:Vm}(h:C7 n e):∀m,e.loc= .mark m->Neutral m:=λm a=>by
 unfold C7 at h;rw[a] at h;exact h
def AQ{S o:Nat->Prop}{e:Vm}{b:Touch}(h:EvW S o e)(g:(WD e).touch?= I b)(c:b.loc.isMemory=Z):o (blk b.loc)\/(S (blk b.loc)/\b.write=T7):=by
 obtain⟨d,f⟩:=E4 g (yd h);unfold EvW at h;rw[d,f];rw[d] at c;cases a:e.loc with
 |cell i=>rw[a] at h;exact h
 |obj j=>rw[a] at h;exact h
 |_=>rw[a] at c;simp[Loc.isMemory] at c
def Ju{n:Nat}{e:Vm}{b:Touch}(h:C7 n e)(f:(WD e).touch?= I b)(c:b.loc.isMemory=Z):blk b.loc<n:=by
 obtain⟨d,i⟩:=E4 f (DO h);unfold C7 at h;rw[d];rw[d] at c;cases a:e.loc with
 |cell g=>rw[a] at h;exact h
 |obj j=>rw[a] at h;exact h
 |_=>rw[a] at c;simp[Loc.isMemory] at c
def nN{g:Nat}{fn:V1}{pos:String}{es:Array Vm}(h:∀e∈es,∀m,e.loc= .mark m->Neutral m):Wordless (XV g fn pos es):=by
 intro j f m a;obtain⟨e,d,rfl⟩:=WW f;obtain⟨i,wr,b⟩:=e;cases i with
 |mark c=>
  have:WD ⟨.mark c,wr,b⟩= .mark c:=by cases wr<;>cases b<;>rfl
  simp only[this] at a;cases a;exact h _ d m Y
 |obj k=>cases wr<;>cases b<;>simp[WD] at a
 |_=>simp[WD] at a
def k8{B:Nat->Prop}{w:F}{c:Nat}(h:¬B c)(cap:Nat)(b:Array U)(d:Bool)(s r:Nat)(i:Bool):RelB B w (w.setChan c cap b d s r i):=
 ⟨λa f=>by
  have g:c≠a:=λe=>h (by rw[e];exact f);simp only[World.setChan];rw[VS g],by simp[World.setChan],rfl,rfl,rfl⟩
def Ii{P0:Uf}{w:F}(h:xG P0 w)(c cap:Nat)(a:Array U)(b:Bool)(s r:Nat)(d:Bool):xG P0 (w.setChan c cap a b s r d):=trivial
def xg{w:F}{c b:Nat}(h:b≠c)(cap:Nat)(a:Array U)(d:Bool)(s r:Nat)(f:Bool):(w.setChan c cap a d s r f).heap[b]? =w.heap[b]? :=by
 simp only[World.setChan];rw[VS (λe=>h e.symm)]
def iK(w:F)(c cap:Nat)(a:Array U)(b:Bool)(s r:Nat)(d:Bool):(w.setChan c cap a b s r d).heap.size=w.heap.size:=by simp[World.setChan]
def BP{w:F}{c:Nat}(h:c<w.heap.size)(cap:Nat)(a:Array U)(b:Bool)(s r:Nat)(d:Bool):(w.setChan c cap a b s r d).heap[c]? =I (.chan cap a b s r d):=by
 simp[World.setChan,h]
section
variable {P0 P:Uf}{S O:Nat->Prop}{μ:Nat->Option (List U)}{gs gs':Array UL}{w w':F}{t u:Trace}{wk:Nat->Option wG}{vs:Nat->List U}{q:Nat->Nat}{fA:Nat->Tr}
def m6{k:Nat}{y:Option wG}{j:Nat}{z:wG}(e:kL wk k y j=I z):(j=k/\y=I z)\/(j≠k/\wk j=I z):=by
 unfold kL at e
 split at e
 ·rename_i a;exact .inl ⟨a,e⟩
 ·rename_i a;exact .inr ⟨a,e⟩
def Inv.at(h:Inv P0 P S O μ gs w t wk vs q fA)(d:Nat):Inv P0 P S O μ gs (w.at d) t wk vs q fA:=
 ⟨h.zK,h.hp,h.quit,λf a g b e c=>(h.act f a g b e c).rely (RelB.at _ w d),h.idx,h.mQ,h.wT,h.low,h.rj,h.chan,h.mu⟩
def Inv.TT(h:Inv P0 P S O μ gs w t wk vs q fA)(k:gs'.size=gs.size)(g:∀j,0<j->gs'[j]? =gs[j]?):Inv P0 P S O μ gs' w t wk vs q fA:=
 ⟨h.zK,h.hp,λa d f e=>h.quit a d f ((g a f).symm.trans e),λa d c e b i=>h.act a d c ((g a (h.idx a c b).1).symm.trans e) b i,λa c b=>by rw[k];exact h.idx a c b,h.mQ,h.wT,h.low,h.rj,h.chan,h.mu⟩
def Inv.slip(h:Inv P0 P S O μ gs w t wk vs q fA){i k:Nat}{g':UL}(m:∀x,wk i=I x->x.pc≠K)(n:QuitsIn P k g')(o:gs'.size=gs.size)(l:gs'[i]? =I g')(f:∀j,0<j->j≠i->gs'[j]? =gs[j]?):Inv P0 P S O μ gs' w t wk vs (kL q i k) fA:=by
 refine⟨h.zK,h.hp,λj d e c a=>?_,λj d x c a g=>?_,λj x a=>by rw[o];exact h.idx j x a,h.mQ,h.wT,h.low,h.rj,h.chan,h.mu⟩
 ·by_cases b:j=i
  ·subst b;rw[l] at c;cases c;rw[dm];exact n
  ·rw[dY _ _ b];exact h.quit j d e ((f j e b).symm.trans c) a
 ·by_cases b:j=i
  ·subst b;exact absurd g (m x a)
  ·exact h.act j d x ((f j (h.idx j x a).1 b).symm.trans c) a g
def Inv.Pf(h:Inv P0 P S O μ gs w t wk vs q fA){i:Nat}{x:wG}(e:wk i=I x){es:Array Vm}(c:mo P0 S x.own w w' es):RelB (λb=>S b\/O b) w w':=
 ⟨λb a=>a.elim (λa=>c.keep b (h.mQ b a).1 λd=>((h.low i x e).2.2.2.2 b d).2.1 a) (λa=>c.keep b (h.wT b a) λd=>((h.low i x e).2.2.2.2 b d).2.2 a),c.size,c.tape,c.os,c.output⟩
def Inv.RO(h:Inv P0 P S O μ gs w t wk vs q fA){i:Nat}{x:wG}(l:wk i=I x)(X:x.pc=K){es:Array Vm}{g':UL}{tr':Tr}(g:mo P0 S x.own w w' es)(ao:Wk P0 P S x.c tr' (cU x.own w w') (vs i) g' w')(Z:gs'.size=gs.size)(aq:gs'[i]? =I g')(W:∀j,0<j->j≠i->gs'[j]? =gs[j]?)(fn:V1)(pos:String):
 Inv P0 P S O μ gs' w' (t++XV i fn pos es) (kL wk i (I ⟨x.c,cU x.own w w',K⟩)) vs q (kL fA i tr'):=by
 obtain⟨ab,ad,az,ae,E⟩:=h.low i x l;have R:∀b,cU x.own w w' b->¬S b:=λb a r=>a.elim (λa=>(E b a).2.1 r) λa=>by have:=(h.mQ b r).1;omega
 have am:∀b,cU x.own w w' b->¬O b:=λb a r=>a.elim (λa=>(E b a).2.2 r) λa=>by have:=h.wT b r;omega
 have C:∀j f,j≠i->wk j=I f->∀b,cU x.own w w' b->¬f.own b/\b≠f.c:=λj f k d b a=>a.elim (λa=>⟨(h.rj i j x f (λe=>k e.symm) l d).2.2 b a,λe=>(h.rj j i f x k d l).2.1 (e▸a)⟩) λa=>⟨λn=>by have:=((h.low j f d).2.2.2.2 b n).1;omega,λe=>by have:=(h.low j f d).1;omega⟩;have T:∀b,cU x.own w w' b->b<w'.heap.size:=λb a=>a.elim (λa=>Ud (E b a).1 g.size) (λa=>a.2);refine⟨?_,g.hp h.hp,λj J Q k U=>?_,λj J f k d av=>?_,λj f d=>?_,λb a=>⟨Ud (h.mQ b a).1 g.size,(h.mQ b a).2⟩,λb a=>Ud (h.wT b a) g.size,λj f d=>?_,λj y f F p d aa=>?_,λj f d=>?_,λc aw ap=>?_⟩
 ·refine h.zK.RO l X (λb a=>.inl a) (λb a=>a.imp id And.left) (λa4 M=>by obtain⟨e,_,rfl⟩:=WW M;rfl) (nN λe L=>yd (g.evs e L)) g.size R ad (λj f k d=>⟨C j f k d,(h.rj i j x f (λe=>k e.symm) l d).2.1,(h.rj i j x f (λe=>k e.symm) l d).1,λb a=>⟨λn=>((h.low j f d).2.2.2.2 b n).2.1 a,λe=>(h.low j f d).2.1 (e▸a)⟩⟩) λa4 M b a ar=>?_;obtain⟨e,L,rfl⟩:=WW M;rcases AQ (g.evs e L) a ar with o|o
  ·exact⟨T _ o,.inl o⟩
  ·exact⟨Ud (h.mQ _ o.1).1 g.size,.inr (.inr o)⟩
 ·by_cases e:j=i
  ·subst e;exact absurd Y (U ⟨x.c,cU x.own w w',K⟩ (dm _ _ _))
  ·exact h.quit j J Q ((W j Q e).symm.trans k) λf d=>U f (by rw[dY _ _ e];exact d)
 ·rcases m6 d with⟨rfl,e⟩|⟨m,d⟩
  ·cases e;rw[aq] at k;cases k;rw[dm];exact ao
  ·rw[dY _ _ m];refine(h.act j J f ((W j (h.idx j f d).1 m).symm.trans k) d av).rely ⟨λb a=>?_,g.size,g.tape,g.os,g.output⟩;rcases a with a|a
   ·exact g.keep b (h.mQ b a).1 λn=>(E b n).2.1 a
   ·exact g.keep b ((h.low j f d).2.2.2.2 b a).1 λn=>(h.rj i j x f (λe=>m e.symm) l d).2.2 b n a
 ·rcases m6 d with⟨rfl,e⟩|⟨m,d⟩
  ·rw[Z];exact h.idx j x l
  ·rw[Z];exact h.idx j f d
 ·rcases m6 d with⟨rfl,e⟩|⟨m,d⟩
  ·cases e;exact⟨Ud ab g.size,ad,az,λa=>a.elim ae λa=>by have:=a.1;dsimp only at this;omega,λb a=>⟨T b a,R b a,am b a⟩⟩
  ·obtain⟨a0,a1,a2,a3,al⟩:=h.low j f d;exact⟨Ud a0 g.size,a1,a2,a3,λb a=>⟨Ud (al b a).1 g.size,(al b a).2⟩⟩
 ·rcases m6 d with⟨rfl,e⟩|⟨m,D⟩
  ·cases e;rcases m6 aa with⟨rfl,e⟩|⟨V,v⟩
   ·exact absurd Y p
   ·exact⟨(h.rj j y x F p l v).1,(h.rj j y x F p l v).2.1,λb a=>(C y F V v b a).1⟩
  ·rcases m6 aa with⟨rfl,e⟩|⟨V,v⟩
   ·cases e;exact⟨(h.rj j y f x p D l).1,λa=>(C j f m D _ a).2 Y,λb a n=>(C j f m D b n).1 a⟩
   ·exact h.rj j y f F p D v
 ·rcases m6 d with⟨rfl,e⟩|⟨m,d⟩
  ·cases e;obtain⟨H,G,s,N,z,A,B⟩:=h.chan j x l;rw[X] at z A B;exact⟨H,G,s,N,(g.keep _ ab ae).trans z,A,B⟩
  ·obtain⟨H,G,s,N,z,A,B⟩:=h.chan j f d;exact⟨H,G,s,N,(g.keep _ (h.low j f d).1 (h.rj j i f x m d l).2.1).trans z,A,B⟩
 ·obtain⟨j,f,d,e⟩:=h.mu c aw ap;by_cases k:j=i
  ·subst k;rw[l] at d;cases d;exact⟨j,_,dm _ _ _,e⟩
  ·exact⟨j,f,by rw[dY _ _ k];exact d,e⟩
end
section
variable {P0 P:Uf}{S O:Nat->Prop}{μ:Nat->Option (List U)}{gs gs':Array UL}{w w':F}{t u:Trace}{wk:Nat->Option wG}{vs:Nat->List U}{q:Nat->Nat}{fA:Nat->Tr}{B:Nat}
def tT.Su(h:tT S wk B t)(g:Wordless u)(f:∀b∈u,b.act.touch?= K):tT S wk B (t++u):=by
 have k:∀(c:List Yy) (t:Trace),tT S wk B t->Wordless c.toArray->(∀b∈c,b.act.touch?= K)->tT S wk B (t++c.toArray):=by
  intro c
  induction c with
  |nil=>intro t h _ _;simpa using h
  |cons d c j=>
   intro t h g f;have i:t++(d::c).toArray=(t++#[d])++c.toArray:=by apply Array.ext';simp
   rw[i];refine j _ (h.mute (B':=B) (γ:=d.g) (λb a=>by simp at a;rw[a]) (λb a m e=>?_) (λb a=>by simp at a;rw[a];exact f d (by simp)) (T8 _)) (λb a m e=>g b (by simp at a ⊢;exact .inr a) m e) λb a=>f b (by simp[a]);simp at a;rw[a] at e;exact g d (by simp) m e
 have:=k u.toList t h (by simpa using g) (λb a=>f b (by simpa using a));simpa using this
def vg(μ:Nat->Option (List U))(c:Nat)(l:Option (List U)):gd μ c l c=l:=by simp[gd]
def qZ(μ:Nat->Option (List U)){c j:Nat}(l:Option (List U))(h:j≠c):gd μ c l j=μ j:=by simp[gd,h]
def Inv.comm(h:Inv P0 P S O μ gs w t wk vs q fA){i:Nat}{x:wG}(g:wk i=I x){cap s' r':Nat}{buf':Array U}{vi':List U}{tr':Tr}{g':UL}(G:x.pc=K->buf'.size+vi'.length<=cap)
 (F:x.pc=K->Wk P0 P S x.c tr' x.own vi' g' w) (H:x.pc=K->gs'[i]? =I g') (J:x.pc≠K->gs'[i]? =gs[i]?) (s:∀j,0<j->j≠i->gs'[j]? =gs[j]?) (M:gs'.size=gs.size) (N:Wordless u) (L:∀V∈u,V.act.touch?= K):
 Inv P0 P S O (gd μ x.c (I (buf'.toList++(if x.pc=K then vi' else[])))) gs' (w.setChan x.c cap buf' x.pc.isSome s' r' T7) (t++u) wk (kL vs i vi') q (kL fA i tr'):=by
 obtain⟨R,v,Y,T,Z⟩:=h.low i x g;have r:∀j d,j≠i->wk j=I d->d.c≠x.c:=λj d e b=>(h.rj j i d x e b g).1;refine⟨by rw[iK];exact h.zK.Su N L,Ii h.hp _ _ _ _ _ _ _,λj k m e n=>?_,λj k d e b o=>?_,λj d b=>by rw[M];exact h.idx j d b,λl f=>by rw[iK];exact h.mQ l f,λl f=>by rw[iK];exact h.wT l f,λj d b=>by rw[iK];exact h.low j d b,h.rj,λj d b=>?_,λc Q p=>?_⟩
 ·by_cases a:j=i
  ·subst a;exact h.quit j k m ((J (n x g)).symm.trans e) n
  ·exact h.quit j k m ((s j m a).symm.trans e) n
 ·by_cases a:j=i
  ·subst a;rw[g] at b;cases b;rw[H o] at e;cases e;rw[dm,dm];exact(F o).rely (k8 (λf=>f.elim v T) _ _ _ _ _ _)
  ·rw[dY _ _ a,dY _ _ a];exact(h.act j k d ((s j (h.idx j d b).1 a).symm.trans e) b o).rely (k8 (λf=>f.elim v (h.rj i j x d (λE=>a E.symm) g b).2.1) _ _ _ _ _ _)
 ·by_cases a:j=i
  ·subst a;rw[g] at b;cases b;exact⟨cap,buf',s',r',BP R _ _ _ _ _ _,by rw[vg,dm],by rw[dm];exact G⟩
  ·obtain⟨D,y,X,W,z,A,C⟩:=h.chan j d b;refine⟨D,y,X,W,(xg (r j d a b) _ _ _ _ _ _).trans z,?_,by rw[dY _ _ a];exact C⟩;rw[qZ _ _ (r j d a b),dY _ _ a];exact A
 ·by_cases a:c=x.c
  ·exact⟨i,x,g,a.symm⟩
  ·rw[qZ _ _ a] at p;exact h.mu c Q p
def Inv.close(h:Inv P0 P S O μ gs w t wk vs q fA){i:Nat}{x:wG}(g:wk i=I x)(A:x.pc=K)(ao:vs i=[]){cap s r n:Nat}{v:Array U}{g':UL}{tr':Tr}(hc:w.heap[x.c]? =I (.chan cap v T7 s r T7))(am:QuitsIn P n g')(ab:gs'[i]? =I g')(M:∀j,0<j->j≠i->gs'[j]? =gs[j]?)(Q:gs'.size=gs.size)(fn:V1)(pos:String):
 Inv P0 P S O μ gs' (w.setChan x.c cap v Z s r T7) (t++XV i fn pos #[⟨.obj x.c,T7,Z⟩,⟨.obj x.c,Z,Z⟩]) (kL wk i (I ⟨x.c,x.own,I (t.size+1)⟩)) vs (kL q i n) (kL fA i tr'):=by
 obtain⟨E,F,aq,ar,av⟩:=h.low i x g;have ad:∀j b,j≠i->wk j=I b->b.c≠x.c:=λj b e d=>(h.rj j i b x e d g).1;refine⟨?_,Ii h.hp _ _ _ _ _ _ _,λj z L e al=>?_,λj z b e d N=>?_,λj b d=>?_,λp l=>by rw[iK];exact h.mQ p l,λp l=>by rw[iK];exact h.wT p l,λj b d=>?_,λj D b W o d R=>?_,λj b d=>?_,λc ap aa=>?_⟩
 ·rw[iK];exact h.zK.close g A E F fn pos λj b e d=>⟨(h.rj i j x b (λa=>e a.symm) g d).2.1,(h.rj i j x b (λa=>e a.symm) g d).1⟩
 ·by_cases a:j=i
  ·subst a;rw[ab] at e;cases e;rw[dm];exact am
  ·rw[dY _ _ a];exact h.quit j z L ((M j L a).symm.trans e) λb d=>al b (by rw[dY _ _ a];exact d)
 ·rcases m6 d with⟨rfl,a⟩|⟨k,f⟩
  ·cases a;cases N
  ·rw[dY _ _ k];exact(h.act j z b ((M j (h.idx j b f).1 k).symm.trans e) f N).rely (k8 (λl=>l.elim F (h.rj i j x b (λX=>k X.symm) g f).2.1) _ _ _ _ _ _)
 ·rcases m6 d with⟨rfl,a⟩|⟨k,f⟩
  ·rw[Q];exact h.idx j x g
  ·rw[Q];exact h.idx j b f
 ·rcases m6 d with⟨rfl,a⟩|⟨k,f⟩
  ·cases a;rw[iK];exact⟨E,F,aq,ar,av⟩
  ·rw[iK];exact h.low j b f
 ·rcases m6 d with⟨rfl,a⟩|⟨k,f⟩
  ·cases a;rcases m6 R with⟨rfl,a⟩|⟨ae,C⟩
   ·exact absurd Y o
   ·exact h.rj j D x W o g C
  ·rcases m6 R with⟨rfl,a⟩|⟨ae,C⟩
   ·cases a;exact h.rj j D b x o f g
   ·exact h.rj j D b W o f C
 ·rcases m6 d with⟨rfl,a⟩|⟨k,f⟩
  ·cases a;obtain⟨J,G,V,T,m,y,H⟩:=h.chan j x g;rw[A] at m;have:=m.symm.trans hc;cases this;refine⟨cap,v,s,r,BP E _ _ _ _ _ _,?_,λa=>by cases a⟩;rw[y,A,ao];rfl
  ·obtain⟨J,G,V,T,m,y,H⟩:=h.chan j b f;exact⟨J,G,V,T,(xg (ad j b k f) _ _ _ _ _ _).trans m,y,H⟩
 ·obtain⟨j,b,d,a⟩:=h.mu c ap aa;by_cases e:j=i
  ·subst e;rw[g] at d;cases d;exact⟨j,_,dm _ _ _,a⟩
  ·exact⟨j,b,by rw[dY _ _ e];exact d,a⟩
def Inv.main(h:Inv P0 P S O μ gs w t wk vs q fA){es:Array Vm}(d:mo P0 S O w w' es)(T:gs'.size=gs.size)(F:∀j,0<j->gs'[j]? =gs[j]?)(fn:V1)(pos:String):
 Inv P0 P S (cU O w w') μ gs' w' (t++XV 0 fn pos es) wk vs q fA:=by
 have E:∀b,cU O w w' b->b<w'.heap.size:=λb a=>a.elim (λa=>Ud (h.wT b a) d.size) (λa=>a.2);have p:∀j c,wk j=I c->∀b,cU O w w' b->¬c.own b/\b≠c.c:=λj c e b a=>by
  obtain⟨y,l,z,A,k⟩:=h.low j c e;rcases a with a|a
  ·exact⟨λf=>(k b f).2.2 a,λg=>z (g▸a)⟩
  ·exact⟨λf=>by have:=(k b f).1;omega,λg=>by omega⟩
 refine⟨?_,d.hp h.hp,λj m D o Q=>h.quit j m D ((F j D).symm.trans o) Q,λj m c o e R=>?_,λj c e=>by rw[T];exact h.idx j c e,λb a=>⟨Ud (h.mQ b a).1 d.size,λf=>f.elim (h.mQ b a).2 λf=>by have:=(h.mQ b a).1;omega⟩,E,λj c e=>?_,h.rj,λj c e=>?_,h.mu⟩
 ·refine h.zK.main (λU r=>by obtain⟨g,_,rfl⟩:=WW r;rfl) (nN λg n=>yd (d.evs g n)) d.size λU r b a N=>?_;obtain⟨g,n,rfl⟩:=WW r;rcases AQ (d.evs g n) a N with i|i
  ·exact⟨E _ i,λx C v=>p x C v _ i,λG=>absurd i (λf=>f.elim (h.mQ _ G).2 λf=>by have:=(h.mQ _ G).1;omega)⟩
  ·refine⟨Ud (h.mQ _ i.1).1 d.size,λx C v=>?_,λ_=>i.2⟩;obtain⟨y,l,z,A,k⟩:=h.low x C v;exact⟨λf=>(k _ f).2.1 i.1,λg=>l (g▸i.1)⟩
 ·refine(h.act j m c ((F j (h.idx j c e).1).symm.trans o) e R).rely ⟨λb a=>?_,d.size,d.tape,d.os,d.output⟩;rcases a with a|a
  ·exact d.keep b (h.mQ b a).1 (h.mQ b a).2
  ·exact d.keep b ((h.low j c e).2.2.2.2 b a).1 ((h.low j c e).2.2.2.2 b a).2.2
 ·obtain⟨y,l,z,A,k⟩:=h.low j c e;exact⟨Ud y d.size,l,λf=>(p j c e _ f).2 Y,A,λb a=>⟨Ud (k b a).1 d.size,(k b a).2.1,λf=>(p j c e b f).1 a⟩⟩
 ·obtain⟨M,H,s,V,J,K,L⟩:=h.chan j c e;exact⟨M,H,s,V,(d.keep _ (h.low j c e).1 (h.low j c e).2.2.1).trans J,K,L⟩
def Inv.spawn(h:Inv P0 P S O μ gs w t wk vs q fA){c cap:Nat}{l:List U}{z:UL}{tr':Tr}(p:O c)(ad:l.length<=cap)(a2:μ c=K)(hc:w.heap[c]? =I (.chan cap #[] T7 0 0 T7))(aa:Wk P0 P S c tr' (λ_=>False) l z w)(M:gs'.size=gs.size+1)(Z:0<gs.size)(ab:gs'[gs.size]? =I z)(L:∀j,0<j->j<gs.size->gs'[j]? =gs[j]?)(fn C:V1)(pos:String):
 Inv P0 P S (λb=>O b/\b≠c) (gd μ c (I l)) gs' w (t++#[{g:=0,fn,pos,act:=.go gs.size},{g:=gs.size,fn:=C,pos,act:=.start}]) (kL wk gs.size (I ⟨c,λ_=>False,K⟩)) (kL vs gs.size l) q (kL fA gs.size tr'):=by
 have H:wk gs.size=K:=by
  cases d:wk gs.size with
  |none=>rfl
  |some a1=>have:=(h.idx _ a1 d).2;omega
 have E:¬S c:=λap=>(h.mQ c ap).2 p;have al:∀j a,wk j=I a->j≠gs.size:=λj a e d=>by rw[d,H] at e;cases e
 have r:∀j a,wk j=I a->c≠a.c:=λj a e d=>(h.low j a e).2.2.1 (d▸p);refine⟨?_,h.hp,λj g D o J=>?_,λj g a o e ao=>?_,λj a e=>?_,λb i=>⟨(h.mQ b i).1,λf=>(h.mQ b i).2 f.1⟩,λb i=>h.wT b i.1,λj a e=>?_,λj v a y G e N=>?_,λj a e=>?_,λA m F=>?_⟩
 ·exact h.zK.spawn H fn C pos (λj a e=>⟨λf=>((h.low j a e).2.2.2.2 c f).2.2 p,r j a e,λb i=>⟨λf=>((h.low j a e).2.2.2.2 b f).2.1 i,λd=>(h.low j a e).2.1 (d▸i)⟩⟩) E
 ·by_cases d:j=gs.size
  ·subst d;exact absurd Y (J ⟨c,λ_=>False,K⟩ (dm _ _ _))
  ·have ae:j<gs.size:=by
    have:=(Ub.1 o).1;omega
   exact h.quit j g D ((L j D ae).symm.trans o) λa e=>J a (by rw[dY _ _ d];exact e)
 ·rcases m6 e with⟨rfl,d⟩|⟨n,k⟩
  ·cases d;rw[ab] at o;cases o;rw[dm,dm];exact aa
  ·rw[dY _ _ n,dY _ _ n];exact h.act j g a ((L j (h.idx j a k).1 (h.idx j a k).2).symm.trans o) k ao
 ·rcases m6 e with⟨rfl,d⟩|⟨n,k⟩
  ·rw[M];exact⟨Z,by omega⟩
  ·have:=h.idx j a k;rw[M];exact⟨this.1,by omega⟩
 ·rcases m6 e with⟨rfl,d⟩|⟨n,k⟩
  ·cases d;exact⟨h.wT c p,E,λf=>f.2 Y,λf=>f,λb i=>i.elim⟩
  ·obtain⟨aq,ar,av,aw,x⟩:=h.low j a k;exact⟨aq,ar,λf=>av f.1,aw,λb i=>⟨(x b i).1,(x b i).2.1,λf=>(x b i).2.2 f.1⟩⟩
 ·rcases m6 e with⟨rfl,d⟩|⟨n,k⟩
  ·cases d;rcases m6 N with⟨rfl,d⟩|⟨am,s⟩
   ·exact absurd Y G
   ·exact⟨r v y s,λf=>((h.low v y s).2.2.2.2 c f).2.2 p,λb i=>i.elim⟩
  ·rcases m6 N with⟨rfl,d⟩|⟨am,s⟩
   ·cases d;exact⟨λd=>r j a k d.symm,λf=>f,λb i f=>f⟩
   ·exact h.rj j v a y G k s
 ·rcases m6 e with⟨rfl,d⟩|⟨n,k⟩
  ·cases d;exact⟨cap,#[],0,0,hc,by rw[vg,dm];simp,by rw[dm];simpa using ad⟩
  ·obtain⟨W,Q,a0,az,R,T,V⟩:=h.chan j a k;refine⟨W,Q,a0,az,R,?_,by rw[dY _ _ n];exact V⟩;rw[qZ _ _ (λd=>r j a k d.symm),dY _ _ n];exact T
 ·by_cases d:A=c
  ·exact⟨gs.size,_,dm _ _ _,d.symm⟩
  ·rw[qZ _ _ d] at F;obtain⟨j,a,e,X⟩:=h.mu A m F;exact⟨j,a,by rw[dY _ _ (al j a e)];exact e,X⟩
def Inv.Mw(h:Inv P0 P S O μ gs w t wk vs q fA){i p:Nat}{x:wG}(k:wk i=I x)(r:x.pc=I p)(H:gs'.size=gs.size)(o:∀j,0<j->gs'[j]? =gs[j]?)(fn:V1)(pos:String):
 Inv P0 P S O (gd μ x.c K) gs' w (t++#[{g:=0,fn,pos,act:=.recvClosed x.c}]) (kL wk i K) vs q fA:=by
 have e:∀{j b},kL wk i K j=I b->j≠i/\wk j=I b:=λ{j b} d=>by
  rcases m6 d with⟨_,d⟩|d
  ·cases d
  ·exact d
 refine⟨h.zK.Mw k r fn pos,h.hp,λj g n l F=>?_,λj g b l a G=>?_,λj b a=>by rw[H];exact h.idx j b (e a).2,h.mQ,h.wT,λj b a=>h.low j b (e a).2,λj L b Q E a J=>h.rj j L b Q E (e a).2 (e J).2,λj b a=>?_,λc M f=>?_⟩
 ·refine h.quit j g n ((o j n).symm.trans l) λb a=>?_;by_cases d:j=i
  ·subst d;rw[k] at a;cases a;rw[r];simp
  ·exact F b (by rw[dY _ _ d];exact a)
 ·exact h.act j g b ((o j (h.idx j b (e a).2).1).symm.trans l) (e a).2 G
 ·obtain⟨C,v,s,N,y,z,A⟩:=h.chan j b (e a).2;exact⟨C,v,s,N,y,by rw[qZ _ _ (h.rj j i b x (e a).1 (e a).2 k).1];exact z,A⟩
 ·by_cases d:c=x.c
  ·rw[d,vg] at f;cases f
  ·rw[qZ _ _ d] at f;obtain⟨j,b,a,m⟩:=h.mu c M f;refine⟨j,b,?_,m⟩;rw[dY _ _ (λD=>?_)]
   ·exact a
   ·subst D;rw[k] at a;cases a;exact d m.symm
end
def Ends (P:Uf)(Post:U->F->Prop)(m:Machine)(t:Trace):Prop:=
 ∃N a b c d,runNT P (N+1) m t=(.ended b c,d)/\runN P N m= .next a/\step P a= .ended b c/\Good P Post a b c d
section
variable {P0 P:Uf}{Post:U->F->Prop}
def Ends.step{m m':Machine}{t ops:Trace}(h:stepT P m=(.next m',ops))(a:Ends P Post m' (t++ops)):Ends P Post m t:=by
 obtain⟨N,f,g,j,i,b,c,d,e⟩:=a;refine⟨N+1,f,g,j,i,?_,?_,d,e⟩
 ·rw[runNT,h];exact b
 ·rw[runN,Go.step,h];exact c
def Ends.now{m:Machine}{t ops:Trace}{o:Outcome}{w:F}(h:stepT P m=(.ended o w,ops))(a:Good P Post m o w (t++ops)):Ends P Post m t:=
 ⟨0,m,o,w,t++ops,by rw[runNT,h],rfl,by rw[Go.step,h],a⟩
structure rU(g0 g:UL):Prop where
 frame:g0.frame=g.frame
 callers:g0.callers=g.callers
 dying:g0.dying=g.dying
def rU.refl(g:UL):rU g g:=⟨rfl,rfl,rfl⟩
def rU.step{a g:UL}(h:rU a g)(m:Bool)(w:F):UM P m a w=UM P m g w:=G5 h.frame h.callers h.dying w
section
variable {S O:Nat->Prop}{μ:Nat->Option (List U)}{gs:Array UL}{w:F}{t:Trace}{wk:Nat->Option wG}{vs:Nat->List U}{q:Nat->Nat}{fA:Nat->Tr}
def Inv.status(h:Inv P0 P S O μ gs w t wk vs q fA){i:Nat}{g:UL}(e:0<i)(b:gs[i]? =I g):g.status= .running\/g.status= .finished:=by
 cases c:wk i with
 |none=>exact(h.quit i g e b λd a=>by rw[c] at a;cases a).status
 |some d=>
  cases j:d.pc with
  |some l=>exact(h.quit i g e b λm a=>by rw[c] at a;cases a;rw[j];simp).status
  |none=>
   have:=h.act i g d b c j;generalize fA i=k at this;cases k using Tr.ind with
   |fin=>exact(Tr.pS this).elim
   |mk f=>exact .inl (wu.1 this).1
def mX{g g' o:UL}{w':F}(h:o.status= .running\/o.status= .finished):woken P g g' w' o=o:=by
 unfold woken
 split
 ·exact again_running _ h
 ·rfl
def lY{g g' g2:UL}{w':F}{c cap s r:Nat}{b:Array U}{d:Bool}{z:U}{a:CommShape}(hc:w'.heap[c]? =I (.chan cap b T7 s r d)):woken P g g' w' (parked g2 #[rcase c z] a)=parked g2 #[rcase c z] a:=by
 unfold woken
 split
 ·exact again_recv_open hc
 ·rfl
def others(h:Inv P0 P S O μ gs w t wk vs q fA){i:Nat}{g g':UL}{w':F}{j:Nat}(b:0<j)(d:j≠i):((gs.map (woken P g g' w')).setIfInBounds i g')[j]? =gs[j]? :=by
 rw[VS (λa=>d a.symm),Array.getElem?_map];cases c:gs[j]? with
 |none=>rfl
 |some e=>rw[V3,mX (h.status b c)]
def qN{i:Nat}{g g':UL}{w':F}(a:gs[i]? =I g):((gs.map (woken P g g' w')).setIfInBounds i g')[i]? =I g':=by
 rw[Array.getElem?_setIfInBounds_self_of_lt (by simpa using(Ub.1 a).1)]
def Es{i:Nat}{g g' a:UL}{w':F}(c:i≠0)(b:gs[0]? =I a)(d:woken P g g' w' a=a):((gs.map (woken P g g' w')).setIfInBounds i g')[0]? =I a:=by
 rw[VS c,Array.getElem?_map,b,V3,d]
def gN{i:Nat}{g g':UL}{w':F}:((gs.map (woken P g g' w')).setIfInBounds i g').size=gs.size:=by simp
def Inv.TB(h:Inv P0 P S O μ gs w t wk vs q fA)(y:∀c,μ c=K):Inv P0 P (λ_=>False) (λ_=>False) (λ_=>K) gs w t (λ_=>K) vs q fA:=by
 have m:∀a,wk a=K:=λa=>by
  cases b:wk a with
  |none=>rfl
  |some d=>
   obtain⟨A,z,s,E,_,i,_⟩:=h.chan a d b;rw[y] at i;cases i
 refine⟨⟨h.zK.wl,h.zK.clean,h.zK.low,λa n u x=>?_,λg d e=>(by cases e),λg d e=>(by cases e),λg d D e=>(by cases e)⟩,h.hp,λa k p l _=>h.quit a k p l λd j=>(by rw[m] at j;cases j),λa k d l b=>(by cases b),λa d b=>(by cases b),λo f=>f.elim,λo f=>f.elim,λa d b=>(by cases b),λa B d F _ b=>(by cases b),λa d b=>(by cases b),λc C v=>(by cases v)⟩;rcases h.zK.known a n u x with r|⟨g,d,e,_⟩
 ·exact .inl r
 ·rw[m] at e;cases e
def Inv.TC(h:Inv P0 P (λ_=>False) (λ_=>False) (λ_=>K) gs w t (λ_=>K) vs q fA)(k:∀b,S b->b<w.heap.size/\¬O b)(j:∀b,O b->b<w.heap.size):Inv P0 P S O (λ_=>K) gs w t (λ_=>K) vs q fA:=by
 refine⟨⟨h.zK.wl,h.zK.clean,h.zK.low,λe g l n=>?_,λf c d=>(by cases d),λf c d=>(by cases d),λf c v d=>(by cases d)⟩,h.hp,h.quit,λe p c r a=>(by cases a),λe c a=>(by cases a),k,j,λe c a=>(by cases a),λe s c x _ a=>(by cases a),λe c a=>(by cases a),λo u m=>(by cases m)⟩;rcases h.zK.known e g l n with i|⟨f,c,d,_⟩
 ·exact .inl i
 ·cases d
def Inv.Ma(h:Inv P0 P (λ_=>False) (λ_=>False) (λ_=>K) gs w t (λ_=>K) vs q fA){gs':Array UL}{w':F}{es:Array Vm}(f:Lj P0 w w' es)(y:gs'.size=gs.size)(s:∀j,0<j->gs'[j]? =gs[j]?)(fn:V1)(pos:String):
 Inv P0 P (λ_=>False) (λ_=>False) (λ_=>K) gs' w' (t++XV 0 fn pos es) (λ_=>K) vs q fA:=by
 refine⟨?_,f.hp h.hp,λb l m n a=>h.quit b l m ((s b m).symm.trans n) a,λb l d n a=>(by cases a),λb d a=>(by cases a),λk c=>c.elim,λk c=>c.elim,λb d a=>(by cases a),λb j d B _ a=>(by cases a),λb d a=>(by cases a),λx A o=>(by cases o)⟩;refine h.zK.main (λv i=>by obtain⟨e,_,rfl⟩:=WW i;rfl) (nN λe g=>DO (f.evs e g)) f.size λv i k c r=>?_;obtain⟨e,g,rfl⟩:=WW i;exact⟨Ju (f.evs e g) c r,λz d p=>(by cases p),λu=>u.elim⟩
def Inv.good(h:Inv P0 P (λ_=>False) (λ_=>False) (λ_=>K) gs w t (λ_=>K) vs q fA)(sl:Option (Nat×Nat)){v:U}{es:Array Vm}(g:∀e∈es,C7 w.heap.size e)(i:Post v w)(fn:V1)(pos:String)(w0:F):Good P Post (crowd gs w0 sl) (.done v) w (t++XV 0 fn pos es):=by
 have b:=h.Ma (w':=w) (es:=es) ⟨T8 _,rfl,rfl,rfl,id,g⟩ Y (λ_ _=>rfl) fn pos;refine⟨v,rfl,i,b.zK.clean,b.zK.over,⟨λf d=>?_,rfl⟩,λa f d c=>?_⟩
 ·obtain⟨a,c⟩:=List.mem_iff_getElem?.1 d;rw[List.getElem?_drop] at c;exact⟨_,(h.quit (1+a) f (by omega) (by simpa [crowd] using c) λj e=>by cases e).leaves⟩
 ·rw[b.zK.wl.deaf];exact⟨q a,(h.quit a f (by omega) d λj e=>by cases e).hears _ 0⟩
end
end
section
variable {P0 P:Uf}{Post:U->F->Prop}
def On (P0 P:Uf)(Post:U->F->Prop)(k:Tr):Prop:=
 (∀d c,Mn P0 P Post k .ex d c->∀b g e h f fA a,b[0]? =I a->rU a d->a.status= .running->Inv P0 P (λ_=>False) (λ_=>False) (λ_=>K) b c e (λ_=>K) h f fA->Ends P Post (crowd b c g) e)/\
 (∀j i l d c,Mn P0 P Post k (.sh j i l) d c->∀b g e m h f fA a,b[0]? =I a->rU a d->a.status= .running->Inv P0 P j i l b c e m h f fA->Ends P Post (crowd b c g) e)
def E0{q:Nat->Nat}{i n k:Nat}(a:i<n)(b:q i=k+1):XL n (kL q i k)+1=XL n q:=by
 have c:XL n (kL q i k)+(k+1)=XL n q+k:=by
  have:=ConcN.sumTo_upd q k id a;simp only[id,b] at this;exact this
 omega
def tY{S d:Nat->Prop}{n:Nat->Option (List U)}{a:Array UL}{w:F}{t:Trace}{l:Nat->Option wG}{vs:Nat->List U}{q:Nat->Nat}{fA:Nat->Tr}(h:Inv P0 P S d n a w t l vs q fA){b:UL}(e:a[0]? =I b)(f:awake b):∀g∈a,awake g:=by
 intro g i;obtain⟨k,c,rfl⟩:=Array.mem_iff_getElem.1 i;rcases Xt k with rfl|j
 ·have:a[0]=b:=by simpa [UU c] using e
  rw[this];exact f
 ·exact awake_of ((h.status j (UU c)).elim .inl λm=>.inr (.inr m))
def OX{f:F->Tr}(C:∀w,On P0 P Post (f w)):∀(n:Nat) g w,Mn P0 P Post (.mk f) .ex g w->∀d sl t vs q fA c,XL d.size q<n->d[0]? =I c->rU c g->c.status= .running->Inv P0 P (λ_=>False) (λ_=>False) (λ_=>K) d w t (λ_=>K) vs q fA->Ends P Post (crowd d w sl) t:=by
 intro n
 induction n with
 |zero=>intro g w y d sl t vs q fA c ae;omega
 |succ n al=>
  intro g w y d sl t vs q fA c ae j p k e;have N:=y;rcases nt.1 y with x|x|⟨E,D,H,J,L⟩
  case inr.inr=>exact(C w).2 E D _ g w (L w (atRel_refl w)) d sl t _ vs q fA c j p k (e.TC H J)
  all_goals
   obtain⟨h,i,a,m,b,o,B⟩:=crowd_pick (P:=P) (w:=w) (sl:=sl) (tY e j (awake_of (.inl k))) ⟨0,c,j,k⟩;rcases Xt h with rfl|Y
   case inr=>
    have r:=e.quit h i Y b (λaq s=>by cases s);have U:(h==0)=T7:=by simp;omega
    have W:h<d.size:=(Ub.1 b).1;cases A:q h with
    |zero=>rw[A] at r;rw[show i.status= .finished from r] at o;cases o
    |succ ao=>
     rw[A] at r;rcases r with R|⟨_,u,ad,aa⟩
     ·rw[R] at o;cases o
     ·have l:=runT_crowd_go (P:=P) (sl:=m) (i:=h) b (by rw[U];exact ad (w.at a));have ar:=E0 W A;refine Ends.step (B.trans l) (al g (w.at a) (N.Ia ⟨a,rfl⟩) _ m _ vs (kL q h ao) fA c (by rw[gN];omega) (Es (by omega) j (mX (.inl k))) p k ?_);rw[ofEvents_none,Array.append_empty];exact(e.at a).slip (λaq s=>by cases s) aa gN (qN b) λam z V=>others e z V
  ·obtain rfl:i=c:=by rw[j] at b;exact(Yk b).symm
   obtain⟨u,ap,G,T,ab,S,M⟩:=x (w.at a) ⟨a,rfl⟩;have l:=runT_crowd_go (P:=P) (sl:=m) (i:=0) b (show UM P (0==0) i (w.at a)=_ from(p.step Z _).trans T);refine Ends.step (B.trans l) ((C (w.at a)).1 u ap M _ m _ vs q fA u (qN b) (rU.refl _) ab ?_);exact(e.at a).Ma S gN (λam z=>others e z (by omega)) _ _
  ·obtain rfl:i=c:=by rw[j] at b;exact(Yk b).symm
   obtain⟨v,G,O,Q,X⟩:=x (w.at a) ⟨a,rfl⟩;have l:=runT_many_ended (P:=P) (sl:=m) (i:=0) b (show UM P (0==0) i (w.at a)=_ from(p.step Z _).trans O);exact Ends.now (B.trans l) ((e.at a).good sl Q X _ _ w)
end
section
variable {P0 P:Uf}{Post:U->F->Prop}
def RC (P0 P:Uf)(Post:U->F->Prop)(f:F->Tr)(S O:Nat->Prop)(μ:Nat->Option (List U))(g:UL)(w:F)(c:Nat)(z:U)(g2:UL)(l0:List U):Prop:=
 μ c=I l0/\(g2.frame=g.frame/\g2.callers=g.callers/\g2.dying=g.dying)/\∀a,RelB (λb=>S b\/O b) w a->UM P Z g a= .comm g2 #[rcase c z] Z (.recv Z) a #[]/\
  match l0 with
  |v::d=>Mn P0 P Post (f a) (.sh S O (gd μ c (I d))) (Wi g2 (recvd Z v Z)) a
  | []=>Mn P0 P Post (f a) (.sh S O (gd μ c K)) (Wi g2 (recvd Z z T7)) a
def RC.rely{f:F->Tr}{S O:Nat->Prop}{μ:Nat->Option (List U)}{g:UL}{w a:F}{c:Nat}{z:U}{g2:UL}{l0:List U}(h:RC P0 P Post f S O μ g w c z g2 l0)(e:RelB (λb=>S b\/O b) w a):RC P0 P Post f S O μ g a c z g2 l0:=
 ⟨h.1,h.2.1,λi d=>h.2.2 i (e.trans d)⟩
def Az (P0 P:Uf)(Post:U->F->Prop)(f:F->Tr)(S O:Nat->Prop)(μ:Nat->Option (List U))(g:UL)(gs:Array UL)(w:F)(wk:Nat->Option wG)(d:Nat):Prop:=
 (d=1/\∃b,gs[0]? =I b/\rU b g/\b.status= .running)\/
 (d=0/\∃a h e k j c i s l,gs[0]? =I (parked e #[rcase a h] (.recv Z))/\RC P0 P Post f S O μ g w a h e k/\wk j=I c/\c.c=a/\c.pc=K/\w.heap[a]? =I (.chan i #[] T7 s l T7))
def KT(μ:Nat->Option (List U)){c:Nat}{l:Option (List U)}(h:μ c=l):gd μ c l=μ:=by
 funext b;unfold gd
 split
 ·rename_i a;rw[a,h]
 ·rfl
section
variable {S O:Nat->Prop}{μ:Nat->Option (List U)}{gs:Array UL}{w w':F}{t:Trace}{wk:Nat->Option wG}{vs:Nat->List U}{q:Nat->Nat}{fA:Nat->Tr}
def Inv.LL(h:Inv P0 P S O μ gs w t wk vs q fA){i j:Nat}{x y:wG}(b:wk i=I x)(a:wk j=I y){es:Array Vm}(d:mo P0 S x.own w w' es):w'.heap[y.c]? =w.heap[y.c]? :=by
 refine d.keep _ (h.low j y a).1 ?_;by_cases c:j=i
 ·subst c;rw[b] at a;cases a;exact(h.low j x b).2.2.2.1
 ·exact(h.rj j i y x c a b).2.1
def Inv.yH(h:Inv P0 P S O μ gs w t wk vs q fA)(i c:Nat)(b:Bool)(j:∀e,i≠0->gs[0]? =I e->offersAt e c b=[]):partners (gs.setIfInBounds i ph) c b=[]:=by
 refine partners_nil λg d k=>?_;rcases getElem?_stand gs i g d k with⟨_,rfl⟩|⟨l,f⟩
 ·exact offersAt_ph c b
 ·rcases Xt g with rfl|m
  ·exact j d (λa=>l a.symm) f
  ·exact offersAt_of_not_blocked (by rcases h.status m f with a|a<;>rw[a]<;>simp) c b
end
def qU{gs:Array UL}{i:Nat}{g g':UL}(a:gs[i]? =I g):(gs.setIfInBounds i g')[i]? =I g':=Array.getElem?_setIfInBounds_self_of_lt (Ub.1 a).1
def jy{gs:Array UL}{i j:Nat}{g':UL}(h:j≠i):(gs.setIfInBounds i g')[j]? =gs[j]? :=VS (λa=>h a.symm)
def El{k:Nat}{g:UL}(h:QuitsIn P k g):(g.status != .blocked&&g.status != .waiting)=Z:=by
 rcases h.status with a|a<;>rw[a]<;>rfl
def vK{f:F->Tr}(c7:∀w,On P0 P Post (f w)){S O:Nat->Prop}{μ:Nat->Option (List U)}{g:UL}{n:Nat}{fA:Nat->Tr}
 (a8:∀b2,Down n b2 fA->∀w,Mn P0 P Post (.mk f) (.sh S O μ) g w->∀gs sl t wk vs q o,gs.size=n->Az P0 P Post f S O μ g gs w wk o->Inv P0 P S O μ gs w t wk vs q b2->Ends P Post (crowd gs w sl) t)
 {bB:Nat} (c8:∀w,Mn P0 P Post (.mk f) (.sh S O μ) g w->∀gs sl t wk vs q o,gs.size=n->XL n q+o<bB->Az P0 P Post f S O μ g gs w wk o->Inv P0 P S O μ gs w t wk vs q fA->Ends P Post (crowd gs w sl) t)
 {w:F} (cs:Mn P0 P Post (.mk f) (.sh S O μ) g w) {gs:Array UL} {sl:Option (Nat×Nat)} {t:Trace} {wk:Nat->Option wG} {vs:Nat->List U} {q:Nat->Nat} {o:Nat} (V:gs.size=n) (dk:XL n q+o<bB+1) (bd:Az P0 P Post f S O μ g gs w wk o) (av:Inv P0 P S O μ gs w t wk vs q fA)
 {i:Nat} {A:UL} {d:Nat} {u:Option (Nat×Nat)} (c0:0<i) (p:gs[i]? =I A) (bb:A.status= .running) (a6:stepT P (crowd gs w sl)=runT P (crowd gs (w.at d) u) i):Ends P Post (crowd gs w sl) t:=by
 have B:=av.at d;have aw:=cs.j7 (RelB.at _ w d);have bc:(i==0)=T7:=by simp;omega
 have b5:i<gs.size:=(Ub.1 p).1;have ca:(∀b,wk i=I b->b.pc≠K)->Ends P Post (crowd gs w sl) t:=by
  intro b6;have al:=av.quit i A c0 p b6;cases bt:q i with
  |zero=>rw[bt] at al;rw[show A.status= .finished from al] at bb;cases bb
  |succ be=>
   rw[bt] at al;rcases al with cv|⟨_,a2,c3,c1⟩
   ·rw[cv] at bb;cases bb
   ·have N:=runT_crowd_go (P:=P) (sl:=u) (i:=i) p (by rw[bc];exact c3 (w.at d));have df:=E0 (V▸b5) bt;refine Ends.step (a6.trans N) (c8 (w.at d) aw _ u _ wk vs (kL q i be) o (by rw[gN];exact V) (by omega) ?_ ?_)
    ·rcases bd with⟨a,H,e,ae,E⟩|⟨a,x,G,c,R,h,b,k,s,r,e,J,j,c6,D,L⟩
     ·exact .inl ⟨a,H,Es (by omega) e (mX (.inl E)),ae,E⟩
     ·exact .inr ⟨a,x,G,c,R,h,b,k,s,r,Es (by omega) e (lY (w':=w.at d) L),J.rely (RelB.at _ w d),j,c6,D,L⟩
    ·rw[ofEvents_none,Array.append_empty];exact B.slip b6 c1 gN (qN p) λh M l=>others av M l
 cases j:wk i with
 |none=>exact ca λb a=>by rw[j] at a;cases a
 |some b=>
  cases D:b.pc with
  |some dq=>exact ca λW a=>by rw[j] at a;cases a;rw[D];simp
  |none=>
   have a4:=B.act i A b p j D;obtain⟨c9,bi,bj,dl,dp⟩:=B.low i b j;have bl:=a4;generalize cx:fA i=zK at bl;cases zK using Tr.ind with
   |fin=>exact(Tr.pS bl).elim
   |mk a1=>
    replace a4:=wu.1 bl;have a0:∀bA,bA=a1 (w.at d)->Down n (kL fA i bA) fA:=λbA a=>⟨i,V▸b5,⟨a1,w.at d,cx,by rw[dm];exact a⟩,λh M=>dY _ _ M⟩;obtain⟨k,T,s,r,X,az,ap⟩:=B.chan i b j;rw[D] at X az ap;simp only[Option.isSome_none,if_true,forall_const] at X az ap;obtain⟨_,a4⟩:=a4;rcases a4 with cn|⟨v,bv,c,G,bu,co⟩|⟨bu,a2,be,al,c4,cp⟩
    ·
     obtain⟨a2,w',db,bo,a5,ba⟩:=cn (w.at d) (RelB.refl _ _);have N:=runT_crowd_go (P:=P) (sl:=u) (i:=i) p (by rw[bc];exact bo);have hrel:=B.Pf j a5;refine Ends.step (a6.trans N) (a8 _ (a0 _ Y) w' (aw.j7 hrel) _ u _ _ vs q o (by rw[gN];exact V) ?_ (B.RO j D a5 ba gN (qN p) (λh M l=>others av M l) _ _));rcases bd with⟨a,H,e,ae,E⟩|⟨a,x,G,c,R,h,W,k,s,r,e,J,z,Q,a7,L⟩
     ·exact .inl ⟨a,H,Es (by omega) e (mX (.inl E)),ae,E⟩
     ·have ab:w'.heap[x]? =I (.chan k #[] T7 s r T7):=by
       rw[<-Q,B.LL j z a5,Q];exact L
      by_cases l:h=i
      ·subst l;rw[j] at z;cases z;exact .inr ⟨a,x,G,c,R,h,⟨b.c,cU b.own (w.at d) w',K⟩,k,s,r,Es (by omega) e (lY ab),(J.rely (RelB.at _ w d)).rely hrel,dm _ _ _,Q,rfl,ab⟩
      ·exact .inr ⟨a,x,G,c,R,h,W,k,s,r,Es (by omega) e (lY ab),(J.rely (RelB.at _ w d)).rely hrel,by rw[dY _ _ l];exact z,Q,a7,ab⟩
    ·
     obtain⟨cu,ba⟩:=co (w.at d) (RelB.refl _ _);have b4:UM P (i==0) A (w.at d)= .comm c #[scase b.c v G] Z .send (w.at d) #[]:=by rw[bc];exact cu
     rw[bu] at az ap;have c2:T.size<k:=by simp at ap;omega
     have ci:(∀H,i≠0->gs[0]? =I H->offersAt H b.c T7=[])->(∀a9,a9[0]? =gs[0]? ->Az P0 P Post f S O μ g a9 ((w.at d).setChan b.c k (T.push v) T7 (s+1) r T7) wk o)->Ends P Post (crowd gs w sl) t:=by
      intro bs cR;have N:=crowd_send_room (sl:=u) p b4 X c2 (B.yH i b.c T7 bs);refine Ends.step (a6.trans N) ?_;rw[ofEvents_none,Array.empty_append,finishComm_send];have y:=B.comm (gs':=gs.setIfInBounds i (Wi c Vk)) (u:= #[{g:=i,fn:=c.frame.fn,pos:=c.frame.place,act:=.send b.c s},{g:=i,fn:=c.frame.fn,pos:=c.frame.place,act:=.sendDone b.c s}]) j (cap:=k) (s':=s+1) (r':=r) (buf':=T.push v) (vi':=bv) (tr':=a1 (w.at d)) (g':=Wi c Vk) (λ_=>by simp at ap ⊢;omega) (λ_=>ba) (λ_=>qU p) (λa=>absurd D a) (λh M l=>jy l) (by simp) (λbx C m br=>by simp at C;rcases C with rfl|rfl<;>cases br) (λbx C=>by simp at C;rcases C with rfl|rfl<;>rfl);rw[D] at y;simp only[Option.isSome_none,if_true] at y;rw[KT μ (by rw[az];simp)] at y;exact a8 _ (a0 _ Y) _ (aw.j7 (k8 (λaa=>aa.elim bi bj) _ _ _ _ _ _)) _ u _ wk _ q o (by simpa using V) (cR _ (jy (by omega))) y
     rcases bd with⟨a,H,e,ae,E⟩|⟨a,x,da,ar,R,h,W,aq,ao,am,e,J,z,Q,a7,L⟩
     ·refine ci (λcl _ a3=>?_) λa9 bm=>.inl ⟨a,H,bm.trans e,ae,E⟩;rw[e] at a3;cases a3;exact offersAt_of_not_blocked (by rw[E];simp) _ _
     ·by_cases ad:x=b.c
      ·
       subst ad;have b1:=L.symm.trans (show w.heap[b.c]? =_ from X);simp only[U8,Obj.chan.injEq] at b1;obtain⟨rfl,rfl,-,rfl,rfl,-⟩:=b1;have bs:partners (gs.setIfInBounds i ph) b.c T7=[(0,0)]:=by
        rw[partners_one (j:=0) (stand_get (i:=i) (by omega) e) (λbe W dc z=>?_)]
        ·rw[offersAt_parked_recv];simp
        ·rcases getElem?_stand gs i be W z with⟨_,rfl⟩|⟨dd,a5⟩
         ·exact offersAt_ph _ _
         ·exact offersAt_of_not_blocked (by rcases av.status (by omega) a5 with a|a<;>rw[a]<;>simp) _ _
       have N:=crowd_send_meets (sl:=u) p b4 X (j:=0) (by omega) e bs;refine Ends.step (a6.trans N) ?_;rw[ofEvents_none,Array.empty_append,finishComm_send,finishComm_recv];obtain⟨cb,⟨cc,cd,cf⟩,ch⟩:=J.rely (RelB.at _ w d);have ck:R=v::bv:=by
        have:=cb.symm.trans az;simpa using this
       subst ck;have b3:=(ch (w.at d) (RelB.refl _ _)).2;dsimp only at b3;have y:=B.comm (gs':=(gs.setIfInBounds 0 (Wi ar (recvd Z v Z))).setIfInBounds i (Wi c Vk)) (u:= #[{g:=i,fn:=c.frame.fn,pos:=c.frame.place,act:=.send b.c ao},{g:=0,fn:=ar.frame.fn,pos:=ar.frame.place,act:=.recv b.c am aq},{g:=i,fn:=c.frame.fn,pos:=c.frame.place,act:=.sendDone b.c ao},{g:=0,fn:=ar.frame.fn,pos:=ar.frame.place,act:=.recvDone b.c am}]) j (cap:=aq) (s':=ao+1) (r':=am+1) (buf':= #[]) (vi':=bv) (tr':=a1 (w.at d)) (g':=Wi c Vk) (λ_=>by simp at ap ⊢;omega) (λ_=>ba) (λ_=>qU (g:=A) (by rw[jy (by omega)];exact p)) (λa=>absurd D a) (λh M l=>by rw[jy l,jy (by omega)]) (by simp) (λbx C m br=>by simp at C;rcases C with rfl|rfl|rfl|rfl<;>cases br) (λbx C=>by simp at C;rcases C with rfl|rfl|rfl|rfl<;>rfl);rw[D] at y;simp only[Option.isSome_none,if_true] at y;exact(c7 (w.at d)).2 S O _ _ _ (b3.j7 (k8 (λaa=>aa.elim bi bj) _ _ _ _ _ _)) _ u _ wk _ q _ _ (by rw[jy (by omega)];exact qU e) (rU.refl _) Y y
      ·refine ci (λcl _ a3=>?_) λa9 bm=>?_
       ·rw[e] at a3;cases a3;rw[offersAt_parked_recv,if_neg ad]
       ·exact .inr ⟨a,x,da,ar,R,h,W,aq,ao,am,bm.trans e,(J.rely (RelB.at _ w d)).rely (k8 (λaa=>aa.elim bi bj) _ _ _ _ _ _),z,Q,a7,(xg ad _ _ _ _ _ _).trans L⟩
    ·
     have bo:=cp (w.at d) (RelB.refl _ _) k T s r T7 X;have N:=runT_crowd_go (P:=P) (sl:=u) (i:=i) p (by rw[bc];exact bo);have hrel:RelB (λb0=>S b0\/O b0) (w.at d) ((w.at d).setChan b.c k T Z s r T7):=k8 (λaa=>aa.elim bi bj) _ _ _ _ _ _;have y:=B.close (gs':=(gs.map (woken P A a2 ((w.at d).setChan b.c k T Z s r T7))).setIfInBounds i a2) (tr':=a1 (w.at d)) j D bu X al (qN p) (λh M l=>others av M l) gN A.frame.fn A.frame.place;refine Ends.step (a6.trans N) ?_;rcases bd with⟨a,H,e,ae,E⟩|⟨a,x,G,c,R,h,W,aq,ao,am,e,J,z,Q,a7,L⟩
     ·exact a8 _ (a0 _ Y) _ (aw.j7 hrel) _ u _ _ _ _ o (by rw[gN];exact V) (.inl ⟨a,H,Es (by omega) e (mX (.inl E)),ae,E⟩) y
     ·by_cases ad:x=b.c
      ·subst ad;obtain⟨cb,⟨cc,cd,cf⟩,ch⟩:=J;refine a8 _ (a0 _ Y) _ (aw.j7 hrel) _ u _ _ _ _ 1 (by rw[gN];exact V) (.inl ⟨rfl,{parked c #[rcase b.c G] (.recv Z) with status:=.running},?_,⟨cc,cd,cf⟩,rfl⟩) y;have c5:woken P A a2 ((w.at d).setChan b.c k T Z s r T7) (parked c #[rcase b.c G] (.recv Z))= {parked c #[rcase b.c G] (.recv Z) with status:=.running}:=by
        unfold woken;rw[if_pos ?hP]
        case hP=>rw[c4,Bool.true_and];exact El al
        exact again_recv_closed (BP c9 _ _ _ _ _ _)
       rw[VS (by omega),Array.getElem?_map,e,V3,c5]
      ·have l:h≠i:=λa=>by
        subst a;rw[j] at z;cases z;exact ad Q.symm
       have ab:((w.at d).setChan b.c k T Z s r T7).heap[x]? =I (.chan aq #[] T7 ao am T7):=(xg ad _ _ _ _ _ _).trans L;exact a8 _ (a0 _ Y) _ (aw.j7 hrel) _ u _ _ _ _ o (by rw[gN];exact V) (.inr ⟨a,x,G,c,R,h,W,aq,ao,am,Es (by omega) e (lY ab),(J.rely (RelB.at _ w d)).rely hrel,by rw[dY _ _ l];exact z,Q,a7,ab⟩) y
def OY{f:F->Tr}(C:∀w,On P0 P Post (f w)){S O:Nat->Prop}{μ:Nat->Option (List U)}{g:UL}{n:Nat}(fA:Nat->Tr)(bl:Acc (Down n) fA):
 ∀(W:Nat) w,Mn P0 P Post (.mk f) (.sh S O μ) g w->∀gs sl t wk vs q p,gs.size=n->XL n q+p<W->Az P0 P Post f S O μ g gs w wk p->Inv P0 P S O μ gs w t wk vs q fA->Ends P Post (crowd gs w sl) t:=by
 induction bl with
 |intro fA _ b3=>
  have bc:∀X,Down n X fA->∀w,Mn P0 P Post (.mk f) (.sh S O μ) g w->∀gs sl t wk vs q p,gs.size=n->Az P0 P Post f S O μ g gs w wk p->Inv P0 P S O μ gs w t wk vs q X->Ends P Post (crowd gs w sl) t:=
   λX br w aa gs sl t wk vs q p E ao d=>b3 X br (XL n q+p+1) w aa gs sl t wk vs q p E (by omega) ao d
  intro W
  induction W with
  |zero=>intro w aa gs sl t wk vs q p E a2;omega
  |succ W a4=>
   intro w ab gs sl t wk vs q p E a2 ao d;have bb:=ao;rcases ao with⟨A,ar,i,am,a0⟩|⟨A,D,J,r,H,h,b,L,s,V,i,T,j,cv,G,cs⟩
   ·have aa:=nt.1 ab;rcases aa with B|B|B|⟨bA,bi⟩
    case inr.inr.inr=>exact(C w).1 g w (bi w (RelB.refl _ _) d.hp) gs sl t vs q fA ar i am a0 (d.TB bA)
    all_goals
     obtain⟨a3,N,a,l,c,ae,y⟩:=crowd_pick (P:=P) (w:=w) (sl:=sl) (tY d i (awake_of (.inl a0))) ⟨0,ar,i,a0⟩;rcases Xt a3 with rfl|az
     case inr=>exact vK C bc a4 ab E a2 bb d az c ae y
     obtain rfl:N=ar:=by rw[i] at c;exact(Yk c).symm
     have e:=d.at a
    ·obtain⟨M,w',co,bt,a1,bs,x⟩:=B (w.at a) (RelB.at _ w a);have v:=runT_crowd_go (P:=P) (sl:=l) (i:=0) c (show UM P (0==0) N (w.at a)=_ from(am.step Z _).trans bt);exact Ends.step (y.trans v) ((C (w.at a)).2 S _ μ M w' x _ l _ wk vs q fA M (qN c) (rU.refl _) a1 (e.main bs gN (λh Q=>others d Q (by omega)) _ _))
    ·obtain⟨D,cb,L,b4,b5,b6,ca,B⟩:=B;obtain⟨M,cn,ck,b1,a1,bj,x⟩:=B (w.at a) (RelB.at _ w a);have v:=runT_crowd_spawn (P:=P) (sl:=l) (i:=0) c (show UM P (0==0) N (w.at a)=_ from(am.step Z _).trans b1);have ba:0<gs.size:=(Ub.1 i).1;refine Ends.step (y.trans v) ((C (w.at a)).2 S _ _ M (w.at a) x _ l _ (kL wk gs.size (I ⟨D,λ_=>False,K⟩)) (kL vs gs.size cb) q (kL fA gs.size ck) M ?_ (rU.refl _) a1 ?_)
     ·rw[Array.getElem?_push_lt (by simpa using ba)];simp
     ·rw[ofEvents_none];exact e.spawn b4 b5 b6 ca bj (by simp) ba (by rw[VB];simp) (λh Q bv=>by
       rw[Array.getElem?_push_lt (by simpa using bv),<-UU,jy (by omega)]) _ _ _
    ·obtain⟨D,J,r,H,T⟩:=B;have T:RC P0 P Post f S O μ g w D J r H:=T;have bB:=T.rely (RelB.at _ w a);obtain⟨a5,⟨c1,c2,c3⟩,cf⟩:=bB;obtain⟨bo,x⟩:=cf (w.at a) (RelB.refl _ _);have av:UM P (0==0) N (w.at a)= .comm r #[rcase D J] Z (.recv Z) (w.at a) #[]:=(am.step Z _).trans bo;obtain⟨k,b,j,rfl⟩:=e.mu D H a5;obtain⟨cx,cc,cd,cR,c0⟩:=e.low k b j;obtain⟨L,o,s,V,z,ap,bd⟩:=e.chan k b j;have cu:=(e.idx k b j).1;have aw:=e.yH 0 b.c Z (λcp A=>absurd Y A);obtain⟨gk,a9⟩:∃gk,gs[k]? =I gk:=⟨gs[k]'(e.idx k b j).2,UU _⟩;by_cases ad:0<o.size
     ·
      have v:=crowd_recv_buf (sl:=l) c av z ad aw;refine Ends.step (y.trans v) ?_;rw[ofEvents_none,Array.empty_append,finishComm_recv];have aq:H=o.getD 0 Vk::((o.extract 1 o.size).toList++(if b.pc=K then vs k else[])):=by
       have:=a5.symm.trans ap;simp only[U8] at this;rw[this];obtain⟨a6⟩:=o;cases a6 with
       |nil=>simp at ad
       |cons cl a6=>simp
      subst aq;dsimp only at x;have be:=e.comm (gs':=gs.setIfInBounds 0 (Wi r (recvd Z (o.getD 0 Vk) Z))) (u:= #[{g:=0,fn:=r.frame.fn,pos:=r.frame.place,act:=.recv b.c V L},{g:=0,fn:=r.frame.fn,pos:=r.frame.place,act:=.recvDone b.c V}]) j (cap:=L) (s':=s) (r':=V+1) (buf':=o.extract 1 o.size) (vi':=vs k) (tr':=fA k) (g':=gk) (λA=>by have:=bd A;simp;omega) (λA=>e.act k gk b a9 j A) (λ_=>by rw[jy (by omega)];exact a9) (λ_=>jy (by omega)) (λh Q _=>jy (by omega)) (by simp) (λch R m bx=>by simp at R;rcases R with rfl|rfl<;>cases bx) (λch R=>by simp at R;rcases R with rfl|rfl<;>rfl);exact(C (w.at a)).2 S O _ _ _ (x.j7 (k8 (λad=>ad.elim cc cd) _ _ _ _ _ _)) _ l _ wk _ q _ _ (qU i) (rU.refl _) Y be
     ·have bm:o=#[]:=by
       apply Array.eq_empty_of_size_eq_zero;omega
      subst bm;cases G:b.pc with
      |none=>
       rw[G] at z;have b2:∀a7∈ #[rcase b.c J],NoWays (w.at a) (gs.setIfInBounds 0 ph) a7:=by
        intro a7 a8;simp at a8;subst a8;refine⟨made_recv J z,?_⟩;simp only[ways,rcase];rw[z];simp[aw]
       have v:=crowd_waits (sl:=l) c av b2;refine Ends.step (y.trans v) ?_;rw[ofEvents_none,Array.append_empty];refine a4 (w.at a) (ab.j7 (RelB.at _ w a)) _ l _ wk vs q 0 (by simpa using E) (by omega) (.inr ⟨rfl,b.c,J,r,H,k,b,L,s,V,qU i,T.rely (RelB.at _ w a),j,rfl,G,z⟩) (e.TT (by simp) λh Q=>jy (by omega))
      |some c4=>
       rw[G] at z ap;have v:=crowd_recv_closed (sl:=l) c av z aw;refine Ends.step (y.trans v) ?_;rw[ofEvents_none,Array.empty_append,finishComm_recv];have aq:H=[]:=by
        have:=a5.symm.trans ap;simpa using this
       subst aq;dsimp only at x;exact(C (w.at a)).2 S O _ _ _ x _ l _ _ vs q fA _ (qU i) (rU.refl _) Y (e.Mw j G (by simp) (λh Q=>jy (by omega)) _ _)
   ·
    have b0:∃u,gs[h]? =I u/\u.status= .running:=by
     obtain⟨u,al⟩:∃u,gs[h]? =I u:=⟨gs[h]'(d.idx h b j).2,UU _⟩;refine⟨u,al,?_⟩;have:=d.act h u b al j G;generalize fA h=ci at this;cases ci using Tr.ind with
     |fin=>exact(Tr.pS this).elim
     |mk f=>exact(wu.1 this).1
    obtain⟨u,al,bu⟩:=b0;obtain⟨a3,N,a,l,c,ae,y⟩:=crowd_pick (P:=P) (w:=w) (sl:=sl) (tY d i (λt=>by simp[parked])) ⟨h,u,al,bu⟩;rcases Xt a3 with rfl|az
    ·rw[i] at c;cases c;simp[parked] at ae
    ·exact vK C bc a4 ab E a2 bb d az c ae y
def Mo:∀k:Tr,On P0 P Post k:=by
 intro k
 induction k using Tr.ind with
 |fin=>exact⟨λa w c=>(Tr.pS c).elim,λS O μ a w c=>(Tr.pS c).elim⟩
 |mk f l=>
  refine⟨λa w g gs j t vs q fA b d h i e=>OX l (XL gs.size q+1) a w g gs j t vs q fA b (by omega) d h i e,λS O μ a w g gs j t wk vs q fA b d h i e=>?_⟩;exact OY l fA (Lr gs.size fA) (XL gs.size q+1+1) w g gs j t wk vs q 1 Y (by omega) (.inl ⟨rfl,b,d,h,i⟩) e
def EE{l:Tr}{fr:Ut}{cs:List Ut}{w:F}(h:Mn P0 P Post l .ex (Ug fr cs) w)(p:xG P0 w):Ends P Post (Yj (Ug fr cs) w) #[]:=by
 rw[solo_eq_crowd];refine(Mo l).1 _ w h #[Ug fr cs] K #[] (λ_=>[]) (λ_=>0) (λ_=>.fin) _ Y (rU.refl _) Y ⟨⟨λx o=>by simp at o,λz=>?_,λb g d=>by simp[touchAt,Trace.act?] at d,λb g d=>by simp[touchAt,Trace.act?] at d,λk c e=>(by cases e),λk c e=>(by cases e),λk c y e=>(by cases e)⟩,p,λb m u j _=>?_,λb m c j a=>(by cases a),λb c a=>(by cases a),λi f=>f.elim,λi f=>f.elim,λb c a=>(by cases a),λb r c A _ a=>(by cases a),λb c a=>(by cases a),λs v n=>(by cases n)⟩
 ·rintro⟨b,r,_,⟨g,i,d,_⟩,_⟩;simp[Trace.act?] at d
 ·have:b<1:=by simpa using(Ub.1 j).1
  omega
end
def tR (P0 P:Uf)(Post:U->F->Prop)(g:UL)(w:F):Prop:=∃a,Mn P0 P Post a .ex g w
structure Sm(w w':F):Prop where
 tape:w'.tape=w.tape
 os:w'.os=w.os
 output:w'.output=w.output
 size:w.heap.size<=w'.heap.size
def Sm.refl(w:F):Sm w w:=⟨rfl,rfl,rfl,T8 _⟩
def Sm.trans{a b c:F}(h:Sm a b)(d:Sm b c):Sm a c:=⟨d.tape.trans h.tape,d.os.trans h.os,d.output.trans h.output,Uy h.size d.size⟩
section
variable {P0 P:Uf}{Post:U->F->Prop}
def yJ{g:UL}{w:F}(h:∀a,AtRel w a->∃g' w' es,UM P Z g a= .go g' w' es/\g'.status= .running/\Lj P0 a w' es/\tR P0 P Post g' w'):tR P0 P Post g w:=by
 classical
 let f:F->Tr:=λa=>if b:AtRel w a then Vq (Uv (Uv (Uv (h a b)))).2.2.2 else .fin
 refine⟨.mk f,nt.2 <| .inl λa b=>?_⟩;have c:=Uv (Uv (Uv (h a b)));have d:f a=Vq (Uv (Uv (Uv (h a b)))).2.2.2:=by
  show(if b:AtRel w a then _ else _)=_;rw[dif_pos b]
 exact⟨_,_,_,c.1,c.2.1,c.2.2.1,Mn.cast d (Uv c.2.2.2)⟩
def Px{g:UL}{w:F}(h:∀a,AtRel w a->∃v es,UM P Z g a= .ended (.done v) a es/\(∀e∈es,C7 a.heap.size e)/\Post v a):tR P0 P Post g w:=⟨.mk λ_=>.fin,nt.2 (.inr (.inl h))⟩
def Rm{g:UL}{w a:F}(h:tR P0 P Post g w)(b:AtRel w a):tR P0 P Post g a:=by
 obtain⟨c,h⟩:=h;exact⟨c,h.Ia b⟩
def Pg(P0:Uf)(u:F):∃w,Un w u/\Hp (bn P0) w/\w.tape=u.tape/\w.drawn=u.drawn/\∀(b:Nat) o,u.heap[b]? =I o->bn P0 o->w.heap[b]? =I o:=by
 classical
 have h:∀o,¬bn P0 o->jk o=Z:=λo g=>by cases o<;>first|rfl|exact absurd trivial g
 have f:∀b:Nat,(u.heap.map λo=>if bn P0 o then o else pz)[b]? =(u.heap[b]?).map λo=>if bn P0 o then o else pz:=λb=>by simp
 refine⟨{u with heap:=u.heap.map λo=>if bn P0 o then o else pz},⟨by simp,λb o a=>?_,rfl,rfl⟩,λb o a=>?_,rfl,rfl,λb o a i=>?_⟩
 ·simp only[f] at a;cases d:u.heap[b]? with
  |none=>rw[d] at a;cases a
  |some e=>
   rw[d] at a;simp only[V3,U8] at a;by_cases c:bn P0 e
   ·rw[if_pos c] at a;subst a;exact .inl Y
   ·rw[if_neg c] at a;exact .inr ⟨a.symm,e,rfl,h e c⟩
 ·simp only[f] at a;cases d:u.heap[b]? with
  |none=>rw[d] at a;cases a
  |some e=>
   rw[d] at a;simp only[V3,U8] at a;by_cases c:bn P0 e
   ·rw[if_pos c] at a;subst a;exact .inl c
   ·rw[if_neg c] at a;exact .inr a.symm
 ·simp only[f,a,V3,if_pos i]
def Gf{Stop:Ut->List Ut->F->Prop}{fr:Ut}{aF:List Ut}{w u:F}(h:Fin P0 P Stop fr aF w u):∀{cs:List Ut},eN P0 fr aF->Hp (bn P0) w->Un w u->(∀fr' tops' w' a,Stop fr' tops' w'->eN P0 fr' tops'->Hp (bn P0) w'->rX w u w' a->Sm u a->tR P0 P Post (Ug fr' (tops'++cs)) a)->tR P0 P Post (Ug fr (aF++cs)) u:=by
 intro cs;refine h (λfr aF w u=>eN P0 fr aF->Hp (bn P0) w->Un w u->(∀fr' tops' w' a,Stop fr' tops' w'->eN P0 fr' tops'->Hp (bn P0) w'->rX w u w' a->Sm u a->tR P0 P Post (Ug fr' (tops'++cs)) a)->tR P0 P Post (Ug fr (aF++cs)) u) ?_ ?_
 ·intro fr aF w u g i l e f;exact f _ _ _ _ g i l e.two (Sm.refl _)
 ·intro fr aF w u B p A C i E z D l e f;refine yJ λG v=>?_;obtain⟨c,rfl⟩:=v;have d:=A u.tape c;obtain⟨b,y⟩:=C u.tape c;have m:u.heap.size<=(B u.tape c).2.2.2.1.heap.size:=by
   rw[b.un.size,e.size];exact d.size
  have n:=y.trans d.tape;have j:=b.un.os.trans (d.os.trans e.os.symm);have k:=b.un.output.trans (d.output.trans e.output.symm);refine⟨_,_,_,p u.tape c Z cs,rfl,⟨m,n,j,k,λ_=>trivial,λo r=>by rw[b.un.size];exact d.evs o r⟩,?_⟩;exact z u.tape c (i u.tape c) d.hp b.un λfr' tops' w' a g s t q x=>f fr' tops' w' a g s t ((⟨b.un,b.keep⟩:rX w u _ _).trans q) ((⟨n,j,k,m⟩:Sm u _).trans x)
def sX(h:Twins P0 P){Stop:Ut->List Ut->F->Prop}(j:∀fr aF w,Stop fr aF w->¬IW fr){fr:Ut}{aF cs:List Ut}{w u:F}(ok:eN P0 fr aF)(d:Hp (bn P0) w)(e:Un w u)
 (k:∀c,∃fr' tops' w',Steps P0 (lone fr (aF++[bG]) (sh c 0 w)) (lone fr' (tops'++[bG]) w')/\Stop fr' tops' w')
 (g:∀fr' tops' w' a,Dh Stop fr' tops' w'->eN P0 fr' tops'->rX w u w' a->Sm u a->tR P0 P Post (Ug fr' (tops'++cs)) a):tR P0 P Post (Ug fr (aF++cs)) u:=
 Gf (vC h j ok d e λc=>by
  obtain⟨fr',tops',w',⟨N,i⟩,b⟩:=k c;exact⟨N,fr',tops',w',i,b⟩) ok d e λfr' tops' w' a b l _ f m=>g fr' tops' w' a b l f m
def Left (c:Ut):WS->Ut
 | .returned v=>c.finish v
 | .panicked a=>c.raise a
 | .outgrown=>c
def Qv (c:Ut):Prop:=c.mode= .run/\((∃e b f a,c.todo= .inRegion e (b::f)::a)\/∃d a,c.todo= .inRangeFunc d::a)
def mi (P0 P:Uf)(Post:U->F->Prop)(f:V1)(args:Array U)(w:F)(R:WS->F->Prop):Prop:=
 ∀(a:Ut) (d:List Ut),eN P0 a []->Qv a->xG P0 w->
  (∀c b,R c b->xG P0 b->Sm w b->eN P0 (Left a c) []->tR P0 P Post (Ug (Left a c) d) b)->tR P0 P Post (Ug (UY P f args .normal) (a::d)) w
def Tl (w u:F)(R:WS->F->Prop)(e:WS)(c:F):Prop:=∃d b a,rX w u a c/\R e (sh d b a)
def DM(h:Twins P0 P)(f:V1)(args:Array U)(kind:CallKind)(i:kind= .normal\/kind= .deferred):mY P0 (UY P0 f args kind):=by
 refine⟨λk c=>?_,λj e=>by simp[UY] at e,i⟩;simp only[UY,List.mem_singleton] at c;subst c;show bp P0 T7 _=Z;cases g:P0.funcs[f]? with
 |none=>rfl
 |some b=>
  cases a:b.body with
  |none=>simp[a,bp]
  |some d=>simpa [a] using h.A.FB f b d g a
def pM(h:Twins P0 P){f:V1}{args:Array U}{w u:F}{R:WS->F->Prop}(C:Hp (bn P0) w)(H:Un w u)(y:P.funcs[f]? =P0.funcs[f]?)(n:∀w',¬R .outgrown w')(z:∀e,Calls P0 f args (sh e 0 w) R):mi P0 P Post f args u (Tl w u R):=by
 intro c K k D _ x;have r:UY P f args .normal=UY P0 f args .normal:=by unfold UY;rw[y]
 rw[r];obtain⟨E,d⟩:=D;refine sX (aF:=[c]) h (Stop:=λi aF w'=>aF=[]/\∃a,R a w'/\i=Left c a) (λi aF w' j=>?_) ⟨DM h f args .normal (.inl Y),λV p=>by simp at p;rw[p];exact k.top,k.bot⟩ C H (λe=>?_) (λL T w' J j B t G=>?_)
 ·obtain⟨_,a,b,rfl⟩:=j;rintro⟨A,s,o⟩;cases a with
  |returned v=>
   rcases d with⟨Q,N,S,I,d⟩|⟨O,I,d⟩
   ·simp[Left,VW,d] at o
   ·simp[Left,VW,d] at o
  |panicked g=>
   simp[Left,Frame.raise,E] at A
  |outgrown=>exact n _ b
 ·obtain⟨a,w',i,b,l,M,m⟩:=z e (c::[bG]);cases a with
  |returned v=>exact⟨c.finish v,[],w',l.trans (.one (step_leave_returned m)),rfl,.returned v,b,rfl⟩
  |panicked g=>exact⟨c.raise g,[],w',l.trans (.one (step_leave_panicked m)),rfl,.panicked g,b,rfl⟩
  |outgrown=>exact absurd b (n _)
 ·obtain⟨e,q,rfl,a,b,rfl⟩:=j;exact x a J ⟨e,q,w',t,b⟩ trivial G B
end
def Fh (P0 P:Uf)(Post:U->F->Prop)(fr:Ut)(cs:List Ut)(w:F):Prop:=eN P0 fr []->xG P0 w->tR P0 P Post (Ug fr cs) w
section
variable {P0 P:Uf}{Post:U->F->Prop}
def Qa{w u w' d:F}(h:rX w u w' d)(e:u.heap=w.heap):d.heap=w'.heap:=by
 apply Array.ext_getElem?;intro b;rcases h.un.cases b with c|⟨c,i,f,g⟩
 ·exact c
 ·rw[(h.keep b c).2,e,(h.keep b c).1,c]
def Qb{w u g u1 i u2:F}(h1:rX w u g u1)(h:rX w u i u2)(e:g.heap=i.heap):u1.heap=u2.heap:=by
 apply Array.ext_getElem?;intro b;by_cases c:g.heap[b]? =I pz
 ·rw[(h1.keep b c).2,(h.keep b (by rw[<-e];exact c)).2]
 ·rcases h1.un.cases b with d|⟨d,_⟩
  ·rcases h.un.cases b with f|⟨f,_⟩
   ·rw[d,f,e]
   ·exact absurd (by rw[e];exact f) c
  ·exact absurd d c
def rX.same{w u w' g:F}(h:rX w u w' g)(i:Un w u){b:Nat}(e:w'.heap[b]? =w.heap[b]?):g.heap[b]? =u.heap[b]? :=by
 by_cases f:w'.heap[b]? =I pz
 ·exact(h.keep b f).2
 ·rcases h.un.cases b with c|⟨c,_⟩
  ·rcases i.cases b with d|⟨d,_⟩
   ·rw[c,d,e]
   ·exact absurd (e.trans d) f
  ·exact absurd c f
structure Mk(P0:Uf)(ws w:F):Prop where
 un:Un ws w
 hp:Hp (bn P0) ws
 at_:∀(b:Nat) o,w.heap[b]? =I o->bn P0 o->ws.heap[b]? =I o
def D6(P0:Uf)(w:F):∃ws,Mk P0 ws w:=by
 obtain⟨ws,c,d,-,-,e⟩:=Pg P0 w;exact⟨ws,c,d,e⟩
section
variable {b:Ut}{a:V6}{k:List WM}{cs:List Ut}{w:F}
def S3 (P0 P:Uf)(Post:U->F->Prop)(b:Ut)(k:List WM)(cs:List Ut)(w':F):Exit->V6->Prop
 | .normal,a=>Fh P0 P Post (b.at a k) cs w'
 | .exit id,a=>∀d,Yh id k=I d->Fh P0 P Post (b.at a d) cs w'
 | .ret,a=>∀c,Fh P0 P Post {b.at a c with mode:=.returning} cs w'
 | .panic e,a=>∀c,Fh P0 P Post {b.at a c with mode:=.panicking e} cs w'
 |_,_=>True
theorem ye{id:Nat}{i:WM}:∀{k k':List WM},Yh id k=I k'->i∈k'->i∈k
 | [],k',c,_=>by simp[Yh] at c
 |x::f,k',c,d=>by
  cases x<;>simp only[Yh] at c
  case inBlock e=>
   split at c
   ·cases c;exact List.mem_cons_of_mem _ d
   ·exact List.mem_cons_of_mem _ (ye c d)
  all_goals exact List.mem_cons_of_mem _ (ye c d)
def Iq(h:Twins P0 P){c:WV}{Q:F->Exit->V6->F->Prop}(E:∀ws,Mk P0 ws w->∀o,c.wp P0 (Q ws) a (sh o 0 ws))(y:∀s,Item.code (.refuse s)∉k)(C:∀ws id a w,Q ws (.exit id) a w->Yh id k≠K)(D:∀ws l a w,¬Q ws (.goto l) a w)(G:∀ws a w,¬Q ws .outgrown a w)
 (B:∀ws e a' z w' o d,Mk P0 ws w->Q ws e a' (sh o d z)->rX ws w z w'->Sm w w'->S3 P0 P Post b k cs w' e a'):Fh P0 P Post (b.at a (.code c::k)) cs w:=by
 intro J _;obtain⟨ws,m⟩:=D6 P0 w;refine sX (aF:=[]) h (Stop:=λq aF w'=>aF=[]/\∃e a',Q ws e a' w'/\(match e with
  | .normal=>q=b.at a' k
  | .exit id=>∃j,Yh id k=I j/\q=b.at a' j
  | .ret=>∃g,q= {b.at a' g with mode:=.returning}
  | .panic p=>∃g,q= {b.at a' g with mode:=.panicking p}
  |_=>False)) (λq aF w' n=>?_) J m.hp m.un (λo=>?_) (λM N w' L n u A H=>?_)
 ·obtain⟨_,e,a',i,f⟩:=n;rintro⟨m,s,v⟩;cases e with
  |normal=>subst f;exact y s (by simp only[Frame.at] at v;rw[v];exact Xs ..)
  |exit id=>obtain⟨j,x,rfl⟩:=f;exact y s (ye x (by simp only[Frame.at] at v;rw[v];exact Xs ..))
  |ret=>obtain⟨g,rfl⟩:=f;cases m
  |panic p=>obtain⟨g,rfl⟩:=f;cases m
  |goto l=>exact f
  |outgrown=>exact f
 ·obtain⟨e,a',w',i,t⟩:=E ws m o b k [bG];cases e with
  |normal=>exact⟨_,[],w',t,rfl,.normal,a',i,rfl⟩
  |exit id=>
   cases f:Yh id k with
   |none=>exact absurd f (C ws id a' w' i)
   |some j=>exact⟨_,[],w',t j f,rfl,.exit id,a',i,j,f,rfl⟩
  |ret=>obtain⟨g,n⟩:=t;exact⟨_,[],w',n,rfl,.ret,a',i,g,rfl⟩
  |panic p=>obtain⟨g,n⟩:=t;exact⟨_,[],w',n,rfl,.panic p,a',i,g,rfl⟩
  |goto l=>exact absurd i (D ws l a' w')
  |outgrown=>exact absurd i (G ws a' w')
 ·obtain⟨o,d,rfl,e,a',i,f⟩:=n;have r:=B ws e a' w' L o d m i A H;cases e with
  |normal=>subst f;exact r u trivial
  |exit id=>obtain⟨j,x,rfl⟩:=f;exact r j x u trivial
  |ret=>obtain⟨g,rfl⟩:=f;exact r g u trivial
  |panic p=>obtain⟨g,rfl⟩:=f;exact r g u trivial
  |goto l=>exact f.elim
  |outgrown=>exact f.elim
end
end
section
variable {P0 P:Uf}{Post:U->F->Prop}{b:Ut}{a:V6}{k:List WM}{cs:List Ut}{w:F}{ops:Array Vu}
def Pw{i:Nat}{rest:List Nat}{o:Vu}{f:V1}{fn:WC}{c:WV}{args:Array U6}{ats:Array Uh}{R:WS->F->Prop}(A:b.kind= .normal)(n:ops[i]? =I o)(G:UF o (Vj ops a.tmps)=Z)(r:o.op= .call {callee:=.value (.func f),args,argTypes:=ats})
 (l:P.funcs[f]? =I fn) (m:(fn.name == "runtime.NumGoroutine")=T7) (z:fn.body=I c) (hR:∀d,AtRel w d->mi P0 P Post f (args.map a.eval) d R)
 (y:∀v w',R (.returned v) w'->Sm w w'->Fh P0 P Post (b.at (a.put o.dst v) (.inRegion ops rest::k)) cs w') (hP:∀ch w',R (.panicked ch) w'->Sm w w'->Fh P0 P Post {b.at a (.inRegion ops (i::rest)::k) with mode:=.panicking ch} cs w') (B:∀w',¬R .outgrown w'):Fh P0 P Post (b.at a (.inRegion ops (i::rest)::k)) cs w:=by
 intro H C;refine yJ λd h=>?_;have j:fn.body.isNone=T7:=by rw[z];rfl
 have E:UM P Z (Ug (b.at a (.inRegion ops (i::rest)::k)) cs) d= .go (Ug (UY P f (args.map a.eval) .normal) (b.at a (.inRegion ops (i::rest)::k)::cs)) d #[]:=by
  rw[stepG_enter n G (by rw[A];simp) (run_call_body r l m j)];have:listed P b.fn a o d=#[]:=by unfold listed;rw[events_call_body r l m j];exact Conc.seen_none P _
  rw[this]
 have D:xG P0 d:=by obtain⟨x,rfl⟩:=h;exact C
 have t:Sm w d:=by obtain⟨x,rfl⟩:=h;exact⟨rfl,rfl,rfl,T8 _⟩
 refine⟨_,_,_,E,rfl,⟨T8 _,rfl,rfl,rfl,λJ=>J,λe g=>by simp at g⟩,?_⟩;refine hR d h _ cs H ⟨rfl,.inl ⟨ops,i,rest,k,rfl⟩⟩ D λe w' g s u p=>?_;cases e with
 |returned v=>
  have:=y v w' g (t.trans u);have e:=XG b a ops i rest k v;rw[n] at e;have q:eN P0 ((b.at a (.inRegion ops (i::rest)::k)).finish v) []:=p;rw[e] at q;show tR P0 P Post (Ug ((b.at a (.inRegion ops (i::rest)::k)).finish v) cs) w';rw[e];exact this q s
 |panicked ch=>exact hP ch w' g (t.trans u) p s
 |outgrown=>exact absurd g (B w')
def Gg{fr:Ut}{v:U}(j:P.inits.idxOf? fr.fn=K)(m:∀s d,fr.leaving P (sh s d w) (.returned v))(i:∀c,AtRel w c->∀fn,P.funcs[fr.fn]? =I fn->∀e∈((UX fn fr.tmps).runT P c #[]).2,zT c.heap.size e)(o:∀c,AtRel w c->Post v c):tR P0 P Post (Ug fr []) w:=by
 refine Px λc r=>?_;obtain⟨d,rfl⟩:=r;obtain⟨n,h,l,fn,g,p⟩:=m w.tape d;have q:(UX fn fr.tmps).run P (w.at d)= .ok v (w.at d):=p;have f:=i (w.at d) ⟨d,rfl⟩ fn g;rw[Yd] at f;refine⟨v,seen P fr.fn ((UX fn fr.tmps).events P (w.at d) #[]),?_,EG f,o _ ⟨d,rfl⟩⟩;simp[Ug,UM,Yi,n,h,g,WZ,l,j,WQ,q]
end
end Cc
namespace Rl
section
variable {G:mj}
def fy:Nat->U->Bool
 |_,.bool _|_,.int _ _|_,.string _|_,.pointer K|_,.slice K _ _|_,.map K|_,.chan K|_,.nilFunc|_,.nilIface=>Z
 |n+1,.iface _ v=>fy n v
 |n+1,.agg a|n+1,.tuple a=>a.toList.all (fy n)
 |_,_=>T7
theorem qP:∀(n:Nat) {ρ:aU G} (v:U),fy n v=Z->ax ρ v v
 |n,ρ,v,a=>by
  cases v with
  |bool c=>exact .bool c
  |int e d=>exact .int e d
  |string s=>exact .string s
  |pointer b=>cases b with
   |none=>exact .de
   |some b=>cases n<;>simp[fy] at a
  |slice b m l=>cases b with
   |none=>exact .jV _ _
   |some b=>cases n<;>simp[fy] at a
  |map g=>cases g with
   |none=>exact .kE
   |some b=>cases n<;>simp[fy] at a
  |chan g=>cases g with
   |none=>exact .iM
   |some b=>cases n<;>simp[fy] at a
  |nilFunc=>exact .nilFunc
  |nilIface=>exact .nilIface
  |float e c=>cases n<;>simp[fy] at a
  |complex e b c=>cases n<;>simp[fy] at a
  |func f o p=>cases n<;>simp[fy] at a
  |iface k v=>cases n with
   |zero=>simp[fy] at a
   |succ n=>exact .iface k (qP n v (by simpa [fy] using a))
  |agg h=>cases n with
   |zero=>simp[fy] at a
   |succ n=>exact .agg Y (λd i j=>qP n _ (by
    simp only[fy] at a;exact Uz.1 a _ (by simp)))
  |tuple h=>cases n with
   |zero=>simp[fy] at a
   |succ n=>exact .tuple Y (λd i j=>qP n _ (by
    simp only[fy] at a;exact Uz.1 a _ (by simp)))
def dx (G:mj):U6->Bool
 | .tmp _=>Z
 | .const v=>fy 6 v
 | .global _=>T7
 | .func f=>G.b f
def yf (P:Uf)(b:Builtin)(c:Array Uh):Bool:=
 match b with
 | .append=>match c[1]? with
  |some a=>(match P.underlying a with|some (.int _)=>T7|_=>Z)
  |none=>Z
 | .copy| .len| .recover| .unsafeString=>Z
 |_=>T7
def lG (P:Uf)(ρ:aU G)(k:Target)(l:Target):Prop:=∀a:Target->Target->Prop,(∀{f h:Fn} (m:nF ρ f h) {d e:Array U} (j:bg ρ d e),a (.fn f d) (.fn h e))->(a .nil .nil)->(∀(b:Builtin) (c:Array Uh) (i:Uh) (g:Array Bool) (j:yf P b c=Z),a (.builtin b c i g) (.builtin b c i g))->a k l
def lG.fn{P:Uf}{ρ:aU G}{f f':Fn}(d:nF ρ f f'){c a:Array U}(h:bg ρ c a):lG P ρ (.fn f c) (.fn f' a):=λe b g i=>b d h
def lG.nil{P:Uf}{ρ:aU G}:lG P ρ .nil .nil:=λb c a d=>a
def lG.builtin{P:Uf}{ρ:aU G}(b:Builtin)(a:Array Uh)(t:Uh)(cs:Array Bool)(h:yf P b a=Z):lG P ρ (.builtin b a t cs) (.builtin b a t cs):=λd e f c=>c b a t cs h
def lG.ind{P:Uf}{ρ:aU G}{e:∀(a:Target) (d:Target),lG P ρ a d->Prop}(fn:∀{f f':Fn} (i:nF ρ f f') {c j:Array U} (h:bg ρ c j),e _ _ (lG.fn i h))(nil:e _ _ (lG.nil))(builtin:∀(b:Builtin) (g:Array Uh) (t:Uh) (cs:Array Bool) (h:yf P b g=true),e _ _ (lG.builtin b g t cs h)){a:Target}{d:Target}(h:lG P ρ a d):e a d h:=(h (λa d=>lG P ρ a d/\∀h,e a d h) (λ{f} {f'} i {c} {j} h=>⟨lG.fn i h,λ_=>fn i h⟩) (⟨lG.nil,λ_=>nil⟩) (λb g t cs h=>⟨lG.builtin b g t cs h,λ_=>builtin b g t cs h⟩)).2 h
structure xC(P:Uf)(ρ:aU G)(d d':Wj):Prop where
 target:lG P ρ d.target d'.target
 args:bg ρ d.args d'.args
def iG (P:Uf)(ρ:aU G)(i:Next)(j:Next):Prop:=∀a:Next->Next->Prop,(∀{v e:U} (d:ax ρ v e),a (.value v) (.value e))->(a .skip .skip)->(∀(f:V1) (k:G.b f=Z) {g h:Array U} (d:bg ρ g h),a (.enter f g) (.enter f h))->(∀{b c:Wj} (d:xC P ρ b c),a (.defer b) (.defer c))->(a .recover .recover)->a i j
def iG.value{P:Uf}{ρ:aU G}{v a:U}(h:ax ρ v a):iG P ρ (.value v) (.value a):=λc b d e f g=>b h
def iG.skip{P:Uf}{ρ:aU G}:iG P ρ .skip .skip:=λb c a d e f=>a
def iG.enter{P:Uf}{ρ:aU G}(f:V1)(c:G.b f=Z){vs a:Array U}(h:bg ρ vs a):iG P ρ (.enter f vs) (.enter f a):=λd e g b i j=>b f c h
def iG.defer{P:Uf}{ρ:aU G}{d a:Wj}(h:xC P ρ d a):iG P ρ (.defer d) (.defer a):=λc e f g b i=>b h
def iG.recover{P:Uf}{ρ:aU G}:iG P ρ .recover .recover:=λb c d e f a=>a
def iG.ind{P:Uf}{ρ:aU G}{a:∀(b:Next) (c:Next),iG P ρ b c->Prop}(value:∀{v j:U} (h:ax ρ v j),a _ _ (iG.value h))(skip:a _ _ (iG.skip))(enter:∀(f:V1) (e:G.b f=true) {vs g:Array U} (h:bg ρ vs g),a _ _ (iG.enter f e h))(defer:∀{d i:Wj} (h:xC P ρ d i),a _ _ (iG.defer h))(recover:a _ _ (iG.recover)){b:Next}{c:Next}(h:iG P ρ b c):a b c h:=(h (λb c=>iG P ρ b c/\∀h,a b c h) (λh=>⟨iG.value h,λ_=>value h⟩) (⟨iG.skip,λ_=>skip⟩) (λf e {vs} {g} h=>⟨iG.enter f e h,λ_=>enter f e h⟩) (λh=>⟨iG.defer h,λ_=>defer h⟩) (⟨iG.recover,λ_=>recover⟩)).2 h
section
variable {P P':Uf}{ρ:aU G}
def bg.two{vs d:Array U}(h:bg ρ vs d):(∃a b a' b',vs=#[a,b]/\d=#[a',b']/\ax ρ a a'/\ax ρ b b')\/(vs.size≠2/\d.size≠2):=by
 by_cases c:vs.size=2
 ·have e:d.size=2:=by rw[<-h.1];exact c
  obtain⟨f⟩:=vs;obtain⟨g⟩:=d;simp at c e
  match f,g,c,e,h with
  | [a,b],[a',b'],_,_,h=>exact .inl ⟨a,b,a',b',rfl,rfl,h.2 0 (by simp) (by simp),h.2 1 (by simp) (by simp)⟩
 ·exact .inr ⟨c,by rw[<-h.1];exact c⟩
theorem vM:∀(n:Nat) {ρ:aU G} {a a':UJ} (b:ByteArray),cN ρ a a'->an P P' (iX (α:=ByteArray)) ρ (loadBytes a b n) (loadBytes a' b n)
 |0,ρ,a,a',b,c=>.aC Y
 |n+1,ρ,a,a',b,c=>by
  unfold loadBytes;refine .load c (λv g d=>?_);cases d using ax.ind with
  |int e f=>
   cases e<;>first|exact an.stuck|exact vM n _ (c.add 1)
  |_=>exact an.stuck
def Na(L:Alike G P P')(t:Uh):an P P' (iX (α:=Uh)) ρ (elemOf t) (elemOf t):=by
 unfold elemOf;refine(aV L.S t).bindM (λe b d c a=>?_);obtain⟨rfl,-⟩:=a;cases b<;>first|exact .aC rfl|exact an.stuck
def Aq(L:Alike G P P'){a a':UJ}(u:Uh)(n:Nat)(h:cN ρ a a'):an P P' (iX (α:=Bool)) ρ (variablesAt a u n) (variablesAt a' u n):=by
 unfold variablesAt;refine .asks ?_;refine(oH h.1).bindM (λg c f d b=>?_);cases b;cases c with
 |none=>exact .aC Y
 |some e=>dsimp only;rw[L.jj,L.depth,L.cells,<-h.2.1];exact .aC Y
def yX(L:Alike G P P')(c:Array Uh)(t:Uh){vs e:Array U}(h:bg ρ vs e):an P P' ax ρ (Builtin.unsafeString_ c t vs) (Builtin.unsafeString_ c t e):=by
 unfold Builtin.unsafeString_;rcases h.two with⟨n,p,o,q,rfl,rfl,b,k⟩|⟨g,i⟩
 ·cases b using ax.ind with
  |de=>
   refine(oF k).bindM (λC A B d a=>?_);cases a;cases c[0]? with
   |none=>exact an.stuck
   |some m=>
    dsimp only
    split
    ·exact uJ L _ (by simp) (by simp) (by simp)
    ·split
     ·exact fI
     ·split
      ·exact .aC (.string _)
      ·exact eF L.S _ (by simp) (by simp) (by simp)
  |ptr b=>
   refine(oF k).bindM (λC A B d a=>?_);cases a;cases c[0]? with
   |none=>exact an.stuck
   |some m=>
    dsimp only
    split
    ·exact uJ L _ (by simp) (by simp) (by simp)
    ·split
     ·exact fI
     ·split
      ·exact .aC (.string _)
      ·refine(Na L m).bindM (λI v D l a=>?_);cases a;refine(Aq L v _ (b.mono (d.trans l))).bindM (λJ r u w a=>?_);cases a;have j:=b.mono (d.trans (l.trans w))
       split
       ·refine(vM _ _ j).bindM (λK s H x a=>?_);cases a;exact .freeze (j.mono x) (.pure (.string _))
       ·exact an.dA
  |_=>exact an.stuck
 ·obtain⟨y⟩:=vs;obtain⟨z⟩:=e;have f:=h.1;simp only[List.size_toArray] at f g i;rcases y with _|⟨n,_|⟨p,_|⟨r,E⟩⟩⟩<;>rcases z with _|⟨o,_|⟨q,_|⟨u,F⟩⟩⟩<;>first|exact an.stuck|(exfalso;simp at f;done)|(exfalso;simp at g;done)|(exfalso;simp at i;done)
def cK{s s':Wu U}(h:an P P' ax ρ s s'):an P P' (iG P) ρ (do pure (.value (<-s))) (do pure (.value (<-s'))):=h.bindM (λ_ _ _ _ h=>.aC (.value h))
def yW{s s':Wu Unit}(h:an P P' (iX (α:=Unit)) ρ s s'):an P P' (iG P) ρ (do s;pure .skip) (do s';pure .skip):=h.bindM (λ_ _ _ _ _=>.aC .skip)
def J5(L:Alike G P P')(b:Builtin)(a:Array Uh)(t:Uh)(cs:Array Bool)(c:yf P b a=Z){vs d:Array U}(h:bg ρ vs d):an P P' (iG P) ρ (builtin b a t cs vs) (builtin b a t cs d):=by
 unfold builtin;cases b<;>first
  |(simp[yf] at c;done)
  |exact cK (Rz L a t h)
  |exact cK (SF L a t h)
  |exact cK (yX L a t h)
  |exact .aC .recover
  |(refine cK (M8 L a t (λi f g e=>?_) h);simp only[yf,f,e] at c;cases c)
def Gl(L:Alike G P P')(f:V1)(d:G.b f=Z){vs e:Array U}(h:bg ρ vs e):an P P' (iG P) ρ (callFunc f vs) (callFunc f e):=by
 unfold callFunc;obtain⟨j,b,g,i⟩:=L.QW f d;refine .asks ?_;have a:=L.Q9 f;rw[b] at a;cases c:P'.funcs[f]? with
 |none=>rw[c] at a;simp at a
 |some k=>
  rw[c] at a;simp only[V3,U8,Prod.mk.injEq] at a;rw[b];dsimp only;rw[a.1,i,a.2,g];exact .aC (.enter f d h)
def Em(L:Alike G P P'){t b:Target}(j:lG P ρ t b){vs c:Array U}(h:bg ρ vs c):an P P' (iG P) ρ (invoke t vs) (invoke b c):=by
 unfold invoke;cases j using lG.ind with
 |nil=>exact eF L.S _ (by simp) (by simp) (by simp)
 |builtin d k t e g=>exact J5 L d k t e g h
 |fn a i=>
  cases a using nF.ind with
  |func f a=>exact Gl L f a (h.append i)
def yg (G:mj)(P:Uf)(c:Call):Bool:=
 c.args.toList.all (dx G)&&match c.callee with
  | .builtin a=>yf P a c.argTypes
  | .value f=>dx G f
  | .invoke _ _=>T7
def Hh{e e':U6->U}(b:∀x,dx G x=Z->ax ρ (e x) (e' x))(a:Array U6)(h:a.toList.all (dx G)=Z):bg ρ (a.map e) (a.map e'):=by
 refine⟨by simp,λf c d=>?_⟩;simp only[Array.getElem_map];exact b _ (Uz.1 h _ (by simp))
def A7{e e':U6->U}(i:∀x,dx G x=Z->ax ρ (e x) (e' x))(c:Call)(t:Uh)(h:yg G P c=Z):an P P' (xC P) ρ (X6 e c t) (X6 e' c t):=by
 unfold X6;unfold yg at h;rw[Uw] at h;have g:=Hh i c.args h.1;have a:=h.2;cases d:c.callee with
 |builtin j=>
  rw[d] at a;exact .aC ⟨.builtin j _ t _ a,g⟩
 |value f=>
  rw[d] at a;have b:=i f a;dsimp only;unfold XN;generalize e f=x at b;generalize e' f=p at b;cases b using ax.ind with
  |func b k a l m=>exact .aC ⟨.fn b ⟨l,m⟩,bg.append ⟨k,a⟩ g⟩
  |nilFunc=>exact .aC ⟨.nil,g⟩
  |_=>exact an.stuck
 |invoke o n=>rw[d] at a;cases a
end
end
section
variable {G:mj}
def yz (P:Uf)(t:Uh):Bool:=match P.underlying t with|some (.int _)=>Z|_=>T7
def Il (P:Uf)(t:Uh):Bool:=match P.underlying t with|some (.map a _)=>plainKey P 10000 a|_=>Z
def fP (G:mj)(P:Uf):Op->Bool
 | .move a| .assign a| .box _ a| .load _ a| .nilCheck a| .unOp _ _ a| .makeInterface _ a| .fieldAddr _ a _| .field _ a _| .extract a _| .panic a=>dx G a
 | .pick c b h=>dx G c&&dx G b&&dx G h
 | .alloc _=>Z
 | .build _ g| .buildSlice _ _ g=>g.toList.all λo=>dx G o.2
 | .store _ b v| .binOp _ _ b v _| .makeSlice _ b v| .indexAddr _ b v| .index _ b v=>dx G b&&dx G v
 | .convert s j a=>dx G a&&yz P s&&yz P j
 | .makeFunc k first i=>(match k with| .func f=>G.b f|_=>T7)&&first.toList.all (dx G)&&i.toList.all (dx G)
 | .makeMap _ p=>p.toList.all (dx G)
 | .slice _ a n l m=>dx G a&&n.toList.all (dx G)&&l.toList.all (dx G)&&m.toList.all (dx G)
 | .lookup d b v _=>Il P d&&dx G b&&dx G v
 | .mapUpdate d m e v| .insert d m e v=>Il P d&&dx G m&&dx G e&&dx G v
 | .call c| .defer c=>yg G P c
 |_=>T7
section
variable {P P':Uf}{ρ:aU G}
def J6(L:Alike G P P')(s d:Uh){v f:U}(b:yz P s=Z)(a:yz P d=Z)(h:ax ρ v f):an P P' ax ρ (convert s d v) (convert s d f):=by
 unfold convert;refine(aV L.S s).bindM (λn g l j c=>?_);obtain⟨rfl,c⟩:=c;refine(aV L.S d).bindM (λo i m k e=>?_);obtain⟨rfl,e⟩:=e;unfold yz at b a;rw[c] at b;rw[e] at a;cases g<;>first|(simp at b;done)|skip
 cases i<;>first|(simp at a;done)|skip
 cases h using ax.ind<;>first|exact .aC (.int _ _)|exact an.dA
def qL{e e':U6->U}(a:∀x,dx G x=Z->ax ρ (e x) (e' x))(o:Option U6)(h:o.toList.all (dx G)=Z):ep ρ (o.map e) (o.map e'):=by
 cases o with
 |none=>exact .none
 |some x=>exact .some (a x (by simpa using h))
def A2{e e':U6->U}(a:∀x,dx G x=Z->ax ρ (e x) (e' x))(ps:Array (Nat×U6))(h:(ps.toList.all λp=>dx G p.2)=Z):ia ρ (ps.map fun(i,x)=>(i,e x)).toList (ps.map fun(i,x)=>(i,e' x)).toList:=by
 rw[Array.toList_map,Array.toList_map];generalize ps.toList=c at h
 induction c with
 |nil=>exact .nil
 |cons p d b=>
  simp only[List.all_cons,Uw] at h;exact .cons p.1 (a _ h.1) (b h.2)
def yB{t:Uh}(h:Il P t=Z):∀a b,P.underlying t=I (.map a b)->plainKey P 10000 a=Z:=by
 intro a b c;unfold Il at h;rw[c] at h;exact h
def RA(L:Alike G P P')(o:Vu){e e':U6->U}(a:fP G P o.op=Z)(b:∀x,dx G x=Z->ax ρ (e x) (e' x))(I:∀x,o.op= .panic x->(∃t v,e x= .iface t v)\/e x=Vk):an P P' (iG P) ρ (UH e o) (UH e' o):=by
 unfold UH;cases c:o.op with
 |move x=>rw[c] at a;exact .aC (.value (b x a))
 |assign x=>rw[c] at a;exact .aC (.value (b x a))
 |pick i g h=>
  rw[c] at a;simp only[fP,Uw] at a;refine(M9 (b i a.1.1)).bindM (λA x q j H=>?_);cases H;cases x
  ·exact .aC (.value ((b h a.2).mono j))
  ·exact .aC (.value ((b g a.1.2).mono j))
 |alloc t=>exact cK (PI L t)
 |box t x=>rw[c] at a;exact cK (SE t (b x a))
 |build t z=>rw[c] at a;exact cK (PK L t (A2 b z a))
 |buildSlice t K z=>rw[c] at a;exact cK (Cn L t K (A2 b z a))
 |load t x=>rw[c] at a;exact cK (Nd L t (b x a))
 |store t g v=>
  rw[c] at a;simp only[fP,Uw] at a;exact yW (Kf L t (b g a.1) (b v a.2))
 |nilCheck x=>
  rw[c] at a;have d:=b x a;dsimp only;generalize e x=v at d;generalize e' x=C at d;have B:=d;cases d using ax.ind with
  |de=>exact eF L.S _ (by simp) (by simp) (by simp)
  |nilIface=>exact eF L.S _ (by simp) (by simp) (by simp)
  |nilFunc=>exact eF L.S _ (by simp) (by simp) (by simp)
  |func a Q R S T=>
   cases a using nF.ind with
   |func f O=>exact .aC (.value B)
  |_=>exact .aC (.value B)
 |binOp p t x q V=>
  rw[c] at a;simp only[fP,Uw] at a;exact cK ((J7 L p t x q (b x a.1) (b q a.2)).bindM (λA _ _ j _=>PJ L p t ((b x a.1).mono j) ((b q a.2).mono j)))
 |unOp p t x=>rw[c] at a;exact cK (PT p (b x a))
 |convert s r x=>
  rw[c] at a;simp only[fP,Uw] at a;exact cK (J6 L s r a.1.2 a.2 (b x a.1.1))
 |makeInterface t x=>rw[c] at a;exact cK (wO L t (b x a))
 |makeFunc F first D=>
  rw[c] at a;simp only[fP,Uw] at a;have u:=Hh b first a.1.2
  have w:=Hh b D a.2;cases F with
  |func f=>exact cK (.aC (.func (.func f a.1.1) u.1 u.2 w.1 w.2))
  |_=>exact absurd a.1.1 (by simp)
 |makeMap t N=>rw[c] at a;exact cK (Kc L t (qL b N a))
 |makeSlice t g h=>
  rw[c] at a;simp only[fP,Uw] at a;exact cK (En L t (b g a.1) (b h a.2))
 |slice t x J d m=>
  rw[c] at a;simp only[fP,Uw] at a;exact cK (Ke L t (b x a.1.1.1) (qL b J a.1.1.2) (qL b d a.1.2) (qL b m a.2))
 |fieldAddr t x l=>rw[c] at a;exact cK (J9 L t (b x a) l)
 |field t x l=>rw[c] at a;exact cK (PL L t (b x a) l)
 |indexAddr t g h=>
  rw[c] at a;simp only[fP,Uw] at a;exact cK (Ka L t (b g a.1) (b h a.2))
 |index t g h=>
  rw[c] at a;simp only[fP,Uw] at a;exact cK (PO L t (b g a.1) (b h a.2))
 |lookup t g h M=>
  rw[c] at a;simp only[fP,Uw] at a;exact cK (Nf L t M (yB a.1.1) (b g a.1.2) (b h a.2))
 |mapUpdate t m y v=>
  rw[c] at a;simp only[fP,Uw] at a;exact yW (vO L t (yB a.1.1.1) (b m a.1.1.2) (b y a.1.2) (b v a.2))
 |insert t m y v=>
  rw[c] at a;simp only[fP,Uw] at a;exact yW (vO L t (yB a.1.1.1) (b m a.1.1.2) (b y a.1.2) (b v a.2))
 |extract x l=>rw[c] at a;exact cK (J8 (b x a) l)
 |call i=>
  rw[c] at a;exact(A7 b i o.type a).bindM (λA r E _ n=>Em L n.target n.args)
 |defer i=>
  rw[c] at a;exact(A7 b i o.type a).bindM (λA r E _ n=>.aC (.defer n))
 |panic x=>
  rw[c] at a;have d:=b x a;dsimp only;rcases I x c with⟨t,v,k⟩|k
  ·rw[k] at d ⊢;generalize e' x=C at d;cases d using ax.ind with
   |iface t k=>exact an.halt (.panic (.iface t k))
  ·rw[k] at d ⊢;generalize e' x=C at d;unfold Vk at d ⊢;cases d using ax.ind with
   |tuple u w=>exact an.stuck
 |_=>rw[c] at a;simp[fP] at a
end
end
section
variable {G:mj}
def qG:Op->Bool
 | .panic _=>Z
 |_=>T7
def oB (ops:Array Vu)(a b:Nat):Bool:=
 match ops[b]? with
 |some d=>match d.op with
  | .panic g=>match ops[a]? with
   |some c=>(match c.op,c.dst,g with| .makeInterface _ _,I e,.tmp f=>e==f|_,_,_=>T7)&&c.guard.isNone
   |none=>T7
  |_=>Z
 |none=>Z
def kN (ops:Array Vu):List Nat->Bool
 |a::b::c=>oB ops a b&&kN ops (b::c)
 |_=>Z
def Io (ops:Array Vu)(i:Nat):Bool:=match ops[i]? with|some a=> !qG a.op|none=>Z
def mH (G:mj)(P:Uf)(ops:Array Vu)(b:Bool):Bool:=
 (ops.toList.all λa=>fP G P a.op)&&if b then ops.toList.all (λa=> !qG a.op) else kN ops (UK ops.size)&&Io ops 0
def cD (G:mj)(P:Uf):WV->Bool
 | .region _ e d=>mH G P e d
 | .seq a b=>cD G P a&&cD G P b
 | .cond c a b=>dx G c&&cD G P a&&cD G P b
 | .block _ a| .loop a| .scope a=>cD G P a
 | .skip| .exit _| .label _| .ret=>Z
 | .rangeFunc _ _ _ _| .goto _| .refuse _=>T7
def bX (G:mj)(P:Uf)(h:WM):Prop:=∀b:WM->Prop,(∀(a:WV) (c:cD G P a=Z),b (.code a))->(∀(f:Nat),b (.inBlock f))->(∀(a:WV) (c:cD G P a=Z),b (.inLoop a))->(∀(a:WV) (c:cD G P a=Z),b (.inScope a))->(∀(d:Array Vu) (e:List Nat) (c:(d.toList.all λg=>fP G P g.op)=Z) (i:kN d e=Z),b (.inRegion d e))->b h
def bX.code{G:mj}{P:Uf}(c:WV)(h:cD G P c=Z):bX G P (.code c):=λb a d e f g=>a c h
def bX.inBlock{G:mj}{P:Uf}(i:Nat):bX G P (.inBlock i):=λb c a d e f=>a i
def bX.inLoop{G:mj}{P:Uf}(c:WV)(h:cD G P c=Z):bX G P (.inLoop c):=λb d e a f g=>a c h
def bX.inScope{G:mj}{P:Uf}(c:WV)(h:cD G P c=Z):bX G P (.inScope c):=λb d e f a g=>a c h
def bX.inRegion{G:mj}{P:Uf}(ops:Array Vu)(todo:List Nat)(h:(ops.toList.all λo=>fP G P o.op)=Z)(hc:kN ops todo=Z):bX G P (.inRegion ops todo):=λb c d e f a=>a ops todo h hc
def bX.ind{G:mj}{P:Uf}{a:∀(b:WM),bX G P b->Prop}(code:∀(c:WV) (h:cD G P c=true),a _ (bX.code c h))(inBlock:∀(i:Nat),a _ (bX.inBlock i))(inLoop:∀(c:WV) (h:cD G P c=true),a _ (bX.inLoop c h))(inScope:∀(c:WV) (h:cD G P c=true),a _ (bX.inScope c h))(inRegion:∀(ops:Array Vu) (todo:List Nat) (h:(ops.toList.all λo=>fP G P o.op)=true) (hc:kN ops todo=true),a _ (bX.inRegion ops todo h hc)){b:WM}(h:bX G P b):a b h:=(h (λb=>bX G P b/\∀h,a b h) (λc h=>⟨bX.code c h,λ_=>code c h⟩) (λi=>⟨bX.inBlock i,λ_=>inBlock i⟩) (λc h=>⟨bX.inLoop c h,λ_=>inLoop c h⟩) (λc h=>⟨bX.inScope c h,λ_=>inScope c h⟩) (λops todo h hc=>⟨bX.inRegion ops todo h hc,λ_=>inRegion ops todo h hc⟩)).2 h
def Dc (G:mj)(P:Uf)(l:List WM):Prop:=∀a∈l,bX G P a/\∀b c,a≠.inRegion b c
def rV (G:mj)(P:Uf):List WM->Prop
 | []=>True
 |i::a=>bX G P i/\Dc G P a
structure IY(ρ:aU G)(p p':Vr):Prop where
 v:ax ρ p.v p'.v
 r:p.recovered=p'.recovered
 g:p.goexit=p'.goexit
def iT (ρ:aU G)(f:List Vr)(g:List Vr):Prop:=∀a:List Vr->List Vr->Prop,(a [] [])->(∀{d e:Vr} {b c:List Vr} (h:IY ρ d e) (i:a b c),a (d::b) (e::c))->a f g
def iT.nil{ρ:aU G}:iT ρ [] []:=λb a c=>a
def iT.cons{ρ:aU G}{p c:Vr}{l b:List Vr}(h:IY ρ p c)(f:iT ρ l b):iT ρ (p::l) (c::b):=λd e a=>a h (f d e a)
def iT.ind{ρ:aU G}{d:∀(a:List Vr) (b:List Vr),iT ρ a b->Prop}(nil:d _ _ (iT.nil))(cons:∀{p f:Vr} {l e:List Vr} (h:IY ρ p f) (c:iT ρ l e),(d _ _ c)->d _ _ (iT.cons h c)){a:List Vr}{b:List Vr}(h:iT ρ a b):d a b h:=(h (λa b=>iT ρ a b/\∀h,d a b h) (⟨iT.nil,λ_=>nil⟩) (λh c=>⟨iT.cons h c.1,λ_=>cons h c.1 (c.2 _)⟩)).2 h
def gz (ρ:aU G)(d:FrameMode)(e:FrameMode):Prop:=∀a:FrameMode->FrameMode->Prop,(a .run .run)->(a .returning .returning)->(∀{b c:List Vr} (f:iT ρ b c),a (.panicking b) (.panicking c))->a d e
def gz.run{ρ:aU G}:gz ρ .run .run:=λb a c d=>a
def gz.returning{ρ:aU G}:gz ρ .returning .returning:=λb c a d=>a
def gz.panicking{ρ:aU G}{c a:List Vr}(h:iT ρ c a):gz ρ (.panicking c) (.panicking a):=λd e f b=>b h
def gz.ind{ρ:aU G}{d:∀(a:FrameMode) (b:FrameMode),gz ρ a b->Prop}(run:d _ _ (gz.run))(returning:d _ _ (gz.returning))(panicking:∀{c e:List Vr} (h:iT ρ c e),d _ _ (gz.panicking h)){a:FrameMode}{b:FrameMode}(h:gz ρ a b):d a b h:=(h (λa b=>gz ρ a b/\∀h,d a b h) (⟨gz.run,λ_=>run⟩) (⟨gz.returning,λ_=>returning⟩) (λh=>⟨gz.panicking h,λ_=>panicking h⟩)).2 h
def iZ (P:Uf)(ρ:aU G)(f:List Wj)(g:List Wj):Prop:=∀a:List Wj->List Wj->Prop,(a [] [])->(∀{b c:Wj} {d e:List Wj} (h:xC P ρ b c) (i:a d e),a (b::d) (c::e))->a f g
def iZ.nil{P:Uf}{ρ:aU G}:iZ P ρ [] []:=λb a c=>a
def iZ.cons{P:Uf}{ρ:aU G}{d b:Wj}{l c:List Wj}(h:xC P ρ d b)(g:iZ P ρ l c):iZ P ρ (d::l) (b::c):=λe f a=>a h (g e f a)
def iZ.ind{P:Uf}{ρ:aU G}{e:∀(a:List Wj) (b:List Wj),iZ P ρ a b->Prop}(nil:e _ _ (iZ.nil))(cons:∀{d f:Wj} {l g:List Wj} (h:xC P ρ d f) (c:iZ P ρ l g),(e _ _ c)->e _ _ (iZ.cons h c)){a:List Wj}{b:List Wj}(h:iZ P ρ a b):e a b h:=(h (λa b=>iZ P ρ a b/\∀h,e a b h) (⟨iZ.nil,λ_=>nil⟩) (λh c=>⟨iZ.cons h c.1,λ_=>cons h c.1 (c.2 _)⟩)).2 h
structure cM(P:Uf)(ρ:aU G)(fr fr':Ut):Prop where
 fn:fr'.fn=fr.fn
 may:G.b fr.fn=Z
 tmps:bg ρ fr.tmps fr'.tmps
 todo:fr'.todo=fr.todo
 ok:rV G P fr.todo
 defers:iZ P ρ fr.defers fr'.defers
 mode:gz ρ fr.mode fr'.mode
 kind:fr'.kind=fr.kind
 kinds:fr.kind= .normal\/fr.kind= .deferred
 round:fr.roundOf=K
 round':fr'.roundOf=K
def fc (fr:Ut):Prop:=fr.mode= .run->∀d b f e c a,fr.todo= .inRegion d (b::f)::e->d[b]? =I c->c.op= .panic a->(∃g v,fr.eval a= .iface g v)\/fr.eval a=Vk
def pH (fr:Ut):Prop:=fr.mode= .run->∃c a f e b d,fr.todo= .inRegion c (a::f)::e/\c[a]? =I b/\b.op= .call d
def dM (P:Uf)(ρ:aU G)(e:List Ut)(g:List Ut):Prop:=∀a:List Ut->List Ut->Prop,(a [] [])->(∀{f b:Ut} {c d:List Ut} (h:cM P ρ f b) (j:pH f) (i:a c d),a (f::c) (b::d))->a e g
def dM.nil{P:Uf}{ρ:aU G}:dM P ρ [] []:=λb a c=>a
def dM.cons{P:Uf}{ρ:aU G}{f f':Ut}{l b:List Ut}(h:cM P ρ f f')(g:pH f)(e:dM P ρ l b):dM P ρ (f::l) (f'::b):=λc d a=>a h g (e c d a)
def dM.ind{P:Uf}{ρ:aU G}{d:∀(a:List Ut) (b:List Ut),dM P ρ a b->Prop}(nil:d _ _ (dM.nil))(cons:∀{f f':Ut} {l g:List Ut} (h:cM P ρ f f') (e:pH f) (c:dM P ρ l g),(d _ _ c)->d _ _ (dM.cons h e c)){a:List Ut}{b:List Ut}(h:dM P ρ a b):d a b h:=(h (λa b=>dM P ρ a b/\∀h,d a b h) (⟨dM.nil,λ_=>nil⟩) (λh e c=>⟨dM.cons h e c.1,λ_=>cons h e c.1 (c.2 _)⟩)).2 h
def cY:Ut->List Ut->Prop
 |fr,[]=>fr.kind= .normal
 |_,f::a=>cY f a
theorem cY.of{fr b:Ut}(h:b.kind=fr.kind):∀{l:List Ut},cY fr l->cY b l
 | [],a=>h.trans a
 |_::_,a=>a
section
variable {P:Uf}{ρ σ:aU G}
def lG.mono(a:ρ.le σ){t b:Target}(h:lG P ρ t b):lG P σ t b:=by
 cases h using lG.ind with
 |fn e h=>exact .fn (e.mono a) (h.mono a)
 |nil=>exact .nil
 |builtin c f t d h=>exact .builtin c f t d h
def xC.mono(a:ρ.le σ){t b:Wj}(h:xC P ρ t b):xC P σ t b:=⟨h.target.mono a,h.args.mono a⟩
def iZ.mono(b:ρ.le σ){t a:List Wj}(h:iZ P ρ t a):iZ P σ t a:=by
 induction h using iZ.ind with
 |nil=>exact .nil
 |cons h _ c=>exact .cons (h.mono b) c
def IY.mono(b:ρ.le σ){t a:Vr}(h:IY ρ t a):IY σ t a:=⟨h.v.mono b,h.r,h.g⟩
def iT.mono(b:ρ.le σ){t a:List Vr}(h:iT ρ t a):iT σ t a:=by
 induction h using iT.ind with
 |nil=>exact .nil
 |cons h _ c=>exact .cons (h.mono b) c
def iT.append{a a' b b':List Vr}(h:iT ρ a a')(c:iT ρ b b'):iT ρ (a++b) (a'++b'):=by
 induction h using iT.ind with
 |nil=>exact c
 |cons h _ d=>exact .cons h d
def gz.mono(b:ρ.le σ){t a:FrameMode}(h:gz ρ t a):gz σ t a:=by
 cases h using gz.ind with
 |run=>exact .run
 |returning=>exact .returning
 |panicking h=>exact .panicking (h.mono b)
def cM.mono(a:ρ.le σ){f f':Ut}(h:cM P ρ f f'):cM P σ f f':=
 ⟨h.fn,h.may,h.tmps.mono a,h.todo,h.ok,h.defers.mono a,h.mode.mono a,h.kind,h.kinds,h.round,h.round'⟩
def dM.mono(a:ρ.le σ){f f':List Ut}(h:dM P ρ f f'):dM P σ f f':=by
 induction h using dM.ind with
 |nil=>exact .nil
 |cons h b _ c=>exact .cons (h.mono a) b c
def mb:ax ρ Vk Vk:=.tuple Y (λb a=>by simp at a)
def bg.getD{x c:Array U}(h:bg ρ x c)(i:Nat):ax ρ (x.getD i Vk) (c.getD i Vk):=by
 rw[UD,UD];rcases h.get i with⟨a,b⟩|⟨v,e,a,b,d⟩
 ·rw[a,b];exact mb
 ·rw[a,b];exact d
def cM.eval{f f':Ut}(h:cM P ρ f f')(x:U6)(a:dx G x=Z):ax ρ (f.eval x) (f'.eval x):=by
 cases x with
 |tmp c=>exact h.tmps.getD c
 |const v=>exact qP 6 v a
 |global d=>cases a
 |func f=>exact .func (.func f a) Y (λb h=>by simp at h) Y (λb h=>by simp at h)
def Fa{x c:Array U}(h:bg ρ x c)(ops:Array Vu)(j:Nat):Vj ops x j=Vj ops c j:=by
 unfold Vj;cases(ops[j]?).bind (·.dst) with
 |none=>rfl
 |some e=>
  simp only[XR];rcases h.get e with⟨a,b⟩|⟨v,f,a,b,d⟩
  ·rw[a,b]
  ·rw[a,b];cases d using ax.ind<;>rfl
def Dc.todo{l:List WM}(h:Dc G P l):rV G P l:=by
 cases l with
 |nil=>trivial
 |cons b l=>exact⟨(h b (by simp)).1,λc a=>h c (by simp[a])⟩
def Dc.tail{i:WM}{l:List WM}(h:Dc G P (i::l)):Dc G P l:=λb a=>h b (by simp[a])
def Dc.cons{i:WM}{l:List WM}(b:bX G P i)(c:∀ops t,i≠.inRegion ops t)(h:Dc G P l):Dc G P (i::l):=λd a=>by
 rcases VM.1 a with rfl|a
 ·exact⟨b,c⟩
 ·exact h d a
theorem BY{id:Nat}:∀{l k:List WM},Dc G P l->Yh id l=I k->Dc G P k
 | [],k,_,a=>by simp[Yh] at a
 |i::l,k,c,a=>by
  have b:Dc G P l:=c.tail;cases i<;>simp only[Yh] at a<;>first
   |exact BY b a
   |(split at a
     ·cases a;exact b
     ·exact BY b a)
def AV{fr:Ut}(h:∀ops i rest k,fr.todo≠.inRegion ops (i::rest)::k):fc fr:=λ_ ops i rest k b c a=>absurd a (h ops i rest k)
def Rc{fr:Ut}{k:List WM}(h:Dc G P k):fc {fr with todo:=k}:=AV (λc b d e a=>by
 simp only at a;exact(h (.inRegion c (b::d)) (by rw[a];simp)).2 _ _ Y)
def iL{fr:Ut}(h:fr.mode≠.run):fc fr:=λa=>absurd a h
def Bx{fr:Ut}(h:fr.mode≠.run):pH fr:=λa=>absurd a h
end
end
section
variable {G:mj}{bu:Nat}
def cG (P:Uf)(gY fU:List Ut)(ρ:aU G)(t:Nat)(w':F)(q:Yt)(r:Yt):Prop:=∀d:Yt->Yt->Prop,(∀(o:Outcome) (p:F) (b:Array Vm) (f:Yt),d (.ended o p b) f)->(∀{n:UL} {a:F} {b:Array Vm} {f:Yt} (s:t<a.drawn),d (.go n a b) f)->(∀{c:aU G} {h:Nat} {e j:Ut} {aF k:List Ut} {a g:F} {b i:Array Vm} (y:cM P c e j) (z:fc e) (A:dM P c aF k) (C:eK c h a g) (x:Fr ρ c w' g) (v:∀l∈i,kr c l) (u:cY e aF) (B:a.drawn+h=t),d (.go (Ug e (aF++gY)) a b) (.go (Ug j (k++fU)) g i))->d q r
def cG.lost{P:Uf}{gY fU:List Ut}{ρ:aU G}{t:Nat}{w':F}(o:Outcome)(a:F)(es:Array Vm)(r:Yt):cG P gY fU ρ t w' (.ended o a es) r:=λc b d e=>b o a es r
def cG.over{P:Uf}{gY fU:List Ut}{ρ:aU G}{t:Nat}{w':F}{g:UL}{a:F}{es:Array Vm}{r:Yt}(h:t<a.drawn):cG P gY fU ρ t w' (.go g a es) r:=λc d b e=>b h
def cG.go{P:Uf}{gY fU:List Ut}{ρ:aU G}{t:Nat}{w':F}{σ:aU G}{b1:Nat}{fr fr':Ut}{aF tops':List Ut}{a w1':F}{es b:Array Vm}(h:cM P σ fr fr')(i:fc fr)(j:dM P σ aF tops')(l:eK σ b1 a w1')(g:Fr ρ σ w' w1')(f:∀e∈b,kr σ e)(d:cY fr aF)(k:a.drawn+b1=t):cG P gY fU ρ t w' (.go (Ug fr (aF++gY)) a es) (.go (Ug fr' (tops'++fU)) w1' b):=λn o p c=>c h i j l g f d k
def cG.ind{P:Uf}{gY fU:List Ut}{ρ:aU G}{t:Nat}{w':F}{d:∀(a:Yt) (b:Yt),cG P gY fU ρ t w' a b->Prop}(lost:∀(o:Outcome) (f:F) (es:Array Vm) (r:Yt),d (.ended o f es) r (cG.lost o f es r))(over:∀{g:UL} {c:F} {es:Array Vm} {r:Yt} (h:t<c.drawn),d (.go g c es) r (cG.over h))(go:∀{σ:aU G} {b1:Nat} {fr fr':Ut} {aF tops':List Ut} {c w1':F} {es u:Array Vm} (l:cM P σ fr fr') (n:fc fr) (p:dM P σ aF tops') (s:eK σ b1 c w1') (k:Fr ρ σ w' w1') (j:∀e∈u,kr σ e) (i:cY fr aF) (q:c.drawn+b1=t),d (.go (Ug fr (aF++gY)) c es) (.go (Ug fr' (tops'++fU)) w1' u) (cG.go l n p s k j i q)){a:Yt}{b:Yt}(h:cG P gY fU ρ t w' a b):d a b h:=(h (λa b=>cG P gY fU ρ t w' a b/\∀h,d a b h) (λo f es r=>⟨cG.lost o f es r,λ_=>lost o f es r⟩) (λh=>⟨cG.over h,λ_=>over h⟩) (λl n p s k j i q=>⟨cG.go l n p s k j i q,λ_=>go l n p s k j i q⟩)).2 h
def nE (G:mj)(P P':Uf):Prop:=∀f,G.b f=Z->∃a b,P.funcs[f]? =I a/\P'.funcs[f]? =I a/\a.body=I b/\cD G P b=Z
section
variable {P P':Uf}{ρ:aU G}{gY fU:List Ut}{w w':F}{m m':Bool}
def jh:∀e∈(#[]:Array Vm),kr ρ e:=λe a=>by simp at a
def Ly{ops:Array Vu}{k:List WM}(i:Dc G P k)(h:mH G P ops T7=Z)(fr:Ut):rV G P (.inRegion ops (UK ops.size)::k)/\fc {fr with todo:=.inRegion ops (UK ops.size)::k}:=by
 unfold mH at h;simp only[UB,if_false,Uw] at h;refine⟨⟨.inRegion _ _ h.1 h.2.1,i⟩,λ_ p j q l o r c f g=>?_⟩;simp only[Xj,XK] at c;obtain⟨⟨rfl,a⟩,-⟩:=c;have e:j=0:=by
  rw[List.range_eq_range'] at a;cases d:ops.size with
  |zero=>rw[d] at a;simp at a
  |succ n=>rw[d,List.range'_succ] at a;simp at a;omega
 have b:=h.2.2;unfold Io at b;rw[<-e,f] at b;simp only[g,qG] at b;cases b
def OM{ops:Array Vu}{k:List WM}(o:Dc G P k)(h:mH G P ops Z=Z)(l:List Nat)(fr:Ut):rV G P (.inRegion ops l::k)/\fc {fr with todo:=.inRegion ops l::k}:=by
 unfold mH at h;simp only[if_true,Uw] at h;have f:∀(b:Nat) (a:Vu),ops[b]? =I a->qG a.op=T7:=λb a c=>by
  have:=Uz.1 h.2 a (by
   have:=Ub.1 c;obtain⟨s,rfl⟩:=this;simp)
  simpa using this
 refine⟨⟨.inRegion _ _ h.1 ?_,o⟩,λ_ u b v t a x e i j=>?_⟩
 ·have:∀l,kN ops l=Z:=by
   intro l
   induction l with
   |nil=>rfl
   |cons q g p=>
    cases g with
    |nil=>rfl
    |cons d g=>
     simp only[kN,Uw];refine⟨?_,p⟩;unfold oB;cases n:ops[d]? with
     |none=>rfl
     |some a=>
      have:=f d a n;dsimp only;cases c:a.op<;>first|rfl|(rw[c] at this;simp[qG] at this)
  exact this l
 ·simp only[Xj,XK] at e;obtain⟨⟨rfl,r⟩,-⟩:=e;have:=f b a i;rw[j] at this;simp[qG] at this
def cM.NX{fr fr':Ut}(h:cM P ρ fr fr'){k:List WM}(a:rV G P k):cM P ρ {fr with todo:=k} {fr' with todo:=k}:=
 ⟨h.fn,h.may,h.tmps,rfl,a,h.defers,h.mode,h.kind,h.kinds,h.round,h.round'⟩
def IF{fr fr':Ut}{aF tops':List Ut}(b:cM P ρ fr fr')(e:dM P ρ aF tops')(f:eK ρ bu w w'){k:List WM}(d:rV G P k)(c:fc {fr with todo:=k})(a:cY fr aF):
 cG P gY fU ρ (w.drawn+bu) w' (.go (Ug {fr with todo:=k} (aF++gY)) w) (.go (Ug {fr' with todo:=k} (tops'++fU)) w'):=
 .go (b.NX d) c e f (Fr.refl _ _) jh (cY.of (by rfl) a) Y
def RK{fr fr':Ut}{aF tops':List Ut}(c:cM P ρ fr fr')(d:dM P ρ aF tops')(e:eK ρ bu w w'){k:List WM}(a:Dc G P k)(b:cY fr aF):
 cG P gY fU ρ (w.drawn+bu) w' (.go (Ug {fr with todo:=k} (aF++gY)) w) (.go (Ug {fr' with todo:=k} (tops'++fU)) w'):=IF c d e a.todo (Rc a) b
def Ez{fr fr':Ut}(b:cM P ρ fr fr')(c:fr.mode= .run):fr'.mode= .run:=by
 have:=b.mode;rw[c] at this;cases a:fr'.mode with
 |run=>rfl
 |returning=>rw[a] at this;cases this using gz.ind
 |panicking d=>rw[a] at this;cases this using gz.ind
def Mb(R:P'.follows .mixedOrders=P.follows .mixedOrders){fr fr':Ut}{aF tops':List Ut}(c:cM P ρ fr fr')(B:dM P ρ aF tops')(p:eK ρ bu w w')(d:fr.mode= .run)(S:∀ops i r k,fr.todo≠.inRegion ops (i::r)::k)(z:cY fr aF):
 cG P gY fU ρ (w.drawn+bu) w' (UM P m (Ug fr (aF++gY)) w) (UM P' m' (Ug fr' (tops'++fU)) w'):=by
 have h:=Ez c d;have g:=c.todo;have F:=c.ok;have D:=c.round;have H:=c.round';have I:cG P gY fU ρ (w.drawn+bu) w' (.go (Ug {fr with mode:=.returning} (aF++gY)) w) (.go (Ug {fr' with mode:=.returning} (tops'++fU)) w'):=
  .go ⟨c.fn,c.may,c.tmps,c.todo,c.ok,c.defers,.returning,c.kind,c.kinds,c.round,c.round'⟩ (iL (by simp)) B p (Fr.refl _ _) jh (cY.of (by rfl) z) Y
 cases b:fr.todo with
 |nil=>
  rw[b] at g;have j:UM P m (Ug fr (aF++gY)) w= .go (Ug {fr with mode:=.returning} (aF++gY)) w:=by simp[Ug,UM,UI,d,b,D]
  have o:UM P' m' (Ug fr' (tops'++fU)) w'= .go (Ug {fr' with mode:=.returning} (tops'++fU)) w':=by simp[Ug,UM,UI,h,g,H]
  rw[j,o];exact I
 |cons X k=>
  rw[b] at g F;obtain⟨O,l⟩:=F;have move:∀(t:List WM),Dc G P t->UM P m (Ug fr (aF++gY)) w= .go (Ug {fr with todo:=t} (aF++gY)) w->UM P' m' (Ug fr' (tops'++fU)) w'= .go (Ug {fr' with todo:=t} (tops'++fU)) w'->cG P gY fU ρ (w.drawn+bu) w' (UM P m (Ug fr (aF++gY)) w) (UM P' m' (Ug fr' (tops'++fU)) w'):=λt s j o=>by
   rw[j,o];exact RK c B p s z
  cases O using bX.ind with
  |inBlock i=>exact move k l (by simp[Ug,UM,UI,d,b]) (by simp[Ug,UM,UI,h,g])
  |inLoop n a=>exact move (.code n :: .inLoop n::k) (.cons (.code n a) (by simp) (.cons (.inLoop n a) (by simp) l)) (by simp[Ug,UM,UI,d,b]) (by simp[Ug,UM,UI,h,g])
  |inScope n a=>exact move k l (by simp[Ug,UM,UI,d,b]) (by simp[Ug,UM,UI,h,g])
  |inRegion ops todo a V=>
   cases todo with
   |nil=>exact move k l (by simp[Ug,UM,UI,d,b]) (by simp[Ug,UM,UI,h,g])
   |cons i r=>exact absurd b (S ops i r k)
  |code n a=>
   cases n with
   |skip=>exact move k l (by simp[Ug,UM,UI,d,b]) (by simp[Ug,UM,UI,h,g])
   |label T=>exact move k l (by simp[Ug,UM,UI,d,b]) (by simp[Ug,UM,UI,h,g])
   |seq e q=>
    simp only[cD,Uw] at a;exact move (.code e :: .code q::k) (.cons (.code e a.1) (by simp) (.cons (.code q a.2) (by simp) l)) (by simp[Ug,UM,UI,d,b]) (by simp[Ug,UM,UI,h,g])
   |block id e=>
    simp only[cD] at a;exact move (.code e :: .inBlock id::k) (.cons (.code e a) (by simp) (.cons (.inBlock id) (by simp) l)) (by simp[Ug,UM,UI,d,b]) (by simp[Ug,UM,UI,h,g])
   |loop e=>
    simp only[cD] at a;exact move (.code e :: .inLoop e::k) (.cons (.code e a) (by simp) (.cons (.inLoop e a) (by simp) l)) (by simp[Ug,UM,UI,d,b]) (by simp[Ug,UM,UI,h,g])
   |scope e=>
    simp only[cD] at a;exact move (.code e :: .inScope e::k) (.cons (.code e a) (by simp) (.cons (.inScope e a) (by simp) l)) (by simp[Ug,UM,UI,d,b]) (by simp[Ug,UM,UI,h,g])
   |ret=>
    have j:UM P m (Ug fr (aF++gY)) w= .go (Ug {fr with mode:=.returning} (aF++gY)) w:=by simp[Ug,UM,UI,d,b,D]
    have o:UM P' m' (Ug fr' (tops'++fU)) w'= .go (Ug {fr' with mode:=.returning} (tops'++fU)) w':=by simp[Ug,UM,UI,h,g,H]
    rw[j,o];exact I
   |exit id=>
    cases A:Yh id k with
    |some t=>exact move t (BY l A) (by simp[Ug,UM,UI,d,b,A]) (by simp[Ug,UM,UI,h,g,A])
    |none=>
     have j:∃x,UM P m (Ug fr (aF++gY)) w= .ended x w:=by simp[Ug,UM,UI,d,b,A,D]
     obtain⟨x,j⟩:=j;rw[j];exact .lost _ _ _ _
   |cond n e q=>
    simp only[cD,Uw] at a;have u:=c.eval n a.1.1;have Q:∀v,fr.eval n=v->(∀q,v≠.bool q)->∃x,UM P m (Ug fr (aF++gY)) w= .ended x w:=λv L u=>by
     cases v<;>first|exact absurd rfl (u _)|(simp[Ug,UM,UI,d,b,L])
    cases C:fr.eval n with
    |bool E=>
     rw[C] at u;have N:fr'.eval n= .bool E:=by
      cases M:fr'.eval n<;>rw[M] at u<;>cases u using ax.ind;rfl
     refine move (.code (if E then e else q)::k) (.cons (.code _ ?_) (by simp) l) (by simp[Ug,UM,UI,d,b,C]) (by simp[Ug,UM,UI,h,g,N]);cases E
     ·exact a.2
     ·exact a.1.2
    |_=>
     obtain⟨x,j⟩:=Q _ C (by simp);rw[j];exact .lost _ _ _ _
   |region id ops K=>
    simp only[cD] at a;cases K with
    |false=>
     obtain⟨y,s⟩:=Ly l a fr;have j:UM P m (Ug fr (aF++gY)) w= .go (Ug {fr with todo:=.inRegion ops (UK ops.size)::k} (aF++gY)) w:=by simp[Ug,UM,UI,d,b]
     have o:UM P' m' (Ug fr' (tops'++fU)) w'= .go (Ug {fr' with todo:=.inRegion ops (UK ops.size)::k} (tops'++fU)) w':=by simp[Ug,UM,UI,h,g]
     rw[j,o];exact IF c B p y s z
    |true=>
     obtain⟨y,s⟩:=OM l a (XZ (P.follows .mixedOrders) ops (w.tape w.drawn (.order fr.fn id))) fr;have j:UM P m (Ug fr (aF++gY)) w= .go (Ug {fr with todo:=.inRegion ops (XZ (P.follows .mixedOrders) ops (w.tape w.drawn (.order fr.fn id)))::k} (aF++gY)) {w with drawn:=w.drawn+1}:=by
      simp[Ug,UM,UI,d,b,choose,Wt,Question.forced,Question.cut]
     rw[j];cases bu with
     |zero=>exact .over (by simp)
     |succ bu=>
      have J:=p.tape 0 (.order fr.fn id) (by omega);simp only[Nat.add_zero] at J;have o:UM P' m' (Ug fr' (tops'++fU)) w'= .go (Ug {fr' with todo:=.inRegion ops (XZ (P.follows .mixedOrders) ops (w.tape w.drawn (.order fr.fn id)))::k} (tops'++fU)) {w' with drawn:=w'.drawn+1}:=by
       simp[Ug,UM,UI,h,g,choose,Wt,Question.forced,Question.cut,R,c.fn,J]
      rw[o];refine .go (b1:=bu) (c.NX y) s B ⟨p.gl,p.gr,p.at_,λi U W=>?_⟩ ⟨aU.le.refl _,rfl,rfl,rfl,by simp,T8 _,λ_ _ _=>rfl,λ_ _ a=>.inl a,λ_ y s=>absurd s (by simp;omega)⟩ jh (cY.of (by rfl) z) (by show w.drawn+1+bu=_;omega);have:=p.tape (1+i) U (by omega);simpa [Nat.add_assoc] using this
   |rangeFunc f Z e q=>simp[cD] at a
   |goto T=>simp[cD] at a
   |refuse aa=>simp[cD] at a
end
end
section
variable {G:mj}
section
variable {P P':Uf}{ρ:aU G}{gY fU:List Ut}{w w':F}{m m':Bool}
def iw{σ:aU G}{fr fr':Ut}(h:cM P σ fr fr'){ops:Array Vu}{i:Nat}{rest:List Nat}{k:List WM}(b:fr.todo= .inRegion ops (i::rest)::k){v e:U}(l:ax σ v e):cM P σ (fr.finish v) (fr'.finish e):=by
 have j:=h.todo.trans b;have a:=h.ok;rw[b] at a;have d:rV G P (.inRegion ops rest::k):=by
  refine⟨?_,a.2⟩;cases a.1 using bX.ind with
  |inRegion _ _ g c=>
   refine .inRegion _ _ g ?_;cases rest with
   |nil=>rfl
   |cons n o=>simp only[kN,Uw] at c;exact c.2
 unfold VW;rw[b,j];dsimp only;cases(ops[i]?).bind (·.dst) with
 |none=>exact⟨h.fn,h.may,h.tmps,rfl,d,h.defers,h.mode,h.kind,h.kinds,h.round,h.round'⟩
 |some f=>exact⟨h.fn,h.may,h.tmps.set l f,rfl,d,h.defers,h.mode,h.kind,h.kinds,h.round,h.round'⟩
def iv{fr fr':Ut}{σ:aU G}(h:cM P σ fr fr'){ops:Array Vu}{i:Nat}{rest:List Nat}{k:List WM}(l:fr.todo= .inRegion ops (i::rest)::k){o:Vu}(g:ops[i]? =I o)(v:U)(y:∀t x,o.op= .makeInterface t x->o.guard=K->∃t v1,v= .iface t v1):fc (fr.finish v):=by
 intro _ F C H D E x c q r;have j:=h.ok;rw[l] at j;unfold VW at c ⊢;rw[l] at c ⊢;simp only[Xj,XK] at c;obtain⟨⟨rfl,s⟩,rfl⟩:=c;cases j.1 using bX.ind with
 |inRegion _ _ B d=>
  rw[s] at d;simp only[kN,Uw] at d;have b:=d.1;unfold oB at b;rw[q] at b;dsimp only at b;rw[r] at b;dsimp only at b;rw[g] at b;simp only[Uw] at b;obtain⟨a,u⟩:=b;cases f:o.op with
  |makeInterface t A=>
   rw[f] at a;cases e:o.dst with
   |none=>rw[e] at a;cases x<;>cases a
   |some p=>
    rw[e] at a;cases x with
    |tmp J=>
     simp only[beq_iff_eq] at a;subst a;obtain⟨z,v1,rfl⟩:=y t A f (by simpa using u);simp only[g,XR,e,Frame.eval];by_cases n:p<fr.tmps.size
     ·refine .inl ⟨z,v1,?_⟩;rw[UD,Array.getElem?_setIfInBounds_self_of_lt n];rfl
     ·refine .inr ?_;rw[UD,Vl (by rw[Array.size_setIfInBounds];exact Nat.le_of_not_lt n)];rfl
    |_=>cases a
  |_=>rw[f] at a;cases x<;>cases a
def PW{σ:aU G}{fn:V1}{es:Array Vm}(h:∀e∈es,kr σ e):∀e∈seen P fn es,kr σ e:=λe a=>h e (Conc.mem_seen a)
def uK{σ:aU G}{fr fr':Ut}(h:cM P σ fr fr'){c b:List Vr}(hc:iT σ c b):cM P σ (fr.raise c) (fr'.raise b):=by
 have a:=h.mode;unfold Frame.raise;generalize e:fr.mode=g at a;generalize f:fr'.mode=i at a;cases a using gz.ind with
 |run=>exact⟨h.fn,h.may,h.tmps,h.todo,h.ok,h.defers,.panicking hc,h.kind,h.kinds,h.round,h.round'⟩
 |returning=>exact⟨h.fn,h.may,h.tmps,h.todo,h.ok,h.defers,.panicking hc,h.kind,h.kinds,h.round,h.round'⟩
 |panicking d=>exact⟨h.fn,h.may,h.tmps,h.todo,h.ok,h.defers,.panicking (hc.append d),h.kind,h.kinds,h.round,h.round'⟩
def raise_mode(fr:Ut)(c:List Vr):(fr.raise c).mode≠.run:=by
 unfold Frame.raise
 split<;>simp
def uu(j:nE G P P'){σ:aU G}{f:V1}(c:G.b f=Z){vs d:Array U}(h:bg σ vs d)(kd:CallKind)(k:kd= .normal\/kd= .deferred):cM P σ (UY P f vs kd) (UY P' f d kd)/\fc (UY P f vs kd):=by
 obtain⟨n,e,a,b,g,i⟩:=j f c;unfold UY;simp only[a,b,V3,V2,XR,g];refine⟨⟨rfl,c,?_,rfl,⟨.code e i,λp l=>by simp at l⟩,.nil,.run,rfl,k,rfl,rfl⟩,AV (by simp)⟩;rw[h.1];refine h.append ⟨by simp,λo a b=>?_⟩;simp only[Array.getElem_replicate];exact mb
end
end
section
variable {G:mj}{bu:Nat}
section
variable {P P':Uf}{ρ:aU G}{gY fU:List Ut}{w w':F}{m m':Bool}
def vS{σ:aU G}{fr fr':Ut}{aF tops':List Ut}(h:cM P σ fr fr')(y:dM P σ aF tops')(k:cY fr aF):
 (Xp fr (aF++gY)=K/\Xp fr' (tops'++fU)=K)\/∃v e t s,Xp fr (aF++gY)=I (v,t++gY)/\Xp fr' (tops'++fU)=I (e,s++fU)/\ax σ v e/\dM P σ t s/\cY fr t:=by
 rcases h.kinds with d|d
 ·have n:=h.kind.trans d;exact .inl ⟨by unfold Xp;rw[d],by unfold Xp;rw[n]⟩
 ·have n:=h.kind.trans d;cases y using dM.ind with
  |nil=>simp[cY,d] at k
  |cons b N u ihz=>
   rename_i f g r z;have a:=b.mode;unfold Xp;rw[d,n];simp only[Wd];cases j:f.mode with
   |run=>
    rw[j] at a;cases c:g.mode<;>rw[c] at a<;>first|exact .inl ⟨rfl,rfl⟩|cases a using gz.ind
   |returning=>
    rw[j] at a;cases c:g.mode<;>rw[c] at a<;>first|exact .inl ⟨rfl,rfl⟩|cases a using gz.ind
   |panicking J=>
    rw[j] at a;cases c:g.mode with
    |run=>rw[c] at a;cases a using gz.ind
    |returning=>rw[c] at a;cases a using gz.ind
    |panicking L=>
     rw[c] at a;cases a using gz.ind with
     |panicking l=>
      cases l using iT.ind with
      |nil=>exact .inl ⟨rfl,rfl⟩
      |cons x l ihz=>
       rename_i C D A B;obtain⟨v,E,i⟩:=C;obtain⟨e,O,M⟩:=D;obtain⟨o,q,p⟩:=x;simp only at o q p;subst q p;cases E with
       |true=>exact .inl ⟨by cases i<;>rfl,by cases i<;>rfl⟩
       |false=>
        cases i with
        |true=>exact .inl ⟨rfl,rfl⟩
        |false=>
         refine .inr ⟨v,e,{f with mode:=.panicking ({v,recovered:=Z}::A)}::r,{g with mode:=.panicking ({v:=e,recovered:=Z}::B)}::z,rfl,rfl,o,?_,?_⟩
         ·exact .cons ⟨b.fn,b.may,b.tmps,b.todo,b.ok,b.defers,.panicking (.cons ⟨o,rfl,rfl⟩ l),b.kind,b.kinds,b.round,b.round'⟩ (Bx (by simp)) u
         ·cases r with
          |nil=>exact k
          |cons F H=>exact k
def B2{fr:Ut}{fr':Ut}{σ:aU G}(h:cM P σ fr fr'){ops:Array Vu}{i:Nat}{rest:List Nat}{k:List WM}(e:fr.todo= .inRegion ops (i::rest)::k)(l:ops[i]? =K)(v:U):fc (fr.finish v):=by
 intro _ r o s p q t b f g;have d:=h.ok;rw[e] at d;unfold VW at b;rw[e] at b;simp only[Xj,XK] at b;obtain⟨⟨rfl,j⟩,rfl⟩:=b;cases d.1 using bX.ind with
 |inRegion _ _ n c=>
  rw[j] at c;simp only[kN,Uw] at c;have a:=c.1;unfold oB at a;rw[f] at a;dsimp only at a;rw[g] at a;dsimp only at a;rw[l] at a;cases a
def gu(fr:Ut)(v:U):(fr.finish v).kind=fr.kind:=by
 unfold VW
 split<;>rfl
def sq(fr:Ut)(c:List Vr):(fr.raise c).kind=fr.kind:=by
 unfold Frame.raise
 split<;>rfl
def Qf{fr:Ut}{ops:Array Vu}{i:Nat}{rest:List Nat}{k:List WM}(b:fr.todo= .inRegion ops (i::rest)::k){o:Vu}(a:ops[i]? =I o){c:Call}(hc:o.op= .call c):pH fr:=λ_=>⟨ops,i,rest,k,o,c,b,a,hc⟩
def FZ(L:Alike G P P'){e:U6->U}{o:Vu}(l:fP G P o.op=Z)(t:∀x,o.op= .nilCheck x->∀n a b,e x≠.func (.method n) a b){f:V1}{vs:Array U}{i:F}{es L9:Array Vm}(h:(UH e o).runT P w es=(.ok (.enter f vs) i,L9)):∃c,o.op= .call c:=by
 have d:(UH e o).run P w= .ok (.enter f vs) i:=by
  have:=Yd P (UH e o) w es;rw[h] at this;exact(Prod.mk.inj this).1.symm
 have y:∀(s:Wu U),((do pure (Next.value (<-s))):Wu Next).run P w= .ok (.enter f vs) i->False:=λs g=>by
  rw[WJ] at g;cases k:s.run P w<;>rw[k] at g<;>simp at g
 have z:∀(s:Wu Unit),((do s;pure Next.skip):Wu Next).run P w= .ok (.enter f vs) i->False:=λs g=>by
  rw[WJ] at g;cases k:s.run P w<;>rw[k] at g<;>simp at g
 unfold UH at d;cases j:o.op with
 |nilCheck x=>
  have p:=t x j;rw[j] at d;dsimp only at d;have q:(runtimePanic .nilDeref:Wu Next).run P w= .ok (.enter f vs) i->False:=λh=>by
   unfold runtimePanic at h;simp[program,Wt,goPanic] at h
  cases u:e x<;>rw[u] at d p<;>(try dsimp only at d)<;>first
   |exact(q d).elim
   |(simp at d;done)
   |(rename_i a;cases a<;>first|exact(q d).elim|(simp at d;done))
   |(rename_i r a b;cases r<;>first|(simp at d;done)|exact absurd Y (p _ _ _))
 |_=>
  rw[j] at d l;dsimp only at d
  first
  |exact⟨_,rfl⟩
  |(simp[fP] at l;done)
  |exact(y _ d).elim
  |exact(z _ d).elim
  |(simp at d;done)
  |(rw[WJ] at d;generalize Wt P _ w=v at d;cases v<;>simp at d
    done)
def pZ{e:U6->U}{o:Vu}{t:Uh}{x:U6}(f:o.op= .makeInterface t x){n:Next}{c:F}{es L9:Array Vm}(h:(UH e o).runT P w es=(.ok n c,L9)):∃t v1,n= .value (.iface t v1):=by
 have a:(UH e o).run P w= .ok n c:=by
  have:=Yd P (UH e o) w es;rw[h] at this;exact(Prod.mk.inj this).1.symm
 unfold UH at a;rw[f] at a;dsimp only at a;unfold Instr.makeInterface underlying at a;rw[WJ] at a;cases b:P.underlying t with
 |none=>simp[program,b,Wt,stuck] at a
 |some d=>cases d<;>simp[program,b,Wt,stuck] at a<;>exact⟨_,_,a.1.symm⟩
def fE{σ:aU G}{f:V1}{es:Array Vm}(h:∀e∈es,kr σ e):∀e∈seen P f es++#[],kr σ e:=λe a=>by
 rw[Array.append_empty] at a;exact PW h e a
def Rr(L:Alike G P P')(a4:nE G P P'){fr fr':Ut}{aF tops':List Ut}(d:cM P ρ fr fr')(a9:fc fr)(J:dM P ρ aF tops')(aa:eK ρ bu w w')(n:cY fr aF)(D:fr.mode= .run){ops:Array Vu}{i:Nat}{rest:List Nat}{k:List WM}(a:fr.todo= .inRegion ops (i::rest)::k):
 cG P gY fU ρ (w.drawn+bu) w' (UM P m (Ug fr (aF++gY)) w) (UM P' m' (Ug fr' (tops'++fU)) w'):=by
 have X:=Ez d D;have M:=d.todo.trans a;have W:=d.round;have ar:=d.round';have av:Vj ops fr.tmps=Vj ops fr'.tmps:=funext λbc=>Fa d.tmps ops bc;have aq:(fr.kind==CallKind.early)=T7:=by rcases d.kinds with H|H<;>rw[H]<;>rfl
 have ba:(fr'.kind==CallKind.early)=T7:=by rw[d.kind];exact aq
 cases e:ops[i]? with
 |none=>
  have A:UM P m (Ug fr (aF++gY)) w= .go (Ug (fr.finish Vk) (aF++gY)) w:=by simp[Ug,UM,UI,D,a,e]
  have B:UM P' m' (Ug fr' (tops'++fU)) w'= .go (Ug (fr'.finish Vk) (tops'++fU)) w':=by simp[Ug,UM,UI,X,M,e]
  rw[A,B];exact .go (iw d a mb) (B2 d a e _) J aa (Fr.refl _ _) jh (cY.of (gu _ _) n) Y
 |some l=>
  have I:fP G P l.op=Z:=by
   have C:=d.ok;rw[a] at C;cases C.1 using bX.ind with
   |inRegion _ _ c x=>
    obtain⟨bv,rfl⟩:=Ub.1 e;exact Uz.1 c _ (by simp)
  cases E:UF l (Vj ops fr.tmps) with
  |false=>
   have ab:UF l (Vj ops fr'.tmps)=T7:=by rw[<-av];exact E
   have A:UM P m (Ug fr (aF++gY)) w= .go (Ug (fr.finish Vk) (aF++gY)) w:=by simp[Ug,UM,UI,D,a,e,E]
   have B:UM P' m' (Ug fr' (tops'++fU)) w'= .go (Ug (fr'.finish Vk) (tops'++fU)) w':=by simp[Ug,UM,UI,X,M,e,ab]
   rw[A,B];exact .go (iw d a mb) (iv d a e _ (λz g _ a8=>by simp[UF,a8] at E)) J aa (Fr.refl _ _) jh (cY.of (gu _ _) n) Y
  |true=>
   have ab:UF l (Vj ops fr'.tmps)=Z:=by rw[<-av];exact E
   have A:UM P m (Ug fr (aF++gY)) w=VN P Z fr (aF++gY) K (UH fr.eval l) w:=by simp[Ug,UM,UI,stepG.oper,Frame.oper?,D,a,e,E,W]
   have B:UM P' m' (Ug fr' (tops'++fU)) w'=VN P' Z fr' (tops'++fU) K (UH fr'.eval l) w':=by simp[Ug,UM,UI,stepG.oper,Frame.oper?,X,M,e,ab,ar]
   rw[A,B];have U:=(RA (ρ:=ρ) L l I (λg p=>d.eval g p) (λg p=>a9 D ops i rest k l g a e p)).runs w w' #[] #[] bu aa jh (λam H=>by simp at H);generalize t:(UH fr.eval l).runT P w #[]=bm at U;generalize a5:(UH fr'.eval l).runT P' w' #[]=bo at U;unfold VN;simp only[if_true,t,a5,a,M,aq,ba,UB,if_false];cases U using fV.ind with
   |halt p r h q j V=>
    rename_i ae az g bl aw bj ao a0;cases p using lF.ind with
    |panic N=>
     rename_i v F;exact .go (fr:=fr.raise [{v,recovered:=T7}]) (fr':=fr'.raise [{v:=F,recovered:=T7}]) (uK (d.mono h.le) (.cons ⟨N,rfl,rfl⟩ .nil)) (iL (raise_mode _ _)) (J.mono h.le) r h (fE q) (cY.of (sq _ _) n) j
    |same _ u=>
     cases g with
     |stuck s=>exact .lost _ _ _ _
     |unsupported ad=>cases ad<;>first|exact .lost _ _ _ _|(simp[pO] at u;done)
     |_=>simp[pO] at u
   |ok T r h q j V=>
    rename_i ae az bd bx aw bj ao a0;have b:=d.mono h.le;have y:=J.mono h.le;cases T using iG.ind with
    |value N=>
     rename_i v F;exact .go (fr:=fr.finish v) (fr':=fr'.finish F) (iw b a N) (iv b a e _ (λz g o _=>by
      obtain⟨O,Q,c⟩:=pZ o t;cases c;exact⟨_,_,rfl⟩)) y r h (fE q) (cY.of (gu _ _) n) j
    |skip=>
     exact .go (fr:=fr.finish Vk) (fr':=fr'.finish Vk) (iw b a mb) (iv b a e _ (λz g o _=>by
      obtain⟨O,Q,c⟩:=pZ o t;cases c)) y r h (fE q) (cY.of (gu _ _) n) j
    |enter f a7 bb=>
     rename_i be bi;obtain⟨c,x⟩:=uu a4 a7 bb .normal (.inl rfl);obtain⟨bt,a6⟩:=FZ L I (λg p bd br bs am=>by
      have S:=d.eval g (by rw[p] at I;exact I);rw[am] at S;generalize fr'.eval g=b0 at S;cases S using ax.ind with
      |func h _ _ _ _=>cases h using nF.ind) t
     exact .go (fr:=UY P f be .normal) (fr':=UY P' f bi .normal) (aF:=fr::aF) (tops':=fr'::tops') c x (.cons b (Qf a e a6) y) r h (fE q) n j
    |defer u=>
     rename_i R al;have C:=b.ok;rw[a] at C;have ap:cM P ae {fr with defers:=R::fr.defers,todo:=.inRegion ops (i::rest)::k} {fr' with defers:=al::fr'.defers,todo:=.inRegion ops (i::rest)::k}:=⟨b.fn,b.may,b.tmps,rfl,C,.cons u b.defers,b.mode,b.kind,b.kinds,b.round,b.round'⟩;exact .go (fr:=VW {fr with defers:=R::fr.defers,todo:=.inRegion ops (i::rest)::k} Vk) (fr':=VW {fr' with defers:=al::fr'.defers,todo:=.inRegion ops (i::rest)::k} Vk) (iw ap Y mb) (iv ap Y e _ (λz g o _=>by
      obtain⟨O,Q,c⟩:=pZ o t;cases c)) y r h (fE q) (cY.of (gu {fr with defers:=R::fr.defers,todo:=.inRegion ops (i::rest)::k} Vk) (cY.of (fr:=fr) (by rfl) n)) j
    |recover=>
     simp only[W,ar];rcases vS (gY:=gY) (fU:=fU) b y n with⟨c,x⟩|⟨v,F,z,bB,c,x,a1,a2,a3⟩
     ·rw[c,x];exact .go (fr:=fr.finish .nilIface) (fr':=fr'.finish .nilIface) (iw b a .nilIface) (iv b a e _ (λz g o _=>by
       obtain⟨O,Q,c⟩:=pZ o t;cases c)) y r h (fE q) (cY.of (gu _ _) n) j
     ·rw[c,x];exact .go (fr:=fr.finish v) (fr':=fr'.finish F) (iw b a a1) (iv b a e _ (λz g o _=>by
       obtain⟨O,Q,c⟩:=pZ o t;cases c)) a2 r h (fE q) (cY.of (gu _ _) a3) j
   |od p j V=>
    rename_i ae g bl aw ao;cases p using lF.ind with
    |panic N=>exact .over j
    |same _ u=>
     cases g with
     |stuck s=>exact .lost _ _ _ _
     |unsupported ad=>cases ad<;>first|exact .lost _ _ _ _|(simp[pO] at u;done)
     |_=>simp[pO] at u
   |over T j V=>
    cases T using iG.ind with
    |recover=>
     simp only[W];cases Xp fr (aF++gY) with
     |none=>exact .over j
     |some bA=>exact .over j
    |_=>exact .over j
end
end
section
variable {G:mj}
section
variable {P P':Uf}{ρ:aU G}{gY fU:List Ut}{w w':F}{m m':Bool}
theorem Eo{α:Type}{g g':α->Wu U}:∀(l:List α) {ρ:aU G},(∀ σ,ρ.le σ->∀x∈l,an P P' ax σ (g x) (g' x))->an P P' ja ρ (l.mapM g) (l.mapM g')
 | [],ρ,a=>by rw[List.mapM_nil,List.mapM_nil];exact .aC .nil
 |x::l,ρ,a=>by
  rw[List.mapM_cons,List.mapM_cons];refine(a ρ (aU.le.refl _) x (by simp)).bindM (λσ j k f d=>?_);refine(Eo l (λc b i h=>a c (f.trans b) i (by simp[h]))).bindM (λc n o b e=>?_);exact .aC (.cons (d.mono b) e)
def A8(L:Alike G P P')(fn:WC){x g:Array U}(h:bg ρ x g):an P P' ax ρ (UX fn x) (UX fn g):=by
 unfold UX;refine an.bindM (A:=bg) ?_ (λi a j d b=>?_)
 ·rw[Array.mapM_eq_mapM_toList,Array.mapM_eq_mapM_toList];refine an.bind (A:=ja) (Eo _ (λi d n _=>?_)) (λi a j _ b=>.pure b.toArray);cases n with
  |tmp f=>exact .aC ((h.mono d).getD f)
  |cell a f=>
   have e:=(h.mono d).getD a;dsimp only;generalize x.getD a Vk=v at e;generalize g.getD a Vk=o at e;have k:an P P' cN i (asAddr v) (asAddr o):=by
    cases e using ax.ind with
    |ptr h=>exact .aC h
    |de=>exact eF L.S .nilDeref (by simp) (by simp) (by simp)
    |_=>exact an.stuck
   exact k.bindM (λp a j _ l=>A6 L.S f l)
 ·refine .aC ?_;by_cases c:a.size=1
  ·rw[dif_pos c,dif_pos (by rw[<-b.1];exact c)];exact b.2 0 _ _
  ·rw[dif_neg c,dif_neg (by rw[<-b.1];exact c)];exact .tuple b.1 b.2
def jT{fr:Ut}(h:pH fr):fc fr:=by
 intro i r k t n p v d e f;obtain⟨s,l,u,o,q,j,a,b,c⟩:=h i;rw[d] at a;simp only[Xj,XK] at a;obtain⟨⟨rfl,g,-⟩,-⟩:=a;subst g;rw[e] at b;cases b;rw[f] at c;cases c
def F3{σ:aU G}{fr fr':Ut}(h:cM P σ fr fr')(k:pH fr){v f:U}(r:ax σ v f):cM P σ (fr.finish v) (fr'.finish f)/\fc (fr.finish v):=by
 have c:=h.todo;have j:=h.ok;have e:(∀b,fr.finish b=fr)->(∀b,fr'.finish b=fr')->cM P σ (fr.finish v) (fr'.finish f)/\fc (fr.finish v):=λl n=>by
  rw[l,n];exact⟨h,jT k⟩
 cases a:fr.todo with
 |nil=>rw[a] at c;exact e (λb=>by unfold VW;rw[a]) (λb=>by unfold VW;rw[c])
 |cons A B=>
  rw[a] at c j;cases j.1 using bX.ind with
  |inRegion E s u x=>
   cases s with
   |nil=>exact e (λb=>by unfold VW;rw[a]) (λb=>by unfold VW;rw[c])
   |cons y H=>
    refine⟨iw h a r,?_⟩;by_cases i:fr.mode= .run
    ·obtain⟨F,z,I,C,D,t,d,o,p⟩:=k i;rw[a] at d;simp only[Xj,XK] at d;obtain⟨⟨rfl,q,-⟩,-⟩:=d;subst q;exact iv h a o v (λJ K g _=>by rw[p] at g;cases g)
    ·have:(fr.finish v).mode=fr.mode:=by
      unfold VW;rw[a]
     exact iL (by rw[this];exact i)
  |_=>exact e (λb=>by unfold VW;rw[a]) (λb=>by unfold VW;rw[c])
def L4{σ:aU G}{c a:List Vr}(h:iT σ c a):iT σ (c.dropWhile (!·.goexit)) (a.dropWhile (!·.goexit)):=by
 induction h using iT.ind with
 |nil=>exact .nil
 |cons b d e=>
  simp only[List.dropWhile_cons,b.g]
  split
  ·exact e
  ·exact .cons b d
def fM (c:Ut):Ut:=match c.mode with
 | .panicking ({recovered:=Z,..}::a)=>
  match a.dropWhile (!·.goexit) with
  | []=>{c with mode:=.returning}
  |rest=>{c with mode:=.panicking rest}
 |_=>c
def IZ{σ:aU G}{f f':Ut}(h:cM P σ f f')(b:pH f):cM P σ (fM f) (fM f')/\fc (fM f)/\(fM f).kind=f.kind:=by
 have g:=h.mode;have l:∀{c d:FrameMode},gz σ c d->cM P σ {f with mode:=c} {f' with mode:=d}:=λn=>⟨h.fn,h.may,h.tmps,h.todo,h.ok,h.defers,n,h.kind,h.kinds,h.round,h.round'⟩;unfold fM;generalize y:f.mode=C at g;generalize z:f'.mode=D at g;cases g using gz.ind with
 |run=>exact⟨h,jT b,rfl⟩
 |returning=>exact⟨h,jT b,rfl⟩
 |panicking a=>
  cases a using iT.ind with
  |nil=>exact⟨h,jT b,rfl⟩
  |cons i a ihz=>
   rename_i r s p q;obtain⟨v,t,u⟩:=r;obtain⟨B,A,x⟩:=s;obtain⟨o,k,j⟩:=i;simp only at o k j;subst k j;cases t with
   |false=>exact⟨h,jT b,rfl⟩
   |true=>
    dsimp only;have e:=L4 a;generalize p.dropWhile (!·.goexit)=c at e;generalize q.dropWhile (!·.goexit)=d at e;cases e using iT.ind with
    |nil=>exact⟨l .returning,iL (by simp),rfl⟩
    |cons i a=>exact⟨l (.panicking (.cons i a)),iL (by simp),rfl⟩
end
end
section
variable {G:mj}{bu:Nat}
section
variable {P P':Uf}{ρ:aU G}{gY fU:List Ut}{w w':F}{m m':Bool}
def Ps{a a':FrameMode}(h:gz ρ a a')(b:a≠.run):a'≠.run:=by
 cases h using gz.ind with
 |run=>exact absurd Y b
 |returning=>simp
 |panicking h=>simp
def BV(L:Alike G P P')(ad:nE G P P'){fr fr':Ut}{aF tops':List Ut}(B:cM P ρ fr fr')(R:dM P ρ aF tops')(aq:eK ρ bu w w')(o:cY fr aF)(C:fr.mode≠.run){d r:Wj}(p:xC P ρ d r):
 cG P gY fU ρ (w.drawn+bu) w' (callDeferred P fr (aF++gY) K d w) (callDeferred P' fr' (tops'++fU) K r w'):=by
 have hR:=(Em (ρ:=ρ) L p.target p.args).runs w w' #[] #[] bu aq jh (λl Z=>by simp at Z);obtain⟨J,V⟩:=d;obtain⟨M,W⟩:=r;have n:=p.target;have a:=B.mode;simp only at n hR;by_cases q:J= .nil/\∃e,fr.mode= .panicking e
 ·obtain⟨rfl,e,z⟩:=q;unfold callDeferred;rw[if_pos ?hP]
  case hP=>simp[z]
  exact .lost _ _ _ _
 ·have al:¬(M= .nil/\∃e,fr'.mode= .panicking e):=by
   rintro⟨rfl,e,z⟩;rw[z] at a;cases n using lG.ind;generalize fr.mode=k at a q;cases a using gz.ind;exact q ⟨rfl,_,rfl⟩
  unfold callDeferred;rw[if_neg ?hL,if_neg ?hR]
  case hL=>
   intro l;apply q;cases J<;>cases E:fr.mode<;>simp[E] at l ⊢
  case hR=>
   intro l;apply al;cases M<;>cases E:fr'.mode<;>simp[E] at l ⊢
  dsimp only;generalize (invoke J V).runT P w #[]=a1 at hR;generalize (invoke M W).runT P' w' #[]=a2 at hR;cases hR using fV.ind with
  |halt I i c g b D=>
   rename_i U Y O a0 N T t Q;cases I using lF.ind with
   |panic H=>
    rename_i v S;exact .go (fr:=fr.raise [{v,recovered:=T7}]) (fr':=fr'.raise [{v:=S,recovered:=T7}]) (uK (B.mono c.le) (.cons ⟨H,rfl,rfl⟩ .nil)) (iL (raise_mode _ _)) (R.mono c.le) i c (fE g) (cY.of (sq _ _) o) b
   |same _ A=>
    cases O with
    |stuck s=>exact .lost _ _ _ _
    |unsupported av=>exact .lost _ _ _ _
    |_=>simp[pO] at A
  |ok y i c g b D=>
   rename_i U Y a4 a5 N T t Q;have h:=B.mono c.le;have F:=R.mono c.le;have j:cG P gY fU ρ (w.drawn+bu) w' (WQ (seen P fr.fn t) (.go (Ug fr (aF++gY)) N)) (WQ (seen P' fr'.fn Q) (.go (Ug fr' (tops'++fU)) T)):=.go h (iL C) F i c (fE g) o b;cases y using iG.ind with
   |value H=>exact j
   |skip=>exact j
   |defer p=>exact j
   |enter f ae ap=>
    rename_i aw az;obtain⟨n,a⟩:=uu ad ae ap .deferred (.inr rfl);exact .go (fr:=UY P f aw .deferred) (fr':=UY P' f az .deferred) (aF:=fr::aF) (tops':=fr'::tops') n a (.cons h (Bx C) F) i c (fE g) o b
   |recover=>
    have a:=h.mode;rcases vS (gY:=gY) (fU:=fU) h F o with⟨u,x⟩|⟨v,S,a6,a7,u,x,a3,aa,ab⟩
    ·dsimp only;rw[u,x];generalize am:fr.mode=k at a;generalize ao:fr'.mode=X at a;cases a using gz.ind<;>exact j
    ·dsimp only;rw[u,x];generalize am:fr.mode=k at a;generalize ao:fr'.mode=X at a;cases a using gz.ind with
     |returning=>exact .go h (iL C) aa i c (fE g) ab b
     |_=>exact j
  |od I b D=>
   rename_i U O a0 N t;cases I using lF.ind with
   |panic H=>exact .over b
   |same _ A=>
    cases O with
    |stuck s=>exact .lost _ _ _ _
    |unsupported av=>exact .lost _ _ _ _
    |_=>simp[pO] at A
  |over y b D=>
   cases y using iG.ind with
   |recover=>
    dsimp only;generalize fr.mode=k;generalize Xp fr (aF++gY)=ar;cases k<;>cases ar<;>exact .over b
   |_=>exact .over b
def Hf(L:Alike G P P')(A:nE G P P'){fr fr':Ut}{aF tops':List Ut}(a:cM P ρ fr fr')(H:dM P ρ aF tops')(s:eK ρ bu w w')(h:cY fr aF)(i:fr.mode≠.run)(ao:aF=[]->fr.defers≠[]):
 cG P gY fU ρ (w.drawn+bu) w' (UM P m (Ug fr (aF++gY)) w) (UM P' m' (Ug fr' (tops'++fU)) w'):=by
 have am:=Ps a.mode i;have W:UM P m (Ug fr (aF++gY)) w=Yi P m fr (aF++gY) K w:=by
  cases b:fr.mode<;>first|exact absurd b i|simp[Ug,UM,b]
 have X:UM P' m' (Ug fr' (tops'++fU)) w'=Yi P' m' fr' (tops'++fU) K w':=by
  cases b:fr'.mode<;>first|exact absurd b am|simp[Ug,UM,b]
 rw[W,X];unfold Yi;have o:=a.defers;generalize ab:fr.defers=a5 at o;generalize a8:fr'.defers=a6 at o;cases o using iZ.ind with
 |cons D g ihz=>
  rename_i U V M N;have al:cM P ρ {fr with defers:=M} {fr' with defers:=N}:=⟨a.fn,a.may,a.tmps,a.todo,a.ok,g,a.mode,a.kind,a.kinds,a.round,a.round'⟩;have aq:=BV (gY:=gY) (fU:=fU) L A al H s (cY.of (fr:=fr) (by rfl) h) i D;obtain⟨bc,a0⟩:=U;obtain⟨bd,a1⟩:=V;have I:=D.target;simp only at I;cases I using lG.ind<;>exact aq
 |nil=>
  cases H using dM.ind with
  |nil=>exact absurd ab (ao Y)
  |cons E J g ihz=>
   rename_i f y M N;obtain⟨j,a4,B,C,ba,bb⟩:=A fr.fn a.may;have q:=a.mode;dsimp only;generalize ad:fr.mode=a2 at q;generalize a9:fr'.mode=a3 at q;cases q using gz.ind with
   |run=>exact absurd ad i
   |panicking ae=>
    have S:fr.catches P=T7:=by unfold Frame.catches;rw[B]
    have T:fr'.catches P'=T7:=by unfold Frame.catches;rw[a.fn,C]
    simp only[S,T,UB,if_false,Wd];exact .go (fr:=f.raise _) (fr':=y.raise _) (uK E ae) (iL (raise_mode _ _)) g s (Fr.refl _ _) jh (cY.of (sq _ _) h) Y
   |returning=>
    dsimp only;rw[a.fn,B,C];dsimp only;have n:=(A8 (ρ:=ρ) L j a.tmps).runs w w' #[] #[] bu s jh (λa7 b=>by simp at b);generalize (UX j fr.tmps).runT P w #[]=aw at n;generalize (UX j fr'.tmps).runT P' w' #[]=az at n;cases n using fV.ind with
    |halt ap t c p e r=>
     rename_i Q R u av O ar x Z;cases u<;>exact .lost _ _ _ _
    |od ap e r=>
     rename_i Q u av O x;cases u<;>exact .lost _ _ _ _
    |over z e r=>
     dsimp only;unfold WZ;simp only[Wd];rcases a.kinds with d|d<;>rw[d]<;>exact .over e
    |ok z t c p e r=>
     rename_i Q R v be O ar x Z;have F:=E.mono c.le;dsimp only;unfold WZ;simp only[Wd];rcases a.kinds with d|d
     ·rw[a.kind,d];obtain⟨k,l⟩:=F3 F J z;exact .go k l (g.mono c.le) t c (fE p) (cY.of (gu _ _) h) e
     ·rw[a.kind,d];obtain⟨k,l,aa⟩:=IZ F J;exact .go (fr:=fM f) (fr':=fM y) k l (g.mono c.le) t c (fE p) (cY.of aa h) e
def NR(L:Alike G P P')(j:nE G P P')(p:P'.follows .mixedOrders=P.follows .mixedOrders){fr fr':Ut}{aF tops':List Ut}(g:cM P ρ fr fr')(o:fc fr)(h:dM P ρ aF tops')(i:eK ρ bu w w')(f:cY fr aF)(q:aF=[]->fr.mode≠.run->fr.defers≠[]):
 cG P gY fU ρ (w.drawn+bu) w' (UM P m (Ug fr (aF++gY)) w) (UM P' m' (Ug fr' (tops'++fU)) w'):=by
 by_cases a:fr.mode= .run
 ·by_cases k:∃d b e c,fr.todo= .inRegion d (b::e)::c
  ·obtain⟨d,b,e,c,r⟩:=k;exact Rr L j g o h i f a r
  ·exact Mb p g h i a (λd b e c l=>k ⟨d,b,e,c,l⟩) f
 ·exact Hf L j g h i f a (λn=>q n a)
end
end
end Rl
namespace Cc
open Go Go.Conc
open Rl (mj aU nE cM dM fc eK Fr kr dK cG ax bg)
def pI (P0 P:Uf)(S:Nat->Prop)(c:Nat)(own:Nat->Prop)(vs:List U)(g:UL)(w:F):Prop:=∃a,Wk P0 P S c a own vs g w
section
variable {P0 P:Uf}{S:Nat->Prop}{c:Nat}{own:Nat->Prop}{vs:List U}{g:UL}{w:F}
def tM(j:g.status= .running)(h:∀a,RelB (λb=>S b\/own b) w a->∃g' w' es,UM P T7 g a= .go g' w' es/\mo P0 S own a w' es/\pI P0 P S c (cU own a w') vs g' w'):pI P0 P S c own vs g w:=by
 classical
 let f:F->Tr:=λa=>if d:RelB (λb=>S b\/own b) w a then Vq (Uv (Uv (Uv (h a d)))).2.2 else .fin
 refine⟨.mk f,wu.2 ⟨j,.inl λa d=>?_⟩⟩;have e:=Uv (Uv (Uv (h a d)));have i:f a=Vq (Uv (Uv (Uv (h a d)))).2.2:=by
  show(if d:RelB (λb=>S b\/own b) w a then _ else _)=_;rw[dif_pos d]
 exact⟨_,_,_,e.1,e.2.1,Wk.cast i (Uv e.2.2)⟩
def Ob{v:U}{l:List U}{g2:UL}{z:U}(i:g.status= .running)(h:∀a,RelB (λb=>S b\/own b) w a->UM P T7 g a= .comm g2 #[scase c v z] Z .send a #[]/\pI P0 P S c own l (Wi g2 Vk) a):pI P0 P S c own (v::l) g w:=by
 classical
 let f:F->Tr:=λa=>if d:RelB (λb=>S b\/own b) w a then Vq (h a d).2 else .fin
 refine⟨.mk f,wu.2 ⟨i,.inr (.inl ⟨v,l,g2,z,rfl,λa d=>⟨(h a d).1,?_⟩⟩)⟩⟩;have e:f a=Vq (h a d).2:=by
  show(if d:RelB (λb=>S b\/own b) w a then _ else _)=_;rw[dif_pos d]
 exact Wk.cast e (Uv (h a d).2)
def KY{g':UL}{n:Nat}(j:g.status= .running)(i:QuitsIn P n g')(f:mayWake P g=Z)(h:∀a,RelB (λb=>S b\/own b) w a->∀cap d s r e,a.heap[c]? =I (.chan cap d T7 s r e)->UM P T7 g a= .go g' (a.setChan c cap d Z s r e) #[⟨.obj c,T7,Z⟩,⟨.obj c,Z,Z⟩]):pI P0 P S c own [] g w:=
 ⟨.mk λ_=>.fin,wu.2 ⟨j,.inr (.inr ⟨rfl,g',n,i,f,h⟩)⟩⟩
def pI.rely{a:F}(h:pI P0 P S c own vs g w)(d:RelB (λb=>S b\/own b) w a):pI P0 P S c own vs g a:=by
 obtain⟨e,h⟩:=h;exact⟨e,h.rely d⟩
def KZ{g':UL}{es:Array Vm}(l:g.status= .running)(h:∀a,RelB (λb=>S b\/own b) w a->UM P T7 g a= .go g' a es)(j:∀e∈es,EvW S own e)(k:∀a,RelB (λb=>S b\/own b) w a->pI P0 P S c own vs g' a):pI P0 P S c own vs g w:=by
 refine tM l λa f=>⟨g',a,es,h a f,⟨λ_ _ _=>rfl,T8 _,rfl,rfl,rfl,λn=>n,λe i=>?_⟩,?_⟩
 ·have:=j e i;unfold EvW at this ⊢;cases d:e.loc with
  |cell o=>rw[d] at this;exact this.imp (λh=>.inl h) (λh=>h)
  |obj p=>rw[d] at this;exact this.imp (λh=>.inl h) (λh=>h)
  |mark m=>rw[d] at this;exact this
  |_=>trivial
 ·have e:cU own a a=own:=by
   funext b;unfold cU;apply propext;constructor
   ·rintro(h|h)
    ·exact h
    ·omega
   ·exact .inl
  rw[e];exact k a f
end
section
variable {P0 P:Uf}{S:Nat->Prop}{c:Nat}{vs:List U}{fU:List Ut}{Gc:mj}
def NQ{gY fU:List Ut}{ρ:aU Gc}{t:Nat}{w':F}{f i:Yt}(h:cG P gY fU ρ t w' f i){a:Ut}{b:List Ut}{d:F}{m:Array Vm}(e:f= .go (Ug a (b++gY)) d m)(x:d.drawn<=t):
 ∃(σ:aU Gc) (b1:Nat) (fr':Ut) (tops':List Ut) (w1':F) (j:Array Vm),i= .go (Ug fr' (tops'++fU)) w1' j/\cM P σ a fr'/\fc a/\dM P σ b tops'/\eK σ b1 d w1'/\Fr ρ σ w' w1'/\(∀e∈j,kr σ e)/\Rl.cY a b:=by
 cases h using cG.ind with
 |lost z B v A=>cases e
 |over h=>
  cases e;omega
 |go q r s u p o n y=>
  simp only[Ug,GStep.go.injEq,YG] at e;obtain⟨⟨rfl,k,-⟩,rfl,rfl⟩:=e;have l:=List.append_cancel_right k;subst l;exact⟨_,_,_,_,_,_,rfl,q,r,s,u,p,o,n⟩
def Ig{ρ σ:aU Gc}{b1:Nat}{s h w':F}{own:Nat->Prop}{es:Array Vm}(r:eK σ b1 s w')(d:Fr ρ σ h w')(p:∀e∈es,kr σ e)(l:∀b b',ρ.f b=I b'->own b'):mo P0 S own h w' es/\∀b b',σ.f b=I b'->cU own h w' b':=by
 have j:∀b b',σ.f b=I b'->cU own h w' b':=λb b' a=>by
  rcases d.fresh b b' a with f|f
  ·exact .inl (l b b' f)
  ·obtain⟨u,v,_,o,_⟩:=r.at_ b b' a;exact .inr ⟨f,(Ub.1 o).1⟩
 refine⟨⟨λb a q=>d.keep b (λk e=>?_) a,d.size,d.tape,d.os,d.output,λ_=>trivial,λe n=>?_⟩,j⟩
 ·rcases d.fresh k b e with f|f
  ·exact q (l k b f)
  ·omega
 ·have:=p e n;unfold kr at this;unfold EvW;cases i:e.loc with
  |cell t=>rw[i] at this;obtain⟨b,a⟩:=this;exact .inl (j _ _ a)
  |obj x=>rw[i] at this;obtain⟨b,a⟩:=this;exact .inl (j _ _ a)
  |mark m=>
   rw[i] at this;cases m<;>first|exact this.elim|exact rfl
  |_=>trivial
def Nj{σ:aU Gc}{h w a:F}{own:Nat->Prop}(d:eK σ 0 h w)(m:∀b b',σ.f b=I b'->own b')(f:RelB (λb=>S b\/own b) w a)(i:Nat):eK σ i (sh a.tape a.drawn h) a:=
 ⟨d.gl,Uy d.gr f.size,λb b' e=>by
  obtain⟨n,o,j,k,l⟩:=d.at_ b b' e;exact⟨n,o,j,(f.at_ b' (.inr (m b b' e))).trans k,l⟩,λp q _=>rfl⟩
def eK.zero{σ:aU Gc}{b:Nat}{a w:F}(h:eK σ b a w):eK σ 0 a w:=⟨h.gl,h.gr,h.at_,λe f d=>by omega⟩
structure Hv(S own:Nat->Prop)(w:F):Prop where
 sh:∀b,S b->b<w.heap.size/\¬own b
 bd:∀b,own b->b<w.heap.size
def Hv.step{own:Nat->Prop}{w f w':F}{es:Array Vm}(h:Hv S own w)(d:RelB (λb=>S b\/own b) w f)(e:mo P0 S own f w' es):Hv S (cU own f w') w'/\RelB S w w':=
 ⟨⟨λb a=>⟨Ud (h.sh b a).1 (Uy d.size e.size),λi=>i.elim (h.sh b a).2 λi=>by have:=(h.sh b a).1;have:=d.size;omega⟩,λb a=>a.elim (λa=>Ud (h.bd b a) (Uy d.size e.size)) (λa=>a.2)⟩,
  λb a=>(e.keep b (Ud (h.sh b a).1 d.size) (h.sh b a).2).trans (d.at_ b (.inl a)),Uy d.size e.size,e.tape.trans d.tape,e.os.trans d.os,e.output.trans d.output⟩
def Hr(L:Rl.Alike Gc P P)(J:nE Gc P P){Stop:Ut->List Ut->F->Prop}{fr:Ut}{aF:List Ut}{a e:F}(h:Fin P0 P Stop fr aF a e)(w0:F):
 ∀{σ:aU Gc} {fr':Ut} {tops':List Ut} {own:Nat->Prop} {w:F},e.heap=a.heap->cM P σ fr fr'->fc fr->dM P σ aF tops'->Rl.cY fr aF->eK σ 0 e w->(∀b b',σ.f b=I b'->own b')->Hp (bn P0) a->Hv S own w->RelB S w0 w->
  (∀(σ:aU Gc) fr aF a fr' tops' own w,Stop fr aF a->cM P σ fr fr'->dM P σ aF tops'->eK σ 0 a w->(∀b b',σ.f b=I b'->own b')->Hp (bn P0) a->Hv S own w->RelB S w0 w->pI P0 P S c own vs (Ug fr' (tops'++fU)) w)->
  pI P0 P S c own vs (Ug fr' (tops'++fU)) w:=by
 intro σ fr' tops' own w;refine h (λfr aF a e=>∀{σ:aU Gc} {fr':Ut} {tops':List Ut} {own:Nat->Prop} {w:F},e.heap=a.heap->cM P σ fr fr'->fc fr->dM P σ aF tops'->Rl.cY fr aF->eK σ 0 e w->(∀b b',σ.f b=I b'->own b')->Hp (bn P0) a->Hv S own w->RelB S w0 w->
  (∀(σ:aU Gc) fr aF a fr' tops' own w,Stop fr aF a->cM P σ fr fr'->dM P σ aF tops'->eK σ 0 a w->(∀b b',σ.f b=I b'->own b')->Hp (bn P0) a->Hv S own w->RelB S w0 w->pI P0 P S c own vs (Ug fr' (tops'++fU)) w)->
  pI P0 P S c own vs (Ug fr' (tops'++fU)) w) ?_ ?_
 ·intro fr aF a e O σ fr' tops' own w k o t p i f j u n l m;exact m σ _ _ _ _ _ _ _ O o p ⟨by rw[<-k];exact f.gl,f.gr,λb b' i=>by rw[<-k];exact f.at_ b b' i,λab ae aa=>by omega⟩ j u n l
 ·intro fr aF a e q z T V ad U R σ fr' tops' own w k o t p i f j u n l m;refine tM Y λd v=>?_;have M:=Nj (S:=S) f j v (q d.tape d.drawn).2.2.2.1.drawn;have Q:=Rl.NR (m:=T7) (m':=T7) (gY:=[]) (fU:=fU) L J Y o t p M i (λx=>((U x).1));obtain⟨ao,W,Z,al,am,X,y,B,C,D,r,E,G,H⟩:=NQ Q (z d.tape d.drawn T7 []) (by
   show(q d.tape d.drawn).2.2.2.1.drawn<=d.drawn+(q d.tape d.drawn).2.2.2.1.drawn;omega)
  obtain⟨s,N⟩:=Ig (P0:=P0) (S:=S) r E G j;obtain⟨K,A⟩:=n.step v s;exact⟨_,_,_,y,s,R d.tape d.drawn (Qa (V d.tape d.drawn).1 k) B C D H (eK.zero r) N (T d.tape d.drawn).hp K (l.trans A) m⟩
end
section
variable {P0 P:Uf}{S:Nat->Prop}{c:Nat}{vs:List U}{fU:List Ut}{Gc:mj}
def Qg(L:Rl.Alike Gc P P){σ:aU Gc}{fr fr' g:Ut}{e w:F}{own:Nat->Prop}{fn:WC}{v:U}(i:cM P σ fr fr')(T:fr.mode= .returning)(M:fr.defers=[])(R:fr.kind= .normal)(O:P.funcs[fr.fn]? =I fn)
 (W:∀D d,(UX fn fr.tmps).run P (sh D d e)= .ok v (sh D d e)) (X:eK σ 0 e w) (B:∀b b',σ.f b=I b'->own b')
 (H:∀(k:aU Gc) m own' w',ax k v m->eK k 0 e w'->(∀b b',k.f b=I b'->own' b')->Hv S own' w'->RelB S w w'->pI P0 P S c own' vs (Ug (g.finish m) fU) w') (x:Hv S own w):pI P0 P S c own vs (Ug fr' (g::fU)) w:=by
 refine tM Y λa r=>?_;have J:=Nj (S:=S) X B r 0;have o:=(Rl.A8 (ρ:=σ) L fn i.tmps).runs (sh a.tape a.drawn e) a #[] #[] 0 J Rl.jh (λt n=>by simp at n);have A:fr'.mode= .returning:=by
  have:=i.mode;rw[T] at this;cases h:fr'.mode with
  |returning=>rfl
  |run=>rw[h] at this;cases this using Rl.gz.ind
  |panicking Z=>rw[h] at this;cases this using Rl.gz.ind
 have N:fr'.defers=[]:=by
  have:=i.defers;rw[M] at this;cases h:fr'.defers with
  |nil=>rfl
  |cons E Z=>rw[h] at this;cases this using Rl.iZ.ind
 have f:((UX fn fr.tmps).runT P (sh a.tape a.drawn e) #[]).1= .ok v (sh a.tape a.drawn e):=by rw[Yd];exact W _ _
 have C:UM P T7 (Ug fr' (g::fU)) a=WQ (seen P fr'.fn ((UX fn fr'.tmps).runT P a #[]).2) (match ((UX fn fr'.tmps).runT P a #[]).1 with
  | .ok v w=>WZ P T7 fr' (g::fU) K v w
  | .halt (.stuck s) w=>.ended (.stuck s (fr'.pos P)) w
  | .halt _ w=>.ended (.stuck "return: the result variables cannot be read" (fr'.pos P)) w):=by
  have G:UM P T7 (Ug fr' (g::fU)) a=Yi P T7 fr' (g::fU) K a:=by simp[Ug,UM,A]
  rw[G];unfold Yi;rw[N];simp only[A,i.fn,O];rfl
 generalize ao:(UX fn fr.tmps).runT P (sh a.tape a.drawn e) #[]=ab at o f;generalize ap:(UX fn fr'.tmps).runT P a #[]=ad at o C;cases o using Rl.fV.ind with
 |halt h j z y l q=>cases f
 |od h l q=>cases f
 |over u l q=>
  simp only[Result.ok.injEq] at f;obtain⟨-,rfl⟩:=f;simp[sh] at l
 |ok u j z y l q=>
  rename_i k ae E m av aa al am;simp only[Result.ok.injEq] at f;obtain⟨rfl,rfl⟩:=f;obtain⟨p,V⟩:=Ig (P0:=P0) (S:=S) j z (λt n=>Rl.fE (P:=P) (f:=fr'.fn) y t n) B;refine⟨_,_,_,?_,p,H k m _ aa u ⟨j.gl,j.gr,j.at_,λaq ar Q=>absurd Q (by omega)⟩ V (x.step r p).1 (x.step r p).2⟩;rw[C];simp only[WZ,i.kind,R];rfl
def QE (Gc:mj):aU Gc:=⟨λ_=>K,λb d c a=>(by cases a),λb d a=>(by cases a)⟩
def Bw (g:Nat)(os:Os):F:={heap:=U3 g (.cells #[] 0),tape:=λ_ _=>0,drawn:=0,os,output:= #[]}
def KX(h:Twins P0 P)(L:Rl.Alike Gc P P)(A:nE Gc P P){f:V1}(W:Gc.b f=Z)(C:P.funcs[f]? =P0.funcs[f]?){args:Array U}(V:bg (QE Gc) args args){R:WS->F->Prop}(hR:∀e w',R e w'->∃v,e= .returned v){os:Os}(ap:∀a,Calls P0 f args (sh a 0 (Bw Gc.g os)) R)
 {own:Nat->Prop} {w:F} {s:Ut} (O:Hv S own w) (am:Gc.g<=w.heap.size)
 (J:∀(σ:aU Gc) v r i own' w',(∃a d,R (.returned v) (sh a d i))->ax σ v r->eK σ 0 i w'->(∀b b',σ.f b=I b'->own' b')->Hv S own' w'->RelB S w w'->pI P0 P S c own' vs (Ug (s.finish r) fU) w'):pI P0 P S c own vs (Ug (UY P f args .normal) (s::fU)) w:=by
 have x:UY P f args .normal=UY P0 f args .normal:=by unfold UY;rw[C]
 have D:Hp (bn P0) (Bw Gc.g os):=λb be o=>by
  simp only[Bw,Array.getElem?_replicate] at o
  split at o
  ·cases o;exact .inl trivial
  ·cases o
 have ab:Fin P0 P (Dh λg aF w'=>aF=[]/\∃v,R (.returned v) w'/\g.fn=f/\g.leaving P0 w' (.returned v)) (UY P0 f args .normal) [] (Bw Gc.g os) (Bw Gc.g os):=by
  refine vC h (λg aF w' j=>?_) ⟨DM h f args .normal (.inl Y),λbl a7=>by simp at a7,rfl⟩ D (Un.refl _) λa=>?_
  ·obtain⟨_,v,_,_,m⟩:=j;rintro⟨q,_⟩;rw[m.1] at q;cases q
  ·obtain⟨e,w',g,B,X,p,m⟩:=ap a [bG];obtain⟨v,rfl⟩:=hR e w' B;obtain⟨N,K⟩:=X;exact⟨N,g,[],w',K,rfl,v,B,p,m⟩
 obtain⟨y,z⟩:=Rl.uu A W V .normal (.inl rfl);rw[x] at y z;rw[x];refine Hr (aF:=[]) (tops':=[]) (fU:=s::fU) L A ab w Y y z .nil Y ⟨by simp[Bw],am,λb b' e=>(by cases e),λa8 ba u=>absurd u (by omega)⟩ (λb b' e=>(by cases e)) D O (RelB.refl _ _) λσ g aF i bd bi own' w' j al a3 a5 aq av Q aw=>?_;obtain⟨a,d,rfl,v,M,p,m⟩:=j;cases a3 using dM.ind;obtain⟨q,aa,ao,l,ad,a1⟩:=m;have ae:P.funcs[g.fn]? =I l:=by rw[p,C,<-p];exact ad
 have a2:∀n k,(UX l g.tmps).run P (sh n k i)= .ok v (sh n k i):=by
  intro n k;have a0:=Nq (eA P0) h.A.view (UX l g.tmps) (sh a d i) #[] (zD h.A.T l g.tmps) (av.sh a d);have t:((UX l g.tmps).runT P0 (sh a d i) #[]).1= .ok v (sh a d i):=by rw[Yd];exact a1
  rcases a0.shift with⟨bm,w',G⟩|j
  ·rw[t] at G;cases G
  ·obtain⟨bj,E,j⟩:=j n k (sh a d i) (Un.refl _) (by rw[t];intro a8 ba u;simp[rW] at u);rw[t] at j E;have:=congrArg Ux j;rw[Yd] at this;have H:=IL E n k;simp only[Ol,rW,Nat.sub_self,Nat.add_zero] at this;rw[H] at this;exact this
 exact Qg (P0:=P0) L al q aa ao ae a2 a5 aq (λbc r a9 bb a4 a6 ar T az=>J bc v r i a9 bb ⟨a,d,M⟩ a4 a6 ar T (aw.trans az)) Q
end
end Cc
namespace Cc
open Go Go.Conc
structure nQ(P0 P:Uf)(S:Nat->Prop)(m:Bool)(X0:(Nat->Prop)->Ut->List Ut->F->Prop):Prop where
 step:∀own fr cs w,(∀w1,RelB (λb=>S b\/own b) w w1->∃fr' cs' w' es,UM P m (Ug fr cs) w1= .go (Ug fr' cs') w' es/\mo P0 S own w1 w' es/\X0 (cU own w1 w') fr' cs' w')->X0 own fr cs w
 rely:∀own fr cs w w1,X0 own fr cs w->RelB (λb=>S b\/own b) w w1->X0 own fr cs w1
def ku (P0 P:Uf)(Post:U->F->Prop)(S O:Nat->Prop)(μ:Nat->Option (List U))(g:UL)(w:F):Prop:=∃c,Mn P0 P Post c (.sh S O μ) g w
section
variable {P0 P:Uf}{Post:U->F->Prop}{S O:Nat->Prop}{μ:Nat->Option (List U)}{g:UL}{w:F}
def kW(P0 P:Uf)(S:Nat->Prop)(c:Nat)(vs:List U):nQ P0 P S T7 (λown fr cs w=>pI P0 P S c own vs (Ug fr cs) w):=
 ⟨λown fr cs w d=>tM Y λf e=>by
  obtain⟨fr',q,p,h,j,l,n⟩:=d f e;exact⟨_,p,h,j,l,n⟩,λown fr cs w f d e=>d.rely e⟩
def MQ(h:∀c,RelB (λb=>S b\/O b) w c->∃g' w' es,UM P Z g c= .go g' w' es/\g'.status= .running/\mo P0 S O c w' es/\ku P0 P Post S (cU O c w') μ g' w'):ku P0 P Post S O μ g w:=by
 classical
 let f:F->Tr:=λc=>if d:RelB (λb=>S b\/O b) w c then Vq (Uv (Uv (Uv (h c d)))).2.2.2 else .fin
 refine⟨.mk f,nt.2 <| .inl λc d=>?_⟩;have e:=Uv (Uv (Uv (h c d)));have j:f c=Vq (Uv (Uv (Uv (h c d)))).2.2.2:=by
  show(if d:RelB (λb=>S b\/O b) w c then _ else _)=_;rw[dif_pos d]
 exact⟨_,_,_,e.1,e.2.1,e.2.2.1,Mn.cast j (Uv e.2.2.2)⟩
def dS(P0 P:Uf)(Post:U->F->Prop)(S:Nat->Prop)(μ:Nat->Option (List U)):nQ P0 P S Z (λO fr cs w=>ku P0 P Post S O μ (Ug fr cs) w):=
 ⟨λown fr cs w c=>MQ λe d=>by
  obtain⟨fr',q,p,f,h,j,l⟩:=c e d;exact⟨_,p,f,h,rfl,j,l⟩,λown fr cs w e c d=>by
  obtain⟨n,c⟩:=c;exact⟨n,c.j7 d⟩⟩
def JQ{c cap:Nat}{l:List U}(p:O c)(s:l.length<=cap)(t:μ c=K)(hc:w.heap[c]? =I (.chan cap #[] T7 0 0 T7))(h:∀d,RelB (λb=>S b\/O b) w d->∃g' n,UM P Z g d= .spawn g' n d #[]/\g'.status= .running/\pI P0 P S c (λ_=>False) l n d/\ku P0 P Post S (λb=>O b/\b≠c) (gd μ c (I l)) g' d):ku P0 P Post S O μ g w:=by
 classical
 let f:F->Tr:=λd=>if e:RelB (λb=>S b\/O b) w d then Vq (Uv (Uv (h d e))).2.2.2 else .fin
 refine⟨.mk f,nt.2 <| .inr (.inl ⟨c,l,cap,p,s,t,hc,λd e=>?_⟩)⟩;have j:=Uv (Uv (h d e));have r:f d=Vq (Uv (Uv (h d e))).2.2.2:=by
  show(if e:RelB (λb=>S b\/O b) w d then _ else _)=_;rw[dif_pos e]
 obtain⟨u,q⟩:=j.2.2.1;exact⟨_,_,u,j.1,j.2.1,q,Mn.cast r (Uv j.2.2.2)⟩
def MO{c:Nat}{z:U}{g2:UL}{v:U}{l:List U}(p:μ c=I (v::l))(n:g2.frame=g.frame/\g2.callers=g.callers/\g2.dying=g.dying)(h:∀d,RelB (λb=>S b\/O b) w d->UM P Z g d= .comm g2 #[rcase c z] Z (.recv Z) d #[]/\ku P0 P Post S O (gd μ c (I l)) (Wi g2 (recvd Z v Z)) d):ku P0 P Post S O μ g w:=by
 classical
 let f:F->Tr:=λd=>if e:RelB (λb=>S b\/O b) w d then Vq (h d e).2 else .fin
 refine⟨.mk f,nt.2 <| .inr (.inr (.inl ⟨c,z,g2,v::l,p,n,λd e=>⟨(h d e).1,?_⟩⟩))⟩;have j:f d=Vq (h d e).2:=by
  show(if e:RelB (λb=>S b\/O b) w d then _ else _)=_;rw[dif_pos e]
 exact Mn.cast j (Uv (h d e).2)
def MP{c:Nat}{z:U}{g2:UL}(n:μ c=I [])(l:g2.frame=g.frame/\g2.callers=g.callers/\g2.dying=g.dying)(h:∀d,RelB (λb=>S b\/O b) w d->UM P Z g d= .comm g2 #[rcase c z] Z (.recv Z) d #[]/\ku P0 P Post S O (gd μ c K) (Wi g2 (recvd Z z T7)) d):ku P0 P Post S O μ g w:=by
 classical
 let f:F->Tr:=λd=>if e:RelB (λb=>S b\/O b) w d then Vq (h d e).2 else .fin
 refine⟨.mk f,nt.2 <| .inr (.inr (.inl ⟨c,z,g2,[],n,l,λd e=>⟨(h d e).1,?_⟩⟩))⟩;have j:f d=Vq (h d e).2:=by
  show(if e:RelB (λb=>S b\/O b) w d then _ else _)=_;rw[dif_pos e]
 exact Mn.cast j (Uv (h d e).2)
def MN(n:∀c,μ c=K)(h:∀d,RelB (λb=>S b\/O b) w d->xG P0 d->tR P0 P Post g d):ku P0 P Post S O μ g w:=by
 classical
 let f:F->Tr:=λd=>if e:RelB (λb=>S b\/O b) w d/\xG P0 d then Vq (h d e.1 e.2) else .fin
 refine⟨.mk f,nt.2 <| .inr (.inr (.inr ⟨n,λd e j=>?_⟩))⟩;have l:f d=Vq (h d e j):=by
  show(if e:RelB (λb=>S b\/O b) w d/\xG P0 d then _ else _)=_;rw[dif_pos ⟨e,j⟩]
 exact Mn.cast l (Uv (h d e j))
def JV(S O:Nat->Prop)(j:∀b,S b->b<w.heap.size/\¬O b)(e:∀b,O b->b<w.heap.size)(h:∀c,AtRel w c->ku P0 P Post S O (λ_=>K) g c):tR P0 P Post g w:=by
 classical
 let f:F->Tr:=λc=>if d:AtRel w c then Vq (h c d) else .fin
 refine⟨.mk f,nt.2 <| .inr (.inr ⟨S,O,j,e,λc d=>?_⟩)⟩;have l:f c=Vq (h c d):=by
  show(if d:AtRel w c then _ else _)=_;rw[dif_pos d]
 exact Mn.cast l (Uv (h c d))
end
section
variable {P0 P:Uf}{S:Nat->Prop}{m:Bool}{X0:(Nat->Prop)->Ut->List Ut->F->Prop}(hX:nQ P0 P S m X0){own:Nat->Prop}{fr fr':Ut}{cs:List Ut}{w:F}{b:Ut}{a:V6}{k:List WM}{ops:Array Vu}{i:Nat}{rest:List Nat}{o:Vu}
def nu(own:Nat->Prop)(w:F):cU own w w=own:=by
 funext b;unfold cU;apply propext;constructor
 ·rintro(c|c)
  ·exact c
  ·omega
 ·exact .inl
def yu(P0:Uf){es:Array Vm}(c:∀e∈es,EvW S own e):mo P0 S own w w es:=⟨λ_ _ _=>rfl,T8 _,rfl,rfl,rfl,λd=>d,by rw[nu];exact c⟩
def kU(hX:nQ P0 P S m X0){c:List Ut}(j:∀w,UM P m (Ug fr cs) w= .go (Ug fr' c) w)(f:X0 own fr' c w):X0 own fr cs w:=
 hX.step _ _ _ _ λd h=>⟨fr',c,d,#[],j d,yu P0 (λl e=>by simp at e),by rw[nu];exact hX.rely _ _ _ _ _ f h⟩
def LG(hX:nQ P0 P S m X0)(l:b.kind≠.early)(p:ops[i]? =I o)(r:UF o (Vj ops a.tmps)=Z)
 (h:∀d,RelB (λb=>S b\/own b) w d->∃v w',(UH a.eval o).run P d= .ok (.value v) w'/\mo P0 S own d w' ((UH a.eval o).events P d #[])/\X0 (cU own d w') (b.at (a.put o.dst v) (.inRegion ops rest::k)) cs w'):X0 own (b.at a (.inRegion ops (i::rest)::k)) cs w:=
 hX.step _ _ _ _ λd q=>by
  obtain⟨v,w',f,c,j⟩:=h d q;refine⟨_,_,_,_,stepG_value p r l f,⟨c.keep,c.size,c.tape,c.os,c.output,c.hp,λe n=>c.evs e (Conc.mem_listed n)⟩,j⟩
def ox(hX:nQ P0 P S m X0)(f:b.kind≠.early)(l:ops[i]? =I o)(n:UF o (Vj ops a.tmps)=Z)(v:U)
 (h:∀c,RelB (λb=>S b\/own b) w c->(UH a.eval o).run P c= .ok (.value v) c/\∀e∈(UH a.eval o).events P c #[],EvW S own e) (j:X0 own (b.at (a.put o.dst v) (.inRegion ops rest::k)) cs w):X0 own (b.at a (.inRegion ops (i::rest)::k)) cs w:=
 LG hX f l n λc d=>⟨v,c,(h c d).1,yu P0 (h c d).2,by rw[nu];exact hX.rely _ _ _ _ _ j d⟩
end
def aW (a:V6)(s:Nat):U:=a.tmps.getD s Vk
def SX (ops:Array Vu)(l:Array Bool)(s:Nat):Prop:=∃b c,l.getD b T7=Z/\ops[b]? =I c/\c.dst=I s
structure cI(ops:Array Vu)(Ph:Nat->Bool)(a0 z:V6)(l:Array Bool)(a:V6):Prop where
 size:l.size=ops.size
 closed:∀(i:Nat) o,l.getD i T7=Z->ops[i]? =I o->∀e∈o.after,Vn .any e=Z->l.getD e.on T7=Z
 ph:∀i:Nat,l.getD i T7=Z->Ph i=Z
 QG:a.tmps.size=z.tmps.size
 R7:a.defers=z.defers
 yes:∀s,SX ops l s->aW a s=aW z s
 no:∀s,¬SX ops l s->aW a s=aW a0 s
def Mu:Op->Bool
 | .select _ _=>Z
 |_=>T7
def oI (ops:Array Vu)(Ph:Nat->Bool):Bool:=(UK ops.size).all λd=>match ops[d]? with
 |none=>Z
 |some c=> !Mu c.op&&((c.looksAt ops).all λs=>(c.after.toList.any λb=>Vn .any b&&((ops[b.on]?).bind (·.dst))==I s)||(UK ops.size).all λe=> !Ph e||((ops[e]?).bind (·.dst)) !=I s)&&(match c.guard with|some (f,_)=>((ops[f]?).bind (·.dst)).isSome|none=>Z)&&c.after.toList.all λb=> !Vn .any b||decide (b.on<d)
def PD (ops:Array Vu)(Ph:Nat->Bool)(u:Nat):Bool:=(UK ops.size).all λb=>Ph b||b==u||match ops[b]? with
 |none=>Z
 |some d=>d.after.toList.any λc=>Vn .any c && !Ph c.on
def E5 (l:Array Bool):Nat:=l.toList.countP (!·)
theorem countP_set:∀(x:List Bool) (i:Nat),x[i]? =I T7->(x.set i Z).countP (!·)+1=x.countP (!·)
 | [],i,c=>by simp at c
 |b::d,0,c=>by simp at c;subst c;simp
 |b::d,i+1,c=>by
  have:=countP_set d i (by simpa using c);simp only[Uk,List.countP_cons];omega
def qY{l:Array Bool}{i:Nat}(b:i<l.size)(h:l.getD i Z=T7):E5 (l.setIfInBounds i Z)+1=E5 l:=by
 unfold E5;rw[Array.toList_setIfInBounds];refine countP_set _ _ ?_;have:l[i]? =I l[i]:=UU b;simp only[UD,this,V2] at h;rw[Array.getElem?_toList,this,h]
def kY{l:Array Bool}{i j:Nat}(d:i<l.size):(l.setIfInBounds i Z).getD j T7=(decide (j=i)||l.getD j T7):=by
 simp only[UD,UP];by_cases b:i=j
 ·subst b;simp[d]
 ·have:¬j=i:=λc=>b c.symm;simp[b,this]
def mem_ready{ops:Array Vu}{l:Array Bool}{i:Nat}(h:i∈UZ .any ops l):∃o,ops[i]? =I o/\i<ops.size/\l.getD i Z=T7/\∀e∈o.after,Vn .any e=Z->l.getD e.on T7=Z:=by
 unfold UZ at h;obtain⟨f,b⟩:=List.mem_filter.1 h;have c:=Vt.1 f;simp only[Uw,WO] at b;have d:ops[i]? =I ops[i]:=UU c;rw[d] at b;simp only[V3,V2] at b;refine⟨_,d,c,b.1,λe j g=>?_⟩;have:=Array.all_eq_true.1 b.2;obtain⟨m,k,rfl⟩:=Array.mem_iff_getElem.1 j;have:=this m k;simpa [g] using this
def Gt{ops:Array Vu}{Ph:Nat->Bool}{l:Array Bool}(p:l.size=ops.size)(n:oI ops Ph=Z)(h:UZ .any ops l=[]):∀i,i<ops.size->l.getD i T7=Z:=by
 intro i
 induction i using Nat.strongRecOn with
 |_ i o=>
  intro b;cases j:l.getD i T7 with
  |true=>rfl
  |false=>
   exfalso
   have:i∈UZ .any ops l:=by
    unfold UZ;refine List.mem_filter.2 ⟨Vt.2 b,?_⟩;have d:ops[i]? =I ops[i]:=UU b;have c:=Uz.1 n i (Vt.2 b);rw[d] at c;simp only[Uw,Uz] at c;have k:l.getD i Z=T7:=by
     have:l[i]? =I l[i]:=UU (by omega);simpa [UD,this] using j
    rw[d,k];simp only[Bool.not_false,Bool.true_and,V3,V2,Array.all_eq_true];intro e g;have:=c.2 _ (Array.getElem_mem_toList g);cases f:Vn .any (ops[i].after[e]) with
    |false=>rfl
    |true=>
     rw[f] at this;have m:ops[i].after[e].on<i:=by simpa using this
     simpa using o _ m (by omega)
   rw[h] at this;cases this
section
variable {ops:Array Vu}{Ph:Nat->Bool}{a0 z:V6}{l:Array Bool}{a:V6}
def cI.looks(h:cI ops Ph a0 z l a)(w:oI ops Ph=Z)(y:∀s,(∀(j:Nat) o,Ph j=Z->ops[j]? =I o->o.dst≠I s)->aW z s=aW a0 s){i:Nat}{o:Vu}(n:ops[i]? =I o)(p:∀e∈o.after,Vn .any e=Z->l.getD e.on T7=Z):∀s∈o.looksAt ops,aW a s=aW z s:=by
 intro s x;have r:i<ops.size:=(Ub.1 n).1;have k:=Uz.1 w i (Vt.2 r);rw[n] at k;simp only[Uw,Uz] at k;have:=k.1.1.2 s x;rw[WT] at this;rcases this with f|f
 ·obtain⟨e,q,g⟩:=List.any_eq_true.1 f;simp only[Uw,beq_iff_eq] at g;obtain⟨d,u,b⟩:=UR.1 g.2;exact h.yes s ⟨e.on,d,p e (by simpa using q) g.1,u,b⟩
 ·have m:∀(j:Nat) o,Ph j=Z->ops[j]? =I o->o.dst≠I s:=λj d v c b=>by
   have:=Uz.1 f j (Vt.2 (Ub.1 c).1);rw[c] at this;simp[b,v] at this
  rw[y s m];exact h.no s fun⟨j,d,t,c,b⟩=>m j d (h.ph j t) c b
def cI.exec(m:cI ops Ph a0 z l a)(t:oI ops Ph=Z)(B:∀s,(∀(j:Nat) o,Ph j=Z->ops[j]? =I o->o.dst≠I s)->aW z s=aW a0 s){i:Nat}{o:Vu}(n:ops[i]? =I o)(w:∀e∈o.after,Vn .any e=Z->l.getD e.on T7=Z):UH a.eval o=UH z.eval o/\UF o (Vj ops a.tmps)=UF o (Vj ops z.tmps):=by
 have r:=m.looks t B n w;have x:i<ops.size:=(Ub.1 n).1;have f:=Uz.1 t i (Vt.2 x);rw[n] at f;simp only[Uw] at f;refine⟨execOp_congr o (λE D e=>by have:=f.1.1.1;rw[e] at this;cases this) λC y=>?_,?_⟩
 ·cases C with
  |tmp u=>exact r u (List.mem_append_left _ (List.mem_filterMap.2 ⟨.tmp u,by simpa using y,rfl⟩))
  |_=>rfl
 ·unfold UF;cases q:o.guard with
  |none=>rfl
  |some v=>
   obtain⟨j,F⟩:=v;have k:=f.1.2;rw[q] at k;dsimp only at k ⊢;obtain⟨b,p⟩:=Option.isSome_iff_exists.1 k;have d:aW a b=aW z b:=r b (List.mem_append_right _ (by rw[q];simp[p]));have A:Vj ops a.tmps j=Vj ops z.tmps j:=by
    unfold Vj;rw[p];simp only[XR];unfold aW at d;simp only[UD] at d;rcases Vy b z.tmps.size with c|c
    ·have g:z.tmps[b]? =I z.tmps[b]:=UU c;have h:a.tmps[b]? =I (a.tmps[b]'(by rw[m.QG];exact c)):=UU _;rw[g,h] at d ⊢;simp only[V2] at d;rw[d]
    ·have g:z.tmps[b]? =K:=Vl c;have h:a.tmps[b]? =K:=Vl (by rw[m.QG];exact c);rw[g,h]
   rw[A]
def cI.next(b:cI ops Ph a0 z l a){i:Nat}{o:Vu}(D:Ph i=Z)(n:ops[i]? =I o)(A:∀e∈o.after,Vn .any e=Z->l.getD e.on T7=Z){v:U}(y:∀d,o.dst=I d->d<z.tmps.size/\aW z d=v):cI ops Ph a0 z (l.setIfInBounds i Z) (a.put o.dst v):=by
 have j:i<l.size:=by rw[b.size];exact(Ub.1 n).1
 have t:∀s,SX ops (l.setIfInBounds i Z) s↔o.dst=I s\/SX ops l s:=by
  intro s;constructor
  ·rintro⟨g,k,f,h,m⟩;rw[kY j] at f;simp only[WT,decide_eq_true_eq] at f;rcases f with rfl|f
   ·rw[n] at h;cases h;exact .inl m
   ·exact .inr ⟨g,k,f,h,m⟩
  ·rintro(q|⟨g,k,f,h,m⟩)
   ·exact⟨i,o,by rw[kY j];simp,n,q⟩
   ·exact⟨g,k,by rw[kY j,f];simp,h,m⟩
 have x:∀s,aW (a.put o.dst v) s=if o.dst=I s then v else aW a s:=by
  intro s;unfold aW UW;cases B:o.dst with
  |none=>simp
  |some d=>
   have C:=(y d B).1;simp only[UD,UP,U8];by_cases e:d=s
   ·subst e;simp[b.QG,C]
   ·simp[e]
 refine⟨by simp[b.size],λg k c r e w u=>?_,λg c=>?_,?_,?_,λs p=>?_,λs p=>?_⟩
 ·rw[kY j] at c ⊢;simp only[WT,decide_eq_true_eq] at c ⊢;rcases c with rfl|c
  ·rw[n] at r;cases r;exact .inr (A e w u)
  ·exact .inr (b.closed g k c r e w u)
 ·rw[kY j] at c;simp only[WT,decide_eq_true_eq] at c;rcases c with rfl|c
  ·exact D
  ·exact b.ph g c
 ·unfold UW;split
  ·simp[b.QG]
  ·exact b.QG
 ·unfold UW;split
  ·exact b.R7
  ·exact b.R7
 ·rw[x]
  split
  ·rename_i e;exact((y s e).2).symm
  ·rename_i e;exact b.yes s (((t s).1 p).resolve_left e)
 ·rw[x,if_neg λe=>p ((t s).2 (.inl e))];exact b.no s λq=>p ((t s).2 (.inr q))
def cI.start(a0 z:V6)(f:a0.tmps.size=z.tmps.size)(e:a0.defers=z.defers):cI ops Ph a0 z (U3 ops.size T7) a0:=by
 have d:∀c:Nat,(U3 ops.size T7).getD c T7=T7:=λc=>by
  simp only[UD,Array.getElem?_replicate]
  split<;>rfl
 refine⟨by simp,λc g b=>?_,λc b=>?_,f,e,λs ⟨c,g,b,_⟩=>?_,λs _=>rfl⟩
 ·rw[d] at b;cases b
 ·rw[d] at b;cases b
 ·rw[d] at b;cases b
def cI.all(d:cI ops Ph a0 z l a)(t:∀s,(∀(j:Nat) o,Ph j=Z->ops[j]? =I o->o.dst≠I s)->aW z s=aW a0 s)(h:∀i,i<ops.size->l.getD i T7=Z):a=z:=by
 have r:∀s,aW a s=aW z s:=λs=>by
  by_cases f:∃(j:Nat) (o:Vu),ops[j]? =I o/\o.dst=I s
  ·obtain⟨j,o,b,c⟩:=f;exact d.yes s ⟨j,o,h j (Ub.1 b).1,b,c⟩
  ·have e:∀(j:Nat) o,ops[j]? =I o->o.dst≠I s:=λj o b c=>f ⟨j,o,b,c⟩;rw[t s λj o _=>e j o];exact d.no s fun⟨j,o,_,b,c⟩=>e j o b c
 obtain⟨u,g⟩:=a;obtain⟨v,k⟩:=z;have n:g=k:=d.R7;have m:u=v:=by
  refine Array.ext d.QG λi p q=>?_;have:=r i;unfold aW at this;simpa [UD,p,q] using this
 rw[m,n]
def cI.QT(d:cI ops Ph a0 z l a){u:Nat}(y:∀s,(∀(j:Nat) o,Ph j=Z->ops[j]? =I o->o.dst≠I s)->aW z s=aW a0 s)(x:Ph u=T7)(h:∀i,i<ops.size->i≠u->l.getD i T7=Z):a=z:=by
 have w:∀s,aW a s=aW z s:=λs=>by
  by_cases g:∃(j:Nat) (o:Vu),Ph j=Z/\ops[j]? =I o/\o.dst=I s
  ·obtain⟨j,o,e,b,c⟩:=g;exact d.yes s ⟨j,o,h j (Ub.1 b).1 (λn=>by rw[n,x] at e;cases e),b,c⟩
  ·have f:∀(j:Nat) o,Ph j=Z->ops[j]? =I o->o.dst≠I s:=λj o e b c=>g ⟨j,o,e,b,c⟩;rw[y s f];exact d.no s fun⟨j,o,v,b,c⟩=>f j o (d.ph j v) b c
 obtain⟨A,k⟩:=a;obtain⟨B,m⟩:=z;have q:k=m:=d.R7;have p:A=B:=by
  refine Array.ext d.QG λi r t=>?_;have:=w i;unfold aW at this;simpa [UD,r,t] using this
 rw[p,q]
def drawn{Dn:Nat->Bool}{val:Nat->U}{u:Nat}{G:List Nat->V6->Prop}(C:oI ops Ph=Z)(L:PD ops Ph u=Z)
 (W:∀(i:Nat) o d,Ph i=Z->ops[i]? =I o->o.dst=I d->d<z.tmps.size/\aW z d=val i)
 (D:∀s,(∀(j:Nat) o,Ph j=Z->ops[j]? =I o->o.dst≠I s)->aW z s=aW a0 s)
 (S:∀i o a todo,Ph i=Z->Dn i=T7->i≠u->ops[i]? =I o->UH a.eval o=UH z.eval o->UF o (Vj ops a.tmps)=UF o (Vj ops z.tmps)->G todo (a.put o.dst (val i))->G (i::todo) a)
 (V:∀c t l a,cI ops Ph a0 z l a->u∈UZ .any ops l->E5 l<=c+1->G (u::U9 .any ops c t (l.setIfInBounds u Z) []) a)
 (O:(∀i,i<ops.size->Ph i=Z)->G [] z):
 ∀(c t:Nat) (l:Array Bool) (a:V6),cI ops Ph a0 z l a->(∀i,Dn i=Z->l.getD i T7=Z)->E5 l<=c->G (U9 .any ops c t l []) a:=by
 have done:∀l a,cI ops Ph a0 z l a->UZ .any ops l=[]->G [] a:=λl a b k=>by
  have y:=Gt b.size C k;rw[b.all D y];exact O λi e=>b.ph i (y i e)
 intro c
 induction c with
 |zero=>
  intro t l a b q B;simp only[U9,List.reverse_nil];refine done l a b ?_;cases k:UZ .any ops l with
  |nil=>rfl
  |cons i Y=>
   obtain⟨o,_,e,f,_⟩:=mem_ready (ops:=ops) (l:=l) (i:=i) (by rw[k];exact Xs ..);have:=qY (by rw[b.size];exact e) f;omega
 |succ c X=>
  intro t l a b q B;simp only[U9];change G (match (UZ .any ops l)[t%(UZ .any ops l).length]? with
   |some i=>U9 .any ops c (t/(UZ .any ops l).length) (l.setIfInBounds i Z) [i]
   |none=>[].reverse) a
  cases e:(UZ .any ops l)[t%(UZ .any ops l).length]? with
  |none=>
   have R:UZ .any ops l=[]:=by
    cases k:UZ .any ops l with
    |nil=>rfl
    |cons E F=>
     rw[k] at e;have g:t%(E::F).length<(E::F).length:=Nat.mod_lt _ (by simp);simp at e;simp at g;omega
   exact done l a b R
  |some i=>
   simp only[];rw[linearise_go_acc,List.reverse_singleton,List.singleton_append];have A:=List.mem_of_getElem? e;obtain⟨o,h,g,f,r⟩:=mem_ready A;by_cases w:i=u
   ·subst w;exact V c _ l a b A B
   ·have x:Ph i=Z:=by
     have:=Uz.1 L i (Vt.2 g);cases T:Ph i with
     |true=>rfl
     |false=>
      rw[T,h] at this;simp only[Bool.false_or,WT,beq_iff_eq] at this;rcases this with p|p
      ·exact absurd p w
      ·obtain⟨n,N,v⟩:=List.any_eq_true.1 p;simp only[Uw,WO] at v;have:=b.ph _ (r n (by simpa using N) v.1);rw[v.2] at this;cases this
    obtain⟨m,J⟩:=b.exec C D h r;have K:Dn i=T7:=by
     cases n:Dn i with
     |false=>rfl
     |true=>
      have m:=q i n;have Q:i<l.size:=by rw[b.size];exact g
      have H:l[i]? =I l[i]:=UU Q;simp only[UD,H,V2] at m f;rw[m] at f;cases f
    refine S i o a _ x K w h m J (X _ _ _ (b.next x h r λd M=>W i o d x h M) (λj P=>by
     rw[kY (by rw[b.size];exact g),q j P];simp) ?_)
    have:=qY (by rw[b.size];exact g) f;omega
end
section
variable {P0 P:Uf}{S:Nat->Prop}{m:Bool}{X0:(Nat->Prop)->Ut->List Ut->F->Prop}{own:Nat->Prop}{cs:List Ut}{w:F}{b:Ut}{a:V6}{k:List WM}{ops:Array Vu}{i:Nat}{rest:List Nat}{o:Vu}
def aS(c:nQ P0 P S m X0){c1 c2:WV}(d:X0 own (b.at a (.code c1 :: .code c2::k)) cs w):X0 own (b.at a (.code (.seq c1 c2)::k)) cs w:=kU c (λw=>stepG_seq) d
def dn(c:nQ P0 P S m X0){x:U6}{c1 c2:WV}(y:Bool)(e:a.eval x= .bool y)(d:X0 own (b.at a (.code (if y then c1 else c2)::k)) cs w):X0 own (b.at a (.code (.cond x c1 c2)::k)) cs w:=kU c (λw=>stepG_cond e) d
def gB(d:nQ P0 P S m X0){id:Nat}{c:WV}(e:X0 own (b.at a (.code c :: .inBlock id::k)) cs w):X0 own (b.at a (.code (.block id c)::k)) cs w:=kU d (λw=>stepG_block) e
def iJ(c:nQ P0 P S m X0){id:Nat}(d:X0 own (b.at a k) cs w):X0 own (b.at a (.inBlock id::k)) cs w:=kU c (λw=>stepG_inBlock) d
def ue(d:nQ P0 P S m X0){c:WV}(e:X0 own (b.at a (.code c :: .inLoop c::k)) cs w):X0 own (b.at a (.code (.loop c)::k)) cs w:=kU d (λw=>stepG_loop) e
def kV(d:nQ P0 P S m X0){c:WV}(e:X0 own (b.at a (.code c :: .inLoop c::k)) cs w):X0 own (b.at a (.inLoop c::k)) cs w:=kU d (λw=>stepG_inLoop) e
def ij(c:nQ P0 P S m X0)(d:X0 own (b.at a k) cs w):X0 own (b.at a (.code .skip::k)) cs w:=kU c (λw=>stepG_skip) d
def ud(c:nQ P0 P S m X0){id:Nat}{k':List WM}(d:Yh id k=I k')(e:X0 own (b.at a k') cs w):X0 own (b.at a (.code (.exit id)::k)) cs w:=kU c (λw=>stepG_exit d) e
def pL(c:nQ P0 P S m X0)(d:X0 own {b.at a (.code .ret::k) with mode:=.returning} cs w):X0 own (b.at a (.code .ret::k)) cs w:=kU c (λw=>by simp[Ug,UM,UI,Frame.at]) d
def LD(c:nQ P0 P S m X0)(d:X0 own {b.at a [] with mode:=.returning} cs w):X0 own (b.at a []) cs w:=kU c (λw=>stepG_end) d
def LF(c:nQ P0 P S m X0){id:Nat}(d:X0 own (b.at a (.inRegion ops (UK ops.size)::k)) cs w):X0 own (b.at a (.code (.region id ops T7)::k)) cs w:=kU c (λw=>stepG_region) d
def ak(c:nQ P0 P S m X0)(d:X0 own (b.at a k) cs w):X0 own (b.at a (.inRegion ops []::k)) cs w:=kU c (λw=>stepG_region_end) d
def QZ(d:nQ P0 P S m X0){id:Nat}(h:P.follows .mixedOrders=Z)(g:∀t,X0 own (b.at a (.inRegion ops (U9 .any ops ops.size t (U3 ops.size T7) [])::k)) cs w):X0 own (b.at a (.code (.region id ops Z)::k)) cs w:=
 d.step _ _ _ _ λc n=>by
  have e:UM P m (Ug (b.at a (.code (.region id ops Z)::k)) cs) c= .go (Ug (b.at a (.inRegion ops (XZ (P.follows .mixedOrders) ops (c.tape c.drawn (.order b.fn id)))::k)) cs) {c with drawn:=c.drawn+1}:=by
   simp[Ug,UM,UI,Frame.at,choose,Wt,Question.forced,Question.cut]
  have p:∀t,XZ (P.follows .mixedOrders) ops t=U9 .any ops ops.size t (U3 ops.size T7) []:=λt=>by
   simp only[XZ,h,Bool.true_or,if_true];rfl
  rw[p] at e;have j:cU own c {c with drawn:=c.drawn+1}=cU own c c:=rfl;refine⟨_,_,_,_,e,⟨λ_ _ _=>rfl,T8 _,rfl,rfl,rfl,λq=>q,λr f=>by simp at f⟩,?_⟩;rw[j,nu];exact d.rely _ _ _ _ _ (g _) (n.trans ⟨λ_ _=>rfl,T8 _,rfl,rfl,rfl⟩)
def xT(d:nQ P0 P S m X0)(c:ops[i]? =I o)(g:UF o (Vj ops a.tmps)=T7)(f:X0 own (b.at (a.put o.dst Vk) (.inRegion ops rest::k)) cs w):X0 own (b.at a (.inRegion ops (i::rest)::k)) cs w:=by
 refine kU d (λw=>?_) f;have e:(b.at a (.inRegion ops (i::rest)::k)).finish Vk=b.at (a.put o.dst Vk) (.inRegion ops rest::k):=by rw[XG,c];rfl
 rw[<-e];simp[Ug,UM,UI,stepG.oper,Frame.oper?,Frame.at,c,g]
def mC(e:nQ P0 P S m X0)(f:b.kind≠.early)(j:ops[i]? =I o)(n:UF o (Vj ops a.tmps)=Z)(v:U)
 (h:∀c,(UH a.eval o).run P c= .ok (.value v) c/\(UH a.eval o).events P c #[]=#[]) (g:X0 own (b.at (a.put o.dst v) (.inRegion ops rest::k)) cs w):X0 own (b.at a (.inRegion ops (i::rest)::k)) cs w:=
 ox e f j n v (λc _=>⟨(h c).1,λp d=>by rw[(h c).2] at d;simp at d⟩) g
def H6(j:nQ P0 P S m X0){f:V1}{fn:WC}{c:WV}{args:Array U6}{ats:Array Uh}(p:b.kind≠.early)(r:ops[i]? =I o)(s:UF o (Vj ops a.tmps)=Z)(h:o.op= .call {callee:=.value (.func f),args,argTypes:=ats})
 (e:P.funcs[f]? =I fn) (g:(fn.name == "runtime.NumGoroutine")=T7) (n:fn.body=I c) (q:X0 own (UY P f (args.map a.eval) .normal) (b.at a (.inRegion ops (i::rest)::k)::cs) w):X0 own (b.at a (.inRegion ops (i::rest)::k)) cs w:=by
 have d:fn.body.isNone=T7:=by rw[n];rfl
 refine kU j (λw=>?_) q;rw[stepG_enter r s p (run_call_body h e g d)];have:listed P b.fn a o w=#[]:=by unfold listed;rw[events_call_body h e g d];exact Conc.seen_none P _
 rw[this]
def Oy(d:nQ P0 P S m X0){fn:WC}{todo:List WM}{c:Ut}{a0:V6}{v:U}(j:b.kind= .normal)(e:a.defers=[])(g:P.funcs[b.fn]? =I fn)(p:∀w,(UX fn a.tmps).run P w= .ok v w)(f:∀w,(UX fn a.tmps).events P w #[]=#[])(n:ops[i]? =I o)
 (h:X0 own (c.at (a0.put o.dst v) (.inRegion ops rest::k)) cs w):X0 own {b.at a todo with mode:=.returning} (c.at a0 (.inRegion ops (i::rest)::k)::cs) w:=by
 refine kU d (λw=>?_) h;rw[stepG_leave j e g (p w) (f w),XG,n];rfl
def jO (n:Nat)(S own:Nat->Prop)(e:Vm):Prop:=(∃m,e.loc= .mark m/\Neutral m)\/(∃c:UJ,e.loc= .cell c/\(c.block=n\/own c.block\/(S c.block/\e.write=T7)))
def jO.ev{n:Nat}{own':Nat->Prop}(f:own' n)(g:∀b,own b->own' b){e:Vm}(h:jO n S own e):EvW S own' e:=by
 unfold EvW;rcases h with⟨m,h,d⟩|⟨j,h,c⟩
 ·rw[h];exact d
 ·rw[h];rcases c with rfl|c|c
  ·exact .inl f
  ·exact .inl (g _ c)
  ·exact .inr c
def tQ (S own:Nat->Prop)(w:F):Prop:=∀b,S b\/own b->b<w.heap.size
def mB(y:nQ P0 P S m X0)(C:tQ S own w)(A:b.kind≠.early)(E:ops[i]? =I o)(F:UF o (Vj ops a.tmps)=Z)(j:Xv)(G:bn P0 j)(u:Nat->U)
 (h:∀c,RelB (λb=>S b\/own b) w c->∃w',(UH a.eval o).run P c= .ok (.value (u c.heap.size)) w'/\w'.heap=c.heap.push j/\w'.tape=c.tape/\w'.os=c.os/\w'.output=c.output/\∀e∈(UH a.eval o).events P c #[],jO c.heap.size S own e)
 (D:∀n w',w.heap.size<=n->w'.heap.size=n+1->RelB (λb=>S b\/own b) w w'->w'.heap[n]? =I j->X0 (λb=>own b\/b=n) (b.at (a.put o.dst (u n)) (.inRegion ops rest::k)) cs w'):X0 own (b.at a (.inRegion ops (i::rest)::k)) cs w:=
 LG y A E F λc d=>by
  obtain⟨w',v,g,p,q,r,x⟩:=h c d;have t:cU own c w'=λb=>own b\/b=c.heap.size:=by
   funext H;unfold cU;rw[g,Array.size_push];apply propext;constructor
   ·rintro(h|h)
    ·exact .inl h
    ·exact .inr (by omega)
   ·rintro(h|h)
    ·exact .inl h
    ·exact .inr (by omega)
  have s:∀b:Nat,b<c.heap.size->w'.heap[b]? =c.heap[b]? :=λb f=>by
   rw[g,VB];rw[if_neg (by omega)]
  refine⟨_,w',v,⟨λb f _=>s b f,by rw[g];simp,p,q,r,λ_=>trivial,λe B=>?_⟩,?_⟩
  ·rw[t];exact(x e B).ev (.inr Y) (λb f=>.inl f)
  ·rw[t];refine D c.heap.size w' d.size (by rw[g];simp) ⟨λb f=>?_,by rw[g];simp;have:=d.size;omega,p.trans d.tape,q.trans d.os,r.trans d.output⟩ (by rw[g];simp);rw[<-d.at_ b f];exact s b (Ud (C b f) d.size)
def tQ.new{n:Nat}{w':F}(h:tQ S own w)(d:w.heap.size<=n)(e:w'.heap.size=n+1):tQ S (λb=>own b\/b=n) w':=λb c=>by
 rcases c with c|c|c
 ·have:=h b (.inl c);omega
 ·have:=h b (.inr c);omega
 ·omega
def Q0(j:nQ P0 P S m X0)(n:b.kind≠.early)(q:ops[i]? =I o)(s:UF o (Vj ops a.tmps)=Z)
 (h:∀d,RelB (λb=>S b\/own b) w d->∃w',(UH a.eval o).run P d= .ok .skip w'/\mo P0 S own d w' ((UH a.eval o).events P d #[])/\X0 (cU own d w') (b.at (a.put o.dst Vk) (.inRegion ops rest::k)) cs w'):X0 own (b.at a (.inRegion ops (i::rest)::k)) cs w:=
 j.step _ _ _ _ λd r=>by
  obtain⟨w',f,c,g⟩:=h d r;exact⟨_,_,_,_,stepG_none q s n f,⟨c.keep,c.size,c.tape,c.os,c.output,c.hp,λe p=>c.evs e (Conc.mem_listed p)⟩,g⟩
structure zW(S own:Nat->Prop)(n:Nat)(ob:Xv)(w w':F):Prop where
 at_:∀b,S b\/own b->b≠n->w'.heap[b]? =w.heap[b]?
 set:w'.heap[n]? =I ob
 size:w.heap.size<=w'.heap.size
 tape:w'.tape=w.tape
 os:w'.os=w.os
 output:w'.output=w.output
structure xI(n:Nat)(ob:Xv)(w1 w':F):Prop where
 heap:w'.heap=w1.heap.setIfInBounds n ob
 tape:w'.tape=w1.tape
 os:w'.os=w1.os
 output:w'.output=w1.output
def xI.Sp{n:Nat}{g:Xv}{c w':F}{es:Array Vm}(h:xI n g c w')(j:own n)(u:n<c.heap.size)(y:bn P0 g)(t:∀e∈es,jO n S own e)(d:RelB (λb=>S b\/own b) w c):mo P0 S own c w' es/\cU own c w'=own/\zW S own n g w w':=by
 have x:w'.heap.size=c.heap.size:=by rw[h.heap];simp
 have p:∀b:Nat,b≠n->w'.heap[b]? =c.heap[b]? :=λb f=>by rw[h.heap,UP,if_neg (λe=>f e.symm)]
 have q:cU own c w'=own:=by
  funext A;unfold cU;rw[x];apply propext;constructor
  ·rintro(h|h)
   ·exact h
   ·omega
  ·exact .inl
 refine⟨⟨λb f v=>p b (λe=>v (e▸j)),by omega,h.tape,h.os,h.output,λ_=>trivial,λe r=>?_⟩,q,⟨λb f s=>(p b s).trans (d.at_ b f),by rw[h.heap,UP,if_pos Y,if_pos u],by have:=d.size;omega,h.tape.trans d.tape,h.os.trans d.os,h.output.trans d.output⟩⟩
 ·rw[q];exact(t e r).ev j (λ_ h=>h)
def r9(u:nQ P0 P S m X0)(x:tQ S own w)(v:b.kind≠.early)(A:ops[i]? =I o)(C:UF o (Vj ops a.tmps)=Z){n:Nat}(g:own n)(f:Xv)(B:bn P0 f)
 (h:∀c,RelB (λb=>S b\/own b) w c->∃w',(UH a.eval o).run P c= .ok .skip w'/\xI n f c w'/\∀e∈(UH a.eval o).events P c #[],jO n S own e)
 (y:∀w',zW S own n f w w'->X0 own (b.at (a.put o.dst Vk) (.inRegion ops rest::k)) cs w'):X0 own (b.at a (.inRegion ops (i::rest)::k)) cs w:=
 Q0 u v A C λc d=>by
  obtain⟨w',r,s,t⟩:=h c d;obtain⟨j,p,q⟩:=s.Sp (P0:=P0) g (Ud (x n (.inr g)) d.size) B t d;exact⟨w',r,j,by rw[p];exact y w' q⟩
def Q1(u:nQ P0 P S m X0)(y:tQ S own w)(x:b.kind≠.early)(B:ops[i]? =I o)(D:UF o (Vj ops a.tmps)=Z){n:Nat}(g:own n)(f:Xv)(C:bn P0 f)(v:U)
 (h:∀c,RelB (λb=>S b\/own b) w c->∃w',(UH a.eval o).run P c= .ok (.value v) w'/\xI n f c w'/\∀e∈(UH a.eval o).events P c #[],jO n S own e)
 (A:∀w',zW S own n f w w'->X0 own (b.at (a.put o.dst v) (.inRegion ops rest::k)) cs w'):X0 own (b.at a (.inRegion ops (i::rest)::k)) cs w:=
 LG u x B D λc d=>by
  obtain⟨w',r,s,t⟩:=h c d;obtain⟨j,p,q⟩:=s.Sp (P0:=P0) g (Ud (y n (.inr g)) d.size) C t d;exact⟨v,w',r,j,by rw[p];exact A w' q⟩
def tQ.set{n:Nat}{e:Xv}{w':F}(h:tQ S own w)(d:zW S own n e w w'):tQ S own w':=λb c=>Ud (h b c) d.size
def Ox(q:nQ P0 P S m X0)(x:b.kind≠.early){Ph Dn:Nat->Bool}{z:V6}{val:Nat->U}{u:Nat}{a0:V6}(G:oI ops Ph=Z)(v:PD ops Ph u=Z)
 (J:∀(i:Nat) o d,Ph i=Z->ops[i]? =I o->o.dst=I d->d<z.tmps.size/\aW z d=val i)
 (K:∀s,(∀(j:Nat) o,Ph j=Z->ops[j]? =I o->o.dst≠I s)->aW z s=aW a0 s)
 (D:∀i o,Ph i=Z->Dn i=T7->i≠u->ops[i]? =I o->(UF o (Vj ops z.tmps)=Z/\∀c,RelB (λb=>S b\/own b) w c->(UH z.eval o).run P c= .ok (.value (val i)) c/\∀e∈(UH z.eval o).events P c #[],EvW S own e)\/(UF o (Vj ops z.tmps)=T7/\val i=Vk))
 (H:∀f t l a,cI ops Ph a0 z l a->u∈UZ .any ops l->E5 l<=f+1->X0 own (b.at a (.inRegion ops (u::U9 .any ops f t (l.setIfInBounds u Z) [])::k)) cs w)
 (B:(∀i,i<ops.size->Ph i=Z)->X0 own (b.at z (.inRegion ops []::k)) cs w):
 ∀(f t:Nat) (l:Array Bool) (a:V6),cI ops Ph a0 z l a->(∀i,Dn i=Z->l.getD i T7=Z)->E5 l<=f->X0 own (b.at a (.inRegion ops (U9 .any ops f t l [])::k)) cs w:=
 drawn (G:=λl a=>X0 own (b.at a (.inRegion ops l::k)) cs w) G v J K (λi o a L E y C p A r n=>by
  rcases D i o E y C p with⟨g,h⟩|⟨g,h⟩
  ·exact ox q x p (r.trans g) (val i) (λc F=>by rw[A];exact h c F) n
  ·rw[h] at n;exact xT q p (r.trans g) n) H B
end
section
variable {ops:Array Vu}{Ph Lb:Nat->Bool}{a0 z z':V6}{l:Array Bool}{a:V6}
def cI.TD(c:cI ops Ph a0 z l a){u:Nat}{o:Vu}(y:u∈UZ .any ops l)(f:ops[u]? =I o)(r:∀i,Ph i=Z->Lb i=Z)(C:Lb u=Z)(A:z'.tmps.size=z.tmps.size)(x:z'.defers=z.defers)
 (E:∀(i:Nat) o d,Ph i=Z->ops[i]? =I o->o.dst=I d->aW z' d=aW z d) {v:U} (D:∀d,o.dst=I d->d<z'.tmps.size/\aW z' d=v):cI ops Lb a0 z' (l.setIfInBounds u Z) (a.put o.dst v):=by
 obtain⟨j,g,_,_,t⟩:=mem_ready y;rw[f] at g;cases g;have e:cI ops Lb a0 z' l a:=⟨c.size,c.closed,λi n=>r i (c.ph i n),c.QG.trans A.symm,c.R7.trans x.symm,λs h=>by
  have B:=h;obtain⟨i,j,e,p,q⟩:=B;rw[E i j s (c.ph i e) p q];exact c.yes s h,c.no⟩
 exact e.next C f t D
def KS(n:Nat):E5 (U3 n T7)<=n:=by
 unfold E5;exact Uy (List.countP_le_length) (by simp)
end
section
variable {P0 P:Uf}{S own:Nat->Prop}{a:V6}{o:Vu}{w w1:F}
def EvW.read{e:Vm}{b:UJ}(h:e.loc= .cell b)(d:e.write=T7)(c:S b.block\/own b.block):EvW S own e:=by
 unfold EvW;rw[h];exact c.elim (λf=>.inr ⟨f,d⟩) .inl
def nZ(e:RelB (λb=>S b\/own b) w w1){c:UJ}(d:S c.block\/own c.block):w1.cell? c=w.cell? c:=by
 unfold Us;rw[e.at_ c.block d]
def bZ{t:Uh}{x:U6}{c:UJ}{v:U}(i:o.op= .load t x)(j:a.eval x= .pointer (I c))(f:∀w,(isAgg t).run P w= .ok T7 w)(g:S c.block\/own c.block)(hc:w.cell? c=I v):∀w1,RelB (λb=>S b\/own b) w w1->(UH a.eval o).run P w1= .ok (.value v) w1/\∀e∈(UH a.eval o).events P w1 #[],EvW S own e:=by
 intro w1 k;have h:w1.cell? c=I v:=(nZ k g).trans hc;constructor
 ·unfold UH;simp[i,j,Instr.loadAt,Xd,loadVar,f,h]
 ·intro e d;unfold UH at d;simp[i,j,Instr.loadAt,Xd,loadVar,f,h] at d;subst d;exact EvW.read Y Y g
def fj{t:Uh}{x:U6}{c off:Nat}{cs:List U}{d:TypeDesc}(m:o.op= .load t x)(p:a.eval x= .pointer (I ⟨c,off,K⟩))(n:P.underlying t=I d)(A:d.isRow=Z)(l:(P.info? t).map (·.size)=I cs.length)(k:S c\/own c)(hc:w.rangeAt c off cs):∀w1,RelB (λb=>S b\/own b) w w1->(UH a.eval o).run P w1= .ok (.value (.agg cs.toArray)) w1/\∀e∈(UH a.eval o).events P w1 #[],EvW S own e:=by
 intro w1 E;have g:w1.rangeAt c off cs:=λf v i=>(nZ E k).trans (hc f v i);have D:=run_loadAt_mid (P:=P) w1 c off t cs d g n A l;constructor
 ·unfold UH;simp[m,p,D]
 ·intro e h;have z:(isAgg t).run P w1= .ok Z w1:=by
   unfold isAgg;rw[WJ,run_underlying n w1];cases d<;>simp_all
  obtain⟨L,C,G⟩:=Wq.1 l;have F:(sizeOf t).run P w1= .ok cs.length w1:=by simp[sizeOf,XC,C,G]
  unfold UH at h;simp only[m,p] at h;have B:e∈(loadCellsFrom ⟨c,off,K⟩ 0 cs.length #[]).events P w1 #[]:=by
   have j:∃q,(loadCells ⟨c,off,K⟩ cs.length).run P w1= .ok q w1:=⟨_,run_loadCells_list (P:=P) w1 ⟨c,off,K⟩ cs (λf v H=>by rw[Xc];exact g f v H)⟩;obtain⟨q,j⟩:=j;simpa [Instr.loadAt,Xd,loadVar,z,F,j,loadCells] using h
  rcases events_loadCellsFrom_at (P:=P) ⟨c,off,K⟩ (λb=>b=c) rfl cs.length 0 #[] w1 #[] (λf i=>by
   rw[Nat.zero_add,Xc,g f cs[f] (Um i)];rfl) e B with r|⟨J,s,u,y⟩
  ·simp at r
  ·exact EvW.read s u (by rw[y];exact k)
def uE{t:Uh}{x:U6}{v:U}(d:o.op= .box t x)(f:a.eval x=v):∀w1,RelB (λb=>S b\/own b) w w1->∃w',(UH a.eval o).run P w1= .ok (.value (.pointer (I ⟨w1.heap.size,0,K⟩))) w'/\w'.heap=w1.heap.push (.cells v.cells t)/\w'.tape=w1.tape/\w'.os=w1.os/\w'.output=w1.output/\∀e∈(UH a.eval o).events P w1 #[],jO w1.heap.size S own e:=by
 intro w1 g;refine⟨w1.alloc (.cells v.cells t),?_,rfl,rfl,rfl,rfl,?_⟩
 ·unfold UH;simp[d,f,Instr.box,newVar,newRow]
 ·intro e c;unfold UH at c;simp[d,f,Instr.box,newVar,newRow] at c
def sZ{t:Uh}{z:U}(d:o.op= .alloc t)(f:∀w,(Wn t).run P w= .ok z w):∀w1,RelB (λb=>S b\/own b) w w1->∃w',(UH a.eval o).run P w1= .ok (.value (.pointer (I ⟨w1.heap.size,0,K⟩))) w'/\w'.heap=w1.heap.push (.cells z.cells t)/\w'.tape=w1.tape/\w'.os=w1.os/\w'.output=w1.output/\∀e∈(UH a.eval o).events P w1 #[],jO w1.heap.size S own e:=by
 intro w1 g;refine⟨w1.alloc (.cells z.cells t),?_,rfl,rfl,rfl,rfl,?_⟩
 ·unfold UH;simp[d,Instr.alloc,f,newVar,newRow]
 ·intro e c;unfold UH at c;simp[d,Instr.alloc,f,newVar,newRow] at c
def vV{n:Nat}{f cs:Array U}{e:Uh}{b:Nat×Nat}(d:w1.heap[n]? =I (.cells f e b)):xI n (.cells cs e b) w1 (w1.setRow n cs):=by
 refine⟨?_,rfl,rfl,rfl⟩;unfold World.setRow;apply Array.ext_getElem?;intro h;simp only[Array.getElem?_modify,UP];by_cases c:n=h
 ·subst c;have g:=(Ub.1 d).1;rw[if_pos Y,if_pos Y,if_pos g,d];rfl
 ·simp[c]
def kZ{t:Uh}{x y:U6}{n off:Nat}{v:U}{d:Array U}{e:Uh}(l:o.op= .store t x y)(p:a.eval x= .pointer (I ⟨n,off,K⟩))(q:a.eval y=v)(D:(P.info? t).map (·.size)=I v.cells.size)(h1:∀c∈v.cells.toList,c.oneCell'=Z)(z:S n\/own n)(C:w.heap[n]? =I (.cells d e (0,0)))(j:off+v.cells.size<=d.size):
 ∀w1,RelB (λb=>S b\/own b) w w1->∃w',(UH a.eval o).run P w1= .ok .skip w'/\xI n (.cells (d.toList.take off++v.cells.toList++d.toList.drop (off+v.cells.size)).toArray e (0,0)) w1 w'/\∀f∈(UH a.eval o).events P w1 #[],jO n S own f:=by
 intro w1 E;have g:w1.heap[n]? =I (.cells d e (0,0)):=(E.at_ n z).trans C;obtain⟨F,k,m⟩:=Wq.1 D;have h:=run_storeCells_at P n off e v.cells.toList 0 d w1 g (by simpa using j) h1;have B:=events_storeCells_at (P:=P) n off e v.cells.toList 0 d w1 #[] g (by simpa using j) h1;simp only[Nat.add_zero,V9] at h;refine⟨_,?_,vV g,λf i=>?_⟩
 ·unfold UH;simp[l,p,q,Instr.storeAt,Xd,storeVar,sizeOf,XC,k,m,h]
 ·have A:f∈(storeCells ⟨n,off,K⟩ v.cells.toList 0).events P w1 #[]:=by
   unfold UH at i;simpa [l,p,q,Instr.storeAt,Xd,storeVar,sizeOf,XC,k,m,h] using i
  rcases B f A with s|⟨r,h1,u⟩
  ·simp at s
  ·exact .inr ⟨r,h1,.inl u⟩
def Cb{t e:Uh}{l c:U6}{d:Xg}{z:U}{kl h:Wx}{L C:Nat}(m:o.op= .makeSlice t l c)(k:a.eval l= .int kl (L:Int))(hc:a.eval c= .int h (C:Int))(n:P.underlying t=I (.slice e))(j:P.info? e=I d)(p:d.zero=I z)(v:L<=C)(r:C*d.bytes<=140737488355328)(u:C<=9223372036854775807):
 ∀w1,RelB (λb=>S b\/own b) w w1->∃w',(UH a.eval o).run P w1= .ok (.value (.slice (I ⟨w1.heap.size,0,K⟩) L C)) w'/\w'.heap=w1.heap.push (.cells (madeCells z.cells (C*d.size)) e)/\w'.tape=w1.tape/\w'.os=w1.os/\w'.output=w1.output/\∀e∈(UH a.eval o).events P w1 #[],jO w1.heap.size S own e:=by
 intro w1 x;have i:(d.bytes:Int)*(C:Int)<=281474976710656:=by
  rw[<-Int.natCast_mul,Nat.mul_comm];omega
 have g:=run_make (P:=P) w1 t e d z n j p kl h (L:Int) (C:Int) (by omega) (by omega) i (by omega);have q:=events_make (P:=P) w1 t e d z n j p kl h (L:Int) (C:Int) (by omega) (by omega) i (by omega) (by simpa using r) #[];simp only[Int.toNat_natCast] at g;refine⟨w1.alloc (.cells (madeCells z.cells (C*d.size)) e),?_,rfl,rfl,rfl,rfl,λs f=>?_⟩
 ·unfold UH;simp[m,k,hc,g]
 ·unfold UH at f;simp only[m,k,hc] at f;simp[g,q] at f
def Eg{t e:Uh}{p:ChanDir}{x:U6}{m:Xg}{k:Wx}{n:Nat}(h:o.op= .makeChan t x)(l:a.eval x= .int k (n:Int))(j:P.underlying t=I (.chan p e))(g:P.info? e=I m)(d:(n:Int)<=9223372036854775807)(f:(m.bytes:Int)*n<=281474976710544):
 ∀w1,RelB (λb=>S b\/own b) w w1->∃w',(UH a.eval o).run P w1= .ok (.value (.chan (I w1.heap.size))) w'/\w'.heap=w1.heap.push (.chan n #[] T7 0 0 T7)/\w'.tape=w1.tape/\w'.os=w1.os/\w'.output=w1.output/\∀e∈(UH a.eval o).events P w1 #[],jO w1.heap.size S own e:=by
 intro w1 s;have i:=run_makeChan (P:=P) (w:=w1) j g k n d f;have q:=events_makeChan (P:=P) (w:=w1) j g k n d f #[];refine⟨w1.alloc (.chan n #[] T7 0 0 T7),?_,rfl,rfl,rfl,rfl,λr c=>?_⟩
 ·unfold UH;simp[h,l,i]
 ·unfold UH at c;simp only[h,l] at c;simp[i,q] at c
end
structure Knows(a:V6)(n:Nat)(l:List (Nat×U)):Prop where
 size:a.tmps.size=n
 slot:∀s v,l.lookup s=I v->aW a s=v
def EK{a:V6}{d:Nat}(c:d<a.tmps.size)(v:U)(s:Nat):aW (a.put (I d) v) s=if d=s then v else aW a s:=by
 unfold aW UW;simp only[UD,UP];by_cases b:d=s
 ·subst b;simp[c]
 ·simp[b]
def size_put(a:V6)(d:Option Nat)(v:U):(a.put d v).tmps.size=a.tmps.size:=by
 unfold UW
 split<;>simp
def Knows.put{a:V6}{n:Nat}{l:List (Nat×U)}(h:Knows a n l){d:Nat}(f:d<n)(v:U):Knows (a.put (I d) v) n ((d,v)::l):=by
 refine⟨(size_put _ _ _).trans h.size,λs g b=>?_⟩;rw[EK (by rw[h.size];exact f)];simp only[List.lookup_cons] at b;by_cases c:d=s
 ·subst c;simp at b;simp[b]
 ·have:(s==d)=T7:=by simpa using λe=>c e.symm
  rw[this] at b;rw[if_neg c];exact h.slot s g b
def Knows.none{a:V6}{n:Nat}{l:List (Nat×U)}(h:Knows a n l)(v:U):Knows (a.put K v) n l:=h
def Knows.of{a:V6}{n:Nat}{l:List (Nat×U)}(h:Knows a n l){s:Nat}{v:U}(b:l.lookup s=I v):a.eval (.tmp s)=v:=h.slot s v b
section
variable {P:Uf}{a:V6}{o:Vu}
def cj{x:U6}{v:U}(c:o.op= .move x)(d:a.eval x=v):∀b,(UH a.eval o).run P b= .ok (.value v) b/\(UH a.eval o).events P b #[]=#[]:=λb=>by
 unfold UH;simp[c,d]
def kF{x:U6}{v:U}(c:o.op= .assign x)(d:a.eval x=v):∀b,(UH a.eval o).run P b= .ok (.value v) b/\(UH a.eval o).events P b #[]=#[]:=λb=>by
 unfold UH;simp[c,d]
def MW{t:Uh}{x:U6}{f d off:Nat}{e:Array Field}{c:Field}{n:Nat}(h:o.op= .fieldAddr t x f)(k:a.eval x= .pointer (I ⟨d,off,K⟩))(j:P.underlying t=I (.struct e))(g:e[f]? =I c)(i:∀w,(sizeOf c.type).run P w= .ok (n+1) w):
 ∀b,(UH a.eval o).run P b= .ok (.value (.pointer (I ⟨d,off+c.offset,K⟩))) b/\(UH a.eval o).events P b #[]=#[]:=λb=>by
 unfold UH;simp[h,k,Instr.fieldAt,run_underlying j,g,Xd,fieldPlace,i,Xc]
def fH{t e:Uh}{x y:U6}{d off len cap n:Nat}{k:Wx}{i:Nat}(g:o.op= .indexAddr t x y)(l:a.eval x= .slice (I ⟨d,off,K⟩) len cap)(m:a.eval y= .int k (i:Int))(j:P.underlying t=I (.slice e))(h:∀w,(sizeOf e).run P w= .ok n w)(p:i<len):
 ∀b,(UH a.eval o).run P b= .ok (.value (.pointer (I ⟨d,off+i*n,K⟩))) b/\(UH a.eval o).events P b #[]=#[]:=λb=>by
 have f:(i:Int)<(len:Int):=by omega
 unfold UH;simp[g,l,m,Instr.indexAt,asIntOf,run_underlying j,f,h,Xc];exact⟨λc=>absurd c (by omega),λc=>absurd c (by omega)⟩
def sn{t:Uh}{x:U6}{base:Option UJ}{len cap:Nat}{e:Uh}(c:o.op= .call {callee:=.builtin .len,args:= #[x],argTypes:= #[t]})(f:a.eval x= .slice base len cap)(d:P.underlying t=I (.slice e)):
 ∀b,(UH a.eval o).run P b= .ok (.value (.int .i64 (len:Int))) b/\(UH a.eval o).events P b #[]=#[]:=λb=>by
 unfold UH;simp[c,f,X6,invoke,builtin,Builtin.len_,run_underlying d,goInt]
def kG{x:U6}{i:Nat}{vs:Array U}{v:U}(c:o.op= .extract x i)(e:a.eval x= .tuple vs)(d:vs[i]? =I v):∀b,(UH a.eval o).run P b= .ok (.value v) b/\(UH a.eval o).events P b #[]=#[]:=λb=>by
 unfold UH;simp[c,e,Instr.extract,d]
def Is{x y z:U6}{c:Bool}(d:o.op= .pick x y z)(e:a.eval x= .bool c):∀b,(UH a.eval o).run P b= .ok (.value (if c then a.eval y else a.eval z)) b/\(UH a.eval o).events P b #[]=#[]:=λb=>by
 unfold UH;simp[d,e,asBool]
def Rp{t f:Uh}{x y:U6}{i j:Int}(c:o.op= .binOp .lss t x y f)(d:a.eval x= .int .i64 i)(e:a.eval y= .int .i64 j):∀b,(UH a.eval o).run P b= .ok (.value (.bool (decide (i<j)))) b/\(UH a.eval o).events P b #[]=#[]:=λb=>by
 unfold UH;simp[c,d,e,binOp,eqGuard,Op.intCmp]
def Ro{t f:Uh}{x y:U6}{i j:Int}(c:o.op= .binOp .eql t x y f)(d:a.eval x= .int .i64 i)(e:a.eval y= .int .i64 j):∀b,(UH a.eval o).run P b= .ok (.value (.bool (i==j))) b/\(UH a.eval o).events P b #[]=#[]:=λb=>by
 unfold UH;simp[c,d,e,binOp,eqGuard,Op.intCmp]
def Rq{t f:Uh}{x y:U6}{i j:Int}(c:o.op= .binOp .neq t x y f)(d:a.eval x= .int .i64 i)(e:a.eval y= .int .i64 j):∀b,(UH a.eval o).run P b= .ok (.value (.bool (i !=j))) b/\(UH a.eval o).events P b #[]=#[]:=λb=>by
 unfold UH;simp[c,d,e,binOp,eqGuard,Op.intCmp]
def nO{t f:Uh}{x y:U6}{i j:Nat}(c:o.op= .binOp .add t x y f)(d:a.eval x= .int .i64 (i:Int))(e:a.eval y= .int .i64 (j:Int))(g:i+j<=9223372036854775807):∀b,(UH a.eval o).run P b= .ok (.value (.int .i64 ((i+j:Nat):Int))) b/\(UH a.eval o).events P b #[]=#[]:=λb=>by
 have:XM.wrap ((i:Int)+(j:Int))=((i+j:Nat):Int):=by rw[WY]<;>omega
 unfold UH;simp[c,d,e,binOp,eqGuard,Op.intArith,this]
end
def below(P:Uf):Ut:={(default:Ut) with fn:=P.funcs.size,mode:=.panicking [goexitEntry]}
section
variable {P0 P:Uf}{S:Nat->Prop}{c:Nat}{own:Nat->Prop}{vs:List U}{cs:List Ut}{w:F}{b:Ut}{a:V6}{k:List WM}{ops:Array Vu}{i:Nat}{rest:List Nat}{o:Vu}
def Oa {f:V1} {fn:WC} {code:WV} {args:Array U} (e:P.funcs[f]? =I fn) (n:(fn.name == "runtime.NumGoroutine")=T7) (d:fn.body=I code) (h:pI P0 P S c own vs (Ug ((baseD f).at {tmps:=args++U3 (fn.ntmps-args.size) Vk,defers:=[]} [.code code]) [below P]) w):pI P0 P S c own vs (born P (dcall f args)) w:=by
 have q:∀w,UM P T7 (born P (dcall f args)) w= .go (Ug ((baseD f).at {tmps:=args++U3 (fn.ntmps-args.size) Vk,defers:=[]} [.code code]) [below P]) w #[]:=by
  intro w;have j:¬fn.name= "runtime.NumGoroutine" :=by simpa using n
  rw[<-enter_atD args e d];simp[born,UM,Yi,callDeferred,dcall,invoke,callFunc,e,j,d,WQ,seen_none,Ug,below];rfl
 exact KZ Y (λg _=>q g) (λr l=>by simp at l) (λg p=>h.rely p)
def IQ{ats:Array Uh}{ty:Uh}{co:Array Bool}{fn:WC}{todo:List WM}(v:b.kind= .deferred)(u:a.defers=[{target:=.builtin .close ats ty co,args:= #[.chan (I c)]}])(h:P.funcs[b.fn]? =I fn)(y:fn.results=#[])(x:fn.norace=T7):pI P0 P S c own [] (Ug {b.at a todo with mode:=.returning} [below P]) w:=by
 refine KY (n:=2) (g':=Ug {b.at ⟨a.tmps,[]⟩ todo with mode:=.returning} [below P]) Y ?_ ?_ ?_
 ·refine .inr ⟨rfl,Ug (below P) [],λw=>?_,.inr ⟨rfl,{Ug (below P) [] with status:=.finished},λw=>?_,rfl⟩⟩
  ·simp[Ug,UM,Yi,WZ,Frame.at,v,h,UX,y,seen,WQ,below,goexitEntry]
  ·have n:(default:Ut).defers=[]:=rfl;have p:(default:Ut).todo=[]:=rfl;simp[Ug,UM,Yi,below,Frame.catches,goexitEntry,n,p]
 ·simp[mayWake,Ug,Frame.at]
 ·intro d _ l j s z A e;have q:(invoke (.builtin .close ats ty co) #[.chan (I c)]).run P d= .ok (.value (.tuple #[])) (d.setChan c l j Z s z A):=by
   simp[go_sem,run_close_open _ _ e,World.setChan]
  have r:(invoke (.builtin .close ats ty co) #[.chan (I c)]).events P d #[]=#[⟨.obj c,T7,Z⟩,⟨.obj c,Z,Z⟩]:=by
   simp[go_sem,events_close_open _ _ e]
  have t:seen P b.fn #[⟨.obj c,T7,Z⟩,⟨.obj c,Z,Z⟩]=#[⟨.obj c,T7,Z⟩,⟨.obj c,Z,Z⟩]:=seen_eq (by simp[h,x]) (by intro B g f;simp only[List.mem_toArray,VM,List.not_mem_nil,or_false] at g;rcases g with rfl|rfl<;>simp);simp[Ug,UM,Yi,callDeferred,Frame.at,u,q,r,t,WQ]
def RN{x y:U6}{v:U}(j:b.kind≠.early)(e:ops[i]? =I o)(s:UF o (Vj ops a.tmps)=Z)(f:o.op= .send x y)(g:a.eval x= .chan (I c))(h:a.eval y=v)
 (n:pI P0 P S c own vs (Ug (b.at (a.put o.dst Vk) (.inRegion ops rest::k)) cs) w):pI P0 P S c own (v::vs) (Ug (b.at a (.inRegion ops (i::rest)::k)) cs) w:=by
 have r:Wi (Ug (b.at a (.inRegion ops (i::rest)::k)) cs) Vk=Ug (b.at (a.put o.dst Vk) (.inRegion ops rest::k)) cs:=by
  simp only[Wi,Ug,XG,e];rfl
 refine Ob (g2:=Ug (b.at a (.inRegion ops (i::rest)::k)) cs) (z:=.tuple #[]) Y λd p=>⟨?_,by rw[r];exact n.rely p⟩;have q:(UH a.eval o).run P d= .ok (.comm #[scase c v (.tuple #[])] Z .send) d:=by
  unfold UH;simp[f,g,h,scase]
 have l:(UH a.eval o).events P d #[]=#[]:=by
  unfold UH;simp[f,g,h]
 rw[stepG_comm e s j q];unfold listed;rw[l,seen_none]
end
section
variable {P0 P:Uf}{S:Nat->Prop}{m:Bool}{X0:(Nat->Prop)->Ut->List Ut->F->Prop}{own:Nat->Prop}{cs:List Ut}{w:F}{b:Ut}{a:V6}{k:List WM}{ops:Array Vu}{i:Nat}{rest:List Nat}{o:Vu}
def Ow(g:nQ P0 P S m X0)(h:b.kind≠.early)(e:ops[i]? =I o)(r:UF o (Vj ops a.tmps)=Z){d:Builtin}{x:U6}{v:U}{ats:Array Uh}(f:o.op= .defer {callee:=.builtin d,args:= #[x],argTypes:=ats})(s:a.eval x=v)
 (n:∀co,X0 own (b.at (UW ⟨a.tmps,{target:=.builtin d ats o.type co,args:= #[v]}::a.defers⟩ o.dst Vk) (.inRegion ops rest::k)) cs w):X0 own (b.at a (.inRegion ops (i::rest)::k)) cs w:=by
 refine kU g (λw=>?_) (n (#[x].map fun| .const _=>Z|_=>T7));have q:(UH a.eval o).run P w= .ok (.defer {target:=.builtin d ats o.type (#[x].map fun| .const _=>Z|_=>T7),args:= #[v]}) w:=by
  unfold UH;simp[f,X6,s];cases x<;>rfl
 have j:(UH a.eval o).events P w #[]=#[]:=by
  unfold UH;simp[f,X6]
 have l:(b.at ⟨a.tmps,{target:=.builtin d ats o.type (#[x].map fun| .const _=>Z|_=>T7),args:= #[v]}::a.defers⟩ (.inRegion ops (i::rest)::k)).finish Vk=b.at (UW ⟨a.tmps,{target:=.builtin d ats o.type (#[x].map fun| .const _=>Z|_=>T7),args:= #[v]}::a.defers⟩ o.dst Vk) (.inRegion ops rest::k):=by rw[XG,e];rfl
 have p:(b.kind==CallKind.early)=T7:=by simpa using h
 rw[stepG_oper e r,<-l];simp[VN,q,j,Ug,Frame.at,p,WQ,seen_none]
end
def fill (a:V6):List (Nat×U)->V6
 | []=>a
 |(c,v)::l=>(fill a l).put (I c) v
theorem kC(a:V6):∀l,(fill a l).tmps.size=a.tmps.size
 | []=>rfl
 |(c,v)::l=>(size_put _ _ _).trans (kC a l)
theorem ez(a:V6):∀l,(fill a l).defers=a.defers
 | []=>rfl
 |(c,v)::l=>ez a l
theorem Knows.fill{a:V6}{n:Nat}{l0:List (Nat×U)}(h:Knows a n l0):∀(l:List (Nat×U)),(l.all λp=>decide (p.1<n))=Z->Knows (fill a l) n (l++l0)
 | [],_=>h
 |(d,v)::l,c=>by
  simp only[List.all_cons,Uw,decide_eq_true_eq] at c;exact(Knows.fill h l c.2).put c.1 v
theorem l6(a:V6)(s:Nat):∀(l:List (Nat×U)),(l.all λp=>decide (p.1<a.tmps.size))=Z->aW (fill a l) s=(l.lookup s).getD (aW a s)
 | [],_=>rfl
 |(c,v)::l,e=>by
  simp only[List.all_cons,Uw,decide_eq_true_eq] at e;show aW ((fill a l).put (I c) v) s=_;rw[EK (by rw[kC];exact e.1),l6 a s l e.2,List.lookup_cons];by_cases d:c=s
  ·subst d;simp
  ·have:(s==c)=T7:=by simpa using λf=>d f.symm
   rw[this,if_neg d]
def jf (ops:Array Vu)(i:Nat):Option Nat:=(ops[i]?).bind (·.dst)
def gE (ops:Array Vu)(Ph:Nat->Bool)(u n:Nat)(ds:List Nat):Bool:=
 oI ops Ph&&PD ops Ph u&&ds.all (λc=>decide (c<n)&&(UK ops.size).any λa=>Ph a&&jf ops a==I c)&&(UK ops.size).all λa=> !Ph a||match jf ops a with
  |some c=>ds.contains c
  |none=>Z
theorem rH{s:Nat}:∀{l:List (Nat×U)},(l.map (·.1)).contains s=Z->∃v,l.lookup s=I v
 | [],a=>by simp at a
 |(c,v)::l,a=>by
  simp only[Xw,List.contains_cons,WT] at a;rw[List.lookup_cons];cases d:s==c with
  |true=>exact⟨v,rfl⟩
  |false=>
   rw[d] at a;exact rH (a.resolve_left (by simp))
theorem gQ{s:Nat}{v:U}:∀{l:List (Nat×U)},l.lookup s=I v->s∈l.map (·.1)
 | [],a=>by simp at a
 |(d,e)::l,a=>by
  rw[List.lookup_cons] at a;cases c:s==d with
  |true=>simp at c;simp[c]
  |false=>rw[c] at a;simp[gQ a]
section
variable {P0 P:Uf}{S:Nat->Prop}{m:Bool}{X0:(Nat->Prop)->Ut->List Ut->F->Prop}{own:Nat->Prop}{cs:List Ut}{w:F}{b:Ut}{a0:V6}{k:List WM}{ops:Array Vu}{Ph Dn:Nat->Bool}{u n:Nat}{l l0:List (Nat×U)}
def p9(g:gE ops Ph u n (l.map (·.1))=Z)(t:a0.tmps.size=n):oI ops Ph=Z/\PD ops Ph u=Z/\(l.all λp=>decide (p.1<a0.tmps.size))=Z/\(∀i o d,Ph i=Z->ops[i]? =I o->o.dst=I d->∃v,l.lookup d=I v/\d<a0.tmps.size)/\∀s,(∀(j:Nat) o,Ph j=Z->ops[j]? =I o->o.dst≠I s)->aW (fill a0 l) s=aW a0 s:=by
 unfold gE at g;simp only[Uw] at g;obtain⟨⟨⟨y,z⟩,A⟩,B⟩:=g;have e:=Uz.1 A;have r:(l.all λp=>decide (p.1<a0.tmps.size))=Z:=Uz.2 λp q=>by
  have:=e p.1 (U7.2 ⟨p,q,rfl⟩);simp only[Uw] at this;rw[t];exact this.1
 refine⟨y,z,r,λi o d q a c=>?_,λs C=>?_⟩
 ·have:=Uz.1 B i (Vt.2 (Ub.1 a).1);rw[q] at this;have h:jf ops i=o.dst:=by unfold jf;rw[a];rfl
  rw[h,c] at this;simp only[Bool.not_true,Bool.false_or] at this;obtain⟨v,x⟩:=rH this;refine⟨v,x,?_⟩;have:=e d (gQ x);simp only[Uw,decide_eq_true_eq] at this;rw[t];exact this.1
 ·rw[l6 a0 s l r];cases c:l.lookup s with
  |none=>rfl
  |some v=>
   exfalso
   have:=e s (gQ c);simp only[Uw] at this;obtain⟨i,D,f⟩:=List.any_eq_true.1 this.2;simp only[Uw,beq_iff_eq,jf] at f;obtain⟨o,a,h⟩:=UR.1 f.2;exact C i o f.1 a h
def kM(H:nQ P0 P S m X0)(K:b.kind≠.early)(q:Knows a0 n l0)(L:gE ops Ph u n (l.map (·.1))=Z)
 (T:Knows (fill a0 l) n (l++l0)->∀i o,Ph i=Z->Dn i=T7->i≠u->ops[i]? =I o->∃v,(o.dst.bind λd=>l.lookup d)=I v/\((UF o (Vj ops (fill a0 l).tmps)=Z/\∀h,RelB (λb=>S b\/own b) w h->(UH (fill a0 l).eval o).run P h= .ok (.value v) h/\∀e∈(UH (fill a0 l).eval o).events P h #[],EvW S own e)\/(UF o (Vj ops (fill a0 l).tmps)=T7/\v=Vk)))
 (U:∀o,ops[u]? =I o->∀g t c a,cI ops Ph a0 (fill a0 l) c a->u∈UZ .any ops c->E5 c<=g+1->(∀s∈o.looksAt ops,aW a s=aW (fill a0 l) s)->UF o (Vj ops a.tmps)=UF o (Vj ops (fill a0 l).tmps)->X0 own (b.at a (.inRegion ops (u::U9 .any ops g t (c.setIfInBounds u Z) [])::k)) cs w)
 (N:(∀i,i<ops.size->Ph i=Z)->Knows (fill a0 l) n (l++l0)->X0 own (b.at (fill a0 l) (.inRegion ops []::k)) cs w):
 ∀(g t:Nat) (c:Array Bool) (a:V6),cI ops Ph a0 (fill a0 l) c a->(∀i,Dn i=Z->c.getD i T7=Z)->E5 c<=g->X0 own (b.at a (.inRegion ops (U9 .any ops g t c [])::k)) cs w:=by
 obtain⟨j,F,z,G,p⟩:=p9 (a0:=a0) L q.size;have A:=q.fill l (by rw[<-q.size];exact z);refine Ox H K (val:=λi=>((jf ops i).bind λd=>l.lookup d).getD Vk) j F (λi o d x f C=>?_) p (λi o x M O f=>?_) (λg t c a r D R=>?_) (λJ=>N J A)
 ·obtain⟨v,y,Q⟩:=G i o d x f C;have e:jf ops i=I d:=by unfold jf;rw[f];exact C
  refine⟨by rw[kC];exact Q,?_⟩;rw[l6 a0 d l z,e];simp[y]
 ·obtain⟨v,y,E⟩:=T A i o x M O f;have e:jf ops i=o.dst:=by unfold jf;rw[f];rfl
  rw[e,y];exact E
 ·obtain⟨o,f,_,_,B⟩:=mem_ready D;exact U o f g t c a r D R (r.looks j p f B) (r.exec j p f B).2
def cI.Ie{Lb:Nat->Bool}{g:Array Bool}{a:V6}{o:Vu}{l2:List (Nat×U)}(B:cI ops Ph a0 (fill a0 l) g a)(F:u∈UZ .any ops g)(E:ops[u]? =I o)(e:a0.tmps.size=n)(z:gE ops Ph u n (l.map (·.1))=Z)(h:((l2++l).all λp=>decide (p.1<n))=Z)
 (y:∀i,Ph i=Z->Lb i=Z) (G:Lb u=Z) (A:((UK ops.size).all λi=> !Ph i||match jf ops i with|some d=> !(l2.map (·.1)).contains d|none=>Z)=Z) {v:U} (H:∀d,o.dst=I d->(l2++l).lookup d=I v):cI ops Lb a0 (fill a0 (l2++l)) (g.setIfInBounds u Z) (a.put o.dst v):=by
 obtain⟨J,L,x,M,N⟩:=p9 (a0:=a0) z e;have j:((l2++l).all λp=>decide (p.1<a0.tmps.size))=Z:=by rw[e];exact h
 refine B.TD F E y G (by rw[kC,kC]) (by rw[ez,ez]) (λi O d f r c=>?_) (λd c=>?_)
 ·rw[l6 a0 d _ j,l6 a0 d l x];have:=Uz.1 A i (Vt.2 (Ub.1 r).1);have s:jf ops i=I d:=by unfold jf;rw[r];exact c
  rw[f,s] at this;simp only[Bool.not_true,Bool.false_or,WO] at this;have D:l2.lookup d=K:=by
   cases t:l2.lookup d with
   |none=>rfl
   |some Q=>
    have:=List.contains_iff_mem.2 (gQ t);simp_all
  rw[List.lookup_append,D];rfl
 ·have q:=H d c;refine⟨?_,by rw[l6 a0 d _ j,q];rfl⟩;rw[kC,e];have:=Uz.1 h;have C:=gQ q;obtain⟨p,f,rfl⟩:=U7.1 C;simpa using this p f
def under(ops:Array Vu):Nat->List Nat->List Nat
 |0,l=>l
 |n+1,l=>l++under ops n (l.flatMap λc=>match ops[c]? with
  |some d=>(d.after.toList.filter λa=>Vn .any a).map (·.on)
  |none=>[])
theorem tK{z:V6}{o:Array Bool}{a:V6}(p:cI ops Ph a0 z o a):∀(n:Nat) (l:List Nat),(∀i∈l,o.getD i T7=Z)->∀j∈under ops n l,o.getD j T7=Z
 |0,l,e,j,c=>e j c
 |n+1,l,e,j,c=>by
  rcases List.mem_append.1 c with c|c
  ·exact e j c
  ·refine tK p n _ (λi d=>?_) j c;obtain⟨h,r,d⟩:=List.mem_flatMap.1 d;cases g:ops[h]? with
   |none=>rw[g] at d;simp at d
   |some t=>
    rw[g] at d;obtain⟨q,f,rfl⟩:=U7.1 d;obtain⟨f,s⟩:=List.mem_filter.1 f;exact p.closed h t (e h r) g q (by simpa using f) s
def gG{z:V6}{f:Array Bool}{a:V6}(g:cI ops Ph a0 z f a)(y:u∈UZ .any ops f){j:Nat}(s:((UK ops.size).all λi=> !Dn i||i==u||(under ops j (match ops[u]? with
 |some o=>(o.after.toList.filter λe=>Vn .any e).map (·.on)
 |none=>[])).contains i)=Z) (p:∀i,Dn i=Z->i<ops.size):∀i,Dn i=Z->(f.setIfInBounds u Z).getD i T7=Z:=by
 intro i h;obtain⟨o,x,v,_,q⟩:=mem_ready y;rw[kY (by rw[g.size];exact v)];have:=Uz.1 s i (Vt.2 (p i h));rw[h,x] at this;simp only[Bool.not_true,Bool.false_or,WT,beq_iff_eq] at this;rcases this with c|c
 ·simp[c]
 ·rw[tK g _ _ (λA t=>by
   obtain⟨e,d,rfl⟩:=U7.1 t;obtain⟨d,r⟩:=List.mem_filter.1 d;exact q e (by simpa using d) r) i (List.contains_iff_mem.1 c)]
  simp
def qC(e:nQ P0 P S m X0){id:Nat}(f:P.follows .mixedOrders=Z)(h:∀(d t:Nat) (c:Array Bool) (a:V6),cI ops Ph a0 (fill a0 l) c a->(∀i,(λ_=>T7) i=Z->c.getD i T7=Z)->E5 c<=d->X0 own (b.at a (.inRegion ops (U9 .any ops d t c [])::k)) cs w):X0 own (b.at a0 (.code (.region id ops Z)::k)) cs w:=
 QZ e f λt=>h _ t _ _ (cI.start a0 _ (kC _ _).symm (ez _ _).symm) (λi h=>by cases h) (KS _)
def Pc{a:Array Bool}(h:∀i,i<ops.size->a.getD i T7=Z):∀d t,U9 .any ops d t a []=[]:=by
 have o:UZ .any ops a=[]:=by
  refine List.eq_nil_iff_forall_not_mem.2 λi g=>?_;obtain⟨p,_,j,e,_⟩:=mem_ready g;have c:=h i j;simp only[UD] at c e;cases f:a[i]? with
  |none=>rw[f] at c;cases c
  |some b=>rw[f] at c e;simp at c e;rw[c] at e;cases e
 intro d t;cases d with
 |zero=>rfl
 |succ d=>
  simp only[U9];change (match (UZ .any ops a)[t%(UZ .any ops a).length]? with
   |some i=>U9 .any ops d (t/(UZ .any ops a).length) (a.setIfInBounds i Z) [i]
   |none=>[].reverse)=[]
  rw[o];rfl
def n9{c:Array Bool}{a:V6}(e:cI ops Ph a0 (fill a0 l) c a)(r:u∈UZ .any ops c)(s:Ph u=T7)(q:a0.tmps.size=n)(h:gE ops Ph u n (l.map (·.1))=Z)(d:∀i,i<ops.size->(c.setIfInBounds u Z).getD i T7=Z):a=fill a0 l/\∀f t,U9 .any ops f t (c.setIfInBounds u Z) []=[]:=by
 obtain⟨v,x,y,z,g⟩:=p9 (a0:=a0) h q;obtain⟨_,_,p,_,_⟩:=mem_ready r;refine⟨e.QT g s λi j o=>?_,Pc d⟩;have:=d i j;rw[kY (by rw[e.size];exact p)] at this;simpa [o] using this
end
def RelB.mono{B B':Nat->Prop}{w w1:F}(h:RelB B w w1)(c:∀b,B' b->B b):RelB B' w w1:=⟨λb d=>h.at_ b (c b d),h.size,h.tape,h.os,h.output⟩
section
variable {P0 P:Uf}{Post:U->F->Prop}{S O:Nat->Prop}{μ:Nat->Option (List U)}{cs:List Ut}{w:F}{b:Ut}{a:V6}{k:List WM}{ops:Array Vu}{i:Nat}{rest:List Nat}{o:Vu}
def ku.rely{w1:F}{g:UL}(h:ku P0 P Post S O μ g w)(c:RelB (λb=>S b\/O b) w w1):ku P0 P Post S O μ g w1:=by
 obtain⟨d,h⟩:=h;exact⟨d,h.j7 c⟩
def Bl(v:U)(c:ops[i]? =I o):Wi (Ug (b.at a (.inRegion ops (i::rest)::k)) cs) v=Ug (b.at (a.put o.dst v) (.inRegion ops rest::k)) cs:=by
 simp only[Wi,Ug,XG,c];rfl
def Bs{m:Bool}{t e:Uh}{j:ChanDir}{x:U6}{c:Nat}{z:U}(l:b.kind≠.early)(p:ops[i]? =I o)(r:UF o (Vj ops a.tmps)=Z)(d:o.op= .recv t x Z)(f:P.underlying t=I (.chan j e))(h:∀w,(Wn e).run P w= .ok z w)(s:∀w,(Wn e).events P w #[]=#[])(g:a.eval x= .chan (I c))(w:F):
 UM P m (Ug (b.at a (.inRegion ops (i::rest)::k)) cs) w= .comm (Ug (b.at a (.inRegion ops (i::rest)::k)) cs) #[rcase c z] Z (.recv Z) w #[]:=by
 have q:(UH a.eval o).run P w= .ok (.comm #[rcase c z] Z (.recv Z)) w:=by
  unfold UH;simp[d,g,run_underlying f,h,rcase]
 have n:(UH a.eval o).events P w #[]=#[]:=by
  unfold UH;simp[d,g,run_underlying f,h,s]
 rw[stepG_comm p r l q];unfold listed;rw[n,seen_none]
def Rf{t e:Uh}{f:ChanDir}{x:U6}{c:Nat}{z v:U}{l:List U}(g:b.kind≠.early)(d:ops[i]? =I o)(p:UF o (Vj ops a.tmps)=Z)(j:o.op= .recv t x Z)(n:P.underlying t=I (.chan f e))(r:∀w,(Wn e).run P w= .ok z w)(s:∀w,(Wn e).events P w #[]=#[])(q:a.eval x= .chan (I c))(u:μ c=I (v::l))
 (h:ku P0 P Post S O (gd μ c (I l)) (Ug (b.at (a.put o.dst (recvd Z v Z)) (.inRegion ops rest::k)) cs) w):ku P0 P Post S O μ (Ug (b.at a (.inRegion ops (i::rest)::k)) cs) w:=
 MO (g2:=Ug (b.at a (.inRegion ops (i::rest)::k)) cs) (z:=z) u ⟨rfl,rfl,rfl⟩ λw1 m=>⟨Bs g d p j n r s q w1,by rw[Bl _ d];exact h.rely m⟩
def Rg{t e:Uh}{f:ChanDir}{x:U6}{c:Nat}{z:U}(g:b.kind≠.early)(d:ops[i]? =I o)(n:UF o (Vj ops a.tmps)=Z)(j:o.op= .recv t x Z)(m:P.underlying t=I (.chan f e))(q:∀w,(Wn e).run P w= .ok z w)(r:∀w,(Wn e).events P w #[]=#[])(p:a.eval x= .chan (I c))(s:μ c=I [])
 (h:ku P0 P Post S O (gd μ c K) (Ug (b.at (a.put o.dst (recvd Z z T7)) (.inRegion ops rest::k)) cs) w):ku P0 P Post S O μ (Ug (b.at a (.inRegion ops (i::rest)::k)) cs) w:=
 MP (g2:=Ug (b.at a (.inRegion ops (i::rest)::k)) cs) (z:=z) s ⟨rfl,rfl,rfl⟩ λw1 l=>⟨Bs g d n j m q r p w1,by rw[Bl _ d];exact h.rely l⟩
def Pe{f:V1}{d:Array U6}{ats:Array Uh}{args:Array U}{c cap:Nat}{vs:List U}(q:b.kind≠.early)(u:ops[i]? =I o)(x:UF o (Vj ops a.tmps)=Z)(g:o.op= .go {callee:=.value (.func f),args:=d,argTypes:=ats})(n:d.map a.eval=args)(l:O c)(t:vs.length<=cap)(y:μ c=K)(hc:w.heap[c]? =I (.chan cap #[] T7 0 0 T7))
 (m:∀w1,RelB (λb=>S b\/O b) w w1->pI P0 P S c (λ_=>False) vs (born P (dcall f args)) w1)
 (s:ku P0 P Post S (λb=>O b/\b≠c) (gd μ c (I vs)) (Ug (b.at (a.put o.dst Vk) (.inRegion ops rest::k)) cs) w):ku P0 P Post S O μ (Ug (b.at a (.inRegion ops (i::rest)::k)) cs) w:=by
 have e:a.eval (.func f)= .func (.func f) #[] #[]:=rfl;refine JQ l t y hc λw1 j=>⟨_,_,?_,rfl,m w1 j,s.rely (j.mono λb p=>p.imp (λh=>h) (λh=>h.1))⟩;have v:(UH a.eval o).run P w1= .ok (.spawn (dcall f args)) w1:=by
  unfold UH;simp[g,X6,XN,e,dcall,n]
 have r:(UH a.eval o).events P w1 #[]=#[]:=by
  unfold UH;simp[g,X6,XN,e]
 rw[stepG_spawn u x q v Y];unfold listed;rw[r,seen_none]
end
section
variable {P0 P:Uf}{S own:Nat->Prop}{a:V6}{o:Vu}{w w1:F}
def JX{t e:Uh}{i:Xg}{z:U}{x y:U6}{g L C:Nat}{f:Array U}{d:UJ}{c:Nat}{news:List U}(B:o.op= .call {callee:=.builtin .append,args:= #[x,y],argTypes:= #[t,t]})(H:a.eval x= .slice (I ⟨g,0,K⟩) L C)(J:a.eval y= .slice (I d) 1 c)
 (G:P.underlying t=I (.slice e)) (v:P.info? e=I i) (am:i.zero=I z) (W:w.heap[g]? =I (.cells f e (0,0))) (X:S g\/own g) (r:S d.block\/own d.block) (p:news.length=i.size) (ad:∀j u,news[j]? =I u->w.cell? (d.add j)=I u) (Q:∀j,(d.add j).block=d.block) (h1:∀u∈news,u.oneCell'=Z)
 (E:L+1<=C) (F:f.size=C*i.size) (ao:C<=1000000) (R:i.bytes<=1000):
 ∀w1,RelB (λb=>S b\/own b) w w1->∃w',(UH a.eval o).run P w1= .ok (.value (.slice (I ⟨g,0,K⟩) (L+1) C)) w'/\xI g (.cells (f.toList.take (L*i.size)++news++f.toList.drop (L*i.size+news.length)).toArray e (0,0)) w1 w'/\∀l∈(UH a.eval o).events P w1 #[],jO g S own l:=by
 intro w1 D;have n:w1.heap[g]? =I (.cells f e (0,0)):=(D.at_ g X).trans W;have A:∀j u,news[j]? =I u->w1.cell? (d.add j)=I u:=λj u aa=>(nZ D (by rw[Q];exact r)).trans (ad j u aa);have V:L*i.size+news.length<=f.size:=by
  rw[F,p];have:=Nat.mul_le_mul_right i.size E;rw[Nat.add_mul,Nat.one_mul] at this;exact this
 have al:=run_append_room (P:=P) (w:=w1) t o.type e i G v g L C f n d 1 c news (by rw[p,Nat.one_mul]) A h1 E V;have ap:1000000<=Uq:=by decide
 have ae:w1.ownsRow 0 e i.size (.slice (I ⟨g,0,K⟩) L C) L (f.toList.take (L*i.size)):=by
  refine⟨?_,.inr ⟨g,C,f,rfl,UE _,n,by omega,?_,F,rfl⟩⟩
  ·rw[Vs,V9];omega
  ·omega
 have T:=events_append_where (P:=P) w1 0 t o.type e i z i.size i.bytes G v am Y Y (.slice (I ⟨g,0,K⟩) L C) L _ ae d 1 c news (by rw[p,Nat.one_mul]) A h1 (by omega) (by
  have:(L+1)*i.bytes<=1000000*1000:=Nat.mul_le_mul (by omega) R;omega)
 refine⟨_,?_,vV n,λl s=>?_⟩
 ·unfold UH;simp[B,H,J,X6,invoke,builtin,al]
 ·rw[events_append_op x y t B H J] at s;rcases T l s with⟨q,h1,h⟩|⟨m,rfl,ab⟩
  ·rcases h with⟨h,N⟩|h
   ·refine .inr ⟨q,h1,?_⟩;rw[N];exact .inr (r.elim (λM=>.inr ⟨M,h⟩) .inl)
   ·refine .inr ⟨q,h1,.inl ?_⟩;simpa [Vz] using h
  ·exact .inl ⟨m,rfl,ab⟩
def JY{t e:Uh}{i:Xg}{h j l v0 v1 v2:U}{x:U6}(p:o.op= .buildSlice t 1 #[(0,x)])(s:a.eval x= .agg #[v0,v1,v2])(r:P.underlying t=I (.slice e))(n:P.info? e=I i)(u:i.zero=I (.agg #[h,j,l]))(c:i.size=3):
 ∀w1,RelB (λb=>S b\/own b) w w1->∃w',(UH a.eval o).run P w1= .ok (.value (.slice (I ⟨w1.heap.size,0,K⟩) 1 1)) w'/\w'.heap=w1.heap.push (.cells #[v0,v1,v2] e)/\w'.tape=w1.tape/\w'.os=w1.os/\w'.output=w1.output/\∀m∈(UH a.eval o).events P w1 #[],jO w1.heap.size S own m:=by
 intro w1 A;have g:X7 (λd=>I (d*i.size,i.size)) ((Yp (1*i.size)).map ((Value.agg #[h,j,l]).cells[· % (Value.agg #[h,j,l]).cells.size]!)) #[(0,Value.agg #[v0,v1,v2])].toList=I #[v0,v1,v2]:=by
  rw[c];simp[X7,Value.cells,Yp,Array.zipIdx];apply Array.ext
  ·simp
  ·intro d z v;simp at v;have:d=0\/d=1\/d=2:=by omega
   rcases this with rfl|rfl|rfl<;>simp
 have q:=run_buildSlice (P:=P) w1 t e 1 #[(0,.agg #[v0,v1,v2])] #[v0,v1,v2] i _ r n u (by rw[c];decide) (by rw[c];decide) g;refine⟨w1.alloc (.cells #[v0,v1,v2] e),?_,rfl,rfl,rfl,rfl,λm f=>?_⟩
 ·unfold UH;simp[p,s,q]
 ·have y:(XO t 1 #[(0,.agg #[v0,v1,v2])]).events P w1 #[]=#[]:=by
   simp only[List.toArray,Nat.one_mul,c] at g;simp[XO,run_underlying r,sizeOf,XC,Wn,n,u,c,g,newRow]
  unfold UH at f;simp only[p] at f;simp[s,q,y] at f
end
def put_defers(a:V6)(d:Option Nat)(v:U):(a.put d v).defers=a.defers:=by
 unfold UW
 split<;>rfl
def Knows.nil{a:V6}{n:Nat}{l:List (Nat×U)}(h:Knows a n l):Knows a n []:=⟨h.size,λs v c=>by simp at c⟩
def Knows.defer{a:V6}{n:Nat}{l:List (Nat×U)}(h:Knows a n l)(ds:List Wj)(v:U):Knows (UW ⟨a.tmps,ds⟩ K v) n l:=⟨h.size,h.slot⟩
def Knows.cons{a:V6}{n:Nat}{l:List (Nat×U)}(h:Knows a n l){s:Nat}{v:U}(f:aW a s=v):Knows a n ((s,v)::l):=⟨h.size,λe g c=>by
 rw[List.lookup_cons] at c;cases d:e==s with
 |true=>
  rw[d] at c;cases c;rw[beq_iff_eq] at d;rw[d];exact f
 |false=>rw[d] at c;exact h.slot e g c⟩
def Knows.four{a:V6}{n:Nat}{l:List (Nat×U)}(h:Knows a n l){c d e f:Nat}{v1 v2 g j:U}(h1:l.lookup c=I v1)(p:l.lookup d=I v2)(q:l.lookup e=I g)(r:l.lookup f=I j):Knows a n [(c,v1),(d,v2),(e,g),(f,j)]:=(((h.nil.cons (h.slot f _ r)).cons (h.slot e _ q)).cons (h.slot d _ p)).cons (h.slot c _ h1)
section
variable {P0 P:Uf}{S:Nat->Prop}{m:Bool}{X0:(Nat->Prop)->Ut->List Ut->F->Prop}{own:Nat->Prop}{cs:List Ut}{w:F}{b:Ut}{a:V6}{k:List WM}{ops:Array Vu}
def bq(c:nQ P0 P S m X0){id:Nat}(l:List Nat)(e:UK ops.size=l)(d:X0 own (b.at a (.inRegion ops l::k)) cs w):X0 own (b.at a (.code (.region id ops T7)::k)) cs w:=LF c (by rw[e];exact d)
variable {i:Nat}{rest:List Nat}{o:Vu}
def rf(g:nQ P0 P S m X0){n:Nat}{l:List (Nat×U)}(f:Knows a n l)(s:ops[i]? =I o)(v:U)(h:∀c,RelB (λb=>S b\/own b) w c->(UH a.eval o).run P c= .ok (.value v) c/\∀e∈(UH a.eval o).events P c #[],EvW S own e){d:Nat}
 (q:Knows (a.put (I d) v) n ((d,v)::l)->X0 own (b.at (a.put (I d) v) (.inRegion ops rest::k)) cs w) (p:o.dst=I d:=by rfl) (r:d<n:=by decide) (j:b.kind≠.early:=by decide) (t:UF o (Vj ops a.tmps)=Z:=by rfl):X0 own (b.at a (.inRegion ops (i::rest)::k)) cs w:=
 ox g j s t v h (by rw[p];exact q (f.put r v))
def dD(f:nQ P0 P S m X0){n:Nat}{l:List (Nat×U)}(e:Knows a n l)(r:ops[i]? =I o)(v:U)(h:∀c,(UH a.eval o).run P c= .ok (.value v) c/\(UH a.eval o).events P c #[]=#[]){d:Nat}
 (p:Knows (a.put (I d) v) n ((d,v)::l)->X0 own (b.at (a.put (I d) v) (.inRegion ops rest::k)) cs w) (j:o.dst=I d:=by rfl) (q:d<n:=by decide) (g:b.kind≠.early:=by decide) (s:UF o (Vj ops a.tmps)=Z:=by rfl):X0 own (b.at a (.inRegion ops (i::rest)::k)) cs w:=
 mC f g r s v h (by rw[j];exact p (e.put q v))
def cH(e:nQ P0 P S m X0){n:Nat}{l:List (Nat×U)}(c:Knows a n l){d s:Nat}{v:U}(h:Knows (a.put (I d) v) n ((d,v)::l)->X0 own (b.at (a.put (I d) v) (.inRegion ops rest::k)) cs w)(q:ops[i]? =I o:=by rfl)(r:o.op= .move (.tmp s):=by rfl)(j:l.lookup s=I v:=by rfl)(g:o.dst=I d:=by rfl)(p:d<n:=by decide)(f:b.kind≠.early:=by decide)(t:UF o (Vj ops a.tmps)=Z:=by rfl):X0 own (b.at a (.inRegion ops (i::rest)::k)) cs w:=
 dD e c q v (cj r (c.of j)) h g p f t
def gX(e:nQ P0 P S m X0){n:Nat}{l:List (Nat×U)}(c:Knows a n l){d s:Nat}{v:U}(h:Knows (a.put (I d) v) n ((d,v)::l)->X0 own (b.at (a.put (I d) v) (.inRegion ops rest::k)) cs w)(q:ops[i]? =I o:=by rfl)(r:o.op= .assign (.tmp s):=by rfl)(j:l.lookup s=I v:=by rfl)(g:o.dst=I d:=by rfl)(p:d<n:=by decide)(f:b.kind≠.early:=by decide)(t:UF o (Vj ops a.tmps)=Z:=by rfl):X0 own (b.at a (.inRegion ops (i::rest)::k)) cs w:=
 dD e c q v (kF r (c.of j)) h g p f t
def m0(e:nQ P0 P S m X0){n:Nat}{l:List (Nat×U)}(c:Knows a n l){d:Nat}(v:U)(h:Knows (a.put (I d) v) n ((d,v)::l)->X0 own (b.at (a.put (I d) v) (.inRegion ops rest::k)) cs w)(p:ops[i]? =I o:=by rfl)(q:o.op= .assign (.const v):=by rfl)(g:o.dst=I d:=by rfl)(j:d<n:=by decide)(f:b.kind≠.early:=by decide)(r:UF o (Vj ops a.tmps)=Z:=by rfl):X0 own (b.at a (.inRegion ops (i::rest)::k)) cs w:=
 dD e c p v (kF q Y) h g j f r
def ri(e:nQ P0 P S m X0){n:Nat}{l:List (Nat×U)}(c:Knows a n l){d s j:Nat}{vs:Array U}{v:U}(h:Knows (a.put (I d) v) n ((d,v)::l)->X0 own (b.at (a.put (I d) v) (.inRegion ops rest::k)) cs w)(r:ops[i]? =I o:=by rfl)(t:o.op= .extract (.tmp s) j:=by rfl)(p:l.lookup s=I (.tuple vs):=by rfl)(u:vs[j]? =I v:=by rfl)(g:o.dst=I d:=by rfl)(q:d<n:=by decide)(f:b.kind≠.early:=by decide)(x:UF o (Vj ops a.tmps)=Z:=by rfl):X0 own (b.at a (.inRegion ops (i::rest)::k)) cs w:=
 dD e c r v (kG t (c.of p) u) h g q f x
end
section
variable {P:Uf}{a:V6}{o:Vu}
def dj{t:Uh}{x:U6}{f e off off':Nat}{g:Array Field}{c:Field}{n:Nat}(l:o.op= .fieldAddr t x f)(r:a.eval x= .pointer (I ⟨e,off,K⟩))(q:P.underlying t=I (.struct g))(h:g[f]? =I c)(p:∀w,(sizeOf c.type).run P w= .ok (n+1) w)(j:off+c.offset=off'):
 ∀d,(UH a.eval o).run P d= .ok (.value (.pointer (I ⟨e,off',K⟩))) d/\(UH a.eval o).events P d #[]=#[]:=by
 subst j;exact MW l r q h p
def yM{x y z:U6}{v:U}(d:o.op= .pick x y z)(f:a.eval x= .bool Z)(e:a.eval y=v):∀c,(UH a.eval o).run P c= .ok (.value v) c/\(UH a.eval o).events P c #[]=#[]:=by
 subst e;exact Is d f
def yL{x y z:U6}{v:U}(d:o.op= .pick x y z)(f:a.eval x= .bool T7)(e:a.eval z=v):∀c,(UH a.eval o).run P c= .ok (.value v) c/\(UH a.eval o).events P c #[]=#[]:=by
 subst e;exact Is d f
def jx{t h:Uh}{x y:U6}{i j:Int}{c:Bool}(e:o.op= .binOp .lss t x y h)(f:a.eval x= .int .i64 i)(g:a.eval y= .int .i64 j)(hc:decide (i<j)=c):∀d,(UH a.eval o).run P d= .ok (.value (.bool c)) d/\(UH a.eval o).events P d #[]=#[]:=by
 subst hc;exact Rp e f g
def qK{t h:Uh}{x y:U6}{i j:Int}{c:Bool}(e:o.op= .binOp .neq t x y h)(f:a.eval x= .int .i64 i)(g:a.eval y= .int .i64 j)(hc:(i !=j)=c):∀d,(UH a.eval o).run P d= .ok (.value (.bool c)) d/\(UH a.eval o).events P d #[]=#[]:=by
 subst hc;exact Rq e f g
end
structure Li(S O O':Nat->Prop)(w w':F):Prop where
 sub:∀b,O b->O' b
 new:∀b,O' b->O b\/w.heap.size<=b
 rel:RelB (λb=>S b\/O b) w w'
 inr:tQ S O' w'
def j6{P:Uf}{fn:WC}{a:V6}{t:Nat}{v:U}(d:fn.results=#[.tmp t])(c:aW a t=v):(∀w,(UX fn a.tmps).run P w= .ok v w)/\∀w,(UX fn a.tmps).events P w #[]=#[]:=by
 unfold aW at c;rw[UD] at c;constructor<;>intro w<;>simp[UX,d,c]
def gI{P:Uf}{fn:WC}{a:V6}{t u:Nat}{v x:U}(e:fn.results=#[.tmp t,.tmp u])(c:aW a t=v)(d:aW a u=x):(∀w,(UX fn a.tmps).run P w= .ok (.tuple #[v,x]) w)/\∀w,(UX fn a.tmps).events P w #[]=#[]:=by
 unfold aW at c d;rw[UD] at c d;constructor<;>intro w<;>simp[UX,e,c,d]
end Cc
namespace Ec
open Go.RowKit Pk Pm
def py (cs:List bL):Prop:=∀a (b:a<cs.length),cs[a].name=nameOf a/\(cs[a].kind=1\/cs[a].kind=2\/cs[a].kind=3)
def py.snoc{cs:List bL}(h:py cs){k:Int}(c:k=1\/k=2\/k=3):py (cs++[⟨nameOf cs.length,k⟩]):=by
 intro a b;rw[List.getElem_append]
 split
 ·exact h a _
 ·have:a=cs.length:=by simp at b;omega
  subst this;simpa using c
def lP (x:Int):Prop:= -9223372036854775808<=x/\x<=9223372036854775807
def Te (fn:WC):WV:=match fn.body with|some (.seq _ (.seq _ (.seq a _)))=>a|_=>.skip
def SR (fn:WC):WV:=match fn.body with|some (.seq _ (.seq _ (.seq _ (.seq a _))))=>a|_=>.skip
def Tg (fn:WC):WV:=match fn.body with|some (.seq _ (.seq _ (.seq _ (.seq _ (.seq a _)))))=>a|_=>.skip
def Tf (fn:WC):WV:=match fn.body with|some (.seq _ (.seq _ (.seq _ (.seq _ (.seq _ (.seq a _))))))=>a|_=>.skip
def Ti (fn:WC):WV:=match fn.body with|some (.seq _ (.seq _ (.seq _ (.seq _ (.seq _ (.seq _ (.seq a _)))))))=>a|_=>.skip
def Am{a:V6}{n s:Nat}{v:U}(h:a.tmps.size=n)(b:Cc.aW a s=v):Cc.Knows a n [(s,v)]:=Cc.Knows.cons (l:=[]) ⟨h,λs v h=>by simp at h⟩ b
def pW (v:Nat->U):V6:=⟨#[v 0,v 1,v 2,v 3,v 4,v 5,v 6,v 7,v 8,v 9,v 10,v 11,v 12,v 13,v 14,v 15,v 16,v 17,v 18,v 19,v 20,v 21,v 22,v 23,v 24,v 25,v 26,v 27,v 28,v 29,v 30,v 31,v 32,v 33,v 34,v 35,v 36,v 37,v 38,v 39,v 40,v 41,v 42,v 43,v 44,v 45,v 46,v 47,v 48,v 49,v 50,v 51,v 52,v 53,v 54,v 55,v 56,v 57,v 58,v 59,v 60,v 61,v 62,v 63,v 64,v 65,v 66,v 67,v 68,v 69,v 70,v 71,v 72,v 73,v 74,v 75,v 76,v 77,v 78,v 79,v 80,v 81,v 82,v 83,v 84,v 85,v 86,v 87,v 88,v 89,v 90,v 91,v 92,v 93,v 94,v 95,v 96,v 97,v 98,v 99,v 100,v 101,v 102,v 103,v 104,v 105,v 106,v 107,v 108,v 109,v 110,v 111,v 112,v 113,v 114,v 115,v 116,v 117,v 118,v 119,v 120,v 121,v 122,v 123,v 124,v 125,v 126,v 127,v 128,v 129,v 130,v 131,v 132,v 133,v 134,v 135,v 136,v 137,v 138,v 139,v 140,v 141,v 142,v 143,v 144,v 145,v 146,v 147,v 148,v 149,v 150,v 151,v 152,v 153,v 154,v 155],[]⟩
abbrev Ss(v:Nat->U):List (Nat×U):=[(0,v 0),(1,v 1),(2,v 2),(3,v 3),(4,v 4),(10,v 10),(11,v 11)]
def Pn(w W:F)(v:Nat->U)(g:Nat)(kinds:List Int)(S:Option UJ)(kb gM fF:Nat)(H:v 0= .slice S kinds.length fF)(J:v 11= .pointer (I ⟨g,0,K⟩))(a5:kinds.length<=Uq)(a4:(0<kinds.length->S=I ⟨kb,gM,K⟩)/\(0<kinds.length->kb<w.heap.size)/\∀j,j<kinds.length->aM w kb (gM+j) (.int .i64 (kinds.getD j 0)))(a2:∀x∈kinds,lP x)(aq:eM w W g aO [] aO [] 0 aO [] T7):
 (Te Wc).wp (aB T4) (λe a' W'=>e= .normal/\∃cs a,cs.length<=8/\py cs/\eM w W' g a cs aO [] 0 aO [] T7/\Cc.Knows a' 156 (Ss v)/\a'.defers=[]) (pW v) W:=by
 obtain⟨bb,a3,a8,a9,ba⟩:=Ve ay.F9;unfold Uq at a5;have aa:=af a2;have q:=af a4;have al:=af aq;have E:=af H;have G:=af J;unfold pW;rw[H,J];unfold Te Wc;dsimp only
 go_wp2_with fail
 go_loopw [12] (λo wr=>∃(cs:List bL) (a:U),o= .int .i64 (cs.length:Int)/\cs.length<=kinds.length/\cs.length<=8/\py cs/\eM w wr g a cs aO [] 0 aO [] T7) (λo _=>kinds.length-(US o).toNat)
 case atStart=>exact⟨[],_,rfl,UE _,UE _,λo f=>absurd f (by simp),al.o⟩
 case round=>
  obtain⟨cs,a,rfl,br,P,ap,u⟩:=hrel;have r:=af ap;have s:=af u;by_cases n:cs.length<kinds.length
  ·by_cases L:cs.length<8
   ·obtain rfl:=q.o.1 (by omega);have O:=q.o.2.1 (by omega);have bj:=af O;have k:X (∀W,aP w W->aM W kb (gM+cs.length) (.int .i64 (kinds.getD cs.length 0))):=λW av=>(av.cell (p:=⟨kb,gM+cs.length,K⟩) O).trans (q.o.2.2 _ n);have C:X (lP (kinds.getD cs.length 0)):=aa.o _ (by rw[Ui,Um n];exact Uj n);have az:=k.o wr u.dg;generalize kinds.getD cs.length 0=h at*;have ad:X (∀W:F,bH 38 #[.int .i64 (cs.length:Int)] W λe z=>aP W z/\e= .returned (.string (nameOf cs.length))):=λW=>MR cs.length W L;have ae:X (∀W:F,bH 23 #[.int .i64 h,.int .i64 3] W λe z=>z=W/\∃b,e= .returned (.int .i64 b)/\0<=b/\b<3):=λW=>qc h 3 W (by omega) (by omega) C.o.1 C.o.2;obtain⟨⟨bc,-,-,-,-⟩,-⟩:=u.cells
    go_upto_region 5 with fail
    refine Un.open_ (λW=>aM W g 0 a/\aM W kb (gM+cs.length) (.int .i64 h)) 16 (λ_ _ _ _ _ f=>absurd (And.left f) (λf=>by cases f)) λbt=>?_;have M:(λW:F=>aM W g 0 a/\aM W kb (gM+cs.length) (.int .i64 h)) wr.drew:=⟨bc,az⟩;refine Un.pk 0 ?_;refine Un.pk 1 ?_;refine Un.ld [16] 2 ?_;refine Un.pk 3 ?_;refine Un.pk 5 ?_;refine Un.pk 6 ?_;refine Un.pk 7 ?_;refine Un.ld [16] 8 ?_;refine Un.on 4 λl c=>?_;go_simp;go_at_call 38;refine(ad.o _).mono ?_;rintro e T ⟨y,rfl⟩;replace y:=((Up wr.heap.size wr).drew).trans (y.mono (by simp));have d:=af (s.o.below y);have A:=d.o.cells.1.1;have B:=k.o T d.o.dg;refine c.o _ _ (λ_=>⟨A,B⟩) ?_
    try simp only[UW,Uc,Ul,Uk]
    have M:(λW:F=>aM W g 0 a/\aM W kb (gM+cs.length) (.int .i64 h)) T:=⟨A,B⟩;refine Un.on 9 λl c=>?_;go_simp;go_at_call 23;refine(ae.o _).mono ?_;rintro e p ⟨rfl,b,rfl,bu,bv⟩;have bo:XM.wrap (1+b)=1+b:=by rw[WY]<;>omega
    refine c.o _ _ (λ_=>⟨A,B⟩) ?_
    try simp only[UW,Uc,Ul,Uk]
    refine Un.pk 10 ?_;refine Un.pk 11 ?_;refine Un.on 12 λl c=>?_;go_simp;have D:X (eM w (p.alloc (.cells #[.string (nameOf cs.length),.int .i64 (1+b)] 63)) g a cs aO [] 0 aO [] T7):=d.o.below ((Up _ _).alloc (T8 _) _);have bd:=D.o.cells.1.1;have be:=k.o _ D.o.dg;refine c.o _ _ (λ_=>⟨bd,be⟩) ?_
    try simp only[UW,Uc,Ul,Uk]
    refine Un.one (i:=13) (by kernel_rfl) Y (λl c=>?_);have Q:=d.o.ah;have bx:w.heap.size<=p.heap.size:=d.o.dg.size;refine WK _ (by rfl) _ _ 44 (by rfl) w.heap.size 63 bb _ 2 24 ay.underlying44 a3 a8 a9 ba Y (by decide) a cs.length _ (by rfl) (Q.alloc _) ⟨p.heap.size,0,K⟩ 1 1 [.string (nameOf cs.length),.int .i64 (1+b)] (by rfl) Y (VJ (bk p _)) (by intro bA R;simp at R;rcases R with rfl|rfl<;>rfl) (by decide) (by unfold Uq;omega) (by omega) (by simp;omega) _ Y ?_;intro t m i a7 a1 aw bs;have N:=aR.jj (n:=cs.length+1) (cap:=m) a1 aw;have a6:i.ownsRow w.heap.size 63 2 (.slice (I ⟨t,0,K⟩) (cs.length+1) m) (cs++[(⟨nameOf cs.length,1+b⟩:bL)]).length (eH (cs++[(⟨nameOf cs.length,1+b⟩:bL)])):=by
     rw[rD,Ua];exact a7
    obtain⟨ar,V,bi⟩:=d.o.QC N a6;have bB:=bi 0;have am:=af ar;have Z:aM i kb (gM+cs.length) (.int .i64 h):=k.o i (d.o.dg.trans (N.below (λg a0=>(Q.lt g a0).1) d.o.dg.size));refine c.o _ _ (λ_=>⟨V,Z⟩) ?_
    try simp only[UW,Uc,Ul,Uk]
    have M:(λW:F=>aM W g 0 a/\aM W kb (gM+cs.length) (.int .i64 h)) i:=⟨V,Z⟩;refine Un.pk 14 ?_;refine Un.pk 15 ?_;refine Un.on 16 λl c=>?_;go_simp;refine c.o _ _ (λf=>absurd f (by decide)) ?_;refine Un.done (by kernel_rfl) ?_ _
    try simp only[UW,Uc,Ul,Uk]
    generalize i.setCell ⟨g,0,K⟩ (.slice (I ⟨t,0,K⟩) (cs.length+1) m)=bl at*;generalize Value.slice (I ⟨t,0,K⟩) (cs.length+1) m=bm at*;have ab:X (py (cs++[(⟨nameOf cs.length,1+b⟩:bL)])):=r.o.snoc (by omega)
    go_wp2_with fail
    go_roundw
    case rel=>exact⟨_,_,by rw[Ua];go_num,by rw[Ua];exact n,by rw[Ua];exact L,ab.o,am.o⟩
    case measure=>simp[US];omega
   ·have ao:cs.length=8:=by omega
    go_wp2_with fail
    exact⟨cs,P,r.o,⟨a,s.o⟩,(((((((Am Y (by exact G.o.symm)).cons Y).cons Y).cons Y).cons Y).cons Y).cons (by exact E.o.symm))⟩
  ·have ao:cs.length=kinds.length:=by omega
   go_wp2_with fail
   exact⟨cs,P,r.o,⟨a,s.o⟩,(((((((Am Y (by exact G.o.symm)).cons Y).cons Y).cons Y).cons Y).cons Y).cons (by exact E.o.symm))⟩
def MS:∀i j:Fin 8,i≠j->nameOf i.1≠nameOf j.1:=by decide
def JR(i:Nat):(nameOf i).size=1:=rfl
def OH{cs:List bL}(h:py cs)(h1:1<=cs.length)(g:cs.length<=8):hU cs:=by
 refine⟨h1,g,λb c=>⟨?_,λd i=>?_⟩⟩
 ·obtain⟨e,f⟩:=h b c;unfold n5 fX;rw[e,JR];rcases f with a|a|a<;>rw[a]<;>decide
 ·rw[(h b c).1,(h d (by omega)).1];exact MS ⟨d,by omega⟩ ⟨b,by omega⟩ (λa=>by have:=congrArg Fin.val a;simp at this;omega)
def TE:hU [⟨⟨#[120]⟩,1⟩]:=⟨by decide,by decide,λb a=>by
 have:b=0:=by simp at a;omega
 subst this;exact⟨(by decide +kernel:n5 ⟨⟨#[120]⟩,1⟩=Z),λd c=>by omega⟩⟩
def Tq(w W:F)(v:Nat->U)(g:Nat)(cs:List bL)(c:U)(f:v 11= .pointer (I ⟨g,0,K⟩))(l:cs.length<=8)(m:py cs)(a:eM w W g c cs aO [] 0 aO [] T7):
 (SR Wc).wp (aB T4) (λe a' W'=>e= .normal/\∃cs c,hU cs/\eM w W' g c cs aO [] 0 aO [] T7/\Cc.Knows a' 156 (Ss v)/\a'.defers=[]) (pW v) W:=by
 obtain⟨y,r,t,u,x⟩:=Ve ay.F9;have d:=af f;obtain⟨B,aJ,rfl⟩:=bC a.ah;have b:=af a;obtain⟨⟨z,-,-,-,-⟩,-⟩:=a.cells;have h:=a.ah;have G:=a.dg.size;unfold pW;rw[f];by_cases k:cs.length=0
 ·obtain rfl:=List.eq_nil_of_length_eq_zero k;simp only[XH] at z h b;unfold SR Wc;dsimp only
  go_wp2_with (at_builtin;refine wpList_append_lies _ Y _ _ 44 Y w.heap.size 63 y _ 2 24 ay.underlying44 r t u x Y (by decide) _ 0 _ Y (h.alloc _) ⟨W.heap.size,0,K⟩ 1 1 [.string ⟨#[120]⟩,.int .i64 1] Y Y (VJ (bk W _)) (by intro H i;simp at i;rcases i with rfl|rfl<;>rfl) (by decide) (by decide) (by decide) (by simp;omega) _ Y ?_;intro C j J s q o D;have p:=aR.jj (n:=0+1) (cap:=j) q o;obtain⟨n,L,A⟩:=b.o.QC p (c:=⟨⟨#[120]⟩,1⟩) s;have M:=A 0)
  exact⟨_,TE,⟨_,n⟩,(((((((Am Y (by exact d.o.symm)).cons Y).cons Y).cons Y).cons Y).cons Y).cons Y)⟩
 ·have E:¬(cs.length:Int)=0:=by omega
  unfold SR Wc;dsimp only
  go_wp2_with fail
  exact⟨cs,OH m (by omega) l,⟨_,b.o⟩,(((((((Am Y (by exact d.o.symm)).cons Y).cons Y).cons Y).cons Y).cons Y).cons Y)⟩
def To(w W:F)(v:Nat->U)(g:Nat)(cs:List bL)(d:U)(a:v 11= .pointer (I ⟨g,0,K⟩))(b:eM w W g d cs aO [] 0 aO [] T7):
 (Tg Wc).wp (aB T4) (λe a' W'=>e= .normal/\W'=W/\Cc.Knows a' 156 ((13,.int .i64 (cs.length:Int))::Ss v)/\a'.defers=[]) (pW v) W:=by
 have c:=af a;obtain⟨f,aJ,rfl⟩:=bC b.ah;obtain⟨⟨h,-,-,-,-⟩,-⟩:=b.cells;unfold pW;rw[a];unfold Tg Wc;dsimp only
 go_wp2_with fail
 exact((((((((Am Y (by exact c.o.symm)).cons Y).cons Y).cons Y).cons Y).cons Y).cons Y).cons Y)
def An (j n:Nat):List Nat:=(UK j).map λa=>n/256^a%256
def JM(j n:Nat):An (j+1) n=An j n++[n/256^j%256]:=by
 unfold An;rw[XI,List.map_append,List.map_singleton]
def JL(n:Nat):An 4 n=iA n:=by
 unfold An iA;simp[XI]
def BW(n j:Nat):n/256^j/256=n/256^(j+1):=by
 rw[Nat.div_div_eq_div_mul,Nat.pow_succ]
def tX(u:U)(pre:List Nat)(n base:Nat)(w:F)(z:n<4294967296)(L:pre.length<=100000000000)(I:base<=w.heap.size)
 (c:w.ownsRow base 5 1 u pre.length (aG pre)):
 bH 59 #[u,.int .i64 (n:Int)] w λe w'=>∃i,e= .returned i/\w'.ownsRow base 5 1 i (pre++iA n).length (aG (pre++iA n))/\aR w w' u i:=by
 obtain⟨E,y,B,C,D⟩:=Ve ay.rG;rw[<-JL];go_enter ay.func59,Tryz.ntmps59
 go_wp2_with fail
 go_loopw [0,1,5] (λo G h wr=>∃(a m:Nat) (b:List Nat),a<=4/\h= .int .i64 (a:Int)/\G= .int .i64 (m:Int)/\m<4294967296/\m=n/256^a/\b=pre++An a n/\wr.ownsRow base 5 1 o b.length (aG b)/\aR w wr u o/\w.heap.size<=wr.heap.size) (λ_ _ h _=>4-(US h).toNat)
 case atStart=>exact⟨0,n,pre,by omega,rfl,rfl,z,by simp,by simp[An],c,aR.refl _ _,T8 _⟩
 case round=>
  obtain⟨a,m,b,J,rfl,rfl,N,r,f,c,p,P⟩:=hrel;have k:=af r;have l:=af f;have O:b.length<=100000000004:=by rw[f];simp[An];omega
  have j:=af p;clear r f p;by_cases M:a<4
  ·obtain⟨d,g⟩:∃d,d=m%256:=⟨_,rfl⟩;have Q:Yu.wrap (m:Int)=(d:Int):=by rw[g];simp[IntKind.wrap,Yg,XU]
   have v:=af g;clear g
   go_wp2_with (at_builtin;refine aT _ Y _ _ 133 Y base 5 E (.int .u8 0) 1 1 ay.underlying133 y B C D Y (by decide) _ b.length _ Y (c.alloc _) ⟨wr.heap.size,0,K⟩ 1 1 [.int .u8 (d:Int)] Y (by decide) Y (gS _ _ _) (jm _) (by unfold Uq;omega) (by omega) (by simp;omega) ?_;intro R H s x)
   have q:=j.o.trans (aR.append x);have A:w.heap.size<=H.heap.size:=q.fO.size;rw[eR] at s;refine⟨⟨a+1,m/256,b++[d],by omega,by go_num,by go_num,by omega,?_,?_,by simpa using s,q,A⟩,by simp[US];omega⟩
   ·rw[k.o];exact BW n a
   ·rw[l.o,v.o,k.o,JM,UC]
  ·obtain rfl:a=4:=by omega
   have t:X (wr.ownsRow base 5 1 u0 (pre++An 4 n).length (aG (pre++An 4 n))):=by show World.ownsRow _ _ _ _ _ _ _;rw[<-l.o];exact c
   clear c;go_wp2;go_ret;exact⟨_,rfl,t.o,j.o⟩
def tU(u:U)(pre:List Nat)(b:lB)(k:Int)(base:Nat)(w:F)(R:k=1\/k=2\/k=3)(W:pq b.least)(a5:pq b.most)(a8:pre.length<=3000000)(s:base<=w.heap.size)
 (y:w.ownsRow base 5 1 u pre.length (aG pre)):
 bH 85 #[u,FE b,.int .i64 k] w λe w'=>∃f,e= .returned f/\w'.ownsRow base 5 1 f (pre++cq k b).length (aG (pre++cq k b))/\aR w w' u f:=by
 obtain⟨ae,Q,aa,ab,ad⟩:=Ve ay.rG;have V:u.ownBlock≠I w.heap.size:=λr=>by have:=(y.lt _ r).2;omega
 obtain⟨aq,a,c⟩:=b;unfold FE;cases aq
 ·rw[show cq k ⟨T7,a,c⟩=[0] from rfl];go_enter ay.func85,Tryz.ntmps85
  go_wp2_with (at_builtin;refine aT _ Y _ _ 133 Y base 5 ae (.int .u8 0) 1 1 ay.underlying133 Q aa ab ad Y (by decide) _ pre.length _ Y ((y.alloc _).alloc _) ⟨w.heap.size+1,0,K⟩ 1 1 [.int .u8 ((0:Nat):Int)] Y (by decide) Y (by simpa using gS (w.alloc _) _ _) (jm _) (by unfold Uq;omega) (by omega) (by simp;omega) ?_;intro al M T a0)
  go_ret;have C:aR w M u al:=aR.box (aR.append a0);rw[eR] at T;exact⟨_,rfl,by simpa using T,C⟩
 ·rw[show cq k ⟨Z,a,c⟩=[1]++(bf k a++bf k c) from rfl,<-UC,<-UC];have a3:=gR k a W.sz;have am:X (∀d v,d.ownsRow base 5 1 v (pre++[1]).length (aG (pre++[1]))->base<=d.heap.size->bH 122 #[v,.agg (gZ a),.int .i64 k] d λe w'=>∃f,e= .returned f/\w'.ownsRow base 5 1 f (pre++[1]++bf k a).length (aG (pre++[1]++bf k a))/\aR d w' v f):=λd v E s=>
   iI v (pre++[1]) a k base d R W (by simp;omega) s E
  have ao:X (∀d v,d.ownsRow base 5 1 v (pre++[1]++bf k a).length (aG (pre++[1]++bf k a))->base<=d.heap.size->bH 122 #[v,.agg (gZ c),.int .i64 k] d λe w'=>∃f,e= .returned f/\w'.ownsRow base 5 1 f (pre++[1]++bf k a++bf k c).length (aG (pre++[1]++bf k a++bf k c))/\aR d w' v f):=λd v E s=>
   iI v (pre++[1]++bf k a) c k base d R a5 (by simp;omega) s E
  have aw:base<=(w.alloc (.cells (gp ⟨Z,a,c⟩) 141)).heap.size:=by simp;omega
  generalize av:pre++[1]++bf k a++bf k c=a7 at*;generalize ar:pre++[1]++bf k a=a6 at*;clear ar av a3;go_enter ay.func85,Tryz.ntmps85
  go_upto_region 1 with fail
  have G:=y.alloc (.cells (gp ⟨Z,a,c⟩) 141);have A:(w.alloc (.cells (gp ⟨Z,a,c⟩) 141)).heap[w.heap.size]? =I (.cells (gp ⟨Z,a,c⟩) 141 (0,0)):=bk _ _;have D:aR w (w.alloc (.cells (gp ⟨Z,a,c⟩) 141)) u u:=(aR.refl w u).alloc _;unfold gp at G A D aw;generalize w.alloc (.cells #[.bool Z,.bool a.null,.int .i64 a.n,.string a.s,.bool c.null,.int .i64 c.n,.string c.s] 141)=z at*;have N:=af D;have B:z.heap[w.heap.size]? =I (.cells (gp ⟨Z,a,c⟩) 141 (0,0)):=A;generalize w.heap.size=g at*;obtain⟨⟨j,l,m,n,o,p,q⟩,-⟩:=dZ B;have i:=af B;clear A B y D
  go_upto_region 4 with(at_builtin;refine aT _ Y _ _ 133 Y base 5 ae (.int .u8 0) 1 1 ay.underlying133 Q aa ab ad Y (by decide) _ pre.length _ Y (G.alloc _) ⟨z.heap.size,0,K⟩ 1 1 [.int .u8 ((1:Nat):Int)] Y (by decide) Y (gS _ _ _) (jm _) (by unfold Uq;omega) (by omega) (by simp;omega) ?_;intro J L H P)
  have h:aR z L u J:=aR.append P;rw[eR] at H;have S:L.ownsRow base 5 1 J (pre++[1]).length (aG (pre++[1])):=by simpa using H
  have t:L.heap[g]? =I (.cells (gp ⟨Z,a,c⟩) 141 (0,0)):=(h.fO.block g (Ue i.o) (λe=>V e.symm)).trans i.o;have a9:=h.fO.size;have a4:J.ownBlock≠I g:=λe=>by
   rcases h.at_ g e with r|r
   ·exact V r
   ·have:=Ue i.o;omega
  have O:=af (N.o.trans h);clear j l m n o p q H P h i N G;obtain⟨⟨j,l,m,n,o,p,q⟩,-⟩:=dZ t
  go_upto_region 5 with(go_at_call 122;refine(am.o _ _ S (by omega)).mono ?_;rintro e M ⟨al,rfl,a1,x⟩)
  have az:M.heap[g]? =I (.cells (gp ⟨Z,a,c⟩) 141 (0,0)):=(x.fO.block g (Ue t) (λe=>a4 e.symm)).trans t;have ba:=x.fO.size;have ap:=af (O.o.trans x);clear j l m n o p q O x S t;obtain⟨⟨j,l,m,n,o,p,q⟩,-⟩:=dZ az
  go_wp2_with (go_at_call 122;refine(ao.o _ _ a1 (by omega)).mono ?_;rintro e bc ⟨bb,rfl,a2,C⟩)
  go_ret;exact⟨_,rfl,a2,ap.o.trans C⟩
def iF(n:Nat):(aL n).length<=10:=by unfold aL;exact cm 10 n
def FC(k:Int)(b:lB)(h1:b.least.s.size<=32)(a:b.most.s.size<=32):(cq k b).length<=85:=by
 have c:=gR k b.least h1;have d:=gR k b.most a;unfold cq
 split
 ·simp only[Ua,VI,XH];omega
 ·simp
def lR{α:Type}(f:α->List Nat)(m:Nat)(l:List α)(h:∀x∈l,(f x).length<=m):(l.flatMap f).length<=l.length*m:=by
 induction l with
 |nil=>simp
 |cons x g b=>
  rw[List.flatMap_cons,Ua,VI,Nat.succ_mul];have d:=h x (by simp);have e:=b (λc a=>h c (by simp[a]));omega
structure C9(n:Nat)(b:Bd):Prop where
 rows:b.rows<2147483648
 len:b.chunks.length=n
 size:∀c∈b.chunks,c.text.size<2147483648
 least:∀c∈b.chunks,pq c.eY.least
 most:∀c∈b.chunks,pq c.eY.most
def OE{l:List kq}{i:Nat}(h:i<l.length):l.getD i ⟨⟨#[]⟩,cE⟩∈l:=by
 rw[Ui,Um h];exact Uj h
def J0{n:Nat}{b:Bd}(h:C9 n b)(cs:List bL){i:Nat}(c:i<b.chunks.length):(o8 cs b.chunks i).length<=95:=by
 have a:=OE c;have d:=iF (b.chunks.getD i ⟨⟨#[]⟩,cE⟩).text.size;have e:=FC (cs.getD i ⟨⟨#[]⟩,0⟩).kind (b.chunks.getD i ⟨⟨#[]⟩,cE⟩).eY (h.least _ a).sz (h.most _ a).sz;unfold o8;rw[Ua];omega
def yN{n:Nat}{b:Bd}(h:C9 n b)(cs:List bL)(k:Nat)(c:k<=b.chunks.length):(fo cs b.chunks k).length<=k*95:=by
 have:=lR (o8 cs b.chunks) 95 (UK k) (λd a=>J0 h cs (by have:=Vt.1 a;omega));simpa [fo] using this
def I3{n:Nat}{b:Bd}(h:C9 n b)(e:n<=8)(cs:List bL):(ek cs b).length<=770:=by
 have a:=yN h cs b.chunks.length (T8 _);have c:=iF b.rows;have d:=h.len;unfold ek;rw[Ua];omega
def xO{n:Nat}{bs:List Bd}(h:∀b∈bs,C9 n b)(c:n<=8)(cs:List bL):(cQ cs bs).length<=bs.length*770:=
 lR (ek cs) 770 bs (λb a=>I3 (h b a) c cs)
def LM{cs:List bL}{es:List Int}(h:∀c∈cs,c.name.size<=16){i:Nat}(a:i<cs.length):(xY cs es i).length<=28:=by
 have b:=iF (cs.getD i ⟨⟨#[]⟩,0⟩).name.size;have d:=h _ (by rw[Ui,Um a];exact Uj a:cs.getD i ⟨⟨#[]⟩,0⟩∈cs);unfold xY;rw[Ua,Ua,aj];simp only[VI,XH];omega
def ur{cs:List bL}{es:List Int}(h:∀c∈cs,c.name.size<=16)(k:Nat)(b:k<=cs.length):(iS cs es k).length<=k*28:=by
 have:=lR (xY cs es) 28 (UK k) (λd a=>LM h (by have:=Vt.1 a;omega));simpa [iS] using this
structure jR(w W:F)(cv ev bv u:U)(pre:List Nat):Prop where
 box:W.heap[w.heap.size]? =I (.cells #[cv,ev,bv] 105 (0,0))
 own:W.ownsRow w.heap.size 5 1 u pre.length (aG pre)
 dg:aP w W
def jR.alloc{w W:F}{b c a u:U}{pre:List Nat}(h:jR w W b c a u pre)(o:Xv):jR w (W.alloc o) b c a u pre:=
 ⟨alloc_old o (Ue h.box) h.box,h.own.alloc o,h.dg.alloc h.dg.size o⟩
def jR.drew{w W:F}{b c a u:U}{pre:List Nat}(h:jR w W b c a u pre):jR w W.drew b c a u pre:=
 ⟨h.box,aK h.own (Up _ _).drew,h.dg.drew⟩
def jR.jP{w W b:F}{f g e u d:U}{pre c:List Nat}(h:jR w W f g e u pre)(a:aR W b u d)(j:b.ownsRow w.heap.size 5 1 d c.length (aG c)):jR w b f g e d c:=
 ⟨(a.fO.block _ (Ue h.box) (bw h.own h.box (by decide))).trans h.box,j,h.dg.trans (a.below (λi a=>(h.own.lt i a).1) h.dg.size)⟩
def jR.cells{w W:F}{b c a u:U}{pre:List Nat}(h:jR w W b c a u pre):aM W w.heap.size 0 b/\aM W w.heap.size 1 c/\aM W w.heap.size 2 a:=cB h.box
def jR.zR{w W b:F}{d e c u j:U}{pre:List Nat}(h:jR w W d e c u pre)(f:aR W b u j){g:Nat}{cs:Array U}{t:Uh}(a:W.heap[g]? =I (.cells cs t (0,0)))(i:t≠5):b.heap[g]? =I (.cells cs t (0,0)):=
 (f.fO.block _ (Ue a) (bw h.own a i)).trans a
def qA{w:F}{g:Nat}{a b:U}{t:Uh}(h:w.heap[g]? =I (.cells #[a,b] t (0,0))):aM w g 0 a/\aM w g 1 b:=by
 refine⟨?_,?_⟩<;>simp[Us,h]
def IK(w:F)(a b:U)(t:Uh):∀(j:Nat) (u:U),[a,b][j]? =I u->(w.alloc (.cells #[a,b] t)).cell? ((⟨w.heap.size,0,K⟩:UJ).add j)=I u:=
 VJ (bk w _)
def jd(a b:List Nat):aG (a++b)=aG a++aG b:=by simp[aG]
def tW(cs:List bL)(es:List Int)(bs:List Bd)(c0 c1 cx:U)(w:F)(fi:cs.length<=8)(da:es.length=cs.length)(b6:∀c∈cs,c.name.size<=16)(dl:∀c∈cs,c.kind=1\/c.kind=2\/c.kind=3)(gm:bs.length<=2000)(c4:∀b∈bs,C9 cs.length b)
 (fk:vn w c0 cs) (fm:rA w c1 es) (fe:∃base L,L.map Ux=bs/\iY w base cx L):
 bH 58 #[aO,.agg #[c0,c1,cx]] w λe w'=>∃ao,e= .returned ao/\w'.ownsRow w.heap.size 5 1 ao (ji cs es bs).length (aG (ji cs es bs))/\aP w w':=by
 obtain⟨d4,df,d0,d1,d2⟩:=Ve ay.rG;obtain⟨base,L,bv,bu⟩:=fe;have ft:=QK.bO qD bu.own;obtain⟨C,ar,av,m,rfl,aa⟩:=ft;obtain⟨t,H,bE,aJ,rfl,gn,v⟩:=fk;obtain⟨u,D,jg,bW,rfl,c7,c8,c9⟩:=fm;have a6:=af v;have ck:=af c7;have cl:=af c8;have cn:=af c9;have el:=af da;have bj:=af b6;have eq:=af dl;have cf:=af c4;have et:=af bv;have aq:X (L.length=bs.length):=by show _=_;rw[<-bv,UG]
 have en:=af aa;have eh:=af bu.each;have gt:L.length<=2000:=by have:=aq.o;omega
 clear v c7 c8 c9 da b6 dl c4 bv aa bu;go_enter ay.func58,Tryz.ntmps58
 go_upto_region 1 with fail
 have aw:jR w (w.alloc (.cells #[.slice t cs.length aJ,.slice u es.length bW,.slice C L.length m] 105)) (.slice t cs.length aJ) (.slice u es.length bW) (.slice C L.length m) aO []:=
  ⟨bk _ _,World.ownsRow_nil _ _ _ _,(Up _ _).alloc (T8 _) _⟩
 generalize w.alloc (.cells #[.slice t cs.length aJ,.slice u es.length bW,.slice C L.length m] 105)=bo at*;obtain⟨z,A,B⟩:=aw.cells;have k:X (bH 84 #[aO,.int .i64 (cs.length:Int)] bo λe w'=>∃h,e= .returned h/\w'.ownsRow w.heap.size 5 1 h ([]++aL cs.length).length (aG ([]++aL cs.length))/\aR bo w' aO h):=cP _ [] cs.length w.heap.size bo (by omega) (by simp) aw.dg.size aw.own
 go_upto_region 2 with(go_at_call 84;refine k.o.mono ?_;rintro e f6 ⟨f4,rfl,dr,db⟩)
 have s:X (jR w f6 (.slice t cs.length aJ) (.slice u es.length bW) (.slice C L.length m) f4 (aL cs.length++iS cs es 0)):=by
  have Z:=aw.jP db dr;rw[List.nil_append] at Z;show jR _ _ _ _ _ _ _;rw[show iS cs es 0=[] from rfl,Wr];exact Z
 clear aw z A B k dr db;obtain⟨z,A,B⟩:=s.o.cells
 go_wp2_with fail
 clear z A B
 go_loopw [0,19] (λam d wr=>∃a:Nat,a<=cs.length/\d= .int .i64 (a:Int)/\jR w wr (.slice t cs.length aJ) (.slice u es.length bW) (.slice C L.length m) am (aL cs.length++iS cs es a)) (λ_ d _=>cs.length-(US d).toNat)
 case atStart=>exact⟨0,UE _,rfl,s.o⟩
 case round=>
  rename F=>wr
  clear s;obtain⟨a,dk,rfl,g⟩:=hrel;have o:=af g;have dE:w.heap.size<=wr.heap.size:=g.dg.size;by_cases y:a<cs.length
  ·have fv:a<es.length:=by rw[el.o];exact y
   have v:=a6.o.below g.dg;obtain rfl:=v.addr (by omega);obtain rfl:=ck.o (by omega);have al:=v.c0 a y;have bc:=v.c1 a y;have bi:X (D<w.heap.size):=cl.o (by omega);have ci:=af (cn.o a fv);have a7:X (aL cs.length++iS cs es (a+1)=aL cs.length++iS cs es a++aL cs[a].name.size++bytesOf cs[a].name++[byteOf cs[a].kind,byteOf (es.getD a 0)]):=by
    show _=_;rw[xZ];unfold xY;rw[Ui (l:=cs),Um y];simp
   have b6:=bj.o cs[a] (Uj y);have dv:(aL cs.length++iS cs es a).length<=300:=by
    have a9:=iF cs.length;have bt:=ur (es:=es) bj.o a dk;rw[Ua];omega
   have gs:(a:Int)<(es.length:Int):=by omega
   generalize fg:cs[a]=c at*;generalize fl:es.getD a 0=J at*;generalize a0:aL cs.length++iS cs es a=pre at*;clear v fg fl a0 g
   go_upto_region 5 with fail
   have i:=o.o.alloc (.cells #[.string c.name,.int .i64 c.kind] 63);have x:(wr.alloc (.cells #[.string c.name,.int .i64 c.kind] 63)).heap[wr.heap.size]? =I (.cells #[.string c.name,.int .i64 c.kind] 63 (0,0)):=bk _ _;generalize wr.alloc (.cells #[.string c.name,.int .i64 c.kind] 63)=V at*;have s:=af i;generalize wr.heap.size=br at*;obtain⟨M,N⟩:=qA x;have k:X (bH 84 #[u0,.int .i64 (c.name.size:Int)] V λe w'=>∃h,e= .returned h/\w'.ownsRow w.heap.size 5 1 h (pre++aL c.name.size).length (aG (pre++aL c.name.size))/\aR V w' u0 h):=cP _ pre c.name.size w.heap.size V (by omega) (by omega) i.dg.size i.own;clear i al bc o
   go_upto_region 6 with(go_at_call 84;refine k.o.mono ?_;rintro e a5 ⟨bd,rfl,Q,E⟩)
   have ae:=s.o.zR E x (by decide);have p:=af (s.o.jP E Q);clear Q E s k x M N;obtain⟨M,N⟩:=qA ae;have gy:=iF c.name.size;have fz:(pre++aL c.name.size).length<=310:=by rw[Ua];omega
   generalize a0:pre++aL c.name.size=r at*;have az:=p.o.own;have d3:w.heap.size<=a5.heap.size:=p.o.dg.size
   go_upto_region 7 with(at_builtin;refine eP _ Y _ _ 133 9 Y w.heap.size 5 d4 ay.underlying133 ay.underlying9 df d0 d1 d2 _ r.length _ Y az c.name Y (by unfold Uq;omega) (by omega) d3 ?_;intro be O ca b2)
   have bB:=p.o.zR b2 ae (by decide);have ab:X (jR w O (.slice (I ⟨H,bE,K⟩) cs.length aJ) (.slice (I ⟨D,jg,K⟩) es.length bW) (.slice C L.length m) be (r++bytesOf c.name)):=p.o.jP b2 (by
    rw[j9] at ca;rw[Ua,aj,jd];exact ca)
   clear ca b2 p ae M N az d3;obtain⟨M,N⟩:=qA bB;obtain⟨z,A,B⟩:=ab.o.cells;have fb:aM O D (jg+a) (.int .i64 J):=(ab.o.dg.cell (p:=⟨D,jg+a,K⟩) bi.o).trans ci.o;have gi:br<O.heap.size:=Ue bB;have gj:w.heap.size<O.heap.size:=Ue ab.o.box;have gl:D<O.heap.size:=by have:=bi.o;omega
   have f0:(r++bytesOf c.name).length<=330:=by rw[Ua,aj];omega
   have eQ:X (aL cs.length++iS cs es (a+1)=r++bytesOf c.name++[byteOf c.kind,byteOf J]):=by show _=_;rw[a7.o]
   have f1:Yu.wrap c.kind=(byteOf c.kind:Int):=mA c.kind;have f2:Yu.wrap J=(byteOf J:Int):=mA J;clear a0 a7;generalize r++bytesOf c.name=G at*;have az:=ab.o.own
   go_region_held3 (λl=>aM l br 1 (.int .i64 c.kind)/\aM l w.heap.size 1 (.slice (I ⟨D,jg,K⟩) es.length bW)/\aM l D (jg+a) (.int .i64 J)) (first|go_keep|exact⟨d5,a2,a3⟩)
    ((refine WK _ (by rfl) _ _ 133 (by rfl) w.heap.size 5 d4 _ 1 1 ay.underlying133 df d0 d1 d2 Y (by decide) be G.length _ (by rfl) ((aK az (Up _ _).drew).alloc _) ⟨O.heap.size,0,K⟩ 2 2 [.int .u8 (byteOf c.kind:Int),.int .u8 (byteOf J:Int)] (by rfl) Y (IK O.drew _ _ _) (by intro am dT;simp at dT;rcases dT with rfl|rfl<;>rfl) (by decide) (by unfold Uq;omega) (by omega) (by simp;omega) _ Y ?_;intro c2 cR cd ds dd c3 fx;have b3:aR O cd be (.slice (I ⟨c2,0,K⟩) (G.length+2) cR):=((aR.refl O be).drewN 1).trans (aR.jj dd c3);have c5:=ab.o.zR b3 bB (by decide);have bl:X (jR w cd (.slice (I ⟨H,bE,K⟩) cs.length aJ) (.slice (I ⟨D,jg,K⟩) es.length bW) (.slice C L.length m) (.slice (I ⟨c2,0,K⟩) (G.length+2) cR) (G++[byteOf c.kind,byteOf J])):=ab.o.jP b3 (by rw[Ua,jd];exact ds);have d5:=(qA c5).2;have a2:=bl.o.cells.2.1;have a3:aM cd D (jg+a) (.int .i64 J):=(bl.o.dg.cell (p:=⟨D,jg+a,K⟩) bi.o).trans ci.o))
   clear ds dd c3 fx b3 c5 d5 a2 a3 az f1 f2 M N z A B fb
   go_wp2_with fail
   go_roundw
   case rel=>exact⟨a+1,by omega,by go_num,by rw[eQ.o];exact bl.o⟩
   case measure=>simp[US];omega
  ·obtain rfl:a=cs.length:=by omega
   have dv:(aL cs.length++iS cs es cs.length).length<=300:=by
    have a9:=iF cs.length;have bt:=ur (es:=es) bj.o cs.length (T8 _);rw[Ua];omega
   have em:X (ji cs es bs=aL cs.length++iS cs es cs.length++aL bs.length++cQ cs (bs.take L.length)):=by
    show _=_;rw[aq.o,Vf];unfold ji;simp
   have co:X (aL cs.length++iS cs es cs.length++aL bs.length=aL cs.length++iS cs es cs.length++aL bs.length++cQ cs (bs.take 0)):=by
    show _=_;simp[cQ]
   generalize aL cs.length++iS cs es cs.length=pre at*;obtain⟨z,A,B⟩:=g.cells;have k:X (bH 84 #[u0,.int .i64 (L.length:Int)] wr λe w'=>∃h,e= .returned h/\w'.ownsRow w.heap.size 5 1 h (pre++aL L.length).length (aG (pre++aL L.length))/\aR wr w' u0 h):=cP _ pre L.length w.heap.size wr (by omega) (by omega) g.dg.size g.own;clear g
   go_upto_region 10 with(go_at_call 84;refine k.o.mono ?_;rintro e a5 ⟨bd,rfl,Q,E⟩)
   have p:X (jR w a5 (.slice t cs.length aJ) (.slice u es.length bW) (.slice C L.length m) bd (pre++aL bs.length++cQ cs (bs.take 0))):=by
    have Z:=o.o.jP E Q;rw[aq.o] at Z;show jR _ _ _ _ _ _ _;rw[<-co.o];rw[aq.o];exact Z
   have fz:(pre++aL bs.length).length<=310:=by have:=iF bs.length;rw[Ua];omega
   clear Q E o k z A B co ck cl cn;generalize pre++aL bs.length=r at*;obtain⟨z,A,B⟩:=p.o.cells
   go_wp2_with fail
   clear z A B
   go_loopw [0,54] (λam d wr=>∃a:Nat,a<=L.length/\d= .int .i64 (a:Int)/\jR w wr (.slice t cs.length aJ) (.slice u es.length bW) (.slice C L.length m) am (r++cQ cs (bs.take a))) (λ_ d _=>L.length-(US d).toNat)
   case atStart=>exact⟨0,UE _,rfl,p.o⟩
   case round=>
    rename F=>S
    clear p;obtain⟨a,dk,rfl,g⟩:=hrel;have o:=af g;have dE:w.heap.size<=S.heap.size:=g.dg.size;by_cases y:a<L.length
    ·have dq:a<bs.length:=by rw[<-aq.o];exact y
     have aa:=en.o.below g.dg;obtain rfl:=aa.addr (by omega);have al:aM S ar (av+a*2) (.int .i64 (L[a].1.rows:Int)):=aa.c a y 0 _ Y;have bc:aM S ar (av+a*2+1) L[a].2:=aa.c a y 1 _ Y;have bA:L[a].1=bs[a]:=by
      have:=et.o;have bt:(L.map Ux)[a]'(by simpa using y)=bs[a]:=by simp only[this]
      simpa using bt
     have cp:X (w.ownsRow base 143 8 L[a].2 bs[a].chunks.length (ej bs[a].chunks)):=by have:=eh.o L[a] (Uj y);rw[bA] at this;exact this
     have T:=af (cf.o bs[a] (Uj dq));have a7:X (r++cQ cs (bs.take (a+1))=r++cQ cs (bs.take a)++aL bs[a].rows++fo cs bs[a].chunks bs[a].chunks.length):=by
      show _=_;rw[Dl cs bs a dq];unfold ek;simp
     have dv:(r++cQ cs (bs.take a)).length<=1540310:=by
      have a9:=xO (bs:=bs.take a) (λb bx=>cf.o b (V5 bx)) fi cs;rw[Ua];rw[Vs] at a9;omega
     rw[bA] at al;obtain⟨bb,R,gM,fF,dp,n⟩:=QK.bO uy cp.o;rw[dp] at bc;have er:=af n;have gq:bs[a].chunks.length<=8:=by have:=T.o.len;omega
     have dC:=T.o.rows;generalize bx:bs[a]=b at*;generalize a0:r++cQ cs (bs.take a)=pre at*;clear aa bA bx a0 g cp n dp
     go_upto_region 13 with fail
     have i:=o.o.alloc (.cells #[.int .i64 (b.rows:Int),.slice bb b.chunks.length fF] 139);have x:(S.alloc (.cells #[.int .i64 (b.rows:Int),.slice bb b.chunks.length fF] 139)).heap[S.heap.size]? =I (.cells #[.int .i64 (b.rows:Int),.slice bb b.chunks.length fF] 139 (0,0)):=bk _ _;generalize S.alloc (.cells #[.int .i64 (b.rows:Int),.slice bb b.chunks.length fF] 139)=V at*;have s:=af i;generalize S.heap.size=br at*;obtain⟨M,N⟩:=qA x;have k:X (bH 84 #[u0,.int .i64 (b.rows:Int)] V λe w'=>∃h,e= .returned h/\w'.ownsRow w.heap.size 5 1 h (pre++aL b.rows).length (aG (pre++aL b.rows))/\aR V w' u0 h):=cP _ pre b.rows w.heap.size V dC (by omega) i.dg.size i.own;clear i al bc o dC
     go_upto_region 14 with(go_at_call 84;refine k.o.mono ?_;rintro e a5 ⟨bd,rfl,Q,E⟩)
     have ae:=s.o.zR E x (by decide);have p:X (jR w a5 (.slice t cs.length aJ) (.slice u es.length bW) (.slice (I ⟨ar,av,K⟩) L.length m) bd (pre++aL b.rows++fo cs b.chunks 0)):=by
      have Z:=s.o.jP E Q;show jR _ _ _ _ _ _ _;rw[show fo cs b.chunks 0=[] from rfl,Wr];exact Z
     clear Q E s k x M N;obtain⟨M,N⟩:=qA ae;have f0:(pre++aL b.rows).length<=1540320:=by have:=iF b.rows;rw[Ua];omega
     generalize pre++aL b.rows=G at*
     go_wp2_with fail
     clear M N ae
     go_loopw [0,65] (λam d wr=>∃cb:Nat,cb<=b.chunks.length/\d= .int .i64 (cb:Int)/\jR w wr (.slice t cs.length aJ) (.slice u es.length bW) (.slice (I ⟨ar,av,K⟩) L.length m) am (G++fo cs b.chunks cb)) (λ_ d _=>b.chunks.length-(US d).toNat)
     case atStart=>exact⟨0,UE _,rfl,p.o⟩
     case round=>
      rename F=>j
      clear p;obtain⟨d,fu,rfl,g⟩:=hrel;have o:=af g;have dE:w.heap.size<=j.heap.size:=g.dg.size;by_cases q:d<b.chunks.length
      ·have ba:d<cs.length:=by have:=T.o.len;omega
       have v:=a6.o.below g.dg;obtain rfl:=v.addr (by omega);have f3:=v.c1 d ba;have n:=er.o.below g.dg;obtain rfl:=n.addr (by omega);have al:aM j R (gM+d*8) (.string b.chunks[d].text):=n.c d q 0 _ Y;have f7:aM j R (gM+d*8+1) (.bool b.chunks[d].eY.there):=n.c d q 1 _ Y;have f8:aM j R (gM+d*8+2) (.bool b.chunks[d].eY.least.null):=n.c d q 2 _ Y;have f9:aM j R (gM+d*8+3) (.int .i64 b.chunks[d].eY.least.n):=n.c d q 3 _ Y;have gc:aM j R (gM+d*8+4) (.string b.chunks[d].eY.least.s):=n.c d q 4 _ Y;have ge:aM j R (gM+d*8+5) (.bool b.chunks[d].eY.most.null):=n.c d q 5 _ Y;have gf:aM j R (gM+d*8+6) (.int .i64 b.chunks[d].eY.most.n):=n.c d q 6 _ Y;have gg:aM j R (gM+d*8+7) (.string b.chunks[d].eY.most.s):=n.c d q 7 _ Y;have cv:X (G++fo cs b.chunks (d+1)=G++fo cs b.chunks d++aL b.chunks[d].text.size++cq cs[d].kind b.chunks[d].eY):=by
        show _=_;rw[vL];unfold o8;rw[Ui (l:=cs),Um ba,Ui (l:=b.chunks),Um q];simp
       have gx:(G++fo cs b.chunks d).length<=1542000:=by
        have a9:=yN T.o cs d fu;rw[Ua];omega
       have dO:=T.o.size _ (Uj q);have e1:=af (T.o.least _ (Uj q));have e2:=af (T.o.most _ (Uj q));have eo:=af (eq.o _ (Uj ba));have ch:X (H<w.heap.size):=a6.o.lt (by omega);have cu:=af (a6.o.c1 d ba);have gr:(d:Int)<(cs.length:Int):=by omega
       generalize b.chunks[d]=f at*;generalize cs[d].kind=kd at*;generalize G++fo cs b.chunks d=a1 at*;clear v n g f3
       go_upto_region 17 with fail
       have i:=o.o.alloc (.cells (dI f).toArray 143);have x:(j.alloc (.cells (dI f).toArray 143)).heap[j.heap.size]? =I (.cells (dI f).toArray 143 (0,0)):=bk _ _;rw[show(dI f).toArray=#[.string f.text,.bool f.eY.there,.bool f.eY.least.null,.int .i64 f.eY.least.n,.string f.eY.least.s,.bool f.eY.most.null,.int .i64 f.eY.most.n,.string f.eY.most.s] from rfl] at i x;generalize j.alloc (.cells #[.string f.text,.bool f.eY.there,.bool f.eY.least.null,.int .i64 f.eY.least.n,.string f.eY.least.s,.bool f.eY.most.null,.int .i64 f.eY.most.n,.string f.eY.most.s] 143)=a8 at*;have bm:=af i;have b0:a8.heap[j.heap.size]? =I (.cells (dI f).toArray 143 (0,0)):=x;generalize j.heap.size=W at*;have k:X (bH 84 #[u0,.int .i64 (f.text.size:Int)] a8 λe w'=>∃h,e= .returned h/\w'.ownsRow w.heap.size 5 1 h (a1++aL f.text.size).length (aG (a1++aL f.text.size))/\aR a8 w' u0 h):=cP _ a1 f.text.size w.heap.size a8 dO (by omega) i.dg.size i.own;clear i al f7 f8 f9 gc ge gf gg o dO x;obtain⟨⟨e3,-⟩,-⟩:=kA b0
       go_upto_region 18 with(go_at_call 84;refine k.o.mono ?_;rintro e ap ⟨a4,rfl,dt,b4⟩)
       have b1:=bm.o.zR b4 b0 (by decide);have ad:=af (bm.o.jP b4 dt);have e0:=af cv.o;have gv:(a1++aL f.text.size).length<=1542010:=by have:=iF f.text.size;rw[Ua];omega
       clear dt b4 bm k b0 e3 cv;generalize a1++aL f.text.size=cc at*;have ef:X (bH 85 #[a4,.agg #[.bool f.eY.there,.bool f.eY.least.null,.int .i64 f.eY.least.n,.string f.eY.least.s,.bool f.eY.most.null,.int .i64 f.eY.most.n,.string f.eY.most.s],.int .i64 kd] ap.drew λe w'=>∃ao,e= .returned ao/\w'.ownsRow w.heap.size 5 1 ao (cc++cq kd f.eY).length (aG (cc++cq kd f.eY))/\aR ap.drew w' a4 ao):=
        tU a4 cc f.eY kd w.heap.size ap.drew eo.o e1.o e2.o (by omega) ad.o.dg.size ad.o.drew.own
       obtain⟨⟨-,e4,e5,e6,e7,e8,e9,fa⟩,-⟩:=kA b1;obtain⟨z,A,B⟩:=ad.o.cells;have fd:aM ap H (bE+d*2+1) (.int .i64 kd):=(ad.o.dg.cell (p:=⟨H,bE+d*2+1,K⟩) ch.o).trans cu.o
       go_region_held3 (λl=>aM l W 1 (.bool f.eY.there)/\aM l W 2 (.bool f.eY.least.null)/\aM l W 3 (.int .i64 f.eY.least.n)/\aM l W 4 (.string f.eY.least.s)/\aM l W 5 (.bool f.eY.most.null)/\aM l W 6 (.int .i64 f.eY.most.n)/\aM l W 7 (.string f.eY.most.s)/\aM l w.heap.size 0 (.slice (I ⟨H,bE,K⟩) cs.length aJ)/\aM l H (bE+d*2+1) (.int .i64 kd)) (first|go_keep|exact⟨a2,a3,d6,d7,d8,d9,ea,eb,ec⟩)
        ((go_at_call 85;refine ef.o.mono ?_;rintro e ee ⟨f5,rfl,du,dc⟩;have b5:aR ap ee a4 f5:=((aR.refl ap a4).drewN 1).trans dc;have c6:=ad.o.zR b5 b1 (by decide);have P:=af (ad.o.jP b5 du);obtain⟨⟨-,a2,a3,d6,d7,d8,d9,ea⟩,-⟩:=kA c6;have eb:=P.o.cells.1;have ec:aM ee H (bE+d*2+1) (.int .i64 kd):=(P.o.dg.cell (p:=⟨H,bE+d*2+1,K⟩) ch.o).trans cu.o))
       clear du dc b5 c6 a2 a3 d6 d7 d8 d9 ea eb ec e4 e5 e6 e7 e8 e9 fa z A B fd b1
       go_wp2_with fail
       go_roundw
       case rel=>exact⟨d+1,by omega,by go_num,by rw[e0.o];exact P.o⟩
       case measure=>simp[US];omega
      ·obtain rfl:d=b.chunks.length:=by omega
       have P:X (jR w j (.slice t cs.length aJ) (.slice u es.length bW) (.slice (I ⟨ar,av,K⟩) L.length m) u0 (r++cQ cs (bs.take (a+1)))):=by show jR _ _ _ _ _ _ _;rw[a7.o];exact g
       clear g o
       go_wp2_with fail
       go_roundw
       case rel=>exact⟨a+1,by omega,by go_num,P.o⟩
       case measure=>simp[US];omega
    ·obtain rfl:a=L.length:=by omega
     have P:X (jR w S (.slice t cs.length aJ) (.slice u es.length bW) (.slice C L.length m) u0 (ji cs es bs)):=by show jR _ _ _ _ _ _ _;rw[em.o];exact g
     clear g o
     go_wp2_with fail
     go_ret;exact⟨_,rfl,P.o.own,P.o.dg⟩
def zV (w:F)(base:Nat)(v:U)(pre:List Nat):Prop:=
 w.ownsRow base 5 1 v pre.length (aG pre)\/(pre=dN/\∃a,v= .slice (I ⟨a,0,K⟩) 4 4/\base<=a/\w.heap[a]? =I (.cells (aG dN).toArray 5 (4,5)))
def zV.lt{w:F}{base:Nat}{v:U}{pre:List Nat}(h:zV w base v pre):∀g,v.ownBlock=I g->base<=g/\g<w.heap.size:=by
 rcases h with h|⟨-,g,rfl,b,c⟩
 ·exact h.lt
 ·intro d a;simp[Vz] at a;subst a;exact⟨b,(Ub.1 c).1⟩
def zV.zR{w:F}{base:Nat}{v:U}{pre:List Nat}(h:zV w base v pre){g:Nat}{cs:Array U}{t:Uh}(b:w.heap[g]? =I (.cells cs t (0,0)))(d:t≠5):I g≠v.ownBlock:=by
 rcases h with h|⟨-,e,rfl,-,c⟩
 ·exact bw h b d
 ·intro a;simp[Vz] at a;subst a;rw[b] at c;simp at c
def zV.below{w w':F}{base:Nat}{v:U}{pre:List Nat}(h:zV w base v pre)(b:aP w w'):zV w' base v pre:=by
 rcases h with h|⟨d,c,e,f,a⟩
 ·exact .inl (aK h b)
 ·exact .inr ⟨d,c,e,f,(b.block _ (Ub.1 a).1).trans a⟩
def yF{w:F}{g:Nat}(h:w.heap[g]? =I (.cells (aG dN).toArray 5 (4,5))):∀j u,(aG dN)[j]? =I u->w.cell? ((⟨g,0,K⟩:UJ).add j)=I u:=by
 have:=VJ h;simpa using this
def ry{P:Uf}(w:F){ops:Array Vu}{rest:List Vu}{o:Vu}{a:V6}{Q:Exit->V6->F->Prop}(j:o.guard=K)(sl x:U6)(t u:Uh)
 (m:o.op= .call {callee:=.builtin .append,args:= #[sl,x],argTypes:= #[t,u]})
 (base:Nat) (i:Xg) (q:P.underlying t=I (.slice 5)) (r:P.underlying u=I .string) (k:P.info? 5=I i) (z:i.zero=I (.int .u8 0))
 (p:i.size=1) (g:i.bytes=1) (v:U) (pre:List Nat) (n:a.eval sl=v) (d:zV w base v pre) (s:ByteArray) (y:a.eval x= .string s) (S:0<s.size)
 (b:pre.length+s.size<=Uq) (C:pre.length+s.size<=140737488355328) (f:base<=w.heap.size)
 (h:∀e w',w'.ownsRow base 5 1 e (pre.length+s.size) (aG pre++Lib.strCells s)->aR w w' v e->wpList P ops Q rest (a.put o.dst e) w'):wpList P ops Q (o::rest) a w:=by
 rcases d with d|⟨rfl,A,rfl,R,E⟩
 ·exact eP w j sl x t u m base 5 i q r k z p g v pre.length _ n d s y b C f h
 ·refine wpList_plain j λN B=>?_;have O:4+s.size<=9223372036854775807:=by have:dN.length=4:=rfl;unfold Uq at b;omega
  have J:=Lib.run_append_grow_string (P:=P) w t u o.type 5 i (.int .u8 0) q r k z ⟨A,0,K⟩ 4 4 (aG dN) (by rw[p];rfl) (yF E) s (by omega) (by omega) (by rw[g];exact growslice_fits (by omega) (by have:dN.length=4:=rfl;omega));unfold Oper.wp UH;simp only[m,X6,invoke,builtin,WJ,Sem.run_pure,Result.andThen_ok,List.map_toArray,Xw,List.map_nil,n,y,J];refine B _ _ (h _ _ ?_ ?_)
  ·have G:=grownCap_ge w (4+s.size) 4 5;have D:=grownCap_le_maxLen w (4+s.size) 4 5 b;have l:(aG dN++Lib.strCells s).length=(4+s.size)*1:=by rw[Ua,Lib.strCells_length,Nat.mul_one];rfl
   refine⟨l,.inr ⟨w.heap.size,_,_,rfl,f,V4 w.drew _,G,D,?_,?_⟩⟩
   ·have L:(Value.int Yu 0).cells.size=1:=rfl;have H:(aG dN).length=4:=rfl;simp only[Array.size_append,List.size_toArray,size_zeroCells,L,H,Lib.strCells_length];omega
   ·simp only[Array.toList_append,UC];rw[<-UC];show List.take ((4+s.size)*1) _=_;rw[<-l];exact List.take_left
  ·refine⟨⟨rfl,rfl,rfl,by simp,λM c _=>alloc_old (w:=w.drew) _ c Y⟩,λM c=>?_⟩;simp[Vz] at c;exact .inr (by omega)
def xa{P:Uf}(w:F){ops:Array Vu}{rest:List Vu}{o:Vu}{a:V6}{Q:Exit->V6->F->Prop}(A:o.guard=K)(sl x:U6)(t:Uh)
 (D:o.op= .call {callee:=.builtin .append,args:= #[sl,x],argTypes:= #[t,t]})
 (base:Nat) (i:Xg) (H:P.underlying t=I (.slice 5)) (B:P.info? 5=I i) (L:i.zero=I (.int .u8 0))
 (G:i.size=1) (z:i.bytes=1) (v:U) (pre:List Nat) (E:a.eval sl=v) (p:zV w base v pre) (l:UJ) (c:Nat) (b:List Nat) (J:a.eval x= .slice (I l) b.length c) (S:0<b.length)
 (hc:∀j u,(aG b)[j]? =I u->w.cell? (l.add j)=I u)
 (N:pre.length+b.length<=Uq) (W:pre.length+b.length<=140737488355328) (y:base<=w.heap.size)
 (h:∀d w',w'.ownsRow base 5 1 d (pre++b).length (aG (pre++b))->aR w w' v d->wpList P ops Q rest (a.put o.dst d) w'):wpList P ops Q (o::rest) a w:=by
 have r:∀u∈aG b,u.oneCell'=Z:=by
  intro u T;obtain⟨aa,-,rfl⟩:=U7.1 T;rfl
 have C:(aG b).length=b.length*1:=by simp[aG]
 have q:∀(d:U) (w':F),w'.ownsRow base 5 1 d (pre.length+b.length) (aG pre++aG b)->w'.ownsRow base 5 1 d (pre++b).length (aG (pre++b)):=λd w' R=>by
  rw[Ua,jd];exact R
 rcases p with p|⟨rfl,M,rfl,s,O⟩
 ·refine aT w A sl x t D base 5 i (.int .u8 0) 1 1 H B L G z Y (by decide) v pre.length _ E p l b.length c (aG b) J S C hc r N (by omega) y ?_;intro d w' m g;refine h d w' (q _ _ m) ?_;rcases g with⟨k,n⟩|⟨k,n⟩
  ·exact⟨⟨k.os,k.tape,k.output,k.size,λf e _=>k.block f e (by simp)⟩,λf e=>.inr (n.lt f e).1⟩
  ·exact⟨n,λf e=>.inl (by rw[<-k];exact e)⟩
 ·have X:dN.length=4:=rfl;refine wpList_append_grows w A sl x t D 5 i (.int .u8 0) 1 1 H B L G z Y (by decide) (I ⟨M,0,K⟩) 4 4 (aG dN) E (λh=>by cases h) Y (λV s=>by cases s;exact yF O) l b.length c (aG b) J C hc r (by omega) (by omega) (by omega) ?_;intro d w' m g;refine h d w' (q _ _ (bM m y)) ⟨⟨g.os,g.tape,g.output,g.size,λf e _=>g.block f e (by simp)⟩,λf e=>.inr (m.lt f e).1⟩
structure ou(w W:F)(cv ev bv u:U)(pre:List Nat):Prop where
 box:W.heap[w.heap.size]? =I (.cells #[cv,ev,bv] 105 (0,0))
 own:zV W w.heap.size u pre
 dg:aP w W
def ou.below{w W b:F}{d e c u:U}{pre:List Nat}(h:ou w W d e c u pre)(a:aP W b):ou w b d e c u pre:=
 ⟨(a.block _ (Ue h.box)).trans h.box,h.own.below a,h.dg.trans (a.mono h.dg.size)⟩
def ou.alloc{w W:F}{b c a u:U}{pre:List Nat}(h:ou w W b c a u pre)(o:Xv):ou w (W.alloc o) b c a u pre:=h.below ((Up _ _).alloc (T8 _) o)
def ou.jP{w W b:F}{f g e u d:U}{pre c:List Nat}(h:ou w W f g e u pre)(a:aR W b u d)(j:b.ownsRow w.heap.size 5 1 d c.length (aG c)):ou w b f g e d c:=
 ⟨(a.fO.block _ (Ue h.box) (h.own.zR h.box (by decide))).trans h.box,.inl j,h.dg.trans (a.below (λi a=>(h.own.lt i a).1) h.dg.size)⟩
def ou.cells{w W:F}{b c a u:U}{pre:List Nat}(h:ou w W b c a u pre):aM W w.heap.size 0 b/\aM W w.heap.size 1 c/\aM W w.heap.size 2 a:=cB h.box
def E8(n:Nat):0<(aL n).length:=by
 unfold aL ju
 split<;>simp
def NW(l:List kq)(k:Nat):(ct (l.take k)).length<=(ct l).length:=by
 have a:ct l=ct (l.take k)++ct (l.drop k):=by
  unfold ct;rw[<-Vi,Ww]
 rw[a,Ua];omega
def Lz(bs:List Bd)(k:Nat):(bR (bs.take k)).length<=(bR bs).length:=by
 have a:bR bs=bR (bs.take k)++bR (bs.drop k):=by
  unfold bR;rw[<-Vi,Ww]
 rw[a,Ua];omega
def Mv(cs:List bL)(es:List Int)(bs:List Bd)(M N J:U)(w:F)(b4:cs.length<=8)(ca:es.length=cs.length)(av:∀c∈cs,c.name.size<=16)(ck:∀c∈cs,c.kind=1\/c.kind=2\/c.kind=3)(dk:bs.length<=2000)(P:∀b∈bs,C9 cs.length b)(cv:∀b∈bs,∀c∈b.chunks,0<c.text.size)(b2:(bR bs).length<=10000000000)
 (b5:vn w M cs) (cb:rA w N es) (b1:∃base L,L.map Ux=bs/\iY w base J L):
 bH 42 #[.agg #[M,N,J]] w λe w'=>e= .returned (.string (strOf (vB cs es bs)))/\aP w w':=by
 obtain⟨a5,ar,a1,a2,a3⟩:=Ve ay.rG;have bj:X (∀v,aP w v->bH 58 #[aO,.agg #[M,N,J]] v λe w'=>∃B,e= .returned B/\w'.ownsRow v.heap.size 5 1 B (ji cs es bs).length (aG (ji cs es bs))/\aP v w'):=λv ao=>
  tW cs es bs M N J v b4 ca av ck dk P (b5.below ao) (cb.lower ao) (by obtain⟨base,L,ae,z⟩:=b1;exact⟨base,L,ae,z.below ao⟩)
 have c1:X ((ji cs es bs).length<=2000000/\0<(ji cs es bs).length):=by
  have ae:=iF cs.length;have z:=ur (es:=es) av cs.length (T8 _);have dd:=iF bs.length;have el:=xO P b4 cs;have em:=E8 cs.length;show _/\_;unfold ji;simp only[Ua];omega
 obtain⟨base,L,am,al⟩:=b1;have C:=QK.bO qD al.own;obtain⟨H,x,y,n,rfl,t⟩:=C;obtain⟨o,eb,bE,aJ,rfl,en,-⟩:=b5;obtain⟨p,ec,jg,bW,rfl,-,-,-⟩:=cb;have bm:=af am;have ad:X (L.length=bs.length):=by show _=_;rw[<-am,UG]
 have bl:=af t;have be:=af al.each;have bu:=af cv;have bd:=af P;have ab:=af b2;have e1:L.length<=2000:=by have:=ad.o;omega
 have du:∀(E:Xv) (u:Array U) (T c:Nat),(convert 133 133 (.slice (I ⟨w.heap.size+1,0,K⟩) T c)).run (aB T4) ((w.alloc E).alloc (.cells u 5))= .ok (.slice (I ⟨w.heap.size+1,0,K⟩) T c) ((w.alloc E).alloc (.cells u 5 (u.size,u.size+1))):=λE u T c=>by
  have dc:=Lib.run_convert_bytes_const (P:=(aB T4)) (w.alloc E) 133 5 u T c ay.underlying133 ay.underlying5;rwa [show(w.alloc E).heap.size=w.heap.size+1 by simp] at dc
 clear ca av ck P am t al cv b2;go_enter ay.func42,Tryz.ntmps42
 go_upto_region 2 with fail
 clear du;have O:ou w ((w.alloc (.cells #[.slice o cs.length aJ,.slice p es.length bW,.slice H L.length n] 105)).alloc (.cells (aG dN).toArray 5 (4,5))) (.slice o cs.length aJ) (.slice p es.length bW) (.slice H L.length n) (.slice (I ⟨w.heap.size+1,0,K⟩) 4 4) (dN++bR (bs.take 0)):=
  ⟨alloc_old _ (by simp) (bk w _),.inr ⟨by simp[bR],w.heap.size+1,rfl,by omega,jH w _ _⟩,gA _ _⟩
 rw[show(aG dN).toArray=#[.int .u8 83,.int .u8 84,.int .u8 82,.int .u8 65] from rfl] at O;generalize (w.alloc (.cells #[.slice o cs.length aJ,.slice p es.length bW,.slice H L.length n] 105)).alloc (.cells #[.int .u8 83,.int .u8 84,.int .u8 82,.int .u8 65] 5 (4,5))=ea at*;obtain⟨a7,a8,a9⟩:=O.cells;have bx:=af O;clear O
 go_wp2_with fail
 clear a7 a8 a9
 go_loopw [3,14] (λba a wr=>∃d:Nat,d<=L.length/\a= .int .i64 (d:Int)/\ou w wr (.slice o cs.length aJ) (.slice p es.length bW) (.slice H L.length n) ba (dN++bR (bs.take d))) (λ_ a _=>L.length-(US a).toNat)
 case atStart=>exact⟨0,UE _,rfl,bx.o⟩
 case round=>
  clear bx;obtain⟨d,eQ,rfl,g⟩:=hrel;have j:=af g;have dr:w.heap.size<=wr.heap.size:=g.dg.size;by_cases D:d<L.length
  ·have Q:d<bs.length:=by rw[<-ad.o];exact D
   have t:=bl.o.below g.dg;obtain rfl:=t.addr (by omega);have V:aM wr x (y+d*2) (.int .i64 (L[d].1.rows:Int)):=t.c d D 0 _ Y;have cR:aM wr x (y+d*2+1) L[d].2:=t.c d D 1 _ Y;have ap:L[d].1=bs[d]:=by
    have:=bm.o;have z:(L.map Ux)[d]'(by simpa using D)=bs[d]:=by simp only[this]
    simpa using z
   have bt:X (w.ownsRow base 143 8 L[d].2 bs[d].chunks.length (ej bs[d].chunks)):=by have:=be.o L[d] (Uj D);rw[ap] at this;exact this
   have c4:X (dN++bR (bs.take (d+1))=dN++bR (bs.take d)++ct (bs[d].chunks.take bs[d].chunks.length)):=by
    show _=_;rw[xR bs d Q,Vf,UC]
   have c5:=af (bu.o _ (Uj Q));have bo:X (∀a,(dN++bR (bs.take d)++ct (bs[d].chunks.take a)).length<=10000000004):=λa=>by
    have ae:=NW bs[d].chunks a;have z:=Lz bs (d+1);rw[xR bs d Q,Ua] at z;have dd:=ab.o;rw[Ua,Ua];have:dN.length=4:=rfl;omega
   have eo:bs[d].chunks.length<=8:=by have:=(bd.o bs[d] (Uj Q)).len;omega
   rw[ap] at V;obtain⟨S,r,gM,fF,cl,i⟩:=QK.bO uy bt.o;rw[cl] at cR;have c2:=af i;generalize df:bs[d]=b at*;generalize a0:dN++bR (bs.take d)=pre at*;clear t ap df a0 g bt i cl
   go_upto_region 5 with fail
   have q:=j.o.alloc (.cells #[.int .i64 (b.rows:Int),.slice S b.chunks.length fF] 139);have A:(wr.alloc (.cells #[.int .i64 (b.rows:Int),.slice S b.chunks.length fF] 139)).heap[wr.heap.size]? =I (.cells #[.int .i64 (b.rows:Int),.slice S b.chunks.length fF] 139 (0,0)):=bk _ _;generalize wr.alloc (.cells #[.int .i64 (b.rows:Int),.slice S b.chunks.length fF] 139)=c9 at*;have s:X (ou w c9 (.slice o cs.length aJ) (.slice p es.length bW) (.slice (I ⟨x,y,K⟩) L.length n) u3 (pre++ct (b.chunks.take 0))):=by
    show ou _ _ _ _ _ _ _;rw[show ct (b.chunks.take 0)=[] from rfl,Wr];exact q
   generalize wr.heap.size=ef at*;obtain⟨dC,dE⟩:=qA A;clear q V cR j
   go_wp2_with fail
   clear dC dE A
   go_loopw [3,21] (λba a wr=>∃a4:Nat,a4<=b.chunks.length/\a= .int .i64 (a4:Int)/\ou w wr (.slice o cs.length aJ) (.slice p es.length bW) (.slice (I ⟨x,y,K⟩) L.length n) ba (pre++ct (b.chunks.take a4))) (λ_ a _=>b.chunks.length-(US a).toNat)
   case atStart=>exact⟨0,UE _,rfl,s.o⟩
   case round=>
    rename F=>h
    clear s;obtain⟨a,et,rfl,g⟩:=hrel;have j:=af g;have dr:w.heap.size<=h.heap.size:=g.dg.size;by_cases l:a<b.chunks.length
    ·have i:=c2.o.below g.dg;obtain rfl:=i.addr (by omega);have V:aM h r (gM+a*8) (.string b.chunks[a].text):=i.c a l 0 _ Y;have d3:aM h r (gM+a*8+1) (.bool b.chunks[a].eY.there):=i.c a l 1 _ Y;have d4:aM h r (gM+a*8+2) (.bool b.chunks[a].eY.least.null):=i.c a l 2 _ Y;have d5:aM h r (gM+a*8+3) (.int .i64 b.chunks[a].eY.least.n):=i.c a l 3 _ Y;have d6:aM h r (gM+a*8+4) (.string b.chunks[a].eY.least.s):=i.c a l 4 _ Y;have d7:aM h r (gM+a*8+5) (.bool b.chunks[a].eY.most.null):=i.c a l 5 _ Y;have d8:aM h r (gM+a*8+6) (.int .i64 b.chunks[a].eY.most.n):=i.c a l 6 _ Y;have d9:aM h r (gM+a*8+7) (.string b.chunks[a].eY.most.s):=i.c a l 7 _ Y;have bv:X (pre++ct (b.chunks.take (a+1))=pre++ct (b.chunks.take a)++bytesOf b.chunks[a].text):=by
      show _=_;rw[G7 b.chunks a l,UC]
     have e0:=bo.o a;have dp:=bo.o (a+1);rw[bv.o,Ua,aj] at dp;have dq:=c5.o _ (Uj l);generalize b.chunks[a]=f at*;generalize pre++ct (b.chunks.take a)=dv at*;clear i g
     go_upto_region 8 with fail
     have q:=j.o.alloc (.cells (dI f).toArray 143);have A:(h.alloc (.cells (dI f).toArray 143)).heap[h.heap.size]? =I (.cells (dI f).toArray 143 (0,0)):=bk _ _;rw[show(dI f).toArray=#[.string f.text,.bool f.eY.there,.bool f.eY.least.null,.int .i64 f.eY.least.n,.string f.eY.least.s,.bool f.eY.most.null,.int .i64 f.eY.most.n,.string f.eY.most.s] from rfl] at q A;generalize h.alloc (.cells #[.string f.text,.bool f.eY.there,.bool f.eY.least.null,.int .i64 f.eY.least.n,.string f.eY.least.s,.bool f.eY.most.null,.int .i64 f.eY.most.n,.string f.eY.most.s] 143)=bA at*;have c6:=af q;have b6:bA.heap[h.heap.size]? =I (.cells (dI f).toArray 143 (0,0)):=A;have ds:w.heap.size<=bA.heap.size:=q.dg.size;have cu:=q.own;generalize h.heap.size=eh at*;clear q V d3 d4 d5 d6 d7 d8 d9 j A;obtain⟨⟨da,-⟩,-⟩:=kA b6
     go_wp2_with (at_builtin;refine ry _ Y _ _ 133 9 Y w.heap.size a5 ay.underlying133 ay.underlying9 ar a1 a2 a3 _ dv Y cu f.text Y dq (by unfold Uq;omega) (by omega) ds ?_;intro dT d2 aw ci)
     have c7:X (ou w d2 (.slice o cs.length aJ) (.slice p es.length bW) (.slice (I ⟨x,y,K⟩) L.length n) dT (pre++ct (b.chunks.take (a+1)))):=c6.o.jP ci (by
      rw[j9] at aw;rw[bv.o,Ua,aj,jd];exact aw)
     clear aw ci cu da b6
     go_roundw
     case rel=>exact⟨a+1,by omega,by go_num,c7.o⟩
     case measure=>simp[US];omega
    ·obtain rfl:a=b.chunks.length:=by omega
     have c8:X (ou w h (.slice o cs.length aJ) (.slice p es.length bW) (.slice (I ⟨x,y,K⟩) L.length n) u3 (dN++bR (bs.take (d+1)))):=by show ou _ _ _ _ _ _ _;rw[c4.o];exact g
     clear g j
     go_wp2_with fail
     go_roundw
     case rel=>exact⟨d+1,by omega,by go_num,c8.o⟩
     case measure=>simp[US];omega
  ·obtain rfl:d=L.length:=by omega
   have cd:dN++bR (bs.take L.length)=dN++bR bs:=by rw[ad.o,Vf]
   rw[cd] at g;have bi:X (vB cs es bs=dN++bR bs++ji cs es bs++iA (ji cs es bs).length++bytesOf ⟨#[83,84,82,65]⟩):=by
    show _=_;rw[show bytesOf ⟨#[83,84,82,65]⟩=dN from rfl];unfold vB;simp only[UC]
   have e4:(dN++bR bs).length<=10000000004:=by
    have:=ab.o;rw[Ua];have:dN.length=4:=rfl;omega
   obtain⟨er,cc⟩:=c1.o;generalize ji cs es bs=k at*;generalize dN++bR bs=pre at*;have j:=af g;obtain⟨a7,a8,a9⟩:=g.cells;clear g cd bm bl be bu bd ab
   go_upto_region 12 with(go_at_call 58;refine(bj.o _ j.o.dg).mono ?_;rintro e d0 ⟨ee,rfl,az,b0⟩)
   have s:=af (j.o.below b0);obtain⟨bB,db,rfl,-,-⟩:=az.form cc;have b3:=az.cells (g:=bB) Y;have cn:=s.o.own;have dt:w.heap.size<=d0.heap.size:=s.o.dg.size;clear a7 a8 a9 b0 j bj
   go_upto_region 13 with(at_builtin;refine xa _ Y _ _ 133 Y w.heap.size a5 ay.underlying133 ar a1 a2 a3 _ pre Y cn ⟨bB,0,K⟩ db k Y cc b3 (by unfold Uq;omega) (by omega) dt ?_;intro W Z R cf)
   have aq:aP w Z:=(s.o.jP cf R).dg;have e2:(pre++k).length<=10002000004:=by rw[Ua];omega
   have c0:=af bi.o;clear b3 cn cf s az bi;generalize a0:pre++k=G at*;have bb:X (bH 59 #[W,.int .i64 (k.length:Int)] Z λe w'=>∃B,e= .returned B/\w'.ownsRow w.heap.size 5 1 B (G++iA k.length).length (aG (G++iA k.length))/\aR Z w' W B):=tX W G k.length w.heap.size Z (by omega) (by omega) aq.size R;have aa:=af aq;have br:X (∀m,W.ownBlock=I m->w.heap.size<=m):=λm C=>(R.lt m C).1;clear a0 R aq
   go_upto_region 14 with(go_at_call 59;refine bb.o.mono ?_;rintro e d1 ⟨dO,rfl,co,ch⟩)
   have bc:=af (aa.o.trans (ch.below br.o aa.o.size));have cx:w.heap.size<=d1.heap.size:=bc.o.size;have c3:X (∀m,dO.ownBlock=I m->w.heap.size<=m):=λm C=>(co.lt m C).1;have e3:(G++iA k.length).length<=10002000008:=by rw[Ua];have:(iA k.length).length=4:=rfl;omega
   clear ch bb aa br;generalize G++iA k.length=a6 at*
   go_wp2_with (at_builtin;refine eP _ Y _ _ 133 9 Y w.heap.size 5 a5 ay.underlying133 ay.underlying9 ar a1 a2 a3 _ a6.length _ Y co ⟨#[83,84,82,65]⟩ Y (show a6.length+4<=Uq by unfold Uq;omega) (show a6.length+4<=140737488355328 by omega) cx ?_;intro e5 e6 cp dl;rw[j9,<-jd] at cp;have eq:=qi cp (by rw[Ua,aj]))
   go_ret;rw[c0.o];exact⟨rfl,bc.o.trans (dl.below c3.o cx)⟩
def vI{cs:List bL}(h:hU cs):∀c∈cs,c.name.size<=16:=by
 intro c a;obtain⟨d,b,rfl⟩:=Vv a;have:=(h.2.2 d b).1;simp[n5] at this;omega
def LC{P:aE->Prop}{b:lB}{v:aE}(h1:P b.least)(a:P b.most)(c:P v):P (nX b v).least/\P (nX b v).most:=by
 unfold nX
 split
 ·exact⟨h1,a⟩
 ·dsimp only;constructor<;>split<;>assumption
def FD{P:aE->Prop}(d:P ⟨T7,0,⟨#[]⟩⟩)(l:List aE)(h:∀x∈l,P x):P (cw l).least/\P (cw l).most:=by
 have:∀(l:List aE) (a:lB),P a.least->P a.most->(∀x∈l,P x)->P (l.foldl nX a).least/\P (l.foldl nX a).most:=by
  intro l
  induction l with
  |nil=>intro a b c _;exact⟨b,c⟩
  |cons x j g=>
   intro a b c h;rw[List.foldl_cons];have e:=LC b c (h x (by simp));exact g _ e.1 e.2 (λi f=>h i (by simp[f]))
 exact this l cE d d h
def zQ:pq ⟨T7,0,⟨#[]⟩⟩:=⟨by decide,by decide,by decide⟩
def Ko{l:List Int}(h:0<l.length):0<(cy l).length:=by
 cases l with
 |nil=>simp at h
 |cons b a=>
  unfold cy iD;simp;omega
def Dy{k e:Int}{l:List aE}(h:0<l.length):0<(bK k e l).length:=by
 unfold bK;rw[Ua];have:=Ko (l:=l.map nL) (by simpa using h);omega
def FL{k e:Int}{l:List aE}(h:∀x∈l,pq x)(a:l.length<=100):(bK k e l).length<=110000:=by
 unfold bK;rw[Ua];have c:=oK (l.map nL) (by simpa using a);have d:=z8 k e (there l) (λx b=>h x (u7 b)) (by have:=lW l;omega);omega
structure mZ(cs:List bL)(rows:List (List aE))(es:List Int)(bd:Nat):Prop where
 table:iH cs rows
 eI:lC cs es
 lo:1<=bd
 hi:bd<=100
 vals:∀r∈rows,∀x∈r,rC x
def mZ.len{cs:List bL}{a:List (List aE)}{es:List Int}{b:Nat}(h:mZ cs a es b):∀r∈a,r.length=cs.length:=by
 intro r d;obtain⟨e,c,rfl⟩:=Vv d;exact(h.table.2.2 e c).1
def DG{a:List (List aE)}{b j:Nat}{r:List aE}(h:r∈bY a b j):r∈a:=List.mem_of_mem_drop (V5 h)
def mZ.col{cs:List bL}{k:List (List aE)}{es:List Int}{c:Nat}(h:mZ cs k es c)(j p:Nat)(e:p<cs.length):∀x∈bI (bY k c j) p,fQ x cs[p].kind=Z/\pq x:=by
 intro x g;unfold bI at g;obtain⟨i,m,rfl⟩:=U7.1 g;have f:=DG m;obtain⟨o,l,n⟩:=Vv f;have b:=h.table.2.2 o l;rw[n] at b;have a:p<i.length:=by rw[b.1];exact e
 have d:=b.2 p a e;rw[Ui,Um a];exact⟨d,zP (h.vals i f _ (Uj a)) d⟩
def mZ.cut{cs:List bL}{b:List (List aE)}{es:List Int}{a:Nat}(h:mZ cs b es a)(j p:Nat):(bI (bY b a j) p).length<=100:=by
 rw[ga,iu];have:=h.hi;omega
def mZ.FW{cs:List bL}{b:List (List aE)}{es:List Int}{a:Nat}(h:mZ cs b es a):es.length=cs.length:=h.eI.1.symm
def mZ.lN{cs:List bL}{c:List (List aE)}{es:List Int}{a:Nat}(h:mZ cs c es a)(bo:Bool)(j p:Nat)(b:p<cs.length):
 BQ (bY c a j) cs es bo p=⟨strOf (bK cs[p].kind (es.getD p 0) (bI (bY c a j) p)),if bo then cw (bI (bY c a j) p) else cE⟩:=by
 rw[H9 b (by rw[h.FW];exact b)];have d:=h.col j p b;rw[L7 (by have:=h.cut j p;omega) (h.eI.2 p b) (λf e=>(d _ (Uj e)).1)]
def mZ.chunks{cs:List bL}{d:List (List aE)}{es:List Int}{a:Nat}(h:mZ cs d es a)(bo:Bool)(j:Nat):∀c∈eu (bY d a j) cs es bo cs.length,c.text.size<=110000/\pq c.eY.least/\pq c.eY.most/\(j*a<d.length->0<c.text.size):=by
 intro c i;unfold eu at i;obtain⟨b,e,rfl⟩:=U7.1 i;have e:=Vt.1 e;rw[h.lN bo j b e];have k:∀f∈bI (bY d a j) b,pq f:=λf m=>(h.col j b e f m).2;have l:=FD zQ _ k;have g:pq (if bo=Z then cw (bI (bY d a j) b) else cE).least/\pq (if bo=Z then cw (bI (bY d a j) b) else cE).most:=by
  cases bo
  ·exact⟨zQ,zQ⟩
  ·exact l
 refine⟨?_,g.1,g.2,λn=>?_⟩
 ·show(strOf _).size<=_;rw[kK];exact FL k (h.cut j b)
 ·show 0<(strOf _).size;rw[kK];refine Dy ?_;rw[ga,iu];have:=h.lo;omega
def mZ.Fv{cs:List bL}{e:List (List aE)}{es:List Int}{c:Nat}(h:mZ cs e es c)(bo:Bool)(j:Nat):C9 cs.length (gL (bY e c j) cs es bo):=by
 have d:=h.chunks bo j;refine⟨?_,cT _ _ _ _ _,λa b=>?_,λa b=>(d a b).2.1,λa b=>(d a b).2.2.1⟩
 ·show(bY e c j).length<_;rw[iu];have:=h.hi;omega
 ·have:=(d a b).1;omega
def mZ.nb{cs:List bL}{b:List (List aE)}{es:List Int}{a:Nat}(h:mZ cs b es a):b7 b.length a<=2000:=by
 have d:=h.table.2.1;have e:=h.lo;unfold b7;have:=Nat.div_le_self (b.length+a-1) a;rcases Vy a 2 with c|c
 ·have:a=1:=by omega
  subst this;simp;omega
 ·have f:=Nat.div_mul_le_self (b.length+a-1) a;have g:(b.length+a-1)/a*2<=(b.length+a-1)/a*a:=Nat.mul_le_mul_left _ c;have:=h.hi;omega
def mZ.b9{cs:List bL}{d:List (List aE)}{es:List Int}{a:Nat}(h:mZ cs d es a)(bo:Bool)(n:Nat):∀b∈bP d cs es bo a n,C9 cs.length b:=by
 intro b c;unfold bP at c;obtain⟨e,-,rfl⟩:=U7.1 c;exact h.Fv bo e
def mZ.pos{cs:List bL}{d:List (List aE)}{es:List Int}{a:Nat}(h:mZ cs d es a)(bo:Bool):∀b∈bP d cs es bo a (b7 d.length a),∀c∈b.chunks,0<c.text.size:=by
 intro b e c g;unfold bP at e;obtain⟨f,i,rfl⟩:=U7.1 e;exact(h.chunks bo f c g).2.2.2 ((mw h.lo f).2 (Vt.1 i))
def mZ.body{cs:List bL}{b:List (List aE)}{es:List Int}{a:Nat}(h:mZ cs b es a)(bo:Bool):(bR (bP b cs es bo a (b7 b.length a))).length<=10000000000:=by
 have g:=lR (λe:Bd=>ct e.chunks) 880000 (bP b cs es bo a (b7 b.length a)) (λe f=>by
  unfold bP at f;obtain⟨c,-,rfl⟩:=U7.1 f;have i:=lR (λd:kq=>bytesOf d.text) 110000 (eu (bY b a c) cs es bo cs.length) (λd j=>by rw[aj];exact(h.chunks bo c d j).1);have k:=h.table.1.2.1;rw[cT] at i;show(List.flatMap _ _).length<=_;have:(gL (bY b a c) cs es bo).chunks=eu (bY b a c) cs es bo cs.length:=rfl;rw[this];omega)
 have l:=h.nb;rw[jb] at g;show(List.flatMap _ _).length<=_;omega
def eC (cs:List bL)(b:List (List aE))(es:List Int)(bo:Bool)(a:Nat):List Nat:=vB cs es (bP b cs es bo a (b7 b.length a))
def Lq (cs:List bL)(a:List (List aE))(b:Int)(es:List Int)(bo:Bool)(s:ByteArray)(n:Int):Prop:=
 (¬iH cs a/\s=⟨#[]⟩/\n=1)\/(iH cs a/\¬mq b es cs/\s=⟨#[]⟩/\n=2)\/
 (iH cs a/\mq b es cs/\65536<(eC cs a es bo b.toNat).length/\s=⟨#[]⟩/\n=6)\/
 (iH cs a/\mq b es cs/\¬ 65536<(eC cs a es bo b.toNat).length/\s=strOf (eC cs a es bo b.toNat)/\n=0)
def Lf (k:Int)(b:lB):Prop:=b=cE\/(b.there=Z/\VK k b.least/\VK k b.most/\¬ 0<fp b.least b.most)
def aG (b:lB):Array U:= #[.bool b.there,.bool b.least.null,.int .i64 b.least.n,.string b.least.s,.bool b.most.null,.int .i64 b.most.n,.string b.most.s]
theorem Kp.Rx{r g:Nat}{w:F}(c:w.heap.size<=g):∀(vs:List U) (o:Nat) (a:F),Kp r w a->Kp r w (a.setCells g o vs)
 | [],_,_,b=>b
 |v::e,o,a,b=>Kp.Rx c e (o+1) _ (b.grown (aQ a g o v) (λf d=>by cases d;exact c))
def EJ{w:F}{g:Nat}{b:lB}{t:Uh}(h:w.heap[g]? =I (.cells (aG b) t (0,0))):(aM w g 0 (.bool b.there)/\aM w g 1 (.bool b.least.null)/\aM w g 2 (.int .i64 b.least.n)/\aM w g 3 (.string b.least.s)/\aM w g 4 (.bool b.most.null)/\aM w g 5 (.int .i64 b.most.n)/\aM w g 6 (.string b.most.s))/\∀j,w.frozen? ⟨g,j,K⟩=T7:=by
 unfold aG at h;refine⟨⟨?_,?_,?_,?_,?_,?_,?_⟩,λj=>by simp[World.frozen?,h]⟩<;>simp[Us,h]
def Hw (w:F)(r p:Nat)(s:ByteArray)(k:Int)(e:WS)(w':F):Prop:=
 Kp r w w'/\((∃a:lB,e= .returned (FE a)/\Lf k a/\ai (bytesOf s) p (cq k a)/\p+(cq k a).length<=s.size/\w'.heap[r]? =I (cg s (p+(cq k a).length)))\/
  (∃b,e= .panicked (eD b)/\∀a:lB,Lf k a->¬ai (bytesOf s) p (cq k a)))
def yY(k:Int)(N:k=1\/k=2\/k=3)(r p:Nat)(s:ByteArray)(w:F)(bc:s.size<=Uq)(bd:p<=s.size)(h:w.heap[r]? =I (cg s p)):
 bH 131 #[.pointer (I ⟨r,0,K⟩),.int .i64 k] w (Hw w r p s k):=by
 have db:r<w.heap.size:=Ue h;have bt:X ((w.alloc (.cells (aG cE) 141)).heap[r]? =I (cg s p)):=by
  show _=_;rw[UN _ _ r db];exact h
 have av:X (Kp r w (w.alloc (.cells (aG cE) 141))):=(Kp.refl r w).alloc _;have dd:X (∀p,p<=s.size->∀bi,ai (bytesOf s) p bi->p+bi.length<=s.size):=λp bd bi b=>by have:=gJ b (by rw[aj];exact bd);rwa [aj] at this
 clear h;go_enter ay.func131,Tryz.ntmps131
 go_wp2_with fail
 refine(BI r p s _ bc bd bt.o).mono ?_;rintro i C ⟨J,⟨dr,rfl,f,ca,b2,b4⟩|⟨x,rfl,t⟩⟩;rotate_left
 ·have y:X (∀e:lB,Lf k e->¬ai (bytesOf s) p (cq k e)):=λe f b=>by
   rcases f with rfl|⟨u,-⟩
   ·exact t 0 (.inl Y) b
   ·unfold cq at b;rw[if_pos u] at b;exact t 1 (.inr Y) (au.1 b).1
  have A:X (Kp r w C):=av.o.trans J;clear t J;go_wp2;exact⟨rfl,A.o,.inr ⟨x,rfl,y.o⟩⟩
 ·have A:X (Kp r w C):=av.o.trans J;have V:X (C.heap[w.heap.size]? =I (.cells (aG cE) 141 (0,0))):=Kp.block J (V4 w _) (by omega);have aw:=af b2;have a0:=af ca;clear ca b2 J bt av;rcases f with rfl|rfl
  ·have cn:X (C.there w.heap.size 0 (aG cE).size):=Bf V.o;have a3:X ((C.setCells w.heap.size 0 (aG cE).toList).rangeAt w.heap.size 0 (aG cE).toList):=World.rangeAt_setCells_same _ _ _ _ cn.o;obtain⟨⟨co,cp,cs,cu,cv,cx,cR⟩,j⟩:=EJ V.o;have c0:=j 0;have c1:=j 1;have c2:=j 2;have c3:=j 3;have c4:=j 4;have c5:=j 5;have c6:=j 6;have aq:X (Hw w r p s k (.returned (.agg (aG cE).toList.toArray)) (C.setCells w.heap.size 0 (aG cE).toList)):=⟨Kp.Rx (T8 _) _ _ _ A.o,.inl ⟨cE,rfl,.inl Y,a0.o,b4,(mz (by omega) _ _ _).trans aw.o⟩⟩;go_wp2;exact A1 Tryz.results131 Y Y a3.o ay.underlying141 Y (by kernel_rfl) aq.o
  ·have ad:=af a0.o;clear a0
   go_upto_region 3 with fail
   have br:X (∀d,d.heap[r]? =I (cg s (p+1))->bH 153 #[.pointer (I ⟨r,0,K⟩),.int .i64 k] d λi o=>Kp r d o/\((∃v:aE,i= .returned (.agg (gZ v))/\VK k v/\ai (bytesOf s) (p+1) (bf k v)/\p+1+(bf k v).length<=s.size/\o.heap[r]? =I (cg s (p+1+(bf k v).length)))\/(∃x,i= .panicked (eD x)/\∀v:aE,VK k v->¬ai (bytesOf s) (p+1) (bf k v)))):=λd M=>j4 k N r (p+1) s d bc b4 M
   go_wp2_with fail
   refine(br.o _ aw.o).mono ?_;rintro i q ⟨L,⟨c,rfl,cd,cb,b5,a9⟩|⟨x,rfl,t⟩⟩;rotate_left
   ·have y:X (∀e:lB,Lf k e->¬ai (bytesOf s) p (cq k e)):=λe f b=>by
     rcases f with rfl|⟨u,z,-⟩
     ·have:=iE ad.o (show ai (bytesOf s) p [0] from b) Y;simp at this
     ·unfold cq at b;rw[if_pos u] at b;exact t _ z (au.1 (au.1 b).2).1
    have D:X (Kp r w q):=A.o.trans L;clear t L;go_wp2;exact⟨rfl,D.o,.inr ⟨x,rfl,y.o⟩⟩
   ·have a2:=af cd;have a1:=af cb;obtain⟨g,be⟩:∃g,g=p+1+(bf k c).length:=⟨_,rfl⟩;have aa:=af be;rw[<-be] at b5 a9;have D:X (Kp r w q):=A.o.trans L;have ao:X (q.heap[w.heap.size]? =I (.cells (aG cE) 141 (0,0))):=Kp.block L V.o (by omega);have dp:w.heap.size<q.heap.size:=Ue ao.o;have bv:X ((q.alloc (.cells (gZ c) 59)).heap[r]? =I (cg s g)):=by
     show _=_;rw[UN _ _ r (by omega)];exact a9
    have bs:X (∀d,d.heap[r]? =I (cg s g)->bH 153 #[.pointer (I ⟨r,0,K⟩),.int .i64 k] d λi o=>Kp r d o/\((∃v:aE,i= .returned (.agg (gZ v))/\VK k v/\ai (bytesOf s) g (bf k v)/\g+(bf k v).length<=s.size/\o.heap[r]? =I (cg s (g+(bf k v).length)))\/(∃x,i= .panicked (eD x)/\∀v:aE,VK k v->¬ai (bytesOf s) g (bf k v)))):=λd M=>j4 k N r g s d bc b5 M;clear cd cb be L a9 br aw V A
    go_upto_region 4 with fail
    go_wp2_with fail
    refine(bs.o _ bv.o).mono ?_;rintro i m ⟨B,⟨a,rfl,cf,cc,da,b3⟩|⟨x,rfl,t⟩⟩;rotate_left
    ·have y:X (∀e:lB,Lf k e->¬ai (bytesOf s) p (cq k e)):=λe f b=>by
      rcases f with rfl|⟨u,z,H,-⟩
      ·have:=iE ad.o (show ai (bytesOf s) p [0] from b) Y;simp at this
      ·unfold cq at b;rw[if_pos u] at b;obtain⟨ba,f⟩:=au.1 (au.1 b).2;have:=l7 N z a2.o ba a1.o;rw[this] at f;refine t _ H ?_;rw[aa.o];exact f
     have W:X (Kp r w m):=(D.o.alloc _).trans B;clear t B;go_wp2;exact⟨rfl,W.o,.inr ⟨x,rfl,y.o⟩⟩
    ·have bB:=af cf;have bx:=af cc;have bu:=af b3;have W:X (Kp r w m):=(D.o.alloc _).trans B;have bj:X (m.heap[w.heap.size]? =I (.cells (aG cE) 141 (0,0))):=Kp.block B (alloc_old _ (by omega) ao.o) (by omega);have a5:X (m.heap[q.heap.size]? =I (.cells (gZ c) 59 (0,0))):=Kp.block B (bk q _) (by omega);have cl:X (∀e:lB,Lf k e->ai (bytesOf s) p (cq k e)->e=⟨Z,c,a⟩):=λe f b=>by
      rcases f with rfl|⟨u,z,H,-⟩
      ·have:=iE ad.o (show ai (bytesOf s) p [0] from b) Y;simp at this
      ·unfold cq at b;rw[if_pos u] at b;obtain⟨ba,f⟩:=au.1 (au.1 b).2;have a8:=l7 N z a2.o ba a1.o;rw[a8,show p+[1].length+(bf k c).length=g from aa.o.symm] at f;have b0:=l7 N H bB.o f bx.o;obtain⟨dl,df,dk⟩:=e;simp only at u a8 b0;subst u a8 b0;rfl
     have ck:X (ai (bytesOf s) p (cq k ⟨Z,c,a⟩)):=by
      show ai _ _ ([1]++(bf k c++bf k a));refine au.2 ⟨ad.o,au.2 ⟨a1.o,?_⟩⟩;rw[show p+[1].length+(bf k c).length=g from aa.o.symm];exact bx.o
     have dq:q.heap.size<m.heap.size:=Ue a5.o;have ap:X (∀d,bH 125 #[.agg (gZ c),.agg (gZ a)] d λi o=>i= .returned (.int .i64 (fp c a))/\aP d o):=λd=>jI c a d;clear cf cc b3 B bs bv D ao
     go_upto_region 5 with fail
     have bm:X (Kp r w (m.alloc (.cells (gZ a) 59))):=W.o.alloc _;have ab:X ((m.alloc (.cells (gZ a) 59)).heap[r]? =I (cg s (g+(bf k a).length))):=alloc_old _ (by omega) bu.o;have U:X ((m.alloc (.cells (gZ a) 59)).heap[w.heap.size]? =I (.cells (aG cE) 141 (0,0))):=alloc_old _ (by omega) bj.o;have E:X ((m.alloc (.cells (gZ a) 59)).heap[q.heap.size]? =I (.cells (gZ c) 59 (0,0))):=alloc_old _ (by omega) a5.o;have G:X ((m.alloc (.cells (gZ a) 59)).heap[m.heap.size]? =I (.cells (gZ a) 59 (0,0))):=bk m _;clear W bu bj a5;generalize m.alloc (.cells (gZ a) 59)=ds at*;generalize q.heap.size=ae at*;generalize m.heap.size=al at*;obtain⟨O,P,Q⟩:=cB E.o;obtain⟨R,S,T⟩:=cB G.o;have ch:X (∀d,d.heap[r]? =I (cg s (g+(bf k a).length))->bH 97 #[.pointer (I ⟨r,0,K⟩)] d λi o=>i= .panicked (eD (g+(bf k a).length))/\Kp r d o):=λd M=>(b8 r _ s d M).mono (λi o ⟨z,H⟩=>⟨z,by subst H;exact Kp.refl r _⟩);obtain⟨a7,bb⟩:∃a7,a7=fp c a:=⟨_,rfl⟩;rw[<-bb] at ap;have bl:=af bb;clear bb;by_cases b6:0<a7
     ·go_upto_region 6 with(go_at_call 125;refine(ap.o _).mono ?_;rintro i l ⟨rfl,n⟩;have a4:X (l.heap[ae]? =I (.cells (gZ c) 59 (0,0))):=(n.block ae (Ue E.o)).trans E.o;have a6:X (l.heap[al]? =I (.cells (gZ a) 59 (0,0))):=(n.block al (Ue G.o)).trans G.o;have am:X (l.heap[w.heap.size]? =I (.cells (aG cE) 141 (0,0))):=(n.block _ (Ue U.o)).trans U.o;have az:X (l.heap[r]? =I (cg s (g+(bf k a).length))):=(n.block _ (Ue ab.o)).trans ab.o;have ar:X (Kp r w l):=bm.o.trans (Kp.cr n);clear O P Q R S T n;obtain⟨O,P,Q⟩:=cB a4.o;obtain⟨R,S,T⟩:=cB a6.o)
      go_wp2_with fail
      refine(ch.o _ az.o).mono ?_;rintro i dc ⟨rfl,b1⟩;have y:X (∀e:lB,Lf k e->¬ai (bytesOf s) p (cq k e)):=λe f b=>by
       have c9:=cl.o e f b;subst c9;rcases f with c7|⟨-,-,-,c8⟩
       ·simp[cE] at c7
       ·exact c8 (by rw[bl.o] at b6;exact b6)
      have ci:X (Kp r w dc):=ar.o.trans b1;clear b1 O P Q R S T;go_wp2;exact⟨rfl,ci.o,.inr ⟨_,rfl,y.o⟩⟩
     ·go_upto_region 7 with(go_at_call 125;refine(ap.o _).mono ?_;rintro i l ⟨rfl,n⟩;have a4:X (l.heap[ae]? =I (.cells (gZ c) 59 (0,0))):=(n.block ae (Ue E.o)).trans E.o;have a6:X (l.heap[al]? =I (.cells (gZ a) 59 (0,0))):=(n.block al (Ue G.o)).trans G.o;have am:X (l.heap[w.heap.size]? =I (.cells (aG cE) 141 (0,0))):=(n.block _ (Ue U.o)).trans U.o;have az:X (l.heap[r]? =I (cg s (g+(bf k a).length))):=(n.block _ (Ue ab.o)).trans ab.o;have ar:X (Kp r w l):=bm.o.trans (Kp.cr n);clear O P Q R S T n;obtain⟨O,P,Q⟩:=cB a4.o;obtain⟨R,S,T⟩:=cB a6.o)
      obtain⟨⟨co,cp,cs,cu,cv,cx,cR⟩,j⟩:=EJ am.o;have c0:=j 0;have c1:=j 1;have c2:=j 2;have c3:=j 3;have c4:=j 4;have c5:=j 5;have c6:=j 6;have bA:X (l.there w.heap.size 0 (aG ⟨Z,c,a⟩).size):=(show l.there w.heap.size 0 7 from Bf am.o);have a3:X ((l.setCells w.heap.size 0 (aG ⟨Z,c,a⟩).toList).rangeAt w.heap.size 0 (aG ⟨Z,c,a⟩).toList):=World.rangeAt_setCells_same _ _ _ _ bA.o;have bo:X (p+(cq k ⟨Z,c,a⟩).length=g+(bf k a).length):=by
       show p+([1]++(bf k c++bf k a)).length=_;have:=aa.o;simp only[Ua,List.length_singleton];omega
      have aq:X (Hw w r p s k (.returned (.agg (aG ⟨Z,c,a⟩).toList.toArray)) (l.setCells w.heap.size 0 (aG ⟨Z,c,a⟩).toList)):=⟨Kp.Rx (T8 _) _ _ _ ar.o,.inl ⟨⟨Z,c,a⟩,rfl,.inr ⟨rfl,a2.o,bB.o,by rw[<-bl.o];omega⟩,ck.o,by rw[bo.o];exact da,(mz (by omega) _ _ _).trans (by rw[bo.o];exact az.o)⟩⟩;clear bA;go_wp2;exact A1 Tryz.results131 Y Y a3.o ay.underlying141 Y (by kernel_rfl) aq.o
end Ec
end Go.Proofs.YtjidbonhhpkljaaGreat
