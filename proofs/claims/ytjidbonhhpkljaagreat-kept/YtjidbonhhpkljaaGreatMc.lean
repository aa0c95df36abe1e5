/- What the proof stands on, in short names. -/
import Derived.Test.YtjidbonhhpkljaaGreatMb
import Derived.Conc.LoneCalls
import Derived.Conc.Know
import Derived.Conc.CrowdComm
import Derived.Conc.WalkWords
import Derived.Orders
import Derived.Conc.DeferLaws
import Derived.Conc.EventLaws
import Derived.Conc.Neutral
import Derived.Conc.AppendWalk
import Derived.Conc.SmallLaws
import Derived.Conc.AppendEvents3
import Derived.Laws.AppendOwn
import Derived.Great.BuildSlice
import Derived.Lib.SlBytesConst
set_option linter.all false
open Array renaming getD_eq_getD_getElem?->UE,getElem?_eq_getElem->UW,getElem?_eq_none->Vm,getElem?_eq_some_iff->Uc,getElem?_push->VD,getElem?_setIfInBounds->UQ,getElem?_setIfInBounds_ne->VT,length_toList->Wb,range->Yq,replicate->U4
open Bool renaming and_eq_true->Ux,false->T8,false_eq_true->UC,not_eq_true'->WR,or_eq_true->WV,true->Z
open Classical renaming byContradiction->V0,choose->Vr,choose_spec->Uw
open Go renaming Act->V7,Addr->UK,Code->WX,Deferred->Wl,Ending->WU,Event->Vn,Frame->Uu,Func->WD,FuncId->V2,GStep->Yu,Goroutine->UM,IntKind->Wy,Item->WO,MemOp->Yz,Obj->Xx,Oper->Vv,Operand->U7,PanicEntry->Vs,Program->Ug,Sem->Wv,TypeId->Ui,TypeInfo->Xi,Value->U,World->F,doReturn->Xb,execOp->UI,exitTo->Yi,heap_alloc_new->V5,info_parts->Vg,lt_of_block->Uf,maxLen->Ur,resolve->X7,results->UY,stepG->UN,step_append_lies->WL,tryRecover->Xr,typeInfo->XE,undef->Vl,unwind->Yj,yielded->Vk,zeroValue->Wo
open Go.Act renaming put->UX
open Go.Addr renaming add_mid->Xf
open Go.Conc renaming G->Uh,mem_ofEvents->WY,served->Wj,solo->Yk
open Go.ConcN renaming sumTo->XN
open Go.Deferred renaming ofValue->XP
open Go.Frame renaming enter->UZ,finish->VX,finish_at->XI
open Go.GStep renaming after->WS
open Go.Goroutine.mk renaming injEq->YH
open Go.Instr renaming buildSlice->XQ,fill->X8,sureAddr->Xg
open Go.IntKind renaming bits->Yh,i64->XO,signed->XV,u8->Yv,wrap_i64->Xa
open Go.Item.inRegion renaming injEq->XM
open Go.Machine.mk renaming injEq->Y6
open Go.MemAct renaming ofEvent->WE,touch?->X9
open Go.MemOp renaming ofEvents->XW
open Go.Proofs.Tryz renaming f19->Wd,prog->T5
open Go.Region renaming binds->Vo,ready->U0,schedule->X3,wanted->UG
open Go.Region.linearise renaming go->Va
open Go.RowKit renaming intOf->UT
open Go.RowKit.Below renaming heap_alloc->UO,refl->Uq
open Go.Sem renaming run->Wu,runT_eq->Ye,run_bind->WK
open Go.Stepped.next renaming injEq->Y3
open Go.Value renaming ownBlock->VA
open Go.World renaming cell?->Ut,news_of_block->VL
open Go.stepG renaming apply->VO,exec->UJ
open List renaming all_eq_true->UA,append_assoc->UD,append_nil->Ws,cons_append->We,flatMap_append->Vj,getD_eq_getElem?_getD->Uj,getElem?_eq_getElem->Uo,getElem_mem->Uk,getElem_of_mem->Vw,length_append->Ub,length_cons->VJ,length_map->UH,length_nil->XJ,length_take->Vt,map_cons->Xy,mem_cons->VN,mem_cons_self->Xu,mem_map->U8,mem_of_mem_take->V6,mem_range->Vu,range->UL,range_succ->XK,setIfInBounds_toArray->Ud,set_cons_succ->Ul,set_cons_zero->Um,take_append_drop->Wx,take_length->Vh
open List.cons renaming injEq->Xl
open Nat renaming eq_zero_or_pos->Xv,le_refl->T9,le_trans->Uz,lt_of_lt_of_le->Ue,lt_or_ge->Vz,zero_le->UF
open Option renaming bind_eq_some_iff->US,bind_some->XT,getD_some->V3,map_eq_some_iff->Wr,map_some->V4,none->K,some->I
open Option.some renaming inj->Yl,injEq->U9
open Prod renaming fst->Uy
open WellFounded renaming fixF->Y7,fixF_eq->Y1
set_option maxRecDepth 100000
set_option maxHeartbeats 8000000
namespace Go.Proofs.YtjidbonhhpkljaaGreat
namespace Cc
open Go
def Di (Stop:Uu->List Uu->F->Prop)(fr:Uu)(aF:List Uu)(w:F):Prop:=∃b a,Stop fr aF (sh b a w)
structure Node(P P':Ug)(Stop:Uu->List Uu->F->Prop) where
 fr:Uu
 aF:List Uu
 w:F
 u:F
 ok:eO P fr aF
 hp:Hp (bk P) w
 un:Un w u
 no:¬Fin P P' (Di Stop) fr aF w u
section
variable {P P':Ug}{Stop:Uu->List Uu->F->Prop}
def Qr (x:Node P P' Stop)(b:Tp)(d:Nat)(y:Node P P' Stop):Prop:=∃a,Dc P P (sh b d x.w) (dQ x.fr x.aF) y.fr y.aF y.w a
def Lp (x:Node P P' Stop)(e:Tp)(d:Nat):Prop:=¬oZ x.fr x.aF\/(∀m f,∃g b a,dQ x.fr x.aF P m f (sh e d x.w)= .ended g b a)\/∃c h b a,Dc P P (sh e d x.w) (dQ x.fr x.aF) c h b a/\IX c
def IM{w w' c:F}(h:rY w w w' c)(e:Tp)(d:Nat):sh e d c=sh e d w':=by
 have f:c.heap=w'.heap:=by
  apply Array.ext_getElem?;intro b;rcases h.un.cases b with a|⟨a,j,g,i⟩
  ·exact a
  ·rw[(h.keep b a).2,(h.keep b a).1,a]
 unfold sh;rw[f,h.un.os,h.un.output]
def CG{w w':F}{c:Ug->Bool->List Uu->F->Yu}{fr':Uu}{tops':List Uu}{es:Array Vn}(h:∀a d u,Un w u->Al w.tape w.drawn a d (w'.drawn-w.drawn)->∃b,rY w u w' b/\∀m cs,c P m cs (sh a d u)= .go (Uh fr' (tops'++cs)) (sh a (d+(w'.drawn-w.drawn)) b) es)(a:Tp)(d:Nat)(f:Al w.tape w.drawn a d (w'.drawn-w.drawn)):c P Z [bF] (sh a d w)= .go (Uh fr' (tops'++[bF])) (sh a (d+(w'.drawn-w.drawn)) w') es:=by
 obtain⟨b,g,e⟩:=h a d w (Un.refl w) f;rw[e Z [bF],IM g]
def JA{w:F}{fr:Uu}{aF:List Uu}(h:Twins P P')(e:Hp (bk P) w)(ok:eO P fr aF)(f:oZ fr aF){fr':Uu}{tops':List Uu}{w':F}{es:Array Vn}(b:Dc P P' w (dQ fr aF) fr' tops' w' es):Dc P P w (dQ fr aF) fr' tops' w' es:=by
 rcases zg h.self.A h.self.R e ok f with d|⟨i,k,m,g,c⟩
 ·obtain⟨j,l,Ma,a⟩:=d Z [];rw[b.eq] at a;cases a
 ·have a:=(c.eq Z []).symm.trans (b.eq Z []);simp only[Uh,Ws,GStep.go.injEq,YH] at a;obtain⟨⟨rfl,rfl,-⟩,rfl,rfl⟩:=a;exact c
def JV(h:Twins P P')(x:Node P P' Stop):∃a d y,Lp x a d\/Qr x a d y:=by
 apply V0;intro s;have t:∀a d,¬Lp x a d/\∀y,¬Qr x a d y:=λa d=>⟨λi=>s ⟨a,d,x,.inl i⟩,λy C=>s ⟨a,d,y,.inr C⟩⟩;have j:∀a d,∃b:Uu×List Uu×F×F×Array Vn,(∀m g,UN P' m (Uh x.fr (x.aF++g)) (sh a d x.u)= .go (Uh b.1 (b.2.1++g)) b.2.2.2.1 b.2.2.2.2)/\BD P (sh a d x.w) b.2.2.1 b.2.2.2.2/\(rY (sh a d x.w) (sh a d x.u) b.2.2.1 b.2.2.2.1/\b.2.2.2.1.tape=b.2.2.1.tape)/\eO P b.1 b.2.1/\Fin P P' (Di Stop) b.1 b.2.1 b.2.2.1 b.2.2.2.1:=by
  intro a d;obtain⟨p,A⟩:=t a d;have f:oZ x.fr x.aF:=V0 λf=>p (.inl f);rcases zg h.A h.R (x.hp.sh a d) x.ok f with z|⟨n,q,e,l,c⟩
  ·exact absurd (.inr (.inl z)) p
  ·have u:=JA h (x.hp.sh a d) x.ok f c;rcases c.twin with o|i
   ·exact absurd (.inr (.inr ⟨n,q,e,l,u,o.2⟩)) p
   ·obtain⟨r,k,i⟩:=i a d x.u ⟨x.un.size,x.un.at_,x.un.os,x.un.output⟩ (Al.refl _ _ _);have o:=c.drawn;have w:(sh a d x.w).drawn=d:=rfl;rw[w] at o i;have v:rY (sh a d x.w) (sh a d x.u) e (sh a e.drawn r):=⟨⟨k.un.size,k.un.at_,k.un.os,k.un.output⟩,k.keep⟩;refine⟨(n,q,e,sh a e.drawn r,l),λm g=>?_,⟨c.hp,c.tape,c.drawn,c.size,c.os,c.output,c.evs⟩,⟨v,c.tape.symm⟩,c.ok,?_⟩
    ·have:=i m g;rw[show d+(e.drawn-d)=e.drawn by omega] at this;exact this
    ·apply V0;intro B;exact A ⟨n,q,e,sh a e.drawn r,c.ok,c.hp,v.un,B⟩ ⟨l,u⟩
 have f:oZ x.fr x.aF:=V0 λf=>(t (λ_ _=>0) 0).1 (.inl f);exact x.no (.step (λa d=>Vr (j a d)) (λa d m g=>(Uw (j a d)).1 m g) (λa d=>(Uw (j a d)).2.1) (λa d=>(Uw (j a d)).2.2.1) (λa d=>(Uw (j a d)).2.2.2.1) f λa d=>(Uw (j a d)).2.2.2.2)
def least{p:Nat->Prop}:∀(n:Nat),p n->∃m,m<=n/\p m/\∀i<m,¬p i:=by
 intro n
 induction n using Nat.strongRecOn with
 |_ n g=>
  intro f;by_cases c:∃i,i<n/\p i
  ·obtain⟨i,a,b⟩:=c;obtain⟨m,h,d,e⟩:=g i a b;exact⟨m,by omega,d,e⟩
  ·exact⟨n,T9 _,f,λi a b=>c ⟨i,a,b⟩⟩
def zq{fr fr':Uu}{l b:List Uu}{w w':F}(h:Stepped.next (Yk (Uh fr l) w)= .next (Yk (Uh fr' b) w')):fr=fr'/\l=b/\w=w':=by
 simp only[Y3,Yk,Uh,Y6,YH,Array.mk.injEq,Xl] at h;obtain⟨c,a,-⟩:=h;simp at a;exact⟨a.1,a.2,c⟩
def step_end{fr:Uu}{l:List Uu}{w w':F}{o:Outcome}{es:Array Vn}(h:UN P Z (Uh fr l) w= .ended o w' es):step P (Yk (Uh fr l) w)= .ended o w':=
 step_lone_ended (by simp only[Uh] at h;rw[h];rfl)
def Jq{fr:Uu}(h:IX fr)(l:List Uu)(w:F):∃o w',step P (Yk (Uh fr l) w)= .ended o w':=by
 obtain⟨c,s,d⟩:=h;have:∃o w' a,UN P Z (Uh fr l) w= .ended o w' a:=by simp[Uh,UN,UJ,c,d]
 obtain⟨o,w',a,b⟩:=this;exact⟨o,w',step_end b⟩
def vD(h:Twins P P')(a6:∀fr aF w,Stop fr aF w->¬IX fr){fr:Uu}{aF:List Uu}{w u:F}(ok:eO P fr aF)(bc:Hp (bk P) w)(bj:Un w u)
 (a9:∀bl,∃N fr' tops' w',runN P N (Yk (Uh fr (aF++[bF])) (sh bl 0 w))= .next (Yk (Uh fr' (tops'++[bF])) w')/\Stop fr' tops' w'):Fin P P' (Di Stop) fr aF w u:=by
 apply V0;intro bb;obtain⟨l,Q⟩:=Classical.axiomOfChoice (JV (Stop:=Stop) h);obtain⟨k,a5⟩:=Classical.axiomOfChoice Q;obtain⟨s,bd⟩:=Classical.axiomOfChoice a5;let b:Nat->Node P P' Stop:=λa=>Nat.rec ⟨fr,aF,w,u,ok,bc,bj,bb⟩ (λ_ L=>s L) a;let V:Node P P' Stop->Nat:=λL=>(s L).w.drawn-k L;let D:Nat->Nat:=λa=>Nat.rec 0 (λa a0=>a0+V (b a)) a;let q:Nat->Prop:=λa=>Lp (b a) (l (b a)) (k (b a));have aa:∀a,D (a+1)=D a+V (b a):=λa=>rfl;have bm:∀a,b (a+1)=s (b a):=λa=>rfl;have al:∀a c,c<a->D (c+1)<=D a:=by
  intro a
  induction a with
  |zero=>intro c n;omega
  |succ a U=>
   intro c n;rcases Vz c a with h|h
   ·have:=U c h;rw[aa a];omega
   ·have:c=a:=by omega
    subst this;exact T9 _
 let W:Nat->Nat->Prop:=λi a=>D a<=i/\(q a\/i<D (a+1));have t:∃d:Tp,∀a,(∀c<a,¬q c)->∀i g,W i a->d i g=l (b a) (k (b a)+(i-D a)) g:=by
  have a8:∀(i:Nat),∃f:Question->Nat,∀a,(∀c<a,¬q c)->W i a->∀g,f g=l (b a) (k (b a)+(i-D a)) g:=by
   intro i;by_cases E:∃a,(∀c<a,¬q c)/\W i a
   ·obtain⟨a,o,G⟩:=E;refine⟨λg=>l (b a) (k (b a)+(i-D a)) g,λA ba am g=>?_⟩;have:a=A:=by
     rcases Nat.lt_trichotomy a A with z|S|z
     ·have Q:=al A a z;rcases G.2 with p|p
      ·exact absurd p (ba a z)
      ·have:=am.1;omega
     ·exact S
     ·have Q:=al a A z;rcases am.2 with p|p
      ·exact absurd p (o A z)
      ·have:=G.1;omega
    subst this;rfl
   ·exact⟨λ_=>0,λa o G=>absurd ⟨a,o,G⟩ E⟩
  obtain⟨d,t⟩:=Classical.axiomOfChoice a8;exact⟨λi g=>d i g,λa o i g E=>t i a o E g⟩
 obtain⟨d,t⟩:=t;have ap:∀a,(∀c<a,¬q c)->runN P a (Yk (Uh fr (aF++[bF])) (sh d 0 w))= .next (Yk (Uh (b a).fr ((b a).aF++[bF])) (sh d (D a) (b a).w)):=by
  intro a
  induction a with
  |zero=>intro _;rfl
  |succ a U=>
   intro o;have O:=U λc n=>o c (by omega);rcases bd (b a) with p|⟨B,y⟩
   ·exact absurd p (o a (by omega))
   ·rcases y.twin with j|j
    ·exact absurd Y j.1
    ·have C:Al (sh (l (b a)) (k (b a)) (b a).w).tape (sh (l (b a)) (k (b a)) (b a).w).drawn d (D a) ((s (b a)).w.drawn-(sh (l (b a)) (k (b a)) (b a).w).drawn):=by
      intro c g n;have:=t a (λc n=>o c (by omega)) (D a+c) g ⟨by omega,.inr (by rw[aa];exact Nat.add_lt_add_left n _)⟩;rw[this,Nat.add_sub_cancel_left];rfl
     have T:=CG j d (D a) C;have H:step P (Yk (Uh (b a).fr ((b a).aF++[bF])) (sh d (D a) (b a).w))= .next (Yk (Uh (s (b a)).fr ((s (b a)).aF++[bF])) (sh d (D a+V (b a)) (s (b a)).w)):=Conc.step_solo_go Y T;rw[runN_add,O];simp only[runN,H];rfl
 obtain⟨N,fr',tops',w',e,R⟩:=a9 d;by_cases ab:∀c<N,¬q c
 ·have:=(ap N ab).symm.trans e;obtain⟨M,x,a2⟩:=zq this;have a3:=List.append_cancel_right x;rw[<-M,<-a3,<-a2] at R;exact(b N).no (.stop ⟨d,D N,R⟩)
 ·have:∃c,c<N/\q c:=V0 λj=>ab λc n p=>j ⟨c,n,p⟩;obtain⟨c,n,bi⟩:=this;obtain⟨a,bo,ar,ad⟩:=least (p:=q) c bi;have O:=ap a ad;obtain⟨v,rfl⟩:∃v,N=a+(v+1):=⟨N-a-1,by omega⟩;rw[runN_add,O] at e;simp only[runN] at e;have C:∀av,Al (l (b a)) (k (b a)) d (D a) av:=λav c g n=>by
   rw[t a ad (D a+c) g ⟨by omega,.inl ar⟩,Nat.add_sub_cancel_left]
  have an:=(b a).hp.sh d (D a);have ao:¬oZ (b a).fr (b a).aF->False:=by
   intro r;have be:(b a).aF=[]:=V0 λj=>r λm=>absurd m j;have aw:=(b a).ok;rw[be] at r aw e;rcases Tx h an aw r with⟨I,J,B,m⟩|⟨a1,J,B,m⟩
   ·rw[show([]:List Uu)++[bF]=[bF] from rfl,step_end m] at e;cases e
   ·rw[show([]:List Uu)++[bF]=[bF] from rfl,Conc.step_solo_go Y m] at e;dsimp only at e;cases v with
    |zero=>
     obtain⟨-,x,-⟩:=zq e;simp at x
    |succ v=>
     obtain⟨I,K,X,x⟩:=CS (P:=P) a1 J;simp only[runN,step_end x] at e;cases e
  rcases ar with r|S|⟨a4,az,K,X,y,ae⟩
  ·exact ao r
  ·by_cases r:oZ (b a).fr (b a).aF
   ·rcases zg h.self.A h.self.R an (b a).ok r with a7|⟨a4,az,K,X,y⟩
    ·obtain⟨I,J,B,m⟩:=a7 Z [bF];rw[step_end m] at e;cases e
    ·rcases y.twin with j|j
     ·exact absurd Y j.1
     ·obtain⟨I,J,B,m⟩:=S Z [bF];have:=CG j (l (b a)) (k (b a)) (λc g n=>((C _) c g n).symm);rw[show sh (l (b a)) (k (b a)) (sh d (D a) (b a).w)=sh (l (b a)) (k (b a)) (b a).w from rfl,m] at this;cases this
   ·exact ao r
  ·rcases y.twin with j|j
   ·exact absurd Y j.1
   ·have T:=CG j d (D a) (C _);have H:=Conc.step_solo_go (P:=P) (a:=Uh (b a).fr ((b a).aF++[bF])) Y T;rw[show sh d (D a) (sh (l (b a)) (k (b a)) (b a).w)=sh d (D a) (b a).w from rfl] at H;rw[H] at e;dsimp only at e;cases v with
    |zero=>
     obtain⟨M,-,-⟩:=zq e;exact a6 _ _ _ R (M▸ae)
    |succ v=>
     obtain⟨I,br,m⟩:=Jq (P:=P) ae (az++[bF]) (sh d (D a+(K.drawn-(sh (l (b a)) (k (b a)) (b a).w).drawn)) K);simp only[runN,m] at e;cases e
end
end Cc
namespace Cc
open Go Go.Conc
def blk:Loc->Nat
 | .cell a=>a.block
 | .obj b=>b
 |_=>0
structure wH where
 c:Nat
 own:Nat->Prop
 pc:Option Nat
def Of (S:Nat->Prop)(x:wH)(a:Touch):Prop:=x.own (blk a.loc)\/blk a.loc=x.c\/(S (blk a.loc)/\a.write=T8)
structure tU(S:Nat->Prop)(wk:Nat->Option wH)(B:Nat)(t:Trace):Prop where
 wl:Wordless t
 clean:∀said,¬Race said t
 low:∀i a,touchAt t i=I a->a.loc.isMemory=Z->blk a.loc<B
 known:∀i a,touchAt t i=I a->a.loc.isMemory=Z->Knows t 0 i\/∃k x,wk k=I x/\t.g? i=I k/\Of S x a/\∀p,x.pc=I p->Before t i p
 wr:∀k x,wk k=I x->x.pc=K->∀i a,touchAt t i=I a->a.loc.isMemory=Z->a.write=Z->S (blk a.loc)->Knows t k i
 ow:∀k x,wk k=I x->x.pc=K->∀i a,touchAt t i=I a->a.loc.isMemory=Z->(x.own (blk a.loc)\/blk a.loc=x.c)->Knows t k i
 shut:∀k x p,wk k=I x->x.pc=I p->t.act? p=I (.close x.c)
section
variable {S:Nat->Prop}{wk:Nat->Option wH}{B B':Nat}{t u:Trace}
def yp{i k:Nat}(h:t.g? i=I k):(t++u).g? i=I k:=by
 unfold Trace.g? at h ⊢;obtain⟨c,a,b⟩:=Wr.1 h;rw[getElem?_append_old (lt_size_of_getElem? a),a];simpa using b
def cM{i:Nat}{a:Touch}(h:touchAt (t++u) i=I a):touchAt t i=I a\/∃b,b∈u/\(t++u)[i]? =I b/\b.act.touch?= I a:=by
 obtain⟨g,c,d⟩:=touch_of h;rcases getElem?_append_cases c with⟨_,e⟩|⟨_,f⟩
 ·exact .inl (by rw[touchAt_of e];exact d)
 ·exact .inr ⟨g,f,c,d⟩
def tU.mute(h:tU S wk B t){γ:Nat}(y:∀j∈u,j.g=γ)(z:Wordless u)(p:∀j∈u,j.act.touch?= K)(s:B<=B'):tU S wk B' (t++u):=by
 have m:∀{b a},touchAt (t++u) b=I a->touchAt t b=I a:=λc=>by
  rcases cM c with g|⟨j,g,_,l⟩
  ·exact g
  ·rw[p j g] at l;cases l
 refine⟨h.wl.append z,λC=>noRace_append (h.clean C) y λb a _ j w D o _=>(by rw[p j w] at o;cases o),λb a c i=>Ue (h.low b a (m c) i) s,λb a c i=>?_,λe f k d b a c i A x=>(h.wr e f k d b a (m c) i A x).app u,λe f k d b a c i v=>(h.ow e f k d b a (m c) i v).app u,λe f n k d=>by rw[act?_old (lt_of_act? (h.shut e f n k d))];exact h.shut e f n k d⟩;rcases h.known b a (m c) i with g|⟨e,f,g,l,q,r⟩
 ·exact .inl (g.app u)
 ·exact .inr ⟨e,f,g,yp l,q,λn d=>(r n d).app u⟩
def tU.main(h:tU S wk B t)(w:∀d∈u,d.g=0)(G:Wordless u)(A:B<=B')
 (o:∀d∈u,∀b,d.act.touch?= I b->b.loc.isMemory=Z->blk b.loc<B'/\(∀k x,wk k=I x->¬x.own (blk b.loc)/\blk b.loc≠x.c)/\(S (blk b.loc)->b.write=T8)):tU S wk B' (t++u):=by
 refine⟨h.wl.append G,λH=>noRace_append (h.clean H) w λj e i d E b C D=>?_,λj e i c=>?_,λj e i c=>?_,λk x g l j e i c s v=>?_,λk x g l j e i c n=>?_,λk x q g l=>by rw[act?_old (lt_of_act? (h.shut k x q g l))];exact h.shut k x q g l⟩
 ·obtain⟨p,c,y,_⟩:=D;obtain⟨_,f,r⟩:=o d E b C (p▸c);rcases h.known j e i c with a|⟨k,x,g,_,F,_⟩
  ·exact a
  ·rcases F with m|m|⟨m,z⟩
   ·exact absurd (p▸m) (f k x g).1
   ·exact absurd (p▸m) (f k x g).2
   ·have:=r (p▸m);rw[z,this] at y;simp at y
 ·rcases cM i with a|⟨d,a,_,f⟩
  ·exact Ue (h.low j e a c) A
  ·exact(o d a e f c).1
 ·rcases cM i with a|⟨d,a,f,_⟩
  ·rcases h.known j e a c with a|⟨k,x,a,f,r,m⟩
   ·exact .inl (a.app u)
   ·exact .inr ⟨k,x,a,yp f,r,λq l=>(m q l).app u⟩
  ·have:=knows_own f;rw[w d a] at this;exact .inl this
 ·rcases cM i with a|⟨d,a,_,f⟩
  ·exact(h.wr k x g l j e a c s v).app u
  ·rw[(o d a e f c).2.2 v] at s;cases s
 ·rcases cM i with a|⟨d,a,_,f⟩
  ·exact(h.ow k x g l j e a c n).app u
  ·rcases n with n|n
   ·exact absurd n ((o d a e f c).2.1 k x g).1
   ·exact absurd n ((o d a e f c).2.1 k x g).2
def tU.RP(h:tU S wk B t){k:Nat}{x:wH}(r:wk k=I x)(s:x.pc=K){own':Nat->Prop}(X:∀b,x.own b->own' b)(L:∀b,own' b->x.own b\/B<=b)(F:∀l∈u,l.g=k)(Y:Wordless u)(P:B<=B')
 (Q:∀b,own' b->¬S b) (R:¬S x.c)
 (V:∀j y,j≠k->wk j=I y->(∀b,own' b->¬y.own b/\b≠y.c)/\¬y.own x.c/\x.c≠y.c/\(∀b,S b->¬y.own b/\b≠y.c))
 (z:∀l∈u,∀b,l.act.touch?= I b->b.loc.isMemory=Z->blk b.loc<B'/\Of S ⟨x.c,own',K⟩ b):tU S (λj=>if j=k then I ⟨x.c,own',K⟩ else wk j) B' (t++u):=by
 have G:∀{j y},(if j=k then I (⟨x.c,own',K⟩:wH) else wk j)=I y->(j=k/\y=⟨x.c,own',K⟩)\/(j≠k/\wk j=I y):=λ{j y} D=>by
  split at D
  ·rename_i g;cases D;exact .inl ⟨g,rfl⟩
  ·rename_i g;exact .inr ⟨g,D⟩
 refine⟨h.wl.append Y,λaa=>noRace_append (h.clean aa) F λi f m l W b T U=>?_,λi f m d=>?_,λi f m d=>?_,λj y g n i f m d C A=>?_,λj y g n i f m d e=>?_,λj y v g n=>?_⟩
 ·obtain⟨w,d,M,_⟩:=U;rcases(z l W b T (w▸d)).2 with c|c|⟨c,p⟩
  ·rcases L _ c with p|p
   ·exact h.ow k x r s i f m d (.inl (w▸p))
   ·have:=h.low i f m d;rw[w] at this;omega
  ·exact h.ow k x r s i f m d (.inr (w▸c))
  ·rw[p] at M;exact h.wr k x r s i f m d (by simpa using M) (w▸c)
 ·rcases cM m with a|⟨l,a,_,o⟩
  ·exact Ue (h.low i f a d) P
  ·exact(z l a f o d).1
 ·rcases cM m with a|⟨l,a,o,q⟩
  ·rcases h.known i f a d with a|⟨j,y,a,o,q,c⟩
   ·exact .inl (a.app u)
   ·by_cases g:j=k
    ·subst g;rw[r] at a;cases a;refine .inr ⟨j,⟨x.c,own',K⟩,by simp,yp o,?_,λv n=>by cases n⟩;exact q.imp (X _) id
    ·exact .inr ⟨j,y,by simp[g,a],yp o,q,λv n=>(c v n).app u⟩
  ·refine .inr ⟨k,⟨x.c,own',K⟩,by simp,?_,(z l a f q d).2,λv n=>by cases n⟩;simp[Trace.g?,o,F l a]
 ·rcases cM m with a|⟨l,a,_,o⟩
  ·rcases G g with⟨rfl,rfl⟩|⟨E,g⟩
   ·exact(h.wr j x r s i f a d C A).app u
   ·exact(h.wr j y g n i f a d C A).app u
  ·rcases(z l a f o d).2 with c|c|⟨c,p⟩
   ·exact absurd A (Q _ c)
   ·exact absurd A (c▸R)
   ·rw[p] at C;cases C
 ·rcases G g with⟨rfl,rfl⟩|⟨E,g⟩
  ·rcases cM m with a|⟨l,a,o,q⟩
   ·refine Knows.app u ?_;rcases e with e|e
    ·rcases L _ e with p|p
     ·exact h.ow j x r s i f a d (.inl p)
     ·have:=h.low i f a d;omega
    ·exact h.ow j x r s i f a d (.inr e)
   ·have:=knows_own o;rw[F l a] at this;exact this
  ·obtain⟨H,N,O,J⟩:=V j y E g;rcases cM m with a|⟨l,a,o,q⟩
   ·exact(h.ow j y g n i f a d e).app u
   ·rcases(z l a f q d).2 with c|c|⟨c,p⟩
    ·rcases e with e|e
     ·exact absurd e (H _ c).1
     ·exact absurd e (H _ c).2
    ·rcases e with e|e
     ·exact absurd (c▸e) N
     ·exact absurd (c.symm.trans e) O
    ·rcases e with e|e
     ·exact absurd e (J _ c).1
     ·exact absurd e (J _ c).2
 ·rcases G g with⟨rfl,rfl⟩|⟨E,g⟩
  ·cases n
  ·rw[act?_old (lt_of_act? (h.shut j y v g n))];exact h.shut j y v g n
def tU.close(h:tU S wk B t){k:Nat}{x:wH}(H:wk k=I x)(V:x.pc=K)(R:x.c<B)(aa:¬S x.c)(fn:V2)(pos:String)
 (T:∀j y,j≠k->wk j=I y->¬y.own x.c/\x.c≠y.c):
 tU S (λj=>if j=k then I ⟨x.c,x.own,I (t.size+1)⟩ else wk j) B (t++XW k fn pos #[⟨.obj x.c,T8,Z⟩,⟨.obj x.c,Z,Z⟩]):=by
 have O:XW k fn pos #[⟨.obj x.c,T8,Z⟩,⟨.obj x.c,Z,Z⟩]=#[{g:=k,fn,pos,act:=.access ⟨.obj x.c,T8,Z⟩},{g:=k,fn,pos,act:=.close x.c}]:=by
  rw[ofEvents_eq];simp[WE]
 rw[O];have J:∀d∈ #[({g:=k,fn,pos,act:=.access ⟨.obj x.c,T8,Z⟩}:Yz),{g:=k,fn,pos,act:=.close x.c}],d.g=k:=by
  intro d o;simp at o;rcases o with rfl|rfl<;>rfl
 have w:∀d∈ #[({g:=k,fn,pos,act:=.access ⟨.obj x.c,T8,Z⟩}:Yz),{g:=k,fn,pos,act:=.close x.c}],∀r,d.act.touch?= I r->r=⟨.obj x.c,T8,.atomic⟩:=by
  intro d o r v;simp at o;rcases o with rfl|rfl
  ·simp[X9] at v;exact v.symm
  ·simp[X9] at v
 have A:(t++#[({g:=k,fn,pos,act:=.access ⟨.obj x.c,T8,Z⟩}:Yz),{g:=k,fn,pos,act:=.close x.c}])[t.size+1]? =I {g:=k,fn,pos,act:=.close x.c}:=by
  rw[Array.getElem?_append_right (by omega)];simp
 have E:∀b,(t++#[({g:=k,fn,pos,act:=.access ⟨.obj x.c,T8,Z⟩}:Yz),{g:=k,fn,pos,act:=.close x.c}]).g? b=I k->b≠t.size+1->Before (t++#[({g:=k,fn,pos,act:=.access ⟨.obj x.c,T8,Z⟩}:Yz),{g:=k,fn,pos,act:=.close x.c}]) b (t.size+1):=by
  intro b G z;unfold Trace.g? at G;obtain⟨d,n,s⟩:=Wr.1 G;have:=lt_size_of_getElem? n;simp at this;exact .inr (hb_po (by omega) n A s)
 have D:∀{j y},(if j=k then I (⟨x.c,x.own,I (t.size+1)⟩:wH) else wk j)=I y->(j=k/\y=⟨x.c,x.own,I (t.size+1)⟩)\/(j≠k/\wk j=I y):=λ{j y} s=>by
  split at s
  ·rename_i c;cases s;exact .inl ⟨c,rfl⟩
  ·rename_i c;exact .inr ⟨c,s⟩
 have X:Wordless #[({g:=k,fn,pos,act:=.access ⟨.obj x.c,T8,Z⟩}:Yz),{g:=k,fn,pos,act:=.close x.c}]:=by
  intro d o m i;simp at o;rcases o with rfl|rfl<;>cases i
 have L:∀{b e},touchAt (t++#[({g:=k,fn,pos,act:=.access ⟨.obj x.c,T8,Z⟩}:Yz),{g:=k,fn,pos,act:=.close x.c}]) b=I e->b≠t.size+1:=by
  rintro b e g rfl;rw[touchAt_of A] at g;simp[X9] at g
 refine⟨h.wl.append X,λY=>noRace_append (h.clean Y) J λb e g d o r v Q=>?_,λb e g i=>?_,λb e g i=>?_,λj y c f b e g i C W=>?_,λj y c f b e g i n=>?_,λj y q c f=>?_⟩
 ·obtain⟨U,i,_⟩:=Q;have:=w d o r v;subst this;exact h.ow k x H V b e g i (.inr (by rw[U];rfl))
 ·rcases cM g with a|⟨d,a,_,l⟩
  ·exact h.low b e a i
  ·rw[w d a e l];exact R
 ·rcases cM g with a|⟨d,a,l,p⟩
  ·rcases h.known b e a i with a|⟨j,y,a,l,p,P⟩
   ·exact .inl (a.app _)
   ·by_cases c:j=k
    ·subst c;rw[H] at a;cases a;exact .inr ⟨j,⟨x.c,x.own,I (t.size+1)⟩,by simp,yp l,p,λq f=>by cases f;exact E b (yp l) (L g)⟩
    ·exact .inr ⟨j,y,by simp[c,a],yp l,p,λq f=>(P q f).app _⟩
  ·have F:(t++#[({g:=k,fn,pos,act:=.access ⟨.obj x.c,T8,Z⟩}:Yz),{g:=k,fn,pos,act:=.close x.c}]).g? b=I k:=by simp only[Trace.g?,l,V4,J d a]
   refine .inr ⟨k,⟨x.c,x.own,I (t.size+1)⟩,by simp,F,.inr (.inl (by rw[w d a e p];rfl)),λq f=>by cases f;exact E b F (L g)⟩
 ·rcases D c with⟨rfl,rfl⟩|⟨z,c⟩
  ·cases f
  ·rcases cM g with a|⟨d,a,_,l⟩
   ·exact(h.wr j y c f b e a i C W).app _
   ·rw[w d a e l] at C;cases C
 ·rcases D c with⟨rfl,rfl⟩|⟨z,c⟩
  ·cases f
  ·obtain⟨M,N⟩:=T j y z c;rcases cM g with a|⟨d,a,l,p⟩
   ·exact(h.ow j y c f b e a i n).app _
   ·rw[w d a e p] at n;rcases n with n|n
    ·exact absurd n M
    ·exact absurd n N
 ·rcases D c with⟨rfl,rfl⟩|⟨z,c⟩
  ·cases f;rw[act?_of A]
  ·rw[act?_old (lt_of_act? (h.shut j y q c f))];exact h.shut j y q c f
def tU.Mx(h:tU S wk B t){k p:Nat}{x:wH}(r:wk k=I x)(s:x.pc=I p)(fn:V2)(pos:String):
 tU S (λj=>if j=k then K else wk j) B (t++#[{g:=0,fn,pos,act:=.recvClosed x.c}]):=by
 have D:Wordless #[({g:=0,fn,pos,act:=.recvClosed x.c}:Yz)]:=by
  intro f d m l;simp at d;subst d;cases l
 have A:∀f∈ #[({g:=0,fn,pos,act:=.recvClosed x.c}:Yz)],f.act.touch?= K:=by
  intro f d;simp at d;subst d;rfl
 have c:=h.mute (B':=B) (γ:=0) (λf d=>by simp at d;subst d;rfl) D A (T9 _);have i:(t++#[({g:=0,fn,pos,act:=.recvClosed x.c}:Yz)])[t.size]? =I {g:=0,fn,pos,act:=.recvClosed x.c}:=by
  rw[Array.getElem?_append_right (T9 _)];simp
 have q:=c.shut k x p r s;obtain⟨H,E,_⟩:=Wr.1 q;have C:Knows (t++#[({g:=0,fn,pos,act:=.recvClosed x.c}:Yz)]) 0 p:=⟨t.size,_,i,rfl,.inr (.single (.inr ⟨.closed q (by rw[act?_of i]),c.wl.heard E,c.wl.heard i⟩))⟩;have n:∀{j a},(if j=k then K else wk j)=I a->j≠k/\wk j=I a:=λ{j a} g=>by
  split at g
  ·cases g
  ·rename_i b;exact⟨b,g⟩
 refine⟨c.wl,c.clean,c.low,λF v z l=>?_,λj a b=>c.wr j a (n b).2,λj a b=>c.ow j a (n b).2,λj a G b=>c.shut j a G (n b).2⟩;rcases c.known F v z l with e|⟨j,a,e,w,y,o⟩
 ·exact .inl e
 ·by_cases b:j=k
  ·subst b;rw[r] at e;cases e;exact .inl (Knows.of_before (o p s) C)
  ·exact .inr ⟨j,a,by simp[b,e],w,y,o⟩
def tU.spawn(h:tU S wk B t){k c:Nat}(R:wk k=K)(fn n:V2)(pos:String)
 (C:∀j y,wk j=I y->¬y.own c/\c≠y.c/\∀b,S b->¬y.own b/\b≠y.c) (P:¬S c):
 tU S (λj=>if j=k then I ⟨c,λ_=>False,K⟩ else wk j) B (t++#[{g:=0,fn,pos,act:=.go k},{g:=k,fn:=n,pos,act:=.start}]):=by
 have O:t++#[({g:=0,fn,pos,act:=.go k}:Yz),{g:=k,fn:=n,pos,act:=.start}]=t++#[({g:=0,fn,pos,act:=.go k}:Yz)]++#[({g:=k,fn:=n,pos,act:=.start}:Yz)]:=by apply Array.ext';simp
 have T:Wordless #[({g:=0,fn,pos,act:=.go k}:Yz)]:=by
  intro v d m l;simp at d;subst d;cases l
 have U:Wordless #[({g:=k,fn:=n,pos,act:=.start}:Yz)]:=by
  intro v d m l;simp at d;subst d;cases l
 have r:tU S wk B (t++#[({g:=0,fn,pos,act:=.go k}:Yz),{g:=k,fn:=n,pos,act:=.start}]):=by
  rw[O];refine(h.mute (B':=B) (γ:=0) (λv d=>by simp at d;subst d;rfl) T (λv d=>by simp at d;subst d;rfl) (T9 _)).mute (γ:=k) (λv d=>by simp at d;subst d;rfl) U (λv d=>by simp at d;subst d;rfl) (T9 _)
 have a:(t++#[({g:=0,fn,pos,act:=.go k}:Yz),{g:=k,fn:=n,pos,act:=.start}])[t.size]? =I {g:=0,fn,pos,act:=.go k}:=by
  rw[Array.getElem?_append_right (T9 _)];simp
 have p:(t++#[({g:=0,fn,pos,act:=.go k}:Yz),{g:=k,fn:=n,pos,act:=.start}])[t.size+1]? =I {g:=k,fn:=n,pos,act:=.start}:=by
  rw[Array.getElem?_append_right (by omega)];simp
 have L:∀{g},Knows t 0 g->Knows (t++#[({g:=0,fn,pos,act:=.go k}:Yz),{g:=k,fn:=n,pos,act:=.start}]) k g:=λ{g} Q=>
  ⟨t.size+1,_,p,rfl,.inr ((Q.hb_new (T9 _) a Y).trans (.single (.inr ⟨.spawn (by rw[act?_of a]) (by rw[act?_of p]) (by simp[Trace.g?]),r.wl.heard a,r.wl.heard p⟩)))⟩
 have J:∀{g i},touchAt (t++#[({g:=0,fn,pos,act:=.go k}:Yz),{g:=k,fn:=n,pos,act:=.start}]) g=I i->touchAt t g=I i:=λq=>by
  rcases cM q with a|⟨v,a,_,p⟩
  ·exact a
  ·simp at a;rcases a with rfl|rfl<;>simp[X9] at p
 have F:∀{j y},(if j=k then I (⟨c,λ_=>False,K⟩:wH) else wk j)=I y->(j=k/\y=⟨c,λ_=>False,K⟩)\/(j≠k/\wk j=I y):=λ{j y} w=>by
  split at w
  ·rename_i f;cases w;exact .inl ⟨f,rfl⟩
  ·rename_i f;exact .inr ⟨f,w⟩
 refine⟨r.wl,r.clean,r.low,λg i q l=>?_,λj y f s g i q l E D=>?_,λj y f s g i q l o=>?_,λj y V f s=>?_⟩
 ·rcases r.known g i q l with a|⟨j,y,a,p,e,A⟩
  ·exact .inl a
  ·refine .inr ⟨j,y,?_,p,e,A⟩;rw[if_neg (λw=>by rw[w,R] at a;cases a)];exact a
 ·rcases F f with⟨rfl,rfl⟩|⟨H,f⟩
  ·refine L ?_;rcases h.known g i (J q) l with a|⟨x,z,a,p,e,A⟩
   ·exact a
   ·rcases e with e|e|⟨e,G⟩
    ·exact absurd e ((C x z a).2.2 _ D).1
    ·exact absurd e ((C x z a).2.2 _ D).2
    ·rw[G] at E;cases E
  ·exact r.wr j y f s g i q l E D
 ·rcases F f with⟨rfl,rfl⟩|⟨H,f⟩
  ·refine L ?_;rcases o with o|o
   ·exact o.elim
   ·have o:blk i.loc=c:=o;rcases h.known g i (J q) l with a|⟨x,z,a,p,e,A⟩
    ·exact a
    ·obtain⟨M,N,W⟩:=C x z a;rcases e with e|e|⟨e,G⟩
     ·exact absurd (o▸e) M
     ·exact absurd (o.symm.trans e) N
     ·exact absurd (o▸e) P
  ·exact r.ow j y f s g i q l o
 ·rcases F f with⟨rfl,rfl⟩|⟨H,f⟩
  ·cases s
  ·exact r.shut j y V f s
def tU.over(h:tU S (λ_=>K) B t):t.HandedOver:=by
 intro k n d i e;obtain⟨m,j,g,_⟩:=e;rcases h.known k m j g with⟨l,q,b,c,a⟩|⟨o,p,f,_⟩
 ·refine⟨l,by simp[Trace.g?,b,c],?_⟩;rcases a with rfl|a
  ·simp[Trace.g?,b] at d;exact absurd (d.symm.trans c) i
  ·exact a
 ·cases f
end
def NT (t:List F->Prop)(w:F):List F->Prop:=λa=>t (w::a)
def S2 (s t:List F->Prop):Prop:=t []/\∃a,s=NT t a
structure Tr where TO ::
 t:List F->Prop
 a:Acc S2 t
 c:∀p q,t (p++q)->t p
def Tr.ext{x y:Tr}(h:x.t=y.t):x=y:=by
 cases x;cases y;cases h;rfl
def Tr.fin:Tr:=⟨λ_=>False,⟨_,λ_ a=>a.1.elim⟩,λ_ _ a=>a⟩
def Tr.mk(f:F->Tr):Tr:=⟨λa=>match a with
 | []=>True
 |w::a=>(f w).t a,⟨_,λs b=>by obtain⟨_,w,rfl⟩:=b;exact(f w).a⟩,λa d b=>by
 cases a with
 |nil=>trivial
 |cons w a=>exact(f w).c a d b⟩
def Tr.mk_inj{f g:F->Tr}(h:Tr.mk f= .mk g):f=g:=funext λb=>Tr.ext (funext λa=>congrFun (congrArg Tr.t h) (b::a))
def Tr.Q8{f:F->Tr}(h:Tr.fin= .mk f):False:=(congrFun (congrArg Tr.t h) []).mpr trivial
def Tr.ind{d:Tr->Prop}(fin:d .fin)(mk:∀f,(∀w,d (f w))->d (.mk f))(i:Tr):d i:=by
 obtain⟨b,a,c⟩:=i
 induction a with
 |intro b h j=>
  by_cases g:b []
  ·have e:Tr.TO b (.intro b h) c= .mk λw=>⟨NT b w,h _ ⟨g,w,rfl⟩,λp k=>c (w::p) k⟩:=Tr.ext (funext λp=>by
    cases p with
    |nil=>exact eq_true g
    |cons w p=>rfl)
   rw[e];exact mk _ λw=>j _ ⟨g,w,rfl⟩ _
  ·have e:Tr.TO b (.intro b h) c= .fin:=Tr.ext (funext λp=>eq_false λh=>g (c [] p h));rw[e];exact fin
def Tr.go{C:Type}(b:(F->C->Prop)->C->Prop)(d:Tr):C->Prop:=Y7 (r:=S2) (C:=λ_=>C->Prop) (λa f h=>∃g:a [],b (λe=>f (NT a e) ⟨g,e,rfl⟩) h) d.t d.a
def Tr.go_eq{C:Type}{b:(F->C->Prop)->C->Prop}(a:Tr)(x:C):Tr.go b a x↔∃h:a.t [],b (λw=>Tr.go b ⟨NT a.t w,a.a.inv ⟨h,w,rfl⟩,λp q=>a.c (w::p) q⟩) x:=Iff.of_eq (congrFun (Y1 (r:=S2) (C:=λ_=>C->Prop) (λt d x=>∃h:t [],b (λw=>d (NT t w) ⟨h,w,rfl⟩) x) a.t a.a) x:)
def Tr.pU{C:Type}{b:(F->C->Prop)->C->Prop}{x:C}(h:Tr.go b .fin x):False:=by
 obtain⟨h,_⟩:=(Tr.go_eq _ _).1 h;exact h
def Tr.QB{C:Type}{b:(F->C->Prop)->C->Prop}{f:F->Tr}{x:C}:Tr.go b (.mk f) x↔b (λw=>Tr.go b (f w)) x:=(Tr.go_eq _ _).trans ⟨fun⟨_,a⟩=>a,λa=>⟨trivial,a⟩⟩
def xH (_:Ug)(_:F):Prop:=True
structure RelB(B:Nat->Prop)(w w1:F):Prop where
 at_:∀b:Nat,B b->w1.heap[b]? =w.heap[b]?
 size:w.heap.size<=w1.heap.size
 tape:w1.tape=w.tape
 os:w1.os=w.os
 output:w1.output=w.output
def RelB.refl(B:Nat->Prop)(w:F):RelB B w w:=⟨λ_ _=>rfl,T9 _,rfl,rfl,rfl⟩
def RelB.trans{B:Nat->Prop}{w e f:F}(h:RelB B w e)(a:RelB B e f):RelB B w f:=⟨λb d=>(a.at_ b d).trans (h.at_ b d),Uz h.size a.size,a.tape.trans h.tape,a.os.trans h.os,a.output.trans h.output⟩
def RelB.at(B:Nat->Prop)(w:F)(d:Nat):RelB B w (w.at d):=⟨λ_ _=>rfl,T9 _,rfl,rfl,rfl⟩
def cV (own:Nat->Prop)(w w':F):Nat->Prop:=λa=>own a\/(w.heap.size<=a/\a<w'.heap.size)
def EvW (S o:Nat->Prop)(e:Vn):Prop:=match e.loc with
 | .cell a=>o a.block\/(S a.block/\e.write=T8)
 | .obj b=>o b\/(S b/\e.write=T8)
 | .mark m=>Neutral m
 |_=>True
structure mq(P0:Ug)(S own:Nat->Prop)(w w':F)(es:Array Vn):Prop where
 keep:∀b:Nat,b<w.heap.size->¬own b->w'.heap[b]? =w.heap[b]?
 size:w.heap.size<=w'.heap.size
 tape:w'.tape=w.tape
 os:w'.os=w.os
 output:w'.output=w.output
 hp:xH P0 w->xH P0 w'
 evs:∀e∈es,EvW S (cV own w w') e
structure Lk(P0:Ug)(w w':F)(es:Array Vn):Prop where
 size:w.heap.size<=w'.heap.size
 tape:w'.tape=w.tape
 os:w'.os=w.os
 output:w'.output=w.output
 hp:xH P0 w->xH P0 w'
 evs:∀e∈es,C8 w'.heap.size e
def TI (P0 P:Ug)(S:Nat->Prop)(c:Nat)(R:F->(Nat->Prop)->List U->UM->F->Prop)(own:Nat->Prop)(vs:List U)(g:UM)(w:F):Prop:=g.status= .running/\
 ((∀a,RelB (λb=>S b\/own b) w a->∃d e i,UN P T8 g a= .go d e i/\mq P0 S own a e i/\R a (cV own a e) vs d e)\/
 (∃v k j o,vs=v::k/\∀a,RelB (λb=>S b\/own b) w a->UN P T8 g a= .comm j #[scase c v o] Z .send a #[]/\R a own k (Wj j Vl) a)\/
 (vs=[]/\∃d n,QuitsIn P n d/\mayWake P g=Z/\∀a,RelB (λb=>S b\/own b) w a->∀h f s l m,a.heap[c]? =I (.chan h f T8 s l m)->UN P T8 g a= .go d (a.setChan c h f Z s l m) #[⟨.obj c,T8,Z⟩,⟨.obj c,Z,Z⟩]))
def Wk (P0 P:Ug)(S:Nat->Prop)(c:Nat)(e:Tr)(own:Nat->Prop)(vs:List U)(g:UM)(w:F):Prop:=e.go (C:=(Nat->Prop)×List U×UM×F) (λb a=>TI P0 P S c (λw d v g f=>b w (d,v,g,f)) a.1 a.2.1 a.2.2.1 a.2.2.2) (own,vs,g,w)
def wz{P0 P:Ug}{S:Nat->Prop}{c:Nat}{f:F->Tr}{own:Nat->Prop}{vs:List U}{g:UM}{w:F}:Wk P0 P S c (.mk f) own vs g w↔TI P0 P S c (λw=>Wk P0 P S c (f w)) own vs g w:=Tr.QB
abbrev Md:Type:=Option ((Nat->Prop)×(Nat->Prop)×(Nat->Option (List U)))
abbrev Md.ex:Md:=K
abbrev Md.sh(S a:Nat->Prop)(b:Nat->Option (List U)):Md:=I (S,a,b)
def gh (b:Nat->Option (List U))(c:Nat)(l:Option (List U)):Nat->Option (List U):=λa=>if a=c then l else b a
def TH (P0 P:Ug)(Post:U->F->Prop)(R:F->Md->UM->F->Prop):Md->UM->F->Prop
 |none,e,g=>
  (∀a,AtRel g a->∃f i h,UN P Z e a= .go f i h/\f.status= .running/\Lk P0 a i h/\R a Md.ex f i)\/
  (∀a,AtRel g a->∃v h,UN P Z e a= .ended (.done v) a h/\(∀p∈h,C8 a.heap.size p)/\Post v a)\/
  (∃S d,(∀b,S b->b<g.heap.size/\¬d b)/\(∀b,d b->b<g.heap.size)/\∀a,AtRel g a->R a (Md.sh S d (λ_=>K)) e a)
 |some (S,d,j),e,g=>
  (∀a,RelB (λb=>S b\/d b) g a->∃f i h,UN P Z e a= .go f i h/\f.status= .running/\mq P0 S d a i h/\R a (Md.sh S (cV d a i) j) f i)\/
  (∃c l m,d c/\l.length<=m/\j c=K/\g.heap[c]? =I (.chan m #[] T8 0 0 T8)/\∀a,RelB (λb=>S b\/d b) g a->∃f n r,UN P Z e a= .spawn f n a #[]/\f.status= .running/\Wk P0 P S c r (λ_=>False) l n a/\R a (Md.sh S (λb=>d b/\b≠c) (gh j c (I l))) f a)\/
  (∃c o k l,j c=I l/\(k.frame=e.frame/\k.callers=e.callers/\k.dying=e.dying)/\∀a,RelB (λb=>S b\/d b) g a->UN P Z e a= .comm k #[rcase c o] Z (.recv Z) a #[]/\
    match l with
    |v::q=>R a (Md.sh S d (gh j c (I q))) (Wj k (recvd Z v Z)) a
    | []=>R a (Md.sh S d (gh j c K)) (Wj k (recvd Z o T8)) a)\/
  ((∀c,j c=K)/\∀a,RelB (λb=>S b\/d b) g a->xH P0 a->R a Md.ex e a)
def Mn (P0 P:Ug)(Post:U->F->Prop)(e:Tr)(d:Md)(g:UM)(w:F):Prop:=e.go (C:=Md×UM×F) (λb a=>TH P0 P Post (λw m g f=>b w (m,g,f)) a.1 a.2.1 a.2.2) (d,g,w)
def nu{P0 P:Ug}{Post:U->F->Prop}{f:F->Tr}{a:Md}{g:UM}{w:F}:Mn P0 P Post (.mk f) a g w↔TH P0 P Post (λw=>Mn P0 P Post (f w)) a g w:=Tr.QB
section
variable {P0 P:Ug}{S:Nat->Prop}{c:Nat}{Post:U->F->Prop}
def Wk.rely{j:Tr}{own:Nat->Prop}{vs:List U}{g:UM}{w k:F}(h:Wk P0 P S c j own vs g w)(i:RelB (λb=>S b\/own b) w k):Wk P0 P S c j own vs g k:=by
 cases j using Tr.ind with
 |fin=>exact(Tr.pU h).elim
 |mk f=>
  obtain⟨p,h⟩:=wz.1 h;refine wz.2 ⟨p,?_⟩;rcases h with h|⟨v,q,m,s,e,h⟩|⟨e,l,r,o,n,h⟩
  ·exact .inl λd a=>h d (i.trans a)
  ·exact .inr (.inl ⟨v,q,m,s,e,λd a=>h d (i.trans a)⟩)
  ·exact .inr (.inr ⟨e,l,r,o,n,λd a=>h d (i.trans a)⟩)
def ox{a b c:F}(h:AtRel a b)(k:AtRel b c):AtRel a c:=atRel_trans a b c h k
def Mn.Ib{e:Tr}{g:UM}{w i:F}(h:Mn P0 P Post e .ex g w)(d:AtRel w i):Mn P0 P Post e .ex g i:=by
 cases e using Tr.ind with
 |fin=>exact(Tr.pU h).elim
 |mk f=>
  have j:i.heap=w.heap:=by obtain⟨n,rfl⟩:=d;rfl
  refine nu.2 ?_;rcases nu.1 h with h|h|⟨S,k,l,a,m⟩
  ·exact .inl λb a=>h b (ox d a)
  ·exact .inr (.inl λb a=>h b (ox d a))
  ·exact .inr (.inr ⟨S,k,by rw[j];exact l,by rw[j];exact a,λb a=>m b (ox d a)⟩)
def Mn.j8{k:Tr}{g:UM}{j:Nat->Prop}{n:Nat->Option (List U)}{w m:F}(h:Mn P0 P Post k (.sh S j n) g w)(i:RelB (λb=>S b\/j b) w m):Mn P0 P Post k (.sh S j n) g m:=by
 cases k using Tr.ind with
 |fin=>exact(Tr.pU h).elim
 |mk f=>
  refine nu.2 ?_;rcases nu.1 h with h|⟨c,l,o,e,a,q,r,h⟩|⟨c,s,p,l,e,a,h⟩|⟨e,h⟩
  ·exact .inl λd a=>h d (i.trans a)
  ·exact .inr (.inl ⟨c,l,o,e,a,q,(i.at_ c (.inr e)).trans r,λd a=>h d (i.trans a)⟩)
  ·exact .inr (.inr (.inl ⟨c,s,p,l,e,a,λd a=>h d (i.trans a)⟩))
  ·exact .inr (.inr (.inr ⟨e,λd a=>h d (i.trans a)⟩))
end
def Mn.cast{P0 P:Ug}{Post:U->F->Prop}{b tr':Tr}{a:Md}{g:UM}{w:F}(e:b=tr')(h:Mn P0 P Post tr' a g w):Mn P0 P Post b a g w:=e▸h
def Wk.cast{P0 P:Ug}{S:Nat->Prop}{c:Nat}{a tr':Tr}{own:Nat->Prop}{vs:List U}{g:UM}{w:F}(e:a=tr')(h:Wk P0 P S c tr' own vs g w):Wk P0 P S c a own vs g w:=e▸h
def Down (n:Nat)(d fB:Nat->Tr):Prop:=∃a,a<n/\(∃f e,fB a= .mk f/\d a=f e)/\∀b,b≠a->d b=fB b
def Ls:∀(n:Nat) (fB:Nat->Tr),Acc (Down n) fB:=by
 intro n
 induction n with
 |zero=>exact λfB=>⟨_,λd e=>by obtain⟨b,q,_⟩:=e;omega⟩
 |succ n r=>
  have t:∀(l:Tr) (fB:Nat->Tr),fB n=l->Acc (Down (n+1)) fB:=by
   intro l
   induction l using Tr.ind with
   |fin=>
    intro fB;have o:=r fB
    induction o with
    |intro fB _ p=>
     intro h;refine⟨_,λd e=>?_⟩;obtain⟨b,q,⟨f,j,a,k⟩,g⟩:=e;by_cases i:b=n
     ·subst i;rw[h] at a;exact(Tr.Q8 a).elim
     ·exact p d ⟨b,by omega,⟨f,j,a,k⟩,g⟩ ((g n (λm=>i m.symm)).trans h)
   |mk u s=>
    intro fB;have o:=r fB
    induction o with
    |intro fB _ p=>
     intro h;refine⟨_,λd e=>?_⟩;obtain⟨b,q,⟨f,j,a,k⟩,g⟩:=e;by_cases i:b=n
     ·subst i;rw[h] at a;exact s j d (k.trans (congrFun (Tr.mk_inj a) j).symm)
     ·exact p d ⟨b,by omega,⟨f,j,a,k⟩,g⟩ ((g n (λm=>i m.symm)).trans h)
  exact λfB=>t (fB n) fB Y
def G6{P:Ug}{m:Bool}{g g':UM}(h1:g'.frame=g.frame)(a:g'.callers=g.callers)(b:g'.dying=g.dying)(w:F):UN P m g' w=UN P m g w:=by
 obtain⟨f,c,s,e,j⟩:=g;obtain⟨i,d,l,h,k⟩:=g';simp only at h1 a b;subst h1 a b;rfl
structure Inv(P0 P:Ug)(S O:Nat->Prop)(μ:Nat->Option (List U))(gs:Array UM)(w:F)(t:Trace)(wk:Nat->Option wH)(vs:Nat->List U)(q:Nat->Nat)(fB:Nat->Tr):Prop where
 zL:tU S wk w.heap.size t
 hp:xH P0 w
 quit:∀i g,0<i->gs[i]? =I g->(∀x,wk i=I x->x.pc≠K)->QuitsIn P (q i) g
 act:∀i g x,gs[i]? =I g->wk i=I x->x.pc=K->Wk P0 P S x.c (fB i) x.own (vs i) g w
 idx:∀i x,wk i=I x->0<i/\i<gs.size
 mR:∀b,S b->b<w.heap.size/\¬O b
 wU:∀b,O b->b<w.heap.size
 low:∀i x,wk i=I x->x.c<w.heap.size/\¬S x.c/\¬O x.c/\¬x.own x.c/\∀b,x.own b->b<w.heap.size/\¬S b/\¬O b
 rm:∀i j x y,i≠j->wk i=I x->wk j=I y->x.c≠y.c/\¬y.own x.c/\∀b,x.own b->¬y.own b
 chan:∀i x,wk i=I x->∃cap buf s r,w.heap[x.c]? =I (.chan cap buf x.pc.isSome s r T8)/\μ x.c=I (buf.toList++(if x.pc=K then vs i else[]))/\(x.pc=K->buf.size+(vs i).length<=cap)
 mu:∀c l,μ c=I l->∃i x,wk i=I x/\x.c=c
def kM {α:Type}(f:Nat->α)(i:Nat)(x:α):Nat->α:=λa=>if a=i then x else f a
def dn{α:Type}(f:Nat->α)(i:Nat)(x:α):kM f i x i=x:=by simp[kM]
def dZ{α:Type}(f:Nat->α){i j:Nat}(x:α)(h:j≠i):kM f i x j=f j:=by simp[kM,h]
def E5{e:Vn}{b:Touch}(h:(WE e).touch?= I b)(c:∀m,e.loc= .mark m->Neutral m):b.loc=e.loc/\b.write=e.write:=by
 obtain⟨d,wr,a⟩:=e;cases d with
 |cell f=>simp[WE,X9] at h;subst h;exact⟨rfl,rfl⟩
 |obj g=>cases wr<;>cases a<;>simp[WE,X9] at h<;>subst h<;>exact⟨rfl,rfl⟩
 |output=>simp[WE,X9] at h;subst h;exact⟨rfl,rfl⟩
 |goroutines=>simp[WE,X9] at h;subst h;exact⟨rfl,rfl⟩
 |mark m=>
  have:WE ⟨.mark m,wr,a⟩= .mark m:=by cases wr<;>cases a<;>rfl
  rw[this,(c m Y).touch] at h;cases h
def ye{S o:Nat->Prop}{e:Vn}(h:EvW S o e):∀m,e.loc= .mark m->Neutral m:=λm a=>by
 unfold EvW at h;rw[a] at h;exact h
def DQ{n:Nat}{e:Vn}(h:C8 n e):∀m,e.loc= .mark m->Neutral m:=λm a=>by
 unfold C8 at h;rw[a] at h;exact h
def AR{S o:Nat->Prop}{e:Vn}{b:Touch}(h:EvW S o e)(g:(WE e).touch?= I b)(c:b.loc.isMemory=Z):o (blk b.loc)\/(S (blk b.loc)/\b.write=T8):=by
 obtain⟨d,f⟩:=E5 g (ye h);unfold EvW at h;rw[d,f];rw[d] at c;cases a:e.loc with
 |cell i=>rw[a] at h;exact h
 |obj j=>rw[a] at h;exact h
 |_=>rw[a] at c;simp[Loc.isMemory] at c
def Jv{n:Nat}{e:Vn}{b:Touch}(h:C8 n e)(f:(WE e).touch?= I b)(c:b.loc.isMemory=Z):blk b.loc<n:=by
 obtain⟨d,i⟩:=E5 f (DQ h);unfold C8 at h;rw[d];rw[d] at c;cases a:e.loc with
 |cell g=>rw[a] at h;exact h
 |obj j=>rw[a] at h;exact h
 |_=>rw[a] at c;simp[Loc.isMemory] at c
def nO{g:Nat}{fn:V2}{pos:String}{es:Array Vn}(h:∀e∈es,∀m,e.loc= .mark m->Neutral m):Wordless (XW g fn pos es):=by
 intro j f m a;obtain⟨e,d,rfl⟩:=WY f;obtain⟨i,wr,b⟩:=e;cases i with
 |mark c=>
  have:WE ⟨.mark c,wr,b⟩= .mark c:=by cases wr<;>cases b<;>rfl
  simp only[this] at a;cases a;exact h _ d m Y
 |obj k=>cases wr<;>cases b<;>simp[WE] at a
 |_=>simp[WE] at a
def k9{B:Nat->Prop}{w:F}{c:Nat}(h:¬B c)(cap:Nat)(b:Array U)(d:Bool)(s r:Nat)(i:Bool):RelB B w (w.setChan c cap b d s r i):=
 ⟨λa f=>by
  have g:c≠a:=λe=>h (by rw[e];exact f);simp only[World.setChan];rw[VT g],by simp[World.setChan],rfl,rfl,rfl⟩
def Ij{P0:Ug}{w:F}(h:xH P0 w)(c cap:Nat)(a:Array U)(b:Bool)(s r:Nat)(d:Bool):xH P0 (w.setChan c cap a b s r d):=trivial
def xj{w:F}{c b:Nat}(h:b≠c)(cap:Nat)(a:Array U)(d:Bool)(s r:Nat)(f:Bool):(w.setChan c cap a d s r f).heap[b]? =w.heap[b]? :=by
 simp only[World.setChan];rw[VT (λe=>h e.symm)]
def iL(w:F)(c cap:Nat)(a:Array U)(b:Bool)(s r:Nat)(d:Bool):(w.setChan c cap a b s r d).heap.size=w.heap.size:=by simp[World.setChan]
def BQ{w:F}{c:Nat}(h:c<w.heap.size)(cap:Nat)(a:Array U)(b:Bool)(s r:Nat)(d:Bool):(w.setChan c cap a b s r d).heap[c]? =I (.chan cap a b s r d):=by
 simp[World.setChan,h]
section
variable {P0 P:Ug}{S O:Nat->Prop}{μ:Nat->Option (List U)}{gs gs':Array UM}{w w':F}{t u:Trace}{wk:Nat->Option wH}{vs:Nat->List U}{q:Nat->Nat}{fB:Nat->Tr}
def m7{k:Nat}{y:Option wH}{j:Nat}{z:wH}(e:kM wk k y j=I z):(j=k/\y=I z)\/(j≠k/\wk j=I z):=by
 unfold kM at e
 split at e
 ·rename_i a;exact .inl ⟨a,e⟩
 ·rename_i a;exact .inr ⟨a,e⟩
def Inv.at(h:Inv P0 P S O μ gs w t wk vs q fB)(d:Nat):Inv P0 P S O μ gs (w.at d) t wk vs q fB:=
 ⟨h.zL,h.hp,h.quit,λf a g b e c=>(h.act f a g b e c).rely (RelB.at _ w d),h.idx,h.mR,h.wU,h.low,h.rm,h.chan,h.mu⟩
def Inv.TU(h:Inv P0 P S O μ gs w t wk vs q fB)(k:gs'.size=gs.size)(g:∀j,0<j->gs'[j]? =gs[j]?):Inv P0 P S O μ gs' w t wk vs q fB:=
 ⟨h.zL,h.hp,λa d f e=>h.quit a d f ((g a f).symm.trans e),λa d c e b i=>h.act a d c ((g a (h.idx a c b).1).symm.trans e) b i,λa c b=>by rw[k];exact h.idx a c b,h.mR,h.wU,h.low,h.rm,h.chan,h.mu⟩
def Inv.slip(h:Inv P0 P S O μ gs w t wk vs q fB){i k:Nat}{g':UM}(m:∀x,wk i=I x->x.pc≠K)(n:QuitsIn P k g')(o:gs'.size=gs.size)(l:gs'[i]? =I g')(f:∀j,0<j->j≠i->gs'[j]? =gs[j]?):Inv P0 P S O μ gs' w t wk vs (kM q i k) fB:=by
 refine⟨h.zL,h.hp,λj d e c a=>?_,λj d x c a g=>?_,λj x a=>by rw[o];exact h.idx j x a,h.mR,h.wU,h.low,h.rm,h.chan,h.mu⟩
 ·by_cases b:j=i
  ·subst b;rw[l] at c;cases c;rw[dn];exact n
  ·rw[dZ _ _ b];exact h.quit j d e ((f j e b).symm.trans c) a
 ·by_cases b:j=i
  ·subst b;exact absurd g (m x a)
  ·exact h.act j d x ((f j (h.idx j x a).1 b).symm.trans c) a g
def Inv.Pg(h:Inv P0 P S O μ gs w t wk vs q fB){i:Nat}{x:wH}(e:wk i=I x){es:Array Vn}(c:mq P0 S x.own w w' es):RelB (λb=>S b\/O b) w w':=
 ⟨λb a=>a.elim (λa=>c.keep b (h.mR b a).1 λd=>((h.low i x e).2.2.2.2 b d).2.1 a) (λa=>c.keep b (h.wU b a) λd=>((h.low i x e).2.2.2.2 b d).2.2 a),c.size,c.tape,c.os,c.output⟩
def Inv.RP(h:Inv P0 P S O μ gs w t wk vs q fB){i:Nat}{x:wH}(l:wk i=I x)(X:x.pc=K){es:Array Vn}{g':UM}{tr':Tr}(g:mq P0 S x.own w w' es)(an:Wk P0 P S x.c tr' (cV x.own w w') (vs i) g' w')(Z:gs'.size=gs.size)(ap:gs'[i]? =I g')(W:∀j,0<j->j≠i->gs'[j]? =gs[j]?)(fn:V2)(pos:String):
 Inv P0 P S O μ gs' w' (t++XW i fn pos es) (kM wk i (I ⟨x.c,cV x.own w w',K⟩)) vs q (kM fB i tr'):=by
 obtain⟨ab,ad,az,ae,E⟩:=h.low i x l;have R:∀b,cV x.own w w' b->¬S b:=λb a r=>a.elim (λa=>(E b a).2.1 r) λa=>by have:=(h.mR b r).1;omega
 have am:∀b,cV x.own w w' b->¬O b:=λb a r=>a.elim (λa=>(E b a).2.2 r) λa=>by have:=h.wU b r;omega
 have C:∀j f,j≠i->wk j=I f->∀b,cV x.own w w' b->¬f.own b/\b≠f.c:=λj f k d b a=>a.elim (λa=>⟨(h.rm i j x f (λe=>k e.symm) l d).2.2 b a,λe=>(h.rm j i f x k d l).2.1 (e▸a)⟩) λa=>⟨λn=>by have:=((h.low j f d).2.2.2.2 b n).1;omega,λe=>by have:=(h.low j f d).1;omega⟩;have T:∀b,cV x.own w w' b->b<w'.heap.size:=λb a=>a.elim (λa=>Ue (E b a).1 g.size) (λa=>a.2);refine⟨?_,g.hp h.hp,λj J Q k U=>?_,λj J f k d av=>?_,λj f d=>?_,λb a=>⟨Ue (h.mR b a).1 g.size,(h.mR b a).2⟩,λb a=>Ue (h.wU b a) g.size,λj f d=>?_,λj y f F p d aa=>?_,λj f d=>?_,λc aw ao=>?_⟩
 ·refine h.zL.RP l X (λb a=>.inl a) (λb a=>a.imp id And.left) (λa4 M=>by obtain⟨e,_,rfl⟩:=WY M;rfl) (nO λe L=>ye (g.evs e L)) g.size R ad (λj f k d=>⟨C j f k d,(h.rm i j x f (λe=>k e.symm) l d).2.1,(h.rm i j x f (λe=>k e.symm) l d).1,λb a=>⟨λn=>((h.low j f d).2.2.2.2 b n).2.1 a,λe=>(h.low j f d).2.1 (e▸a)⟩⟩) λa4 M b a ar=>?_;obtain⟨e,L,rfl⟩:=WY M;rcases AR (g.evs e L) a ar with o|o
  ·exact⟨T _ o,.inl o⟩
  ·exact⟨Ue (h.mR _ o.1).1 g.size,.inr (.inr o)⟩
 ·by_cases e:j=i
  ·subst e;exact absurd Y (U ⟨x.c,cV x.own w w',K⟩ (dn _ _ _))
  ·exact h.quit j J Q ((W j Q e).symm.trans k) λf d=>U f (by rw[dZ _ _ e];exact d)
 ·rcases m7 d with⟨rfl,e⟩|⟨m,d⟩
  ·cases e;rw[ap] at k;cases k;rw[dn];exact an
  ·rw[dZ _ _ m];refine(h.act j J f ((W j (h.idx j f d).1 m).symm.trans k) d av).rely ⟨λb a=>?_,g.size,g.tape,g.os,g.output⟩;rcases a with a|a
   ·exact g.keep b (h.mR b a).1 λn=>(E b n).2.1 a
   ·exact g.keep b ((h.low j f d).2.2.2.2 b a).1 λn=>(h.rm i j x f (λe=>m e.symm) l d).2.2 b n a
 ·rcases m7 d with⟨rfl,e⟩|⟨m,d⟩
  ·rw[Z];exact h.idx j x l
  ·rw[Z];exact h.idx j f d
 ·rcases m7 d with⟨rfl,e⟩|⟨m,d⟩
  ·cases e;exact⟨Ue ab g.size,ad,az,λa=>a.elim ae λa=>by have:=a.1;dsimp only at this;omega,λb a=>⟨T b a,R b a,am b a⟩⟩
  ·obtain⟨a0,a1,a2,a3,al⟩:=h.low j f d;exact⟨Ue a0 g.size,a1,a2,a3,λb a=>⟨Ue (al b a).1 g.size,(al b a).2⟩⟩
 ·rcases m7 d with⟨rfl,e⟩|⟨m,D⟩
  ·cases e;rcases m7 aa with⟨rfl,e⟩|⟨V,v⟩
   ·exact absurd Y p
   ·exact⟨(h.rm j y x F p l v).1,(h.rm j y x F p l v).2.1,λb a=>(C y F V v b a).1⟩
  ·rcases m7 aa with⟨rfl,e⟩|⟨V,v⟩
   ·cases e;exact⟨(h.rm j y f x p D l).1,λa=>(C j f m D _ a).2 Y,λb a n=>(C j f m D b n).1 a⟩
   ·exact h.rm j y f F p D v
 ·rcases m7 d with⟨rfl,e⟩|⟨m,d⟩
  ·cases e;obtain⟨H,G,s,N,z,A,B⟩:=h.chan j x l;rw[X] at z A B;exact⟨H,G,s,N,(g.keep _ ab ae).trans z,A,B⟩
  ·obtain⟨H,G,s,N,z,A,B⟩:=h.chan j f d;exact⟨H,G,s,N,(g.keep _ (h.low j f d).1 (h.rm j i f x m d l).2.1).trans z,A,B⟩
 ·obtain⟨j,f,d,e⟩:=h.mu c aw ao;by_cases k:j=i
  ·subst k;rw[l] at d;cases d;exact⟨j,_,dn _ _ _,e⟩
  ·exact⟨j,f,by rw[dZ _ _ k];exact d,e⟩
end
section
variable {P0 P:Ug}{S O:Nat->Prop}{μ:Nat->Option (List U)}{gs gs':Array UM}{w w':F}{t u:Trace}{wk:Nat->Option wH}{vs:Nat->List U}{q:Nat->Nat}{fB:Nat->Tr}{B:Nat}
def tU.Sv(h:tU S wk B t)(g:Wordless u)(f:∀b∈u,b.act.touch?= K):tU S wk B (t++u):=by
 have k:∀(c:List Yz) (t:Trace),tU S wk B t->Wordless c.toArray->(∀b∈c,b.act.touch?= K)->tU S wk B (t++c.toArray):=by
  intro c
  induction c with
  |nil=>intro t h _ _;simpa using h
  |cons d c j=>
   intro t h g f;have i:t++(d::c).toArray=(t++#[d])++c.toArray:=by apply Array.ext';simp
   rw[i];refine j _ (h.mute (B':=B) (γ:=d.g) (λb a=>by simp at a;rw[a]) (λb a m e=>?_) (λb a=>by simp at a;rw[a];exact f d (by simp)) (T9 _)) (λb a m e=>g b (by simp at a ⊢;exact .inr a) m e) λb a=>f b (by simp[a]);simp at a;rw[a] at e;exact g d (by simp) m e
 have:=k u.toList t h (by simpa using g) (λb a=>f b (by simpa using a));simpa using this
def vh(μ:Nat->Option (List U))(c:Nat)(l:Option (List U)):gh μ c l c=l:=by simp[gh]
def q7(μ:Nat->Option (List U)){c j:Nat}(l:Option (List U))(h:j≠c):gh μ c l j=μ j:=by simp[gh,h]
def Inv.comm(h:Inv P0 P S O μ gs w t wk vs q fB){i:Nat}{x:wH}(g:wk i=I x){cap s' r':Nat}{buf':Array U}{vi':List U}{tr':Tr}{g':UM}(G:x.pc=K->buf'.size+vi'.length<=cap)
 (F:x.pc=K->Wk P0 P S x.c tr' x.own vi' g' w) (H:x.pc=K->gs'[i]? =I g') (J:x.pc≠K->gs'[i]? =gs[i]?) (s:∀j,0<j->j≠i->gs'[j]? =gs[j]?) (M:gs'.size=gs.size) (N:Wordless u) (L:∀V∈u,V.act.touch?= K):
 Inv P0 P S O (gh μ x.c (I (buf'.toList++(if x.pc=K then vi' else[])))) gs' (w.setChan x.c cap buf' x.pc.isSome s' r' T8) (t++u) wk (kM vs i vi') q (kM fB i tr'):=by
 obtain⟨R,v,Y,T,Z⟩:=h.low i x g;have r:∀j d,j≠i->wk j=I d->d.c≠x.c:=λj d e b=>(h.rm j i d x e b g).1;refine⟨by rw[iL];exact h.zL.Sv N L,Ij h.hp _ _ _ _ _ _ _,λj k m e n=>?_,λj k d e b o=>?_,λj d b=>by rw[M];exact h.idx j d b,λl f=>by rw[iL];exact h.mR l f,λl f=>by rw[iL];exact h.wU l f,λj d b=>by rw[iL];exact h.low j d b,h.rm,λj d b=>?_,λc Q p=>?_⟩
 ·by_cases a:j=i
  ·subst a;exact h.quit j k m ((J (n x g)).symm.trans e) n
  ·exact h.quit j k m ((s j m a).symm.trans e) n
 ·by_cases a:j=i
  ·subst a;rw[g] at b;cases b;rw[H o] at e;cases e;rw[dn,dn];exact(F o).rely (k9 (λf=>f.elim v T) _ _ _ _ _ _)
  ·rw[dZ _ _ a,dZ _ _ a];exact(h.act j k d ((s j (h.idx j d b).1 a).symm.trans e) b o).rely (k9 (λf=>f.elim v (h.rm i j x d (λE=>a E.symm) g b).2.1) _ _ _ _ _ _)
 ·by_cases a:j=i
  ·subst a;rw[g] at b;cases b;exact⟨cap,buf',s',r',BQ R _ _ _ _ _ _,by rw[vh,dn],by rw[dn];exact G⟩
  ·obtain⟨D,y,X,W,z,A,C⟩:=h.chan j d b;refine⟨D,y,X,W,(xj (r j d a b) _ _ _ _ _ _).trans z,?_,by rw[dZ _ _ a];exact C⟩;rw[q7 _ _ (r j d a b),dZ _ _ a];exact A
 ·by_cases a:c=x.c
  ·exact⟨i,x,g,a.symm⟩
  ·rw[q7 _ _ a] at p;exact h.mu c Q p
def Inv.close(h:Inv P0 P S O μ gs w t wk vs q fB){i:Nat}{x:wH}(g:wk i=I x)(A:x.pc=K)(an:vs i=[]){cap s r n:Nat}{v:Array U}{g':UM}{tr':Tr}(hc:w.heap[x.c]? =I (.chan cap v T8 s r T8))(am:QuitsIn P n g')(ab:gs'[i]? =I g')(M:∀j,0<j->j≠i->gs'[j]? =gs[j]?)(Q:gs'.size=gs.size)(fn:V2)(pos:String):
 Inv P0 P S O μ gs' (w.setChan x.c cap v Z s r T8) (t++XW i fn pos #[⟨.obj x.c,T8,Z⟩,⟨.obj x.c,Z,Z⟩]) (kM wk i (I ⟨x.c,x.own,I (t.size+1)⟩)) vs (kM q i n) (kM fB i tr'):=by
 obtain⟨E,F,ap,ar,av⟩:=h.low i x g;have ad:∀j b,j≠i->wk j=I b->b.c≠x.c:=λj b e d=>(h.rm j i b x e d g).1;refine⟨?_,Ij h.hp _ _ _ _ _ _ _,λj z L e al=>?_,λj z b e d N=>?_,λj b d=>?_,λp l=>by rw[iL];exact h.mR p l,λp l=>by rw[iL];exact h.wU p l,λj b d=>?_,λj D b W o d R=>?_,λj b d=>?_,λc ao aa=>?_⟩
 ·rw[iL];exact h.zL.close g A E F fn pos λj b e d=>⟨(h.rm i j x b (λa=>e a.symm) g d).2.1,(h.rm i j x b (λa=>e a.symm) g d).1⟩
 ·by_cases a:j=i
  ·subst a;rw[ab] at e;cases e;rw[dn];exact am
  ·rw[dZ _ _ a];exact h.quit j z L ((M j L a).symm.trans e) λb d=>al b (by rw[dZ _ _ a];exact d)
 ·rcases m7 d with⟨rfl,a⟩|⟨k,f⟩
  ·cases a;cases N
  ·rw[dZ _ _ k];exact(h.act j z b ((M j (h.idx j b f).1 k).symm.trans e) f N).rely (k9 (λl=>l.elim F (h.rm i j x b (λX=>k X.symm) g f).2.1) _ _ _ _ _ _)
 ·rcases m7 d with⟨rfl,a⟩|⟨k,f⟩
  ·rw[Q];exact h.idx j x g
  ·rw[Q];exact h.idx j b f
 ·rcases m7 d with⟨rfl,a⟩|⟨k,f⟩
  ·cases a;rw[iL];exact⟨E,F,ap,ar,av⟩
  ·rw[iL];exact h.low j b f
 ·rcases m7 d with⟨rfl,a⟩|⟨k,f⟩
  ·cases a;rcases m7 R with⟨rfl,a⟩|⟨ae,C⟩
   ·exact absurd Y o
   ·exact h.rm j D x W o g C
  ·rcases m7 R with⟨rfl,a⟩|⟨ae,C⟩
   ·cases a;exact h.rm j D b x o f g
   ·exact h.rm j D b W o f C
 ·rcases m7 d with⟨rfl,a⟩|⟨k,f⟩
  ·cases a;obtain⟨J,G,V,T,m,y,H⟩:=h.chan j x g;rw[A] at m;have:=m.symm.trans hc;cases this;refine⟨cap,v,s,r,BQ E _ _ _ _ _ _,?_,λa=>by cases a⟩;rw[y,A,an];rfl
  ·obtain⟨J,G,V,T,m,y,H⟩:=h.chan j b f;exact⟨J,G,V,T,(xj (ad j b k f) _ _ _ _ _ _).trans m,y,H⟩
 ·obtain⟨j,b,d,a⟩:=h.mu c ao aa;by_cases e:j=i
  ·subst e;rw[g] at d;cases d;exact⟨j,_,dn _ _ _,a⟩
  ·exact⟨j,b,by rw[dZ _ _ e];exact d,a⟩
def Inv.main(h:Inv P0 P S O μ gs w t wk vs q fB){es:Array Vn}(d:mq P0 S O w w' es)(T:gs'.size=gs.size)(F:∀j,0<j->gs'[j]? =gs[j]?)(fn:V2)(pos:String):
 Inv P0 P S (cV O w w') μ gs' w' (t++XW 0 fn pos es) wk vs q fB:=by
 have E:∀b,cV O w w' b->b<w'.heap.size:=λb a=>a.elim (λa=>Ue (h.wU b a) d.size) (λa=>a.2);have p:∀j c,wk j=I c->∀b,cV O w w' b->¬c.own b/\b≠c.c:=λj c e b a=>by
  obtain⟨y,l,z,A,k⟩:=h.low j c e;rcases a with a|a
  ·exact⟨λf=>(k b f).2.2 a,λg=>z (g▸a)⟩
  ·exact⟨λf=>by have:=(k b f).1;omega,λg=>by omega⟩
 refine⟨?_,d.hp h.hp,λj m D o Q=>h.quit j m D ((F j D).symm.trans o) Q,λj m c o e R=>?_,λj c e=>by rw[T];exact h.idx j c e,λb a=>⟨Ue (h.mR b a).1 d.size,λf=>f.elim (h.mR b a).2 λf=>by have:=(h.mR b a).1;omega⟩,E,λj c e=>?_,h.rm,λj c e=>?_,h.mu⟩
 ·refine h.zL.main (λU r=>by obtain⟨g,_,rfl⟩:=WY r;rfl) (nO λg n=>ye (d.evs g n)) d.size λU r b a N=>?_;obtain⟨g,n,rfl⟩:=WY r;rcases AR (d.evs g n) a N with i|i
  ·exact⟨E _ i,λx C v=>p x C v _ i,λG=>absurd i (λf=>f.elim (h.mR _ G).2 λf=>by have:=(h.mR _ G).1;omega)⟩
  ·refine⟨Ue (h.mR _ i.1).1 d.size,λx C v=>?_,λ_=>i.2⟩;obtain⟨y,l,z,A,k⟩:=h.low x C v;exact⟨λf=>(k _ f).2.1 i.1,λg=>l (g▸i.1)⟩
 ·refine(h.act j m c ((F j (h.idx j c e).1).symm.trans o) e R).rely ⟨λb a=>?_,d.size,d.tape,d.os,d.output⟩;rcases a with a|a
  ·exact d.keep b (h.mR b a).1 (h.mR b a).2
  ·exact d.keep b ((h.low j c e).2.2.2.2 b a).1 ((h.low j c e).2.2.2.2 b a).2.2
 ·obtain⟨y,l,z,A,k⟩:=h.low j c e;exact⟨Ue y d.size,l,λf=>(p j c e _ f).2 Y,A,λb a=>⟨Ue (k b a).1 d.size,(k b a).2.1,λf=>(p j c e b f).1 a⟩⟩
 ·obtain⟨M,H,s,V,J,K,L⟩:=h.chan j c e;exact⟨M,H,s,V,(d.keep _ (h.low j c e).1 (h.low j c e).2.2.1).trans J,K,L⟩
def Inv.spawn(h:Inv P0 P S O μ gs w t wk vs q fB){c cap:Nat}{l:List U}{z:UM}{tr':Tr}(p:O c)(ad:l.length<=cap)(a2:μ c=K)(hc:w.heap[c]? =I (.chan cap #[] T8 0 0 T8))(aa:Wk P0 P S c tr' (λ_=>False) l z w)(M:gs'.size=gs.size+1)(Z:0<gs.size)(ab:gs'[gs.size]? =I z)(L:∀j,0<j->j<gs.size->gs'[j]? =gs[j]?)(fn C:V2)(pos:String):
 Inv P0 P S (λb=>O b/\b≠c) (gh μ c (I l)) gs' w (t++#[{g:=0,fn,pos,act:=.go gs.size},{g:=gs.size,fn:=C,pos,act:=.start}]) (kM wk gs.size (I ⟨c,λ_=>False,K⟩)) (kM vs gs.size l) q (kM fB gs.size tr'):=by
 have H:wk gs.size=K:=by
  cases d:wk gs.size with
  |none=>rfl
  |some a1=>have:=(h.idx _ a1 d).2;omega
 have E:¬S c:=λao=>(h.mR c ao).2 p;have al:∀j a,wk j=I a->j≠gs.size:=λj a e d=>by rw[d,H] at e;cases e
 have r:∀j a,wk j=I a->c≠a.c:=λj a e d=>(h.low j a e).2.2.1 (d▸p);refine⟨?_,h.hp,λj g D o J=>?_,λj g a o e an=>?_,λj a e=>?_,λb i=>⟨(h.mR b i).1,λf=>(h.mR b i).2 f.1⟩,λb i=>h.wU b i.1,λj a e=>?_,λj v a y G e N=>?_,λj a e=>?_,λA m F=>?_⟩
 ·exact h.zL.spawn H fn C pos (λj a e=>⟨λf=>((h.low j a e).2.2.2.2 c f).2.2 p,r j a e,λb i=>⟨λf=>((h.low j a e).2.2.2.2 b f).2.1 i,λd=>(h.low j a e).2.1 (d▸i)⟩⟩) E
 ·by_cases d:j=gs.size
  ·subst d;exact absurd Y (J ⟨c,λ_=>False,K⟩ (dn _ _ _))
  ·have ae:j<gs.size:=by
    have:=(Uc.1 o).1;omega
   exact h.quit j g D ((L j D ae).symm.trans o) λa e=>J a (by rw[dZ _ _ d];exact e)
 ·rcases m7 e with⟨rfl,d⟩|⟨n,k⟩
  ·cases d;rw[ab] at o;cases o;rw[dn,dn];exact aa
  ·rw[dZ _ _ n,dZ _ _ n];exact h.act j g a ((L j (h.idx j a k).1 (h.idx j a k).2).symm.trans o) k an
 ·rcases m7 e with⟨rfl,d⟩|⟨n,k⟩
  ·rw[M];exact⟨Z,by omega⟩
  ·have:=h.idx j a k;rw[M];exact⟨this.1,by omega⟩
 ·rcases m7 e with⟨rfl,d⟩|⟨n,k⟩
  ·cases d;exact⟨h.wU c p,E,λf=>f.2 Y,λf=>f,λb i=>i.elim⟩
  ·obtain⟨ap,ar,av,aw,x⟩:=h.low j a k;exact⟨ap,ar,λf=>av f.1,aw,λb i=>⟨(x b i).1,(x b i).2.1,λf=>(x b i).2.2 f.1⟩⟩
 ·rcases m7 e with⟨rfl,d⟩|⟨n,k⟩
  ·cases d;rcases m7 N with⟨rfl,d⟩|⟨am,s⟩
   ·exact absurd Y G
   ·exact⟨r v y s,λf=>((h.low v y s).2.2.2.2 c f).2.2 p,λb i=>i.elim⟩
  ·rcases m7 N with⟨rfl,d⟩|⟨am,s⟩
   ·cases d;exact⟨λd=>r j a k d.symm,λf=>f,λb i f=>f⟩
   ·exact h.rm j v a y G k s
 ·rcases m7 e with⟨rfl,d⟩|⟨n,k⟩
  ·cases d;exact⟨cap,#[],0,0,hc,by rw[vh,dn];simp,by rw[dn];simpa using ad⟩
  ·obtain⟨W,Q,a0,az,R,T,V⟩:=h.chan j a k;refine⟨W,Q,a0,az,R,?_,by rw[dZ _ _ n];exact V⟩;rw[q7 _ _ (λd=>r j a k d.symm),dZ _ _ n];exact T
 ·by_cases d:A=c
  ·exact⟨gs.size,_,dn _ _ _,d.symm⟩
  ·rw[q7 _ _ d] at F;obtain⟨j,a,e,X⟩:=h.mu A m F;exact⟨j,a,by rw[dZ _ _ (al j a e)];exact e,X⟩
def Inv.Mx(h:Inv P0 P S O μ gs w t wk vs q fB){i p:Nat}{x:wH}(k:wk i=I x)(r:x.pc=I p)(H:gs'.size=gs.size)(o:∀j,0<j->gs'[j]? =gs[j]?)(fn:V2)(pos:String):
 Inv P0 P S O (gh μ x.c K) gs' w (t++#[{g:=0,fn,pos,act:=.recvClosed x.c}]) (kM wk i K) vs q fB:=by
 have e:∀{j b},kM wk i K j=I b->j≠i/\wk j=I b:=λ{j b} d=>by
  rcases m7 d with⟨_,d⟩|d
  ·cases d
  ·exact d
 refine⟨h.zL.Mx k r fn pos,h.hp,λj g n l F=>?_,λj g b l a G=>?_,λj b a=>by rw[H];exact h.idx j b (e a).2,h.mR,h.wU,λj b a=>h.low j b (e a).2,λj L b Q E a J=>h.rm j L b Q E (e a).2 (e J).2,λj b a=>?_,λc M f=>?_⟩
 ·refine h.quit j g n ((o j n).symm.trans l) λb a=>?_;by_cases d:j=i
  ·subst d;rw[k] at a;cases a;rw[r];simp
  ·exact F b (by rw[dZ _ _ d];exact a)
 ·exact h.act j g b ((o j (h.idx j b (e a).2).1).symm.trans l) (e a).2 G
 ·obtain⟨C,v,s,N,y,z,A⟩:=h.chan j b (e a).2;exact⟨C,v,s,N,y,by rw[q7 _ _ (h.rm j i b x (e a).1 (e a).2 k).1];exact z,A⟩
 ·by_cases d:c=x.c
  ·rw[d,vh] at f;cases f
  ·rw[q7 _ _ d] at f;obtain⟨j,b,a,m⟩:=h.mu c M f;refine⟨j,b,?_,m⟩;rw[dZ _ _ (λD=>?_)]
   ·exact a
   ·subst D;rw[k] at a;cases a;exact d m.symm
end
def Ends (P:Ug)(Post:U->F->Prop)(m:Machine)(t:Trace):Prop:=
 ∃N a b c d,runNT P (N+1) m t=(.ended b c,d)/\runN P N m= .next a/\step P a= .ended b c/\Conc.Good P Post a b c d
section
variable {P0 P:Ug}{Post:U->F->Prop}
def Ends.step{m m':Machine}{t ops:Trace}(h:stepT P m=(.next m',ops))(a:Ends P Post m' (t++ops)):Ends P Post m t:=by
 obtain⟨N,f,g,j,i,b,c,d,e⟩:=a;refine⟨N+1,f,g,j,i,?_,?_,d,e⟩
 ·rw[runNT,h];exact b
 ·rw[runN,Go.step,h];exact c
def Ends.now{m:Machine}{t ops:Trace}{o:Outcome}{w:F}(h:stepT P m=(.ended o w,ops))(a:Conc.Good P Post m o w (t++ops)):Ends P Post m t:=
 ⟨0,m,o,w,t++ops,by rw[runNT,h],rfl,by rw[Go.step,h],a⟩
structure rV(g0 g:UM):Prop where
 frame:g0.frame=g.frame
 callers:g0.callers=g.callers
 dying:g0.dying=g.dying
def rV.refl(g:UM):rV g g:=⟨rfl,rfl,rfl⟩
def rV.step{a g:UM}(h:rV a g)(m:Bool)(w:F):UN P m a w=UN P m g w:=G6 h.frame h.callers h.dying w
section
variable {S O:Nat->Prop}{μ:Nat->Option (List U)}{gs:Array UM}{w:F}{t:Trace}{wk:Nat->Option wH}{vs:Nat->List U}{q:Nat->Nat}{fB:Nat->Tr}
def Inv.status(h:Inv P0 P S O μ gs w t wk vs q fB){i:Nat}{g:UM}(e:0<i)(b:gs[i]? =I g):g.status= .running\/g.status= .finished:=by
 cases c:wk i with
 |none=>exact(h.quit i g e b λd a=>by rw[c] at a;cases a).status
 |some d=>
  cases j:d.pc with
  |some l=>exact(h.quit i g e b λm a=>by rw[c] at a;cases a;rw[j];simp).status
  |none=>
   have:=h.act i g d b c j;generalize fB i=k at this;cases k using Tr.ind with
   |fin=>exact(Tr.pU this).elim
   |mk f=>exact .inl (wz.1 this).1
def mY{g g' o:UM}{w':F}(h:o.status= .running\/o.status= .finished):woken P g g' w' o=o:=by
 unfold woken
 split
 ·exact again_running _ h
 ·rfl
def lZ{g g' g2:UM}{w':F}{c cap s r:Nat}{b:Array U}{d:Bool}{z:U}{a:CommShape}(hc:w'.heap[c]? =I (.chan cap b T8 s r d)):woken P g g' w' (parked g2 #[rcase c z] a)=parked g2 #[rcase c z] a:=by
 unfold woken
 split
 ·exact again_recv_open hc
 ·rfl
def others(h:Inv P0 P S O μ gs w t wk vs q fB){i:Nat}{g g':UM}{w':F}{j:Nat}(b:0<j)(d:j≠i):((gs.map (woken P g g' w')).setIfInBounds i g')[j]? =gs[j]? :=by
 rw[VT (λa=>d a.symm),Array.getElem?_map];cases c:gs[j]? with
 |none=>rfl
 |some e=>rw[V4,mY (h.status b c)]
def qO{i:Nat}{g g':UM}{w':F}(a:gs[i]? =I g):((gs.map (woken P g g' w')).setIfInBounds i g')[i]? =I g':=by
 rw[Array.getElem?_setIfInBounds_self_of_lt (by simpa using(Uc.1 a).1)]
def Et{i:Nat}{g g' a:UM}{w':F}(c:i≠0)(b:gs[0]? =I a)(d:woken P g g' w' a=a):((gs.map (woken P g g' w')).setIfInBounds i g')[0]? =I a:=by
 rw[VT c,Array.getElem?_map,b,V4,d]
def gO{i:Nat}{g g':UM}{w':F}:((gs.map (woken P g g' w')).setIfInBounds i g').size=gs.size:=by simp
def Inv.TC(h:Inv P0 P S O μ gs w t wk vs q fB)(y:∀c,μ c=K):Inv P0 P (λ_=>False) (λ_=>False) (λ_=>K) gs w t (λ_=>K) vs q fB:=by
 have m:∀a,wk a=K:=λa=>by
  cases b:wk a with
  |none=>rfl
  |some d=>
   obtain⟨A,z,s,E,_,i,_⟩:=h.chan a d b;rw[y] at i;cases i
 refine⟨⟨h.zL.wl,h.zL.clean,h.zL.low,λa n u x=>?_,λg d e=>(by cases e),λg d e=>(by cases e),λg d D e=>(by cases e)⟩,h.hp,λa k p l _=>h.quit a k p l λd j=>(by rw[m] at j;cases j),λa k d l b=>(by cases b),λa d b=>(by cases b),λo f=>f.elim,λo f=>f.elim,λa d b=>(by cases b),λa B d F _ b=>(by cases b),λa d b=>(by cases b),λc C v=>(by cases v)⟩;rcases h.zL.known a n u x with r|⟨g,d,e,_⟩
 ·exact .inl r
 ·rw[m] at e;cases e
def Inv.TD(h:Inv P0 P (λ_=>False) (λ_=>False) (λ_=>K) gs w t (λ_=>K) vs q fB)(k:∀b,S b->b<w.heap.size/\¬O b)(j:∀b,O b->b<w.heap.size):Inv P0 P S O (λ_=>K) gs w t (λ_=>K) vs q fB:=by
 refine⟨⟨h.zL.wl,h.zL.clean,h.zL.low,λe g l n=>?_,λf c d=>(by cases d),λf c d=>(by cases d),λf c v d=>(by cases d)⟩,h.hp,h.quit,λe p c r a=>(by cases a),λe c a=>(by cases a),k,j,λe c a=>(by cases a),λe s c x _ a=>(by cases a),λe c a=>(by cases a),λo u m=>(by cases m)⟩;rcases h.zL.known e g l n with i|⟨f,c,d,_⟩
 ·exact .inl i
 ·cases d
def Inv.Mb(h:Inv P0 P (λ_=>False) (λ_=>False) (λ_=>K) gs w t (λ_=>K) vs q fB){gs':Array UM}{w':F}{es:Array Vn}(f:Lk P0 w w' es)(y:gs'.size=gs.size)(s:∀j,0<j->gs'[j]? =gs[j]?)(fn:V2)(pos:String):
 Inv P0 P (λ_=>False) (λ_=>False) (λ_=>K) gs' w' (t++XW 0 fn pos es) (λ_=>K) vs q fB:=by
 refine⟨?_,f.hp h.hp,λb l m n a=>h.quit b l m ((s b m).symm.trans n) a,λb l d n a=>(by cases a),λb d a=>(by cases a),λk c=>c.elim,λk c=>c.elim,λb d a=>(by cases a),λb j d B _ a=>(by cases a),λb d a=>(by cases a),λx A o=>(by cases o)⟩;refine h.zL.main (λv i=>by obtain⟨e,_,rfl⟩:=WY i;rfl) (nO λe g=>DQ (f.evs e g)) f.size λv i k c r=>?_;obtain⟨e,g,rfl⟩:=WY i;exact⟨Jv (f.evs e g) c r,λz d p=>(by cases p),λu=>u.elim⟩
def Inv.good(h:Inv P0 P (λ_=>False) (λ_=>False) (λ_=>K) gs w t (λ_=>K) vs q fB)(sl:Option (Nat×Nat)){v:U}{es:Array Vn}(g:∀e∈es,C8 w.heap.size e)(i:Post v w)(fn:V2)(pos:String)(w0:F):Conc.Good P Post (crowd gs w0 sl) (.done v) w (t++XW 0 fn pos es):=by
 have b:=h.Mb (w':=w) (es:=es) ⟨T9 _,rfl,rfl,rfl,id,g⟩ Y (λ_ _=>rfl) fn pos;refine⟨v,rfl,i,b.zL.clean,b.zL.over,⟨λf d=>?_,rfl⟩,λa f d c=>?_⟩
 ·obtain⟨a,c⟩:=List.mem_iff_getElem?.1 d;rw[List.getElem?_drop] at c;exact⟨_,(h.quit (1+a) f (by omega) (by simpa [crowd] using c) λj e=>by cases e).leaves⟩
 ·rw[b.zL.wl.deaf];exact⟨q a,(h.quit a f (by omega) d λj e=>by cases e).hears _ 0⟩
end
end
section
variable {P0 P:Ug}{Post:U->F->Prop}
def Oo (P0 P:Ug)(Post:U->F->Prop)(k:Tr):Prop:=
 (∀d c,Mn P0 P Post k .ex d c->∀b g e h f fB a,b[0]? =I a->rV a d->a.status= .running->Inv P0 P (λ_=>False) (λ_=>False) (λ_=>K) b c e (λ_=>K) h f fB->Ends P Post (crowd b c g) e)/\
 (∀j i l d c,Mn P0 P Post k (.sh j i l) d c->∀b g e m h f fB a,b[0]? =I a->rV a d->a.status= .running->Inv P0 P j i l b c e m h f fB->Ends P Post (crowd b c g) e)
def E1{q:Nat->Nat}{i n k:Nat}(a:i<n)(b:q i=k+1):XN n (kM q i k)+1=XN n q:=by
 have c:XN n (kM q i k)+(k+1)=XN n q+k:=by
  have:=ConcN.sumTo_upd q k id a;simp only[id,b] at this;exact this
 omega
def tZ{S d:Nat->Prop}{n:Nat->Option (List U)}{a:Array UM}{w:F}{t:Trace}{l:Nat->Option wH}{vs:Nat->List U}{q:Nat->Nat}{fB:Nat->Tr}(h:Inv P0 P S d n a w t l vs q fB){b:UM}(e:a[0]? =I b)(f:awake b):∀g∈a,awake g:=by
 intro g i;obtain⟨k,c,rfl⟩:=Array.mem_iff_getElem.1 i;rcases Xv k with rfl|j
 ·have:a[0]=b:=by simpa [UW c] using e
  rw[this];exact f
 ·exact awake_of ((h.status j (UW c)).elim .inl λm=>.inr (.inr m))
def OY{f:F->Tr}(C:∀w,Oo P0 P Post (f w)):∀(n:Nat) g w,Mn P0 P Post (.mk f) .ex g w->∀d sl t vs q fB c,XN d.size q<n->d[0]? =I c->rV c g->c.status= .running->Inv P0 P (λ_=>False) (λ_=>False) (λ_=>K) d w t (λ_=>K) vs q fB->Ends P Post (crowd d w sl) t:=by
 intro n
 induction n with
 |zero=>intro g w y d sl t vs q fB c ae;omega
 |succ n al=>
  intro g w y d sl t vs q fB c ae j p k e;have N:=y;rcases nu.1 y with x|x|⟨E,D,H,J,L⟩
  case inr.inr=>exact(C w).2 E D _ g w (L w (atRel_refl w)) d sl t _ vs q fB c j p k (e.TD H J)
  all_goals
   obtain⟨h,i,a,m,b,o,B⟩:=crowd_pick (P:=P) (w:=w) (sl:=sl) (tZ e j (awake_of (.inl k))) ⟨0,c,j,k⟩;rcases Xv h with rfl|Y
   case inr=>
    have r:=e.quit h i Y b (λap s=>by cases s);have U:(h==0)=T8:=by simp;omega
    have W:h<d.size:=(Uc.1 b).1;cases A:q h with
    |zero=>rw[A] at r;rw[show i.status= .finished from r] at o;cases o
    |succ an=>
     rw[A] at r;rcases r with R|⟨_,u,ad,aa⟩
     ·rw[R] at o;cases o
     ·have l:=runT_crowd_go (P:=P) (sl:=m) (i:=h) b (by rw[U];exact ad (w.at a));have ar:=E1 W A;refine Ends.step (B.trans l) (al g (w.at a) (N.Ib ⟨a,rfl⟩) _ m _ vs (kM q h an) fB c (by rw[gO];omega) (Et (by omega) j (mY (.inl k))) p k ?_);rw[ofEvents_none,Array.append_empty];exact(e.at a).slip (λap s=>by cases s) aa gO (qO b) λam z V=>others e z V
  ·obtain rfl:i=c:=by rw[j] at b;exact(Yl b).symm
   obtain⟨u,ao,G,T,ab,S,M⟩:=x (w.at a) ⟨a,rfl⟩;have l:=runT_crowd_go (P:=P) (sl:=m) (i:=0) b (show UN P (0==0) i (w.at a)=_ from(p.step Z _).trans T);refine Ends.step (B.trans l) ((C (w.at a)).1 u ao M _ m _ vs q fB u (qO b) (rV.refl _) ab ?_);exact(e.at a).Mb S gO (λam z=>others e z (by omega)) _ _
  ·obtain rfl:i=c:=by rw[j] at b;exact(Yl b).symm
   obtain⟨v,G,O,Q,X⟩:=x (w.at a) ⟨a,rfl⟩;have l:=runT_many_ended (P:=P) (sl:=m) (i:=0) b (show UN P (0==0) i (w.at a)=_ from(p.step Z _).trans O);exact Ends.now (B.trans l) ((e.at a).good sl Q X _ _ w)
end
section
variable {P0 P:Ug}{Post:U->F->Prop}
def RC (P0 P:Ug)(Post:U->F->Prop)(f:F->Tr)(S O:Nat->Prop)(μ:Nat->Option (List U))(g:UM)(w:F)(c:Nat)(z:U)(g2:UM)(l0:List U):Prop:=
 μ c=I l0/\(g2.frame=g.frame/\g2.callers=g.callers/\g2.dying=g.dying)/\∀a,RelB (λb=>S b\/O b) w a->UN P Z g a= .comm g2 #[rcase c z] Z (.recv Z) a #[]/\
  match l0 with
  |v::d=>Mn P0 P Post (f a) (.sh S O (gh μ c (I d))) (Wj g2 (recvd Z v Z)) a
  | []=>Mn P0 P Post (f a) (.sh S O (gh μ c K)) (Wj g2 (recvd Z z T8)) a
def RC.rely{f:F->Tr}{S O:Nat->Prop}{μ:Nat->Option (List U)}{g:UM}{w a:F}{c:Nat}{z:U}{g2:UM}{l0:List U}(h:RC P0 P Post f S O μ g w c z g2 l0)(e:RelB (λb=>S b\/O b) w a):RC P0 P Post f S O μ g a c z g2 l0:=
 ⟨h.1,h.2.1,λi d=>h.2.2 i (e.trans d)⟩
def AA (P0 P:Ug)(Post:U->F->Prop)(f:F->Tr)(S O:Nat->Prop)(μ:Nat->Option (List U))(g:UM)(gs:Array UM)(w:F)(wk:Nat->Option wH)(d:Nat):Prop:=
 (d=1/\∃b,gs[0]? =I b/\rV b g/\b.status= .running)\/
 (d=0/\∃a h e k j c i s l,gs[0]? =I (parked e #[rcase a h] (.recv Z))/\RC P0 P Post f S O μ g w a h e k/\wk j=I c/\c.c=a/\c.pc=K/\w.heap[a]? =I (.chan i #[] T8 s l T8))
def KU(μ:Nat->Option (List U)){c:Nat}{l:Option (List U)}(h:μ c=l):gh μ c l=μ:=by
 funext b;unfold gh
 split
 ·rename_i a;rw[a,h]
 ·rfl
section
variable {S O:Nat->Prop}{μ:Nat->Option (List U)}{gs:Array UM}{w w':F}{t:Trace}{wk:Nat->Option wH}{vs:Nat->List U}{q:Nat->Nat}{fB:Nat->Tr}
def Inv.LM(h:Inv P0 P S O μ gs w t wk vs q fB){i j:Nat}{x y:wH}(b:wk i=I x)(a:wk j=I y){es:Array Vn}(d:mq P0 S x.own w w' es):w'.heap[y.c]? =w.heap[y.c]? :=by
 refine d.keep _ (h.low j y a).1 ?_;by_cases c:j=i
 ·subst c;rw[b] at a;cases a;exact(h.low j x b).2.2.2.1
 ·exact(h.rm j i y x c a b).2.1
def Inv.yI(h:Inv P0 P S O μ gs w t wk vs q fB)(i c:Nat)(b:Bool)(j:∀e,i≠0->gs[0]? =I e->offersAt e c b=[]):partners (gs.setIfInBounds i ph) c b=[]:=by
 refine partners_nil λg d k=>?_;rcases getElem?_stand gs i g d k with⟨_,rfl⟩|⟨l,f⟩
 ·exact offersAt_ph c b
 ·rcases Xv g with rfl|m
  ·exact j d (λa=>l a.symm) f
  ·exact offersAt_of_not_blocked (by rcases h.status m f with a|a<;>rw[a]<;>simp) c b
end
def qV{gs:Array UM}{i:Nat}{g g':UM}(a:gs[i]? =I g):(gs.setIfInBounds i g')[i]? =I g':=Array.getElem?_setIfInBounds_self_of_lt (Uc.1 a).1
def jz{gs:Array UM}{i j:Nat}{g':UM}(h:j≠i):(gs.setIfInBounds i g')[j]? =gs[j]? :=VT (λa=>h a.symm)
def Em{k:Nat}{g:UM}(h:QuitsIn P k g):(g.status != .blocked&&g.status != .waiting)=Z:=by
 rcases h.status with a|a<;>rw[a]<;>rfl
def vL{f:F->Tr}(c7:∀w,Oo P0 P Post (f w)){S O:Nat->Prop}{μ:Nat->Option (List U)}{g:UM}{n:Nat}{fB:Nat->Tr}
 (a8:∀b2,Down n b2 fB->∀w,Mn P0 P Post (.mk f) (.sh S O μ) g w->∀gs sl t wk vs q o,gs.size=n->AA P0 P Post f S O μ g gs w wk o->Inv P0 P S O μ gs w t wk vs q b2->Ends P Post (crowd gs w sl) t)
 {bB:Nat} (c8:∀w,Mn P0 P Post (.mk f) (.sh S O μ) g w->∀gs sl t wk vs q o,gs.size=n->XN n q+o<bB->AA P0 P Post f S O μ g gs w wk o->Inv P0 P S O μ gs w t wk vs q fB->Ends P Post (crowd gs w sl) t)
 {w:F} (cs:Mn P0 P Post (.mk f) (.sh S O μ) g w) {gs:Array UM} {sl:Option (Nat×Nat)} {t:Trace} {wk:Nat->Option wH} {vs:Nat->List U} {q:Nat->Nat} {o:Nat} (V:gs.size=n) (dk:XN n q+o<bB+1) (bd:AA P0 P Post f S O μ g gs w wk o) (av:Inv P0 P S O μ gs w t wk vs q fB)
 {i:Nat} {A:UM} {d:Nat} {u:Option (Nat×Nat)} (c0:0<i) (p:gs[i]? =I A) (bb:A.status= .running) (a6:stepT P (crowd gs w sl)=runT P (crowd gs (w.at d) u) i):Ends P Post (crowd gs w sl) t:=by
 have B:=av.at d;have aw:=cs.j8 (RelB.at _ w d);have bc:(i==0)=T8:=by simp;omega
 have b5:i<gs.size:=(Uc.1 p).1;have ca:(∀b,wk i=I b->b.pc≠K)->Ends P Post (crowd gs w sl) t:=by
  intro b6;have al:=av.quit i A c0 p b6;cases bt:q i with
  |zero=>rw[bt] at al;rw[show A.status= .finished from al] at bb;cases bb
  |succ be=>
   rw[bt] at al;rcases al with cv|⟨_,a2,c3,c1⟩
   ·rw[cv] at bb;cases bb
   ·have N:=runT_crowd_go (P:=P) (sl:=u) (i:=i) p (by rw[bc];exact c3 (w.at d));have df:=E1 (V▸b5) bt;refine Ends.step (a6.trans N) (c8 (w.at d) aw _ u _ wk vs (kM q i be) o (by rw[gO];exact V) (by omega) ?_ ?_)
    ·rcases bd with⟨a,H,e,ae,E⟩|⟨a,x,G,c,R,h,b,k,s,r,e,J,j,c6,D,L⟩
     ·exact .inl ⟨a,H,Et (by omega) e (mY (.inl E)),ae,E⟩
     ·exact .inr ⟨a,x,G,c,R,h,b,k,s,r,Et (by omega) e (lZ (w':=w.at d) L),J.rely (RelB.at _ w d),j,c6,D,L⟩
    ·rw[ofEvents_none,Array.append_empty];exact B.slip b6 c1 gO (qO p) λh M l=>others av M l
 cases j:wk i with
 |none=>exact ca λb a=>by rw[j] at a;cases a
 |some b=>
  cases D:b.pc with
  |some dq=>exact ca λW a=>by rw[j] at a;cases a;rw[D];simp
  |none=>
   have a4:=B.act i A b p j D;obtain⟨c9,bi,bj,dl,dp⟩:=B.low i b j;have bl:=a4;generalize cx:fB i=zL at bl;cases zL using Tr.ind with
   |fin=>exact(Tr.pU bl).elim
   |mk a1=>
    replace a4:=wz.1 bl;have a0:∀bA,bA=a1 (w.at d)->Down n (kM fB i bA) fB:=λbA a=>⟨i,V▸b5,⟨a1,w.at d,cx,by rw[dn];exact a⟩,λh M=>dZ _ _ M⟩;obtain⟨k,T,s,r,X,az,ao⟩:=B.chan i b j;rw[D] at X az ao;simp only[Option.isSome_none,if_true,forall_const] at X az ao;obtain⟨_,a4⟩:=a4;rcases a4 with cn|⟨v,bv,c,G,bu,co⟩|⟨bu,a2,be,al,c4,cp⟩
    ·
     obtain⟨a2,w',db,bo,a5,ba⟩:=cn (w.at d) (RelB.refl _ _);have N:=runT_crowd_go (P:=P) (sl:=u) (i:=i) p (by rw[bc];exact bo);have hrel:=B.Pg j a5;refine Ends.step (a6.trans N) (a8 _ (a0 _ Y) w' (aw.j8 hrel) _ u _ _ vs q o (by rw[gO];exact V) ?_ (B.RP j D a5 ba gO (qO p) (λh M l=>others av M l) _ _));rcases bd with⟨a,H,e,ae,E⟩|⟨a,x,G,c,R,h,W,k,s,r,e,J,z,Q,a7,L⟩
     ·exact .inl ⟨a,H,Et (by omega) e (mY (.inl E)),ae,E⟩
     ·have ab:w'.heap[x]? =I (.chan k #[] T8 s r T8):=by
       rw[<-Q,B.LM j z a5,Q];exact L
      by_cases l:h=i
      ·subst l;rw[j] at z;cases z;exact .inr ⟨a,x,G,c,R,h,⟨b.c,cV b.own (w.at d) w',K⟩,k,s,r,Et (by omega) e (lZ ab),(J.rely (RelB.at _ w d)).rely hrel,dn _ _ _,Q,rfl,ab⟩
      ·exact .inr ⟨a,x,G,c,R,h,W,k,s,r,Et (by omega) e (lZ ab),(J.rely (RelB.at _ w d)).rely hrel,by rw[dZ _ _ l];exact z,Q,a7,ab⟩
    ·
     obtain⟨cu,ba⟩:=co (w.at d) (RelB.refl _ _);have b4:UN P (i==0) A (w.at d)= .comm c #[scase b.c v G] Z .send (w.at d) #[]:=by rw[bc];exact cu
     rw[bu] at az ao;have c2:T.size<k:=by simp at ao;omega
     have ci:(∀H,i≠0->gs[0]? =I H->offersAt H b.c T8=[])->(∀a9,a9[0]? =gs[0]? ->AA P0 P Post f S O μ g a9 ((w.at d).setChan b.c k (T.push v) T8 (s+1) r T8) wk o)->Ends P Post (crowd gs w sl) t:=by
      intro bs cR;have N:=crowd_send_room (sl:=u) p b4 X c2 (B.yI i b.c T8 bs);refine Ends.step (a6.trans N) ?_;rw[ofEvents_none,Array.empty_append,finishComm_send];have y:=B.comm (gs':=gs.setIfInBounds i (Wj c Vl)) (u:= #[{g:=i,fn:=c.frame.fn,pos:=c.frame.place,act:=.send b.c s},{g:=i,fn:=c.frame.fn,pos:=c.frame.place,act:=.sendDone b.c s}]) j (cap:=k) (s':=s+1) (r':=r) (buf':=T.push v) (vi':=bv) (tr':=a1 (w.at d)) (g':=Wj c Vl) (λ_=>by simp at ao ⊢;omega) (λ_=>ba) (λ_=>qV p) (λa=>absurd D a) (λh M l=>jz l) (by simp) (λbx C m br=>by simp at C;rcases C with rfl|rfl<;>cases br) (λbx C=>by simp at C;rcases C with rfl|rfl<;>rfl);rw[D] at y;simp only[Option.isSome_none,if_true] at y;rw[KU μ (by rw[az];simp)] at y;exact a8 _ (a0 _ Y) _ (aw.j8 (k9 (λaa=>aa.elim bi bj) _ _ _ _ _ _)) _ u _ wk _ q o (by simpa using V) (cR _ (jz (by omega))) y
     rcases bd with⟨a,H,e,ae,E⟩|⟨a,x,da,ar,R,h,W,ap,an,am,e,J,z,Q,a7,L⟩
     ·refine ci (λcl _ a3=>?_) λa9 bm=>.inl ⟨a,H,bm.trans e,ae,E⟩;rw[e] at a3;cases a3;exact offersAt_of_not_blocked (by rw[E];simp) _ _
     ·by_cases ad:x=b.c
      ·
       subst ad;have b1:=L.symm.trans (show w.heap[b.c]? =_ from X);simp only[U9,Obj.chan.injEq] at b1;obtain⟨rfl,rfl,-,rfl,rfl,-⟩:=b1;have bs:partners (gs.setIfInBounds i ph) b.c T8=[(0,0)]:=by
        rw[partners_one (j:=0) (stand_get (i:=i) (by omega) e) (λbe W dc z=>?_)]
        ·rw[offersAt_parked_recv];simp
        ·rcases getElem?_stand gs i be W z with⟨_,rfl⟩|⟨dd,a5⟩
         ·exact offersAt_ph _ _
         ·exact offersAt_of_not_blocked (by rcases av.status (by omega) a5 with a|a<;>rw[a]<;>simp) _ _
       have N:=crowd_send_meets (sl:=u) p b4 X (j:=0) (by omega) e bs;refine Ends.step (a6.trans N) ?_;rw[ofEvents_none,Array.empty_append,finishComm_send,finishComm_recv];obtain⟨cb,⟨cc,cd,cf⟩,ch⟩:=J.rely (RelB.at _ w d);have ck:R=v::bv:=by
        have:=cb.symm.trans az;simpa using this
       subst ck;have b3:=(ch (w.at d) (RelB.refl _ _)).2;dsimp only at b3;have y:=B.comm (gs':=(gs.setIfInBounds 0 (Wj ar (recvd Z v Z))).setIfInBounds i (Wj c Vl)) (u:= #[{g:=i,fn:=c.frame.fn,pos:=c.frame.place,act:=.send b.c an},{g:=0,fn:=ar.frame.fn,pos:=ar.frame.place,act:=.recv b.c am ap},{g:=i,fn:=c.frame.fn,pos:=c.frame.place,act:=.sendDone b.c an},{g:=0,fn:=ar.frame.fn,pos:=ar.frame.place,act:=.recvDone b.c am}]) j (cap:=ap) (s':=an+1) (r':=am+1) (buf':= #[]) (vi':=bv) (tr':=a1 (w.at d)) (g':=Wj c Vl) (λ_=>by simp at ao ⊢;omega) (λ_=>ba) (λ_=>qV (g:=A) (by rw[jz (by omega)];exact p)) (λa=>absurd D a) (λh M l=>by rw[jz l,jz (by omega)]) (by simp) (λbx C m br=>by simp at C;rcases C with rfl|rfl|rfl|rfl<;>cases br) (λbx C=>by simp at C;rcases C with rfl|rfl|rfl|rfl<;>rfl);rw[D] at y;simp only[Option.isSome_none,if_true] at y;exact(c7 (w.at d)).2 S O _ _ _ (b3.j8 (k9 (λaa=>aa.elim bi bj) _ _ _ _ _ _)) _ u _ wk _ q _ _ (by rw[jz (by omega)];exact qV e) (rV.refl _) Y y
      ·refine ci (λcl _ a3=>?_) λa9 bm=>?_
       ·rw[e] at a3;cases a3;rw[offersAt_parked_recv,if_neg ad]
       ·exact .inr ⟨a,x,da,ar,R,h,W,ap,an,am,bm.trans e,(J.rely (RelB.at _ w d)).rely (k9 (λaa=>aa.elim bi bj) _ _ _ _ _ _),z,Q,a7,(xj ad _ _ _ _ _ _).trans L⟩
    ·
     have bo:=cp (w.at d) (RelB.refl _ _) k T s r T8 X;have N:=runT_crowd_go (P:=P) (sl:=u) (i:=i) p (by rw[bc];exact bo);have hrel:RelB (λb0=>S b0\/O b0) (w.at d) ((w.at d).setChan b.c k T Z s r T8):=k9 (λaa=>aa.elim bi bj) _ _ _ _ _ _;have y:=B.close (gs':=(gs.map (woken P A a2 ((w.at d).setChan b.c k T Z s r T8))).setIfInBounds i a2) (tr':=a1 (w.at d)) j D bu X al (qO p) (λh M l=>others av M l) gO A.frame.fn A.frame.place;refine Ends.step (a6.trans N) ?_;rcases bd with⟨a,H,e,ae,E⟩|⟨a,x,G,c,R,h,W,ap,an,am,e,J,z,Q,a7,L⟩
     ·exact a8 _ (a0 _ Y) _ (aw.j8 hrel) _ u _ _ _ _ o (by rw[gO];exact V) (.inl ⟨a,H,Et (by omega) e (mY (.inl E)),ae,E⟩) y
     ·by_cases ad:x=b.c
      ·subst ad;obtain⟨cb,⟨cc,cd,cf⟩,ch⟩:=J;refine a8 _ (a0 _ Y) _ (aw.j8 hrel) _ u _ _ _ _ 1 (by rw[gO];exact V) (.inl ⟨rfl,{parked c #[rcase b.c G] (.recv Z) with status:=.running},?_,⟨cc,cd,cf⟩,rfl⟩) y;have c5:woken P A a2 ((w.at d).setChan b.c k T Z s r T8) (parked c #[rcase b.c G] (.recv Z))= {parked c #[rcase b.c G] (.recv Z) with status:=.running}:=by
        unfold woken;rw[if_pos ?hP]
        case hP=>rw[c4,Bool.true_and];exact Em al
        exact again_recv_closed (BQ c9 _ _ _ _ _ _)
       rw[VT (by omega),Array.getElem?_map,e,V4,c5]
      ·have l:h≠i:=λa=>by
        subst a;rw[j] at z;cases z;exact ad Q.symm
       have ab:((w.at d).setChan b.c k T Z s r T8).heap[x]? =I (.chan ap #[] T8 an am T8):=(xj ad _ _ _ _ _ _).trans L;exact a8 _ (a0 _ Y) _ (aw.j8 hrel) _ u _ _ _ _ o (by rw[gO];exact V) (.inr ⟨a,x,G,c,R,h,W,ap,an,am,Et (by omega) e (lZ ab),(J.rely (RelB.at _ w d)).rely hrel,by rw[dZ _ _ l];exact z,Q,a7,ab⟩) y
def OZ{f:F->Tr}(C:∀w,Oo P0 P Post (f w)){S O:Nat->Prop}{μ:Nat->Option (List U)}{g:UM}{n:Nat}(fB:Nat->Tr)(bl:Acc (Down n) fB):
 ∀(W:Nat) w,Mn P0 P Post (.mk f) (.sh S O μ) g w->∀gs sl t wk vs q p,gs.size=n->XN n q+p<W->AA P0 P Post f S O μ g gs w wk p->Inv P0 P S O μ gs w t wk vs q fB->Ends P Post (crowd gs w sl) t:=by
 induction bl with
 |intro fB _ b3=>
  have bc:∀X,Down n X fB->∀w,Mn P0 P Post (.mk f) (.sh S O μ) g w->∀gs sl t wk vs q p,gs.size=n->AA P0 P Post f S O μ g gs w wk p->Inv P0 P S O μ gs w t wk vs q X->Ends P Post (crowd gs w sl) t:=
   λX br w aa gs sl t wk vs q p E an d=>b3 X br (XN n q+p+1) w aa gs sl t wk vs q p E (by omega) an d
  intro W
  induction W with
  |zero=>intro w aa gs sl t wk vs q p E a2;omega
  |succ W a4=>
   intro w ab gs sl t wk vs q p E a2 an d;have bb:=an;rcases an with⟨A,ar,i,am,a0⟩|⟨A,D,J,r,H,h,b,L,s,V,i,T,j,cv,G,cs⟩
   ·have aa:=nu.1 ab;rcases aa with B|B|B|⟨bA,bi⟩
    case inr.inr.inr=>exact(C w).1 g w (bi w (RelB.refl _ _) d.hp) gs sl t vs q fB ar i am a0 (d.TC bA)
    all_goals
     obtain⟨a3,N,a,l,c,ae,y⟩:=crowd_pick (P:=P) (w:=w) (sl:=sl) (tZ d i (awake_of (.inl a0))) ⟨0,ar,i,a0⟩;rcases Xv a3 with rfl|az
     case inr=>exact vL C bc a4 ab E a2 bb d az c ae y
     obtain rfl:N=ar:=by rw[i] at c;exact(Yl c).symm
     have e:=d.at a
    ·obtain⟨M,w',co,bt,a1,bs,x⟩:=B (w.at a) (RelB.at _ w a);have v:=runT_crowd_go (P:=P) (sl:=l) (i:=0) c (show UN P (0==0) N (w.at a)=_ from(am.step Z _).trans bt);exact Ends.step (y.trans v) ((C (w.at a)).2 S _ μ M w' x _ l _ wk vs q fB M (qO c) (rV.refl _) a1 (e.main bs gO (λh Q=>others d Q (by omega)) _ _))
    ·obtain⟨D,cb,L,b4,b5,b6,ca,B⟩:=B;obtain⟨M,cn,ck,b1,a1,bj,x⟩:=B (w.at a) (RelB.at _ w a);have v:=runT_crowd_spawn (P:=P) (sl:=l) (i:=0) c (show UN P (0==0) N (w.at a)=_ from(am.step Z _).trans b1);have ba:0<gs.size:=(Uc.1 i).1;refine Ends.step (y.trans v) ((C (w.at a)).2 S _ _ M (w.at a) x _ l _ (kM wk gs.size (I ⟨D,λ_=>False,K⟩)) (kM vs gs.size cb) q (kM fB gs.size ck) M ?_ (rV.refl _) a1 ?_)
     ·rw[Array.getElem?_push_lt (by simpa using ba)];simp
     ·rw[ofEvents_none];exact e.spawn b4 b5 b6 ca bj (by simp) ba (by rw[VD];simp) (λh Q bv=>by
       rw[Array.getElem?_push_lt (by simpa using bv),<-UW,jz (by omega)]) _ _ _
    ·obtain⟨D,J,r,H,T⟩:=B;have T:RC P0 P Post f S O μ g w D J r H:=T;have bB:=T.rely (RelB.at _ w a);obtain⟨a5,⟨c1,c2,c3⟩,cf⟩:=bB;obtain⟨bo,x⟩:=cf (w.at a) (RelB.refl _ _);have av:UN P (0==0) N (w.at a)= .comm r #[rcase D J] Z (.recv Z) (w.at a) #[]:=(am.step Z _).trans bo;obtain⟨k,b,j,rfl⟩:=e.mu D H a5;obtain⟨cx,cc,cd,cR,c0⟩:=e.low k b j;obtain⟨L,o,s,V,z,ao,bd⟩:=e.chan k b j;have cu:=(e.idx k b j).1;have aw:=e.yI 0 b.c Z (λcp A=>absurd Y A);obtain⟨gk,a9⟩:∃gk,gs[k]? =I gk:=⟨gs[k]'(e.idx k b j).2,UW _⟩;by_cases ad:0<o.size
     ·
      have v:=crowd_recv_buf (sl:=l) c av z ad aw;refine Ends.step (y.trans v) ?_;rw[ofEvents_none,Array.empty_append,finishComm_recv];have ap:H=o.getD 0 Vl::((o.extract 1 o.size).toList++(if b.pc=K then vs k else[])):=by
       have:=a5.symm.trans ao;simp only[U9] at this;rw[this];obtain⟨a6⟩:=o;cases a6 with
       |nil=>simp at ad
       |cons cl a6=>simp
      subst ap;dsimp only at x;have be:=e.comm (gs':=gs.setIfInBounds 0 (Wj r (recvd Z (o.getD 0 Vl) Z))) (u:= #[{g:=0,fn:=r.frame.fn,pos:=r.frame.place,act:=.recv b.c V L},{g:=0,fn:=r.frame.fn,pos:=r.frame.place,act:=.recvDone b.c V}]) j (cap:=L) (s':=s) (r':=V+1) (buf':=o.extract 1 o.size) (vi':=vs k) (tr':=fB k) (g':=gk) (λA=>by have:=bd A;simp;omega) (λA=>e.act k gk b a9 j A) (λ_=>by rw[jz (by omega)];exact a9) (λ_=>jz (by omega)) (λh Q _=>jz (by omega)) (by simp) (λch R m bx=>by simp at R;rcases R with rfl|rfl<;>cases bx) (λch R=>by simp at R;rcases R with rfl|rfl<;>rfl);exact(C (w.at a)).2 S O _ _ _ (x.j8 (k9 (λad=>ad.elim cc cd) _ _ _ _ _ _)) _ l _ wk _ q _ _ (qV i) (rV.refl _) Y be
     ·have bm:o=#[]:=by
       apply Array.eq_empty_of_size_eq_zero;omega
      subst bm;cases G:b.pc with
      |none=>
       rw[G] at z;have b2:∀a7∈ #[rcase b.c J],NoWays (w.at a) (gs.setIfInBounds 0 ph) a7:=by
        intro a7 a8;simp at a8;subst a8;refine⟨made_recv J z,?_⟩;simp only[ways,rcase];rw[z];simp[aw]
       have v:=crowd_waits (sl:=l) c av b2;refine Ends.step (y.trans v) ?_;rw[ofEvents_none,Array.append_empty];refine a4 (w.at a) (ab.j8 (RelB.at _ w a)) _ l _ wk vs q 0 (by simpa using E) (by omega) (.inr ⟨rfl,b.c,J,r,H,k,b,L,s,V,qV i,T.rely (RelB.at _ w a),j,rfl,G,z⟩) (e.TU (by simp) λh Q=>jz (by omega))
      |some c4=>
       rw[G] at z ao;have v:=crowd_recv_closed (sl:=l) c av z aw;refine Ends.step (y.trans v) ?_;rw[ofEvents_none,Array.empty_append,finishComm_recv];have ap:H=[]:=by
        have:=a5.symm.trans ao;simpa using this
       subst ap;dsimp only at x;exact(C (w.at a)).2 S O _ _ _ x _ l _ _ vs q fB _ (qV i) (rV.refl _) Y (e.Mx j G (by simp) (λh Q=>jz (by omega)) _ _)
   ·
    have b0:∃u,gs[h]? =I u/\u.status= .running:=by
     obtain⟨u,al⟩:∃u,gs[h]? =I u:=⟨gs[h]'(d.idx h b j).2,UW _⟩;refine⟨u,al,?_⟩;have:=d.act h u b al j G;generalize fB h=ci at this;cases ci using Tr.ind with
     |fin=>exact(Tr.pU this).elim
     |mk f=>exact(wz.1 this).1
    obtain⟨u,al,bu⟩:=b0;obtain⟨a3,N,a,l,c,ae,y⟩:=crowd_pick (P:=P) (w:=w) (sl:=sl) (tZ d i (λt=>by simp[parked])) ⟨h,u,al,bu⟩;rcases Xv a3 with rfl|az
    ·rw[i] at c;cases c;simp[parked] at ae
    ·exact vL C bc a4 ab E a2 bb d az c ae y
def Mp:∀k:Tr,Oo P0 P Post k:=by
 intro k
 induction k using Tr.ind with
 |fin=>exact⟨λa w c=>(Tr.pU c).elim,λS O μ a w c=>(Tr.pU c).elim⟩
 |mk f l=>
  refine⟨λa w g gs j t vs q fB b d h i e=>OY l (XN gs.size q+1) a w g gs j t vs q fB b (by omega) d h i e,λS O μ a w g gs j t wk vs q fB b d h i e=>?_⟩;exact OZ l fB (Ls gs.size fB) (XN gs.size q+1+1) w g gs j t wk vs q 1 Y (by omega) (.inl ⟨rfl,b,d,h,i⟩) e
def EF{l:Tr}{fr:Uu}{cs:List Uu}{w:F}(h:Mn P0 P Post l .ex (Uh fr cs) w)(p:xH P0 w):Ends P Post (Yk (Uh fr cs) w) #[]:=by
 rw[solo_eq_crowd];refine(Mp l).1 _ w h #[Uh fr cs] K #[] (λ_=>[]) (λ_=>0) (λ_=>.fin) _ Y (rV.refl _) Y ⟨⟨λx o=>by simp at o,λz=>?_,λb g d=>by simp[touchAt,Trace.act?] at d,λb g d=>by simp[touchAt,Trace.act?] at d,λk c e=>(by cases e),λk c e=>(by cases e),λk c y e=>(by cases e)⟩,p,λb m u j _=>?_,λb m c j a=>(by cases a),λb c a=>(by cases a),λi f=>f.elim,λi f=>f.elim,λb c a=>(by cases a),λb r c A _ a=>(by cases a),λb c a=>(by cases a),λs v n=>(by cases n)⟩
 ·rintro⟨b,r,_,⟨g,i,d,_⟩,_⟩;simp[Trace.act?] at d
 ·have:b<1:=by simpa using(Uc.1 j).1
  omega
end
def tS (P0 P:Ug)(Post:U->F->Prop)(g:UM)(w:F):Prop:=∃a,Mn P0 P Post a .ex g w
structure Sm(w w':F):Prop where
 tape:w'.tape=w.tape
 os:w'.os=w.os
 output:w'.output=w.output
 size:w.heap.size<=w'.heap.size
def Sm.refl(w:F):Sm w w:=⟨rfl,rfl,rfl,T9 _⟩
def Sm.trans{a b c:F}(h:Sm a b)(d:Sm b c):Sm a c:=⟨d.tape.trans h.tape,d.os.trans h.os,d.output.trans h.output,Uz h.size d.size⟩
section
variable {P0 P:Ug}{Post:U->F->Prop}
def yK{g:UM}{w:F}(h:∀a,AtRel w a->∃g' w' es,UN P Z g a= .go g' w' es/\g'.status= .running/\Lk P0 a w' es/\tS P0 P Post g' w'):tS P0 P Post g w:=by
 classical
 let f:F->Tr:=λa=>if b:AtRel w a then Vr (Uw (Uw (Uw (h a b)))).2.2.2 else .fin
 refine⟨.mk f,nu.2 <| .inl λa b=>?_⟩;have c:=Uw (Uw (Uw (h a b)));have d:f a=Vr (Uw (Uw (Uw (h a b)))).2.2.2:=by
  show(if b:AtRel w a then _ else _)=_;rw[dif_pos b]
 exact⟨_,_,_,c.1,c.2.1,c.2.2.1,Mn.cast d (Uw c.2.2.2)⟩
def Py{g:UM}{w:F}(h:∀a,AtRel w a->∃v es,UN P Z g a= .ended (.done v) a es/\(∀e∈es,C8 a.heap.size e)/\Post v a):tS P0 P Post g w:=⟨.mk λ_=>.fin,nu.2 (.inr (.inl h))⟩
def Rn{g:UM}{w a:F}(h:tS P0 P Post g w)(b:AtRel w a):tS P0 P Post g a:=by
 obtain⟨c,h⟩:=h;exact⟨c,h.Ib b⟩
def Pj(P0:Ug)(u:F):∃w,Un w u/\Hp (bk P0) w/\w.tape=u.tape/\w.drawn=u.drawn/\∀(b:Nat) o,u.heap[b]? =I o->bk P0 o->w.heap[b]? =I o:=by
 classical
 have h:∀o,¬bk P0 o->jk o=Z:=λo g=>by cases o<;>first|rfl|exact absurd trivial g
 have f:∀b:Nat,(u.heap.map λo=>if bk P0 o then o else pz)[b]? =(u.heap[b]?).map λo=>if bk P0 o then o else pz:=λb=>by simp
 refine⟨{u with heap:=u.heap.map λo=>if bk P0 o then o else pz},⟨by simp,λb o a=>?_,rfl,rfl⟩,λb o a=>?_,rfl,rfl,λb o a i=>?_⟩
 ·simp only[f] at a;cases d:u.heap[b]? with
  |none=>rw[d] at a;cases a
  |some e=>
   rw[d] at a;simp only[V4,U9] at a;by_cases c:bk P0 e
   ·rw[if_pos c] at a;subst a;exact .inl Y
   ·rw[if_neg c] at a;exact .inr ⟨a.symm,e,rfl,h e c⟩
 ·simp only[f] at a;cases d:u.heap[b]? with
  |none=>rw[d] at a;cases a
  |some e=>
   rw[d] at a;simp only[V4,U9] at a;by_cases c:bk P0 e
   ·rw[if_pos c] at a;subst a;exact .inl c
   ·rw[if_neg c] at a;exact .inr a.symm
 ·simp only[f,a,V4,if_pos i]
def Gg{Stop:Uu->List Uu->F->Prop}{fr:Uu}{aF:List Uu}{w u:F}(h:Fin P0 P Stop fr aF w u):∀{cs:List Uu},eO P0 fr aF->Hp (bk P0) w->Un w u->(∀fr' tops' w' a,Stop fr' tops' w'->eO P0 fr' tops'->Hp (bk P0) w'->rY w u w' a->Sm u a->tS P0 P Post (Uh fr' (tops'++cs)) a)->tS P0 P Post (Uh fr (aF++cs)) u:=by
 intro cs;refine h (λfr aF w u=>eO P0 fr aF->Hp (bk P0) w->Un w u->(∀fr' tops' w' a,Stop fr' tops' w'->eO P0 fr' tops'->Hp (bk P0) w'->rY w u w' a->Sm u a->tS P0 P Post (Uh fr' (tops'++cs)) a)->tS P0 P Post (Uh fr (aF++cs)) u) ?_ ?_
 ·intro fr aF w u g i l e f;exact f _ _ _ _ g i l e.two (Sm.refl _)
 ·intro fr aF w u B p A C i E z D l e f;refine yK λG v=>?_;obtain⟨c,rfl⟩:=v;have d:=A u.tape c;obtain⟨b,y⟩:=C u.tape c;have m:u.heap.size<=(B u.tape c).2.2.2.1.heap.size:=by
   rw[b.un.size,e.size];exact d.size
  have n:=y.trans d.tape;have j:=b.un.os.trans (d.os.trans e.os.symm);have k:=b.un.output.trans (d.output.trans e.output.symm);refine⟨_,_,_,p u.tape c Z cs,rfl,⟨m,n,j,k,λ_=>trivial,λo r=>by rw[b.un.size];exact d.evs o r⟩,?_⟩;exact z u.tape c (i u.tape c) d.hp b.un λfr' tops' w' a g s t q x=>f fr' tops' w' a g s t ((⟨b.un,b.keep⟩:rY w u _ _).trans q) ((⟨n,j,k,m⟩:Sm u _).trans x)
def sY(h:Twins P0 P){Stop:Uu->List Uu->F->Prop}(j:∀fr aF w,Stop fr aF w->¬IX fr){fr:Uu}{aF cs:List Uu}{w u:F}(ok:eO P0 fr aF)(d:Hp (bk P0) w)(e:Un w u)
 (k:∀c,∃fr' tops' w',Steps P0 (lone fr (aF++[bF]) (sh c 0 w)) (lone fr' (tops'++[bF]) w')/\Stop fr' tops' w')
 (g:∀fr' tops' w' a,Di Stop fr' tops' w'->eO P0 fr' tops'->rY w u w' a->Sm u a->tS P0 P Post (Uh fr' (tops'++cs)) a):tS P0 P Post (Uh fr (aF++cs)) u:=
 Gg (vD h j ok d e λc=>by
  obtain⟨fr',tops',w',⟨N,i⟩,b⟩:=k c;exact⟨N,fr',tops',w',i,b⟩) ok d e λfr' tops' w' a b l _ f m=>g fr' tops' w' a b l f m
def Left (c:Uu):WU->Uu
 | .returned v=>c.finish v
 | .panicked a=>c.raise a
 | .outgrown=>c
def Qw (c:Uu):Prop:=c.mode= .run/\((∃e b f a,c.todo= .inRegion e (b::f)::a)\/∃d a,c.todo= .inRangeFunc d::a)
def mj (P0 P:Ug)(Post:U->F->Prop)(f:V2)(args:Array U)(w:F)(R:WU->F->Prop):Prop:=
 ∀(a:Uu) (d:List Uu),eO P0 a []->Qw a->xH P0 w->
  (∀c b,R c b->xH P0 b->Sm w b->eO P0 (Left a c) []->tS P0 P Post (Uh (Left a c) d) b)->tS P0 P Post (Uh (UZ P f args .normal) (a::d)) w
def Tl (w u:F)(R:WU->F->Prop)(e:WU)(c:F):Prop:=∃d b a,rY w u a c/\R e (sh d b a)
def DN(h:Twins P0 P)(f:V2)(args:Array U)(kind:CallKind)(i:kind= .normal\/kind= .deferred):mZ P0 (UZ P0 f args kind):=by
 refine⟨λk c=>?_,λj e=>by simp[UZ] at e,i⟩;simp only[UZ,List.mem_singleton] at c;subst c;show bn P0 T8 _=Z;cases g:P0.funcs[f]? with
 |none=>rfl
 |some b=>
  cases a:b.body with
  |none=>simp[a,bn]
  |some d=>simpa [a] using h.A.FC f b d g a
def pN(h:Twins P0 P){f:V2}{args:Array U}{w u:F}{R:WU->F->Prop}(C:Hp (bk P0) w)(H:Un w u)(y:P.funcs[f]? =P0.funcs[f]?)(n:∀w',¬R .outgrown w')(z:∀e,Calls P0 f args (sh e 0 w) R):mj P0 P Post f args u (Tl w u R):=by
 intro c K k D _ x;have r:UZ P f args .normal=UZ P0 f args .normal:=by unfold UZ;rw[y]
 rw[r];obtain⟨E,d⟩:=D;refine sY (aF:=[c]) h (Stop:=λi aF w'=>aF=[]/\∃a,R a w'/\i=Left c a) (λi aF w' j=>?_) ⟨DN h f args .normal (.inl Y),λV p=>by simp at p;rw[p];exact k.top,k.bot⟩ C H (λe=>?_) (λL T w' J j B t G=>?_)
 ·obtain⟨_,a,b,rfl⟩:=j;rintro⟨A,s,o⟩;cases a with
  |returned v=>
   rcases d with⟨Q,N,S,I,d⟩|⟨O,I,d⟩
   ·simp[Left,VX,d] at o
   ·simp[Left,VX,d] at o
  |panicked g=>
   simp[Left,Frame.raise,E] at A
  |outgrown=>exact n _ b
 ·obtain⟨a,w',i,b,l,M,m⟩:=z e (c::[bF]);cases a with
  |returned v=>exact⟨c.finish v,[],w',l.trans (.one (step_leave_returned m)),rfl,.returned v,b,rfl⟩
  |panicked g=>exact⟨c.raise g,[],w',l.trans (.one (step_leave_panicked m)),rfl,.panicked g,b,rfl⟩
  |outgrown=>exact absurd b (n _)
 ·obtain⟨e,q,rfl,a,b,rfl⟩:=j;exact x a J ⟨e,q,w',t,b⟩ trivial G B
end
def Fi (P0 P:Ug)(Post:U->F->Prop)(fr:Uu)(cs:List Uu)(w:F):Prop:=eO P0 fr []->xH P0 w->tS P0 P Post (Uh fr cs) w
section
variable {P0 P:Ug}{Post:U->F->Prop}
def Qb{w u w' d:F}(h:rY w u w' d)(e:u.heap=w.heap):d.heap=w'.heap:=by
 apply Array.ext_getElem?;intro b;rcases h.un.cases b with c|⟨c,i,f,g⟩
 ·exact c
 ·rw[(h.keep b c).2,e,(h.keep b c).1,c]
def Qc{w u g u1 i u2:F}(h1:rY w u g u1)(h:rY w u i u2)(e:g.heap=i.heap):u1.heap=u2.heap:=by
 apply Array.ext_getElem?;intro b;by_cases c:g.heap[b]? =I pz
 ·rw[(h1.keep b c).2,(h.keep b (by rw[<-e];exact c)).2]
 ·rcases h1.un.cases b with d|⟨d,_⟩
  ·rcases h.un.cases b with f|⟨f,_⟩
   ·rw[d,f,e]
   ·exact absurd (by rw[e];exact f) c
  ·exact absurd d c
def rY.same{w u w' g:F}(h:rY w u w' g)(i:Un w u){b:Nat}(e:w'.heap[b]? =w.heap[b]?):g.heap[b]? =u.heap[b]? :=by
 by_cases f:w'.heap[b]? =I pz
 ·exact(h.keep b f).2
 ·rcases h.un.cases b with c|⟨c,_⟩
  ·rcases i.cases b with d|⟨d,_⟩
   ·rw[c,d,e]
   ·exact absurd (e.trans d) f
  ·exact absurd c f
structure Mk(P0:Ug)(ws w:F):Prop where
 un:Un ws w
 hp:Hp (bk P0) ws
 at_:∀(b:Nat) o,w.heap[b]? =I o->bk P0 o->ws.heap[b]? =I o
def D7(P0:Ug)(w:F):∃ws,Mk P0 ws w:=by
 obtain⟨ws,c,d,-,-,e⟩:=Pj P0 w;exact⟨ws,c,d,e⟩
section
variable {b:Uu}{a:V7}{k:List WO}{cs:List Uu}{w:F}
def S4 (P0 P:Ug)(Post:U->F->Prop)(b:Uu)(k:List WO)(cs:List Uu)(w':F):Exit->V7->Prop
 | .normal,a=>Fi P0 P Post (b.at a k) cs w'
 | .exit id,a=>∀d,Yi id k=I d->Fi P0 P Post (b.at a d) cs w'
 | .ret,a=>∀c,Fi P0 P Post {b.at a c with mode:=.returning} cs w'
 | .panic e,a=>∀c,Fi P0 P Post {b.at a c with mode:=.panicking e} cs w'
 |_,_=>True
theorem yf{id:Nat}{i:WO}:∀{k k':List WO},Yi id k=I k'->i∈k'->i∈k
 | [],k',c,_=>by simp[Yi] at c
 |x::f,k',c,d=>by
  cases x<;>simp only[Yi] at c
  case inBlock e=>
   split at c
   ·cases c;exact List.mem_cons_of_mem _ d
   ·exact List.mem_cons_of_mem _ (yf c d)
  all_goals exact List.mem_cons_of_mem _ (yf c d)
def Ir(h:Twins P0 P){c:WX}{Q:F->Exit->V7->F->Prop}(E:∀ws,Mk P0 ws w->∀o,c.wp P0 (Q ws) a (sh o 0 ws))(y:∀s,Item.code (.refuse s)∉k)(C:∀ws id a w,Q ws (.exit id) a w->Yi id k≠K)(D:∀ws l a w,¬Q ws (.goto l) a w)(G:∀ws a w,¬Q ws .outgrown a w)
 (B:∀ws e a' z w' o d,Mk P0 ws w->Q ws e a' (sh o d z)->rY ws w z w'->Sm w w'->S4 P0 P Post b k cs w' e a'):Fi P0 P Post (b.at a (.code c::k)) cs w:=by
 intro J _;obtain⟨ws,m⟩:=D7 P0 w;refine sY (aF:=[]) h (Stop:=λq aF w'=>aF=[]/\∃e a',Q ws e a' w'/\(match e with
  | .normal=>q=b.at a' k
  | .exit id=>∃j,Yi id k=I j/\q=b.at a' j
  | .ret=>∃g,q= {b.at a' g with mode:=.returning}
  | .panic p=>∃g,q= {b.at a' g with mode:=.panicking p}
  |_=>False)) (λq aF w' n=>?_) J m.hp m.un (λo=>?_) (λM N w' L n u A H=>?_)
 ·obtain⟨_,e,a',i,f⟩:=n;rintro⟨m,s,v⟩;cases e with
  |normal=>subst f;exact y s (by simp only[Frame.at] at v;rw[v];exact Xu ..)
  |exit id=>obtain⟨j,x,rfl⟩:=f;exact y s (yf x (by simp only[Frame.at] at v;rw[v];exact Xu ..))
  |ret=>obtain⟨g,rfl⟩:=f;cases m
  |panic p=>obtain⟨g,rfl⟩:=f;cases m
  |goto l=>exact f
  |outgrown=>exact f
 ·obtain⟨e,a',w',i,t⟩:=E ws m o b k [bF];cases e with
  |normal=>exact⟨_,[],w',t,rfl,.normal,a',i,rfl⟩
  |exit id=>
   cases f:Yi id k with
   |none=>exact absurd f (C ws id a' w' i)
   |some j=>exact⟨_,[],w',t j f,rfl,.exit id,a',i,j,f,rfl⟩
  |ret=>obtain⟨g,n⟩:=t;exact⟨_,[],w',n,rfl,.ret,a',i,g,rfl⟩
  |panic p=>obtain⟨g,n⟩:=t;exact⟨_,[],w',n,rfl,.panic p,a',i,g,rfl⟩
  |goto l=>exact absurd i (D ws l a' w')
  |outgrown=>exact absurd i (G ws a' w')
 ·obtain⟨o,d,rfl,e,a',i,f⟩:=n;have r:=B ws e a' w' L o d m i A H;cases e with
  |normal=>subst f;exact r u trivial
  |exit id=>obtain⟨j,x,rfl⟩:=f;exact r j x u trivial
  |ret=>obtain⟨g,rfl⟩:=f;exact r g u trivial
  |panic p=>obtain⟨g,rfl⟩:=f;exact r g u trivial
  |goto l=>exact f.elim
  |outgrown=>exact f.elim
end
end
section
variable {P0 P:Ug}{Post:U->F->Prop}{b:Uu}{a:V7}{k:List WO}{cs:List Uu}{w:F}{ops:Array Vv}
def Px{i:Nat}{rest:List Nat}{o:Vv}{f:V2}{fn:WD}{c:WX}{args:Array U7}{ats:Array Ui}{R:WU->F->Prop}(A:b.kind= .normal)(n:ops[i]? =I o)(G:UG o (Vk ops a.tmps)=Z)(r:o.op= .call {callee:=.value (.func f),args,argTypes:=ats})
 (l:P.funcs[f]? =I fn) (m:(fn.name == "runtime.NumGoroutine")=T8) (z:fn.body=I c) (hR:∀d,AtRel w d->mj P0 P Post f (args.map a.eval) d R)
 (y:∀v w',R (.returned v) w'->Sm w w'->Fi P0 P Post (b.at (a.put o.dst v) (.inRegion ops rest::k)) cs w') (hP:∀ch w',R (.panicked ch) w'->Sm w w'->Fi P0 P Post {b.at a (.inRegion ops (i::rest)::k) with mode:=.panicking ch} cs w') (B:∀w',¬R .outgrown w'):Fi P0 P Post (b.at a (.inRegion ops (i::rest)::k)) cs w:=by
 intro H C;refine yK λd h=>?_;have j:fn.body.isNone=T8:=by rw[z];rfl
 have E:UN P Z (Uh (b.at a (.inRegion ops (i::rest)::k)) cs) d= .go (Uh (UZ P f (args.map a.eval) .normal) (b.at a (.inRegion ops (i::rest)::k)::cs)) d #[]:=by
  rw[stepG_enter n G (by rw[A];simp) (run_call_body r l m j)];have:listed P b.fn a o d=#[]:=by unfold listed;rw[events_call_body r l m j];exact Conc.seen_none P _
  rw[this]
 have D:xH P0 d:=by obtain⟨x,rfl⟩:=h;exact C
 have t:Sm w d:=by obtain⟨x,rfl⟩:=h;exact⟨rfl,rfl,rfl,T9 _⟩
 refine⟨_,_,_,E,rfl,⟨T9 _,rfl,rfl,rfl,λJ=>J,λe g=>by simp at g⟩,?_⟩;refine hR d h _ cs H ⟨rfl,.inl ⟨ops,i,rest,k,rfl⟩⟩ D λe w' g s u p=>?_;cases e with
 |returned v=>
  have:=y v w' g (t.trans u);have e:=XI b a ops i rest k v;rw[n] at e;have q:eO P0 ((b.at a (.inRegion ops (i::rest)::k)).finish v) []:=p;rw[e] at q;show tS P0 P Post (Uh ((b.at a (.inRegion ops (i::rest)::k)).finish v) cs) w';rw[e];exact this q s
 |panicked ch=>exact hP ch w' g (t.trans u) p s
 |outgrown=>exact absurd g (B w')
def Gh{fr:Uu}{v:U}(j:P.inits.idxOf? fr.fn=K)(m:∀s d,fr.leaving P (sh s d w) (.returned v))(i:∀c,AtRel w c->∀fn,P.funcs[fr.fn]? =I fn->∀e∈((UY fn fr.tmps).runT P c #[]).2,zU c.heap.size e)(o:∀c,AtRel w c->Post v c):tS P0 P Post (Uh fr []) w:=by
 refine Py λc r=>?_;obtain⟨d,rfl⟩:=r;obtain⟨n,h,l,fn,g,p⟩:=m w.tape d;have q:(UY fn fr.tmps).run P (w.at d)= .ok v (w.at d):=p;have f:=i (w.at d) ⟨d,rfl⟩ fn g;rw[Ye] at f;refine⟨v,seen P fr.fn ((UY fn fr.tmps).events P (w.at d) #[]),?_,EH f,o _ ⟨d,rfl⟩⟩;simp[Uh,UN,Yj,n,h,g,Xb,l,j,WS,q]
end
end Cc
namespace Rl
section
variable {G:mo}
def fA:Nat->U->Bool
 |_,.bool _|_,.int _ _|_,.string _|_,.pointer K|_,.slice K _ _|_,.map K|_,.chan K|_,.nilFunc|_,.nilIface=>Z
 |n+1,.iface _ v=>fA n v
 |n+1,.agg a|n+1,.tuple a=>a.toList.all (fA n)
 |_,_=>T8
theorem qQ:∀(n:Nat) {ρ:aT G} (v:U),fA n v=Z->ax ρ v v
 |n,ρ,v,a=>by
  cases v with
  |bool c=>exact .bool c
  |int e d=>exact .int e d
  |string s=>exact .string s
  |pointer b=>cases b with
   |none=>exact .dg
   |some b=>cases n<;>simp[fA] at a
  |slice b m l=>cases b with
   |none=>exact .jW _ _
   |some b=>cases n<;>simp[fA] at a
  |map g=>cases g with
   |none=>exact .kF
   |some b=>cases n<;>simp[fA] at a
  |chan g=>cases g with
   |none=>exact .iN
   |some b=>cases n<;>simp[fA] at a
  |nilFunc=>exact .nilFunc
  |nilIface=>exact .nilIface
  |float e c=>cases n<;>simp[fA] at a
  |complex e b c=>cases n<;>simp[fA] at a
  |func f o p=>cases n<;>simp[fA] at a
  |iface k v=>cases n with
   |zero=>simp[fA] at a
   |succ n=>exact .iface k (qQ n v (by simpa [fA] using a))
  |agg h=>cases n with
   |zero=>simp[fA] at a
   |succ n=>exact .agg Y (λd i j=>qQ n _ (by
    simp only[fA] at a;exact UA.1 a _ (by simp)))
  |tuple h=>cases n with
   |zero=>simp[fA] at a
   |succ n=>exact .tuple Y (λd i j=>qQ n _ (by
    simp only[fA] at a;exact UA.1 a _ (by simp)))
def dy (G:mo):U7->Bool
 | .tmp _=>Z
 | .const v=>fA 6 v
 | .global _=>T8
 | .func f=>G.b f
def yg (P:Ug)(b:Builtin)(c:Array Ui):Bool:=
 match b with
 | .append=>match c[1]? with
  |some a=>(match P.underlying a with|some (.int _)=>T8|_=>Z)
  |none=>Z
 | .copy| .len| .recover| .unsafeString=>Z
 |_=>T8
def lH (P:Ug)(ρ:aT G)(k:Target)(l:Target):Prop:=∀a:Target->Target->Prop,(∀{f h:Fn} (m:nG ρ f h) {d e:Array U} (j:bf ρ d e),a (.fn f d) (.fn h e))->(a .nil .nil)->(∀(b:Builtin) (c:Array Ui) (i:Ui) (g:Array Bool) (j:yg P b c=Z),a (.builtin b c i g) (.builtin b c i g))->a k l
def lH.fn{P:Ug}{ρ:aT G}{f f':Fn}(d:nG ρ f f'){c a:Array U}(h:bf ρ c a):lH P ρ (.fn f c) (.fn f' a):=λe b g i=>b d h
def lH.nil{P:Ug}{ρ:aT G}:lH P ρ .nil .nil:=λb c a d=>a
def lH.builtin{P:Ug}{ρ:aT G}(b:Builtin)(a:Array Ui)(t:Ui)(cs:Array Bool)(h:yg P b a=Z):lH P ρ (.builtin b a t cs) (.builtin b a t cs):=λd e f c=>c b a t cs h
def lH.ind{P:Ug}{ρ:aT G}{e:∀(a:Target) (d:Target),lH P ρ a d->Prop}(fn:∀{f f':Fn} (i:nG ρ f f') {c j:Array U} (h:bf ρ c j),e _ _ (lH.fn i h))(nil:e _ _ (lH.nil))(builtin:∀(b:Builtin) (g:Array Ui) (t:Ui) (cs:Array Bool) (h:yg P b g=true),e _ _ (lH.builtin b g t cs h)){a:Target}{d:Target}(h:lH P ρ a d):e a d h:=(h (λa d=>lH P ρ a d/\∀h,e a d h) (λ{f} {f'} i {c} {j} h=>⟨lH.fn i h,λ_=>fn i h⟩) (⟨lH.nil,λ_=>nil⟩) (λb g t cs h=>⟨lH.builtin b g t cs h,λ_=>builtin b g t cs h⟩)).2 h
structure xD(P:Ug)(ρ:aT G)(d d':Wl):Prop where
 target:lH P ρ d.target d'.target
 args:bf ρ d.args d'.args
def iH (P:Ug)(ρ:aT G)(i:Next)(j:Next):Prop:=∀a:Next->Next->Prop,(∀{v e:U} (d:ax ρ v e),a (.value v) (.value e))->(a .skip .skip)->(∀(f:V2) (k:G.b f=Z) {g h:Array U} (d:bf ρ g h),a (.enter f g) (.enter f h))->(∀{b c:Wl} (d:xD P ρ b c),a (.defer b) (.defer c))->(a .recover .recover)->a i j
def iH.value{P:Ug}{ρ:aT G}{v a:U}(h:ax ρ v a):iH P ρ (.value v) (.value a):=λc b d e f g=>b h
def iH.skip{P:Ug}{ρ:aT G}:iH P ρ .skip .skip:=λb c a d e f=>a
def iH.enter{P:Ug}{ρ:aT G}(f:V2)(c:G.b f=Z){vs a:Array U}(h:bf ρ vs a):iH P ρ (.enter f vs) (.enter f a):=λd e g b i j=>b f c h
def iH.defer{P:Ug}{ρ:aT G}{d a:Wl}(h:xD P ρ d a):iH P ρ (.defer d) (.defer a):=λc e f g b i=>b h
def iH.recover{P:Ug}{ρ:aT G}:iH P ρ .recover .recover:=λb c d e f a=>a
def iH.ind{P:Ug}{ρ:aT G}{a:∀(b:Next) (c:Next),iH P ρ b c->Prop}(value:∀{v j:U} (h:ax ρ v j),a _ _ (iH.value h))(skip:a _ _ (iH.skip))(enter:∀(f:V2) (e:G.b f=true) {vs g:Array U} (h:bf ρ vs g),a _ _ (iH.enter f e h))(defer:∀{d i:Wl} (h:xD P ρ d i),a _ _ (iH.defer h))(recover:a _ _ (iH.recover)){b:Next}{c:Next}(h:iH P ρ b c):a b c h:=(h (λb c=>iH P ρ b c/\∀h,a b c h) (λh=>⟨iH.value h,λ_=>value h⟩) (⟨iH.skip,λ_=>skip⟩) (λf e {vs} {g} h=>⟨iH.enter f e h,λ_=>enter f e h⟩) (λh=>⟨iH.defer h,λ_=>defer h⟩) (⟨iH.recover,λ_=>recover⟩)).2 h
section
variable {P P':Ug}{ρ:aT G}
def bf.two{vs d:Array U}(h:bf ρ vs d):(∃a b a' b',vs=#[a,b]/\d=#[a',b']/\ax ρ a a'/\ax ρ b b')\/(vs.size≠2/\d.size≠2):=by
 by_cases c:vs.size=2
 ·have e:d.size=2:=by rw[<-h.1];exact c
  obtain⟨f⟩:=vs;obtain⟨g⟩:=d;simp at c e
  match f,g,c,e,h with
  | [a,b],[a',b'],_,_,h=>exact .inl ⟨a,b,a',b',rfl,rfl,h.2 0 (by simp) (by simp),h.2 1 (by simp) (by simp)⟩
 ·exact .inr ⟨c,by rw[<-h.1];exact c⟩
theorem vN:∀(n:Nat) {ρ:aT G} {a a':UK} (b:ByteArray),cO ρ a a'->aq P P' (iZ (α:=ByteArray)) ρ (loadBytes a b n) (loadBytes a' b n)
 |0,ρ,a,a',b,c=>.aC Y
 |n+1,ρ,a,a',b,c=>by
  unfold loadBytes;refine .load c (λv g d=>?_);cases d using ax.ind with
  |int e f=>
   cases e<;>first|exact aq.stuck|exact vN n _ (c.add 1)
  |_=>exact aq.stuck
def Nb(L:Alike G P P')(t:Ui):aq P P' (iZ (α:=Ui)) ρ (elemOf t) (elemOf t):=by
 unfold elemOf;refine(aU L.S t).bindM (λe b d c a=>?_);obtain⟨rfl,-⟩:=a;cases b<;>first|exact .aC rfl|exact aq.stuck
def Ar(L:Alike G P P'){a a':UK}(u:Ui)(n:Nat)(h:cO ρ a a'):aq P P' (iZ (α:=Bool)) ρ (variablesAt a u n) (variablesAt a' u n):=by
 unfold variablesAt;refine .asks ?_;refine(oI h.1).bindM (λg c f d b=>?_);cases b;cases c with
 |none=>exact .aC Y
 |some e=>dsimp only;rw[L.jm,L.depth,L.cells,<-h.2.1];exact .aC Y
def yY(L:Alike G P P')(c:Array Ui)(t:Ui){vs e:Array U}(h:bf ρ vs e):aq P P' ax ρ (Builtin.unsafeString_ c t vs) (Builtin.unsafeString_ c t e):=by
 unfold Builtin.unsafeString_;rcases h.two with⟨n,p,o,q,rfl,rfl,b,k⟩|⟨g,i⟩
 ·cases b using ax.ind with
  |dg=>
   refine(oG k).bindM (λC A B d a=>?_);cases a;cases c[0]? with
   |none=>exact aq.stuck
   |some m=>
    dsimp only
    split
    ·exact uK L _ (by simp) (by simp) (by simp)
    ·split
     ·exact fJ
     ·split
      ·exact .aC (.string _)
      ·exact eG L.S _ (by simp) (by simp) (by simp)
  |ptr b=>
   refine(oG k).bindM (λC A B d a=>?_);cases a;cases c[0]? with
   |none=>exact aq.stuck
   |some m=>
    dsimp only
    split
    ·exact uK L _ (by simp) (by simp) (by simp)
    ·split
     ·exact fJ
     ·split
      ·exact .aC (.string _)
      ·refine(Nb L m).bindM (λI v D l a=>?_);cases a;refine(Ar L v _ (b.mono (d.trans l))).bindM (λJ r u w a=>?_);cases a;have j:=b.mono (d.trans (l.trans w))
       split
       ·refine(vN _ _ j).bindM (λK s H x a=>?_);cases a;exact .freeze (j.mono x) (.pure (.string _))
       ·exact aq.dB
  |_=>exact aq.stuck
 ·obtain⟨y⟩:=vs;obtain⟨z⟩:=e;have f:=h.1;simp only[List.size_toArray] at f g i;rcases y with _|⟨n,_|⟨p,_|⟨r,E⟩⟩⟩<;>rcases z with _|⟨o,_|⟨q,_|⟨u,F⟩⟩⟩<;>first|exact aq.stuck|(exfalso;simp at f;done)|(exfalso;simp at g;done)|(exfalso;simp at i;done)
def cL{s s':Wv U}(h:aq P P' ax ρ s s'):aq P P' (iH P) ρ (do pure (.value (<-s))) (do pure (.value (<-s'))):=h.bindM (λ_ _ _ _ h=>.aC (.value h))
def yX{s s':Wv Unit}(h:aq P P' (iZ (α:=Unit)) ρ s s'):aq P P' (iH P) ρ (do s;pure .skip) (do s';pure .skip):=h.bindM (λ_ _ _ _ _=>.aC .skip)
def J6(L:Alike G P P')(b:Builtin)(a:Array Ui)(t:Ui)(cs:Array Bool)(c:yg P b a=Z){vs d:Array U}(h:bf ρ vs d):aq P P' (iH P) ρ (builtin b a t cs vs) (builtin b a t cs d):=by
 unfold builtin;cases b<;>first
  |(simp[yg] at c;done)
  |exact cL (RA L a t h)
  |exact cL (SG L a t h)
  |exact cL (yY L a t h)
  |exact .aC .recover
  |(refine cL (M9 L a t (λi f g e=>?_) h);simp only[yg,f,e] at c;cases c)
def Gm(L:Alike G P P')(f:V2)(d:G.b f=Z){vs e:Array U}(h:bf ρ vs e):aq P P' (iH P) ρ (callFunc f vs) (callFunc f e):=by
 unfold callFunc;obtain⟨j,b,g,i⟩:=L.QX f d;refine .asks ?_;have a:=L.Ra f;rw[b] at a;cases c:P'.funcs[f]? with
 |none=>rw[c] at a;simp at a
 |some k=>
  rw[c] at a;simp only[V4,U9,Prod.mk.injEq] at a;rw[b];dsimp only;rw[a.1,i,a.2,g];exact .aC (.enter f d h)
def En(L:Alike G P P'){t b:Target}(j:lH P ρ t b){vs c:Array U}(h:bf ρ vs c):aq P P' (iH P) ρ (invoke t vs) (invoke b c):=by
 unfold invoke;cases j using lH.ind with
 |nil=>exact eG L.S _ (by simp) (by simp) (by simp)
 |builtin d k t e g=>exact J6 L d k t e g h
 |fn a i=>
  cases a using nG.ind with
  |func f a=>exact Gm L f a (h.append i)
def yh (G:mo)(P:Ug)(c:Call):Bool:=
 c.args.toList.all (dy G)&&match c.callee with
  | .builtin a=>yg P a c.argTypes
  | .value f=>dy G f
  | .invoke _ _=>T8
def Hi{e e':U7->U}(b:∀x,dy G x=Z->ax ρ (e x) (e' x))(a:Array U7)(h:a.toList.all (dy G)=Z):bf ρ (a.map e) (a.map e'):=by
 refine⟨by simp,λf c d=>?_⟩;simp only[Array.getElem_map];exact b _ (UA.1 h _ (by simp))
def A8{e e':U7->U}(i:∀x,dy G x=Z->ax ρ (e x) (e' x))(c:Call)(t:Ui)(h:yh G P c=Z):aq P P' (xD P) ρ (X7 e c t) (X7 e' c t):=by
 unfold X7;unfold yh at h;rw[Ux] at h;have g:=Hi i c.args h.1;have a:=h.2;cases d:c.callee with
 |builtin j=>
  rw[d] at a;exact .aC ⟨.builtin j _ t _ a,g⟩
 |value f=>
  rw[d] at a;have b:=i f a;dsimp only;unfold XP;generalize e f=x at b;generalize e' f=p at b;cases b using ax.ind with
  |func b k a l m=>exact .aC ⟨.fn b ⟨l,m⟩,bf.append ⟨k,a⟩ g⟩
  |nilFunc=>exact .aC ⟨.nil,g⟩
  |_=>exact aq.stuck
 |invoke o n=>rw[d] at a;cases a
end
end
section
variable {G:mo}
def yA (P:Ug)(t:Ui):Bool:=match P.underlying t with|some (.int _)=>Z|_=>T8
def Im (P:Ug)(t:Ui):Bool:=match P.underlying t with|some (.map a _)=>plainKey P 10000 a|_=>Z
def fQ (G:mo)(P:Ug):Op->Bool
 | .move a| .assign a| .box _ a| .load _ a| .nilCheck a| .unOp _ _ a| .makeInterface _ a| .fieldAddr _ a _| .field _ a _| .extract a _| .panic a=>dy G a
 | .pick c b h=>dy G c&&dy G b&&dy G h
 | .alloc _=>Z
 | .build _ g| .buildSlice _ _ g=>g.toList.all λo=>dy G o.2
 | .store _ b v| .binOp _ _ b v _| .makeSlice _ b v| .indexAddr _ b v| .index _ b v=>dy G b&&dy G v
 | .convert s j a=>dy G a&&yA P s&&yA P j
 | .makeFunc k first i=>(match k with| .func f=>G.b f|_=>T8)&&first.toList.all (dy G)&&i.toList.all (dy G)
 | .makeMap _ p=>p.toList.all (dy G)
 | .slice _ a n l m=>dy G a&&n.toList.all (dy G)&&l.toList.all (dy G)&&m.toList.all (dy G)
 | .lookup d b v _=>Im P d&&dy G b&&dy G v
 | .mapUpdate d m e v| .insert d m e v=>Im P d&&dy G m&&dy G e&&dy G v
 | .call c| .defer c=>yh G P c
 |_=>T8
section
variable {P P':Ug}{ρ:aT G}
def J7(L:Alike G P P')(s d:Ui){v f:U}(b:yA P s=Z)(a:yA P d=Z)(h:ax ρ v f):aq P P' ax ρ (convert s d v) (convert s d f):=by
 unfold convert;refine(aU L.S s).bindM (λn g l j c=>?_);obtain⟨rfl,c⟩:=c;refine(aU L.S d).bindM (λo i m k e=>?_);obtain⟨rfl,e⟩:=e;unfold yA at b a;rw[c] at b;rw[e] at a;cases g<;>first|(simp at b;done)|skip
 cases i<;>first|(simp at a;done)|skip
 cases h using ax.ind<;>first|exact .aC (.int _ _)|exact aq.dB
def qM{e e':U7->U}(a:∀x,dy G x=Z->ax ρ (e x) (e' x))(o:Option U7)(h:o.toList.all (dy G)=Z):eu ρ (o.map e) (o.map e'):=by
 cases o with
 |none=>exact .none
 |some x=>exact .some (a x (by simpa using h))
def A3{e e':U7->U}(a:∀x,dy G x=Z->ax ρ (e x) (e' x))(ps:Array (Nat×U7))(h:(ps.toList.all λp=>dy G p.2)=Z):ia ρ (ps.map fun(i,x)=>(i,e x)).toList (ps.map fun(i,x)=>(i,e' x)).toList:=by
 rw[Array.toList_map,Array.toList_map];generalize ps.toList=c at h
 induction c with
 |nil=>exact .nil
 |cons p d b=>
  simp only[List.all_cons,Ux] at h;exact .cons p.1 (a _ h.1) (b h.2)
def yC{t:Ui}(h:Im P t=Z):∀a b,P.underlying t=I (.map a b)->plainKey P 10000 a=Z:=by
 intro a b c;unfold Im at h;rw[c] at h;exact h
def RB(L:Alike G P P')(o:Vv){e e':U7->U}(a:fQ G P o.op=Z)(b:∀x,dy G x=Z->ax ρ (e x) (e' x))(I:∀x,o.op= .panic x->(∃t v,e x= .iface t v)\/e x=Vl):aq P P' (iH P) ρ (UI e o) (UI e' o):=by
 unfold UI;cases c:o.op with
 |move x=>rw[c] at a;exact .aC (.value (b x a))
 |assign x=>rw[c] at a;exact .aC (.value (b x a))
 |pick i g h=>
  rw[c] at a;simp only[fQ,Ux] at a;refine(Na (b i a.1.1)).bindM (λA x q j H=>?_);cases H;cases x
  ·exact .aC (.value ((b h a.2).mono j))
  ·exact .aC (.value ((b g a.1.2).mono j))
 |alloc t=>exact cL (PJ L t)
 |box t x=>rw[c] at a;exact cL (SF t (b x a))
 |build t z=>rw[c] at a;exact cL (PL L t (A3 b z a))
 |buildSlice t K z=>rw[c] at a;exact cL (Co L t K (A3 b z a))
 |load t x=>rw[c] at a;exact cL (Nf L t (b x a))
 |store t g v=>
  rw[c] at a;simp only[fQ,Ux] at a;exact yX (Kg L t (b g a.1) (b v a.2))
 |nilCheck x=>
  rw[c] at a;have d:=b x a;dsimp only;generalize e x=v at d;generalize e' x=C at d;have B:=d;cases d using ax.ind with
  |dg=>exact eG L.S _ (by simp) (by simp) (by simp)
  |nilIface=>exact eG L.S _ (by simp) (by simp) (by simp)
  |nilFunc=>exact eG L.S _ (by simp) (by simp) (by simp)
  |func a Q R S T=>
   cases a using nG.ind with
   |func f O=>exact .aC (.value B)
  |_=>exact .aC (.value B)
 |binOp p t x q V=>
  rw[c] at a;simp only[fQ,Ux] at a;exact cL ((J8 L p t x q (b x a.1) (b q a.2)).bindM (λA _ _ j _=>PK L p t ((b x a.1).mono j) ((b q a.2).mono j)))
 |unOp p t x=>rw[c] at a;exact cL (PU p (b x a))
 |convert s r x=>
  rw[c] at a;simp only[fQ,Ux] at a;exact cL (J7 L s r a.1.2 a.2 (b x a.1.1))
 |makeInterface t x=>rw[c] at a;exact cL (wP L t (b x a))
 |makeFunc F first D=>
  rw[c] at a;simp only[fQ,Ux] at a;have u:=Hi b first a.1.2
  have w:=Hi b D a.2;cases F with
  |func f=>exact cL (.aC (.func (.func f a.1.1) u.1 u.2 w.1 w.2))
  |_=>exact absurd a.1.1 (by simp)
 |makeMap t N=>rw[c] at a;exact cL (Ke L t (qM b N a))
 |makeSlice t g h=>
  rw[c] at a;simp only[fQ,Ux] at a;exact cL (Eo L t (b g a.1) (b h a.2))
 |slice t x J d m=>
  rw[c] at a;simp only[fQ,Ux] at a;exact cL (Kf L t (b x a.1.1.1) (qM b J a.1.1.2) (qM b d a.1.2) (qM b m a.2))
 |fieldAddr t x l=>rw[c] at a;exact cL (Ka L t (b x a) l)
 |field t x l=>rw[c] at a;exact cL (PM L t (b x a) l)
 |indexAddr t g h=>
  rw[c] at a;simp only[fQ,Ux] at a;exact cL (Kb L t (b g a.1) (b h a.2))
 |index t g h=>
  rw[c] at a;simp only[fQ,Ux] at a;exact cL (PR L t (b g a.1) (b h a.2))
 |lookup t g h M=>
  rw[c] at a;simp only[fQ,Ux] at a;exact cL (Ng L t M (yC a.1.1) (b g a.1.2) (b h a.2))
 |mapUpdate t m y v=>
  rw[c] at a;simp only[fQ,Ux] at a;exact yX (vP L t (yC a.1.1.1) (b m a.1.1.2) (b y a.1.2) (b v a.2))
 |insert t m y v=>
  rw[c] at a;simp only[fQ,Ux] at a;exact yX (vP L t (yC a.1.1.1) (b m a.1.1.2) (b y a.1.2) (b v a.2))
 |extract x l=>rw[c] at a;exact cL (J9 (b x a) l)
 |call i=>
  rw[c] at a;exact(A8 b i o.type a).bindM (λA r E _ n=>En L n.target n.args)
 |defer i=>
  rw[c] at a;exact(A8 b i o.type a).bindM (λA r E _ n=>.aC (.defer n))
 |panic x=>
  rw[c] at a;have d:=b x a;dsimp only;rcases I x c with⟨t,v,k⟩|k
  ·rw[k] at d ⊢;generalize e' x=C at d;cases d using ax.ind with
   |iface t k=>exact aq.halt (.panic (.iface t k))
  ·rw[k] at d ⊢;generalize e' x=C at d;unfold Vl at d ⊢;cases d using ax.ind with
   |tuple u w=>exact aq.stuck
 |_=>rw[c] at a;simp[fQ] at a
end
end
section
variable {G:mo}
def qH:Op->Bool
 | .panic _=>Z
 |_=>T8
def oC (ops:Array Vv)(a b:Nat):Bool:=
 match ops[b]? with
 |some d=>match d.op with
  | .panic g=>match ops[a]? with
   |some c=>(match c.op,c.dst,g with| .makeInterface _ _,I e,.tmp f=>e==f|_,_,_=>T8)&&c.guard.isNone
   |none=>T8
  |_=>Z
 |none=>Z
def kO (ops:Array Vv):List Nat->Bool
 |a::b::c=>oC ops a b&&kO ops (b::c)
 |_=>Z
def Ip (ops:Array Vv)(i:Nat):Bool:=match ops[i]? with|some a=> !qH a.op|none=>Z
def mI (G:mo)(P:Ug)(ops:Array Vv)(b:Bool):Bool:=
 (ops.toList.all λa=>fQ G P a.op)&&if b then ops.toList.all (λa=> !qH a.op) else kO ops (UL ops.size)&&Ip ops 0
def cE (G:mo)(P:Ug):WX->Bool
 | .region _ e d=>mI G P e d
 | .seq a b=>cE G P a&&cE G P b
 | .cond c a b=>dy G c&&cE G P a&&cE G P b
 | .block _ a| .loop a| .scope a=>cE G P a
 | .skip| .exit _| .label _| .ret=>Z
 | .rangeFunc _ _ _ _| .goto _| .refuse _=>T8
def bY (G:mo)(P:Ug)(h:WO):Prop:=∀b:WO->Prop,(∀(a:WX) (c:cE G P a=Z),b (.code a))->(∀(f:Nat),b (.inBlock f))->(∀(a:WX) (c:cE G P a=Z),b (.inLoop a))->(∀(a:WX) (c:cE G P a=Z),b (.inScope a))->(∀(d:Array Vv) (e:List Nat) (c:(d.toList.all λg=>fQ G P g.op)=Z) (i:kO d e=Z),b (.inRegion d e))->b h
def bY.code{G:mo}{P:Ug}(c:WX)(h:cE G P c=Z):bY G P (.code c):=λb a d e f g=>a c h
def bY.inBlock{G:mo}{P:Ug}(i:Nat):bY G P (.inBlock i):=λb c a d e f=>a i
def bY.inLoop{G:mo}{P:Ug}(c:WX)(h:cE G P c=Z):bY G P (.inLoop c):=λb d e a f g=>a c h
def bY.inScope{G:mo}{P:Ug}(c:WX)(h:cE G P c=Z):bY G P (.inScope c):=λb d e f a g=>a c h
def bY.inRegion{G:mo}{P:Ug}(ops:Array Vv)(todo:List Nat)(h:(ops.toList.all λo=>fQ G P o.op)=Z)(hc:kO ops todo=Z):bY G P (.inRegion ops todo):=λb c d e f a=>a ops todo h hc
def bY.ind{G:mo}{P:Ug}{a:∀(b:WO),bY G P b->Prop}(code:∀(c:WX) (h:cE G P c=true),a _ (bY.code c h))(inBlock:∀(i:Nat),a _ (bY.inBlock i))(inLoop:∀(c:WX) (h:cE G P c=true),a _ (bY.inLoop c h))(inScope:∀(c:WX) (h:cE G P c=true),a _ (bY.inScope c h))(inRegion:∀(ops:Array Vv) (todo:List Nat) (h:(ops.toList.all λo=>fQ G P o.op)=true) (hc:kO ops todo=true),a _ (bY.inRegion ops todo h hc)){b:WO}(h:bY G P b):a b h:=(h (λb=>bY G P b/\∀h,a b h) (λc h=>⟨bY.code c h,λ_=>code c h⟩) (λi=>⟨bY.inBlock i,λ_=>inBlock i⟩) (λc h=>⟨bY.inLoop c h,λ_=>inLoop c h⟩) (λc h=>⟨bY.inScope c h,λ_=>inScope c h⟩) (λops todo h hc=>⟨bY.inRegion ops todo h hc,λ_=>inRegion ops todo h hc⟩)).2 h
def Dd (G:mo)(P:Ug)(l:List WO):Prop:=∀a∈l,bY G P a/\∀b c,a≠.inRegion b c
def rX (G:mo)(P:Ug):List WO->Prop
 | []=>True
 |i::a=>bY G P i/\Dd G P a
structure IZ(ρ:aT G)(p p':Vs):Prop where
 v:ax ρ p.v p'.v
 r:p.recovered=p'.recovered
 g:p.goexit=p'.goexit
def iV (ρ:aT G)(f:List Vs)(g:List Vs):Prop:=∀a:List Vs->List Vs->Prop,(a [] [])->(∀{d e:Vs} {b c:List Vs} (h:IZ ρ d e) (i:a b c),a (d::b) (e::c))->a f g
def iV.nil{ρ:aT G}:iV ρ [] []:=λb a c=>a
def iV.cons{ρ:aT G}{p c:Vs}{l b:List Vs}(h:IZ ρ p c)(f:iV ρ l b):iV ρ (p::l) (c::b):=λd e a=>a h (f d e a)
def iV.ind{ρ:aT G}{d:∀(a:List Vs) (b:List Vs),iV ρ a b->Prop}(nil:d _ _ (iV.nil))(cons:∀{p f:Vs} {l e:List Vs} (h:IZ ρ p f) (c:iV ρ l e),(d _ _ c)->d _ _ (iV.cons h c)){a:List Vs}{b:List Vs}(h:iV ρ a b):d a b h:=(h (λa b=>iV ρ a b/\∀h,d a b h) (⟨iV.nil,λ_=>nil⟩) (λh c=>⟨iV.cons h c.1,λ_=>cons h c.1 (c.2 _)⟩)).2 h
def gA (ρ:aT G)(d:FrameMode)(e:FrameMode):Prop:=∀a:FrameMode->FrameMode->Prop,(a .run .run)->(a .returning .returning)->(∀{b c:List Vs} (f:iV ρ b c),a (.panicking b) (.panicking c))->a d e
def gA.run{ρ:aT G}:gA ρ .run .run:=λb a c d=>a
def gA.returning{ρ:aT G}:gA ρ .returning .returning:=λb c a d=>a
def gA.panicking{ρ:aT G}{c a:List Vs}(h:iV ρ c a):gA ρ (.panicking c) (.panicking a):=λd e f b=>b h
def gA.ind{ρ:aT G}{d:∀(a:FrameMode) (b:FrameMode),gA ρ a b->Prop}(run:d _ _ (gA.run))(returning:d _ _ (gA.returning))(panicking:∀{c e:List Vs} (h:iV ρ c e),d _ _ (gA.panicking h)){a:FrameMode}{b:FrameMode}(h:gA ρ a b):d a b h:=(h (λa b=>gA ρ a b/\∀h,d a b h) (⟨gA.run,λ_=>run⟩) (⟨gA.returning,λ_=>returning⟩) (λh=>⟨gA.panicking h,λ_=>panicking h⟩)).2 h
def jb (P:Ug)(ρ:aT G)(f:List Wl)(g:List Wl):Prop:=∀a:List Wl->List Wl->Prop,(a [] [])->(∀{b c:Wl} {d e:List Wl} (h:xD P ρ b c) (i:a d e),a (b::d) (c::e))->a f g
def jb.nil{P:Ug}{ρ:aT G}:jb P ρ [] []:=λb a c=>a
def jb.cons{P:Ug}{ρ:aT G}{d b:Wl}{l c:List Wl}(h:xD P ρ d b)(g:jb P ρ l c):jb P ρ (d::l) (b::c):=λe f a=>a h (g e f a)
def jb.ind{P:Ug}{ρ:aT G}{e:∀(a:List Wl) (b:List Wl),jb P ρ a b->Prop}(nil:e _ _ (jb.nil))(cons:∀{d f:Wl} {l g:List Wl} (h:xD P ρ d f) (c:jb P ρ l g),(e _ _ c)->e _ _ (jb.cons h c)){a:List Wl}{b:List Wl}(h:jb P ρ a b):e a b h:=(h (λa b=>jb P ρ a b/\∀h,e a b h) (⟨jb.nil,λ_=>nil⟩) (λh c=>⟨jb.cons h c.1,λ_=>cons h c.1 (c.2 _)⟩)).2 h
structure cN(P:Ug)(ρ:aT G)(fr fr':Uu):Prop where
 fn:fr'.fn=fr.fn
 may:G.b fr.fn=Z
 tmps:bf ρ fr.tmps fr'.tmps
 todo:fr'.todo=fr.todo
 ok:rX G P fr.todo
 defers:jb P ρ fr.defers fr'.defers
 mode:gA ρ fr.mode fr'.mode
 kind:fr'.kind=fr.kind
 kinds:fr.kind= .normal\/fr.kind= .deferred
 round:fr.roundOf=K
 round':fr'.roundOf=K
def ff (fr:Uu):Prop:=fr.mode= .run->∀d b f e c a,fr.todo= .inRegion d (b::f)::e->d[b]? =I c->c.op= .panic a->(∃g v,fr.eval a= .iface g v)\/fr.eval a=Vl
def pI (fr:Uu):Prop:=fr.mode= .run->∃c a f e b d,fr.todo= .inRegion c (a::f)::e/\c[a]? =I b/\b.op= .call d
def dN (P:Ug)(ρ:aT G)(e:List Uu)(g:List Uu):Prop:=∀a:List Uu->List Uu->Prop,(a [] [])->(∀{f b:Uu} {c d:List Uu} (h:cN P ρ f b) (j:pI f) (i:a c d),a (f::c) (b::d))->a e g
def dN.nil{P:Ug}{ρ:aT G}:dN P ρ [] []:=λb a c=>a
def dN.cons{P:Ug}{ρ:aT G}{f f':Uu}{l b:List Uu}(h:cN P ρ f f')(g:pI f)(e:dN P ρ l b):dN P ρ (f::l) (f'::b):=λc d a=>a h g (e c d a)
def dN.ind{P:Ug}{ρ:aT G}{d:∀(a:List Uu) (b:List Uu),dN P ρ a b->Prop}(nil:d _ _ (dN.nil))(cons:∀{f f':Uu} {l g:List Uu} (h:cN P ρ f f') (e:pI f) (c:dN P ρ l g),(d _ _ c)->d _ _ (dN.cons h e c)){a:List Uu}{b:List Uu}(h:dN P ρ a b):d a b h:=(h (λa b=>dN P ρ a b/\∀h,d a b h) (⟨dN.nil,λ_=>nil⟩) (λh e c=>⟨dN.cons h e c.1,λ_=>cons h e c.1 (c.2 _)⟩)).2 h
def cZ:Uu->List Uu->Prop
 |fr,[]=>fr.kind= .normal
 |_,f::a=>cZ f a
theorem cZ.of{fr b:Uu}(h:b.kind=fr.kind):∀{l:List Uu},cZ fr l->cZ b l
 | [],a=>h.trans a
 |_::_,a=>a
section
variable {P:Ug}{ρ σ:aT G}
def lH.mono(a:ρ.le σ){t b:Target}(h:lH P ρ t b):lH P σ t b:=by
 cases h using lH.ind with
 |fn e h=>exact .fn (e.mono a) (h.mono a)
 |nil=>exact .nil
 |builtin c f t d h=>exact .builtin c f t d h
def xD.mono(a:ρ.le σ){t b:Wl}(h:xD P ρ t b):xD P σ t b:=⟨h.target.mono a,h.args.mono a⟩
def jb.mono(b:ρ.le σ){t a:List Wl}(h:jb P ρ t a):jb P σ t a:=by
 induction h using jb.ind with
 |nil=>exact .nil
 |cons h _ c=>exact .cons (h.mono b) c
def IZ.mono(b:ρ.le σ){t a:Vs}(h:IZ ρ t a):IZ σ t a:=⟨h.v.mono b,h.r,h.g⟩
def iV.mono(b:ρ.le σ){t a:List Vs}(h:iV ρ t a):iV σ t a:=by
 induction h using iV.ind with
 |nil=>exact .nil
 |cons h _ c=>exact .cons (h.mono b) c
def iV.append{a a' b b':List Vs}(h:iV ρ a a')(c:iV ρ b b'):iV ρ (a++b) (a'++b'):=by
 induction h using iV.ind with
 |nil=>exact c
 |cons h _ d=>exact .cons h d
def gA.mono(b:ρ.le σ){t a:FrameMode}(h:gA ρ t a):gA σ t a:=by
 cases h using gA.ind with
 |run=>exact .run
 |returning=>exact .returning
 |panicking h=>exact .panicking (h.mono b)
def cN.mono(a:ρ.le σ){f f':Uu}(h:cN P ρ f f'):cN P σ f f':=
 ⟨h.fn,h.may,h.tmps.mono a,h.todo,h.ok,h.defers.mono a,h.mode.mono a,h.kind,h.kinds,h.round,h.round'⟩
def dN.mono(a:ρ.le σ){f f':List Uu}(h:dN P ρ f f'):dN P σ f f':=by
 induction h using dN.ind with
 |nil=>exact .nil
 |cons h b _ c=>exact .cons (h.mono a) b c
def me:ax ρ Vl Vl:=.tuple Y (λb a=>by simp at a)
def bf.getD{x c:Array U}(h:bf ρ x c)(i:Nat):ax ρ (x.getD i Vl) (c.getD i Vl):=by
 rw[UE,UE];rcases h.get i with⟨a,b⟩|⟨v,e,a,b,d⟩
 ·rw[a,b];exact me
 ·rw[a,b];exact d
def cN.eval{f f':Uu}(h:cN P ρ f f')(x:U7)(a:dy G x=Z):ax ρ (f.eval x) (f'.eval x):=by
 cases x with
 |tmp c=>exact h.tmps.getD c
 |const v=>exact qQ 6 v a
 |global d=>cases a
 |func f=>exact .func (.func f a) Y (λb h=>by simp at h) Y (λb h=>by simp at h)
def Fb{x c:Array U}(h:bf ρ x c)(ops:Array Vv)(j:Nat):Vk ops x j=Vk ops c j:=by
 unfold Vk;cases(ops[j]?).bind (·.dst) with
 |none=>rfl
 |some e=>
  simp only[XT];rcases h.get e with⟨a,b⟩|⟨v,f,a,b,d⟩
  ·rw[a,b]
  ·rw[a,b];cases d using ax.ind<;>rfl
def Dd.todo{l:List WO}(h:Dd G P l):rX G P l:=by
 cases l with
 |nil=>trivial
 |cons b l=>exact⟨(h b (by simp)).1,λc a=>h c (by simp[a])⟩
def Dd.tail{i:WO}{l:List WO}(h:Dd G P (i::l)):Dd G P l:=λb a=>h b (by simp[a])
def Dd.cons{i:WO}{l:List WO}(b:bY G P i)(c:∀ops t,i≠.inRegion ops t)(h:Dd G P l):Dd G P (i::l):=λd a=>by
 rcases VN.1 a with rfl|a
 ·exact⟨b,c⟩
 ·exact h d a
theorem BZ{id:Nat}:∀{l k:List WO},Dd G P l->Yi id l=I k->Dd G P k
 | [],k,_,a=>by simp[Yi] at a
 |i::l,k,c,a=>by
  have b:Dd G P l:=c.tail;cases i<;>simp only[Yi] at a<;>first
   |exact BZ b a
   |(split at a
     ·cases a;exact b
     ·exact BZ b a)
def AW{fr:Uu}(h:∀ops i rest k,fr.todo≠.inRegion ops (i::rest)::k):ff fr:=λ_ ops i rest k b c a=>absurd a (h ops i rest k)
def Re{fr:Uu}{k:List WO}(h:Dd G P k):ff {fr with todo:=k}:=AW (λc b d e a=>by
 simp only at a;exact(h (.inRegion c (b::d)) (by rw[a];simp)).2 _ _ Y)
def iM{fr:Uu}(h:fr.mode≠.run):ff fr:=λa=>absurd a h
def By{fr:Uu}(h:fr.mode≠.run):pI fr:=λa=>absurd a h
end
end
section
variable {G:mo}{bu:Nat}
def cH (P:Ug)(gZ fV:List Uu)(ρ:aT G)(t:Nat)(w':F)(q:Yu)(r:Yu):Prop:=∀d:Yu->Yu->Prop,(∀(o:Outcome) (p:F) (b:Array Vn) (f:Yu),d (.ended o p b) f)->(∀{n:UM} {a:F} {b:Array Vn} {f:Yu} (s:t<a.drawn),d (.go n a b) f)->(∀{c:aT G} {h:Nat} {e j:Uu} {aF k:List Uu} {a g:F} {b i:Array Vn} (y:cN P c e j) (z:ff e) (A:dN P c aF k) (C:eL c h a g) (x:Fr ρ c w' g) (v:∀l∈i,ku c l) (u:cZ e aF) (B:a.drawn+h=t),d (.go (Uh e (aF++gZ)) a b) (.go (Uh j (k++fV)) g i))->d q r
def cH.lost{P:Ug}{gZ fV:List Uu}{ρ:aT G}{t:Nat}{w':F}(o:Outcome)(a:F)(es:Array Vn)(r:Yu):cH P gZ fV ρ t w' (.ended o a es) r:=λc b d e=>b o a es r
def cH.over{P:Ug}{gZ fV:List Uu}{ρ:aT G}{t:Nat}{w':F}{g:UM}{a:F}{es:Array Vn}{r:Yu}(h:t<a.drawn):cH P gZ fV ρ t w' (.go g a es) r:=λc d b e=>b h
def cH.go{P:Ug}{gZ fV:List Uu}{ρ:aT G}{t:Nat}{w':F}{σ:aT G}{b1:Nat}{fr fr':Uu}{aF tops':List Uu}{a w1':F}{es b:Array Vn}(h:cN P σ fr fr')(i:ff fr)(j:dN P σ aF tops')(l:eL σ b1 a w1')(g:Fr ρ σ w' w1')(f:∀e∈b,ku σ e)(d:cZ fr aF)(k:a.drawn+b1=t):cH P gZ fV ρ t w' (.go (Uh fr (aF++gZ)) a es) (.go (Uh fr' (tops'++fV)) w1' b):=λn o p c=>c h i j l g f d k
def cH.ind{P:Ug}{gZ fV:List Uu}{ρ:aT G}{t:Nat}{w':F}{d:∀(a:Yu) (b:Yu),cH P gZ fV ρ t w' a b->Prop}(lost:∀(o:Outcome) (f:F) (es:Array Vn) (r:Yu),d (.ended o f es) r (cH.lost o f es r))(over:∀{g:UM} {c:F} {es:Array Vn} {r:Yu} (h:t<c.drawn),d (.go g c es) r (cH.over h))(go:∀{σ:aT G} {b1:Nat} {fr fr':Uu} {aF tops':List Uu} {c w1':F} {es u:Array Vn} (l:cN P σ fr fr') (n:ff fr) (p:dN P σ aF tops') (s:eL σ b1 c w1') (k:Fr ρ σ w' w1') (j:∀e∈u,ku σ e) (i:cZ fr aF) (q:c.drawn+b1=t),d (.go (Uh fr (aF++gZ)) c es) (.go (Uh fr' (tops'++fV)) w1' u) (cH.go l n p s k j i q)){a:Yu}{b:Yu}(h:cH P gZ fV ρ t w' a b):d a b h:=(h (λa b=>cH P gZ fV ρ t w' a b/\∀h,d a b h) (λo f es r=>⟨cH.lost o f es r,λ_=>lost o f es r⟩) (λh=>⟨cH.over h,λ_=>over h⟩) (λl n p s k j i q=>⟨cH.go l n p s k j i q,λ_=>go l n p s k j i q⟩)).2 h
def nF (G:mo)(P P':Ug):Prop:=∀f,G.b f=Z->∃a b,P.funcs[f]? =I a/\P'.funcs[f]? =I a/\a.body=I b/\cE G P b=Z
section
variable {P P':Ug}{ρ:aT G}{gZ fV:List Uu}{w w':F}{m m':Bool}
def jj:∀e∈(#[]:Array Vn),ku ρ e:=λe a=>by simp at a
def Lz{ops:Array Vv}{k:List WO}(i:Dd G P k)(h:mI G P ops T8=Z)(fr:Uu):rX G P (.inRegion ops (UL ops.size)::k)/\ff {fr with todo:=.inRegion ops (UL ops.size)::k}:=by
 unfold mI at h;simp only[UC,if_false,Ux] at h;refine⟨⟨.inRegion _ _ h.1 h.2.1,i⟩,λ_ p j q l o r c f g=>?_⟩;simp only[Xl,XM] at c;obtain⟨⟨rfl,a⟩,-⟩:=c;have e:j=0:=by
  rw[List.range_eq_range'] at a;cases d:ops.size with
  |zero=>rw[d] at a;simp at a
  |succ n=>rw[d,List.range'_succ] at a;simp at a;omega
 have b:=h.2.2;unfold Ip at b;rw[<-e,f] at b;simp only[g,qH] at b;cases b
def ON{ops:Array Vv}{k:List WO}(o:Dd G P k)(h:mI G P ops Z=Z)(l:List Nat)(fr:Uu):rX G P (.inRegion ops l::k)/\ff {fr with todo:=.inRegion ops l::k}:=by
 unfold mI at h;simp only[if_true,Ux] at h;have f:∀(b:Nat) (a:Vv),ops[b]? =I a->qH a.op=T8:=λb a c=>by
  have:=UA.1 h.2 a (by
   have:=Uc.1 c;obtain⟨s,rfl⟩:=this;simp)
  simpa using this
 refine⟨⟨.inRegion _ _ h.1 ?_,o⟩,λ_ u b v t a x e i j=>?_⟩
 ·have:∀l,kO ops l=Z:=by
   intro l
   induction l with
   |nil=>rfl
   |cons q g p=>
    cases g with
    |nil=>rfl
    |cons d g=>
     simp only[kO,Ux];refine⟨?_,p⟩;unfold oC;cases n:ops[d]? with
     |none=>rfl
     |some a=>
      have:=f d a n;dsimp only;cases c:a.op<;>first|rfl|(rw[c] at this;simp[qH] at this)
  exact this l
 ·simp only[Xl,XM] at e;obtain⟨⟨rfl,r⟩,-⟩:=e;have:=f b a i;rw[j] at this;simp[qH] at this
def cN.NY{fr fr':Uu}(h:cN P ρ fr fr'){k:List WO}(a:rX G P k):cN P ρ {fr with todo:=k} {fr' with todo:=k}:=
 ⟨h.fn,h.may,h.tmps,rfl,a,h.defers,h.mode,h.kind,h.kinds,h.round,h.round'⟩
def IG{fr fr':Uu}{aF tops':List Uu}(b:cN P ρ fr fr')(e:dN P ρ aF tops')(f:eL ρ bu w w'){k:List WO}(d:rX G P k)(c:ff {fr with todo:=k})(a:cZ fr aF):
 cH P gZ fV ρ (w.drawn+bu) w' (.go (Uh {fr with todo:=k} (aF++gZ)) w) (.go (Uh {fr' with todo:=k} (tops'++fV)) w'):=
 .go (b.NY d) c e f (Fr.refl _ _) jj (cZ.of (by rfl) a) Y
def RM{fr fr':Uu}{aF tops':List Uu}(c:cN P ρ fr fr')(d:dN P ρ aF tops')(e:eL ρ bu w w'){k:List WO}(a:Dd G P k)(b:cZ fr aF):
 cH P gZ fV ρ (w.drawn+bu) w' (.go (Uh {fr with todo:=k} (aF++gZ)) w) (.go (Uh {fr' with todo:=k} (tops'++fV)) w'):=IG c d e a.todo (Re a) b
def EA{fr fr':Uu}(b:cN P ρ fr fr')(c:fr.mode= .run):fr'.mode= .run:=by
 have:=b.mode;rw[c] at this;cases a:fr'.mode with
 |run=>rfl
 |returning=>rw[a] at this;cases this using gA.ind
 |panicking d=>rw[a] at this;cases this using gA.ind
def Mc(R:P'.follows .mixedOrders=P.follows .mixedOrders){fr fr':Uu}{aF tops':List Uu}(c:cN P ρ fr fr')(B:dN P ρ aF tops')(p:eL ρ bu w w')(d:fr.mode= .run)(S:∀ops i r k,fr.todo≠.inRegion ops (i::r)::k)(z:cZ fr aF):
 cH P gZ fV ρ (w.drawn+bu) w' (UN P m (Uh fr (aF++gZ)) w) (UN P' m' (Uh fr' (tops'++fV)) w'):=by
 have h:=EA c d;have g:=c.todo;have F:=c.ok;have D:=c.round;have H:=c.round';have I:cH P gZ fV ρ (w.drawn+bu) w' (.go (Uh {fr with mode:=.returning} (aF++gZ)) w) (.go (Uh {fr' with mode:=.returning} (tops'++fV)) w'):=
  .go ⟨c.fn,c.may,c.tmps,c.todo,c.ok,c.defers,.returning,c.kind,c.kinds,c.round,c.round'⟩ (iM (by simp)) B p (Fr.refl _ _) jj (cZ.of (by rfl) z) Y
 cases b:fr.todo with
 |nil=>
  rw[b] at g;have j:UN P m (Uh fr (aF++gZ)) w= .go (Uh {fr with mode:=.returning} (aF++gZ)) w:=by simp[Uh,UN,UJ,d,b,D]
  have o:UN P' m' (Uh fr' (tops'++fV)) w'= .go (Uh {fr' with mode:=.returning} (tops'++fV)) w':=by simp[Uh,UN,UJ,h,g,H]
  rw[j,o];exact I
 |cons X k=>
  rw[b] at g F;obtain⟨O,l⟩:=F;have move:∀(t:List WO),Dd G P t->UN P m (Uh fr (aF++gZ)) w= .go (Uh {fr with todo:=t} (aF++gZ)) w->UN P' m' (Uh fr' (tops'++fV)) w'= .go (Uh {fr' with todo:=t} (tops'++fV)) w'->cH P gZ fV ρ (w.drawn+bu) w' (UN P m (Uh fr (aF++gZ)) w) (UN P' m' (Uh fr' (tops'++fV)) w'):=λt s j o=>by
   rw[j,o];exact RM c B p s z
  cases O using bY.ind with
  |inBlock i=>exact move k l (by simp[Uh,UN,UJ,d,b]) (by simp[Uh,UN,UJ,h,g])
  |inLoop n a=>exact move (.code n :: .inLoop n::k) (.cons (.code n a) (by simp) (.cons (.inLoop n a) (by simp) l)) (by simp[Uh,UN,UJ,d,b]) (by simp[Uh,UN,UJ,h,g])
  |inScope n a=>exact move k l (by simp[Uh,UN,UJ,d,b]) (by simp[Uh,UN,UJ,h,g])
  |inRegion ops todo a V=>
   cases todo with
   |nil=>exact move k l (by simp[Uh,UN,UJ,d,b]) (by simp[Uh,UN,UJ,h,g])
   |cons i r=>exact absurd b (S ops i r k)
  |code n a=>
   cases n with
   |skip=>exact move k l (by simp[Uh,UN,UJ,d,b]) (by simp[Uh,UN,UJ,h,g])
   |label T=>exact move k l (by simp[Uh,UN,UJ,d,b]) (by simp[Uh,UN,UJ,h,g])
   |seq e q=>
    simp only[cE,Ux] at a;exact move (.code e :: .code q::k) (.cons (.code e a.1) (by simp) (.cons (.code q a.2) (by simp) l)) (by simp[Uh,UN,UJ,d,b]) (by simp[Uh,UN,UJ,h,g])
   |block id e=>
    simp only[cE] at a;exact move (.code e :: .inBlock id::k) (.cons (.code e a) (by simp) (.cons (.inBlock id) (by simp) l)) (by simp[Uh,UN,UJ,d,b]) (by simp[Uh,UN,UJ,h,g])
   |loop e=>
    simp only[cE] at a;exact move (.code e :: .inLoop e::k) (.cons (.code e a) (by simp) (.cons (.inLoop e a) (by simp) l)) (by simp[Uh,UN,UJ,d,b]) (by simp[Uh,UN,UJ,h,g])
   |scope e=>
    simp only[cE] at a;exact move (.code e :: .inScope e::k) (.cons (.code e a) (by simp) (.cons (.inScope e a) (by simp) l)) (by simp[Uh,UN,UJ,d,b]) (by simp[Uh,UN,UJ,h,g])
   |ret=>
    have j:UN P m (Uh fr (aF++gZ)) w= .go (Uh {fr with mode:=.returning} (aF++gZ)) w:=by simp[Uh,UN,UJ,d,b,D]
    have o:UN P' m' (Uh fr' (tops'++fV)) w'= .go (Uh {fr' with mode:=.returning} (tops'++fV)) w':=by simp[Uh,UN,UJ,h,g,H]
    rw[j,o];exact I
   |exit id=>
    cases A:Yi id k with
    |some t=>exact move t (BZ l A) (by simp[Uh,UN,UJ,d,b,A]) (by simp[Uh,UN,UJ,h,g,A])
    |none=>
     have j:∃x,UN P m (Uh fr (aF++gZ)) w= .ended x w:=by simp[Uh,UN,UJ,d,b,A,D]
     obtain⟨x,j⟩:=j;rw[j];exact .lost _ _ _ _
   |cond n e q=>
    simp only[cE,Ux] at a;have u:=c.eval n a.1.1;have Q:∀v,fr.eval n=v->(∀q,v≠.bool q)->∃x,UN P m (Uh fr (aF++gZ)) w= .ended x w:=λv L u=>by
     cases v<;>first|exact absurd rfl (u _)|(simp[Uh,UN,UJ,d,b,L])
    cases C:fr.eval n with
    |bool E=>
     rw[C] at u;have N:fr'.eval n= .bool E:=by
      cases M:fr'.eval n<;>rw[M] at u<;>cases u using ax.ind;rfl
     refine move (.code (if E then e else q)::k) (.cons (.code _ ?_) (by simp) l) (by simp[Uh,UN,UJ,d,b,C]) (by simp[Uh,UN,UJ,h,g,N]);cases E
     ·exact a.2
     ·exact a.1.2
    |_=>
     obtain⟨x,j⟩:=Q _ C (by simp);rw[j];exact .lost _ _ _ _
   |region id ops K=>
    simp only[cE] at a;cases K with
    |false=>
     obtain⟨y,s⟩:=Lz l a fr;have j:UN P m (Uh fr (aF++gZ)) w= .go (Uh {fr with todo:=.inRegion ops (UL ops.size)::k} (aF++gZ)) w:=by simp[Uh,UN,UJ,d,b]
     have o:UN P' m' (Uh fr' (tops'++fV)) w'= .go (Uh {fr' with todo:=.inRegion ops (UL ops.size)::k} (tops'++fV)) w':=by simp[Uh,UN,UJ,h,g]
     rw[j,o];exact IG c B p y s z
    |true=>
     obtain⟨y,s⟩:=ON l a (X3 (P.follows .mixedOrders) ops (w.tape w.drawn (.order fr.fn id))) fr;have j:UN P m (Uh fr (aF++gZ)) w= .go (Uh {fr with todo:=.inRegion ops (X3 (P.follows .mixedOrders) ops (w.tape w.drawn (.order fr.fn id)))::k} (aF++gZ)) {w with drawn:=w.drawn+1}:=by
      simp[Uh,UN,UJ,d,b,choose,Wu,Question.forced,Question.cut]
     rw[j];cases bu with
     |zero=>exact .over (by simp)
     |succ bu=>
      have J:=p.tape 0 (.order fr.fn id) (by omega);simp only[Nat.add_zero] at J;have o:UN P' m' (Uh fr' (tops'++fV)) w'= .go (Uh {fr' with todo:=.inRegion ops (X3 (P.follows .mixedOrders) ops (w.tape w.drawn (.order fr.fn id)))::k} (tops'++fV)) {w' with drawn:=w'.drawn+1}:=by
       simp[Uh,UN,UJ,h,g,choose,Wu,Question.forced,Question.cut,R,c.fn,J]
      rw[o];refine .go (b1:=bu) (c.NY y) s B ⟨p.gl,p.gr,p.at_,λi U W=>?_⟩ ⟨aT.le.refl _,rfl,rfl,rfl,by simp,T9 _,λ_ _ _=>rfl,λ_ _ a=>.inl a,λ_ y s=>absurd s (by simp;omega)⟩ jj (cZ.of (by rfl) z) (by show w.drawn+1+bu=_;omega);have:=p.tape (1+i) U (by omega);simpa [Nat.add_assoc] using this
   |rangeFunc f Z e q=>simp[cE] at a
   |goto T=>simp[cE] at a
   |refuse aa=>simp[cE] at a
end
end
section
variable {G:mo}
section
variable {P P':Ug}{ρ:aT G}{gZ fV:List Uu}{w w':F}{m m':Bool}
def iw{σ:aT G}{fr fr':Uu}(h:cN P σ fr fr'){ops:Array Vv}{i:Nat}{rest:List Nat}{k:List WO}(b:fr.todo= .inRegion ops (i::rest)::k){v e:U}(l:ax σ v e):cN P σ (fr.finish v) (fr'.finish e):=by
 have j:=h.todo.trans b;have a:=h.ok;rw[b] at a;have d:rX G P (.inRegion ops rest::k):=by
  refine⟨?_,a.2⟩;cases a.1 using bY.ind with
  |inRegion _ _ g c=>
   refine .inRegion _ _ g ?_;cases rest with
   |nil=>rfl
   |cons n o=>simp only[kO,Ux] at c;exact c.2
 unfold VX;rw[b,j];dsimp only;cases(ops[i]?).bind (·.dst) with
 |none=>exact⟨h.fn,h.may,h.tmps,rfl,d,h.defers,h.mode,h.kind,h.kinds,h.round,h.round'⟩
 |some f=>exact⟨h.fn,h.may,h.tmps.set l f,rfl,d,h.defers,h.mode,h.kind,h.kinds,h.round,h.round'⟩
def iv{fr fr':Uu}{σ:aT G}(h:cN P σ fr fr'){ops:Array Vv}{i:Nat}{rest:List Nat}{k:List WO}(l:fr.todo= .inRegion ops (i::rest)::k){o:Vv}(g:ops[i]? =I o)(v:U)(y:∀t x,o.op= .makeInterface t x->o.guard=K->∃t v1,v= .iface t v1):ff (fr.finish v):=by
 intro _ F C H D E x c q r;have j:=h.ok;rw[l] at j;unfold VX at c ⊢;rw[l] at c ⊢;simp only[Xl,XM] at c;obtain⟨⟨rfl,s⟩,rfl⟩:=c;cases j.1 using bY.ind with
 |inRegion _ _ B d=>
  rw[s] at d;simp only[kO,Ux] at d;have b:=d.1;unfold oC at b;rw[q] at b;dsimp only at b;rw[r] at b;dsimp only at b;rw[g] at b;simp only[Ux] at b;obtain⟨a,u⟩:=b;cases f:o.op with
  |makeInterface t A=>
   rw[f] at a;cases e:o.dst with
   |none=>rw[e] at a;cases x<;>cases a
   |some p=>
    rw[e] at a;cases x with
    |tmp J=>
     simp only[beq_iff_eq] at a;subst a;obtain⟨z,v1,rfl⟩:=y t A f (by simpa using u);simp only[g,XT,e,Frame.eval];by_cases n:p<fr.tmps.size
     ·refine .inl ⟨z,v1,?_⟩;rw[UE,Array.getElem?_setIfInBounds_self_of_lt n];rfl
     ·refine .inr ?_;rw[UE,Vm (by rw[Array.size_setIfInBounds];exact Nat.le_of_not_lt n)];rfl
    |_=>cases a
  |_=>rw[f] at a;cases x<;>cases a
def PX{σ:aT G}{fn:V2}{es:Array Vn}(h:∀e∈es,ku σ e):∀e∈seen P fn es,ku σ e:=λe a=>h e (Conc.mem_seen a)
def uL{σ:aT G}{fr fr':Uu}(h:cN P σ fr fr'){c b:List Vs}(hc:iV σ c b):cN P σ (fr.raise c) (fr'.raise b):=by
 have a:=h.mode;unfold Frame.raise;generalize e:fr.mode=g at a;generalize f:fr'.mode=i at a;cases a using gA.ind with
 |run=>exact⟨h.fn,h.may,h.tmps,h.todo,h.ok,h.defers,.panicking hc,h.kind,h.kinds,h.round,h.round'⟩
 |returning=>exact⟨h.fn,h.may,h.tmps,h.todo,h.ok,h.defers,.panicking hc,h.kind,h.kinds,h.round,h.round'⟩
 |panicking d=>exact⟨h.fn,h.may,h.tmps,h.todo,h.ok,h.defers,.panicking (hc.append d),h.kind,h.kinds,h.round,h.round'⟩
def raise_mode(fr:Uu)(c:List Vs):(fr.raise c).mode≠.run:=by
 unfold Frame.raise
 split<;>simp
def uv(j:nF G P P'){σ:aT G}{f:V2}(c:G.b f=Z){vs d:Array U}(h:bf σ vs d)(kd:CallKind)(k:kd= .normal\/kd= .deferred):cN P σ (UZ P f vs kd) (UZ P' f d kd)/\ff (UZ P f vs kd):=by
 obtain⟨n,e,a,b,g,i⟩:=j f c;unfold UZ;simp only[a,b,V4,V3,XT,g];refine⟨⟨rfl,c,?_,rfl,⟨.code e i,λp l=>by simp at l⟩,.nil,.run,rfl,k,rfl,rfl⟩,AW (by simp)⟩;rw[h.1];refine h.append ⟨by simp,λo a b=>?_⟩;simp only[Array.getElem_replicate];exact me
end
end
section
variable {G:mo}{bu:Nat}
section
variable {P P':Ug}{ρ:aT G}{gZ fV:List Uu}{w w':F}{m m':Bool}
def vT{σ:aT G}{fr fr':Uu}{aF tops':List Uu}(h:cN P σ fr fr')(y:dN P σ aF tops')(k:cZ fr aF):
 (Xr fr (aF++gZ)=K/\Xr fr' (tops'++fV)=K)\/∃v e t s,Xr fr (aF++gZ)=I (v,t++gZ)/\Xr fr' (tops'++fV)=I (e,s++fV)/\ax σ v e/\dN P σ t s/\cZ fr t:=by
 rcases h.kinds with d|d
 ·have n:=h.kind.trans d;exact .inl ⟨by unfold Xr;rw[d],by unfold Xr;rw[n]⟩
 ·have n:=h.kind.trans d;cases y using dN.ind with
  |nil=>simp[cZ,d] at k
  |cons b N u ihz=>
   rename_i f g r z;have a:=b.mode;unfold Xr;rw[d,n];simp only[We];cases j:f.mode with
   |run=>
    rw[j] at a;cases c:g.mode<;>rw[c] at a<;>first|exact .inl ⟨rfl,rfl⟩|cases a using gA.ind
   |returning=>
    rw[j] at a;cases c:g.mode<;>rw[c] at a<;>first|exact .inl ⟨rfl,rfl⟩|cases a using gA.ind
   |panicking J=>
    rw[j] at a;cases c:g.mode with
    |run=>rw[c] at a;cases a using gA.ind
    |returning=>rw[c] at a;cases a using gA.ind
    |panicking L=>
     rw[c] at a;cases a using gA.ind with
     |panicking l=>
      cases l using iV.ind with
      |nil=>exact .inl ⟨rfl,rfl⟩
      |cons x l ihz=>
       rename_i C D A B;obtain⟨v,E,i⟩:=C;obtain⟨e,O,M⟩:=D;obtain⟨o,q,p⟩:=x;simp only at o q p;subst q p;cases E with
       |true=>exact .inl ⟨by cases i<;>rfl,by cases i<;>rfl⟩
       |false=>
        cases i with
        |true=>exact .inl ⟨rfl,rfl⟩
        |false=>
         refine .inr ⟨v,e,{f with mode:=.panicking ({v,recovered:=Z}::A)}::r,{g with mode:=.panicking ({v:=e,recovered:=Z}::B)}::z,rfl,rfl,o,?_,?_⟩
         ·exact .cons ⟨b.fn,b.may,b.tmps,b.todo,b.ok,b.defers,.panicking (.cons ⟨o,rfl,rfl⟩ l),b.kind,b.kinds,b.round,b.round'⟩ (By (by simp)) u
         ·cases r with
          |nil=>exact k
          |cons F H=>exact k
def B3{fr:Uu}{fr':Uu}{σ:aT G}(h:cN P σ fr fr'){ops:Array Vv}{i:Nat}{rest:List Nat}{k:List WO}(e:fr.todo= .inRegion ops (i::rest)::k)(l:ops[i]? =K)(v:U):ff (fr.finish v):=by
 intro _ r o s p q t b f g;have d:=h.ok;rw[e] at d;unfold VX at b;rw[e] at b;simp only[Xl,XM] at b;obtain⟨⟨rfl,j⟩,rfl⟩:=b;cases d.1 using bY.ind with
 |inRegion _ _ n c=>
  rw[j] at c;simp only[kO,Ux] at c;have a:=c.1;unfold oC at a;rw[f] at a;dsimp only at a;rw[g] at a;dsimp only at a;rw[l] at a;cases a
def gw(fr:Uu)(v:U):(fr.finish v).kind=fr.kind:=by
 unfold VX
 split<;>rfl
def sr(fr:Uu)(c:List Vs):(fr.raise c).kind=fr.kind:=by
 unfold Frame.raise
 split<;>rfl
def Qg{fr:Uu}{ops:Array Vv}{i:Nat}{rest:List Nat}{k:List WO}(b:fr.todo= .inRegion ops (i::rest)::k){o:Vv}(a:ops[i]? =I o){c:Call}(hc:o.op= .call c):pI fr:=λ_=>⟨ops,i,rest,k,o,c,b,a,hc⟩
def F1(L:Alike G P P'){e:U7->U}{o:Vv}(l:fQ G P o.op=Z)(t:∀x,o.op= .nilCheck x->∀n a b,e x≠.func (.method n) a b){f:V2}{vs:Array U}{i:F}{es Ma:Array Vn}(h:(UI e o).runT P w es=(.ok (.enter f vs) i,Ma)):∃c,o.op= .call c:=by
 have d:(UI e o).run P w= .ok (.enter f vs) i:=by
  have:=Ye P (UI e o) w es;rw[h] at this;exact(Prod.mk.inj this).1.symm
 have y:∀(s:Wv U),((do pure (Next.value (<-s))):Wv Next).run P w= .ok (.enter f vs) i->False:=λs g=>by
  rw[WK] at g;cases k:s.run P w<;>rw[k] at g<;>simp at g
 have z:∀(s:Wv Unit),((do s;pure Next.skip):Wv Next).run P w= .ok (.enter f vs) i->False:=λs g=>by
  rw[WK] at g;cases k:s.run P w<;>rw[k] at g<;>simp at g
 unfold UI at d;cases j:o.op with
 |nilCheck x=>
  have p:=t x j;rw[j] at d;dsimp only at d;have q:(runtimePanic .nilDeref:Wv Next).run P w= .ok (.enter f vs) i->False:=λh=>by
   unfold runtimePanic at h;simp[program,Wu,goPanic] at h
  cases u:e x<;>rw[u] at d p<;>(try dsimp only at d)<;>first
   |exact(q d).elim
   |(simp at d;done)
   |(rename_i a;cases a<;>first|exact(q d).elim|(simp at d;done))
   |(rename_i r a b;cases r<;>first|(simp at d;done)|exact absurd Y (p _ _ _))
 |_=>
  rw[j] at d l;dsimp only at d
  first
  |exact⟨_,rfl⟩
  |(simp[fQ] at l;done)
  |exact(y _ d).elim
  |exact(z _ d).elim
  |(simp at d;done)
  |(rw[WK] at d;generalize Wu P _ w=v at d;cases v<;>simp at d
    done)
def p7{e:U7->U}{o:Vv}{t:Ui}{x:U7}(f:o.op= .makeInterface t x){n:Next}{c:F}{es Ma:Array Vn}(h:(UI e o).runT P w es=(.ok n c,Ma)):∃t v1,n= .value (.iface t v1):=by
 have a:(UI e o).run P w= .ok n c:=by
  have:=Ye P (UI e o) w es;rw[h] at this;exact(Prod.mk.inj this).1.symm
 unfold UI at a;rw[f] at a;dsimp only at a;unfold Instr.makeInterface underlying at a;rw[WK] at a;cases b:P.underlying t with
 |none=>simp[program,b,Wu,stuck] at a
 |some d=>cases d<;>simp[program,b,Wu,stuck] at a<;>exact⟨_,_,a.1.symm⟩
def fF{σ:aT G}{f:V2}{es:Array Vn}(h:∀e∈es,ku σ e):∀e∈seen P f es++#[],ku σ e:=λe a=>by
 rw[Array.append_empty] at a;exact PX h e a
def Rs(L:Alike G P P')(a4:nF G P P'){fr fr':Uu}{aF tops':List Uu}(d:cN P ρ fr fr')(a9:ff fr)(J:dN P ρ aF tops')(aa:eL ρ bu w w')(n:cZ fr aF)(D:fr.mode= .run){ops:Array Vv}{i:Nat}{rest:List Nat}{k:List WO}(a:fr.todo= .inRegion ops (i::rest)::k):
 cH P gZ fV ρ (w.drawn+bu) w' (UN P m (Uh fr (aF++gZ)) w) (UN P' m' (Uh fr' (tops'++fV)) w'):=by
 have X:=EA d D;have M:=d.todo.trans a;have W:=d.round;have ar:=d.round';have av:Vk ops fr.tmps=Vk ops fr'.tmps:=funext λbc=>Fb d.tmps ops bc;have ap:(fr.kind==CallKind.early)=T8:=by rcases d.kinds with H|H<;>rw[H]<;>rfl
 have ba:(fr'.kind==CallKind.early)=T8:=by rw[d.kind];exact ap
 cases e:ops[i]? with
 |none=>
  have A:UN P m (Uh fr (aF++gZ)) w= .go (Uh (fr.finish Vl) (aF++gZ)) w:=by simp[Uh,UN,UJ,D,a,e]
  have B:UN P' m' (Uh fr' (tops'++fV)) w'= .go (Uh (fr'.finish Vl) (tops'++fV)) w':=by simp[Uh,UN,UJ,X,M,e]
  rw[A,B];exact .go (iw d a me) (B3 d a e _) J aa (Fr.refl _ _) jj (cZ.of (gw _ _) n) Y
 |some l=>
  have I:fQ G P l.op=Z:=by
   have C:=d.ok;rw[a] at C;cases C.1 using bY.ind with
   |inRegion _ _ c x=>
    obtain⟨bv,rfl⟩:=Uc.1 e;exact UA.1 c _ (by simp)
  cases E:UG l (Vk ops fr.tmps) with
  |false=>
   have ab:UG l (Vk ops fr'.tmps)=T8:=by rw[<-av];exact E
   have A:UN P m (Uh fr (aF++gZ)) w= .go (Uh (fr.finish Vl) (aF++gZ)) w:=by simp[Uh,UN,UJ,D,a,e,E]
   have B:UN P' m' (Uh fr' (tops'++fV)) w'= .go (Uh (fr'.finish Vl) (tops'++fV)) w':=by simp[Uh,UN,UJ,X,M,e,ab]
   rw[A,B];exact .go (iw d a me) (iv d a e _ (λz g _ a8=>by simp[UG,a8] at E)) J aa (Fr.refl _ _) jj (cZ.of (gw _ _) n) Y
  |true=>
   have ab:UG l (Vk ops fr'.tmps)=Z:=by rw[<-av];exact E
   have A:UN P m (Uh fr (aF++gZ)) w=VO P Z fr (aF++gZ) K (UI fr.eval l) w:=by simp[Uh,UN,UJ,stepG.oper,Frame.oper?,D,a,e,E,W]
   have B:UN P' m' (Uh fr' (tops'++fV)) w'=VO P' Z fr' (tops'++fV) K (UI fr'.eval l) w':=by simp[Uh,UN,UJ,stepG.oper,Frame.oper?,X,M,e,ab,ar]
   rw[A,B];have U:=(RB (ρ:=ρ) L l I (λg p=>d.eval g p) (λg p=>a9 D ops i rest k l g a e p)).runs w w' #[] #[] bu aa jj (λam H=>by simp at H);generalize t:(UI fr.eval l).runT P w #[]=bm at U;generalize a5:(UI fr'.eval l).runT P' w' #[]=bo at U;unfold VO;simp only[if_true,t,a5,a,M,ap,ba,UC,if_false];cases U using fW.ind with
   |halt p r h q j V=>
    rename_i ae az g bl aw bj an a0;cases p using lG.ind with
    |panic N=>
     rename_i v F;exact .go (fr:=fr.raise [{v,recovered:=T8}]) (fr':=fr'.raise [{v:=F,recovered:=T8}]) (uL (d.mono h.le) (.cons ⟨N,rfl,rfl⟩ .nil)) (iM (raise_mode _ _)) (J.mono h.le) r h (fF q) (cZ.of (sr _ _) n) j
    |same _ u=>
     cases g with
     |stuck s=>exact .lost _ _ _ _
     |unsupported ad=>cases ad<;>first|exact .lost _ _ _ _|(simp[pP] at u;done)
     |_=>simp[pP] at u
   |ok T r h q j V=>
    rename_i ae az bd bx aw bj an a0;have b:=d.mono h.le;have y:=J.mono h.le;cases T using iH.ind with
    |value N=>
     rename_i v F;exact .go (fr:=fr.finish v) (fr':=fr'.finish F) (iw b a N) (iv b a e _ (λz g o _=>by
      obtain⟨O,Q,c⟩:=p7 o t;cases c;exact⟨_,_,rfl⟩)) y r h (fF q) (cZ.of (gw _ _) n) j
    |skip=>
     exact .go (fr:=fr.finish Vl) (fr':=fr'.finish Vl) (iw b a me) (iv b a e _ (λz g o _=>by
      obtain⟨O,Q,c⟩:=p7 o t;cases c)) y r h (fF q) (cZ.of (gw _ _) n) j
    |enter f a7 bb=>
     rename_i be bi;obtain⟨c,x⟩:=uv a4 a7 bb .normal (.inl rfl);obtain⟨bt,a6⟩:=F1 L I (λg p bd br bs am=>by
      have S:=d.eval g (by rw[p] at I;exact I);rw[am] at S;generalize fr'.eval g=b0 at S;cases S using ax.ind with
      |func h _ _ _ _=>cases h using nG.ind) t
     exact .go (fr:=UZ P f be .normal) (fr':=UZ P' f bi .normal) (aF:=fr::aF) (tops':=fr'::tops') c x (.cons b (Qg a e a6) y) r h (fF q) n j
    |defer u=>
     rename_i R al;have C:=b.ok;rw[a] at C;have ao:cN P ae {fr with defers:=R::fr.defers,todo:=.inRegion ops (i::rest)::k} {fr' with defers:=al::fr'.defers,todo:=.inRegion ops (i::rest)::k}:=⟨b.fn,b.may,b.tmps,rfl,C,.cons u b.defers,b.mode,b.kind,b.kinds,b.round,b.round'⟩;exact .go (fr:=VX {fr with defers:=R::fr.defers,todo:=.inRegion ops (i::rest)::k} Vl) (fr':=VX {fr' with defers:=al::fr'.defers,todo:=.inRegion ops (i::rest)::k} Vl) (iw ao Y me) (iv ao Y e _ (λz g o _=>by
      obtain⟨O,Q,c⟩:=p7 o t;cases c)) y r h (fF q) (cZ.of (gw {fr with defers:=R::fr.defers,todo:=.inRegion ops (i::rest)::k} Vl) (cZ.of (fr:=fr) (by rfl) n)) j
    |recover=>
     simp only[W,ar];rcases vT (gZ:=gZ) (fV:=fV) b y n with⟨c,x⟩|⟨v,F,z,bB,c,x,a1,a2,a3⟩
     ·rw[c,x];exact .go (fr:=fr.finish .nilIface) (fr':=fr'.finish .nilIface) (iw b a .nilIface) (iv b a e _ (λz g o _=>by
       obtain⟨O,Q,c⟩:=p7 o t;cases c)) y r h (fF q) (cZ.of (gw _ _) n) j
     ·rw[c,x];exact .go (fr:=fr.finish v) (fr':=fr'.finish F) (iw b a a1) (iv b a e _ (λz g o _=>by
       obtain⟨O,Q,c⟩:=p7 o t;cases c)) a2 r h (fF q) (cZ.of (gw _ _) a3) j
   |oe p j V=>
    rename_i ae g bl aw an;cases p using lG.ind with
    |panic N=>exact .over j
    |same _ u=>
     cases g with
     |stuck s=>exact .lost _ _ _ _
     |unsupported ad=>cases ad<;>first|exact .lost _ _ _ _|(simp[pP] at u;done)
     |_=>simp[pP] at u
   |over T j V=>
    cases T using iH.ind with
    |recover=>
     simp only[W];cases Xr fr (aF++gZ) with
     |none=>exact .over j
     |some bA=>exact .over j
    |_=>exact .over j
end
end
section
variable {G:mo}
section
variable {P P':Ug}{ρ:aT G}{gZ fV:List Uu}{w w':F}{m m':Bool}
theorem Ep{α:Type}{g g':α->Wv U}:∀(l:List α) {ρ:aT G},(∀ σ,ρ.le σ->∀x∈l,aq P P' ax σ (g x) (g' x))->aq P P' jd ρ (l.mapM g) (l.mapM g')
 | [],ρ,a=>by rw[List.mapM_nil,List.mapM_nil];exact .aC .nil
 |x::l,ρ,a=>by
  rw[List.mapM_cons,List.mapM_cons];refine(a ρ (aT.le.refl _) x (by simp)).bindM (λσ j k f d=>?_);refine(Ep l (λc b i h=>a c (f.trans b) i (by simp[h]))).bindM (λc n o b e=>?_);exact .aC (.cons (d.mono b) e)
def A9(L:Alike G P P')(fn:WD){x g:Array U}(h:bf ρ x g):aq P P' ax ρ (UY fn x) (UY fn g):=by
 unfold UY;refine aq.bindM (A:=bf) ?_ (λi a j d b=>?_)
 ·rw[Array.mapM_eq_mapM_toList,Array.mapM_eq_mapM_toList];refine aq.bind (A:=jd) (Ep _ (λi d n _=>?_)) (λi a j _ b=>.pure b.toArray);cases n with
  |tmp f=>exact .aC ((h.mono d).getD f)
  |cell a f=>
   have e:=(h.mono d).getD a;dsimp only;generalize x.getD a Vl=v at e;generalize g.getD a Vl=o at e;have k:aq P P' cO i (asAddr v) (asAddr o):=by
    cases e using ax.ind with
    |ptr h=>exact .aC h
    |dg=>exact eG L.S .nilDeref (by simp) (by simp) (by simp)
    |_=>exact aq.stuck
   exact k.bindM (λp a j _ l=>A7 L.S f l)
 ·refine .aC ?_;by_cases c:a.size=1
  ·rw[dif_pos c,dif_pos (by rw[<-b.1];exact c)];exact b.2 0 _ _
  ·rw[dif_neg c,dif_neg (by rw[<-b.1];exact c)];exact .tuple b.1 b.2
def jU{fr:Uu}(h:pI fr):ff fr:=by
 intro i r k t n p v d e f;obtain⟨s,l,u,o,q,j,a,b,c⟩:=h i;rw[d] at a;simp only[Xl,XM] at a;obtain⟨⟨rfl,g,-⟩,-⟩:=a;subst g;rw[e] at b;cases b;rw[f] at c;cases c
def F4{σ:aT G}{fr fr':Uu}(h:cN P σ fr fr')(k:pI fr){v f:U}(r:ax σ v f):cN P σ (fr.finish v) (fr'.finish f)/\ff (fr.finish v):=by
 have c:=h.todo;have j:=h.ok;have e:(∀b,fr.finish b=fr)->(∀b,fr'.finish b=fr')->cN P σ (fr.finish v) (fr'.finish f)/\ff (fr.finish v):=λl n=>by
  rw[l,n];exact⟨h,jU k⟩
 cases a:fr.todo with
 |nil=>rw[a] at c;exact e (λb=>by unfold VX;rw[a]) (λb=>by unfold VX;rw[c])
 |cons A B=>
  rw[a] at c j;cases j.1 using bY.ind with
  |inRegion E s u x=>
   cases s with
   |nil=>exact e (λb=>by unfold VX;rw[a]) (λb=>by unfold VX;rw[c])
   |cons y H=>
    refine⟨iw h a r,?_⟩;by_cases i:fr.mode= .run
    ·obtain⟨F,z,I,C,D,t,d,o,p⟩:=k i;rw[a] at d;simp only[Xl,XM] at d;obtain⟨⟨rfl,q,-⟩,-⟩:=d;subst q;exact iv h a o v (λJ K g _=>by rw[p] at g;cases g)
    ·have:(fr.finish v).mode=fr.mode:=by
      unfold VX;rw[a]
     exact iM (by rw[this];exact i)
  |_=>exact e (λb=>by unfold VX;rw[a]) (λb=>by unfold VX;rw[c])
def L6{σ:aT G}{c a:List Vs}(h:iV σ c a):iV σ (c.dropWhile (!·.goexit)) (a.dropWhile (!·.goexit)):=by
 induction h using iV.ind with
 |nil=>exact .nil
 |cons b d e=>
  simp only[List.dropWhile_cons,b.g]
  split
  ·exact e
  ·exact .cons b d
def fN (c:Uu):Uu:=match c.mode with
 | .panicking ({recovered:=Z,..}::a)=>
  match a.dropWhile (!·.goexit) with
  | []=>{c with mode:=.returning}
  |rest=>{c with mode:=.panicking rest}
 |_=>c
def I0{σ:aT G}{f f':Uu}(h:cN P σ f f')(b:pI f):cN P σ (fN f) (fN f')/\ff (fN f)/\(fN f).kind=f.kind:=by
 have g:=h.mode;have l:∀{c d:FrameMode},gA σ c d->cN P σ {f with mode:=c} {f' with mode:=d}:=λn=>⟨h.fn,h.may,h.tmps,h.todo,h.ok,h.defers,n,h.kind,h.kinds,h.round,h.round'⟩;unfold fN;generalize y:f.mode=C at g;generalize z:f'.mode=D at g;cases g using gA.ind with
 |run=>exact⟨h,jU b,rfl⟩
 |returning=>exact⟨h,jU b,rfl⟩
 |panicking a=>
  cases a using iV.ind with
  |nil=>exact⟨h,jU b,rfl⟩
  |cons i a ihz=>
   rename_i r s p q;obtain⟨v,t,u⟩:=r;obtain⟨B,A,x⟩:=s;obtain⟨o,k,j⟩:=i;simp only at o k j;subst k j;cases t with
   |false=>exact⟨h,jU b,rfl⟩
   |true=>
    dsimp only;have e:=L6 a;generalize p.dropWhile (!·.goexit)=c at e;generalize q.dropWhile (!·.goexit)=d at e;cases e using iV.ind with
    |nil=>exact⟨l .returning,iM (by simp),rfl⟩
    |cons i a=>exact⟨l (.panicking (.cons i a)),iM (by simp),rfl⟩
end
end
section
variable {G:mo}{bu:Nat}
section
variable {P P':Ug}{ρ:aT G}{gZ fV:List Uu}{w w':F}{m m':Bool}
def Pt{a a':FrameMode}(h:gA ρ a a')(b:a≠.run):a'≠.run:=by
 cases h using gA.ind with
 |run=>exact absurd Y b
 |returning=>simp
 |panicking h=>simp
def BW(L:Alike G P P')(ad:nF G P P'){fr fr':Uu}{aF tops':List Uu}(B:cN P ρ fr fr')(R:dN P ρ aF tops')(ap:eL ρ bu w w')(o:cZ fr aF)(C:fr.mode≠.run){d r:Wl}(p:xD P ρ d r):
 cH P gZ fV ρ (w.drawn+bu) w' (callDeferred P fr (aF++gZ) K d w) (callDeferred P' fr' (tops'++fV) K r w'):=by
 have hR:=(En (ρ:=ρ) L p.target p.args).runs w w' #[] #[] bu ap jj (λl Z=>by simp at Z);obtain⟨J,V⟩:=d;obtain⟨M,W⟩:=r;have n:=p.target;have a:=B.mode;simp only at n hR;by_cases q:J= .nil/\∃e,fr.mode= .panicking e
 ·obtain⟨rfl,e,z⟩:=q;unfold callDeferred;rw[if_pos ?hP]
  case hP=>simp[z]
  exact .lost _ _ _ _
 ·have al:¬(M= .nil/\∃e,fr'.mode= .panicking e):=by
   rintro⟨rfl,e,z⟩;rw[z] at a;cases n using lH.ind;generalize fr.mode=k at a q;cases a using gA.ind;exact q ⟨rfl,_,rfl⟩
  unfold callDeferred;rw[if_neg ?hL,if_neg ?hR]
  case hL=>
   intro l;apply q;cases J<;>cases E:fr.mode<;>simp[E] at l ⊢
  case hR=>
   intro l;apply al;cases M<;>cases E:fr'.mode<;>simp[E] at l ⊢
  dsimp only;generalize (invoke J V).runT P w #[]=a1 at hR;generalize (invoke M W).runT P' w' #[]=a2 at hR;cases hR using fW.ind with
  |halt I i c g b D=>
   rename_i U Y O a0 N T t Q;cases I using lG.ind with
   |panic H=>
    rename_i v S;exact .go (fr:=fr.raise [{v,recovered:=T8}]) (fr':=fr'.raise [{v:=S,recovered:=T8}]) (uL (B.mono c.le) (.cons ⟨H,rfl,rfl⟩ .nil)) (iM (raise_mode _ _)) (R.mono c.le) i c (fF g) (cZ.of (sr _ _) o) b
   |same _ A=>
    cases O with
    |stuck s=>exact .lost _ _ _ _
    |unsupported av=>exact .lost _ _ _ _
    |_=>simp[pP] at A
  |ok y i c g b D=>
   rename_i U Y a4 a5 N T t Q;have h:=B.mono c.le;have F:=R.mono c.le;have j:cH P gZ fV ρ (w.drawn+bu) w' (WS (seen P fr.fn t) (.go (Uh fr (aF++gZ)) N)) (WS (seen P' fr'.fn Q) (.go (Uh fr' (tops'++fV)) T)):=.go h (iM C) F i c (fF g) o b;cases y using iH.ind with
   |value H=>exact j
   |skip=>exact j
   |defer p=>exact j
   |enter f ae ao=>
    rename_i aw az;obtain⟨n,a⟩:=uv ad ae ao .deferred (.inr rfl);exact .go (fr:=UZ P f aw .deferred) (fr':=UZ P' f az .deferred) (aF:=fr::aF) (tops':=fr'::tops') n a (.cons h (By C) F) i c (fF g) o b
   |recover=>
    have a:=h.mode;rcases vT (gZ:=gZ) (fV:=fV) h F o with⟨u,x⟩|⟨v,S,a6,a7,u,x,a3,aa,ab⟩
    ·dsimp only;rw[u,x];generalize am:fr.mode=k at a;generalize an:fr'.mode=X at a;cases a using gA.ind<;>exact j
    ·dsimp only;rw[u,x];generalize am:fr.mode=k at a;generalize an:fr'.mode=X at a;cases a using gA.ind with
     |returning=>exact .go h (iM C) aa i c (fF g) ab b
     |_=>exact j
  |oe I b D=>
   rename_i U O a0 N t;cases I using lG.ind with
   |panic H=>exact .over b
   |same _ A=>
    cases O with
    |stuck s=>exact .lost _ _ _ _
    |unsupported av=>exact .lost _ _ _ _
    |_=>simp[pP] at A
  |over y b D=>
   cases y using iH.ind with
   |recover=>
    dsimp only;generalize fr.mode=k;generalize Xr fr (aF++gZ)=ar;cases k<;>cases ar<;>exact .over b
   |_=>exact .over b
def Hg(L:Alike G P P')(A:nF G P P'){fr fr':Uu}{aF tops':List Uu}(a:cN P ρ fr fr')(H:dN P ρ aF tops')(s:eL ρ bu w w')(h:cZ fr aF)(i:fr.mode≠.run)(an:aF=[]->fr.defers≠[]):
 cH P gZ fV ρ (w.drawn+bu) w' (UN P m (Uh fr (aF++gZ)) w) (UN P' m' (Uh fr' (tops'++fV)) w'):=by
 have am:=Pt a.mode i;have W:UN P m (Uh fr (aF++gZ)) w=Yj P m fr (aF++gZ) K w:=by
  cases b:fr.mode<;>first|exact absurd b i|simp[Uh,UN,b]
 have X:UN P' m' (Uh fr' (tops'++fV)) w'=Yj P' m' fr' (tops'++fV) K w':=by
  cases b:fr'.mode<;>first|exact absurd b am|simp[Uh,UN,b]
 rw[W,X];unfold Yj;have o:=a.defers;generalize ab:fr.defers=a5 at o;generalize a8:fr'.defers=a6 at o;cases o using jb.ind with
 |cons D g ihz=>
  rename_i U V M N;have al:cN P ρ {fr with defers:=M} {fr' with defers:=N}:=⟨a.fn,a.may,a.tmps,a.todo,a.ok,g,a.mode,a.kind,a.kinds,a.round,a.round'⟩;have ap:=BW (gZ:=gZ) (fV:=fV) L A al H s (cZ.of (fr:=fr) (by rfl) h) i D;obtain⟨bc,a0⟩:=U;obtain⟨bd,a1⟩:=V;have I:=D.target;simp only at I;cases I using lH.ind<;>exact ap
 |nil=>
  cases H using dN.ind with
  |nil=>exact absurd ab (an Y)
  |cons E J g ihz=>
   rename_i f y M N;obtain⟨j,a4,B,C,ba,bb⟩:=A fr.fn a.may;have q:=a.mode;dsimp only;generalize ad:fr.mode=a2 at q;generalize a9:fr'.mode=a3 at q;cases q using gA.ind with
   |run=>exact absurd ad i
   |panicking ae=>
    have S:fr.catches P=T8:=by unfold Frame.catches;rw[B]
    have T:fr'.catches P'=T8:=by unfold Frame.catches;rw[a.fn,C]
    simp only[S,T,UC,if_false,We];exact .go (fr:=f.raise _) (fr':=y.raise _) (uL E ae) (iM (raise_mode _ _)) g s (Fr.refl _ _) jj (cZ.of (sr _ _) h) Y
   |returning=>
    dsimp only;rw[a.fn,B,C];dsimp only;have n:=(A9 (ρ:=ρ) L j a.tmps).runs w w' #[] #[] bu s jj (λa7 b=>by simp at b);generalize (UY j fr.tmps).runT P w #[]=aw at n;generalize (UY j fr'.tmps).runT P' w' #[]=az at n;cases n using fW.ind with
    |halt ao t c p e r=>
     rename_i Q R u av O ar x Z;cases u<;>exact .lost _ _ _ _
    |oe ao e r=>
     rename_i Q u av O x;cases u<;>exact .lost _ _ _ _
    |over z e r=>
     dsimp only;unfold Xb;simp only[We];rcases a.kinds with d|d<;>rw[d]<;>exact .over e
    |ok z t c p e r=>
     rename_i Q R v be O ar x Z;have F:=E.mono c.le;dsimp only;unfold Xb;simp only[We];rcases a.kinds with d|d
     ·rw[a.kind,d];obtain⟨k,l⟩:=F4 F J z;exact .go k l (g.mono c.le) t c (fF p) (cZ.of (gw _ _) h) e
     ·rw[a.kind,d];obtain⟨k,l,aa⟩:=I0 F J;exact .go (fr:=fN f) (fr':=fN y) k l (g.mono c.le) t c (fF p) (cZ.of aa h) e
def NS(L:Alike G P P')(j:nF G P P')(p:P'.follows .mixedOrders=P.follows .mixedOrders){fr fr':Uu}{aF tops':List Uu}(g:cN P ρ fr fr')(o:ff fr)(h:dN P ρ aF tops')(i:eL ρ bu w w')(f:cZ fr aF)(q:aF=[]->fr.mode≠.run->fr.defers≠[]):
 cH P gZ fV ρ (w.drawn+bu) w' (UN P m (Uh fr (aF++gZ)) w) (UN P' m' (Uh fr' (tops'++fV)) w'):=by
 by_cases a:fr.mode= .run
 ·by_cases k:∃d b e c,fr.todo= .inRegion d (b::e)::c
  ·obtain⟨d,b,e,c,r⟩:=k;exact Rs L j g o h i f a r
  ·exact Mc p g h i a (λd b e c l=>k ⟨d,b,e,c,l⟩) f
 ·exact Hg L j g h i f a (λn=>q n a)
end
end
end Rl
namespace Cc
open Go Go.Conc
open Rl (mo aT nF cN dN ff eL Fr ku dL cH ax bf)
def pJ (P0 P:Ug)(S:Nat->Prop)(c:Nat)(own:Nat->Prop)(vs:List U)(g:UM)(w:F):Prop:=∃a,Wk P0 P S c a own vs g w
section
variable {P0 P:Ug}{S:Nat->Prop}{c:Nat}{own:Nat->Prop}{vs:List U}{g:UM}{w:F}
def tN(j:g.status= .running)(h:∀a,RelB (λb=>S b\/own b) w a->∃g' w' es,UN P T8 g a= .go g' w' es/\mq P0 S own a w' es/\pJ P0 P S c (cV own a w') vs g' w'):pJ P0 P S c own vs g w:=by
 classical
 let f:F->Tr:=λa=>if d:RelB (λb=>S b\/own b) w a then Vr (Uw (Uw (Uw (h a d)))).2.2 else .fin
 refine⟨.mk f,wz.2 ⟨j,.inl λa d=>?_⟩⟩;have e:=Uw (Uw (Uw (h a d)));have i:f a=Vr (Uw (Uw (Uw (h a d)))).2.2:=by
  show(if d:RelB (λb=>S b\/own b) w a then _ else _)=_;rw[dif_pos d]
 exact⟨_,_,_,e.1,e.2.1,Wk.cast i (Uw e.2.2)⟩
def Oc{v:U}{l:List U}{g2:UM}{z:U}(i:g.status= .running)(h:∀a,RelB (λb=>S b\/own b) w a->UN P T8 g a= .comm g2 #[scase c v z] Z .send a #[]/\pJ P0 P S c own l (Wj g2 Vl) a):pJ P0 P S c own (v::l) g w:=by
 classical
 let f:F->Tr:=λa=>if d:RelB (λb=>S b\/own b) w a then Vr (h a d).2 else .fin
 refine⟨.mk f,wz.2 ⟨i,.inr (.inl ⟨v,l,g2,z,rfl,λa d=>⟨(h a d).1,?_⟩⟩)⟩⟩;have e:f a=Vr (h a d).2:=by
  show(if d:RelB (λb=>S b\/own b) w a then _ else _)=_;rw[dif_pos d]
 exact Wk.cast e (Uw (h a d).2)
def KZ{g':UM}{n:Nat}(j:g.status= .running)(i:QuitsIn P n g')(f:mayWake P g=Z)(h:∀a,RelB (λb=>S b\/own b) w a->∀cap d s r e,a.heap[c]? =I (.chan cap d T8 s r e)->UN P T8 g a= .go g' (a.setChan c cap d Z s r e) #[⟨.obj c,T8,Z⟩,⟨.obj c,Z,Z⟩]):pJ P0 P S c own [] g w:=
 ⟨.mk λ_=>.fin,wz.2 ⟨j,.inr (.inr ⟨rfl,g',n,i,f,h⟩)⟩⟩
def pJ.rely{a:F}(h:pJ P0 P S c own vs g w)(d:RelB (λb=>S b\/own b) w a):pJ P0 P S c own vs g a:=by
 obtain⟨e,h⟩:=h;exact⟨e,h.rely d⟩
def K4{g':UM}{es:Array Vn}(l:g.status= .running)(h:∀a,RelB (λb=>S b\/own b) w a->UN P T8 g a= .go g' a es)(j:∀e∈es,EvW S own e)(k:∀a,RelB (λb=>S b\/own b) w a->pJ P0 P S c own vs g' a):pJ P0 P S c own vs g w:=by
 refine tN l λa f=>⟨g',a,es,h a f,⟨λ_ _ _=>rfl,T9 _,rfl,rfl,rfl,λn=>n,λe i=>?_⟩,?_⟩
 ·have:=j e i;unfold EvW at this ⊢;cases d:e.loc with
  |cell o=>rw[d] at this;exact this.imp (λh=>.inl h) (λh=>h)
  |obj p=>rw[d] at this;exact this.imp (λh=>.inl h) (λh=>h)
  |mark m=>rw[d] at this;exact this
  |_=>trivial
 ·have e:cV own a a=own:=by
   funext b;unfold cV;apply propext;constructor
   ·rintro(h|h)
    ·exact h
    ·omega
   ·exact .inl
  rw[e];exact k a f
end
section
variable {P0 P:Ug}{S:Nat->Prop}{c:Nat}{vs:List U}{fV:List Uu}{Gc:mo}
def NR{gZ fV:List Uu}{ρ:aT Gc}{t:Nat}{w':F}{f i:Yu}(h:cH P gZ fV ρ t w' f i){a:Uu}{b:List Uu}{d:F}{m:Array Vn}(e:f= .go (Uh a (b++gZ)) d m)(x:d.drawn<=t):
 ∃(σ:aT Gc) (b1:Nat) (fr':Uu) (tops':List Uu) (w1':F) (j:Array Vn),i= .go (Uh fr' (tops'++fV)) w1' j/\cN P σ a fr'/\ff a/\dN P σ b tops'/\eL σ b1 d w1'/\Fr ρ σ w' w1'/\(∀e∈j,ku σ e)/\Rl.cZ a b:=by
 cases h using cH.ind with
 |lost z B v A=>cases e
 |over h=>
  cases e;omega
 |go q r s u p o n y=>
  simp only[Uh,GStep.go.injEq,YH] at e;obtain⟨⟨rfl,k,-⟩,rfl,rfl⟩:=e;have l:=List.append_cancel_right k;subst l;exact⟨_,_,_,_,_,_,rfl,q,r,s,u,p,o,n⟩
def Ih{ρ σ:aT Gc}{b1:Nat}{s h w':F}{own:Nat->Prop}{es:Array Vn}(r:eL σ b1 s w')(d:Fr ρ σ h w')(p:∀e∈es,ku σ e)(l:∀b b',ρ.f b=I b'->own b'):mq P0 S own h w' es/\∀b b',σ.f b=I b'->cV own h w' b':=by
 have j:∀b b',σ.f b=I b'->cV own h w' b':=λb b' a=>by
  rcases d.fresh b b' a with f|f
  ·exact .inl (l b b' f)
  ·obtain⟨u,v,_,o,_⟩:=r.at_ b b' a;exact .inr ⟨f,(Uc.1 o).1⟩
 refine⟨⟨λb a q=>d.keep b (λk e=>?_) a,d.size,d.tape,d.os,d.output,λ_=>trivial,λe n=>?_⟩,j⟩
 ·rcases d.fresh k b e with f|f
  ·exact q (l k b f)
  ·omega
 ·have:=p e n;unfold ku at this;unfold EvW;cases i:e.loc with
  |cell t=>rw[i] at this;obtain⟨b,a⟩:=this;exact .inl (j _ _ a)
  |obj x=>rw[i] at this;obtain⟨b,a⟩:=this;exact .inl (j _ _ a)
  |mark m=>
   rw[i] at this;cases m<;>first|exact this.elim|exact rfl
  |_=>trivial
def Nk{σ:aT Gc}{h w a:F}{own:Nat->Prop}(d:eL σ 0 h w)(m:∀b b',σ.f b=I b'->own b')(f:RelB (λb=>S b\/own b) w a)(i:Nat):eL σ i (sh a.tape a.drawn h) a:=
 ⟨d.gl,Uz d.gr f.size,λb b' e=>by
  obtain⟨n,o,j,k,l⟩:=d.at_ b b' e;exact⟨n,o,j,(f.at_ b' (.inr (m b b' e))).trans k,l⟩,λp q _=>rfl⟩
def eL.zero{σ:aT Gc}{b:Nat}{a w:F}(h:eL σ b a w):eL σ 0 a w:=⟨h.gl,h.gr,h.at_,λe f d=>by omega⟩
structure Hw(S own:Nat->Prop)(w:F):Prop where
 sh:∀b,S b->b<w.heap.size/\¬own b
 bd:∀b,own b->b<w.heap.size
def Hw.step{own:Nat->Prop}{w f w':F}{es:Array Vn}(h:Hw S own w)(d:RelB (λb=>S b\/own b) w f)(e:mq P0 S own f w' es):Hw S (cV own f w') w'/\RelB S w w':=
 ⟨⟨λb a=>⟨Ue (h.sh b a).1 (Uz d.size e.size),λi=>i.elim (h.sh b a).2 λi=>by have:=(h.sh b a).1;have:=d.size;omega⟩,λb a=>a.elim (λa=>Ue (h.bd b a) (Uz d.size e.size)) (λa=>a.2)⟩,
  λb a=>(e.keep b (Ue (h.sh b a).1 d.size) (h.sh b a).2).trans (d.at_ b (.inl a)),Uz d.size e.size,e.tape.trans d.tape,e.os.trans d.os,e.output.trans d.output⟩
def Hs(L:Rl.Alike Gc P P)(J:nF Gc P P){Stop:Uu->List Uu->F->Prop}{fr:Uu}{aF:List Uu}{a e:F}(h:Fin P0 P Stop fr aF a e)(w0:F):
 ∀{σ:aT Gc} {fr':Uu} {tops':List Uu} {own:Nat->Prop} {w:F},e.heap=a.heap->cN P σ fr fr'->ff fr->dN P σ aF tops'->Rl.cZ fr aF->eL σ 0 e w->(∀b b',σ.f b=I b'->own b')->Hp (bk P0) a->Hw S own w->RelB S w0 w->
  (∀(σ:aT Gc) fr aF a fr' tops' own w,Stop fr aF a->cN P σ fr fr'->dN P σ aF tops'->eL σ 0 a w->(∀b b',σ.f b=I b'->own b')->Hp (bk P0) a->Hw S own w->RelB S w0 w->pJ P0 P S c own vs (Uh fr' (tops'++fV)) w)->
  pJ P0 P S c own vs (Uh fr' (tops'++fV)) w:=by
 intro σ fr' tops' own w;refine h (λfr aF a e=>∀{σ:aT Gc} {fr':Uu} {tops':List Uu} {own:Nat->Prop} {w:F},e.heap=a.heap->cN P σ fr fr'->ff fr->dN P σ aF tops'->Rl.cZ fr aF->eL σ 0 e w->(∀b b',σ.f b=I b'->own b')->Hp (bk P0) a->Hw S own w->RelB S w0 w->
  (∀(σ:aT Gc) fr aF a fr' tops' own w,Stop fr aF a->cN P σ fr fr'->dN P σ aF tops'->eL σ 0 a w->(∀b b',σ.f b=I b'->own b')->Hp (bk P0) a->Hw S own w->RelB S w0 w->pJ P0 P S c own vs (Uh fr' (tops'++fV)) w)->
  pJ P0 P S c own vs (Uh fr' (tops'++fV)) w) ?_ ?_
 ·intro fr aF a e O σ fr' tops' own w k o t p i f j u n l m;exact m σ _ _ _ _ _ _ _ O o p ⟨by rw[<-k];exact f.gl,f.gr,λb b' i=>by rw[<-k];exact f.at_ b b' i,λab ae aa=>by omega⟩ j u n l
 ·intro fr aF a e q z T V ad U R σ fr' tops' own w k o t p i f j u n l m;refine tN Y λd v=>?_;have M:=Nk (S:=S) f j v (q d.tape d.drawn).2.2.2.1.drawn;have Q:=Rl.NS (m:=T8) (m':=T8) (gZ:=[]) (fV:=fV) L J Y o t p M i (λx=>((U x).1));obtain⟨an,W,Z,al,am,X,y,B,C,D,r,E,G,H⟩:=NR Q (z d.tape d.drawn T8 []) (by
   show(q d.tape d.drawn).2.2.2.1.drawn<=d.drawn+(q d.tape d.drawn).2.2.2.1.drawn;omega)
  obtain⟨s,N⟩:=Ih (P0:=P0) (S:=S) r E G j;obtain⟨K,A⟩:=n.step v s;exact⟨_,_,_,y,s,R d.tape d.drawn (Qb (V d.tape d.drawn).1 k) B C D H (eL.zero r) N (T d.tape d.drawn).hp K (l.trans A) m⟩
end
section
variable {P0 P:Ug}{S:Nat->Prop}{c:Nat}{vs:List U}{fV:List Uu}{Gc:mo}
def Qh(L:Rl.Alike Gc P P){σ:aT Gc}{fr fr' g:Uu}{e w:F}{own:Nat->Prop}{fn:WD}{v:U}(i:cN P σ fr fr')(T:fr.mode= .returning)(M:fr.defers=[])(R:fr.kind= .normal)(O:P.funcs[fr.fn]? =I fn)
 (W:∀D d,(UY fn fr.tmps).run P (sh D d e)= .ok v (sh D d e)) (X:eL σ 0 e w) (B:∀b b',σ.f b=I b'->own b')
 (H:∀(k:aT Gc) m own' w',ax k v m->eL k 0 e w'->(∀b b',k.f b=I b'->own' b')->Hw S own' w'->RelB S w w'->pJ P0 P S c own' vs (Uh (g.finish m) fV) w') (x:Hw S own w):pJ P0 P S c own vs (Uh fr' (g::fV)) w:=by
 refine tN Y λa r=>?_;have J:=Nk (S:=S) X B r 0;have o:=(Rl.A9 (ρ:=σ) L fn i.tmps).runs (sh a.tape a.drawn e) a #[] #[] 0 J Rl.jj (λt n=>by simp at n);have A:fr'.mode= .returning:=by
  have:=i.mode;rw[T] at this;cases h:fr'.mode with
  |returning=>rfl
  |run=>rw[h] at this;cases this using Rl.gA.ind
  |panicking Z=>rw[h] at this;cases this using Rl.gA.ind
 have N:fr'.defers=[]:=by
  have:=i.defers;rw[M] at this;cases h:fr'.defers with
  |nil=>rfl
  |cons E Z=>rw[h] at this;cases this using Rl.jb.ind
 have f:((UY fn fr.tmps).runT P (sh a.tape a.drawn e) #[]).1= .ok v (sh a.tape a.drawn e):=by rw[Ye];exact W _ _
 have C:UN P T8 (Uh fr' (g::fV)) a=WS (seen P fr'.fn ((UY fn fr'.tmps).runT P a #[]).2) (match ((UY fn fr'.tmps).runT P a #[]).1 with
  | .ok v w=>Xb P T8 fr' (g::fV) K v w
  | .halt (.stuck s) w=>.ended (.stuck s (fr'.pos P)) w
  | .halt _ w=>.ended (.stuck "return: the result variables cannot be read" (fr'.pos P)) w):=by
  have G:UN P T8 (Uh fr' (g::fV)) a=Yj P T8 fr' (g::fV) K a:=by simp[Uh,UN,A]
  rw[G];unfold Yj;rw[N];simp only[A,i.fn,O];rfl
 generalize an:(UY fn fr.tmps).runT P (sh a.tape a.drawn e) #[]=ab at o f;generalize ao:(UY fn fr'.tmps).runT P a #[]=ad at o C;cases o using Rl.fW.ind with
 |halt h j z y l q=>cases f
 |oe h l q=>cases f
 |over u l q=>
  simp only[Result.ok.injEq] at f;obtain⟨-,rfl⟩:=f;simp[sh] at l
 |ok u j z y l q=>
  rename_i k ae E m av aa al am;simp only[Result.ok.injEq] at f;obtain⟨rfl,rfl⟩:=f;obtain⟨p,V⟩:=Ih (P0:=P0) (S:=S) j z (λt n=>Rl.fF (P:=P) (f:=fr'.fn) y t n) B;refine⟨_,_,_,?_,p,H k m _ aa u ⟨j.gl,j.gr,j.at_,λap ar Q=>absurd Q (by omega)⟩ V (x.step r p).1 (x.step r p).2⟩;rw[C];simp only[Xb,i.kind,R];rfl
def QF (Gc:mo):aT Gc:=⟨λ_=>K,λb d c a=>(by cases a),λb d a=>(by cases a)⟩
def Bx (g:Nat)(os:Os):F:={heap:=U4 g (.cells #[] 0),tape:=λ_ _=>0,drawn:=0,os,output:= #[]}
def KY(h:Twins P0 P)(L:Rl.Alike Gc P P)(A:nF Gc P P){f:V2}(W:Gc.b f=Z)(C:P.funcs[f]? =P0.funcs[f]?){args:Array U}(V:bf (QF Gc) args args){R:WU->F->Prop}(hR:∀e w',R e w'->∃v,e= .returned v){os:Os}(ao:∀a,Calls P0 f args (sh a 0 (Bx Gc.g os)) R)
 {own:Nat->Prop} {w:F} {s:Uu} (O:Hw S own w) (am:Gc.g<=w.heap.size)
 (J:∀(σ:aT Gc) v r i own' w',(∃a d,R (.returned v) (sh a d i))->ax σ v r->eL σ 0 i w'->(∀b b',σ.f b=I b'->own' b')->Hw S own' w'->RelB S w w'->pJ P0 P S c own' vs (Uh (s.finish r) fV) w'):pJ P0 P S c own vs (Uh (UZ P f args .normal) (s::fV)) w:=by
 have x:UZ P f args .normal=UZ P0 f args .normal:=by unfold UZ;rw[C]
 have D:Hp (bk P0) (Bx Gc.g os):=λb be o=>by
  simp only[Bx,Array.getElem?_replicate] at o
  split at o
  ·cases o;exact .inl trivial
  ·cases o
 have ab:Fin P0 P (Di λg aF w'=>aF=[]/\∃v,R (.returned v) w'/\g.fn=f/\g.leaving P0 w' (.returned v)) (UZ P0 f args .normal) [] (Bx Gc.g os) (Bx Gc.g os):=by
  refine vD h (λg aF w' j=>?_) ⟨DN h f args .normal (.inl Y),λbl a7=>by simp at a7,rfl⟩ D (Un.refl _) λa=>?_
  ·obtain⟨_,v,_,_,m⟩:=j;rintro⟨q,_⟩;rw[m.1] at q;cases q
  ·obtain⟨e,w',g,B,X,p,m⟩:=ao a [bF];obtain⟨v,rfl⟩:=hR e w' B;obtain⟨N,K⟩:=X;exact⟨N,g,[],w',K,rfl,v,B,p,m⟩
 obtain⟨y,z⟩:=Rl.uv A W V .normal (.inl rfl);rw[x] at y z;rw[x];refine Hs (aF:=[]) (tops':=[]) (fV:=s::fV) L A ab w Y y z .nil Y ⟨by simp[Bx],am,λb b' e=>(by cases e),λa8 ba u=>absurd u (by omega)⟩ (λb b' e=>(by cases e)) D O (RelB.refl _ _) λσ g aF i bd bi own' w' j al a3 a5 ap av Q aw=>?_;obtain⟨a,d,rfl,v,M,p,m⟩:=j;cases a3 using dN.ind;obtain⟨q,aa,an,l,ad,a1⟩:=m;have ae:P.funcs[g.fn]? =I l:=by rw[p,C,<-p];exact ad
 have a2:∀n k,(UY l g.tmps).run P (sh n k i)= .ok v (sh n k i):=by
  intro n k;have a0:=Nr (eB P0) h.A.view (UY l g.tmps) (sh a d i) #[] (zE h.A.T l g.tmps) (av.sh a d);have t:((UY l g.tmps).runT P0 (sh a d i) #[]).1= .ok v (sh a d i):=by rw[Ye];exact a1
  rcases a0.shift with⟨bm,w',G⟩|j
  ·rw[t] at G;cases G
  ·obtain⟨bj,E,j⟩:=j n k (sh a d i) (Un.refl _) (by rw[t];intro a8 ba u;simp[rW] at u);rw[t] at j E;have:=congrArg Uy j;rw[Ye] at this;have H:=IM E n k;simp only[Om,rW,Nat.sub_self,Nat.add_zero] at this;rw[H] at this;exact this
 exact Qh (P0:=P0) L al q aa an ae a2 a5 ap (λbc r a9 bb a4 a6 ar T az=>J bc v r i a9 bb ⟨a,d,M⟩ a4 a6 ar T (aw.trans az)) Q
end
end Cc
namespace Cc
open Go Go.Conc
structure nR(P0 P:Ug)(S:Nat->Prop)(m:Bool)(X0:(Nat->Prop)->Uu->List Uu->F->Prop):Prop where
 step:∀own fr cs w,(∀w1,RelB (λb=>S b\/own b) w w1->∃fr' cs' w' es,UN P m (Uh fr cs) w1= .go (Uh fr' cs') w' es/\mq P0 S own w1 w' es/\X0 (cV own w1 w') fr' cs' w')->X0 own fr cs w
 rely:∀own fr cs w w1,X0 own fr cs w->RelB (λb=>S b\/own b) w w1->X0 own fr cs w1
def kw (P0 P:Ug)(Post:U->F->Prop)(S O:Nat->Prop)(μ:Nat->Option (List U))(g:UM)(w:F):Prop:=∃c,Mn P0 P Post c (.sh S O μ) g w
section
variable {P0 P:Ug}{Post:U->F->Prop}{S O:Nat->Prop}{μ:Nat->Option (List U)}{g:UM}{w:F}
def kX(P0 P:Ug)(S:Nat->Prop)(c:Nat)(vs:List U):nR P0 P S T8 (λown fr cs w=>pJ P0 P S c own vs (Uh fr cs) w):=
 ⟨λown fr cs w d=>tN Y λf e=>by
  obtain⟨fr',q,p,h,j,l,n⟩:=d f e;exact⟨_,p,h,j,l,n⟩,λown fr cs w f d e=>d.rely e⟩
def MR(h:∀c,RelB (λb=>S b\/O b) w c->∃g' w' es,UN P Z g c= .go g' w' es/\g'.status= .running/\mq P0 S O c w' es/\kw P0 P Post S (cV O c w') μ g' w'):kw P0 P Post S O μ g w:=by
 classical
 let f:F->Tr:=λc=>if d:RelB (λb=>S b\/O b) w c then Vr (Uw (Uw (Uw (h c d)))).2.2.2 else .fin
 refine⟨.mk f,nu.2 <| .inl λc d=>?_⟩;have e:=Uw (Uw (Uw (h c d)));have j:f c=Vr (Uw (Uw (Uw (h c d)))).2.2.2:=by
  show(if d:RelB (λb=>S b\/O b) w c then _ else _)=_;rw[dif_pos d]
 exact⟨_,_,_,e.1,e.2.1,e.2.2.1,Mn.cast j (Uw e.2.2.2)⟩
def dU(P0 P:Ug)(Post:U->F->Prop)(S:Nat->Prop)(μ:Nat->Option (List U)):nR P0 P S Z (λO fr cs w=>kw P0 P Post S O μ (Uh fr cs) w):=
 ⟨λown fr cs w c=>MR λe d=>by
  obtain⟨fr',q,p,f,h,j,l⟩:=c e d;exact⟨_,p,f,h,rfl,j,l⟩,λown fr cs w e c d=>by
  obtain⟨n,c⟩:=c;exact⟨n,c.j8 d⟩⟩
def JR{c cap:Nat}{l:List U}(p:O c)(s:l.length<=cap)(t:μ c=K)(hc:w.heap[c]? =I (.chan cap #[] T8 0 0 T8))(h:∀d,RelB (λb=>S b\/O b) w d->∃g' n,UN P Z g d= .spawn g' n d #[]/\g'.status= .running/\pJ P0 P S c (λ_=>False) l n d/\kw P0 P Post S (λb=>O b/\b≠c) (gh μ c (I l)) g' d):kw P0 P Post S O μ g w:=by
 classical
 let f:F->Tr:=λd=>if e:RelB (λb=>S b\/O b) w d then Vr (Uw (Uw (h d e))).2.2.2 else .fin
 refine⟨.mk f,nu.2 <| .inr (.inl ⟨c,l,cap,p,s,t,hc,λd e=>?_⟩)⟩;have j:=Uw (Uw (h d e));have r:f d=Vr (Uw (Uw (h d e))).2.2.2:=by
  show(if e:RelB (λb=>S b\/O b) w d then _ else _)=_;rw[dif_pos e]
 obtain⟨u,q⟩:=j.2.2.1;exact⟨_,_,u,j.1,j.2.1,q,Mn.cast r (Uw j.2.2.2)⟩
def MP{c:Nat}{z:U}{g2:UM}{v:U}{l:List U}(p:μ c=I (v::l))(n:g2.frame=g.frame/\g2.callers=g.callers/\g2.dying=g.dying)(h:∀d,RelB (λb=>S b\/O b) w d->UN P Z g d= .comm g2 #[rcase c z] Z (.recv Z) d #[]/\kw P0 P Post S O (gh μ c (I l)) (Wj g2 (recvd Z v Z)) d):kw P0 P Post S O μ g w:=by
 classical
 let f:F->Tr:=λd=>if e:RelB (λb=>S b\/O b) w d then Vr (h d e).2 else .fin
 refine⟨.mk f,nu.2 <| .inr (.inr (.inl ⟨c,z,g2,v::l,p,n,λd e=>⟨(h d e).1,?_⟩⟩))⟩;have j:f d=Vr (h d e).2:=by
  show(if e:RelB (λb=>S b\/O b) w d then _ else _)=_;rw[dif_pos e]
 exact Mn.cast j (Uw (h d e).2)
def MQ{c:Nat}{z:U}{g2:UM}(n:μ c=I [])(l:g2.frame=g.frame/\g2.callers=g.callers/\g2.dying=g.dying)(h:∀d,RelB (λb=>S b\/O b) w d->UN P Z g d= .comm g2 #[rcase c z] Z (.recv Z) d #[]/\kw P0 P Post S O (gh μ c K) (Wj g2 (recvd Z z T8)) d):kw P0 P Post S O μ g w:=by
 classical
 let f:F->Tr:=λd=>if e:RelB (λb=>S b\/O b) w d then Vr (h d e).2 else .fin
 refine⟨.mk f,nu.2 <| .inr (.inr (.inl ⟨c,z,g2,[],n,l,λd e=>⟨(h d e).1,?_⟩⟩))⟩;have j:f d=Vr (h d e).2:=by
  show(if e:RelB (λb=>S b\/O b) w d then _ else _)=_;rw[dif_pos e]
 exact Mn.cast j (Uw (h d e).2)
def MO(n:∀c,μ c=K)(h:∀d,RelB (λb=>S b\/O b) w d->xH P0 d->tS P0 P Post g d):kw P0 P Post S O μ g w:=by
 classical
 let f:F->Tr:=λd=>if e:RelB (λb=>S b\/O b) w d/\xH P0 d then Vr (h d e.1 e.2) else .fin
 refine⟨.mk f,nu.2 <| .inr (.inr (.inr ⟨n,λd e j=>?_⟩))⟩;have l:f d=Vr (h d e j):=by
  show(if e:RelB (λb=>S b\/O b) w d/\xH P0 d then _ else _)=_;rw[dif_pos ⟨e,j⟩]
 exact Mn.cast l (Uw (h d e j))
def JW(S O:Nat->Prop)(j:∀b,S b->b<w.heap.size/\¬O b)(e:∀b,O b->b<w.heap.size)(h:∀c,AtRel w c->kw P0 P Post S O (λ_=>K) g c):tS P0 P Post g w:=by
 classical
 let f:F->Tr:=λc=>if d:AtRel w c then Vr (h c d) else .fin
 refine⟨.mk f,nu.2 <| .inr (.inr ⟨S,O,j,e,λc d=>?_⟩)⟩;have l:f c=Vr (h c d):=by
  show(if d:AtRel w c then _ else _)=_;rw[dif_pos d]
 exact Mn.cast l (Uw (h c d))
end
section
variable {P0 P:Ug}{S:Nat->Prop}{m:Bool}{X0:(Nat->Prop)->Uu->List Uu->F->Prop}(hX:nR P0 P S m X0){own:Nat->Prop}{fr fr':Uu}{cs:List Uu}{w:F}{b:Uu}{a:V7}{k:List WO}{ops:Array Vv}{i:Nat}{rest:List Nat}{o:Vv}
def ny(own:Nat->Prop)(w:F):cV own w w=own:=by
 funext b;unfold cV;apply propext;constructor
 ·rintro(c|c)
  ·exact c
  ·omega
 ·exact .inl
def yw(P0:Ug){es:Array Vn}(c:∀e∈es,EvW S own e):mq P0 S own w w es:=⟨λ_ _ _=>rfl,T9 _,rfl,rfl,rfl,λd=>d,by rw[ny];exact c⟩
def kV(hX:nR P0 P S m X0){c:List Uu}(j:∀w,UN P m (Uh fr cs) w= .go (Uh fr' c) w)(f:X0 own fr' c w):X0 own fr cs w:=
 hX.step _ _ _ _ λd h=>⟨fr',c,d,#[],j d,yw P0 (λl e=>by simp at e),by rw[ny];exact hX.rely _ _ _ _ _ f h⟩
def LH(hX:nR P0 P S m X0)(l:b.kind≠.early)(p:ops[i]? =I o)(r:UG o (Vk ops a.tmps)=Z)
 (h:∀d,RelB (λb=>S b\/own b) w d->∃v w',(UI a.eval o).run P d= .ok (.value v) w'/\mq P0 S own d w' ((UI a.eval o).events P d #[])/\X0 (cV own d w') (b.at (a.put o.dst v) (.inRegion ops rest::k)) cs w'):X0 own (b.at a (.inRegion ops (i::rest)::k)) cs w:=
 hX.step _ _ _ _ λd q=>by
  obtain⟨v,w',f,c,j⟩:=h d q;refine⟨_,_,_,_,stepG_value p r l f,⟨c.keep,c.size,c.tape,c.os,c.output,c.hp,λe n=>c.evs e (Conc.mem_listed n)⟩,j⟩
def oy(hX:nR P0 P S m X0)(f:b.kind≠.early)(l:ops[i]? =I o)(n:UG o (Vk ops a.tmps)=Z)(v:U)
 (h:∀c,RelB (λb=>S b\/own b) w c->(UI a.eval o).run P c= .ok (.value v) c/\∀e∈(UI a.eval o).events P c #[],EvW S own e) (j:X0 own (b.at (a.put o.dst v) (.inRegion ops rest::k)) cs w):X0 own (b.at a (.inRegion ops (i::rest)::k)) cs w:=
 LH hX f l n λc d=>⟨v,c,(h c d).1,yw P0 (h c d).2,by rw[ny];exact hX.rely _ _ _ _ _ j d⟩
end
def aV (a:V7)(s:Nat):U:=a.tmps.getD s Vl
def SY (ops:Array Vv)(l:Array Bool)(s:Nat):Prop:=∃b c,l.getD b T8=Z/\ops[b]? =I c/\c.dst=I s
structure cJ(ops:Array Vv)(Ph:Nat->Bool)(a0 z:V7)(l:Array Bool)(a:V7):Prop where
 size:l.size=ops.size
 closed:∀(i:Nat) o,l.getD i T8=Z->ops[i]? =I o->∀e∈o.after,Vo .any e=Z->l.getD e.on T8=Z
 ph:∀i:Nat,l.getD i T8=Z->Ph i=Z
 QH:a.tmps.size=z.tmps.size
 R8:a.defers=z.defers
 yes:∀s,SY ops l s->aV a s=aV z s
 no:∀s,¬SY ops l s->aV a s=aV a0 s
def Mv:Op->Bool
 | .select _ _=>Z
 |_=>T8
def oJ (ops:Array Vv)(Ph:Nat->Bool):Bool:=(UL ops.size).all λd=>match ops[d]? with
 |none=>Z
 |some c=> !Mv c.op&&((c.looksAt ops).all λs=>(c.after.toList.any λb=>Vo .any b&&((ops[b.on]?).bind (·.dst))==I s)||(UL ops.size).all λe=> !Ph e||((ops[e]?).bind (·.dst)) !=I s)&&(match c.guard with|some (f,_)=>((ops[f]?).bind (·.dst)).isSome|none=>Z)&&c.after.toList.all λb=> !Vo .any b||decide (b.on<d)
def PE (ops:Array Vv)(Ph:Nat->Bool)(u:Nat):Bool:=(UL ops.size).all λb=>Ph b||b==u||match ops[b]? with
 |none=>Z
 |some d=>d.after.toList.any λc=>Vo .any c && !Ph c.on
def E6 (l:Array Bool):Nat:=l.toList.countP (!·)
theorem countP_set:∀(x:List Bool) (i:Nat),x[i]? =I T8->(x.set i Z).countP (!·)+1=x.countP (!·)
 | [],i,c=>by simp at c
 |b::d,0,c=>by simp at c;subst c;simp
 |b::d,i+1,c=>by
  have:=countP_set d i (by simpa using c);simp only[Ul,List.countP_cons];omega
def qZ{l:Array Bool}{i:Nat}(b:i<l.size)(h:l.getD i Z=T8):E6 (l.setIfInBounds i Z)+1=E6 l:=by
 unfold E6;rw[Array.toList_setIfInBounds];refine countP_set _ _ ?_;have:l[i]? =I l[i]:=UW b;simp only[UE,this,V3] at h;rw[Array.getElem?_toList,this,h]
def kZ{l:Array Bool}{i j:Nat}(d:i<l.size):(l.setIfInBounds i Z).getD j T8=(decide (j=i)||l.getD j T8):=by
 simp only[UE,UQ];by_cases b:i=j
 ·subst b;simp[d]
 ·have:¬j=i:=λc=>b c.symm;simp[b,this]
def mem_ready{ops:Array Vv}{l:Array Bool}{i:Nat}(h:i∈U0 .any ops l):∃o,ops[i]? =I o/\i<ops.size/\l.getD i Z=T8/\∀e∈o.after,Vo .any e=Z->l.getD e.on T8=Z:=by
 unfold U0 at h;obtain⟨f,b⟩:=List.mem_filter.1 h;have c:=Vu.1 f;simp only[Ux,WR] at b;have d:ops[i]? =I ops[i]:=UW c;rw[d] at b;simp only[V4,V3] at b;refine⟨_,d,c,b.1,λe j g=>?_⟩;have:=Array.all_eq_true.1 b.2;obtain⟨m,k,rfl⟩:=Array.mem_iff_getElem.1 j;have:=this m k;simpa [g] using this
def Gu{ops:Array Vv}{Ph:Nat->Bool}{l:Array Bool}(p:l.size=ops.size)(n:oJ ops Ph=Z)(h:U0 .any ops l=[]):∀i,i<ops.size->l.getD i T8=Z:=by
 intro i
 induction i using Nat.strongRecOn with
 |_ i o=>
  intro b;cases j:l.getD i T8 with
  |true=>rfl
  |false=>
   exfalso
   have:i∈U0 .any ops l:=by
    unfold U0;refine List.mem_filter.2 ⟨Vu.2 b,?_⟩;have d:ops[i]? =I ops[i]:=UW b;have c:=UA.1 n i (Vu.2 b);rw[d] at c;simp only[Ux,UA] at c;have k:l.getD i Z=T8:=by
     have:l[i]? =I l[i]:=UW (by omega);simpa [UE,this] using j
    rw[d,k];simp only[Bool.not_false,Bool.true_and,V4,V3,Array.all_eq_true];intro e g;have:=c.2 _ (Array.getElem_mem_toList g);cases f:Vo .any (ops[i].after[e]) with
    |false=>rfl
    |true=>
     rw[f] at this;have m:ops[i].after[e].on<i:=by simpa using this
     simpa using o _ m (by omega)
   rw[h] at this;cases this
section
variable {ops:Array Vv}{Ph:Nat->Bool}{a0 z:V7}{l:Array Bool}{a:V7}
def cJ.looks(h:cJ ops Ph a0 z l a)(w:oJ ops Ph=Z)(y:∀s,(∀(j:Nat) o,Ph j=Z->ops[j]? =I o->o.dst≠I s)->aV z s=aV a0 s){i:Nat}{o:Vv}(n:ops[i]? =I o)(p:∀e∈o.after,Vo .any e=Z->l.getD e.on T8=Z):∀s∈o.looksAt ops,aV a s=aV z s:=by
 intro s x;have r:i<ops.size:=(Uc.1 n).1;have k:=UA.1 w i (Vu.2 r);rw[n] at k;simp only[Ux,UA] at k;have:=k.1.1.2 s x;rw[WV] at this;rcases this with f|f
 ·obtain⟨e,q,g⟩:=List.any_eq_true.1 f;simp only[Ux,beq_iff_eq] at g;obtain⟨d,u,b⟩:=US.1 g.2;exact h.yes s ⟨e.on,d,p e (by simpa using q) g.1,u,b⟩
 ·have m:∀(j:Nat) o,Ph j=Z->ops[j]? =I o->o.dst≠I s:=λj d v c b=>by
   have:=UA.1 f j (Vu.2 (Uc.1 c).1);rw[c] at this;simp[b,v] at this
  rw[y s m];exact h.no s fun⟨j,d,t,c,b⟩=>m j d (h.ph j t) c b
def cJ.exec(m:cJ ops Ph a0 z l a)(t:oJ ops Ph=Z)(B:∀s,(∀(j:Nat) o,Ph j=Z->ops[j]? =I o->o.dst≠I s)->aV z s=aV a0 s){i:Nat}{o:Vv}(n:ops[i]? =I o)(w:∀e∈o.after,Vo .any e=Z->l.getD e.on T8=Z):UI a.eval o=UI z.eval o/\UG o (Vk ops a.tmps)=UG o (Vk ops z.tmps):=by
 have r:=m.looks t B n w;have x:i<ops.size:=(Uc.1 n).1;have f:=UA.1 t i (Vu.2 x);rw[n] at f;simp only[Ux] at f;refine⟨execOp_congr o (λE D e=>by have:=f.1.1.1;rw[e] at this;cases this) λC y=>?_,?_⟩
 ·cases C with
  |tmp u=>exact r u (List.mem_append_left _ (List.mem_filterMap.2 ⟨.tmp u,by simpa using y,rfl⟩))
  |_=>rfl
 ·unfold UG;cases q:o.guard with
  |none=>rfl
  |some v=>
   obtain⟨j,F⟩:=v;have k:=f.1.2;rw[q] at k;dsimp only at k ⊢;obtain⟨b,p⟩:=Option.isSome_iff_exists.1 k;have d:aV a b=aV z b:=r b (List.mem_append_right _ (by rw[q];simp[p]));have A:Vk ops a.tmps j=Vk ops z.tmps j:=by
    unfold Vk;rw[p];simp only[XT];unfold aV at d;simp only[UE] at d;rcases Vz b z.tmps.size with c|c
    ·have g:z.tmps[b]? =I z.tmps[b]:=UW c;have h:a.tmps[b]? =I (a.tmps[b]'(by rw[m.QH];exact c)):=UW _;rw[g,h] at d ⊢;simp only[V3] at d;rw[d]
    ·have g:z.tmps[b]? =K:=Vm c;have h:a.tmps[b]? =K:=Vm (by rw[m.QH];exact c);rw[g,h]
   rw[A]
def cJ.next(b:cJ ops Ph a0 z l a){i:Nat}{o:Vv}(D:Ph i=Z)(n:ops[i]? =I o)(A:∀e∈o.after,Vo .any e=Z->l.getD e.on T8=Z){v:U}(y:∀d,o.dst=I d->d<z.tmps.size/\aV z d=v):cJ ops Ph a0 z (l.setIfInBounds i Z) (a.put o.dst v):=by
 have j:i<l.size:=by rw[b.size];exact(Uc.1 n).1
 have t:∀s,SY ops (l.setIfInBounds i Z) s↔o.dst=I s\/SY ops l s:=by
  intro s;constructor
  ·rintro⟨g,k,f,h,m⟩;rw[kZ j] at f;simp only[WV,decide_eq_true_eq] at f;rcases f with rfl|f
   ·rw[n] at h;cases h;exact .inl m
   ·exact .inr ⟨g,k,f,h,m⟩
  ·rintro(q|⟨g,k,f,h,m⟩)
   ·exact⟨i,o,by rw[kZ j];simp,n,q⟩
   ·exact⟨g,k,by rw[kZ j,f];simp,h,m⟩
 have x:∀s,aV (a.put o.dst v) s=if o.dst=I s then v else aV a s:=by
  intro s;unfold aV UX;cases B:o.dst with
  |none=>simp
  |some d=>
   have C:=(y d B).1;simp only[UE,UQ,U9];by_cases e:d=s
   ·subst e;simp[b.QH,C]
   ·simp[e]
 refine⟨by simp[b.size],λg k c r e w u=>?_,λg c=>?_,?_,?_,λs p=>?_,λs p=>?_⟩
 ·rw[kZ j] at c ⊢;simp only[WV,decide_eq_true_eq] at c ⊢;rcases c with rfl|c
  ·rw[n] at r;cases r;exact .inr (A e w u)
  ·exact .inr (b.closed g k c r e w u)
 ·rw[kZ j] at c;simp only[WV,decide_eq_true_eq] at c;rcases c with rfl|c
  ·exact D
  ·exact b.ph g c
 ·unfold UX;split
  ·simp[b.QH]
  ·exact b.QH
 ·unfold UX;split
  ·exact b.R8
  ·exact b.R8
 ·rw[x]
  split
  ·rename_i e;exact((y s e).2).symm
  ·rename_i e;exact b.yes s (((t s).1 p).resolve_left e)
 ·rw[x,if_neg λe=>p ((t s).2 (.inl e))];exact b.no s λq=>p ((t s).2 (.inr q))
def cJ.start(a0 z:V7)(f:a0.tmps.size=z.tmps.size)(e:a0.defers=z.defers):cJ ops Ph a0 z (U4 ops.size T8) a0:=by
 have d:∀c:Nat,(U4 ops.size T8).getD c T8=T8:=λc=>by
  simp only[UE,Array.getElem?_replicate]
  split<;>rfl
 refine⟨by simp,λc g b=>?_,λc b=>?_,f,e,λs ⟨c,g,b,_⟩=>?_,λs _=>rfl⟩
 ·rw[d] at b;cases b
 ·rw[d] at b;cases b
 ·rw[d] at b;cases b
def cJ.all(d:cJ ops Ph a0 z l a)(t:∀s,(∀(j:Nat) o,Ph j=Z->ops[j]? =I o->o.dst≠I s)->aV z s=aV a0 s)(h:∀i,i<ops.size->l.getD i T8=Z):a=z:=by
 have r:∀s,aV a s=aV z s:=λs=>by
  by_cases f:∃(j:Nat) (o:Vv),ops[j]? =I o/\o.dst=I s
  ·obtain⟨j,o,b,c⟩:=f;exact d.yes s ⟨j,o,h j (Uc.1 b).1,b,c⟩
  ·have e:∀(j:Nat) o,ops[j]? =I o->o.dst≠I s:=λj o b c=>f ⟨j,o,b,c⟩;rw[t s λj o _=>e j o];exact d.no s fun⟨j,o,_,b,c⟩=>e j o b c
 obtain⟨u,g⟩:=a;obtain⟨v,k⟩:=z;have n:g=k:=d.R8;have m:u=v:=by
  refine Array.ext d.QH λi p q=>?_;have:=r i;unfold aV at this;simpa [UE,p,q] using this
 rw[m,n]
def cJ.QU(d:cJ ops Ph a0 z l a){u:Nat}(y:∀s,(∀(j:Nat) o,Ph j=Z->ops[j]? =I o->o.dst≠I s)->aV z s=aV a0 s)(x:Ph u=T8)(h:∀i,i<ops.size->i≠u->l.getD i T8=Z):a=z:=by
 have w:∀s,aV a s=aV z s:=λs=>by
  by_cases g:∃(j:Nat) (o:Vv),Ph j=Z/\ops[j]? =I o/\o.dst=I s
  ·obtain⟨j,o,e,b,c⟩:=g;exact d.yes s ⟨j,o,h j (Uc.1 b).1 (λn=>by rw[n,x] at e;cases e),b,c⟩
  ·have f:∀(j:Nat) o,Ph j=Z->ops[j]? =I o->o.dst≠I s:=λj o e b c=>g ⟨j,o,e,b,c⟩;rw[y s f];exact d.no s fun⟨j,o,v,b,c⟩=>f j o (d.ph j v) b c
 obtain⟨A,k⟩:=a;obtain⟨B,m⟩:=z;have q:k=m:=d.R8;have p:A=B:=by
  refine Array.ext d.QH λi r t=>?_;have:=w i;unfold aV at this;simpa [UE,r,t] using this
 rw[p,q]
def drawn{Dn:Nat->Bool}{val:Nat->U}{u:Nat}{G:List Nat->V7->Prop}(C:oJ ops Ph=Z)(L:PE ops Ph u=Z)
 (W:∀(i:Nat) o d,Ph i=Z->ops[i]? =I o->o.dst=I d->d<z.tmps.size/\aV z d=val i)
 (D:∀s,(∀(j:Nat) o,Ph j=Z->ops[j]? =I o->o.dst≠I s)->aV z s=aV a0 s)
 (S:∀i o a todo,Ph i=Z->Dn i=T8->i≠u->ops[i]? =I o->UI a.eval o=UI z.eval o->UG o (Vk ops a.tmps)=UG o (Vk ops z.tmps)->G todo (a.put o.dst (val i))->G (i::todo) a)
 (V:∀c t l a,cJ ops Ph a0 z l a->u∈U0 .any ops l->E6 l<=c+1->G (u::Va .any ops c t (l.setIfInBounds u Z) []) a)
 (O:(∀i,i<ops.size->Ph i=Z)->G [] z):
 ∀(c t:Nat) (l:Array Bool) (a:V7),cJ ops Ph a0 z l a->(∀i,Dn i=Z->l.getD i T8=Z)->E6 l<=c->G (Va .any ops c t l []) a:=by
 have done:∀l a,cJ ops Ph a0 z l a->U0 .any ops l=[]->G [] a:=λl a b k=>by
  have y:=Gu b.size C k;rw[b.all D y];exact O λi e=>b.ph i (y i e)
 intro c
 induction c with
 |zero=>
  intro t l a b q B;simp only[Va,List.reverse_nil];refine done l a b ?_;cases k:U0 .any ops l with
  |nil=>rfl
  |cons i Y=>
   obtain⟨o,_,e,f,_⟩:=mem_ready (ops:=ops) (l:=l) (i:=i) (by rw[k];exact Xu ..);have:=qZ (by rw[b.size];exact e) f;omega
 |succ c X=>
  intro t l a b q B;simp only[Va];change G (match (U0 .any ops l)[t%(U0 .any ops l).length]? with
   |some i=>Va .any ops c (t/(U0 .any ops l).length) (l.setIfInBounds i Z) [i]
   |none=>[].reverse) a
  cases e:(U0 .any ops l)[t%(U0 .any ops l).length]? with
  |none=>
   have R:U0 .any ops l=[]:=by
    cases k:U0 .any ops l with
    |nil=>rfl
    |cons E F=>
     rw[k] at e;have g:t%(E::F).length<(E::F).length:=Nat.mod_lt _ (by simp);simp at e;simp at g;omega
   exact done l a b R
  |some i=>
   simp only[];rw[linearise_go_acc,List.reverse_singleton,List.singleton_append];have A:=List.mem_of_getElem? e;obtain⟨o,h,g,f,r⟩:=mem_ready A;by_cases w:i=u
   ·subst w;exact V c _ l a b A B
   ·have x:Ph i=Z:=by
     have:=UA.1 L i (Vu.2 g);cases T:Ph i with
     |true=>rfl
     |false=>
      rw[T,h] at this;simp only[Bool.false_or,WV,beq_iff_eq] at this;rcases this with p|p
      ·exact absurd p w
      ·obtain⟨n,N,v⟩:=List.any_eq_true.1 p;simp only[Ux,WR] at v;have:=b.ph _ (r n (by simpa using N) v.1);rw[v.2] at this;cases this
    obtain⟨m,J⟩:=b.exec C D h r;have K:Dn i=T8:=by
     cases n:Dn i with
     |false=>rfl
     |true=>
      have m:=q i n;have Q:i<l.size:=by rw[b.size];exact g
      have H:l[i]? =I l[i]:=UW Q;simp only[UE,H,V3] at m f;rw[m] at f;cases f
    refine S i o a _ x K w h m J (X _ _ _ (b.next x h r λd M=>W i o d x h M) (λj P=>by
     rw[kZ (by rw[b.size];exact g),q j P];simp) ?_)
    have:=qZ (by rw[b.size];exact g) f;omega
end
section
variable {P0 P:Ug}{S:Nat->Prop}{m:Bool}{X0:(Nat->Prop)->Uu->List Uu->F->Prop}{own:Nat->Prop}{cs:List Uu}{w:F}{b:Uu}{a:V7}{k:List WO}{ops:Array Vv}{i:Nat}{rest:List Nat}{o:Vv}
def aQ(c:nR P0 P S m X0){c1 c2:WX}(d:X0 own (b.at a (.code c1 :: .code c2::k)) cs w):X0 own (b.at a (.code (.seq c1 c2)::k)) cs w:=kV c (λw=>stepG_seq) d
def dw(c:nR P0 P S m X0){x:U7}{c1 c2:WX}(y:Bool)(e:a.eval x= .bool y)(d:X0 own (b.at a (.code (if y then c1 else c2)::k)) cs w):X0 own (b.at a (.code (.cond x c1 c2)::k)) cs w:=kV c (λw=>stepG_cond e) d
def gC(d:nR P0 P S m X0){id:Nat}{c:WX}(e:X0 own (b.at a (.code c :: .inBlock id::k)) cs w):X0 own (b.at a (.code (.block id c)::k)) cs w:=kV d (λw=>stepG_block) e
def iK(c:nR P0 P S m X0){id:Nat}(d:X0 own (b.at a k) cs w):X0 own (b.at a (.inBlock id::k)) cs w:=kV c (λw=>stepG_inBlock) d
def uf(d:nR P0 P S m X0){c:WX}(e:X0 own (b.at a (.code c :: .inLoop c::k)) cs w):X0 own (b.at a (.code (.loop c)::k)) cs w:=kV d (λw=>stepG_loop) e
def kW(d:nR P0 P S m X0){c:WX}(e:X0 own (b.at a (.code c :: .inLoop c::k)) cs w):X0 own (b.at a (.inLoop c::k)) cs w:=kV d (λw=>stepG_inLoop) e
def ij(c:nR P0 P S m X0)(d:X0 own (b.at a k) cs w):X0 own (b.at a (.code .skip::k)) cs w:=kV c (λw=>stepG_skip) d
def ue(c:nR P0 P S m X0){id:Nat}{k':List WO}(d:Yi id k=I k')(e:X0 own (b.at a k') cs w):X0 own (b.at a (.code (.exit id)::k)) cs w:=kV c (λw=>stepG_exit d) e
def pM(c:nR P0 P S m X0)(d:X0 own {b.at a (.code .ret::k) with mode:=.returning} cs w):X0 own (b.at a (.code .ret::k)) cs w:=kV c (λw=>by simp[Uh,UN,UJ,Frame.at]) d
def LF(c:nR P0 P S m X0)(d:X0 own {b.at a [] with mode:=.returning} cs w):X0 own (b.at a []) cs w:=kV c (λw=>stepG_end) d
def LG(c:nR P0 P S m X0){id:Nat}(d:X0 own (b.at a (.inRegion ops (UL ops.size)::k)) cs w):X0 own (b.at a (.code (.region id ops T8)::k)) cs w:=kV c (λw=>stepG_region) d
def ak(c:nR P0 P S m X0)(d:X0 own (b.at a k) cs w):X0 own (b.at a (.inRegion ops []::k)) cs w:=kV c (λw=>stepG_region_end) d
def Q0(d:nR P0 P S m X0){id:Nat}(h:P.follows .mixedOrders=Z)(g:∀t,X0 own (b.at a (.inRegion ops (Va .any ops ops.size t (U4 ops.size T8) [])::k)) cs w):X0 own (b.at a (.code (.region id ops Z)::k)) cs w:=
 d.step _ _ _ _ λc n=>by
  have e:UN P m (Uh (b.at a (.code (.region id ops Z)::k)) cs) c= .go (Uh (b.at a (.inRegion ops (X3 (P.follows .mixedOrders) ops (c.tape c.drawn (.order b.fn id)))::k)) cs) {c with drawn:=c.drawn+1}:=by
   simp[Uh,UN,UJ,Frame.at,choose,Wu,Question.forced,Question.cut]
  have p:∀t,X3 (P.follows .mixedOrders) ops t=Va .any ops ops.size t (U4 ops.size T8) []:=λt=>by
   simp only[X3,h,Bool.true_or,if_true];rfl
  rw[p] at e;have j:cV own c {c with drawn:=c.drawn+1}=cV own c c:=rfl;refine⟨_,_,_,_,e,⟨λ_ _ _=>rfl,T9 _,rfl,rfl,rfl,λq=>q,λr f=>by simp at f⟩,?_⟩;rw[j,ny];exact d.rely _ _ _ _ _ (g _) (n.trans ⟨λ_ _=>rfl,T9 _,rfl,rfl,rfl⟩)
def xU(d:nR P0 P S m X0)(c:ops[i]? =I o)(g:UG o (Vk ops a.tmps)=T8)(f:X0 own (b.at (a.put o.dst Vl) (.inRegion ops rest::k)) cs w):X0 own (b.at a (.inRegion ops (i::rest)::k)) cs w:=by
 refine kV d (λw=>?_) f;have e:(b.at a (.inRegion ops (i::rest)::k)).finish Vl=b.at (a.put o.dst Vl) (.inRegion ops rest::k):=by rw[XI,c];rfl
 rw[<-e];simp[Uh,UN,UJ,stepG.oper,Frame.oper?,Frame.at,c,g]
def mD(e:nR P0 P S m X0)(f:b.kind≠.early)(j:ops[i]? =I o)(n:UG o (Vk ops a.tmps)=Z)(v:U)
 (h:∀c,(UI a.eval o).run P c= .ok (.value v) c/\(UI a.eval o).events P c #[]=#[]) (g:X0 own (b.at (a.put o.dst v) (.inRegion ops rest::k)) cs w):X0 own (b.at a (.inRegion ops (i::rest)::k)) cs w:=
 oy e f j n v (λc _=>⟨(h c).1,λp d=>by rw[(h c).2] at d;simp at d⟩) g
def H7(j:nR P0 P S m X0){f:V2}{fn:WD}{c:WX}{args:Array U7}{ats:Array Ui}(p:b.kind≠.early)(r:ops[i]? =I o)(s:UG o (Vk ops a.tmps)=Z)(h:o.op= .call {callee:=.value (.func f),args,argTypes:=ats})
 (e:P.funcs[f]? =I fn) (g:(fn.name == "runtime.NumGoroutine")=T8) (n:fn.body=I c) (q:X0 own (UZ P f (args.map a.eval) .normal) (b.at a (.inRegion ops (i::rest)::k)::cs) w):X0 own (b.at a (.inRegion ops (i::rest)::k)) cs w:=by
 have d:fn.body.isNone=T8:=by rw[n];rfl
 refine kV j (λw=>?_) q;rw[stepG_enter r s p (run_call_body h e g d)];have:listed P b.fn a o w=#[]:=by unfold listed;rw[events_call_body h e g d];exact Conc.seen_none P _
 rw[this]
def Oz(d:nR P0 P S m X0){fn:WD}{todo:List WO}{c:Uu}{a0:V7}{v:U}(j:b.kind= .normal)(e:a.defers=[])(g:P.funcs[b.fn]? =I fn)(p:∀w,(UY fn a.tmps).run P w= .ok v w)(f:∀w,(UY fn a.tmps).events P w #[]=#[])(n:ops[i]? =I o)
 (h:X0 own (c.at (a0.put o.dst v) (.inRegion ops rest::k)) cs w):X0 own {b.at a todo with mode:=.returning} (c.at a0 (.inRegion ops (i::rest)::k)::cs) w:=by
 refine kV d (λw=>?_) h;rw[stepG_leave j e g (p w) (f w),XI,n];rfl
def jP (n:Nat)(S own:Nat->Prop)(e:Vn):Prop:=(∃m,e.loc= .mark m/\Neutral m)\/(∃c:UK,e.loc= .cell c/\(c.block=n\/own c.block\/(S c.block/\e.write=T8)))
def jP.ev{n:Nat}{own':Nat->Prop}(f:own' n)(g:∀b,own b->own' b){e:Vn}(h:jP n S own e):EvW S own' e:=by
 unfold EvW;rcases h with⟨m,h,d⟩|⟨j,h,c⟩
 ·rw[h];exact d
 ·rw[h];rcases c with rfl|c|c
  ·exact .inl f
  ·exact .inl (g _ c)
  ·exact .inr c
def tR (S own:Nat->Prop)(w:F):Prop:=∀b,S b\/own b->b<w.heap.size
def mC(y:nR P0 P S m X0)(C:tR S own w)(A:b.kind≠.early)(E:ops[i]? =I o)(F:UG o (Vk ops a.tmps)=Z)(j:Xx)(G:bk P0 j)(u:Nat->U)
 (h:∀c,RelB (λb=>S b\/own b) w c->∃w',(UI a.eval o).run P c= .ok (.value (u c.heap.size)) w'/\w'.heap=c.heap.push j/\w'.tape=c.tape/\w'.os=c.os/\w'.output=c.output/\∀e∈(UI a.eval o).events P c #[],jP c.heap.size S own e)
 (D:∀n w',w.heap.size<=n->w'.heap.size=n+1->RelB (λb=>S b\/own b) w w'->w'.heap[n]? =I j->X0 (λb=>own b\/b=n) (b.at (a.put o.dst (u n)) (.inRegion ops rest::k)) cs w'):X0 own (b.at a (.inRegion ops (i::rest)::k)) cs w:=
 LH y A E F λc d=>by
  obtain⟨w',v,g,p,q,r,x⟩:=h c d;have t:cV own c w'=λb=>own b\/b=c.heap.size:=by
   funext H;unfold cV;rw[g,Array.size_push];apply propext;constructor
   ·rintro(h|h)
    ·exact .inl h
    ·exact .inr (by omega)
   ·rintro(h|h)
    ·exact .inl h
    ·exact .inr (by omega)
  have s:∀b:Nat,b<c.heap.size->w'.heap[b]? =c.heap[b]? :=λb f=>by
   rw[g,VD];rw[if_neg (by omega)]
  refine⟨_,w',v,⟨λb f _=>s b f,by rw[g];simp,p,q,r,λ_=>trivial,λe B=>?_⟩,?_⟩
  ·rw[t];exact(x e B).ev (.inr Y) (λb f=>.inl f)
  ·rw[t];refine D c.heap.size w' d.size (by rw[g];simp) ⟨λb f=>?_,by rw[g];simp;have:=d.size;omega,p.trans d.tape,q.trans d.os,r.trans d.output⟩ (by rw[g];simp);rw[<-d.at_ b f];exact s b (Ue (C b f) d.size)
def tR.new{n:Nat}{w':F}(h:tR S own w)(d:w.heap.size<=n)(e:w'.heap.size=n+1):tR S (λb=>own b\/b=n) w':=λb c=>by
 rcases c with c|c|c
 ·have:=h b (.inl c);omega
 ·have:=h b (.inr c);omega
 ·omega
def Q1(j:nR P0 P S m X0)(n:b.kind≠.early)(q:ops[i]? =I o)(s:UG o (Vk ops a.tmps)=Z)
 (h:∀d,RelB (λb=>S b\/own b) w d->∃w',(UI a.eval o).run P d= .ok .skip w'/\mq P0 S own d w' ((UI a.eval o).events P d #[])/\X0 (cV own d w') (b.at (a.put o.dst Vl) (.inRegion ops rest::k)) cs w'):X0 own (b.at a (.inRegion ops (i::rest)::k)) cs w:=
 j.step _ _ _ _ λd r=>by
  obtain⟨w',f,c,g⟩:=h d r;exact⟨_,_,_,_,stepG_none q s n f,⟨c.keep,c.size,c.tape,c.os,c.output,c.hp,λe p=>c.evs e (Conc.mem_listed p)⟩,g⟩
structure zX(S own:Nat->Prop)(n:Nat)(ob:Xx)(w w':F):Prop where
 at_:∀b,S b\/own b->b≠n->w'.heap[b]? =w.heap[b]?
 set:w'.heap[n]? =I ob
 size:w.heap.size<=w'.heap.size
 tape:w'.tape=w.tape
 os:w'.os=w.os
 output:w'.output=w.output
structure xJ(n:Nat)(ob:Xx)(w1 w':F):Prop where
 heap:w'.heap=w1.heap.setIfInBounds n ob
 tape:w'.tape=w1.tape
 os:w'.os=w1.os
 output:w'.output=w1.output
def xJ.Sq{n:Nat}{g:Xx}{c w':F}{es:Array Vn}(h:xJ n g c w')(j:own n)(u:n<c.heap.size)(y:bk P0 g)(t:∀e∈es,jP n S own e)(d:RelB (λb=>S b\/own b) w c):mq P0 S own c w' es/\cV own c w'=own/\zX S own n g w w':=by
 have x:w'.heap.size=c.heap.size:=by rw[h.heap];simp
 have p:∀b:Nat,b≠n->w'.heap[b]? =c.heap[b]? :=λb f=>by rw[h.heap,UQ,if_neg (λe=>f e.symm)]
 have q:cV own c w'=own:=by
  funext A;unfold cV;rw[x];apply propext;constructor
  ·rintro(h|h)
   ·exact h
   ·omega
  ·exact .inl
 refine⟨⟨λb f v=>p b (λe=>v (e▸j)),by omega,h.tape,h.os,h.output,λ_=>trivial,λe r=>?_⟩,q,⟨λb f s=>(p b s).trans (d.at_ b f),by rw[h.heap,UQ,if_pos Y,if_pos u],by have:=d.size;omega,h.tape.trans d.tape,h.os.trans d.os,h.output.trans d.output⟩⟩
 ·rw[q];exact(t e r).ev j (λ_ h=>h)
def sb(u:nR P0 P S m X0)(x:tR S own w)(v:b.kind≠.early)(A:ops[i]? =I o)(C:UG o (Vk ops a.tmps)=Z){n:Nat}(g:own n)(f:Xx)(B:bk P0 f)
 (h:∀c,RelB (λb=>S b\/own b) w c->∃w',(UI a.eval o).run P c= .ok .skip w'/\xJ n f c w'/\∀e∈(UI a.eval o).events P c #[],jP n S own e)
 (y:∀w',zX S own n f w w'->X0 own (b.at (a.put o.dst Vl) (.inRegion ops rest::k)) cs w'):X0 own (b.at a (.inRegion ops (i::rest)::k)) cs w:=
 Q1 u v A C λc d=>by
  obtain⟨w',r,s,t⟩:=h c d;obtain⟨j,p,q⟩:=s.Sq (P0:=P0) g (Ue (x n (.inr g)) d.size) B t d;exact⟨w',r,j,by rw[p];exact y w' q⟩
def Q3(u:nR P0 P S m X0)(y:tR S own w)(x:b.kind≠.early)(B:ops[i]? =I o)(D:UG o (Vk ops a.tmps)=Z){n:Nat}(g:own n)(f:Xx)(C:bk P0 f)(v:U)
 (h:∀c,RelB (λb=>S b\/own b) w c->∃w',(UI a.eval o).run P c= .ok (.value v) w'/\xJ n f c w'/\∀e∈(UI a.eval o).events P c #[],jP n S own e)
 (A:∀w',zX S own n f w w'->X0 own (b.at (a.put o.dst v) (.inRegion ops rest::k)) cs w'):X0 own (b.at a (.inRegion ops (i::rest)::k)) cs w:=
 LH u x B D λc d=>by
  obtain⟨w',r,s,t⟩:=h c d;obtain⟨j,p,q⟩:=s.Sq (P0:=P0) g (Ue (y n (.inr g)) d.size) C t d;exact⟨v,w',r,j,by rw[p];exact A w' q⟩
def tR.set{n:Nat}{e:Xx}{w':F}(h:tR S own w)(d:zX S own n e w w'):tR S own w':=λb c=>Ue (h b c) d.size
def Oy(q:nR P0 P S m X0)(x:b.kind≠.early){Ph Dn:Nat->Bool}{z:V7}{val:Nat->U}{u:Nat}{a0:V7}(G:oJ ops Ph=Z)(v:PE ops Ph u=Z)
 (J:∀(i:Nat) o d,Ph i=Z->ops[i]? =I o->o.dst=I d->d<z.tmps.size/\aV z d=val i)
 (K:∀s,(∀(j:Nat) o,Ph j=Z->ops[j]? =I o->o.dst≠I s)->aV z s=aV a0 s)
 (D:∀i o,Ph i=Z->Dn i=T8->i≠u->ops[i]? =I o->(UG o (Vk ops z.tmps)=Z/\∀c,RelB (λb=>S b\/own b) w c->(UI z.eval o).run P c= .ok (.value (val i)) c/\∀e∈(UI z.eval o).events P c #[],EvW S own e)\/(UG o (Vk ops z.tmps)=T8/\val i=Vl))
 (H:∀f t l a,cJ ops Ph a0 z l a->u∈U0 .any ops l->E6 l<=f+1->X0 own (b.at a (.inRegion ops (u::Va .any ops f t (l.setIfInBounds u Z) [])::k)) cs w)
 (B:(∀i,i<ops.size->Ph i=Z)->X0 own (b.at z (.inRegion ops []::k)) cs w):
 ∀(f t:Nat) (l:Array Bool) (a:V7),cJ ops Ph a0 z l a->(∀i,Dn i=Z->l.getD i T8=Z)->E6 l<=f->X0 own (b.at a (.inRegion ops (Va .any ops f t l [])::k)) cs w:=
 drawn (G:=λl a=>X0 own (b.at a (.inRegion ops l::k)) cs w) G v J K (λi o a L E y C p A r n=>by
  rcases D i o E y C p with⟨g,h⟩|⟨g,h⟩
  ·exact oy q x p (r.trans g) (val i) (λc F=>by rw[A];exact h c F) n
  ·rw[h] at n;exact xU q p (r.trans g) n) H B
end
section
variable {ops:Array Vv}{Ph Lc:Nat->Bool}{a0 z z':V7}{l:Array Bool}{a:V7}
def cJ.TE(c:cJ ops Ph a0 z l a){u:Nat}{o:Vv}(y:u∈U0 .any ops l)(f:ops[u]? =I o)(r:∀i,Ph i=Z->Lc i=Z)(C:Lc u=Z)(A:z'.tmps.size=z.tmps.size)(x:z'.defers=z.defers)
 (E:∀(i:Nat) o d,Ph i=Z->ops[i]? =I o->o.dst=I d->aV z' d=aV z d) {v:U} (D:∀d,o.dst=I d->d<z'.tmps.size/\aV z' d=v):cJ ops Lc a0 z' (l.setIfInBounds u Z) (a.put o.dst v):=by
 obtain⟨j,g,_,_,t⟩:=mem_ready y;rw[f] at g;cases g;have e:cJ ops Lc a0 z' l a:=⟨c.size,c.closed,λi n=>r i (c.ph i n),c.QH.trans A.symm,c.R8.trans x.symm,λs h=>by
  have B:=h;obtain⟨i,j,e,p,q⟩:=B;rw[E i j s (c.ph i e) p q];exact c.yes s h,c.no⟩
 exact e.next C f t D
def KT(n:Nat):E6 (U4 n T8)<=n:=by
 unfold E6;exact Uz (List.countP_le_length) (by simp)
end
section
variable {P0 P:Ug}{S own:Nat->Prop}{a:V7}{o:Vv}{w w1:F}
def EvW.read{e:Vn}{b:UK}(h:e.loc= .cell b)(d:e.write=T8)(c:S b.block\/own b.block):EvW S own e:=by
 unfold EvW;rw[h];exact c.elim (λf=>.inr ⟨f,d⟩) .inl
def n5(e:RelB (λb=>S b\/own b) w w1){c:UK}(d:S c.block\/own c.block):w1.cell? c=w.cell? c:=by
 unfold Ut;rw[e.at_ c.block d]
def b7{t:Ui}{x:U7}{c:UK}{v:U}(i:o.op= .load t x)(j:a.eval x= .pointer (I c))(f:∀w,(isAgg t).run P w= .ok T8 w)(g:S c.block\/own c.block)(hc:w.cell? c=I v):∀w1,RelB (λb=>S b\/own b) w w1->(UI a.eval o).run P w1= .ok (.value v) w1/\∀e∈(UI a.eval o).events P w1 #[],EvW S own e:=by
 intro w1 k;have h:w1.cell? c=I v:=(n5 k g).trans hc;constructor
 ·unfold UI;simp[i,j,Instr.loadAt,Xg,loadVar,f,h]
 ·intro e d;unfold UI at d;simp[i,j,Instr.loadAt,Xg,loadVar,f,h] at d;subst d;exact EvW.read Y Y g
def fo{t:Ui}{x:U7}{c off:Nat}{cs:List U}{d:TypeDesc}(m:o.op= .load t x)(p:a.eval x= .pointer (I ⟨c,off,K⟩))(n:P.underlying t=I d)(A:d.isRow=Z)(l:(P.info? t).map (·.size)=I cs.length)(k:S c\/own c)(hc:w.rangeAt c off cs):∀w1,RelB (λb=>S b\/own b) w w1->(UI a.eval o).run P w1= .ok (.value (.agg cs.toArray)) w1/\∀e∈(UI a.eval o).events P w1 #[],EvW S own e:=by
 intro w1 E;have g:w1.rangeAt c off cs:=λf v i=>(n5 E k).trans (hc f v i);have D:=run_loadAt_mid (P:=P) w1 c off t cs d g n A l;constructor
 ·unfold UI;simp[m,p,D]
 ·intro e h;have z:(isAgg t).run P w1= .ok Z w1:=by
   unfold isAgg;rw[WK,run_underlying n w1];cases d<;>simp_all
  obtain⟨L,C,G⟩:=Wr.1 l;have F:(sizeOf t).run P w1= .ok cs.length w1:=by simp[sizeOf,XE,C,G]
  unfold UI at h;simp only[m,p] at h;have B:e∈(loadCellsFrom ⟨c,off,K⟩ 0 cs.length #[]).events P w1 #[]:=by
   have j:∃q,(loadCells ⟨c,off,K⟩ cs.length).run P w1= .ok q w1:=⟨_,run_loadCells_list (P:=P) w1 ⟨c,off,K⟩ cs (λf v H=>by rw[Xf];exact g f v H)⟩;obtain⟨q,j⟩:=j;simpa [Instr.loadAt,Xg,loadVar,z,F,j,loadCells] using h
  rcases events_loadCellsFrom_at (P:=P) ⟨c,off,K⟩ (λb=>b=c) rfl cs.length 0 #[] w1 #[] (λf i=>by
   rw[Nat.zero_add,Xf,g f cs[f] (Uo i)];rfl) e B with r|⟨J,s,u,y⟩
  ·simp at r
  ·exact EvW.read s u (by rw[y];exact k)
def uF{t:Ui}{x:U7}{v:U}(d:o.op= .box t x)(f:a.eval x=v):∀w1,RelB (λb=>S b\/own b) w w1->∃w',(UI a.eval o).run P w1= .ok (.value (bS w1.heap.size)) w'/\w'.heap=w1.heap.push (.cells v.cells t)/\w'.tape=w1.tape/\w'.os=w1.os/\w'.output=w1.output/\∀e∈(UI a.eval o).events P w1 #[],jP w1.heap.size S own e:=by
 intro w1 g;refine⟨w1.alloc (.cells v.cells t),?_,rfl,rfl,rfl,rfl,?_⟩
 ·unfold UI;simp[d,f,Instr.box,newVar,newRow]
 ·intro e c;unfold UI at c;simp[d,f,Instr.box,newVar,newRow] at c
def tc{t:Ui}{z:U}(d:o.op= .alloc t)(f:∀w,(Wo t).run P w= .ok z w):∀w1,RelB (λb=>S b\/own b) w w1->∃w',(UI a.eval o).run P w1= .ok (.value (bS w1.heap.size)) w'/\w'.heap=w1.heap.push (.cells z.cells t)/\w'.tape=w1.tape/\w'.os=w1.os/\w'.output=w1.output/\∀e∈(UI a.eval o).events P w1 #[],jP w1.heap.size S own e:=by
 intro w1 g;refine⟨w1.alloc (.cells z.cells t),?_,rfl,rfl,rfl,rfl,?_⟩
 ·unfold UI;simp[d,Instr.alloc,f,newVar,newRow]
 ·intro e c;unfold UI at c;simp[d,Instr.alloc,f,newVar,newRow] at c
def vW{n:Nat}{f cs:Array U}{e:Ui}{b:Nat×Nat}(d:w1.heap[n]? =I (.cells f e b)):xJ n (.cells cs e b) w1 (w1.setRow n cs):=by
 refine⟨?_,rfl,rfl,rfl⟩;unfold World.setRow;apply Array.ext_getElem?;intro h;simp only[Array.getElem?_modify,UQ];by_cases c:n=h
 ·subst c;have g:=(Uc.1 d).1;rw[if_pos Y,if_pos Y,if_pos g,d];rfl
 ·simp[c]
def k7{t:Ui}{x y:U7}{n off:Nat}{v:U}{d:Array U}{e:Ui}(l:o.op= .store t x y)(p:a.eval x= .pointer (I ⟨n,off,K⟩))(q:a.eval y=v)(D:(P.info? t).map (·.size)=I v.cells.size)(h1:∀c∈v.cells.toList,c.oneCell'=Z)(z:S n\/own n)(C:w.heap[n]? =I (.cells d e (0,0)))(j:off+v.cells.size<=d.size):
 ∀w1,RelB (λb=>S b\/own b) w w1->∃w',(UI a.eval o).run P w1= .ok .skip w'/\xJ n (.cells (d.toList.take off++v.cells.toList++d.toList.drop (off+v.cells.size)).toArray e (0,0)) w1 w'/\∀f∈(UI a.eval o).events P w1 #[],jP n S own f:=by
 intro w1 E;have g:w1.heap[n]? =I (.cells d e (0,0)):=(E.at_ n z).trans C;obtain⟨F,k,m⟩:=Wr.1 D;have h:=run_storeCells_at P n off e v.cells.toList 0 d w1 g (by simpa using j) h1;have B:=events_storeCells_at (P:=P) n off e v.cells.toList 0 d w1 #[] g (by simpa using j) h1;simp only[Nat.add_zero,Wb] at h;refine⟨_,?_,vW g,λf i=>?_⟩
 ·unfold UI;simp[l,p,q,Instr.storeAt,Xg,storeVar,sizeOf,XE,k,m,h]
 ·have A:f∈(storeCells ⟨n,off,K⟩ v.cells.toList 0).events P w1 #[]:=by
   unfold UI at i;simpa [l,p,q,Instr.storeAt,Xg,storeVar,sizeOf,XE,k,m,h] using i
  rcases B f A with s|⟨r,h1,u⟩
  ·simp at s
  ·exact .inr ⟨r,h1,.inl u⟩
def Cd{t e:Ui}{l c:U7}{d:Xi}{z:U}{kl h:Wy}{L C:Nat}(m:o.op= .makeSlice t l c)(k:a.eval l= .int kl (L:Int))(hc:a.eval c= .int h (C:Int))(n:P.underlying t=I (.slice e))(j:P.info? e=I d)(p:d.zero=I z)(v:L<=C)(r:C*d.bytes<=140737488355328)(u:C<=9223372036854775807):
 ∀w1,RelB (λb=>S b\/own b) w w1->∃w',(UI a.eval o).run P w1= .ok (.value (.slice (I ⟨w1.heap.size,0,K⟩) L C)) w'/\w'.heap=w1.heap.push (.cells (madeCells z.cells (C*d.size)) e)/\w'.tape=w1.tape/\w'.os=w1.os/\w'.output=w1.output/\∀e∈(UI a.eval o).events P w1 #[],jP w1.heap.size S own e:=by
 intro w1 x;have i:(d.bytes:Int)*(C:Int)<=281474976710656:=by
  rw[<-Int.natCast_mul,Nat.mul_comm];omega
 have g:=run_make (P:=P) w1 t e d z n j p kl h (L:Int) (C:Int) (by omega) (by omega) i (by omega);have q:=events_make (P:=P) w1 t e d z n j p kl h (L:Int) (C:Int) (by omega) (by omega) i (by omega) (by simpa using r) #[];simp only[Int.toNat_natCast] at g;refine⟨w1.alloc (.cells (madeCells z.cells (C*d.size)) e),?_,rfl,rfl,rfl,rfl,λs f=>?_⟩
 ·unfold UI;simp[m,k,hc,g]
 ·unfold UI at f;simp only[m,k,hc] at f;simp[g,q] at f
def Eh{t e:Ui}{p:ChanDir}{x:U7}{m:Xi}{k:Wy}{n:Nat}(h:o.op= .makeChan t x)(l:a.eval x= .int k (n:Int))(j:P.underlying t=I (.chan p e))(g:P.info? e=I m)(d:(n:Int)<=9223372036854775807)(f:(m.bytes:Int)*n<=281474976710544):
 ∀w1,RelB (λb=>S b\/own b) w w1->∃w',(UI a.eval o).run P w1= .ok (.value (.chan (I w1.heap.size))) w'/\w'.heap=w1.heap.push (.chan n #[] T8 0 0 T8)/\w'.tape=w1.tape/\w'.os=w1.os/\w'.output=w1.output/\∀e∈(UI a.eval o).events P w1 #[],jP w1.heap.size S own e:=by
 intro w1 s;have i:=run_makeChan (P:=P) (w:=w1) j g k n d f;have q:=events_makeChan (P:=P) (w:=w1) j g k n d f #[];refine⟨w1.alloc (.chan n #[] T8 0 0 T8),?_,rfl,rfl,rfl,rfl,λr c=>?_⟩
 ·unfold UI;simp[h,l,i]
 ·unfold UI at c;simp only[h,l] at c;simp[i,q] at c
end
structure Knows(a:V7)(n:Nat)(l:List (Nat×U)):Prop where
 size:a.tmps.size=n
 slot:∀s v,l.lookup s=I v->aV a s=v
def EL{a:V7}{d:Nat}(c:d<a.tmps.size)(v:U)(s:Nat):aV (a.put (I d) v) s=if d=s then v else aV a s:=by
 unfold aV UX;simp only[UE,UQ];by_cases b:d=s
 ·subst b;simp[c]
 ·simp[b]
def size_put(a:V7)(d:Option Nat)(v:U):(a.put d v).tmps.size=a.tmps.size:=by
 unfold UX
 split<;>simp
def Knows.put{a:V7}{n:Nat}{l:List (Nat×U)}(h:Knows a n l){d:Nat}(f:d<n)(v:U):Knows (a.put (I d) v) n ((d,v)::l):=by
 refine⟨(size_put _ _ _).trans h.size,λs g b=>?_⟩;rw[EL (by rw[h.size];exact f)];simp only[List.lookup_cons] at b;by_cases c:d=s
 ·subst c;simp at b;simp[b]
 ·have:(s==d)=T8:=by simpa using λe=>c e.symm
  rw[this] at b;rw[if_neg c];exact h.slot s g b
def Knows.none{a:V7}{n:Nat}{l:List (Nat×U)}(h:Knows a n l)(v:U):Knows (a.put K v) n l:=h
def Knows.of{a:V7}{n:Nat}{l:List (Nat×U)}(h:Knows a n l){s:Nat}{v:U}(b:l.lookup s=I v):a.eval (.tmp s)=v:=h.slot s v b
section
variable {P:Ug}{a:V7}{o:Vv}
def cm{x:U7}{v:U}(c:o.op= .move x)(d:a.eval x=v):∀b,(UI a.eval o).run P b= .ok (.value v) b/\(UI a.eval o).events P b #[]=#[]:=λb=>by
 unfold UI;simp[c,d]
def kG{x:U7}{v:U}(c:o.op= .assign x)(d:a.eval x=v):∀b,(UI a.eval o).run P b= .ok (.value v) b/\(UI a.eval o).events P b #[]=#[]:=λb=>by
 unfold UI;simp[c,d]
def MX{t:Ui}{x:U7}{f d off:Nat}{e:Array Field}{c:Field}{n:Nat}(h:o.op= .fieldAddr t x f)(k:a.eval x= .pointer (I ⟨d,off,K⟩))(j:P.underlying t=I (.struct e))(g:e[f]? =I c)(i:∀w,(sizeOf c.type).run P w= .ok (n+1) w):
 ∀b,(UI a.eval o).run P b= .ok (.value (.pointer (I ⟨d,off+c.offset,K⟩))) b/\(UI a.eval o).events P b #[]=#[]:=λb=>by
 unfold UI;simp[h,k,Instr.fieldAt,run_underlying j,g,Xg,fieldPlace,i,Xf]
def fI{t e:Ui}{x y:U7}{d off len cap n:Nat}{k:Wy}{i:Nat}(g:o.op= .indexAddr t x y)(l:a.eval x= .slice (I ⟨d,off,K⟩) len cap)(m:a.eval y= .int k (i:Int))(j:P.underlying t=I (.slice e))(h:∀w,(sizeOf e).run P w= .ok n w)(p:i<len):
 ∀b,(UI a.eval o).run P b= .ok (.value (.pointer (I ⟨d,off+i*n,K⟩))) b/\(UI a.eval o).events P b #[]=#[]:=λb=>by
 have f:(i:Int)<(len:Int):=by omega
 unfold UI;simp[g,l,m,Instr.indexAt,asIntOf,run_underlying j,f,h,Xf];exact⟨λc=>absurd c (by omega),λc=>absurd c (by omega)⟩
def so{t:Ui}{x:U7}{base:Option UK}{len cap:Nat}{e:Ui}(c:o.op= .call {callee:=.builtin .len,args:= #[x],argTypes:= #[t]})(f:a.eval x= .slice base len cap)(d:P.underlying t=I (.slice e)):
 ∀b,(UI a.eval o).run P b= .ok (.value (.int .i64 (len:Int))) b/\(UI a.eval o).events P b #[]=#[]:=λb=>by
 unfold UI;simp[c,f,X7,invoke,builtin,Builtin.len_,run_underlying d,goInt]
def kH{x:U7}{i:Nat}{vs:Array U}{v:U}(c:o.op= .extract x i)(e:a.eval x= .tuple vs)(d:vs[i]? =I v):∀b,(UI a.eval o).run P b= .ok (.value v) b/\(UI a.eval o).events P b #[]=#[]:=λb=>by
 unfold UI;simp[c,e,Instr.extract,d]
def It{x y z:U7}{c:Bool}(d:o.op= .pick x y z)(e:a.eval x= .bool c):∀b,(UI a.eval o).run P b= .ok (.value (if c then a.eval y else a.eval z)) b/\(UI a.eval o).events P b #[]=#[]:=λb=>by
 unfold UI;simp[d,e,asBool]
def Rq{t f:Ui}{x y:U7}{i j:Int}(c:o.op= .binOp .lss t x y f)(d:a.eval x= .int .i64 i)(e:a.eval y= .int .i64 j):∀b,(UI a.eval o).run P b= .ok (.value (.bool (decide (i<j)))) b/\(UI a.eval o).events P b #[]=#[]:=λb=>by
 unfold UI;simp[c,d,e,binOp,eqGuard,Op.intCmp]
def Rp{t f:Ui}{x y:U7}{i j:Int}(c:o.op= .binOp .eql t x y f)(d:a.eval x= .int .i64 i)(e:a.eval y= .int .i64 j):∀b,(UI a.eval o).run P b= .ok (.value (.bool (i==j))) b/\(UI a.eval o).events P b #[]=#[]:=λb=>by
 unfold UI;simp[c,d,e,binOp,eqGuard,Op.intCmp]
def Rr{t f:Ui}{x y:U7}{i j:Int}(c:o.op= .binOp .neq t x y f)(d:a.eval x= .int .i64 i)(e:a.eval y= .int .i64 j):∀b,(UI a.eval o).run P b= .ok (.value (.bool (i !=j))) b/\(UI a.eval o).events P b #[]=#[]:=λb=>by
 unfold UI;simp[c,d,e,binOp,eqGuard,Op.intCmp]
def nP{t f:Ui}{x y:U7}{i j:Nat}(c:o.op= .binOp .add t x y f)(d:a.eval x= .int .i64 (i:Int))(e:a.eval y= .int .i64 (j:Int))(g:i+j<=9223372036854775807):∀b,(UI a.eval o).run P b= .ok (.value (.int .i64 ((i+j:Nat):Int))) b/\(UI a.eval o).events P b #[]=#[]:=λb=>by
 have:XO.wrap ((i:Int)+(j:Int))=((i+j:Nat):Int):=by rw[Xa]<;>omega
 unfold UI;simp[c,d,e,binOp,eqGuard,Op.intArith,this]
end
def below(P:Ug):Uu:={(default:Uu) with fn:=P.funcs.size,mode:=.panicking [goexitEntry]}
section
variable {P0 P:Ug}{S:Nat->Prop}{c:Nat}{own:Nat->Prop}{vs:List U}{cs:List Uu}{w:F}{b:Uu}{a:V7}{k:List WO}{ops:Array Vv}{i:Nat}{rest:List Nat}{o:Vv}
def Ob {f:V2} {fn:WD} {code:WX} {args:Array U} (e:P.funcs[f]? =I fn) (n:(fn.name == "runtime.NumGoroutine")=T8) (d:fn.body=I code) (h:pJ P0 P S c own vs (Uh ((baseD f).at {tmps:=args++U4 (fn.ntmps-args.size) Vl,defers:=[]} [.code code]) [below P]) w):pJ P0 P S c own vs (born P (dcall f args)) w:=by
 have q:∀w,UN P T8 (born P (dcall f args)) w= .go (Uh ((baseD f).at {tmps:=args++U4 (fn.ntmps-args.size) Vl,defers:=[]} [.code code]) [below P]) w #[]:=by
  intro w;have j:¬fn.name= "runtime.NumGoroutine" :=by simpa using n
  rw[<-enter_atD args e d];simp[born,UN,Yj,callDeferred,dcall,invoke,callFunc,e,j,d,WS,seen_none,Uh,below];rfl
 exact K4 Y (λg _=>q g) (λr l=>by simp at l) (λg p=>h.rely p)
def IR{ats:Array Ui}{ty:Ui}{co:Array Bool}{fn:WD}{todo:List WO}(v:b.kind= .deferred)(u:a.defers=[{target:=.builtin .close ats ty co,args:= #[.chan (I c)]}])(h:P.funcs[b.fn]? =I fn)(y:fn.results=#[])(x:fn.norace=T8):pJ P0 P S c own [] (Uh {b.at a todo with mode:=.returning} [below P]) w:=by
 refine KZ (n:=2) (g':=Uh {b.at ⟨a.tmps,[]⟩ todo with mode:=.returning} [below P]) Y ?_ ?_ ?_
 ·refine .inr ⟨rfl,Uh (below P) [],λw=>?_,.inr ⟨rfl,{Uh (below P) [] with status:=.finished},λw=>?_,rfl⟩⟩
  ·simp[Uh,UN,Yj,Xb,Frame.at,v,h,UY,y,seen,WS,below,goexitEntry]
  ·have n:(default:Uu).defers=[]:=rfl;have p:(default:Uu).todo=[]:=rfl;simp[Uh,UN,Yj,below,Frame.catches,goexitEntry,n,p]
 ·simp[mayWake,Uh,Frame.at]
 ·intro d _ l j s z A e;have q:(invoke (.builtin .close ats ty co) #[.chan (I c)]).run P d= .ok (.value (.tuple #[])) (d.setChan c l j Z s z A):=by
   simp[go_sem,run_close_open _ _ e,World.setChan]
  have r:(invoke (.builtin .close ats ty co) #[.chan (I c)]).events P d #[]=#[⟨.obj c,T8,Z⟩,⟨.obj c,Z,Z⟩]:=by
   simp[go_sem,events_close_open _ _ e]
  have t:seen P b.fn #[⟨.obj c,T8,Z⟩,⟨.obj c,Z,Z⟩]=#[⟨.obj c,T8,Z⟩,⟨.obj c,Z,Z⟩]:=seen_eq (by simp[h,x]) (by intro B g f;simp only[List.mem_toArray,VN,List.not_mem_nil,or_false] at g;rcases g with rfl|rfl<;>simp);simp[Uh,UN,Yj,callDeferred,Frame.at,u,q,r,t,WS]
def RO{x y:U7}{v:U}(j:b.kind≠.early)(e:ops[i]? =I o)(s:UG o (Vk ops a.tmps)=Z)(f:o.op= .send x y)(g:a.eval x= .chan (I c))(h:a.eval y=v)
 (n:pJ P0 P S c own vs (Uh (b.at (a.put o.dst Vl) (.inRegion ops rest::k)) cs) w):pJ P0 P S c own (v::vs) (Uh (b.at a (.inRegion ops (i::rest)::k)) cs) w:=by
 have r:Wj (Uh (b.at a (.inRegion ops (i::rest)::k)) cs) Vl=Uh (b.at (a.put o.dst Vl) (.inRegion ops rest::k)) cs:=by
  simp only[Wj,Uh,XI,e];rfl
 refine Oc (g2:=Uh (b.at a (.inRegion ops (i::rest)::k)) cs) (z:=.tuple #[]) Y λd p=>⟨?_,by rw[r];exact n.rely p⟩;have q:(UI a.eval o).run P d= .ok (.comm #[scase c v (.tuple #[])] Z .send) d:=by
  unfold UI;simp[f,g,h,scase]
 have l:(UI a.eval o).events P d #[]=#[]:=by
  unfold UI;simp[f,g,h]
 rw[stepG_comm e s j q];unfold listed;rw[l,seen_none]
end
section
variable {P0 P:Ug}{S:Nat->Prop}{m:Bool}{X0:(Nat->Prop)->Uu->List Uu->F->Prop}{own:Nat->Prop}{cs:List Uu}{w:F}{b:Uu}{a:V7}{k:List WO}{ops:Array Vv}{i:Nat}{rest:List Nat}{o:Vv}
def Ox(g:nR P0 P S m X0)(h:b.kind≠.early)(e:ops[i]? =I o)(r:UG o (Vk ops a.tmps)=Z){d:Builtin}{x:U7}{v:U}{ats:Array Ui}(f:o.op= .defer {callee:=.builtin d,args:= #[x],argTypes:=ats})(s:a.eval x=v)
 (n:∀co,X0 own (b.at (UX ⟨a.tmps,{target:=.builtin d ats o.type co,args:= #[v]}::a.defers⟩ o.dst Vl) (.inRegion ops rest::k)) cs w):X0 own (b.at a (.inRegion ops (i::rest)::k)) cs w:=by
 refine kV g (λw=>?_) (n (#[x].map fun| .const _=>Z|_=>T8));have q:(UI a.eval o).run P w= .ok (.defer {target:=.builtin d ats o.type (#[x].map fun| .const _=>Z|_=>T8),args:= #[v]}) w:=by
  unfold UI;simp[f,X7,s];cases x<;>rfl
 have j:(UI a.eval o).events P w #[]=#[]:=by
  unfold UI;simp[f,X7]
 have l:(b.at ⟨a.tmps,{target:=.builtin d ats o.type (#[x].map fun| .const _=>Z|_=>T8),args:= #[v]}::a.defers⟩ (.inRegion ops (i::rest)::k)).finish Vl=b.at (UX ⟨a.tmps,{target:=.builtin d ats o.type (#[x].map fun| .const _=>Z|_=>T8),args:= #[v]}::a.defers⟩ o.dst Vl) (.inRegion ops rest::k):=by rw[XI,e];rfl
 have p:(b.kind==CallKind.early)=T8:=by simpa using h
 rw[stepG_oper e r,<-l];simp[VO,q,j,Uh,Frame.at,p,WS,seen_none]
end
def fill (a:V7):List (Nat×U)->V7
 | []=>a
 |(c,v)::l=>(fill a l).put (I c) v
theorem kD(a:V7):∀l,(fill a l).tmps.size=a.tmps.size
 | []=>rfl
 |(c,v)::l=>(size_put _ _ _).trans (kD a l)
theorem eA(a:V7):∀l,(fill a l).defers=a.defers
 | []=>rfl
 |(c,v)::l=>eA a l
theorem Knows.fill{a:V7}{n:Nat}{l0:List (Nat×U)}(h:Knows a n l0):∀(l:List (Nat×U)),(l.all λp=>decide (p.1<n))=Z->Knows (fill a l) n (l++l0)
 | [],_=>h
 |(d,v)::l,c=>by
  simp only[List.all_cons,Ux,decide_eq_true_eq] at c;exact(Knows.fill h l c.2).put c.1 v
theorem l7(a:V7)(s:Nat):∀(l:List (Nat×U)),(l.all λp=>decide (p.1<a.tmps.size))=Z->aV (fill a l) s=(l.lookup s).getD (aV a s)
 | [],_=>rfl
 |(c,v)::l,e=>by
  simp only[List.all_cons,Ux,decide_eq_true_eq] at e;show aV ((fill a l).put (I c) v) s=_;rw[EL (by rw[kD];exact e.1),l7 a s l e.2,List.lookup_cons];by_cases d:c=s
  ·subst d;simp
  ·have:(s==c)=T8:=by simpa using λf=>d f.symm
   rw[this,if_neg d]
def jh (ops:Array Vv)(i:Nat):Option Nat:=(ops[i]?).bind (·.dst)
def gF (ops:Array Vv)(Ph:Nat->Bool)(u n:Nat)(ds:List Nat):Bool:=
 oJ ops Ph&&PE ops Ph u&&ds.all (λc=>decide (c<n)&&(UL ops.size).any λa=>Ph a&&jh ops a==I c)&&(UL ops.size).all λa=> !Ph a||match jh ops a with
  |some c=>ds.contains c
  |none=>Z
theorem rI{s:Nat}:∀{l:List (Nat×U)},(l.map (·.1)).contains s=Z->∃v,l.lookup s=I v
 | [],a=>by simp at a
 |(c,v)::l,a=>by
  simp only[Xy,List.contains_cons,WV] at a;rw[List.lookup_cons];cases d:s==c with
  |true=>exact⟨v,rfl⟩
  |false=>
   rw[d] at a;exact rI (a.resolve_left (by simp))
theorem gR{s:Nat}{v:U}:∀{l:List (Nat×U)},l.lookup s=I v->s∈l.map (·.1)
 | [],a=>by simp at a
 |(d,e)::l,a=>by
  rw[List.lookup_cons] at a;cases c:s==d with
  |true=>simp at c;simp[c]
  |false=>rw[c] at a;simp[gR a]
section
variable {P0 P:Ug}{S:Nat->Prop}{m:Bool}{X0:(Nat->Prop)->Uu->List Uu->F->Prop}{own:Nat->Prop}{cs:List Uu}{w:F}{b:Uu}{a0:V7}{k:List WO}{ops:Array Vv}{Ph Dn:Nat->Bool}{u n:Nat}{l l0:List (Nat×U)}
def qc(g:gF ops Ph u n (l.map (·.1))=Z)(t:a0.tmps.size=n):oJ ops Ph=Z/\PE ops Ph u=Z/\(l.all λp=>decide (p.1<a0.tmps.size))=Z/\(∀i o d,Ph i=Z->ops[i]? =I o->o.dst=I d->∃v,l.lookup d=I v/\d<a0.tmps.size)/\∀s,(∀(j:Nat) o,Ph j=Z->ops[j]? =I o->o.dst≠I s)->aV (fill a0 l) s=aV a0 s:=by
 unfold gF at g;simp only[Ux] at g;obtain⟨⟨⟨y,z⟩,A⟩,B⟩:=g;have e:=UA.1 A;have r:(l.all λp=>decide (p.1<a0.tmps.size))=Z:=UA.2 λp q=>by
  have:=e p.1 (U8.2 ⟨p,q,rfl⟩);simp only[Ux] at this;rw[t];exact this.1
 refine⟨y,z,r,λi o d q a c=>?_,λs C=>?_⟩
 ·have:=UA.1 B i (Vu.2 (Uc.1 a).1);rw[q] at this;have h:jh ops i=o.dst:=by unfold jh;rw[a];rfl
  rw[h,c] at this;simp only[Bool.not_true,Bool.false_or] at this;obtain⟨v,x⟩:=rI this;refine⟨v,x,?_⟩;have:=e d (gR x);simp only[Ux,decide_eq_true_eq] at this;rw[t];exact this.1
 ·rw[l7 a0 s l r];cases c:l.lookup s with
  |none=>rfl
  |some v=>
   exfalso
   have:=e s (gR c);simp only[Ux] at this;obtain⟨i,D,f⟩:=List.any_eq_true.1 this.2;simp only[Ux,beq_iff_eq,jh] at f;obtain⟨o,a,h⟩:=US.1 f.2;exact C i o f.1 a h
def kN(H:nR P0 P S m X0)(K:b.kind≠.early)(q:Knows a0 n l0)(L:gF ops Ph u n (l.map (·.1))=Z)
 (T:Knows (fill a0 l) n (l++l0)->∀i o,Ph i=Z->Dn i=T8->i≠u->ops[i]? =I o->∃v,(o.dst.bind λd=>l.lookup d)=I v/\((UG o (Vk ops (fill a0 l).tmps)=Z/\∀h,RelB (λb=>S b\/own b) w h->(UI (fill a0 l).eval o).run P h= .ok (.value v) h/\∀e∈(UI (fill a0 l).eval o).events P h #[],EvW S own e)\/(UG o (Vk ops (fill a0 l).tmps)=T8/\v=Vl)))
 (U:∀o,ops[u]? =I o->∀g t c a,cJ ops Ph a0 (fill a0 l) c a->u∈U0 .any ops c->E6 c<=g+1->(∀s∈o.looksAt ops,aV a s=aV (fill a0 l) s)->UG o (Vk ops a.tmps)=UG o (Vk ops (fill a0 l).tmps)->X0 own (b.at a (.inRegion ops (u::Va .any ops g t (c.setIfInBounds u Z) [])::k)) cs w)
 (N:(∀i,i<ops.size->Ph i=Z)->Knows (fill a0 l) n (l++l0)->X0 own (b.at (fill a0 l) (.inRegion ops []::k)) cs w):
 ∀(g t:Nat) (c:Array Bool) (a:V7),cJ ops Ph a0 (fill a0 l) c a->(∀i,Dn i=Z->c.getD i T8=Z)->E6 c<=g->X0 own (b.at a (.inRegion ops (Va .any ops g t c [])::k)) cs w:=by
 obtain⟨j,F,z,G,p⟩:=qc (a0:=a0) L q.size;have A:=q.fill l (by rw[<-q.size];exact z);refine Oy H K (val:=λi=>((jh ops i).bind λd=>l.lookup d).getD Vl) j F (λi o d x f C=>?_) p (λi o x M O f=>?_) (λg t c a r D R=>?_) (λJ=>N J A)
 ·obtain⟨v,y,Q⟩:=G i o d x f C;have e:jh ops i=I d:=by unfold jh;rw[f];exact C
  refine⟨by rw[kD];exact Q,?_⟩;rw[l7 a0 d l z,e];simp[y]
 ·obtain⟨v,y,E⟩:=T A i o x M O f;have e:jh ops i=o.dst:=by unfold jh;rw[f];rfl
  rw[e,y];exact E
 ·obtain⟨o,f,_,_,B⟩:=mem_ready D;exact U o f g t c a r D R (r.looks j p f B) (r.exec j p f B).2
def cJ.Ig{Lc:Nat->Bool}{g:Array Bool}{a:V7}{o:Vv}{l2:List (Nat×U)}(B:cJ ops Ph a0 (fill a0 l) g a)(F:u∈U0 .any ops g)(E:ops[u]? =I o)(e:a0.tmps.size=n)(z:gF ops Ph u n (l.map (·.1))=Z)(h:((l2++l).all λp=>decide (p.1<n))=Z)
 (y:∀i,Ph i=Z->Lc i=Z) (G:Lc u=Z) (A:((UL ops.size).all λi=> !Ph i||match jh ops i with|some d=> !(l2.map (·.1)).contains d|none=>Z)=Z) {v:U} (H:∀d,o.dst=I d->(l2++l).lookup d=I v):cJ ops Lc a0 (fill a0 (l2++l)) (g.setIfInBounds u Z) (a.put o.dst v):=by
 obtain⟨J,L,x,M,N⟩:=qc (a0:=a0) z e;have j:((l2++l).all λp=>decide (p.1<a0.tmps.size))=Z:=by rw[e];exact h
 refine B.TE F E y G (by rw[kD,kD]) (by rw[eA,eA]) (λi O d f r c=>?_) (λd c=>?_)
 ·rw[l7 a0 d _ j,l7 a0 d l x];have:=UA.1 A i (Vu.2 (Uc.1 r).1);have s:jh ops i=I d:=by unfold jh;rw[r];exact c
  rw[f,s] at this;simp only[Bool.not_true,Bool.false_or,WR] at this;have D:l2.lookup d=K:=by
   cases t:l2.lookup d with
   |none=>rfl
   |some Q=>
    have:=List.contains_iff_mem.2 (gR t);simp_all
  rw[List.lookup_append,D];rfl
 ·have q:=H d c;refine⟨?_,by rw[l7 a0 d _ j,q];rfl⟩;rw[kD,e];have:=UA.1 h;have C:=gR q;obtain⟨p,f,rfl⟩:=U8.1 C;simpa using this p f
def under(ops:Array Vv):Nat->List Nat->List Nat
 |0,l=>l
 |n+1,l=>l++under ops n (l.flatMap λc=>match ops[c]? with
  |some d=>(d.after.toList.filter λa=>Vo .any a).map (·.on)
  |none=>[])
theorem tL{z:V7}{o:Array Bool}{a:V7}(p:cJ ops Ph a0 z o a):∀(n:Nat) (l:List Nat),(∀i∈l,o.getD i T8=Z)->∀j∈under ops n l,o.getD j T8=Z
 |0,l,e,j,c=>e j c
 |n+1,l,e,j,c=>by
  rcases List.mem_append.1 c with c|c
  ·exact e j c
  ·refine tL p n _ (λi d=>?_) j c;obtain⟨h,r,d⟩:=List.mem_flatMap.1 d;cases g:ops[h]? with
   |none=>rw[g] at d;simp at d
   |some t=>
    rw[g] at d;obtain⟨q,f,rfl⟩:=U8.1 d;obtain⟨f,s⟩:=List.mem_filter.1 f;exact p.closed h t (e h r) g q (by simpa using f) s
def gH{z:V7}{f:Array Bool}{a:V7}(g:cJ ops Ph a0 z f a)(y:u∈U0 .any ops f){j:Nat}(s:((UL ops.size).all λi=> !Dn i||i==u||(under ops j (match ops[u]? with
 |some o=>(o.after.toList.filter λe=>Vo .any e).map (·.on)
 |none=>[])).contains i)=Z) (p:∀i,Dn i=Z->i<ops.size):∀i,Dn i=Z->(f.setIfInBounds u Z).getD i T8=Z:=by
 intro i h;obtain⟨o,x,v,_,q⟩:=mem_ready y;rw[kZ (by rw[g.size];exact v)];have:=UA.1 s i (Vu.2 (p i h));rw[h,x] at this;simp only[Bool.not_true,Bool.false_or,WV,beq_iff_eq] at this;rcases this with c|c
 ·simp[c]
 ·rw[tL g _ _ (λA t=>by
   obtain⟨e,d,rfl⟩:=U8.1 t;obtain⟨d,r⟩:=List.mem_filter.1 d;exact q e (by simpa using d) r) i (List.contains_iff_mem.1 c)]
  simp
def qD(e:nR P0 P S m X0){id:Nat}(f:P.follows .mixedOrders=Z)(h:∀(d t:Nat) (c:Array Bool) (a:V7),cJ ops Ph a0 (fill a0 l) c a->(∀i,(λ_=>T8) i=Z->c.getD i T8=Z)->E6 c<=d->X0 own (b.at a (.inRegion ops (Va .any ops d t c [])::k)) cs w):X0 own (b.at a0 (.code (.region id ops Z)::k)) cs w:=
 Q0 e f λt=>h _ t _ _ (cJ.start a0 _ (kD _ _).symm (eA _ _).symm) (λi h=>by cases h) (KT _)
def Pd{a:Array Bool}(h:∀i,i<ops.size->a.getD i T8=Z):∀d t,Va .any ops d t a []=[]:=by
 have o:U0 .any ops a=[]:=by
  refine List.eq_nil_iff_forall_not_mem.2 λi g=>?_;obtain⟨p,_,j,e,_⟩:=mem_ready g;have c:=h i j;simp only[UE] at c e;cases f:a[i]? with
  |none=>rw[f] at c;cases c
  |some b=>rw[f] at c e;simp at c e;rw[c] at e;cases e
 intro d t;cases d with
 |zero=>rfl
 |succ d=>
  simp only[Va];change (match (U0 .any ops a)[t%(U0 .any ops a).length]? with
   |some i=>Va .any ops d (t/(U0 .any ops a).length) (a.setIfInBounds i Z) [i]
   |none=>[].reverse)=[]
  rw[o];rfl
def oa{c:Array Bool}{a:V7}(e:cJ ops Ph a0 (fill a0 l) c a)(r:u∈U0 .any ops c)(s:Ph u=T8)(q:a0.tmps.size=n)(h:gF ops Ph u n (l.map (·.1))=Z)(d:∀i,i<ops.size->(c.setIfInBounds u Z).getD i T8=Z):a=fill a0 l/\∀f t,Va .any ops f t (c.setIfInBounds u Z) []=[]:=by
 obtain⟨v,x,y,z,g⟩:=qc (a0:=a0) h q;obtain⟨_,_,p,_,_⟩:=mem_ready r;refine⟨e.QU g s λi j o=>?_,Pd d⟩;have:=d i j;rw[kZ (by rw[e.size];exact p)] at this;simpa [o] using this
end
def RelB.mono{B B':Nat->Prop}{w w1:F}(h:RelB B w w1)(c:∀b,B' b->B b):RelB B' w w1:=⟨λb d=>h.at_ b (c b d),h.size,h.tape,h.os,h.output⟩
section
variable {P0 P:Ug}{Post:U->F->Prop}{S O:Nat->Prop}{μ:Nat->Option (List U)}{cs:List Uu}{w:F}{b:Uu}{a:V7}{k:List WO}{ops:Array Vv}{i:Nat}{rest:List Nat}{o:Vv}
def kw.rely{w1:F}{g:UM}(h:kw P0 P Post S O μ g w)(c:RelB (λb=>S b\/O b) w w1):kw P0 P Post S O μ g w1:=by
 obtain⟨d,h⟩:=h;exact⟨d,h.j8 c⟩
def Bm(v:U)(c:ops[i]? =I o):Wj (Uh (b.at a (.inRegion ops (i::rest)::k)) cs) v=Uh (b.at (a.put o.dst v) (.inRegion ops rest::k)) cs:=by
 simp only[Wj,Uh,XI,c];rfl
def Bt{m:Bool}{t e:Ui}{j:ChanDir}{x:U7}{c:Nat}{z:U}(l:b.kind≠.early)(p:ops[i]? =I o)(r:UG o (Vk ops a.tmps)=Z)(d:o.op= .recv t x Z)(f:P.underlying t=I (.chan j e))(h:∀w,(Wo e).run P w= .ok z w)(s:∀w,(Wo e).events P w #[]=#[])(g:a.eval x= .chan (I c))(w:F):
 UN P m (Uh (b.at a (.inRegion ops (i::rest)::k)) cs) w= .comm (Uh (b.at a (.inRegion ops (i::rest)::k)) cs) #[rcase c z] Z (.recv Z) w #[]:=by
 have q:(UI a.eval o).run P w= .ok (.comm #[rcase c z] Z (.recv Z)) w:=by
  unfold UI;simp[d,g,run_underlying f,h,rcase]
 have n:(UI a.eval o).events P w #[]=#[]:=by
  unfold UI;simp[d,g,run_underlying f,h,s]
 rw[stepG_comm p r l q];unfold listed;rw[n,seen_none]
def Rg{t e:Ui}{f:ChanDir}{x:U7}{c:Nat}{z v:U}{l:List U}(g:b.kind≠.early)(d:ops[i]? =I o)(p:UG o (Vk ops a.tmps)=Z)(j:o.op= .recv t x Z)(n:P.underlying t=I (.chan f e))(r:∀w,(Wo e).run P w= .ok z w)(s:∀w,(Wo e).events P w #[]=#[])(q:a.eval x= .chan (I c))(u:μ c=I (v::l))
 (h:kw P0 P Post S O (gh μ c (I l)) (Uh (b.at (a.put o.dst (recvd Z v Z)) (.inRegion ops rest::k)) cs) w):kw P0 P Post S O μ (Uh (b.at a (.inRegion ops (i::rest)::k)) cs) w:=
 MP (g2:=Uh (b.at a (.inRegion ops (i::rest)::k)) cs) (z:=z) u ⟨rfl,rfl,rfl⟩ λw1 m=>⟨Bt g d p j n r s q w1,by rw[Bm _ d];exact h.rely m⟩
def Rh{t e:Ui}{f:ChanDir}{x:U7}{c:Nat}{z:U}(g:b.kind≠.early)(d:ops[i]? =I o)(n:UG o (Vk ops a.tmps)=Z)(j:o.op= .recv t x Z)(m:P.underlying t=I (.chan f e))(q:∀w,(Wo e).run P w= .ok z w)(r:∀w,(Wo e).events P w #[]=#[])(p:a.eval x= .chan (I c))(s:μ c=I [])
 (h:kw P0 P Post S O (gh μ c K) (Uh (b.at (a.put o.dst (recvd Z z T8)) (.inRegion ops rest::k)) cs) w):kw P0 P Post S O μ (Uh (b.at a (.inRegion ops (i::rest)::k)) cs) w:=
 MQ (g2:=Uh (b.at a (.inRegion ops (i::rest)::k)) cs) (z:=z) s ⟨rfl,rfl,rfl⟩ λw1 l=>⟨Bt g d n j m q r p w1,by rw[Bm _ d];exact h.rely l⟩
def Pf{f:V2}{d:Array U7}{ats:Array Ui}{args:Array U}{c cap:Nat}{vs:List U}(q:b.kind≠.early)(u:ops[i]? =I o)(x:UG o (Vk ops a.tmps)=Z)(g:o.op= .go {callee:=.value (.func f),args:=d,argTypes:=ats})(n:d.map a.eval=args)(l:O c)(t:vs.length<=cap)(y:μ c=K)(hc:w.heap[c]? =I (.chan cap #[] T8 0 0 T8))
 (m:∀w1,RelB (λb=>S b\/O b) w w1->pJ P0 P S c (λ_=>False) vs (born P (dcall f args)) w1)
 (s:kw P0 P Post S (λb=>O b/\b≠c) (gh μ c (I vs)) (Uh (b.at (a.put o.dst Vl) (.inRegion ops rest::k)) cs) w):kw P0 P Post S O μ (Uh (b.at a (.inRegion ops (i::rest)::k)) cs) w:=by
 have e:a.eval (.func f)= .func (.func f) #[] #[]:=rfl;refine JR l t y hc λw1 j=>⟨_,_,?_,rfl,m w1 j,s.rely (j.mono λb p=>p.imp (λh=>h) (λh=>h.1))⟩;have v:(UI a.eval o).run P w1= .ok (.spawn (dcall f args)) w1:=by
  unfold UI;simp[g,X7,XP,e,dcall,n]
 have r:(UI a.eval o).events P w1 #[]=#[]:=by
  unfold UI;simp[g,X7,XP,e]
 rw[stepG_spawn u x q v Y];unfold listed;rw[r,seen_none]
end
section
variable {P0 P:Ug}{S own:Nat->Prop}{a:V7}{o:Vv}{w w1:F}
def JY{t e:Ui}{i:Xi}{z:U}{x y:U7}{g L C:Nat}{f:Array U}{d:UK}{c:Nat}{news:List U}(B:o.op= .call {callee:=.builtin .append,args:= #[x,y],argTypes:= #[t,t]})(H:a.eval x= .slice (I ⟨g,0,K⟩) L C)(J:a.eval y= .slice (I d) 1 c)
 (G:P.underlying t=I (.slice e)) (v:P.info? e=I i) (am:i.zero=I z) (W:w.heap[g]? =I (.cells f e (0,0))) (X:S g\/own g) (r:S d.block\/own d.block) (p:news.length=i.size) (ad:∀j u,news[j]? =I u->w.cell? (d.add j)=I u) (Q:∀j,(d.add j).block=d.block) (h1:∀u∈news,u.oneCell'=Z)
 (E:L+1<=C) (F:f.size=C*i.size) (an:C<=1000000) (R:i.bytes<=1000):
 ∀w1,RelB (λb=>S b\/own b) w w1->∃w',(UI a.eval o).run P w1= .ok (.value (.slice (I ⟨g,0,K⟩) (L+1) C)) w'/\xJ g (.cells (f.toList.take (L*i.size)++news++f.toList.drop (L*i.size+news.length)).toArray e (0,0)) w1 w'/\∀l∈(UI a.eval o).events P w1 #[],jP g S own l:=by
 intro w1 D;have n:w1.heap[g]? =I (.cells f e (0,0)):=(D.at_ g X).trans W;have A:∀j u,news[j]? =I u->w1.cell? (d.add j)=I u:=λj u aa=>(n5 D (by rw[Q];exact r)).trans (ad j u aa);have V:L*i.size+news.length<=f.size:=by
  rw[F,p];have:=Nat.mul_le_mul_right i.size E;rw[Nat.add_mul,Nat.one_mul] at this;exact this
 have al:=run_append_room (P:=P) (w:=w1) t o.type e i G v g L C f n d 1 c news (by rw[p,Nat.one_mul]) A h1 E V;have ao:1000000<=Ur:=by decide
 have ae:w1.ownsRow 0 e i.size (.slice (I ⟨g,0,K⟩) L C) L (f.toList.take (L*i.size)):=by
  refine⟨?_,.inr ⟨g,C,f,rfl,UF _,n,by omega,?_,F,rfl⟩⟩
  ·rw[Vt,Wb];omega
  ·omega
 have T:=events_append_where (P:=P) w1 0 t o.type e i z i.size i.bytes G v am Y Y (.slice (I ⟨g,0,K⟩) L C) L _ ae d 1 c news (by rw[p,Nat.one_mul]) A h1 (by omega) (by
  have:(L+1)*i.bytes<=1000000*1000:=Nat.mul_le_mul (by omega) R;omega)
 refine⟨_,?_,vW n,λl s=>?_⟩
 ·unfold UI;simp[B,H,J,X7,invoke,builtin,al]
 ·rw[events_append_op x y t B H J] at s;rcases T l s with⟨q,h1,h⟩|⟨m,rfl,ab⟩
  ·rcases h with⟨h,N⟩|h
   ·refine .inr ⟨q,h1,?_⟩;rw[N];exact .inr (r.elim (λM=>.inr ⟨M,h⟩) .inl)
   ·refine .inr ⟨q,h1,.inl ?_⟩;simpa [VA] using h
  ·exact .inl ⟨m,rfl,ab⟩
def JZ{t e:Ui}{i:Xi}{h j l v0 v1 v2:U}{x:U7}(p:o.op= .buildSlice t 1 #[(0,x)])(s:a.eval x= .agg #[v0,v1,v2])(r:P.underlying t=I (.slice e))(n:P.info? e=I i)(u:i.zero=I (.agg #[h,j,l]))(c:i.size=3):
 ∀w1,RelB (λb=>S b\/own b) w w1->∃w',(UI a.eval o).run P w1= .ok (.value (.slice (I ⟨w1.heap.size,0,K⟩) 1 1)) w'/\w'.heap=w1.heap.push (.cells #[v0,v1,v2] e)/\w'.tape=w1.tape/\w'.os=w1.os/\w'.output=w1.output/\∀m∈(UI a.eval o).events P w1 #[],jP w1.heap.size S own m:=by
 intro w1 A;have g:X8 (λd=>I (d*i.size,i.size)) ((Yq (1*i.size)).map ((Value.agg #[h,j,l]).cells[· % (Value.agg #[h,j,l]).cells.size]!)) #[(0,Value.agg #[v0,v1,v2])].toList=I #[v0,v1,v2]:=by
  rw[c];simp[X8,Value.cells,Yq,Array.zipIdx];apply Array.ext
  ·simp
  ·intro d z v;simp at v;have:d=0\/d=1\/d=2:=by omega
   rcases this with rfl|rfl|rfl<;>simp
 have q:=run_buildSlice (P:=P) w1 t e 1 #[(0,.agg #[v0,v1,v2])] #[v0,v1,v2] i _ r n u (by rw[c];decide) (by rw[c];decide) g;refine⟨w1.alloc (.cells #[v0,v1,v2] e),?_,rfl,rfl,rfl,rfl,λm f=>?_⟩
 ·unfold UI;simp[p,s,q]
 ·have y:(XQ t 1 #[(0,.agg #[v0,v1,v2])]).events P w1 #[]=#[]:=by
   simp only[List.toArray,Nat.one_mul,c] at g;simp[XQ,run_underlying r,sizeOf,XE,Wo,n,u,c,g,newRow]
  unfold UI at f;simp only[p] at f;simp[s,q,y] at f
end
def put_defers(a:V7)(d:Option Nat)(v:U):(a.put d v).defers=a.defers:=by
 unfold UX
 split<;>rfl
def Knows.nil{a:V7}{n:Nat}{l:List (Nat×U)}(h:Knows a n l):Knows a n []:=⟨h.size,λs v c=>by simp at c⟩
def Knows.defer{a:V7}{n:Nat}{l:List (Nat×U)}(h:Knows a n l)(ds:List Wl)(v:U):Knows (UX ⟨a.tmps,ds⟩ K v) n l:=⟨h.size,h.slot⟩
def Knows.cons{a:V7}{n:Nat}{l:List (Nat×U)}(h:Knows a n l){s:Nat}{v:U}(f:aV a s=v):Knows a n ((s,v)::l):=⟨h.size,λe g c=>by
 rw[List.lookup_cons] at c;cases d:e==s with
 |true=>
  rw[d] at c;cases c;rw[beq_iff_eq] at d;rw[d];exact f
 |false=>rw[d] at c;exact h.slot e g c⟩
def Knows.four{a:V7}{n:Nat}{l:List (Nat×U)}(h:Knows a n l){c d e f:Nat}{v1 v2 g j:U}(h1:l.lookup c=I v1)(p:l.lookup d=I v2)(q:l.lookup e=I g)(r:l.lookup f=I j):Knows a n [(c,v1),(d,v2),(e,g),(f,j)]:=(((h.nil.cons (h.slot f _ r)).cons (h.slot e _ q)).cons (h.slot d _ p)).cons (h.slot c _ h1)
section
variable {P0 P:Ug}{S:Nat->Prop}{m:Bool}{X0:(Nat->Prop)->Uu->List Uu->F->Prop}{own:Nat->Prop}{cs:List Uu}{w:F}{b:Uu}{a:V7}{k:List WO}{ops:Array Vv}
def bp(c:nR P0 P S m X0){id:Nat}(l:List Nat)(e:UL ops.size=l)(d:X0 own (b.at a (.inRegion ops l::k)) cs w):X0 own (b.at a (.code (.region id ops T8)::k)) cs w:=LG c (by rw[e];exact d)
variable {i:Nat}{rest:List Nat}{o:Vv}
def ri(g:nR P0 P S m X0){n:Nat}{l:List (Nat×U)}(f:Knows a n l)(s:ops[i]? =I o)(v:U)(h:∀c,RelB (λb=>S b\/own b) w c->(UI a.eval o).run P c= .ok (.value v) c/\∀e∈(UI a.eval o).events P c #[],EvW S own e){d:Nat}
 (q:Knows (a.put (I d) v) n ((d,v)::l)->X0 own (b.at (a.put (I d) v) (.inRegion ops rest::k)) cs w) (p:o.dst=I d:=by rfl) (r:d<n:=by decide) (j:b.kind≠.early:=by decide) (t:UG o (Vk ops a.tmps)=Z:=by rfl):X0 own (b.at a (.inRegion ops (i::rest)::k)) cs w:=
 oy g j s t v h (by rw[p];exact q (f.put r v))
def dF(f:nR P0 P S m X0){n:Nat}{l:List (Nat×U)}(e:Knows a n l)(r:ops[i]? =I o)(v:U)(h:∀c,(UI a.eval o).run P c= .ok (.value v) c/\(UI a.eval o).events P c #[]=#[]){d:Nat}
 (p:Knows (a.put (I d) v) n ((d,v)::l)->X0 own (b.at (a.put (I d) v) (.inRegion ops rest::k)) cs w) (j:o.dst=I d:=by rfl) (q:d<n:=by decide) (g:b.kind≠.early:=by decide) (s:UG o (Vk ops a.tmps)=Z:=by rfl):X0 own (b.at a (.inRegion ops (i::rest)::k)) cs w:=
 mD f g r s v h (by rw[j];exact p (e.put q v))
def cI(e:nR P0 P S m X0){n:Nat}{l:List (Nat×U)}(c:Knows a n l){d s:Nat}{v:U}(h:Knows (a.put (I d) v) n ((d,v)::l)->X0 own (b.at (a.put (I d) v) (.inRegion ops rest::k)) cs w)(q:ops[i]? =I o:=by rfl)(r:o.op= .move (.tmp s):=by rfl)(j:l.lookup s=I v:=by rfl)(g:o.dst=I d:=by rfl)(p:d<n:=by decide)(f:b.kind≠.early:=by decide)(t:UG o (Vk ops a.tmps)=Z:=by rfl):X0 own (b.at a (.inRegion ops (i::rest)::k)) cs w:=
 dF e c q v (cm r (c.of j)) h g p f t
def gY(e:nR P0 P S m X0){n:Nat}{l:List (Nat×U)}(c:Knows a n l){d s:Nat}{v:U}(h:Knows (a.put (I d) v) n ((d,v)::l)->X0 own (b.at (a.put (I d) v) (.inRegion ops rest::k)) cs w)(q:ops[i]? =I o:=by rfl)(r:o.op= .assign (.tmp s):=by rfl)(j:l.lookup s=I v:=by rfl)(g:o.dst=I d:=by rfl)(p:d<n:=by decide)(f:b.kind≠.early:=by decide)(t:UG o (Vk ops a.tmps)=Z:=by rfl):X0 own (b.at a (.inRegion ops (i::rest)::k)) cs w:=
 dF e c q v (kG r (c.of j)) h g p f t
def m6(e:nR P0 P S m X0){n:Nat}{l:List (Nat×U)}(c:Knows a n l){d:Nat}(v:U)(h:Knows (a.put (I d) v) n ((d,v)::l)->X0 own (b.at (a.put (I d) v) (.inRegion ops rest::k)) cs w)(p:ops[i]? =I o:=by rfl)(q:o.op= .assign (.const v):=by rfl)(g:o.dst=I d:=by rfl)(j:d<n:=by decide)(f:b.kind≠.early:=by decide)(r:UG o (Vk ops a.tmps)=Z:=by rfl):X0 own (b.at a (.inRegion ops (i::rest)::k)) cs w:=
 dF e c p v (kG q Y) h g j f r
def rj(e:nR P0 P S m X0){n:Nat}{l:List (Nat×U)}(c:Knows a n l){d s j:Nat}{vs:Array U}{v:U}(h:Knows (a.put (I d) v) n ((d,v)::l)->X0 own (b.at (a.put (I d) v) (.inRegion ops rest::k)) cs w)(r:ops[i]? =I o:=by rfl)(t:o.op= .extract (.tmp s) j:=by rfl)(p:l.lookup s=I (.tuple vs):=by rfl)(u:vs[j]? =I v:=by rfl)(g:o.dst=I d:=by rfl)(q:d<n:=by decide)(f:b.kind≠.early:=by decide)(x:UG o (Vk ops a.tmps)=Z:=by rfl):X0 own (b.at a (.inRegion ops (i::rest)::k)) cs w:=
 dF e c r v (kH t (c.of p) u) h g q f x
end
section
variable {P:Ug}{a:V7}{o:Vv}
def dm{t:Ui}{x:U7}{f e off off':Nat}{g:Array Field}{c:Field}{n:Nat}(l:o.op= .fieldAddr t x f)(r:a.eval x= .pointer (I ⟨e,off,K⟩))(q:P.underlying t=I (.struct g))(h:g[f]? =I c)(p:∀w,(sizeOf c.type).run P w= .ok (n+1) w)(j:off+c.offset=off'):
 ∀d,(UI a.eval o).run P d= .ok (.value (.pointer (I ⟨e,off',K⟩))) d/\(UI a.eval o).events P d #[]=#[]:=by
 subst j;exact MX l r q h p
def yN{x y z:U7}{v:U}(d:o.op= .pick x y z)(f:a.eval x= .bool Z)(e:a.eval y=v):∀c,(UI a.eval o).run P c= .ok (.value v) c/\(UI a.eval o).events P c #[]=#[]:=by
 subst e;exact It d f
def yM{x y z:U7}{v:U}(d:o.op= .pick x y z)(f:a.eval x= .bool T8)(e:a.eval z=v):∀c,(UI a.eval o).run P c= .ok (.value v) c/\(UI a.eval o).events P c #[]=#[]:=by
 subst e;exact It d f
def jy{t h:Ui}{x y:U7}{i j:Int}{c:Bool}(e:o.op= .binOp .lss t x y h)(f:a.eval x= .int .i64 i)(g:a.eval y= .int .i64 j)(hc:decide (i<j)=c):∀d,(UI a.eval o).run P d= .ok (.value (.bool c)) d/\(UI a.eval o).events P d #[]=#[]:=by
 subst hc;exact Rq e f g
def qL{t h:Ui}{x y:U7}{i j:Int}{c:Bool}(e:o.op= .binOp .neq t x y h)(f:a.eval x= .int .i64 i)(g:a.eval y= .int .i64 j)(hc:(i !=j)=c):∀d,(UI a.eval o).run P d= .ok (.value (.bool c)) d/\(UI a.eval o).events P d #[]=#[]:=by
 subst hc;exact Rr e f g
end
structure Lj(S O O':Nat->Prop)(w w':F):Prop where
 sub:∀b,O b->O' b
 new:∀b,O' b->O b\/w.heap.size<=b
 rel:RelB (λb=>S b\/O b) w w'
 inr:tR S O' w'
def j7{P:Ug}{fn:WD}{a:V7}{t:Nat}{v:U}(d:fn.results=#[.tmp t])(c:aV a t=v):(∀w,(UY fn a.tmps).run P w= .ok v w)/\∀w,(UY fn a.tmps).events P w #[]=#[]:=by
 unfold aV at c;rw[UE] at c;constructor<;>intro w<;>simp[UY,d,c]
def gJ{P:Ug}{fn:WD}{a:V7}{t u:Nat}{v x:U}(e:fn.results=#[.tmp t,.tmp u])(c:aV a t=v)(d:aV a u=x):(∀w,(UY fn a.tmps).run P w= .ok (.tuple #[v,x]) w)/\∀w,(UY fn a.tmps).events P w #[]=#[]:=by
 unfold aV at c d;rw[UE] at c d;constructor<;>intro w<;>simp[UY,e,c,d]
end Cc
namespace Ec
open Go.RowKit Pk Pm
def pE (cs:List bK):Prop:=∀a (b:a<cs.length),cs[a].name=nameOf a/\(cs[a].kind=1\/cs[a].kind=2\/cs[a].kind=3)
def pE.snoc{cs:List bK}(h:pE cs){k:Int}(c:k=1\/k=2\/k=3):pE (cs++[⟨nameOf cs.length,k⟩]):=by
 intro a b;rw[List.getElem_append]
 split
 ·exact h a _
 ·have:a=cs.length:=by simp at b;omega
  subst this;simpa using c
def lQ (x:Int):Prop:= -9223372036854775808<=x/\x<=9223372036854775807
def Tf (fn:WD):WX:=match fn.body with|some (.seq _ (.seq _ (.seq a _)))=>a|_=>.skip
def SS (fn:WD):WX:=match fn.body with|some (.seq _ (.seq _ (.seq _ (.seq a _))))=>a|_=>.skip
def Ti (fn:WD):WX:=match fn.body with|some (.seq _ (.seq _ (.seq _ (.seq _ (.seq a _)))))=>a|_=>.skip
def Tg (fn:WD):WX:=match fn.body with|some (.seq _ (.seq _ (.seq _ (.seq _ (.seq _ (.seq a _))))))=>a|_=>.skip
def Tj (fn:WD):WX:=match fn.body with|some (.seq _ (.seq _ (.seq _ (.seq _ (.seq _ (.seq _ (.seq a _)))))))=>a|_=>.skip
def An{a:V7}{n s:Nat}{v:U}(h:a.tmps.size=n)(b:Cc.aV a s=v):Cc.Knows a n [(s,v)]:=Cc.Knows.cons (l:=[]) ⟨h,λs v h=>by simp at h⟩ b
def pX (v:Nat->U):V7:=⟨#[v 0,v 1,v 2,v 3,v 4,v 5,v 6,v 7,v 8,v 9,v 10,v 11,v 12,v 13,v 14,v 15,v 16,v 17,v 18,v 19,v 20,v 21,v 22,v 23,v 24,v 25,v 26,v 27,v 28,v 29,v 30,v 31,v 32,v 33,v 34,v 35,v 36,v 37,v 38,v 39,v 40,v 41,v 42,v 43,v 44,v 45,v 46,v 47,v 48,v 49,v 50,v 51,v 52,v 53,v 54,v 55,v 56,v 57,v 58,v 59,v 60,v 61,v 62,v 63,v 64,v 65,v 66,v 67,v 68,v 69,v 70,v 71,v 72,v 73,v 74,v 75,v 76,v 77,v 78,v 79,v 80,v 81,v 82,v 83,v 84,v 85,v 86,v 87,v 88,v 89,v 90,v 91,v 92,v 93,v 94,v 95,v 96,v 97,v 98,v 99,v 100,v 101,v 102,v 103,v 104,v 105,v 106,v 107,v 108,v 109,v 110,v 111,v 112,v 113,v 114,v 115,v 116,v 117,v 118,v 119,v 120,v 121,v 122,v 123,v 124,v 125,v 126,v 127,v 128,v 129,v 130,v 131,v 132,v 133,v 134,v 135,v 136,v 137,v 138,v 139,v 140,v 141,v 142,v 143,v 144,v 145,v 146,v 147,v 148,v 149,v 150,v 151,v 152,v 153,v 154,v 155],[]⟩
abbrev Su(v:Nat->U):List (Nat×U):=[(0,v 0),(1,v 1),(2,v 2),(3,v 3),(4,v 4),(10,v 10),(11,v 11)]
def Po(w W:F)(v:Nat->U)(g:Nat)(kinds:List Int)(S:Option UK)(kb gN fG:Nat)(H:v 0= .slice S kinds.length fG)(J:v 11=(bS g))(a5:kinds.length<=Ur)(a4:(0<kinds.length->S=I ⟨kb,gN,K⟩)/\(0<kinds.length->kb<w.heap.size)/\∀j,j<kinds.length->bU w kb (gN+j) (.int .i64 (kinds.getD j 0)))(a2:∀x∈kinds,lQ x)(ap:eN w W g aR [] aR [] 0 aR [] T8):
 (Tf Wd).wp (aB T5) (λe a' W'=>e= .normal/\∃cs a,cs.length<=8/\pE cs/\eN w W' g a cs aR [] 0 aR [] T8/\Cc.Knows a' 156 (Su v)/\a'.defers=[]) (pX v) W:=by
 obtain⟨bb,a3,a8,a9,ba⟩:=Vg ay.Ga;unfold Ur at a5;have aa:=af a2;have q:=af a4;have al:=af ap;have E:=af H;have G:=af J;unfold pX;rw[H,J];unfold Tf Wd;dsimp only
 go_wp2_with fail
 go_loopw [12] (λo wr=>∃(cs:List bK) (a:U),o= .int .i64 (cs.length:Int)/\cs.length<=kinds.length/\cs.length<=8/\pE cs/\eN w wr g a cs aR [] 0 aR [] T8) (λo _=>kinds.length-(UT o).toNat)
 case atStart=>exact⟨[],_,rfl,UF _,UF _,λo f=>absurd f (by simp),al.o⟩
 case round=>
  obtain⟨cs,a,rfl,br,P,ao,u⟩:=hrel;have r:=af ao;have s:=af u;by_cases n:cs.length<kinds.length
  ·by_cases L:cs.length<8
   ·obtain rfl:=q.o.1 (by omega);have O:=q.o.2.1 (by omega);have bj:=af O;have k:X (∀W,aP w W->bU W kb (gN+cs.length) (.int .i64 (kinds.getD cs.length 0))):=λW av=>(av.cell (p:=⟨kb,gN+cs.length,K⟩) O).trans (q.o.2.2 _ n);have C:X (lQ (kinds.getD cs.length 0)):=aa.o _ (by rw[Uj,Uo n];exact Uk n);have az:=k.o wr u.dh;generalize kinds.getD cs.length 0=h at*;have ad:X (∀W:F,bG 38 #[.int .i64 (cs.length:Int)] W λe z=>aP W z/\e= .returned (.string (nameOf cs.length))):=λW=>MS cs.length W L;have ae:X (∀W:F,bG 23 #[.int .i64 h,.int .i64 3] W λe z=>z=W/\∃b,e= .returned (.int .i64 b)/\0<=b/\b<3):=λW=>qd h 3 W (by omega) (by omega) C.o.1 C.o.2;obtain⟨⟨bc,-,-,-,-⟩,-⟩:=u.cells
    go_upto_region 5 with fail
    refine Un.open_ (λW=>bU W g 0 a/\bU W kb (gN+cs.length) (.int .i64 h)) 16 (λ_ _ _ _ _ f=>absurd (And.left f) (λf=>by cases f)) λbt=>?_;have M:(λW:F=>bU W g 0 a/\bU W kb (gN+cs.length) (.int .i64 h)) wr.drew:=⟨bc,az⟩;refine Un.pk 0 ?_;refine Un.pk 1 ?_;refine Un.ld [16] 2 ?_;refine Un.pk 3 ?_;refine Un.pk 5 ?_;refine Un.pk 6 ?_;refine Un.pk 7 ?_;refine Un.ld [16] 8 ?_;refine Un.on 4 λl c=>?_;go_simp;go_at_call 38;refine(ad.o _).mono ?_;rintro e T ⟨y,rfl⟩;replace y:=((Uq wr.heap.size wr).drew).trans (y.mono (by simp));have d:=af (s.o.below y);have A:=d.o.cells.1.1;have B:=k.o T d.o.dh;refine c.o _ _ (λ_=>⟨A,B⟩) ?_
    try simp only[UX,Ud,Um,Ul]
    have M:(λW:F=>bU W g 0 a/\bU W kb (gN+cs.length) (.int .i64 h)) T:=⟨A,B⟩;refine Un.on 9 λl c=>?_;go_simp;go_at_call 23;refine(ae.o _).mono ?_;rintro e p ⟨rfl,b,rfl,bu,bv⟩;have bo:XO.wrap (1+b)=1+b:=by rw[Xa]<;>omega
    refine c.o _ _ (λ_=>⟨A,B⟩) ?_
    try simp only[UX,Ud,Um,Ul]
    refine Un.pk 10 ?_;refine Un.pk 11 ?_;refine Un.on 12 λl c=>?_;go_simp;have D:X (eN w (p.alloc (.cells #[.string (nameOf cs.length),.int .i64 (1+b)] 63)) g a cs aR [] 0 aR [] T8):=d.o.below ((Uq _ _).alloc (T9 _) _);have bd:=D.o.cells.1.1;have be:=k.o _ D.o.dh;refine c.o _ _ (λ_=>⟨bd,be⟩) ?_
    try simp only[UX,Ud,Um,Ul]
    refine Un.one (i:=13) (by kernel_rfl) Y (λl c=>?_);have Q:=d.o.ah;have bx:w.heap.size<=p.heap.size:=d.o.dh.size;refine WL _ (by rfl) _ _ 44 (by rfl) w.heap.size 63 bb _ 2 24 ay.underlying44 a3 a8 a9 ba Y (by decide) a cs.length _ (by rfl) (Q.alloc _) ⟨p.heap.size,0,K⟩ 1 1 [.string (nameOf cs.length),.int .i64 (1+b)] (by rfl) Y (VL (bh p _)) (by intro bA R;simp at R;rcases R with rfl|rfl<;>rfl) (by decide) (by unfold Ur;omega) (by omega) (by simp;omega) _ Y ?_;intro t m i a7 a1 aw bs;have N:=aO.jm (n:=cs.length+1) (cap:=m) a1 aw;have a6:i.ownsRow w.heap.size 63 2 (.slice (I ⟨t,0,K⟩) (cs.length+1) m) (cs++[(⟨nameOf cs.length,1+b⟩:bK)]).length (eI (cs++[(⟨nameOf cs.length,1+b⟩:bK)])):=by
     rw[rE,Ub];exact a7
    obtain⟨ar,V,bi⟩:=d.o.QD N a6;have bB:=bi 0;have am:=af ar;have Z:bU i kb (gN+cs.length) (.int .i64 h):=k.o i (d.o.dh.trans (N.below (λg a0=>(Q.lt g a0).1) d.o.dh.size));refine c.o _ _ (λ_=>⟨V,Z⟩) ?_
    try simp only[UX,Ud,Um,Ul]
    have M:(λW:F=>bU W g 0 a/\bU W kb (gN+cs.length) (.int .i64 h)) i:=⟨V,Z⟩;refine Un.pk 14 ?_;refine Un.pk 15 ?_;refine Un.on 16 λl c=>?_;go_simp;refine c.o _ _ (λf=>absurd f (by decide)) ?_;refine Un.done (by kernel_rfl) ?_ _
    try simp only[UX,Ud,Um,Ul]
    generalize i.setCell ⟨g,0,K⟩ (.slice (I ⟨t,0,K⟩) (cs.length+1) m)=bl at*;generalize Value.slice (I ⟨t,0,K⟩) (cs.length+1) m=bm at*;have ab:X (pE (cs++[(⟨nameOf cs.length,1+b⟩:bK)])):=r.o.snoc (by omega)
    go_wp2_with fail
    go_roundw
    case rel=>exact⟨_,_,by rw[Ub];go_num,by rw[Ub];exact n,by rw[Ub];exact L,ab.o,am.o⟩
    case measure=>simp[UT];omega
   ·have an:cs.length=8:=by omega
    go_wp2_with fail
    exact⟨cs,P,r.o,⟨a,s.o⟩,(((((((An Y (by exact G.o.symm)).cons Y).cons Y).cons Y).cons Y).cons Y).cons (by exact E.o.symm))⟩
  ·have an:cs.length=kinds.length:=by omega
   go_wp2_with fail
   exact⟨cs,P,r.o,⟨a,s.o⟩,(((((((An Y (by exact G.o.symm)).cons Y).cons Y).cons Y).cons Y).cons Y).cons (by exact E.o.symm))⟩
def MT:∀i j:Fin 8,i≠j->nameOf i.1≠nameOf j.1:=by decide
def JS(i:Nat):(nameOf i).size=1:=rfl
def OI{cs:List bK}(h:pE cs)(h1:1<=cs.length)(g:cs.length<=8):hU cs:=by
 refine⟨h1,g,λb c=>⟨?_,λd i=>?_⟩⟩
 ·obtain⟨e,f⟩:=h b c;unfold n6 fY;rw[e,JS];rcases f with a|a|a<;>rw[a]<;>decide
 ·rw[(h b c).1,(h d (by omega)).1];exact MT ⟨d,by omega⟩ ⟨b,by omega⟩ (λa=>by have:=congrArg Fin.val a;simp at this;omega)
def TF:hU [⟨⟨#[120]⟩,1⟩]:=⟨by decide,by decide,λb a=>by
 have:b=0:=by simp at a;omega
 subst this;exact⟨(by decide +kernel:n6 ⟨⟨#[120]⟩,1⟩=Z),λd c=>by omega⟩⟩
def Ts(w W:F)(v:Nat->U)(g:Nat)(cs:List bK)(c:U)(f:v 11=(bS g))(l:cs.length<=8)(m:pE cs)(a:eN w W g c cs aR [] 0 aR [] T8):
 (SS Wd).wp (aB T5) (λe a' W'=>e= .normal/\∃cs c,hU cs/\eN w W' g c cs aR [] 0 aR [] T8/\Cc.Knows a' 156 (Su v)/\a'.defers=[]) (pX v) W:=by
 obtain⟨y,r,t,u,x⟩:=Vg ay.Ga;have d:=af f;obtain⟨B,aJ,rfl⟩:=bz a.ah;have b:=af a;obtain⟨⟨z,-,-,-,-⟩,-⟩:=a.cells;have h:=a.ah;have G:=a.dh.size;unfold pX;rw[f];by_cases k:cs.length=0
 ·obtain rfl:=List.eq_nil_of_length_eq_zero k;simp only[XJ] at z h b;unfold SS Wd;dsimp only
  go_wp2_with (at_builtin;refine wpList_append_lies _ Y _ _ 44 Y w.heap.size 63 y _ 2 24 ay.underlying44 r t u x Y (by decide) _ 0 _ Y (h.alloc _) ⟨W.heap.size,0,K⟩ 1 1 [.string ⟨#[120]⟩,.int .i64 1] Y Y (VL (bh W _)) (by intro H i;simp at i;rcases i with rfl|rfl<;>rfl) (by decide) (by decide) (by decide) (by simp;omega) _ Y ?_;intro C j I s q o D;have p:=aO.jm (n:=0+1) (cap:=j) q o;obtain⟨n,J,A⟩:=b.o.QD p (c:=⟨⟨#[120]⟩,1⟩) s;have L:=A 0)
  exact⟨_,TF,⟨_,n⟩,(((((((An Y (by exact d.o.symm)).cons Y).cons Y).cons Y).cons Y).cons Y).cons Y)⟩
 ·have E:¬(cs.length:Int)=0:=by omega
  unfold SS Wd;dsimp only
  go_wp2_with fail
  exact⟨cs,OI m (by omega) l,⟨_,b.o⟩,(((((((An Y (by exact d.o.symm)).cons Y).cons Y).cons Y).cons Y).cons Y).cons Y)⟩
def Tq(w W:F)(v:Nat->U)(g:Nat)(cs:List bK)(d:U)(a:v 11=(bS g))(b:eN w W g d cs aR [] 0 aR [] T8):
 (Ti Wd).wp (aB T5) (λe a' W'=>e= .normal/\W'=W/\Cc.Knows a' 156 ((13,.int .i64 (cs.length:Int))::Su v)/\a'.defers=[]) (pX v) W:=by
 have c:=af a;obtain⟨f,aJ,rfl⟩:=bz b.ah;obtain⟨⟨h,-,-,-,-⟩,-⟩:=b.cells;unfold pX;rw[a];unfold Ti Wd;dsimp only
 go_wp2_with fail
 exact((((((((An Y (by exact c.o.symm)).cons Y).cons Y).cons Y).cons Y).cons Y).cons Y).cons Y)
def Ao (j n:Nat):List Nat:=(UL j).map λa=>n/256^a%256
def JN(j n:Nat):Ao (j+1) n=Ao j n++[n/256^j%256]:=by
 unfold Ao;rw[XK,List.map_append,List.map_singleton]
def JM(n:Nat):Ao 4 n=iA n:=by
 unfold Ao iA;simp[XK]
def BX(n j:Nat):n/256^j/256=n/256^(j+1):=by
 rw[Nat.div_div_eq_div_mul,Nat.pow_succ]
def tY(u:U)(pre:List Nat)(n base:Nat)(w:F)(z:n<4294967296)(L:pre.length<=100000000000)(I:base<=w.heap.size)
 (c:w.ownsRow base 5 1 u pre.length (aG pre)):
 bG 59 #[u,.int .i64 (n:Int)] w λe w'=>∃i,e= .returned i/\w'.ownsRow base 5 1 i (pre++iA n).length (aG (pre++iA n))/\aO w w' u i:=by
 obtain⟨E,y,B,C,D⟩:=Vg ay.rH;rw[<-JM];go_enter ay.func59,Tryz.ntmps59
 go_wp2_with fail
 go_loopw [0,1,5] (λo G h wr=>∃(a m:Nat) (b:List Nat),a<=4/\h= .int .i64 (a:Int)/\G= .int .i64 (m:Int)/\m<4294967296/\m=n/256^a/\b=pre++Ao a n/\wr.ownsRow base 5 1 o b.length (aG b)/\aO w wr u o/\w.heap.size<=wr.heap.size) (λ_ _ h _=>4-(UT h).toNat)
 case atStart=>exact⟨0,n,pre,by omega,rfl,rfl,z,by simp,by simp[Ao],c,aO.refl _ _,T9 _⟩
 case round=>
  obtain⟨a,m,b,J,rfl,rfl,N,r,f,c,p,P⟩:=hrel;have k:=af r;have l:=af f;have O:b.length<=100000000004:=by rw[f];simp[Ao];omega
  have j:=af p;clear r f p;by_cases M:a<4
  ·obtain⟨d,g⟩:∃d,d=m%256:=⟨_,rfl⟩;have Q:Yv.wrap (m:Int)=(d:Int):=by rw[g];simp[IntKind.wrap,Yh,XV]
   have v:=af g;clear g
   go_wp2_with (at_builtin;refine aS _ Y _ _ 133 Y base 5 E (.int .u8 0) 1 1 ay.underlying133 y B C D Y (by decide) _ b.length _ Y (c.alloc _) ⟨wr.heap.size,0,K⟩ 1 1 [.int .u8 (d:Int)] Y (by decide) Y (gT _ _ _) (jo _) (by unfold Ur;omega) (by omega) (by simp;omega) ?_;intro R H s x)
   have q:=j.o.trans (aO.append x);have A:w.heap.size<=H.heap.size:=q.fP.size;rw[eS] at s;refine⟨⟨a+1,m/256,b++[d],by omega,by go_num,by go_num,by omega,?_,?_,by simpa using s,q,A⟩,by simp[UT];omega⟩
   ·rw[k.o];exact BX n a
   ·rw[l.o,v.o,k.o,JN,UD]
  ·obtain rfl:a=4:=by omega
   have t:X (wr.ownsRow base 5 1 u0 (pre++Ao 4 n).length (aG (pre++Ao 4 n))):=by show World.ownsRow _ _ _ _ _ _ _;rw[<-l.o];exact c
   clear c;go_wp2;go_ret;exact⟨_,rfl,t.o,j.o⟩
def tV(u:U)(pre:List Nat)(b:lC)(k:Int)(base:Nat)(w:F)(M:k=1\/k=2\/k=3)(R:pu b.least)(a2:pu b.most)(a7:pre.length<=3000000)(i:base<=w.heap.size)
 (r:w.ownsRow base 5 1 u pre.length (aG pre)):
 bG 85 #[u,FF b,.int .i64 k] w λe w'=>∃f,e= .returned f/\w'.ownsRow base 5 1 f (pre++cr k b).length (aG (pre++cr k b))/\aO w w' u f:=by
 obtain⟨W,L,S,T,V⟩:=Vg ay.rH;have Q:u.ownBlock≠I w.heap.size:=λh=>by have:=(r.lt _ h).2;omega
 obtain⟨an,a,c⟩:=b;unfold FF;cases an
 ·rw[show cr k ⟨T8,a,c⟩=[0] from rfl];go_enter ay.func85,Tryz.ntmps85
  go_wp2_with (at_builtin;refine aS _ Y _ _ 133 Y base 5 W (.int .u8 0) 1 1 ay.underlying133 L S T V Y (by decide) _ pre.length _ Y ((r.alloc _).alloc _) ⟨w.heap.size+1,0,K⟩ 1 1 [.int .u8 ((0:Nat):Int)] Y (by decide) Y (by simpa using gT (w.alloc _) _ _) (jo _) (by unfold Ur;omega) (by omega) (by simp;omega) ?_;intro aa x P av)
  go_ret;have p:aO w x u aa:=aO.box (aO.append av);rw[eS] at P;exact⟨_,rfl,by simpa using P,p⟩
 ·rw[show cr k ⟨Z,a,c⟩=[1]++(aZ k a++aZ k c) from rfl,<-UD,<-UD];have a8:=gS k a R.sz;have ab:X (∀d v,d.ownsRow base 5 1 v (pre++[1]).length (aG (pre++[1]))->base<=d.heap.size->bG 122 #[v,.agg (iG a),.int .i64 k] d λe w'=>∃f,e= .returned f/\w'.ownsRow base 5 1 f (pre++[1]++aZ k a).length (aG (pre++[1]++aZ k a))/\aO d w' v f):=λd v q i=>
   iJ v (pre++[1]) a k base d M R (by simp;omega) i q
  have ad:X (∀d v,d.ownsRow base 5 1 v (pre++[1]++aZ k a).length (aG (pre++[1]++aZ k a))->base<=d.heap.size->bG 122 #[v,.agg (iG c),.int .i64 k] d λe w'=>∃f,e= .returned f/\w'.ownsRow base 5 1 f (pre++[1]++aZ k a++aZ k c).length (aG (pre++[1]++aZ k a++aZ k c))/\aO d w' v f):=λd v q i=>
   iJ v (pre++[1]++aZ k a) c k base d M a2 (by simp;omega) i q
  have ao:base<=(w.alloc (.cells (gu ⟨Z,a,c⟩) 141)).heap.size:=by simp;omega
  generalize a6:pre++[1]++aZ k a++aZ k c=a4 at*;generalize a5:pre++[1]++aZ k a=a3 at*;go_enter ay.func85,Tryz.ntmps85
  go_upto_region 1 with fail
  have N:=r.alloc (.cells (gu ⟨Z,a,c⟩) 141);have G:(w.alloc (.cells (gu ⟨Z,a,c⟩) 141)).heap[w.heap.size]? =I (.cells (gu ⟨Z,a,c⟩) 141 (0,0)):=bh _ _;have J:aO w (w.alloc (.cells (gu ⟨Z,a,c⟩) 141)) u u:=(aO.refl w u).alloc _;unfold gu at N G J ao;generalize w.alloc (.cells #[.bool Z,.bool a.null,.int .i64 a.n,.string a.s,.bool c.null,.int .i64 c.n,.string c.s] 141)=m at*;have ae:=af J;have H:m.heap[w.heap.size]? =I (.cells (gu ⟨Z,a,c⟩) 141 (0,0)):=G;generalize w.heap.size=g at*;obtain⟨⟨y,z,A,B,C,D,E⟩,-⟩:=ed H;have l:=af H
  go_upto_region 4 with(at_builtin;refine aS _ Y _ _ 133 Y base 5 W (.int .u8 0) 1 1 ay.underlying133 L S T V Y (by decide) _ pre.length _ Y (N.alloc _) ⟨m.heap.size,0,K⟩ 1 1 [.int .u8 ((1:Nat):Int)] Y (by decide) Y (gT _ _ _) (jo _) (by unfold Ur;omega) (by omega) (by simp;omega) ?_;intro s t O ar)
  have j:aO m t u s:=aO.append ar;rw[eS] at O;have aw:t.ownsRow base 5 1 s (pre++[1]).length (aG (pre++[1])):=by simpa using O
  have n:t.heap[g]? =I (.cells (gu ⟨Z,a,c⟩) 141 (0,0)):=(j.fP.block g (Uf l.o) (λe=>Q e.symm)).trans l.o;have a9:=j.fP.size;have a1:s.ownBlock≠I g:=λe=>by
   rcases j.at_ g e with h|h
   ·exact Q h
   ·have:=Uf l.o;omega
  have al:=af (ae.o.trans j);obtain⟨⟨y,z,A,B,C,D,E⟩,-⟩:=ed n
  go_upto_region 5 with(go_at_call 122;refine(ab.o _ _ aw (by omega)).mono ?_;rintro e x ⟨aa,rfl,az,o⟩)
  have ap:x.heap[g]? =I (.cells (gu ⟨Z,a,c⟩) 141 (0,0)):=(o.fP.block g (Uf n) (λe=>a1 e.symm)).trans n;have ba:=o.fP.size;have am:=af (al.o.trans o);obtain⟨⟨y,z,A,B,C,D,E⟩,-⟩:=ed ap
  go_wp2_with (go_at_call 122;refine(ad.o _ _ az (by omega)).mono ?_;rintro e bc ⟨bb,rfl,a0,p⟩)
  go_ret;exact⟨_,rfl,a0,am.o.trans p⟩
def iF(n:Nat):(aL n).length<=10:=by unfold aL;exact cq 10 n
def FD(k:Int)(b:lC)(h1:b.least.s.size<=32)(a:b.most.s.size<=32):(cr k b).length<=85:=by
 have c:=gS k b.least h1;have d:=gS k b.most a;unfold cr
 split
 ·simp only[Ub,VJ,XJ];omega
 ·simp
def lS{α:Type}(f:α->List Nat)(m:Nat)(l:List α)(h:∀x∈l,(f x).length<=m):(l.flatMap f).length<=l.length*m:=by
 induction l with
 |nil=>simp
 |cons x g b=>
  rw[List.flatMap_cons,Ub,VJ,Nat.succ_mul];have d:=h x (by simp);have e:=b (λc a=>h c (by simp[a]));omega
structure Da(n:Nat)(b:Bd):Prop where
 rows:b.rows<2147483648
 len:b.chunks.length=n
 size:∀c∈b.chunks,c.text.size<2147483648
 least:∀c∈b.chunks,pu c.eZ.least
 most:∀c∈b.chunks,pu c.eZ.most
def OF{l:List kr}{i:Nat}(h:i<l.length):l.getD i ⟨⟨#[]⟩,cF⟩∈l:=by
 rw[Uj,Uo h];exact Uk h
def J1{n:Nat}{b:Bd}(h:Da n b)(cs:List bK){i:Nat}(c:i<b.chunks.length):(o9 cs b.chunks i).length<=95:=by
 have a:=OF c;have d:=iF (b.chunks.getD i ⟨⟨#[]⟩,cF⟩).text.size;have e:=FD (cs.getD i ⟨⟨#[]⟩,0⟩).kind (b.chunks.getD i ⟨⟨#[]⟩,cF⟩).eZ (h.least _ a).sz (h.most _ a).sz;unfold o9;rw[Ub];omega
def yO{n:Nat}{b:Bd}(h:Da n b)(cs:List bK)(k:Nat)(c:k<=b.chunks.length):(fp cs b.chunks k).length<=k*95:=by
 have:=lS (o9 cs b.chunks) 95 (UL k) (λd a=>J1 h cs (by have:=Vu.1 a;omega));simpa [fp] using this
def I4{n:Nat}{b:Bd}(h:Da n b)(e:n<=8)(cs:List bK):(ep cs b).length<=770:=by
 have a:=yO h cs b.chunks.length (T9 _);have c:=iF b.rows;have d:=h.len;unfold ep;rw[Ub];omega
def xP{n:Nat}{bs:List Bd}(h:∀b∈bs,Da n b)(c:n<=8)(cs:List bK):(cS cs bs).length<=bs.length*770:=
 lS (ep cs) 770 bs (λb a=>I4 (h b a) c cs)
def LN{cs:List bK}{es:List Int}(h:∀c∈cs,c.name.size<=16){i:Nat}(a:i<cs.length):(xZ cs es i).length<=28:=by
 have b:=iF (cs.getD i ⟨⟨#[]⟩,0⟩).name.size;have d:=h _ (by rw[Uj,Uo a];exact Uk a:cs.getD i ⟨⟨#[]⟩,0⟩∈cs);unfold xZ;rw[Ub,Ub,aj];simp only[VJ,XJ];omega
def us{cs:List bK}{es:List Int}(h:∀c∈cs,c.name.size<=16)(k:Nat)(b:k<=cs.length):(iT cs es k).length<=k*28:=by
 have:=lS (xZ cs es) 28 (UL k) (λd a=>LN h (by have:=Vu.1 a;omega));simpa [iT] using this
structure jS(w W:F)(cv ev bv u:U)(pre:List Nat):Prop where
 box:W.heap[w.heap.size]? =I (.cells #[cv,ev,bv] 105 (0,0))
 own:W.ownsRow w.heap.size 5 1 u pre.length (aG pre)
 dh:aP w W
def jS.alloc{w W:F}{b c a u:U}{pre:List Nat}(h:jS w W b c a u pre)(o:Xx):jS w (W.alloc o) b c a u pre:=
 ⟨alloc_old o (Uf h.box) h.box,h.own.alloc o,h.dh.alloc h.dh.size o⟩
def jS.drew{w W:F}{b c a u:U}{pre:List Nat}(h:jS w W b c a u pre):jS w W.drew b c a u pre:=
 ⟨h.box,aK h.own (Uq _ _).drew,h.dh.drew⟩
def jS.jQ{w W b:F}{f g e u d:U}{pre c:List Nat}(h:jS w W f g e u pre)(a:aO W b u d)(j:b.ownsRow w.heap.size 5 1 d c.length (aG c)):jS w b f g e d c:=
 ⟨(a.fP.block _ (Uf h.box) (bq h.own h.box (by decide))).trans h.box,j,h.dh.trans (a.below (λi a=>(h.own.lt i a).1) h.dh.size)⟩
def jS.cells{w W:F}{b c a u:U}{pre:List Nat}(h:jS w W b c a u pre):bU W w.heap.size 0 b/\bU W w.heap.size 1 c/\bU W w.heap.size 2 a:=cC h.box
def jS.zS{w W b:F}{d e c u j:U}{pre:List Nat}(h:jS w W d e c u pre)(f:aO W b u j){g:Nat}{cs:Array U}{t:Ui}(a:W.heap[g]? =I (.cells cs t (0,0)))(i:t≠5):b.heap[g]? =I (.cells cs t (0,0)):=
 (f.fP.block _ (Uf a) (bq h.own a i)).trans a
def qB{w:F}{g:Nat}{a b:U}{t:Ui}(h:w.heap[g]? =I (.cells #[a,b] t (0,0))):w.cell? ⟨g,0,K⟩=I a/\w.cell? ⟨g,1,K⟩=I b:=by
 refine⟨?_,?_⟩<;>simp[Ut,h]
def IL(w:F)(a b:U)(t:Ui):∀(j:Nat) (u:U),[a,b][j]? =I u->(w.alloc (.cells #[a,b] t)).cell? ((⟨w.heap.size,0,K⟩:UK).add j)=I u:=
 VL (bh w _)
def jf(a b:List Nat):aG (a++b)=aG a++aG b:=by simp[aG]
def tX(cs:List bK)(es:List Int)(bs:List Bd)(c0 c1 cx:U)(w:F)(fi:cs.length<=8)(da:es.length=cs.length)(b6:∀c∈cs,c.name.size<=16)(dl:∀c∈cs,c.kind=1\/c.kind=2\/c.kind=3)(gm:bs.length<=2000)(c4:∀b∈bs,Da cs.length b)
 (fk:vp w c0 cs) (fm:rB w c1 es) (fe:∃base L,L.map Uy=bs/\ja w base cx L):
 bG 58 #[.slice K 0 0,.agg #[c0,c1,cx]] w λe w'=>∃an,e= .returned an/\w'.ownsRow w.heap.size 5 1 an (jl cs es bs).length (aG (jl cs es bs))/\aP w w':=by
 obtain⟨d4,df,d0,d1,d2⟩:=Vg ay.rH;obtain⟨base,L,bv,bu⟩:=fe;have ft:=QL.bN qE bu.own;obtain⟨C,ar,av,m,rfl,aa⟩:=ft;obtain⟨t,H,bD,aJ,rfl,gn,v⟩:=fk;obtain⟨u,D,ji,bX,rfl,c7,c8,c9⟩:=fm;have a6:=af v;have ck:=af c7;have cl:=af c8;have cn:=af c9;have el:=af da;have bj:=af b6;have eq:=af dl;have cf:=af c4;have et:=af bv;have ap:X (L.length=bs.length):=by show _=_;rw[<-bv,UH]
 have en:=af aa;have eh:=af bu.each;have gt:L.length<=2000:=by have:=ap.o;omega
 clear v c7 c8 c9 da b6 dl c4 bv aa bu;go_enter ay.func58,Tryz.ntmps58
 go_upto_region 1 with fail
 have aw:jS w (w.alloc (.cells #[.slice t cs.length aJ,.slice u es.length bX,.slice C L.length m] 105)) (.slice t cs.length aJ) (.slice u es.length bX) (.slice C L.length m) (.slice K 0 0) []:=
  ⟨bh _ _,World.ownsRow_nil _ _ _ _,(Uq _ _).alloc (T9 _) _⟩
 generalize w.alloc (.cells #[.slice t cs.length aJ,.slice u es.length bX,.slice C L.length m] 105)=bo at*;obtain⟨z,A,B⟩:=aw.cells;have k:X (bG 84 #[.slice K 0 0,.int .i64 (cs.length:Int)] bo λe w'=>∃h,e= .returned h/\w'.ownsRow w.heap.size 5 1 h ([]++aL cs.length).length (aG ([]++aL cs.length))/\aO bo w' (.slice K 0 0) h):=cQ _ [] cs.length w.heap.size bo (by omega) (by simp) aw.dh.size aw.own
 go_upto_region 2 with(go_at_call 84;refine k.o.mono ?_;rintro e f6 ⟨f4,rfl,dr,db⟩)
 have s:X (jS w f6 (.slice t cs.length aJ) (.slice u es.length bX) (.slice C L.length m) f4 (aL cs.length++iT cs es 0)):=by
  have Z:=aw.jQ db dr;rw[List.nil_append] at Z;show jS _ _ _ _ _ _ _;rw[show iT cs es 0=[] from rfl,Ws];exact Z
 clear aw z A B k dr db;obtain⟨z,A,B⟩:=s.o.cells
 go_wp2_with fail
 clear z A B
 go_loopw [0,19] (λam d wr=>∃a:Nat,a<=cs.length/\d= .int .i64 (a:Int)/\jS w wr (.slice t cs.length aJ) (.slice u es.length bX) (.slice C L.length m) am (aL cs.length++iT cs es a)) (λ_ d _=>cs.length-(UT d).toNat)
 case atStart=>exact⟨0,UF _,rfl,s.o⟩
 case round=>
  rename F=>wr
  clear s;obtain⟨a,dk,rfl,g⟩:=hrel;have o:=af g;have dE:w.heap.size<=wr.heap.size:=g.dh.size;by_cases y:a<cs.length
  ·have fv:a<es.length:=by rw[el.o];exact y
   have v:=a6.o.below g.dh;obtain rfl:=v.addr (by omega);obtain rfl:=ck.o (by omega);have al:=v.c0 a y;have bc:=v.c1 a y;have bi:X (D<w.heap.size):=cl.o (by omega);have ci:=af (cn.o a fv);have a7:X (aL cs.length++iT cs es (a+1)=aL cs.length++iT cs es a++aL cs[a].name.size++bytesOf cs[a].name++[byteOf cs[a].kind,byteOf (es.getD a 0)]):=by
    show _=_;rw[x9];unfold xZ;rw[Uj (l:=cs),Uo y];simp
   have b6:=bj.o cs[a] (Uk y);have dv:(aL cs.length++iT cs es a).length<=300:=by
    have a9:=iF cs.length;have bt:=us (es:=es) bj.o a dk;rw[Ub];omega
   have gs:(a:Int)<(es.length:Int):=by omega
   generalize fg:cs[a]=c at*;generalize fl:es.getD a 0=J at*;generalize a0:aL cs.length++iT cs es a=pre at*;clear v fg fl a0 g
   go_upto_region 5 with fail
   have i:=o.o.alloc (.cells #[.string c.name,.int .i64 c.kind] 63);have x:(wr.alloc (.cells #[.string c.name,.int .i64 c.kind] 63)).heap[wr.heap.size]? =I (.cells #[.string c.name,.int .i64 c.kind] 63 (0,0)):=bh _ _;generalize wr.alloc (.cells #[.string c.name,.int .i64 c.kind] 63)=V at*;have s:=af i;generalize wr.heap.size=br at*;obtain⟨M,N⟩:=qB x;have k:X (bG 84 #[u0,.int .i64 (c.name.size:Int)] V λe w'=>∃h,e= .returned h/\w'.ownsRow w.heap.size 5 1 h (pre++aL c.name.size).length (aG (pre++aL c.name.size))/\aO V w' u0 h):=cQ _ pre c.name.size w.heap.size V (by omega) (by omega) i.dh.size i.own;clear i al bc o
   go_upto_region 6 with(go_at_call 84;refine k.o.mono ?_;rintro e a5 ⟨bd,rfl,Q,E⟩)
   have ae:=s.o.zS E x (by decide);have p:=af (s.o.jQ E Q);clear Q E s k x M N;obtain⟨M,N⟩:=qB ae;have gy:=iF c.name.size;have fz:(pre++aL c.name.size).length<=310:=by rw[Ub];omega
   generalize a0:pre++aL c.name.size=r at*;have az:=p.o.own;have d3:w.heap.size<=a5.heap.size:=p.o.dh.size
   go_upto_region 7 with(at_builtin;refine eR _ Y _ _ 133 9 Y w.heap.size 5 d4 ay.underlying133 ay.underlying9 df d0 d1 d2 _ r.length _ Y az c.name Y (by unfold Ur;omega) (by omega) d3 ?_;intro be O ca b2)
   have bB:=p.o.zS b2 ae (by decide);have ab:X (jS w O (.slice (I ⟨H,bD,K⟩) cs.length aJ) (.slice (I ⟨D,ji,K⟩) es.length bX) (.slice C L.length m) be (r++bytesOf c.name)):=p.o.jQ b2 (by
    rw[kg] at ca;rw[Ub,aj,jf];exact ca)
   clear ca b2 p ae M N az d3;obtain⟨M,N⟩:=qB bB;obtain⟨z,A,B⟩:=ab.o.cells;have fb:O.cell? ⟨D,ji+a,K⟩=I (.int .i64 J):=(ab.o.dh.cell (p:=⟨D,ji+a,K⟩) bi.o).trans ci.o;have gi:br<O.heap.size:=Uf bB;have gj:w.heap.size<O.heap.size:=Uf ab.o.box;have gl:D<O.heap.size:=by have:=bi.o;omega
   have f0:(r++bytesOf c.name).length<=330:=by rw[Ub,aj];omega
   have eQ:X (aL cs.length++iT cs es (a+1)=r++bytesOf c.name++[byteOf c.kind,byteOf J]):=by show _=_;rw[a7.o]
   have f1:Yv.wrap c.kind=(byteOf c.kind:Int):=mB c.kind;have f2:Yv.wrap J=(byteOf J:Int):=mB J;clear a0 a7;generalize r++bytesOf c.name=G at*;have az:=ab.o.own
   go_region_held3 (λl=>l.cell? ⟨br,1,K⟩=I (.int .i64 c.kind)/\l.cell? ⟨w.heap.size,1,K⟩=I (.slice (I ⟨D,ji,K⟩) es.length bX)/\l.cell? ⟨D,ji+a,K⟩=I (.int .i64 J)) (first|go_keep|exact⟨d5,a2,a3⟩)
    ((refine WL _ (by rfl) _ _ 133 (by rfl) w.heap.size 5 d4 _ 1 1 ay.underlying133 df d0 d1 d2 Y (by decide) be G.length _ (by rfl) ((aK az (Uq _ _).drew).alloc _) ⟨O.heap.size,0,K⟩ 2 2 [.int .u8 (byteOf c.kind:Int),.int .u8 (byteOf J:Int)] (by rfl) Y (IL O.drew _ _ _) (by intro am dT;simp at dT;rcases dT with rfl|rfl<;>rfl) (by decide) (by unfold Ur;omega) (by omega) (by simp;omega) _ Y ?_;intro c2 cR cd ds dd c3 fx;have b3:aO O cd be (.slice (I ⟨c2,0,K⟩) (G.length+2) cR):=((aO.refl O be).drewN 1).trans (aO.jm dd c3);have c5:=ab.o.zS b3 bB (by decide);have bl:X (jS w cd (.slice (I ⟨H,bD,K⟩) cs.length aJ) (.slice (I ⟨D,ji,K⟩) es.length bX) (.slice C L.length m) (.slice (I ⟨c2,0,K⟩) (G.length+2) cR) (G++[byteOf c.kind,byteOf J])):=ab.o.jQ b3 (by rw[Ub,jf];exact ds);have d5:=(qB c5).2;have a2:=bl.o.cells.2.1;have a3:cd.cell? ⟨D,ji+a,K⟩=I (.int .i64 J):=(bl.o.dh.cell (p:=⟨D,ji+a,K⟩) bi.o).trans ci.o))
   clear ds dd c3 fx b3 c5 d5 a2 a3 az f1 f2 M N z A B fb
   go_wp2_with fail
   go_roundw
   case rel=>exact⟨a+1,by omega,by go_num,by rw[eQ.o];exact bl.o⟩
   case measure=>simp[UT];omega
  ·obtain rfl:a=cs.length:=by omega
   have dv:(aL cs.length++iT cs es cs.length).length<=300:=by
    have a9:=iF cs.length;have bt:=us (es:=es) bj.o cs.length (T9 _);rw[Ub];omega
   have em:X (jl cs es bs=aL cs.length++iT cs es cs.length++aL bs.length++cS cs (bs.take L.length)):=by
    show _=_;rw[ap.o,Vh];unfold jl;simp
   have co:X (aL cs.length++iT cs es cs.length++aL bs.length=aL cs.length++iT cs es cs.length++aL bs.length++cS cs (bs.take 0)):=by
    show _=_;simp[cS]
   generalize aL cs.length++iT cs es cs.length=pre at*;obtain⟨z,A,B⟩:=g.cells;have k:X (bG 84 #[u0,.int .i64 (L.length:Int)] wr λe w'=>∃h,e= .returned h/\w'.ownsRow w.heap.size 5 1 h (pre++aL L.length).length (aG (pre++aL L.length))/\aO wr w' u0 h):=cQ _ pre L.length w.heap.size wr (by omega) (by omega) g.dh.size g.own;clear g
   go_upto_region 10 with(go_at_call 84;refine k.o.mono ?_;rintro e a5 ⟨bd,rfl,Q,E⟩)
   have p:X (jS w a5 (.slice t cs.length aJ) (.slice u es.length bX) (.slice C L.length m) bd (pre++aL bs.length++cS cs (bs.take 0))):=by
    have Z:=o.o.jQ E Q;rw[ap.o] at Z;show jS _ _ _ _ _ _ _;rw[<-co.o];rw[ap.o];exact Z
   have fz:(pre++aL bs.length).length<=310:=by have:=iF bs.length;rw[Ub];omega
   clear Q E o k z A B co ck cl cn;generalize pre++aL bs.length=r at*;obtain⟨z,A,B⟩:=p.o.cells
   go_wp2_with fail
   clear z A B
   go_loopw [0,54] (λam d wr=>∃a:Nat,a<=L.length/\d= .int .i64 (a:Int)/\jS w wr (.slice t cs.length aJ) (.slice u es.length bX) (.slice C L.length m) am (r++cS cs (bs.take a))) (λ_ d _=>L.length-(UT d).toNat)
   case atStart=>exact⟨0,UF _,rfl,p.o⟩
   case round=>
    rename F=>S
    clear p;obtain⟨a,dk,rfl,g⟩:=hrel;have o:=af g;have dE:w.heap.size<=S.heap.size:=g.dh.size;by_cases y:a<L.length
    ·have dq:a<bs.length:=by rw[<-ap.o];exact y
     have aa:=en.o.below g.dh;obtain rfl:=aa.addr (by omega);have al:S.cell? ⟨ar,av+a*2,K⟩=I (.int .i64 (L[a].1.rows:Int)):=aa.c a y 0 _ Y;have bc:S.cell? ⟨ar,av+a*2+1,K⟩=I L[a].2:=aa.c a y 1 _ Y;have bA:L[a].1=bs[a]:=by
      have:=et.o;have bt:(L.map Uy)[a]'(by simpa using y)=bs[a]:=by simp only[this]
      simpa using bt
     have cp:X (w.ownsRow base 143 8 L[a].2 bs[a].chunks.length (ek bs[a].chunks)):=by have:=eh.o L[a] (Uk y);rw[bA] at this;exact this
     have T:=af (cf.o bs[a] (Uk dq));have a7:X (r++cS cs (bs.take (a+1))=r++cS cs (bs.take a)++aL bs[a].rows++fp cs bs[a].chunks bs[a].chunks.length):=by
      show _=_;rw[Dm cs bs a dq];unfold ep;simp
     have dv:(r++cS cs (bs.take a)).length<=1540310:=by
      have a9:=xP (bs:=bs.take a) (λb bx=>cf.o b (V6 bx)) fi cs;rw[Ub];rw[Vt] at a9;omega
     rw[bA] at al;obtain⟨bb,R,gN,fG,dp,n⟩:=QL.bN uA cp.o;rw[dp] at bc;have er:=af n;have gq:bs[a].chunks.length<=8:=by have:=T.o.len;omega
     have dC:=T.o.rows;generalize bx:bs[a]=b at*;generalize a0:r++cS cs (bs.take a)=pre at*;clear aa bA bx a0 g cp n dp
     go_upto_region 13 with fail
     have i:=o.o.alloc (.cells #[.int .i64 (b.rows:Int),.slice bb b.chunks.length fG] 139);have x:(S.alloc (.cells #[.int .i64 (b.rows:Int),.slice bb b.chunks.length fG] 139)).heap[S.heap.size]? =I (.cells #[.int .i64 (b.rows:Int),.slice bb b.chunks.length fG] 139 (0,0)):=bh _ _;generalize S.alloc (.cells #[.int .i64 (b.rows:Int),.slice bb b.chunks.length fG] 139)=V at*;have s:=af i;generalize S.heap.size=br at*;obtain⟨M,N⟩:=qB x;have k:X (bG 84 #[u0,.int .i64 (b.rows:Int)] V λe w'=>∃h,e= .returned h/\w'.ownsRow w.heap.size 5 1 h (pre++aL b.rows).length (aG (pre++aL b.rows))/\aO V w' u0 h):=cQ _ pre b.rows w.heap.size V dC (by omega) i.dh.size i.own;clear i al bc o dC
     go_upto_region 14 with(go_at_call 84;refine k.o.mono ?_;rintro e a5 ⟨bd,rfl,Q,E⟩)
     have ae:=s.o.zS E x (by decide);have p:X (jS w a5 (.slice t cs.length aJ) (.slice u es.length bX) (.slice (I ⟨ar,av,K⟩) L.length m) bd (pre++aL b.rows++fp cs b.chunks 0)):=by
      have Z:=s.o.jQ E Q;show jS _ _ _ _ _ _ _;rw[show fp cs b.chunks 0=[] from rfl,Ws];exact Z
     clear Q E s k x M N;obtain⟨M,N⟩:=qB ae;have f0:(pre++aL b.rows).length<=1540320:=by have:=iF b.rows;rw[Ub];omega
     generalize pre++aL b.rows=G at*
     go_wp2_with fail
     clear M N ae
     go_loopw [0,65] (λam d wr=>∃cb:Nat,cb<=b.chunks.length/\d= .int .i64 (cb:Int)/\jS w wr (.slice t cs.length aJ) (.slice u es.length bX) (.slice (I ⟨ar,av,K⟩) L.length m) am (G++fp cs b.chunks cb)) (λ_ d _=>b.chunks.length-(UT d).toNat)
     case atStart=>exact⟨0,UF _,rfl,p.o⟩
     case round=>
      rename F=>j
      clear p;obtain⟨d,fu,rfl,g⟩:=hrel;have o:=af g;have dE:w.heap.size<=j.heap.size:=g.dh.size;by_cases q:d<b.chunks.length
      ·have ba:d<cs.length:=by have:=T.o.len;omega
       have v:=a6.o.below g.dh;obtain rfl:=v.addr (by omega);have f3:=v.c1 d ba;have n:=er.o.below g.dh;obtain rfl:=n.addr (by omega);have al:j.cell? ⟨R,gN+d*8,K⟩=I (.string b.chunks[d].text):=n.c d q 0 _ Y;have f7:j.cell? ⟨R,gN+d*8+1,K⟩=I (.bool b.chunks[d].eZ.there):=n.c d q 1 _ Y;have f8:j.cell? ⟨R,gN+d*8+2,K⟩=I (.bool b.chunks[d].eZ.least.null):=n.c d q 2 _ Y;have f9:j.cell? ⟨R,gN+d*8+3,K⟩=I (.int .i64 b.chunks[d].eZ.least.n):=n.c d q 3 _ Y;have gc:j.cell? ⟨R,gN+d*8+4,K⟩=I (.string b.chunks[d].eZ.least.s):=n.c d q 4 _ Y;have ge:j.cell? ⟨R,gN+d*8+5,K⟩=I (.bool b.chunks[d].eZ.most.null):=n.c d q 5 _ Y;have gf:j.cell? ⟨R,gN+d*8+6,K⟩=I (.int .i64 b.chunks[d].eZ.most.n):=n.c d q 6 _ Y;have gg:j.cell? ⟨R,gN+d*8+7,K⟩=I (.string b.chunks[d].eZ.most.s):=n.c d q 7 _ Y;have cv:X (G++fp cs b.chunks (d+1)=G++fp cs b.chunks d++aL b.chunks[d].text.size++cr cs[d].kind b.chunks[d].eZ):=by
        show _=_;rw[vM];unfold o9;rw[Uj (l:=cs),Uo ba,Uj (l:=b.chunks),Uo q];simp
       have gx:(G++fp cs b.chunks d).length<=1542000:=by
        have a9:=yO T.o cs d fu;rw[Ub];omega
       have dO:=T.o.size _ (Uk q);have e1:=af (T.o.least _ (Uk q));have e2:=af (T.o.most _ (Uk q));have eo:=af (eq.o _ (Uk ba));have ch:X (H<w.heap.size):=a6.o.lt (by omega);have cu:=af (a6.o.c1 d ba);have gr:(d:Int)<(cs.length:Int):=by omega
       generalize b.chunks[d]=f at*;generalize cs[d].kind=kd at*;generalize G++fp cs b.chunks d=a1 at*;clear v n g f3
       go_upto_region 17 with fail
       have i:=o.o.alloc (.cells (dJ f).toArray 143);have x:(j.alloc (.cells (dJ f).toArray 143)).heap[j.heap.size]? =I (.cells (dJ f).toArray 143 (0,0)):=bh _ _;rw[show(dJ f).toArray=#[.string f.text,.bool f.eZ.there,.bool f.eZ.least.null,.int .i64 f.eZ.least.n,.string f.eZ.least.s,.bool f.eZ.most.null,.int .i64 f.eZ.most.n,.string f.eZ.most.s] from rfl] at i x;generalize j.alloc (.cells #[.string f.text,.bool f.eZ.there,.bool f.eZ.least.null,.int .i64 f.eZ.least.n,.string f.eZ.least.s,.bool f.eZ.most.null,.int .i64 f.eZ.most.n,.string f.eZ.most.s] 143)=a8 at*;have bm:=af i;have b0:a8.heap[j.heap.size]? =I (.cells (dJ f).toArray 143 (0,0)):=x;generalize j.heap.size=W at*;have k:X (bG 84 #[u0,.int .i64 (f.text.size:Int)] a8 λe w'=>∃h,e= .returned h/\w'.ownsRow w.heap.size 5 1 h (a1++aL f.text.size).length (aG (a1++aL f.text.size))/\aO a8 w' u0 h):=cQ _ a1 f.text.size w.heap.size a8 dO (by omega) i.dh.size i.own;clear i al f7 f8 f9 gc ge gf gg o dO x;obtain⟨⟨e3,-⟩,-⟩:=kB b0
       go_upto_region 18 with(go_at_call 84;refine k.o.mono ?_;rintro e ao ⟨a4,rfl,dt,b4⟩)
       have b1:=bm.o.zS b4 b0 (by decide);have ad:=af (bm.o.jQ b4 dt);have e0:=af cv.o;have gv:(a1++aL f.text.size).length<=1542010:=by have:=iF f.text.size;rw[Ub];omega
       clear dt b4 bm k b0 e3 cv;generalize a1++aL f.text.size=cc at*;have ef:X (bG 85 #[a4,.agg #[.bool f.eZ.there,.bool f.eZ.least.null,.int .i64 f.eZ.least.n,.string f.eZ.least.s,.bool f.eZ.most.null,.int .i64 f.eZ.most.n,.string f.eZ.most.s],.int .i64 kd] ao.drew λe w'=>∃an,e= .returned an/\w'.ownsRow w.heap.size 5 1 an (cc++cr kd f.eZ).length (aG (cc++cr kd f.eZ))/\aO ao.drew w' a4 an):=
        tV a4 cc f.eZ kd w.heap.size ao.drew eo.o e1.o e2.o (by omega) ad.o.dh.size ad.o.drew.own
       obtain⟨⟨-,e4,e5,e6,e7,e8,e9,fa⟩,-⟩:=kB b1;obtain⟨z,A,B⟩:=ad.o.cells;have fd:ao.cell? ⟨H,bD+d*2+1,K⟩=I (.int .i64 kd):=(ad.o.dh.cell (p:=⟨H,bD+d*2+1,K⟩) ch.o).trans cu.o
       go_region_held3 (λl=>l.cell? ⟨W,1,K⟩=I (.bool f.eZ.there)/\l.cell? ⟨W,2,K⟩=I (.bool f.eZ.least.null)/\l.cell? ⟨W,3,K⟩=I (.int .i64 f.eZ.least.n)/\l.cell? ⟨W,4,K⟩=I (.string f.eZ.least.s)/\l.cell? ⟨W,5,K⟩=I (.bool f.eZ.most.null)/\l.cell? ⟨W,6,K⟩=I (.int .i64 f.eZ.most.n)/\l.cell? ⟨W,7,K⟩=I (.string f.eZ.most.s)/\l.cell? ⟨w.heap.size,0,K⟩=I (.slice (I ⟨H,bD,K⟩) cs.length aJ)/\l.cell? ⟨H,bD+d*2+1,K⟩=I (.int .i64 kd)) (first|go_keep|exact⟨a2,a3,d6,d7,d8,d9,ea,eb,ec⟩)
        ((go_at_call 85;refine ef.o.mono ?_;rintro e ee ⟨f5,rfl,du,dc⟩;have b5:aO ao ee a4 f5:=((aO.refl ao a4).drewN 1).trans dc;have c6:=ad.o.zS b5 b1 (by decide);have P:=af (ad.o.jQ b5 du);obtain⟨⟨-,a2,a3,d6,d7,d8,d9,ea⟩,-⟩:=kB c6;have eb:=P.o.cells.1;have ec:ee.cell? ⟨H,bD+d*2+1,K⟩=I (.int .i64 kd):=(P.o.dh.cell (p:=⟨H,bD+d*2+1,K⟩) ch.o).trans cu.o))
       clear du dc b5 c6 a2 a3 d6 d7 d8 d9 ea eb ec e4 e5 e6 e7 e8 e9 fa z A B fd b1
       go_wp2_with fail
       go_roundw
       case rel=>exact⟨d+1,by omega,by go_num,by rw[e0.o];exact P.o⟩
       case measure=>simp[UT];omega
      ·obtain rfl:d=b.chunks.length:=by omega
       have P:X (jS w j (.slice t cs.length aJ) (.slice u es.length bX) (.slice (I ⟨ar,av,K⟩) L.length m) u0 (r++cS cs (bs.take (a+1)))):=by show jS _ _ _ _ _ _ _;rw[a7.o];exact g
       clear g o
       go_wp2_with fail
       go_roundw
       case rel=>exact⟨a+1,by omega,by go_num,P.o⟩
       case measure=>simp[UT];omega
    ·obtain rfl:a=L.length:=by omega
     have P:X (jS w S (.slice t cs.length aJ) (.slice u es.length bX) (.slice C L.length m) u0 (jl cs es bs)):=by show jS _ _ _ _ _ _ _;rw[em.o];exact g
     clear g o
     go_wp2_with fail
     go_ret;exact⟨_,rfl,P.o.own,P.o.dh⟩
def zW (w:F)(base:Nat)(v:U)(pre:List Nat):Prop:=
 w.ownsRow base 5 1 v pre.length (aG pre)\/(pre=dP/\∃a,v= .slice (I ⟨a,0,K⟩) 4 4/\base<=a/\w.heap[a]? =I (.cells (aG dP).toArray 5 (4,5)))
def zW.lt{w:F}{base:Nat}{v:U}{pre:List Nat}(h:zW w base v pre):∀g,v.ownBlock=I g->base<=g/\g<w.heap.size:=by
 rcases h with h|⟨-,g,rfl,b,c⟩
 ·exact h.lt
 ·intro d a;simp[VA] at a;subst a;exact⟨b,(Uc.1 c).1⟩
def zW.zS{w:F}{base:Nat}{v:U}{pre:List Nat}(h:zW w base v pre){g:Nat}{cs:Array U}{t:Ui}(b:w.heap[g]? =I (.cells cs t (0,0)))(d:t≠5):I g≠v.ownBlock:=by
 rcases h with h|⟨-,e,rfl,-,c⟩
 ·exact bq h b d
 ·intro a;simp[VA] at a;subst a;rw[b] at c;simp at c
def zW.below{w w':F}{base:Nat}{v:U}{pre:List Nat}(h:zW w base v pre)(b:aP w w'):zW w' base v pre:=by
 rcases h with h|⟨d,c,e,f,a⟩
 ·exact .inl (aK h b)
 ·exact .inr ⟨d,c,e,f,(b.block _ (Uc.1 a).1).trans a⟩
def yG{w:F}{g:Nat}(h:w.heap[g]? =I (.cells (aG dP).toArray 5 (4,5))):∀j u,(aG dP)[j]? =I u->w.cell? ((⟨g,0,K⟩:UK).add j)=I u:=by
 have:=VL h;simpa using this
def rz{P:Ug}(w:F){ops:Array Vv}{rest:List Vv}{o:Vv}{a:V7}{Q:Exit->V7->F->Prop}(j:o.guard=K)(sl x:U7)(t u:Ui)
 (m:o.op= .call {callee:=.builtin .append,args:= #[sl,x],argTypes:= #[t,u]})
 (base:Nat) (i:Xi) (q:P.underlying t=I (.slice 5)) (r:P.underlying u=I .string) (k:P.info? 5=I i) (z:i.zero=I (.int .u8 0))
 (p:i.size=1) (g:i.bytes=1) (v:U) (pre:List Nat) (n:a.eval sl=v) (d:zW w base v pre) (s:ByteArray) (y:a.eval x= .string s) (S:0<s.size)
 (b:pre.length+s.size<=Ur) (C:pre.length+s.size<=140737488355328) (f:base<=w.heap.size)
 (h:∀e w',w'.ownsRow base 5 1 e (pre.length+s.size) (aG pre++Lib.strCells s)->aO w w' v e->wpList P ops Q rest (a.put o.dst e) w'):wpList P ops Q (o::rest) a w:=by
 rcases d with d|⟨rfl,A,rfl,R,E⟩
 ·exact eR w j sl x t u m base 5 i q r k z p g v pre.length _ n d s y b C f h
 ·refine wpList_plain j λN B=>?_;have O:4+s.size<=9223372036854775807:=by have:dP.length=4:=rfl;unfold Ur at b;omega
  have J:=Lib.run_append_grow_string (P:=P) w t u o.type 5 i (.int .u8 0) q r k z ⟨A,0,K⟩ 4 4 (aG dP) (by rw[p];rfl) (yG E) s (by omega) (by omega) (by rw[g];exact growslice_fits (by omega) (by have:dP.length=4:=rfl;omega));unfold Oper.wp UI;simp only[m,X7,invoke,builtin,WK,Sem.run_pure,Result.andThen_ok,List.map_toArray,Xy,List.map_nil,n,y,J];refine B _ _ (h _ _ ?_ ?_)
  ·have G:=grownCap_ge w (4+s.size) 4 5;have D:=grownCap_le_maxLen w (4+s.size) 4 5 b;have l:(aG dP++Lib.strCells s).length=(4+s.size)*1:=by rw[Ub,Lib.strCells_length,Nat.mul_one];rfl
   refine⟨l,.inr ⟨w.heap.size,_,_,rfl,f,V5 w.drew _,G,D,?_,?_⟩⟩
   ·have L:(Value.int Yv 0).cells.size=1:=rfl;have H:(aG dP).length=4:=rfl;simp only[Array.size_append,List.size_toArray,size_zeroCells,L,H,Lib.strCells_length];omega
   ·simp only[Array.toList_append,UD];rw[<-UD];show List.take ((4+s.size)*1) _=_;rw[<-l];exact List.take_left
  ·refine⟨⟨rfl,rfl,rfl,by simp,λM c _=>alloc_old (w:=w.drew) _ c Y⟩,λM c=>?_⟩;simp[VA] at c;exact .inr (by omega)
def xd{P:Ug}(w:F){ops:Array Vv}{rest:List Vv}{o:Vv}{a:V7}{Q:Exit->V7->F->Prop}(A:o.guard=K)(sl x:U7)(t:Ui)
 (D:o.op= .call {callee:=.builtin .append,args:= #[sl,x],argTypes:= #[t,t]})
 (base:Nat) (i:Xi) (H:P.underlying t=I (.slice 5)) (B:P.info? 5=I i) (L:i.zero=I (.int .u8 0))
 (G:i.size=1) (z:i.bytes=1) (v:U) (pre:List Nat) (E:a.eval sl=v) (p:zW w base v pre) (l:UK) (c:Nat) (b:List Nat) (J:a.eval x= .slice (I l) b.length c) (S:0<b.length)
 (hc:∀j u,(aG b)[j]? =I u->w.cell? (l.add j)=I u)
 (N:pre.length+b.length<=Ur) (W:pre.length+b.length<=140737488355328) (y:base<=w.heap.size)
 (h:∀d w',w'.ownsRow base 5 1 d (pre++b).length (aG (pre++b))->aO w w' v d->wpList P ops Q rest (a.put o.dst d) w'):wpList P ops Q (o::rest) a w:=by
 have r:∀u∈aG b,u.oneCell'=Z:=by
  intro u T;obtain⟨aa,-,rfl⟩:=U8.1 T;rfl
 have C:(aG b).length=b.length*1:=by simp[aG]
 have q:∀(d:U) (w':F),w'.ownsRow base 5 1 d (pre.length+b.length) (aG pre++aG b)->w'.ownsRow base 5 1 d (pre++b).length (aG (pre++b)):=λd w' R=>by
  rw[Ub,jf];exact R
 rcases p with p|⟨rfl,M,rfl,s,O⟩
 ·refine aS w A sl x t D base 5 i (.int .u8 0) 1 1 H B L G z Y (by decide) v pre.length _ E p l b.length c (aG b) J S C hc r N (by omega) y ?_;intro d w' m g;refine h d w' (q _ _ m) ?_;rcases g with⟨k,n⟩|⟨k,n⟩
  ·exact⟨⟨k.os,k.tape,k.output,k.size,λf e _=>k.block f e (by simp)⟩,λf e=>.inr (n.lt f e).1⟩
  ·exact⟨n,λf e=>.inl (by rw[<-k];exact e)⟩
 ·have X:dP.length=4:=rfl;refine wpList_append_grows w A sl x t D 5 i (.int .u8 0) 1 1 H B L G z Y (by decide) (I ⟨M,0,K⟩) 4 4 (aG dP) E (λh=>by cases h) Y (λV s=>by cases s;exact yG O) l b.length c (aG b) J C hc r (by omega) (by omega) (by omega) ?_;intro d w' m g;refine h d w' (q _ _ (bL m y)) ⟨⟨g.os,g.tape,g.output,g.size,λf e _=>g.block f e (by simp)⟩,λf e=>.inr (m.lt f e).1⟩
structure ov(w W:F)(cv ev bv u:U)(pre:List Nat):Prop where
 box:W.heap[w.heap.size]? =I (.cells #[cv,ev,bv] 105 (0,0))
 own:zW W w.heap.size u pre
 dh:aP w W
def ov.below{w W b:F}{d e c u:U}{pre:List Nat}(h:ov w W d e c u pre)(a:aP W b):ov w b d e c u pre:=
 ⟨(a.block _ (Uf h.box)).trans h.box,h.own.below a,h.dh.trans (a.mono h.dh.size)⟩
def ov.alloc{w W:F}{b c a u:U}{pre:List Nat}(h:ov w W b c a u pre)(o:Xx):ov w (W.alloc o) b c a u pre:=h.below ((Uq _ _).alloc (T9 _) o)
def ov.jQ{w W b:F}{f g e u d:U}{pre c:List Nat}(h:ov w W f g e u pre)(a:aO W b u d)(j:b.ownsRow w.heap.size 5 1 d c.length (aG c)):ov w b f g e d c:=
 ⟨(a.fP.block _ (Uf h.box) (h.own.zS h.box (by decide))).trans h.box,.inl j,h.dh.trans (a.below (λi a=>(h.own.lt i a).1) h.dh.size)⟩
def ov.cells{w W:F}{b c a u:U}{pre:List Nat}(h:ov w W b c a u pre):bU W w.heap.size 0 b/\bU W w.heap.size 1 c/\bU W w.heap.size 2 a:=cC h.box
def E9(n:Nat):0<(aL n).length:=by
 unfold aL iU
 split<;>simp
def NX(l:List kr)(k:Nat):(cw (l.take k)).length<=(cw l).length:=by
 have a:cw l=cw (l.take k)++cw (l.drop k):=by
  unfold cw;rw[<-Vj,Wx]
 rw[a,Ub];omega
def LA(bs:List Bd)(k:Nat):(bQ (bs.take k)).length<=(bQ bs).length:=by
 have a:bQ bs=bQ (bs.take k)++bQ (bs.drop k):=by
  unfold bQ;rw[<-Vj,Wx]
 rw[a,Ub];omega
def Mw(cs:List bK)(es:List Int)(bs:List Bd)(M N J:U)(w:F)(b4:cs.length<=8)(ca:es.length=cs.length)(av:∀c∈cs,c.name.size<=16)(ck:∀c∈cs,c.kind=1\/c.kind=2\/c.kind=3)(dk:bs.length<=2000)(P:∀b∈bs,Da cs.length b)(cv:∀b∈bs,∀c∈b.chunks,0<c.text.size)(b2:(bQ bs).length<=10000000000)
 (b5:vp w M cs) (cb:rB w N es) (b1:∃base L,L.map Uy=bs/\ja w base J L):
 bG 42 #[.agg #[M,N,J]] w λe w'=>e= .returned (.string (strOf (vC cs es bs)))/\aP w w':=by
 obtain⟨a5,ar,a1,a2,a3⟩:=Vg ay.rH;have bj:X (∀v,aP w v->bG 58 #[aR,.agg #[M,N,J]] v λe w'=>∃B,e= .returned B/\w'.ownsRow v.heap.size 5 1 B (jl cs es bs).length (aG (jl cs es bs))/\aP v w'):=λv an=>
  tX cs es bs M N J v b4 ca av ck dk P (b5.below an) (cb.lower an) (by obtain⟨base,L,ae,z⟩:=b1;exact⟨base,L,ae,z.below an⟩)
 have c1:X ((jl cs es bs).length<=2000000/\0<(jl cs es bs).length):=by
  have ae:=iF cs.length;have z:=us (es:=es) av cs.length (T9 _);have dd:=iF bs.length;have el:=xP P b4 cs;have em:=E9 cs.length;show _/\_;unfold jl;simp only[Ub];omega
 obtain⟨base,L,am,al⟩:=b1;have C:=QL.bN qE al.own;obtain⟨H,x,y,n,rfl,t⟩:=C;obtain⟨o,eb,bD,aJ,rfl,en,-⟩:=b5;obtain⟨p,ec,ji,bX,rfl,-,-,-⟩:=cb;have bm:=af am;have ad:X (L.length=bs.length):=by show _=_;rw[<-am,UH]
 have bl:=af t;have be:=af al.each;have bu:=af cv;have bd:=af P;have ab:=af b2;have e1:L.length<=2000:=by have:=ad.o;omega
 have du:∀(E:Xx) (u:Array U) (T c:Nat),(convert 133 133 (.slice (I ⟨w.heap.size+1,0,K⟩) T c)).run (aB T5) ((w.alloc E).alloc (.cells u 5))= .ok (.slice (I ⟨w.heap.size+1,0,K⟩) T c) ((w.alloc E).alloc (.cells u 5 (u.size,u.size+1))):=λE u T c=>by
  have dc:=Lib.run_convert_bytes_const (P:=(aB T5)) (w.alloc E) 133 5 u T c ay.underlying133 ay.underlying5;rwa [show(w.alloc E).heap.size=w.heap.size+1 by simp] at dc
 clear ca av ck P am t al cv b2;go_enter ay.func42,Tryz.ntmps42
 go_upto_region 2 with fail
 clear du;have O:ov w ((w.alloc (.cells #[.slice o cs.length aJ,.slice p es.length bX,.slice H L.length n] 105)).alloc (.cells (aG dP).toArray 5 (4,5))) (.slice o cs.length aJ) (.slice p es.length bX) (.slice H L.length n) (.slice (I ⟨w.heap.size+1,0,K⟩) 4 4) (dP++bQ (bs.take 0)):=
  ⟨alloc_old _ (by simp) (bh w _),.inr ⟨by simp[bQ],w.heap.size+1,rfl,by omega,jI w _ _⟩,gB _ _⟩
 rw[show(aG dP).toArray=#[.int .u8 83,.int .u8 84,.int .u8 82,.int .u8 65] from rfl] at O;generalize (w.alloc (.cells #[.slice o cs.length aJ,.slice p es.length bX,.slice H L.length n] 105)).alloc (.cells #[.int .u8 83,.int .u8 84,.int .u8 82,.int .u8 65] 5 (4,5))=ea at*;obtain⟨a7,a8,a9⟩:=O.cells;have bx:=af O;clear O
 go_wp2_with fail
 clear a7 a8 a9
 go_loopw [3,14] (λba a wr=>∃d:Nat,d<=L.length/\a= .int .i64 (d:Int)/\ov w wr (.slice o cs.length aJ) (.slice p es.length bX) (.slice H L.length n) ba (dP++bQ (bs.take d))) (λ_ a _=>L.length-(UT a).toNat)
 case atStart=>exact⟨0,UF _,rfl,bx.o⟩
 case round=>
  clear bx;obtain⟨d,eQ,rfl,g⟩:=hrel;have j:=af g;have dr:w.heap.size<=wr.heap.size:=g.dh.size;by_cases D:d<L.length
  ·have Q:d<bs.length:=by rw[<-ad.o];exact D
   have t:=bl.o.below g.dh;obtain rfl:=t.addr (by omega);have V:bU wr x (y+d*2) (.int .i64 (L[d].1.rows:Int)):=t.c d D 0 _ Y;have cR:bU wr x (y+d*2+1) L[d].2:=t.c d D 1 _ Y;have ao:L[d].1=bs[d]:=by
    have:=bm.o;have z:(L.map Uy)[d]'(by simpa using D)=bs[d]:=by simp only[this]
    simpa using z
   have bt:X (w.ownsRow base 143 8 L[d].2 bs[d].chunks.length (ek bs[d].chunks)):=by have:=be.o L[d] (Uk D);rw[ao] at this;exact this
   have c4:X (dP++bQ (bs.take (d+1))=dP++bQ (bs.take d)++cw (bs[d].chunks.take bs[d].chunks.length)):=by
    show _=_;rw[xS bs d Q,Vh,UD]
   have c5:=af (bu.o _ (Uk Q));have bo:X (∀a,(dP++bQ (bs.take d)++cw (bs[d].chunks.take a)).length<=10000000004):=λa=>by
    have ae:=NX bs[d].chunks a;have z:=LA bs (d+1);rw[xS bs d Q,Ub] at z;have dd:=ab.o;rw[Ub,Ub];have:dP.length=4:=rfl;omega
   have eo:bs[d].chunks.length<=8:=by have:=(bd.o bs[d] (Uk Q)).len;omega
   rw[ao] at V;obtain⟨S,r,gN,fG,cl,i⟩:=QL.bN uA bt.o;rw[cl] at cR;have c2:=af i;generalize df:bs[d]=b at*;generalize a0:dP++bQ (bs.take d)=pre at*;clear t ao df a0 g bt i cl
   go_upto_region 5 with fail
   have q:=j.o.alloc (.cells #[.int .i64 (b.rows:Int),.slice S b.chunks.length fG] 139);have A:(wr.alloc (.cells #[.int .i64 (b.rows:Int),.slice S b.chunks.length fG] 139)).heap[wr.heap.size]? =I (.cells #[.int .i64 (b.rows:Int),.slice S b.chunks.length fG] 139 (0,0)):=bh _ _;generalize wr.alloc (.cells #[.int .i64 (b.rows:Int),.slice S b.chunks.length fG] 139)=c9 at*;have s:X (ov w c9 (.slice o cs.length aJ) (.slice p es.length bX) (.slice (I ⟨x,y,K⟩) L.length n) u3 (pre++cw (b.chunks.take 0))):=by
    show ov _ _ _ _ _ _ _;rw[show cw (b.chunks.take 0)=[] from rfl,Ws];exact q
   generalize wr.heap.size=ef at*;obtain⟨dC,dE⟩:=qB A;clear q V cR j
   go_wp2_with fail
   clear dC dE A
   go_loopw [3,21] (λba a wr=>∃a4:Nat,a4<=b.chunks.length/\a= .int .i64 (a4:Int)/\ov w wr (.slice o cs.length aJ) (.slice p es.length bX) (.slice (I ⟨x,y,K⟩) L.length n) ba (pre++cw (b.chunks.take a4))) (λ_ a _=>b.chunks.length-(UT a).toNat)
   case atStart=>exact⟨0,UF _,rfl,s.o⟩
   case round=>
    rename F=>h
    clear s;obtain⟨a,et,rfl,g⟩:=hrel;have j:=af g;have dr:w.heap.size<=h.heap.size:=g.dh.size;by_cases l:a<b.chunks.length
    ·have i:=c2.o.below g.dh;obtain rfl:=i.addr (by omega);have V:bU h r (gN+a*8) (.string b.chunks[a].text):=i.c a l 0 _ Y;have d3:bU h r (gN+a*8+1) (.bool b.chunks[a].eZ.there):=i.c a l 1 _ Y;have d4:bU h r (gN+a*8+2) (.bool b.chunks[a].eZ.least.null):=i.c a l 2 _ Y;have d5:bU h r (gN+a*8+3) (.int .i64 b.chunks[a].eZ.least.n):=i.c a l 3 _ Y;have d6:bU h r (gN+a*8+4) (.string b.chunks[a].eZ.least.s):=i.c a l 4 _ Y;have d7:bU h r (gN+a*8+5) (.bool b.chunks[a].eZ.most.null):=i.c a l 5 _ Y;have d8:bU h r (gN+a*8+6) (.int .i64 b.chunks[a].eZ.most.n):=i.c a l 6 _ Y;have d9:bU h r (gN+a*8+7) (.string b.chunks[a].eZ.most.s):=i.c a l 7 _ Y;have bv:X (pre++cw (b.chunks.take (a+1))=pre++cw (b.chunks.take a)++bytesOf b.chunks[a].text):=by
      show _=_;rw[G8 b.chunks a l,UD]
     have e0:=bo.o a;have dp:=bo.o (a+1);rw[bv.o,Ub,aj] at dp;have dq:=c5.o _ (Uk l);generalize b.chunks[a]=f at*;generalize pre++cw (b.chunks.take a)=dv at*;clear i g
     go_upto_region 8 with fail
     have q:=j.o.alloc (.cells (dJ f).toArray 143);have A:(h.alloc (.cells (dJ f).toArray 143)).heap[h.heap.size]? =I (.cells (dJ f).toArray 143 (0,0)):=bh _ _;rw[show(dJ f).toArray=#[.string f.text,.bool f.eZ.there,.bool f.eZ.least.null,.int .i64 f.eZ.least.n,.string f.eZ.least.s,.bool f.eZ.most.null,.int .i64 f.eZ.most.n,.string f.eZ.most.s] from rfl] at q A;generalize h.alloc (.cells #[.string f.text,.bool f.eZ.there,.bool f.eZ.least.null,.int .i64 f.eZ.least.n,.string f.eZ.least.s,.bool f.eZ.most.null,.int .i64 f.eZ.most.n,.string f.eZ.most.s] 143)=bA at*;have c6:=af q;have b6:bA.heap[h.heap.size]? =I (.cells (dJ f).toArray 143 (0,0)):=A;have ds:w.heap.size<=bA.heap.size:=q.dh.size;have cu:=q.own;generalize h.heap.size=eh at*;clear q V d3 d4 d5 d6 d7 d8 d9 j A;obtain⟨⟨da,-⟩,-⟩:=kB b6
     go_wp2_with (at_builtin;refine rz _ Y _ _ 133 9 Y w.heap.size a5 ay.underlying133 ay.underlying9 ar a1 a2 a3 _ dv Y cu f.text Y dq (by unfold Ur;omega) (by omega) ds ?_;intro dT d2 aw ci)
     have c7:X (ov w d2 (.slice o cs.length aJ) (.slice p es.length bX) (.slice (I ⟨x,y,K⟩) L.length n) dT (pre++cw (b.chunks.take (a+1)))):=c6.o.jQ ci (by
      rw[kg] at aw;rw[bv.o,Ub,aj,jf];exact aw)
     clear aw ci cu da b6
     go_roundw
     case rel=>exact⟨a+1,by omega,by go_num,c7.o⟩
     case measure=>simp[UT];omega
    ·obtain rfl:a=b.chunks.length:=by omega
     have c8:X (ov w h (.slice o cs.length aJ) (.slice p es.length bX) (.slice (I ⟨x,y,K⟩) L.length n) u3 (dP++bQ (bs.take (d+1)))):=by show ov _ _ _ _ _ _ _;rw[c4.o];exact g
     clear g j
     go_wp2_with fail
     go_roundw
     case rel=>exact⟨d+1,by omega,by go_num,c8.o⟩
     case measure=>simp[UT];omega
  ·obtain rfl:d=L.length:=by omega
   have cd:dP++bQ (bs.take L.length)=dP++bQ bs:=by rw[ad.o,Vh]
   rw[cd] at g;have bi:X (vC cs es bs=dP++bQ bs++jl cs es bs++iA (jl cs es bs).length++bytesOf ⟨#[83,84,82,65]⟩):=by
    show _=_;rw[show bytesOf ⟨#[83,84,82,65]⟩=dP from rfl];unfold vC;simp only[UD]
   have e4:(dP++bQ bs).length<=10000000004:=by
    have:=ab.o;rw[Ub];have:dP.length=4:=rfl;omega
   obtain⟨er,cc⟩:=c1.o;generalize jl cs es bs=k at*;generalize dP++bQ bs=pre at*;have j:=af g;obtain⟨a7,a8,a9⟩:=g.cells;clear g cd bm bl be bu bd ab
   go_upto_region 12 with(go_at_call 58;refine(bj.o _ j.o.dh).mono ?_;rintro e d0 ⟨ee,rfl,az,b0⟩)
   have s:=af (j.o.below b0);obtain⟨bB,db,rfl,-,-⟩:=az.form cc;have b3:=az.cells (g:=bB) Y;have cn:=s.o.own;have dt:w.heap.size<=d0.heap.size:=s.o.dh.size;clear a7 a8 a9 b0 j bj
   go_upto_region 13 with(at_builtin;refine xd _ Y _ _ 133 Y w.heap.size a5 ay.underlying133 ar a1 a2 a3 _ pre Y cn ⟨bB,0,K⟩ db k Y cc b3 (by unfold Ur;omega) (by omega) dt ?_;intro W Z R cf)
   have ap:aP w Z:=(s.o.jQ cf R).dh;have e2:(pre++k).length<=10002000004:=by rw[Ub];omega
   have c0:=af bi.o;clear b3 cn cf s az bi;generalize a0:pre++k=G at*;have bb:X (bG 59 #[W,.int .i64 (k.length:Int)] Z λe w'=>∃B,e= .returned B/\w'.ownsRow w.heap.size 5 1 B (G++iA k.length).length (aG (G++iA k.length))/\aO Z w' W B):=tY W G k.length w.heap.size Z (by omega) (by omega) ap.size R;have aa:=af ap;have br:X (∀m,W.ownBlock=I m->w.heap.size<=m):=λm C=>(R.lt m C).1;clear a0 R ap
   go_upto_region 14 with(go_at_call 59;refine bb.o.mono ?_;rintro e d1 ⟨dO,rfl,co,ch⟩)
   have bc:=af (aa.o.trans (ch.below br.o aa.o.size));have cx:w.heap.size<=d1.heap.size:=bc.o.size;have c3:X (∀m,dO.ownBlock=I m->w.heap.size<=m):=λm C=>(co.lt m C).1;have e3:(G++iA k.length).length<=10002000008:=by rw[Ub];have:(iA k.length).length=4:=rfl;omega
   clear ch bb aa br;generalize G++iA k.length=a6 at*
   go_wp2_with (at_builtin;refine eR _ Y _ _ 133 9 Y w.heap.size 5 a5 ay.underlying133 ay.underlying9 ar a1 a2 a3 _ a6.length _ Y co ⟨#[83,84,82,65]⟩ Y (show a6.length+4<=Ur by unfold Ur;omega) (show a6.length+4<=140737488355328 by omega) cx ?_;intro e5 e6 cp dl;rw[kg,<-jf] at cp;have eq:=qj cp (by rw[Ub,aj]))
   go_ret;rw[c0.o];exact⟨rfl,bc.o.trans (dl.below c3.o cx)⟩
def vJ{cs:List bK}(h:hU cs):∀c∈cs,c.name.size<=16:=by
 intro c a;obtain⟨d,b,rfl⟩:=Vw a;have:=(h.2.2 d b).1;simp[n6] at this;omega
def LD{P:aE->Prop}{b:lC}{v:aE}(h1:P b.least)(a:P b.most)(c:P v):P (nY b v).least/\P (nY b v).most:=by
 unfold nY
 split
 ·exact⟨h1,a⟩
 ·dsimp only;constructor<;>split<;>assumption
def FE{P:aE->Prop}(d:P ⟨T8,0,⟨#[]⟩⟩)(l:List aE)(h:∀x∈l,P x):P (cy l).least/\P (cy l).most:=by
 have:∀(l:List aE) (a:lC),P a.least->P a.most->(∀x∈l,P x)->P (l.foldl nY a).least/\P (l.foldl nY a).most:=by
  intro l
  induction l with
  |nil=>intro a b c _;exact⟨b,c⟩
  |cons x j g=>
   intro a b c h;rw[List.foldl_cons];have e:=LD b c (h x (by simp));exact g _ e.1 e.2 (λi f=>h i (by simp[f]))
 exact this l cF d d h
def zR:pu ⟨T8,0,⟨#[]⟩⟩:=⟨by decide,by decide,by decide⟩
def Kq{l:List Int}(h:0<l.length):0<(cz l).length:=by
 cases l with
 |nil=>simp at h
 |cons b a=>
  unfold cz iD;simp;omega
def Dz{k e:Int}{l:List aE}(h:0<l.length):0<(bJ k e l).length:=by
 unfold bJ;rw[Ub];have:=Kq (l:=l.map nM) (by simpa using h);omega
def FN{k e:Int}{l:List aE}(h:∀x∈l,pu x)(a:l.length<=100):(bJ k e l).length<=110000:=by
 unfold bJ;rw[Ub];have c:=oL (l.map nM) (by simpa using a);have d:=Aa k e (there l) (λx b=>h x (va b)) (by have:=lX l;omega);omega
structure m0(cs:List bK)(rows:List (List aE))(es:List Int)(bd:Nat):Prop where
 table:iI cs rows
 eJ:lE cs es
 lo:1<=bd
 hi:bd<=100
 vals:∀r∈rows,∀x∈r,rD x
def m0.len{cs:List bK}{a:List (List aE)}{es:List Int}{b:Nat}(h:m0 cs a es b):∀r∈a,r.length=cs.length:=by
 intro r d;obtain⟨e,c,rfl⟩:=Vw d;exact(h.table.2.2 e c).1
def DH{a:List (List aE)}{b j:Nat}{r:List aE}(h:r∈bZ a b j):r∈a:=List.mem_of_mem_drop (V6 h)
def m0.col{cs:List bK}{k:List (List aE)}{es:List Int}{c:Nat}(h:m0 cs k es c)(j p:Nat)(e:p<cs.length):∀x∈bH (bZ k c j) p,fR x cs[p].kind=Z/\pu x:=by
 intro x g;unfold bH at g;obtain⟨i,m,rfl⟩:=U8.1 g;have f:=DH m;obtain⟨o,l,n⟩:=Vw f;have b:=h.table.2.2 o l;rw[n] at b;have a:p<i.length:=by rw[b.1];exact e
 have d:=b.2 p a e;rw[Uj,Uo a];exact⟨d,zQ (h.vals i f _ (Uk a)) d⟩
def m0.cut{cs:List bK}{b:List (List aE)}{es:List Int}{a:Nat}(h:m0 cs b es a)(j p:Nat):(bH (bZ b a j) p).length<=100:=by
 rw[gb,iu];have:=h.hi;omega
def m0.FX{cs:List bK}{b:List (List aE)}{es:List Int}{a:Nat}(h:m0 cs b es a):es.length=cs.length:=h.eJ.1.symm
def m0.lO{cs:List bK}{c:List (List aE)}{es:List Int}{a:Nat}(h:m0 cs c es a)(bo:Bool)(j p:Nat)(b:p<cs.length):
 BR (bZ c a j) cs es bo p=⟨strOf (bJ cs[p].kind (es.getD p 0) (bH (bZ c a j) p)),if bo then cy (bH (bZ c a j) p) else cF⟩:=by
 rw[Ia b (by rw[h.FX];exact b)];have d:=h.col j p b;rw[L8 (by have:=h.cut j p;omega) (h.eJ.2 p b) (λf e=>(d _ (Uk e)).1)]
def m0.chunks{cs:List bK}{d:List (List aE)}{es:List Int}{a:Nat}(h:m0 cs d es a)(bo:Bool)(j:Nat):∀c∈ew (bZ d a j) cs es bo cs.length,c.text.size<=110000/\pu c.eZ.least/\pu c.eZ.most/\(j*a<d.length->0<c.text.size):=by
 intro c i;unfold ew at i;obtain⟨b,e,rfl⟩:=U8.1 i;have e:=Vu.1 e;rw[h.lO bo j b e];have k:∀f∈bH (bZ d a j) b,pu f:=λf m=>(h.col j b e f m).2;have l:=FE zR _ k;have g:pu (if bo=Z then cy (bH (bZ d a j) b) else cF).least/\pu (if bo=Z then cy (bH (bZ d a j) b) else cF).most:=by
  cases bo
  ·exact⟨zR,zR⟩
  ·exact l
 refine⟨?_,g.1,g.2,λn=>?_⟩
 ·show(strOf _).size<=_;rw[kL];exact FN k (h.cut j b)
 ·show 0<(strOf _).size;rw[kL];refine Dz ?_;rw[gb,iu];have:=h.lo;omega
def m0.Fw{cs:List bK}{e:List (List aE)}{es:List Int}{c:Nat}(h:m0 cs e es c)(bo:Bool)(j:Nat):Da cs.length (gM (bZ e c j) cs es bo):=by
 have d:=h.chunks bo j;refine⟨?_,cU _ _ _ _ _,λa b=>?_,λa b=>(d a b).2.1,λa b=>(d a b).2.2.1⟩
 ·show(bZ e c j).length<_;rw[iu];have:=h.hi;omega
 ·have:=(d a b).1;omega
def m0.nb{cs:List bK}{b:List (List aE)}{es:List Int}{a:Nat}(h:m0 cs b es a):b8 b.length a<=2000:=by
 have d:=h.table.2.1;have e:=h.lo;unfold b8;have:=Nat.div_le_self (b.length+a-1) a;rcases Vz a 2 with c|c
 ·have:a=1:=by omega
  subst this;simp;omega
 ·have f:=Nat.div_mul_le_self (b.length+a-1) a;have g:(b.length+a-1)/a*2<=(b.length+a-1)/a*a:=Nat.mul_le_mul_left _ c;have:=h.hi;omega
def m0.cg{cs:List bK}{d:List (List aE)}{es:List Int}{a:Nat}(h:m0 cs d es a)(bo:Bool)(n:Nat):∀b∈bO d cs es bo a n,Da cs.length b:=by
 intro b c;unfold bO at c;obtain⟨e,-,rfl⟩:=U8.1 c;exact h.Fw bo e
def m0.pos{cs:List bK}{d:List (List aE)}{es:List Int}{a:Nat}(h:m0 cs d es a)(bo:Bool):∀b∈bO d cs es bo a (b8 d.length a),∀c∈b.chunks,0<c.text.size:=by
 intro b e c g;unfold bO at e;obtain⟨f,i,rfl⟩:=U8.1 e;exact(h.chunks bo f c g).2.2.2 ((mz h.lo f).2 (Vu.1 i))
def m0.body{cs:List bK}{b:List (List aE)}{es:List Int}{a:Nat}(h:m0 cs b es a)(bo:Bool):(bQ (bO b cs es bo a (b8 b.length a))).length<=10000000000:=by
 have g:=lS (λe:Bd=>cw e.chunks) 880000 (bO b cs es bo a (b8 b.length a)) (λe f=>by
  unfold bO at f;obtain⟨c,-,rfl⟩:=U8.1 f;have i:=lS (λd:kr=>bytesOf d.text) 110000 (ew (bZ b a c) cs es bo cs.length) (λd j=>by rw[aj];exact(h.chunks bo c d j).1);have k:=h.table.1.2.1;rw[cU] at i;show(List.flatMap _ _).length<=_;have:(gM (bZ b a c) cs es bo).chunks=ew (bZ b a c) cs es bo cs.length:=rfl;rw[this];omega)
 have l:=h.nb;rw[je] at g;show(List.flatMap _ _).length<=_;omega
def eD (cs:List bK)(b:List (List aE))(es:List Int)(bo:Bool)(a:Nat):List Nat:=vC cs es (bO b cs es bo a (b8 b.length a))
def Lr (cs:List bK)(a:List (List aE))(b:Int)(es:List Int)(bo:Bool)(s:ByteArray)(n:Int):Prop:=
 (¬iI cs a/\s=⟨#[]⟩/\n=1)\/(iI cs a/\¬mr b es cs/\s=⟨#[]⟩/\n=2)\/
 (iI cs a/\mr b es cs/\65536<(eD cs a es bo b.toNat).length/\s=⟨#[]⟩/\n=6)\/
 (iI cs a/\mr b es cs/\¬ 65536<(eD cs a es bo b.toNat).length/\s=strOf (eD cs a es bo b.toNat)/\n=0)
def Lg (k:Int)(b:lC):Prop:=b=cF\/(b.there=Z/\VK k b.least/\VK k b.most/\¬ 0<fq b.least b.most)
def aG (b:lC):Array U:= #[.bool b.there,.bool b.least.null,.int .i64 b.least.n,.string b.least.s,.bool b.most.null,.int .i64 b.most.n,.string b.most.s]
theorem Kp.Ry{r g:Nat}{w:F}(c:w.heap.size<=g):∀(vs:List U) (o:Nat) (a:F),Kp r w a->Kp r w (a.setCells g o vs)
 | [],_,_,b=>b
 |v::e,o,a,b=>Kp.Ry c e (o+1) _ (b.grown (aN a g o v) (λf d=>by cases d;exact c))
def EK{w:F}{g:Nat}{b:lC}{t:Ui}(h:w.heap[g]? =I (.cells (aG b) t (0,0))):(w.cell? ⟨g,0,K⟩=I (.bool b.there)/\w.cell? ⟨g,1,K⟩=I (.bool b.least.null)/\w.cell? ⟨g,2,K⟩=I (.int .i64 b.least.n)/\w.cell? ⟨g,3,K⟩=I (.string b.least.s)/\w.cell? ⟨g,4,K⟩=I (.bool b.most.null)/\w.cell? ⟨g,5,K⟩=I (.int .i64 b.most.n)/\w.cell? ⟨g,6,K⟩=I (.string b.most.s))/\∀j,w.frozen? ⟨g,j,K⟩=T8:=by
 unfold aG at h;refine⟨⟨?_,?_,?_,?_,?_,?_,?_⟩,λj=>by simp[World.frozen?,h]⟩<;>simp[Ut,h]
def Hx (w:F)(r p:Nat)(s:ByteArray)(k:Int)(e:WU)(w':F):Prop:=
 Kp r w w'/\((∃a:lC,e= .returned (FF a)/\Lg k a/\ai (bytesOf s) p (cr k a)/\p+(cr k a).length<=s.size/\w'.heap[r]? =I (cj s (p+(cr k a).length)))\/
  (∃b,e= .panicked (eE b)/\∀a:lC,Lg k a->¬ai (bytesOf s) p (cr k a)))
def yZ(k:Int)(H:k=1\/k=2\/k=3)(r p:Nat)(s:ByteArray)(w:F)(aw:s.size<=Ur)(az:p<=s.size)(h:w.heap[r]? =I (cj s p)):
 bG 131 #[(bS r),.int .i64 k] w (Hx w r p s k):=by
 have c5:r<w.heap.size:=Uf h;have b1:X ((w.alloc (.cells (aG cF) 141)).heap[r]? =I (cj s p)):=by
  show _=_;rw[UO _ _ r c5];exact h
 have a4:X (Kp r w (w.alloc (.cells (aG cF) 141))):=(Kp.refl r w).alloc _;have dc:X (∀p,p<=s.size->∀a0,ai (bytesOf s) p a0->p+a0.length<=s.size):=λp az a0 b=>by have:=gK b (by rw[aj];exact az);rwa [aj] at this
 go_enter ay.func131,Tryz.ntmps131
 go_wp2_with fail
 refine(BJ r p s _ aw az b1.o).mono ?_;rintro i A ⟨ap,⟨dq,rfl,f,c6,c1,be⟩|⟨u,rfl,z⟩⟩;rotate_left
 ·have x:X (∀e:lC,Lg k e->¬ai (bytesOf s) p (cr k e)):=λe f b=>by
   rcases f with rfl|⟨t,-⟩
   ·exact z 0 (.inl Y) b
   ·unfold cr at b;rw[if_pos t] at b;exact z 1 (.inr Y) (au.1 b).1
  have B:X (Kp r w A):=a4.o.trans ap;go_wp2;exact⟨rfl,B.o,.inr ⟨u,rfl,x.o⟩⟩
 ·have B:X (Kp r w A):=a4.o.trans ap;have S:X (A.heap[w.heap.size]? =I (.cells (aG cF) 141 (0,0))):=Kp.block ap (V5 w _) (by omega);have a6:=af c1;have a7:=af c6;rcases f with rfl|rfl
  ·have ca:X (A.there w.heap.size 0 (aG cF).size):=Bg S.o;have ae:X ((A.setCells w.heap.size 0 (aG cF).toList).rangeAt w.heap.size 0 (aG cF).toList):=World.rangeAt_setCells_same _ _ _ _ ca.o;obtain⟨⟨cb,cc,cd,cf,ch,ci,ck⟩,j⟩:=EK S.o;have cl:=j 0;have cn:=j 1;have co:=j 2;have cp:=j 3;have cs:=j 4;have cu:=j 5;have cv:=j 6;have U:X (Hx w r p s k (.returned (.agg (aG cF).toList.toArray)) (A.setCells w.heap.size 0 (aG cF).toList)):=⟨Kp.Ry (T9 _) _ _ _ B.o,.inl ⟨cF,rfl,.inl Y,a7.o,be,(mA (by omega) _ _ _).trans a6.o⟩⟩;go_wp2;exact A2 Tryz.results131 Y Y ae.o ay.underlying141 Y (by kernel_rfl) U.o
  ·have N:=af a7.o
   go_upto_region 3 with fail
   have bB:X (∀d,d.heap[r]? =I (cj s (p+1))->bG 153 #[(bS r),.int .i64 k] d λi o=>Kp r d o/\((∃v:aE,i= .returned (.agg (iG v))/\VK k v/\ai (bytesOf s) (p+1) (aZ k v)/\p+1+(aZ k v).length<=s.size/\o.heap[r]? =I (cj s (p+1+(aZ k v).length)))\/(∃u,i= .panicked (eE u)/\∀v:aE,VK k v->¬ai (bytesOf s) (p+1) (aZ k v)))):=λd G=>j5 k H r (p+1) s d aw be G
   go_wp2_with fail
   refine(bB.o _ a6.o).mono ?_;rintro i q ⟨ar,⟨c,rfl,c9,c7,bi,bc⟩|⟨u,rfl,z⟩⟩;rotate_left
   ·have x:X (∀e:lC,Lg k e->¬ai (bytesOf s) p (cr k e)):=λe f b=>by
     rcases f with rfl|⟨t,y,-⟩
     ·have:=iE N.o (show ai (bytesOf s) p [0] from b) Y;simp at this
     ·unfold cr at b;rw[if_pos t] at b;exact z _ y (au.1 (au.1 b).2).1
    have K:X (Kp r w q):=B.o.trans ar;go_wp2;exact⟨rfl,K.o,.inr ⟨u,rfl,x.o⟩⟩
   ·have ad:=af c9;have ab:=af c7;obtain⟨g,bj⟩:∃g,g=p+1+(aZ k c).length:=⟨_,rfl⟩;have L:=af bj;rw[<-bj] at bi bc;have K:X (Kp r w q):=B.o.trans ar;have a1:X (q.heap[w.heap.size]? =I (.cells (aG cF) 141 (0,0))):=Kp.block ar S.o (by omega);have dl:w.heap.size<q.heap.size:=Uf a1.o;have b3:X ((q.alloc (.cells (iG c) 59)).heap[r]? =I (cj s g)):=by
     show _=_;rw[UO _ _ r (by omega)];exact bc
    have b0:X (∀d,d.heap[r]? =I (cj s g)->bG 153 #[(bS r),.int .i64 k] d λi o=>Kp r d o/\((∃v:aE,i= .returned (.agg (iG v))/\VK k v/\ai (bytesOf s) g (aZ k v)/\g+(aZ k v).length<=s.size/\o.heap[r]? =I (cj s (g+(aZ k v).length)))\/(∃u,i= .panicked (eE u)/\∀v:aE,VK k v->¬ai (bytesOf s) g (aZ k v)))):=λd G=>j5 k H r g s d aw bi G
    go_upto_region 4 with fail
    go_wp2_with fail
    refine(b0.o _ b3.o).mono ?_;rintro i m ⟨Q,⟨a,rfl,da,c8,c4,c2⟩|⟨u,rfl,z⟩⟩;rotate_left
    ·have x:X (∀e:lC,Lg k e->¬ai (bytesOf s) p (cr k e)):=λe f b=>by
      rcases f with rfl|⟨t,y,E,-⟩
      ·have:=iE N.o (show ai (bytesOf s) p [0] from b) Y;simp at this
      ·unfold cr at b;rw[if_pos t] at b;obtain⟨av,f⟩:=au.1 (au.1 b).2;have:=l8 H y ad.o av ab.o;rw[this] at f;refine z _ E ?_;rw[L.o];exact f
     have V:X (Kp r w m):=(K.o.alloc _).trans Q;go_wp2;exact⟨rfl,V.o,.inr ⟨u,rfl,x.o⟩⟩
    ·have ba:=af da;have a8:=af c8;have b2:=af c2;have V:X (Kp r w m):=(K.o.alloc _).trans Q;have bv:X (m.heap[w.heap.size]? =I (.cells (aG cF) 141 (0,0))):=Kp.block Q (alloc_old _ (by omega) a1.o) (by omega);have a9:X (m.heap[q.heap.size]? =I (.cells (iG c) 59 (0,0))):=Kp.block Q (bh q _) (by omega);have b6:X (∀e:lC,Lg k e->ai (bytesOf s) p (cr k e)->e=⟨Z,c,a⟩):=λe f b=>by
      rcases f with rfl|⟨t,y,E,-⟩
      ·have:=iE N.o (show ai (bytesOf s) p [0] from b) Y;simp at this
      ·unfold cr at b;rw[if_pos t] at b;obtain⟨av,f⟩:=au.1 (au.1 b).2;have ao:=l8 H y ad.o av ab.o;rw[ao,show p+[1].length+(aZ k c).length=g from L.o.symm] at f;have bb:=l8 H E ba.o f a8.o;obtain⟨dk,dd,df⟩:=e;simp only at t ao bb;subst t ao bb;rfl
     have b4:X (ai (bytesOf s) p (cr k ⟨Z,c,a⟩)):=by
      show ai _ _ ([1]++(aZ k c++aZ k a));refine au.2 ⟨N.o,au.2 ⟨ab.o,?_⟩⟩;rw[show p+[1].length+(aZ k c).length=g from L.o.symm];exact a8.o
     have dp:q.heap.size<m.heap.size:=Uf a9.o;have T:X (∀d,bG 125 #[.agg (iG c),.agg (iG a)] d λi o=>i= .returned (.int .i64 (fq c a))/\aP d o):=λd=>jJ c a d
     go_upto_region 5 with fail
     have a3:X (Kp r w (m.alloc (.cells (iG a) 59))):=V.o.alloc _;have M:X ((m.alloc (.cells (iG a) 59)).heap[r]? =I (cj s (g+(aZ k a).length))):=alloc_old _ (by omega) b2.o;have J:X ((m.alloc (.cells (iG a) 59)).heap[w.heap.size]? =I (.cells (aG cF) 141 (0,0))):=alloc_old _ (by omega) bv.o;have C:X ((m.alloc (.cells (iG a) 59)).heap[q.heap.size]? =I (.cells (iG c) 59 (0,0))):=alloc_old _ (by omega) a9.o;have D:X ((m.alloc (.cells (iG a) 59)).heap[m.heap.size]? =I (.cells (iG a) 59 (0,0))):=bh m _;generalize m.alloc (.cells (iG a) 59)=dr at*;generalize q.heap.size=O at*;generalize m.heap.size=P at*;obtain⟨bm,bo,br⟩:=cC C.o;obtain⟨bs,bt,bu⟩:=cC D.o;have bx:X (∀d,d.heap[r]? =I (cj s (g+(aZ k a).length))->bG 97 #[(bS r)] d λi o=>i= .panicked (eE (g+(aZ k a).length))/\Kp r d o):=λd G=>(b9 r _ s d G).mono (λi o ⟨y,E⟩=>⟨y,by subst E;exact Kp.refl r _⟩);obtain⟨an,bd⟩:∃an,an=fq c a:=⟨_,rfl⟩;rw[<-bd] at T;have a2:=af bd;by_cases bl:0<an
     ·go_upto_region 6 with(go_at_call 125;refine(T.o _).mono ?_;rintro i l ⟨rfl,n⟩;have al:X (l.heap[O]? =I (.cells (iG c) 59 (0,0))):=(n.block O (Uf C.o)).trans C.o;have am:X (l.heap[P]? =I (.cells (iG a) 59 (0,0))):=(n.block P (Uf D.o)).trans D.o;have R:X (l.heap[w.heap.size]? =I (.cells (aG cF) 141 (0,0))):=(n.block _ (Uf J.o)).trans J.o;have aa:X (l.heap[r]? =I (cj s (g+(aZ k a).length))):=(n.block _ (Uf M.o)).trans M.o;have W:X (Kp r w l):=a3.o.trans (Kp.ct n);obtain⟨bm,bo,br⟩:=cC al.o;obtain⟨bs,bt,bu⟩:=cC am.o)
      go_wp2_with fail
      refine(bx.o _ aa.o).mono ?_;rintro i db ⟨rfl,c0⟩;have x:X (∀e:lC,Lg k e->¬ai (bytesOf s) p (cr k e)):=λe f b=>by
       have c3:=b6.o e f b;subst c3;rcases f with cx|⟨-,-,-,cR⟩
       ·simp[cF] at cx
       ·exact cR (by rw[a2.o] at bl;exact bl)
      have bA:X (Kp r w db):=W.o.trans c0;go_wp2;exact⟨rfl,bA.o,.inr ⟨_,rfl,x.o⟩⟩
     ·go_upto_region 7 with(go_at_call 125;refine(T.o _).mono ?_;rintro i l ⟨rfl,n⟩;have al:X (l.heap[O]? =I (.cells (iG c) 59 (0,0))):=(n.block O (Uf C.o)).trans C.o;have am:X (l.heap[P]? =I (.cells (iG a) 59 (0,0))):=(n.block P (Uf D.o)).trans D.o;have R:X (l.heap[w.heap.size]? =I (.cells (aG cF) 141 (0,0))):=(n.block _ (Uf J.o)).trans J.o;have aa:X (l.heap[r]? =I (cj s (g+(aZ k a).length))):=(n.block _ (Uf M.o)).trans M.o;have W:X (Kp r w l):=a3.o.trans (Kp.ct n);obtain⟨bm,bo,br⟩:=cC al.o;obtain⟨bs,bt,bu⟩:=cC am.o)
      obtain⟨⟨cb,cc,cd,cf,ch,ci,ck⟩,j⟩:=EK R.o;have cl:=j 0;have cn:=j 1;have co:=j 2;have cp:=j 3;have cs:=j 4;have cu:=j 5;have cv:=j 6;have b5:X (l.there w.heap.size 0 (aG ⟨Z,c,a⟩).size):=(show l.there w.heap.size 0 7 from Bg R.o);have ae:X ((l.setCells w.heap.size 0 (aG ⟨Z,c,a⟩).toList).rangeAt w.heap.size 0 (aG ⟨Z,c,a⟩).toList):=World.rangeAt_setCells_same _ _ _ _ b5.o;have a5:X (p+(cr k ⟨Z,c,a⟩).length=g+(aZ k a).length):=by
       show p+([1]++(aZ k c++aZ k a)).length=_;have:=L.o;simp only[Ub,List.length_singleton];omega
      have U:X (Hx w r p s k (.returned (.agg (aG ⟨Z,c,a⟩).toList.toArray)) (l.setCells w.heap.size 0 (aG ⟨Z,c,a⟩).toList)):=⟨Kp.Ry (T9 _) _ _ _ W.o,.inl ⟨⟨Z,c,a⟩,rfl,.inr ⟨rfl,ad.o,ba.o,by rw[<-a2.o];omega⟩,b4.o,by rw[a5.o];exact c4,(mA (by omega) _ _ _).trans (by rw[a5.o];exact aa.o)⟩⟩;go_wp2;exact A2 Tryz.results131 Y Y ae.o ay.underlying141 Y (by kernel_rfl) U.o
end Ec
end Go.Proofs.YtjidbonhhpkljaaGreat
