/- What the proof stands on, in short names. -/
import Derived.Test.YtjidbonhhpkljaaGreatMc
import Derived.OpenShut
import Derived.Deep.Slices
import Derived.Deep.Strs
import Derived.SizedLaws
import Derived.Maps.AppendAt
set_option linter.all false
open And renaming intro->rV
open Array renaming getD->ek,getElem?_eq_some_iff->dY,push->gW,range->wZ,replicate->jh,setIfInBounds->cF,size->U,toList->dD
open Bool renaming false->ai,false_eq_true->fA,true->af
open ByteArray renaming size->bf,toList->jI
open Classical renaming choose->mq
open Eq renaming symm->bA,trans->aB
open False renaming elim->fe
open Go renaming Act->bK,Addr->aN,Code->de,Ending->gL,Frame->aP,Func->cO,Item->dW,Obj->cj,Oper->cq,Operand->dU,Program->aW,TypeId->aK,Value->F,World->ag,bodyPost->jM,execOp->bT,info_parts->eU,lt_of_block->bC,madeCells->px,maxLen->aS,results->dx,undef->cI,wpList_append_fits->r7,yielded->eg,zeroValue->kR
open Go.Act renaming defers->b8,eval->bz,put->bG
open Go.Addr renaming add->o9,add_mid->tN,block->cH
open Go.Builtin renaming copy_->tO
open Go.CallKind renaming normal->eA
open Go.Calls renaming mono->bL
open Go.Code renaming block->ga,region->gu,seq->aU,skip->eO,wp->gD
open Go.Conc renaming G->aO
open Go.Departure renaming mixedOrders->n4
open Go.Ending renaming returned->aR
open Go.Exit renaming normal->e4
open Go.Fn renaming yield->gH
open Go.Frame renaming enter->fC,finish->di,kind->eD,round->rf
open Go.FrameMode renaming returning->jA
open Go.Func renaming results->r4
open Go.Instr renaming fill->tQ
open Go.IntKind renaming i64->bM
open Go.Item renaming code->b9,inBlock->fI,inLoop->gE,inRegion->bW
open Go.Next renaming value->eT
open Go.Obj renaming cells->ax,deferred->mz
open Go.Program renaming underlying->gb
open Go.Proofs.Tryz renaming f116->iA,f117->rm,f13->ic,f15->lW,f3->eB,f53->jK,f54->mA,f78->ea,f79->j8,isAgg3->xf,prog->av,sizeOf3->uJ,underlying115->vJ,underlying139->tR,underlying160->vK,underlying22->yT,underlying43->yU
open Go.Region renaming binds->iN,ready->gd,wanted->eF
open Go.Region.Mode renaming any->ed
open Go.Region.linearise renaming go->kO
open Go.Result renaming ok->b6
open Go.RowKit renaming Below->dw,intOf->bw
open Go.RowKit.Below renaming block->cS,cell->bq,grown->iB,setCell->tS,trans->fJ
open Go.TypeInfo renaming bytes->ji,zero->jL
open Go.Value renaming agg->cw,bool->ak,cells->lC,chan->fp,int->bt,oneCell'->nM,ownBlock->bB,pointer->dG,slice->ah,string->au,tuple->cC
open Go.World renaming alloc->cD,cell?->aA,drewN->cT,drewN_drewN->r5,frozen?->cU,grownBy->jj,heap->gP,output->fS,ownsRow->aT,ownsRow_nil->iO,rangeAt->pq,setCell->bg,tape->dV
open Go.World.ownsRow renaming cellAt->pp,frozenAt->vM,kept->fK
open Int renaming toNat->bS
open List renaming all->dM,all_eq_true->fD,contains->iP,getD->aX,length->I,length_nil->yZ,mem_flatMap->y5,range->eH,replicate->dh,toArray->cX
open Option renaming isNone->lF,none->Z,some->K
open Or renaming elim->ff,inl->aq,inr->an
open Prod renaming fst->bp,snd->eu
variable{Q qS:Go.Act}{R qP:Go.Addr}{q7 q8:Array Bool}{QE ats:Array Go.TypeId}{C args qJ vs:Array Go.Value}{qV:Bool}{QJ:Go.Code}{Qf:Go.Frame}{QI:Go.Func}{M qA qB:Int}{H l0 q4:List (Nat×Go.Value)}{QA:List Bool}{aj qY:List Int}{QN:List Go.Item}{l:List Nat}{S qM:List Go.Value}{a b bE bH bN c cap d e f g h i j k m n nm p:Nat}{q9:Nat→Prop}{Qx:Nat→Go.Value}{Qk:Go.Obj}{Qr:Go.Oper}{Qp:Go.Operand}{O P QC:Option Go.Addr}{QX:Option Nat}{Qn Qo:Go.Program}{Qc Qd ty:Go.TypeId}{T cx jc qq qs qt qu qw qx v x y z:Go.Value}{W W' u w wr:Go.World}
set_option maxRecDepth 100000
set_option maxHeartbeats 8000000
namespace Go.Proofs.YtjidbonhhpkljaaGreat
namespace Cc
open Go Go.Conc
open Ec (az bZ uE p8 j0 Ej)
open Rl (fo aL eY aG cP er)
def so (c:Int)(b d a:Nat):F:=cw #[z9 c,aI b d a]
def sx (d f b c e a:Nat)(g:F):F:=cw #[aI d f b,aI c e a,g]
structure zi(S:Nat->Prop)(w:ag)(s:ByteArray)(k e:Int)(cb n kb nk eb ne col:Nat):Prop where
 sc:S cb
 sk:S kb
 se:S eb
 n:col<n
 nk:col<nk
 ne:col<ne
 cc:aA w ⟨cb,0+col*8+0,Z⟩=K (au s)
 ck:aA w ⟨kb,0+col*2+1,Z⟩=K (z9 k)
 ce:aA w ⟨eb,0+col*1,Z⟩=K (z9 e)
def zi.rel{s:ByteArray}(c:zi q9 w s M qA n m k i j a b)(g:∀d,q9 d->u.heap[d]? =w.heap[d]?):zi q9 u s M qA n m k i j a b:=by
 have qA:∀(d e:Nat),q9 d->aA u ⟨d,e,Z⟩=aA w ⟨d,e,Z⟩:=λd e f=>by unfold aA;rw[g d f]
 exact⟨c.sc,c.sk,c.se,c.n,c.nk,c.ne,aB (qA _ _ c.sc) c.cc,aB (qA _ _ c.sk) c.ck,aB (qA _ _ c.se) c.ce⟩
def Df (d e:Nat)(j:Int)(b m g c o i f n h a:Nat)(s:ByteArray)(l k:Int):List (Nat×F):=
 [(14,dG (K ⟨d,0+1,Z⟩)),(15,aI b m g),(16,n9 a),(17,dG (K ⟨b,0+a*8,Z⟩)),(18,dG (K ⟨b,0+a*8+0,Z⟩)),(19,au s),
  (20,dG (K ⟨e,0+0,Z⟩)),(21,aI c o i),(22,n9 a),(23,dG (K ⟨c,0+a*2,Z⟩)),(24,dG (K ⟨c,0+a*2+1,Z⟩)),(25,z9 l),
  (26,dG (K ⟨e,0+1,Z⟩)),(27,aI f n h),(28,n9 a),(29,dG (K ⟨f,0+a*1,Z⟩)),(30,z9 k),(31,dG (K ⟨d,0+0,Z⟩)),(32,z9 j)]
def Ez:List Nat:=[14,15,16,17,18,19,20,21,22,23,24,25,26,27,28,29,30,31,32]
def GI (b:F)(a:Int):List (Nat×F):=[(33,cC #[b,z9 a]),(13,cC #[b,z9 a]),(34,b),(35,z9 a),(8,b),(9,z9 a)]
def IR:nS (mO iA) (λa=>decide (a<19)) 19 47 Ez=af:=bl
def RN:nS (mO iA) (λ_=>af) 25 47 ([33,13,34,35,8,9]++Ez)=af:=bl
def RP:(dM (eH (U (mO iA))) λa=> !(λa=>decide (a<19)) a||match kY (mO iA) a with|some b=> !(iP ([33,13,34,35,8,9]:List Nat)) b|none=>af)=af:=bl
def RQ:(dM (eH (U (mO iA))) λa=> !(λa=>decide (a<=19)) a||a==19||iP (under (mO iA) (U (mO iA)) (match (mO iA)[19]? with
 |some c=>(c.after.toList.filter λb=>iN ed b).map (·.on)
 |none=>[])) a)=af:=bl
def yC:av.follows n4=af:=bl
def abg:(Tryz.f139.name == "runtime.NumGoroutine")=ai:=bl
def abz:(iA.name == "runtime.NumGoroutine")=ai:=bl
def Zj{e:List az}{own:Nat->Prop}(h:Knows Q 47 q4)(j:q4.lookup 0=K (fp (K n)))(s:H.lookup 0=Z)(o:b8 Q=[{target:=.builtin .close QE Qc q7,args:= #[fp (K n)]}])(q:jl q9 own w)(r:I e<=100000)(t:H.map (·.1)=Ez)
 (i:(M≠0/\e=[])\/(M=0/\AD own w v e)) (p:gq (mO iA) (λ_=>af) Q (fill Q (GI v M++H)) q8 qS) (f:∀a,(λa=>decide (a<=19)) a=af->ek q8 a ai=af) (u:mZ q8<=m):
 gS (aM av) av q9 n own (e.map az.agg) (aO ((baseD 116).at qS [bW (mO iA) (kO ed (mO iA) m k q8 []),b9 (B1 iA)]) [below av]) w:=by
 have g:=wh (aM av) av q9 n (e.map az.agg);have l:nS (mO iA) (λ_=>af) 25 47 ((GI v M++H).map (·.1))=af:=by
  rw[gY,t];exact RN
 refine sr (Dn:=λa=>decide (a<=19)) (u:=25) g ay h l ?_ ?_ ?_ m k q8 qS p f u;intro b a d _ f z c;have x:19<a:=by simpa using f
 have y:a<25:=(dY.1 c).1;have:a=20\/a=21\/a=22\/a=23\/a=24:=aa;rcases this with rfl|rfl|rfl|rfl|rfl;cases(show K _=K d from c);exact⟨_,rfl,aq ⟨rfl,dX (gz Y (b.of Y))⟩⟩;cases(show K _=K d from c);exact⟨_,rfl,aq ⟨rfl,dX (wA Y (b.of Y) Y)⟩⟩;cases(show K _=K d from c);exact⟨_,rfl,aq ⟨rfl,dX (wA Y (b.of Y) Y)⟩⟩;cases(show K _=K d from c);exact⟨_,rfl,aq ⟨rfl,dX (wz Y (b.of Y))⟩⟩;cases(show K _=K d from c);exact⟨_,rfl,aq ⟨rfl,dX (wz Y (b.of Y))⟩⟩;intro d c;exact absurd (dY.1 c).1 ay;intro _ b;refine cQ g (Zp (l0:=[]) (v:=v) (E:=M) (((b.nil.cons (b.slot 0 _ ?_)).cons (b.slot 9 _ Y)).cons (b.slot 8 _ Y)) (by rw[rH];exact o) q r i);rw[iD,List.lookup_append,List.lookup_append,s,j];rfl
def RM (s:ByteArray)(b a d:Int)(g:ag)(f:gL)(h:ag):Prop:=aD g h/\
 ((j0 d b a≠0/\f=aR (cC #[aH,z9 (j0 d b a)]))\/
  (∃c:Nat,d=(c:Int)/\c<=100/\j0 d b a=0/\Ec.eW b a=af/\((∃v e,f=aR (cC #[v,z9 0])/\aT h (U g.heap) 59 3 v (I e) (bZ e)/\uE s b a c e)\/(f=aR (cC #[aH,z9 3])/\p8 s b a c))))
def Hg{G:fo}{g:aL G}(i:aG g (cC #[v,z9 M]) x):∃f,x=cC #[f,z9 M]/\aG g v f:=by
 cases i using aG.ind with
 |tuple a e ihz=>
  rename_i k;have c:=e 0 aF (by rw[<-a];simp);have d:=e 1 aF (by rw[<-a];simp);simp only[rA,n5,mH] at c d;refine⟨k[0]'(by rw[<-a];simp),?_,c⟩;have h:=Jk d Y;congr 1;refine Array.ext (aB a.symm Y) λb l j=>?_;have:b=0\/b=1:=by have:b<2:=j;omega
  rcases this with rfl|rfl;rfl;simpa using h
def Zl{z:List az}{own:Nat->Prop}{s:ByteArray}(D:lH s M qA qB z)(aQ:s.size<=aS)
 (G:Knows Q 47 H) (aG:H.lookup 0=K (fp (K n))) (L:b8 Q=[{target:=.builtin .close QE Qc q7,args:= #[fp (K n)]}]) (aE:o4 q9 own w) (aH:1<=U w.heap)
 (T:cq) (C:(mO iA)[19]? =K T) (X a3:Nat) (E:Array Bool) (o:bK) (O:gq (mO iA) (λl=>decide (l<19)) Q (fill Q (Df m k qB i j a b c d e g h p s M qA)) E o) (R:19∈gd ed (mO iA) E) (a8:mZ E<=X+1) (B:∀ae∈T.looksAt (mO iA),cG o ae=cG (fill Q (Df m k qB i j a b c d e g h p s M qA)) ae):
 gS (aM av) av q9 n own (z.map az.agg) (aO ((baseD 116).at o [bW (mO iA) (19::kO ed (mO iA) X a3 (cF E 19 af) []),b9 (B1 iA)]) [below av]) w:=by
 cases(show K _=K T from C);have A:=G.fill (Df m k qB i j a b c d e g h p s M qA) Y;have am:bz o (.tmp 19)= .string s:=aB (B 19 ay) (A.slot 19 _ Y);have ao:bz o (.tmp 25)=z9 M:=aB (B 25 ay) (A.slot 25 _ Y);have ap:bz o (.tmp 30)=z9 qA:=aB (B 30 ay) (A.slot 30 _ Y);have ar:bz o (.tmp 32)=z9 qB:=aB (B 32 ay) (A.slot 32 _ Y);refine Ir (wh (aM av) av q9 n (z.map az.agg)) ay C Y Y Tryz.func139 abg Y ?_;have aF:(#[Operand.tmp 19,.tmp 25,.tmp 30,.tmp 32].map (bz o))=#[.string s,z9 M,z9 qA,z9 qB]:=by simp only[List.map_toArray,tV,List.map_nil,am,ao,ap,ar]
 rw[aF];have a1:cP (J9 AN) #[.string s,z9 M,z9 qA,z9 qB] #[.string s,z9 M,z9 qA,z9 qB]:=by
  refine⟨rfl,λl aC a6=>?_⟩;have:l=0\/l=1\/l=2\/l=3:=by have:l<4:=aC;omega
  rcases this with rfl|rfl|rfl|rfl;exact .string _;exact .int _ _;exact .int _ _;exact .int _ _
 refine aaW (R:=λf t=>∃V,RM s M qA qB V f t) mh aba NG Y (bA (ov Y Y Y)) a1 (λf t I=>?_) (os:=w.os) (λa5=>bL (Ej s M qA qB _ aQ) λf t I=>⟨_,I⟩) aE aH λbc v a4 bb ad t J S aD aY Z hrel=>?_;obtain⟨V,_,⟨_,rfl⟩|⟨_,_,_,_,_,⟨_,_,rfl,_⟩|⟨rfl,_⟩⟩⟩:=I<;>exact⟨_,rfl⟩;have⟨a5,aj,V,a7,J⟩:=J;have a2:∃r q,a4=cC #[r,z9 q]/\((q≠0/\z=[])\/(q=0/\AD ad t r z)):=by
  rcases J with⟨ab,x⟩|⟨ba,aa,_,aw,_,⟨r,a9,x,aZ,N⟩|⟨x,N⟩⟩;cases x;obtain⟨y,rfl,_⟩:=Hg S;exact⟨y,_,rfl,aq ⟨ab,D.UP ab⟩⟩;cases x;obtain⟨y,rfl,a0⟩:=Hg S;have al:=D.UQ aa aw N;subst al;exact⟨y,_,rfl,an ⟨rfl,XY a0 aD aY aZ⟩⟩;cases x;obtain⟨y,rfl,_⟩:=Hg S;exact⟨y,_,rfl,aq ⟨ay,D.Kc aa N⟩⟩
 obtain⟨r,q,rfl,aJ⟩:=a2;rw[w9,C];have aI:jl q9 ad t:=λW u=>by
  rcases u with u|u;exact(Z.sh W u).1;exact Z.bd W u
 refine Zj G aG Y L aI (dj D.le ay) Y aJ (O.AR (l2:=GI r q) (rD:=λ_=>af) (n:=47) (v:=cC #[r,z9 q]) R C G.size IR Y (λ_ _=>rfl) Y RP (λaj L=>by cases L;rfl)) (tC O R RQ (λl P=>by
  have:l<=19:=cM P;show l<25;omega)) ?_
 have⟨_,_,P,aL,_⟩:=mem_ready R;have:=yy (b5 O.size P) aL;omega
end Cc
namespace Cc
open Go Go.Conc
open Ec (az)
def E7(a b c d:F)(m:Nat)(i:4<=m):Knows ⟨#[a,b,c,d]++jh (m-4) cI,[]⟩ m [(0,a),(1,b),(2,c),(3,d)]:=by
 have e:∀f v,(#[a,b,c,d]:Array F)[f]? =K v->cG ⟨#[a,b,c,d]++jh (m-4) cI,[]⟩ f=v:=λf v g=>by
  unfold cG;rw[jT,Array.getElem?_append_left (dY.1 g).1,g];rfl
 refine Knows.cons (Knows.cons (Knows.cons (Knows.cons (l:=[]) ⟨?_,λs v h=>by simp at h⟩ (e 3 d Y)) (e 2 c Y)) (e 1 b Y)) (e 0 a Y);simp;omega
def Zo{co:Array Bool}{m:List az}{own:Nat->Prop}{s:ByteArray}{b1 b2 f i cap h k ck g j ce col:Nat}{x:F}(N:lH s M qA qB m)(H:s.size<=aS)
 (o:Knows Q 47 ((0,fp (K n))::(3,n9 col)::(5,(aZ b1))::(6,(aZ b2))::l0)) (C:b8 Q=[{target:=.builtin .close ats ty co,args:= #[fp (K n)]}]) (B:o4 q9 own w) (E:1<=U w.heap)
 (r:own b1) (t:own b2) (O:w.heap[b1]? =K (ax #[z9 qB,aI f i cap] 139 (0,0))) (P:w.heap[b2]? =K (ax #[aI h k ck,aI g j ce,x] 105 (0,0))) (e:zi q9 w s M qA f i h k g j col):
 gS (aM av) av q9 n own (m.map az.agg) (aO ((baseD 116).at Q [b9 (gu 2 (mO iA) af),b9 (B1 iA)]) [below av]) w:=by
 have u:=wh (aM av) av q9 n (m.map az.agg);have p:∀a v,(#[bt bM qB,aI f i cap]:Array F)[a]? =K v->aA w ⟨b1,a,Z⟩=K v:=λa v l=>by unfold aA;simp only[O];exact l
 have q:∀a v,(#[ah (K ⟨h,0,Z⟩) k ck,aI g j ce,x]:Array F)[a]? =K v->aA w ⟨b2,a,Z⟩=K v:=λa v l=>by unfold aA;simp only[P];exact l
 refine xI (Ph:=λc=>decide (c<19)) (l:=Df b1 b2 qB f i cap h k ck g j ce col s M qA) u yC (sr (u:=19) u ay o IR ?_ ?_ ?_);intro b c a J _ _ d;have T:c<19:=cM J;have:c=0\/c=1\/c=2\/c=3\/c=4\/c=5\/c=6\/c=7\/c=8\/c=9\/c=10\/c=11\/c=12\/c=13\/c=14\/c=15\/c=16\/c=17\/c=18:=aa;rcases this with rfl|rfl|rfl|rfl|rfl|rfl|rfl|rfl|rfl|rfl|rfl|rfl|rfl|rfl|rfl|rfl|rfl|rfl|rfl;cases(show K _=K a from d);exact⟨_,rfl,aq ⟨rfl,dX (nu Y (b.of Y) tR Y Tryz.sizeOf137 Y)⟩⟩;cases(show K _=K a from d);exact⟨_,rfl,aq ⟨rfl,jd Y (b.of Y) Tryz.isAgg137 (an r) (p 1 _ Y)⟩⟩;cases(show K _=K a from d);exact⟨_,rfl,aq ⟨rfl,dX (gz Y (b.of Y))⟩⟩;cases(show K _=K a from d);exact⟨_,rfl,aq ⟨rfl,dX (pS Y (b.of Y) (b.of Y) Tryz.underlying137 Tryz.sizeOf143 e.n)⟩⟩;cases(show K _=K a from d);exact⟨_,rfl,aq ⟨rfl,dX (nu Y (b.of Y) Tryz.underlying143 Y Tryz.sizeOf9 Y)⟩⟩;cases(show K _=K a from d);exact⟨_,rfl,aq ⟨rfl,jd Y (b.of Y) Tryz.isAgg9 (aq e.sc) e.cc⟩⟩;cases(show K _=K a from d);exact⟨_,rfl,aq ⟨rfl,dX (nu Y (b.of Y) Tryz.underlying105 Y Tryz.sizeOf44 Y)⟩⟩;cases(show K _=K a from d);exact⟨_,rfl,aq ⟨rfl,jd Y (b.of Y) Tryz.isAgg44 (an t) (q 0 _ Y)⟩⟩;cases(show K _=K a from d);exact⟨_,rfl,aq ⟨rfl,dX (gz Y (b.of Y))⟩⟩;cases(show K _=K a from d);exact⟨_,rfl,aq ⟨rfl,dX (pS Y (b.of Y) (b.of Y) Tryz.underlying44 Tryz.sizeOf63 e.nk)⟩⟩;cases(show K _=K a from d);exact⟨_,rfl,aq ⟨rfl,dX (nu Y (b.of Y) Tryz.underlying63 Y uJ Y)⟩⟩;cases(show K _=K a from d);exact⟨_,rfl,aq ⟨rfl,jd Y (b.of Y) xf (aq e.sk) e.ck⟩⟩;cases(show K _=K a from d);exact⟨_,rfl,aq ⟨rfl,dX (nu Y (b.of Y) Tryz.underlying105 Y Tryz.sizeOf22 Y)⟩⟩;cases(show K _=K a from d);exact⟨_,rfl,aq ⟨rfl,jd Y (b.of Y) Tryz.isAgg22 (an t) (q 1 _ Y)⟩⟩;cases(show K _=K a from d);exact⟨_,rfl,aq ⟨rfl,dX (gz Y (b.of Y))⟩⟩;cases(show K _=K a from d);exact⟨_,rfl,aq ⟨rfl,dX (pS Y (b.of Y) (b.of Y) yT uJ e.ne)⟩⟩;cases(show K _=K a from d);exact⟨_,rfl,aq ⟨rfl,jd Y (b.of Y) xf (aq e.se) e.ce⟩⟩;cases(show K _=K a from d);exact⟨_,rfl,aq ⟨rfl,dX (nu Y (b.of Y) tR Y uJ Y)⟩⟩;cases(show K _=K a from d);exact⟨_,rfl,aq ⟨rfl,jd Y (b.of Y) xf (an r) (p 0 _ Y)⟩⟩;intro a d z S R y D L I G _;exact Zl N H o Y C B E a d z S R y D L I G;intro A;exact absurd (A 24 ay) ay
def Zh{r:List az}{s:ByteArray}(N:lH s M qA qB r)(J:bf s<=aS)(u:o4 q9 (λ_=>False) w)(I:zi q9 w s M qA m k j a c d f):
 gS (aM av) av q9 n (λ_=>False) (r.map az.agg) (born av (dcall 116 #[fp (K n),so qB m k i,sx j a b c d e v,n9 f])) w:=by
 have g:=wh (aM av) av q9 n (r.map az.agg);refine aaV Tryz.func116 abz Y ?_;have h:=E7 (fp (K n)) (so qB m k i) (sx j a b c d e v) (n9 f) 47 ay;have x:jl q9 (λ_=>False) w:=λl o=>ff o (λC=>(u.sh l C).1) fe;refine cA g (dg g [0,1] Y (oM g x ay Y Y (ax #[z9 qB,aI m k i] 139) trivial (λk=>(aZ k)) (zP (v:=so qB m k i) Y (h.of Y)) λp Q G O L D=>?_));replace h:=h.put (d:=5) ay (aZ p);have y:=x.new G O;refine oM g y ay Y Y (ax #[aI j a b,aI c d e,v] 105) trivial (λk=>(aZ k)) (zP (v:=sx j a b c d e v) Y (h.of Y)) λt R H P A E=>?_;replace h:=h.put (d:=6) ay (aZ t);have z:=y.new H P;refine cQ g (cA g (dg g [0,1] Y (dK g h λh=>Pf g ay Y Y Y (h.of Y) λB=>cQ g (cA g (Zo (b1:=p) (b2:=t) (cap:=i) (ck:=b) (ce:=e) (l0:=[]) (col:=f) (x:=v) (ats:= #[212]) (ty:=0) (co:=B) N J ?_ (by simp only[put_defers];rfl) ?_ aa (aq (an rfl)) (an rfl) ?_ E (I.rel λl o=>?_))))));exact(Knows.defer h cI).four Y Y Y Y;refine⟨λl o=>⟨z l (aq o),λq=>?_⟩,λl o=>z l (an o)⟩;have:=(u.sh l o).1;rcases q with(q|rfl)|rfl;exact q;omega;omega;rw[A.at_ p (an (an Y))];exact D;rw[A.at_ l (aq o),L.at_ l (aq o)]
end Cc
namespace Cc
open Go Go.Conc
open Ec (az bZ)
def DH:∃b,av.info? 59=K b/\jL b=K (cw #[ak ai,z9 0,au ⟨#[]⟩])/\b.size=3/\ji b=32:=⟨Tryz.t59,bl,rfl,rfl,rfl⟩
def NJ(w:ag):(kR 59).events av w #[]=#[]:=by
 have⟨e,b,d,_⟩:=DH;simp[kR,typeInfo,b,d]
def nF{d:List az}{b:az}:bZ (d++[b])=bZ d++[ak b.null,z9 b.n,au b.s]:=by simp[bZ]
structure Row(w:ag)(g N:Nat)(pre:List az):Prop where
 ex:∃cur,w.heap[g]? =K (ax cur 59 (0,0))/\U cur=N*3/\cur.toList.take (I pre*3)=bZ pre
 le:I pre<=N
def Row.same{w d:ag}{g N:Nat}{pre:List az}(b:Row w g N pre)(i:d.heap[g]? =w.heap[g]?):Row d g N pre:=by
 have⟨e,f,h⟩:=b.ex;exact⟨⟨e,aB i f,h⟩,b.le⟩
def lJ (b:cO):de:=match b.body with
 |some (aU _ (aU _ (aU (aU _ (ga _ (.loop c))) _)))=>c
 |_=>eO
def pM (b:cO):de:=match b.body with
 |some (aU _ (aU _ (aU _ c)))=>c
 |_=>eO
structure BG(S O:Nat->Prop)(c g N:Nat)(pre:List az)(w:ag)(a:bK):Prop where
 kn:Knows a 18 [(9,fp (K c)),(5,aI g (I pre) N)]
 df:b8 a=[]
 inr:jl S O w
 own:O g
 row:Row w g N pre
section
variable {J:F->ag->Prop}{S O:Nat->Prop}{Q:Nat->Option (List F)}{c g N:Nat}{pre:List az}{w:ag}{a:bK}{R:List aP}{A:aP}{T:bK}{C:List dW}{vh:Array cq}{H:Nat}{z5:List Nat}{E:cq}
def Rg(f:BG S O c g N pre w a)(k:Q c=K [])(j:vh[H]? =K E)
 (i:eI (aM av) av J S O (gm Q c Z) (aO (A.at (T.put E.dst (aI g (I pre) N)) (bW vh z5::C)) R) w):
 eI (aM av) av J S O Q (aO ((base 117).at a [b9 (lJ rm),gE (lJ rm),fI 0,b9 (pM rm)]) (A.at T (bW vh (H::z5)::C)::R)) w:=by
 have⟨d,h,m,l,n⟩:=f;have b:=mN (aM av) av J S Q;refine cA b ?_;refine dg b [0,1] Y ?_;refine Ue ay Y Y Y Tryz.underlying215 Tryz.zeroValue59 NJ (d.of Y) k ?_;replace d:=d.put (d:=10) ay (cC #[cw #[ak ai,z9 0,au ⟨#[]⟩],ak ai]);have b:=mN (aM av) av J S (gm Q c Z);refine tj b d λd=>?_;refine cQ b ?_;refine cA b ?_;refine iq b ai (d.of Y) ?_;refine zo b (k':=[b9 (pM rm)]) Y ?_;refine cA b ?_;refine dg b [0,1] Y ?_;refine dK b d λd=>?_;refine g4 b d λd=>?_;refine cQ b ?_;refine tg b ?_;have e:=De (P:=av) Tryz.results117 (d.slot 4 _ Y);exact Pn b Y (by simp only[put_defers];exact h) Tryz.func117 e.1 e.2 j i
def Ri{d:az}{B:List az}(h:BG S O c g N pre w a)(a1:Q c=K ((d::B).map az.agg))(al:I pre<N)(am:N<=1000000)
 (aG:∀q m F,BG S q c g N (pre++[d]) m F->(∀f,O f->q f)->(∀f,q f->O f\/U w.heap<=f)->(∀f,S f\/O f->f≠g->m.heap[f]? =w.heap[f]?)->U w.heap<=U m.heap->m.tape=w.tape->m.os=w.os->m.output=w.output->eI (aM av) av J S q (gm Q c (K (B.map az.agg))) (aO ((base 117).at F [b9 (lJ rm),gE (lJ rm),fI 0,b9 (pM rm)]) R) m):
 eI (aM av) av J S O Q (aO ((base 117).at a [b9 (lJ rm),gE (lJ rm),fI 0,b9 (pM rm)]) R) w:=by
 have⟨b,aD,t,k,aJ⟩:=h;have⟨⟨r,aC,s,aY⟩,a5⟩:=aJ;have⟨ab,P,W,p,aw⟩:=DH;have e:=mN (aM av) av J S Q;refine cA e (dg e [0,1] Y (Ud (v:=d.agg) ay Y Y Y Tryz.underlying215 Tryz.zeroValue59 NJ (b.of Y) a1 ?_));replace b:=b.put (d:=10) ay (cC #[cw (dF d),ak af]);have e:=mN (aM av) av J S (gm Q c (K (B.map az.agg)));refine tj e b λb=>?_;refine cQ e (cA e (iq e af (b.of Y) (nR e (oL e (cA e (dg e [0,1,2] Y (tj e b λb=>oM e t ay Y Y (ax #[ak ai,z9 0,au ⟨#[]⟩] 59) trivial (λy=>(aZ y)) (CA Y Tryz.zeroValue59) λX a8 V aL hrel ao=>?_)))))));replace b:=b.put (d:=6) ay (aZ X);have G:=t.new V aL;refine xJ e G ay Y Y (an Y) (ax (dF d) 59) trivial (wB (n:=X) (off:=0) (v:=cw #[ak d.null,z9 d.n,au d.s]) Y (b.of Y) (b.of Y) BC (λc o=>by simp[lC] at o;rcases o with rfl|rfl|rfl<;>rfl) (an (an rfl)) ao (aV 3)) λa2 j=>?_;replace b:=b.none cI;have L:=G.set j;refine cQ e (dg e [0,1,2,3,4] Y (dK e b λb=>?_));refine uV e ay Y Y (oU (cs:=[ak d.null,z9 d.n,au d.s]) Y (b.of Y) Tryz.underlying59 Y BC (an (an Y)) (λu v a0=>by
  unfold aA;rw[j.set];simpa [lC] using a0)) ?_
 replace b:=b.put (d:=14) ay (cw #[ak d.null,z9 d.n,au d.s]);refine oM e L ay Y Y (ax (dF d) 59) trivial (λy=>aI y 1 1) (U7 (v0:=ak d.null) (v1:=z9 d.n) (v2:=au d.s) Y (b.of Y) yU P W p) λz D aH aQ n ap=>?_;replace b:=b.put (d:=15) ay (aI z 1 1);have M:=L.new aH aQ;have a4:=t g (an k);have ae:a2.heap[g]? =K (ax r 59 (0,0)):=by
  rw[j.at_ g (an (aq k)) aa,hrel.at_ g (an k)];exact aC
 have aj:bD D g r 59:=aB (n.at_ g (an (aq k))) ae;refine Pq e M (n:=g) ay Y Y (aq (aq k)) (ax (cX (r.toList.take (I pre*ab.size)++[ak d.null,z9 d.n,au d.s]++r.toList.drop (I pre*ab.size+3))) 59 (0,0)) trivial (aI g (I pre+1) N) (U6 (news:=[ak d.null,z9 d.n,au d.s]) Y (b.of Y) (b.of Y) yU P W aj (an (aq (aq k))) (an (an Y)) (gJ p) (λu a7 aE=>by
  have ad:aA D (o9 ⟨z,0,Z⟩ u)=aA D ⟨z,0+u,Z⟩:=by rw[tN]
  rw[ad];unfold aA;rw[ap,e7];simpa using aE) (λu=>by rw[tN]) (λc o=>by simp at o;rcases o with rfl|rfl|rfl<;>rfl) aa (by rw[s,p]) am (by rw[aw];decide)) λa3 l=>?_
 replace b:=b.put (d:=16) ay (aI g (I pre+1) N);refine g4 e b λb=>cQ e (uU e (v9 e ?_));have x:I (pre++[d])=I pre+1:=aF;refine aG _ a3 _ ⟨?_,by simp only[put_defers];exact aD,(M.set l),aq (aq k),⟨⟨_,l.set,?_,?_⟩,b5 x al⟩⟩ (λf i=>aq (aq i)) (λf i=>?_) (λf i ar=>?_) ?_ ?_ ?_ ?_;rw[x];exact(b.nil.cons (b.slot 5 _ Y)).cons (b.slot 9 _ Y);rw[p] at*;simp[s];omega;rw[p,x,nF,<-aY,Nat.add_mul,List.take_append_of_le_length (by simp[s];omega),ja (by simp[s];omega)];rcases i with(i|rfl)|rfl;exact aq i;exact an V;have:=j.size;have:=hrel.size;exact an aa;have a6:=t f i;rw[l.at_ f (i.imp (λh=>h) (λh=>aq (aq h))) ar,n.at_ f (i.imp (λh=>h) (λh=>aq h)),j.at_ f (i.imp (λh=>h) (λh=>aq h)) aa,hrel.at_ f i];have:=hrel.size;have:=j.size;have:=n.size;have:=l.size;omega;rw[l.tape,n.tape,j.tape,hrel.tape];rw[l.os,n.os,j.os,hrel.os];rw[l.output,n.output,j.output,hrel.output]
def aaz{Q:Nat->Option (List F)}{c:Nat}{d b:Option (List F)}:gm (gm Q c d) c b=gm Q c b:=by
 funext e;unfold gm
 split<;>rfl
structure Ob(S O O':Nat->Prop)(g:Nat)(w w':ag):Prop where
 sub:∀b,O b->O' b
 new:∀b,O' b->O b\/U w.heap<=b
 at_:∀b,S b\/O b->b≠g->w'.heap[b]? =w.heap[b]?
 size:U w.heap<=U w'.heap
 tape:dV w'=dV w
 os:w'.os=w.os
 output:fS w'=fS w
def Rh(B:vh[H]? =K E)(x:N<=1000000):∀(e:List az) (pre:List az) (O:Nat->Prop) (w:ag) (a:bK) (Q:Nat->Option (List F)),BG S O c g N pre w a->Q c=K (e.map az.agg)->I pre+I e<=N->
 (∀i j,Row j g N (pre++e)->i g->jl S i j->Ob S O i g w j->eI (aM av) av J S i (gm Q c Z) (aO (A.at (bG T E.dst (aI g (I (pre++e)) N)) (bW vh z5::C)) R) j)->
 eI (aM av) av J S O Q (aO ((base 117).at a [b9 (lJ rm),gE (lJ rm),fI 0,b9 (pM rm)]) (A.at T (bW vh (H::z5)::C)::R)) w:=by
 intro e
 induction e with
 |nil=>
  intro pre O w a Q b l n k;refine Rg b l B ?_;have:=k O w (by rw[oH];exact b.row) b.own b.inr ⟨λ_ b=>b,λ_ b=>aq b,λ_ _ _=>rfl,aV _,rfl,rfl,rfl⟩;rw[oH] at this;exact this
 |cons m e D=>
  intro pre O w a Q b l n k;simp only[pI] at n;refine Ri b l aa x λi j t v q G L r M P U=>D (pre++[m]) i j t _ v (by unfold gm;simp) bO λs V p y z h=>?_;rw[aaz];have u:pre++[m]++e=pre++m::e:=aF;rw[u] at p ⊢;exact k s V p y z ⟨λd f=>h.sub d (q d f),λd f=>ff (h.new d f) (G d) (λf=>an (dj r f)),λd f o=>aB (h.at_ d (f.imp (λb=>b) (q d)) o) (L d f o),dj r h.size,aB h.tape M,aB h.os P,aB h.output U⟩
def Cn(b d:F)(m:Nat)(j:2<=m):Knows ⟨#[b,d]++jh (m-2) cI,[]⟩ m [(0,b),(1,d)]:=by
 have h:∀e v,(#[b,d]:Array F)[e]? =K v->cG ⟨#[b,d]++jh (m-2) cI,[]⟩ e=v:=λe v f=>by
  unfold cG;rw[jT,Array.getElem?_append_left (dY.1 f).1,f];rfl
 refine Knows.cons (Knows.cons (l:=[]) ⟨?_,λs v i=>by simp at i⟩ (h 1 d Y)) (h 0 b Y);simp;omega
def Rf{r:List az}(v:vh[H]? =K E)(l:jl S O w)(F:Q c=K (r.map az.agg))(x:I r<=N)(n:N<=1000000)
 (u:∀j k g,U w.heap<=g->Row k g N r->j g->DR S O j w k->eI (aM av) av J S j (gm Q c Z) (aO (A.at (T.put E.dst (aI g (I r) N)) (bW vh z5::C)) R) k):
 eI (aM av) av J S O Q (aO (fC av 117 #[fp (K c),n9 N] eA) (A.at T (bW vh (H::z5)::C)::R)) w:=by
 have b:=mN (aM av) av J S Q;have⟨G,s,D,z,p⟩:=DH;rw[enter_at _ Tryz.func117 Y];have d:=Cn (fp (K c)) (n9 N) 18 ay;refine cA b (dg b [0] Y ?_);refine mL b d aH λd=>?_;refine cQ b (cA b (dg b [0,1,2] Y (dK b d λd=>oM b l ay Y Y (ax (px (cw #[ak ai,z9 0,au ⟨#[]⟩]).cells (N*G.size)) 59) trivial (λL=>aI L 0 N) (Ft (L:=0) Y Y (d.of Y) yU s D (cE _) (jG p) aa) λg M m B hrel o=>?_)));replace d:=d.put (d:=8) ay (aI g 0 N);refine g4 b d λd=>?_;refine cQ b (cA b (cA b (dg b [0] Y (dK b d λd=>cQ b (oL b (zq b (Rh (g:=g) (N:=N) v n r [] _ M _ Q ⟨(d.nil.cons (d.slot 5 _ Y)).cons (d.slot 9 _ Y),by simp only[put_defers],(l.new m B),an Y,⟨⟨_,o,by rw[size_madeCells,z],rfl⟩,cE _⟩⟩ F (cM x) λj k y q t i=>u j k g m y q ⟨λe h=>i.sub e (aq h),λe h=>?_,⟨λe h=>?_,?_,aB i.tape hrel.tape,aB i.os hrel.os,aB i.output hrel.output⟩,t⟩)))))));rcases i.new e h with(f|rfl)|f;exact aq f;exact an m;exact an (dj hrel.size f);have:=l e h;rw[i.at_ e (h.imp (λf=>f) (λf=>aq f)) (by omega),hrel.at_ e h];exact dj hrel.size i.size
end
end Cc
namespace Cc
open Go Go.Conc
open Ec (az bZ)
open Go.RowKit (Below)
structure oB(S:Nat->Prop)(w0:ag)(s:Nat->ByteArray)(k e:Nat->Int)(N cb n kb nk eb ne wb:Nat)(ws:List Bool)(V:Nat->List az):Prop where
 sz:∀b,S b->b<U w0.heap
 sin:∀j,ws[j]? =K af->zi S w0 (s j) (k j) (e j) cb n kb nk eb ne j/\(s j).size<=aS/\lH (s j) (k j) (e j) (N:Int) (V j)
 wl:wb<U w0.heap
 wc:∀j y,ws[j]? =K y->aA w0 ⟨wb,0+j*1,Z⟩=K (ak y)
 nn:N<=1000000
 mm:I ws<=1000000
 pos:1<=U w0.heap
def ab6 (ws:List Bool)(ch:Nat->Nat)(i:Nat):List F:=(eH (I ws)).map λb=>if b<i/\ws[b]? =K af then fp (K (ch b)) else fp Z
def uX{ws:List Bool}{ch:Nat->Nat}{i:Nat}:I (ab6 ws ch i)=I ws:=by simp[ab6]
def AK{ws:List Bool}{ch:Nat->Nat}{i b:Nat}(c:b<I ws):(ab6 ws ch i)[b]? =K (if b<i/\ws[b]? =K af then fp (K (ch b)) else fp Z):=by
 simp[ab6,c]
structure nZ(S O:Nat->Prop)(w0 w:ag)(N cb n cap kb nk ck eb ne ce:Nat)(x:F)(bb fb:Nat):Prop where
 sq:aD w0 w
 low:∀b,b<U w0.heap->S b\/O b
 inr:jl S O w
 fW:∀b,S b->¬O b
 ob:O bb
 of:O fb
 lb:U w0.heap<=bb
 lf:U w0.heap<=fb
 hb:w.heap[bb]? =K (ax #[n9 N,aI cb n cap] 139 (0,0))
 hf:w.heap[fb]? =K (ax #[aI kb nk ck,aI eb ne ce,x] 105 (0,0))
structure HA(O:Nat->Prop)(w:ag)(ws:List Bool)(V:Nat->List az)(ch:Nat->Nat)(p q:Nat)(μ:Nat->Option (List F)):Prop where
 mu:∀j,p<=j->j<q->ws[j]? =K af->μ (ch j)=K ((V j).map az.agg)
 no:∀c,μ c≠Z->∃j,p<=j/\j<q/\ws[j]? =K af/\ch j=c
 inj:∀j j',j<q->j'<q->ws[j]? =K af->ws[j']? =K af->ch j=ch j'->j=j'
 lt:∀j,j<q->ws[j]? =K af->ch j<U w.heap
section
variable {S O:Nat->Prop}{w0 w J:ag}{s:Nat->ByteArray}{k e:Nat->Int}{N cb n cap kb nk ck eb ne ce wb g8:Nat}{x:F}{ws:List Bool}{V:Nat->List az}{ch:Nat->Nat}{bb fb b7 i:Nat}{μ:Nat->Option (List F)}{a:bK}{Q:F->ag->Prop}{R:List aP}
def nZ.rel(c:nZ S O w0 w N cb n cap kb nk ck eb ne ce x bb fb)(g:∀b,S b\/O b->U w0.heap<=b->(b=bb\/b=fb)->J.heap[b]? =w.heap[b]?)(l:∀b,b<U w0.heap->J.heap[b]? =w.heap[b]?)(p:U w.heap<=U J.heap)(q:J.tape=w.tape)(m:J.os=w.os)(o:J.output=w.output)(j:jl S q9 J)(f:∀b,O b->b<U w0.heap\/b=bb\/b=fb->q9 b)(h:∀b,S b->¬q9 b):nZ S q9 w0 J N cb n cap kb nk ck eb ne ce x bb fb:=
 ⟨⟨aB m c.sq.os,aB q c.sq.tape,aB o c.sq.output,dj c.sq.size p,λb d=>aB (l b d) (cS c.sq b d)⟩,λb d=>(c.low b d).imp (λc=>c) (λc=>f b c (aq d)),j,h,f bb c.ob (an (aq Y)),f fb c.of (an (an Y)),c.lb,c.lf,aB (g bb (an c.ob) c.lb (aq Y)) c.hb,aB (g fb (an c.of) c.lf (an Y)) c.hf⟩
def nZ.new(f:nZ S O w0 w N cb n cap kb nk ck eb ne ce x bb fb)(g:U w.heap<=m)(j:U J.heap=m+1)(d:RelB (λb=>S b\/O b) w J):nZ S (λb=>O b\/b=m) w0 J N cb n cap kb nk ck eb ne ce x bb fb:=
 f.rel (λb c _ _=>d.at_ b c) (λb c=>d.at_ b (f.low b c)) d.size d.tape d.os d.output (f.inr.new g j) (λb c _=>aq c) (λb c h=>ff h (f.fW b c) (λe=>cB (f.inr b (aq c))))
def nZ.set(f:nZ S O w0 w N cb n cap kb nk ck eb ne ce x bb fb)(b:tX S O m Qk w J)(g:m≠bb)(h:m≠fb)(l:U w0.heap<=m):nZ S O w0 J N cb n cap kb nk ck eb ne ce x bb fb:=
 f.rel (λc d _ j=>b.at_ c d (by rcases j with rfl|rfl;exact λe=>g (bA e);exact λe=>h (bA e))) (λc d=>b.at_ c (f.low c d) aa) b.size b.tape b.os b.output (f.inr.set b) (λc d _=>d) f.fW
end
def zH (b:cO):Array cq:=match lJ b with
 |aU _ (aU _ (aU (ga _ (aU _ (aU _ (.cond _ (aU _ (gu _ c _)) _)))) _))=>c
 |_=> #[]
def EX (b7 fb bb i b N cb n cap kb nk ck eb ne ce m:Nat)(x:F):List (Nat×F):=
 [(29,aI b7 m m),(30,n9 i),(31,dG (K ⟨b7,0+i*1,Z⟩)),(32,fp (K b)),(33,so (N:Int) cb n cap),(34,sx kb nk ck eb ne ce x),(35,n9 i)]
def SP:List Nat:=[29,30,31,32,33,34,35]
def Js:nS (zH ea) (λi=>decide (i<7)) 7 73 SP=af:=bl
def SQ:(dM (eH (U (zH ea))) λi=> !(λi=>decide (i<=7)) i||i==7||iP (under (zH ea) (U (zH ea)) (match (zH ea)[7]? with
 |some b=>(b.after.toList.filter λe=>iN ed e).map (·.on)
 |none=>[])) i)=af:=bl
def AF:(av.info? 139).map (·.size)=K 2:=bl
def Ja:(av.info? 105).map (·.size)=K 3:=bl
def PN:(av.info? 193).map (·.size)=K 1:=bl
section
variable {S O:Nat->Prop}{w0 w R:ag}{s:Nat->ByteArray}{k e:Nat->Int}{N cb n cap kb nk ck eb ne ce wb g8:Nat}{x:F}{ws:List Bool}{V:Nat->List az}{ch:Nat->Nat}{bb fb b7 i:Nat}{μ:Nat->Option (List F)}{a:bK}{J:F->ag->Prop}{Q:List aP}
structure yE(S O:Nat->Prop)(w0 w:ag)(N cb n cap kb nk ck eb ne ce:Nat)(x:F)(wb g8:Nat)(ws:List Bool)(V:Nat->List az)(ch:Nat->Nat)(bb fb b7 i:Nat)(μ:Nat->Option (List F))(a:bK):Prop where
 kn:Knows a 73 [(16,n9 i),(15,n9 (I ws)),(8,aI b7 (I ws) (I ws)),(4,(aZ fb)),(3,(aZ bb)),(2,aI wb (I ws) g8)]
 df:b8 a=[]
 own:nZ S O w0 w N cb n cap kb nk ck eb ne ce x bb fb
 oc:O b7
 lc:U w0.heap<=b7
 cb:b7≠bb
 cf:b7≠fb
 hc:w.heap[b7]? =K (ax (cX (ab6 ws ch i)) 193 (0,0))
 Es:HA O w ws V ch 0 i μ
def PK(d:ws[i]? ≠K af):ab6 ws ch (i+1)=ab6 ws ch i:=by
 unfold ab6;refine y4 λb g=>?_;by_cases e:b=i;subst e;simp[d];have:(b<i+1/\ws[b]? =K af)↔(b<i/\ws[b]? =K af):=by
  constructor;rintro⟨f,c⟩;exact⟨aa,c⟩;rintro⟨f,c⟩;exact⟨aa,c⟩
 simp only[this]
def PJ(c:ws[i]? =K af):(ab6 ws ch i).take i++[fp (K m)]++(ab6 ws ch i).drop (i+1)=ab6 ws (λb=>if b=i then m else ch b) (i+1):=by
 have l:i<I ws:=(fq.1 c).1;apply List.ext_getElem?;intro b;rcases ij b (I ws) with d|d;rw[AK d];rcases Nat.lt_trichotomy b i with f|f|f;rw[iD,ru (by simp[uX];omega),ry,if_pos f,AK d];have e:(b<i+1/\ws[b]? =K af)↔(b<i/\ws[b]? =K af):=⟨λc=>⟨f,c.2⟩,λc=>⟨aa,c.2⟩⟩;have g:¬b=i:=aa;simp only[e,g,if_false];subst f;rw[iD,pG (by simp[uX];omega)];simp[uX,c,xp (uO d)];rw[pG (by simp[uX];omega)];have h:i+1+(b-(min i (I ws)+1))=b:=aa;simp only[cN,m7,uX,pI,yZ,List.getElem?_drop,h,AK d];have g:¬(b<i):=aa;have j:¬(b<i+1):=aa;simp only[g,j,false_and,if_false];rw[xl (by simp[uX];omega),xl (by rw[uX];exact d)]
def go_skip(j:oB S w0 s k e N cb n kb nk eb ne wb ws V)(h:yE S O w0 w N cb n cap kb nk ck eb ne ce x wb g8 ws V ch bb fb b7 i μ a)(o:ws[i]? =K ai)
 (H:∀q,yE S O w0 w N cb n cap kb nk ck eb ne ce x wb g8 ws V ch bb fb b7 (i+1) μ q->eI (aM av) av J S O μ (aO ((base 78).at q [b9 (lJ ea),gE (lJ ea),fI 0,b9 (pM ea)]) Q) w):
 eI (aM av) av J S O μ (aO ((base 78).at a [b9 (lJ ea),gE (lJ ea),fI 0,b9 (pM ea)]) Q) w:=by
 have⟨b,E,p,P,L,C,D,G,l⟩:=h;have c:=mN (aM av) av J S μ;have M:i<I ws:=(fq.1 o).1;have U:=j.mm;refine cA c (dg c [0] Y ?_);refine ei c b Y (ak af) (sE Y (b.of Y) (b.of Y) bO) λb=>cQ c (cA c ?_);refine iq c af (b.of Y) (nR c ?_);refine cA c (oL c ?_);refine cA c (dg c [0,1] Y (dK c b λb=>?_));refine g4 c b λb=>cQ c ?_;refine cA c (dg c [0,1,2,3] Y (dK c b λb=>?_));refine dK c b λb=>ei c b Y (dG (K ⟨wb,0+i*1,Z⟩)) (pS Y (b.of Y) (b.of Y) vK Tryz.sizeOf4 M) λb=>?_;refine og c b Y (ak ai) (jd Y (b.of Y) Tryz.isAgg4 (p.low wb j.wl) (aB (bq p.sq (p:=⟨wb,0+i*1,Z⟩) j.wl) (j.wc i _ o))) λb=>cQ c ?_;refine iq c ai (b.of Y) (nR c ?_);refine uU c (dg c [0,1] Y (ei c b Y (z9 ((i+1:Nat):Int)) (uk (j:=1) Y (b.of Y) Y aa) λb=>?_));refine dK c b λb=>cQ c (v9 c ?_);have g:ws[i]? ≠K af:=by rw[o];simp
 refine H _ ⟨(((((b.nil.cons (b.slot 2 _ Y)).cons (b.slot 3 _ Y)).cons (b.slot 4 _ Y)).cons (b.slot 8 _ Y)).cons (b.slot 15 _ Y)).cons (b.slot 16 _ Y),by simp only[put_defers];exact E,p,P,L,C,D,b5 (PK g) G,⟨λd y r f=>?_,λv B=>?_,λd u r T f t F=>?_,λd r f=>?_⟩⟩;exact l.mu d y (by rcases ij d i with h|h;exact h;have:d=i:=aa;subst this;exact absurd f g) f;have⟨d,m,z,A⟩:=l.no v B;exact⟨d,m,aa,A⟩;have m:d≠i:=λe=>g (e▸f);have z:u≠i:=λe=>g (e▸t);exact l.inj d u aa aa f t F;have m:d≠i:=λe=>g (e▸f);exact l.lt d aa f
end
section
variable {S O:Nat->Prop}{f w g:ag}{s:Nat->ByteArray}{k e:Nat->Int}{N H n R C E r T A q y g8:Nat}{x:F}{Q:List Bool}{V:Nat->List az}{B:Nat->Nat}{L W b7 i:Nat}{M:Nat->Option (List F)}{a:bK}{J:F->ag->Prop}{z:List aP}{m:List dW}
def go_region{c:Nat}(X:oB S f s k e N H n C E T A y Q V)(ae:Q[i]? =K af)
 (G:Knows a 73 ((9,n9 i)::(8,aI b7 (I Q) (I Q))::(4,(aZ W))::(3,(aZ L))::l0))
 (t:nZ S O f w N H n R C E r T A q x L W) (a0:O b7) (aG:O c) (aH:aA w ⟨b7,0+i*1,Z⟩=K (.chan (K c))) (a3:M c=Z) (aJ:w.heap[c]? =K (.chan N #[] ai 0 0 ai))
 (aL:∀P,Knows P 73 (EX b7 W L i c N H n R C E r T A q (I Q) x++((9,n9 i)::(8,aI b7 (I Q) (I Q))::(4,(aZ W))::(3,(aZ L))::l0))->b8 P=b8 a->
   eI (aM av) av J S (λd=>O d/\d≠c) (gm M c (K ((V i).map az.agg))) (aO ((base 78).at P m) z) w):
 eI (aM av) av J S O M (aO ((base 78).at a (b9 (gu 7 (zH ea) af)::m)) z) w:=by
 have ab:=mN (aM av) av J S M;have aQ:i<I Q:=(fq.1 ae).1;have aC:pq w L 0 [bt bM (N:Int),aI H n R]:=λb v o=>by unfold aA;simp only[t.hb];rw[e7];simpa using o
 have aD:pq w W 0 [ah (K ⟨C,0,Z⟩) E r,aI T A q,x]:=λb v o=>by unfold aA;simp only[t.hf];rw[e7];simpa using o
 refine xI (Ph:=λi=>decide (i<7)) (l:=EX b7 W L i c N H n R C E r T A q (I Q) x) ab yC (sr (u:=7) ab ay G Js ?_ ?_ ?_);intro h b l a1 _ _ j;have o:b<7:=cM a1;have:b=0\/b=1\/b=2\/b=3\/b=4\/b=5\/b=6:=aa;rcases this with rfl|rfl|rfl|rfl|rfl|rfl|rfl;cases(show K _=K l from j);exact⟨_,rfl,aq ⟨rfl,dX (gz Y (h.of Y))⟩⟩;cases(show K _=K l from j);exact⟨_,rfl,aq ⟨rfl,dX (gz Y (h.of Y))⟩⟩;cases(show K _=K l from j);exact⟨_,rfl,aq ⟨rfl,dX (pS Y (h.of Y) (h.of Y) Tryz.underlying192 Tryz.sizeOf193 aQ)⟩⟩;cases(show K _=K l from j);exact⟨_,rfl,aq ⟨rfl,jd Y (h.of Y) Tryz.isAgg193 (an a0) aH⟩⟩;cases(show K _=K l from j);exact⟨_,rfl,aq ⟨rfl,oU (cs:=[bt bM (N:Int),aI H n R]) Y (h.of Y) tR Y AF (an t.ob) aC⟩⟩;cases(show K _=K l from j);exact⟨_,rfl,aq ⟨rfl,oU (cs:=[ah (K ⟨C,0,Z⟩) E r,aI T A q,x]) Y (h.of Y) Tryz.underlying105 Y Ja (an t.of) aD⟩⟩;cases(show K _=K l from j);exact⟨_,rfl,aq ⟨rfl,dX (gz Y (h.of Y))⟩⟩;intro l j a4 a7 a6 d ad aj a5 D _;have h:=G.fill (EX b7 W L i c N H n R C E r T A q (I Q) x) Y;have U:=tC (Dn:=λi=>decide (i<=7)) ad aj SQ (λb o=>by
  have:b<=7:=cM o;show b<8;omega)
 cases(show K _=K l from j);have⟨aE,aF⟩:=zM ad aj Y G.size Js (λb o=>U b (by
  have:b<8:=o;simp;omega))
 have ao:bz d (.tmp 32)= .chan (K c):=aB (D 32 ay) (h.slot 32 _ Y);have ap:bz d (.tmp 33)=so (N:Int) H n R:=aB (D 33 ay) (h.slot 33 _ Y);have ar:bz d (.tmp 34)=sx C E r T A q x:=aB (D 34 ay) (h.slot 34 _ Y);have aw:bz d (.tmp 35)=n9 i:=aB (D 35 ay) (h.slot 35 _ Y);have⟨a2,aY,am⟩:=X.sin i ae;refine Uf (args:= #[.chan (K c),so (N:Int) H n R,sx C E r T A q x,n9 i]) (vs:=(V i).map az.agg) (cap:=N) ay j Y Y (by simp only[List.map_toArray,tV,List.map_nil,ao,ap,ar,aw]) aG ?_ a3 aJ (λa8 al=>?_) ?_;rw[ee];rcases am.len with p|p;omega;rw[p];exact cE _;refine Zh am aY ⟨λd u=>⟨cL (t.inr d (aq u)) al.size,λp=>p⟩,λd p=>fe p⟩ (a2.rel λd u=>?_);rw[al.at_ d (aq u)];exact cS t.sq d (X.sz d u);rw[aF];show eI _ _ J S _ _ (aO ((base 78).at d _) z) w;rw[aE];exact cQ (mN (aM av) av J S _) (aL _ h (rH _));intro U;exact absurd (U 7 ay) ay
def go_round(F:oB S f s k e N H n C E T A y Q V)(t:yE S O f w N H n R C E r T A q x y g8 Q V B L W b7 i M a)(G:Q[i]? =K af)
 (bc:∀ap g ae aY aQ,yE S ap f g N H n R C E r T A q x y g8 Q V aY L W b7 (i+1) aQ ae->eI (aM av) av J S ap aQ (aO ((base 78).at ae [b9 (lJ ea),gE (lJ ea),fI 0,b9 (pM ea)]) z) g):
 eI (aM av) av J S O M (aO ((base 78).at a [b9 (lJ ea),gE (lJ ea),fI 0,b9 (pM ea)]) z) w:=by
 have⟨b,a8,l,P,aE,aw,aC,ba,o⟩:=t;have c:=mN (aM av) av J S M;have am:i<I Q:=(fq.1 G).1;have bs:=F.mm;have bu:=F.nn;have⟨bx,bb,_,_,a6⟩:=DH;refine cA c (dg c [0] Y ?_);refine ei c b Y (ak af) (sE Y (b.of Y) (b.of Y) bO) λb=>cQ c ?_;refine cA c (iq c af (b.of Y) ?_);refine nR c (cA c ?_);refine oL c (cA c ?_);refine dg c [0,1] Y (dK c b λb=>?_);refine g4 c b λb=>cQ c ?_;refine cA c (dg c [0,1,2,3] Y ?_);refine dK c b λb=>?_;refine dK c b λb=>ei c b Y (dG (K ⟨y,0+i*1,Z⟩)) (pS Y (b.of Y) (b.of Y) vK Tryz.sizeOf4 am) λb=>?_;refine og c b Y (ak af) (jd Y (b.of Y) Tryz.isAgg4 (l.low y F.wl) (aB (bq l.sq (p:=⟨y,0+i*1,Z⟩) F.wl) (F.wc i _ G))) λb=>cQ c ?_;refine iq c af (b.of Y) (cA c ?_);refine dg c [0,1,2,3,4,5,6] Y (dK c b λb=>?_);refine dK c b λb=>ei c b Y (aZ L) (nu (off':=0) Y (b.of Y) tR Y uJ Y) λb=>?_;refine og c b Y (n9 N) (jd Y (b.of Y) xf (an l.ob) (by unfold aA;simp only[l.hb];rfl)) λb=>oM c l.inr ay rfl rfl (.chan N #[] ai 0 0 ai) trivial (λn=>.chan (K n)) (Vc rfl (b.of rfl) Tryz.underlying193 bb aa (jG a6)) λh bF be bj hrel a5=>?_;replace b:=b.put (d:=27) ay (.chan (K h));have aG:=l.new be bj hrel;refine ei c b Y (dG (K ⟨b7,0+i*1,Z⟩)) (pS Y (b.of Y) (b.of Y) Tryz.underlying192 Tryz.sizeOf193 am) λb=>?_;have bo:=l.inr b7 (an P);have aD:h≠b7:=aa;have a0:(ab6 Q B i).toArray.toList.take (0+i*1)++(fp (K h)).cells.toList++(ab6 Q B i).toArray.toList.drop (0+i*1+(fp (K h)).cells.size)=ab6 Q (λd=>if d=i then h else B d) (i+1):=by
  rw[<-PJ G];simp[lC]
 refine xJ c aG.inr (n:=b7) ay Y Y (aq P) (ax (cX ((ab6 Q B i).toArray.toList.take (0+i*1)++(fp (K h)).cells.toList++(ab6 Q B i).toArray.toList.drop (0+i*1+(fp (K h)).cells.size))) 193) trivial (wB (n:=b7) (off:=0+i*1) (v:=.chan (K h)) Y (b.of Y) (b.of Y) PN (λbE aH=>by simp[lC] at aH;rw[aH];rfl) (an (aq P)) (aB (hrel.at_ b7 (an P)) ba) (by
  show 0+i*1+1<=I (ab6 Q B i);rw[uX];omega)) λaL U=>?_
 rw[a0] at U;replace b:=b.none cI;have X:=aG.set U aw aC aE;refine cQ c ?_;have a7:aL.heap[h]? =K (.chan N #[] ai 0 0 ai):=aB (U.at_ h (an (an Y)) aD) a5;have bk:M h=Z:=by
  cases bd:M h with
  |none=>rfl
  |some bD=>
   have⟨d,_,ad,p,ab⟩:=o.no h (by rw[bd];simp);have:=o.lt d ad p;omega
 have bv:=U.size;refine go_region (c:=h) (l0:=[(16,n9 i),(15,n9 (I Q)),(2,aI y (I Q) g8)]) F G ((((((((b.nil.cons (b.slot 2 _ Y)).cons (b.slot 15 _ Y)).cons (b.slot 16 _ Y)).cons (b.slot 3 _ Y)).cons (b.slot 4 _ Y)).cons (b.slot 8 _ Y)).cons (b.slot 9 _ Y))) X (aq P) (an Y) ?_ bk a7 λae j a9=>?_;unfold aA;rw[U.set];simp only[e7,uQ];have:=AK (ws:=Q) (ch:=λd=>if d=i then h else B d) (i:=i+1) am;simp[G] at this;simpa using this;have c:=mN (aM av) av J S (gm M h (K ((V i).map az.agg)));refine uU c (dg c [0,1] Y ?_);refine ei c j Y (z9 ((i+1:Nat):Int)) (uk (j:=1) Y (j.of Y) Y aa) λj=>?_;refine dK c j λj=>cQ c (v9 c (bc _ aL _ (λd=>if d=i then h else B d) _ ⟨(((((j.nil.cons (j.slot 2 _ Y)).cons (j.slot 3 _ Y)).cons (j.slot 4 _ Y)).cons (j.slot 8 _ Y)).cons (j.slot 15 _ Y)).cons (j.slot 16 _ Y),by simp only[put_defers];rw[a9];simp only[put_defers];exact a8,?_,⟨aq P,λe=>aD (bA e)⟩,aE,aw,aC,U.set,⟨λd a1 ad p=>?_,λar al=>?_,λd ao ad br p aJ ab=>?_,λd ad p=>?_⟩⟩));have bl:=l.inr L (an l.ob);have bm:=l.inr W (an l.of);exact X.rel (λv u _ _=>rfl) (λv u=>rfl) (aV _) rfl rfl rfl (λv u=>X.inr v (u.imp (λt=>t) (λt=>t.1))) (λv u t=>⟨u,by rcases t with t|rfl|rfl<;>omega⟩) (λv u bi=>X.fW v u bi.1);by_cases e:d=i;subst e;simp[gm];have:=o.lt d aa p;have bh:B d≠h:=aa;simp only[if_neg e,gm,bh,if_false];exact o.mu d a1 aa p;by_cases e:ar=h;subst e;exact⟨i,cE _,aa,G,aF⟩;unfold gm at al;rw[if_neg e] at al;have⟨d,a2,bn,a3,a4⟩:=o.no ar al;exact⟨d,a2,aa,a3,by rw[if_neg (by omega)];exact a4⟩;by_cases D:d=i<;>by_cases aj:ao=i;omega;rw[if_pos D,if_neg aj] at ab;have:=o.lt ao aa aJ;omega;rw[if_neg D,if_pos aj] at ab;have:=o.lt d aa p;omega;rw[if_neg D,if_neg aj] at ab;exact o.inj d ao aa aa p aJ ab;by_cases D:d=i;rw[if_pos D];omega;rw[if_neg D];have:=o.lt d aa p;omega
end
def nj (ws:List Bool)(g:Nat->Nat)(V:Nat->List az)(N:Nat)(i:Nat):List F:=(eH (I ws)).map λa=>if a<i/\ws[a]? =K af then ah (K ⟨g a,0,Z⟩) (I (V a)) N else aH
def vc{ws:List Bool}{g:Nat->Nat}{V:Nat->List az}{N:Nat}{i:Nat}:I (nj ws g V N i)=I ws:=by simp[nj]
def AW{ws:List Bool}{g:Nat->Nat}{V:Nat->List az}{N:Nat}{i a:Nat}(b:a<I ws):(nj ws g V N i)[a]? =K (if a<i/\ws[a]? =K af then ah (K ⟨g a,0,Z⟩) (I (V a)) N else aH):=by
 simp[nj,b]
section
variable {ws:List Bool}{g:Nat->Nat}{V:Nat->List az}{N i:Nat}
def Ua(d:ws[i]? ≠K af):nj ws g V N (i+1)=nj ws g V N i:=by
 unfold nj;refine y4 λa f=>?_;by_cases c:a=i;subst c;simp[d];have:(a<i+1/\ws[a]? =K af)↔(a<i/\ws[a]? =K af):=by
  constructor;rintro⟨e,b⟩;exact⟨aa,b⟩;rintro⟨e,b⟩;exact⟨aa,b⟩
 simp only[this]
def T9(b:ws[i]? =K af):(nj ws g V N i).take i++[ah (K ⟨n,0,Z⟩) (I (V i)) N]++(nj ws g V N i).drop (i+1)=nj ws (λa=>if a=i then n else g a) V N (i+1):=by
 have k:i<I ws:=(fq.1 b).1;apply List.ext_getElem?;intro a;rcases ij a (I ws) with c|c;rw[AW c];rcases Nat.lt_trichotomy a i with d|d|d;rw[iD,ru (by simp[vc];omega),ry,if_pos d,AW c];have f:(a<i+1/\ws[a]? =K af)↔(a<i/\ws[a]? =K af):=⟨λb=>⟨d,b.2⟩,λb=>⟨aa,b.2⟩⟩;have e:¬a=i:=aa;simp only[f,e,if_false];subst d;rw[iD,pG (by simp[vc];omega)];simp[vc,b,xp (uO c)];rw[pG (by simp[vc];omega)];have h:i+1+(a-(min i (I ws)+1))=a:=aa;simp only[cN,m7,vc,pI,yZ,List.getElem?_drop,h,AW c];have e:¬(a<i):=aa;have j:¬(a<i+1):=aa;simp only[e,j,false_and,if_false];rw[xl (by simp[vc];omega),xl (by rw[vc];exact c)]
end
def pQ (b:cO):de:=match pM b with
 |aU _ (aU _ (aU (aU _ (ga _ (.loop a))) _))=>a
 |_=>eO
def xP (b:cO):de:=match pM b with
 |aU _ (aU _ (aU _ a))=>a
 |_=>eO
def oN (a:cO):Array cq:=match pQ a with
 |aU _ (aU _ (aU (ga _ (aU _ (aU _ (.cond _ (aU (gu _ b _) _) _)))) _))=>b
 |_=> #[]
def x6 (a:cO):Array cq:=match pQ a with
 |aU _ (aU _ (aU (ga _ (aU _ (aU _ (.cond _ (aU _ (gu _ b _)) _)))) _))=>b
 |_=> #[]
def It:List Nat:=[49,50,51,52,53,54,55,56]
def zu (c b7 a i b N m:Nat):List (Nat×F):=[(49,aI c m m),(50,n9 i),(51,aI b7 m m),(52,n9 i),(53,dG (K ⟨b7,0+i*1,Z⟩)),(54,fp (K b)),(55,(aZ a)),(56,n9 N)]
def AH (b a c i N:Nat):List (Nat×F):=[(57,aI a c N),(58,dG (K ⟨b,0+i*1,Z⟩))]
def Iu:nS (oN ea) (λi=>decide (i<8)) 8 73 It=af:=bl
def Iv:nS (oN ea) (λi=>decide (i<10)) 10 73 ([57,58]++It)=af:=bl
def Ps:(dM (eH (U (oN ea))) λi=> !(λi=>decide (i<8)) i||match kY (oN ea) i with|some a=> !(iP ([57,58]:List Nat)) a|none=>af)=af:=bl
def Pt:(dM (eH (U (oN ea))) λi=> !(λi=>decide (2<=i/\i<=8)) i||i==8||iP (under (oN ea) (U (oN ea)) (match (oN ea)[8]? with
 |some b=>(b.after.toList.filter λa=>iN ed a).map (·.on)
 |none=>[])) i)=af:=bl
def Pu:(dM (eH (U (oN ea))) λi=> !(λi=>decide (i<=10)) i||i==10||iP (under (oN ea) 3 (match (oN ea)[10]? with
 |some b=>(b.after.toList.filter λa=>iN ed a).map (·.on)
 |none=>[])) i)=af:=bl
def abe:(rm.name == "runtime.NumGoroutine")=ai:=bl
def T7:(av.info? 43).map (·.size)=K 1:=bl
section
variable {S O:Nat->Prop}{L w T:ag}{s:Nat->ByteArray}{k e:Nat->Int}{N C n A q M g B p f m g8:Nat}{x:F}{J:List Bool}{V:Nat->List az}{ch:Nat->Nat}{H z b7 Q i:Nat}{E:Nat->Option (List F)}{a:bK}{R:F->ag->Prop}{y:List aP}{W:List dW}
def nZ.S3(h:nZ S O L w N C n A q M g B p f x H z)(c:DR S O q9 w T):nZ S q9 L T N C n A q M g B p f x H z:=
 h.rel (λb d _ _=>c.rel.at_ b d) (λb d=>c.rel.at_ b (h.low b d)) c.rel.size c.rel.tape c.rel.os c.rel.output c.inr (λb d _=>c.sub b d) (λb d j=>ff (c.new b j) (h.fW b d) (λe=>cB (h.inr b (aq d))))
def Pr{c gn:Nat}(aD:i<I J)
 (u:Knows a 73 ((10,n9 i)::(8,aI b7 (I J) (I J))::(6,aI Q (I J) (I J))::(3,(aZ H))::q4))
 (aw:jl S O w) (ad:O Q) (aC:w.heap[Q]? =K (ax qJ 43 (0,0))) (ar:qJ.size=I J) (len:Nat)
 (r X:Nat) (j:Array Bool) (o:bK) (t:gq (oN ea) (λi=>decide (i<10)) a (fill a (AH Q gn len i N++zu Q b7 H i c N (I J))) j o) (P:∀i,(λi=>decide (2<=i/\i<=8)) i=af->ek j i ai=af) (ab:mZ j<=r)
 (az:∀T v,tX S O Q (ax (cX (qJ.toList.take i++[ah (K ⟨gn,0,Z⟩) len N]++qJ.toList.drop (i+1))) 43) w T->Knows v 73 (AH Q gn len i N++zu Q b7 H i c N (I J)++((10,n9 i)::(8,aI b7 (I J) (I J))::(6,aI Q (I J) (I J))::(3,(aZ H))::q4))->b8 v=b8 a->
   eI (aM av) av R S O E (aO ((base 78).at v W) y) T):
 eI (aM av) av R S O E (aO ((base 78).at o (bW (oN ea) (kO ed (oN ea) r X j [])::W)) y) w:=by
 have D:=mN (aM av) av R S E;refine sr (Dn:=λi=>decide (2<=i/\i<=8)) (u:=10) D ay u Iv ?_ ?_ ?_ r X j o t P ab;intro d b l aE P aJ h;have aG:b<10:=cM aE;have aH:¬(2<=b/\b<=8):=cM P;have:b=0\/b=1\/b=9:=aa;rcases this with rfl|rfl|rfl;cases(show K _=K l from h);exact⟨_,rfl,aq ⟨rfl,dX (gz Y (d.of Y))⟩⟩;cases(show K _=K l from h);exact⟨_,rfl,aq ⟨rfl,dX (gz Y (d.of Y))⟩⟩;cases(show K _=K l from h);exact⟨_,rfl,aq ⟨rfl,dX (pS Y (d.of Y) (d.of Y) Tryz.underlying26 Tryz.sizeOf43 aD)⟩⟩;intro l h r X j o t ae ab aL _;have d:=u.fill (AH Q gn len i N++zu Q b7 H i c N (I J)) Y;have G:=tC (Dn:=λi=>decide (i<=10)) t ae Pu (λb U=>by
  have:b<=10:=cM U;show b<11;omega)
 cases(show K _=K l from h);have⟨ao,ap⟩:=zM t ae Y u.size Iv (λb U=>G b (by
  have:b<11:=U;simp;omega))
 rw[ap];subst ao;refine xJ D aw (n:=Q) ay h Y ad (ax (cX (qJ.toList.take (0+i*1)++(ah (K ⟨gn,0,Z⟩) len N).cells.toList++qJ.toList.drop (0+i*1+(ah (K ⟨gn,0,Z⟩) len N).cells.size))) 43) trivial (wB (n:=Q) (off:=0+i*1) (v:=aI gn len N) Y (d.of Y) (d.of Y) T7 (λaQ al=>by simp[lC] at al;rw[al];rfl) (an ad) aC (by
  show 0+i*1+1<=qJ.size;rw[ar];omega)) λaF aj=>?_
 refine cQ D (az aF _ ?_ (d.none cI) (by rw[put_defers];exact rH _));have am:qJ.toList.take (0+i*1)++(ah (K ⟨gn,0,Z⟩) len N).cells.toList++qJ.toList.drop (0+i*1+(ah (K ⟨gn,0,Z⟩) len N).cells.size)=qJ.toList.take i++[ah (K ⟨gn,0,Z⟩) len N]++qJ.toList.drop (i+1):=by simp[lC]
 rw[am] at aj;exact aj;intro G;exact absurd (G 10 ay) ay
def Pv{c:Nat}(aj:oB S L s k e N C n q M B p m J V)(al:J[i]? =K af)
 (u:Knows a 73 ((10,n9 i)::(8,aI b7 (I J) (I J))::(6,aI Q (I J) (I J))::(3,(aZ H))::l0))
 (ab:nZ S O L w N C n A q M g B p f x H z) (a7:O b7) (aH:aJ w b7 (0+i*1) (fp (K c))) (bc:E c=K ((V i).map az.agg)) (ap:O Q) (a6:w.heap[Q]? =K (ax qJ 43 (0,0))) (aL:qJ.size=I J)
 (a4:∀o t T j r,U w.heap<=j->Row t j N (V i)->o j->DR S O o w t->tX S o Q (ax (cX (qJ.toList.take i++[ah (K ⟨j,0,Z⟩) (I (V i)) N]++qJ.toList.drop (i+1))) 43) t T->Knows r 73 (AH Q j (I (V i)) i N++zu Q b7 H i c N (I J)++((10,n9 i)::(8,aI b7 (I J) (I J))::(6,aI Q (I J) (I J))::(3,(aZ H))::l0))->b8 r=b8 a->
   eI (aM av) av R S o (gm E c Z) (aO ((base 78).at r W) y) T):
 eI (aM av) av R S O E (aO ((base 78).at a (b9 (gu 15 (oN ea) af)::W)) y) w:=by
 have P:=mN (aM av) av R S E;have ao:i<I J:=(fq.1 al).1;have⟨_,_,ba⟩:=aj.sin i al;refine xI (Ph:=λi=>decide (i<8)) (l:=zu Q b7 H i c N (I J)) P yC (sr (u:=8) P ay u Iu ?_ ?_ ?_);intro h b l a8 _ _ d;have D:b<8:=cM a8;have:b=0\/b=1\/b=2\/b=3\/b=4\/b=5\/b=6\/b=7:=aa;rcases this with rfl|rfl|rfl|rfl|rfl|rfl|rfl|rfl;cases(show K _=K l from d);exact⟨_,rfl,aq ⟨rfl,dX (gz Y (h.of Y))⟩⟩;cases(show K _=K l from d);exact⟨_,rfl,aq ⟨rfl,dX (gz Y (h.of Y))⟩⟩;cases(show K _=K l from d);exact⟨_,rfl,aq ⟨rfl,dX (gz Y (h.of Y))⟩⟩;cases(show K _=K l from d);exact⟨_,rfl,aq ⟨rfl,dX (gz Y (h.of Y))⟩⟩;cases(show K _=K l from d);exact⟨_,rfl,aq ⟨rfl,dX (pS Y (h.of Y) (h.of Y) Tryz.underlying192 Tryz.sizeOf193 ao)⟩⟩;cases(show K _=K l from d);exact⟨_,rfl,aq ⟨rfl,jd Y (h.of Y) Tryz.isAgg193 (an a7) aH⟩⟩;cases(show K _=K l from d);exact⟨_,rfl,aq ⟨rfl,dX (nu (off':=0) Y (h.of Y) tR Y uJ Y)⟩⟩;cases(show K _=K l from d);exact⟨_,rfl,aq ⟨rfl,jd Y (h.of Y) xf (an ab.ob) (by unfold aA;simp only[ab.hb];rfl)⟩⟩;intro l d aD bd bi G X ad bh am _;have h:=u.fill (zu Q b7 H i c N (I J)) Y;have a0:=tC (Dn:=λi=>decide (2<=i/\i<=8)) X ad Pt (λb D=>by
  have:2<=b/\b<=8:=cM D;show b<11;omega)
 cases(show K _=K l from d);have aw:bz G (.tmp 54)=fp (K c):=aB (am 54 ay) (h.slot 54 _ Y);have aC:bz G (.tmp 56)=n9 N:=aB (am 56 ay) (h.slot 56 _ Y);refine Ir P ay d Y Y Tryz.func117 abe Y ?_;have aG:(#[Operand.tmp 54,.tmp 56].map (bz G))=#[fp (K c),n9 N]:=by simp only[List.map_toArray,tV,List.map_nil,aw,aC]
 rw[aG];refine Rf (r:=V i) d ab.inr bc ?_ aj.nn λo t j a2 a9 aE v=>?_;rcases ba.len with ae|ae;omega;rw[ae];exact cE _;have a1:=X.AR (l2:=AH Q j (I (V i)) i N) (rD:=λi=>decide (i<10)) (n:=73) (v:=aI j (I (V i)) N) ad d u.size Iu Y (λb D=>by
  have:b<8:=cM D;simp;omega) Y Ps (λbe aQ=>by cases aQ;rfl)
 refine Pr (gn:=j) (len:=I (V i)) (c:=c) ao u v.inr (v.sub Q ap) (aB (v.rel.at_ Q (an ap)) a6) aL aD bd _ _ a1 a0 ?_ λT r bb ar aY=>a4 o t T j r a2 a9 aE v bb ar aY;have⟨_,_,a3,a5,_⟩:=mem_ready ad;have:=yy (b5 X.size a3) a5;omega;intro aF;exact absurd (aF 10 ay) ay
end
def Fo:List Nat:=[59,60,61,62,63,64,65,66,67,68,69]
def Cw (R H E i J N m:Nat):List (Nat×F):=[(59,ak af),(60,ak af),(61,aI R m m),(62,n9 i),(63,dG (K ⟨R,0+i*1,Z⟩)),(64,aI E J N),(65,n9 J),(66,(aZ H)),(67,n9 N),(68,ak ((J:Int)==(N:Int))),(69,ak ((J:Int)==(N:Int)))]
def okF:List (Nat×F):=[(59,ak ai),(60,ak ai),(61,cI),(62,cI),(63,cI),(64,cI),(65,cI),(66,cI),(67,cI),(68,cI),(69,ak ai)]
def Cv:nS (x6 ea) (λi=>decide (i<11)) 11 73 Fo=af:=bl
def Kh:(dM (eH (U (x6 ea))) λi=> !(λi=>decide (i<=11)) i||i==11||iP (under (x6 ea) 1 (match (x6 ea)[11]? with
 |some b=>(b.after.toList.filter λe=>iN ed e).map (·.on)
 |none=>[])) i)=af:=bl
section
variable {S O:Nat->Prop}{z w M:ag}{s:Nat->ByteArray}{k e:Nat->Int}{N y n L kb c v r q ce p g8:Nat}{x:F}{T:List Bool}{V:Nat->List az}{W g:Nat->Nat}{H f b7 R i E J:Nat}{A:Nat->Option (List F)}{a:bK}{Q:F->ag->Prop}{B:List aP}{C:List dW}{eR:Bool}
def UX(aw:i<I T)
 (u:Knows a 73 ((7,ak eR)::(10,n9 i)::(6,aI R (I T) (I T))::(3,(aZ H))::l0)) (aG:jl S O w) (aD:O R) (aC:O H) (ao:aA w ⟨R,0+i*1,Z⟩=K (aI E J N)) (ap:aA w ⟨H,0,Z⟩=K (n9 N))
 (ae:∀P aj,Knows P 73 ((7,ak (eR&&((J:Int)==(N:Int))))::(aj++((7,ak eR)::(10,n9 i)::(6,aI R (I T) (I T))::(3,(aZ H))::l0)))->aj.map (·.1)=Fo->b8 P=b8 a->
   eI (aM av) av Q S O A (aO ((base 78).at P C) B) w):
 eI (aM av) av Q S O A (aO ((base 78).at a (b9 (gu 16 (x6 ea) af)::C)) B) w:=by
 have o:=mN (aM av) av Q S A;cases eR with
 |true=>
  refine xI (Ph:=λi=>decide (i<11)) (l:=Cw R H E i J N (I T)) o yC (sr (u:=11) o ay u Cv ?_ ?_ ?_);intro j b d X _ _ h;have m:b<11:=cM X;have l:∀d:cq,d.guard=K (1,af)->eF d (eg (x6 ea) (fill a (Cw R H E i J N (I T))).tmps)=af:=λd U=>Hu (d:=60) (b:=af) U Y (j.slot 60 _ Y) (by rw[j.size];decide);have:b=0\/b=1\/b=2\/b=3\/b=4\/b=5\/b=6\/b=7\/b=8\/b=9\/b=10:=aa;rcases this with rfl|rfl|rfl|rfl|rfl|rfl|rfl|rfl|rfl|rfl|rfl;cases(show K _=K d from h);exact⟨_,rfl,aq ⟨rfl,dX (gz Y (j.of Y))⟩⟩;cases(show K _=K d from h);exact⟨_,rfl,aq ⟨rfl,dX (gz Y (j.of Y))⟩⟩;cases(show K _=K d from h);exact⟨_,rfl,aq ⟨l _ Y,dX (gz Y (j.of Y))⟩⟩;cases(show K _=K d from h);exact⟨_,rfl,aq ⟨l _ Y,dX (gz Y (j.of Y))⟩⟩;cases(show K _=K d from h);exact⟨_,rfl,aq ⟨l _ Y,dX (pS Y (j.of Y) (j.of Y) Tryz.underlying26 Tryz.sizeOf43 aw)⟩⟩;cases(show K _=K d from h);exact⟨_,rfl,aq ⟨l _ Y,jd Y (j.of Y) Tryz.isAgg43 (an aD) ao⟩⟩;cases(show K _=K d from h);exact⟨_,rfl,aq ⟨l _ Y,dX (vg Y (j.of Y) yU)⟩⟩;cases(show K _=K d from h);exact⟨_,rfl,aq ⟨l _ Y,dX (nu (off':=0) Y (j.of Y) tR Y uJ Y)⟩⟩;cases(show K _=K d from h);exact⟨_,rfl,aq ⟨l _ Y,jd Y (j.of Y) xf (an aC) ap⟩⟩;cases(show K _=K d from h);exact⟨_,rfl,aq ⟨l _ Y,dX (U8 Y (j.of Y) (j.of Y))⟩⟩;cases(show K _=K d from h);exact⟨_,rfl,aq ⟨rfl,dX (Fw Y (j.of Y) (j.of Y))⟩⟩;intro d h am aF aE al D G az ar _;have j:=u.fill (Cw R H E i J N (I T)) Y;have t:=tC (Dn:=λi=>decide (i<=11)) D G Kh (λb m=>by
   have:b<=11:=cM m;show b<12;omega)
  cases(show K _=K d from h);have⟨ab,ad⟩:=zM D G Y u.size Cv (λb m=>t b (by
   have:b<12:=m;simp;omega))
  rw[ad];subst ab;refine tf o (by decide) h Y (wz Y (j.of Y)) ?_;exact cQ o (ae _ (Cw R H E i J N (I T)) (j.put (d:=7) ay (ak ((J:Int)==(N:Int)))) Y (by rw[put_defers];exact rH _));intro t;exact absurd (t 11 ay) ay
 |false=>
  refine xI (Ph:=λi=>decide (i<11)) (l:=okF) o yC (sr (u:=11) o ay u Cv ?_ ?_ ?_);intro j b d X _ _ h;have m:b<11:=cM X;have l:∀d:cq,d.guard=K (1,af)->eF d (eg (x6 ea) (fill a okF).tmps)=ai:=λd U=>Hu (d:=60) (b:=ai) U Y (j.slot 60 _ Y) (by rw[j.size];decide);have:b=0\/b=1\/b=2\/b=3\/b=4\/b=5\/b=6\/b=7\/b=8\/b=9\/b=10:=aa;rcases this with rfl|rfl|rfl|rfl|rfl|rfl|rfl|rfl|rfl|rfl|rfl;cases(show K _=K d from h);exact⟨_,rfl,aq ⟨rfl,dX (gz Y (j.of Y))⟩⟩;cases(show K _=K d from h);exact⟨_,rfl,aq ⟨rfl,dX (gz Y (j.of Y))⟩⟩;cases(show K _=K d from h);exact⟨_,rfl,an ⟨l _ Y,rfl⟩⟩;cases(show K _=K d from h);exact⟨_,rfl,an ⟨l _ Y,rfl⟩⟩;cases(show K _=K d from h);exact⟨_,rfl,an ⟨l _ Y,rfl⟩⟩;cases(show K _=K d from h);exact⟨_,rfl,an ⟨l _ Y,rfl⟩⟩;cases(show K _=K d from h);exact⟨_,rfl,an ⟨l _ Y,rfl⟩⟩;cases(show K _=K d from h);exact⟨_,rfl,an ⟨l _ Y,rfl⟩⟩;cases(show K _=K d from h);exact⟨_,rfl,an ⟨l _ Y,rfl⟩⟩;cases(show K _=K d from h);exact⟨_,rfl,an ⟨l _ Y,rfl⟩⟩;cases(show K _=K d from h);exact⟨_,rfl,aq ⟨rfl,dX (Fv Y (j.of Y) Y)⟩⟩;intro d h am aF aE al D G az ar _;have j:=u.fill okF Y;have t:=tC (Dn:=λi=>decide (i<=11)) D G Kh (λb m=>by
   have:b<=11:=cM m;show b<12;omega)
  cases(show K _=K d from h);have⟨ab,ad⟩:=zM D G Y u.size Cv (λb m=>t b (by
   have:b<12:=m;simp;omega))
  rw[ad];subst ab;refine tf o (by decide) h Y (wz Y (j.of Y)) ?_;exact cQ o (ae _ okF (j.put (d:=7) ay (ak ai)) Y (by rw[put_defers];exact rH _));intro t;exact absurd (t 11 ay) ay
end
structure tJ(S O:Nat->Prop)(w0 w:ag)(N cb n cap kb nk ck eb ne ce:Nat)(x:F)(wb g8:Nat)(ws:List Bool)(V:Nat->List az)(ch g:Nat->Nat)(bb fb b7 lb i:Nat)(eR:Bool)(μ:Nat->Option (List F))(a:bK):Prop where
 kn:Knows a 73 [(42,n9 i),(41,n9 (I ws)),(8,aI b7 (I ws) (I ws)),(7,ak eR),(6,aI lb (I ws) (I ws)),(3,(aZ bb)),(2,aI wb (I ws) g8)]
 df:b8 a=[]
 own:nZ S O w0 w N cb n cap kb nk ck eb ne ce x bb fb
 oc:O b7
 hc:w.heap[b7]? =K (ax (cX (ab6 ws ch (I ws))) 193 (0,0))
 ol:O lb
 ll:U w0.heap<=lb
 nb:lb≠bb
 nf:lb≠fb
 nc:lb≠b7
 hl:w.heap[lb]? =K (ax (cX (nj ws g V N i)) 43 (0,0))
 rows:∀j,j<i->ws[j]? =K af->Row w (g j) N (V j)/\O (g j)/\g j≠lb/\U w0.heap<=g j
 Es:HA O w ws V ch i (I ws) μ
 ok:eR=af↔∀j,j<i->ws[j]? =K af->I (V j)=N
section
variable {S O:Nat->Prop}{w0 w R:ag}{s:Nat->ByteArray}{k e:Nat->Int}{N cb n cap kb nk ck eb ne ce wb g8:Nat}{x:F}{ws:List Bool}{V:Nat->List az}{ch g:Nat->Nat}{bb fb b7 lb i:Nat}{μ:Nat->Option (List F)}{a:bK}{J:F->ag->Prop}{Q:List aP}{eR:Bool}
def V_(l:oB S w0 s k e N cb n kb nk eb ne wb ws V)(j:tJ S O w0 w N cb n cap kb nk ck eb ne ce x wb g8 ws V ch g bb fb b7 lb i eR μ a)(p:ws[i]? =K ai)
 (F:∀t,tJ S O w0 w N cb n cap kb nk ck eb ne ce x wb g8 ws V ch g bb fb b7 lb (i+1) eR μ t->eI (aM av) av J S O μ (aO ((base 78).at t [b9 (pQ ea),gE (pQ ea),fI 2,b9 (xP ea)]) Q) w):
 eI (aM av) av J S O μ (aO ((base 78).at a [b9 (pQ ea),gE (pQ ea),fI 2,b9 (xP ea)]) Q) w:=by
 have⟨b,C,r,P,D,W,G,H,M,L,E,ab,m,T⟩:=j;have c:=mN (aM av) av J S μ;have o:i<I ws:=(fq.1 p).1;have X:=l.mm;refine cA c (dg c [0] Y ?_);refine ei c b Y (ak af) (sE Y (b.of Y) (b.of Y) bO) λb=>cQ c (cA c ?_);refine iq c af (b.of Y) (nR c ?_);refine cA c (oL c ?_);refine cA c (dg c [0,1] Y (dK c b λb=>?_));refine g4 c b λb=>cQ c ?_;refine cA c (dg c [0,1,2,3] Y (dK c b λb=>?_));refine dK c b λb=>ei c b Y (dG (K ⟨wb,0+i*1,Z⟩)) (pS Y (b.of Y) (b.of Y) vK Tryz.sizeOf4 o) λb=>?_;refine og c b Y (ak ai) (jd Y (b.of Y) Tryz.isAgg4 (r.low wb l.wl) (aB (bq r.sq (p:=⟨wb,0+i*1,Z⟩) l.wl) (l.wc i _ p))) λb=>cQ c ?_;refine iq c ai (b.of Y) (nR c ?_);refine uU c (dg c [0,1] Y (ei c b Y (z9 ((i+1:Nat):Int)) (uk (j:=1) Y (b.of Y) Y aa) λb=>?_));refine dK c b λb=>cQ c (v9 c ?_);have y:ws[i]? ≠K af:=by rw[p];simp
 have q:∀d,ws[d]? =K af->d≠i:=λd h e=>y (e▸h);refine F _ ⟨((((((b.nil.cons (b.slot 2 _ Y)).cons (b.slot 3 _ Y)).cons (b.slot 6 _ Y)).cons (b.slot 7 _ Y)).cons (b.slot 8 _ Y)).cons (b.slot 41 _ Y)).cons (b.slot 42 _ Y),by simp only[put_defers];exact C,r,P,D,W,G,H,M,L,b5 (Ua y) E,λd o h=>ab d (cB (q d h)) h,⟨λd U o h=>m.mu d aa o h,λz B=>?_,m.inj,m.lt⟩,?_⟩;have⟨d,u,f,v,A⟩:=m.no z B;exact⟨d,cB (q d v),f,v,A⟩;rw[T];constructor;intro j d u f;exact j d (cB (q d f)) f;intro j d u f;exact j d aa f
def U_9(A:oB S w0 s k e N cb n kb nk eb ne wb ws V)(D:tJ S O w0 w N cb n cap kb nk ck eb ne ce x wb g8 ws V ch g bb fb b7 lb i eR μ a)(m:ws[i]? =K af)
 (a1:∀C R L aF a8 aC,tJ S C w0 R N cb n cap kb nk ck eb ne ce x wb g8 ws V ch aF bb fb b7 lb (i+1) a8 aC L->eI (aM av) av J S C aC (aO ((base 78).at L [b9 (pQ ea),gE (pQ ea),fI 2,b9 (xP ea)]) Q) R):
 eI (aM av) av J S O μ (aO ((base 78).at a [b9 (pQ ea),gE (pQ ea),fI 2,b9 (xP ea)]) Q) w:=by
 have⟨b,aL,y,G,ae,H,al,am,ap,ao,a0,a5,u,a3⟩:=D;have c:=mN (aM av) av J S μ;have r:i<I ws:=(fq.1 m).1;have bh:=A.mm;refine cA c (dg c [0] Y ?_);refine ei c b Y (ak af) (sE Y (b.of Y) (b.of Y) bO) λb=>?_;refine cQ c ?_;refine cA c (iq c af (b.of Y) ?_);refine nR c (cA c ?_);refine oL c (cA c (dg c [0,1] Y ?_));refine dK c b λb=>?_;refine g4 c b λb=>?_;refine cQ c ?_;refine cA c (dg c [0,1,2,3] Y (dK c b λb=>?_));refine dK c b λb=>ei c b Y (dG (K ⟨wb,0+i*1,Z⟩)) (pS Y (b.of Y) (b.of Y) vK Tryz.sizeOf4 r) λb=>og c b Y (ak af) (jd Y (b.of Y) Tryz.isAgg4 (y.low wb A.wl) (aB (bq y.sq (p:=⟨wb,0+i*1,Z⟩) A.wl) (A.wc i _ m))) λb=>cQ c (iq c af (b.of Y) (cA c ?_));have aJ:aA w ⟨b7,0+i*1,Z⟩=K (fp (K (ch i))):=by
  unfold aA;simp only[ae,e7,uQ];have:=AK (ws:=ws) (ch:=ch) (i:=I ws) r;rw[if_pos ⟨r,m⟩] at this;simpa using this
 refine Pv (c:=ch i) (l0:=[(42,n9 i),(41,n9 (I ws)),(7,ak eR),(2,aI wb (I ws) g8)]) A m ((((((((b.nil.cons (b.slot 2 _ Y)).cons (b.slot 7 _ Y)).cons (b.slot 41 _ Y)).cons (b.slot 42 _ Y)).cons (b.slot 3 _ Y)).cons (b.slot 6 _ Y)).cons (b.slot 8 _ Y)).cons (b.slot 10 _ Y)) y G aJ (u.mu i (aV _) r m) H a0 (by simp[vc]) λC bi az p L bd a4 X h t l aQ=>?_;have c:=mN (aM av) av J S (gm μ (ch i) Z);have F:=(y.S3 h).set t am ap al;have be:=y.inr lb (an H);have aE:(nj ws g V N i).toArray.toList.take i++[ah (K ⟨p,0,Z⟩) (I (V i)) N]++(nj ws g V N i).toArray.toList.drop (i+1)=nj ws (λd=>if d=i then p else g d) V N (i+1):=by
  rw[<-T9 m]
 rw[aE] at t;have aj:=t.set;have aH:aA az ⟨lb,0+i*1,Z⟩=K (aI p (I (V i)) N):=by
  unfold aA;simp only[aj,e7,uQ];have:=AW (ws:=ws) (g:=λd=>if d=i then p else g d) (V:=V) (N:=N) (i:=i+1) r;simp[m] at this;simpa using this
 have a7:=t.size;have a6:=h.rel.size;refine UX (l0:=[(42,n9 i),(41,n9 (I ws)),(8,aI b7 (I ws) (I ws)),(2,aI wb (I ws) g8)]) r ((((((((l.nil.cons (l.slot 2 _ Y)).cons (l.slot 8 _ Y)).cons (l.slot 41 _ Y)).cons (l.slot 42 _ Y)).cons (l.slot 3 _ Y)).cons (l.slot 6 _ Y)).cons (l.slot 10 _ Y)).cons (l.slot 7 _ Y)) F.inr (h.sub lb H) F.ob aH (by unfold aA;simp only[F.hb];rfl) λaD aw o a2 aY=>?_;have v:∀B,iP Fo B=ai->∀P,(aw++P).lookup B=P.lookup B:=λB ar P=>by
  rw[List.lookup_append];cases e:aw.lookup B with
  |none=>rfl
  |some bj=>
   have:=AY e;rw[a2] at this;have:=List.contains_iff_mem.2 this;rw[this] at ar;cases ar
 have f:Knows aD 73 [(42,n9 i),(41,n9 (I ws)),(8,aI b7 (I ws) (I ws)),(7,ak (eR&&((I (V i):Int)==(N:Int)))),(6,aI lb (I ws) (I ws)),(3,(aZ bb)),(2,aI wb (I ws) g8)]:=
  ((((((o.nil.cons (o.slot 2 _ (v 2 Y _))).cons (o.slot 3 _ (v 3 Y _))).cons (o.slot 6 _ (v 6 Y _))).cons (o.slot 7 _ Y)).cons (o.slot 8 _ (v 8 Y _))).cons (o.slot 41 _ (v 41 Y _))).cons (o.slot 42 _ (v 42 Y _))
 refine uU c (dg c [0,1] Y (ei c f Y (z9 ((i+1:Nat):Int)) (uk (j:=1) Y (f.of Y) Y aa) λf=>?_));refine dK c f λf=>cQ c (v9 c ?_);have ad:p≠lb:=aa;refine a1 C az _ (λd=>if d=i then p else g d) _ _ ⟨((((((f.nil.cons (f.slot 2 _ Y)).cons (f.slot 3 _ Y)).cons (f.slot 6 _ Y)).cons (f.slot 7 _ Y)).cons (f.slot 8 _ Y)).cons (f.slot 41 _ Y)).cons (f.slot 42 _ Y),by simp only[put_defers];rw[aY,aQ];simp only[put_defers];exact aL,F,h.sub b7 G,?_,h.sub lb H,al,am,ap,ao,aj,λd q j=>?_,⟨λd bc q j=>?_,λU M=>?_,u.inj,λd q j=>?_⟩,?_⟩;rw[t.at_ b7 (an (h.sub b7 G)) (λe=>ao (bA e)),h.rel.at_ b7 (an G)];exact ae;by_cases e:d=i;subst e;simp only[if_true];have:=y.sq.size;exact⟨a4.same (t.at_ p (an X) ad),X,ad,aa⟩;have⟨a9,T,ay,ba⟩:=a5 d aa j;simp only[if_neg e];exact⟨(a9.same (h.rel.at_ _ (an T))).same (t.at_ _ (an (h.sub _ T)) ay),h.sub _ T,ay,ba⟩;have E:ch d≠ch i:=λe=>cB (u.inj d i q r j m e);simp only[gm,E,if_false];exact u.mu d aa q j;have E:U≠ch i:=λe=>M (by simp[gm,e]);simp only[gm,E,if_false] at M;have⟨d,z,W,aG,ab⟩:=u.no U M;exact⟨d,by rcases ij i d with D|D;exact D;have:d=i:=aa;subst this;exact absurd (bA ab) E,W,aG,ab⟩;exact cL (u.lt d q j) (dj a6 a7);rw[ez,a3,beq_iff_eq];constructor;rintro⟨z,W⟩ d q j;by_cases e:d=i;subst e;omega;exact z d aa j;intro z;exact⟨λd q j=>z d aa j,cB (z i aa m)⟩
end
def PL{J:List Bool}{ch:Nat->Nat}:cX (ab6 J ch 0)=px #[fp Z] (I J*1):=by
 apply Array.toList_inj.1;rw[toList_madeCells_one,uQ];refine List.ext_getElem (by simp[uX]) λf b d=>?_;simp[ab6]
def Ub{J:List Bool}{g:Nat->Nat}{V:Nat->List az}{N:Nat}:cX (nj J g V N 0)=px #[aH] (I J*1):=by
 apply Array.toList_inj.1;rw[toList_madeCells_one,uQ];refine List.ext_getElem (by simp[vc]) λf b d=>?_;simp[nj]
def zE{c:aP}(b:fh Qn c []):fh Qn (di c v) []:=⟨(sA b.top v).1,λf d=>by simp at d,(sA b.top v).2.trans b.bot⟩
def ua{S:Nat->Prop}{m:Bool}{b:(Nat->Prop)->aP->List aP->ag->Prop}{own:Nat->Prop}{B:List aP}{w:ag}{a:bK}(d:fZ Qn Qo S m b){c:aP}(o:eD Qf=eA)(f:b8 a=[])(j:Qo.funcs[Qf.fn]? =K QI)(p:∀w,(dx QI a.tmps).run Qo w=b6 v w)(h:∀w,(dx QI a.tmps).events Qo w #[]=#[])
 (l:b own (di c v) B w):b own {Qf.at a QN with mode:=jA} (c::B) w:=nQ d (λw=>stepG_leave o f j (p w) (h w)) l
def TQ(b d f:F)(m:Nat)(p:3<=m):Knows ⟨#[b,d,f]++jh (m-3) cI,[]⟩ m [(0,b),(1,d),(2,f)]:=by
 have h:∀j v,(#[b,d,f]:Array F)[j]? =K v->cG ⟨#[b,d,f]++jh (m-3) cI,[]⟩ j=v:=λj v l=>by
  unfold cG;rw[jT,Array.getElem?_append_left (dY.1 l).1,l];rfl
 refine Knows.cons (Knows.cons (Knows.cons (l:=[]) ⟨?_,λs v o=>by simp at o⟩ (h 2 f Y)) (h 1 d Y)) (h 0 b Y);simp;omega
def abd:∃i,av.info? 193=K i/\jL i=K (fp Z)/\i.size=1/\ji i=8:=⟨Tryz.t193,bl,rfl,rfl,rfl⟩
def abA:∃i,av.info? 43=K i/\jL i=K aH/\i.size=1/\ji i=24:=⟨Tryz.t43,bl,rfl,rfl,rfl⟩
section
variable {S O:Nat->Prop}{w0 w L:ag}{s:Nat->ByteArray}{k e:Nat->Int}{N R n cap A T ck H E ce C g8:Nat}{x:F}{J:List Bool}{V:Nat->List az}{ch g:Nat->Nat}{bb fb b7 lb i:Nat}{Q:Nat->Option (List F)}{a:bK}{Post:F->ag->Prop}{B:List aP}{eR:Bool}{c:aP}
def T_(f:tJ S O w0 w N R n cap A T ck H E ce x C g8 J V ch g bb fb b7 lb (I J) eR Q a)
 (j:eI (aM av) av Post S O Q (aO (di c (cC #[aI lb (I J) (I J),ak eR])) B) w):
 eI (aM av) av Post S O Q (aO ((base 78).at a [b9 (pQ ea),gE (pQ ea),fI 2,b9 (xP ea)]) (c::B)) w:=by
 have d:=f.kn;have b:=mN (aM av) av Post S Q;refine cA b ?_;refine dg b [0] Y ?_;refine ei b d Y (ak ai) (sE Y (d.of Y) (d.of Y) aF) λd=>?_;refine cQ b ?_;refine cA b ?_;refine iq b ai (d.of Y) ?_;refine zo b (k':=[b9 (xP ea)]) Y ?_;refine cA b ?_;refine dg b [0,1,2,3] Y ?_;refine dK b d λd=>?_;refine dK b d λd=>?_;refine g4 b d λd=>?_;refine g4 b d λd=>?_;refine cQ b ?_;refine tg b ?_;have h:=yp (P:=av) Tryz.results78 (d.slot 6 _ Y) (d.slot 7 _ Y);exact ua b Y (by simp only[put_defers];exact f.df) Tryz.func78 h.1 h.2 j
def T_9(j:oB S w0 s k e N R n A T H E C J V)(t:∀O w a g eR Q,tJ S O w0 w N R n cap A T ck H E ce x C g8 J V ch g bb fb b7 lb (I J) eR Q a->eI (aM av) av Post S O Q (aO (di c (cC #[aI lb (I J) (I J),ak eR])) B) w):
 ∀(d i:Nat),i+d=I J->∀O w a g eR Q,tJ S O w0 w N R n cap A T ck H E ce x C g8 J V ch g bb fb b7 lb i eR Q a->
 eI (aM av) av Post S O Q (aO ((base 78).at a [b9 (pQ ea),gE (pQ ea),fI 2,b9 (xP ea)]) (c::B)) w:=by
 intro d
 induction d with
 |zero=>
  intro i r O w a g eR Q b;have:i=I J:=aa;subst this;exact T_ b (t O w a g eR Q b)
 |succ d o=>
  intro i r O w a g eR Q b;have u:i<I J:=aa;have m:J[i]? =K J[i]:=dH u;cases l:J[i] with
  |true=>exact U_9 j b (by rw[m,l]) λp L f q v y h=>o (i+1) aa p L f q v y h
  |false=>exact V_ j b (by rw[m,l]) λf h=>o (i+1) aa O w f g eR Q h
def SR(q:oB S w0 s k e N R n A T H E C J V)(m:yE S O w0 w N R n cap A T ck H E ce x C g8 J V ch bb fb b7 (I J) Q a)
 (D:∀lb O w a g eR Q,tJ S O w0 w N R n cap A T ck H E ce x C g8 J V ch g bb fb b7 lb (I J) eR Q a->eI (aM av) av Post S O Q (aO (di c (cC #[aI lb (I J) (I J),ak eR])) B) w):
 eI (aM av) av Post S O Q (aO ((base 78).at a [b9 (lJ ea),gE (lJ ea),fI 0,b9 (pM ea)]) (c::B)) w:=by
 have⟨b,v,h,o,ae,ab,ad,y,l⟩:=m;have d:=mN (aM av) av Post S Q;have⟨W,z,P,M,u⟩:=abA;have X:=q.mm;refine cA d (dg d [0] Y (ei d b Y (ak ai) (sE Y (b.of Y) (b.of Y) aF) λb=>?_));refine cQ d (cA d (iq d ai (b.of Y) (zo d (k':=[b9 (pM ea)]) Y (cA d (dg d [0,1,2,3] Y (dK d b λb=>ei d b Y (n9 (I J)) (vg Y (b.of Y) vK) λb=>oM d h.inr ay Y Y (ax (px (ah Z 0 0).cells (I J*W.size)) 43) trivial (λn=>aI n (I J) (I J)) (Ft Y (b.of Y) (b.of Y) Tryz.underlying26 z P (aV _) (jG u) aa) λlb U F K hrel t=>?_))))));replace b:=b.put (d:=39) ay (aI lb (I J) (I J));refine g4 d b λb=>cQ d ?_;refine cA d (dg d [0] Y (mL d b (ak af) λb=>?_));refine cQ d (cA d (cA d (dg d [0,1,2] Y (dK d b λb=>ei d b Y (n9 (I J)) (vg Y (b.of Y) vK) λb=>ei d b Y (z9 ((0:Nat):Int)) (gz Y Y) λb=>cQ d (oL d (zq d ?_))))));have G:=h.new F K hrel;have aj:=h.inr bb (an h.ob);have al:=h.inr fb (an h.of);have am:=h.inr b7 (an o);refine T_9 (lb:=lb) (ch:=ch) q (λO w a g eR Q m=>D lb O w a g eR Q m) (I J) 0 aa _ U _ (λ_=>0) af Q ⟨((((((b.nil.cons (b.slot 2 _ Y)).cons (b.slot 3 _ Y)).cons (b.slot 6 _ Y)).cons (b.slot 7 _ Y)).cons (b.slot 8 _ Y)).cons (b.slot 41 _ Y)).cons (b.slot 42 _ Y),by simp only[put_defers];exact v,G,aq o,aB (hrel.at_ b7 (an o)) y,an Y,aa,aa,aa,aa,?_,λj f=>absurd f aa,⟨λj r f p=>l.mu j r f p,l.no,l.inj,λj f p=>cL (l.lt j f p) hrel.size⟩,⟨λ_ j f=>absurd f aa,λ_=>rfl⟩⟩;rw[Ub,<-M];exact t
def go_loop(j:oB S w0 s k e N R n A T H E C J V)(t:∀ch lb O w a g eR Q,tJ S O w0 w N R n cap A T ck H E ce x C g8 J V ch g bb fb b7 lb (I J) eR Q a->eI (aM av) av Post S O Q (aO (di c (cC #[aI lb (I J) (I J),ak eR])) B) w):
 ∀(d i:Nat),i+d=I J->∀O w a ch Q,yE S O w0 w N R n cap A T ck H E ce x C g8 J V ch bb fb b7 i Q a->
 eI (aM av) av Post S O Q (aO ((base 78).at a [b9 (lJ ea),gE (lJ ea),fI 0,b9 (pM ea)]) (c::B)) w:=by
 intro d
 induction d with
 |zero=>
  intro i r O w a ch Q b;have:i=I J:=aa;subst this;exact SR j b (λlb O w a g eR Q b=>t ch lb O w a g eR Q b)
 |succ d o=>
  intro i r O w a ch Q b;have u:i<I J:=aa;have m:J[i]? =K J[i]:=dH u;cases l:J[i] with
  |true=>exact go_round j b (by rw[m,l]) λp L f q v h=>o (i+1) aa p L f q v h
  |false=>exact go_skip j b (by rw[m,l]) λf h=>o (i+1) aa O w f ch Q h
def OT(p:oB S w0 s k e N R n A T H E C J V)
 (ae:∀bb fb b7 ch lb O w a g eR Q,tJ S O w0 w N R n cap A T ck H E ce x C g8 J V ch g bb fb b7 lb (I J) eR Q a->eI (aM av) av Post S O Q (aO (di c (cC #[aI lb (I J) (I J),ak eR])) B) w):
 eI (aM av) av Post S (λd=>d<U w0.heap/\¬S d) (λ_=>Z) (aO (fC av 78 #[so (N:Int) R n cap,sx A T ck H E ce x,aI C (I J) g8] eA) (c::B)) w0:=by
 have f:=mN (aM av) av Post S (λ_=>Z);have⟨ar,ad,ap,aj,W⟩:=abd;have az:=p.mm;rw[enter_at _ Tryz.func78 Y];have b:=TQ (so (N:Int) R n cap) (sx A T ck H E ce x) (aI C (I J) g8) 73 ay;have v:jl S (λd=>d<U w0.heap/\¬S d) w0:=λd j=>ff j (p.sz d) (λh=>h.1);refine cA f (dg f [0,1,2,3] Y (oM f v ay Y Y (ax #[n9 N,aI R n cap] 139) trivial (λn=>(aZ n)) (zP (v:=so (N:Int) R n cap) Y (b.of Y)) λbb aC u al r F=>?_));replace b:=b.put (d:=3) ay (aZ bb);have y:=v.new u al;refine oM f y ay Y Y (ax #[aI A T ck,aI H E ce,x] 105) trivial (λn=>(aZ n)) (zP (v:=sx A T ck H E ce x) Y (b.of Y)) λfb aD M am o G=>?_;replace b:=b.put (d:=4) ay (aZ fb);have z:=y.new M am;refine mL f b aH λb=>mL f b (ak ai) λb=>?_;refine cQ f (cA f (dg f [0,1,2,3] Y (dK f b λb=>ei f b Y (n9 (I J)) (vg Y (b.of Y) vK) λb=>oM f z ay Y Y (ax (px (fp Z).cells (I J*ar.size)) 193) trivial (λn=>aI n (I J) (I J)) (Ft Y (b.of Y) (b.of Y) Tryz.underlying192 ad ap (aV _) (jG W) aa) λb7 aw P ao l K=>?_)));replace b:=b.put (d:=13) ay (aI b7 (I J) (I J));have ab:=z.new P ao;refine g4 f b λb=>?_;refine cQ f (cA f (cA f (dg f [0,1,2] Y (dK f b λb=>ei f b Y (n9 (I J)) (vg Y (b.of Y) vK) λb=>ei f b Y (z9 ((0:Nat):Int)) (gz Y Y) λb=>cQ f (oL f (zq f ?_))))));have q:∀d,d<U w0.heap->S d\/(d<U w0.heap/\¬S d):=λd j=>by
  rcases Classical.em (S d) with h|h;exact aq h;exact an ⟨j,h⟩
 refine go_loop (bb:=bb) (fb:=fb) (b7:=b7) p (λch lb O w a g eR Q h=>ae bb fb b7 ch lb O w a g eR Q h) (I J) 0 aa _ aw _ (λ_=>0) _ ⟨(((((b.nil.cons (b.slot 2 _ Y)).cons (b.slot 3 _ Y)).cons (b.slot 4 _ Y)).cons (b.slot 8 _ Y)).cons (b.slot 15 _ Y)).cons (b.slot 16 _ Y),by simp only[put_defers],⟨⟨?_,?_,?_,?_,λd j=>?_⟩,λd j=>?_,ab,λd j t=>?_,aq (aq (an Y)),aq (an Y),u,aa,?_,?_⟩,an Y,aa,aa,aa,?_,⟨λD _ m=>absurd m aa,λc X=>absurd Y X,λD _ m=>absurd m aa,λD m=>absurd m aa⟩⟩;rw[l.os,o.os,r.os];rw[l.tape,o.tape,r.tape];rw[l.output,o.output,r.output];omega;rw[l.at_ d ((q d j).imp (λh=>h) (λh=>aq (aq h))),o.at_ d ((q d j).imp (λh=>h) (λh=>aq h)),r.at_ d (q d j)];exact(q d j).imp (λh=>h) (λh=>aq (aq (aq h)));have:=p.sz d j;rcases t with((t|rfl)|rfl)|rfl;exact t.2 j;omega;omega;omega;rw[l.at_ bb (an (aq (an Y))),o.at_ bb (an (an Y))];exact F;rw[l.at_ fb (an (an Y))];exact G;rw[PL,<-aj];exact K
def HB (w:ag)(N:Nat)(J:List Bool)(V:Nat->List az)(f:gL)(L:ag):Prop:=
 ∃lb eR g,f=aR (cC #[aI lb (I J) (I J),ak eR])/\aD w L/\U w.heap<=lb/\L.heap[lb]? =K (ax (cX (nj J g V N (I J))) 43 (0,0))/\(∀b,J[b]? =K af->Row L (g b) N (V b)/\U w.heap<=g b)/\(eR=af↔∀b,J[b]? =K af->I (V b)=N)
def oB.at(b:oB S w s k e N R n A T H E C J V)(h:Nat):oB S (w.at h) s k e N R n A T H E C J V:=
 ⟨b.sz,λf d=>⟨(b.sin f d).1.rel λ_ _=>rfl,(b.sin f d).2⟩,b.wl,λf j d=>b.wc f j d,b.nn,b.mm,b.pos⟩
def OS(p:oB S w s k e N R n A T H E C J V):sU (aM av) av Post 78 #[so (N:Int) R n cap,sx A T ck H E ce x,aI C (I J) g8] w (HB w N J V):=by
 intro c B u K F t;refine U3 S (λd=>d<U w.heap/\¬S d) (λd b=>⟨p.sz d b,λh=>h.2 b⟩) (λd b=>b.1) λY D=>?_;obtain⟨o,rfl⟩:=D;refine OT (w0:=w.at o) (p.at o) λbb fb b7 ch lb O L a g eR Q h=>Um (λc=>?_) λr f z=>?_;cases y:Q c with
 |none=>rfl
 |some X=>
  have⟨l,m,W,_⟩:=h.Es.no c (by rw[y];simp);omega
 have b:=h.own.sq;have v:∀d,d<U w.heap->r.heap[d]? =w.heap[d]? :=λd q=>aB (f.at_ d (h.own.low d q)) (cS b d q);refine t (aR (cC #[aI lb (I J) (I J),ak eR])) r ⟨lb,eR,g,rfl,⟨aB f.os b.os,aB f.tape b.tape,aB f.output b.output,dj b.size f.size,v⟩,h.ll,aB (f.at_ lb (an h.ol)) h.hl,λl j=>?_,?_⟩ z ⟨aB f.tape b.tape,aB f.os b.os,aB f.output b.output,dj b.size f.size⟩ (zE u);have⟨G,M,_,P⟩:=h.rows l (fq.1 j).1 j;exact⟨G.same (f.at_ _ (an M)),P⟩;rw[h.ok];exact⟨λm l j=>m l (fq.1 j).1 j,λm l _ j=>m l j⟩
end
end Cc
namespace Cc
open Go Go.Conc
open Go.RowKit (Below)
open Ec (az bZ bJ dy mG fP qv)
def iG (R:List bJ)(val:Int->Nat->az)(p:Nat):Bool:=dM R λb=>fP (val b.col p) b
def Fa{R:List bJ}{val:Int->Nat->az}{p:Nat}:iG R val p=af↔∀b (d:b<I R),fP (val R[b].col p) R[b]=af:=by
 unfold iG;rw[fD];constructor;intro d b e;exact d _ (c8 e);intro d g f;obtain⟨b,e,rfl⟩:=List.mem_iff_getElem.1 f;exact d b e
def zC{Go:List dB->Bool}{pre:List dB}{b:dB}{d:List dB}:feed Go pre (b::d)=if Go (pre++[b]) then feed Go (pre++[b]) d else(pre++[b],ai):=rfl
section
variable {Q:F->ag->Prop}{J:List dB->(Nat->Prop)->ag->Prop}{Go:List dB->Bool}{w0 w:ag}{M0 M own:Nat->Prop}{l first N p E:Nat}{pre:List dB}{a:bK}{O:List aP}{aj:List Int}{R:List bJ}{T:Option aN}{cb bN bH:Nat}{S:Option aN}{rb bY bE H m A:Nat}{val:Int->Nat->az}{B L q:F}{sk:Bool}{c:aP}
def SJ(e:DN J w0 w M0 M own #[B,L,q,ah T (I aj) bH,ah S (I R) bE,ak sk] (aI H m A) l first N N E pre a)(g:Xe (aM av) av Q own (di c (ak af)) O w):
 Xe (aM av) av Q own ((base 79).at a [b9 (tt j8),gE (tt j8),fI 0,b9 (zG j8)]) (c::O) w:=by
 have b:=mM (aM av) av Q;have d:=e.kn;refine cA b (dg b [0] Y (ei b d Y (ak ai) (sE Y (d.of Y) (d.of Y) aF) λd=>cQ b (cA b (iq b ai (d.of Y) (zo b (k':=[b9 (zG j8)]) Y (cA b (dg b [0] Y (mL b d (ak af) λd=>cQ b (tg b ?_)))))))));have f:=De (P:=av) Tryz.results79 (d.slot 10 _ Y);exact ua b Y (by simp only[put_defers];exact e.df) Tryz.func79 f.1 f.2 g
def EV(b:Knows a 33 [(31,ak qV),(13,n9 p),(12,n9 N),(5,(aZ E)),(4,.func (gH l) #[] #[]),(2,n9 first),(1,aI H m A)])(f:b8 a=[])(j:p<N)(i:first+N<=1000000)
 (g:(qV=af->Xe (aM av) av Q own (di c (ak ai)) O w)/\(qV=ai->∀e,Knows e 33 [(13,z9 ((p+1:Nat):Int)),(12,n9 N),(5,(aZ E)),(4,.func (gH l) #[] #[]),(2,n9 first),(1,aI H m A)]->b8 e=[]->Xe (aM av) av Q own ((base 79).at e [b9 (tt j8),gE (tt j8),fI 0,b9 (zG j8)]) (c::O) w)):
 Xe (aM av) av Q own ((base 79).at a (xX j8)) (c::O) w:=by
 have d:=mM (aM av) av Q;cases qV with
 |true=>
  refine iq d af (b.of Y) (cA d (dg d [0] Y (mL d b (ak ai) λb=>cQ d (tg d ?_))));have h:=De (P:=av) Tryz.results79 (b.slot 10 _ Y);exact ua d Y (by simp only[put_defers];exact f) Tryz.func79 h.1 h.2 (g.1 Y)
 |false=>
  refine iq d ai (b.of Y) (nR d ?_);refine uU d (dg d [0,1] Y (ei d b Y (z9 ((p+1:Nat):Int)) (uk (j:=1) Y (b.of Y) Y aa) λb=>?_));exact dK d b λb=>cQ d (v9 d (g.2 Y _ ((((((b.nil.cons (b.slot 1 _ Y)).cons (b.slot 2 _ Y)).cons (b.slot 4 _ Y)).cons (b.slot 5 _ Y)).cons (b.slot 12 _ Y)).cons (b.slot 13 _ Y)) (by simp only[put_defers];exact f)))
def SK(f:DN J w0 w M0 M own #[B,L,q,ah T (I aj) bH,ah S (I R) bE,ak sk] (aI H m A) l first N p E pre a)(h:p<N)
 (g:∀e,Knows e 33 [(11,n9 p),(13,n9 p),(12,n9 N),(5,(aZ E)),(4,.func (gH l) #[] #[]),(2,n9 first),(1,aI H m A)]->b8 e=[]->Xe (aM av) av Q own ((base 79).at e (b9 (gu 4 (Cd j8) ai)::xX j8)) O w):
 Xe (aM av) av Q own ((base 79).at a [b9 (tt j8),gE (tt j8),fI 0,b9 (zG j8)]) O w:=by
 have d:=mM (aM av) av Q;have b:=f.kn;refine cA d (dg d [0] Y ?_);refine ei d b Y (ak af) (sE Y (b.of Y) (b.of Y) bO) λb=>cQ d ?_;refine cA d (iq d af (b.of Y) ?_);refine nR d (cA d ?_);refine oL d (cA d ?_);refine dg d [0,1] Y (dK d b λb=>?_);exact g4 d b λb=>cQ d (cA d (g _ ((((((b.nil.cons (b.slot 1 _ Y)).cons (b.slot 2 _ Y)).cons (b.slot 4 _ Y)).cons (b.slot 5 _ Y)).cons (b.slot 12 _ Y)).cons (b.slot 13 _ Y) |>.cons (b.slot 11 _ Y)) (by simp only[put_defers];exact f.df)))
def SL(P:Cons (aM av) av Q l J Go)(hF:∀x,(∀j,j<U w0.heap->¬M0 j->py x w0 j)->U w0.heap<=U x.heap->xw x aj R T cb bN S rb bY H m N val)(o:first+N<=1000000)(X:I aj<=1000)(am:I R<=aS):∀(f p:Nat),p+f=N->∀pre own M w a,Go pre=af->I pre+f<=2000->
 DN J w0 w M0 M own #[B,L,q,ah T (I aj) bH,ah S (I R) bE,ak sk] (aI H m A) l first N p E pre a->
 (∀h k g,J (feed Go pre (je (iG R val) (λp=>aj.map λd=>val d p) first p f)).1 k g->Kept w0 g M0 k h->(∀j,h j->j<U g.heap)->Xe (aM av) av Q h (di c (ak (feed Go pre (je (iG R val) (λp=>aj.map λd=>val d p) first p f)).2)) O g)->
 Xe (aM av) av Q own ((base 79).at a [b9 (tt j8),gE (tt j8),fI 0,b9 (zG j8)]) (c::O) w:=by
 intro f
 induction f with
 |zero=>
  intro p al pre own M w a z ab b e;have:p=N:=aa;subst this;exact SJ b (e own M w b.j b.kept b.bd)
 |succ f K=>
  intro p al pre own M w a z ab b e;refine SK b aa λar V Y=>SO (val:=val) P z hF aa aa o X am V Y b.j b.kept b.bd b.oq b.nq b.lq b.hq (λh g W ad i s t u r F G=>?_) (λh k g W ap i s t u r F ae G=>?_);have Z:iG R val p=ai:=by
   cases n:iG R val p with
   |false=>rfl
   |true=>exact absurd (Fa.1 n) ad
  have n:je (iG R val) (λp=>aj.map λd=>val d p) first p (f+1)=je (iG R val) (λp=>aj.map λd=>val d p) first (p+1) f:=by
   simp[je,Z]
  rw[n] at e;exact EV i s aa o ⟨λb=>(cV b),λ_ y v C=>(K (p+1) aa pre h M g y z aa ⟨v,C,t,u,r,F,b.nq,b.lq,G⟩ e)⟩;have ao:=Fa.2 ap;have n:je (iG R val) (λp=>aj.map λd=>val d p) first p (f+1)=(first+p,aj.map λd=>val d p)::je (iG R val) (λp=>aj.map λd=>val d p) first (p+1) f:=by
   simp[je,ao]
  rw[n,zC] at e;cases D:Go (pre++[(first+p,aj.map λd=>val d p)]) with
  |true=>
   rw[D] at i e;simp only[if_true] at e;exact EV i s aa o ⟨λb=>(cV b),λ_ y v C=>(K (p+1) aa _ h k g y D bO ⟨v,C,t,u,r,F,ae,b.lq,G⟩ e)⟩
  |false=>
   rw[D] at i e;simp only[fA,if_false] at e;exact EV i s aa o ⟨λ_=>e h k g t u r,λb=>(cV b)⟩
def JN(d e f g h:F)(m:Nat)(n:5<=m):Knows ⟨#[d,e,f,g,h]++jh (m-5) cI,[]⟩ m [(0,d),(1,e),(2,f),(3,g),(4,h)]:=by
 have b:∀i v,(#[d,e,f,g,h]:Array F)[i]? =K v->cG ⟨#[d,e,f,g,h]++jh (m-5) cI,[]⟩ i=v:=λi v j=>by
  unfold cG;rw[jT,Array.getElem?_append_left (dY.1 j).1,j];rfl
 refine Knows.cons (Knows.cons (Knows.cons (Knows.cons (Knows.cons (l:=[]) ⟨?_,λs v k=>by simp at k⟩ (b 4 h Y)) (b 3 g Y)) (b 2 f Y)) (b 1 e Y)) (b 0 d Y);simp;omega
def HD (J:List dB->(Nat->Prop)->ag->Prop)(M0:Nat->Prop)(w0:ag)(g:List dB×Bool)(f:gL)(d:ag):Prop:=
 f=aR (ak g.2)/\∃e,J g.1 e d/\(∀b,b<U w0.heap->¬M0 b->d.heap[b]? =w0.heap[b]?)/\U w0.heap<=U d.heap/\∀b,e b->M0 b\/U w0.heap<=b
def SI(k:Cons (aM av) av Q l J Go)(u:Go pre=af)(s:J pre M0 w0)(hF:∀n,(∀b,b<U w0.heap->¬M0 b->py n w0 b)->U w0.heap<=U n.heap->xw n aj R T cb bN S rb bY H m N val)(x:first+N<=1000000)(C:I aj<=1000)(V:I R<=aS)(G:I pre+N<=2000):
 sU (aM av) av Q 79 #[qv B L q (ah T (I aj) bH) (ah S (I R) bE) sk,aI H m A,n9 first,n9 N,.func (gH l) #[] #[]] w0 (HD J M0 w0 (feed Go pre (je (iG R val) (λp=>aj.map λZ=>val Z p) first 0 N))):=by
 intro c O X am K v;have f:=mM (aM av) av Q;refine Xe.go (own:=λb=>b<U w0.heap) ?_ (λb i=>i) K;rw[enter_at _ Tryz.func79 Y];have e:=JN (qv B L q (ah T (I aj) bH) (ah S (I R) bE) sk) (aI H m A) (n9 first) (n9 N) (.func (gH l) #[] #[]) 33 ay;have D:jl rM (λb=>b<U w0.heap) w0:=λb d=>ff d fe (λi=>i);refine cA f (dg f [0,1] Y (oM f D ay Y Y (ax #[B,L,q,ah T (I aj) bH,ah S (I R) bE,ak sk] 115) trivial (λab=>(aZ ab)) (zP (v:=qv B L q (ah T (I aj) bH) (ah S (I R) bE) sk) Y (e.of Y)) λE ad z ao W y=>?_));replace e:=e.put (d:=5) ay (aZ E);refine mL f e (ak ai) λe=>?_;refine cQ f (cA f (cA f (dg f [0,1] Y (dK f e λe=>ei f e Y (z9 ((0:Nat):Int)) (gz Y Y) λe=>cQ f (oL f (zq f ?_))))));have j:=Ff W;have o:=k.bound _ _ _ s;refine SL (w0:=w0) (M0:=M0) (val:=val) k hF x C V N 0 aa pre _ M0 ad _ u G ⟨((((((e.nil.cons (e.slot 1 _ Y)).cons (e.slot 2 _ Y)).cons (e.slot 4 _ Y)).cons (e.slot 5 _ Y)).cons (e.slot 12 _ Y)).cons (e.slot 13 _ Y)),by simp only[put_defers],k.p0 _ _ _ _ s (λb d=>j.at_ b (o b d)) j.size,⟨λb d r=>⟨aq d,j.at_ b d⟩,λb d=>aq d,λb d=>aq (o b d),j.size,j.tape,j.os,j.output⟩,λb d=>ff d (λi=>aa) (λi=>aa),an Y,λi=>cB (o E i),z,y⟩ λap t ar F g al=>?_;intro _ ae h P;refine v _ ae ⟨rfl,t,k.p0 _ _ _ _ F (λb d=>h.at_ b (g.oS b d)) h.size,λb d r=>aB (h.at_ b (g.keep b d r).1) (g.keep b d r).2,dj g.size h.size,g.ext⟩ P ⟨aB h.tape g.tape,aB h.os g.os,aB h.output g.output,dj g.size h.size⟩ (zE X)
end
end Cc
namespace Cc
open Go Go.Conc
open Go.RowKit (Below)
open Ec (az bZ bJ dy mG tT fP qv bF Bd fc ia mP cY kC Dy E2)
structure FM(W:ag)(l:List (bF×Int))(bs:List Bd)(aj:List Int)(rs:List bJ)(kb eb:Nat)(dO:Option aN)(db:Nat)(b7 fO:Nat->Nat)(co:Option aN)(cb bN:Nat)(ro:Option aN)(rb bY:Nat):Prop where
 k:∀j x,l[j]? =K x->aA W ⟨kb,0+j*2+1,Z⟩=K (z9 x.1.kind)
 e:∀j x,l[j]? =K x->aA W ⟨eb,0+j*1,Z⟩=K (z9 x.2)
 d:∀i b,bs[i]? =K b->pq W db (0+i*2) [n9 b.rows,ah (K ⟨b7 i,0,Z⟩) (I l) (fO i)]
 c:∀i b,bs[i]? =K b->∀j x,b.chunks[j]? =K x->∀t u,(mP x)[t]? =K u->aA W ⟨b7 i,j*8+t,Z⟩=K u
 lk:kb<U W.heap
 le:eb<U W.heap
 da:0<I bs->dO=K ⟨db,0,Z⟩
 ld:0<I bs->db<U W.heap
 lc:∀i,i<I bs->b7 i<U W.heap
 ca:0<I aj->co=K ⟨cb,bN,Z⟩
 cl:0<I aj->cb<U W.heap
 cc:∀j,j<I aj->aA W ⟨cb,bN+j,Z⟩=K (z9 (aX aj j 0))
 nr:dy W ro rb bY rs
structure FQ(l:List (bF×Int))(bs:List Bd)(aj:List Int)(rs:List bJ)(V:Nat->Nat->List az):Prop where
 len:∀b∈bs,I b.chunks=I l
 m:I l<=1000
 pos:0<I l
 rows:∀b∈bs,b.rows<=100
 tot:(bs.map (·.rows)).sum<=2000
 nb:I bs<=100000
 cn:I aj<=1000
 rn:I rs<=aS
 ck:∀k∈aj,0<=k/\k<(I l:Int)
 rk:∀r∈rs,0<=r.col/\r.col<(I l:Int)
 dec:∀(i:Nat) b,bs[i]? =K b->∀(j:Nat) x y,b.chunks[j]? =K x->l[j]? =K y->bf x.text<=aS/\lH x.text y.1.kind y.2 (b.rows:Int) (V i j)
def jF:fc:=⟨⟨#[]⟩,Ec.hY⟩
def rowsOf(bs:List Bd)(a:Nat):Nat:=aX (bs.map (·.rows)) a 0
def jP (bs:List Bd)(a:Nat):Nat:=((bs.take a).map (·.rows)).sum
def pU (bs:List Bd)(rs:List bJ)(b:Nat):Bool:=rs.any λa=>Ec.jQ (((aX bs b ⟨0,[]⟩).chunks.getD (bS a.col) jF).bV) a
def vu (V:Nat->Nat->List az)(a:Nat)(b:Int)(c:Nat):az:=aX (V a (bS b)) c ⟨ai,0,⟨#[]⟩⟩
def rN (bs:List Bd)(c:List Bool)(V:Nat->Nat->List az)(a:Nat):Bool:=dM (eH (I c)) λb=> !c.getD b ai||(I (V a b))==rowsOf bs a
def j4 (bs:List Bd)(aj:List Int)(rs:List bJ)(V:Nat->Nat->List az)(a:Nat):List dB:=je (iG rs (vu V a)) (λc=>aj.map λb=>vu V a b c) (jP bs a) 0 (rowsOf bs a)
def eZ (sk:Bool)(bs:List Bd)(aj:List Int)(rs:List bJ)(b:List Bool)(V:Nat->Nat->List az)(Go:List dB->Bool):Nat->Nat->List dB->Nat->List dB×Nat×Nat
 |i,0,pre,a=>(pre,a,0)
 |i,c+1,pre,a=>if sk&&pU bs rs i then eZ sk bs aj rs b V Go (i+1) c pre a else if rN bs b V i then(if (feed Go pre (j4 bs aj rs V i)).2 then eZ sk bs aj rs b V Go (i+1) c (feed Go pre (j4 bs aj rs V i)).1 (a+1) else((feed Go pre (j4 bs aj rs V i)).1,a+1,0)) else(pre,a+1,3)
theorem Da(k4:Nat->Bool)(b:Nat->List az)(first:Nat):∀(n a:Nat),I (je k4 b first a n)<=n
 |0,a=>aV _
 |n+1,a=>by
  have:=Da k4 b first n (a+1)
  simp only[je]
  split
  simp;omega;omega
theorem EK(Go:List dB->Bool):∀(a pre:List dB),(feed Go pre a).1.length<=I pre+I a
 | [],pre=>aV _
 |x::a,pre=>by
  rw[zC]
  split
  have:=EK Go a (pre++[x]);simp at this ⊢;omega;simp
theorem I8{Go:List dB->Bool}:∀(b pre:List dB),Go pre=af->(feed Go pre b).2=af->Go (feed Go pre b).1=af
 | [],pre=>λa _=>a
 |x::b,pre=>by
  rw[zC]
  split
  exact λ_ a=>I8 b (pre++[x]) (by assumption) a;exact λ_ a=>cV a
def Ca{bs:List Bd}{a:Bd}(b:bs[n]? =K a):jP bs (n+1)=jP bs n+a.rows:=by
 obtain⟨c,rfl⟩:=fq.1 b;unfold jP;rw[gh c,gY,List.sum_append];simp only[tV,List.map_nil,List.sum_cons,List.sum_nil,s6]
def AQ(bs:List Bd):∀a,jP bs a<=(bs.map (·.rows)).sum:=by
 intro a;have b:(bs.map (·.rows)).sum=((bs.take a).map (·.rows)).sum+((bs.drop a).map (·.rows)).sum:=by
  rw[<-List.sum_append,<-gY,vO]
 unfold jP;omega
def Br{bs:List Bd}{a:Bd}(b:bs[n]? =K a):rowsOf bs n=a.rows:=by
 unfold rowsOf;simp[ep,b]
def abC:(Tryz.f76.name == "runtime.NumGoroutine")=ai:=bl
def abr:(Tryz.f77.name == "runtime.NumGoroutine")=ai:=bl
def abb:(ea.name == "runtime.NumGoroutine")=ai:=bl
def abl:(j8.name == "runtime.NumGoroutine")=ai:=bl
section
variable {W:ag}{l:List (bF×Int)}{bs:List Bd}{aj:List Int}{rs:List bJ}{kb eb db:Nat}{dO:Option aN}{b7 fO:Nat->Nat}{co:Option aN}{cb bN:Nat}{ro:Option aN}{rb bY:Nat}{V:Nat->Nat->List az}
def FM.TN(f:FM W l bs aj rs kb eb dO db b7 fO co cb bN ro rb bY)(i:FQ l bs aj rs V){a:Bd}(e:bs[n]? =K a):∀d∈rs,tT W (b7 n) (I l) d.col ((aX a.chunks (bS d.col) jF).bV):=by
 intro d o;have⟨j,s⟩:=i.rk d o;have⟨c,g⟩:=uM j;have t:=i.len a (nO e);have m:c<I a.chunks:=aa;have h:a.chunks[c]? =K a.chunks[c]:=dH m;have k:aX a.chunks (bS d.col) jF=a.chunks[c]:=by rw[g,ep];simp[h]
 rw[k];have b:=λq r p=>f.c n a e c _ h q r p;refine⟨c,g,aa,f.lc n (fq.1 e).1,b 1 _ Y,b 2 _ Y,b 3 _ Y,b 4 _ Y,b 5 _ Y,b 6 _ Y,b 7 _ Y⟩
def J3:(cY n qY)[m]? =K af↔m<n/\(m:Int)∈qY:=by
 unfold cY;rcases ij m n with a|a;simp[a,xk];simp[a];omega
def FM.bin(c:FM W l bs aj rs kb eb dO db b7 fO co cb bN ro rb bY)(g:FQ l bs aj rs V){b:Bd}(d:bs[n]? =K b)(k:W.heap[m]? =K (ax (cX (kC (cY (I l) (aj++rs.map bJ.col)))) 4 (0,0))):
 oB (λh=>h=b7 n\/h=kb\/h=eb) W (λa=>(aX b.chunks a jF).text) (λa=>(aX l a (⟨⟨#[]⟩,0⟩,0)).1.kind) (λa=>(aX l a (⟨⟨#[]⟩,0⟩,0)).2) b.rows (b7 n) (I l) kb (I l) eb (I l) m (cY (I l) (aj++rs.map bJ.col)) (V n):=by
 have s:=g.len b (nO d);have r:m<U W.heap:=(dY.1 k).1;refine⟨λh f=>?_,λa i=>?_,r,λa t i=>?_,?_,?_,aa⟩;rcases f with rfl|rfl|rfl;exact c.lc n (fq.1 d).1;exact c.lk;exact c.le;have e:=(J3.1 i).1;have f:b.chunks[a]? =K (aX b.chunks a jF):=by
  have q:a<I b.chunks:=aa;rw[ep,dH q];rfl
 have j:l[a]? =K (aX l a (⟨⟨#[]⟩,0⟩,0)):=by rw[ep,dH e];rfl
 have⟨o,p⟩:=g.dec n b d a _ _ f j;refine⟨⟨aq Y,an (aq Y),an (an Y),e,e,e,?_,c.k a _ j,c.e a _ j⟩,o,p⟩;have:=c.c n b d a _ f 0 _ Y;rw[e7];exact this;unfold aA;simp only[k,e7,uQ];simp[kC,i];have:=g.rows b (nO d);omega;rw[Ec.Cs];have:=g.m;omega
end
def tE (d:cO):de:=match d.body with
 |some (aU _ (aU _ (aU _ (aU (aU _ (ga _ (.loop c))) _))))=>c
 |_=>eO
def Aa (d:cO):de:=match d.body with
 |some (aU _ (aU _ (aU _ (aU _ c))))=>c
 |_=>eO
def LF (d:cO):de:=match tE d with
 |aU _ (aU _ (aU (ga _ (aU _ (aU (aU _ (.cond _ c _)) _))) _))=>c
 |_=>eO
def Db (c:cO):List dW:=match tE c with
 |aU _ (aU _ (aU (ga _ (aU _ (aU _ d))) e))=>[b9 d,fI 1,b9 e,gE (tE c),fI 0,b9 (Aa c)]
 |_=>[]
structure vU(J:List dB->(Nat->Prop)->ag->Prop)(w0 w:ag)(M0 M own:Nat->Prop)(q:Array F)(l first n i nb qb wb m:Nat)(bsv:F)(ws:List Bool)(pre:List dB)(a:bK):Prop where
 kn:Knows a 59 [(18,n9 i),(17,n9 nb),(16,bsv),(7,n9 first),(6,aI wb m m),(4,n9 n),(2,(aZ qb)),(1,.func (gH l) #[] #[])]
 df:b8 a=[]
 j:J pre M w
 kept:Kept w0 w M0 M own
 bd:∀b,own b->b<U w.heap
 oq:own qb
 nq:¬M qb
 lq:U w0.heap<=qb
 hq:w.heap[qb]? =K (ax q 115 (0,0))
 ow:own wb
 nw:¬M wb
 lw:U w0.heap<=wb
 hw:w.heap[wb]? =K (ax (cX (kC ws)) 4 (0,0))
section
variable {O:F->ag->Prop}{J:List dB->(Nat->Prop)->ag->Prop}{Go:List dB->Bool}{w0 w:ag}{M0 M own:Nat->Prop}{u first n i qb wb:Nat}{pre:List dB}{a:bK}{L:List aP}{l:List (bF×Int)}{Q:List Bd}{aj:List Int}{H:List bJ}{z x S:Nat}{A:Option aN}{b7 fO:Nat->Nat}{E:Option aN}{y bN bH:Nat}{T:Option aN}{rb bY bE:Nat}{V:Nat->Nat->List az}{p B:F}{dP:Nat}{sk:Bool}{ws:List Bool}{b:Bd}
def yd(c:W.heap[m]? =K (ax C Qc (0,0))):pq W m 0 (dD C):=λe v d=>by
 unfold aA;simp only[c];rw[e7];simpa using d
def rP(c:W.heap[m]? =K (ax C Qc (0,0)))(d:C[k]? =K v):aA W ⟨m,k,Z⟩=K v:=by
 unfold aA;simp only[c];exact d
def X6(ar:Cons (aM av) av O u J Go)(a7:FQ l Q aj H V)(hF:∀h,(∀b,b<U w0.heap->¬M0 b->py h w0 b)->U w0.heap<=U h.heap->FM h l Q aj H z x A S b7 fO E y bN T rb bY)(g:Q[i]? =K b)(bd:0<I Q->¬M0 S)
 (f:vU J w0 w M0 M own #[p,B,ah A (I Q) dP,ah E (I aj) bH,ah T (I H) bE,ak sk] u first n i (I Q) qb wb (I l) (ah A (I Q) dP) ws pre a)
 (aL:∀ao ap W e,vU J w0 ap M0 M ao #[p,B,ah A (I Q) dP,ah E (I aj) bH,ah T (I H) bE,ak sk] u first n i (I Q) qb wb (I l) (ah A (I Q) dP) ws pre W->cG W 9=(aZ e)->ao e->¬M e->U w0.heap<=e->e≠qb->e≠wb->ap.heap[e]? =K (ax #[n9 b.rows,ah (K ⟨b7 i,0,Z⟩) (I l) (fO i)] 139 (0,0))->
   Xe (aM av) av O ao ((base 54).at W ((if !(sk&&pU Q H i) then[b9 (LF mA)] else[b9 eO])++Db mA)) L ap):
 Xe (aM av) av O own ((base 54).at a [b9 (tE mA),gE (tE mA),fI 0,b9 (Aa mA)]) L w:=by
 have d:=mM (aM av) av O;have⟨c,ad,bc,r,s,k,a2,aQ,bi,D,a3,a0,br⟩:=f;have ae:i<I Q:=(fq.1 g).1;have aF:jl rM own w:=λb g=>ff g fe (s b);have q:=r.same (λb bJ _ f _=>f) (aV _);have az:=hF w q.1 q.2;have bh:own S:=by
  exact(r.keep S ((hF w0 (λ_ _ _ _ f _=>f) (aV _)).ld aa) (bd aa)).1
 obtain rfl:=az.da aa;refine cA d (dg d [0] Y (ei d c Y (ak af) (sE Y (c.of Y) (c.of Y) bO) λc=>cQ d (cA d (iq d af (c.of Y) (nR d (cA d (oL d (cA d (dg d [0,1,2,3] Y (ei d c Y (dG (K ⟨S,0+i*2,Z⟩)) (pS Y (c.of Y) (c.of Y) Tryz.underlying103 Tryz.sizeOf139 ae) λc=>og d c Y (cw #[n9 b.rows,ah (K ⟨b7 i,0,Z⟩) (I l) (fO i)]) (oU (cs:=[n9 b.rows,ah (K ⟨b7 i,0,Z⟩) (I l) (fO i)]) Y (c.of Y) tR Y AF (an bh) (az.d i b g)) λc=>oM d aF ay Y Y (ax #[z9 0,aH] 139) trivial (λn=>(aZ n)) (CA Y Tryz.zeroValue139) λe bR be bk hrel a9=>?_))))))))));replace c:=c.put (d:=9) ay (aZ e);have aG:=aF.new be bk;refine xJ d aG ay Y Y (an Y) (ax #[n9 b.rows,ah (K ⟨b7 i,0,Z⟩) (I l) (fO i)] 139) trivial (wB (n:=e) (off:=0) (v:=cw #[n9 b.rows,ah (K ⟨b7 i,0,Z⟩) (I l) (fO i)]) Y (c.of Y) (c.of Y) AF (λbv aE=>by simp[lC] at aE;rcases aE with rfl|rfl<;>rfl) (an (an rfl)) a9 (aV 2)) λR j=>?_;replace c:=c.none cI;have bF:=s qb k;have bI:=s wb D;have F:RelB own w R:=⟨λb al=>aB (j.at_ b (an (aq al)) (cB (s b al))) (hrel.at_ b (an al)),dj hrel.size j.size,aB j.tape hrel.tape,aB j.os hrel.os,aB j.output hrel.output⟩;have t:=r.rel (own':=λb=>own b\/b=e) F (λb f=>aq f);have aJ:=ar.p0 _ _ _ R bc (λb g=>F.at_ b (r.oS b g)) F.size;have aD:∀b,own b\/b=e->b<U R.heap:=λb g=>(aG.set j) b (an g);have P:=aB (F.at_ qb k) bi;have a6:=aB (F.at_ wb D) br;have a5:∀b,M b->b≠e:=λb g X=>cB (s b (r.oS b g));have aY:U w0.heap<=e:=cB r.size;refine cQ d (cA d ?_);refine cA d (dg d [0,1,2,3,4,5,6,7,8] Y (ei d c Y (dG (K ⟨qb,5,Z⟩)) (nu (off':=5) Y (c.of Y) vJ Y Tryz.sizeOf4 Y) λc=>?_));refine og d c Y (ak sk) (jd Y (c.of Y) Tryz.isAgg4 (an (aq k)) (rP P Y)) λc=>ei d c Y (ak (!sk)) (A5 Y (c.of Y)) λc=>?_;refine dK d c λc=>?_;cases sk with
 |false=>
  refine pL d c λc=>?_;refine pL d c λc=>?_;refine pL d c λc=>?_;exact pL d c λc=>ei d c Y (ak af) (Fw Y (c.of Y) Y) λc=>cQ d (iq d af (c.of Y) (aL _ R _ e ⟨(((((((c.nil.cons (c.slot 1 _ Y)).cons (c.slot 2 _ Y)).cons (c.slot 4 _ Y)).cons (c.slot 6 _ Y)).cons (c.slot 7 _ Y)).cons (c.slot 16 _ Y)).cons (c.slot 17 _ Y)).cons (c.slot 18 _ Y),by simp only[put_defers];exact ad,aJ,t,aD,aq k,a2,aQ,P,aq D,a3,a0,a6⟩ (c.slot 9 _ Y) (an Y) (λf=>a5 e f Y) aY aa aa j.set))
 |true=>
  refine uV d ay Y (c.want (d:=25) (want:=ai) (b:=ai) Y Y Y ay) (oU (cs:=[p,B,aI S (I Q) dP,ah E (I aj) bH,ah T (I H) bE,ak af]) Y (c.of Y) vJ Y zZ (an (aq k)) (yd P)) ?_;replace c:=c.put (d:=26) ay (qv p B (aI S (I Q) dP) (ah E (I aj) bH) (ah T (I H) bE) af);refine uV d ay Y (c.want (d:=25) (want:=ai) (b:=ai) Y Y Y ay) (oU (cs:=[n9 b.rows,ah (K ⟨b7 i,0,Z⟩) (I l) (fO i)]) Y (c.of Y) tR Y AF (an (an Y)) (yd j.set)) ?_;replace c:=c.put (d:=27) ay (cw #[n9 b.rows,ah (K ⟨b7 i,0,Z⟩) (I l) (fO i)]);refine DG (R:=λh X aw=>∃o,X=aR (ak o)/\o=pU Q H i) mh Y Y (c.want (d:=25) (want:=ai) (b:=ai) Y Y Y ay) Y (D2 (c.of Y) (c.of Y)) Tryz.func77 abr Y (bA (ov Y Y Y)) (oA Y (by simp only[put_defers];exact ad) bl) (λh q am=>?_) λv G h aw q am bx bn bD m=>?_;have aC:=hF h (t.same q am).1 (t.same q am).2;refine bL (E2 H (λbs=>(aX b.chunks (bS bs) jF).bV) (b.rows:Int) (b7 i) (I l) (fO i) p B (aI S (I Q) dP) (ah E (I aj) bH) T rb bY bE af h a7.rn aC.nr (aC.TN a7 g)) λX aw f=>?_;obtain⟨o,rfl,ab,a8⟩:=f;refine⟨a8,_,rfl,o,rfl,?_⟩;have bb:aX Q i ⟨0,[]⟩=b:=by rw[ep,g];rfl
  unfold pU;rw[bb];cases N:o with
  |true=>
   symm
   rw[N] at ab;apply w7;intro a1;simp only[Bool.not_eq_true,List.any_eq_false] at a1;have:∀i (f:i<I H),Ec.jQ ((aX b.chunks H[i].col.toNat jF).bV) H[i]=ai:=λi ae=>by
    have:=a1 H[i] (c8 ae);simpa using this
   have:=ab.2 this;cases this
  |false=>
   symm
   rw[List.any_eq_false];intro bP bj;obtain⟨bu,bm,rfl⟩:=List.mem_iff_getElem.1 bj;have:=(ab.1 N) bu bm;simpa using this
  obtain⟨o,N,rfl⟩:=bn;cases N;have bo:=aB (m.at_ e (an Y)) j.set;have ba:∀b,grown (λb=>own b\/b=e) (U h.heap) (U G.heap) b->b<U G.heap:=λb g=>ff g (λf=>cL (aD b f) m.size) (λf=>f.2);replace c:=c.put (d:=28) ay (ak (pU Q H i));refine tf d ay Y (c.want (d:=25) (want:=ai) (b:=ai) Y Y Y ay) (A5 Y (c.of Y)) ?_;replace c:=c.put (d:=29) ay (ak (!pU Q H i));refine ei d c Y (ak (!pU Q H i)) (Fv Y (c.of Y) (c.of Y)) λc=>cQ d (iq d (!pU Q H i) (c.of Y) ?_);have C:=aL _ G _ e ⟨(((((((c.nil.cons (c.slot 1 _ Y)).cons (c.slot 2 _ Y)).cons (c.slot 4 _ Y)).cons (c.slot 6 _ Y)).cons (c.slot 7 _ Y)).cons (c.slot 16 _ Y)).cons (c.slot 17 _ Y)).cons (c.slot 18 _ Y),by simp only[put_defers];exact ad,(ar.p0 _ _ _ G aJ (λb g=>m.at_ b (t.oS b g)) m.size),(t.rel (own':=grown (λb=>own b\/b=e) (U h.heap) (U G.heap)) m (λb f=>aq f)),ba,aq (aq k),a2,aQ,(aB (m.at_ qb (aq k)) P),aq (aq D),a3,a0,(aB (m.at_ wb (aq D)) a6)⟩ (c.slot 9 _ Y) (aq (an Y)) (λf=>a5 e f Y) aY aa aa bo;rw[Bool.true_and] at C;cases a4:pU Q H i with
  |true=>rw[a4] at C;exact C
  |false=>rw[a4] at C;exact C
end
end Cc
namespace Cc
open Go Go.Conc
open Go.RowKit (Below)
open Ec (az bZ bJ dy mG tT fP qv bF Bd fc ia mP cY kC)
def mS (A j E T h L:Nat)(S:Option aN)(f dP:Nat)(O:Option aN)(g bH:Nat)(R:Option aN)(k bE:Nat)(sk:Bool):Array F:= #[aI A j E,aI T h L,ah S f dP,ah O g bH,ah R k bE,ak sk]
section
variable {C:F->ag->Prop}{J:List dB->(Nat->Prop)->ag->Prop}{Go:List dB->Bool}{d w:ag}{e M own:Nat->Prop}{z first n i u v x:Nat}{pre:List dB}{a:bK}{y:List aP}{l:List (bF×Int)}{H:List Bd}{aj:List Int}{Q:List bJ}{A E T L t:Nat}{S:Option aN}{b7 fO:Nat->Nat}{O:Option aN}{B bN bH:Nat}{R:Option aN}{rb bY bE:Nat}{V:Nat->Nat->List az}{dP:Nat}{sk:Bool}{b:Bd}{c:aP}
def Kg(k:H[i]? =K b):rN H QA V i=af↔∀f,QA[f]? =K af->I (V i f)=b.rows:=by
 unfold rN;rw[Br k,fD];constructor;intro j f g;have h:f<I QA:=(fq.1 g).1;have:=j f (n6.2 h);rw[ep,g] at this;simpa using this;intro j f g;have h:=n6.1 g;rw[ep,dH h];cases m:QA[f] with
 |false=>simp
 |true=>
  have:=j f (by rw[dH h,m]);simp[this]
def T8{G N:Nat}{g:Nat->Nat}(P:FQ l H aj Q V)(j:FM W l H aj Q A T S t b7 fO O B bN R rb bY)(F:W.heap[G]? =K (ax (cX (nj (cY (I l) (aj++Q.map bJ.col)) g (V i) N (I (cY (I l) (aj++Q.map bJ.col))))) 43 (0,0)))(ae:∀f,(cY (I l) (aj++Q.map bJ.col))[f]? =K af->Row W (g f) N (V i f))(Z:∀f,(cY (I l) (aj++Q.map bJ.col))[f]? =K af->I (V i f)=N):
 xw W aj Q O B bN R rb bY G (I l) N (vu V i):=by
 refine⟨j.ca,j.cl,j.cc,j.nr,λr ay m k=>?_⟩;have X:(0<=m/\m<(I l:Int))/\m∈aj++Q.map bJ.col:=by
  rcases k with k|⟨U,h,rfl⟩;exact⟨P.ck m k,List.mem_append_left _ k⟩;exact⟨P.rk U h,List.mem_append_right _ (kA.2 ⟨U,h,rfl⟩)⟩
 have⟨⟨ab,ap⟩,ad⟩:=X;obtain⟨f,rfl⟩:=uM ab;have o:f<I l:=aa;have q:=J3.2 ⟨o,ad⟩;have aw:=Z f q;have⟨⟨ao,s,ar,al⟩,_⟩:=ae f q;have p:r<I (V i f):=aa;have h:=C9 s al p;have am:vu V i (f:Int) r=(V i f)[r]:=by
  unfold vu;rw[Int.toNat_natCast,ep,dH p];rfl
 rw[am];refine⟨f,g f,I (V i f),N,rfl,o,(dY.1 F).1,?_,p,(dY.1 s).1,?_,?_,?_⟩;unfold aA;simp only[F];have D:f<I (cY (I l) (aj++Q.map bJ.col)):=by rw[Ec.Cs];exact o
 have:=AW (ws:=cY (I l) (aj++Q.map bJ.col)) (g:=g) (V:=V i) (N:=N) (i:=I (cY (I l) (aj++Q.map bJ.col))) D;rw[if_pos ⟨D,q⟩] at this;simpa using this;have:=h 0 _ Y;rw[e7,s6] at this;exact this;have:=h 1 _ Y;rw[e7] at this;exact this;have:=h 2 _ Y;rw[e7] at this;exact this
end
section
variable {H:F->ag->Prop}{J:List dB->(Nat->Prop)->ag->Prop}{Go:List dB->Bool}{A w:ag}{M0 M own:Nat->Prop}{lp first n i f L S:Nat}{pre:List dB}{a:bK}{m:List aP}{l:List (bF×Int)}{Q:List Bd}{aj:List Int}{O:List bJ}{t E r B db:Nat}{T:Option aN}{b7 fO:Nat->Nat}{co:Option aN}{cb bN bH:Nat}{ro:Option aN}{rb bY bE:Nat}{V:Nat->Nat->List az}{dP:Nat}{sk:Bool}{b:Bd}{c:aP}
def vY{a:bK}(d:bz a Qp=v): #[Qp].map (bz a)=#[v]:=by simp[d]
def OE{a:bK}{e g h d v:dU}(j:bz a e=x)(k:bz a g=y)(o:bz a h=z)(p:bz a d=qq)(q:bz a v=qs): #[e,g,h,d,v].map (bz a)=#[x,y,z,qq,qs]:=by simp[j,k,o,p,q]
def LG(h:FQ l Q aj O V)(o:Q[i]? =K b)(U:first<=100000)(W:i<I Q)
 (j:vU J A w M0 M own (mS t (I l) E r (I l) B T (I Q) dP co (I aj) bH ro (I O) bE sk) lp first n i (I Q) f L (I l) (ah T (I Q) dP) (cY (I l) (aj++O.map bJ.col)) pre a) (k:cG a 9=(aZ S)) (F:own S) (P:w.heap[S]? =K (ax #[n9 b.rows,ah (K ⟨b7 i,0,Z⟩) (I l) (fO i)] 139 (0,0)))
 (u:∀g,vU J A w M0 M own (mS t (I l) E r (I l) B T (I Q) dP co (I aj) bH ro (I O) bE sk) lp (first+b.rows) n (i+1) (I Q) f L (I l) (ah T (I Q) dP) (cY (I l) (aj++O.map bJ.col)) pre g->Xe (aM av) av H own ((base 54).at g [b9 (tE mA),gE (tE mA),fI 0,b9 (Aa mA)]) m w):
 Xe (aM av) av H own ((base 54).at a (Db mA)) m w:=by
 have e:=mM (aM av) av H;have⟨d,q,s,v,p,D,z,x,N,G,C,y,R⟩:=j;have ab:=h.rows b (nO o);have X:=h.nb;replace d:=d.cons k;refine dg e [0,1,2,3,4] Y (dK e d λd=>?_);refine ei e d Y (aZ S) (nu (off':=0) Y (d.of Y) tR Y uJ Y) λd=>og e d Y (n9 b.rows) (jd Y (d.of Y) xf (an F) (rP P Y)) λd=>ei e d Y (z9 ((first+b.rows:Nat):Int)) (uk Y (d.of Y) (d.of Y) aa) λd=>?_;refine g4 e d λd=>cQ e ?_;refine uU e (dg e [0,1] Y (ei e d Y (z9 ((i+1:Nat):Int)) (uk (j:=1) Y (d.of Y) Y aa) λd=>?_));exact dK e d λd=>cQ e (v9 e (u _ ⟨(((((((d.nil.cons (d.slot 1 _ Y)).cons (d.slot 2 _ Y)).cons (d.slot 4 _ Y)).cons (d.slot 6 _ Y)).cons (d.slot 7 _ Y)).cons (d.slot 16 _ Y)).cons (d.slot 17 _ Y)).cons (d.slot 18 _ Y),by simp only[put_defers];exact q,s,v,p,D,z,x,N,G,C,y,R⟩))
def Gs(am:Cons (aM av) av H lp J Go)(bx:Go pre=af)(al:FQ l Q aj O V)(hF:∀F,(∀b,b<U A.heap->¬M0 b->py F A b)->U A.heap<=U F.heap->FM F l Q aj O t r T db b7 fO co cb bN ro rb bY)(g:Q[i]? =K b)(bR:first=jP Q i)(cy:I pre<=first)(cx:n<=100000)
 (h:vU J A w M0 M own (mS t (I l) E r (I l) B T (I Q) dP co (I aj) bH ro (I O) bE sk) lp first n i (I Q) f L (I l) (ah T (I Q) dP) (cY (I l) (aj++O.map bJ.col)) pre a) (bv:cG a 9=(aZ S)) (aL:own S) (ca:¬M S) (cv:U A.heap<=S) (bm:w.heap[S]? =K (ax #[n9 b.rows,ah (K ⟨b7 i,0,Z⟩) (I l) (fO i)] 139 (0,0)))
 (bP:rN Q (cY (I l) (aj++O.map bJ.col)) V i=ai->∀y j,J pre M j->Kept A j M0 M y->(∀b,y b->b<U j.heap)->Xe (aM av) av H y (di c (cC #[z9 ((n+1:Nat):Int),z9 3])) m j)
 (ci:rN Q (cY (I l) (aj++O.map bJ.col)) V i=af->(feed Go pre (j4 Q aj O V i)).2=ai->∀y D j,J (feed Go pre (j4 Q aj O V i)).1 D j->Kept A j M0 D y->(∀b,y b->b<U j.heap)->Xe (aM av) av H y (di c (cC #[z9 ((n+1:Nat):Int),z9 0])) m j)
 (b0:rN Q (cY (I l) (aj++O.map bJ.col)) V i=af->(feed Go pre (j4 Q aj O V i)).2=af->∀y D j az,vU J A j M0 D y (mS t (I l) E r (I l) B T (I Q) dP co (I aj) bH ro (I O) bE sk) lp first (n+1) i (I Q) f L (I l) (ah T (I Q) dP) (cY (I l) (aj++O.map bJ.col)) (feed Go pre (j4 Q aj O V i)).1 az->cG az 9=(aZ S)->y S->j.heap[S]? =K (ax #[n9 b.rows,ah (K ⟨b7 i,0,Z⟩) (I l) (fO i)] 139 (0,0))->Xe (aM av) av H y ((base 54).at az (Db mA)) (c::m) j):
 Xe (aM av) av H own ((base 54).at a (b9 (LF mA)::Db mA)) (c::m) w:=by
 have e:=mM (aM av) av H;have⟨d,ab,G,u,R,aJ,bd,b4,bi,aQ,be,b5,bn⟩:=h;have a9:I (cY (I l) (aj++O.map bJ.col))=I l:=Ec.Cs;have bV:=dj (AQ Q (i+1)) al.tot;rw[Ca g] at bV;replace d:=d.cons bv;refine cA e (dg e [0,1,2] Y ?_);refine dK e d λd=>ei e d Y (z9 ((n+1:Nat):Int)) (uk (j:=1) Y (d.of Y) Y aa) λd=>?_;refine g4 e d λd=>cQ e (cA e (dg e [0,1,2,3,4,5,6,7,8,9] Y (og e d Y (so (b.rows:Int) (b7 i) (I l) (fO i)) (oU (cs:=[n9 b.rows,ah (K ⟨b7 i,0,Z⟩) (I l) (fO i)]) Y (d.of Y) tR Y AF (an aL) (yd bm)) λd=>ei e d Y (aZ f) (nu (off':=0) Y (d.of Y) vJ Y Tryz.sizeOf105 Y) λd=>?_)));refine uV e ay Y Y (oU (cs:=[aI t (I l) E,aI r (I l) B,ah T (I Q) dP]) Y (d.of Y) Tryz.underlying105 Y Ja (an aJ) (λX v G=>yd bi X v (by
  rcases X with _|_|_|X;exact G;exact G;exact G;simp at G))) ?_
 replace d:=d.put (d:=36) ay (sx t (I l) E r (I l) B (ah T (I Q) dP));refine dK e d λd=>As (R:=λC=>HB C b.rows (cY (I l) (aj++O.map bJ.col)) (V i)) (vs:= #[so (b.rows:Int) (b7 i) (I l) (fO i),sx t (I l) E r (I l) B (ah T (I Q) dP),aI L (I l) (I l)]) Y Y Y Y (D1 (d.of Y) (d.of Y) (d.of Y)) Tryz.func78 abb Y (oA Y (by simp only[put_defers];exact ab) bl) (λC z=>?_) (λC v q z ap aY cc=>?_) (λC bs j ⟨_,_,_,s,_⟩=>cV s) (λC j ⟨_,_,_,s,_⟩=>cV s);have a7:=u.rel z (λb h=>h);have:=OS (Post:=H) (cap:=fO i) (ck:=E) (ce:=B) (x:=ah T (I Q) dP) (g8:=I l) ((hF C (a7.same (λb ar _ h _=>h) (aV _)).1 a7.size).bin al g (aB (z.at_ L aQ) bn));rw[a9] at this;exact this;obtain⟨a1,eR,p,s,a3,b3,ba,cf,aG⟩:=ap;cases s;rw[a9];have aH:rN Q (cY (I l) (aj++O.map bJ.col)) V i=eR:=by
  cases eR with
  |true=>exact(Kg g).2 (aG.1 Y)
  |false=>
   cases s:rN Q (cY (I l) (aj++O.map bJ.col)) V i with
   |false=>rfl
   |true=>exact absurd (aG.2 ((Kg g).1 s)) ay
 have ad:∀b,own b->q.heap[b]? =w.heap[b]? :=λb bh=>aB (cS a3 b (cL (R b bh) z.size)) (z.at_ b bh);have W:=dj z.size a3.size;have k:Kept A q M0 M (λb=>b<U q.heap):=⟨λb g o=>⟨by have:=u.size;show b<U q.heap;omega,aB (ad b (u.keep b g o).1) (u.keep b g o).2⟩,u.ext,λb g=>cL (R b (u.oS b g)) W,dj u.size W,aB aY.tape (aB z.tape u.tape),aB aY.os (aB z.os u.os),aB aY.output (aB z.output u.output)⟩;have a6:=am.p0 _ _ _ q G (λb g=>ad b (u.oS b g)) W;have bj:=aB (ad f aJ) bi;have cl:=aB (ad L aQ) bn;have ap:=aB (ad S aL) bm;have a2:=cL (R f aJ) W;have br:=cL (R L aQ) W;have bo:=cL (R S aL) W;refine Xe.go (own:=λb=>b<U q.heap) ?_ (λb h=>h) cc;replace d:=d.put (d:=38) ay (cC #[aI a1 (I l) (I l),ak eR]);refine dK e d λd=>?_;refine tj e d λd=>?_;refine tj e d λd=>?_;refine g4 e d λd=>?_;refine g4 e d λd=>?_;refine cQ e (cA e (cA e (dg e [0,1] Y (dK e d λd=>ei e d Y (ak (!eR)) (A5 Y (d.of Y)) λd=>cQ e ?_))));cases eR with
 |false=>
  refine iq e af (d.of Y) (cA e ?_);refine dg e [0,1,2] Y (dK e d λd=>?_);refine g4 e d λd=>mL e d (z9 3) λd=>cQ e (tg e ?_);have ae:=yp (P:=av) Tryz.results54 (d.slot 4 _ Y) (d.slot 5 _ Y);exact ua e Y (by simp only[put_defers];exact ab) Tryz.func54 ae.1 ae.2 (bP aH _ q a6 k (λb h=>h))
 |true=>
  have bO:=aG.1 Y;refine iq e ai (d.of Y) (nR e ?_);refine cA e (dg e [0,1,2,3,4,5,6,7] Y ?_);refine og e d Y (qv (aI t (I l) E) (aI r (I l) B) (ah T (I Q) dP) (ah co (I aj) bH) (ah ro (I O) bE) sk) (oU (cs:=dD (mS t (I l) E r (I l) B T (I Q) dP co (I aj) bH ro (I O) bE sk)) Y (d.of Y) vJ Y zZ (an a2) (yd bj)) λd=>?_;refine dK e d λd=>?_;refine dK e d λd=>?_;refine ei e d Y (aZ S) (nu (off':=0) Y (d.of Y) tR Y uJ Y) λd=>og e d Y (n9 b.rows) (jd Y (d.of Y) xf (an bo) (rP ap Y)) λd=>?_;refine dK e d λd=>As (R:=λaw=>HD J M aw (feed Go pre (j4 Q aj O V i))) (vs:= #[qv (aI t (I l) E) (aI r (I l) B) (ah T (I Q) dP) (ah co (I aj) bH) (ah ro (I O) bE) sk,aI a1 (I l) (I l),n9 first,n9 b.rows,.func (gH lp) #[] #[]]) Y Y Y Y (OE (d.of Y) (d.of Y) (d.of Y) (d.of Y) (d.of Y)) Tryz.func79 abl Y (oA Y (by simp only[put_defers];exact ab) bl) (λaw x=>?_) (λaw v P x ck a0 cd=>?_) (λC bs j ⟨s,_⟩=>cV s) (λC j ⟨s,_⟩=>cV s);have b1:=am.p0 _ _ _ aw a6 (λb g=>x.at_ b (k.oS b g)) x.size;have a5:j4 Q aj O V i=je (iG O (vu V i)) (λcp=>aj.map λcn=>vu V i cn cp) first 0 b.rows:=by
   unfold j4;rw[Br g,bR]
  rw[a5];refine SI (val:=vu V i) (cb:=cb) (bN:=bN) (rb:=rb) (bY:=bY) am bx b1 (λF bI cg=>?_) aa al.cn al.rn aa;have N:∀b,b<U q.heap->¬M b->py F q b:=λb g o ar aF aD=>bI b (cL g x.size) o ar (aB (x.at_ b g) aF) aD;have bF:∀b,M b->b<U C.heap:=λb g=>cL (R b (u.oS b g)) z.size;have bD:=hF F (λb g o ar aF aD=>N b (k.keep b g o).1 (λh=>ff (k.ext b h) o (λh=>aa)) ar ((k.keep b g o).2.trans aF) aD) (dj k.size (dj x.size cg));have bb:∀p,U C.heap<=p->p<U q.heap->py F q p:=λp cu bu=>N p bu (λh=>cB (bF p h));refine T8 (g:=p) al bD (bb a1 b3 (dY.1 ba).1 _ ba trivial) (λX G=>?_) bO;have⟨bk,bZ⟩:=cf X G;have⟨cs,aE,_⟩:=bk.ex;exact bk.same (aB (bb (p X) bZ (dY.1 aE).1 _ aE trivial) (bA aE));have⟨s,D,aC,b2,cJ,a4⟩:=ck;cases s;have ch:=x.size;have N:∀b,b<U q.heap->¬M b->P.heap[b]? =q.heap[b]? :=λb g o=>aB (b2 b (cL g ch) o) (x.at_ b g);have a8:Kept A P M0 D (λb=>b<U P.heap):=⟨λb g o=>⟨by have:=k.size;show b<U P.heap;omega,aB (N b (k.keep b g o).1 (λh=>ff (k.ext b h) o (λh=>aa))) (k.keep b g o).2⟩,λb g=>ff (a4 b g) (k.ext b) (λh=>an (cB k.size)),λb g=>am.bound _ _ _ aC b g,cB k.size,aB a0.tape (aB x.tape k.tape),aB a0.os (aB x.os k.os),aB a0.output (aB x.output k.output)⟩;have bc:∀p,p<U q.heap->¬M p->¬D p:=λp a5 o h=>ff (a4 p h) o (λh=>aa);refine Xe.go (own:=λb=>b<U P.heap) ?_ (λb h=>h) cd;replace d:=d.put (d:=50) ay (ak (feed Go pre (j4 Q aj O V i)).2);refine ei e d Y (ak (!(feed Go pre (j4 Q aj O V i)).2)) (A5 Y (d.of Y)) λd=>cQ e ?_;cases ao:(feed Go pre (j4 Q aj O V i)).2 with
  |false=>
   rw[ao] at d;refine iq e af (d.of Y) (cA e ?_);refine dg e [0,1,2] Y (dK e d λd=>?_);refine g4 e d λd=>mL e d (z9 0) λd=>cQ e (tg e ?_);have ae:=yp (P:=av) Tryz.results54 (d.slot 4 _ Y) (d.slot 5 _ Y);exact ua e Y (by simp only[put_defers];exact ab) Tryz.func54 ae.1 ae.2 (ci aH ao _ D P aC a8 (λb h=>h))
  |true=>
   rw[ao] at d;exact iq e ai (d.of Y) (nR e (b0 aH ao _ D P _ ⟨(((((((d.nil.cons (d.slot 1 _ Y)).cons (d.slot 2 _ Y)).cons (d.slot 4 _ Y)).cons (d.slot 6 _ Y)).cons (d.slot 7 _ Y)).cons (d.slot 16 _ Y)).cons (d.slot 17 _ Y)).cons (d.slot 18 _ Y),by simp only[put_defers];exact ab,aC,a8,(λb h=>h),by show f<_;omega,bc f a2 bd,b4,aB (N f a2 bd) bj,by show L<_;omega,bc L br be,b5,aB (N L br be) cl⟩ (d.slot 9 _ Y) (by show S<_;omega) (aB (N S bo ca) ap)))
end
end Cc
namespace Cc
open Go Go.Conc
open Go.RowKit (Below)
open Ec (az bZ bJ dy mG tT fP qv bF Bd fc ia mP cY kC Dy)
section
variable {O:F->ag->Prop}{J:List dB->(Nat->Prop)->ag->Prop}{Go:List dB->Bool}{w0 w:ag}{M0 M own:Nat->Prop}{y first n i T u vb:Nat}{pre:List dB}{a:bK}{x:List aP}{l:List (bF×Int)}{Q:List Bd}{aj:List Int}{H:List bJ}{L p A t z:Nat}{S:Option aN}{b7 fO:Nat->Nat}{B:Option aN}{k bN bH:Nat}{E:Option aN}{rb bY bE:Nat}{V:Nat->Nat->List az}{dP:Nat}{sk:Bool}{b:Bd}{c:aP}
def X5(f:vU J w0 w M0 M own (mS L (I l) p A (I l) t S (I Q) dP B (I aj) bH E (I H) bE sk) y first n (I Q) (I Q) T u (I l) (ah S (I Q) dP) (cY (I l) (aj++H.map bJ.col)) pre a)(h:Xe (aM av) av O own (di c (cC #[n9 n,z9 0])) x w):
 Xe (aM av) av O own ((base 54).at a [b9 (tE mA),gE (tE mA),fI 0,b9 (Aa mA)]) (c::x) w:=by
 have d:=mM (aM av) av O;have e:=f.kn;refine cA d ?_;refine dg d [0] Y ?_;refine ei d e Y (ak ai) (sE Y (e.of Y) (e.of Y) aF) λe=>?_;refine cQ d ?_;refine cA d ?_;refine iq d ai (e.of Y) ?_;refine zo d (k':=[b9 (Aa mA)]) Y ?_;refine cA d ?_;refine dg d [0,1,2] Y ?_;refine dK d e λe=>?_;refine g4 d e λe=>?_;refine mL d e (z9 0) λe=>?_;refine cQ d ?_;refine tg d ?_;have g:=yp (P:=av) Tryz.results54 (e.slot 4 _ Y) (e.slot 5 _ Y);exact ua d Y (by simp only[put_defers];exact f.df) Tryz.func54 g.1 g.2 h
def X8(D:Cons (aM av) av O y J Go)(m:FQ l Q aj H V)(hF:∀X,(∀b,b<U w0.heap->¬M0 b->py X w0 b)->U w0.heap<=U X.heap->FM X l Q aj H L A S z b7 fO B k bN E rb bY)(aD:0<I Q->¬M0 z):
 ∀(e i:Nat),i+e=I Q->∀(pre:List dB) (own M:Nat->Prop) (w:ag) (a:bK) (n:Nat),Go pre=af->n<=i->I pre<=jP Q i->
 vU J w0 w M0 M own (mS L (I l) p A (I l) t S (I Q) dP B (I aj) bH E (I H) bE sk) y (jP Q i) n i (I Q) T u (I l) (ah S (I Q) dP) (cY (I l) (aj++H.map bJ.col)) pre a->
 (∀j r g,J (eZ sk Q aj H (cY (I l) (aj++H.map bJ.col)) V Go i e pre n).1 r g->Kept w0 g M0 r j->(∀b,j b->b<U g.heap)->Xe (aM av) av O j (di c (cC #[n9 ((eZ sk Q aj H (cY (I l) (aj++H.map bJ.col)) V Go i e pre n).2.1),n9 ((eZ sk Q aj H (cY (I l) (aj++H.map bJ.col)) V Go i e pre n).2.2)])) x g)->
 Xe (aM av) av O own ((base 54).at a [b9 (tE mA),gE (tE mA),fI 0,b9 (Aa mA)]) (c::x) w:=by
 intro e
 induction e with
 |zero=>
  intro i az pre own M w a n s aC P d f;have:i=I Q:=aa;subst this;exact X5 d (f own M w d.j d.kept d.bd)
 |succ e ar=>
  intro i az pre own M w a n s aC P d f;have al:i<I Q:=aa;have h:Q[i]? =K Q[i]:=dH al;generalize Q[i]=b at h;have aZ:=m.nb;have aL:=dj (AQ Q (i+1)) m.tot;have ap:=Ca h;refine X6 D m hF h aD d λaG aH aJ vb F G N ao am a0 a1 W=>?_;cases R:(sk&&pU Q H i) with
  |true=>
   have o:eZ sk Q aj H (cY (I l) (aj++H.map bJ.col)) V Go i (e+1) pre n=eZ sk Q aj H (cY (I l) (aj++H.map bJ.col)) V Go (i+1) e pre n:=by simp only[eZ,R,if_true]
   rw[o] at f;refine nR (mM (aM av) av O) (LG m h aa al F G N W λZ v=>?_);rw[<-ap] at v;exact ar (i+1) aa pre aG M aH Z n s aa aa v f
  |false=>
   cases q:rN Q (cY (I l) (aj++H.map bJ.col)) V i with
   |false=>
    have o:eZ sk Q aj H (cY (I l) (aj++H.map bJ.col)) V Go i (e+1) pre n=(pre,n+1,3):=by simp only[eZ,R,q,fA,if_false]
    rw[o] at f;exact Gs D s m hF h Y P aa F G N ao am W (λ_ j g ad ae ab=>f j M g ad ae ab) (λd=>by rw[q] at d;cases d) (λd=>by rw[q] at d;cases d)
   |true=>
    cases C:(feed Go pre (j4 Q aj H V i)).2 with
    |false=>
     have o:eZ sk Q aj H (cY (I l) (aj++H.map bJ.col)) V Go i (e+1) pre n=((feed Go pre (j4 Q aj H V i)).1,n+1,0):=by simp only[eZ,R,q,C,fA,if_false,if_true]
     rw[o] at f;exact Gs D s m hF h Y P aa F G N ao am W (λd=>by rw[q] at d;cases d) (λ_ _ j r g ad ae ab=>f j r g ad ae ab) (λ_ d=>by rw[C] at d;cases d)
    |true=>
     have o:eZ sk Q aj H (cY (I l) (aj++H.map bJ.col)) V Go i (e+1) pre n=eZ sk Q aj H (cY (I l) (aj++H.map bJ.col)) V Go (i+1) e (feed Go pre (j4 Q aj H V i)).1 (n+1):=by simp only[eZ,R,q,C,fA,if_false,if_true]
     rw[o] at f;refine Gs D s m hF h Y P aa F G N ao am W (λd=>by rw[q] at d;cases d) (λ_ d=>by rw[C] at d;cases d) (λ_ _ j r g aI aw ay aE aF=>(LG m h aa al aw ay aE aF λZ v=>?_));rw[<-ap] at v;have aQ:=EK Go (j4 Q aj H V i) pre;have aY:I (j4 Q aj H V i)<=b.rows:=by
      unfold j4;rw[Br h];exact Da _ _ _ _ _
     exact ar (i+1) aa _ j r g Z (n+1) (I8 _ _ s C) (by omega) (by omega) v f
def HQ (J:List dB->(Nat->Prop)->ag->Prop)(M0:Nat->Prop)(w0:ag)(d:List dB×Nat×Nat)(f:gL)(e:ag):Prop:=
 f=aR (cC #[n9 d.2.1,n9 d.2.2])/\∃g,J d.1 g e/\(∀b,b<U w0.heap->¬M0 b->e.heap[b]? =w0.heap[b]?)/\U w0.heap<=U e.heap/\∀b,g b->M0 b\/U w0.heap<=b
def X4(r:Cons (aM av) av O y J Go)(aD:Go []=af)(q:FQ l Q aj H V)(al:J [] M0 w0)(hF:∀h,(∀b,b<U w0.heap->¬M0 b->py h w0 b)->U w0.heap<=U h.heap->FM h l Q aj H L A S z b7 fO B k bN E rb bY)(a4:0<I Q->¬M0 z):
 sU (aM av) av O 54 #[qv (aI L (I l) p) (aI A (I l) t) (ah S (I Q) dP) (ah B (I aj) bH) (ah E (I H) bE) sk,.func (gH y) #[] #[]] w0 (HQ J M0 w0 (eZ sk Q aj H (cY (I l) (aj++H.map bJ.col)) V Go 0 (I Q) [] 0)):=by
 intro c x a9 bj a6 aE;have e:=mM (aM av) av O;refine Xe.go (own:=λb=>b<U w0.heap) ?_ (λb f=>f) a6;rw[enter_at _ Tryz.func54 Y];have d:=Cn (qv (aI L (I l) p) (aI A (I l) t) (ah S (I Q) dP) (ah B (I aj) bH) (ah E (I H) bE) sk) (.func (gH y) #[] #[]) 59 ay;have aQ:jl rM (λb=>b<U w0.heap) w0:=λb g=>ff g fe (λf=>f);have G:=r.bound _ _ _ al;have a3:Kept w0 w0 M0 M0 (λb=>b<U w0.heap):=⟨λb g _=>⟨g,rfl⟩,λb g=>aq g,G,aV _,rfl,rfl,rfl⟩;refine cA e (dg e [0,1,2] Y (oM e aQ ay Y Y (ax (mS L (I l) p A (I l) t S (I Q) dP B (I aj) bH E (I H) bE sk) 115) trivial (λn=>(aZ n)) (zP (v:=qv (aI L (I l) p) (aI A (I l) t) (ah S (I Q) dP) (ah B (I aj) bH) (ah E (I H) bE) sk) Y (d.of Y)) λT ap aG bk a8 ae=>?_));replace d:=d.put (d:=2) ay (aZ T);refine mL e d (z9 ((0:Nat):Int)) λd=>mL e d (z9 0) λd=>cQ e ?_;have ab:=Ff a8;have N:=a3.rel (own':=λb=>b<U w0.heap\/b=T) ab (λb f=>aq f);have a0:=r.p0 _ _ _ ap al (λb g=>ab.at_ b (G b g)) ab.size;have aH:∀b,(b<U w0.heap\/b=T)->b<U ap.heap:=λb g=>aa;refine cA e (dg e [0,1,2] Y (og e d Y (qv (aI L (I l) p) (aI A (I l) t) (ah S (I Q) dP) (ah B (I aj) bH) (ah E (I H) bE) sk) (oU (cs:=dD (mS L (I l) p A (I l) t S (I Q) dP B (I aj) bH E (I H) bE sk)) Y (d.of Y) vJ Y zZ (an (an Y)) (yd ae)) λd=>DG (vs:= #[qv (aI L (I l) p) (aI A (I l) t) (ah S (I Q) dP) (ah B (I aj) bH) (ah E (I H) bE) sk]) (R:=λh D R=>∃s,D=aR (aI s (I l) (I l))/\U h.heap<=s/\R.heap[s]? =K (ax (cX (kC (cY (I l) (aj++H.map bJ.col)))) 4 (0,0))) mh Y Y Y Y (vY (d.of Y)) Tryz.func76 abC Y (bA (ov Y Y Y)) (oA Y (by simp only[put_defers]) bl) (λh W ad=>?_) λv o h R W ad be ba aF C=>?_));have F:=hF h (N.same W ad).1 (N.same W ad).2;have X:=q.m;have bi:=q.cn;refine bL (Dy (I l) aj H (K ⟨L,0,Z⟩) p (aI A (I l) t) (ah S (I Q) dP) B k bN bH E rb bY bE sk h q.m (by unfold aS;omega) q.rn F.ca F.cl F.cc F.nr q.ck q.rk) λD R f=>?_;obtain⟨aw,s,rfl,az,aC⟩:=f;exact⟨aw,_,rfl,s,rfl,az,aC⟩;have⟨u,D,bb,P⟩:=ba;cases D;have a2:=N.rel (own':=grown (λb=>b<U w0.heap\/b=T) (U h.heap) (U o.heap)) C (λb f=>aq f);have a1:=r.p0 _ _ _ o a0 (λb g=>C.at_ b (N.oS b g)) C.size;have ao:=aB (C.at_ T (an Y)) ae;have aJ:∀b,grown (λb=>b<U w0.heap\/b=T) (U h.heap) (U o.heap) b->b<U o.heap:=λb g=>ff g (λf=>cL (aH b f) C.size) (λf=>f.2);replace P:=aF.row.1 P;have bc:u<U o.heap:=(dY.1 P).1;have am:grown (λb=>b<U w0.heap\/b=T) (U h.heap) (U o.heap) T:=aq (an Y);have a5:grown (λb=>b<U w0.heap\/b=T) (U h.heap) (U o.heap) u:=an ⟨bb,bc⟩;replace d:=d.put (d:=13) ay (aI u (I l) (I l));refine g4 e d λd=>cQ e (cA e (dg e [0] Y (mL e d (z9 ((0:Nat):Int)) λd=>cQ e (cA e (cA e (dg e [0,1,2,3,4] Y (ei e d Y (aZ T) (nu (off':=0) Y (d.of Y) vJ Y Tryz.sizeOf105 Y) λd=>ei e d Y (dG (K ⟨T,2,Z⟩)) (nu (off':=2) Y (d.of Y) Tryz.underlying105 Y Tryz.sizeOf103 Y) λd=>og e d Y (ah S (I Q) dP) (jd Y (d.of Y) Tryz.isAgg103 (an am) (rP ao Y)) λd=>ei e d Y (n9 (I Q)) (vg Y (d.of Y) Tryz.underlying103) λd=>ei e d Y (z9 ((0:Nat):Int)) (gz Y Y) λd=>cQ e (oL e (zq e ?_)))))))));have aL:jP Q 0=0:=by simp[jP]
 refine X8 (w0:=w0) (M0:=M0) r q hF a4 (I Q) 0 aa [] _ M0 o _ 0 aD (aV _) (cE _) (by
  rw[aL];exact⟨(((((((d.nil.cons (d.slot 1 _ Y)).cons (d.slot 2 _ Y)).cons (d.slot 4 _ Y)).cons (d.slot 6 _ Y)).cons (d.slot 7 _ Y)).cons (d.slot 16 _ Y)).cons (d.slot 17 _ Y)).cons (d.slot 18 _ Y),by simp only[put_defers],a1,a2,aJ,am,λf=>cB (G T f),aG,ao,a5,λf=>cB (G u f),aa,P⟩) λbm ar bn aY j bh=>?_
 intro _ bd m a7;exact aE _ bd ⟨rfl,ar,r.p0 _ _ _ _ aY (λb g=>m.at_ b (j.oS b g)) m.size,λb g X=>aB (m.at_ b (j.keep b g X).1) (j.keep b g X).2,dj j.size m.size,j.ext⟩ a7 ⟨aB m.tape j.tape,aB m.os j.os,aB m.output j.output,dj j.size m.size⟩ (zE a9)
end
end Cc
namespace Cc
open Go Go.Conc
open Go.RowKit (Below)
open Ec (az bZ bJ dy qv bF Bd cY)
def Fu(b:Qr.op= .nilCheck Qp)(hx:bz qS Qp=dG (K qP)):∀a,(bT (bz qS) Qr).run Qn a=b6 (eT (dG (K qP))) a/\(bT (bz qS) Qr).events Qn a #[]=#[]:=λa=>by
 unfold bT;simp[b,hx]
def Va{b own:Nat->Prop}{w:ag}{cs:List F}{f:TypeDesc}(l:Qr.op= .load Qc Qp)(hx:bz qS Qp=dG (K ⟨m,k,Z⟩))(o:gb Qn Qc=K f)(i:f.isRow=af)(j:(Qn.info? Qc).map (·.size)=K (I cs))(g:b m\/own m)(h:pq w m k cs)(p:cw (cX cs)=v):∀a,RelB (λd=>b d\/own d) w a->(bT (bz qS) Qr).run Qn a=b6 (eT v) a/\∀e∈(bT (bz qS) Qr).events Qn a #[],EvW b own e:=by
 subst p;exact oU l hx o i j g h
def jO (a:cO):Array cq:=match a.body with
 |some (gu _ b _)=>b
 |_=> #[]
def xM (J R O:Nat)(q:F):List (Nat×F):=[(4,(aZ J)),(5,(aZ J)),(6,(aZ J)),(7,(aZ J)),(8,(aZ J)),(9,q),(10,.func (gH O) #[] #[])]
def zA (J:Nat)(n e:Nat):List (Nat×F):=[(11,cC #[n9 n,n9 e]),(3,cC #[n9 n,n9 e]),(12,n9 n),(13,n9 e),(14,(aZ J)),(15,dG (K ⟨J,6,Z⟩))]
def B0 (J:Nat):List (Nat×F):=[(16,(aZ J)),(17,dG (K ⟨J,7,Z⟩))]
def Ey:List Nat:=[4,5,6,7,8,9,10]
def IJ:nS (jO jK) (λa=>decide (a<7)) 7 18 Ey=af:=bl
def IK:nS (jO jK) (λa=>decide (a<13)) 13 18 ([11,3,12,13,14,15]++Ey)=af:=bl
def IL:nS (jO jK) (λa=>decide (a<16)) 16 18 ([16,17]++([11,3,12,13,14,15]++Ey))=af:=bl
def Rx:(dM (eH (U (jO jK))) λa=> !(λa=>decide (a<7)) a||match kY (jO jK) a with|some b=> !(iP ([11,3,12,13,14,15]:List Nat)) b|none=>af)=af:=bl
def Ry:(dM (eH (U (jO jK))) λa=> !(λa=>decide (a<13)) a||match kY (jO jK) a with|some b=> !(iP ([16,17]:List Nat)) b|none=>af)=af:=bl
def Rz:(dM (eH (U (jO jK))) λa=> !(λa=>decide (2<=a/\a<=7)) a||a==7||iP (under (jO jK) 6 (match (jO jK)[7]? with
 |some b=>(b.after.toList.filter λe=>iN ed e).map (·.on)
 |none=>[])) a)=af:=bl
def RA:(dM (eH (U (jO jK))) λa=> !(λa=>decide (a<=13/\a≠1/\a≠10)) a||a==13||iP (under (jO jK) 2 (match (jO jK)[13]? with
 |some b=>(b.after.toList.filter λe=>iN ed e).map (·.on)
 |none=>[])) a)=af:=bl
def RD:(dM (eH (U (jO jK))) λa=> !(λa=>decide (a<=16)) a||a==16||iP (under (jO jK) 2 (match (jO jK)[16]? with
 |some b=>(b.after.toList.filter λe=>iN ed e).map (·.on)
 |none=>[])) a)=af:=bl
def RE:ug (aM av) (bW (jO jK) [])=af:=bl
def RG(a:b8 qS=[]):fh (aM av) ((base 53).at qS [bW (jO jK) l]) []:=
 oA Y a (by rw[List.all_cons,List.all_nil,Bool.and_true];exact RE)
def abv:(mA.name == "runtime.NumGoroutine")=ai:=bl
def TC:(av.info? 3).map (·.size)=K 1:=bl
def Sb:(av.info? 27).map (·.size)=K 1:=bl
def Yq{P:aW}{fn:cO}{a:bK}(b:r4 fn=#[]):(∀w,(dx fn a.tmps).run P w=b6 (cC #[]) w)/\∀w,(dx fn a.tmps).events P w #[]=#[]:=by
 constructor<;>intro w<;>simp[dx,b]
def iF (q:Array F)(n e:Nat):Array F:=q++#[n9 n,n9 e]
section
variable {Q:F->ag->Prop}{own:Nat->Prop}{w:ag}{J R O n e:Nat}{H:bK}{cs:List aP}{q:Array F}{qa:F}{c:aP}{n0 e0:Nat}
def RF(j:Knows H 18 [(0,.func (gH O) #[] #[]),(1,(aZ R))])(E:b8 H=[])(F:jl rM own w)(L:own R)(s:own J)(V:R≠J)(hx:w.heap[R]? =K (ax #[(aZ J)] 74 (0,0)))(t:q.size=6)(D:w.heap[J]? =K (ax (iF q n e0) 119 (0,0)))
 (i:gq (jO jK) (λa=>decide (a<16)) H (fill H (B0 J++(zA J n e++xM J R O qa))) q7 qS) (o:∀a,(λa=>decide (a<=13/\a≠1/\a≠10)) a=af->ek q7 a ai=af) (r:mZ q7<=m)
 (G:∀z,tX rM own J (ax (iF q n e) 119 (0,0)) w z->Xe (aM av) av Q own (di c (cC #[])) cs z):
 Xe (aM av) av Q own ((base 53).at qS [bW (jO jK) (kO ed (jO jK) m k q7 [])]) (c::cs) w:=by
 have g:=mM (aM av) av Q;refine sr (Dn:=λa=>decide (a<=13/\a≠1/\a≠10)) (u:=16) g ay j IL ?_ ?_ ?_ m k q7 qS i o r;intro b a f M o _ d;have S:a<16:=cM M;have T:¬(a<=13/\a≠1/\a≠10):=cM o;have:a=1\/a=10\/a=14\/a=15:=aa;rcases this with rfl|rfl|rfl|rfl;cases(show K _=K f from d);exact⟨_,rfl,aq ⟨rfl,jd Y (b.of Y) Tryz.isAgg74 (an L) (rP hx Y)⟩⟩;cases(show K _=K f from d);exact⟨_,rfl,aq ⟨rfl,dX (wA Y (b.of Y) Y)⟩⟩;cases(show K _=K f from d);exact⟨_,rfl,aq ⟨rfl,dX (Fu Y (b.of Y))⟩⟩;cases(show K _=K f from d);exact⟨_,rfl,aq ⟨rfl,dX (nu (off':=7) Y (b.of Y) Tryz.underlying119 Y Tryz.sizeOf27 Y)⟩⟩;intro f d m k q7 qS i u r U _;have b:=j.fill (B0 J++(zA J n e++xM J R O qa)) Y;have l:=tC (Dn:=λa=>decide (a<=16)) i u RD (λh p=>by
  have:h<=16:=cM p;show h<17;omega)
 cases(show K _=K f from d);have⟨B,C⟩:=zM i u Y j.size IL (λh p=>l h (by
  have:h<17:=p;simp;omega))
 rw[C];subst B;refine xJ g F (n:=J) ay d Y s (ax (cX ((iF q n e0).toList.take 7++(bt bM (e:Int)).cells.toList++(iF q n e0).toList.drop (7+(bt bM (e:Int)).cells.size))) 119) trivial (wB (n:=J) (off:=7) (v:=n9 e) Y (b.of Y) (b.of Y) Sb (λW y=>by simp[lC] at y;rw[y];rfl) (an s) D (by
  show 7+1<=(iF q n e0).size;simp[iF,t])) λP x=>?_
 refine cQ g (Iq g ?_);have v:=Yq (P:=av) (fn:=jK) (a:=bG (fill H (B0 J++(zA J n e++xM J R O qa))) (jO jK)[16].dst cI) Tryz.results53;refine ua g Y (by rw[put_defers,rH];exact E) Tryz.func53 v.1 v.2 (G P ?_);have A:cX ((iF q n e0).toList.take 7++(bt bM (e:Int)).cells.toList++(iF q n e0).toList.drop (7+(bt bM (e:Int)).cells.size))=iF q n e:=by
  apply Array.toList_inj.1;have N:I (dD q)=6:=cM t;simp[iF,lC,List.take_append,List.drop_append,N];rw[ja aa,List.drop_eq_nil_of_le aa]
 rw[A] at x;exact x;intro l;exact absurd (l 16 ay) ay
def Rv(j:Knows H 18 [(0,.func (gH O) #[] #[]),(1,(aZ R))])(p:b8 H=[])(z:jl rM own w)(l:own R)(t:own J)(D:R≠J)(hx:w.heap[R]? =K (ax #[(aZ J)] 74 (0,0)))(u:q.size=6)(M:w.heap[J]? =K (ax (iF q n0 e0) 119 (0,0)))
 (k x:Nat) (h:gq (jO jK) (λa=>decide (a<13)) H (fill H (zA J n e++xM J R O qa)) q7 qS) (r:∀a,(λa=>decide (2<=a/\a<=7)) a=af->ek q7 a ai=af) (B:mZ q7<=k)
 (S:∀E m,tX rM own J (ax (iF q n e0) 119 (0,0)) w E->tX rM own J (ax (iF q n e) 119 (0,0)) E m->Xe (aM av) av Q own (di c (cC #[])) cs m):
 Xe (aM av) av Q own ((base 53).at qS [bW (jO jK) (kO ed (jO jK) k x q7 [])]) (c::cs) w:=by
 have y:=mM (aM av) av Q;refine sr (Dn:=λa=>decide (2<=a/\a<=7)) (u:=13) y ay j IK ?_ ?_ ?_ k x q7 qS h r B;intro d a f U r _ b;have ad:a<13:=cM U;have ae:¬(2<=a/\a<=7):=cM r;have:a=0\/a=1\/a=8\/a=9\/a=10\/a=11\/a=12:=aa;rcases this with rfl|rfl|rfl|rfl|rfl|rfl|rfl;cases(show K _=K f from b);exact⟨_,rfl,aq ⟨rfl,jd Y (d.of Y) Tryz.isAgg74 (an l) (rP hx Y)⟩⟩;cases(show K _=K f from b);exact⟨_,rfl,aq ⟨rfl,jd Y (d.of Y) Tryz.isAgg74 (an l) (rP hx Y)⟩⟩;cases(show K _=K f from b);exact⟨_,rfl,aq ⟨rfl,dX (gz Y (d.of Y))⟩⟩;cases(show K _=K f from b);exact⟨_,rfl,aq ⟨rfl,dX (wA Y (d.of Y) Y)⟩⟩;cases(show K _=K f from b);exact⟨_,rfl,aq ⟨rfl,dX (wA Y (d.of Y) Y)⟩⟩;cases(show K _=K f from b);exact⟨_,rfl,aq ⟨rfl,dX (Fu Y (d.of Y))⟩⟩;cases(show K _=K f from b);exact⟨_,rfl,aq ⟨rfl,dX (nu (off':=6) Y (d.of Y) Tryz.underlying119 Y uJ Y)⟩⟩;intro f b k x q7 qS h v B A _;have d:=j.fill (zA J n e++xM J R O qa) Y;have o:=tC (Dn:=λa=>decide (a<=13/\a≠1/\a≠10)) h v RA (λg s=>by
  have:g<=13/\g≠1/\g≠10:=cM s;show g<17;omega)
 cases(show K _=K f from b);have G:bz qS (.tmp 15)=dG (K ⟨J,6,Z⟩):=aB (A 15 ay) (d.slot 15 _ Y);have F:bz qS (.tmp 12)=n9 n:=aB (A 12 ay) (d.slot 12 _ Y);refine xJ y z (n:=J) ay b Y t (ax (cX ((iF q n0 e0).toList.take 6++(bt bM (n:Int)).cells.toList++(iF q n0 e0).toList.drop (6+(bt bM (n:Int)).cells.size))) 119) trivial (wB (n:=J) (off:=6) (v:=n9 n) Y G F TC (λaj C=>by simp[lC] at C;rw[C];rfl) (an t) M (by
  show 6+1<=(iF q n0 e0).size;simp[iF,u])) λX i=>?_
 have L:cX ((iF q n0 e0).toList.take 6++(bt bM (n:Int)).cells.toList++(iF q n0 e0).toList.drop (6+(bt bM (n:Int)).cells.size))=iF q n e0:=by
  apply Array.toList_inj.1;have V:I (dD q)=6:=cM u;simp[iF,lC,List.take_append,List.drop_append,V]
 rw[L] at i;have N:=h.AR (l2:=B0 J) (rD:=λa=>decide (a<16)) (n:=18) (v:=cI) v b j.size IK Y (λg s=>by
  have:g<13:=cM s;simp;omega) Y Ry (λab p=>cV p)
 refine RF (n:=n) (e:=e) (e0:=e0) (qa:=qa) j p (z.set i) l t D (aB (i.at_ R (an l) D) hx) u i.set N o ?_ λm W=>S X m i W;have⟨_,_,P,T,_⟩:=mem_ready v;have:=yy (b5 h.size P) T;omega;intro o;exact absurd (o 13 ay) ay
end
def NQ (J:List dB->(Nat->Prop)->ag->Prop)(S:Nat->Prop)(Q:ag)(cu:Nat)(e:Array F)(c:List dB×Nat×Nat)(f:gL)(b:ag):Prop:=
 f=aR (cC #[])/\(∃d,J c.1 d b/\∀a,d a->S a\/U Q.heap<=a)/\(∀a,a<U Q.heap->¬S a->a≠cu->b.heap[a]? =Q.heap[a]?)/\b.heap[cu]? =K (ax (iF e c.2.1 c.2.2) 119 (0,0))/\U Q.heap<=U b.heap
section
variable {Post:F->ag->Prop}{J:List dB->(Nat->Prop)->ag->Prop}{Go:List dB->Bool}{Q:ag}{S:Nat->Prop}{T cu xb:Nat}{l:List (bF×Int)}{H:List Bd}{aj:List Int}{O:List bJ}{L r M p x:Nat}{B:Option aN}{b7 fO:Nat->Nat}{A:Option aN}{y bN bH:Nat}{E:Option aN}{rb bY bE:Nat}{V:Nat->Nat->List az}{dP n0 e0:Nat}{sk:Bool}
def Rw(t:Cons (aM av) av Post T J Go)(aJ:Go []=af)(bn:FQ l H aj O V)(i:J [] S Q)(hF:∀w,(∀a,a<U Q.heap->¬S a->a≠cu->py w Q a)->U Q.heap<=U w.heap->FM w l H aj O L M B x b7 fO A y bN E rb bY)(bc:0<I H->¬S x)(ar:¬S cu)(bd:¬S xb)(bm:xb≠cu)
 (hx:Q.heap[xb]? =K (ax #[(aZ cu)] 74 (0,0))) (W:Q.heap[cu]? =K (ax (iF (mS L (I l) r M (I l) p B (I H) dP A (I aj) bH E (I O) bE sk) n0 e0) 119 (0,0))):
 sU (aM av) av Post 53 #[.func (gH T) #[] #[],(aZ xb)] Q (NQ J S Q cu (mS L (I l) r M (I l) p B (I H) dP A (I aj) bH E (I O) bE sk) (eZ sk H aj O (cY (I l) (aj++O.map bJ.col)) V Go 0 (I H) [] 0)):=by
 intro aF aG bk bR Z aL;have am:=mM (aM av) av Post;have az:cu<U Q.heap:=(dY.1 W).1;have N:xb<U Q.heap:=(dY.1 hx).1;have a0:=t.bound _ _ _ i;refine Xe.go (own:=λa=>a<U Q.heap) ?_ (λa e=>e) Z;rw[enter_at _ Tryz.func53 Y];have u:=Cn (.func (gH T) #[] #[]) (aZ xb) 18 ay;have X:b8 (⟨#[Value.func (gH T) #[] #[],(aZ xb)]++jh (18-2) cI,[]⟩:bK)=[]:=rfl;have a3:pq Q cu 0 (dD (mS L (I l) r M (I l) p B (I H) dP A (I aj) bH E (I O) bE sk)):=λj v i=>by
  refine yd W j v ?_;have bb:j<6:=(fq.1 i).1;simp only[iF,Array.toList_append];rw[ru (by simpa [mS] using bb)];exact i
 show Xe _ _ Post _ ((base 53).at ⟨#[Value.func (gH T) #[] #[],(aZ xb)]++jh (18-2) cI,[]⟩ [b9 (gu 0 (jO jK) af)]) (aF::aG) Q;generalize (⟨#[Value.func (gH T) #[] #[],(aZ xb)]++jh (18-2) cI,[]⟩:bK)=bs at u X;generalize aw:qv (aI L (I l) r) (aI M (I l) p) (ah B (I H) dP) (ah A (I aj) bH) (ah E (I O) bE) sk=o;have bi:cw (mS L (I l) r M (I l) p B (I H) dP A (I aj) bH E (I O) bE sk).toList.toArray=o:=by rw[<-aw];rfl
 refine xI (Ph:=λc=>decide (c<7)) (l:=xM cu xb T o) am yC (sr (u:=7) am ay u IJ ?_ ?_ ?_);intro h c g Z _ _ d;have bx:c<7:=cM Z;have:c=0\/c=1\/c=2\/c=3\/c=4\/c=5\/c=6:=aa;rcases this with rfl|rfl|rfl|rfl|rfl|rfl|rfl;cases(show K _=K g from d);exact⟨_,rfl,aq ⟨rfl,jd Y (h.of Y) Tryz.isAgg74 (an N) (rP hx Y)⟩⟩;cases(show K _=K g from d);exact⟨_,rfl,aq ⟨rfl,jd Y (h.of Y) Tryz.isAgg74 (an N) (rP hx Y)⟩⟩;cases(show K _=K g from d);exact⟨_,rfl,aq ⟨rfl,jd Y (h.of Y) Tryz.isAgg74 (an N) (rP hx Y)⟩⟩;cases(show K _=K g from d);exact⟨_,rfl,aq ⟨rfl,dX (Fu Y (h.of Y))⟩⟩;cases(show K _=K g from d);exact⟨_,rfl,aq ⟨rfl,dX (nu (off':=0) Y (h.of Y) Tryz.underlying119 Y Tryz.sizeOf115 Y)⟩⟩;cases(show K _=K g from d);exact⟨_,rfl,aq ⟨rfl,Va (cs:=dD (mS L (I l) r M (I l) p B (I H) dP A (I aj) bH E (I O) bE sk)) Y (h.of Y) vJ Y zZ (an az) a3 bi⟩⟩;cases(show K _=K g from d);exact⟨_,rfl,aq ⟨rfl,dX (gz Y (h.of Y))⟩⟩;intro g d aH bo bZ a F ab bP ap _;have h:=u.fill (xM cu xb T o) Y;have a5:=tC (Dn:=λc=>decide (2<=c/\c<=7)) F ab Rz (λj i=>by
  have:2<=j/\j<=7:=cM i;show j<17;omega)
 have a1:b8 a=[]:=by rw[F.xO,rH];exact X
 cases(show K _=K g from d);have aE:bz a (.tmp 9)=o:=aB (ap 9 ay) (h.slot 9 _ Y);have aD:bz a (.tmp 10)= .func (gH T) #[] #[]:=aB (ap 10 ay) (h.slot 10 _ Y);refine As (R:=λs=>HQ J S s (eZ sk H aj O (cY (I l) (aj++O.map bJ.col)) V Go 0 (I H) [] 0)) (vs:= #[o,.func (gH T) #[] #[]]) Y d Y Y (D2 aE aD) Tryz.func54 abv Y (RG a1) (λs f=>?_) (λs v P f bl ad be=>?_) (λs bu br ⟨k,_⟩=>cV k) (λs br ⟨k,_⟩=>cV k);have a8:=t.p0 _ _ _ s i (λa b=>f.at_ a (a0 a b)) f.size;rw[<-aw];exact X4 t aJ bn a8 (λw aY bj=>hF w (λa b z _ g d aQ=>aY a (cL b f.size) z g (aB (f.at_ a b) d) aQ) (dj f.size bj)) bc;obtain⟨k,ae,al,a9,bV,ao⟩:=bl;cases k;generalize eZ sk H aj O (cY (I l) (aj++O.map bJ.col)) V Go 0 (I H) [] 0=q at*;have b0:=f.size;have R:∀a,a<U Q.heap->¬S a->P.heap[a]? =Q.heap[a]? :=λa b z=>aB (a9 a aa z) (f.at_ a b);have a6:=F.AR (l2:=zA cu q.2.1 q.2.2) (rD:=λc=>decide (c<13)) (n:=18) (v:=cC #[n9 q.2.1,n9 q.2.2]) ab d u.size IJ Y (λj i=>by
  have:j<7:=cM i;simp;omega) Y Rx (λbv a4=>by cases a4;rfl)
 have a2:¬ae cu:=λe=>ff (ao cu e) ar (λe=>aa);refine Xe.go (own:=λa=>a<U P.heap) ?_ (λa e=>e) be;refine Rv (n:=q.2.1) (e:=q.2.2) (n0:=n0) (e0:=e0) (qa:=o) u X (λa b=>ff b fe (λe=>e)) (by show xb<_;omega) (by show cu<_;omega) bm (aB (R xb N bd) hx) Y (aB (R cu az ar) W) aH bo a6 a5 ?_ λb1 b2 C n=>?_;have⟨_,_,a7,ba,_⟩:=mem_ready ab;have:=yy (b5 F.size a7) ba;omega;intro bO aC m bh;have bD:=C.size;have bF:=n.size;have bI:=m.size;have D:∀a,a<U P.heap->a≠cu->aC.heap[a]? =P.heap[a]? :=λa b G=>aB (m.at_ a b) (aB (n.at_ a (an b) G) (C.at_ a (an b) G));refine aL _ aC ⟨rfl,⟨ae,t.p0 _ _ _ _ al (λa b=>D a (t.bound _ _ _ al a b) (λk=>a2 (k▸b))) aa,λa b=>(ao a b).imp (λe=>e) (λe=>aa)⟩,λa b z G=>aB (D a aa G) (R a b z),aB (m.at_ cu (by show cu<_;omega)) n.set,by omega⟩ bh ⟨?_,?_,?_,aa⟩ (zE bk);rw[m.tape,n.tape,C.tape,ad.tape,f.tape];rw[m.os,n.os,C.os,ad.os,f.os];rw[m.output,n.output,C.output,ad.output,f.output];intro D;exact absurd (D 16 ay) ay
end
end Cc
namespace Cc
open Go Go.Conc
open Ec (az bZ)
section
variable {P:aW}{J:Array cq}{Q:Exit->bK->ag->Prop}{i:Nat}{R:List Nat}{o:cq}{a:bK}{w H:ag}{v:F}
def DD{R:List cq}(d:eF o (eg J a.tmps)=af)(c:(bT (bz a) o).run P w=b6 (eT v) H)(b:wpList P J Q R (bG a o.dst v) H):wpList P J Q (o::R) a w:=by
 simp only[wpList,d,if_true]
 left
 unfold Oper.wp;rw[c];exact b
def aa2{R:List cq}(d:eF o (eg J a.tmps)=af)(c:(bT (bz a) o).run P w=b6 .skip H)(b:wpList P J Q R (bG a o.dst cI) H):wpList P J Q (o::R) a w:=by
 simp only[wpList,d,if_true]
 left
 unfold Oper.wp;rw[c];exact b
def NB(b:wpList P J Q (dD J) a w):wpOps P J Q (eH (U J)) a w:=by
 rw[List.range_eq_range',<-Array.length_toList,wpOps_eq_wpList (dD J) 0 aF];exact b
def Yl{b:TypeInfo}(h:o.op= .buildSlice Qc 1 #[(0,Qp)])(hx:bz a Qp=v)(k:v.cells=#[v])(j:gb P Qc=K (.slice Qd))(g:P.info? Qd=K b)(l:jL b=K x)(n:x.cells.size=1)(c:b.size=1):(bT (bz a) o).run P w=b6 (eT (aI (U w.heap) 1 1)) (cD w (ax #[v] Qd)):=by
 have f:tQ (λe=>K (e*b.size,b.size)) ((wZ (1*b.size)).map (x.cells[· % x.cells.size]!)) #[(0,v)].toList=K #[v]:=by
  rw[c];simp[tQ,k,wZ,Array.zipIdx];apply Array.ext;simp;intro e m d;simp at d;subst d;simp
 unfold bT;simp[h,hx,(run_buildSlice (P:=P) w Qc Qd 1 #[(0,v)] #[v] b x j g l (by rw[c];decide) (by rw[c];decide) f)]
end
structure od(l D rb:Nat)(r:Loop)(pre:List dB)(M:Nat->Prop)(W:ag):Prop where
 st:r.state= .ready
 pn:r.pending=Z
 hl:W.heap[l]? =K (.loop r)
 hD:W.heap[D]? =K (mz (K []))
 ex:∃(rv:F) (vs:List F),W.heap[rb]? =K (ax #[rv] 26 (0,0))/\aT W 0 43 1 rv (I pre) vs/\(∀(i:Nat) (x:dB),pre[i]? =K x->∃v,vs[i]? =K v/\nM v=af/\aT W 0 59 3 v (I x.2) (bZ x.2))/\(∀(i j:Nat) v u g,vs[i]? =K v->vs[j]? =K u->bB v=K g->bB u=K g->i=j)/\∀b,M b↔b=l\/b=D\/b=rb\/K b=bB rv\/∃v∈vs,K b=bB v
def abB:∃i,(aM av).info? 43=K i/\jL i=K aH/\i.size=1/\ji i=24:=⟨Tryz.t43,bl,rfl,rfl,rfl⟩
def X7:((aM av).info? 26).map (·.size)=K 1:=bl
def nB (b:cO):Array cq:=match b.body with
 |some (aU _ (aU _ (aU _ (aU _ (aU (aU _ (ga _ (.rangeFunc _ _ _ (ga _ (gu _ J _))))) _)))))=>J
 |_=> #[]
def CC{v:F}(b:aT u n Qc m v k S):v.cells=#[v]/\nM v=af:=by
 rcases b.2 with⟨rfl,_⟩|⟨e,c,d,rfl,_⟩;exact⟨rfl,rfl⟩;exact⟨rfl,rfl⟩
def Y5{a:bK}{rb n:Nat}{e v:F}{vs:List F}{Q:Exit->bK->ag->Prop}(d:Knows a 40 [(14,v),(12,(aZ rb))])(s:u.heap[rb]? =K (ax #[e] 26 (0,0)))(I:aT u 0 43 1 e n vs)(az:v.cells=#[v])(aC:nM v=af)(aL:n<=2000)
 (ab:∀S m cx,m.heap[rb]? =K (ax #[cx] 26 (0,0))->aT m 0 43 1 cx (n+1) (vs++[v])->(∀b,b<U u.heap->b≠rb->K b≠bB e->m.heap[b]? =u.heap[b]?)->U u.heap<=U m.heap->(∀b,K b=bB cx->K b=bB e\/U u.heap<=b)->Q e4 S m):wpOps (aM av) (nB ic) Q (eH (nB ic).size) a u:=by
 have⟨aD,G,O,M,ad⟩:=abB;have aJ:rb<U u.heap:=(dY.1 s).1;refine NB (DD Y ((jd (S:=rM) (own:=λ_=>True) Y (d.of Y) (λw=>aF) (an trivial) (rP s Y) u (RelB.refl _ _)).1) ?_);replace d:=d.put (d:=30) ay e;refine DD Y ((gz Y (d.of Y) u).1) ?_;replace d:=d.put (d:=31) ay v;refine DD Y (Yl Y (d.of Y) az aE.underlying26 G O Y M) ?_;replace d:=d.put (d:=32) ay (aI (U u.heap) 1 1);have A:∀c,c<U u.heap->(cD u (ax #[v] 43)).heap[c]? =u.heap[c]? :=λc g=>by
  show(gW u.heap _)[c]? =_;rw[p6,if_neg aa]
 have ao:aT (cD u (ax #[v] 43)) 0 43 1 e n vs:=tA I (aV _) λc _ _ g=>A c g;have aj:∀B q,[v][B]? =K q->aA (cD u (ax #[v] 43)) (o9 ⟨U u.heap,0,Z⟩ B)=K q:=λB q ae=>by
  rw[tN];unfold aA;have:bD (cD u (ax #[v] 43)) (U u.heap) #[v] 43:=by
   show(gW u.heap _)[U u.heap]? =_;simp
  simp only[this,e7];simpa using ae
 have N:(cD u (ax #[v] 43)).heap.size=U u.heap+1:=aF;refine Pk.jw Y _ _ 26 Y 0 43 aD aH 1 24 aE.underlying26 G O M ad Y ay e n vs (d.of Y) ao ⟨U u.heap,0,Z⟩ 1 1 [v] (d.of Y) ay Y aj (λq l=>by simp at l;rw[l];exact aC) gy aa (cE _) λcx k z x=>?_;replace d:=d.put (d:=33) ay cx;have ap:∀c,bB e=K c->c≠rb:=λc g j=>by
  rcases I.2 with⟨rfl,_⟩|⟨X,T,V,rfl,_,p,_⟩;cases g;cases g;subst j;rw[s] at p;cases p
 have E:∀b,b<U u.heap->K b≠bB e->k.heap[b]? =u.heap[b]? :=λb h y=>by
  rcases x with⟨f,_⟩|⟨_,f⟩;exact aB (f.block b aa aF) (A b h);exact aB (f.block b aa y) (A b h)
 have aQ:U u.heap+1<=U k.heap:=by
  rcases x with⟨f,_⟩|⟨_,f⟩;rw[<-N];exact f.size;rw[<-N];exact f.size
 have L:=aB (E rb aJ (λj=>ap rb (bA j) Y)) s;have⟨r,am⟩:=CC z;have⟨C,aw,t,_⟩:=wB (P:=aM av) (S:=rM) (own:=λ_=>True) (a:=((((a.put (K 30) e).put (K 31) v).put (K 32) (aI (U u.heap) 1 1)).put (K 33) cx)) (o:=(nB ic)[4]) (w:=k) (n:=rb) (off:=0) (v:=cx) Y (d.of Y) (d.of Y) (b5 r X7) (λq l=>by rw[r] at l;simp at l;rw[l];exact am) (an trivial) L (b5 r (aV 1)) k (RelB.refl _ _);refine aa2 Y aw ?_;have W:cX ((#[e]:Array F).toList.take 0++dD cx.cells++(#[e]:Array F).toList.drop (0+cx.cells.size))=#[cx]:=gJ r;rw[W] at t;have aG:rb<U k.heap:=aa;have D:∀b:Nat,b≠rb->C.heap[b]? =k.heap[b]? :=λb h=>by rw[t.heap,nG,if_neg (λj=>h (bA j))]
 have ar:∀c,bB cx=K c->c≠rb:=λc g j=>by
  rcases z.2 with⟨rfl,_⟩|⟨X,T,V,rfl,_,p,_⟩;cases g;cases g;subst j;rw[L] at p;cases p
 refine ab _ C cx (by rw[t.heap,nG,if_pos Y,if_pos aG]) (tA z (aV _) λc g _ _=>D c (ar c g)) (λb h y al=>aB (D b y) (E b h al)) (by rw[t.heap];simp;omega) λb h=>?_;rcases x with⟨_,f⟩|⟨f,_⟩;exact an (cB ((A8 f (bA h)).1));exact aq (by rw[<-f];exact h)
def us (a:cO):Array cq:=match a.body with
 |some (aU _ (aU _ (aU _ (aU _ (aU (aU _ (ga _ (.rangeFunc _ _ (gu _ b _) _))) _)))))=>b
 |_=> #[]
structure zh(r:Loop)(rb:Nat):Prop where
 ps:r.params=#[28,29]
 H7:r.assign=gu 6 (us ic) ai
 bd:r.body=ga 1 (gu 7 (nB ic) ai)
 sz:U r.tmps=40
 kn:ek r.tmps 12 cI=(aZ rb)
def Y3:((nB ic).toList.all λa=> !E1 a.op)=af:=bl
def Y4:((us ic).toList.all λa=> !E1 a.op)=af:=bl
def DW (f D rb:Nat)(h:Loop)(pre:List dB)(c:Nat->Prop)(b:ag)(g:Nat)(i:List az)(v:F)(e:ag):Prop:=
 ∃d,od f D rb h (pre++[(g,i)]) d e/\(∀a,a<U b.heap->¬c a->K a≠bB v->e.heap[a]? =b.heap[a]?)/\∀a,d a->c a\/K a=bB v\/U b.heap<=a
def od.sh{b D rb:Nat}{c:Loop}{pre:List dB}(h:od b D rb c pre q9 w)(a:gP W'=gP w):od b D rb c pre q9 W':=by
 have⟨i,j,k,l,t,u,m,n,o,p,q⟩:=h;refine⟨i,j,b5 a k,b5 a l,t,u,b5 a m,tA n (aV _) (λg _ _ _=>by rw[a]),λs x r=>?_,p,q⟩;have⟨v,d,e,f⟩:=o s x r;exact⟨v,d,e,tA f (aV _) (λg _ _ _=>by rw[a])⟩
def od.keeps{d D rb:Nat}{h:Loop}{pre:List dB}(k:od d D rb h pre q9 w)(c:∀e,q9 e->u.heap[e]? =w.heap[e]?):od d D rb h pre q9 u:=by
 have⟨l,m,n,o,y,z,p,q,r,s,a⟩:=k;refine⟨l,m,aB (c d ((a d).2 (aq Y))) n,aB (c D ((a D).2 (an (aq Y)))) o,y,z,aB (c rb ((a rb).2 (an (an (aq Y))))) p,tA q (aV _) (λb f _ _=>c b ((a b).2 (an (an (an (aq (bA f))))))),λx A t=>?_,s,a⟩;have⟨v,g,i,j⟩:=r x A t;exact⟨v,g,i,tA j (aV _) (λb f _ _=>c b ((a b).2 (an (an (an (an ⟨v,nO g,bA f⟩))))))⟩
def Y7{e D rb:Nat}{y:Loop}{pre:List dB}{T:List az}(aJ:y.state= .ready)(aL:y.pending=Z)(L:w.heap[e]? =K (.loop y))(l:w.heap[D]? =K (mz (K [])))(al:w.heap[rb]? =K (ax #[x] 26 (0,0)))(M:aT w 0 43 1 x (I pre) S)
 (aM:∀(g:Nat) (A:dB),pre[g]? =K A->∃v,S[g]? =K v/\nM v=af/\aT w 0 59 3 v (I A.2) (bZ A.2)) (aQ:∀(g t:Nat) v d b,S[g]? =K v->S[t]? =K d->bB v=K b->bB d=K b->g=t) (h:∀a,q9 a↔a=e\/a=D\/a=rb\/K a=bB x\/∃v∈S,K a=bB v)
 (ar:aT w 0 59 3 v (I T) (bZ T)) (ap:∀b,bB v=K b->¬q9 b)
 (aH:u.heap[rb]? =K (ax #[cx] 26 (0,0))) (H:aT u 0 43 1 cx (I pre+1) (S++[v])) (J:∀a,a<U w.heap->a≠e->a≠rb->K a≠bB x->u.heap[a]? =w.heap[a]?) (bb:U w.heap<=U u.heap) (aI:∀a,K a=bB cx->K a=bB x\/U w.heap<=a) (aj:gP W=cF u.heap e (.loop y)) (a4:e≠rb) (be:∀b,bB x=K b->b≠e) (a5:∀b,bB cx=K b->b≠e):DW e D rb y pre q9 w n T v W:=by
 have bd:e<U w.heap:=(dY.1 L).1;have aY:D<U w.heap:=(dY.1 l).1;have z:∀a:Nat,a≠e->W.heap[a]? =u.heap[a]? :=λa i=>by rw[aj,nG,if_neg (λc=>i (bA c))]
 have ad:D≠e:=λc=>by rw[c,L] at l;cases l
 have aF:D≠rb:=λc=>by rw[c,al] at l;cases l
 have aG:K D≠bB x:=λc=>by
  rcases M.2 with⟨rfl,_⟩|⟨ae,aD,aE,rfl,_,j,_⟩;cases c;cases c;rw[l] at j;cases j
 have a6:∀d q r,aT w 0 59 3 d q r->∀b,bB d=K b->b<U w.heap/\b≠e/\b≠rb/\K b≠bB x:=λd q r f b s=>by
  rcases f.2 with⟨rfl,_⟩|⟨ae,aD,aE,rfl,_,j,_⟩;cases s;have N:b=ae:=(by cases s;rfl);subst N;refine⟨(dY.1 j).1,(λc=>by rw[c,L] at j;cases j),(λc=>by rw[c,al] at j;cases j),λc=>?_⟩;rcases M.2 with⟨rfl,_⟩|⟨H,a7,a8,rfl,_,aZ,_⟩;cases c;have N:b=H:=(by cases c;rfl);subst N;rw[aZ] at j;cases j
 have ay:∀d q r,aT w 0 59 3 d q r->aT W 0 59 3 d q r:=λd q r f=>tA f (aV _) λb s _ _=>by
  have⟨E,B,G,aC⟩:=a6 d q r f b s;exact aB (z b B) (J b E B G aC)
 have a3:I S=I pre:=by have:=M.1;simpa using this
 refine⟨λa=>a=e\/a=D\/a=rb\/K a=bB cx\/∃d∈S++[v],K a=bB d,⟨aJ,aL,by rw[aj,nG,if_pos Y,if_pos aa],aB (z D ad) (aB (J D aY ad aF aG) l),cx,S++[v],aB (z rb (λc=>a4 (bA c))) aH,?_,λg A o=>?_,λg t d V b f a2 R Q=>?_,λa=>Iff.rfl⟩,λa i P bc=>?_,λa i=>?_⟩;rw[cN];exact tA H (aV _) λb s _ _=>z b (a5 b s);rcases ij g (I pre) with O|O;rw[ru O] at o;have⟨d,E,B,G⟩:=aM g A o;exact⟨d,by rw[ru aa];exact E,B,ay d _ _ G⟩;rw[pG O] at o;have am:g-I pre=0:=by
  have:=(fq.1 o).1;simp at this;omega
 rw[am] at o;simp at o;subst o;refine⟨v,?_,(CC ar).2,ay v _ _ ar⟩;rw[pG aa,a3,am];rfl;have aw:∀(p:Nat) C,(S++[v])[p]? =K C->(p<I S/\S[p]? =K C)\/(p=I S/\C=v):=λp C m=>by
  rcases ij p (I S) with k|k;rw[ru k] at m;exact aq ⟨k,m⟩;rw[pG k] at m;have:p-I S=0:=by
   have:=(fq.1 m).1;simp at this;omega
  rw[this] at m;simp at m;exact an ⟨aa,bA m⟩
 rcases aw g d f with⟨_,X⟩|⟨a9,rfl⟩<;>rcases aw t V a2 with⟨_,ab⟩|⟨ba,rfl⟩;exact aQ g t d V b X ab R Q;exact absurd ((h b).2 (an (an (an (an ⟨d,nO X,bA R⟩))))) (ap b Q);exact absurd ((h b).2 (an (an (an (an ⟨V,nO ab,bA Q⟩))))) (ap b R);omega;have ao:a≠e:=λc=>P ((h a).2 (aq c));have a0:a≠rb:=λc=>P ((h a).2 (an (an (aq c))));have a1:K a≠bB x:=λc=>P ((h a).2 (an (an (an (aq c)))));exact aB (z a ao) (J a i ao a0 a1);rcases i with rfl|rfl|rfl|i|⟨d,f,i⟩;exact aq ((h _).2 (aq Y));exact aq ((h _).2 (an (aq Y)));exact aq ((h _).2 (an (an (aq Y))));rcases aI a i with k|k;exact aq ((h a).2 (an (an (an (aq k)))));exact an (an k);rcases eG.1 f with f|f;exact aq ((h a).2 (an (an (an (an ⟨d,f,i⟩)))));simp at f;subst f;exact an (aq i)
def Y2{c D rb:Nat}{b:Loop}{pre:List dB}{R:List az}(t:zh b rb)(ay:od c D rb b pre q9 w)(a9:I pre<2000)(P:aT w 0 59 3 v (I R) (bZ R))(aH:∀f,bB v=K f->¬q9 f)(h:aP)(i:List aP)(j:Tp):
 ∃l,DW c D rb b pre q9 w nm R v l/\Steps (aM av) (lone (rf c b.fn ((b.params.zip #[bt bM (nm:Int),v]).foldl (λn (m,e)=>cF n m e) b.tmps) b.assign b.body .normal) (h::i) (sh j 0 w)) (lone (di h (ak af)) i l):=by
 obtain⟨z,L,p,ao,S,ae,M,N,ap,ar,aw⟩:=ay;let a:aP:={(default:aP) with fn:=b.fn,kind:=.normal,roundOf:=K c};let u:bK:={tmps:=(b.params.zip #[bt bM (nm:Int),v]).foldl (λn (m,e)=>cF n m e) b.tmps,defers:=[]};have aC:rf c b.fn ((b.params.zip #[bt bM (nm:Int),v]).foldl (λn (m,e)=>cF n m e) b.tmps) b.assign b.body .normal=a.atR u [b9 b.assign,.beginRound,b9 b.body]:=by
  simp[rf,Frame.atR,a,u]
 have Q:c≠rb:=λd=>by rw[d,M] at p;cases p
 have aF:c<U w.heap:=(dY.1 p).1;have A:∀f,bB S=K f->f≠c:=λf r d=>by
  rcases N.2 with⟨rfl,_⟩|⟨al,a7,a8,rfl,_,W,_⟩
  .cases r
  .have aE:f=al:=(by cases r;rfl);subst aE;rw[d,p] at W;cases W
 have B:Knows u 40 [(29,v),(12,(aZ rb))]:=by
  have d:u.tmps=cF (cF b.tmps 28 (bt bM (nm:Int))) 29 v:=by
   show(b.params.zip #[bt bM (nm:Int),v]).foldl (λn (m,e)=>cF n m e) b.tmps=_;rw[t.ps];simp
  refine Knows.cons (Knows.cons (l:=[]) ⟨?_,λs v g=>by simp at g⟩ ?_) ?_
  .rw[d];simp[t.sz]
  .unfold cG;rw[d,jT,nG,if_neg (by decide),nG,if_neg (by decide),<-jT];exact t.kn
  .unfold cG;rw[d,jT,nG,if_pos Y,if_pos (by simp[t.sz])];rfl
 rw[aC,t.H7,t.bd];generalize u=e at B;have aQ:=stepR_region (P:=aM av) (b:=a) (a:=e) (k:=[.beginRound,b9 (ga 1 (gu 7 (nB ic) ai))]) (cs:=h::i) (w:=sh j 0 w) (ops:=us ic) (id:=6);obtain⟨a6,ba,⟨rfl,rfl⟩,aa⟩:=Kn (P0:=aM av) (b:=a) (k:=[.beginRound,b9 (ga 1 (gu 7 (nB ic) ai))]) (cs:=h::i) (ops:=us ic) (Q:=λd E a4=>match d with| .normal=>E=e.put (K 14) v/\a4=sh j 0 w|_=>False) [] Y4 (λ_ _ _ g=>g) (fun⟨_,_,g⟩=>g) (eH (U (us ic))) e (sh j 0 w) (NB (DD rfl ((wz rfl (B.of rfl) (sh j 0 w)).1) ⟨rfl,rfl⟩));rw[oH] at aa;have aY:=stepR_region_end (P:=aM av) (b:=a) (a:=e.put (K 14) v) (k:=[.beginRound,b9 (ga 1 (gu 7 (nB ic) ai))]) (cs:=h::i) (w:=sh j 0 w) (ops:=us ic);have q:=run_beginRound (P:=aM av) (w:=sh j 0 w) (l:=c) (r:=b) p z;have ab:=stepR_beginRound (P:=aM av) (b:=a) (a:=e.put (K 14) v) (k:=[b9 (ga 1 (gu 7 (nB ic) ai))]) (cs:=h::i) (w:=sh j 0 w) Y q;generalize O:(sh j 0 w).putObj c (.loop {b with state:=.busy})=k at ab;have T:∀a:Nat,a≠c->k.heap[a]? =w.heap[a]? :=λa q=>by rw[<-O];exact World.putObj_heap_other (w:=sh j 0 w) q
 have a5:k.heap[c]? =K (.loop {b with state:=.busy}):=by rw[<-O];exact World.putObj_heap_same (w:=sh j 0 w) aF
 have bb:U k.heap=U w.heap:=by rw[<-O];exact World.putObj_size (w:=sh j 0 w)
 have a0:=stepR_block (P:=aM av) (b:=a) (a:=e.put (K 14) v) (k:=[]) (cs:=h::i) (w:=k) (id:=1) (c:=gu 7 (nB ic) ai);have a1:=stepR_region (P:=aM av) (b:=a) (a:=e.put (K 14) v) (k:=[fI 1]) (cs:=h::i) (w:=k) (ops:=nB ic) (id:=7);have C:=B.put (d:=14) (by decide) v;obtain⟨G,o,⟨cx,H,J,x,V,y⟩,ad⟩:=Kn (P0:=aM av) (b:=a) (k:=[fI 1]) (cs:=h::i) (ops:=nB ic) (Q:=λd E l=>match d with| .normal=>∃cx,l.heap[rb]? =K (ax #[cx] 26 (0,0))/\aT l 0 43 1 cx (I pre+1) (ae++[v])/\(∀a,a<U k.heap->a≠rb->K a≠bB S->l.heap[a]? =k.heap[a]?)/\U k.heap<=U l.heap/\(∀a,K a=bB cx->K a=bB S\/U k.heap<=a)|_=>False) [] Y3 (λ_ _ _ g=>g) (fun⟨_,_,g⟩=>g) (eH (U (nB ic))) (e.put (K 14) v) k (Y5 (n:=I pre) (vs:=ae) ((C.nil.cons (C.slot 12 _ rfl)).cons (C.slot 14 _ rfl)) ((T rb (λd=>Q (bA d))).trans M) (tA N (aV _) λf r _ _=>T f (A f r)) (CC P).1 (CC P).2 (by omega) λE l cx H J x V y=>⟨cx,H,J,x,V,y⟩);rw[oH] at ad;have aL:∀f,bB cx=K f->f≠c:=λf r d=>by
  rcases y f (bA r) with g|g
  .exact A f (bA g) d
  .omega
 have am:o.heap[c]? =K (.loop {b with state:=.busy}):=(x c (by omega) Q (λd=>A c (bA d) Y)).trans a5;have a2:=stepR_region_end (P:=aM av) (b:=a) (a:=G) (k:=[fI 1]) (cs:=h::i) (w:=o) (ops:=nB ic);have a3:=stepR_inBlock (P:=aM av) (b:=a) (a:=G) (k:=[]) (cs:=h::i) (w:=o) (id:=1);have aD:=run_endRound (P:=aM av) (w:=o) (l:=c) (r:={b with state:=.busy}) Z am;have X:=stepR_round_end (P:=aM av) (b:=a) (a:=G) (cs:=i) (w:=o) (c:=h) Y Y aD;have aj:({({b with state:=.busy}:Loop) with state:=if lF (Z:Option de) then .ready else .done,pending:=Z}:Loop)=b:=by
  obtain⟨bc,bd,be,bh,bi,bj,bk,bl⟩:=b;simp only at z L;subst z L;rfl
 rw[aj] at X;refine⟨o.putObj c (.loop b),Y7 z L p ao M N ap ar aw P aH H J (λa q aG aI aJ=>(x a (by omega) aI aJ).trans (T a aG)) (by omega) (λa q=>(y a q).imp (λg=>g) (λg=>by omega)) Y Q A aL,?_⟩;exact .head aQ (aa.trans (.head aY (.head ab (.head a0 (.head a1 (ad.trans (.head a2 (.head a3 (.one X)))))))))
def LU:fN (aM av) af (gu 6 (us ic) ai)=af/\fN (aM av) af (ga 1 (gu 7 (nB ic) ai))=af:=⟨bl,bl⟩
def GF{a:Loop}{rb:Nat}(c:zh a rb)(d:a.pending=Z):dm (aM av) (.loop a):=⟨b5 c.H7 LU.1,b5 c.bd LU.2,λe b=>by rw[d] at b;cases b⟩
def FE(i:Mk Qn w u)(a:aT u n Qc m v k S):aT w n Qc m v k S:=by
 obtain⟨b,a|⟨e,c,d,rfl,f,g,h⟩⟩:=a;exact⟨b,aq a⟩;exact⟨b,an ⟨e,c,d,rfl,f,i.un.row.2 g,h⟩⟩
def od.Ul{b D rb:Nat}{c:Loop}{pre:List dB}(h:od b D rb c pre q9 w)(r:zh c rb)(a:Mk (aM av) u w):od b D rb c pre q9 u:=by
 have⟨i,d,j,k,x,y,l,m,n,o,p⟩:=h;refine⟨i,d,a.at_ b _ j (GF r d),a.at_ D _ k (λA q=>cV q),x,y,a.un.row.2 l,FE a m,λt z s=>?_,o,p⟩;have⟨v,e,f,g⟩:=n t z s;exact⟨v,e,f,FE a g⟩
def od.aau{c D rb:Nat}{b:Loop}{pre:List dB}(g:od c D rb b pre q9 w)(y:zh b rb)(a:Un w u):od c D rb b pre q9 u:=by
 have⟨h,i,j,k,s,t,l,m,n,o,p⟩:=g;refine⟨h,i,a.o j (by simp[pz]),a.o k (by simp[pz]),s,t,a.row.1 l,FF a m,λr x q=>?_,o,p⟩;have⟨v,d,e,f⟩:=n r x q;exact⟨v,d,e,FF a f⟩
def Y0{Post:F->ag->Prop}{l D rb:Nat}{g:Loop}(e:zh g rb):Cons (aM av) av Post l (od l D rb g) (λ_=>af):=by
 refine⟨λpre i f r k n _=>k.keeps n,λpre i f k c a=>?_,λpre i f A ao v m _ V _ _ aj W=>?_⟩;have⟨w,d,H,J,aH,ap,L,x,M,az,N⟩:=k;have aE:I ap=I pre:=by have:=x.1;simpa using this
 rcases(N c).1 a with rfl|rfl|rfl|a|⟨aJ,ae,a⟩;exact(dY.1 H).1;exact(dY.1 J).1;exact(dY.1 L).1;exact(A8 x (bA a)).2;obtain⟨q,S,rfl⟩:=List.mem_iff_getElem.1 ae;have⟨aL,t,_,G⟩:=M q pre[q] (dH aa);rw[dH S] at t;cases t;exact(A8 G (bA a)).2;refine⟨g,m.hl,GF e m.pn,by rw[e.ps];rfl,λj ar aC Z aD P ad=>?_⟩;have⟨B,b⟩:=AZ (aM av) f;have O:=m.Ul e b;have al:=FE b aj;refine Cx (aY:=[j]) mh (Stop:=λu aY h=>aY=[]/\u=di j (ak af)/\DW l D rb g pre i B A ao v h) (λu aY h o=>?_) ad b.hp b.un (λC=>?_) (λay aI h u2 o X d ab=>?_);obtain⟨_,rfl,_⟩:=o;rintro⟨_,s,z⟩;rcases Z.2 with⟨aF,q,aG,am,p⟩|⟨l,am,p⟩;simp[di,p] at z;simp[di,p] at z;have⟨r,w,d⟩:=Y2 (nm:=A) e O V al W j [fF] C;exact⟨_,[],r,d,rfl,rfl,w⟩;obtain⟨C,aw,rfl,rfl,E,K,T,R⟩:=o;have y:U B.heap=U f.heap:=bA b.un.size;refine P _ u2 ⟨rfl,E,(K.sh (W':=h) Y).aau e d.un,λc a n Q=>d.same b.un (T c (by rw[y];exact a) n Q),λc a=>?_⟩ trivial ab X;rw[<-y];exact R c a
end Cc
namespace Ec
open Go.RowKit Pk Pm
def fU (b:Nat)(a:Int):Bool:=decide (0<=a)&&decide (a<(b:Int))
def oV{a b c d e f:F}(g:w.heap[n]? =K (ax #[a,b,c,d,e,f] Qc (0,0))):aA w ⟨n,0,Z⟩=K a/\aA w ⟨n,1,Z⟩=K b/\aA w ⟨n,2,Z⟩=K c/\aA w ⟨n,3,Z⟩=K d/\aA w ⟨n,4,Z⟩=K e/\aA w ⟨n,5,Z⟩=K f:=by
 unfold aA;simp[g]
def S7{c:List bJ}{rb bY bE:Nat}{sk:Bool}(aL:I aj<=aS)(aM:I c<=aS)
 (az:0<I aj->P=K ⟨k,bN,Z⟩) (aG:0<I aj->k<U w.heap) (aF:∀R,R<I aj->aJ w k (bN+R) (z9 (aX aj R 0))) (g:dy w QC rb bY c):
 bn 68 #[qv (ah O n m) v x (ah P (I aj) bH) (ah QC (I c) bE) sk] w λh s=>∃T,h=aR (ak T)/\(T=af↔(∀a (d:a<I aj),fU n aj[a]=af)/\∀a (d:a<I c),fU n c[a].col=af)/\aD w s:=by
 unfold qv;unfold aS at aL aM;have A:=λb aw=>S6 O n m v x (ah P (I aj) bH) (ah QC (I c) bE) sk b aw;unfold qv at A;have ar:=ap g;have ad:X (aD w (w.alloc (ax #[ah O n m,v,x,ah P (I aj) bH,ah QC (I c) bE,ak sk] 115))):=(bU _ _).alloc (aV _) _;have t:X (bD (w.alloc (ax #[ah O n m,v,x,ah P (I aj) bH,ah QC (I c) bE,ak sk] 115)) (U w.heap) #[ah O n m,v,x,ah P (I aj) bH,ah QC (I c) bE,ak sk] 115):=me _ _;go_enter aE.func68,Tryz.ntmps68;go_wp2_with fail
 go_loopw [10] (λa wr=>∃b:Nat,b<=I aj/\a=n9 b/\(∀a (d:a<I aj),a<b->fU n aj[a]=af)/\bD wr (U w.heap) #[ah O n m,v,x,ah P (I aj) bH,ah QC (I c) bE,ak sk] 115/\aD w wr) (λa _=>I aj-bS (bw a))
 exact⟨0,cE _,rfl,λa4 _ d=>aa,t.o,ad.o⟩;obtain⟨b,aI,rfl,y,u,p⟩:=hrel;have B:=ap p;have t:=ap u;have S:=ap y;have z:=p.size;have⟨a5,a6,a7,a8,a9,ba⟩:=oV u;by_cases N:b<I aj;obtain rfl:=az aa;have aC:=aG (by omega);have ab:aJ wr k (bN+b) (z9 (aX aj b 0)):=(bq p (p:=⟨k,bN+b,Z⟩) aC).trans (aF b N);have aH:aX aj b 0=aj[b]:=by rw[ep,dH N];rfl
 rw[aH] at ab;have D:X (fU n aj[b]=ai->¬((∀a (d:a<I aj),fU n aj[a]=af)/\∀a (d:a<I c),fU n c[a].col=af)):=λd L=>by
  have:=L.1 b N;rw[d] at this;cases this
 have G:X (fU n aj[b]=af->∀a (d:a<I aj),a<b+1->fU n aj[a]=af):=λd a M ay=>by
  by_cases h:a=b;subst h;exact d;exact S.o a M aa
 generalize aj[b]=e at*;have f:=A e;have Q:fU n e=(decide (0<=e)&&decide (e<(n:Int))):=rfl;rw[<-Q] at f;cases i:fU n e
 .rw[i] at f;have E:=ap (D.o i);go_wp2_with (go_at_call 106;refine(f _).mono ?_;rintro h s ⟨rfl,j⟩;have r:=ap (B.o.trans (j.mono z)));go_ret;exact⟨ai,rfl,by simp only[fA,false_iff];exact E.o,r.o⟩
 rw[i] at f;have H:=ap (G.o i);go_wp2_with (go_at_call 106;refine(f _).mono ?_;rintro h s ⟨rfl,j⟩;have r:=ap (B.o.trans (j.mono z));have ae:X (bD s (U w.heap) #[ah O n m,v,x,ah (K ⟨k,bN,Z⟩) (I aj) bH,ah QC (I c) bE,ak sk] 115):=(cS j _ (bC t.o)).trans t.o)
 go_roundw
 exact⟨b+1,aa,by go_num,H.o,ae.o,r.o⟩;simp[bw];omega;have am:X (∀a (d:a<I aj),fU n aj[a]=af):=λa d=>S.o a d aa;go_wp2_with fail
 go_loopw [22] (λa Y=>∃b:Nat,b<=I c/\a=n9 b/\(∀a (d:a<I c),a<b->fU n c[a].col=af)/\bD Y (U w.heap) #[ah O n m,v,x,ah P (I aj) bH,ah QC (I c) bE,ak sk] 115/\aD w Y) (λa _=>I c-bS (bw a))
 exact⟨0,cE _,rfl,λa4 _ d=>aa,t.o,B.o⟩;obtain⟨b,aI,rfl,y,u,p⟩:=hrel;have z:=p.size
 skip
 by_cases q:b<I c
 .have g:=ar.o.below p;obtain rfl:=g.addr (by omega);have aQ:=g.c0 b q;have aY:=g.c1 b q;have aZ:=g.c2 b q;have a0:=g.c3 b q;have a1:=g.c4 b q;have a2:=g.c5 b q;have a3:=g.c6 b q;have D:X (fU n c[b].col=ai->¬((∀a (d:a<I aj),fU n aj[a]=af)/\∀a (d:a<I c),fU n c[a].col=af)):=λd L=>by
   have:=L.2 b q;rw[d] at this;cases this
  have G:X (fU n c[b].col=af->∀a (d:a<I c),a<b+1->fU n c[a].col=af):=λd a M ay=>by
   by_cases h:a=b;subst h;exact d;exact y a M (by omega)
  generalize c[b]=bb at*;have⟨e,o,l⟩:=bb;dsimp only at aQ aY aZ a0 a1 a2 a3;go_upto_region 10 with fail;have⟨ab,be,bh,bi,bj,bk,bl⟩:=vq (me wr (ax #[z9 e,ak o.null,z9 o.n,au o.s,ak l.null,z9 l.n,au l.s] 61));have V:aD wr (wr.alloc (ax #[z9 e,ak o.null,z9 o.n,au o.s,ak l.null,z9 l.n,au l.s] 61)):=(bU _ _).alloc (aV _) _;have J:=(cS V _ (bC u)).trans u;have⟨a5,a6,a7,a8,a9,ba⟩:=oV J;have C:=ap (p.trans (V.mono z));generalize wr.alloc (ax #[z9 e,ak o.null,z9 o.n,au o.s,ak l.null,z9 l.n,au l.s] 61)=bc at*;generalize U wr.heap=bd at*;have f:=A e;have Q:fU n e=(decide (0<=e)&&decide (e<(n:Int))):=rfl;rw[<-Q] at f;have W:=C.o.size;cases i:fU n e
  .rw[i] at f;have E:=ap (D.o i);go_wp2_with (go_at_call 106;refine(f _).mono ?_;rintro h s ⟨rfl,j⟩;have r:=ap (C.o.trans (j.mono W)));go_ret;exact⟨ai,rfl,by simp only[fA,false_iff];exact E.o,r.o⟩
  rw[i] at f;have H:=ap (G.o i);go_wp2_with (go_at_call 106;refine(f _).mono ?_;rintro h s ⟨rfl,j⟩;have r:=ap (C.o.trans (j.mono W));have al:X (bD s (U w.heap) #[ah O n m,v,x,ah P (I aj) bH,ah (K ⟨rb,bY,Z⟩) (I c) bE,ak sk] 115):=(cS j _ (bC J)).trans J)
  go_roundw
  exact⟨b+1,by omega,by go_num,H.o,al.o,r.o⟩;simp[bw];omega
 have ao:X ((∀a (d:a<I aj),fU n aj[a]=af)/\∀a (d:a<I c),fU n c[a].col=af):=⟨am.o,λa d=>y a d aa⟩;go_wp2;go_ret;exact⟨af,rfl,by simp only[true_iff];exact ao.o,p⟩
structure yX(w:ag)(kb n:Nat)(c k:Int):Prop where
 ex:∃j:Nat,c=(j:Int)/\j<n/\kb<U w.heap/\aA w ⟨kb,j*2+1,Z⟩=K (z9 k)/\(k=1\/k=2\/k=3)
def yX.below(c:yX w n m M qA)(a:aD w u):yX u n m M qA:=by
 obtain⟨b,d,e,f,g,h⟩:=c.ex;have i:=a.size;exact⟨b,d,e,by omega,aB (bq a (p:=⟨n,b*2+1,Z⟩) f) g,h⟩
def ox (a:Int)(b:bJ):Bool:=gT b.low a&&gT b.high a
def Tb{a:List bJ}(j:Int->Int){rb bY bE:Nat}{sk:Bool}(aZ:I a<=aS)(a0:n<=aS)(h:dy w O rb bY a)(aY:∀ao∈a,yX w m n ao.col (j ao.col)):
 bn 69 #[qv (aI m n k) v x y (ah O (I a) bE) sk] w λl A=>∃T,l=aR (ak T)/\(T=af↔∀b (g:b<I a),ox (j a[b].col) a[b]=af)/\aD w A:=by
 unfold qv;unfold aS at aZ a0;have aC:=ap h;have aw:X (aD w (w.alloc (ax #[aI m n k,v,x,y,ah O (I a) bE,ak sk] 115))):=(bU _ _).alloc (aV _) _;have ay:X (bD (w.alloc (ax #[aI m n k,v,x,y,ah O (I a) bE,ak sk] 115)) (U w.heap) #[aI m n k,v,x,y,ah O (I a) bE,ak sk] 115):=me _ _;go_enter aE.func69,Tryz.ntmps69;go_wp2_with fail
 go_loopw [9] (λb wr=>∃c:Nat,c<=I a/\b=n9 c/\(∀b (g:b<I a),b<c->ox (j a[b].col) a[b]=af)/\bD wr (U w.heap) #[aI m n k,v,x,y,ah O (I a) bE,ak sk] 115/\aD w wr) (λb _=>I a-bS (bw b))
 exact⟨0,cE _,rfl,λbr _ g=>aa,ay.o,aw.o⟩;obtain⟨c,bj,rfl,Y,ab,H⟩:=hrel;have Q:=ap H;have a1:=H.size
 skip
 by_cases i:c<I a
 .have h:=aC.o.below H;obtain rfl:=h.addr (by omega);have a2:=h.c0 c i;have a3:=h.c1 c i;have a4:=h.c2 c i;have a5:=h.c3 c i;have a6:=h.c4 c i;have a7:=h.c5 c i;have a8:=h.c6 c i;have⟨s,V,bd,aJ,aL,W⟩:=((aY a[c] (c8 i)).below H).ex;have S:X (ox (j a[c].col) a[c]=ai->¬∀b (g:b<I a),ox (j a[b].col) a[b]=af):=λg aM=>by
   have:=aM c i;rw[g] at this;cases this
  have aG:X (ox (j a[c].col) a[c]=af->∀b (g:b<I a),b<c+1->ox (j a[b].col) a[b]=af):=λg b aQ bh=>by
   by_cases l:b=c;subst l;exact g;exact Y b aQ (by omega)
  generalize a[c]=ar at*;generalize j ar.col=t at*;have⟨bI,f,e⟩:=ar;dsimp only at V a2 a3 a4 a5 a6 a7 a8;subst V;go_upto_region 4 with fail;have⟨bk,bl,bm,bo,aj,al,am⟩:=vq (me wr (ax #[n9 s,ak f.null,z9 f.n,au f.s,ak e.null,z9 e.n,au e.s] 61));have N:aD wr (wr.alloc (ax #[n9 s,ak f.null,z9 f.n,au f.s,ak e.null,z9 e.n,au e.s] 61)):=(bU _ _).alloc (aV _) _;have be:=(bq N (p:=⟨m,s*2+1,Z⟩) aJ).trans aL;have C:=(cS N _ (bC ab)).trans ab;have⟨bs,bu,bv,bx,bF,bH⟩:=oV C;have G:=ap (Q.o.trans (N.mono a1));have z:U wr.heap<(wr.alloc (ax #[n9 s,ak f.null,z9 f.n,au f.s,ak e.null,z9 e.n,au e.s] 61)).heap.size:=aF;generalize wr.alloc (ax #[n9 s,ak f.null,z9 f.n,au f.s,ak e.null,z9 e.n,au e.s] 61)=bc at*;generalize U wr.heap=u at*;have bi:(s:Int)<(n:Int):=by omega
  have o:=λM=>JZ f t M W;have E:=λM=>JZ e t M W;have r:ox t ⟨(s:Int),f,e⟩=(gT f t&&gT e t):=rfl;have P:=G.o.size;cases ad:gT f t
  .rw[ad] at o r;have L:=ap (S.o r);go_wp2_with (go_at_call 82;refine(o _).mono ?_;rintro l A ⟨rfl,d⟩;have p:=ap (G.o.trans (d.mono P));clear d);go_ret;exact⟨ai,rfl,by simp only[fA,false_iff];exact L.o,p.o⟩
  .rw[ad] at o r;cases ae:gT e t
   .rw[ae] at E r;have L:=ap (S.o r);go_wp2_with (first|(go_at_call 82;refine(o _).mono ?_;rintro l A ⟨rfl,d⟩;have p:=ap (G.o.trans (d.mono P));have a9:=(bq d (p:=⟨u,4,Z⟩) z).trans aj;have ba:=(bq d (p:=⟨u,5,Z⟩) z).trans al;have bb:=(bq d (p:=⟨u,6,Z⟩) z).trans am;have B:X (bD A (U w.heap) #[aI m n k,v,x,y,ah (K ⟨rb,bY,Z⟩) (I a) bE,ak sk] 115):=(cS d _ (bC C)).trans C;clear d o)|(go_at_call 82;refine(E _).mono ?_;rintro l D ⟨rfl,q⟩;have J:X (aD w D):=p.o.trans (q.mono (by have:=p.o.size;omega));have R:X (bD D (U w.heap) #[aI m n k,v,x,y,ah (K ⟨rb,bY,Z⟩) (I a) bE,ak sk] 115):=(cS q _ (bC B.o)).trans B.o;clear q));go_ret;exact⟨ai,rfl,by simp only[fA,false_iff];exact L.o,J.o⟩
   .rw[ae] at E r;have aH:=ap (aG.o r);go_wp2_with (first|(go_at_call 82;refine(o _).mono ?_;rintro l A ⟨rfl,d⟩;have p:=ap (G.o.trans (d.mono P));have a9:=(bq d (p:=⟨u,4,Z⟩) z).trans aj;have ba:=(bq d (p:=⟨u,5,Z⟩) z).trans al;have bb:=(bq d (p:=⟨u,6,Z⟩) z).trans am;have B:X (bD A (U w.heap) #[aI m n k,v,x,y,ah (K ⟨rb,bY,Z⟩) (I a) bE,ak sk] 115):=(cS d _ (bC C)).trans C;clear d o)|(go_at_call 82;refine(E _).mono ?_;rintro l D ⟨rfl,q⟩;have J:X (aD w D):=p.o.trans (q.mono (by have:=p.o.size;omega));have R:X (bD D (U w.heap) #[aI m n k,v,x,y,ah (K ⟨rb,bY,Z⟩) (I a) bE,ak sk] 115):=(cS q _ (bC B.o)).trans B.o;clear q))
    go_roundw
    case rel=>exact⟨c+1,by omega,by go_num,aH.o,R.o,J.o⟩
    case measure=>simp[bw];omega
 have az:X (∀b (g:b<I a),ox (j a[b].col) a[b]=af):=λb g=>Y b g aa;go_wp2;go_ret;exact⟨af,rfl,by simp only[true_iff];exact az.o,Q.o⟩
def aE.E0:((aM av).info? 61).map (λa=>(jL a,a.size,ji a))=K (K (cw #[z9 0,ak ai,z9 0,au ⟨#[]⟩,ak ai,z9 0,au ⟨#[]⟩]),7,72):=bl
def aE.Tx:((aM av).info? 3).map (λa=>(jL a,a.size,ji a))=K (K (z9 0),1,8):=bl
def PX(b:List Int)(p:Option aN)(f l q:Nat)(a:ag)(V:I b<=1000)(y:0<I b->p=K ⟨f,l,Z⟩)(z:∀e c,(cW b)[e]? =K c->aA a ⟨f,l+e,Z⟩=K c):
 bn 70 #[ah p (I b) q] a λx i=>aD a i/\((I b=0/\∃J,x=aR (ah J 0 0))\/(0<I b/\∃v,x=aR v/\aT i (U a.heap) 3 1 v (I b) (cW b))):=by
 have⟨D,A,Q,C,R⟩:=eU aE.Tx;have n:aD a (a.alloc (ax #[] 3)):=(bU _ _).alloc (aV _) _;have B:aT (a.alloc (ax #[] 3)) (U a.heap) 3 1 (aI (U a.heap) 0 0) 0 []:=⟨rfl,an ⟨U a.heap,0,#[],rfl,aV _,me _ _,aV _,cE _,rfl,rfl⟩⟩;have S:∀(m:aN) (k j:Nat) (d:ag),(binOp .eql 22 (ah (K m) k j) aH).run (aM av) d=b6 (ak ai) d:=λm k j d=>by simp only[binOp];simp[run_equal_slice_nil d 22 3 _ _ _ aE.underlying22]
 have T:∀(k j:Nat) (d:ag),(binOp .eql 22 (ah Z k j) aH).run (aM av) d=b6 (ak af) d:=λk j d=>by simp only[binOp];simp[run_equal_slice_nil d 22 3 _ _ _ aE.underlying22]
 by_cases r:0<I b
 .obtain rfl:=y r;have F:X (∀e c,(cW b)[e]? =K c->aA (a.alloc (ax #[] 3)) (o9 ⟨f,l,Z⟩ e)=K c):=λe c N=>by
   rw[tN];have h:=z e c N;have M:f<U a.heap:=by
    unfold aA at h;rcases ij f (U a.heap) with g|g;exact g;simp[o5 g] at h
   exact aB (bq n (p:=⟨f,l+e,Z⟩) M) h
  have G:X (∀c∈cW b,nM c=af):=λc P=>by obtain⟨ab,_,rfl⟩:=kA.1 P;rfl
  have E:X (I (cW b)=I b*1):=by show _=_;simp[cW]
  have w:=ap n;clear z n y;go_enter aE.func70,Tryz.ntmps70;go_wp2_with (at_builtin;refine jw Y _ _ 22 Y (U a.heap) 3 D (z9 0) 1 8 aE.underlying22 A Q C R Y ay (aI (U a.heap) 0 0) 0 [] Y B ⟨f,l,Z⟩ (I b) q (cW b) Y r E.o F.o G.o gy aa aF ?_;intro W i u t);have o:X (aD a i):=by
   rcases t with⟨h,_⟩|⟨_,h⟩;exact iB w.o h aF aF;exact iB w.o h aF (λL s=>by simp[bB] at s;omega)
  rw[e7,tW] at u;have H:=ap u;go_wp2;go_ret;exact⟨o.o,an ⟨r,_,rfl,H.o⟩⟩
 .have O:I b=0:=by omega
  rw[O];cases p with
  |none=>
   go_enter aE.func70,Tryz.ntmps70;go_wp2;go_ret;exact⟨bU _ _,aq ⟨trivial,_,rfl⟩⟩
  |some m=>
   go_enter aE.func70,Tryz.ntmps70;go_wp2_with (at_builtin;refine r7 _ Y _ _ 22 Y (U a.heap) 3 D 1 aE.underlying22 A C (U a.heap) 0 0 [] Y B m 0 q [] Y aF (λe c g=>by simp at g) (λc g=>by simp at g) aa ?_;intro i u t);have o:X (aD a i):=iB n t aF (λL s=>by simp at s;omega);go_wp2;go_ret;exact⟨o.o,aq ⟨trivial,_,rfl⟩⟩
def PY{a:List bJ}(o:Nat)(W:I a<=1000)(x:0<I a->O=K ⟨n,m,Z⟩)(y:∀d b,(eP a)[d]? =K b->aA w ⟨n,m+d,Z⟩=K b):
 bn 107 #[ah O (I a) o] w λu g=>aD w g/\((I a=0/\∃J,u=aR (ah J 0 0))\/(0<I a/\∃v,u=aR v/\aT g (U w.heap) 61 7 v (I a) (eP a))):=by
 have⟨D,z,R,C,S⟩:=eU aE.E0;have k:aD w (w.alloc (ax #[] 61)):=(bU _ _).alloc (aV _) _;have A:aT (w.alloc (ax #[] 61)) (U w.heap) 61 7 (aI (U w.heap) 0 0) 0 []:=⟨rfl,an ⟨U w.heap,0,#[],rfl,aV _,me _ _,aV _,cE _,rfl,rfl⟩⟩;have T:∀(j:aN) (i h:Nat) (c:ag),(binOp .eql 23 (ah (K j) i h) aH).run (aM av) c=b6 (ak ai) c:=λj i h c=>by simp only[binOp];simp[run_equal_slice_nil c 23 61 _ _ _ aE.underlying23]
 have V:∀(i h:Nat) (c:ag),(binOp .eql 23 (ah Z i h) aH).run (aM av) c=b6 (ak af) c:=λi h c=>by simp only[binOp];simp[run_equal_slice_nil c 23 61 _ _ _ aE.underlying23]
 by_cases p:0<I a
 .obtain rfl:=x p;have F:X (∀d b,(eP a)[d]? =K b->aA (w.alloc (ax #[] 61)) (o9 ⟨n,m,Z⟩ d)=K b):=λd b N=>by
   rw[tN];have f:=y d b N;have M:n<U w.heap:=by
    unfold aA at f;rcases ij n (U w.heap) with e|e;exact e;simp[o5 e] at f
   exact aB (bq k (p:=⟨n,m+d,Z⟩) M) f
  have G:X (∀b∈eP a,nM b=af):=λb Q=>by
   have⟨ad,_,B⟩:=y5.1 Q;simp only[tu,fT,jm,or_false] at B;rcases B with rfl|rfl|rfl|rfl|rfl|rfl|rfl<;>rfl
  have E:=ap (uh a);have t:=ap k;clear y k x;go_enter aE.func107,Tryz.ntmps107;go_wp2_with (at_builtin;refine jw Y _ _ 23 Y (U w.heap) 61 D (cw #[z9 0,ak ai,z9 0,au ⟨#[]⟩,ak ai,z9 0,au ⟨#[]⟩]) 7 72 aE.underlying23 z R C S Y ay (aI (U w.heap) 0 0) 0 [] Y A ⟨n,m,Z⟩ (I a) o (eP a) Y p E.o F.o G.o gy aa aF ?_;intro ab g s r);have l:X (aD w g):=by
   rcases r with⟨f,_⟩|⟨_,f⟩;exact iB t.o f aF aF;exact iB t.o f aF (λL q=>by simp[bB] at q;omega)
  rw[e7,tW] at s;have H:=ap s;go_wp2;go_ret;exact⟨l.o,an ⟨p,_,rfl,H.o⟩⟩
 .have P:I a=0:=by omega
  rw[P];cases O with
  |none=>
   go_enter aE.func107,Tryz.ntmps107;go_wp2;go_ret;exact⟨bU _ _,aq ⟨trivial,_,rfl⟩⟩
  |some j=>
   go_enter aE.func107,Tryz.ntmps107;go_wp2_with (at_builtin;refine r7 _ Y _ _ 23 Y (U w.heap) 61 D 7 aE.underlying23 z C (U w.heap) 0 0 [] Y A j 0 o [] Y aF (λd b e=>by simp at e) (λb e=>by simp at e) aa ?_;intro g s r);have l:X (aD w g):=iB k r aF (λL q=>by simp at q;omega);go_wp2;go_ret;exact⟨l.o,aq ⟨trivial,_,rfl⟩⟩
def Zu(b:w.heap[n]? =K (ax C Qc (0,0)))(c:C[m]? =K v):(bg w ⟨n,m,Z⟩ v).heap[n]? =K (ax C Qc (0,0)):=by
 rw[eE w n m _ _ v b];congr 2;apply vB;intro e;rw[nG]
 split
 rename_i a;subst a
 split
 exact bA c;rename_i d;rw[o5 aa];rfl
def Kz(e:aT w n 61 7 (aI m i j) i S)(b:S[k]? =K v):aT (bg w ⟨m,k,Z⟩ v) n 61 7 (aI m i j) i S:=by
 obtain⟨p,⟨a,_⟩|⟨r,q,d,a,f,g,h,l,o,c⟩⟩:=e;cases a;simp only[lX,kU,r3,and_true,true_and] at a;obtain⟨rfl,rfl⟩:=a;refine⟨p,an ⟨m,j,d,rfl,f,Zu g ?_,h,l,o,c⟩⟩;rw[<-c,ry] at b
 split at b
 simpa using b;cases b
def Vs(f:aT w n m k v i S)(l:0<i):∃d b,v=aI d i b:=by
 obtain⟨j,⟨a,h⟩|⟨e,c,g,a,_⟩⟩:=f;omega;exact⟨e,c,a⟩
def dy.Ke{c:List bJ}(e:aT w n 61 7 (aI m (I c) k) (I c) (eP c)):dy w (K ⟨m,0,Z⟩) m 0 c:=by
 obtain⟨q,⟨a,_⟩|⟨i,g,h,a,j,d,l,o,p,f⟩⟩:=e;cases a;simp only[lX,kU,r3,and_true,true_and] at a;obtain⟨rfl,rfl⟩:=a;refine dy.A3 (bC d) λr v b=>?_;rw[<-f,ry] at b
 split at b
 rw[e7];unfold aA;simp only[d];simpa using b;cases b
def Kv(c:aT w n a j (aI m k i) k S):n<=m:=by
 obtain⟨r,⟨b,_⟩|⟨g,e,f,b,d,h,l,o,p,q⟩⟩:=c;cases b;simp only[lX,kU,r3,and_true,true_and] at b;obtain⟨rfl,rfl⟩:=b;exact d
def Kx(d:aT w n a j (aI m k i) k S):cU w ⟨m,b,Z⟩=ai:=by
 obtain⟨s,⟨c,_⟩|⟨h,f,g,c,l,e,o,p,q,r⟩⟩:=d;cases c;simp only[lX,kU,r3,and_true,true_and] at c;obtain⟨rfl,rfl⟩:=c;simp[cU,e]
def Ku(c:aT w n 61 7 (aI m k i) k S)(b:S[j]? =K v):aA w ⟨m,j,Z⟩=K v:=by
 obtain⟨r,⟨a,_⟩|⟨h,f,g,a,l,d,o,p,q,e⟩⟩:=c;cases a;simp only[lX,kU,r3,and_true,true_and] at a;obtain⟨rfl,rfl⟩:=a;rw[<-e,ry] at b
 split at b
 unfold aA;simp only[d];simpa using b;cases b
def Rt(a:List bJ)(t:Option aN)(ar aM u:Nat)(f:ag)(aC:I a<=1000)(ay:0<I a->t=K ⟨ar,aM,Z⟩)(az:∀aL aZ,(eP a)[aL]? =K aZ->aJ f ar (aM+aL) aZ)(ba:∀aY∈a,aY.low.s.size<=32/\aY.high.s.size<=32):
 bn 71 #[ah t (I a) u] f λg k=>aD f k/\((I a=0/\∃w,g=aR (ah w 0 0))\/(0<I a/\∃v,g=aR v/\aT k (U f.heap) 61 7 v (I a) (eP a))):=by
 have p:=PY u aC ay az;clear ay az;by_cases x:0<I a
 .have al:bn 107 #[ah t (I a) u] f λg k=>aD f k/\∃c o,g=aR (aI c (I a) o)/\aT k (U f.heap) 61 7 (aI c (I a) o) (I a) (eP a):=by
   refine p.mono λg k h=>⟨h.1,?_⟩;obtain⟨_,v,rfl,m⟩:=h.2.resolve_left λh=>absurd h.1 aa;obtain⟨c,o,rfl⟩:=Vs m x;exact⟨c,o,rfl,m⟩
  clear p;go_enter aE.func71,Tryz.ntmps71;go_wp2_with (go_at_call 107;refine al.mono ?_;rintro g a0 ⟨z,c,o,rfl,aG⟩);have ab:=ap z;have am:=ap aG;clear z aG al
  go_loopw [10] (λn wr=>∃b:Nat,b<=I a/\n=n9 b/\aT wr (U f.heap) 61 7 (aI c (I a) o) (I a) (eP a)/\aD f wr) (λn _=>I a-bS (bw n))
  exact⟨0,cE _,rfl,am.o,ab.o⟩;clear ab am;obtain⟨b,br,rfl,m,y⟩:=hrel;have E:=ap y;have s:=ap m;have aH:=y.size;by_cases i:b<I a
  .have l:=dy.Ke m;have O:=l.c0 b i;have P:=l.c1 b i;have Q:=l.c2 b i;have R:=l.c3 b i;have S:=l.c4 b i;have T:=l.c5 b i;have V:=l.c6 b i;simp only[e7] at O P Q R S T V;have J:=ap (x5 a b i 3 _ Y);have H:=ap (x5 a b i 6 _ Y);have⟨a2,a3⟩:=ba a[b] (c8 i);have C:=λL=>Eu a[b].low.s L a2;have D:=λL=>Eu a[b].high.s L a3;clear m y l a2 a3;generalize a[b]=bl at*;have⟨B,d,e⟩:=bl;dsimp only at O P Q R S T V J H C D;go_upto_region 5 with fail;have⟨bc,bd,be,bh,bi,bj,aQ⟩:=vq (me wr (ax #[z9 B,ak d.null,z9 d.n,au d.s,ak e.null,z9 e.n,au e.s] 61));have M:aD wr (wr.alloc (ax #[z9 B,ak d.null,z9 d.n,au d.s,ak e.null,z9 e.n,au e.s] 61)):=(bU _ _).alloc (aV _) _;have F:=ap (E.o.trans (M.mono aH));have a9:=eM s.o M;have bb:U wr.heap<(wr.alloc (ax #[z9 B,ak d.null,z9 d.n,au d.s,ak e.null,z9 e.n,au e.s] 61)).heap.size:=aF;have a8:U wr.heap≠c:=λh=>by have:=(dy.Ke s.o).lt x;omega
   clear M O P Q R S T V E aH s;generalize wr.alloc (ax #[z9 B,ak d.null,z9 d.n,au d.s,ak e.null,z9 e.n,au e.s] 61)=bm at*;generalize U wr.heap=aw at*;go_upto_region 6 with(go_at_call 66;refine(C _).mono ?_;rintro g A ⟨rfl,j⟩;have ad:=ap (F.o.trans (j.mono F.o.size));have q:=ap (eM a9 j);have W:=(bq j (p:=⟨aw,6,Z⟩) bb).trans aQ;have u3:=Ku q.o J.o;have a6:cU A ⟨c,b*7+1+2,Z⟩=ai:=Kx q.o;have bs:=j.size;clear j C);have G:X (aD f (A.setCell ⟨c,b*7+1+2,Z⟩ (au d.s))):=ad.o.setCell (p:=⟨c,b*7+1+2,Z⟩) (Kv q.o) _;have ao:=ap (Kz q.o J.o);have bk:aA (A.setCell ⟨c,b*7+1+2,Z⟩ (au d.s)) ⟨aw,6,Z⟩=K (au e.s):=by
    unfold aA at W ⊢;rw[ef _ _ _ _ a8];exact W
   clear u3 a6 W ad q F bc bd be bh bi bj aQ;generalize A.setCell ⟨c,b*7+1+2,Z⟩ (au d.s)=bo at*;go_upto_region 7 with(go_at_call 66;refine(D _).mono ?_;rintro g a1 ⟨rfl,j⟩;have ae:=ap (G.o.trans (j.mono G.o.size));have r:=ap (eM ao.o j);have u6:=Ku r.o H.o;have a7:cU a1 ⟨c,b*7+4+2,Z⟩=ai:=Kx r.o;clear j D);have a4:X (aD f (a1.setCell ⟨c,b*7+4+2,Z⟩ (au e.s))):=ae.o.setCell (p:=⟨c,b*7+4+2,Z⟩) (Kv r.o) _;have a5:=ap (Kz r.o H.o);clear u6 a7 bk ae r G ao;go_wp2
   go_roundw
   case rel=>exact⟨b+1,aa,by go_num,a5.o,a4.o⟩
   case measure=>simp[bw];omega
  clear m y;go_wp2;go_ret;exact⟨E.o,an ⟨x,_,rfl,s.o⟩⟩
 .have N:I a=0:=by omega
  have aj:bn 107 #[ah t 0 u] f λg k=>aD f k/\∃w,g=aR (ah w 0 0):=by
   rw[N] at p;exact p.mono λg k h=>⟨h.1,(h.2.resolve_right λh=>absurd h.1 aa).2⟩
  rw[N];clear p N x aC;go_enter aE.func71,Tryz.ntmps71;go_wp2_with (go_at_call 107;refine aj.mono ?_;rintro g a0 ⟨z,w,rfl⟩);clear aj
  go_loopw [10] (λn wr=>n=z9 0/\wr=a0) (λn _=>0)
  exact⟨rfl,rfl⟩;obtain⟨rfl,rfl⟩:=hrel;go_wp2;go_ret;exact⟨z,aq ⟨trivial,_,rfl⟩⟩
def Ok (j:ag)(s:ByteArray)(h:gL)(k:ag):Prop:=
 aD j k/\((∃(b:List (bF×Int)) (a:List Bd) (c:List (Bd×F)) (d e g:F),h=aR (cC #[cw #[d,e,g],ak af])/\kT s b a/\c.map bp=a/\iW k (U j.heap) b c d e g/\(∀i f,kT s i f->i=b/\f=a))\/
  (h=aR (cC #[cw #[aH,aH,aH],ak ai])/\∀b a,¬kT s b a))
def JP(s:ByteArray)(a:ag)(aC:s.size<=aS):
 bn 44 #[au s] a (Ok a s):=by
 have J:X (bD (a.alloc (ax #[aH,aH,aH] 105)) (U a.heap) #[aH,aH,aH] 105):=jY a _;have V:X (aD a (a.alloc (ax #[aH,aH,aH] 105))):=(bU _ _).alloc (aV _) _;go_enter aE.func44,Tryz.ntmps44;go_wp2_with fail;refine(RI s aC).mono ?_;rintro ae c ⟨ap,P⟩;have z:X (bD c (U a.heap) #[aH,aH,aH] 105):=(cS P _ (bC J.o)).trans J.o;have H:X (aD a c):=V.o.trans (P.mono aF);have Q:=bC z.o;rcases ap with⟨e,G,rfl,hcut⟩|⟨rfl,E⟩;rotate_left
 .have y:X (∀b d,¬kT s b d):=λb d f=>E _ _ f.2;have g:(c.alloc (ax #[au ⟨#[]⟩] 9)).heap[U a.heap]? =K (ax #[aH,aH,aH] 105 (0,0)):=by rw[e6 _ _ _ Q];exact z.o
  have j:aD a (c.alloc (ax #[au ⟨#[]⟩] 9)):=H.o.alloc aa _;go_upto_region 2 with fail;generalize c.alloc (ax #[au ⟨#[]⟩] 9)=A at*;have W:X (aD a (gI A (U a.heap) aH aH aH)):=Bb j (aV _) (aV _);have⟨⟨R,S,T⟩,L,M,N⟩:=rU g;obtain⟨⟨l,m,n⟩,-⟩:=rU (zW aH aH aH g);unfold gI at*;go_wp2;simp[jM,dx,Tryz.results44,go_sem,l,m,n];exact⟨W.o,an ⟨rfl,y.o⟩⟩
 skip
 have az:=hcut.len;have aM:=hcut.1;rw[cJ,cJ] at az;have g:(c.alloc (ax #[au e] 9)).heap[U a.heap]? =K (ax #[aH,aH,aH] 105 (0,0)):=by rw[e6 _ _ _ Q];exact z.o
 have j:aD a (c.alloc (ax #[au e] 9)):=H.o.alloc aa _;have al:bD (c.alloc (ax #[au e] 9)) (U c.heap) #[au e] 9:=jY c _;have F:U a.heap<=(c.alloc (ax #[au e] 9)).heap.size:=j.size;have am:G.size<=65536:=aa;have aj:e.size<=65536:=aa;go_upto_region 2 with fail;generalize c.alloc (ax #[au e] 9)=A at*;generalize U c.heap=ad at*;go_wp2_with fail;refine(aaR ad G e A am aj al).mono ?_;rintro ae k ⟨v,⟨b,d,h,aI,aJ,aL,rfl,ay,ao,ar,aw,hF,aG⟩|⟨rfl,E⟩⟩
 .have i:bD k (U a.heap) #[aH,aH,aH] 105:=(cS v _ (bC g)).trans g;have D:=j.trans (v.mono F);have O:=hF.ab7 F;obtain⟨o,ac,q,p,u,t,rfl,rfl,rfl⟩:=O.ES;have Y:X (iW (gI k (U a.heap) (ah o (I b) ac) (ah q (I b) p) (ah u (I h) t)) (U a.heap) b h (ah o (I b) ac) (ah q (I b) p) (ah u (I h) t)):=O.gI i;have x:X (aD a (gI k (U a.heap) (ah o (I b) ac) (ah q (I b) p) (ah u (I h) t))):=Bb D (aV _) (aV _);have Z:X (kT s b d):=⟨ay,by rw[<-ar,<-aw];exact hcut⟩;have ab:X (∀w r,kT s w r->w=b/\r=d):=λw r f=>by
   have⟨B,C⟩:=hcut.mj f.2;exact aG w r f.1 C B
  have⟨⟨R,S,T⟩,L,M,N⟩:=rU i;obtain⟨⟨l,m,n⟩,-⟩:=rU (zW (ah o (I b) ac) (ah q (I b) p) (ah u (I h) t) i);unfold gI at*;go_wp2;simp[jM,dx,Tryz.results44,go_sem,l,m,n];exact⟨x.o,aq ⟨b,d,h,_,_,_,rfl,Z.o,ao,Y.o,ab.o⟩⟩
 have i:bD k (U a.heap) #[aH,aH,aH] 105:=(cS v _ (bC g)).trans g;have D:=j.trans (v.mono F);have x:X (aD a (gI k (U a.heap) aH aH aH)):=Bb D (aV _) (aV _);have y:X (∀b d,¬kT s b d):=λb d f=>by
  have⟨B,C⟩:=hcut.mj f.2;exact E b d f.1 C B
 have⟨⟨R,S,T⟩,L,M,N⟩:=rU i;obtain⟨⟨l,m,n⟩,-⟩:=rU (zW aH aH aH i);unfold gI at*;go_wp2;simp[jM,dx,Tryz.results44,go_sem,l,m,n];exact⟨x.o,an ⟨rfl,y.o⟩⟩
end Ec
namespace Cc
open Go Go.Conc
open Go.RowKit (Below)
open Ec
open Pk
open Pm
def k5(i:aT w n Qc m v k S)(s:0<k):∃a c,v=aI a k c/\n<=a/\a<U w.heap/\∀d e,S[d]? =K e->aA w ⟨a,d,Z⟩=K e:=by
 obtain⟨r,⟨f,g⟩|⟨a,c,l,f,g,h,o,p,q,j⟩⟩:=i;omega;refine⟨a,c,f,g,(dY.1 h).1,λd e b=>?_⟩;rw[<-j,ry] at b
 split at b
 unfold aA;simp only[h];simpa using b;cases b
def yz (g f e:Nat)(b7:Nat->Nat)(d rb c h i:Nat):Nat->Prop:=λa=>a=g\/a=f\/(0<c/\a=e)\/(∃b,b<c/\a=b7 b)\/(0<h/\a=d)\/(0<i/\a=rb)
def FM.kept{z:List (bF×Int)}{o:List Bd}{t:List bJ}{b7 fO:Nat->Nat}{rb bY:Nat}(d:FM w z o aj t n m O k b7 fO P i bN QC rb bY)(q:U w.heap<=U u.heap)(C:∀c,yz n m k b7 i rb (I o) (I aj) (I t) c->py u w c):FM u z o aj t n m O k b7 fO P i bN QC rb bY:=by
 have p:∀c,yz n m k b7 i rb (I o) (I aj) (I t) c->∀s v,aA w ⟨c,s,Z⟩=K v->aA u ⟨c,s,Z⟩=K v:=λc j s v r=>by
  unfold aA at r ⊢;cases x:w.heap[c]? with
  |none=>rw[x] at r;cases r
  |some l=>
   rw[x] at r;cases l<;>first|(cases r;done)|skip
   rw[C c j _ x trivial];exact r
 have y:∀e c,o[e]? =K c->e<I o:=λe c d=>(fq.1 d).1;have g:∀{s v},0<I t->aA w ⟨rb,s,Z⟩=K v->aA u ⟨rb,s,Z⟩=K v:=λh=>p rb (an (an (an (an (an ⟨h,rfl⟩))))) _ _;have f:=d.nr;refine⟨λb l a=>p n (aq Y) _ _ (d.k b l a),λb l a=>p m (an (aq Y)) _ _ (d.e b l a),λe c j=>?_,λe c j b l a D E B=>p (b7 e) (an (an (an (aq ⟨e,y e c j,rfl⟩)))) _ _ (d.c e c j b l a D E B),cL d.lk q,cL d.le q,d.da,λh=>cL (d.ld h) q,λe A=>cL (d.lc e A) q,d.ca,λh=>cL (d.cl h) q,λb a=>p i (an (an (an (an (aq ⟨aa,rfl⟩))))) _ _ (d.cc b a),
  ⟨f.addr,λh=>cL (f.lt h) q,λb a=>g aa (f.c0 b a),λb a=>g aa (f.c1 b a),λb a=>g aa (f.c2 b a),λb a=>g aa (f.c3 b a),λb a=>g aa (f.c4 b a),λb a=>g aa (f.c5 b a),λb a=>g aa (f.c6 b a)⟩⟩
 intro b v a;exact p k (an (an (aq ⟨cB (y e c j),rfl⟩))) _ _ (d.d e c j b v a)
def JV(a:w.heap[n]? =u.heap[n]?):py w u n:=λc b _=>aB a b
def T5(b:Un w u):py u w n:=λe d c=>b.o d λa=>(tv (aM av)).Fh (a▸c)
def sV (b:ag)(c:Nat)(a:F)(aj:List Int):Prop:=(I aj=0/\∃d,a=ah d 0 0)\/(0<I aj/\aT b c 3 1 a (I aj) (cW aj))
def vC (c:ag)(d:Nat)(b:F)(a:List bJ):Prop:=(I a=0/\∃e,b=ah e 0 0)\/(0<I a/\aT c d 61 7 b (I a) (eP a))
def sV.below(a:sV w n v aj)(b:aD w u):sV u n v aj:=a.imp (λa=>a) λa=>⟨a.1,eM a.2 b⟩
def sV.at_(b:sV w n v aj):∃d c e,v=ah d (I aj) e/\(0<I aj->d=K ⟨c,0,Z⟩/\n<=c/\c<U w.heap)/\∀a,a<I aj->aJ w c (0+a) (z9 (aX aj a 0)):=by
 rcases b with⟨f,d,rfl⟩|⟨f,b⟩;exact⟨d,0,0,by rw[f],λb=>absurd b aa,λa g=>absurd g aa⟩;obtain⟨h,e,rfl,i,j,k⟩:=k5 b f;refine⟨_,h,e,rfl,λ_=>⟨rfl,i,j⟩,λa g=>?_⟩;rw[e7];refine k a _ ?_;simp[cW,ep,dH g]
def vC.at_{e:List bJ}(a:vC w n x e):∃d rb f,x=ah d (I e) f/\(0<I e->n<=rb/\rb<U w.heap)/\dy w d rb 0 e:=by
 rcases a with⟨c,d,rfl⟩|⟨c,a⟩;refine⟨d,0,0,by rw[c],λa=>absurd a aa,?_⟩;have h:=tU c;subst h;exact⟨λa=>absurd a aF,λa=>absurd a aF,λb a=>absurd a aF,λb a=>absurd a aF,λb a=>absurd a aF,λb a=>absurd a aF,λb a=>absurd a aF,λb a=>absurd a aF,λb a=>absurd a aF⟩;obtain⟨i,f,rfl,j,g,k⟩:=k5 a c;exact⟨_,i,f,rfl,λ_=>⟨j,g⟩,dy.A3 g λm v l=>by rw[e7];exact k m v l⟩
def tZ:F->Nat
 |ah (K a) _ _=>cH a
 |_=>0
def AJ:F->Nat
 |ah _ _ a=>a
 |_=>0
def Jl{h:List (bF×Int)}{f:List Bd}{b:List (Bd×F)}{H:List bJ}(ab:jy h f)(hL:b.map bp=f)(p:iW w n h b x y z)(az:sV w n T aj)(aE:vC w n qq H):
 ∃(C M u L:Nat) (o:Option aN) (i dP:Nat) (b7 fO:Nat->Nat) (E:Option aN) (D bH:Nat) (G:Option aN) (rb bE:Nat),x=aI C (I h) M/\y=aI u (I h) L/\z=ah o (I f) dP/\T=ah E (I aj) bH/\qq=ah G (I H) bE/\FM w h f aj H C u o i b7 fO E D 0 G rb 0/\∀r,yz C u i b7 D rb (I f) (I aj) (I H) r->n<=r/\r<U w.heap:=by
 have Q:0<I h:=by
  have:=ab.pl.1.1;simp at this;omega
 have P:I b=I f:=by rw[<-hL,ee]
 obtain⟨C,M,rfl,aH,ae,aL⟩:=k5 p.aj Q;obtain⟨u,L,rfl,ar,W,aw⟩:=k5 p.gx Q;obtain⟨E,D,bH,rfl,J,am⟩:=az.at_;obtain⟨G,rb,bE,rfl,aY,aZ⟩:=aE.at_;have ay:∃o i dP,z=ah o (I f) dP/\(0<I f->o=K ⟨i,0,Z⟩/\n<=i/\i<U w.heap)/\∀k e,(xN b)[k]? =K e->aJ w i k e:=by
  rcases vP (I b) with c|c;have⟨al,l,O⟩:=gG p.eV.own;have ap:=tU c;refine⟨al,0,l,by rw[<-P];exact O,λp=>absurd p aa,λk e ad=>?_⟩;rw[ap] at ad;simp[xN] at ad;have⟨j,l,O,t,N,ao⟩:=k5 p.eV.own c;exact⟨_,j,l,by rw[<-P];exact O,λ_=>⟨rfl,t,N⟩,ao⟩
 obtain⟨o,i,dP,rfl,t,N⟩:=ay;have Y:∀a y,f[a]? =K y->∃(d:a<I b),b[a].1=y/\∃j l,b[a].2=aI j (I h) l/\n<=j/\j<U w.heap/\∀k e,(sB y.chunks)[k]? =K e->aJ w j k e:=λa y g=>by
  have d:a<I b:=by rw[P];exact(fq.1 g).1
  have X:b[a].1=y:=by
   have:(b.map bp)[a]? =K y:=by rw[hL];exact g
   rw[sb,dH d] at this;simpa using this
  have aD:I y.chunks=I h:=by
   have:=(ab.eV y (nO g)).len;simpa using this
  have:=p.eV.each b[a] (c8 d);rw[X,aD] at this;have⟨j,l,s,R,S,V⟩:=k5 this Q;exact⟨d,X,j,l,s,R,S,V⟩
 have A:∀a y,f[a]? =K y->(aX b a (⟨0,[]⟩,ak ai)).2=ah (K ⟨tZ (aX b a (⟨0,[]⟩,ak ai)).2,0,Z⟩) (I h) (AJ (aX b a (⟨0,[]⟩,ak ai)).2)/\n<=tZ (aX b a (⟨0,[]⟩,ak ai)).2/\tZ (aX b a (⟨0,[]⟩,ak ai)).2<U w.heap/\∀k e,(sB y.chunks)[k]? =K e->aA w ⟨tZ (aX b a (⟨0,[]⟩,ak ai)).2,k,Z⟩=K e:=λa y g=>by
  have⟨d,_,j,l,s,R,S,V⟩:=Y a y g;have:aX b a (⟨0,[]⟩,ak ai)=b[a]:=by rw[ep,dH d];rfl
  rw[this,s];exact⟨rfl,R,S,V⟩
 refine⟨C,M,u,L,o,i,dP,λa=>tZ (aX b a (⟨0,[]⟩,ak ai)).2,λa=>AJ (aX b a (⟨0,[]⟩,ak ai)).2,E,D,bH,G,rb,bE,rfl,rfl,rfl,rfl,rfl,⟨λq r m=>?_,λq r m=>?_,λa y g=>?_,λa y g q r m a0 e aF=>?_,ae,W,λc=>(t c).1,λc=>(t c).2.2,λa d=>(A a _ (dH d)).2.2.1,λc=>(J c).1,λc=>(J c).2.2,am,aZ⟩,λr aG=>?_⟩;obtain⟨B,rfl⟩:=fq.1 m;rw[e7];have:=(BW (h.map bp) q (by simpa using B)).2;simp only[pH] at this;exact aL _ _ this;obtain⟨B,rfl⟩:=fq.1 m;rw[e7,uQ];exact aw _ _ (by simp[cW,dH B]);obtain⟨d,aM,-⟩:=Y a y g;have s:=(A a y g).1;have aQ:aX b a (⟨0,[]⟩,ak ai)=b[a]:=by rw[ep,dH d];rfl
 intro q v m;have aC:(ud b[a])[q]? =K v:=by
  unfold ud;rw[aM];rw[aQ] at s m;rw[s];exact m
 have:=N _ _ (pO ud 2 IQ b a d q v aC);rw[e7];exact this;obtain⟨B,rfl⟩:=fq.1 m;exact(A a y g).2.2.2 _ _ (pO mP 8 TM y.chunks q B a0 e aF);rcases aG with rfl|rfl|⟨c,rfl⟩|⟨a,d,rfl⟩|⟨c,rfl⟩|⟨c,rfl⟩;exact⟨aH,ae⟩;exact⟨ar,W⟩;exact(t c).2;exact⟨(A a _ (dH d)).2.1,(A a _ (dH d)).2.2.1⟩;exact(J c).2;exact aY c
end Cc
namespace Cc
open Go Go.Conc
open Go.RowKit (Below)
open Ec
open Pk (cW)
abbrev lA:=Option (List (bF×Int)×List Bd)
def rZ (s:ByteArray):lA->Prop
 |none=>∀b a,¬kT s b a
 |some (b,a)=>kT s b a/\∀d c,kT s d c->d=b/\c=a
def mK (a:Nat)(aj:List Int)(c:List bJ):Bool:=dM aj (fU a)&&dM c λb=>fU a b.col
def lO (b:List (bF×Int))(a:Int):Int:=(aX b (bS a) (⟨⟨#[]⟩,0⟩,0)).1.kind
def pX (b:List (bF×Int))(c:List bJ):Bool:=dM c λa=>ox (lO b a.col) a
def fu (c:lA)(aj:List Int)(b:List bJ):Nat:=match c with
 |none=>3
 |some (a,_)=>if mK (I a) aj b then(if pX a b then 0 else 5) else 4
def tI:fU n M=af↔0<=M/\M<(n:Int):=by
 unfold fU;simp
def xD{c:List bJ}:mK n aj c=af↔(∀a∈aj,0<=a/\a<(n:Int))/\∀b∈c,0<=b.col/\b.col<(n:Int):=by
 unfold mK;rw[ez,fD,fD];simp only[tI]
def Ia{c:lA}{e:List bJ}(a:fu c aj e=0):∃b d,c=K (b,d)/\mK (I b) aj e=af/\pX b e=af:=by
 cases c with
 |none=>simp[fu] at a
 |some h=>
  have⟨b,d⟩:=h;simp only[fu] at a
  split at a
  rename_i f
  split at a
  rename_i g;exact⟨b,d,rfl,f,g⟩;cases a;cases a
def zL{a:List (bF×Int)}(e:kV a){k:Int}(g:fU (I a) k=af):lO a k=1\/lO a k=2\/lO a k=3:=by
 have⟨f,h⟩:=tI.1 g;obtain⟨c,rfl⟩:=uM f;have b:c<I a:=aa;have d:=(e.1.2.2 c (cM b)).1;simp only[pH,oO,oo,ez,decide_eq_true_eq] at d;unfold lO;rw[ep];simp[b];omega
def zO{v:az}(c:M=1\/M=2\/M=3)(a:gT v M=af):bf v.s<=32:=by
 have b:∀s:ByteArray,(jI s==[])=af->bf s<=32:=λs a=>by
  have:jI s=[]:=cM a;rw[Fe this];decide
 unfold gT at a
 split at a
 rw[ez] at a;exact b _ a.2
 split at a
 exact b _ a
 split at a
 rw[ez] at a;exact b _ a.2;rw[ez,decide_eq_true_eq] at a;have:=a.2;omega
end Cc
namespace Ec
open Go.RowKit Pk Pm
open Cc (sV vC lA rZ mK lO pX fu tI xD zL zO k5)
def sG (h:ag)(a:Nat)(b c d e g f:F):ag:=bg (bg (bg (bg (bg (bg h ⟨a,0,Z⟩ b) ⟨a,1,Z⟩ c) ⟨a,2,Z⟩ d) ⟨a,3,Z⟩ e) ⟨a,4,Z⟩ g) ⟨a,5,Z⟩ f
def CN{h i j k l f:F}(a b c d e g:F)(m:w.heap[n]? =K (ax #[h,i,j,k,l,f] Qc (0,0))):(sG w n a b c d e g).heap[n]? =K (ax #[a,b,c,d,e,g] Qc (0,0)):=by
 exact eE _ n 5 _ _ g (eE _ n 4 _ _ e (eE _ n 3 _ _ d (eE _ n 2 _ _ c (eE _ n 1 _ _ b (eE w n 0 _ _ a m)))))
def CO(d e f g h i:F)(c:dw m u w)(b:m<=U u.heap)(a:m<=n):dw m u (sG w n d e f g h i):=
 kg (kg (kg (kg (kg (kg c b a) b a) b a) b a) b a) b a
def Bv{a b c d e f:F}(g:w.heap[n]? =K (ax #[a,b,c,d,e,f] Qc (0,0))):cU w ⟨n,0,Z⟩=ai/\cU w ⟨n,1,Z⟩=ai/\cU w ⟨n,2,Z⟩=ai/\cU w ⟨n,3,Z⟩=ai/\cU w ⟨n,4,Z⟩=ai/\cU w ⟨n,5,Z⟩=ai:=by
 unfold cU;simp[g]
def S8(g:Nat)(aj:List Int)(b:List bJ)(k:Option aN)(j:Nat)(l m:F)(e:Option aN)(c bN bH:Nat)(h:Option aN)(rb bY bE:Nat)(sk:Bool)(a:ag)(s:I aj<=aS)(t:I b<=aS)
 (p:0<I aj->e=K ⟨c,bN,Z⟩) (r:0<I aj->c<U a.heap) (q:∀d,d<I aj->aJ a c (bN+d) (z9 (aX aj d 0))) (u:dy a h rb bY b):
 bn 68 #[cw #[ah k g j,l,m,ah e (I aj) bH,ah h (I b) bE,ak sk]] a λf i=>f=aR (ak (mK g aj b))/\aD a i:=by
 refine bL (S7 s t p r q u) ?_;rintro f i ⟨v,rfl,n,o⟩;refine⟨tD ?_,o⟩;rw[rX,n];unfold mK;rw[ez,fD,fD,List.forall_mem_iff_forall_getElem,List.forall_mem_iff_forall_getElem]
def Tc(a:List (bF×Int))(c:List bJ)(h p:Nat)(q r s:F)(m:Option aN)(rb bY bE:Nat)(sk:Bool)(d:ag)(z:I c<=aS)(k:kV a)(e:dy d m rb bY c)(l:∀f∈c,fU (I a) f.col=af)(x:h<U d.heap)(w:∀b o,a[b]? =K o->aJ d h (b*2+1) (z9 o.1.kind)):
 bn 69 #[cw #[aI h (I a) p,q,r,s,ah m (I c) bE,ak sk]] d λi n=>i=aR (ak (pX a c))/\aD d n:=by
 have y:I a<=aS:=by have:=k.each.2;unfold aS;omega
 refine bL (Tb (lO a) z y e λf e=>?_) ?_;have⟨u,B⟩:=tI.1 (l f e);have⟨b,j⟩:=uM u;have g:b<I a:=aa;refine⟨b,j,g,x,?_,zL k (l f e)⟩;have:=w b _ (dH g);rw[this];unfold lO;rw[j,ep];simp[g];rintro i n ⟨A,rfl,t,v⟩;refine⟨tD ?_,v⟩;rw[rX,t];unfold pX;rw[fD,List.forall_mem_iff_forall_getElem]
def dy.cells{e:List bJ}(d:dy w O n m e):∀a g,(eP e)[a]? =K g->aJ w n (m+a) g:=by
 intro a g h;have p:a<I e*7:=by rw[<-uh];exact(fq.1 h).1
 have c:a/7<I e:=aa;have i:a=a/7*7+a%7:=aa;have o:(eP e)[a/7*7+a%7]? =K g:=by rw[<-i];exact h
 have f:∀b v,a%7=b->(tu e[a/7])[b]? =K v->g=v:=λb v k l=>by
  have:=x5 e (a/7) c b v l;rw[<-k,o] at this;exact Az this
 have j:m+a=m+a/7*7+a%7:=aa;rw[j];generalize a%7=b at*;have:b=0\/b=1\/b=2\/b=3\/b=4\/b=5\/b=6:=aa;rcases this with rfl|rfl|rfl|rfl|rfl|rfl|rfl;rw[f 0 _ Y Y];exact d.c0 _ c;rw[f 1 _ Y Y];exact d.c1 _ c;rw[f 2 _ Y Y];exact d.c2 _ c;rw[f 3 _ Y Y];exact d.c3 _ c;rw[f 4 _ Y Y];exact d.c4 _ c;rw[f 5 _ Y Y];exact d.c5 _ c;rw[f 6 _ Y Y];exact d.c6 _ c
structure vT(W:ag)(bse9:Nat)(l:List (bF×Int))(L:List (Bd×F))(a b c cv rv:F)(aj:List Int)(rs:List bJ):Prop where
 f:iW W bse9 l L a b c
 c:sV W bse9 cv aj
 r:vC W bse9 rv rs
def vT.put{f:List (bF×Int)}{e:List (Bd×F)}{g:List bJ}(a:vT w n f e v x y z T aj g)(d:w.heap[m]? =K (ax C 115 (0,0)))(b:Nat)(c:F):vT (bg w ⟨m,b,Z⟩ c) n f e v x y z T aj g:=by
 refine⟨⟨fK a.f.aj (eJ w m b c) (an (ew a.f.aj d ay).symm),fK a.f.gx (eJ w m b c) (an (ew a.f.gx d ay).symm),a.f.eV.put d ay ay b c⟩,a.c.imp (λa=>a) λa=>⟨a.1,fK a.2 (eJ w m b c) (an (ew a.2 d ay).symm)⟩,a.r.imp (λa=>a) λa=>⟨a.1,fK a.2 (eJ w m b c) (an (ew a.2 d ay).symm)⟩⟩
def vT.sG{g:List (bF×Int)}{a:List (Bd×F)}{h:List bJ}(p:vT w n g a v x y z T aj h)(i j k l o q:F)(f:w.heap[m]? =K (ax #[qq,qs,qt,qu,qw,qx] 115 (0,0))):vT (sG w m i j k l o q) n g a v x y z T aj h:=by
 have b:=eE w m 0 _ _ i f;have c:=eE _ m 1 _ _ j b;have d:=eE _ m 2 _ _ k c;have e:=eE _ m 3 _ _ l d;exact(((((p.put f _ _).put b _ _).put c _ _).put d _ _).put e _ _).put (eE _ m 4 _ _ o e) _ _
def NO (c:ag)(a:lA)(aj:List Int)(b:List bJ)(sk:Bool)(k:gL)(d:ag):Prop:=
 aD c d/\((fu a aj b≠0/\k=aR (cC #[cw #[aH,aH,aH,aH,aH,ak ai],n9 (fu a aj b)]))\/
  (∃(l:List (bF×Int)) (h:List Bd) (e:List (Bd×F)) (f g i j m:F),a=K (l,h)/\fu a aj b=0/\k=aR (cC #[cw #[f,g,i,j,m,ak sk],z9 0])/\e.map bp=h/\iW d (U c.heap) l e f g i/\sV d (U c.heap) j aj/\vC d (U c.heap) m b))
def OL(s:ByteArray)(C:lA)(aj:List Int)(c:List bJ)(o:Option aN)(q bN bH:Nat)(p:Option aN)(rb bY bE:Nat)(sk:Bool)(d:ag)(dt:s.size<=aS)(hF:rZ s C)(cg:I aj<=1000)(bk:I c<=1000)
 (cb:0<I aj->o=K ⟨q,bN,Z⟩) (bh:0<I aj->q<U d.heap) (dp:∀b,b<I aj->aJ d q (bN+b) (z9 (aX aj b 0))) (al:dy d p rb bY c):
 bn 48 #[au s,ah o (I aj) bH,ah p (I c) bE,ak sk] d (NO d C aj c sk):=by
 have c5:=ap al;have ar:X (bD (d.alloc (ax #[aH,aH,aH,aH,aH,ak ai] 115)) (U d.heap) #[aH,aH,aH,aH,aH,ak ai] 115):=jY d _;have bI:X (aD d (d.alloc (ax #[aH,aH,aH,aH,aH,ak ai] 115))):=(bU _ _).alloc (aV _) _;go_enter aE.func48,Tryz.ntmps48;go_wp2_with fail;refine(JP s _ dt).mono ?_;rintro y n ⟨ae,⟨a,b4,f,dF,dI,dJ,rfl,aZ,df,aG,dL⟩|⟨rfl,du⟩⟩;rotate_left
 .have dd:fu C aj c=3:=by
   cases C with
   |none=>rfl
   |some dC=>exact(du _ _ hF.1).elim
  have a0:=bC ar.o;have be:(n.alloc (ax #[aH,aH,aH] 105)).heap[U d.heap]? =K (ax #[aH,aH,aH,aH,aH,ak ai] 115 (0,0)):=by rw[e6 _ _ _ (cL a0 ae.size)];exact(cS ae _ a0).trans ar.o
  have ab:aD d n:=bI.o.trans (ae.mono aF);have db:aD d (n.alloc (ax #[aH,aH,aH] 105)):=ab.alloc ab.size _;have u:=ap dd;go_upto_region 3 with fail;generalize n.alloc (ax #[aH,aH,aH] 105)=c7 at*;have D:X (aD d (sG c7 (U d.heap) aH aH aH aH aH (ak ai))):=CO _ _ _ _ _ _ db (aV _) (aV _);have⟨br,bs,bu,bv,bx,bF⟩:=oV be;have⟨a8,a9,ba,bb,bc,bd⟩:=Bv be;have⟨O,P,Q,R,S,T⟩:=oV (CN aH aH aH aH aH (ak ai) be);unfold sG at*;go_wp2;simp[jM,dx,Tryz.results48,go_sem,O,P,Q,R,S,T];exact⟨D.o,aq ⟨by rw[u.o];decide,gJ u.o⟩⟩
 have aL:C=K (a,b4):=by
  cases C with
  |none=>exact(hF _ _ aZ).elim
  |some dC=>
   have⟨c9,da⟩:=hF.2 _ _ aZ;rw[c9,da]
 have dv:0<I a:=by
  have:=aZ.1.pl.1.1;simp at this;omega
 have a2:=ap aZ.1.pl;obtain⟨e,i,rfl,dO,cn,dB⟩:=k5 aG.aj dv;obtain⟨h,g,rfl⟩:=gG aG.gx;obtain⟨j,k,rfl⟩:=gG aG.eV.own;have a0:=bC ar.o;have ab:aD d n:=bI.o.trans (ae.mono aF);have b7:bD n (U d.heap) #[aH,aH,aH,aH,aH,ak ai] 115:=(cS ae _ a0).trans ar.o;have ds:=bC b7;have ad:aD n ((n.alloc (ax #[aI e (I a) i,ah h (I a) g,ah j (I f) k] 105)).alloc (ax #[aI e (I a) i,ah h (I a) g,ah j (I f) k,ah o (I aj) bH,ah p (I c) bE,ak sk] 115)):=((bU _ _).alloc (aV _) _).alloc aF _;have a3:X (bD ((n.alloc (ax #[aI e (I a) i,ah h (I a) g,ah j (I f) k] 105)).alloc (ax #[aI e (I a) i,ah h (I a) g,ah j (I f) k,ah o (I aj) bH,ah p (I c) bE,ak sk] 115)) (U n.heap+1) #[aI e (I a) i,ah h (I a) g,ah j (I f) k,ah o (I aj) bH,ah p (I c) bE,ak sk] 115):=BP _;have aw:X (bD ((n.alloc (ax #[aI e (I a) i,ah h (I a) g,ah j (I f) k] 105)).alloc (ax #[aI e (I a) i,ah h (I a) g,ah j (I f) k,ah o (I aj) bH,ah p (I c) bE,ak sk] 115)) (U d.heap) #[aH,aH,aH,aH,aH,ak ai] 115):=(cS ad _ ds).trans b7;have D:=ap (ab.trans (ad.mono ab.size));have c3:X (iW ((n.alloc (ax #[aI e (I a) i,ah h (I a) g,ah j (I f) k] 105)).alloc (ax #[aI e (I a) i,ah h (I a) g,ah j (I f) k,ah o (I aj) bH,ah p (I c) bE,ak sk] 115)) (U d.heap) a f (aI e (I a) i) (ah h (I a) g) (ah j (I f) k)):=(aG.ab7 aF).below ad;have ck:=cL cn ad.size;have c4:X (∀b J,a[b]? =K J->aA ((n.alloc (ax #[aI e (I a) i,ah h (I a) g,ah j (I f) k] 105)).alloc (ax #[aI e (I a) i,ah h (I a) g,ah j (I f) k,ah o (I aj) bH,ah p (I c) bE,ak sk] 115)) ⟨e,b*2+1,Z⟩=K (z9 J.1.kind)):=λb J t=>by
  obtain⟨bi,rfl⟩:=fq.1 t;have:=(BW (a.map bp) b (cM bi)).2;simp only[pH] at this;exact(bq ad (p:=⟨e,b*2+1,Z⟩) cn).trans (dB _ _ this)
 have bP:X (U d.heap≠U n.heap+1):=by show _≠_;omega
 have bR:X (U d.heap<=U n.heap+1):=by show _<=_;omega
 go_upto_region 5 with fail;generalize (n.alloc (ax #[aI e (I a) i,ah h (I a) g,ah j (I f) k] 105)).alloc (ax #[aI e (I a) i,ah h (I a) g,ah j (I f) k,ah o (I aj) bH,ah p (I c) bE,ak sk] 115)=a5 at*;generalize U n.heap+1=r at*;have cc:=D.o.size;have cd:∀b,b<I aj->aJ a5 q (bN+b) (z9 (aX aj b 0)):=λb t=>(bq D.o (p:=⟨q,bN+b,Z⟩) (bh aa)).trans (dp b t);have cl:=c5.o.below D.o;have am:=S8 (I a) aj c (K ⟨e,0,Z⟩) i (ah h (I a) g) (ah j (I f) k) o q bN bH p rb bY bE sk a5 (by have:=cg;unfold aS;omega) (by have:=bk;unfold aS;omega) cb (λm=>cL (bh m) cc) cd cl;have bO:X (0<I aj->q<U a5.heap):=λm=>cL (bh m) cc;have⟨co,cp,cs,cu,cv,cx⟩:=oV a3.o;cases W:mK (I a) aj c
 .rw[W] at am;have u:X (fu C aj c=4):=by
   show _=_;rw[aL];simp[fu,W]
  go_upto_region 6 with(go_at_call 68;refine am.mono ?_;rintro y B ⟨rfl,l⟩;have M:bD B (U d.heap) #[aH,aH,aH,aH,aH,ak ai] 115:=(cS l _ (bC aw.o)).trans aw.o;have V:=ap (D.o.trans (l.mono D.o.size)));have F:X (aD d (sG B (U d.heap) aH aH aH aH aH (ak ai))):=CO _ _ _ _ _ _ V.o (aV _) (aV _);have⟨br,bs,bu,bv,bx,bF⟩:=oV M;have⟨a8,a9,ba,bb,bc,bd⟩:=Bv M;have⟨O,P,Q,R,S,T⟩:=oV (CN aH aH aH aH aH (ak ai) M);unfold sG at*;go_wp2;simp[jM,dx,Tryz.results48,go_sem,O,P,Q,R,S,T];exact⟨F.o,aq ⟨by rw[u.o];decide,gJ u.o⟩⟩
 rw[W] at am
 skip
 go_upto_region 7 with(go_at_call 68;refine am.mono ?_;rintro y B ⟨rfl,l⟩;have ay:X (bD B (U d.heap) #[aH,aH,aH,aH,aH,ak ai] 115):=(cS l _ (bC aw.o)).trans aw.o;have a4:X (bD B r #[aI e (I a) i,ah h (I a) g,ah j (I f) k,ah o (I aj) bH,ah p (I c) bE,ak sk] 115):=(cS l _ (bC a3.o)).trans a3.o;have V:=ap (D.o.trans (l.mono D.o.size));have c1:=ap (c3.o.below l);have cY:X (∀b,b<I aj->aJ B q (bN+b) (z9 (aX aj b 0))):=λb t=>(bq l (p:=⟨q,bN+b,Z⟩) (bO.o aa)).trans (cd b t);have b0:=ap (cl.below l);have c0:X (0<I aj->q<U B.heap):=λm=>cL (bO.o m) l.size;have bV:X (e<U B.heap/\∀b J,a[b]? =K J->aJ B e (b*2+1) (z9 J.1.kind)):=⟨cL ck l.size,λb J t=>(bq l (p:=⟨e,b*2+1,Z⟩) ck).trans (c4.o b J t)⟩);have⟨co,cp,cs,cu,cv,cx⟩:=oV a4.o;have bl:∀G∈c,fU (I a) G.col=af:=by
  have:=W;unfold mK at this;rw[ez,fD,fD] at this;exact this.2
 have ao:=Tc a c e i (ah h (I a) g) (ah j (I f) k) (ah o (I aj) bH) p rb bY bE sk B (by have:=bk;unfold aS;omega) a2.o b0.o bl bV.o.1 bV.o.2
 skip
 cases Y:pX a c
 .rw[Y] at ao;have u:X (fu C aj c=5):=by
   show _=_;rw[aL];simp[fu,Y,W]
  go_upto_region 8 with(go_at_call 69;refine ao.mono ?_;rintro y E ⟨rfl,l⟩;have M:bD E (U d.heap) #[aH,aH,aH,aH,aH,ak ai] 115:=(cS l _ (bC ay.o)).trans ay.o;have F:=ap (V.o.trans (l.mono V.o.size)));have cQ:X (aD d (sG E (U d.heap) aH aH aH aH aH (ak ai))):=CO _ _ _ _ _ _ F.o (aV _) (aV _);have⟨br,bs,bu,bv,bx,bF⟩:=oV M;have⟨a8,a9,ba,bb,bc,bd⟩:=Bv M;have⟨O,P,Q,R,S,T⟩:=oV (CN aH aH aH aH aH (ak ai) M);unfold sG at*;go_wp2;simp[jM,dx,Tryz.results48,go_sem,O,P,Q,R,S,T];exact⟨cQ.o,aq ⟨by rw[u.o];decide,gJ u.o⟩⟩
 rw[Y] at ao;have u:X (fu C aj c=0):=by
  show _=_;rw[aL];simp[fu,Y,W]
 have c6:X (∀G∈c,G.low.s.size<=32/\G.high.s.size<=32):=λG al=>by
  unfold pX at Y;have az:=fD.1 Y G al;unfold ox at az;rw[ez] at az;exact⟨zO (zL a2.o (bl G al)) az.1,zO (zL a2.o (bl G al)) az.2⟩
 go_upto_region 9 with(go_at_call 69;refine ao.mono ?_;rintro y E ⟨rfl,l⟩;have b2:X (bD E (U d.heap) #[aH,aH,aH,aH,aH,ak ai] 115):=(cS l _ (bC ay.o)).trans ay.o;have bZ:X (bD E r #[aI e (I a) i,ah h (I a) g,ah j (I f) k,ah o (I aj) bH,ah p (I c) bE,ak sk] 115):=(cS l _ (bC a4.o)).trans a4.o;have F:=ap (V.o.trans (l.mono V.o.size));have c2:=ap (c1.o.below l);have cZ:X (∀b,b<I aj->aJ E q (bN+b) (z9 (aX aj b 0))):=λb t=>(bq l (p:=⟨q,bN+b,Z⟩) (c0.o aa)).trans (cY.o b t);have b1:=ap (b0.o.below l));have cy:=PX aj o q bN bH E cg cb (λb dR t=>by
  have⟨bi,y⟩:=fq.1 t;have ci:b<I aj:=by simpa [cW] using bi
  rw[cZ.o b ci,<-y];simp[cW,ep,ci])
 have cA:=λb3 (dl:aD E b3)=>Rt c p rb bY bE b3 bk (λm=>b1.o.addr m) (b1.o.below dl).cells c6.o;go_upto_region 10 with(first|(go_at_call 70;refine cy.mono ?_;rintro y bo ⟨aY,dm⟩;have dq:∃a6,y=aR a6/\sV bo (U E.heap) a6 aj:=dm.elim (fun⟨L,a7,N⟩=>⟨_,N,aq ⟨L,a7,rfl⟩⟩) (fun⟨L,v,N,bj⟩=>⟨v,N,an ⟨L,bj⟩⟩);obtain⟨a6,rfl,cf⟩:=dq;obtain⟨w,dK,x,rfl,_⟩:=cf.at_;have cB:=cA bo aY)|(go_at_call 71;refine cB.mono ?_;rintro y H ⟨ca,dn⟩;have dA:∃bm,y=aR bm/\vC H (U bo.heap) bm c:=dn.elim (fun⟨L,a7,N⟩=>⟨_,N,aq ⟨L,a7,rfl⟩⟩) (fun⟨L,v,N,bj⟩=>⟨v,N,an ⟨L,bj⟩⟩);obtain⟨bm,rfl,ch⟩:=dA;obtain⟨z,dP,A,rfl,_⟩:=ch.at_;have aC:=aY.trans (ca.mono aY.size);have cV:=ap (F.o.trans (aC.mono F.o.size));have dk:bD H (U d.heap) #[aH,aH,aH,aH,aH,ak ai] 115:=(cS aC _ (bC b2.o)).trans b2.o;have aM:bD H r #[aI e (I a) i,ah h (I a) g,ah j (I f) k,ah o (I aj) bH,ah p (I c) bE,ak sk] 115:=(cS aC _ (bC bZ.o)).trans bZ.o;have cG:X (vT H (U d.heap) a f (aI e (I a) i) (ah h (I a) g) (ah j (I f) k) (ah w (I aj) x) (ah z (I c) A) aj c):=⟨c2.o.below aC,(cf.below ca).imp (λm=>m) (λm=>⟨m.1,j6 m.2 F.o.size⟩),ch.imp (λm=>m) (λm=>⟨m.1,j6 m.2 (dj F.o.size aY.size)⟩)⟩;have⟨u0,u1,u2,u3,u4,u5⟩:=oV aM;have⟨dS,dT,dX,dZ,d0,d1⟩:=Bv aM));have b5:=eE _ r 3 _ _ (ah w (I aj) x) aM;have dg:=eE _ r 4 _ _ (ah z (I c) A) b5;have aQ:(bg (bg H ⟨r,3,Z⟩ (ah w (I aj) x)) ⟨r,4,Z⟩ (ah z (I c) A)).heap[U d.heap]? =K (ax #[aH,aH,aH,aH,aH,ak ai] 115 (0,0)):=by
  rw[ef _ _ _ _ bP.o,ef _ _ _ _ bP.o];exact dk
 have cJ:X (vT (bg (bg H ⟨r,3,Z⟩ (ah w (I aj) x)) ⟨r,4,Z⟩ (ah z (I c) A)) (U d.heap) a f (aI e (I a) i) (ah h (I a) g) (ah j (I f) k) (ah w (I aj) x) (ah z (I c) A) aj c):=(cG.o.put aM _ _).put b5 _ _;have dc:aD d (bg (bg H ⟨r,3,Z⟩ (ah w (I aj) x)) ⟨r,4,Z⟩ (ah z (I c) A)):=kg (kg cV.o (aV _) bR.o) (aV _) bR.o;generalize (bg (bg H ⟨r,3,Z⟩ (ah w (I aj) x)) ⟨r,4,Z⟩ (ah z (I c) A))=dE at*;have a1:X _:=cJ.o.sG (aI e (I a) i) (ah h (I a) g) (ah j (I f) k) (ah w (I aj) x) (ah z (I c) A) (ak sk) aQ;have cP:X _:=CO (aI e (I a) i) (ah h (I a) g) (ah j (I f) k) (ah w (I aj) x) (ah z (I c) A) (ak sk) dc (aV _) (aV _);have⟨O,P,Q,R,S,T⟩:=oV (CN (aI e (I a) i) (ah h (I a) g) (ah j (I f) k) (ah w (I aj) x) (ah z (I c) A) (ak sk) aQ);have⟨br,bs,bu,bv,bx,bF⟩:=oV aQ;have⟨a8,a9,ba,bb,bc,bd⟩:=Bv aQ;have⟨co,cp,cs,cu,cv,cx⟩:=oV dg;unfold sG at*;go_wp2;simp[jM,dx,Tryz.results48,go_sem,O,P,Q,R,S,T];exact⟨cP.o,an ⟨a,b4,f,_,_,_,_,_,aL,u.o,rfl,df,a1.o.f,a1.o.c,a1.o.r⟩⟩
end Ec
namespace Ec
open Go.RowKit Pk Pm
open Cc (sV vC lA rZ mK lO pX fu k5 FM Jl yz mS iF FM.kept)
def vR (h:ag)(b:lA)(aj:List Int)(a:List bJ)(sk:Bool)(o:gL)(i:ag):Prop:=
 aD h i/\((fu b aj a≠0/\o=aR (cC #[dG Z,n9 (fu b aj a)]))\/
  (∃(e:List (bF×Int)) (c:List Bd) (d g r f q:Nat) (m:Option aN) (n dP:Nat) (b7 fO:Nat->Nat) (l:Option aN) (k bH:Nat) (p:Option aN) (rb bE:Nat),b=K (e,c)/\fu b aj a=0/\o=aR (cC #[(aZ d),z9 0])/\U h.heap<=d/\i.heap[d]? =K (ax (iF (mS g (I e) r f (I e) q m (I c) dP l (I aj) bH p (I a) bE sk) 0 0) 119 (0,0))/\FM i e c aj a g f m n b7 fO l k 0 p rb 0/\∀j,yz g f n b7 k rb (I c) (I aj) (I a) j->U h.heap<=j/\j<d))
def H8(a:lA)(aj:List Int)(b:List bJ):fu a aj b=0\/fu a aj b=3\/fu a aj b=4\/fu a aj b=5:=by
 unfold fu
 split
 simp
 split
 split<;>simp
 simp
def A6{s:ByteArray}{c:lA}{a:List bJ}{rb bY bE:Nat}{sk:Bool}(am:s.size<=aS)(hF:rZ s c)(ad:I aj<=1000)(ar:I a<=1000)
 (T:0<I aj->O=K ⟨n,bN,Z⟩) (ab:0<I aj->n<U w.heap) (V:∀A,A<I aj->aJ w n (bN+A) (z9 (aX aj A 0))) (ao:dy w P rb bY a):
 bn 31 #[au s,ah O (I aj) bH,ah P (I a) bE,ak sk] w (vR w c aj a sk):=by
 have E:=OL s c aj a O n bN bH P rb bY bE sk w am hF ad ar T ab V ao;have B:=ap hF;go_enter aE.func31,Tryz.ntmps31;go_wp2_with fail;refine E.mono ?_;rintro aQ e ⟨l,⟨a0,rfl⟩|⟨b,d,az,aC,aG,aL,aM,a1,D,M,rfl,R,Q,W,ae⟩⟩
 .have aY:=H8 c aj a;have x:aD w (e.alloc (ax #[aH,aH,aH,aH,aH,ak ai] 115)):=l.alloc l.size _;have u:X (∀m,fu c aj a=m->m≠0->∀v,aD w v->vR w c aj a sk (aR (cC #[dG Z,n9 m])) v):=λm C J v S=>⟨S,aq ⟨b5 C J,by rw[C]⟩⟩;generalize fu c aj a=m at*;have L:m=3\/m=4\/m=5:=aa;rcases L with rfl|rfl|rfl
  .go_wp2;simp[jM,dx,Tryz.results31,go_sem];exact u.o 3 Y ay _ x
  .go_wp2;simp[jM,dx,Tryz.results31,go_sem];exact u.o 4 Y ay _ x
  go_wp2;simp[jM,dx,Tryz.results31,go_sem];exact u.o 5 Y ay _ x
 have al:jy b d:=by
  rw[D] at B;exact B.o.1.1
 obtain⟨o,h,k,g,j,H,dP,b7,fO,i,G,f,q,aw,p,rfl,rfl,rfl,rfl,rfl,N,z⟩:=Jl al R Q W ae;have y:aD e ((e.alloc (ax #[aI o (I b) h,aI k (I b) g,ah j (I d) dP,ah i (I aj) f,ah q (I a) p,ak sk] 115)).alloc (ax #[aI o (I b) h,aI k (I b) g,ah j (I d) dP,ah i (I aj) f,ah q (I a) p,ak sk,z9 0,z9 0] 119)):=((bU _ _).alloc (aV _) _).alloc aF _;have F:X (vR w c aj a sk (aR (cC #[(aZ (U e.heap+1)),z9 0])) ((e.alloc (ax #[aI o (I b) h,aI k (I b) g,ah j (I d) dP,ah i (I aj) f,ah q (I a) p,ak sk] 115)).alloc (ax #[aI o (I b) h,aI k (I b) g,ah j (I d) dP,ah i (I aj) f,ah q (I a) p,ak sk,z9 0,z9 0] 119))):=
  ⟨fJ l (y.mono l.size),an ⟨b,d,U e.heap+1,o,h,k,g,j,H,dP,b7,fO,i,G,f,q,aw,p,D,M,rfl,cB l.size,BP _,N.kept y.size (λr t=>Cc.JV (cS y r (z r t).2)),λr t=>⟨(z r t).1,cB ((z r t).2)⟩⟩⟩
 go_wp2;simp[jM,dx,Tryz.results31,go_sem];exact F.o
def AM:bn 36 #[(aZ n)] w λa b=>a=aR (.func (.func 53) #[] #[(aZ (U w.heap))])/\b=cD w (ax #[(aZ n)] 74):=by
 go_enter aE.func36,Tryz.ntmps36;go_wp2;go_ret;exact⟨rfl,rfl⟩
def AL(c:aJ w n 7 v):bn 32 #[(aZ n)] w λa b=>a=aR v/\b=w:=by
 go_enter aE.func32,Tryz.ntmps32;go_wp2;go_ret;exact⟨rfl,rfl⟩
end Ec
namespace Cc
open Go Go.Conc
open Go.RowKit (Below)
open Ec (az bZ bJ dy qv bF Bd cY kT vR A6 AM AL)
section
variable {J P:aW}{Q:F->ag->Prop}{own:Nat->Prop}{S:List aP}{w:ag}{b:aP}{a:bK}{k:List dW}{H:Array cq}{i:Nat}{O:List Nat}{o:cq}
def we(e:∀(b:Nat) o,w.heap[b]? =K o->dm J o->u.heap[b]? =K o)(c:aA w R=K v):aA u R=K v:=by
 unfold aA at c ⊢;cases d:w.heap[cH R]? with
 |none=>rw[d] at c;cases c
 |some f=>
  rw[d] at c;cases f<;>first|(cases c;done)|skip
  rw[e _ _ d trivial];exact c
def UH(f:∀(b:Nat) o,w.heap[b]? =K o->dm J o->u.heap[b]? =K o)(l:U w.heap<=U u.heap){b h:Nat}{g:List bJ}(e:dy w QC b h g):dy u QC b h g:=
 ⟨e.addr,λj=>cL (e.lt j) l,λd c=>we f (e.c0 d c),λd c=>we f (e.c1 d c),λd c=>we f (e.c2 d c),λd c=>we f (e.c3 d c),λd c=>we f (e.c4 d c),λd c=>we f (e.c5 d c),λd c=>we f (e.c6 d c)⟩
def gM (w:ag):Nat->Prop:=λb=>b<U w.heap
def aa8(d:∀c,RelB own w c->Xe J P Q (gM c) Qf S c):Xe J P Q own Qf S w:=λg c f e=>d c f (λb d=>d) c (RelB.refl _ _) e
def vz(s:Twins J P){f:FuncId}{args:Array dU}{R:ag->F->ag->Prop}(V:eD b=eA)(p:H[i]? =K o)(al:eF o (eg H a.tmps)=af)(aa:o.op= .call {callee:=.value (.func f),args,argTypes:=QE})(N:args.map (bz a)=vs)
 (X:P.funcs[f]? =K QI) (Z:(QI.name == "runtime.NumGoroutine")=ai) (T:QI.body=K QJ) (Y:P.funcs[f]? =J.funcs[f]?) (ad:fh J (b.at a (bW H (i::O)::k)) [])
 (hR:∀c,(∀(b:Nat) o,w.heap[b]? =K o->dm J o->c.heap[b]? =K o)->U w.heap<=U c.heap->Calls J f vs c λd e=>aD c e/\∃v,d=aR v/\R c v e)
 (L:∀v c e g,(∀(b:Nat) o,w.heap[b]? =K o->dm J o->c.heap[b]? =K o)->U w.heap<=U c.heap->aD c e->R c v e->Un e g->RelB (gM w) w g->Xe J P Q (gM g) (b.at (bG a o.dst v) (bW H O::k)) S g):Xe J P Q (gM w) (b.at a (bW H (i::O)::k)) S w:=by
 intro A;refine As (P0:=J) (R:=λn d am=>∃m,Mk J m n/\Tl m n (λd e=>∃c,gP c=gP m/\aD c e/\∃v,d=aR v/\R c v e) d am) V p al aa N X Z T ad (λn h=>?_) (λn v g h aj y ab=>?_) (λn ao g ⟨_,_,_,_,_,_,c,_,_,v,d,_⟩=>by cases d) (λn g ⟨_,_,_,_,_,_,c,_,_,v,d,_⟩=>by cases d) A;have⟨m,l⟩:=AZ J n;intro C D q j G I;exact Iw s l.hp l.un Y (λg ⟨c,_,_,v,d,_⟩=>by cases d) (λr=>bL (hR (sh r 0 m) (λb o p u=>l.at_ b o (aB (h.at_ b (dY.1 p).1) p) u) (by show U w.heap<=U m.heap;rw[<-l.un.size];exact h.size)) λd e ⟨q,j⟩=>⟨sh r 0 m,rfl,q,j⟩) C D q j G λd g W=>I d g ⟨m,l,W⟩;have⟨m,l,r,E,e,j,c,x,t,ap,d,M⟩:=aj;cases d;have ae:U c.heap<=U g.heap:=by rw[j.un.size];exact t.size
 have z:U c.heap=U n.heap:=by rw[x,l.un.size]
 have hrel:RelB (gM w) w g:=⟨λb B=>by
  have q:e.heap[b]? =c.heap[b]? :=cS t b (by rw[z];exact cL (A b B) h.size);exact aB (j.same l.un (by rw[q,x])) (h.at_ b B),dj h.size (by rw[<-z];exact ae),aB y.tape h.tape,aB y.os h.os,aB y.output h.output⟩
 exact Xe.go (L v c (sh r E e) g (λb o p u=>by rw[x];exact l.at_ b o (aB (h.at_ b (dY.1 p).1) p) u) (by rw[z];exact h.size) t M ⟨j.un.size,j.un.at_,j.un.os,j.un.output⟩ hrel) (λb s=>s) ab
def L7{P:aW}{b:aP}{a:bK}{D:Nat}{m:FrameMode}(d:eD b=eA)(g:b8 a=[{target:=.collected D,args:= #[]}])(n:(dM QN (ug P))=af):fh P {b.at a QN with mode:=m} []:=by
 refine⟨⟨λi l=>?_,λe h=>?_,aq d⟩,λf j=>by simp at j,d⟩;have:=fD.1 n i l;cases i<;>first|exact this|trivial|cases this
 have c:e∈b8 a:=h;rw[g] at c;simp only[List.mem_singleton] at c;subst c;rfl
def L8{P:aW}{b:aP}{a:bK}{D:Nat}(c:eD b=eA)(d:b8 a=[{target:=.collected D,args:= #[]}])(e:(dM QN (ug P))=af):fh P (b.at a QN) []:=L7 (m:=.run) c d e
end
def D3{a:bK}{d e f c:dU}(g:bz a d=v)(h:bz a e=x)(j:bz a f=y)(l:bz a c=z): #[d,e,f,c].map (bz a)=#[v,x,y,z]:=by simp[g,h,j,l]
def xh (f:lA)(V:Nat->Nat->List az):Prop:=match f with
 |none=>True
 |some (h,g)=>∀(i:Nat) b,g[i]? =K b->∀(c:Nat) e d,b.chunks[c]? =K e->h[c]? =K d->lH e.text d.1.kind d.2 (b.rows:Int) (V i c)
def Ac (e:lA)(V:Nat->Nat->List az)(aj:List Int)(d:List bJ)(sk:Bool)(Go:List dB->Bool):List dB×Nat×Nat:=match e with
 |none=>([],0,0)
 |some (f,c)=>eZ sk c aj d (cY (I f) (aj++d.map bJ.col)) V Go 0 (I c) [] 0
def nC (c:lA)(V:Nat->Nat->List az)(aj:List Int)(d:List bJ)(sk:Bool):List (List az)×Nat:=
 if fu c aj d=0 then(if (Ac c V aj d sk λ_=>af).2.2=0 then((Ac c V aj d sk λ_=>af).1.map eu,0) else([],(Ac c V aj d sk λ_=>af).2.2)) else([],fu c aj d)
def jq (f:ag)(g:Nat)(v:F)(l:List (List az)):Prop:=
 ∃d,aT f g 43 1 v (I l) d/\(∀(i:Nat) e,l[i]? =K e->∃c,d[i]? =K c/\aT f g 59 3 c (I e) (bZ e))/\∀(i j:Nat) c m h,d[i]? =K c->d[j]? =K m->bB c=K h->bB m=K h->i=j
def BJ (d:List (List az)×Nat)(c:ag)(f:gL)(e:ag):Prop:=
 ∃v,f=aR (cC #[v,n9 d.2])/\jq e (U c.heap) v d.1/\(d.2≠0->v=aH)/\(∀b,b<U c.heap->e.heap[b]? =c.heap[b]?)/\U c.heap<=U e.heap
def abq:(Tryz.f31.name == "runtime.NumGoroutine")=ai:=bl
def abf:(Tryz.f36.name == "runtime.NumGoroutine")=ai:=bl
def NH:(Tryz.f32.name == "runtime.NumGoroutine")=ai:=bl
def jq.nil(d:ag)(e:Nat):jq d e aH []:=⟨[],iO _ _ _ _,λi l c=>by simp at c,λi g j h f c=>by simp at c⟩
def Jn{s:ByteArray}{f:List (bF×Int)}{e:List Bd}{g:List bJ}{V:Nat->Nat->List az}(d:kT s f e)(h:mK (I f) aj g=af)(n:I aj<=1000)(z:I g<=1000)(m:xh (K (f,e)) V):FQ f e aj g V:=by
 have x:I f<=8:=by
  have:=d.1.pl.1.2.1;simpa using this
 have y:I e<=2000:=by
  have u:=Ec.Gr e (λb c=>(d.1.eV b c).lo);have v:=d.1.rows;omega
 refine⟨λb c=>by have:=(d.1.eV b c).len;simpa using this,aa,by have:=d.1.pl.1.1;simp at this;omega,λb c=>(d.1.eV b c).hi,d.1.rows,aa,n,gy,(xD.1 h).1,(xD.1 h).2,λi b c l r t j q=>⟨?_,m i b c l r t j q⟩⟩;obtain⟨p,rfl⟩:=fq.1 j;have:=((d.1.eV b (nO c)).each l p).n;unfold aS;omega
def GD (b:cO):de:=match b.body with
 |some (aU _ (aU _ (aU _ (aU _ (aU _ c)))))=>c
 |_=>eO
section
variable {J:F->ag->Prop}{Q:List aP}{w:ag}{a:bK}{c:aP}
def Knows.same{a d:bK}(b:Knows a n H)(e:d.tmps=a.tmps):Knows d n H:=⟨b5 e b.size,λs v f=>by unfold cG;rw[e];exact b.slot s v f⟩
def NF{D:Nat}(h:b8 a=[{target:=.collected D,args:= #[]}])(g:w.heap[D]? =K (mz (K [])))(n:(dM QN (ug (aM av)))=af)(m:eD Qf=eA)
 (l:∀f b,f.tmps=a.tmps->b8 f=[]->U w.heap<=U b.heap->(∀e,e<U w.heap->e≠D->b.heap[e]? =w.heap[e]?)->b.tape=w.tape->b.os=w.os->b.output=w.output->Xe (aM av) av J (gM b) {Qf.at f QN with mode:=jA} Q b):Xe (aM av) av J (gM w) {Qf.at a QN with mode:=jA} Q w:=by
 intro t s d p;have k:D<U w.heap:=(dY.1 g).1;have j:s.heap[D]? =K (mz (K [])):=aB (d.at_ D k) g;refine UT mh h j (λ_ q=>Xe.go (l {a with defers:=[]} _ Y Y ?_ ?_ d.tape d.os d.output) (λQf i=>i) q) (L7 m h n) p;rw[World.putObj_size];exact d.size;intro e r o;rw[World.putObj_heap_other o];exact d.at_ e r
structure NP(w w':ag)(D:Nat):Prop where
 at_:∀x,x<U w.heap->x≠D->w'.heap[x]? =w.heap[x]?
 size:U w.heap<=U w'.heap
 tape:dV w'=dV w
 os:w'.os=w.os
 output:fS w'=fS w
def Y8{k rb D R h:Nat}(b:Knows a 40 [(12,(aZ rb)),(10,(aZ k))])(r:b8 a=[{target:=.collected D,args:= #[]}])(t:w.heap[D]? =K (mz (K [])))(ae:w.heap[k]? =K (ax (iF C R h) 119 (0,0)))(am:C.size=6)(O:w.heap[rb]? =K (ax #[x] 26 (0,0)))
 (M:∀E,NP w E D->Xe (aM av) av J (gM E) (di c (cC #[if h=0 then x else aH,n9 h])) Q E):Xe (aM av) av J (gM w) ((base 13).at a [fI 0,b9 (GD ic)]) (c::Q) w:=by
 have d:=mM (aM av) av J;have V:(iF C R h)[7]? =K (n9 h):=by simp[iF,Array.getElem?_append,am]
 have P:rb<U w.heap:=(dY.1 O).1;have B:D<U w.heap:=(dY.1 t).1;have I:∀g,(∀(n:Nat) q,w.heap[n]? =K q->dm (aM av) q->g.heap[n]? =K q)->U w.heap<=U g.heap->bn 32 #[(aZ k)] g λf i=>aD g i/\∃v,f=aR v/\(v=n9 h/\i=g):=λg o s=>bL (AL (rP (o k _ ae trivial) V)) λf i ⟨T,H⟩=>⟨b5 H (Below.refl _ _),_,T,rfl,H⟩;refine uU d (cA d (cA d (dg d [0,1,2] Y (dK d b λb=>vz (vs:= #[(aZ k)]) (R:=λg v i=>v=n9 h/\i=g) mh Y Y Y Y (vY (b.of Y)) Tryz.func32 NH Y (bA (ov Y Y Y)) (L8 Y (by simp only[put_defers];exact r) bl) I λv g i aF o s W A aa e=>?_))));obtain⟨rfl,-⟩:=A;replace b:=b.put (d:=35) ay (n9 h);by_cases L:h=0;subst L;refine ei d b Y (ak ai) (zQ (c:=ai) Y (b.of Y) Y ay) λb=>cQ d ?_;refine iq d ai (b.of Y) (nR d ?_);refine cA d (dg d [0,1,2] Y (og d b Y x (jd Y (b.of Y) Tryz.isAgg26 (an (cL P e.size)) (rP (aB (e.at_ rb P) O) Y)) λb=>?_));refine g4 d b λb=>mL d b (z9 0) λb=>?_;refine cQ d (tg d (NF (by simp only[put_defers];exact r) (aB (e.at_ D B) t) bl Y λS G z u ao ab ar aj az=>?_));replace b:=b.same z;have p:=yp (P:=av) Tryz.results13 (b.slot 8 _ Y) (b.slot 9 _ Y);refine ua d Y u Tryz.func13 p.1 p.2 ?_;have:=M G ⟨λm l y=>aB (ab m (cL l e.size) y) (e.at_ m l),dj e.size ao,aB ar e.tape,aB aj e.os,aB az e.output⟩;rw[if_pos Y] at this;exact this;refine ei d b Y (ak af) (zQ (c:=af) Y (b.of Y) Y bO) λb=>?_;refine cQ d (iq d af (b.of Y) (cA d (dg d [0,1,2,3] Y (dK d b λb=>vz (vs:= #[(aZ k)]) (R:=λg v i=>v=n9 h/\i=g) mh Y Y Y Y (vY (b.of Y)) Tryz.func32 NH Y (bA (ov Y Y Y)) (L8 Y (by simp only[put_defers];exact r) bl) (λg o s=>I g (λn q N Z=>o n q (aB (e.at_ n (dY.1 N).1) N) Z) (dj e.size s)) λv g i G o s W A aa j=>?_))));obtain⟨rfl,-⟩:=A;replace b:=b.put (d:=38) ay (n9 h);refine mL d b aH λb=>?_;refine g4 d b λb=>cQ d (tg d ?_);have X:G.heap[D]? =K (mz (K [])):=aB (j.at_ D (cL B e.size)) (aB (e.at_ D B) t);refine NF (by simp only[put_defers];exact r) X bl Y λS aE z u ap ad aw al aC=>?_;replace b:=b.same z;have p:=yp (P:=av) Tryz.results13 (b.slot 8 _ Y) (b.slot 9 _ Y);refine ua d Y u Tryz.func13 p.1 p.2 ?_;have:=M aE ⟨λm l y=>aB (ad m (cL l (dj e.size j.size)) y) (aB (j.at_ m (cL l e.size)) (e.at_ m l)),dj e.size (dj j.size ap),aB aw (aB j.tape e.tape),aB al (aB j.os e.os),aB aC (aB j.output e.output)⟩;rw[if_neg L] at this;exact this
end
def YY (b:cO):de:=match b.body with
 |some (aU _ (aU _ (aU _ (aU _ (aU (aU _ (ga _ c)) _)))))=>c
 |_=>eO
section
variable {J:F->ag->Prop}{M:List aP}{w:ag}{a:bK}{c:aP}{l:List (bF×Int)}{R:List Bd}{aj:List Int}{Q:List bJ}{O p S L C:Nat}{A:Option aN}{b7 fO:Nat->Nat}{E:Option aN}{B bN bH:Nat}{T:Option aN}{rb bY bE:Nat}{V:Nat->Nat->List az}{dP:Nat}{sk:Bool}{cu H bx v8:Nat}
structure Oc(w w':ag)(v8 cu bx:Nat)(q:Array F)(res:List dB×Nat×Nat)(D:Nat)(rv:F):Prop where
 d:w'.heap[D]? =K (mz (K []))
 dl:U w.heap<=D
 c:w'.heap[cu]? =K (ax (iF q res.2.1 res.2.2) 119 (0,0))
 b:w'.heap[bx]? =K (ax #[rv] 26 (0,0))
 own:jq w' v8 rv (res.1.map eu)
 keep:∀x,x<v8->w'.heap[x]? =w.heap[x]?
 size:U w.heap<=U w'.heap
 tape:dV w'=dV w
 os:w'.os=w.os
 output:fS w'=fS w
def Y6(b1:FQ l R aj Q V)(hF:FM w l R aj Q O S A C b7 fO E B bN T rb bY)(aL:∀b,yz O S C b7 B rb (I R) (I aj) (I Q) b->b<cu)(cf:v8<=cu)(ch:cu<bx)(cl:bx<H)
 (az:w.heap[cu]? =K (ax (iF (mS O (I l) p S (I l) L A (I R) dP E (I aj) bH T (I Q) bE sk) 0 0) 119 (0,0))) (ay:w.heap[bx]? =K (ax #[aH] 26 (0,0))) (hx:w.heap[H]? =K (ax #[(aZ cu)] 74 (0,0)))
 (f:Knows a 40 [(27,.func (.func 53) #[] #[(aZ H)]),(12,(aZ bx)),(10,(aZ cu))]) (aD:b8 a=[])
 (aG:∀y r D ab,Knows y 40 [(12,(aZ bx)),(10,(aZ cu))]->b8 y=[{target:=.collected D,args:= #[]}]->Oc w r v8 cu bx (mS O (I l) p S (I l) L A (I R) dP E (I aj) bH T (I Q) bE sk) (eZ sk R aj Q (cY (I l) (aj++Q.map bJ.col)) V (λ_=>af) 0 (I R) [] 0) D ab->Xe (aM av) av J (gM r) ((base 13).at y [fI 0,b9 (GD ic)]) (c::M) r):
 Xe (aM av) av J (gM w) ((base 13).at a [b9 (YY ic),fI 0,b9 (GD ic)]) (c::M) w:=by
 intro cg d n bu;have bV:cu<U w.heap:=(dY.1 az).1;have bR:bx<U w.heap:=(dY.1 ay).1;have bZ:H<U w.heap:=(dY.1 hx).1;have bI:=n.size;generalize t:z4 (base 13).fn a.tmps #[28,29] (gu 6 (us ic) ai) (ga 1 (gu 7 (nB ic) ai)) (U d.heap)=i;have aJ:zh i bx:=by
  rw[<-t];exact⟨rfl,rfl,rfl,f.size,f.slot 12 _ Y⟩
 generalize o:cD (cD d (mz (K []))) (.loop i)=j;have bb:∀b,b<U d.heap->j.heap[b]? =d.heap[b]? :=λb hx=>by
  rw[<-o];show(gW (gW d.heap _) _)[b]? =_;rw[p6,if_neg bO,p6,if_neg aa]
 have bc:j.heap[U d.heap]? =K (mz (K [])):=by
  rw[<-o];show(gW (gW d.heap _) _)[U d.heap]? =_;rw[p6,if_neg aF,p6,if_pos Y]
 have bd:j.heap[U d.heap+1]? =K (.loop i):=by
  rw[<-o];show(gW (gW d.heap _) _)[U d.heap+1]? =_;rw[p6,if_pos aF]
 have cd:U j.heap=U d.heap+2:=by
  rw[<-o];show(gW (gW d.heap _) _).size=_;simp
 have m:∀b,b<U w.heap->j.heap[b]? =w.heap[b]? :=λb hx=>aB (bb b aa) (n.at_ b hx);let aY:Nat->Prop:=λb=>b=U d.heap+1\/b=U d.heap\/b=bx;have bF:i.state= .ready:=by rw[<-t];rfl
 have bD:i.pending=Z:=by rw[<-t];rfl
 have bh:od (U d.heap+1) (U d.heap) bx i [] aY j:=by
  refine⟨bF,bD,bd,bc,aH,[],aB (m bx bR) ay,iO _ _ _ _,λu b h=>by simp at h,λu cn v ad e h=>by simp at h,λb=>?_⟩;show(b=_\/b=_\/b=_)↔_;simp[bB]
 have aC:=Rw (Post:=J) (cu:=cu) (xb:=H) (n0:=0) (e0:=0) (Y0 (Post:=J) (D:=U d.heap) (l:=U d.heap+1) aJ) Y b1 bh (λb5 bm ci=>hF.kept aa λb hx=>by
  have g:=aL b hx;refine λb0 bs bk=>bm b aa (λh=>?_) aa b0 (aB (m b aa) bs) bk;rcases h with h|h|h<;>omega) (λa9 h=>by
  have g:=aL C (an (an (aq ⟨a9,rfl⟩)));rcases h with h|h|h<;>omega) (λh=>by rcases h with h|h|h<;>omega) (λh=>by rcases h with h|h|h<;>omega) aa (aB (m H bZ) hx) (aB (m cu bV) az)
 generalize eZ sk R aj Q (cY (I l) (aj++Q.map bJ.col)) V (λ_=>af) 0 (I R) [] 0=b2 at aC aG;subst o;subst t;refine UW mh (g:=.tmp 27) (gf:=53) (cap:= #[(aZ H)]) (f.of Y) (λargs w=>aE.call53 args w) (aq (bA (ov Y Y Y))) aC (λv x be N=>?_) (λcc r h=>by cases h.1) (λr h=>by cases h.1) (λs h=>?_) (oA Y aD bl) bu;obtain⟨-,⟨al,bi,bo⟩,br,bn,ck⟩:=be;have⟨a3,ao,ap,a4,ab,b3,a5,a6,a7,a8,ar⟩:=bi;refine UU mh ap (GF aJ ao) (by rw[a3];decide) ao (by intro s;simp) ?_;intro _ bv;refine Xe.go (own:=gM _) (aG _ _ (U d.heap) ab ?_ (by show _::b8 a=_;rw[aD]) ?_) (λcb h=>h) bv;exact((f.nil.cons (f.slot 10 _ Y)).cons (f.slot 12 _ Y)).same Y;have bj:∀b,al b->v8<=b:=λb hx=>by
  rcases bo b hx with h|h;rcases h with h|h|h<;>omega;omega
 have q:∀b,b≠U d.heap+1->(x.putObj (U d.heap+1) (.loop {z4 (base 13).fn a.tmps #[28,29] (gu 6 (us ic) ai) (ga 1 (gu 7 (nB ic) ai)) (U d.heap) with state:=.exhausted})).heap[b]? =x.heap[b]? :=λb hx=>World.putObj_heap_other hx;have aQ:∀{k:aK} {X W:Nat} {v:F} {ae:List F},aT x 0 k X v W ae->(∀e,bB v=K e->al e)->aT (x.putObj (U d.heap+1) (.loop {z4 (base 13).fn a.tmps #[28,29] (gu 6 (us ic) ai) (ga 1 (gu 7 (nB ic) ai)) (U d.heap) with state:=.exhausted})) v8 k X v W ae:=λ{k X W v ae} h bP=>by
  obtain⟨aI,⟨g,aw⟩|⟨e,a1,a2,g,aw,z,ba⟩⟩:=h;exact⟨aI,aq ⟨g,aw⟩⟩;refine⟨aI,an ⟨e,a1,a2,g,bj e (bP e (gJ g)),aB (q e (λk=>?_)) z,ba⟩⟩;rw[k,ap] at z;cases z
 refine⟨aB (q _ aa) a4,bI,aB (q _ aa) bn,aB (q _ aa) a5,⟨b3,by rw[ee];exact aQ a6 (λe G=>(ar e).2 (an (an (an (aq (bA G)))))),λu b hx=>?_,a8⟩,λb hx=>?_,?_,aB N.tape n.tape,aB N.os n.os,aB N.output n.output⟩;rw[sb] at hx;cases P:b2.1[u]? with
 |none=>rw[P] at hx;cases hx
 |some b4=>
  rw[P] at hx;simp only[pJ,kU] at hx;subst hx;have⟨ad,am,ca,a0⟩:=a7 u b4 P;exact⟨ad,am,aQ a0 λe G=>(ar e).2 (an (an (an (an ⟨ad,nO am,bA G⟩))))⟩
 refine aB (q b aa) (aB (br b aa (λh=>?_) aa) (m b aa));rcases h with h|h|h<;>omega;rw[World.putObj_size];omega;rw[enter_at _ aE.func53 Y] at h;cases h
end
end Cc
namespace Cc
open Go Go.Conc
open Go.RowKit (Below)
open Ec (az bZ bJ dy qv bF Bd cY kT vR A6 AM AL H8)
def abw(a:ag):(kR 26).run av a=b6 aH a:=Tryz.zeroValue26 a
section
variable {O:F->ag->Prop}{s:ByteArray}{H:lA}{V:Nat->Nat->List az}{aj:List Int}{J:List bJ}{T:Option aN}{cb bN bH:Nat}{S:Option aN}{rb bY bE:Nat}{sk:Bool}{Q:ag}
def YZ(b3:s.size<=aS)(hF:rZ s H)(bn:xh H V)(aY:I aj<=1000)(a2:I J<=1000)
 (bv:0<I aj->T=K ⟨cb,bN,Z⟩) (bF:0<I aj->cb<U Q.heap) (bx:∀G,G<I aj->aJ Q cb (bN+G) (z9 (aX aj G 0))) (ch:dy Q S rb bY J):
 sU (aM av) av O 13 #[au s,ah T (I aj) bH,ah S (I J) bE,ak sk] Q (BJ (nC H V aj J sk) Q):=by
 intro c2 c3 a4 da cd aL;have b:=mM (aM av) av O;refine Xe.go (own:=gM Q) ?_ (λc d=>d) cd;rw[enter_at _ Tryz.func13 Y];have a:=E7 (au s) (ah T (I aj) bH) (ah S (I J) bE) (ak sk) 40 ay;refine cA b (dg b [0,1] Y ?_);refine mL b a aH λa=>?_;refine mL b a (z9 0) λa=>cQ b ?_;refine cA b (dg b [0,1,2,3,4,5,6,7,8,9] Y ?_);refine dK b a λa=>?_;refine dK b a λa=>?_;refine dK b a λa=>?_;refine dK b a λa=>vz (vs:= #[au s,ah T (I aj) bH,ah S (I J) bE,ak sk]) (R:=λp v u=>vR p H aj J sk (aR v) u) mh Y Y Y Y (D3 (a.of Y) (a.of Y) (a.of Y) (a.of Y)) Tryz.func31 abq Y (bA (ov Y Y Y)) (oA Y (by simp only[put_defers]) bl) (λp P E=>?_) λv p u t P E c5 ck al g=>?_
 .refine bL (A6 b3 hF aY a2 bv (λd=>cL (bF d) E) (λG b0=>we P (bx G b0)) (UH P E ch)) λj u d=>⟨d.1,?_⟩;rcases d.2 with⟨_,rfl⟩|⟨n,f,q,am,bi,ad,bh,aD,X,dP,b7,fO,aC,W,be,a8,ao,cM,_,_,rfl,_⟩;exact⟨_,rfl,d⟩;exact⟨_,rfl,d⟩
 rcases ck.2 with⟨cc,j⟩|⟨n,f,q,am,bi,ad,bh,aD,X,dP,b7,fO,aC,W,be,a8,ao,cM,N,aI,j,bI,R,bk,a6⟩;have ab:=HE j;subst ab;have b4:fu H aj J≠0:=cc;generalize ca:fu H aj J=m at*;replace a:=a.put (d:=20) ay (cC #[dG Z,n9 m]);refine dK b a λa=>?_;refine tj b a λa=>?_;refine tj b a λa=>?_;refine g4 b a λa=>?_;refine g4 b a λa=>cQ b (cA b ?_);refine cA b (dg b [0,1] Y ?_);refine dK b a λa=>?_;refine ei b a Y (ak af) (zQ (c:=af) Y (a.of Y) Y bO) λa=>?_;refine cQ b (iq b af (a.of Y) ?_);refine cA b (dg b [0,1,2] Y ?_);refine dK b a λa=>mL b a aH λa=>?_;refine g4 b a λa=>cQ b (tg b ?_);have a1:=yp (P:=av) Tryz.results13 (a.slot 8 _ Y) (a.slot 9 _ Y);refine ua b Y (by simp only[put_defers]) Tryz.func13 a1.1 a1.2 ?_;intro _ M h cf;have z:nC H V aj J sk=([],m):=by
  unfold nC;rw[ca,if_neg b4]
 refine aL (aR (cC #[aH,n9 m])) M ⟨aH,by rw[z],b5 z (jq.nil _ _),λ_=>rfl,λc e=>aB (h.at_ c (cL e g.size)) (g.at_ c e),dj g.size h.size⟩ cf ⟨aB h.tape g.tape,aB h.os g.os,aB h.output g.output,dj g.size h.size⟩ (zE a4);have ab:=HE j;subst ab;have bP:=dj E bI;replace R:=al.row.1 R;have bm:FM t n f aj J am ad aD X b7 fO aC W 0 a8 ao 0:=bk.kept (b5 al.size (aV _)) (λc _=>T5 al);have cu:q<U t.heap:=(dY.1 R).1;replace a:=a.put (d:=20) ay (cC #[(aZ q),z9 0]);refine dK b a λa=>?_;refine tj b a λa=>?_;refine tj b a λa=>?_;refine g4 b a λa=>?_;refine g4 b a λa=>?_;refine cQ b (cA b ?_);refine cA b (dg b [0,1] Y ?_);refine dK b a λa=>?_;refine ei b a Y (ak ai) (zQ (c:=ai) Y (a.of Y) Y ay) λa=>cQ b (iq b ai (a.of Y) (nR b (cA b (dg b [0] Y (oM b (λc e=>ff e fe (λd=>d)) ay Y Y (ax #[aH] 26) trivial (λL=>(aZ L)) (CA Y abw) λA dk c9 dc C bu=>?_)))));replace a:=a.put (d:=12) ay (aZ A);refine cQ b (aa8 λM h=>?_);have w:RelB (gM t) t M:=⟨λc e=>aB (h.at_ c (aq e)) (C.at_ c (an e)),dj C.size h.size,aB h.tape C.tape,aB h.os C.os,aB h.output C.output⟩;have aQ:bD M A #[aH] 26:=aB (h.at_ A (an Y)) bu;have cs:A<U M.heap:=(dY.1 aQ).1;refine cA b ?_;refine cA b (dg b [0,1] Y ?_);refine dK b a λa=>?_;refine vz (vs:= #[(aZ q)]) (R:=λp v u=>v= .func (.func 53) #[] #[(aZ (U p.heap))]/\u=p.alloc (ax #[(aZ q)] 74)) mh Y Y Y Y (vY (a.of Y)) Tryz.func36 abf Y (bA (ov Y Y Y)) (oA Y (by simp only[put_defers]) bl) (λp P E=>bL (AM) λj u ⟨aG,B⟩=>⟨by rw[B];exact(Below.refl _ _).alloc (aV _) _,_,aG,rfl,B⟩) λv bd cZ ba c7 db c6 cl br x=>?_;obtain⟨rfl,bo⟩:=cl;generalize co:U bd.heap=bb at*;have cn:bD ba bb #[(aZ q)] 74:=by
  refine br.row.1 ?_;rw[bo,<-co];exact Ec.jY _ _
 replace a:=a.put (d:=27) ay (.func (.func 53) #[] #[(aZ bb)]);refine cQ b (oL b ?_);have bs:mK (I n) aj J=af:=by
  have⟨dd,c1,aE,bj,_⟩:=Ia aI;rw[N] at aE;cases aE;exact bj
 have bV:kT s n f:=by
  rw[N] at hF;exact hF.1
 have l:RelB (gM t) t ba:=⟨λc e=>aB (x.at_ c (cL e w.size)) (w.at_ c e),dj w.size x.size,aB x.tape w.tape,aB x.os w.os,aB x.output w.output⟩;have b2:∀k,yz am ad X b7 W ao (I f) (I aj) (I J) k->k<U t.heap:=λk r=>cB ((a6 k r).2);refine Y6 (v8:=U Q.heap) (Jn bV bs aY a2 (N▸bn)) (bm.kept l.size λk r=>JV (l.at_ k (b2 k r))) (λk r=>(a6 k r).2) bP aa aa (aB (l.at_ q cu) R) (aB (x.at_ A cs) aQ) cn (((a.nil.cons (a.slot 10 _ Y)).cons (a.slot 12 _ Y)).cons (a.slot 27 _ Y)) (by simp only[put_defers]) λc0 cW D a9 bc bR i=>Y8 bc bR i.d i.c Y i.b λdl o=>?_;intro _ aw y cg;have a5:=dj g.size (dj l.size i.size);have ci:Ac H V aj J sk (λ_=>af)=eZ sk f aj J (cY (I n) (aj++J.map bJ.col)) V (λ_=>af) 0 (I f) [] 0:=gJ N;have z:nC H V aj J sk=if (eZ sk f aj J (cY (I n) (aj++J.map bJ.col)) V (λ_=>af) 0 (I f) [] 0).2.2=0 then((eZ sk f aj J (cY (I n) (aj++J.map bJ.col)) V (λ_=>af) 0 (I f) [] 0).1.map eu,0) else([],(eZ sk f aj J (cY (I n) (aj++J.map bJ.col)) V (λ_=>af) 0 (I f) [] 0).2.2):=by
  unfold nC;rw[if_pos aI,ci]
 generalize eZ sk f aj J (cY (I n) (aj++J.map bJ.col)) V (λ_=>af) 0 (I f) [] 0=ap at*;have df:=dj g.size (dj l.size i.dl);have b1:∀c,c<U Q.heap->aw.heap[c]? =Q.heap[c]? :=λc e=>aB (y.at_ c (cL e (dj a5 o.size))) (aB (o.at_ c aa aa) (aB (i.keep c e) (aB (l.at_ c (cL e g.size)) (g.at_ c e))));have a3:=dj a5 (dj o.size y.size);refine aL (aR (cC #[if ap.2.2=0 then a9 else aH,n9 ap.2.2])) aw ⟨if ap.2.2=0 then a9 else aH,?_,?_,?_,b1,a3⟩ cg ⟨aB y.tape (aB o.tape (aB i.tape (aB l.tape g.tape))),aB y.os (aB o.os (aB i.os (aB l.os g.os))),aB y.output (aB o.output (aB i.output (aB l.output g.output))),a3⟩ (zE a4);rw[z]
 split
 rename_i ae;rw[ae];rfl;rw[z]
 split
 have⟨cV,cv,cx,cy⟩:=i.own;have a7:∀{j:aK} {ar L:Nat} {v:F} {az:List F},aT cW (U Q.heap) j ar v L az->aT aw (U Q.heap) j ar v L az:=λ{j ar L v az} d=>tA d (aV _) λaF bZ aG B=>by
  refine aB (y.at_ aF (cL B o.size)) (o.at_ aF B λj=>?_);have⟨c4,a0⟩:=Ec.FD d bZ;rw[j,i.d] at a0;cases a0
 exact⟨cV,a7 cv,λcp k r=>by
  have⟨cP,cG,cJ⟩:=cx cp k r;exact⟨cP,cG,a7 cJ⟩,cy⟩
 exact jq.nil _ _;rw[z];intro d
 split at d
 exact absurd Y d;rename_i ae;rw[if_neg ae]
end
end Cc
namespace Cc
open Go Go.Conc
open Ec
def So(s:ByteArray)(g:ag)(e:bf s<=aS):∃b,rZ s b:=by
 obtain⟨l,n,m,⟨_,a⟩,_⟩:=JP s g e [];rcases a with⟨f,J,h,i,j,k,_,c,_,_,d⟩|⟨_,a⟩
 .exact⟨K (f,J),c,d⟩
 .exact⟨Z,a⟩
def Zr(s:ByteArray)(e d c:Int)(m:ag)(i:bf s<=aS):∃l,lH s e d c l:=by
 have⟨q,p,n,⟨_,a⟩,_⟩:=Ej s e d c m i [];rcases a with⟨a,_⟩|⟨b,rfl,g,f,o,⟨v,k,_,_,h⟩|⟨_,j⟩⟩;exact⟨[],an ⟨rfl,aq a⟩⟩;exact⟨k,aq ⟨b,rfl,g,f,h⟩⟩;exact⟨[],an ⟨rfl,an ⟨b,rfl,j⟩⟩⟩
def Tn{s:ByteArray}{i:lA}(w:ag)(hF:rZ s i):∃V,xh i V:=by
 cases i with
 |none=>exact⟨λ_ _=>[],trivial⟩
 |some v=>
  obtain⟨p,J⟩:=v;have o:∀e c:Nat,∃l,∀b d a,J[e]? =K b->b.chunks[c]? =K d->p[c]? =K a->lH d.text a.1.kind a.2 (b.rows:Int) l:=λe c=>by
   cases k:J[e]? with
   |none=>exact⟨[],λb d a h=>by cases h⟩
   |some b=>
    cases g:b.chunks[c]? with
    |none=>exact⟨[],λm d a h f=>by cases h;rw[g] at f;cases f⟩
    |some d=>
     cases n:p[c]? with
     |none=>exact⟨[],λm d a h f j=>by cases j⟩
     |some a=>
      have t:bf d.text<=aS:=by
       obtain⟨r,rfl⟩:=fq.1 g;have:=((hF.1.1.eV b (nO k)).each c r).n;unfold aS;omega
      obtain⟨l,u⟩:=Zr d.text a.1.kind a.2 (b.rows:Int) w t;exact⟨l,λm x y q f j=>by
       cases q;rw[g] at f;cases f;cases j;exact u⟩
  exact⟨λe c=>mq (o e c),λe b k c d a g n=>fj (o e c) b d a k g n⟩
theorem I7:∀(a pre:List dB),feed (λ_=>af) pre a=(pre++a,af)
 | [],pre=>by simp[feed]
 |x::a,pre=>by
  rw[zC,if_pos Y,I7 a (pre++[x])];simp
section
variable {J:List Bd}{aj:List Int}{Q:List bJ}{R:List Bool}{V:Nat->Nat->List az}
def Yr{sk:Bool}{pre:List dB}:eZ sk J aj Q R V (λ_=>af) m (n+1) pre k=if sk&&pU J Q m then eZ sk J aj Q R V (λ_=>af) (m+1) n pre k else if rN J R V m then eZ sk J aj Q R V (λ_=>af) (m+1) n (pre++j4 J aj Q V m) (k+1) else(pre,k+1,3):=by
 rw[eZ,I7];simp
end
end Cc
namespace Cc
open Go Go.Conc
open Go.RowKit (Below)
open Ec
open Pk
def Rq(a:U Q.tmps=n)(c:b8 Q=[]):Q=⟨cX ((eH n).map (cG Q)),[]⟩:=by
 have⟨f,e⟩:=Q;simp only at a c;subst c;congr 1;apply vB;intro d;simp only[List.getElem?_toArray,sb,List.getElem?_range];rcases ij d n with b|b;simp[b,cG,a];simp[b,a]
end Cc
namespace Cc
open Go Go.Conc
open Go.RowKit (Below)
open Ec
section
variable {Q P:aW}{S own:Nat->Prop}{w:ag}{a:bK}{o:cq}
end
section
variable {Q P:aW}{J:F->ag->Prop}{R:List aP}{w:ag}{b:aP}{a:bK}{k:List dW}
end
def aby:(ic.name == "runtime.NumGoroutine")=ai:=bl
end Cc
namespace Ec
open Go.RowKit Pk
def RX{d:Prop}(g:Calls Qn f args w λa b=>∃e,a=aR (ak e)/\(e=af↔d)/\∃c,b=cT w c)(j:d):Calls Qn f args w λa b=>a=aR (ak af)/\∃c,b=cT w c:=
 bL g (by rintro a b ⟨k,rfl,i,h⟩;rw[i.2 j];exact⟨rfl,h⟩)
def RV{d:Prop}(h:Calls Qn f args w λa b=>∃e,a=aR (ak e)/\(e=af↔d)/\∃c,b=cT w c)(k:¬d):Calls Qn f args w λa b=>a=aR (ak ai)/\∃c,b=cT w c:=
 bL h (by
  rintro a b ⟨g,rfl,j,i⟩;cases g;exact⟨rfl,i⟩;exact absurd (j.1 Y) k)
def YK{d e:List (List az)}(ar:I d<=aS)(aw:I e<=aS)(U:∀D∈d,I D<=aS)(V:∀D∈e,I D<=aS)
 (z:zg w O n k d) (A:zg w P j a e):
 bn 14 #[ah O (I d) i,ah P (I e) b] w λg l=>∃n,g=aR (ak n)/\(n=af↔d=e)/\∃f,l=cT w f:=by
 have ad:=ap U;have ae:=ap V;unfold aS at ar aw;clear U V;by_cases q:I d=I e
 .have T:((I d:Int) !=(I e:Int))=ai:=by simp[q]
  have L:=ap q;clear q;go_enter aE.func14,Tryz.ntmps14;go_wp2_with fail;clear T
  go_loopw [5] (λC wr=>∃c:Nat,c<=I d/\C=z9 c/\d.take c=e.take c/\∃f,wr=cT w f) (λC _=>I d-bS (bw C))
  exact⟨0,cE _,rfl,rfl,0,rfl⟩;obtain⟨c,aF,rfl,W,f,h⟩:=hrel;have v:=ap W;clear W;by_cases t:c<I d
  .have B:c<I e:=by rw[<-L.o];exact t
   obtain rfl:=z.addr (by omega);obtain rfl:=A.addr (by omega);have⟨ay,M,am⟩:=z.c c t;have⟨aC,N,ao⟩:=A.c c B;have aH:aJ wr n (k+c) ay:=b5 h M;have aI:aJ wr j (a+c) aC:=b5 h N;have s:=ap h;have p:X (d[c]≠e[c]->d≠e):=λy g=>y (by subst g;rfl);have x:X (d[c]=e[c]->d.take (c+1)=e.take (c+1)):=λy=>by rw[gh t,gh B,v.o,y]
   have R:=ad.o d[c] (c8 t);have S:=ae.o e[c] (c8 B);have aG:(c:Int)<(I e:Int):=aa;obtain⟨H,aQ,aY,G,rfl,Y⟩:=am;obtain⟨F,aL,aM,E,rfl,Z⟩:=ao;have r:X (∀m,bn 29 #[ah H d[c].length G,ah F e[c].length E] (cT wr m) λg l=>∃n,g=aR (ak n)/\(n=af↔d[c]=e[c])/\∃f,l=cT (cT wr m) f):=λm=>by
    have Q:aD w (cT wr m):=by rw[h];exact below_drewN (below_drewN (bU _ _) f) m
    exact YL R S (Y.below Q) (Z.below Q)
   clear h z A v M N Y Z R S;generalize d[c]=J at*;generalize e[c]=K at*;by_cases o:J=K
   .have al:=ap (x.o o);have u:X (∀m,bn 29 #[ah H (I J) G,ah F (I K) E] (cT wr m) λg l=>g=aR (ak af)/\∃f,l=cT (cT wr m) f):=λm=>RX (r.o m) o;clear x p o r;go_wp2_with fail;go_quiet ((go_at_call 29;exact Calls.quiet_of (u.o _)));go_wp2
    go_roundw
    case rel=>exact⟨c+1,aa,by go_num,al.o,f+nq,b5 s.o (r5 _ _ _)⟩
    case measure=>simp[bw];omega
   have aj:=ap (p.o o);have u:X (∀m,bn 29 #[ah H (I J) G,ah F (I K) E] (cT wr m) λg l=>g=aR (ak ai)/\∃f,l=cT (cT wr m) f):=λm=>RV (r.o m) o;clear x p o r;go_wp2_with fail;go_quiet ((go_at_call 29;exact Calls.quiet_of (u.o _)));go_wp2;go_ret;exact⟨ai,rfl,by simp only[fA,false_iff];exact aj.o,f+nq,b5 s.o (r5 _ _ _)⟩
  .have ab:X (d=e):=by
    have:=v.o;rw[ja aa,ja (cB L.o)] at this;exact this
   have s:=ap h;clear h;go_wp2;go_ret;exact⟨af,rfl,by simp only[true_iff];exact ab.o,f,s.o⟩
 .have T:((I d:Int) !=(I e:Int))=af:=by simp;omega
  have p:X (d≠e):=λg=>q (by rw[g]);clear q;go_enter aE.func14,Tryz.ntmps14;go_wp2;go_ret;exact⟨ai,rfl,by simp only[fA,false_iff];exact p.o,0,rfl⟩
end Ec
namespace Ec
open Go.RowKit Pk Pm
def Sn(b:Option aN)(a e:Nat)(h:ag)(l:a<=aS)(k:a<=e)(j:0<a->∃d g,b=K ⟨d,g,Z⟩):
 bn 8 #[ah b a e] h λi m=>(∃f,min a 16<=f/\i=aR (ah b (min a 16) f))/\m=h:=by
 unfold aS at l;by_cases n:16<a
 .obtain⟨d,g,rfl⟩:=j aa;have c:min a 16=16:=aa;rw[c];go_enter aE.func8,Tryz.ntmps8;go_wp2;go_ret;exact⟨⟨_,aa,rfl⟩,rfl⟩
 .have c:min a 16=a:=by omega
  rw[c];go_enter aE.func8,Tryz.ntmps8;go_wp2;go_ret;exact⟨⟨_,k,rfl⟩,rfl⟩
def Sl(b:Option aN)(a e:Nat)(h:ag)(l:a<=aS)(k:a<=e)(j:0<a->∃d g,b=K ⟨d,g,Z⟩):
 bn 9 #[ah b a e] h λi m=>(∃f,min a 16<=f/\i=aR (ah b (min a 16) f))/\m=h:=by
 unfold aS at l;by_cases n:16<a
 .obtain⟨d,g,rfl⟩:=j aa;have c:min a 16=16:=aa;rw[c];go_enter aE.func9,Tryz.ntmps9;go_wp2;go_ret;exact⟨⟨_,aa,rfl⟩,rfl⟩
 .have c:min a 16=a:=by omega
  rw[c];go_enter aE.func9,Tryz.ntmps9;go_wp2;go_ret;exact⟨⟨_,k,rfl⟩,rfl⟩
end Ec
namespace Cc
open Go Go.Conc
open Go.RowKit (Below)
open Ec
def wK{Q a c:ag}(b:RelB (gM Q) Q a)(d:RelB (gM a) a c):RelB (gM Q) Q c:=b.trans (d.mono λf e=>cL e b.size)
def Xm{Q a b:ag}(e:RelB (gM Q) Q a)(f:∀c,c<U a.heap->b.heap[c]? =a.heap[c]?)(g:U a.heap<=U b.heap)(d:Sm a b):RelB (gM Q) Q b:=wK e ⟨f,g,d.tape,d.os,d.output⟩
def jq.Gt{b:List (List az)}(a:jq w n v b):xx w v b/\I b<=aS/\∀t∈b,I t<=aS:=by
 obtain⟨N,e,l,-⟩:=a;have o:∀{j:aK} {u g:Nat} {v:F} {x:List F},aT w n j u v g x->g<=aS:=λ{j u g v x} a=>by
  rcases a.2 with⟨_,k⟩|⟨c,i,y,_,_,_,p,z,_⟩;omega;omega
 refine⟨?_,o e,λt D=>?_⟩;have E:=e;rcases e.2 with⟨rfl,k⟩|⟨c,i,y,rfl,G,A,p,z,L,M⟩;have:b=[]:=tU k;subst this;exact⟨Z,0,0,0,rfl,aV _,λa=>by simp at a,λa=>by simp at a,λd a=>by simp at a⟩;refine⟨K ⟨c,0,Z⟩,c,0,i,rfl,p,λ_=>rfl,λ_=>(dY.1 A).1,λd C=>?_⟩;have⟨h,q,f⟩:=l d b[d] (dH C);have m:=E.cells (g:=c) Y d h q;rw[tN] at m;exact⟨h,m,jr.gC f⟩;obtain⟨r,B,rfl⟩:=m6 D;have⟨h,q,f⟩:=l r b[r] (dH B);exact o f
def dy.take{e:List bJ}(c:dy w P n m e)(g:Nat):dy w P n m (e.take g):=by
 have d:∀a,a<I (e.take g)->a<I e:=λa b=>by simp at b;omega
 exact⟨λf=>c.addr (d 0 f),λf=>c.lt (d 0 f),λa b=>by rw[rz];exact c.c0 a (d a b),λa b=>by rw[rz];exact c.c1 a (d a b),λa b=>by rw[rz];exact c.c2 a (d a b),λa b=>by rw[rz];exact c.c3 a (d a b),λa b=>by rw[rz];exact c.c4 a (d a b),λa b=>by rw[rz];exact c.c5 a (d a b),λa b=>by rw[rz];exact c.c6 a (d a b)⟩
def abh:(Tryz.f8.name == "runtime.NumGoroutine")=ai:=bl
def abi:(Tryz.f9.name == "runtime.NumGoroutine")=ai:=bl
def aa6{J:F->ag->Prop}(o:av.inits.idxOf? Qf.fn=Z)(l:eD Qf=eA)(m:b8 qS=[])(g:av.funcs[Qf.fn]? =K QI)(h:(∀w,(dx QI qS.tmps).run av w=b6 v w)/\∀w,(dx QI qS.tmps).events av w #[]=#[])(p:∀a,RelB (gM w) w a->J v a):Xe (aM av) av J (gM w) {Qf.at qS QN with mode:=jA} [] w:=by
 intro r a q t;refine U2 (v:=v) o (λu i=>⟨rfl,m,l,QI,g,h.1 _⟩) (λb d c n j e=>?_) (λb d=>?_);have:c=QI:=Az (n.symm.trans g);subst this;rw[Sem.runT_eq] at e;have k:=h.2 b;have f:j∈(dx c qS.tmps).events av b #[]:=e;rw[k] at f;simp at f;obtain⟨i,rfl⟩:=d;exact p _ (q.trans (RelB.at _ _ _))
section
variable {J:F->ag->Prop}{s:ByteArray}{aj:List Int}{H:List bJ}{S:Option aN}{R bN bH:Nat}{O:Option aN}{rb bY bE:Nat}{Q:ag}
end
end Cc
namespace Cc
open Go Go.Conc
open Ec (az bJ dy)
def Fj:av.cellsOf 3=1:=bl
def UK:av.cellsOf 4=1:=bl
def UO:av.cellsOf 9=1:=bl
def Kb:av.cellsOf 59=3:=bl
def UM:av.cellsOf 61=7:=bl
def UL:av.bytesOf 3=8:=bl
def UN:av.bytesOf 61=72:=bl
def yG {H:Type}(a:DataW H)(c:aK):Prop:=∀b∈a.weights av c,b<=140737488351232
def yG.slice{H:Type}{a b:List (DataW H)}(c:yG (.slice a b) Qc)(d:av.underlying Qc=K (.slice Qd)):I a*av.bytesOf Qd<=140737488351232:=by
 have:=c ((I a+I b)*av.bytesOf Qd) (by simp[DataW.weights,d]);exact dj (Nat.mul_le_mul_right _ (Nat.le_add_right _ _)) this
section
variable {H:Type}{O:aK×F->H}{w:ag}{J:Nat->Bool}{R:Bool}{Q:Nat}{v:F}{x:DataW H×List MemPlace}
def open_ints(b:DataW.trod O av w 0 J R Q 22 [v]=K x):
 ∃(e:List Int) (o:Option aN) (c g i:Nat),v=ah o (I e) i/\I e<=i/\(0<I e->o=K ⟨c,g,Z⟩)/\(0<I e->c<U w.heap)/\(∀a,a<I e->aJ w c (g+a) (z9 (aX e a 0)))/\(yG x.1 22->I e<=140737488351232):=by
 rcases Deep.open_slice1 yT Fj b with⟨j,_⟩|⟨n,d,i,m,T,V,D,F,j,_,s,P,B,rfl,E⟩;simp at j;subst j;exact⟨[],Z,0,0,0,rfl,aV _,λb=>by simp at b,λb=>by simp at b,λa b=>by simp at b,λ_=>aF⟩
 .simp at j;subst j;have N:d<=m:=by rw[B];split<;>omega
  have y:∀l,l<d->∃u:Int,aA w (n.add l)=K (z9 u):=by
   intro l M;have⟨z,A⟩:=E l aa;have⟨G,t,_,S⟩:=DataW.trod_int Tryz.underlying3 A;simp at t;exact⟨G,by rw[z,t]⟩
  have⟨f,r⟩:=Deep.choose_lt y;have h:I ((eH d).map f)=d:=aF;by_cases q:0<d;have⟨c,g,L⟩:=n;have C:L=Z:=by simpa [o9] using World.cell?_spot (r 0 q)
  subst C;have p:∀a,a<d->aJ w c (g+a) (z9 (f a)):=λa k=>by have:=r a k;rwa [lU] at this
  refine⟨(eH d).map f,K ⟨c,g,Z⟩,c,g,i,by rw[h],b5 h s,λ_=>rfl,λ_=>World.block_lt_of_cell? w ⟨c,g+0,Z⟩ (p 0 q),?_,λhF=>?_⟩;intro a k;rw[h] at k;show _=_;rw[p a k];simp[k];have:=hF.slice yT;rw[UL] at this;simp at this ⊢;omega
  .refine⟨(eH d).map f,K n,0,0,i,by rw[h],b5 h s,λb=>?_,λb=>?_,λa b=>?_,λ_=>?_⟩
   all_goals (rw[h] at *;omega)
def Km{Q:Nat}{x:DataW H×List MemPlace}(j:DataW.trod O av w 0 J R Q 59 S=K x):∃a:az,S=[ak a.null,bt bM a.n,au a.s]:=by
 have⟨r,t,u,n,_,f,b,c,d⟩:=Deep.trod_struct3 Tryz.underlying59 j;rw[Kb] at f
 match S,f with
 | [o,p,q],_=>
  simp[Fj,UO,UK] at b c d;have⟨i,e,_⟩:=DataW.trod_bool Tryz.underlying4 b;have⟨k,g,_,m⟩:=DataW.trod_int Tryz.underlying3 c;have⟨s,h,_,l⟩:=DataW.trod_string Tryz.underlying9 d;simp at e g h;subst e g h;exact⟨⟨i,k,s⟩,rfl⟩
def Vf(b:DataW.trod O av w 0 J R Q 23 [v]=K x):
 ∃(r:List bJ) (s:Option aN) (n o p:Nat),v=ah s (I r) p/\I r<=p/\dy w s n o r/\(yG x.1 23->I r<=140737488351232):=by
 rcases Deep.open_slice Tryz.underlying23 b with⟨q,_⟩|⟨g,e,p,m,aC,D,ao,q,_,P,aw,X,rfl,U⟩;simp at q;subst q;exact⟨[],Z,0,0,0,rfl,aV _,⟨λb=>by simp at b,λb=>by simp at b,λa b=>by simp at b,λa b=>by simp at b,λa b=>by simp at b,λa b=>by simp at b,λa b=>by simp at b,λa b=>by simp at b,λa b=>by simp at b⟩,λ_=>aF⟩
 .simp at q;subst q;have ar:e<=m:=by rw[X];split<;>omega
  rw[UM] at U;have W:∀d,d<e->∃i:bJ,aA w (g.add (d*7))=K (bt bM i.col)/\aA w (g.add (d*7+1))=K (ak i.low.null)/\aA w (g.add (d*7+2))=K (bt bM i.low.n)/\aA w (g.add (d*7+3))=K (au i.low.s)/\aA w (g.add (d*7+4))=K (ak i.high.null)/\aA w (g.add (d*7+5))=K (bt bM i.high.n)/\aA w (g.add (d*7+6))=K (au i.high.s):=by
   intro d ap;have⟨V,ab,ad⟩:=U d aa;have⟨_,l,j⟩:=World.cells?_some ab;have⟨aQ,aY,aZ,az,_,_,G,L,M⟩:=Deep.trod_struct3 Tryz.underlying61 ad
   match V,l with
   | [aD,aE,aG,aH,aI,aL,aM],_=>
    simp[Fj,Kb] at G L M;have⟨al,T,_,ay⟩:=DataW.trod_int Tryz.underlying3 G;have⟨aj,S⟩:=Km L;have⟨ae,N⟩:=Km M;simp at T S N;obtain⟨rfl,rfl,rfl⟩:=S;obtain⟨rfl,rfl,rfl⟩:=N;subst T;have u:=j 0 aa;have y:=j 1 aa;have z:=j 2 aa;have A:=j 3 aa;have B:=j 4 aa;have C:=j 5 aa;have E:=j 6 aa;rw[Deep.add_add] at u y z A B C E;exact⟨⟨al,aj,ae⟩,cM u,cM y,cM z,cM A,cM B,cM C,cM E⟩
  have⟨f,h⟩:= @Deep.choose_lt bJ ⟨⟨0,⟨ai,0,⟨#[]⟩⟩,⟨ai,0,⟨#[]⟩⟩⟩⟩ _ _ W;have l:I ((eH e).map f)=e:=aF;have k:∀a,(c:a<I ((eH e).map f))->((eH e).map f)[a]=f a:=λa c=>aF;by_cases F:0<e;have⟨n,o,am⟩:=g;have Y:am=Z:=by simpa [o9] using World.cell?_spot (h 0 F).1
  subst Y;have t:∀a,a<e->aJ w n (o+a*7) (bt bM (f a).col):=λa c=>by have:=(h a c).1;rwa [lU] at this
  refine⟨(eH e).map f,K ⟨n,o,Z⟩,n,o,p,by rw[l],b5 l P,⟨λ_=>rfl,λ_=>World.block_lt_of_cell? w ⟨n,o+0*7,Z⟩ (t 0 F),?_,?_,?_,?_,?_,?_,?_⟩,λhF=>?_⟩;intro a c;rw[k a c];exact t a (cM c);intro a c;rw[k a c];have:=(h a (cM c)).2.1;rwa [lU,<-gF] at this;intro a c;rw[k a c];have:=(h a (cM c)).2.2.1;rwa [lU,<-gF] at this;intro a c;rw[k a c];have:=(h a (cM c)).2.2.2.1;rwa [lU,<-gF] at this;intro a c;rw[k a c];have:=(h a (cM c)).2.2.2.2.1;rwa [lU,<-gF] at this;intro a c;rw[k a c];have:=(h a (cM c)).2.2.2.2.2.1;rwa [lU,<-gF] at this;intro a c;rw[k a c];have:=(h a (cM c)).2.2.2.2.2.2;rwa [lU,<-gF] at this;have:=hF.slice Tryz.underlying23;rw[UN] at this;simp at this ⊢;omega
  .refine⟨(eH e).map f,K g,0,0,p,by rw[l],b5 l P,⟨λb=>?_,λb=>?_,λa b=>?_,λa b=>?_,λa b=>?_,λa b=>?_,λa b=>?_,λa b=>?_,λa b=>?_⟩,λ_=>?_⟩
   all_goals (rw[l] at *;omega)
end
end Cc
namespace Ec
open Go.RowKit Pk Pm
def Ce (e a:ag):Prop:=(∀(b:Nat) c d f,e.heap[b]? =K (ax c d f)->a.heap[b]? =K (ax c d f))/\U e.heap<=U a.heap
def Ce.trans(a:Ce w u)(b:Ce u W):Ce w W:=⟨λd e g f c=>b.1 _ _ _ _ (a.1 _ _ _ _ c),dj a.2 b.2⟩
def PD(a:aD w u):Ce w u:=⟨λc d e f b=>aB (cS a c (bC b)) b,a.size⟩
def su(a:Cc.RelB (Cc.gM w) w u):Ce w u:=⟨λc d e f b=>aB (a.at_ c (bC b)) b,a.size⟩
def BX(c:∀(a:Nat) b,w.heap[a]? =K b->Cc.dm Qn b->u.heap[a]? =K b)(e:U w.heap<=U u.heap):Ce w u:=⟨λa g h f d=>c a _ d trivial,e⟩
def Em(a:Cc.Un w u):Ce w u:=⟨λc d e f b=>a.row.1 b,Nat.le_of_eq (bA a.size)⟩
def Ce.cell(c:Ce w u)(a:aA w R=K v):aA u R=K v:=by
 unfold aA at a ⊢;cases b:w.heap[cH R]? with
 |none=>rw[b] at a;cases a
 |some d=>
  rw[b] at a;cases d<;>first|(cases a;done)|skip
  rw[c.1 _ _ _ _ b];exact a
def Ce.own(j:Ce w u)(g:aT w n Qc m v k S):aT u n Qc m v k S:=by
 obtain⟨d,⟨a,b⟩|⟨c,e,f,a,b,h,i⟩⟩:=g;exact⟨d,aq ⟨a,b⟩⟩;exact⟨d,an ⟨c,e,f,a,b,j.1 c _ _ _ h,i⟩⟩
def Ce.Cu(d:Ce w u){e:List bJ}(c:dy w O n m e):dy u O n m e:=
 ⟨c.addr,λf=>cL (c.lt f) d.2,λb a=>d.cell (c.c0 b a),λb a=>d.cell (c.c1 b a),λb a=>d.cell (c.c2 b a),λb a=>d.cell (c.c3 b a),λb a=>d.cell (c.c4 b a),λb a=>d.cell (c.c5 b a),λb a=>d.cell (c.c6 b a)⟩
end Ec
namespace Pk
open Go.RowKit Pm
def gq (g:ag)(v:F)(m:Int):Prop:=
 ∃b a f,v=ah b a f/\a<=1000/\(0<a->∃d c,b=K ⟨d,0,Z⟩/\g.heap[d]? =K (ax c 3 (0,0))/\∀e,e<a->c[e]? =K (z9 (-1-m)))
def tr (b:List (F×Int)):List F:=b.flatMap λa=>[a.1,z9 a.2]
def IX{b:List (F×Int)}{a:F×Int}:tr b++[a.1,z9 a.2]=tr (b++[a]):=by simp[tr]
def IW(b:List (F×Int))(a:Nat)(d:a<I b):(tr b)[2*a]? =K b[a].1/\(tr b)[2*a+1]? =K (z9 b[a].2):=by
 induction b generalizing a with
 |nil=>simp at d
 |cons f g e=>
  cases a with
  |zero=>simp[tr]
  |succ c=>
   have:=e c (cM d);simp only[tr,lD,mH] at*;rw[pG bO,pG bO];simp only[pI,yZ];rw[show 2*(c+1)-(0+1+1)=2*c by omega,show 2*(c+1)+1-(0+1+1)=2*c+1 by omega];exact this
def kW{c1 c2:Array F}{b c:Nat×Nat}(e:w.heap[n]? =K (ax c1 Qc b))(a:w.heap[m]? =K (ax c2 Qd c))(f:Qc≠Qd):n≠m:=by
 intro d;subst d;rw[e] at a;simp at a;exact f a.2.1
def ny(c:aT w n Qc m v k S)(b:bB v=K i):
 ∃a,w.heap[i]? =K (ax a Qc (0,0)):=by
 rcases c.2 with⟨rfl,_⟩|⟨f,e,a,rfl,_,d,_⟩;simp[bB] at b;simp[bB] at b;subst b;exact⟨a,d⟩
def nA(d:aT w n Qc m v k S):∃c a,v=ah c k a:=by
 rcases d.2 with⟨b,e⟩|⟨g,a,f,b,_⟩;exact⟨Z,0,by rw[b,e]⟩;exact⟨_,a,b⟩
def A7(c:aT w n Qc m (ah O k i) k S)(f:0<k):∃a,O=K ⟨a,0,Z⟩:=by
 rcases c.2 with⟨b,e⟩|⟨a,i,d,b,_⟩;omega;simp only[lX] at b;exact⟨a,b.1⟩
def CD:∀(b:Nat) (c:F),[v,x][b]? =K c->aA (cD w (ax #[v,x] Qc)) ((⟨U w.heap,0,Z⟩:aN).add b)=K c:=by
 intro b c a
 match b,a with
 |0,a=>simp at a;subst a;simp[o9]
 |1,a=>simp at a;subst a;simp[o9]
def CE:∀b∈[ah O n m,z9 M],nM b=af:=by
 intro b a;simp at a;rcases a with rfl|rfl;rfl;rfl
def ot:∀(b:Nat) (c:F),[v][b]? =K c->aA (cD w (ax #[v] Qc)) ((⟨U w.heap,0,Z⟩:aN).add b)=K c:=by
 intro b c a
 match b,a with
 |0,a=>simp at a;subst a;simp[o9]
def JY{c:List (F×Int)}(d:∀a∈c,a.2=M):∀a∈c++[(v,M)],a.2=M:=by
 intro a e;rcases eG.1 e with b|b;exact d a b;simp at b;subst b;rfl
end Pk
namespace Ec
open Go.RowKit Pk Pm
def Cr:ByteArray:=⟨#[109,97,114,107]⟩
def mkV (a:Int):az:=⟨ai,-1-a,Cr⟩
def Jp(d:C.toList.take (n*3)=bZ (dh n (mkV M)))(e:m<n):C[m*3]? =K (ak ai)/\C[m*3+1]? =K (z9 (-1-M))/\C[m*3+2]? =K (au Cr):=by
 have⟨a,b,c⟩:=vv (dh n (mkV M)) m (cM e);rw[<-d,ry,if_pos aa] at a b c;simp only[List.getElem_replicate,Array.getElem?_toList] at a b c;exact⟨a,b,c⟩
def aE.Ty:((aM av).info? 95).map (λa=>(jL a,a.size,ji a))=K (K (cw #[aH,z9 0]),2,32):=bl
def vW (g:ag)(v:F)(m:Int):Prop:=
 ∃d c f,v=ah d c f/\c<=5000/\(0<c->∃e a,d=K ⟨e,0,Z⟩/\g.heap[e]? =K (ax a 59 (0,0))/\∀b,b<c->a[b*3]? =K (ak ai)/\a[b*3+1]? =K (z9 (-1-m))/\a[b*3+2]? =K (au Cr))
structure jW(w:ag)(bse9 B:Nat)(iv:F)(es:List (F×Int))(rx:F:=ah Z 0 0):Prop where
 blk:w.heap[B]? =K (ax #[ah Z 0 0,iv,rx,ah Z 0 0] 37 (0,0))
 own:aT w bse9 95 2 iv (I es) (tr es)
 full:∀e∈es,vW w e.1 e.2
def jW.other{j:List (F×Int)}(b:jW w n m x j v)(o:jj w u QX)
 (l:∀a,QX=K a->(∃c,w.heap[a]? =K (ax c 59 (0,0)))/\∀d∈j,∀h g i,d.1=ah h g i->0<g->bB d.1≠K a):jW u n m x j v:=by
 refine⟨?_,?_,?_⟩;rw[o.block m (bC b.blk) (λf=>?_)];exact b.blk;have⟨⟨c,e⟩,_⟩:=l m (bA f);exact kW e b.blk ay Y;refine fK b.own o ?_;by_cases t:bB x=Z;exact aq t;refine an λf=>?_;have⟨a,s⟩:=Option.ne_none_iff_exists'.1 t;have⟨c,e⟩:=ny b.own s;have⟨⟨B,y⟩,_⟩:=l a (by rw[<-f,s]);exact kW e y ay Y;intro d r;have⟨h,g,i,k,A,z⟩:=b.full d r;rw[k];refine⟨h,g,i,rfl,A,λp=>?_⟩;obtain⟨a,c,rfl,q,e⟩:=z p;refine⟨a,c,rfl,?_,e⟩;rw[o.block a (bC q) (λf=>?_)];exact q;exact(l a (bA f)).2 d r _ _ _ k p (gJ k)
def jW.push{o:List (F×Int)}(h:jW w n k y o x)(T:vW w v M)
 (A:aT w n 59 3 v i S) (V:n<=k) (D:aT u n 95 2 jc (I o+1) (tr o++[v,z9 M])) (P:jj (cD w Qk) u (bB y)):
 jW (bg u ⟨k,1,Z⟩ jc) n k jc (o++[(v,M)]) x/\aT (bg u ⟨k,1,Z⟩ jc) n 59 3 v i S:=by
 have L:=uK w Qk Z;have B:∀(a:Nat) (e:Array F) (c:aK),bD w a e c->c≠95->u.heap[a]? =w.heap[a]? :=by
  intro a e c b r;rw[P.block a (by have:=bC b;simp;omega) (λl=>?_),L.block a (bC b) aF];have⟨f,j⟩:=ny h.own (bA l);exact kW b j r Y
 have q:=B k _ _ h.blk ay;rw[h.blk] at q;have C:∀(a:Nat) (e:Array F) (c:aK),bD w a e c->c≠95->c≠37->(bg u ⟨k,1,Z⟩ jc).heap[a]? =w.heap[a]? :=by
  intro a e c b r R;rw[ef u ⟨k,1,Z⟩ a jc (λl=>?_),B a e c b r];exact kW b h.blk R l
 have z:∀s m,vW w s m->vW (bg u ⟨k,1,Z⟩ jc) s m:=by
  rintro s m ⟨E,U,p,rfl,Q,O⟩;refine⟨E,U,p,rfl,Q,λH=>?_⟩;obtain⟨g,f,rfl,b,j⟩:=O H;exact⟨g,f,rfl,b5 (C g _ _ b ay ay) b,j⟩
 refine⟨⟨?_,?_,?_⟩,?_⟩;rw[(eE u k 1 _ _ jc q)];rfl;rw[cN,rB,<-IX];refine ownsRow_setCell_other D (λl=>?_) _;have⟨f,j⟩:=ny D l;exact kW j q ay Y;intro G N;rcases eG.1 N with d|d;exact z _ _ (h.full G d);simp at d;subst d;exact z _ _ T;refine⟨A.1,?_⟩;rcases A.2 with d|⟨g,p,f,d,J,t,K⟩;exact aq d;exact an ⟨g,p,f,d,J,b5 (C g _ _ t ay ay) t,K⟩
def vW.mk(d:aT w n 59 3 v m (bZ (dh m (mkV M))))(h:m<=5000):vW w v M:=by
 rcases d.2 with⟨rfl,rfl⟩|⟨c,a,b,rfl,_,e,_,_,_,f⟩;exact⟨Z,0,0,rfl,aa,aa⟩;exact⟨_,m,a,rfl,h,λi=>⟨c,b,rfl,e,λj g=>(Jp f g)⟩⟩
def DY (v:F)(g:Nat)(f:Int)(e:List (F×Int)):Prop:=∀b∈e,∀c a d,b.1=aI c a d->0<a->bB v=K c->b.2=f/\a<=g
def jW.grow{i:List (F×Int)}(R:jW w n m y i x)(P:DY v k M i)
 (V:aT w n 59 3 v k (bZ (dh k (mkV M)))) (ad:aT u n 59 3 z (k+1) (bZ (dh (k+1) (mkV M))))
 (a:(jj (w.alloc Qk) u Z/\aT u (w.alloc Qk).heap.size 59 3 z (k+1) (bZ (dh (k+1) (mkV M))))\/(bB z=bB v/\jj (w.alloc Qk) u (bB v))):
 jW u n m y i x/\DY z (k+1) M i:=by
 have c:=R.other (uK w Qk Z) (λb a=>cV a);rcases a with⟨a,X⟩|⟨aj,a⟩;refine⟨c.other a (λb a=>cV a),?_⟩;intro e g b Q G s I C
 exfalso
 have⟨E,D,q,f,_,A⟩:=c.full e g;rw[s] at f;simp only[lX] at f;obtain⟨rfl,rfl,rfl⟩:=f;have⟨ao,r,L,j,_⟩:=A I;simp only[kU,r3,and_true] at L;subst L;have:=bC j;have:=(X.lt b C).1;omega;rcases ad.2 with⟨_,I⟩|⟨H,al,h,rfl,_,S,_,_,_,ae⟩;omega;have p:bB v=K H:=by rw[<-aj];rfl
 rw[p] at a;have⟨am,J⟩:=ny (V.alloc Qk) p;have T:∀d,d<k+1->h[d*3]? =K (ak ai)/\h[d*3+1]? =K (z9 (-1-M))/\h[d*3+2]? =K (au Cr):=λd O=>Jp ae O;refine⟨⟨?_,?_,?_⟩,?_⟩;rw[a.block m (bC c.blk) (λo=>?_)];exact c.blk;simp at o;subst o;exact kW J c.blk ay Y;refine fK c.own a ?_;by_cases U:bB y=Z;exact aq U;refine an λo=>?_;have⟨r,t⟩:=ny c.own o;exact kW t J ay Y;intro e g;have⟨E,D,q,f,ab,A⟩:=c.full e g;rw[f];refine⟨E,D,q,rfl,ab,λl=>?_⟩;obtain⟨b,r,rfl,j,t⟩:=A l;by_cases N:b=H;subst N;have⟨B,W⟩:=P e g b D q f l p;exact⟨b,h,rfl,S,λd O=>b5 B (T d aa)⟩;exact⟨b,r,rfl,by rw[a.block b (bC j) (by simp;exact N)];exact j,t⟩;intro e g b Q G s l C;have⟨B,W⟩:=P e g b Q G s l (b5 p C);exact⟨B,aa⟩
def jW.cells{a:List (F×Int)}(b:jW w n m x a v):aA w ⟨m,1,Z⟩=K x/\cU w ⟨m,1,Z⟩=ai:=by
 have:=b.blk;exact⟨by simp[aA,this],by simp[cU,this]⟩
def jW.zw{c:List (F×Int)}(a:jW w n m x c v)(e:jj (cD w Qk) u (bB x)):aA u ⟨m,1,Z⟩=K x/\cU u ⟨m,1,Z⟩=ai:=by
 have b:u.heap[m]? =K (ax #[aH,x,v,aH] 37 (0,0)):=by
  rw[e.block m (by have:=bC a.blk;simp;omega) (λf=>?_),(uK w Qk Z).block m (bC a.blk) (by simp)]
  .exact a.blk
  .obtain⟨g,d⟩:=ny a.own (bA f);exact kW a.blk d (by decide) Y
 exact⟨by simp[aA,b],by simp[cU,b]⟩
def Dg:jj w (bg w ⟨n,m,Z⟩ v) (K n):=
 ⟨rfl,rfl,rfl,aF,λc _ b=>ef _ _ _ _ (λa=>b (by cases a;rfl))⟩
def GJ(c:ag)(a b:Nat)(d e f:F):jj c (bg (bg (bg c ⟨a,b*3,Z⟩ d) ⟨a,b*3+1,Z⟩ e) ⟨a,b*3+2,Z⟩ f) (K a):=
 ((Dg).trans Dg).trans Dg
def r8 (c:Nat)(d v:F)(b e:ag):Prop:=∀a:Nat,a<U b.heap->a≠c->bB d≠K a->bB v≠K a->e.heap[a]? =b.heap[a]?
def r8.step(f:r8 n x v w wr)(k:U w.heap<=U wr.heap)(h:jj wr u QX)
 (i:∀a:Nat,QX=K a->a=n\/bB x=K a\/bB v=K a\/U w.heap<=a):r8 n x v w u:=by
 intro a g c d e;rw[h.block a aa (λj=>?_)];exact f a g c d e;rcases i a (bA j) with b|b|b|b;exact c b;exact d b;exact e b;omega
def r8.push{o:cj}(c:r8 n x v w wr)(e:U w.heap<=U wr.heap)(d:∀b,bB y=K b->bB x=K b\/U w.heap<=b)(a:jj (cD wr o) u (bB y))(f:F):
 r8 n x v w (bg u ⟨n,1,Z⟩ f):=by
 exact((c.step e (uK wr o Z) (λb a=>cV a)).step bO a (λb a=>ff (d b a) (λc=>an (aq c)) (λc=>an (an (an c))))).step (by have:=a.size;simp at this;omega) Dg (λb a=>aq (by cases a;rfl))
def aaG(b:List az){c:az}(a:Nat)(d:a<I b):(dh a c++b.drop a).set a c=dh (a+1) c++b.drop (a+1):=by
 rw[y7 _ _ aF,List.length_replicate,Nat.sub_self,pE d,ct,y6 (n:=a)];simp
def aaF{a:az}:bZ (dh n a)++[ak a.null,z9 a.n,au a.s]=bZ (dh (n+1) a):=by rw[nF,y6]
def jW.store{g:List (F×Int)}{p:List az}(q:jW w n m x g v)(y:aT w n 59 3 (aI k i j) i (bZ p))
 (D:∀c∈g,∀h e f,c.1=aI h e f->0<e->k≠h) (a:Nat) (b:az) (C:a<I p):
 jW (bg (bg (bg w ⟨k,a*3,Z⟩ (ak b.null)) ⟨k,a*3+1,Z⟩ (z9 b.n)) ⟨k,a*3+2,Z⟩ (au b.s)) n m x g v/\
  aT (bg (bg (bg w ⟨k,a*3,Z⟩ (ak b.null)) ⟨k,a*3+1,Z⟩ (z9 b.n)) ⟨k,a*3+2,Z⟩ (au b.s)) n 59 3 (aI k i j) i (bZ (p.set a b)):=by
 refine⟨q.other (GJ w k a _ _ _) ?_,?_⟩;intro h t;simp at t;subst t;refine⟨ny y Y,?_⟩;intro c s z e f l r d;rw[l] at d;cases z with
 |none=>simp[bB] at d
 |some E=>
  have⟨G,L,H,o,_,B⟩:=q.full c s;rw[l] at o;simp only[lX] at o;obtain⟨rfl,rfl,rfl⟩:=o;have⟨A,J,u,_⟩:=B r;simp only[kU] at u;subst u;simp[bB] at d;exact D c s A e f l r (bA d)
 rw[<-aaD a b C];exact((((y.stored (a*3) (ak b.null)).1).stored (a*3+1) (z9 b.n)).1.stored (a*3+2) (au b.s)).1
def Vr(j i:Nat)(v L:F)(g:List az)(b:List (F×Int))(dq:I g<=1000)(dp:I b<=100000)(m:jW w i j L b x)
 (h:aT w i 59 3 v (I g) (bZ g)) (ae:i<=j) (bR:∀e∈b,∀Q A D,e.1=aI Q A D->0<A->bB v≠K Q):
 bn 37 #[(aZ j),v] w λe ar=>e=aR (cC #[])/\∃jc k,I k=4/\jW ar i j jc (b++k) x/\(∀e∈k,e.2=(I b:Int))/\
  (∀e∈k,∀a,bB e.1=K a->bB v=K a\/U w.heap<=a)/\r8 j L v w ar/\(∀a,bB jc=K a->bB L=K a\/U w.heap<=a)/\U w.heap<=U ar.heap/\dw i w ar:=by
 have⟨cQ,G,cG,cJ,cP⟩:=eU aE.nh;have⟨b2,bE,bY,b0,b1⟩:=eU aE.Ty;have ch:i<=U w.heap:=cB (bC m.blk);obtain⟨o,p,rfl⟩:=nA h;obtain⟨z,y,rfl⟩:=nA m.own;have⟨ba,bb⟩:=m.cells;have s:=ap m;obtain⟨c,H⟩:∃c,c=mkV (I b:Int):=⟨_,rfl⟩;have bI:c.null=ai:=gJ H;have bJ:c.n= -1-(I b:Int):=gJ H;have bN:c.s=⟨#[109,97,114,107]⟩:=gJ H;have b4:=ap H;have bd:=s.o.other (uK w (ax #[ak c.null,z9 c.n,au c.s] 59) Z) (λa f=>cV f);have bi:=h.alloc (ax #[ak c.null,z9 c.n,au c.s] 59);have be:r8 j (ah z (I b) y) (ah o (I g) p) w (w.alloc (ax #[ak c.null,z9 c.n,au c.s] 59)):=by
  intro a f _ _ _;rw[e6 _ _ a f]
 have bc:dw i w (w.alloc (ax #[ak c.null,z9 c.n,au c.s] 59)):=(bU _ _).alloc ch _;have bk:bD (w.alloc (ax #[ak c.null,z9 c.n,au c.s] 59)) (U w.heap) #[ak c.null,bt bM c.n,au c.s] 59:=kQ w _;have bj:U w.heap+1<=(w.alloc (ax #[ak c.null,bt bM c.n,au c.s] 59)).heap.size:=aF;rw[bI,bJ,bN] at bd bi be bc bk bj;have bx:∀a,bB (ah o (I g) p)=K a->a≠U w.heap:=λa f=>cB ((h.lt a f).2);go_enter aE.func37,Tryz.ntmps37;go_wp2_with fail
 skip
 generalize w.alloc (ax #[ak ai,z9 (-1-(I b:Int)),au ⟨#[109,97,114,107]⟩] 59)=c7 at*
 go_loopw [6] (λJ wr=>∃d:Nat,d<=I g/\J=z9 d/\aT wr i 59 3 (ah o (I g) p) (I g) (bZ (dh d c++g.drop d))/\jW wr i j (ah z (I b) y) b x/\r8 j (ah z (I b) y) (ah o (I g) p) w wr/\dw i w wr/\bD wr (U w.heap) #[ak ai,z9 (-1-(I b:Int)),au ⟨#[109,97,114,107]⟩] 59/\U w.heap+1<=U wr.heap) (λJ _=>I g-bS (bw J))
 exact⟨0,cE _,rfl,by simp only[List.replicate_zero,tW,s5];exact bi,bd,be,bc,bk,bj⟩;obtain⟨d,cu,rfl,h,S,al,M,T,bV⟩:=hrel;have a9:=ap al;have s:=ap S;have B:=ap T;have⟨c4,c5,c6,_⟩:=rG T;by_cases a1:d<I g
 .have⟨a,ck⟩:=A7 h aa;subst ck;have bh:I (dh d c++g.drop d)=I g:=bO;have⟨c1,c2,c3⟩:=vv (dh d c++g.drop d) d (b5 bh a1);have br:=pp h (d*3) aa;have bs:=pp h (d*3+1) aa;have bu:=pp h (d*3+2) aa;rw[c1] at br;rw[c2] at bs;rw[c3] at bu;obtain⟨u0,df⟩:∃ad,aJ wr a (d*3) ad:=⟨_,br⟩;obtain⟨u1,dg⟩:∃ad,aJ wr a (d*3+1) ad:=⟨_,bs⟩;obtain⟨u2,dk⟩:∃ad,aJ wr a (d*3+2) ad:=⟨_,bu⟩;have dl:=vM h (d*3);have dm:=vM h (d*3+1);have dn:=vM h (d*3+2);have⟨b3,a8⟩:=s.o.store h (λe t Q A D E R f=>bR e t Q A D E R (by rw[<-f];rfl)) d c (b5 bh a1);rw[aaG g d a1] at a8;have aj:=a9.o.step aa (GJ wr a d (ak c.null) (z9 c.n) (au c.s)) (λQ bv=>an (an (aq (by simp at bv;subst bv;rfl))));have ci:=bx a Y;have bo:(((wr.setCell ⟨a,d*3,Z⟩ (ak c.null)).setCell ⟨a,d*3+1,Z⟩ (z9 c.n)).setCell ⟨a,d*3+2,Z⟩ (au c.s)).heap[U w.heap]? =K (ax #[ak ai,z9 (-1-(I b:Int)),au ⟨#[109,97,114,107]⟩] 59 (0,0)):=by
   rw[(GJ wr a d (ak c.null) (z9 c.n) (au c.s)).block (U w.heap) aa (λe=>ci (by cases e;rfl))];exact B.o
  have aL:=(h.lt a Y).1;have bl:dw i w (((wr.setCell ⟨a,d*3,Z⟩ (ak c.null)).setCell ⟨a,d*3+1,Z⟩ (z9 c.n)).setCell ⟨a,d*3+2,Z⟩ (au c.s)):=((M.setCell aL _).setCell aL _).setCell aL _;rw[bI,bJ,bN] at b3 a8 aj bo bl;have aC:=ap aj;go_wp2
  go_roundw
  case rel=>exact⟨d+1,aa,by go_num,a8,b3,aC.o,bl,bo,cM bV⟩
  case measure=>simp[bw];omega
 have cv:d=I g:=aa;subst cv;rw[yY (aV _),oH] at h;have⟨ba,bb⟩:=s.o.cells;rw[b4.o] at h;go_wp2_with (at_builtin;refine wpList_append_own_at _ Y _ _ 33 Y i 95 b2 (cw #[aH,z9 0]) 2 32 aE.underlying33 bE bY b0 b1 Y ay _ _ _ Y (s.o.own.alloc _) ⟨U wr.heap,0,Z⟩ 1 1 [ah o (I g) p,n9 (I b)] Y Y CD CE (by unfold aS;omega) (by omega) (by simp;omega) ?_;intro dA q u O _ cd;have⟨c9,db⟩:=s.o.zw O;obtain⟨W,V,rfl⟩:=nA u);have⟨cW,cY⟩:=s.o.push (vW.mk h (by omega)) h ae u O;have cg:dw i w (q.setCell ⟨j,1,Z⟩ (ah W (I b+1) V)):=(iB (M.alloc aa _) O bO (λab G=>(s.o.own.lt ab G).1)).setCell ae _;have cs:U w.heap+1<=(q.setCell ⟨j,1,Z⟩ (ah W (I b+1) V)).heap.size:=by have:=O.size;simp at this ⊢;omega
 have aC:X _:=a9.o.push (o:=ax #[ah o (I g) p,n9 (I b)] 95) aa (λ_ m=>aq m) O (ah W (I b+1) V);have b7:X (∀a,bB (ah W (I b+1) V)=K a->bB (ah z (I b) y)=K a\/U w.heap<=a):=λa f=>ff cd (λm=>aq (aB m.symm f)) (λm=>an (by rw[m] at f;cases f;simp;omega));have ca:X (bD (q.setCell ⟨j,1,Z⟩ (ah W (I b+1) V)) (U w.heap) #[ak ai,z9 (-1-(I b:Int)),au ⟨#[109,97,114,107]⟩] 59):=by
  show _=_;rw[ef q ⟨j,1,Z⟩ (U w.heap) _ (λe=>kW B.o s.o.blk ay e),O.block (U w.heap) bO (λe=>by
   have⟨cb,aM⟩:=ny s.o.own (bA e);exact kW B.o aM ay Y),e6 wr _ (U w.heap) aa]
  exact B.o
 go_loopw [1,7] (λa7 J wr=>∃(d r:Nat) (L:F) (k:List (F×Int)),d<=3/\J=z9 d/\r<=1000+d/\I k=d+1/\(∀e∈k,e.2=(I b:Int))/\jW wr i j L (b++k) x/\(∀a,bB L=K a->bB (ah z (I b) y)=K a\/U w.heap<=a)/\aT wr i 59 3 a7 r (bZ (dh r (mkV (I b:Int))))/\
  DY a7 r (I b:Int) (b++k)/\(∀e∈k,∀a,bB e.1=K a->bB (ah o (I g) p)=K a\/U w.heap<=a)/\(∀a,bB a7=K a->(bB (ah o (I g) p)=K a\/U w.heap<=a)/\a≠U w.heap)/\r8 j (ah z (I b) y) (ah o (I g) p) w wr/\dw i w wr/\bD wr (U w.heap) #[ak ai,z9 (-1-(I b:Int)),au ⟨#[109,97,114,107]⟩] 59/\U w.heap+1<=U wr.heap) (λ_ J _=>3-bS (bw J))
 refine⟨0,I g,_,[(ah o (I g) p,(I b:Int))],aa,rfl,aa,rfl,aF,cW,b7.o,cY,?_,?_,λa f=>⟨aq f,bx a f⟩,aC.o,cg,ca.o,cs⟩;intro e t a A D E R a3;rcases eG.1 t with n|n;exact absurd a3 (bR e n a A D E R);simp at n;subst n;simp only[lX] at E;exact⟨rfl,aa⟩;intro e t a f;simp at t;subst t;exact aq f;obtain⟨d,r,L,k,cu,rfl,ds,aQ,H,S,a0,h,co,bm,a2,al,M,T,bV⟩:=hrel;have B:=ap T;have⟨c4,c5,c6,_⟩:=rG T
 skip
 have dt:I (b++k)<=100004:=by rw[cN,aQ];omega
 skip
 generalize aY:b++k=aD at*
 skip
 obtain⟨dy,dv,rfl⟩:=nA S.own;by_cases dd:d<3
 .obtain⟨dE,dC,rfl⟩:=nA h;go_wp2_with (first
   |(at_builtin;refine jw Y (.tmp 42) (.tmp 44) 43 Y i 59 cQ _ 3 32 aE.underlying43 G cG cJ cP Y ay _ r _ Y (h.alloc _) ⟨U wr.heap,0,Z⟩ 1 1 [ak ai,z9 (-1-(I b:Int)),au ⟨#[109,97,114,107]⟩] Y ay Y (lR _) (lS (mkV (I b:Int))) gy aa bO ?_;intro dF q u N;rw[show[ak ai,z9 (-1-(I b:Int)),au ⟨#[109,97,114,107]⟩]=[ak (mkV (I b:Int)).null,z9 (mkV (I b:Int)).n,au (mkV (I b:Int)).s] from rfl,aaF] at u N;have⟨aG,cp⟩:=S.grow co h u N;have C:=ap aG;have⟨ba,bb⟩:=aG.cells;obtain⟨ao,am,rfl⟩:=nA u;clear aG)
   |(at_builtin;refine wpList_append_own_at _ Y (.tmp 50) (.tmp 54) 33 Y i 95 b2 (cw #[aH,z9 0]) 2 32 aE.underlying33 bE bY b0 b1 Y ay _ _ _ Y (C.o.own.alloc _) ⟨U q.heap,0,Z⟩ 1 1 [ah ao (r+1) am,n9 (I b)] Y Y CD CE (by unfold aS;omega) (by omega) (by have:=bC C.o.blk;simp;omega) ?_;intro dB aw bP P _ cf;have⟨da,dc⟩:=C.o.zw P;obtain⟨a6,a5,rfl⟩:=nA bP))
  have⟨cZ,c0⟩:=C.o.push (vW.mk u (by omega)) u ae bP P;have cx:dw i w q/\U wr.heap<=U q.heap:=by
   rcases N with⟨l,_⟩|⟨_,l⟩;exact⟨iB (M.alloc aa _) l bO aF,by have:=l.size;simp at this;omega⟩;exact⟨iB (M.alloc aa _) l bO (λab G=>(h.lt ab G).1),by have:=l.size;simp at this;omega⟩
  have cy:dw i w aw:=iB (cx.1.alloc aa _) P bO (λab G=>(C.o.own.lt ab G).1);have du:U q.heap<=U aw.heap:=by have:=P.size;simp at this;omega
  have bH:∀a,bB (ah ao (r+1) am)=K a->(bB (ah o (I g) p)=K a\/U w.heap<=a)/\a≠U w.heap:=by
   intro a f;rcases N with⟨_,cc⟩|⟨l,_⟩;have:=(cc.lt a f).1;simp at this;exact⟨an aa,aa⟩;exact a2 a (aB (bA l) f)
  have a4:q.heap[U w.heap]? =K (ax #[ak ai,z9 (-1-(I b:Int)),au ⟨#[109,97,114,107]⟩] 59 (0,0)):=by
   rcases N with⟨l,_⟩|⟨_,l⟩;rw[l.block (U w.heap) bO aF,e6 wr _ (U w.heap) aa];exact B.o;rw[l.block (U w.heap) bO (λe=>(a2 _ (bA e)).2 Y),e6 wr _ (U w.heap) aa];exact B.o
  have cA:(aw.setCell ⟨j,1,Z⟩ (ah a6 (I aD+1) a5)).heap[U w.heap]? =K (ax #[ak ai,z9 (-1-(I b:Int)),au ⟨#[109,97,114,107]⟩] 59 (0,0)):=by
   rw[ef aw ⟨j,1,Z⟩ (U w.heap) _ (λe=>kW a4 C.o.blk ay e),P.block (U w.heap) bO (λe=>by
    have⟨cb,aM⟩:=ny C.o.own (bA e);exact kW a4 aM ay Y),e6 q _ (U w.heap) aa]
   exact a4
  have aj:r8 j (ah z (I b) y) (ah o (I g) p) w q:=by
   have bF:=al.step aa (uK wr (ax #[ak ai,z9 (-1-(I b:Int)),au ⟨#[109,97,114,107]⟩] 59) Z) (λa f=>cV f);rcases N with⟨l,_⟩|⟨_,l⟩;exact bF.step bO l (λa f=>cV f);exact bF.step bO l (λa f=>an (an (a2 a f).1))
  have cn:=aj.push (o:=ax #[ah ao (r+1) am,n9 (I b)] 95) aa a0 P (ah a6 (I aD+1) a5);have cl:∀a,bB (ah a6 (I aD+1) a5)=K a->bB (ah z (I b) y)=K a\/U w.heap<=a:=λa f=>ff cf (λm=>a0 a (aB m.symm f)) (λm=>an (by rw[m] at f;cases f;simp;omega));refine⟨⟨d+1,r+1,_,k++[(ah ao (r+1) am,(I b:Int))],aa,by go_num,aa,by rw[cN,aQ];rfl,JY H,by rw[<-iD,aY];exact cZ,cl,c0,?_,?_,bH,cn,cy.setCell ae _,cA,bO⟩,by simp[bw];omega⟩;rw[<-iD,aY];intro e t a A D E R a3;rcases eG.1 t with n|n;exact cp e n a A D E R a3;simp at n;subst n;simp only[lX] at E;exact⟨rfl,aa⟩;intro e t a f;rcases eG.1 t with n|n;exact bm e n a f;simp at n;subst n;exact(bH a f).1
 go_wp2;go_end0;exact⟨rfl,_,k,jG aQ,b5 aY S,H,bm,al,a0,aa,M⟩
def v7 (v:F)(c:Nat):Prop:=∃a b,v=aI c a b/\0<a
def rE (w:ag)(v:F)(m:Int)(c:Nat):Prop:=
 w.heap[c]? =K (ax #[ak ai,z9 (-1-m),au ⟨#[]⟩] 59 (0,0))/\∃b a g,v=ah b a g/\a<=5000/\(0<a->∃e d,b=K ⟨e,0,Z⟩/\w.heap[e]? =K (ax d 43 (0,0))/\∀f,f<a->d[f]? =K (aI c 1 1))
def jD (B:Nat)(iv rv:F)(es fs:List (F×Int))(mb:Int->Nat)(a:Nat):Prop:=a=B\/bB iv=K a\/bB rv=K a\/(∃b∈es,v7 b.1 a)\/∃f∈fs,v7 f.1 a\/a=mb f.2
structure fM(w:ag)(bse9 B:Nat)(iv rv:F)(es fs:List (F×Int))(mb:Int->Nat):Prop where
 vk:jW w bse9 B iv es rv
 own:aT w bse9 91 2 rv (I fs) (tr fs)
 full:∀f∈fs,rE w f.1 f.2 (mb f.2)
def sF{w w':ag}{v:F}(d:aT w n m k v i S)(j:∀(a:Nat) (f:Array F),w.heap[a]? =K (ax f m (0,0))->bB v=K a->w'.heap[a]? =w.heap[a]?):aT w' n m k v i S:=
 ⟨d.1,d.2.imp id fun⟨a,g,b,c,h,e,l⟩=>⟨a,g,b,c,h,aB (j a b e (gJ c)) e,l⟩⟩
section
variable {w w' Q:ag}{J B:Nat}{iv rv jc cx u v H:F}{es fs R:List (F×Int)}{mb:Int->Nat}
def jW.keep(c:jW w J B iv es rv)(f:∀(a:Nat) (e:Array F) (d:aK),w.heap[a]? =K (ax e d (0,0))->(d=37/\a=B)\/(d=95/\bB iv=K a)\/(d=59/\∃b∈es,v7 b.1 a)->w'.heap[a]? =w.heap[a]?):jW w' J B iv es rv:=
 ⟨aB (f B _ _ c.blk (aq ⟨rfl,rfl⟩)) c.blk,sF c.own λa e q b=>f a e _ q (an (aq ⟨rfl,b⟩)),λb l=>by
  have⟨n,m,g,j,r,p⟩:=c.full b l;refine⟨n,m,g,j,r,λi=>?_⟩;obtain⟨a,h,rfl,k,o⟩:=p i;exact⟨a,h,rfl,aB (f a h _ k (an (an ⟨rfl,b,l,m,g,j,i⟩))) k,o⟩⟩
def rE.keep{m:Int}(l:rE w v m n)(g:∀(a:Nat) (k:Array F) (b:aK),w.heap[a]? =K (ax k b (0,0))->(b=59/\a=n)\/(b=43/\v7 v a)->w'.heap[a]? =w.heap[a]?):rE w' v m n:=by
 obtain⟨e,j,i,c,rfl,q,p⟩:=l;refine⟨aB (g n _ _ e (aq ⟨rfl,rfl⟩)) e,j,i,c,rfl,q,λh=>?_⟩;obtain⟨a,d,rfl,f,o⟩:=p h;exact⟨a,d,rfl,aB (g a d _ f (an ⟨rfl,i,c,rfl,h⟩)) f,o⟩
def fM.keep(a:fM w J B iv rv es fs mb)(i:∀(b:Nat) (d:Array F) (c:aK),w.heap[b]? =K (ax d c (0,0))->(c=37\/c=95\/c=91\/c=59\/c=43/\∃f∈fs,v7 f.1 b)->jD B iv rv es fs mb b->w'.heap[b]? =w.heap[b]?):fM w' J B iv rv es fs mb:=
 ⟨a.vk.keep λb d c e g=>i b d c e (ff g (λa=>aq a.1) λa=>ff a (λa=>an (aq a.1)) λa=>an (an (an (aq a.1)))) (ff g (λa=>aq a.2) λa=>ff a (λa=>an (aq a.2)) λa=>an (an (an (aq a.2)))),sF a.own λb d e j=>i b d _ e (an (an (aq Y))) (an (an (aq j))),λf h=>(a.full f h).keep λb d c e g=>i b d c e (an (an (an (g.imp (λa=>a.1) λa=>⟨a.1,f,h,a.2⟩)))) (an (an (an (an ⟨f,h,g.symm.imp (λa=>a.2) λa=>a.2⟩))))⟩
def fM.alloc(c:fM w J B iv rv es fs mb)(a:cj):fM (cD w a) J B iv rv es fs mb:=c.keep λb e f d _ _=>e6 w a b (bC d)
def fM.vals(b:fM w J B iv rv es fs mb)(o:r8 B iv u w Q)(p:∀a,bB u=K a->¬jD B iv rv es fs mb a)(q:jW Q J B jc R rv):fM Q J B jc rv R fs mb:=by
 have j:∀(a:Nat) (e:Array F) (g:aK),bD w a e g->g≠37->g≠95->jD B iv rv es fs mb a->Q.heap[a]? =w.heap[a]? :=λa e g d k l m=>o a (bC d) (λc=>kW d b.vk.blk k c) (λc=>by
  have⟨r,n⟩:=ny b.vk.own c;exact kW d n l Y) (λc=>p a c m)
 exact⟨q,sF b.own λa e d c=>j a e _ d ay ay (an (an (aq c))),λf i=>(b.full f i).keep λa e g d h=>j a e g d (by rcases h with⟨rfl,_⟩|⟨rfl,_⟩<;>decide) (by rcases h with⟨rfl,_⟩|⟨rfl,_⟩<;>decide) (an (an (an (an ⟨f,i,h.symm.imp (λb=>b.2) λb=>b.2⟩))))⟩
def fM.iu(e:fM w J B iv rv es fs mb)(h:∀(a:Nat) (c:Array F) (b:aK),w.heap[a]? =K (ax c b (0,0))->b≠43\/(∃f∈fs,v7 f.1 a)->w'.heap[a]? =w.heap[a]?):fM w' J B iv rv es fs mb:=
 e.keep λa c b g d _=>h a c b g (by
  rcases d with rfl|rfl|rfl|rfl|⟨_,d⟩;exact aq ay;exact aq ay;exact aq ay;exact aq ay;exact an d)
def fM.cells(a:fM w J B iv rv es fs mb):aA w ⟨B,2,Z⟩=K rv/\cU w ⟨B,2,Z⟩=ai:=by
 have:=a.vk.blk;exact⟨by simp[aA,this],by simp[cU,this]⟩
def fM.zw(a:fM w J B iv rv es fs mb)(c:jj (cD w Qk) Q (bB rv)):Q.heap[B]? =K (ax #[aH,iv,rv,aH] 37 (0,0)):=by
 rw[c.block B (by have:=bC a.vk.blk;simp;omega) (λd=>?_),(uK w Qk Z).block B (bC a.vk.blk) aF];exact a.vk.blk;have⟨e,b⟩:=ny a.own (bA d);exact kW a.vk.blk b ay Y
def fM.push(g:fM w J B iv rv es fs mb)(G:rE w v M (mb M))(r:aT Q J 91 2 cx (I fs+1) (tr fs++[v,z9 M]))(q:jj (cD w Qk) Q (bB rv)):
 fM (bg Q ⟨B,2,Z⟩ cx) J B iv cx es (fs++[(v,M)]) mb/\∀(a:Nat) (d:Array F) (b:aK),w.heap[a]? =K (ax d b (0,0))->b≠91->b≠37->(bg Q ⟨B,2,Z⟩ cx).heap[a]? =w.heap[a]? :=by
 have p:=g.zw q;have l:∀(a:Nat) (d:Array F) (b:aK),bD w a d b->b≠91->b≠37->(bg Q ⟨B,2,Z⟩ cx).heap[a]? =w.heap[a]? :=λa d b e k E=>by
  rw[ef Q ⟨B,2,Z⟩ a cx (λi=>kW e g.vk.blk E i),q.block a (by have:=bC e;simp;omega) (λi=>?_),(uK w Qk Z).block a (bC e) aF];have⟨j,c⟩:=ny g.own (bA i);exact kW e c k Y
 refine⟨⟨⟨eE Q B 2 _ _ cx p,sF g.vk.own λa d c _=>l a d _ c ay ay,λz C=>?_⟩,?_,λf n=>?_⟩,l⟩;have⟨x,N,y,h,D,n⟩:=g.vk.full z C;refine⟨x,N,y,h,D,λA=>?_⟩;obtain⟨a,j,rfl,e,c⟩:=n A;exact⟨a,j,rfl,aB (l a j _ e ay ay) e,c⟩;rw[cN,rB,<-IX];refine ownsRow_setCell_other r (λi=>?_) _;have⟨j,c⟩:=ny r i;exact kW c p ay Y;have s:∀{t m o},rE w t m o->rE (bg Q ⟨B,2,Z⟩ cx) t m o:=λL=>L.keep λa d b c k=>l a d b c (by rcases k with⟨rfl,_⟩|⟨rfl,_⟩<;>decide) (by rcases k with⟨rfl,_⟩|⟨rfl,_⟩<;>decide);rcases eG.1 n with h|h;exact s (g.full f h);simp at h;subst h;exact s G
def rE.mk(d:aT w J 43 1 v n (dh n (aI m 1 1)))(g:w.heap[m]? =K (ax #[ak ai,z9 (-1-M),au ⟨#[]⟩] 59 (0,0)))(i:n<=5000):rE w v M m:=by
 refine⟨g,?_⟩;rcases d.2 with⟨rfl,rfl⟩|⟨c,b,a,rfl,_,e,_,_,_,f⟩;exact⟨Z,0,0,rfl,aa,aa⟩;refine⟨_,n,b,rfl,i,λk=>⟨c,a,rfl,e,λj h=>?_⟩⟩;have:(a.toList.take (n*1))[j]? =K (aI m 1 1):=by rw[f];simp[h]
 rw[ry,if_pos aa] at this;simpa using this
def zl (v:F)(e:Nat)(d:Int)(fs:List (F×Int)):Prop:=∀f∈fs,∀b a c,f.1=aI b a c->0<a->bB v=K b->f.2=d/\a<=e
def fM.grow(m:fM w J B iv rv es fs mb)(N:zl v n M fs)(ad:aT w J 43 1 v n (dh n (ah (K ⟨mb M,0,Z⟩) 1 1)))
 (am:aT Q J 43 1 H (n+1) (dh (n+1) (ah (K ⟨mb M,0,Z⟩) 1 1)))
 (g:(jj (w.alloc Qk) Q Z/\aT Q (w.alloc Qk).heap.size 43 1 H (n+1) (dh (n+1) (ah (K ⟨mb M,0,Z⟩) 1 1)))\/(bB H=bB v/\jj (w.alloc Qk) Q (bB v))):
 fM Q J B iv rv es fs mb/\zl H (n+1) M fs/\∀(a:Nat) (c:Array F) (d:aK),w.heap[a]? =K (ax c d (0,0))->d≠43\/bB v≠K a->Q.heap[a]? =w.heap[a]? :=by
 have P:∀a,a<U w.heap->(w.alloc Qk).heap[a]? =w.heap[a]? :=λa g=>e6 w Qk a g;rcases g with⟨g,al⟩|⟨ap,g⟩;have h:∀a,a<U w.heap->Q.heap[a]? =w.heap[a]? :=λa o=>aB (g.block a bO aF) (P a o);refine⟨m.iu λa c d b _=>h a (bC b),λf e a O A o E x=>?_,λa c d b _=>h a (bC b)⟩
 exfalso
 have⟨_,z,y,r,j,_,e⟩:=m.full f e;rw[o] at j;simp only[lX] at j;obtain⟨rfl,rfl,rfl⟩:=j;have⟨az,C,L,p,_⟩:=e E;simp only[kU,r3,and_true] at L;subst L;have:=bC p;have:=(al.lt a x).1;simp at this;omega;rcases am.2 with⟨_,E⟩|⟨D,ar,s,rfl,_,T,_,_,_,ao⟩;omega;have k:bB v=K D:=by rw[<-ap];rfl
 rw[k] at g;have⟨aw,V⟩:=ny ad k;have h:∀(a:Nat) (c:Array F) (d:aK),bD w a c d->d≠43\/bB v≠K a->Q.heap[a]? =w.heap[a]? :=λa c d b i=>aB (g.block a (by have:=bC b;simp;omega) (λS=>by
  cases S;rcases i with i|i;exact kW b V i Y;exact i k)) (P a (bC b))
 have W:∀l,l<n+1->s[l]? =K (ah (K ⟨mb M,0,Z⟩) 1 1):=λl I=>by
  have:(s.toList.take ((n+1)*1))[l]? =K (ah (K ⟨mb M,0,Z⟩) 1 1):=by rw[ao];simp[List.getElem?_replicate,I]
  rw[ry,if_pos aa] at this;simpa using this
 refine⟨⟨m.vk.keep λa c d b i=>h a c d b (aq (by rcases i with⟨rfl,_⟩|⟨rfl,_⟩|⟨rfl,_⟩<;>decide)),sF m.own λa c b _=>h a c _ b (aq ay),λf e=>?_⟩,λf e a O A o q x=>?_,h⟩;have⟨G,z,y,r,j,aj,ab⟩:=m.full f e;refine⟨aB (h _ _ _ G (aq ay)) G,z,y,r,j,aj,λq=>?_⟩;obtain⟨a,C,rfl,p,b⟩:=ab q;by_cases X:a=D;subst X;have⟨t,ae⟩:=N f e a y r j q k;exact⟨a,s,rfl,T,λl I=>b5 t (W l aa)⟩;exact⟨a,C,rfl,aB (h a _ _ p (an (by rw[k];simp;omega))) p,b⟩;have⟨t,ae⟩:=N f e a O A o q (b5 k x);exact⟨t,aa⟩
end
def aE.JH:((aM av).info? 91).map (λa=>(jL a,a.size,ji a))=K (K (cw #[aH,z9 0]),2,32):=bl
def aE.Tz:((aM av).info? 43).map (λa=>(jL a,a.size,ji a))=K (K aH,1,24):=bl
section
variable {w T E:ag}{S B:Nat}{O rv jc cx u v A:F}{H Q J:List (F×Int)}{R:Int->Nat}
def v7.own(a:v7 v n):bB v=K n:=by obtain⟨c,b,rfl,_⟩:=a;rfl
def fM.mark(a:fM w S B O rv H Q R)(e:∀f∈Q,f.2<(I Q:Int))(d:Nat):fM w S B O rv H Q (λc=>if c=(I Q:Int) then d else R c):=
 ⟨a.vk,a.own,λf b=>by have:=e f b;show rE _ _ _ (if f.2=_ then _ else _);rw[if_neg aa];exact a.full f b⟩
def jD.mark(a:jD B O rv H Q (λc=>if c=(I Q:Int) then n else R c) m)(d:∀f∈Q,f.2<(I Q:Int)):jD B O rv H Q R m:=by
 rcases a with a|a|a|a|⟨f,b,a⟩;exact aq a;exact an (aq a);exact an (an (aq a));exact an (an (an (aq a)));have:=d f b;exact an (an (an (an ⟨f,b,a.imp id λa=>by rw[a];show(if f.2=_ then _ else _)=_;rw[if_neg aa]⟩)))
def jD.push(a:jD B O cx H (Q++[(v,M)]) R n):jD B O rv H Q R n\/bB cx=K n\/bB v=K n\/n=R M:=by
 rcases a with a|a|a|a|⟨f,b,a⟩;exact aq (aq a);exact aq (an (aq a));exact an (aq a);exact aq (an (an (an (aq a))));rcases eG.1 b with b|b;exact aq (an (an (an (an ⟨f,b,a⟩))));simp at b;subst b;exact an (an (a.imp (λa=>a.own) id))
def jD.vals(a:jD B jc rv (H++J) Q R n)(d:∀n,bB jc=K n->bB O=K n\/m<=n)(e:∀c∈J,∀n,bB c.1=K n->bB u=K n\/m<=n)(f:n<m):jD B O rv H Q R n\/bB u=K n:=by
 rcases a with a|a|a|⟨c,b,a⟩|a;exact aq (aq a);rcases d n a with a|a;exact aq (an (aq a));omega;exact aq (an (an (aq a)));rcases eG.1 b with b|b;exact aq (an (an (an (aq ⟨c,b,a⟩))));rcases e c b n a.own with a|a;exact an a;omega;exact aq (an (an (an (an a))))
end
def Ss(a:n<I qM):(dh n x++qM.drop n).set n x=dh (n+1) x++qM.drop (n+1):=by
 rw[y7 _ _ aF,List.length_replicate,Nat.sub_self,pE a,ct,y6 (n:=n)];simp
def rJ (v:Nat->F):bK:=⟨#[v 0,v 1,v 2,v 3,v 4,v 5,v 6,v 7,v 8,v 9,v 10,v 11,v 12,v 13,v 14,v 15,v 16,v 17,v 18,v 19,v 20,v 21,v 22,v 23,v 24,v 25,v 26,v 27,v 28,v 29,v 30,v 31,v 32,v 33,v 34,v 35,v 36,v 37,v 38,v 39,v 40,v 41,v 42,v 43,v 44,v 45,v 46,v 47,v 48,v 49,v 50,v 51,v 52,v 53,v 54,v 55,v 56,v 57,v 58,v 59,v 60,v 61,v 62,v 63,v 64,v 65,v 66,v 67,v 68,v 69,v 70,v 71],[]⟩
def zN(a:U qS.tmps=72)(c:b8 qS=[]):qS=rJ (Cc.cG qS):=by
 have⟨e,f⟩:=qS;simp only at a c;subst c;show _=(⟨cX ((eH 72).map (Cc.cG ⟨e,[]⟩)),[]⟩:bK);congr 1;apply vB;intro d;simp only[List.getElem?_toArray,sb,List.getElem?_range];rcases ij d 72 with b|b;simp[b,Cc.cG,a];simp[b,a]
def vi{b s:Nat}{v:F}(a:U qS.tmps=b)(c:Cc.cG qS s=v):Cc.Knows qS b [(s,v)]:=Cc.Knows.cons (l:=[]) ⟨a,λs v a=>by simp at a⟩ c
def Fx (b:cO):de:=match b.body with|some (aU a _)=>a|_=>eO
def Vh{B g:Nat}{O rv:F}{d:List (List az)}{H Q:List (F×Int)}{R:Int->Nat}{w:ag}(bo:Qx 0=(aZ B))(br:Qx 1=ah P (I d) n)(bE:I d<=2000)(bc:∀bl∈d,I bl<=1000)(bD:I H<=50000)(c:fM w g B O rv H Q R)(a6:g<=B)
 (y:aT w g 43 1 (ah P (I d) n) (I d) qM) (aj:∀(i:Nat) Qx,d[i]? =K Qx->∃u,qM[i]? =K u/\aT w g 59 3 u (I Qx) (bZ Qx)) (a4:∀(i e:Nat) u f a,qM[i]? =K u->qM[e]? =K f->bB u=K a->bB f=K a->i=e)
 (a5:∀a,bB (ah P (I d) n)=K a\/(∃(e:Nat) (u:F),qM[e]? =K u/\bB u=K a)\/q9 a->¬jD B O rv H Q R a)
 (al:∀t,q9 t->t<U w.heap/\bB (ah P (I d) n)≠K t/\∀(e:Nat) u,qM[e]? =K u->bB u≠K t) (r:∀b∈H,0<=b.2/\b.2<=1000000):
 (Fx lW).wp (aM av) (λb ad T=>b=e4/\(∃jc J,fM T g B jc rv J Q R/\I J=I H+4*I d/\(∀b∈J,0<=b.2/\b.2<=1000000)/\(∀a,bB (ah P (I d) n)=K a\/q9 a->T.heap[a]? =w.heap[a]? /\¬jD B jc rv J Q R a))/\dw g w T/\Cc.Knows ad 72 [(0,Qx 0),(1,Qx 1)]/\b8 ad=[]) (rJ Qx) w:=by
 have bv:g<=U w.heap:=cB (bC c.vk.blk);have bh:I qM=I d:=cB y.1;have ab:=ap y;have aF:X (∀a,bB (ah P (I d) n)=K a->a<U w.heap):=λa h=>(y.lt a h).2;have aH:=ap c;have aG:=ap r;unfold rJ;rw[bo,br];unfold Fx lW;dsimp only;go_wp2_with fail
 go_loopw [4] (λi wr=>∃(f:Nat) (jc:F) (J:List (F×Int)),f<=I d/\i=z9 f/\fM wr g B jc rv J Q R/\I J=I H+4*f/\(∀b∈J,0<=b.2/\b.2<=1000000)/\(∀a,bB (ah P (I d) n)=K a\/(∃e u,f<=e/\qM[e]? =K u/\bB u=K a)\/q9 a->wr.heap[a]? =w.heap[a]? /\¬jD B jc rv J Q R a)/\dw g w wr/\U w.heap<=U wr.heap) (λi _=>I d-bS (bw i))
 exact⟨0,O,H,cE _,rfl,aH.o,rfl,aG.o,λa h=>⟨rfl,a5 a (h.imp id λc=>c.imp (fun⟨e,u,_,c⟩=>⟨e,u,c⟩) id)⟩,bU _ _,aV _⟩;obtain⟨f,jc,J,bH,rfl,D,ao,r,C,am,bF⟩:=hrel;have q:=ap C;have W:=ap am;have a9:I J<=100000:=aa;have ay:=sF ab.o λa k _ b=>(C a (aq b)).1;clear C am;by_cases ar:f<I d
 .have⟨u,l,G⟩:=aj f d[f] (dH ar);have be:=sF G λa k _ b=>(q.o a (an (aq ⟨f,u,aV _,l,b⟩))).1;have aC:=λa (b:bB u=K a)=>(q.o a (an (aq ⟨f,u,aV _,l,b⟩))).2;have⟨a3,ba⟩:=A7 ay aa;subst ba;have a8:=pp ay f (by omega);rw[l] at a8;have aE:=Vr B g u jc d[f] J (bc _ (c8 ar)) a9 D.vk be a6 (λb z a2 bk aL m o p=>aC a2 p (an (an (an (aq ⟨b,z,bk,aL,m,o⟩)))));have aI:=ap G;obtain⟨bn,bm,rfl⟩:=nA G;go_wp2_with (go_at_call 37;refine bL aE ?_;rintro b E ⟨rfl,bi,a1,m,o,p,M,s,N,aD,V⟩;have aJ:X _:=rV m (rV o (rV p (rV M (rV s (rV N (rV aD V)))))));have⟨m,o,p,M,s,N,aD,V⟩:=aJ.o
  go_roundw
  refine⟨f+1,bi,J++a1,aa,by go_num,D.vals s aC o,by rw[cN,m,ao];omega,λb z=>?_,λa h=>?_,W.o.trans V,aa⟩;rcases eG.1 z with c|c;exact r b c;rw[p b c];omega;have bd:bB (ah (K ⟨a3,0,Z⟩) (I d) n)=K a\/(∃e u,f<=e/\qM[e]? =K u/\bB u=K a)\/q9 a:=h.imp id λc=>c.imp (fun⟨e,u,x,j⟩=>⟨e,u,aa,j⟩) id;have⟨bj,L⟩:=q.o a bd;have aw:bB (ah bn d[f].length bm)≠K a:=λb=>by
   rcases h with c|⟨e,u,x,j,k⟩|c;have⟨bs,aQ⟩:=ny ab.o c;have⟨bu,aY⟩:=ny aI.o b;exact kW aQ aY (by decide) Y;have:=a4 f e _ _ a l j b k;omega;exact(al a c).2.2 f _ l b
  have bx:a<U w.heap:=by
   rcases h with c|⟨e,u,x,j,k⟩|c;exact aF.o a c;have bb:e<I d:=by have:=(fq.1 j).1;have:=bh;omega
   have⟨u2,ae,a0⟩:=aj e _ (dH bb);rw[j] at ae;cases ae;exact(a0.lt a k).2;exact(al a c).1
  refine⟨(s a (by omega) (λb=>L (aq b)) (λb=>L (an (aq b))) aw).trans bj,λa7=>?_⟩;rcases a7.vals N M (by omega) with c|c;exact L c;exact aw c;simp[bw];omega
 .obtain rfl:f=I d:=by omega
  go_wp2_with fail;exact⟨⟨jc,J,D,ao,λx j c=>r _ c,λa h=>q.o a (h.imp id an)⟩,W.o,(vi Y Y).cons Y⟩
def Fy (b:cO):de:=match b.body with|some (aU _ (aU a _))=>a|_=>eO
def Fz (b:cO):de:=match b.body with|some (aU _ (aU _ (aU a _)))=>a|_=>eO
def FA (b:cO):de:=match b.body with|some (aU _ (aU _ (aU _ (aU a _))))=>a|_=>eO
def FB (b:cO):de:=match b.body with|some (aU _ (aU _ (aU _ (aU _ (aU a _)))))=>a|_=>eO
def FC (b:cO):de:=match b.body with|some (aU _ (aU _ (aU _ (aU _ (aU _ a)))))=>a|_=>eO
def Vi(d:Qx 0=(aZ n))(e:aJ w n 2 (ah O m bE)):
 (Fy lW).wp (aM av) (λb a c=>b=e4/\c=w/\Cc.Knows a 72 [(0,Qx 0),(1,Qx 1),(5,n9 m)]/\b8 a=[]) (rJ Qx) w:=by
 unfold rJ;rw[d];unfold Fy lW;dsimp only;go_wp2_with fail;exact((vi Y Y).cons Y).cons Y
def Vj(d:Qx 5=n9 n)(e:n<=100000):
 (Fz lW).wp (aM av) (λb a c=>b=e4/\c=cD w (ax #[ak ai,z9 (-1-(n:Int)),au ⟨#[]⟩] 59)/\Cc.Knows a 72 [(0,Qx 0),(1,Qx 1),(5,n9 n),(6,aI (U w.heap) 1 1)]/\b8 a=[]) (rJ Qx) w:=by
 unfold rJ;rw[d];unfold Fz lW;dsimp only;go_wp2_with fail;exact(((vi Y Y).cons Y).cons Y).cons Y
def Vm(C:Qx 1=ah O m k)(D:Qx 6=aI i 1 1)(G:m<=2000)(o:aT w n 43 1 (ah O m k) m S):
 (FA lW).wp (aM av) (λf l d=>f=e4/\aT d n 43 1 (ah O m k) m (dh m (aI i 1 1))/\(∀b,bB (ah O m k)≠K b->d.heap[b]? =w.heap[b]?)/\U d.heap=U w.heap/\dw n w d/\Cc.Knows l 72 [(0,Qx 0),(1,Qx 1),(5,Qx 5),(6,Qx 6)]/\b8 l=[]) (rJ Qx) w:=by
 have e:=ap o;have J:I S=m:=cB o.1;unfold rJ;rw[C,D];unfold FA lW;dsimp only;go_wp2_with fail
 go_loopw [7] (λg wr=>∃a:Nat,a<=m/\g=z9 a/\aT wr n 43 1 (ah O m k) m (dh a (aI i 1 1)++S.drop a)/\(∀b,bB (ah O m k)≠K b->wr.heap[b]? =w.heap[b]?)/\U wr.heap=U w.heap/\dw n w wr) (λg _=>m-bS (bw g))
 exact⟨0,cE _,rfl,by rw[List.replicate_zero,tW,s5];exact e.o,λb _=>rfl,rfl,bU _ _⟩;obtain⟨a,H,rfl,c,s,x,p⟩:=hrel;have h:=ap p;have j:=ap x;clear p x;by_cases u:a<m
 .have⟨b,B⟩:=A7 c aa;subst B;have q:=pp c a aa;have t:I (dh a (ah (K ⟨i,0,Z⟩) 1 1)++S.drop a)=m:=bO;rw[dH (b5 t u)] at q;generalize (dh a (ah (K ⟨i,0,Z⟩) 1 1)++S.drop a)[a]'(b5 t u)=L at q;have E:=vM c a;have v:=(c.stored a (aI i 1 1)).1;rw[Ss (by omega)] at v;have A:=(c.lt b Y).1;have y:X (dw n w (wr.setCell ⟨b,a,Z⟩ (aI i 1 1))):=h.o.setCell A _;go_wp2
  go_roundw
  exact⟨a+1,by omega,by go_num,v,λz r=>aB (ef _ _ _ _ (λf=>r (gJ f))) (s z r),cM j.o,y.o⟩;simp[bw];omega
 obtain rfl:a=m:=aa;rw[yY aa,oH] at c;have e:=ap c;clear c;go_wp2_with fail;exact⟨e.o,s,j.o,h.o,(((vi Y Y).cons Y).cons Y).cons Y⟩
def Vn{q f:List (F×Int)}{l:Int->Nat}(S:Qx 0=(aZ n))(T:Qx 1=ah O k i)(V:Qx 5=n9 j)(b:fM w m n v x q f l)(ad:I f<=2000)(G:rE w (ah O k i) (j:Int) (l (j:Int)))(y:m<=n):
 (FB lW).wp (aM av) (λc p h=>c=e4/\(∃cx,fM h m n v cx q (f++[(ah O k i,(j:Int))]) l/\(∀a,bB cx=K a->bB x=K a\/U w.heap<=a))/\(∀(a:Nat) (u:Array F) (o:aK),w.heap[a]? =K (ax u o (0,0))->o≠91->o≠37->h.heap[a]? =w.heap[a]?)/\(∀a,a<U w.heap->a≠n->bB x≠K a->h.heap[a]? =w.heap[a]?)/\dw m w h/\Cc.Knows p 72 [(0,Qx 0),(1,Qx 1),(5,Qx 5),(6,Qx 6)]/\b8 p=[]) (rJ Qx) w:=by
 have⟨M,D,H,J,L⟩:=eU aE.JH;obtain⟨R,bE,rfl⟩:=nA b.own;have⟨W,aa⟩:=b.cells;have e:=ap b;have A:m<=U w.heap:=by have:=bC b.vk.blk;omega
 unfold rJ;rw[S,T,V];unfold FB lW;dsimp only;go_wp2_with (at_builtin;refine wpList_append_own_at _ Y _ _ 34 Y m 91 M (cw #[aH,z9 0]) 2 32 aE.underlying34 D H J L Y ay _ _ _ Y (e.o.own.alloc _) ⟨U w.heap,0,Z⟩ 1 1 [ah O k i,bt bM (j:Int)] Y Y CD CE (by unfold aS;omega) (by omega) (by simp;omega) ?_;intro al t s g _ z;have r:=e.o.zw g;obtain⟨X,ab⟩:aA t ⟨n,2,Z⟩=K (ah R (I f) bE)/\cU t ⟨n,2,Z⟩=ai:=⟨by simp[aA,r],by simp[cU,r]⟩;obtain⟨aj,ae,rfl⟩:=nA s);have⟨P,Q⟩:=e.o.push G s g;exact⟨⟨_,P,λa d=>ff z (λb=>aq (aB b.symm d)) (λb=>an (by rw[b] at d;cases d;simp))⟩,Q,λa d B C=>aB (ef _ _ _ _ (λc=>B c)) (aB (g.block a bO (λc=>C (bA c))) (e6 w _ a d)),tS (iB ((bU _ _).alloc A _) g bO (λN E=>(e.o.own.lt N E).1)) y _,(((vi Y Y).cons Y).cons Y).cons Y⟩
def Vo{o g:List (F×Int)}{e:Int->Nat}(bY:Qx 0=(aZ n))(bZ:Qx 1=ah O i j)(b0:Qx 5=n9 a)(b1:Qx 6=ah (K ⟨e (a:Int),0,Z⟩) 1 1)(ck:i<=2000)(aw:I g<=2000)(a9:k<=n)(d:fM w k n v x o g e)
 (s:aT w k 43 1 (ah O i j) i (dh i (ah (K ⟨e (a:Int),0,Z⟩) 1 1))) (bl:zl (ah O i j) i (a:Int) g) (bb:w.heap[e (a:Int)]? =K (ax #[ak ai,z9 (-1-(a:Int)),au ⟨#[]⟩] 59 (0,0)))
 (S:∀b,q9 b->b<U w.heap/\¬jD n v x o g e b/\bB (ah O i j)≠K b/\b≠e (a:Int)):
 (FC lW).wp (aM av) (λh a3 aj=>h=e4/\(∃cx c,fM aj k n v cx o (g++c) e/\I c=3/\(∀f∈c,f.2=(a:Int))/\∀b,q9 b->aj.heap[b]? =w.heap[b]? /\¬jD n v cx o (g++c) e b)/\dw k w aj/\b8 a3=[]) (rJ Qx) w:=by
 have⟨bJ,B,bu,bv,bx⟩:=eU aE.Tz;have⟨bI,bi,bE,bF,bH⟩:=eU aE.JH;have ch:k<=U w.heap:=cB (bC d.vk.blk);have a0:X (fM w k n v x o (g++[]) e):=by show fM _ _ _ _ _ _ _ _;rw[oH];exact d
 have a1:X (zl (ah O i j) i (a:Int) (g++[])):=by show zl _ _ _ _;rw[oH];exact bl
 have a2:X (∀b,q9 b->¬jD n v x o (g++[]) e b):=λb p=>by rw[oH];exact(S b p).2.1
 have aY:=ap s;unfold rJ;rw[bY,bZ,b0,b1];unfold FC lW;dsimp only;go_wp2_with fail
 go_loopw [1,8] (λae ab wr=>∃(r m:Nat) (cx:F) (c:List (F×Int)),r<=3/\ab=z9 r/\m<=2000+r/\I c=r/\(∀f∈c,f.2=(a:Int))/\fM wr k n v cx o (g++c) e/\aT wr k 43 1 ae m (dh m (ah (K ⟨e (a:Int),0,Z⟩) 1 1))/\zl ae m (a:Int) (g++c)/\(∀b,q9 b->wr.heap[b]? =w.heap[b]? /\¬jD n v cx o (g++c) e b/\bB ae≠K b)/\dw k w wr/\U w.heap<=U wr.heap/\bD wr (e (a:Int)) #[ak ai,z9 (-1-(a:Int)),au ⟨#[]⟩] 59) (λ_ ab _=>3-bS (bw ab))
 exact⟨0,i,x,[],aa,rfl,aa,rfl,λf aw=>by simp at aw,a0.o,aY.o,a1.o,λb p=>⟨rfl,a2.o b p,(S b p).2.2.1⟩,bU _ _,aV _,bb⟩;obtain⟨r,m,cx,c,cp,rfl,ci,T,aG,Q,s,bm,W,ao,co,aD⟩:=hrel;have cl:I (g++c)<=2003:=by rw[cN,T];omega
 skip
 generalize y:g++c=E at*
 skip
 obtain⟨M,L,rfl⟩:=nA Q.own;by_cases cg:r<3;obtain⟨bP,bN,rfl⟩:=nA s;go_wp2_with (first
  |(at_builtin;refine jw Y (.tmp 56) (.tmp 58) 26 Y k 43 bJ _ 1 24 aE.underlying26 B bu bv bx Y ay _ m _ Y (s.alloc _) ⟨U wr.heap,0,Z⟩ 1 1 [ah (K ⟨e (a:Int),0,Z⟩) 1 1] Y ay Y (ot _) (λcA aJ=>by simp at aJ;rw[aJ];rfl) gy aa bO ?_;intro cs t C z;rw[<-y6] at C z;have⟨R,bn,bj⟩:=Q.grow bm s C z;have u:=ap R;have⟨cb,cd⟩:=R.cells;obtain⟨J,H,rfl⟩:=nA C;clear R)
  |(at_builtin;refine wpList_append_own_at _ Y (.tmp 64) (.tmp 68) 34 Y k 91 bI (cw #[aH,z9 0]) 2 32 aE.underlying34 bi bE bF bH Y ay _ _ _ Y (u.o.own.alloc _) ⟨U t.heap,0,Z⟩ 1 1 [ah J (m+1) H,bt bM (a:Int)] Y Y CD CE (by unfold aS;omega) (by omega) (by have:=bC u.o.vk.blk;simp;omega) ?_;intro cy D aI A _ bd;have ar:=u.o.zw A;obtain⟨cc,cf⟩:aA D ⟨n,2,Z⟩=K (ah M (I E) L)/\cU D ⟨n,2,Z⟩=ai:=⟨by simp[aA,ar],by simp[cU,ar]⟩;obtain⟨cv,cu,rfl⟩:=nA aI))
 have V:=aB (bj _ _ _ aD (aq ay)) aD;have⟨bV,aL⟩:=u.o.push (rE.mk C V (by omega)) aI A;have br:dw k w t/\U wr.heap<=U t.heap:=by
  rcases z with⟨l,_⟩|⟨_,l⟩;exact⟨iB (ao.alloc aa _) l bO aF,by have:=l.size;simp at this;omega⟩;exact⟨iB (ao.alloc aa _) l bO (λad B=>(s.lt ad B).1),by have:=l.size;simp at this;omega⟩
 have bs:dw k w D:=iB (br.1.alloc aa _) A bO (λad B=>(u.o.own.lt ad B).1);have cn:U t.heap<=U D.heap:=by have:=A.size;simp at this;omega
 have bk:∀q,bB (ah J (m+1) H)=K q->bB (ah bP m bN)=K q\/U wr.heap<=q:=by
  intro q az;rcases z with⟨_,a7⟩|⟨l,_⟩;have:=(a7.lt q az).1;simp at this;exact an aa;exact aq (aB (bA l) az)
 refine⟨⟨r+1,m+1,_,c++[(ah J (m+1) H,(a:Int))],aa,by go_num,aa,by rw[cN,T];rfl,JY aG,by rw[<-iD,y];exact bV,sF C λq a4 be _=>aL q a4 _ be ay ay,?_,λb p=>?_,tS bs a9 _,bO,aB (aL _ _ _ V ay ay) V⟩,by simp[bw];omega⟩;rw[<-iD,y];intro h bh q bR a5 al a8 bo;rcases eG.1 bh with G|G;exact bn h G q bR a5 al a8 bo;simp at G;subst G;simp only[lX] at al;exact⟨rfl,aa⟩;obtain⟨b4,N,aQ⟩:=W b p;obtain⟨b2,cG,cJ,b3⟩:=S b p;have a6:t.heap[b]? =wr.heap[b]? :=by
  rcases z with⟨l,_⟩|⟨_,l⟩;rw[l.block b bO aF,e6 wr _ b aa]
  .rw[l.block b (by simp;omega) (λh=>aQ (bA h)),e6 wr _ b aa]
 have aC:bB (ah J (m+1) H)≠K b:=λh=>by
  rcases bk b h with d|d;exact aQ d;omega
 refine⟨?_,λam=>?_,aC⟩;rw[ef D ⟨n,2,Z⟩ b _ (λh=>N (aq h)),A.block b bO (λh=>N (an (an (aq (bA h))))),e6 t _ b aa,a6];exact b4;rw[<-iD,y] at am;rcases am.push (rv:=ah M (I E) L) with d|d|d|d;exact N d;rcases bd with P|P;exact N (an (an (aq (aB P.symm d))));rw[P] at d;cases d;simp at b2;omega;exact aC d;exact b3 d;go_wp2_with fail;have ba:∀b,q9 b->wr.heap[b]? =w.heap[b]? /\¬jD n v (ah M (I E) L) o (g++c) e b:=λb p=>⟨(W b p).1,by rw[y];exact(W b p).2.1⟩;have bc:fM wr k n v (ah M (I E) L) o (g++c) e:=b5 y Q;exact⟨_,c,bc,cB T,λb7 ca d=>aG _ d,ba⟩
def Vk:(lW).body=K (aU (Fx lW) (aU (Fy lW) (aU (Fz lW) (aU (FA lW) (aU (FB lW) (FC lW)))))):=rfl
def Kt(g k:Nat)(v:F)(h:List (List az))(r:List F)(D d:List (F×Int))(z:Int->Nat)(O:Nat->Prop)(m:ag)(ar:I h<=2000)(cg:∀cA∈h,I cA<=1000)(cd:I D<=50000)(cY:I d<=1000)(i:fM m k g x y D d z)(ab:k<=g)
 (t:aT m k 43 1 v (I h) r) (bN:∀(H:Nat) aG,h[H]? =K aG->∃j,r[H]? =K j/\aT m k 59 3 j (I aG) (bZ aG)) (bO:∀(H w:Nat) j aD a,r[H]? =K j->r[w]? =K aD->bB j=K a->bB aD=K a->H=w)
 (bP:∀a,bB v=K a\/(∃(w:Nat) (j:F),r[w]? =K j/\bB j=K a)\/O a->¬jD g x y D d z a)
 (a0:∀b,O b->b<U m.heap/\bB v≠K b/\∀(w:Nat) j,r[w]? =K j->bB j≠K b) (ci:∀c∈D,0<=c.2/\c.2<=1000000) (ao:∀f∈d,0<=f.2/\f.2<(I d:Int)):
 bn 15 #[(aZ g),v] m λc aF=>c=aR (cC #[])/\(∃jc cx P E l,fM aF k g jc cx P E l/\I P=I D+4*I h/\I E=I d+4/\(∀c∈P,0<=c.2/\c.2<=1000000)/\(∀f∈E,0<=f.2/\f.2<(I E:Int))/\∀b,O b->aF.heap[b]? =m.heap[b]? /\¬jD g jc cx P E l b)/\dw k m aF:=by
 obtain⟨n,o,rfl⟩:=nA t;refine calls_of_wp aE.func15 Vk ?_;have s:=Cc.Cn (aZ g) (ah n (I h) o) 72 ay;generalize Z:(#[(aZ g),ah n (I h) o]++jh (72-2) cI:Array F)=cM at s;have co:({tmps:= #[(aZ g),ah n (I h) o]++jh (lW.ntmps-2) cI,defers:=[]}:bK)=⟨cM,[]⟩:=by rw[<-Z];rfl
 show gD _ _ _ {tmps:= #[(aZ g),ah n (I h) o]++jh (lW.ntmps-2) cI,defers:=[]} m;rw[co,zN s.size Y];refine gQ (fR ?_ (Vh (s.slot 0 _ Y) (s.slot 1 _ Y) ar cg cd i ab t bN bO bP a0 ci));rintro c a9 c3 ⟨rfl,⟨u,oh,ad,cb,ck,R⟩,a1,V,bi⟩;have cn:=sF t λa W _ c=>(R a (aq c)).1;have aI:=(V.slot 0 _ Y).trans (s.slot 0 _ Y);obtain⟨L,bE,rfl⟩:=nA i.own;have cZ:=a1.size;show gD _ _ _ a9 _;rw[zN V.size bi];refine gQ (fR ?_ (Vi aI ad.cells.1));rintro c ba p ⟨rfl,rfl,N,bj⟩;have br:=(N.slot 0 _ Y).trans aI;have bs:=(N.slot 1 _ Y).trans ((V.slot 1 _ Y).trans (s.slot 1 _ Y));show gD _ _ _ ba _;rw[zN N.size bj];refine gQ (fR ?_ (Vj (N.slot 5 _ Y) (by omega)));rintro c bb M ⟨rfl,G,A,bk⟩;have bu:=(A.slot 0 _ Y).trans br;have aJ:=(A.slot 1 _ Y).trans bs;have bv:=A.slot 5 _ Y;have X:=A.slot 6 _ Y;have cW:k<=U p.heap:=cB (bC ad.vk.blk);have b3:dw k m M:=b5 G (a1.alloc aa _);have S:M.heap[U p.heap]? =K (ax #[ak ai,z9 (-1-(I d:Int)),au ⟨#[]⟩] 59 (0,0)):=b5 G (kQ p _);have aY:fM M k g u (ah L (I d) bE) oh d (λJ=>if J=(I d:Int) then U p.heap else z J):=by rw[G];exact(ad.alloc _).mark (λf e=>(ao f e).2) _
 have ap:aT M k 43 1 (ah n (I h) o) (I h) r:=b5 G (cn.alloc _);have cf:∀a,a<U p.heap->M.heap[a]? =p.heap[a]? :=λa Q=>b5 G (e6 p _ a Q);have c0:=bC S;obtain⟨l,am⟩:∃l,l=λJ=>if J=(I d:Int) then U p.heap else z J:=⟨_,rfl⟩
 have cl:l (I d:Int)=U p.heap:=b5 am (if_pos Y);have ca:∀a,jD g u (ah L (I d) bE) oh d l a->jD g u (ah L (I d) bE) oh d z a:=λa Q=>by rw[am] at Q;exact Q.mark λf e=>(ao f e).2
 rw[<-am] at aY;rw[<-cl] at X S;show gD _ _ _ bb _;rw[zN A.size bk];refine gQ (fR ?_ (Vm aJ X ar ap));rintro c bc cP ⟨rfl,a5,aj,c1,b4,B,bl⟩;have aL:=(B.slot 0 _ Y).trans bu;have aM:=(B.slot 1 _ Y).trans aJ;have aQ:=(B.slot 5 _ Y).trans bv;have bx:=(B.slot 6 _ Y).trans X;have bR:=aY.iu (w':=cP) λa W aD ae aw=>aj a λc=>by
  rcases aw with aw|⟨f,e,b0⟩;have⟨be,aC⟩:=ny ap c;exact kW ae aC aw Y;exact(R a (aq c)).2 (an (an (an (an ⟨f,e,aq b0⟩))))
 have al:=(aj _ λc=>by have⟨be,aC⟩:=ny ap c;exact kW S aC ay Y).trans S;have cs:∀a,bB (ah n (I h) o)=K a->¬jD g u (ah L (I d) bE) oh d z a:=λa c=>(R a (aq c)).2;show gD _ _ _ bc _;rw[zN B.size bl];refine gQ (fR ?_ (Vn aL aM aQ bR (by omega) (rE.mk a5 al aa) ab));rintro c bd a8 ⟨rfl,⟨cG,bV,b1⟩,a4,cu,a2,C,bm⟩;have bD:=(C.slot 0 _ Y).trans aL;have bF:=(C.slot 1 _ Y).trans aM;have bH:=(C.slot 5 _ Y).trans aQ;have bI:=(C.slot 6 _ Y).trans bx;have c2:=a2.size;show gD _ _ _ bd _;rw[zN C.size bm];have a7:∀b,O b->a8.heap[b]? =m.heap[b]? /\b<U a8.heap/\¬jD g u cG oh (d++[(ah n (I h) o,(I d:Int))]) l b/\bB (ah n (I h) o)≠K b/\b≠l (I d:Int):=λb q=>by
  have⟨c5,aH,c6⟩:=a0 b q;have⟨cQ,T⟩:=R b (an q);have cy:=λi=>T (ca b i);refine⟨((cu b aa (λc=>T (aq c)) (λc=>T (an (an (aq c))))).trans ((aj b aH).trans ((cf b aa).trans cQ))),aa,λb2=>?_,aH,aa⟩;rcases b2.push (rv:=ah L (I d) bE) with i|i|i|i
  .exact cy i
  .rcases b1 b i with i|i
   .exact T (an (an (aq i)))
   .omega
  .exact aH i
  .omega
 refine fR ?_ (Vo bD bF bH bI ar (by simp;omega) ab bV (sF a5 λa W ae _=>a4 a W _ ae ay ay) (λf e a cv bh t Z cp=>?_) ((a4 _ _ _ al ay ay).trans al) λb q=>(a7 b q).2);rotate_left;rcases eG.1 e with e|e;exact absurd (an (an (an (an ⟨f,e,aq ⟨cv,bh,t,Z⟩⟩)))) (cs a cp);simp at e;subst e;simp only[lX] at t;exact⟨rfl,aa⟩;rintro c cV c4 ⟨rfl,⟨cJ,bJ,bY,a3,cc,a6⟩,b7,bo⟩;refine⟨bo,cC #[],?_,rfl,⟨u,cJ,oh,_,l,bY,cb,by simp[a3],ck,λf e=>?_,λb q=>⟨(a6 b q).1.trans (a7 b q).1,(a6 b q).2⟩⟩,((b3.trans b4).trans a2).trans b7⟩;simp[dx,Tryz.results15,go_sem];have ch:I (d++[(ah n (I h) o,(I d:Int))]++bJ)=I d+4:=by simp[a3]
 rw[ch];rcases eG.1 e with e|e;rcases eG.1 e with e|e;have:=ao f e;omega;simp at e;subst e;simp;omega;rw[cc f e];omega
def fM.book{a b:List (F×Int)}{d:Int->Nat}(c:fM w n m v x a b d):
 aA w ⟨m,0,Z⟩=K (ah Z 0 0)/\aA w ⟨m,1,Z⟩=K v/\aA w ⟨m,2,Z⟩=K x/\aA w ⟨m,3,Z⟩=K (ah Z 0 0):=by
 have:=c.vk.blk;exact⟨by simp[aA,this],by simp[aA,this],by simp[aA,this],by simp[aA,this]⟩
def Uz(a:ag)(m:Int):(binOp .neq 59 (cw #[ak ai,z9 (-1-m),au ⟨#[109,97,114,107]⟩]) (cw #[ak ai,z9 (-1-m),au ⟨#[109,97,114,107]⟩])).run (aM av) a=b6 (ak ai) a:=by
 have:=Gy a (mkV m) (mkV m);rw[sO.2 Y] at this;exact this
def UA(a:ag)(m:Int):(binOp .neq 59 (cw #[ak ai,z9 (-1-m),au ⟨#[]⟩]) (cw #[ak ai,z9 (-1-m),au ⟨#[]⟩])).run (aM av) a=b6 (ak ai) a:=by
 have:=Gy a ⟨ai,-1-m,⟨#[]⟩⟩ ⟨ai,-1-m,⟨#[]⟩⟩;rw[sO.2 Y] at this;exact this
def XX(h aQ:Nat)(bc bh:F)(l k:List (F×Int))(am:Int->Nat)(i:ag)(br:I l<=100000)(bm:I k<=10000)(s:fM i aQ h bc bh l k am)(a5:∀J∈l,0<=J.2/\J.2<=1000000)(a4:∀f∈k,0<=f.2/\f.2<=1000000):
 bn 16 #[(aZ h)] i λJ bi=>J=aR (ak af)/\aD i bi:=by
 have v:=s.vk;obtain⟨bb,al,rfl⟩:=nA v.own;obtain⟨ao,bE,rfl⟩:=nA s.own;have⟨bl,W,N,ab⟩:=s.book
 skip
 have aC:=ap (bC v.blk)
 skip
 go_enter aE.func16,Tryz.ntmps16;go_wp2_with fail;refine wp_loop_rounds 1 ?_;rw[rounds_succ];go_wp2_with fail
 skip
 go_loopw [5] (λj wr=>∃a:Nat,a<=I l/\j=z9 a/\aD i wr) (λj _=>I l-bS (bw j))
 exact⟨0,cE _,rfl,bU _ _⟩;obtain⟨a,a9,rfl,d⟩:=hrel;have x:=aC.o;have aY:aJ wr h 1 (ah bb (I l) al):=aB (bq d (p:=⟨h,1,Z⟩) x) W;have ad:aJ wr h 2 (ah ao (I k) bE):=aB (bq d (p:=⟨h,2,Z⟩) x) N;have a0:aJ wr h 3 aH:=aB (bq d (p:=⟨h,3,Z⟩) x) ab;have p:=ap d;have a8:=d.size;by_cases y:a<I l
 .have⟨g,Q⟩:=A7 v.own aa;subst Q;have B:=(v.own.lt g Y).2;have E:=IW l a y;have r:=pp v.own (a*2) aa;rw[show a*2=2*a by omega,E.1] at r;have C:=pp v.own (a*2+1) aa;rw[show a*2+1=2*a+1 by omega,E.2] at C;have⟨z,n,A,T,a6,P⟩:=v.full l[a] (c8 y);have⟨bd,be⟩:=a5 l[a] (c8 y);rw[T] at r;have aL:=ap P;generalize l[a].2=m at*;have V:aJ wr g (a*2) (ah z n A):=aB (bq p.o (p:=⟨g,a*2,Z⟩) B) (by rw[show a*2=2*a by omega];exact r);have ay:aJ wr g (a*2+1) (z9 m):=aB (bq p.o (p:=⟨g,a*2+1,Z⟩) B) (by rw[show a*2+1=2*a+1 by omega];exact C);have L:X (aJ i g (a*2) (ah z n A)):=by show _=_;rw[show a*2=2*a by omega];exact r
  have a7:=λi=>Uz i m;go_wp2_with fail;have a3:=kQ wr (ax #[ak ai,z9 (-1-m),au ⟨#[109,97,114,107]⟩] 59 (0,0));have H:X (aD i (wr.alloc (ax #[ak ai,z9 (-1-m),au ⟨#[109,97,114,107]⟩] 59))):=p.o.alloc a8 _
  skip
  generalize bo:U wr.heap=a1 at*;generalize wr.alloc (ax #[ak ai,z9 (-1-m),au ⟨#[109,97,114,107]⟩] 59)=o at*
  go_loopw [7] (λj c=>∃b:Nat,b<=n/\j=z9 b/\∃t,c=cT o t) (λj _=>n-bS (bw j))
  exact⟨0,cE _,rfl,0,rfl⟩;obtain⟨b,ba,rfl,t,q⟩:=hrel
  rename ag=>c
  have aY:aA c ⟨h,1,Z⟩=K (aI g (I l) al):=by rw[q];exact aB (bq H.o (p:=⟨h,1,Z⟩) x) W
  have V:aA c ⟨g,a*2,Z⟩=K (ah z n A):=by rw[q];exact aB (bq H.o (p:=⟨g,a*2,Z⟩) B) L.o
  have a2:c.heap[a1]? =K (ax #[ak ai,z9 (-1-m),au ⟨#[109,97,114,107]⟩] 59 (0,0)):=by rw[q];exact a3
  have⟨bv,bx,bD,_⟩:=rG a2;have aM:X (c=cT o t):=q;by_cases S:b<n
  .have⟨e,u,R,d,D⟩:=aL.o aa;subst R;have⟨G,ar,aw⟩:=D b S;have w:o.heap[e]? =K (ax u 59 (0,0)):=by rw[cS H.o e (bC d)];exact d
   have az:aA c ⟨e,b*3,Z⟩=K (ak ai):=by
    rw[q,show aA (cT o t) ⟨e,b*3,Z⟩=aA o ⟨e,b*3,Z⟩ from rfl,cell_of_row o e (b*3) u 59 (0,0) w];exact G
   have bj:aA c ⟨e,b*3+1,Z⟩=K (z9 (-1-m)):=by
    rw[q,show aA (cT o t) ⟨e,b*3+1,Z⟩=aA o ⟨e,b*3+1,Z⟩ from rfl,cell_of_row o e (b*3+1) u 59 (0,0) w];exact ar
   have bk:aA c ⟨e,b*3+2,Z⟩=K (au ⟨#[109,97,114,107]⟩):=by
    rw[q,show aA (cT o t) ⟨e,b*3+2,Z⟩=aA o ⟨e,b*3+2,Z⟩ from rfl,cell_of_row o e (b*3+2) u 59 (0,0) w];exact aw
   clear q d D w G ar aw;go_wp2_with fail;go_quiet (fail);go_wp2
   go_roundw
   case rel=>exact⟨b+1,by omega,by go_num,t+nq,by rw[aM.o];exact r5 _ _ _⟩
   case measure=>simp[bw];omega
  .have aF:X (aD i c):=by rw[q];exact below_drewN H.o t
   clear q;go_wp2
   go_roundw
   case rel=>exact⟨a+1,by omega,by go_num,aF.o⟩
   case measure=>simp[bw];omega
 .go_wp2_with fail;generalize bs:wr=bu at*
  go_loopw [8] (λj c=>∃a:Nat,a<=I k/\j=z9 a/\aD i c) (λj _=>I k-bS (bw j))
  exact⟨0,cE _,rfl,p.o⟩;obtain⟨a,a9,rfl,d⟩:=hrel;have ad:aJ wr h 2 (ah ao (I k) bE):=aB (bq d (p:=⟨h,2,Z⟩) x) N;have a0:aJ wr h 3 aH:=aB (bq d (p:=⟨h,3,Z⟩) x) ab;have p:=ap d;by_cases y:a<I k
  .have⟨g,Q⟩:=A7 s.own aa;subst Q;have B:=(s.own.lt g Y).2;have E:=IW k a y;have r:=pp s.own (a*2) aa;rw[show a*2=2*a by omega,E.1] at r;have C:=pp s.own (a*2+1) aa;rw[show a*2+1=2*a+1 by omega,E.2] at C;have⟨aj,z,n,A,T,a6,P⟩:=s.full k[a] (c8 y);have⟨bd,be⟩:=a4 k[a] (c8 y);rw[T] at r;generalize k[a].2=m at*;generalize am m=M at*
   skip
   have L:X (aJ i g (a*2) (ah z n A)):=by show _=_;rw[show a*2=2*a by omega];exact r
   have aG:X (aJ i g (a*2+1) (z9 m)):=by show _=_;rw[show a*2+1=2*a+1 by omega];exact C
   have a7:=λi=>UA i m;go_wp2_with fail
   go_loopw [9] (λj c=>∃b:Nat,b<=n/\j=z9 b/\aD i c) (λj _=>n-bS (bw j))
   exact⟨0,cE _,rfl,p.o⟩;obtain⟨b,ba,rfl,d⟩:=hrel
   rename ag=>c
   have ad:aA c ⟨h,2,Z⟩=K (ah (K ⟨g,0,Z⟩) (I k) bE):=aB (bq d (p:=⟨h,2,Z⟩) x) N;have V:aA c ⟨g,a*2,Z⟩=K (ah z n A):=aB (bq d (p:=⟨g,a*2,Z⟩) B) L.o;have ay:aA c ⟨g,a*2+1,Z⟩=K (bt bM m):=aB (bq d (p:=⟨g,a*2+1,Z⟩) B) aG.o;have p:X (aD i c):=d;by_cases S:b<n
   .have⟨e,u,R,O,D⟩:=P aa;subst R;have G:=D b S;have w:c.heap[e]? =K (ax u 43 (0,0)):=by rw[cS d e (bC O)];exact O
    have ae:c.heap[M]? =K (ax #[ak ai,bt bM (-1-m),au ⟨#[]⟩] 59 (0,0)):=by rw[cS d M (bC aj)];exact aj
    have az:aA c ⟨e,b,Z⟩=K (aI M 1 1):=by
     rw[cell_of_row c e b u 43 (0,0) w];exact G
    have⟨bF,bH,bI,_⟩:=rG ae;clear d O D w ae G;go_wp2_with fail;go_quiet (fail);go_wp2
    go_roundw
    case rel=>exact⟨b+1,by omega,by go_num,below_drewN p.o nq⟩
    case measure=>simp[bw];omega
   .clear d;go_wp2
    go_roundw
    case rel=>exact⟨a+1,by omega,by go_num,p.o⟩
    case measure=>simp[bw];omega
  go_wp2_with fail;refine wp_loop_rounds 1 ?_;rw[rounds_succ];go_wp2;go_ret;exact⟨rfl,p.o⟩
def YJ(e:List bJ)(n o:Option aN)(p r q s u t:Nat)(g:ag)(x:I e<=aS)(c:dy g n p r e)(d:dy g o s u e):
 bn 18 #[ah n (I e) q,ah o (I e) t] g λv y=>v=aR (ak af)/\∃f,y=cT g f:=by
 unfold aS at x;have i:=ap c;have j:=ap d;go_enter aE.func18,Tryz.ntmps18;go_wp2_with fail
 go_loopw [5] (λl wr=>∃a:Nat,a<=I e/\l=z9 a/\∃f,wr=cT g f) (λl _=>I e-bS (bw l))
 exact⟨0,cE _,rfl,0,rfl⟩;obtain⟨a,z,rfl,f,h⟩:=hrel;have m:=ap h;by_cases b:a<I e
 .have k:aD g wr:=by rw[h];exact below_drewN (bU _ _) f
  have c:=i.o.below k;have d:=j.o.below k;obtain rfl:=c.addr aa;obtain rfl:=d.addr aa;have A:=c.c0 a b;have B:=c.c1 a b;have C:=c.c2 a b;have D:=c.c3 a b;have E:=c.c4 a b;have F:=c.c5 a b;have G:=c.c6 a b;have H:=d.c0 a b;have J:=d.c1 a b;have K:=d.c2 a b;have L:=d.c3 a b;have M:=d.c4 a b;have N:=d.c5 a b;have O:=d.c6 a b;have w:(a:Int)<(I e:Int):=aa;clear c d k i j h;generalize e[a]=P at*;go_wp2_with fail;go_quiet (fail);go_wp2
  go_roundw
  exact⟨a+1,aa,by go_num,f+nq,by rw[m.o];exact r5 _ _ _⟩;simp[bw];omega
 have w:¬(a:Int)<(I e:Int):=aa;clear i j h;go_wp2;go_ret;exact⟨rfl,f,m.o⟩
def yD:bJ:=⟨0,zeroV,zeroV⟩
def D9:bJ:=⟨-77,zeroV,zeroV⟩
def ni (b:List bJ)(a:Nat):List bJ:=b++(dh a D9++dh (8-a) yD)
def E9(a:List bJ)(b:Nat)(c:b<=8):I (ni a b)=I a+8:=by unfold ni;simp;omega
def T0(b:List bJ)(a:Nat)(c:a<8):(ni b a).set (I b+a) D9=ni b (a+1):=by
 unfold ni;rw[y7 _ _ (by omega),show I b+a-I b=a by omega,y7 _ _ (by simp)];simp only[List.length_replicate,Nat.sub_self];rw[show 8-a=(8-(a+1))+1 by omega,List.replicate_succ,ct,y6 (n:=a)];simp
def J5{a b:List bJ}:eP (a++b)=eP a++eP b:=by simp[eP]
def Ux(c:List bJ):∀v∈eP c,nM v=af:=by
 intro v a;unfold eP at a;have⟨d,_,b⟩:=y5.1 a;simp[tu] at b;rcases b with rfl|rfl|rfl|rfl|rfl|rfl|rfl<;>rfl
def Uy{b:List bJ}:∀(a:Nat) (v:bJ),a<I b->(((((((eP b).set (a*7) (z9 v.col)).set (a*7+1) (ak v.low.null)).set (a*7+2) (z9 v.low.n)).set (a*7+3) (au v.low.s)).set (a*7+4) (ak v.high.null)).set (a*7+5) (z9 v.high.n)).set (a*7+6) (au v.high.s)=eP (b.set a v):=by
 have f:∀d c,eP (d::c)=tu d++eP c:=λd c=>by simp[eP]
 induction b with
 |nil=>intro a v e;simp at e
 |cons d c g=>
  intro a v e;cases a with
  |zero=>simp[f,tu]
  |succ a=>
   have:=g a v (by simpa using e);rw[cr,f,f,<-this,show(a+1)*7=a*7+1+1+1+1+1+1+1 by omega];simp[tu,cr]
def Ui:dD (px (lC (cw #[z9 0,ak ai,z9 0,au ⟨#[]⟩,ak ai,z9 0,au ⟨#[]⟩])) (n*7))=eP (dh n yD):=by
 apply List.ext_getElem?;intro c;by_cases f:c<n*7
 .obtain⟨b,a,g,h,rfl⟩:∃b a,b<n/\a<7/\c=b*7+a:=⟨c/7,c%7,by omega,by omega,by omega⟩;have d:=λv=>x5 (dh n yD) b (by simpa using g) a v;rw[List.getElem_replicate] at d;have e:(b*7+a)%7=a:=by omega
  rcases(by omega:a=0\/a=1\/a=2\/a=3\/a=4\/a=5\/a=6) with rfl|rfl|rfl|rfl|rfl|rfl|rfl
  all_goals
   rw[d _ Y];simp[px,lC,yD,zeroV,f,e,show b*7<n*7 by omega]
 rw[xl (by simp[size_madeCells];omega),xl (by rw[uh];simp;omega)]
def UG(b:w.heap[m]? =K (ax (cX S) 61 (0,0)))(a:I S=k*7)(c:n<=m)(d:k<=aS):
 aT w n 61 7 (aI m k k) k S:=
 ⟨a,an ⟨m,k,cX S,rfl,c,b,aV _,d,by simp[a],by simp;exact ja aa⟩⟩
def Uv(c:aT w n 61 7 (aI m k k) k S):w.heap[m]? =K (ax (cX S) 61 (0,0)):=by
 rcases c.2 with⟨a,_⟩|⟨h,g,b,a,_,d,_,_,e,f⟩;simp at a;simp only[lX,kU,r3,and_true,true_and] at a;obtain⟨rfl,rfl⟩:=a;rw[d];have:dD b=S:=by rw[<-f];exact bA (ja (by simp[e]))
 rw[<-this]
def UD(a:List bJ)(o:dy w O n m a)(h:aD w u)(y:U w.heap<=k)
 (g:u.heap[k]? =K (ax (cX (eP (dh (I a+8) yD))) 61 (0,0))):
 ∃i,(tO #[23,23] 3 #[aI k (I a+8) (I a+8),ah O (I a) cap]).run (aM av) u=b6 (n9 (I a)) i/\
  X (i.heap[k]? =K (ax (cX (eP (ni a 0))) 61 (0,0)))/\aD w i:=by
 have⟨B,j,E,A,G⟩:=eU aE.E0;have e:=o.below h;by_cases t:0<I a
 .obtain rfl:=o.addr t;have z:∀f v,(eP a)[f]? =K v->aA u ((⟨n,m,Z⟩:aN).add f)=K v:=by
   intro f v r;have D:f<I a*7:=by have:=(fq.1 r).1;rwa [uh] at this
   obtain⟨c,b,d,C,rfl⟩:∃c b,c<I a/\b<7/\f=c*7+b:=⟨f/7,f%7,aa,aa,aa⟩;rw[lU];have s:=λv=>x5 a c d b v;rcases(aa:b=0\/b=1\/b=2\/b=3\/b=4\/b=5\/b=6) with rfl|rfl|rfl|rfl|rfl|rfl|rfl
   all_goals rw[<-r,s _ Y,<-gF]
   exact e.c0 c d;exact e.c1 c d;exact e.c2 c d;exact e.c3 c d;exact e.c4 c d;exact e.c5 c d;exact e.c6 c d
  have l:Nat.min (I a) (I a+8)=I a:=xp aa;have p:=Ym (P:=(aM av)) u 23 23 3 61 k 0 (I a+8) (I a+8) ⟨n,m,Z⟩ (I a) cap 7 61 (eP a) B aE.underlying23 j A g (by rw[uh,l]) z (by simp[uh];omega) (Ux a);rw[l] at p;refine⟨_,p,?_,below_setRow h y _⟩;show _=_;have q:(eP (dh (I a+8) yD)).take 0++eP a++(eP (dh (I a+8) yD)).drop (0+I (eP a))=eP (ni a 0):=by
   rw[List.take_zero,tW,e7,<-List.replicate_append_replicate,J5,List.drop_append_of_le_length (by simp[uh]),yY (by simp[uh]),tW];unfold ni;rw[J5];simp
  have:=setRow_heap u k _ (cX (eP (ni a 0))) 61 _ g;rw[<-q];rw[<-q] at this;simpa using this
 have x:a=[]:=tU aa;subst x;exact⟨u,Yn (P:=(aM av)) aE.underlying23 j (by simp),by show _=_;simpa [ni] using g,h⟩
def M_9{b:List bJ}(c:aT w n 61 7 (aI m k i) k (eP b))(a:Nat)(v:bJ)(d:a<I b):
 aT (bg (bg (bg (bg (bg (bg (bg w ⟨m,a*7,Z⟩ (z9 v.col)) ⟨m,a*7+1,Z⟩ (ak v.low.null)) ⟨m,a*7+2,Z⟩ (z9 v.low.n)) ⟨m,a*7+3,Z⟩ (au v.low.s)) ⟨m,a*7+4,Z⟩ (ak v.high.null)) ⟨m,a*7+5,Z⟩ (z9 v.high.n)) ⟨m,a*7+6,Z⟩ (au v.high.s)) n 61 7 (aI m k i) k (eP (b.set a v)):=by
 rw[<-Uy a v d];exact(((((((c.stored (a*7) (z9 v.col)).1.stored (a*7+1) (ak v.low.null)).1.stored (a*7+2) (z9 v.low.n)).1.stored (a*7+3) (au v.low.s)).1.stored (a*7+4) (ak v.high.null)).1.stored (a*7+5) (z9 v.high.n)).1.stored (a*7+6) (au v.high.s)).1
def JS(a:List bJ)(k:Option aN)(v O l:Nat)(c:ag)(ay:I a<=1000)(E:dy c k v O a):
 bn 12 #[ah k (I a) l] c λw r=>∃m,w=aR (aI m (I a+8) (I a+8))/\
  aT r (U c.heap) 61 7 (aI m (I a+8) (I a+8)) (I a+8) (eP (ni a 8))/\aD c r:=by
 have⟨N,B,J,L,M⟩:=eU aE.E0;go_enter aE.func12,Tryz.ntmps12;go_wp2_with (first
  |(at_make;refine wpList_make_full _ Y _ _ 23 Y (U c.heap) 61 N _ 7 aE.underlying23 B J L bM bM _ _ (I a+8) Y Y (by first|omega|(push_cast;omega)) (by first|omega|(push_cast;omega)) (jG M) gy (aV _) ?_;intro Q o A;have y:aD c Q:=iB (bU _ _) A (aV _) aF;rw[Ui] at o;have s:=ap (Uv o)))
 have⟨R,G,t,z⟩:=UD a (cap:=l) E y (aV _) s.o;rw[G];go_wp2_with fail;have D:aT R (U c.heap) 61 7 (aI (U c.heap) (I a+8) (I a+8)) (I a+8) (eP (ni a 0)):=
  UG t.o (by rw[uh,E9 a 0 (by omega)]) (aV _) gy
 go_loopw [4] (λh wr=>∃(d b:Nat),d<=8/\b=I a+d/\h=n9 b/\
  aT wr (U c.heap) 61 7 (aI (U c.heap) (I a+8) (I a+8)) (I a+8) (eP (ni a d))/\aD c wr) (λh _=>I a+8-bS (bw h))
 exact⟨0,_,aa,rfl,rfl,D,z⟩;obtain⟨d,b,F,i,rfl,g,n⟩:=hrel;have u:=ap i;by_cases x:d<8;have az:b<I a+8:=aa;have C:=E9 a d F;have e:∀j,j<(I a+8)*7->∃P,aA wr ⟨U c.heap,j,Z⟩=K P:=λj p=>by
  rw[pp g j p];exact⟨_,dH (by rw[uh,C];exact p)⟩
 have⟨u0,S⟩:=e (b*7) aa;have⟨u1,T⟩:=e (b*7+1) aa;have⟨u2,V⟩:=e (b*7+2) aa;have⟨u3,W⟩:=e (b*7+3) aa;have⟨u4,ab⟩:=e (b*7+4) aa;have⟨u5,ad⟩:=e (b*7+5) aa;have⟨u6,ae⟩:=e (b*7+6) aa;have f:=λh=>vM g (b*7+h);have X:=vM g (b*7);have aj:=f 1;have al:=f 2;have am:=f 3;have ao:=f 4;have ar:=f 5;have aw:=f 6;have q:=M_9 g b D9 aa;rw[i,T0 a d x,<-i] at q;clear g i e f;go_wp2;refine⟨⟨d+1,b+1,aa,by have:=u.o;omega,by go_num,q,tS (tS (tS (tS (tS (tS (tS n (aV _) _) (aV _) _) (aV _) _) (aV _) _) (aV _) _) (aV _) _) (aV _) _⟩,by simp[bw];omega⟩;have H:d=8:=aa;subst H;go_wp2;go_ret;exact⟨_,rfl,cM g,n⟩
def kF (v:Nat->F):bK:=⟨#[v 0,v 1,v 2,v 3,v 4,v 5,v 6,v 7,v 8,v 9,v 10,v 11,v 12,v 13,v 14,v 15,v 16,v 17,v 18,v 19,v 20,v 21,v 22,v 23,v 24,v 25,v 26,v 27,v 28,v 29,v 30,v 31,v 32,v 33,v 34,v 35,v 36,v 37,v 38,v 39,v 40,v 41,v 42,v 43,v 44,v 45,v 46,v 47,v 48,v 49,v 50,v 51,v 52,v 53,v 54,v 55,v 56,v 57,v 58,v 59,v 60,v 61,v 62,v 63,v 64,v 65,v 66,v 67,v 68,v 69,v 70,v 71,v 72,v 73,v 74,v 75,v 76,v 77,v 78,v 79,v 80,v 81,v 82,v 83,v 84,v 85,v 86,v 87,v 88,v 89,v 90,v 91,v 92,v 93,v 94,v 95,v 96,v 97,v 98,v 99,v 100,v 101,v 102,v 103,v 104,v 105,v 106,v 107,v 108,v 109,v 110,v 111,v 112,v 113,v 114,v 115,v 116,v 117,v 118,v 119,v 120,v 121],[]⟩
def va(a:U Q.tmps=122)(c:b8 Q=[]):Q=kF (Cc.cG Q):=by
 have⟨e,f⟩:=Q;simp only at a c;subst c;show _=(⟨cX ((eH 122).map (Cc.cG ⟨e,[]⟩)),[]⟩:bK);congr 1;apply vB;intro d;simp only[List.getElem?_toArray,sb,List.getElem?_range];rcases ij d 122 with b|b;simp[b,Cc.cG,a];simp[b,a]
def sJ:Nat->de->de
 |0,aU a _=>a
 |n+1,aU _ b=>sJ n b
 |_,a=>a
def GC:Nat->de->de
 |0,a=>a
 |n+1,aU _ b=>GC n b
 |_,a=>a
def sc (c:Nat)(b:cO):de:=match b.body with|some a=>sJ c a|none=>eO
def Ad (c:Nat)(b:cO):de:=match b.body with|some a=>GC c a|none=>eO
abbrev GB(v:Nat->F):List (Nat×F):=[(1,v 1),(2,v 2),(9,v 9),(10,v 10),(11,v 11),(12,v 12),(13,v 13),(14,v 14),(15,v 15),(16,v 16)]
def LS{v:Nat->F}(b:U Q.tmps=122)(a:∀s∈[1,2,9,10,11,12,13,14,15,16],Cc.cG Q s=v s):Cc.Knows Q 122 (GB v):=
 (((((((((vi b (a 16 ay)).cons (a 15 ay)).cons (a 14 ay)).cons (a 13 ay)).cons (a 12 ay)).cons (a 11 ay)).cons (a 10 ay)).cons (a 9 ay)).cons (a 2 ay)).cons (a 1 ay)
def YV(b:ag)(v:Nat->F)(f:bn 14 #[v 13,v 9] b λc h=>c=aR (ak af)/\∃a,h=cT b a):
 (sc 8 eB).wp (aM av) (λc d g=>c=e4/\(∃a,g=cT b a)/\Cc.Knows d 122 ((17,ak af)::GB v)/\b8 d=[]) (kF v) b:=by
 unfold sc eB kF;dsimp only;simp only[sJ];go_wp2_with (go_at_call 14;refine bL f ?_;rintro c i ⟨rfl,a,rfl⟩);exact⟨⟨a,rfl⟩,(LS Y (λs e=>by simp only[fT,jm,or_false] at e;rcases e with rfl|rfl|rfl|rfl|rfl|rfl|rfl|rfl|rfl|rfl<;>rfl)).cons rfl⟩
def YW{v:Nat->F}(e:bn 14 #[v 15,v 9] w λb g=>b=aR (ak af)/\∃a,g=cT w a):
 (sc 9 eB).wp (aM av) (λb c f=>b=e4/\(∃a,f=cT w a)/\Cc.Knows c 122 ((18,ak af)::(17,v 17)::GB v)/\b8 c=[]) (kF v) w:=by
 unfold sc eB kF;dsimp only;simp only[sJ];go_wp2_with (go_at_call 14;refine bL e ?_;rintro b h ⟨rfl,a,rfl⟩);exact⟨⟨a,rfl⟩,((LS Y (λs d=>by simp only[fT,jm,or_false] at d;rcases d with rfl|rfl|rfl|rfl|rfl|rfl|rfl|rfl|rfl|rfl<;>rfl)).cons rfl).cons rfl⟩
abbrev wN(v:Nat->F):List (Nat×F):=[(1,v 1),(2,v 2),(11,v 11),(12,v 12),(13,v 13),(15,v 15)]
def yq{v:Nat->F}(b:U Q.tmps=122)(a:∀s∈[1,2,11,12,13,15],Cc.cG Q s=v s):Cc.Knows Q 122 (wN v):=
 (((((vi b (a 15 ay)).cons (a 13 ay)).cons (a 12 ay)).cons (a 11 ay)).cons (a 2 ay)).cons (a 1 ay)
def YN(b:ag){v:Nat->F}(f:Nat)(i:v 17=ak af)(j:v 18=ak af)(g:v 14=n9 f)(h:v 16=n9 f)(e:v 10=n9 f)(n:f≠0->v 13=aH):
 (sc 10 eB).wp (aM av) (λm c l=>m=e4/\l=b/\Cc.Knows c 122 (wN v)/\b8 c=[]) (kF v) b:=by
 by_cases k:f=0;subst k;unfold kF;rw[i,j,g,h,e];unfold sc eB;dsimp only;simp only[sJ];go_wp2_with fail;exact yq Y (λs a=>by simp only[fT,jm,or_false] at a;rcases a with rfl|rfl|rfl|rfl|rfl|rfl<;>rfl);have d:=n k;unfold kF;rw[i,j,g,h,e,d];unfold sc eB;dsimp only;simp only[sJ];go_wp2_with fail;exact yq Y (λs a=>by simp only[fT,jm,or_false] at a;rcases a with rfl|rfl|rfl|rfl|rfl|rfl<;>first|rfl|exact bA d)
def YO(a:ag){v:Nat->F}:
 (sc 11 eB).wp (aM av) (λe b d=>e=e4/\d=cD a (ax #[aH,aH,aH,aH] 37)/\Cc.Knows b 122 ((19,(aZ (U a.heap)))::wN v)/\b8 b=[]) (kF v) a:=by
 unfold sc eB kF;dsimp only;simp only[sJ];go_wp2_with fail;exact(yq Y (λs c=>by simp only[fT,jm,or_false] at c;rcases c with rfl|rfl|rfl|rfl|rfl|rfl<;>rfl)).cons rfl
def YP(c:ag){v:Nat->F}{b:ag->Prop}(f:bn 15 #[v 19,v 13] c λa i=>a=aR (cC #[])/\b i):
 (sc 12 eB).wp (aM av) (λa d g=>a=e4/\b g/\Cc.Knows d 122 ((19,v 19)::wN v)/\b8 d=[]) (kF v) c:=by
 unfold sc eB kF;dsimp only;simp only[sJ];go_wp2_with (go_at_call 15;refine bL f ?_;rintro a j ⟨rfl,h⟩);exact⟨h,(yq Y (λs e=>by simp only[fT,jm,or_false] at e;rcases e with rfl|rfl|rfl|rfl|rfl|rfl<;>rfl)).cons rfl⟩
def YQ(c:ag){v:Nat->F}{b:ag->Prop}(f:bn 15 #[v 19,v 15] c λa i=>a=aR (cC #[])/\b i):
 (sc 13 eB).wp (aM av) (λa d g=>a=e4/\b g/\Cc.Knows d 122 ((19,v 19)::wN v)/\b8 d=[]) (kF v) c:=by
 unfold sc eB kF;dsimp only;simp only[sJ];go_wp2_with (go_at_call 15;refine bL f ?_;rintro a j ⟨rfl,h⟩);exact⟨h,(yq Y (λs e=>by simp only[fT,jm,or_false] at e;rcases e with rfl|rfl|rfl|rfl|rfl|rfl<;>rfl)).cons rfl⟩
def YR(c:ag){v:Nat->F}{b:ag->Prop}(f:bn 16 #[v 19] c λa i=>a=aR (ak af)/\b i):
 (sc 14 eB).wp (aM av) (λa d g=>a=e4/\b g/\Cc.Knows d 122 ((20,ak af)::wN v)/\b8 d=[]) (kF v) c:=by
 unfold sc eB kF;dsimp only;simp only[sJ];go_wp2_with (go_at_call 16;refine bL f ?_;rintro a j ⟨rfl,h⟩);exact⟨h,(yq Y (λs e=>by simp only[fT,jm,or_false] at e;rcases e with rfl|rfl|rfl|rfl|rfl|rfl<;>rfl)).cons rfl⟩
def YS(h:ag){v:Nat->F}(g:F->ag->Prop)(f:ag->Prop)(k:bn 11 #[v 1] h λa e=>∃b,a=aR b/\g b e)(d:∀b c,g b c->bn 17 #[v 11,b] c λa e=>a=aR (ak af)/\f e):
 (sc 15 eB).wp (aM av) (λa i l=>a=e4/\f l/\Cc.Knows i 122 ((21,ak af)::(20,v 20)::wN v)/\b8 i=[]) (kF v) h:=by
 unfold sc eB kF;dsimp only;simp only[sJ];go_wp2_with (first|(go_at_call 11;refine k.mono ?_;rintro a c ⟨b,rfl,m⟩;replace d:=d b c m)|(go_at_call 17;refine bL d ?_;rintro a o ⟨rfl,n⟩));exact⟨n,((yq Y (λs j=>by simp only[fT,jm,or_false] at j;rcases j with rfl|rfl|rfl|rfl|rfl|rfl<;>rfl)).cons rfl).cons rfl⟩
def YT(h:ag){v:Nat->F}(g:F->ag->Prop)(f:ag->Prop)(j:bn 12 #[v 2] h λa e=>∃b,a=aR b/\g b e)(d:∀b c,g b c->bn 18 #[v 12,b] c λa e=>a=aR (ak af)/\f e):
 (sc 16 eB).wp (aM av) (λa i k=>a=e4/\f k/\Cc.Knows i 122 [(22,ak af),(21,v 21),(20,v 20)]/\b8 i=[]) (kF v) h:=by
 unfold sc eB kF;dsimp only;simp only[sJ];go_wp2_with (first|(go_at_call 12;refine j.mono ?_;rintro a c ⟨b,rfl,l⟩;replace d:=d b c l)|(go_at_call 18;refine bL d ?_;rintro a n ⟨rfl,m⟩));exact⟨m,((vi Y Y).cons Y).cons Y⟩
def YU(a:ag){v:Nat->F}(e:v 20=ak af)(f:v 21=ak af)(g:v 22=ak af):
 (Ad 17 eB).wp (aM av) (λd b c=>d= .ret/\c=a/\Cc.Knows b 122 [(8,ak af)]/\b8 b=[]) (kF v) a:=by
 unfold kF;rw[e,f,g];unfold Ad eB;dsimp only;simp only[GC];go_wp2_with fail;exact vi Y Y
def jC (a:Int)(aj:List Int)(b:List bJ):Bool:=(aj++b.map bJ.col).any λc=>c==a
def ON(e:Int)(aj:List Int)(d:List bJ)(v:Option aN)(u bN bH:Nat)(z:Option aN)(rb bY bE:Nat)(n:ag)(D:I aj<=aS)(E:I d<=aS)
 (C:0<I aj->v=K ⟨u,bN,Z⟩) (w:∀b,b<I aj->aJ n u (bN+b) (z9 (aX aj b 0))) (m:dy n z rb bY d):
 bn 50 #[z9 e,ah v (I aj) bH,ah z (I d) bE] n λj F=>j=aR (ak (jC e aj d))/\F=n:=by
 unfold aS at D E;have A:=ap w;have t:=ap m;clear w m;go_enter aE.func50,Tryz.ntmps50;go_wp2_with fail
 go_loop [7] (λc=>∃b:Nat,b<=I aj/\c=z9 b/\∀a,a<b->aX aj a 0≠e) (λc=>I aj-bS (bw c))
 exact⟨0,cE _,rfl,λa k=>aa⟩;obtain⟨b,G,rfl,l⟩:=hrel;have s:=ap l;by_cases q:b<I aj;obtain rfl:=C aa;have p:=A.o b q;have J:(b:Int)<(I aj:Int):=aa;by_cases f:aX aj b 0=e
 .have i:X (jC e aj d=af):=by
   show _=af;unfold jC;rw[List.any_append,tL];refine aq (xk.2 ⟨aX aj b 0,?_,by rw[f];simp⟩);rw[ep,dH q];exact c8 q
  rw[f] at p;go_wp2;go_ret;exact⟨by rw[i.o];rfl,rfl⟩
 have o:X (∀a,a<b+1->aX aj a 0≠e):=λa r=>by
  by_cases j:a=b;subst j;exact f;exact s.o a aa
 generalize aX aj b 0=h at*;go_wp2
 go_round
 exact⟨b+1,aa,by go_num,o.o⟩;simp[bw];omega;have B:X (∀h∈aj,h≠e):=λh g=>by
  obtain⟨c,x,rfl⟩:=m6 g;have:=s.o c aa;rw[ep,dH x] at this;exact this
 go_wp2_with fail
 go_loop [8] (λc=>∃b:Nat,b<=I d/\c=z9 b/\∀a (k:a<I d),a<b->d[a].col≠e) (λc=>I d-bS (bw c))
 exact⟨0,cE _,rfl,λa _ k=>aa⟩;obtain⟨c,x,rfl,l⟩:=hrel
 skip
 by_cases y:c<I d;obtain rfl:=t.o.addr aa;have p:=t.o.c0 c y;have H:(c:Int)<(I d:Int):=aa;by_cases f:d[c].col=e;have i:X (jC e aj d=af):=by
  show _=af;unfold jC;rw[List.any_append,tL];exact an (xk.2 ⟨d[c].col,kA.2 ⟨d[c],c8 y,rfl⟩,by simp[f]⟩)
 rw[f] at p;go_wp2;go_ret;exact⟨gJ i.o,rfl⟩;have o:X (∀a (k:a<I d),a<c+1->d[a].col≠e):=λa k r=>by
  by_cases j:a=c;subst j;exact f;exact l a k aa
 skip
 generalize d[c].col=h at*;go_wp2
 go_round
 exact⟨c+1,aa,by go_num,o.o⟩;simp[bw];omega;have i:X (jC e aj d=ai):=by
  show _=ai;unfold jC;rw[List.any_eq_false];intro h g;rcases eG.1 g with g|g;simpa using B.o h g;obtain⟨L,m,rfl⟩:=kA.1 g;obtain⟨a,r,rfl⟩:=m6 m;simpa using l a r aa
 go_wp2;go_ret;exact⟨gJ i.o,rfl⟩
end Ec
end Go.Proofs.YtjidbonhhpkljaaGreat
