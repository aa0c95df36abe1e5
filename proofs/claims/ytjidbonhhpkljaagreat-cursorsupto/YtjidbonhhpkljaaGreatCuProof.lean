/- Proved: at every text, columns, ranges, skip and stops, together of bulk at most 1048576, the statement Cursors answers true and leaves its arguments as they were. -/
import Derived.OpenShut
import Derived.Deep.Strs
import Derived.ShutString
import Derived.Conc.LeavingOf
import Derived.Test.YtjidbonhhpkljaaGreatRows
import Derived.Test.YtjidbonhhpkljaaGreatMe
set_option linter.all false
set_option maxRecDepth 100000
set_option maxHeartbeats 8000000
open Array renaming getD->cB,getElem?_eq_some_iff->dn,push->iz,replicate->jw,setIfInBounds->cS,size->U,toList->dY
open Bool renaming false->aj,true->af
open ByteArray renaming size->bg
open Classical renaming choose->mr
open Eq renaming symm->bq,trans->aB
open False renaming elim->ff
open Go renaming Act->bt,Addr->aL,Code->cQ,Ending->gN,Frame->aO,Func->cF,FuncId->gw,Item->ez,Obj->cz,Oper->cC,Operand->eg,Program->bn,TypeId->aP,Value->F,World->ag,execOp->bX,info_parts->eW,lt_of_block->bE,maxLen->aV,results->dB,undef->bR,yielded->en
open Int renaming toNat->bO
open List renaming all->dI,all_eq_true->fA,contains->iT,getD->aW,length->I,mem_range->nP,range->fp,replicate->dH,set->gh,toArray->cR
open Option renaming isNone->nQ,isSome->ni,none->Z,some->K
open Or renaming elim->eD,inl->av,inr->ai
open Prod renaming fst->bf,snd->dD
open Go
open Act renaming defers->bU,eval->bp,put->bw
open Addr renaming add->rQ,block->cD
open Builtin renaming copy_->sV
open CallKind renaming normal->dM
open Calls renaming mono->bG
open Code renaming block->fT,region->iB,seq->aS,skip->ey,wp->ja
open Conc renaming G->aX
open Ending renaming panicked->gO,returned->aN
open Exit renaming normal->cX
open Frame renaming enter->eT,finish->dR,kind->dj,round->mZ,roundOf->nO
open FrameMode renaming returning->jj
open GoStatus renaming running->kR
open Instr renaming endRound->tQ
open IntKind renaming i64->aM
open Item renaming code->bJ,inBlock->fh,inLoop->gx,inRegion->bY
open Next renaming value->fi
open Obj renaming cells->aq,deferred->kT,loop->fj
open Op renaming equalIn->uP
open Program renaming underlying->g9
open Proofs.Tryz renaming f34->dX,f35->cV,f7->cg,prog->ax,underlying22->yZ
open Proofs.YtjidbonhhpkljaaGreat.Rows.OpenSpec renaming upto->aez
open Region renaming wanted->eI
open Result renaming ok->cm
open RowKit renaming Below->dZ,intOf->bB
open RowKit.Below renaming alloc->pE,block->cT,cell->bA,grown->jy
open TypeInfo renaming bytes->jm,zero->jH
open Value renaming agg->bZ,bool->ak,cells->jn,int->aJ,oneCell'->m3,ownBlock->bI,pointer->cU,slice->ah,string->ay,tuple->cP
open World renaming alloc->cG,cell?->ap,drawn->dU,drewN->cI,frozen?->cE,heap->dF,news_of_block->y6,output->ga,ownsRow->aT,ownsRow_nil->iS,putObj->kU,putObj_heap_other->y7,setCell->aY,setCells->m5,tape->dG
open World.ownsRow renaming alloc->lE,cellAt->s0,frozenAt->vV,kept->fI
variable{Q qT:bt}{R:aL}{Qu ops:Array cC}{QF QG:Array aP}{C qK vs:Array F}{qW:Bool}{QK:cQ}{Qg:aO}{M qB:Int}{H q5:List (Nat×F)}{Qj:List aO}{an qZ ns:List Int}{QO:List ez}{L L' l rest:List Nat}{S:List F}{a ae6 ae7 afb afc afd afe aff afg b bD c cW cap d e f g gI i j k m n nm p q r wc B b4 b5 b6 b7 cu db dp fb g0 gb n0:Nat}{Qa ae4:Nat→Prop}{Ql:cz}{Qs:cC}{Qq Qr:eg}{O P QD ae8 ae9 bo co na so:Option aL}{Qo Qp:bn}{Qd Qe:aP}{T v x y z iv wv:F}{G W X' ae5 u w W' w0 wS:ag}{J Post:F→ag→Prop}
set_option maxRecDepth 100000
set_option maxHeartbeats 8000000
namespace Go.Proofs.YtjidbonhhpkljaaGreat
namespace Ec
open Go.RowKit Pk Pm
open Cc (nL uI nj eU pY lQ)
def yK (h:ag)(a:nL)(an:List Int)(d:List bH)(g:gN)(i:ag):Prop:=
 aD h i/\((eU a an d≠0/\g=aN (cP #[cU Z,n9 (eU a an d)]))\/
  (eU a an d=0/\∃c b f e k l j,a=K (c,b)/\g=aN (cP #[(aK (U e.heap+1)),z9 0])/\U e.heap=U h.heap/\PF e i k l j (gW b) (c.map bf) (c.map dD) f/\f.map bf=b.map pe))
def IL{a:List (bx×Int)}{c:List Bd}{b:List bH}(h:nj (I a) an b=aj):eU (K (a,c)) an b=4:=by
 simp[eU,h]
def VH{a:List (bx×Int)}(l:k3 a)(j:n<U w.heap)(h:∀e f,(k4 (a.map bf))[e]? =K f->bl w n e f)(k:fR (I a) M=af):y8 w n (I a) M (lQ a M):=by
 have⟨i,m⟩:=Cc.tH.1 k;obtain⟨b,rfl⟩:=uR i;have c:b<I a:=by omega
 have:=(Ca (a.map bf) b (by simpa using c)).2;have d:lQ a (b:Int)=a[b].1.kind:=by simp[lQ,c]
 have g:=(l.1.2.2 b (by simpa using c)).1;simp only[oO,oU,ov,fe,decide_eq_true_eq] at g;simp only[oO] at this;refine⟨b,rfl,c,j,by rw[d];exact h _ _ this,?_⟩;rw[d];omega
def N4(b:Nat)(a:Int):(decide (a<0)=af/\fR b a=aj)\/(decide (a<0)=aj/\decide ((b:Int)<=a)=af/\fR b a=aj)\/(decide (a<0)=aj/\decide ((b:Int)<=a)=aj/\fR b a=af):=by
 simp[fR];omega
def PU(s:ByteArray)(G:nL)(an:List Int)(b:List bH)(a6:Option aL)(cb bC bF:Nat)(ro:Option aL)(rb bL bD:Nat)(F:ag)(b3:s.size<=aV)(hF:uI s G)(cn:I an<=1000)(cq:I b<=1000)
 (bW:0<I an->a6=K ⟨cb,bC,Z⟩) (b1:0<I an->cb<U F.heap) (b0:∀a,a<I an->bl F cb (bC+a) (z9 (aW an a 0))) (h:dJ F ro rb bL b):
 bc 30 #[ay s,ah a6 (I an) bF,ah ro (I b) bD] F (yK F G an b):=by
 have T:=aA b1;have aH:=aA b0;have Y:=aA h;go_enter aE.func30,Tryz.ntmps30;go_wp2_with fail;refine(Ze s b3).mono ?_;rintro u t ⟨w,⟨c,m,bu,a1,cl,bP,bx,rfl,O,b8,am,bS,ba⟩|⟨v,rfl,ba⟩⟩;rotate_left
 .have V:X (eU G an b=3):=by
   rcases ba with⟨_,_,_,_,_,d,_⟩|⟨d,_⟩;cases d;cases G with
   |none=>rfl
   |some cd=>exact ff (d _ _ hF.1)
  have g:=aA w;go_wp2;go_ret2;exact⟨g.o,av ⟨by rw[V.o];decide,by rw[V.o];rfl⟩⟩
 obtain rfl:G=K (c,m):=by
  cases G with
  |none=>exact ff (hF _ _ O)
  |some cd=>
   have⟨ae,a7⟩:=hF.2 _ _ O;rw[ae,a7]
 have b4:0<I c:=by
  have:=O.1.pl.1.1;simp at this;omega
 have W:=am.cells.1.1;obtain⟨r,ad,rfl,cr,ca,cc⟩:=Cc.kz am.an (by simpa using b4);have bs:X (∀ab,fR (I c) ab=af->y8 t r (I c) ab (lQ c ab)):=λab bV=>VH O.1.pl ca cc bV;have br:X (∀z,aD t z->eU (K (c,m)) an b=0->yK F (K (c,m)) an b (aN (cP #[(aK (U a1.heap+1)),z9 0])) z):=λz ao al=>⟨w.trans (ao.mono w.size),ai ⟨al,c,m,bu,a1,_,bP,bx,rfl,rfl,b8,am.below ao,bS⟩⟩;have x:X (∀z e,aD t z->eU (K (c,m)) an b=e->e≠0->yK F (K (c,m)) an b (aN (cP #[cU Z,n9 e])) z):=λz e ao al D=>⟨w.trans (ao.mono w.size),av ⟨by rw[al];exact D,by rw[al]⟩⟩;have aw:=bE am.file;have b7:=w.size;have aH:X (∀a,a<I an->bl t cb (bC+a) (z9 (aW an a 0))):=λa d=>(bA w (p:=⟨cb,bC+a,Z⟩) (T.o aa)).trans (aH.o a d);have T:X (0<I an->cb<U t.heap):=λd=>cL (T.o d) b7;have Y:=aA (Y.o.below w);have cp:I c<2147483648:=O.1.pl.each.2;rw[er] at W;generalize U a1.heap+1=B at*;go_wp2_with fail
 go_loopw [10] (λi wr=>∃a:Nat,a<=I an/\i=z9 a/\(∀e,e<a->fR (I c) (aW an e 0)=af)/\aD t wr) (λi _=>I an-bO (bB i))
 exact⟨0,cH _,rfl,λbj d=>aa,bN _ _⟩;obtain⟨a,bb,rfl,H,k⟩:=hrel;have S:=aA H;have g:=aA k;by_cases j:a<I an
 .obtain rfl:=bW aa;have bz:=(bA k (p:=⟨cb,bC+a,Z⟩) (T.o aa)).trans (aH.o a j);have a0:=(bA k (p:=⟨B,0,Z⟩) aw).trans W;have q:X (fR (I c) (aW an a 0)=aj->eU (K (c,m)) an b=4):=λd=>IL (by
   cases Q:nj (I c) an b;rfl;have:=(Cc.xG.1 Q).1 (aW an a 0) (by simp[ep,j]);rw[Cc.tH.2 this] at d;cases d)
  have L:X (fR (I c) (aW an a 0)=af->∀e,e<a+1->fR (I c) (aW an e 0)=af):=λd e a9=>by
   by_cases u:e=a;subst u;exact d;exact S.o e aa
  generalize aW an a 0=a3 at*;have P:(a:Int)<(I an:Int):=aa;rcases N4 (I c) a3 with⟨M,E⟩|⟨M,aQ,E⟩|⟨M,aQ,E⟩
  all_goals
   have y:=aA E;go_wp2_with fail;go_quiet (fail);go_wp2
  .go_ret2;exact x.o _ 4 (below_drewN g.o nq) (q.o y.o) az
  .go_ret2;exact x.o _ 4 (below_drewN g.o nq) (q.o y.o) az
  .go_roundw
   case rel=>exact⟨a+1,by omega,by go_num,L.o y.o,below_drewN g.o nq⟩
   case measure=>simp[bB];omega
 have S:X (∀e∈an,0<=e/\e<(I c:Int)):=λe D=>by
  obtain⟨i,N,rfl⟩:=m9 D;have:=S.o i aa;rw[ep,dV N] at this;exact Cc.tH.1 this
 have P:¬(a:Int)<(I an:Int):=aa;go_wp2_with fail
 go_loopw [11] (λi f=>∃a:Nat,a<=I b/\i=z9 a/\(∀e (d:e<I b),e<a->fR (I c) b[e].col=af)/\aD t f) (λi _=>I b-bO (bB i))
 exact⟨0,cH _,rfl,λbj _ d=>aa,g.o⟩;obtain⟨a,bb,rfl,H,k⟩:=hrel;have J:=aA H;have g:=aA k;by_cases j:a<I b
 .have h:=Y.o.below k;obtain rfl:=h.addr aa;have bz:=h.c0 a j;have a0:=(bA k (p:=⟨B,0,Z⟩) aw).trans W;have q:X (fR (I c) b[a].col=aj->eU (K (c,m)) an b=4):=λd=>IL (by
   cases Q:nj (I c) an b;rfl;have:=(Cc.xG.1 Q).2 b[a] (dm j);rw[Cc.tH.2 this] at d;cases d)
  have L:X (fR (I c) b[a].col=af->∀e (d:e<I b),e<a+1->fR (I c) b[e].col=af):=λd e D a9=>by
   by_cases u:e=a;subst u;exact d;exact J.o e D aa
  generalize b[a].col=a3 at*;have P:(a:Int)<(I b:Int):=aa;rcases N4 (I c) a3 with⟨M,E⟩|⟨M,aQ,E⟩|⟨M,aQ,E⟩
  all_goals
   have y:=aA E;go_wp2_with fail;go_quiet (fail);go_wp2
  .go_ret2;exact x.o _ 4 (below_drewN g.o nq) (q.o y.o) az
  .go_ret2;exact x.o _ 4 (below_drewN g.o nq) (q.o y.o) az
  .go_roundw
   case rel=>exact⟨a+1,by omega,by go_num,L.o y.o,below_drewN g.o nq⟩
   case measure=>simp[bB];omega
 have J:X (∀R∈b,fR (I c) R.col=af):=λR h=>by
  obtain⟨i,N,rfl⟩:=m9 h;exact J.o i N aa
 have a5:X (nj (I c) an b=af):=Cc.xG.2 ⟨S.o,λR h=>Cc.tH.1 (J.o R h)⟩;have P:¬(a:Int)<(I b:Int):=aa;go_wp2_with fail
 go_loopw [12,13,14] (λi _ _ f=>∃a:Nat,a<=I b/\i=z9 a/\(∀e (d:e<I b),e<a->oB (lQ c b[e].col) b[e]=af)/\aD t f) (λi _ _ _=>I b-bO (bB i))
 exact⟨0,cH _,rfl,λbj _ d=>aa,g.o⟩;obtain⟨a,bb,rfl,H,k⟩:=hrel;have g:=aA k
 skip
 by_cases j:a<I b
 .have h:=Y.o.below k;obtain rfl:=h.addr aa;have bd:=h.c0 a j;have cf:=h.c1 a j;have ch:=h.c2 a j;have ci:=h.c3 a j;have be:=h.c4 a j;have bh:=h.c5 a j;have bi:=h.c6 a j;have a0:=(bA k (p:=⟨B,0,Z⟩) aw).trans W;have⟨n,ae,a7,bK,bM,a8⟩:=((bs.o b[a].col (J.o _ (dm j))).below k).ex;have q:X (oB (lQ c b[a].col) b[a]=aj->eU (K (c,m)) an b=5):=λd=>by
   have:pY c b=aj:=by
    cases Q:pY c b;rfl;have:=fA.1 Q b[a] (dm j);rw[d] at this;cases this
   simp[eU,a5.o,this]
  have L:X (oB (lQ c b[a].col) b[a]=af->∀e (d:e<I b),e<a+1->oB (lQ c b[e].col) b[e]=af):=λd e D a9=>by
   by_cases u:e=a;subst u;exact d;exact H e D aa
  have b6:=h.lt aa;have b2:=cL aw k.size;generalize b[a]=bk at*;generalize lQ c bk.col=l at*;have⟨cs,p,o⟩:=bk;dsimp only at ae bd cf ch ci be bh bi;subst ae;have P:(a:Int)<(I b:Int):=aa;have co:(n:Int)<(I c:Int):=by omega
  have bm:=λf=>x8 p l f a8;have bo:=λf=>x8 o l f a8;go_upto_region 17 with fail;refine Un.open_ (λf=>bl f rb (bL+a*7) (n9 n)/\bl f rb (bL+a*7+1) (ak p.null)/\bl f rb (bL+a*7+2) (z9 p.n)/\bl f rb (bL+a*7+3) (ay p.s)/\bl f B 0 (aG r (I c) ad)/\bl f r (n*2+1) (z9 l)) 17 (λ_ _ _ _ _ d=>d) λb5=>?_;have bQ:(λf=>ap f ⟨rb,bL+a*7,Z⟩=K (aJ aM (n:Int))/\ap f ⟨rb,bL+a*7+1,Z⟩=K (ak p.null)/\ap f ⟨rb,bL+a*7+2,Z⟩=K (aJ aM p.n)/\ap f ⟨rb,bL+a*7+3,Z⟩=K (ay p.s)/\ap f ⟨B,0,Z⟩=K (ah (K ⟨r,0,Z⟩) (I c) ad)/\ap f ⟨r,n*2+1,Z⟩=K (aJ aM l)) wr.drew:=by go_keep
  refine Un.pk 0 ?_;refine Un.pk 1 ?_;refine Un.pk 2 ?_;refine Un.pk 3 ?_;refine Un.ld [17] 4 ?_;refine Un.pk 5 ?_;refine Un.pk 6 ?_;refine Un.pk 7 ?_;refine Un.ld [17,16,15,14] 8 ?_;refine Un.pk 9 ?_;refine Un.pk 10 ?_;refine Un.pk 11 ?_;refine Un.pk 12 ?_;refine Un.ld [17,16,15,14] 13 ?_;refine Un.pk 14 ?_;refine Un.pk 15 ?_;refine Un.ld [17] 16 ?_;try simp only[bw,ct,cj,b9]
  refine Un.on 17 λaI C=>?_;go_simp;go_at_call 47;refine(bm _).mono ?_;rintro u a2 ⟨rfl,bT⟩;have ar:aD wr a2:=(bN _ wr).drew.trans bT;have a4:=aA (g.o.trans (ar.mono g.o.size));have aU:∀A aF,A<U wr.heap->ap a2 ⟨A,aF,Z⟩=ap wr ⟨A,aF,Z⟩:=λA aF d=>bA ar (p:=⟨A,aF,Z⟩) d;rw[<-aU _ _ b6] at bd be bh bi;rw[<-aU _ _ b2] at a0;rw[<-aU _ _ bK] at bM;refine C.o _ _ (λd=>absurd d az) ?_;try simp only[bw,ct,cj,b9]
  refine Un.on 18 λaI C=>?_;go_simp;refine C.o _ _ (λd=>absurd d az) ?_;try simp only[bw,ct,cj,b9]
  refine Un.done aR ?_ _;go_upto_region 18 with fail;refine Un.open_ (λf=>bl f rb (bL+a*7) (aJ aM (n:Int))/\bl f rb (bL+a*7+4) (ak o.null)/\bl f rb (bL+a*7+5) (z9 o.n)/\bl f rb (bL+a*7+6) (ay o.s)/\bl f B 0 (aG r (I c) ad)/\bl f r (n*2+1) (z9 l)) 17 (λ_ _ _ _ _ d=>d) λb5=>?_;have bQ:(λf=>ap f ⟨rb,bL+a*7,Z⟩=K (aJ aM (n:Int))/\ap f ⟨rb,bL+a*7+4,Z⟩=K (ak o.null)/\ap f ⟨rb,bL+a*7+5,Z⟩=K (aJ aM o.n)/\ap f ⟨rb,bL+a*7+6,Z⟩=K (ay o.s)/\ap f ⟨B,0,Z⟩=K (ah (K ⟨r,0,Z⟩) (I c) ad)/\ap f ⟨r,n*2+1,Z⟩=K (aJ aM l)) a2.drew:=by go_keep
  refine Un.pk 0 ?_;refine Un.pk 1 ?_;refine Un.pk 2 ?_;refine Un.pk 3 ?_;refine Un.ld [17] 4 ?_;refine Un.pk 5 ?_;refine Un.pk 6 ?_;refine Un.pk 7 ?_;refine Un.ld [17,16,15,14] 8 ?_;refine Un.pk 9 ?_;refine Un.pk 10 ?_;refine Un.pk 11 ?_;refine Un.pk 12 ?_;refine Un.ld [17,16,15,14] 13 ?_;refine Un.pk 14 ?_;refine Un.pk 15 ?_;refine Un.ld [17] 16 ?_;try simp only[bw,ct,cj,b9]
  refine Un.on 17 λaI C=>?_;go_simp;go_at_call 47;refine(bo _).mono ?_;rintro u ck ⟨rfl,ar⟩;have g:X (aD t ck):=(a4.o.drew).trans (ar.mono a4.o.size);refine C.o _ _ (λd=>absurd d az) ?_;try simp only[bw,ct,cj,b9]
  refine Un.on 18 λaI C=>?_;go_simp;refine C.o _ _ (λd=>absurd d az) ?_;try simp only[bw,ct,cj,b9]
  refine Un.done aR ?_ _;have aC:oB l ⟨(n:Int),p,o⟩=(gR p l&&gR o l):=rfl;generalize gR p l=bv at*;generalize gR o l=A at*;cases bv<;>cases A
  all_goals
   skip
   go_wp2
  .go_ret2;exact x.o _ 5 g.o (q.o aC) az
  .go_ret2;exact x.o _ 5 g.o (q.o aC) az
  .go_ret2;exact x.o _ 5 g.o (q.o aC) az
  .go_roundw
   case rel=>exact⟨a+1,by omega,by go_num,L.o aC,g.o⟩
   case measure=>simp[bB];omega
 have V:X (eU (K (c,m)) an b=0):=by
  have:pY c b=af:=fA.2 λR h=>by
   obtain⟨i,N,rfl⟩:=m9 h;exact H i N aa
  show _=_;simp[eU,a5.o,this]
 have P:¬(a:Int)<(I b:Int):=by omega
 go_wp2;go_ret2;exact br.o _ g.o V.o
def oA (f:ag)(a:Nat)(b c d e:F):ag:=aY (aY (aY (aY f ⟨a,0,Z⟩ b) ⟨a,1,Z⟩ c) ⟨a,2,Z⟩ d) ⟨a,3,Z⟩ e
def L1(a b c d:F)(h:w.heap[n]? =K (aq #[v,x,y,z] Qd (0,0))):(oA w n a b c d).heap[n]? =K (aq #[a,b,c,d] Qd (0,0)):=by
 exact ek _ n 3 _ _ d (ek _ n 2 _ _ c (ek _ n 1 _ _ b (ek w n 0 _ _ a h)))
def Y4(h:m≠n):(oA w n v x y z).heap[m]? =w.heap[m]? :=by
 unfold oA;rw[ei _ _ _ _ h,ei _ _ _ _ h,ei _ _ _ _ h,ei _ _ _ _ h]
def mU(a:w.heap[n]? =K (aq #[v,x,y,z] Qd (0,0))):(ap w ⟨n,0,Z⟩=K v/\ap w ⟨n,1,Z⟩=K x/\ap w ⟨n,2,Z⟩=K y/\ap w ⟨n,3,Z⟩=K z)/\∀b,cE w ⟨n,b,Z⟩=aj:=by
 unfold ap cE;simp[a]
def jv (fn:cF):cQ:=match fn.body with|some (aS _ (aS _ (aS _ (aS (aS _ (fT _ (.loop (aS _ (aS (fT _ a) _))))) _))))=>a|_=>ey
def Dl (fn:cF):cQ:=match jv fn with|aS _ (aS _ (aS _ (aS _ (aS _ (aS _ (aS _ (aS a _)))))))=>a|_=>ey
def oD (fn:cF):cQ:=match jv fn with|aS _ (aS _ (aS _ (aS _ (aS _ (aS _ (aS _ (aS _ a)))))))=>a|_=>ey
def e8 (v:Nat->F):bt:=⟨#[v 0,v 1,v 2,v 3,v 4,v 5,v 6,v 7,v 8,v 9,v 10,v 11,v 12,v 13,v 14,v 15,v 16,v 17,v 18,v 19,v 20,v 21,v 22,v 23,v 24,v 25,v 26,v 27,v 28,v 29,v 30,v 31,v 32,v 33,v 34,v 35,v 36,v 37,v 38,v 39,v 40,v 41,v 42,v 43,v 44,v 45,v 46,v 47,v 48,v 49,v 50,v 51,v 52,v 53,v 54,v 55,v 56,v 57,v 58,v 59,v 60,v 61,v 62,v 63,v 64,v 65,v 66,v 67,v 68,v 69,v 70,v 71,v 72,v 73,v 74,v 75,v 76,v 77,v 78,v 79,v 80,v 81,v 82,v 83,v 84,v 85,v 86,v 87,v 88,v 89,v 90,v 91,v 92,v 93,v 94,v 95,v 96,v 97,v 98,v 99,v 100,v 101,v 102,v 103,v 104,v 105,v 106,v 107,v 108,v 109,v 110,v 111,v 112,v 113,v 114,v 115,v 116,v 117,v 118,v 119,v 120,v 121,v 122,v 123,v 124,v 125,v 126,v 127,v 128,v 129,v 130,v 131,v 132,v 133,v 134,v 135,v 136,v 137,v 138,v 139,v 140,v 141,v 142,v 143,v 144,v 145,v 146,v 147,v 148,v 149,v 150,v 151,v 152,v 153,v 154,v 155,v 156,v 157,v 158,v 159,v 160,v 161,v 162,v 163,v 164,v 165],[]⟩
abbrev kC(v:Nat->F):List (Nat×F):=[(0,v 0),(1,v 1),(2,v 2),(3,v 3),(4,v 4),(10,v 10),(11,v 11),(12,v 12),(13,v 13),(14,v 14),(15,v 15),(17,v 17)]
def yf(h:aT w n k i v j S)(l:m<=n):aT w m k i v j S:=by
 have⟨f,g⟩:=h;exact⟨f,g.imp id fun⟨e,c,d,a,b,o⟩=>⟨e,c,d,a,dW l b,o⟩⟩
def iP{a s:Nat}(h:U Q.tmps=a)(b:Cc.cx Q s=v):Cc.Knows Q a [(s,v)]:=Cc.Knows.cons (l:=[]) ⟨h,λs v h=>by simp at h⟩ b
def VG (c:ag)(e:Nat)(d:Array F)(N f:Nat)(a:List aC):Prop:=
 ∃b,d[f]? =K b/\I a=N/\aT c e 59 3 b N (bM a)
def VG.below{N b:Nat}{a:List aC}(h:VG w n C N b a)(f:aD w u):VG u n C N b a:=by
 have⟨g,c,d,e⟩:=h;exact⟨g,c,d,fc e f⟩
def l_{v:Nat->F}{s:List (bx×Int)}{bb:Nat->ByteArray}{V:Nat->List aC}{N:Nat}{z:List bH}{dt rn:F}{ra aA:Option aL}{cb bC bF:Nat}{ro:Option aL}{rb bL bD:Nat}(ew:Array F)
 (bh:v 0=(aK n)) (E:v 1=ah O (I an) bF) (G:v 2=ah ro (I z) bD) (bi:v 10=(aK i)) (bj:v 11=(aK j)) (bk:v 14=(aK m)) (bl:v 17=aG k (I s) (I s))
 (cn:I an<=aV) (co:I z<=aV) (el:I s<=1000) (dL:N<=100) (ed:0<N)
 (R:w.heap[n]? =K (aq #[aG a (I s) d,aG b (I s) e,dt,rn] 113 (0,0))) (ck:∀l (h:l<I s),ap w ⟨a,l*2+1,Z⟩=K (aJ aM s[l].1.kind)/\ap w ⟨b,l,Z⟩=K (aJ aM s[l].2)/\ap w ⟨c,l*9+8,Z⟩=K (ay (bb l))/\(bb l).size<=aV/\e4 s[l].1.kind s[l].2=af/\Cc.lI (bb l) s[l].1.kind s[l].2 (N:Int) (V l))
 (am:w.heap[m]? =K (aq #[n9 N,aG c (I s) f] 122 (0,0))) (L:w.heap[k]? =K (aq C 43 (0,0))) (ae:C.size=I s)
 (aR:w.heap[j]? =K (aq #[ah ra g p,ah aA q r,z9 0,z9 M] 84 (0,0))) (cu:w.heap[i]? =K (aq #[aF,aF,z9 0,z9 0] 84 (0,0)))
 (cl:cb<k/\rb<k/\n<k/\m<k/\a<k/\b<k/\c<k/\i<k/\j<k/\i≠j) (dO:i<=j)
 (cd:0<I an->O=K ⟨cb,bC,Z⟩) (cf:∀l,l<I an->ap w ⟨cb,bC+l,Z⟩=K (z9 (aW an l 0))) (cq:dJ w ro rb bL z):
 (Dl cV).wp (aH ax) (λA a6 ab=>(A=cX/\Kp k w ab/\(∃u,ab.heap[k]? =K (aq u 43 (0,0))/\u.size=I s/\∀t:Nat,t<I s->jA (t:Int) an z=af->VG ab (k+1) u N t (V t))/\Cc.Knows a6 166 (kC v)/\bU a6=[])\/
   (A= .ret/\(∃t:Nat,t<I s/\jA (t:Int) an z=af/\I (V t)≠N)/\dZ i w ab/\(∀o,o<k->o≠i->o≠j->ab.heap[o]? =w.heap[o]?)/\ab.heap[i]? =K (aq #[ah ra g p,ah aA q r,z9 3,z9 M] 84 (0,0))/\Cc.Knows a6 166 [(10,v 10)]/\bU a6=[])) (e8 v) w:=by
 unfold e8;rw[bh,E,G,bi,bj,bk,bl];unfold Dl jv cV;dsimp only;go_wp2_with fail;have dq:X (v 0=(aK n)/\v 1=ah O (I an) bF/\v 2=ah ro (I z) bD/\v 10=(aK i)/\v 11=(aK j)/\v 14=(aK m)/\v 17=aG k (I s) (I s)):=⟨bh,E,G,bi,bj,bk,bl⟩;have c9:X _:=R;have dc:X _:=ck;have c6:X _:=am;have dk:X _:=aR;have dl:X _:=cu;have c7:X _:=cd;have c8:X _:=cf;have di:X _:=cq;have de:X _:=cl;have da:X _:=dO;have W:X (k<U w.heap):=bE L;have b4:X (∃u,w.heap[k]? =K (aq u 43 (0,0))/\u.size=I s/\∀t:Nat,t<0->jA (t:Int) an z=af->VG w (k+1) u N t (V t)):=⟨C,L,ae,λt h=>aa⟩;have b1:X (I an<=aV/\I z<=aV):=⟨cn,co⟩;clear R ck am L ae aR cu cd cf cq cl bh E G bi bj bk bl cn co
 go_loopw [18] (λa1 wr=>∃l:Nat,l<=I s/\a1=z9 l/\Kp k w wr/\∃u,wr.heap[k]? =K (aq u 43 (0,0))/\u.size=I s/\∀t:Nat,t<l->jA (t:Int) an z=af->VG wr (k+1) u N t (V t)) (λa1 _=>I s-bO (bB a1))
 exact⟨0,cH _,rfl,Kp.refl _ _,b4.o⟩;clear b4;obtain⟨l,ej,rfl,aw,u,L,ae,ba⟩:=hrel;have⟨d1,d3,bz,bK,cy,cA,cK,d4,d5,d2⟩:=de.o;have ao:∀o,o<k->wr.heap[o]? =w.heap[o]? :=λo h=>m4 aw o (by have:=W.o;omega) (λA=>by cases A;omega);have ar:∀o P,o<k->ap wr ⟨o,P,Z⟩=ap w ⟨o,P,Z⟩:=λo P h=>by unfold ap;rw[ao o h]
 have R:=(ao n bz).trans c9.o;have bd:ap wr ⟨n,0,Z⟩=K (aG a (I s) d):=by simp[ap,R]
 have be:ap wr ⟨n,1,Z⟩=K (aG b (I s) e):=by simp[ap,R]
 by_cases ch:l<I s
 .have⟨bS,bT,bV,c2,c3,c4⟩:=dc.o l ch;have am:=(ao m bK).trans c6.o;have b8:ap wr ⟨m,0,Z⟩=K (n9 N):=by simp[ap,am]
  have ca:ap wr ⟨m,1,Z⟩=K (aG c (I s) f):=by simp[ap,am]
  rw[<-ar _ _ cy] at bS;rw[<-ar _ _ cA] at bT;rw[<-ar _ _ cK] at bV;have aE:=PT (l:Int) an z O cb bC bF ro rb bL bD wr b1.o.1 b1.o.2 c7.o (λa1 dP=>(ar _ _ d1).trans (c8.o a1 dP)) (di.o.kept aw.size (λ_=>ao _ d3));have T:X _:=aw;have a5:X _:=ba;have a4:X _:=L;have b5:X _:=c3;have b6:X _:=c4;have ds:X _:=c2;have dQ:(l:Int)<(I s:Int):=aa;clear ba aw ao ar R am c2 c3 c4 L;generalize s[l].1.kind=S at*;generalize s[l].2=ad at*;generalize eh:bb l=a3 at*;cases al:jA (l:Int) an z
  .rw[al] at aE;have bc:X (jA (l:Int) an z=aj):=al;clear al;go_wp2_with (go_at_call 50;refine aE.mono ?_;rintro A bQ ⟨rfl,a0⟩;rw[a0];clear a0 bQ)
   go_roundw
   case rel=>
    refine⟨l+1,by omega,by go_num,T.o,u,a4.o,ae,λt aR Q=>?_⟩;by_cases A:t=l
    .subst A;rw[bc.o] at Q;cases Q
    .exact a5.o t (by omega) Q
   case measure=>simp[bB];omega
  .rw[al] at aE;have bc:X (jA (l:Int) an z=af):=al;clear al;go_wp2_with (go_at_call 50;refine aE.mono ?_;rintro A bQ ⟨rfl,a0⟩;rw[a0];clear a0 bQ);clear aE;go_upto_region 18 with fail;refine Un.open_ (λw=>ap w ⟨n,0,Z⟩=K (aG a (I s) d)/\ap w ⟨n,1,Z⟩=K (aG b (I s) e)/\ap w ⟨a,l*2+1,Z⟩=K (aJ aM S)/\ap w ⟨b,l,Z⟩=K (aJ aM ad)/\ap w ⟨m,0,Z⟩=K (aJ aM (N:Int))/\ap w ⟨m,1,Z⟩=K (aG c (I s) f)/\ap w ⟨c,l*9+8,Z⟩=K (ay a3)) 23 (λ_ _ _ _ _ h=>eD h (λh=>absurd h.1 (λh=>by cases h)) (λh=>absurd h.1 (λh=>by cases h))) λem=>?_;have dK:(λw=>ap w ⟨n,0,Z⟩=K (aG a (I s) d)/\ap w ⟨n,1,Z⟩=K (aG b (I s) e)/\ap w ⟨a,l*2+1,Z⟩=K (aJ aM S)/\ap w ⟨b,l,Z⟩=K (aJ aM ad)/\ap w ⟨m,0,Z⟩=K (aJ aM (N:Int))/\ap w ⟨m,1,Z⟩=K (aG c (I s) f)/\ap w ⟨c,l*9+8,Z⟩=K (ay a3)) wr.drew:=by go_keep
   refine Un.pk 0 ?_;refine Un.ld [23,5,4,3] 1 ?_;refine Un.pk 2 ?_;refine Un.pk 3 ?_;refine Un.pk 4 ?_;refine Un.ld [23] 5 ?_;refine Un.pk 6 ?_;refine Un.pk 7 ?_;refine Un.pk 8 ?_;refine Un.ld [23,13,12,11] 9 ?_;refine Un.pk 10 ?_;refine Un.pk 11 ?_;refine Un.pk 12 ?_;refine Un.ld [23] 13 ?_;refine Un.pk 14 ?_;refine Un.pk 15 ?_;refine Un.pk 16 ?_;refine Un.ld [23,20,19] 17 ?_;refine Un.pk 18 ?_;refine Un.pk 19 ?_;refine Un.ld [23] 20 ?_;refine Un.pk 21 ?_;refine Un.ld [23] 22 ?_;try simp only[bw,ct,cj,b9]
   refine Un.on 23 λaQ J=>?_;go_simp;go_at_call 51;refine(Zf S ad b5.o a3 N ds.o dL).mono ?_;rintro c1 y ⟨cc,B,cM,D,d6,rfl,cr⟩;have bo:aD wr y:=(bN _ wr).drew.trans cc;have aI:X _:=bo;have dS:k<U wr.heap:=cL W.o T.o.size;have H:∀o P,o<k->ap y ⟨o,P,Z⟩=ap wr ⟨o,P,Z⟩:=λo P h=>bA bo (p:=⟨o,P,Z⟩) (by show o<_;omega);have dE:=And.intro ((H _ 0 bz).trans bd) (And.intro ((H _ 1 bz).trans be) (And.intro ((H _ _ cy).trans bS) (And.intro ((H _ _ cA).trans bT) (And.intro ((H _ 0 bK).trans b8) (And.intro ((H _ 1 bK).trans ca) ((H _ _ cK).trans bV))))));clear H;have b3:X _:=cr;clear cr cc bo;refine J.o _ _ (λh=>absurd h az) ?_;clear J aQ dK;refine Un.pk 24 ?_;refine Un.pk 25 ?_;refine Un.pk 26 ?_;try simp only[bw,ct,cj,b9]
   refine Un.on 27 λaQ J=>?_;go_simp;refine J.o _ _ (λh=>absurd h az) ?_;clear J aQ;try simp only[bw,ct,cj,b9]
   refine Un.on 28 λaQ J=>?_;go_simp;refine J.o _ _ (λh=>absurd h az) ?_;clear J aQ;try simp only[bw,ct,cj,b9]
   refine Un.done (by kernel_rfl) ?_ _;clear dE bd be b8 ca bS bT bV;have aU:=(cT aI.o k dS).trans a4.o;cases d6
   .have dT:p8 a3 S ad N:=by
     rcases b3.o with⟨h,_⟩|⟨_,h⟩;cases h;exact h
    have df:X (I (V l)≠N):=by
     have:=Cc.lI.Ll (vs:=V l) b6.o Y dT;show I (V l)≠N;rw[this];show 0≠N;omega
    have a8:∀o,o<k->y.heap[o]? =w.heap[o]? :=λo h=>(cT aI.o o aa).trans (m4 T.o o (by have:=W.o;omega) (λA=>by cases A;omega));have bs:=(a8 j d5).trans dk.o;have cv:=(a8 i d4).trans dl.o;have⟨⟨cN,cO,cW,cZ⟩,c0⟩:=mU bs;have d7:=c0 2;have cs:(aY y ⟨j,2,Z⟩ (aJ aM 3)).heap[j]? =K (aq #[ah ra g p,ah aA q r,aJ aM 3,aJ aM M] 84 (0,0)):=ek y j 2 _ _ _ bs;have br:(aY y ⟨j,2,Z⟩ (z9 3)).heap[i]? =K (aq #[aF,aF,z9 0,z9 0] 84 (0,0)):=(ei _ _ _ _ d2).trans cv;have b2:X (∀o,o<k->o≠i->o≠j->(aY y ⟨j,2,Z⟩ (z9 3)).heap[o]? =w.heap[o]?):=λo E G bm=>(ei _ _ _ _ bm).trans (a8 o E);have bW:X (dZ i w (aY y ⟨j,2,Z⟩ (z9 3))):=ku (((Kp.below (show Kp k w wr from T.o) (uU W.o)).trans (aI.o.mono aa)).mono aa) (by have:=W.o;omega) (by have:=da.o;omega);clear c0 a8 bs cv aU a4 a5;go_upto_region 21 with fail;generalize aY y ⟨j,2,Z⟩ (z9 3)=b7 at*;clear cN cO cW cZ d7;obtain⟨⟨cN,cO,cW,cZ⟩,-⟩:=mU cs;have⟨⟨eo,eq,es,et⟩,a2⟩:=mU br;have bd:=a2 0;have be:=a2 1;have eb:=a2 2;have ec:=a2 3;have dr:X _:=L1 (ah ra g p) (ah aA q r) (z9 3) (z9 M) br;have dg:X (∀o,o<k->o≠i->o≠j->(oA b7 i (ah ra g p) (ah aA q r) (z9 3) (z9 M)).heap[o]? =w.heap[o]?):=λo E G bm=>(Y4 G).trans (b2.o o E G bm);have a7:i<=U w.heap:=by have:=W.o;omega
    have c5:X (dZ i w (oA b7 i (ah ra g p) (ah aA q r) (aJ aM 3) (aJ aM M))):=ku (ku (ku (ku bW.o a7 (aZ _)) a7 (aZ _)) a7 (aZ _)) a7 (aZ _);clear a2 cs br b2 bW;unfold oA at*;go_wp2_with fail;exact⟨⟨l,ch,bc.o,df.o⟩,c5.o,dg.o,dr.o,iP Y Y⟩
   .obtain⟨x,rfl,cp,d0,bv,bu⟩:∃x:List aC,cM=I x/\aT y (U wr.drew.heap) 59 3 (ah B cM D) (I x) (bM x)/\I x=N/\(∀c1∈x,VC S c1)/\g5 S ad x=bytesOf a3:=by
     rcases b3.o with⟨_,h⟩|⟨h,_⟩;exact h;cases h
    subst d0;have cx:x=V l:=by
     rcases b6.o with⟨bP,E,_,_,dC⟩|⟨_,h|⟨bP,E,G⟩⟩;obtain rfl:bP=I x:=aa;exact dC.mo x Y bv (uy bu)
     .exact absurd (show j0 (I x:Int) S ad=0 by unfold j0;rw[if_neg (by omega),if_pos b5.o]) h
     obtain rfl:bP=I x:=aa;exact absurd bu (G x Y bv)
    have ci:l<u.size:=by omega
    have d9:ap y ⟨k,l,Z⟩=K u[l]:=by simp[ap,aU,ci]
    have eA:cE y ⟨k,l,Z⟩=aj:=by simp[cE,aU]
    have a9:Kp k y (aY y ⟨k,l,Z⟩ (ah B (I x) D)):=(Kp.refl k y).set l (ah B (I x) D) 0;have dd:X (Kp k w (aY y ⟨k,l,Z⟩ (ah B (I x) D))):=Kp.trans (Kp.trans T.o (Kp.iW aI.o)) a9;have dp:X ((aY y ⟨k,l,Z⟩ (ah B (I x) D)).heap[k]? =K (aq (cS u l (ah B (I x) D)) 43 (0,0))):=ek y k l _ _ _ aU;have db:X (∀t:Nat,t<l+1->jA (t:Int) an z=af->VG (aY y ⟨k,l,Z⟩ (ah B (I x) D)) (k+1) (cS u l (ah B (I x) D)) (I x) t (V t)):=λt aR Q=>by
     by_cases A:t=l;subst A;rw[<-cx];exact⟨ah B (I x) D,by simp[ci],rfl,a9.own (by exact yf cp (by show k+1<=U wr.heap;omega)) aa⟩;have⟨d8,u1,u2,u3⟩:=(a5.o t aa Q).below aI.o;exact⟨d8,by rw[xf (λh=>A (bq h))];exact u1,u2,a9.own u3 aa⟩
    clear a9 aU cp cx bv bu a5 a4 T;go_wp2_with fail
    go_roundw
    case rel=>exact⟨l+1,by omega,by go_num,dd.o,_,dp.o,by simp[ae],db.o⟩
    case measure=>simp[bB];omega
 have dQ:¬(l:Int)<(I s:Int):=aa;have b0:X (Kp k w wr/\∃u,wr.heap[k]? =K (aq u 43 (0,0))/\u.size=I s/\∀t:Nat,t<I s->jA (t:Int) an z=af->VG wr (k+1) u N t (V t)):=⟨aw,u,L,ae,λt aR Q=>ba t aa Q⟩;clear aw L ba ao ar R;go_wp2_with fail;have⟨du,dv,dw,dx,dy,dz,dA⟩:=dq.o;exact⟨b0.o.1,b0.o.2,((((((((((((iP Y (by exact bq dA)).cons Y).cons (by exact bq dz)).cons Y).cons Y).cons (by exact bq dy)).cons (by exact bq dx)).cons Y).cons Y).cons (by exact bq dw)).cons (by exact bq dv)).cons (by exact bq du))⟩
def rH (fn:cF):cQ:=match oD fn with|aS _ (fT _ (.loop (aS _ (aS (fT _ a) _))))=>a|_=>ey
def GR (fn:cF):cQ:=match rH fn with|aS _ (aS _ (aS _ (aS a _)))=>a|_=>ey
def f_(b:ag){v:Nat->F}(an:List Int)(c:Int->aC)(l n m:Nat)(i:Option aL)(cb bC bF:Nat)(aU:I an<=1000)
 (t:v 1=ah i (I an) bF) (u:v 17=aG n m m) (w:v 22=n9 l) (G:v 24=aF)
 (J:0<I an->i=K ⟨cb,bC,Z⟩) (M:0<I an->cb<U b.heap) (L:∀k,k<I an->bl b cb (bC+k) (z9 (aW an k 0))) (N:∀a∈an,mD b n m a l (c a)):
 (GR cV).wp (aH ax) (λD r q=>D=cX/\aD b q/\(∃g,aT q (U b.heap) 59 3 g (I an) (bM (an.map c))/\Cc.Knows r 166 ((24,g)::(22,v 22)::kC v))/\bU r=[]) (e8 v) b:=by
 have⟨ab,R,T,V,W⟩:=eW aE.mg;have p:X (v 1=ah i (I an) bF/\v 17=aG n m m/\v 22=n9 l):=⟨t,u,w⟩;have A:=aA L;unfold e8;rw[t,u,w,G];unfold GR rH oD jv cV;dsimp only;go_wp2_with fail
 go_loopw [24,25] (λg j wr=>∃a:Nat,a<=I an/\j=n9 a/\aT wr (U b.heap) 59 3 g a (bM ((an.take a).map c))/\aD b wr) (λ_ j _=>I an-bO (bB j))
 exact⟨0,cH _,rfl,iS _ _ _ _,bN _ _⟩;obtain⟨a,aR,rfl,d,e⟩:=hrel;have o:=aA e;have S:=e.size;by_cases f:a<I an
 .obtain rfl:=J aa;have y:=(bA e (p:=⟨cb,bC+a,Z⟩) (M aa)).trans (A.o a f);have P:aW an a 0=an[a]:=by rw[ep,dV f];rfl
  rw[P] at y;have⟨a1,s,a2,ae,E,al,am,ao,ar,aw,aI,aK,aQ⟩:=((N an[a] (dm f)).below e).ex;have C:X (bM ((an.take a).map c)++[ak (c an[a]).null,z9 (c an[a]).n,ay (c an[a]).s]=bM ((an.take (a+1)).map c)):=by
   show _=_;rw[gm f,gD,rZ,nH]
  generalize a0:c an[a]=h at*;rw[E] at y;obtain⟨a4,a3,rfl⟩:=e9 d;go_wp2_with (at_builtin;refine jR Y _ _ 43 Y (U b.heap) 59 ab _ 3 32 aE.underlying43 R T V W Y az _ a _ Y (lE d _) ⟨U wr.heap,0,Z⟩ 1 1 [ak h.null,z9 h.n,ay h.s] Y az Y (lU _) (lz h) (by unfold aV;omega) aa bS ?_;intro a5 ad x Q);have H:=dx.append Q;have z:X (aD b ad):=o.o.trans (H.below (λs O=>(d.lt s O).1) S);rw[C.o] at x;go_wp2
  go_roundw
  exact⟨a+1,aa,by go_num,x,z.o⟩;simp[bB];omega
 obtain rfl:a=I an:=aa;rw[jq] at d;have B:X _:=d;clear e d;go_wp2_with fail;exact⟨o.o,_,B.o,((((((((((((((iP Y (by exact bq p.o.2.1)).cons Y).cons Y).cons Y).cons Y).cons Y).cons Y).cons Y).cons Y).cons Y).cons (by exact bq p.o.1)).cons Y).cons Y).cons Y)⟩
structure Td(W:ag)(g0 g1 bse9:Nat)(rv nv:F)(nb:Int)(L:List (List aC×F))(ns:List Int):Prop where
 nt:W.heap[g0]? =K (aq #[ah Z 0 0,ah Z 0 0,z9 0,z9 0] 84 (0,0))
 box:W.heap[g1]? =K (aq #[rv,nv,z9 0,z9 nb] 84 (0,0))
 rows:aT W bse9 43 1 rv (I L) (L.map dD)
 each:∀p∈L,aT W bse9 59 3 p.2 (I p.1) (bM p.1)
 apart:∀(i j:Nat) u t g,(L.map dD)[i]? =K u->(L.map dD)[j]? =K t->bI u=K g->bI t=K g->i=j
 fL:aT W bse9 3 1 nv (I ns) (cO ns)
 lt:g0<bse9/\g1<bse9/\g0≠g1
section
variable{Q:ag}{g1 J:Nat}{rv nv dA dz:F}{nb:Int}{L:List (List aC×F)}
def Td.below(h:Td W g0 g1 J rv nv nb L ns)(a:aD W Q):Td Q g0 g1 J rv nv nb L ns:=
 ⟨aB (cT a _ (bE h.nt)) h.nt,aB (cT a _ (bE h.box)) h.box,fc h.rows a,λc b=>fc (h.each c b) a,h.apart,fc h.fL a,h.lt⟩
def pX(h:aT w J n m v k S)(a:i<J):aT (aY w ⟨i,j,Z⟩ x) J n m v k S:=
 fI h (eM w i j x) (ai λn=>cA ((h.lt i n).1))
def Td.row(h:Td W g0 g1 J rv nv nb L ns){n:List aC}(r:aT W J 59 3 v (I n) (bM n))(o:∀e∈L,∀a,bI e.2=K a->bI v≠K a)(i:dx W Q rv dA)(z:aT Q J 43 1 dA (I L+1) (L.map dD++[v])):
 Td (aY Q ⟨g1,0,Z⟩ dA) g0 g1 J dA nv nb (L++[(n,v)]) ns:=by
 have⟨C,f,D⟩:=h.lt;have blk:∀a,a<J->a<U W.heap->Q.heap[a]? =W.heap[a]? :=λa E y=>m4 i.dK a y (λx=>cA ((h.rows.lt a (bq x)).1));refine⟨?_,?_,?_,?_,?_,?_,h.lt⟩;exact aB (ei _ _ _ _ D) (aB (blk g0 C (bE h.nt)) h.nt);exact ek Q g1 0 _ _ _ (aB (blk g1 f (bE h.box)) h.box);rw[cJ,gD];exact pX z f;intro e d;rcases eP.1 d with d|d;exact pX (js (h.each e d) i (l8 (h.each e d) h.rows az)) f;rw[v5] at d;subst d;exact pX (js r i (l8 r h.rows az)) f;intro b l c m a p q j k;rw[gD,rZ] at p q;have u:∀(b:Nat) c,(L.map dD++[v])[b]? =K c->(b<I L/\(L.map dD)[b]? =K c)\/(b=I L/\c=v):=λb c h=>by
  rcases jc b (I L) with g|g;rw[tX (cN g)] at h;exact av ⟨g,h⟩;rw[rX (cN g)] at h;simp at h;exact ai ⟨by have:=(fF.1 h).1;simp at this;omega,by have:=(fF.1 h).2;simpa using(bq this)⟩
 have w:∀(b:Nat) c,(L.map dD)[b]? =K c->∃e∈L,e.2=c:=λb c h=>by
  have:=oP h;simpa using this
 rcases u b c p with⟨A,s⟩|⟨A,rfl⟩<;>rcases u l m q with⟨B,t⟩|⟨B,rfl⟩;exact h.apart b l c m a s t j k;obtain⟨e,d,rfl⟩:=w b c s;exact absurd k (o e d a j);obtain⟨e,d,rfl⟩:=w l m t;exact absurd j (o e d a k);omega;exact pX (js h.fL i (l8 h.fL h.rows az)) f
def Td.num(h:Td W g0 g1 J rv nv nb L ns)(c:dx W Q nv dz)(i:aT Q J 3 1 dz (I ns+1) (cO ns++[z9 M])):
 Td (aY Q ⟨g1,1,Z⟩ dz) g0 g1 J rv dz nb L (ns++[M]):=by
 have⟨j,b,k⟩:=h.lt;have blk:∀a,a<J->a<U W.heap->Q.heap[a]? =W.heap[a]? :=λa l g=>m4 c.dK a g (λf=>cA ((h.fL.lt a (bq f)).1));refine⟨?_,?_,?_,?_,h.apart,?_,h.lt⟩;exact aB (ei _ _ _ _ k) (aB (blk g0 j (bE h.nt)) h.nt);exact ek Q g1 1 _ _ _ (aB (blk g1 b (bE h.box)) h.box);exact pX (js h.rows c (l8 h.rows h.fL az)) b;exact λe d=>pX (js (h.each e d) c (l8 (h.each e d) h.fL az)) b;rw[cJ,<-tq];exact pX i b
end
def GU (fn:cF):cQ:=match rH fn with|aS _ (aS _ (aS _ (aS _ a)))=>a|_=>ey
structure Kq(W W':ag)(g0 g1:Nat)(rv nv dA dz:F):Prop where
 keep:∀b,b<U W.heap->b≠g1->bI rv≠K b->bI nv≠K b->W'.heap[b]? =W.heap[b]?
 size:U W.heap<=U W'.heap
 r:∀g,bI dA=K g->bI rv=K g\/U W.heap<=g
 n:∀g,bI dz=K g->bI nv=K g\/U W.heap<=g
 below:dZ g0 W W'
def k_(h:ag){v:Nat->F}(e a j:Nat)(rv nv:F)(B r:Int)(b:List (List aC×F))(f:List Int)(s:List aC)(n:F)(first k:Nat)
 (o:v 4=z9 r) (S:v 10=(aK e)) (T:v 11=(aK a)) (V:v 15=n9 first) (a2:v 22=n9 k) (a3:v 24=n)
 (p:Td h e a j rv nv B b f) (q:aT h j 59 3 n (I s) (bM s)) (a6:∀k∈b,∀i,bI k.2=K i->bI n≠K i) (hL:I b<=2000) (bF:I f<=2000) (bH:first+k<=100000) (bD:j<=U h.heap) (W:e<=a):
 (GU cV).wp (aH ax) (λg u D=>(g=cX/\((I b:Int)+1≠r)/\(∃dA dz,Td D e a j dA dz B (b++[(s,n)]) (f++[((first+k:Nat):Int)])/\Kq h D e a rv nv dA dz)/\Cc.Knows u 166 ((22,v 22)::kC v)/\bU u=[])\/
   (g= .ret/\((I b:Int)+1=r)/\(∃E dA dz,Td E e a j dA dz B (b++[(s,n)]) (f++[((first+k:Nat):Int)])/\Kq h E e a rv nv dA dz/\D=oA E e dA dz (z9 0) (z9 B))/\Cc.Knows u 166 [(10,v 10)]/\bU u=[])) (e8 v) h:=by
 have⟨bo,bc,be,bh,bi⟩:=eW aE.Ki;have⟨bm,bb,bj,bk,bl⟩:=eW aE.pN;have aG:X (v 4=z9 r/\v 11=(aK a)/\v 15=n9 first/\v 10=(aK e)):=⟨o,T,V,S⟩;obtain⟨bs,br,rfl⟩:=e9 q;obtain⟨ro,al,rfl⟩:=e9 p.rows;obtain⟨N,M,rfl⟩:=e9 p.fL;have l:=aA p;have aF:=aA q;have⟨⟨am,an,ao,ar⟩,P⟩:=mU p.box;have bW:=P 0;have m:=p.rows;unfold e8;rw[o,S,T,V,a2,a3];unfold GU rH oD jv cV;dsimp only;have a7:=bE l.o.box;go_upto_region 34 with(at_builtin;refine jR Y _ _ 26 Y j 43 bo _ 1 24 aE.underlying26 bc be bh bi Y az _ (I b) _ Y (lE m _) ⟨U h.heap,0,Z⟩ 1 1 [ah bs (I s) br] Y az Y (pU _) (λn q=>by simp at q;rw[q];rfl) fW aa bS ?_;intro b1 aw ad a9;obtain⟨C,x,rfl⟩:=e9 ad;have c:=dx.append a9;have a4:=(m4 c.dK a a7 (λg=>by have:=(m.lt a (bq g)).1;have:=l.o.lt.2.1;omega)).trans l.o.box;have⟨⟨bu,bv,bx,bz⟩,Q⟩:=mU a4;have b3:=Q 0);have z:=l.o.row aF.o a6 c (cN ad);have A:Kq h (aY aw ⟨a,0,Z⟩ (ah C (I b+1) x)) e a (ah ro (I b) al) (ah N (I f) M) (ah C (I b+1) x) (ah N (I f) M):=⟨λw H y J _=>(ei _ _ _ _ y).trans (m4 c.dK w H (λg=>J (bq g))),cN c.dK.size,c.at_,λi d=>av d,ku (c.below (λi d=>by have:=(l.o.rows.lt i d).1;have:=l.o.lt.1;omega) aa) aa W⟩;generalize aY aw ⟨a,0,Z⟩ (ah C (I b+1) x)=aI at*;have t:=aA z;have bK:=A.size;have m:=z.fL;have⟨⟨am,an,ao,ar⟩,P⟩:=mU z.box;have b0:=P 1;have a8:=bE z.box;go_upto_region 35 with(at_builtin;refine jR Y _ _ 22 Y j 3 bm (z9 0) 1 8 aE.underlying22 bb bj bk bl Y az _ (I f) _ Y (lE m _) ⟨U aI.heap,0,Z⟩ 1 1 [z9 ((first+k:Nat):Int)] (by first|rfl|(simp;done)) az Y (cN (pU _)) vq fW aa bS ?_;intro b2 aD ae ba;obtain⟨O,G,rfl⟩:=e9 ae;have c:=dx.append ba;have a5:=(m4 c.dK a a8 (λg=>by have:=(m.lt a (bq g)).1;have:=t.o.lt.2.1;omega)).trans t.o.box;have⟨⟨bu,bv,bx,bz⟩,Q⟩:=mU a5;have b4:=Q 1);have L:=t.o.num c (cN ae);have ab:Kq h (aY aD ⟨a,1,Z⟩ (ah O (I f+1) G)) e a (ah ro (I b) al) (ah N (I f) M) (ah C (I b+1) x) (ah O (I f+1) G):=⟨λw H y J o=>(ei _ _ _ _ y).trans ((m4 c.dK w aa (λg=>o (bq g))).trans (A.keep w H y J o)),by have:=c.dK.size;simp;omega,A.r,λi d=>(c.at_ i d).imp id (λd=>aa),A.below.trans (ku (c.below (λi d=>by have:=(m.lt i d).1;have:=t.o.lt.1;omega) aa) aa W)⟩;generalize aY aD ⟨a,1,Z⟩ (ah O (I f+1) G)=aQ at*;have R:=aA L;obtain⟨⟨am,an,ao,ar⟩,-⟩:=mU L.box;have⟨⟨bL,bP,bQ,bT⟩,bV⟩:=mU L.nt;by_cases bd:(I b:Int)+1=r;have bC:=aA bd;go_wp2_with fail;exact⟨⟨aQ,_,_,by have d:=R.o;simpa using d,ab,rfl⟩,iP Y Y⟩
 skip
 go_wp2_with fail;have⟨a1,aU,a0,aR⟩:=aG.o;exact⟨⟨_,_,by have d:=R.o;simpa using d,ab⟩,(((((((((((((iP Y Y).cons (by exact bq a0)).cons Y).cons Y).cons Y).cons (by exact bq aU)).cons (by exact bq aR)).cons (by exact bq a1)).cons Y).cons Y).cons Y).cons Y).cons Y)⟩
def GO (fn:cF):cQ:=match rH fn with|aS a _=>a|_=>ey
def GL (fn:cF):cQ:=match rH fn with|aS _ (aS a _)=>a|_=>ey
def GP (fn:cF):cQ:=match rH fn with|aS _ (aS _ (aS a _))=>a|_=>ey
def kw(h:U Q.tmps=166)(b:bU Q=[]):Q=e8 (Cc.cx Q):=by
 have⟨d,e⟩:=Q;simp only at h b;subst b;show _=(⟨cR ((fp 166).map (Cc.cx ⟨d,[]⟩)),[]⟩:bt);congr 1;apply vK;intro c;simp only[List.getElem?_toArray,s5,List.getElem?_range];rcases jc c 166 with a|a;simp[a,Cc.cx,h];simp[a,h]
def d_(c:ag)(v:Nat->F)(a:List bH)(e:Int->Nat->aC)(b f m:Nat)(ro:Option aL)(rb bL bD:Nat)(h:v 2=ah ro (I a) bD)(g:v 17=aG f m m)(k:v 22=n9 b)
 (B:I a<=aV) (p:dJ c ro rb bL a) (o:∀d∈a,mD c f m d.col b (e d.col b)) (q:∀d∈a,(e d.col b).s.size<=aV/\d.low.s.size<=aV/\d.high.s.size<=aV):
 (GO cV).wp (aH ax) (λj i u=>j=cX/\aD c u/\Cc.Knows i 166 ((23,ak (Cc.iL a e b))::(22,v 22)::kC v)/\bU i=[]) (e8 v) c:=by
 have t:X (v 2=ah ro (I a) bD/\v 17=aG f m m):=⟨h,g⟩;have r:=WK a (λC=>e C b) b f m m ro rb bL bD c B p o q;unfold e8;rw[h,g,k];clear h g k p o q;unfold GO rH oD jv cV;dsimp only;go_wp2_with (go_at_call 52;refine bG r ?_;rintro j D ⟨w,rfl,l,n⟩;have s:X (w=Cc.iL a e b/\aD c D):=⟨by rw[rO,l,Cc.FR],n⟩;clear l n);have⟨x,z⟩:=s.o;subst x;have⟨A,y⟩:=t.o;exact⟨z,(((((((((((((iP Y (by exact bq y)).cons Y).cons Y).cons Y).cons Y).cons Y).cons Y).cons Y).cons Y).cons (by exact bq A)).cons Y).cons Y).cons Y).cons Y⟩
def a_(a:ag){v:Nat->F}(e:v 23=ak qW):
 (GL cV).wp (aH ax) (λc b d=>d=a/\((qW=aj/\c= .exit 5)\/(qW=af/\c=cX))/\Cc.Knows b 166 ((22,v 22)::kC v)/\bU b=[]) (e8 v) a:=by
 unfold e8;rw[e];unfold GL rH oD jv cV;dsimp only;cases qW
 all_goals
  go_wp2_with fail;exact((((((((((((iP Y Y).cons Y).cons Y).cons Y).cons Y).cons Y).cons Y).cons Y).cons Y).cons Y).cons Y).cons Y).cons Y
def e_(a:ag){v:Nat->F}:
 (GP cV).wp (aH ax) (λd b c=>d=cX/\c=a/\Cc.Knows b 166 ((24,aF)::(22,v 22)::kC v)/\bU b=[]) (e8 v) a:=by
 unfold e8;unfold GP rH oD jv cV;dsimp only;go_wp2_with fail;exact(((((((((((((iP Y Y).cons Y).cons Y).cons Y).cons Y).cons Y).cons Y).cons Y).cons Y).cons Y).cons Y).cons Y).cons Y).cons Y
def Dh{v:Nat->F}(b:Cc.Knows Q 166 H)(h:∀s∈[0,1,2,3,4,10,11,12,13,14,15,17,22],H.lookup s=K (v s)):((22,Cc.cx Q 22)::kC (Cc.cx Q))=(22,v 22)::kC v:=by
 have a:=λs c=>b.slot s (v s) (h s c);unfold kC;rw[a 0 az,a 1 az,a 2 az,a 3 az,a 4 az,a 10 az,a 11 az,a 12 az,a 13 az,a 14 az,a 15 az,a 17 az,a 22 az]
def By{v:Nat->F}(b:n=23\/n=24):∀s∈[0,1,2,3,4,10,11,12,13,14,15,17,22],((n,x)::(22,v 22)::kC v).lookup s=K (v s):=by
 intro s a;simp only[gy,kZ,or_false] at a;rcases b with rfl|rfl<;>rcases a with rfl|rfl|rfl|rfl|rfl|rfl|rfl|rfl|rfl|rfl|rfl|rfl|rfl<;>rfl
def ZT{v:Nat->F}:∀s∈[0,1,2,3,4,10,11,12,13,14,15,17,22],((22,v 22)::kC v).lookup s=K (v s):=by
 intro s a;simp only[gy,kZ,or_false] at a;rcases a with rfl|rfl|rfl|rfl|rfl|rfl|rfl|rfl|rfl|rfl|rfl|rfl|rfl<;>rfl
def Kq.iW{rv nv dA dz:F}(c:aD w u)(h:Kq u W n m rv nv dA dz)(a:n<=U w.heap):Kq w W n m rv nv dA dz:=by
 have j:=c.size;exact⟨λd e f g i=>(h.keep d (by omega) f g i).trans (cT c d e),by have:=h.size;omega,λb a=>(h.r b a).imp id (λh=>by omega),λb a=>(h.n b a).imp id (λh=>by omega),(c.mono a).trans h.below⟩
def j_(e:ag){v:Nat->F}(an:List Int)(h:List bH)(c:Int->Nat->aC)(d g w:Nat)(rv nv:F)(x D:Int)(i:List (List aC×F))(y:List Int)(first a N z m:Nat)(G:Option aL)(cb bC bF:Nat)(ro:Option aL)(rb bL bD:Nat)
 (K:v 1=ah G (I an) bF) (L:v 2=ah ro (I h) bD) (a5:v 4=z9 D) (a2:v 10=(aK d)) (a3:v 11=(aK g)) (a4:v 15=n9 first) (X:v 17=aG z m m) (M:v 22=n9 a)
 (j:Cc.xE e an h G cb bC ro rb bL z m N c) (al:a<N) (a6:∀p∈h,(c p.col a).s.size<=aV/\p.low.s.size<=aV/\p.high.s.size<=aV) (a8:I an<=1000) (bi:I h<=aV)
 (aa:Td e d g w rv nv x i y) (hL:I i<=2000) (bd:I y<=2000) (a9:first+a<=100000) (br:w<=U e.heap) (ba:d<=g):
 (rH cV).wp (aH ax) (λf l B=>(f= .exit 5/\Cc.iL h c a=aj/\aD e B/\Cc.Knows l 166 ((22,v 22)::kC v)/\bU l=[])\/
   (f=cX/\Cc.iL h c a=af/\((I i:Int)+1≠D)/\(∃k dA dz,Td B d g w dA dz x (i++[(an.map λb=>c b a,k)]) (y++[((first+a:Nat):Int)])/\Kq e B d g rv nv dA dz)/\Cc.Knows l 166 ((22,v 22)::kC v)/\bU l=[])\/
   (f= .ret/\Cc.iL h c a=af/\((I i:Int)+1=D)/\(∃k u dA dz,Td u d g w dA dz x (i++[(an.map λb=>c b a,k)]) (y++[((first+a:Nat):Int)])/\Kq e u d g rv nv dA dz/\B=oA u d dA dz (z9 0) (z9 x))/\Cc.Knows l 166 [(10,v 10)]/\bU l=[])) (e8 v) e:=by
 have bj:rH cV=aS (GO cV) (aS (GL cV) (aS (GP cV) (aS (GR cV) (GU cV)))):=rfl;rw[bj];refine jo (eH ?_ (d_ e v h c a z m ro rb bL bD L X M bi j.nr (λp bh=>j.lc a al p.col (ai ⟨p,bh,rfl⟩)) a6));rintro f aE u ⟨rfl,o,E,aR⟩;show ja _ _ _ aE _;rw[kw E.size aR];refine jo (eH ?_ (a_ u (E.slot 23 _ Y)));rintro f aF aw ⟨rfl,a7,A,V⟩;rw[Dh E (By (av Y))] at A;rcases a7 with⟨C,rfl⟩|⟨C,rfl⟩;exact av ⟨rfl,C,o,A,V⟩;show ja _ _ _ aF _;rw[kw A.size V];refine jo (eH ?_ (e_ aw));rintro f aI T ⟨rfl,rfl,q,aU⟩;rw[Dh A ZT] at q;show ja _ _ _ aI _;rw[kw q.size aU];have J:=λs S=>q.slot s (v s) (By (ai Y) s S);have am:=o.size;have bk:∀b∈an,mD T z m b a (c b a):=λb bc=>(j.lc a al b (av bc)).below o;refine jo (eH ?_ (f_ T an (λb=>c b a) a z m G cb bC bF a8 ((J 1 (by decide)).trans K) ((J 17 (by decide)).trans X) ((J 22 (by decide)).trans M) (q.slot 24 _ Y) j.ca (λa1=>cL (j.cl a1) am) (λar bb=>(bA o (p:=⟨cb,bC+ar,Z⟩) (j.cl (by omega))).trans (j.cc ar bb)) bk));rintro f aQ az ⟨rfl,P,⟨k,ao,r⟩,a0⟩;rw[Dh q (By (ai Y))] at r;show ja _ _ _ aQ _;rw[kw r.size a0];have n:=λs S=>r.slot s (v s) (By (ai Y) s S);have ab:=aa.below o;have bs:=P.size;have ad:=o.trans (P.mono am);have ae:=uU (bE aa.nt);refine eH ?_ (k_ az d g w rv nv x D i y (an.map λb=>c b a) k first a ((n 4 (by decide)).trans a5) ((n 10 (by decide)).trans a2) ((n 11 (by decide)).trans a3) ((n 15 (by decide)).trans a4) ((n 22 (by decide)).trans M) (r.slot 24 _ Y) (ab.below P) (by rw[er];exact j5 ao (by omega)) (λbl be W K L=>by
  have:=((ab.each bl be).lt W K).2;have:=(ao.lt W L).1;omega) hL bd a9 (by omega) ba)
 rintro f bo bm (⟨rfl,R,⟨dA,dz,O,Q⟩,t,H⟩|⟨rfl,R,⟨aA,dA,dz,O,Q,rfl⟩,t,H⟩);rw[Dh r (By (ai Y))] at t;exact ai (av ⟨rfl,C,R,⟨k,dA,dz,O,Kq.iW ad Q ae⟩,t,H⟩);rw[n 10 (by decide)] at t;exact ai (ai ⟨rfl,C,R,⟨k,aA,dA,dz,O,Kq.iW ad Q ae,rfl⟩,t,H⟩)
def GV (fn:cF):cQ:=match oD fn with|aS a _=>a|_=>ey
def GM (fn:cF):cQ:=match oD fn with|aS _ (fT _ (.loop (aS a _)))=>a|_=>ey
def GS (fn:cF):cQ:=match oD fn with|aS _ (fT _ (.loop (aS _ (aS _ a))))=>a|_=>ey
def m_(a:ag)(v:Nat->F):
 (GV cV).wp (aH ax) (λd b c=>d=cX/\c=a/\Cc.Knows b 166 ((22,z9 0)::kC v)/\bU b=[]) (e8 v) a:=by
 unfold e8 GV oD jv cV;dsimp only;go_wp2_with fail;exact((((((((((((iP Y Y).cons Y).cons Y).cons Y).cons Y).cons Y).cons Y).cons Y).cons Y).cons Y).cons Y).cons Y).cons Y
def Mt(b:ag){v:Nat->F}(a:Nat)(g:a<=1000)(f:v 22=n9 a):
 (GS cV).wp (aH ax) (λe c d=>e=cX/\d=b/\Cc.Knows c 166 ((22,z9 ((a+1:Nat):Int))::kC v)/\bU c=[]) (e8 v) b:=by
 unfold e8;rw[f];unfold GS oD jv cV;dsimp only;go_wp2_with fail;exact((((((((((((iP Y Y).cons Y).cons Y).cons Y).cons Y).cons Y).cons Y).cons Y).cons Y).cons Y).cons Y).cons Y).cons (by first|rfl|(show aJ _ _=_;congr 1;omega))
def b_(b:ag){v:Nat->F}(a N e:Nat)(l:a<=1000)(c:v 14=(aK e))(h:v 22=n9 a)(k:bl b e 0 (n9 N)):
 (GM cV).wp (aH ax) (λf d g=>g=b/\((a<N/\f=cX)\/(N<=a/\f= .exit 4))/\Cc.Knows d 166 ((22,v 22)::kC v)/\bU d=[]) (e8 v) b:=by
 unfold e8;rw[c,h];unfold GM oD jv cV;dsimp only;by_cases j:a<N;have i:(a:Int)<(N:Int):=aa;go_wp2_with fail;exact((((((((((((iP Y Y).cons Y).cons (by exact bq c)).cons Y).cons Y).cons Y).cons Y).cons Y).cons Y).cons Y).cons Y).cons Y).cons Y;have i:¬(a:Int)<(N:Int):=aa;go_wp2_with fail;exact⟨aa,((((((((((((iP Y Y).cons Y).cons (by exact bq c)).cons Y).cons Y).cons Y).cons Y).cons Y).cons Y).cons Y).cons Y).cons Y).cons Y⟩
def Told (a:List Cc.cK)(b:List (List aC×F))(c:List Int):Prop:=b.map bf=a.map dD/\c=a.map λd=>(d.1:Int)
def Told.snoc{b:List Cc.cK}{a:List (List aC×F)}(h:Told b a qZ){c:List aC}:Told (b++[(n,c)]) (a++[(c,v)]) (qZ++[(n:Int)]):=by
 obtain⟨d,rfl⟩:=h;exact⟨by simp[d],aI⟩
def Told.len{a:List Cc.cK}{b:List (List aC×F)}(h:Told a b qZ):I b=I a/\I qZ=I a:=by
 obtain⟨c,rfl⟩:=h;have:=congrArg I c;simp at this;exact⟨this,aI⟩
def Kq.refl(b:ag)(c d:Nat)(rv nv:F):Kq b b c d rv nv rv nv:=⟨λ_ _ _ _ _=>rfl,aZ _,λ_ a=>av a,λ_ a=>av a,bN _ _⟩
def Kq.trans{rv nv o k p l:F}(h:Kq w u n m rv nv o k)(c:Kq u W n m o k p l):Kq w W n m rv nv p l:=by
 have r:=h.size;refine⟨λd q g i j=>(c.keep d aa g (λe=>?_) (λe=>?_)).trans (h.keep d q g i j),by have:=c.size;omega,λa f=>?_,λa f=>?_,h.below.trans c.below⟩;rcases h.r d e with h|h;exact i h;omega;rcases h.n d e with h|h;exact j h;omega;rcases c.r a f with b|b;exact h.r a b;exact ai aa;rcases c.n a f with b|b;exact h.n a b;exact ai aa
def Kq.acJ{rv nv b a:F}(h:Kq w u n m rv nv b a)(d:aD u W)(c:n<=U u.heap):Kq w W n m rv nv b a:=
 h.trans (Kq.iW d (Kq.refl _ _ _ _ _) c)
def Am{v a:Nat->F}(h:∀s∈[0,1,2,3,4,10,11,12,13,14,15,17],a s=v s):((22,x)::kC a)=(22,x)::kC v:=by
 unfold kC;rw[h 0 az,h 1 az,h 2 az,h 3 az,h 4 az,h 10 az,h 11 az,h 12 az,h 13 az,h 14 az,h 15 az,h 17 az]
def Bx{v:Nat->F}:∀s∈[0,1,2,3,4,10,11,12,13,14,15,17],((22,x)::kC v).lookup s=K (v s):=by
 intro s a;simp only[gy,kZ,or_false] at a;rcases a with rfl|rfl|rfl|rfl|rfl|rfl|rfl|rfl|rfl|rfl|rfl|rfl<;>rfl
def g_{v:Nat->F}{e:List bH}{c:Int->Nat->aC}{rv nv:F}{G:List (List aC×F)}{pre:List Cc.cK}{first N V m:Nat}{cb bC bF:Nat}{ro:Option aL}{rb bL bD:Nat}
 (aI:v 1=ah O (I an) bF) (a2:v 2=ah ro (I e) bD) (a3:v 4=z9 qB) (aQ:v 10=(aK n)) (aR:v 11=(aK k)) (aU:v 14=(aK j)) (a0:v 15=n9 first) (a1:v 17=aG V m m)
 (a4:∀l dA dz,Kq w l n k rv nv dA dz->Cc.xE l an e O cb bC ro rb bL V m N c/\bl l j 0 (n9 N)) (a6:∀a,a<N->∀S∈e,(c S.col a).s.size<=aV/\S.low.s.size<=aV/\S.high.s.size<=aV) (ba:I an<=1000) (bj:I e<=aV)
 (a7:Td w n k i rv nv M G qZ) (bh:Told pre G qZ) (bM:I pre+N<=2000) (bv:first+N<=100000) (bs:N<=100) (bu:i<=U w.heap) (bd:n<=k):
 (oD cV).wp (aH ax) (λr D l=>(r=cX/\(∃b dA dz g h,Td l n k i dA dz M g h/\Kq w l n k rv nv dA dz/\Told b g h/\Cc.feed (λb=>decide ((I b:Int)≠qB)) pre (Cc.jO (Cc.iL e c) (λa=>an.map λd=>c d a) first 0 N)=(b,af))/\(∃br,Cc.Knows D 166 ((22,br)::kC v))/\bU D=[])\/
   (r= .ret/\(∃b y dA dz g h,Td y n k i dA dz M g h/\Kq w y n k rv nv dA dz/\Told b g h/\Cc.feed (λb=>decide ((I b:Int)≠qB)) pre (Cc.jO (Cc.iL e c) (λa=>an.map λd=>c d a) first 0 N)=(b,aj)/\l=oA y n dA dz (z9 0) (z9 M))/\Cc.Knows D 166 [(10,v 10)]/\bU D=[])) (e8 v) w:=by
 have bk:oD cV=aS (GV cV) (fT 4 (.loop (aS (GM cV) (aS (fT 5 (rH cV)) (GS cV))))):=rfl;rw[bk];refine jo (eH ?_ (m_ w v));rintro r aw y ⟨rfl,rfl,am,aE⟩;show ja _ _ _ aw _;generalize bb:Cc.feed (λb=>decide ((I b:Int)≠qB)) pre (Cc.jO (Cc.iL e c) (λa=>an.map λd=>c d a) first 0 N)=bm;refine wp_block (wp_loop_ghost (λal J l=>∃a b dA dz g h,al=N-a/\a<=N/\Cc.Knows J 166 ((22,n9 a)::kC v)/\bU J=[]/\Td l n k i dA dz M g h/\Kq y l n k rv nv dA dz/\Told b g h/\I b<=I pre+a/\Cc.feed (λb=>decide ((I b:Int)≠qB)) b (Cc.jO (Cc.iL e c) (λa=>an.map λd=>c d a) first a (N-a))=bm) N ⟨0,pre,rv,nv,G,qZ,rfl,cH _,am,aE,a7,Kq.refl _ _ _ _ _,bh,aZ _,bb⟩ ?_);rintro al J ao ⟨a,b,dA,dz,g,h,rfl,bP,C,aF,E,u,B,bQ,p⟩;have⟨a5,a8⟩:=a4 _ _ _ u;have bT:=u.size;rw[kw C.size aF];have ab:=λs t=>C.slot s (v s) (Bx s t);refine jo (eH ?_ (b_ ao a N j (by omega) ((ab 14 (by decide)).trans aU) (C.slot 22 _ Y) a8));rintro r aA ar ⟨rfl,a9,q,Z⟩;rw[C.slot 22 _ Y,Am ab] at q;rcases a9 with⟨ae,rfl⟩|⟨bx,rfl⟩;rotate_left;obtain rfl:a=N:=aa;rw[Nat.sub_self] at p;exact av ⟨rfl,⟨b,dA,dz,g,h,E,u,B,bq p⟩,⟨_,q⟩,Z⟩;have⟨bz,bK⟩:=B.len;have bi:Cc.jO (Cc.iL e c) (λa=>an.map λd=>c d a) first a (N-a)=if Cc.iL e c a then(first+a,an.map λd=>c d a)::Cc.jO (Cc.iL e c) (λa=>an.map λd=>c d a) first (a+1) (N-(a+1)) else Cc.jO (Cc.iL e c) (λa=>an.map λd=>c d a) first (a+1) (N-(a+1)):=by
  rw[show N-a=(N-(a+1))+1 by omega];rfl
 rw[bi] at p;have bc:=uU (bE E.nt);show ja _ _ _ aA _;rw[kw q.size Z];have o:=λs t=>q.slot s (v s) (Bx s t);refine jo (wp_block (eH ?_ (j_ ar an e c n k i dA dz M qB g h first a N V m O cb bC bF ro rb bL bD ((o 1 az).trans aI) ((o 2 az).trans a2) ((o 4 az).trans a3) ((o 10 az).trans aQ) ((o 11 az).trans aR) ((o 15 az).trans a0) ((o 17 az).trans a1) (q.slot 22 _ Y) a5 ae (a6 a ae) ba bj E aa aa aa aa bd)));rintro r X W (⟨rfl,A,ad,f,z⟩|⟨rfl,A,be,⟨bo,T,R,P,Q⟩,f,z⟩|⟨rfl,A,be,⟨bo,H,T,R,P,Q,rfl⟩,f,z⟩);rw[q.slot 22 _ Y,Am o] at f;rw[A,if_neg az] at p;have L:=λs t=>f.slot s (v s) (Bx s t);show ja _ _ _ X _;rw[kw f.size z];refine eH ?_ (Mt W a (by omega) (f.slot 22 _ Y));rintro r aD H ⟨rfl,rfl,x,K⟩;rw[Am L] at x;exact⟨N-(a+1),aa,a+1,b,dA,dz,g,h,rfl,aa,x,K,E.below ad,u.acJ ad bc,B,aa,p⟩;rw[q.slot 22 _ Y,Am o] at f;rw[A,if_pos Y,Cc.A2,if_pos bS] at p;have L:=λs t=>f.slot s (v s) (Bx s t);show ja _ _ _ X _;rw[kw f.size z];refine eH ?_ (Mt W a (by omega) (f.slot 22 _ Y));rintro r aD H ⟨rfl,rfl,x,K⟩;rw[Am L] at x;exact⟨N-(a+1),aa,a+1,b++[(first+a,an.map λd=>c d a)],T,R,_,_,rfl,aa,x,K,P,u.trans Q,B.snoc,by simp;omega,p⟩;rw[o 10 az] at f;rw[A,if_pos Y,Cc.A2,if_neg bS] at p;exact ai ⟨rfl,⟨b++[(first+a,an.map λd=>c d a)],H,T,R,_,_,P,u.trans Q,B.snoc,bq p,rfl⟩,f,z⟩
def Db (fn:cF):cQ:=match jv fn with|aS a _=>a|_=>ey
def Dc (fn:cF):cQ:=match jv fn with|aS _ (aS a _)=>a|_=>ey
def Dd (fn:cF):cQ:=match jv fn with|aS _ (aS _ (aS a _))=>a|_=>ey
def De (fn:cF):cQ:=match jv fn with|aS _ (aS _ (aS _ (aS a _)))=>a|_=>ey
def C7 (fn:cF):cQ:=match jv fn with|aS _ (aS _ (aS _ (aS _ (aS a _))))=>a|_=>ey
def C8 (fn:cF):cQ:=match jv fn with|aS _ (aS _ (aS _ (aS _ (aS _ (aS a _)))))=>a|_=>ey
def C9 (fn:cF):cQ:=match jv fn with|aS _ (aS _ (aS _ (aS _ (aS _ (aS _ (aS a _))))))=>a|_=>ey
abbrev rG(v:Nat->F):List (Nat×F):=[(0,v 0),(1,v 1),(2,v 2),(3,v 3),(4,v 4),(10,v 10),(11,v 11),(13,v 13)]
def Z5(a:ag)(v:Nat->F)(d c b e m N:Nat)(j i:Nat)(g:v 0=(aK d))(h:v 13=n9 b)(s:bl a d 2 (aG c e m))(t:b<e)(u:e<=100000)(q:bl a c (b*2) (n9 N))(r:bl a c (b*2+1) (ah O j i)):
 (Db cV).wp (aH ax) (λn f l=>n=cX/\l=cG a (aq #[n9 N,ah O j i] 122)/\Cc.Knows f 166 ((14,(aK (U a.heap)))::(12,v 12)::rG v)/\bU f=[]) (e8 v) a:=by
 have k:X (v 0=(aK d)/\v 13=n9 b):=⟨g,h⟩;unfold e8;rw[g,h];unfold Db jv cV;dsimp only;go_wp2_with fail;have⟨o,p⟩:=k.o;exact(((((((((iP Y (by exact bq p)).cons Y).cons Y).cons Y).cons Y).cons Y).cons Y).cons (by exact bq o)).cons Y).cons Y
def Z6(a:ag){v:Nat->F}:
 (Dc cV).wp (aH ax) (λd b c=>d=cX/\c=a/\Cc.Knows b 166 ((15,v 12)::(14,v 14)::(12,v 12)::rG v)/\bU b=[]) (e8 v) a:=by
 unfold e8 Dc jv cV;dsimp only;go_wp2_with fail;exact((((((((((iP Y Y).cons Y).cons Y).cons Y).cons Y).cons Y).cons Y).cons Y).cons Y).cons Y).cons Y
def Z7(a:ag){v:Nat->F}(d N b:Nat)(j:b+N<=100000)(g:v 12=n9 b)(h:v 14=(aK d))(i:bl a d 0 (n9 N)):
 (Dd cV).wp (aH ax) (λf c e=>f=cX/\e=a/\Cc.Knows c 166 ((12,z9 ((b+N:Nat):Int))::(15,v 15)::(14,v 14)::rG v)/\bU c=[]) (e8 v) a:=by
 unfold e8;rw[g,h];unfold Dd jv cV;dsimp only;go_wp2_with fail;exact((((((((((iP Y Y).cons Y).cons Y).cons Y).cons Y).cons Y).cons Y).cons Y).cons Y).cons Y).cons (by first|rfl|(show aJ _ _=_;congr 1;omega))
def Z8(c:ag){v:Nat->F}(sk:Bool)(b:List bH)(iy:Int->fu)(N d o n y:Nat)(ro:Option aL)(rb bL bD:Nat)(i:v 2=ah ro (I b) bD)(j:v 3=ak sk)(h:v 14=(aK d))(J:bl c d 0 (n9 N))(K:bl c d 1 (aG o n y))
 (G:I b<=aV) (e:dJ c ro rb bL b) (w:∀a∈b,xu c o n a.col (iy a.col)) (x:∀a∈b,((iy a.col).bT.least.s.size<=aV/\(iy a.col).bT.most.s.size<=aV)/\a.low.s.size<=aV/\a.high.s.size<=aV):
 (De cV).wp (aH ax) (λt r A=>t=cX/\aD c A/\Cc.Knows r 166 ((16,ak (sk&&b.any λa=>jN (iy a.col).bT a))::(12,v 12)::(15,v 15)::(14,v 14)::rG v)/\bU r=[]) (e8 v) c:=by
 have q:X (v 2=ah ro (I b) bD/\v 3=ak sk/\v 14=(aK d)):=⟨i,j,h⟩;have p:=aaC b iy (N:Int) o n y ro rb bL bD c G e w x;unfold e8;rw[i,j,h];unfold De jv cV;dsimp only;clear i j h e w x;cases sk
 .clear p;go_wp2_with fail;have⟨f,g,C⟩:=q.o;exact⟨bN _ _,(((((((((((iP Y Y).cons Y).cons Y).cons Y).cons (by exact bq g)).cons (by exact bq f)).cons Y).cons Y).cons Y).cons Y).cons Y).cons Y⟩
 go_wp2_with (go_at_call 49;refine bG p ?_;rintro t H ⟨s,rfl,k,u⟩;have z:X (s=(b.any λa=>jN (iy a.col).bT a)/\aD c H):=⟨by
  cases s;exact bq (List.any_eq_false.2 λa e=>by
   obtain⟨m,l,rfl⟩:=m9 e;rw[k.1 Y m l];decide)
  cases E:(b.any λa=>jN (iy a.col).bT a);have:=k.2 λm l=>by
   have:=List.any_eq_false.1 E b[m] (dm l);simpa using this
  cases this;rfl,u⟩;clear k u)
 have⟨f,g,C⟩:=q.o;have⟨B,D⟩:=z.o;subst B;exact⟨D,(((((((((((iP Y Y).cons Y).cons Y).cons Y).cons (by exact bq g)).cons (by exact bq f)).cons Y).cons Y).cons Y).cons Y).cons Y).cons Y⟩
def ZX(a:ag){v:Nat->F}(e:v 16=ak qW):
 (C7 cV).wp (aH ax) (λc b d=>d=a/\((qW=af/\c= .exit 1)\/(qW=aj/\c=cX))/\Cc.Knows b 166 ((12,v 12)::(15,v 15)::(14,v 14)::rG v)/\bU b=[]) (e8 v) a:=by
 unfold e8;rw[e];unfold C7 jv cV;dsimp only;cases qW
 all_goals
  go_wp2_with fail;exact((((((((((iP Y Y).cons Y).cons Y).cons Y).cons Y).cons Y).cons Y).cons Y).cons Y).cons Y).cons Y
def Td.PW{rv nv:F}{b:List (List aC×F)}(h:Td w n m k rv nv M b qZ)(c:Int):Td (aY w ⟨m,3,Z⟩ (z9 c)) n m k rv nv c b qZ:=by
 have⟨g,a,e⟩:=h.lt;exact⟨aB (ei _ _ _ _ e) h.nt,ek w m 3 _ _ _ h.box,pX h.rows a,λf d=>pX (h.each f d) a,h.apart,pX h.fL a,h.lt⟩
def ZY{v:Nat->F}(a b:Nat)(h:b<=1000000)(d:v 11=(aK a))(g:w.heap[a]? =K (aq #[x,y,z,n9 b] 84 (0,0))):
 (C8 cV).wp (aH ax) (λf c e=>f=cX/\e=aY w ⟨a,3,Z⟩ (z9 ((b+1:Nat):Int))/\Cc.Knows c 166 ((12,v 12)::(15,v 15)::(14,v 14)::rG v)/\bU c=[]) (e8 v) w:=by
 have⟨⟨i,j,k,l⟩,m⟩:=mU g;unfold e8;rw[d];unfold C8 jv cV;dsimp only;go_wp2_with fail;exact((((((((((iP Y Y).cons (by exact bq d)).cons Y).cons Y).cons Y).cons Y).cons Y).cons Y).cons Y).cons Y).cons Y
def ZZ(a:ag){v:Nat->F}(g z b j:Nat)(H:b<=1000)(h:v 0=(aK g))(G:bl a g 0 (aG z b j)):
 (C9 cV).wp (aH ax) (λl f e=>l=cX/\aD a e/\(∃c:Array F,e.heap[U a.heap]? =K (aq c 43 (0,0))/\U c=b)/\Cc.Knows f 166 ((17,aG (U a.heap) b b)::(12,v 12)::(15,v 15)::(14,v 14)::rG v)/\bU f=[]) (e8 v) a:=by
 have⟨y,s,u,w,x⟩:=eW aE.Ki;unfold e8;rw[h];unfold C9 jv cV;dsimp only
 skip
 go_wp2_with (at_make;refine wpList_make_full _ Y _ _ 26 Y (U a.heap) 43 y _ 1 aE.underlying26 s u w aM aM _ _ b Y Y (by first|omega|(push_cast;omega)) (by first|omega|(push_cast;omega)) (jC x) fW (aZ _) ?_;intro i t r);have p:aD a i:=jy (bN _ _) r (aZ _) aI;have q:∃c:Array F,cq i (U a.heap) c 43/\U c=b:=by
  rcases t.2 with⟨d,m⟩|⟨B,A,k,d,m,n,C,D,o,E⟩;simp at d;simp only[j9,iG,nM,and_true,true_and] at d;obtain⟨rfl,rfl⟩:=d;exact⟨k,n,cN o⟩
 exact⟨p,q,(((((((((((iP Y Y).cons Y).cons Y).cons Y).cons Y).cons Y).cons Y).cons (by exact bq h)).cons Y).cons Y).cons Y).cons Y⟩
def Ak{v:Nat->F}(b:Cc.Knows Q 166 H)(h:∀s∈[0,1,2,3,4,10,11,13],H.lookup s=K (v s)):rG (Cc.cx Q)=rG v:=by
 have a:=λs c=>b.slot s (v s) (h s c);unfold rG;rw[a 0 az,a 1 az,a 2 az,a 3 az,a 4 az,a 10 az,a 11 az,a 13 az]
theorem sH{v:Nat->F}:∀(b:List (Nat×F)),(∀c∈b,c.1=12\/14<=c.1)->∀s∈[0,1,2,3,4,10,11,13],(b++rG v).lookup s=K (v s)
 | [],_,s,a=>by
  simp only[gy,kZ,or_false] at a;rcases a with rfl|rfl|rfl|rfl|rfl|rfl|rfl|rfl<;>rfl
 |x::b,d,s,a=>by
  have g:=d x (by simp);have e:(s==x.1)=aj:=by
   simp only[gy,kZ,or_false] at a;simp;omega
  rw[tV,vY,e];exact sH b (λc f=>d c (by simp[f])) s a
structure Hd(W W':ag)(g0 g1 bse9 g vb n N pb cp:Nat)(rv nv:F)(nb:Int)(L:List (List aC×F))(ns:List Int):Prop where
 td:Td W' g0 g1 bse9 rv nv nb L ns
 box:W'.heap[g]? =K (aq #[n9 N,aG pb n cp] 122 (0,0))
 arr:∃arr:Array F,W'.heap[vb]? =K (aq arr 43 (0,0))/\U arr=n
 keep:∀b,b<U W.heap->b≠g1->W'.heap[b]? =W.heap[b]?
 lt:g=U W.heap/\g<vb/\U W.heap<=U W'.heap
 below:dZ g0 W W'
def c_{J:Exit->bt->ag->Prop}{rest:cQ}(a:ag){v:Nat->F}(sk:Bool)(h:List bH)(iy:Int->fu)(n ad D d O H gI A N o m r E g an B:Nat)(rn rv nv:F)(al:List (List aC×F))(a2:List Int)(ro:Option aL)(rb bL bD:Nat)
 (aA:v 0=(aK n)) (u:v 2=ah ro (I h) bD) (bv:v 3=ak sk) (br:v 11=(aK g)) (bs:v 12=n9 r) (bu:v 13=n9 A)
 (V:a.heap[n]? =K (aq #[aG ad d O,x,aG D H gI,rn] 113 (0,0))) (bS:n≠g) (b2:A<H) (b6:H<=100000) (b4:d<=1000) (bW:r+N<=100000) (b5:B<=1000000)
 (bF:bl a D (A*2) (n9 N)) (bK:bl a D (A*2+1) (aG o d m)) (b3:I h<=aV) (W:dJ a ro rb bL h) (bM:∀c∈h,xu a o d c.col (iy c.col)) (b8:∀c∈h,((iy c.col).bT.least.s.size<=aV/\(iy c.col).bT.most.s.size<=aV)/\c.low.s.size<=aV/\c.high.s.size<=aV)
 (Q:Td a E g an rv nv (B:Int) al a2) (b0:E<=g)
 (b7:∀l t,(sk&&h.any λc=>jN (iy c.col).bT c)=af->aD a t->Cc.Knows l 166 ((12,z9 ((r+N:Nat):Int))::rG v)->bU l=[]->J (.exit 1) l t)
 (b1:∀l t aw a3,(sk&&h.any λc=>jN (iy c.col).bT c)=aj->Hd a t E g an aw a3 d N o m rv nv ((B+1:Nat):Int) al a2->Cc.Knows l 166 ((17,aG a3 d d)::(12,z9 ((r+N:Nat):Int))::(15,n9 r)::(14,(aK aw))::rG v)->bU l=[]->rest.wp (aH ax) J l t):
 (aS (Db cV) (aS (Dc cV) (aS (Dd cV) (aS (De cV) (aS (C7 cV) (aS (C8 cV) (aS (C9 cV) rest))))))).wp (aH ax) J (e8 v) a:=by
 have bQ:=(mU V).1.2.2.1;refine jo (eH ?_ (Z5 a v n D A H gI N d m aA bu bQ b2 b6 bF bK));rintro q a7 L ⟨rfl,aQ,C,bd⟩;have w:aD a L:=by rw[aQ];exact pE (bN _ _) (aZ _) _
 have X:cq L (U a.heap) #[n9 N,aG o d m] 122:=bV aQ (mi _ _);show ja _ _ _ a7 _;rw[kw C.size bd];refine jo (eH ?_ (Z6 L));rintro q a8 M ⟨rfl,rfl,i,be⟩;rw[(Ak C (sH [(14,_),(12,_)] aI)),C.slot 12 _ Y,C.slot 14 _ Y,bs] at i;have ab:ap M ⟨U a.heap,0,Z⟩=K (n9 N)/\ap M ⟨U a.heap,1,Z⟩=K (aG o d m):=by unfold ap;rw[X];exact⟨rfl,rfl⟩
 show ja _ _ _ a8 _;rw[kw i.size be];refine jo (eH ?_ (Z7 M (U a.heap) N r bW (i.slot 12 _ Y) (i.slot 14 _ Y) ab.1));rintro q a9 a4 ⟨rfl,rfl,f,bh⟩;rw[(Ak i (sH [(15,_),(14,_),(12,_)] aI)),i.slot 15 _ Y,i.slot 14 _ Y] at f;have ar:=λs z=>f.slot s (v s) (sH [(12,_),(15,_),(14,_)] aI s z);show ja _ _ _ a9 _;rw[kw f.size bh];refine jo (eH ?_ (Z8 a4 sk h iy N (U a.heap) o d m ro rb bL bD ((ar 2 az).trans u) ((ar 3 az).trans bv) (f.slot 14 _ Y) ab.1 ab.2 b3 (W.below w) (λc W=>(bM c W).below w) b8));rintro q ba a5 ⟨rfl,T,j,bi⟩;rw[(Ak f (sH [(12,_),(15,_),(14,_)] aI)),f.slot 12 _ Y,f.slot 15 _ Y,f.slot 14 _ Y] at j;show ja _ _ _ ba _;rw[kw j.size bi];refine jo (eH ?_ (ZX a5 (j.slot 16 _ Y)));rintro q am cc ⟨rfl,bC,b,ao⟩;rw[(Ak j (sH [(16,_),(12,_),(15,_),(14,_)] aI)),j.slot 12 _ Y,j.slot 15 _ Y,j.slot 14 _ Y] at b;have S:=w.trans (T.mono w.size);rcases bC with⟨R,rfl⟩|⟨R,rfl⟩;exact b7 am _ R S ((((((((((iP b.size (b.slot 13 _ Y)).cons (b.slot 11 _ Y)).cons (b.slot 10 _ Y)).cons (b.slot 4 _ Y)).cons (b.slot 3 _ Y)).cons (b.slot 2 _ Y)).cons (b.slot 1 _ Y)).cons (b.slot 0 _ Y)).cons (b.slot 12 _ Y))) ao;have bm:=λs z=>b.slot s (v s) (sH [(12,_),(15,_),(14,_)] aI s z);have aE:=(Q.below w).below T;have cd:=bE Q.box;have aR:=uU (bE Q.nt);have ca:=(cT T _ (bE X)).trans X;show ja _ _ _ am _;rw[kw b.size ao];refine jo (eH ?_ (ZY g B b5 ((bm 11 (by decide)).trans br) aE.box));rintro q bb p ⟨rfl,G,k,bj⟩;rw[(Ak b (sH [(12,_),(15,_),(14,_)] aI)),b.slot 12 _ Y,b.slot 15 _ Y,b.slot 14 _ Y] at k;have aF:=aE.PW ((B+1:Nat):Int);rw[<-G] at aF;have aU:∀e,e<U a.heap->e≠g->p.heap[e]? =a.heap[e]? :=λe P u=>by rw[G];exact(ei _ _ _ _ u).trans (cT S e P)
 have a1:cq p (U a.heap) #[n9 N,aG o d m] 122:=by rw[G];exact(ei _ _ _ _ (by show U a.heap≠g;omega)).trans ca
 have bz:dZ E a p:=by rw[G];exact ku (S.mono aR) aR b0
 have bP:bl p n 0 (aG ad d O):=(mU ((aU n (bE V) bS).trans V)).1.1;have a0:=bE a1;have bo:=λs z=>k.slot s (v s) (sH [(12,_),(15,_),(14,_)] aI s z);show ja _ _ _ bb _;rw[kw k.size bj];refine jo (eH ?_ (ZZ p n ad d O b4 ((bo 0 (by decide)).trans aA) bP));rintro q bc a6 ⟨rfl,y,bx,ae,bk⟩;rw[(Ak k (sH [(12,_),(15,_),(14,_)] aI)),k.slot 12 _ Y,k.slot 15 _ Y,k.slot 14 _ Y] at ae;have cf:=y.size;exact b1 bc a6 (U a.heap) (U p.heap) R ⟨aF.below y,(cT y _ a0).trans a1,bx,λe P u=>(cT y e aa).trans (aU e P u),⟨rfl,a0,aa⟩,bz.trans (y.mono aa)⟩ ae bk
def Wz{f m N b g:Nat}{a:List aC}(e:w.heap[f]? =K (aq C 43 (0,0)))(r:VG w g C N b a)(u:b<m){p:Nat}(t:p<N):mD w f m (b:Int) p (aW a p ⟨aj,0,⟨#[]⟩⟩):=by
 have⟨x,o,v,q⟩:=r;obtain⟨n,k,rfl,_,s,c⟩:=Cc.kz q aa;have d:p<I a:=aa;have⟨h,i,j⟩:=tJ a p d;have l:aW a p ⟨aj,0,⟨#[]⟩⟩=a[p]:=by rw[ep,dV d];rfl
 rw[l];exact⟨b,n,N,k,rfl,u,bE e,by unfold ap;rw[e];exact o,t,s,c _ _ h,c _ _ i,c _ _ j⟩
def VG.kq{rv nv dA dz:F}{j:List (List aC×F)}{N g:Nat}{f:List aC}(h:VG w i C N g f)(d:Td w n m k rv nv M j qZ)(t:Kq w u n m rv nv dA dz):VG u i C N g f:=by
 have⟨x,p,q,e⟩:=h;refine⟨x,p,q,e.1,?_⟩;rcases e.2 with r|⟨c,l,o,rfl,s,b,v⟩;exact av r;have a:u.heap[c]? =w.heap[c]? :=t.keep c (bE b) (λa=>by rw[a,d.box] at b;cases b) (λa=>dS d.rows b az (bq a)) (λa=>dS d.fL b az (bq a));exact ai ⟨c,l,o,rfl,s,aB a b,v⟩
def Td.kp{rv nv:F}{d:List (List aC×F)}(h:Td w n m k rv nv M d qZ)(b:Kp i w u)(c:w.heap[i]? =K (aq C 43 (0,0)))(g:bI rv≠K i):Td u n m k rv nv M d qZ:=
 ⟨Kp.block b h.nt (λa=>by have:=h.nt;rw[a,c] at this;cases this),Kp.block b h.box (λa=>by have:=h.box;rw[a,c] at this;cases this),fI h.rows b (ai g),λf e=>fI (h.each f e) b (ai λa=>dS (h.each f e) c az (bq a)),h.apart,fI h.fL b (ai λa=>dS h.fL c az (bq a)),h.lt⟩
def Zc{j m v c d N cb bC rb bL:Nat}{rv nv:F}{u:List (List aC×F)}{V:Nat->List aC}{e:List bH}{q ro:Option aL}(n:Td w j m v rv nv M u qZ)(o:w.heap[c]? =K (aq C 43 (0,0)))(O:bI rv≠K c)(D:c≠m)
 (x:∀k:Nat,k<d->jA (k:Int) an e=af->VG w (c+1) C N k (V k)) (B:∀a∈an,0<=a/\a<(d:Int)) (P:∀h∈e,0<=h.col/\h.col<(d:Int)) (z:0<I an->q=K ⟨cb,bC,Z⟩) (r:0<I an->cb<j) (A:∀g,g<I an->bl w cb (bC+g) (z9 (aW an g 0))) (H:dJ w ro rb bL e) (J:0<I e->rb<j):
 ∀i dA dz,Kq w i j m rv nv dA dz->Cc.xE i an e q cb bC ro rb bL c d N (λa p=>aW (V (bO a)) p ⟨aj,0,⟨#[]⟩⟩):=by
 intro i dA dz f;have R:=bE n.nt;have Q:=f.size;have l:i.heap[c]? =w.heap[c]? :=f.keep c (bE o) D O (λl=>dS n.fL o az (bq l));refine⟨z,λb=>by have:=r b;omega,λg E=>?_,H.kept Q (λb=>cT f.below rb (J b)),λp L a s=>?_⟩;have y:=cT f.below cb (r aa);unfold ap;rw[y];exact A g E;have t:0<=a/\a<(d:Int):=by
  rcases s with b|⟨h,b,rfl⟩;exact B a b;exact P h b
 have G:jA ((bO a:Nat):Int) an e=af:=by
  rw[Int.toNat_of_nonneg t.1];unfold jA;rw[xx];refine⟨a,?_,aI⟩;rcases s with b|⟨h,b,rfl⟩;exact List.mem_append_left _ b;exact List.mem_append_right _ (List.mem_map_of_mem b)
 have:=Wz (p:=p) (aB l o) ((x (bO a) aa G).kq n f) (aa:bO a<d) L;rw[Int.toNat_of_nonneg t.1] at this;exact this
def ZS{v:Nat->F}:∀s∈[0,1,2,3,4,10,11,12,13,14,15,17],(kC v).lookup s=K (v s):=by
 intro s a;simp only[gy,kZ,or_false] at a;rcases a with rfl|rfl|rfl|rfl|rfl|rfl|rfl|rfl|rfl|rfl|rfl|rfl<;>rfl
def Da (fn:cF):cQ:=match fn.body with|some (aS _ (aS _ (aS _ (aS (aS _ (fT _ (.loop (aS a _)))) _))))=>a|_=>ey
def Bw (fn:cF):cQ:=match fn.body with|some (aS _ (aS _ (aS _ (aS (aS _ (fT _ (.loop (aS _ (aS _ a))))) _))))=>a|_=>ey
def GI (fn:cF):cQ:=match fn.body with|some (aS _ (aS _ (aS _ (aS (aS a _) _))))=>a|_=>ey
abbrev Dg(v:Nat->F):List (Nat×F):=[(0,v 0),(1,v 1),(2,v 2),(3,v 3),(4,v 4),(10,v 10),(11,v 11),(12,v 12)]
def Z3(c:ag){v:Nat->F}(g m a b j:Nat)(i:Option aL)(d:v 0=(aK g))(k:v 13=n9 a)(o:bl c g 2 (ah i b j))(p:a<=100000):
 (Da cV).wp (aH ax) (λf e h=>h=c/\((a<b/\f=cX)\/(b<=a/\f= .exit 0))/\Cc.Knows e 166 ((13,v 13)::Dg v)/\bU e=[]) (e8 v) c:=by
 unfold e8;rw[d,k];unfold Da cV;dsimp only;by_cases n:a<b;have l:(a:Int)<(b:Int):=aa;go_wp2_with fail;exact((((((((iP Y Y).cons Y).cons Y).cons Y).cons Y).cons Y).cons Y).cons (by exact bq d)).cons Y;have l:¬(a:Int)<(b:Int):=aa;go_wp2_with fail;exact⟨aa,((((((((iP Y Y).cons Y).cons Y).cons Y).cons Y).cons Y).cons Y).cons (by exact bq d)).cons Y⟩
def Z4{v:Nat->F}(e:n<=100000)(d:v 13=n9 n):
 (Bw cV).wp (aH ax) (λc a b=>c=cX/\b=w/\Cc.Knows a 166 ((13,z9 ((n+1:Nat):Int))::Dg v)/\bU a=[]) (e8 v) w:=by
 unfold e8;rw[d];unfold Bw cV;dsimp only;go_wp2_with fail;exact((((((((iP Y Y).cons Y).cons Y).cons Y).cons Y).cons Y).cons Y).cons Y).cons (by first|rfl|(show aJ _ _=_;congr 1;omega))
def Z1{v:Nat->F}:
 (GI cV).wp (aH ax) (λc a b=>c=cX/\b=w/\Cc.Knows a 166 ((13,z9 0)::Dg v)/\bU a=[]) (e8 v) w:=by
 unfold e8 GI cV;dsimp only;go_wp2_with fail;exact((((((((iP Y Y).cons Y).cons Y).cons Y).cons Y).cons Y).cons Y).cons Y).cons Y
open Cc (gK kK hY pW uC rowsOf k8 ir FQ)
structure DM(W:ag)(g0:Nat)(l:List (bx×Int))(bs:List Bd)(an:List Int)(rs:List bH)(fb kb ck eb ce:Nat)(bo:Option aL)(bk gI:Nat)(pb pc:Nat->Nat)(rn:F)(co:Option aL)(cb bC:Nat)(ro:Option aL)(rb bL:Nat):Prop where
 file:W.heap[fb]? =K (aq #[aG kb (I l) ck,aG eb (I l) ce,ah bo (I bs) gI,rn] 113 (0,0))
 k:∀j (h:j<I l),ap W ⟨kb,j*2+1,Z⟩=K (z9 l[j].1.kind)/\ap W ⟨eb,j,Z⟩=K (z9 l[j].2)
 d:∀(i:Nat) b,bs[i]? =K b->bo=K ⟨bk,0,Z⟩/\ap W ⟨bk,i*2,Z⟩=K (n9 b.rows)/\ap W ⟨bk,i*2+1,Z⟩=K (ah (K ⟨pb i,0,Z⟩) (I l) (pc i))
 p:∀(i:Nat) b,bs[i]? =K b->∀(j:Nat) x,b.chunks[j]? =K x->∀(t:Nat) u,(eO ⟨bg x.text,x.bT,x.text⟩)[t]? =K u->ap W ⟨pb i,j*9+t,Z⟩=K u
 lt:fb<g0/\kb<g0/\eb<g0/\cb<g0/\rb<g0
 lb:∀(i:Nat),i<I bs->bk<g0/\pb i<g0
 ca:0<I an->co=K ⟨cb,bC,Z⟩
 cc:∀j,j<I an->ap W ⟨cb,bC+j,Z⟩=K (z9 (aW an j 0))
 nr:dJ W ro rb bL rs
section
variable{J:ag}{l:List (bx×Int)}{bs:List Bd}{an:List Int}{rs:List bH}{kb ck eb ce:Nat}{bk gI:Nat}{pb pc:Nat->Nat}{rn:F}{cb bC:Nat}{ro:Option aL}{rb bL:Nat}{V:Nat->Nat->List aC}
def DM.below(h:DM W g0 l bs an rs fb kb ck eb ce bo bk gI pb pc rn co cb bC ro rb bL)(f:dZ g0 W J):DM J g0 l bs an rs fb kb ck eb ce bo bk gI pb pc rn co cb bC ro rb bL:=by
 have⟨k,m,n,o,p⟩:=h.lt;have d:=λa q (h:a<g0)=>bA f (p:=⟨a,q,Z⟩) h;exact⟨aB (cT f fb k) h.file,λe g=>⟨aB (d _ _ m) (h.k e g).1,aB (d _ _ n) (h.k e g).2⟩,λc a b=>⟨(h.d c a b).1,aB (d _ _ (h.lb c (fF.1 b).1).1) (h.d c a b).2.1,aB (d _ _ (h.lb c (fF.1 b).1).1) (h.d c a b).2.2⟩,λc a b e t j r s i=>aB (d _ _ (h.lb c (fF.1 b).1).2) (h.p c a b e t j r s i),h.lt,h.lb,h.ca,λe g=>aB (d _ _ o) (h.cc e g),h.nr.kept f.size λ_=>cT f rb p⟩
def DM.Vy(h:DM W g0 l bs an rs fb kb ck eb ce bo bk gI pb pc rn co cb bC ro rb bL)(i:FQ l bs an rs V)(u:g0<=U W.heap){a:Bd}(e:bs[n]? =K a):∀c∈rs,xu W (pb n) (I l) c.col ⟨(aW a.chunks (bO c.col) ir).text.size,(aW a.chunks (bO c.col) ir).bT,(aW a.chunks (bO c.col) ir).text⟩:=by
 intro c o;obtain⟨j,s⟩:=i.rk c o;obtain⟨d,f⟩:=uR j;have t:=i.len a (oP e);have m:d<I a.chunks:=by omega
 have g:a.chunks[d]? =K a.chunks[d]:=dV m;have k:aW a.chunks (bO c.col) ir=a.chunks[d]:=by rw[f,ep];simp[g]
 rw[k];have b:=λq r p=>h.p n a e d _ g q r p;have v:=(h.lb n (fF.1 e).1).2;exact⟨d,f,by omega,by omega,b 0 _ Y,b 1 _ Y,b 2 _ Y,b 3 _ Y,b 4 _ Y,b 5 _ Y,b 6 _ Y,b 7 _ Y,b 8 _ Y⟩
end
def F5{bs:List Bd}{an:List Int}{rs:List bH}{V:Nat->Nat->List aC}:hY bs (dy n (an++rs.map bH.col)) V m=af↔∀a:Nat,a<n->jA (a:Int) an rs=af->I (V m a)=rowsOf bs m:=by
 have f:I (dy n (an++rs.map bH.col))=n:=by simp[dy]
 have e:∀a,a<n->aW (dy n (an++rs.map bH.col)) a aj=jA (a:Int) an rs:=λa b=>by
  unfold dy jA;rw[ep,s5,List.getElem?_range b];rfl
 unfold hY;rw[fA,f];constructor;intro c a b d;have:=c a (nP.2 b);rw[e a b,d] at this;simpa using this;intro c a b;have b:=nP.1 b;rw[e a b];cases d:jA (a:Int) an rs;rfl;simpa using c a b d
abbrev Mm(v:Nat->F):List (Nat×F):=[(0,v 0),(1,v 1),(2,v 2),(3,v 3),(4,v 4),(10,v 10),(11,v 11)]
abbrev Aj(v:Nat->F)(a f:Nat):List (Nat×F):=(13,aJ aM (a:Int))::(12,aJ aM (f:Int))::Mm v
def Df{v:Nat->F}{a f:Nat}(d:U Q.tmps=166)(h:∀s∈[0,1,2,3,4,10,11],Cc.cx Q s=v s)(b:Cc.cx Q 12=n9 f)(c:Cc.cx Q 13=n9 a):Cc.Knows Q 166 (Aj v a f):=
 ((((((((iP d (h 11 az)).cons (h 10 az)).cons (h 4 az)).cons (h 3 az)).cons (h 2 az)).cons (h 1 az)).cons (h 0 az)).cons b).cons c
def Ml{v:Nat->F}{b f:Nat}:∀s∈[0,1,2,3,4,10,11],(Aj v b f).lookup s=K (v s):=by
 intro s a;simp only[gy,kZ,or_false] at a;rcases a with rfl|rfl|rfl|rfl|rfl|rfl|rfl<;>rfl
def GN{v:Nat->F}:∀s∈[0,1,2,3,4,10,11],((13,x)::Dg v).lookup s=K (v s):=by
 intro s a;simp only[gy,kZ,or_false] at a;rcases a with rfl|rfl|rfl|rfl|rfl|rfl|rfl<;>rfl
def Mq{d:Exit->bt->ag->Prop}{W:ag}{v:Nat->F}{k f:Nat}(m:k<=100000)(a:Cc.Knows Q 166 (Aj v k f))(i:bU Q=[])(h:∀c,Cc.Knows c 166 (Aj v (k+1) f)->bU c=[]->d cX c W):(Bw cV).wp (aH ax) d Q W:=by
 rw[kw a.size i];refine eH ?_ (Z4 m (a.slot 13 _ Y));rintro o g n ⟨rfl,rfl,b,j⟩;exact h g (Df b.size (λs e=>aB (b.slot s _ (GN s e)) (a.slot s _ (Ml s e))) (aB (b.slot 12 _ Y) (a.slot 12 _ Y)) (b.slot 13 _ Y)) j
def adw(a:List aC)(e:wu w O n m a)
 (i:w.heap[k]? =K (aq (cR (bM (dH (I a) zeroV))) 59 (0,0))):
 ∃h,(sV #[43,43] 3 #[aG k (I a) (I a),ah O (I a) cap]).run (aH ax) w=cm (n9 (I a)) h/\
  h.heap[k]? =K (aq (cR (bM a)) 59 (0,0))/\(∀n:Nat,n≠k->h.heap[n]? =w.heap[n]?)/\U h.heap=U w.heap:=by
 have⟨A,j,C,z,D⟩:=eW aE.mg;by_cases r:0<I a;obtain rfl:=e.addr r;have y:∀c v,(bM a)[c]? =K v->ap w ((⟨n,m,Z⟩:aL).add c)=K v:=by
  intro c v g;have B:c<I a*3:=by have:=(fF.1 g).1;rwa [yF] at this
  obtain⟨b,d,u⟩:∃b,b<I a/\(c=b*3\/c=b*3+1\/c=b*3+2):=⟨c/3,aa,aa⟩;have⟨o,p,q⟩:=tJ a b d;rw[kQ];rcases u with rfl|rfl|rfl;rw[<-g,o];exact e.c0 b d;rw[<-g,p,<-gH];exact e.c1 b d;rw[<-g,q,<-gH];exact e.c2 b d
 have l:Nat.min (I a) (I a)=I a:=Nat.min_self _;have f:=MO (P:=(aH ax)) w 43 43 3 59 k 0 (I a) (I a) ⟨n,m,Z⟩ (I a) cap 3 59 (bM a) A aE.underlying43 j z i (by rw[yF,l]) y (by simp[yF]) (adm a);rw[l] at f;have x:(bM (dH (I a) zeroV)).take 0++bM a++(bM (dH (I a) zeroV)).drop (0+I (bM a))=bM a:=by
  rw[List.take_zero,s6,fq,za (by simp[yF]),l5]
 simp only[List.toList_toArray] at f;rw[x] at f;exact⟨_,f,(setRow_heap w k _ (cR (bM a)) 59 _ i),λn t=>by simp[World.setRow,Array.getElem?_modify,Ne.symm t],by simp[World.setRow]⟩;have s:a=[]:=s4 aa;subst s;exact⟨w,MP (P:=(aH ax)) aE.underlying43 j (by simp),by simpa using i,λ_ _=>rfl,rfl⟩
def kA (fn:cF):cQ:=match fn.body with
 |some (aS _ (aS _ (aS _ (aS _ (aS (aS _ (fT _ (.rangeFunc _ _ _ a))) _)))))=>a
 |_=>ey
def lu (a:Nat->F):bt:=⟨#[a 0,a 1,a 2,a 3,a 4,a 5,a 6,a 7,a 8,a 9,a 10,a 11,a 12,a 13,a 14,a 15,a 16,a 17,a 18,a 19,a 20,a 21,a 22,a 23,a 24,a 25,a 26,a 27,a 28,a 29,a 30,a 31,a 32,a 33,a 34,a 35,a 36,a 37,a 38,a 39,a 40,a 41,a 42,a 43,a 44,a 45,a 46,a 47,a 48,a 49,a 50,a 51,a 52,a 53,a 54,a 55,a 56,a 57,a 58,a 59,a 60,a 61,a 62,a 63,a 64,a 65,a 66,a 67,a 68,a 69,a 70,a 71,a 72,a 73,a 74],[]⟩
def Fx(h:U Q.tmps=75)(c:bU Q=[]):Q=lu (λb=>cB Q.tmps b bR):=by
 show Q=⟨cR ((fp 75).map λb=>cB Q.tmps b bR),[]⟩;have⟨f,e⟩:=Q;simp only at h c;subst c;congr 1;apply vK;intro d;simp only[List.getElem?_toArray,s5,List.getElem?_range];rcases jc d 75 with a|a;simp[a,h];simp[h,Nat.not_lt.2 a,a]
def vH{b:Exit->bt->ag->Prop}{a:bt}(c:U a.tmps=75)(d:bU a=[])(h:Cc.Wr Qo QK b (lu λe=>cB a.tmps e bR) w):Cc.Wr Qo QK b a w:=by
 rw[Fx c d];exact h
def aE.Vn:((aH ax).info? 43).map (λa=>(jH a,a.size,jm a))=K (K aF,1,24):=aR
def aE.Vk:((aH ax).info? 3).map (λa=>(jH a,a.size,jm a))=K (K (z9 0),1,8):=aR
def uu (fn:cF):cQ:=match kA fn with
 |fT _ (aS _ a)=>a
 |_=>ey
def sG (fn:cF):cQ:=match fn.body with
 |some (aS _ (aS _ (aS _ (aS _ (aS (aS _ (fT _ (.rangeFunc _ _ a _))) _)))))=>a
 |_=>ey
def yM (b:ag)(i e f g c:Nat)(q p:Int)(t rv nv m:F)(d:List (List aC×F))(s:List Int)(h:List (F×Int))(r:Nat)(o:List aC)(v:F)(j:ag):Prop:=
 ∃dA dz n l k,iA j i e f g c q p t dA dz n (d++[(o,l)]) (s++[(r:Int)]) (h++k)/\I k=4/\(∀a:Nat,a<U b.heap->¬eK i e f g c rv nv m d h a->bI v≠K a->j.heap[a]? =b.heap[a]?)/\U b.heap<=U j.heap/\(∀a,eK i e f g c dA dz n (d++[(o,l)]) (h++k) a->eK i e f g c rv nv m d h a\/bI v=K a\/U b.heap<=a)/\(∀a,bI dA=K a->bI rv=K a\/U b.heap<=a)/\(∀a,bI dz=K a->bI nv=K a\/U b.heap<=a)/\∀a,bI l=K a->U b.heap<=a
def EP(d:ag)(y:Nat->F){A rv nv r:F}{c:List (List aC×F)}{o:List (F×Int)}{row:List aC}{Q:Exit->bt->ag->Prop}
 (an:iA d n m k i j M qB A rv nv r c qZ o) (cu:I qZ=I c) (hL:I c<2000) (dp:I o<=50000000000) (dr:nm<=1000000) (cM:I row<=1000)
 (cf:y 5=(aK m)) (ch:y 7=(aK i)) (ci:y 9=(aK n)) (cc:y 11=n9 nm) (cd:y 12=v)
 (be:aT d 0 59 3 v (I row) (bM row)) (aw:∀f,bI v=K f->¬eK n m k i j rv nv r c o f)
 (cp:∀g B,yM d n m k i j M qB A rv nv r c qZ o nm row v B->((I c+1:Nat):Int)≠M->Q cX g B) (cq:∀g B,yM d n m k i j M qB A rv nv r c qZ o nm row v B->((I c+1:Nat):Int)=M->Q (.exit 0) g B):
 Cc.Wr (aH ax) (uu dX) Q (lu y) d:=by
 have⟨db,cs,c4,c5,c6⟩:=eW aE.mg;have⟨da,cr,c7,c8,c9⟩:=eW aE.Vn;have⟨dc,q,c1,c2,c3⟩:=eW aE.Vk;unfold lu;rw[cf,ch,ci,cc,cd];clear cf ch ci cc cd;obtain⟨ro,bD,rfl⟩:=e9 an.rows;obtain⟨R,P,rfl⟩:=e9 an.fL;obtain⟨S,z,rfl⟩:=e9 be;have dq:I qZ<2000:=aa;clear cu;have T:=aA an;have ad:=aA be;clear an be;unfold uu kA dX;dsimp only;refine Cc.vI ?_;go_wp2_with (at_make;refine wpList_make_full _ Y _ _ 43 Y (U d.heap) 59 db _ 3 aE.underlying43 cs c4 c5 aM aM _ _ (I row) Y Y (by first|omega|(push_cast;omega)) (by first|omega|(push_cast;omega)) (by rw[c6];omega) fW (aZ _) ?_;intro cn bd a9;rw[W1] at bd;have bj:=aA (adj bd);clear bd);have ba:∀a:Nat,a<U d.heap->cn.heap[a]? =d.heap[a]? :=λa b=>a9.block a b aI;have cO:=a9.size;obtain⟨dk,dv,mP,dl,p,b5⟩:=je.gB (ix ad.o λa co b _=>ba a (bE b));simp only[j9,true_and] at p;obtain⟨rfl,rfl⟩:=p;obtain⟨u,cN,bT,b1,cW⟩:=adw row (cap:=z) b5 bj.o;have bb:∀a:Nat,a<U d.heap->u.heap[a]? =d.heap[a]? :=λa b=>aB (b1 a aa) (ba a b);have V:X (iA u n m k i j M qB A (ah ro (I c) bD) (ah R (I qZ) P) r c qZ o):=T.o.same (λa b=>bb a (T.o.lt b));have ds:U d.heap<=U u.heap:=aa;have bv:X (aT u 0 59 3 (aG (U d.heap) (I row) (I row)) (I row) (bM row)):=adx bT (by rw[yF]) (cH _) fW;have bk:=aA bb;have bx:X (∀f,bI (ah (K ⟨U d.heap,0,Z⟩) (I row) (I row))=K f->¬eK n m k i j (ah ro (I c) bD) (ah R (I qZ) P) r c o f):=λf t b=>by
  cases t;exact Nat.lt_irrefl _ (T.o.lt b)
 refine Cc.vI ?_;go_wp2_with fail;clear cN ba bb cO b5 bT b1 cW bj a9;obtain⟨⟨C,D,E,G⟩,⟨L,N,x⟩,fz⟩:=V.o.cells;refine Cc.vI ?_;go_wp2_with (at_builtin;refine wpList_append_lies _ Y _ _ 26 Y 0 43 da _ 1 24 aE.underlying26 cr c7 c8 c9 Y az _ (I c) _ Y (lE V.o.rows _) ⟨U u.heap,0,Z⟩ 1 1 [aG (U d.heap) (I row) (I row)] Y Y (y6 (iI u _)) (by intro dd O;simp at O;subst O;rfl) az fW aa aI _ rfl ?_;intro ae H a1 b3 bV bQ cv;have a7:=dx.mh (n:=I c+1) (cap:=H) bV bQ;obtain⟨bC,b8,de,ck⟩:=V.o.US a7 (x:=row) bv.o bx.o b3;have dg:=ck 1;have W:=aA bC;have aQ:=aA a7;have bm:=aA b8;clear bC ck b8 b3 bV bQ cv a7);have bl:X (∀a:Nat,a<U d.heap->¬eK n m k i j (ah ro (I c) bD) (ah R (I qZ) P) r c o a->(aY a1 ⟨n,1,Z⟩ (aG ae (I c+1) H)).heap[a]? =d.heap[a]?):=λa b q=>aB (bm.o a aa (λe=>q (av e)) (λe=>q (ai (ai (ai (ai (ai (av e)))))))) (bk.o a b);have dt:U u.heap<=(aY a1 ⟨n,1,Z⟩ (aG ae (I c+1) H)).heap.size:=by
  have:=aQ.o.dK.size;simpa using this
 have aD:=aA aQ.o.at_;clear aQ bm de dg C D E G L N x fz bv bx V bk;generalize aY a1 ⟨n,1,Z⟩ (aG ae (I c+1) H)=a2 at*;obtain⟨⟨C,D,E,G⟩,⟨L,N,x⟩,fz⟩:=W.o.cells;refine Cc.vI ?_;go_wp2_with (at_builtin;refine wpList_append_lies _ Y _ _ 22 Y 0 3 dc _ 1 8 aE.underlying22 q c1 c2 c3 Y az _ (I qZ) _ Y (lE W.o.fL _) ⟨U a2.heap,0,Z⟩ 1 1 [aJ aM (nm:Int)] Y Y (y6 (iI a2 _)) (by intro dd O;simp at O;subst O;rfl) az fW aa aI _ rfl ?_;intro al J a3 b4 bW bS cx;have a8:=dx.mh (n:=I qZ+1) (cap:=J) bW bS;obtain⟨bF,ca,df,cl⟩:=W.o.UR a8 (x:=(nm:Int)) (by rw[cJ,<-tq];exact b4);have di:=cl 2;have ab:=aA bF;have aR:=aA a8;have bo:=aA ca;clear bF cl ca b4 bW bS cx a8);have aU:X (∀a:Nat,a<U d.heap->¬eK n m k i j (ah ro (I c) bD) (ah R (I qZ) P) r c o a->(aY a3 ⟨n,2,Z⟩ (aG al (I qZ+1) J)).heap[a]? =d.heap[a]?):=λa b q=>aB (bo.o a aa (λe=>q (av e)) (λe=>q (ai (ai (ai (ai (ai (ai (av e))))))))) (bl.o a b q);have du:U a2.heap<=(aY a3 ⟨n,2,Z⟩ (aG al (I qZ+1) J)).heap.size:=by
  have:=aR.o.dK.size;simpa using this
 have aF:=aA aR.o.at_;clear aR bo df di C D E G L N x fz W bl;generalize aY a3 ⟨n,2,Z⟩ (aG al (I qZ+1) J)=bH at*;have b6:aT bH 0 59 3 (ah S (I row) z) (I row) (bM row):=ix ad.o λa co b bh=>aU.o a (bE b) (aw a bh);have c0:∀s∈c,∀f,bI (ah S (I row) z)=K f->bI s.2≠K f:=λs h f t ar=>aw f t (ai (ai (ai (ai (ai (ai (ai (ai (av ⟨s,h,ar⟩)))))))));have bz:X (∀s∈c++[(row,ah (K ⟨U d.heap,0,Z⟩) (I row) (I row))],∀f,bI (ah S (I row) z)=K f->bI s.2≠K f):=λs h f t ar=>by
  rcases eP.1 h with h|h;exact c0 s h f t ar;simp at h;subst h;cases ar;exact Nat.lt_irrefl _ (ad.o.lt _ t).2
 have br:=YE j 0 (ah S (I row) z) r row o bH cM aa ab.o.book b6 (cH _) (λe p f bi a4 am a5 t=>aw f t (ai (ai (ai (ai (ai (ai (ai (ai (ai ⟨e,p,bi,a4,am,a5⟩))))))))));have⟨⟨C,D,E,G⟩,⟨L,N,x⟩,fz⟩:=ab.o.cells;refine Cc.vI ?_;go_wp2_with (go_at_call 37;refine bG br ?_;rintro e w ⟨rfl,b7,bK,bL,bP,b2,a6,bc,b0,cZ,-⟩);have bu:X (iA w n m k i j M qB A (aG ae (I c+1) H) (aG al (I qZ+1) J) b7 (c++[(row,ah (K ⟨U d.heap,0,Z⟩) (I row) (I row))]) (qZ++[(nm:Int)]) (o++bK)):=ab.o.Cx b6 bz.o bc bP a6 (λe p=>by rw[b2 e p];omega);have bs:X (yM d n m k i j M qB A (ah ro (I c) bD) (ah R (I qZ) P) r c qZ o nm row (ah S (I row) z) w):=by
  refine⟨_,_,b7,_,bK,bu.o,bL,λa b q bh=>aB (bc a aa (λe=>q (ai (ai (ai (ai (av e)))))) (λe=>q (ai (ai (ai (ai (ai (ai (ai (av e))))))))) bh) (aU.o a b q),aa,λa b=>?_,λa b=>(aD.o a b).imp_right λl=>aa,λa b=>(aF.o a b).imp_right λl=>aa,λa b=>by cases b;exact aZ _⟩;rcases b with rfl|rfl|rfl|rfl|rfl|b|b|b|⟨s,h,b⟩|⟨e,p,bi,a4,am,a5⟩;exact av (av Y);exact av (ai (av Y));exact av (ai (ai (av Y)));exact av (ai (ai (ai (av Y))));exact av (ai (ai (ai (ai (av Y)))));exact eD (aD.o a b) (λl=>av (ai (ai (ai (ai (ai (av l))))))) (λl=>ai (ai aa));exact eD (aF.o a b) (λl=>av (ai (ai (ai (ai (ai (ai (av l)))))))) (λl=>ai (ai aa));exact eD (b0 a b) (λl=>av (ai (ai (ai (ai (ai (ai (ai (av l))))))))) (λl=>ai (ai aa));rcases eP.1 h with h|h;exact av (ai (ai (ai (ai (ai (ai (ai (ai (av ⟨s,h,b⟩)))))))));simp at h;subst h;cases b;exact ai (ai (aZ _))
  .rcases eP.1 p with p|p
   .exact av (ai (ai (ai (ai (ai (ai (ai (ai (ai ⟨e,p,bi,a4,am,a5⟩)))))))))
   .exact eD (a6 e p a (by rw[am];rfl)) (λl=>ai (av l)) (λl=>ai (ai aa))
 clear bc bP a6 b2 b0 cZ bL aD aF aU bz ab x ad T aw br;have⟨⟨C,D,E,G⟩,⟨L,N,x⟩,fz⟩:=bu.o.cells;refine Cc.vI ?_;have cA:=λg=>cp g w bs.o;have cK:=λg=>cq g w bs.o;by_cases ao:((I c+1:Nat):Int)=M
 .have a0:X (∀g,Q (.exit 0) g w):=λg=>cK g ao;subst ao;go_wp2_with fail;exact Cc.DU af (by simp[bp]) (Cc.adN (a0.o _))
 have a0:X (∀g,Q cX g w):=λg=>cA g ao;have cy:¬((I c:Int)+1=M):=by simpa using ao
 go_wp2_with fail;exact Cc.DU aj (by simp[bp,cy]) (Cc.HU (a0.o _))
def S3(d:ag)(c:Nat->F){C rv nv q:F}{a:List (List aC×F)}{g:List (F×Int)}{h:List aC}
 (f:iA d n m k i j M qB C rv nv q a qZ g) (x:I qZ=I a) (hL:I a<2000) (w:I g<=50000000000) (y:nm<=1000000) (z:I h<=1000)
 (G:c 5=(aK m)) (H:c 6=(aK k)) (J:c 7=(aK i)) (L:c 9=(aK n)) (D:c 11=n9 nm) (E:c 12=v)
 (u:I a=0->qB=0) (A:aT d 0 59 3 v (I h) (bM h)) (B:∀s,bI v=K s->¬eK n m k i j rv nv q a g s):
 Cc.Wr (aH ax) (kA dX) (λr _ e=>(r=cX/\((I a+1:Nat):Int)≠M\/r= .exit 0/\((I a+1:Nat):Int)=M)/\yM d n m k i j M qB C rv nv q a qZ g nm h v e) (lu c) d:=by
 unfold lu;rw[G,H,J,L,D,E];obtain⟨ro,bD,rfl⟩:=e9 f.rows;obtain⟨V,U,rfl⟩:=e9 f.fL;have⟨⟨N,O,P,Q⟩,⟨R,S,T⟩,fz⟩:=f.cells;unfold kA dX;dsimp only;refine Cc.adL (Cc.OC (Cc.vI ?_))
 skip
 by_cases t:I a=0;obtain rfl:=u t;clear u;go_wp2_with fail;refine Cc.DU aj (by simp[bp]) (Cc.HU ?_);show Cc.Wr _ (uu dX) _ _ _;exact vH Y Y (EP d _ f x hL w y z Y Y Y Y Y A B (λl e b p=>⟨av ⟨rfl,p⟩,b⟩) (λl e b o=>⟨ai ⟨rfl,o⟩,b⟩));go_wp2_with fail;refine Cc.DU aj (by simp[bp,t]) (Cc.HU ?_);show Cc.Wr _ (uu dX) _ _ _;exact vH Y Y (EP d _ f x hL w y z Y Y Y Y Y A B (λl e b p=>⟨av ⟨rfl,p⟩,b⟩) (λl e b o=>⟨ai ⟨rfl,o⟩,b⟩))
end Ec
namespace Cc
open Go Go.Conc
open Go.RowKit (Below)
open Ec (aC bM bH dJ qv bx Bd dy mC xB Gc Ck Ci)
section
variable{J P:bn}{Q:F->ag->Prop}{own:Nat->Prop}{S:List aO}{w:ag}{b:aO}{a:bt}{k:List ez}{H:Array cC}{O:List Nat}{o:cC}
def fO (w:ag):Nat->Prop:=λb=>b<U w.heap
def OJ(h:∀c,RelB own w c->Xe J P Q (fO c) Qg S c):Xe J P Q own Qg S w:=λf c e d=>h c e (λb h=>h) c (RelB.refl _ _) d
def OI(h:Twins J P){f:gw}{fn:cF}{args:Array eg}{R:ag->F->ag->Prop}(W:dj b=dM)(q:H[i]? =K o)(an:eI o (en H a.tmps)=af)(ab:o.op= .call {callee:=.value (.func f),args,argTypes:=QF})(T:args.map (bp a)=vs)
 (Y:P.funcs[f]? =K fn) (aa:(fn.name == "runtime.NumGoroutine")=aj) (V:fn.body=K QK) (Z:P.funcs[f]? =J.funcs[f]?) (ae:eS J (b.at a (bY H (i::O)::k)) [])
 (M:∀c,(∀(b:Nat) o,w.heap[b]? =K o->cZ J o->c.heap[b]? =K o)->U w.heap<=U c.heap->Calls J f vs c λd e=>aD c e/\∃v,d=aN v/\R c v e)
 (L:∀v c e g,(∀(b:Nat) o,w.heap[b]? =K o->cZ J o->c.heap[b]? =K o)->U w.heap<=U c.heap->aD c e->R c v e->Un e g->RelB (fO w) w g->Xe J P Q (fO g) (b.at (bw a o.dst v) (bY H O::k)) S g):Xe J P Q (fO w) (b.at a (bY H (i::O)::k)) S w:=by
 intro A;refine AE (P0:=J) (R:=λp d ao=>∃n,Mk J n p/\Tl n p (λd e=>∃c,dF c=dF n/\aD c e/\∃v,d=aN v/\R c v e) d ao) W q an ab T Y aa V ae (λp j=>?_) (λp v g j am y ad=>?_) (λp ar g ⟨_,_,_,_,_,_,c,_,_,v,d,_⟩=>by cases d) (λp g ⟨_,_,_,_,_,_,c,_,_,v,d,_⟩=>by cases d) A;have⟨n,m⟩:=x9 J p;intro C D r l G I;exact I6 h m.hp m.un Z (λg ⟨c,_,_,v,d,_⟩=>by cases d) (λs=>bG (M (sh s 0 n) (λb o q u=>m.at_ b o (aB (j.at_ b (dn.1 q).1) q) u) (by show U w.heap<=U n.heap;rw[<-m.un.size];exact j.size)) λd e ⟨r,l⟩=>⟨sh s 0 n,rfl,r,l⟩) C D r l G λd g X=>I d g ⟨n,m,X⟩;have⟨n,m,s,E,e,l,c,x,t,aw,d,N⟩:=am;cases d;have al:U c.heap<=U g.heap:=by rw[l.un.size];exact t.size
 have z:U c.heap=U p.heap:=by rw[x,m.un.size]
 have hrel:RelB (fO w) w g:=⟨λb B=>by
  have r:e.heap[b]? =c.heap[b]? :=cT t b (by rw[z];exact cL (A b B) j.size);exact aB (l.same m.un (by rw[r,x])) (j.at_ b B),dW j.size (by rw[<-z];exact al),aB y.tape j.tape,aB y.os j.os,aB y.output j.output⟩
 exact Xe.go (L v c (sh s E e) g (λb o q u=>by rw[x];exact m.at_ b o (aB (j.at_ b (dn.1 q).1) q) u) (by rw[z];exact j.size) t N ⟨l.un.size,l.un.at_,l.un.os,l.un.output⟩ hrel) (λb h=>h) ad
def aaH{P:bn}{b:aO}{a:bt}{D:Nat}{m:FrameMode}(d:dj b=dM)(g:bU a=[{target:=.collected D,args:= #[]}])(n:(dI QO (x5 P))=af):eS P {b.at a QO with mode:=m} []:=by
 refine⟨⟨λi l=>?_,λe h=>?_,av d⟩,λf j=>by simp at j,d⟩;have:=fA.1 n i l;cases i<;>first|exact this|trivial|cases this
 have c:e∈bU a:=h;rw[g] at c;simp only[v5] at c;subst c;rfl
end
def IJ{a:bt}{d e f c:eg}(g:bp a d=v)(h:bp a e=x)(j:bp a f=y)(l:bp a c=z): #[d,e,f,c].map (bp a)=#[v,x,y,z]:=by simp[g,h,j,l]
def BV (f:nL)(V:Nat->Nat->List aC):Prop:=match f with
 |none=>True
 |some (h,g)=>∀(i:Nat) b,g[i]? =K b->∀(c:Nat) e d,b.chunks[c]? =K e->h[c]? =K d->lI e.text d.1.kind d.2 (b.rows:Int) (V i c)
def ad0:(Tryz.f36.name == "runtime.NumGoroutine")=aj:=aR
def Uq{s:ByteArray}{f:List (bx×Int)}{e:List Bd}{g:List bH}{V:Nat->Nat->List aC}(d:mC s f e)(h:nj (I f) an g=af)(n:I an<=1000)(z:I g<=1000)(m:BV (K (f,e)) V):FQ f e an g V:=by
 have x:I f<=8:=by
  have:=d.1.pl.1.2.1;simpa using this
 have y:I e<=2000:=by
  have u:=Ec.GZ e (λb c=>(d.1.e7 b c).lo);have v:=d.1.rows;omega
 refine⟨λb c=>by have:=(d.1.e7 b c).len;simpa using this,aa,by have:=d.1.pl.1.1;simp at this;omega,λb c=>(d.1.e7 b c).hi,d.1.rows,aa,n,fW,(xG.1 h).1,(xG.1 h).2,λi b c l r t j q=>⟨?_,m i b c l r t j q⟩⟩;obtain⟨p,rfl⟩:=fF.1 j;have:=((d.1.e7 b (oP c)).each l p).n;unfold aV;omega
section
variable{Q:List aO}{w:ag}{a:bt}{c:aO}
def Knows.same{a d:bt}(b:Knows a n H)(h:d.tmps=a.tmps):Knows d n H:=⟨bV h b.size,λs v e=>by unfold cx;rw[h];exact b.slot s v e⟩
def adT{D:Nat}(h:bU a=[{target:=.collected D,args:= #[]}])(g:w.heap[D]? =K (kT (K [])))(n:(dI QO (x5 (aH ax)))=af)(m:dj Qg=dM)
 (l:∀f b,f.tmps=a.tmps->bU f=[]->U w.heap<=U b.heap->(∀e,e<U w.heap->e≠D->b.heap[e]? =w.heap[e]?)->b.tape=w.tape->b.os=w.os->b.output=w.output->Xe (aH ax) ax J (fO b) {Qg.at f QO with mode:=jj} Q b):Xe (aH ax) ax J (fO w) {Qg.at a QO with mode:=jj} Q w:=by
 intro t s d p;have k:D<U w.heap:=(dn.1 g).1;have j:s.heap[D]? =K (kT (K [])):=aB (d.at_ D k) g;refine Yb fX h j (λ_ q=>Xe.go (l {a with defers:=[]} _ Y Y ?_ ?_ d.tape d.os d.output) (λQg i=>i) q) (aaH m h n) p;rw[World.putObj_size];exact d.size;intro e r o;rw[y7 o];exact d.at_ e r
end
open Ec
def Ua(s:ByteArray)(g:ag)(e:bg s<=aV):∃b,uI s b:=by
 obtain⟨l,n,m,⟨_,a⟩,_⟩:=Ku s g e [];rcases a with⟨f,J,h,i,j,k,_,c,_,_,d⟩|⟨_,a⟩
 .exact⟨K (f,J),c,d⟩
 .exact⟨Z,a⟩
def aau(s:ByteArray)(e d c:Int)(m:ag)(i:bg s<=aV):∃l,lI s e d c l:=by
 have⟨q,p,n,⟨_,a⟩,_⟩:=Ez s e d c m i [];rcases a with⟨a,_⟩|⟨b,rfl,g,f,o,⟨v,k,_,_,h⟩|⟨_,j⟩⟩;exact⟨[],ai ⟨rfl,av a⟩⟩;exact⟨k,av ⟨b,rfl,g,f,h⟩⟩;exact⟨[],ai ⟨rfl,ai ⟨b,rfl,j⟩⟩⟩
def Vb{s:ByteArray}{i:nL}(w:ag)(hF:uI s i):∃V,BV i V:=by
 cases i with
 |none=>exact⟨λ_ _=>[],trivial⟩
 |some v=>
  obtain⟨p,J⟩:=v;have o:∀e c:Nat,∃l,∀b d a,J[e]? =K b->b.chunks[c]? =K d->p[c]? =K a->lI d.text a.1.kind a.2 (b.rows:Int) l:=λe c=>by
   cases k:J[e]? with
   |none=>exact⟨[],λb d a h=>by cases h⟩
   |some b=>
    cases g:b.chunks[c]? with
    |none=>exact⟨[],λm d a h f=>by cases h;rw[g] at f;cases f⟩
    |some d=>
     cases n:p[c]? with
     |none=>exact⟨[],λm d a h f j=>by cases j⟩
     |some a=>
      have t:bg d.text<=aV:=by
       obtain⟨r,rfl⟩:=fF.1 g;have:=((hF.1.1.e7 b (oP k)).each c r).n;unfold aV;omega
      obtain⟨l,u⟩:=aau d.text a.1.kind a.2 (b.rows:Int) w t;exact⟨l,λm x y q f j=>by
       cases q;rw[g] at f;cases f;cases j;exact u⟩
  exact⟨λe c=>mr (o e c),λe b k c d a g n=>fE (o e c) b d a k g n⟩
section
variable{J:List Bd}{an:List Int}{Q:List bH}{R:List Bool}{V:Nat->Nat->List aC}
end
section
variable{R P:bn}{H:List aO}{w:ag}{b:aO}{a:bt}{k:List ez}
def adR(h:Twins R P){r:ag->bt->ag->Prop}(I:∀s,bJ (.refuse s)∉k)(Q:eS R (b.at a (bJ QK::k)) [])
 (M:∀c,(∀(b:Nat) d,w.heap[b]? =K d->cZ R d->c.heap[b]? =K d)->U w.heap<=U c.heap->QK.wp R (λn e i=>n=cX/\aD c i/\r c e i) a c)
 (F:∀e c i g,(∀(b:Nat) d,w.heap[b]? =K d->cZ R d->c.heap[b]? =K d)->U w.heap<=U c.heap->aD c i->r c e i->Un i g->RelB (fO w) w g->Xe R P J (fO g) (b.at e k) H g):Xe R P J (fO w) (b.at a (bJ QK::k)) H w:=by
 intro W V f N;refine F4 h (Q:=λl n e i=>n=cX/\∃c,dF c=dF l/\aD c i/\r c e i) (λl o q=>?_) I (λl id a w j=>by cases j.1) (λl X a w j=>by cases j.1) (λl a w j=>by cases j.1) (λl n e B g q E o j m y=>?_) Q N;intro C T D;have⟨n,e,g,⟨t,m,G⟩,L⟩:=M (sh q 0 l) (λb d p v=>o.at_ b d (aB (f.at_ b (dn.1 p).1) p) v) (by show U w.heap<=U l.heap;rw[<-o.un.size];exact f.size) C T D;exact⟨n,e,g,⟨t,sh q 0 l,rfl,m,G⟩,L⟩;obtain⟨rfl,c,x,u,j⟩:=j;have S:U c.heap<=U g.heap:=bV m.un.size u.size;have z:U c.heap=U V.heap:=by rw[x,o.un.size]
 have hrel:RelB (fO w) w g:=⟨λb A=>by
  have t:B.heap[b]? =c.heap[b]? :=cT u b (bV z (cL A f.size));exact aB (m.same o.un (by rw[t,x])) (f.at_ b A),dW f.size (by rw[<-z];exact S),aB y.tape f.tape,aB y.os f.os,aB y.output f.output⟩
 intro _ O;exact Xe.go (F e c (sh q E B) g (λb d p v=>by rw[x];exact o.at_ b d (aB (f.at_ b (dn.1 p).1) p) v) (bV z f.size) u j ⟨m.un.size,m.un.at_,m.un.os,m.un.output⟩ hrel) (λb h=>h) O
end
open Pk
def EK(h:U Q.tmps=n)(b:bU Q=[]):Q=⟨cR ((fp n).map (cx Q)),[]⟩:=by
 have⟨e,d⟩:=Q;simp only at h b;subst b;congr 1;apply vK;intro c;simp only[List.getElem?_toArray,s5,List.getElem?_range];rcases jc c n with a|a;simp[a,cx,h];simp[a,h]
section
variable{J P:bn}{S own:Nat->Prop}{w:ag}{a:bt}{o:cC}
end
section
variable{J P:bn}{R:F->ag->Prop}{H:List aO}{w:ag}{b:aO}{a:bt}{k:List ez}
def lC(h:Twins J P)(i:Knows a n q5)(r:bU a=[])(g:cQ)(j:ag->bt->ag->Prop)(t:∀s,bJ (.refuse s)∉k)(y:eS J (b.at a (bJ g::k)) [])
 (u:∀v c,(∀s l,q5.lookup s=K l->v s=l)->(∀(b:Nat) o,w.heap[b]? =K o->cZ J o->c.heap[b]? =K o)->U w.heap<=U c.heap->g.wp J (λm e d=>m=cX/\aD c d/\j c e d) ⟨cR ((fp n).map v),[]⟩ c)
 (p:∀e c d f,(∀(b:Nat) o,w.heap[b]? =K o->cZ J o->c.heap[b]? =K o)->U w.heap<=U c.heap->aD c d->j c e d->Un d f->RelB (fO w) w f->Xe J P R (fO f) (b.at e k) H f):Xe J P R (fO w) (b.at a (bJ g::k)) H w:=
 adR h t y (λc q x=>by
  have:=u (cx a) c i.slot q x;rwa [<-EK i.size r] at this) p
end
def x6(m:Nat):Knows ⟨#[]++jw (m-0) bR,[]⟩ m []:=⟨aI,λs v c=>by simp at c⟩
def Lc(d:∀s,QK≠.refuse s):∀s,bJ (.refuse s)∉[bJ QK]:=λs c=>by
 simp only[v5,Item.code.injEq] at c;exact d s (bq c)
open Go.RowKit
section
variable{R P:bn}{H:List aO}{w:ag}{b:aO}{a:bt}{k:List ez}
def OG(h:Twins R P)(E:Knows a n q5)(W:bU a=[])(u:cQ)(t:ag->bt->ag->Prop)(X:∀s,bJ (.refuse s)∉k)(ab:eS R (b.at a (bJ u::k)) [])
 (Y:∀v c,(∀s M,q5.lookup s=K M->v s=M)->(∀(b:Nat) d,w.heap[b]? =K d->cZ R d->c.heap[b]? =K d)->U w.heap<=U c.heap->u.wp R (λo e i=>o= .ret/\aD c i/\t c e i) ⟨cR ((fp n).map v),[]⟩ c)
 (T:∀e c i g D,(∀(b:Nat) d,w.heap[b]? =K d->cZ R d->c.heap[b]? =K d)->U w.heap<=U c.heap->aD c i->t c e i->Un i g->RelB (fO w) w g->Xe R P J (fO g) {b.at e D with mode:=jj} H g):Xe R P J (fO w) (b.at a (bJ u::k)) H w:=by
 intro am al f Z;refine F4 h (Q:=λl o e i=>o= .ret/\∃c,dF c=dF l/\aD c i/\t c e i) (λl p r=>?_) X (λl id a w j=>by cases j.1) (λl q5 a w j=>by cases j.1) (λl a w j=>by cases j.1) (λl o e L g r Q p j m B=>?_) ab Z;intro N ae O;have G:=Y (cx a) (sh r 0 l) E.slot (λb d q z=>p.at_ b d (aB (f.at_ b (dn.1 q).1) q) z) (by show U w.heap<=U l.heap;rw[<-p.un.size];exact f.size);rw[<-EK E.size W] at G;have⟨o,e,g,⟨x,m,S⟩,V⟩:=G N ae O;exact⟨o,e,g,⟨x,sh r 0 l,rfl,m,S⟩,V⟩;obtain⟨rfl,c,A,y,j⟩:=j;have ad:U c.heap<=U g.heap:=bV m.un.size y.size;have C:U c.heap=U al.heap:=by rw[A,p.un.size]
 have hrel:RelB (fO w) w g:=⟨λb I=>by
  have x:L.heap[b]? =c.heap[b]? :=cT y b (bV C (cL I f.size));exact aB (m.same p.un (by rw[x,A])) (f.at_ b I),dW f.size (by rw[<-C];exact ad),aB B.tape f.tape,aB B.os f.os,aB B.output f.output⟩
 intro D _ aa;exact Xe.go (T e c (sh r Q L) g D (λb d q z=>by rw[A];exact p.at_ b d (aB (f.at_ b (dn.1 q).1) q) z) (bV C f.size) y j ⟨m.un.size,m.un.at_,m.un.os,m.un.output⟩ hrel) (λb h=>h) aa
end
def o6{Q a b:ag}(h:RelB (fO Q) Q a)(c:RelB (fO a) a b):RelB (fO Q) Q b:=h.trans (c.mono λe d=>cL d h.size)
def dJ.take{d:List bH}(h:dJ w O n m d)(f:Nat):dJ w O n m (d.take f):=by
 have c:∀a,a<I (d.take f)->a<I d:=λa b=>by simp at b;omega
 exact⟨λe=>h.addr (c 0 e),λe=>h.lt (c 0 e),λa b=>by rw[ry];exact h.c0 a (c a b),λa b=>by rw[ry];exact h.c1 a (c a b),λa b=>by rw[ry];exact h.c2 a (c a b),λa b=>by rw[ry];exact h.c3 a (c a b),λa b=>by rw[ry];exact h.c4 a (c a b),λa b=>by rw[ry];exact h.c5 a (c a b),λa b=>by rw[ry];exact h.c6 a (c a b)⟩
def OH{J:F->ag->Prop}{fn:cF}(o:ax.inits.idxOf? Qg.fn=Z)(l:dj Qg=dM)(m:bU qT=[])(g:ax.funcs[Qg.fn]? =K fn)(h:(∀w,(dB fn qT.tmps).run ax w=cm v w)/\∀w,(dB fn qT.tmps).events ax w #[]=#[])(p:∀a,RelB (fO w) w a->J v a):Xe (aH ax) ax J (fO w) {Qg.at qT QO with mode:=jj} [] w:=by
 intro r a q t;refine Yj (v:=v) o (λu i=>⟨rfl,m,l,fn,g,h.1 _⟩) (λb d c n j e=>?_) (λb d=>?_);have:c=fn:=uX (n.symm.trans g);subst this;rw[Sem.runT_eq] at e;have k:=h.2 b;have f:j∈(dB c qT.tmps).events ax b #[]:=e;rw[k] at f;simp at f;obtain⟨i,rfl⟩:=d;exact p _ (q.trans (RelB.at _ _ _))
section
variable{s:ByteArray}{an:List Int}{R:List bH}{H:Option aL}{cb bC bF:Nat}{ro:Option aL}{rb bL bD:Nat}{Q:ag}
end
def CO:ax.cellsOf 3=1:=aR
def XA:ax.cellsOf 4=1:=aR
def XE:ax.cellsOf 9=1:=aR
def Li:ax.cellsOf 59=3:=aR
def XC:ax.cellsOf 61=7:=aR
def XB:ax.bytesOf 3=8:=aR
def XD:ax.bytesOf 61=72:=aR
def yN {H:Type}(a:DataW H)(c:aP):Prop:=∀b∈a.weights ax c,b<=140737488351232
def yN.slice{H:Type}{a sp:List (DataW H)}(h:yN (.slice a sp) Qd)(b:ax.underlying Qd=K (.slice Qe)):I a*ax.bytesOf Qe<=140737488351232:=by
 have:=h ((I a+I sp)*ax.bytesOf Qe) (by simp[DataW.weights,b]);exact dW (Nat.mul_le_mul_right _ (Nat.le_add_right _ _)) this
section
variable{H:Type}{O:aP×F->H}{w:ag}{J:Nat->Bool}{R:Bool}{Q:Nat}{v:F}{x:DataW H×List MemPlace}
def open_ints(h:DataW.trod O ax w 0 J R Q 22 [v]=K x):
 ∃(d:List Int) (o:Option aL) (b e i:Nat),v=ah o (I d) i/\I d<=i/\(0<I d->o=K ⟨b,e,Z⟩)/\(0<I d->b<U w.heap)/\(∀a,a<I d->bl w b (e+a) (z9 (aW d a 0)))/\(yN x.1 22->I d<=140737488351232):=by
 rcases Deep.open_slice1 yZ CO h with⟨j,_⟩|⟨n,c,i,m,T,V,D,F,j,_,s,P,B,rfl,E⟩;simp at j;subst j;exact⟨[],Z,0,0,0,rfl,aZ _,λh=>by simp at h,λh=>by simp at h,λa h=>by simp at h,λ_=>aI⟩
 .simp at j;subst j;have N:c<=m:=by rw[B];split<;>omega
  have y:∀l,l<c->∃u:Int,ap w (n.add l)=K (z9 u):=by
   intro l M;have⟨z,A⟩:=E l aa;have⟨G,t,_,S⟩:=DataW.trod_int Tryz.underlying3 A;simp at t;exact⟨G,by rw[z,t]⟩
  have⟨f,r⟩:=Deep.choose_lt y;have g:I ((fp c).map f)=c:=aI;by_cases q:0<c;have⟨b,e,L⟩:=n;have C:L=Z:=by simpa [rQ] using World.cell?_spot (r 0 q)
  subst C;have p:∀a,a<c->bl w b (e+a) (z9 (f a)):=λa k=>by have:=r a k;rwa [kQ] at this
  refine⟨(fp c).map f,K ⟨b,e,Z⟩,b,e,i,by rw[g],bV g s,λ_=>rfl,λ_=>World.block_lt_of_cell? w ⟨b,e+0,Z⟩ (p 0 q),?_,λhF=>?_⟩;intro a k;rw[g] at k;show _=_;rw[p a k];simp[k];have:=hF.slice yZ;rw[XB] at this;simp at this ⊢;omega
  .refine⟨(fp c).map f,K n,0,0,i,by rw[g],bV g s,λh=>?_,λh=>?_,λa h=>?_,λ_=>?_⟩
   all_goals (rw[g] at *;omega)
def Lz{Q:Nat}{x:DataW H×List MemPlace}(h:DataW.trod O ax w 0 J R Q 59 S=K x):∃a:aC,S=[ak a.null,aJ aM a.n,ay a.s]:=by
 have⟨r,t,u,n,_,f,b,c,d⟩:=Deep.trod_struct3 Tryz.underlying59 h;rw[Li] at f
 match S,f with
 | [o,p,q],_=>
  simp[CO,XE,XA] at b c d;have⟨j,e,_⟩:=DataW.trod_bool Tryz.underlying4 b;have⟨k,g,_,m⟩:=DataW.trod_int Tryz.underlying3 c;have⟨s,i,_,l⟩:=DataW.trod_string Tryz.underlying9 d;simp at e g i;subst e g i;exact⟨⟨j,k,s⟩,rfl⟩
def Yy(h:DataW.trod O ax w 0 J R Q 23 [v]=K x):
 ∃(r:List bH) (s:Option aL) (n o p:Nat),v=ah s (I r) p/\I r<=p/\dJ w s n o r/\(yN x.1 23->I r<=140737488351232):=by
 rcases Deep.open_slice Tryz.underlying23 h with⟨q,_⟩|⟨e,d,p,m,aD,D,ao,q,_,P,az,X,rfl,U⟩;simp at q;subst q;exact⟨[],Z,0,0,0,rfl,aZ _,⟨λh=>by simp at h,λh=>by simp at h,λa h=>by simp at h,λa h=>by simp at h,λa h=>by simp at h,λa h=>by simp at h,λa h=>by simp at h,λa h=>by simp at h,λa h=>by simp at h⟩,λ_=>aI⟩
 .simp at q;subst q;have aw:d<=m:=by rw[X];split<;>omega
  rw[XC] at U;have W:∀c,c<d->∃i:bH,ap w (e.add (c*7))=K (aJ aM i.col)/\ap w (e.add (c*7+1))=K (ak i.low.null)/\ap w (e.add (c*7+2))=K (aJ aM i.low.n)/\ap w (e.add (c*7+3))=K (ay i.low.s)/\ap w (e.add (c*7+4))=K (ak i.high.null)/\ap w (e.add (c*7+5))=K (aJ aM i.high.n)/\ap w (e.add (c*7+6))=K (ay i.high.s):=by
   intro c ar;have⟨V,ab,ad⟩:=U c aa;have⟨_,l,j⟩:=World.cells?_some ab;have⟨aU,a0,a1,aC,_,_,G,L,M⟩:=Deep.trod_struct3 Tryz.underlying61 ad
   match V,l with
   | [aE,aF,aG,aH,aK,aQ,aR],_=>
    simp[CO,Li] at G L M;have⟨am,T,_,aA⟩:=DataW.trod_int Tryz.underlying3 G;have⟨al,S⟩:=Lz L;have⟨ae,N⟩:=Lz M;simp at T S N;obtain⟨rfl,rfl,rfl⟩:=S;obtain⟨rfl,rfl,rfl⟩:=N;subst T;have u:=j 0 aa;have y:=j 1 aa;have z:=j 2 aa;have A:=j 3 aa;have B:=j 4 aa;have C:=j 5 aa;have E:=j 6 aa;rw[Deep.add_add] at u y z A B C E;exact⟨⟨am,al,ae⟩,cN u,cN y,cN z,cN A,cN B,cN C,cN E⟩
  have⟨f,g⟩:= @Deep.choose_lt bH ⟨⟨0,⟨aj,0,⟨#[]⟩⟩,⟨aj,0,⟨#[]⟩⟩⟩⟩ _ _ W;have l:I ((fp d).map f)=d:=aI;have k:∀a,(b:a<I ((fp d).map f))->((fp d).map f)[a]=f a:=λa b=>aI;by_cases F:0<d;have⟨n,o,an⟩:=e;have Y:an=Z:=by simpa [rQ] using World.cell?_spot (g 0 F).1
  subst Y;have t:∀a,a<d->bl w n (o+a*7) (aJ aM (f a).col):=λa b=>by have:=(g a b).1;rwa [kQ] at this
  refine⟨(fp d).map f,K ⟨n,o,Z⟩,n,o,p,by rw[l],bV l P,⟨λ_=>rfl,λ_=>World.block_lt_of_cell? w ⟨n,o+0*7,Z⟩ (t 0 F),?_,?_,?_,?_,?_,?_,?_⟩,λhF=>?_⟩;intro a b;rw[k a b];exact t a (cN b);intro a b;rw[k a b];have:=(g a (cN b)).2.1;rwa [kQ,<-gH] at this;intro a b;rw[k a b];have:=(g a (cN b)).2.2.1;rwa [kQ,<-gH] at this;intro a b;rw[k a b];have:=(g a (cN b)).2.2.2.1;rwa [kQ,<-gH] at this;intro a b;rw[k a b];have:=(g a (cN b)).2.2.2.2.1;rwa [kQ,<-gH] at this;intro a b;rw[k a b];have:=(g a (cN b)).2.2.2.2.2.1;rwa [kQ,<-gH] at this;intro a b;rw[k a b];have:=(g a (cN b)).2.2.2.2.2.2;rwa [kQ,<-gH] at this;have:=hF.slice Tryz.underlying23;rw[XD] at this;simp at this ⊢;omega
  .refine⟨(fp d).map f,K e,0,0,p,by rw[l],bV l P,⟨λh=>?_,λh=>?_,λa h=>?_,λa h=>?_,λa h=>?_,λa h=>?_,λa h=>?_,λa h=>?_,λa h=>?_⟩,λ_=>?_⟩
   all_goals (rw[l] at *;omega)
end
theorem IW{H:Type}:∀a:List (DataW H),I a<=Rows.uptoBulkAll a
 | []=>by simp
 |d::b=>by
  have c:=IW b;have e:1<=Rows.uptoBulk d:=by
   cases d with
   |lit x=>cases x<;>simp[Rows.uptoBulk]
   |_=>simp[Rows.uptoBulk]
  simp only[Rows.uptoBulkAll,oh];omega
section
variable{H:Type}{O:aP×F->H}{w:ag}{J:Nat->Bool}{R:Bool}{Q:Nat}{x:DataW H×List MemPlace}
def acm(h:DataW.trod O ax w 0 J R Q 22 [ah P n k]=K x):
 n<=Rows.uptoBulk x.1/\∀b d,P=K ⟨b,d,Z⟩->∀c,c<n->∀e,bl w b (d+c) (z9 e)-> -9223372036854775808<=e/\e<=9223372036854775807:=by
 rcases Deep.open_slice1 yZ CO h with⟨a,_⟩|⟨s,B,t,m,A,V,D,r,a,_,v,z,l,rfl,p⟩;simp at a;obtain⟨rfl,rfl,rfl⟩:=a;exact⟨cH _,λb d f=>de f⟩;simp at a;obtain⟨rfl,rfl,rfl⟩:=a;have y:n<=m:=by rw[l];split<;>omega
 refine⟨?_,λb d f c u e q=>?_⟩;have:=IW ((fp n).map D);simp only[Rows.uptoBulk];simp at this;omega;cases f;have⟨g,j⟩:=p c aa;have⟨C,i,_,o⟩:=DataW.trod_int Tryz.underlying3 j;rw[kQ,q] at g;simp at i;rw[i] at g;cases g;simp[Lit.wf,IntKind.min,IntKind.max,IntKind.signed,IntKind.bits] at o;omega
end
section
variable{O P:bn}{Q:F->ag->Prop}{b:aO}{a:bt}{k:List ez}{H:List aO}{w:ag}{J:Array cC}
def Ya{f:gw}{fn:cF}{args:Array eg}{R:gN->ag->Prop}(A:dj b=dM)(q:J[n]? =K Qs)(N:eI Qs (en J a.tmps)=af)(i:Qs.op= .call {callee:=.value (.func f),args,argTypes:=QF})
 (o:P.funcs[f]? =K fn) (p:(fn.name == "runtime.NumGoroutine")=aj) (z:fn.body=K QK) (y:∀d,AtRel w d->sQ O P Q f (args.map (bp a)) d R)
 (x:∀v c,R (aN v) c->Sm w c->nh O P Q (b.atR (bw a Qs.dst v) (bY J rest::k)) H c) (hP:∀h c,¬R (gO h) c) (C:∀c,¬R .outgrown c):nh O P Q (b.atR a (bY J (n::rest)::k)) H w:=by
 intro S E;refine CR λd j=>?_;have m:nQ fn.body=aj:=gG z;have M:stepG P af (aX (b.atR a (bY J (n::rest)::k)) H) d= .go (aX (eT P f (args.map (bp a)) dM) (b.atR a (bY J (n::rest)::k)::H)) d #[]:=by
  have l:=stepGR_op (P:=P) (b:=b) (a:=a) (k:=k) (cs:=H) (w:=d) (rest:=rest) q N;rw[Oper.semAt_eq _ _ _ (by rw[i];intro QK t;cases t)] at l;have u:seen P b.fn ((bX (bp a) Qs).events P d #[])=#[]:=by rw[events_call_body i o p m];exact Conc.seen_none P _
  show stepG P af {frame:=b.atR a (bY J (n::rest)::k),callers:=H,status:=kR,dying:=Z} d=_;rw[l];have B:(dj b==CallKind.early)=aj:=gG A;simp[stepG.apply,(run_call_body (w:=d) (a:=a) i o p m),Frame.atR,B,GStep.after,aX,u]
 have G:kr O d:=by obtain⟨s,rfl⟩:=j;exact E
 have I:Sm w d:=by obtain⟨s,rfl⟩:=j;exact⟨rfl,rfl,rfl,aZ _⟩
 refine⟨_,_,_,M,rfl,⟨aZ _,rfl,rfl,rfl,λT=>T,λe g=>by simp at g⟩,(y d j _ H S ⟨rfl,av ⟨J,n,rest,k,rfl⟩⟩ G λe c g F L D=>?_)⟩;cases e with
 |returned v=>
  have:=x v c g (I.trans L);have e:=Frame.finish_atR b a J n rest k v;rw[q] at e;have r:eS O (dR (b.atR a (bY J (n::rest)::k)) v) []:=D;rw[e] at r;show iq O P Q (aX (dR (b.atR a (bY J (n::rest)::k)) v) H) c;rw[e];exact this r F
 |panicked h=>exact absurd g (hP h c)
 |outgrown=>exact absurd g (C c)
end
def gU (a:Int)(pre:List cK):Bool:= !decide ((I pre:Int)=a)
def J5:gU (-1)=λ_=>af:=by
 funext pre;have:¬(I pre:Int)= -1:=aa;simp[gU,this]
section
variable{sk:Bool}{Q:List Bd}{an:List Int}{J:List bH}{R:List Bool}{V:Nat->Nat->List aC}
end
def Wr.mono{b c:Exit->bt->ag->Prop}(h:Wr Qo QK b Q w)(j:∀a Q w,b a Q w->c a Q w):Wr Qo QK c Q w:=λe k f=>by
 have⟨a,d,m,g,i⟩:=h e k f;exact⟨a,d,m,j _ _ _ g,i⟩
def recAt(r:Loop)(most:Int)(a:Nat):Loop:=if (a:Int)=most then {r with state:=.done,pending:=K (.exit 0)} else r
structure r5(r:Loop)(b5 b6 b7 gb:Nat):Prop where
 st:r.state= .ready
 pn:r.pending=Z
 ps:r.params=#[22,23]
 AT:r.assign=sG dX
 bd:r.body=kA dX
 sz:U r.tmps=75
 k5:cB r.tmps 5 bR=(aK b5)
 k6:cB r.tmps 6 bR=(aK b6)
 k7:cB r.tmps 7 bR=(aK b7)
 k9:cB r.tmps 9 bR=(aK gb)
section
variable{l D:Nat}{most:Int}{r:Loop}{bW:List (F×Int)}{pre:List cK}{M:Nat->Prop}{R J u:ag}
def An:fC (aH ax) af (sG dX)=af/\fC (aH ax) af (kA dX)=af:=⟨aR,aR⟩
def GW(a:r5 r b5 b6 b7 gb)(d:Nat):cZ (aH ax) (fj (recAt r most d)):=by
 unfold recAt
 split
 exact⟨by show fC _ _ r.assign=_;rw[a.AT];exact An.1,by show fC _ _ r.body=_;rw[a.bd];exact An.2,λc b=>by cases b;rfl⟩;exact⟨bV a.AT An.1,bV a.bd An.2,λc b=>by rw[a.pn] at b;cases b⟩
end
end Cc
namespace Ec
open Go.RowKit Pk Pm
open Cc (gK ir FQ ud AZ BV pY lQ nj kz)
def dJ.zero{c:List bH}(h:I c=0):dJ w O n m c:=
 ⟨λa=>aa,λa=>aa,λb a=>aa,λb a=>aa,λb a=>aa,λb a=>aa,λb a=>aa,λb a=>aa,λb a=>aa⟩
def TR{rn:Nat}{i:List (bx×Int)}{l:List Bd}{b:List (di×F)}{rs:List bH}{co ro:Option aL}{cb bC rb bL:Nat}(T:eB i l)(h:PF w u v x y rn (i.map bf) (i.map dD) b)(hL:b.map bf=l.map pe)
 (aA:0<I an->co=K ⟨cb,bC,Z⟩) (aD:0<I an->cb<U u.heap) (aC:∀e,e<I an->bl u cb (bC+e) (z9 (aW an e 0))) (V:dJ u ro rb bL rs):
 ∃r G L E Y X gI aI aK m p,DM u (U u.heap) i l an rs (U w.heap+1) r G L E Y X gI aI aK (n9 rn) co m bC ro p bL:=by
 have O:0<I i:=by
  have:=T.pl.1.1;simp at this;omega
 have M:I b=I l:=by have:=congrArg I hL;simpa using this
 obtain⟨r,G,rfl,a3,P,aH⟩:=kz h.an (by simpa using O);obtain⟨L,E,rfl,a1,ar,aw⟩:=kz h.gA (by simpa using O);obtain⟨m,ad,ae,al⟩:∃m,m<U u.heap/\(0<I an->co=K ⟨m,bC,Z⟩)/\∀e,e<I an->bl u m (bC+e) (z9 (aW an e 0)):=by
  rcases v8 (I an) with f|f;exact⟨r,P,λh=>aa,λe h=>aa⟩;exact⟨cb,aD f,aA,aC⟩
 obtain⟨p,aR,aU⟩:∃p,p<U u.heap/\dJ u ro p bL rs:=by
  rcases v8 (I rs) with f|f;exact⟨r,P,.zero f⟩;exact⟨rb,V.lt f,V⟩
 have az:∃z q cW,y=ah z (I l) cW/\(0<I l->z=K ⟨q,0,Z⟩/\q<U u.heap)/\∀n k,(b.flatMap hJ)[n]? =K k->bl u q n k:=by
  rcases v8 (I b) with f|f;have⟨ab,s,J⟩:=e9 h.own;have ao:=s4 f;refine⟨ab,0,s,by rw[<-M];exact J,λh=>absurd h aa,λn k W=>?_⟩;rw[ao] at W;simp at W;have⟨R,s,J,H,t,am⟩:=kz h.own f;exact⟨_,R,s,by rw[<-M];exact J,λ_=>⟨rfl,t⟩,am⟩
 obtain⟨z,q,cW,rfl,H,t⟩:=az;have A:∀(a:Nat) c,l[a]? =K c->∃(d:a<I b),aW b a (⟨0,[]⟩,ak aj)=b[a]/\b[a].1=pe c/\b[a].2=ah (K ⟨ud b[a].2,0,Z⟩) (I i) (AZ b[a].2)/\ud b[a].2<U u.heap/\∀n k,((pe c).parts.flatMap eO)[n]? =K k->ap u ⟨ud b[a].2,n,Z⟩=K k:=λa c g=>by
  have d:a<I b:=by rw[M];exact(fF.1 g).1
  have S:b[a].1=pe c:=by
   have:(b.map bf)[a]? =K (pe c):=by rw[hL,s5,g];rfl
   rw[s5,dV d] at this;simpa using this
  have aF:(pe c).parts.length=I i:=by
   have:=(T.e7 c (oP g)).len;simpa [pe] using this
  have:=h.each b[a] (dm d);rw[S,aF] at this;have⟨R,s,o,Q,D,aQ⟩:=kz this O;have j:aW b a (⟨0,[]⟩,ak aj)=b[a]:=by rw[ep,dV d];rfl
  refine⟨d,j,S,?_⟩;rw[o];exact⟨rfl,D,aQ⟩
 have N:=h.file;simp only[er] at N;refine⟨r,G,L,E,z,q,cW,λa=>ud (aW b a (⟨0,[]⟩,ak aj)).2,λa=>AZ (aW b a (⟨0,[]⟩,ak aj)).2,m,p,N,λe B=>⟨?_,?_⟩,λa c g=>⟨(H (by have:=(fF.1 g).1;omega)).1,?_,?_⟩,λa c g e a4 B a0 k aG=>?_,⟨bE N,P,ar,ad,aR⟩,λa d=>⟨(H aa).2,?_⟩,ae,al,aU⟩;have:=(Ca (i.map bf) e (by simpa using B)).2;simp only[oO] at this;exact aH _ _ this;exact aw _ _ (by simp[cO,dV B]);obtain⟨d,j,C,o,-⟩:=A a c g;have:=t _ _ (pM hJ 2 Co b a d 0 (z9 ((c.rows:Nat):Int)) (by unfold hJ;rw[C];rfl));exact this;obtain⟨d,j,C,o,-⟩:=A a c g;simp only[j];have:=t _ _ (pM hJ 2 Co b a d 1 b[a].2 (by unfold hJ;rfl));rw[this,<-o];have⟨d,j,C,o,Q,D⟩:=A a c g;obtain⟨aE,rfl⟩:=fF.1 B;simp only[j];refine D _ _ (pM eO 9 Bu (pe c).parts e (by simpa [pe] using aE) a0 k ?_);simpa [pe] using aG;have⟨a2,j,C,o,Q,D⟩:=A a _ (dV d);simp only[j];exact Q
def HO{v:aC}(a:M=1\/M=2\/M=3)(h:VK M v):bg v.s<=aV:=by
 have:=Cc.z0 a (Bh a h);unfold aV;omega
def FA{a:List (bx×Int)}(h:k3 a)(b:n<I a):a[n].1.kind=1\/a[n].1.kind=2\/a[n].1.kind=3:=by
 have:=Cc.zU h (k:=(n:Int)) (Cc.tH.2 ⟨aa,aa⟩);unfold lQ at this;simpa [ep,b] using this
def h_{d:List (bx×Int)}{g:List Bd}{m:List bH}{V:Nat->Nat->List aC}(f:eB d g)(E:nj (I d) an m=af)(G:pY d m=af)(D:BV (K (d,g)) V):
 (∀a (h:a<I d),e4 d[a].1.kind d[a].2=af)/\(∀c∈g,∀b∈m,(aW c.chunks (bO b.col) ir).bT.least.s.size<=aV/\(aW c.chunks (bO b.col) ir).bT.most.s.size<=aV)/\(∀b∈m,bg b.low.s<=aV/\bg b.high.s<=aV)/\(∀k,k<I g->∀b∈m,∀w,(aW (V k (bO b.col)) w ⟨aj,0,⟨#[]⟩⟩).s.size<=aV):=by
 have q:bg (⟨#[]⟩:ByteArray)<=aV:=by show 0<=_;omega
 have y:∀c∈g,I c.chunks=I d:=λc n=>by have:=(f.e7 c n).len;simpa using this
 have t:=(Cc.xG.1 E).2;refine⟨λa l=>?_,λc n b j=>?_,λb j=>?_,λk z b j w=>?_⟩;have:=f.pl.2.2 a (by simpa using l);simpa [ep,l] using this;have⟨s,i⟩:=t b j;have⟨a,l⟩:=uR s;have e:a<I d:=by omega
 have p:a<I c.chunks:=by rw[y c n];exact e
 have r:aW c.chunks (bO b.col) ir=c.chunks[a]:=by rw[l,ep];simp[p]
 rw[r];have x:=((f.e7 c n).each a p).b;have o:(aW (d.map bf) a ⟨⟨#[]⟩,0⟩).kind=d[a].1.kind:=by simp[ep,e]
 rw[o] at x;rcases x with h|⟨_,B,C,_⟩;rw[h];exact⟨q,q⟩;exact⟨HO (FA f.pl e) B,HO (FA f.pl e) C⟩;have i:=fA.1 G b j;have o:=Cc.zU f.pl (Cc.tH.2 (t b j));unfold oB at i;rw[fe] at i;have H:=Cc.z0 o i.1;have c:=Cc.z0 o i.2;unfold aV;omega;have⟨s,i⟩:=t b j;have⟨a,l⟩:=uR s;have e:a<I d:=by omega
 have p:a<g[k].chunks.length:=by rw[y _ (dm z)];exact e
 have u:=D k _ (dV z) a _ _ (dV p) (dV e);have r:bO b.col=a:=by omega
 rw[r,ep];cases v:(V k a)[w]? with
 |none=>exact q
 |some A=>
  rcases u with⟨J,_,_,_,F⟩|⟨u,_⟩;rcases F.ok A (oP v) with⟨_,_,h⟩|h;show bg A.s<=_;rw[h];exact q;exact HO (FA f.pl e) h;rw[u] at v;simp at v
def GF (fn:cF):cQ:=match fn.body with|some (aS a _)=>a|_=>ey
def GG (fn:cF):cQ:=match fn.body with|some (aS _ (aS a _))=>a|_=>ey
def GH (fn:cF):cQ:=match fn.body with|some (aS _ (aS _ (aS a _)))=>a|_=>ey
def GJ (fn:cF):cQ:=match fn.body with|some (aS _ (aS _ (aS _ (aS _ a))))=>a|_=>ey
def n_:(cV).body=K (aS (GF cV) (aS (GG cV) (aS (GH cV) (aS (aS (GI cV) (fT 0 (.loop (aS (Da cV) (aS (fT 1 (jv cV)) (Bw cV)))))) (GJ cV))))):=rfl
def ZV(a:ag){v:Nat->F}:(GF cV).wp (aH ax) (λd b c=>d=cX/\c=cG a (aq #[aF,aF,z9 0,z9 0] 84)/\Cc.Knows b 166 [(0,v 0),(1,v 1),(2,v 2),(3,v 3),(4,v 4),(10,(aK (U a.heap)))]/\bU b=[]) (e8 v) a:=by
 unfold GF cV e8;dsimp only;go_wp2_with fail;exact(((((iP Y Y).cons Y).cons Y).cons Y).cons Y).cons Y
def ZW{v:Nat->F}:(GG cV).wp (aH ax) (λc a b=>c=cX/\b=cG w (aq #[aF,aF,z9 0,z9 0] 84)/\Cc.Knows a 166 [(0,v 0),(1,v 1),(2,v 2),(3,v 3),(4,v 4),(10,v 10),(11,(aK (U w.heap)))]/\bU a=[]) (e8 v) w:=by
 unfold GG cV e8;dsimp only;go_wp2_with fail;exact((((((iP Y Y).cons Y).cons Y).cons Y).cons Y).cons Y).cons Y
def Z0{v:Nat->F}:(GH cV).wp (aH ax) (λc a b=>c=cX/\b=w/\Cc.Knows a 166 ((12,z9 0)::Mm v)/\bU a=[]) (e8 v) w:=by
 unfold GH cV e8;dsimp only;go_wp2_with fail;exact(((((((iP Y Y).cons Y).cons Y).cons Y).cons Y).cons Y).cons Y).cons Y
def Z2(a:ag){v:Nat->F}(b d:Nat)(g:Nat)(f:Nat)(ra e:Option aL)(l:v 10=(aK b))(o:v 11=(aK d))(k:a.heap[d]? =K (aq #[ah ra n g,ah e m f,z9 0,z9 M] 84 (0,0)))(j:a.heap[b]? =K (aq #[aF,aF,z9 0,z9 0] 84 (0,0))):
 (GJ cV).wp (aH ax) (λi c h=>i= .ret/\h=oA a b (ah ra n g) (ah e m f) (z9 0) (z9 M)/\Cc.Knows c 166 [(10,v 10)]/\bU c=[]) (e8 v) a:=by
 obtain⟨⟨u,w,x,y⟩,-⟩:=mU k;have⟨⟨p,q,r,s⟩,t⟩:=mU j;unfold e8;rw[l,o];unfold GJ cV;dsimp only;go_wp2_with fail;exact⟨rfl,iP Y Y⟩
def acG(a:ag):Td (cG (cG a (aq #[aF,aF,z9 0,z9 0] 84)) (aq #[aF,aF,z9 0,z9 0] 84)) (U a.heap) (U a.heap+1) (U a.heap+2) aF aF 0 [] []:=
 ⟨alloc_old aI (iI a _),B2 a,iS _ _ _ _,λg c=>absurd c aI,λe f i h d b=>by simp at b,iS _ _ _ _,aa⟩
def Y3(h:dZ n w u)(b:n<=U w.heap)(a:n<=m):dZ n w (oA u m v x y z):=by
 unfold oA;exact ku (ku (ku (ku h b a) b a) b a) b a
open Cc (kK hY pW uC rowsOf k8)
structure Own3(W:ag)(bse9:Nat)(rv nv:F)(L:List (List aC×F))(ns:List Int):Prop where
 rows:aT W bse9 43 1 rv (I L) (L.map dD)
 each:∀p∈L,aT W bse9 59 3 p.2 (I p.1) (bM p.1)
 fL:aT W bse9 3 1 nv (I ns) (cO ns)
def Own3.of{rv nv:F}{a:List (List aC×F)}(h:Td w n m k rv nv M a qZ):Own3 w k rv nv a qZ:=⟨h.rows,h.each,h.fL⟩
def Gf(h:aT w n Qd m v k S)(j:∀a,n<=a->a<U w.heap->u.heap[a]? =w.heap[a]?):aT u n Qd m v k S:=by
 obtain⟨e,h|⟨b,f,g,rfl,c,d,i⟩⟩:=h;exact⟨e,av h⟩;exact⟨e,ai ⟨b,f,g,rfl,c,aB (j b c (bE d)) d,i⟩⟩
def Own3.same{rv nv:F}{c:List (List aC×F)}(h:Own3 w n rv nv c qZ)(b:∀a,n<=a->a<U w.heap->u.heap[a]? =w.heap[a]?):Own3 u n rv nv c qZ:=⟨Gf h.rows b,λe d=>Gf (h.each e d) b,Gf h.fL b⟩
def acN(e:ag)(v:Nat->F)(b:List (bx×Int))(ad:Nat->ByteArray)(V:Nat->List aC)(N:Nat)(an:List Int)(i:List bH)(P u r c q E R O T bj bi bk:Nat)(bh rn rv nv:F)(C S:Int)(al:List (List aC×F))(bc:List Int)(pre:List Cc.cK)(first:Nat)(ao:Option aL)(cb bC bF:Nat)(ro:Option aL)(rb bL bD:Nat)(am:Array F)
 (bm:v 0=(aK P)) (ar:v 1=ah ao (I an) bF) (aF:v 2=ah ro (I i) bD) (br:v 4=z9 S) (aw:v 10=(aK c)) (aA:v 11=(aK q)) (aD:v 14=(aK u)) (bo:v 15=n9 first) (aE:v 17=aG r (I b) (I b))
 (bS:I an<=1000) (a8:I i<=aV) (b1:I b<=1000) (aI:N<=100) (bs:0<N)
 (bT:e.heap[P]? =K (aq #[aG R (I b) bj,aG O (I b) bi,bh,rn] 113 (0,0))) (H:∀a (h:a<I b),bl e R (a*2+1) (z9 b[a].1.kind)/\bl e O a (z9 b[a].2)/\bl e T (a*9+8) (ay (ad a))/\(ad a).size<=aV/\e4 b[a].1.kind b[a].2=af/\Cc.lI (ad a) b[a].1.kind b[a].2 (N:Int) (V a))
 (aR:e.heap[u]? =K (aq #[n9 N,aG T (I b) bk] 122 (0,0))) (Q:e.heap[r]? =K (aq am 43 (0,0))) (bK:am.size=I b)
 (w:Td e c q E rv nv C al bc) (b5:Told pre al bc) (a9:bI rv≠K r) (b2:I pre+N<=2000) (bV:first+N<=100000) (ck:E<=U e.heap) (a3:c<=q)
 (b3:cb<c/\rb<c/\P<c/\R<c/\O<c/\T<c/\c<r/\q<r/\u<r) (bQ:∀k∈an,0<=k/\k<(I b:Int)) (b7:∀x∈i,0<=x.col/\x.col<(I b:Int)) (bu:∀l,l<N->∀x∈i,(aW (V (bO x.col)) l ⟨aj,0,⟨#[]⟩⟩).s.size<=aV/\x.low.s.size<=aV/\x.high.s.size<=aV)
 (a0:0<I an->ao=K ⟨cb,bC,Z⟩) (a1:∀a,a<I an->bl e cb (bC+a) (z9 (aW an a 0))) (a6:dJ e ro rb bL i):
 (aS (Dl cV) (oD cV)).wp (aH ax) (λf t n=>
   (f=cX/\(∀d:Nat,d<I b->jA (d:Int) an i=af->I (V d)=N)/\(∃g dA dz m o,Td n c q E dA dz C m o/\dZ c e n/\Told g m o/\Cc.feed (λg=>decide ((I g:Int)≠S)) pre (Cc.jO (Cc.iL i λk l=>aW (V (bO k)) l ⟨aj,0,⟨#[]⟩⟩) (λl=>an.map λk=>aW (V (bO k)) l ⟨aj,0,⟨#[]⟩⟩) first 0 N)=(g,af))/\(∃ae,Cc.Knows t 166 ((22,ae)::kC v))/\bU t=[])\/
   (f= .ret/\(∀d:Nat,d<I b->jA (d:Int) an i=af->I (V d)=N)/\(∃g p dA dz m o,Td p c q E dA dz C m o/\dZ c e p/\Told g m o/\Cc.feed (λg=>decide ((I g:Int)≠S)) pre (Cc.jO (Cc.iL i λk l=>aW (V (bO k)) l ⟨aj,0,⟨#[]⟩⟩) (λl=>an.map λk=>aW (V (bO k)) l ⟨aj,0,⟨#[]⟩⟩) first 0 N)=(g,aj)/\n=oA p c dA dz (z9 0) (z9 C))/\Cc.Knows t 166 [(10,v 10)]/\bU t=[])\/
   (f= .ret/\(∃d:Nat,d<I b/\jA (d:Int) an i=af/\I (V d)≠N)/\dZ c e n/\(∀z,z<r->z≠c->z≠q->n.heap[z]? =e.heap[z]?)/\n.heap[c]? =K (aq #[rv,nv,z9 3,z9 C] 84 (0,0))/\Cc.Knows t 166 [(10,v 10)]/\bU t=[])) (e8 v) e:=by
 have⟨ba,bb,cl,cn,co,cp,cq,cr,cs⟩:=b3;have⟨ra,cx,a7⟩:=e9 w.rows;have⟨cu,cv,a4⟩:=e9 w.fL;have aU:=w.box;rw[a7,a4] at aU;refine jo (eH ?_ (l_ #[] bm ar aF aw aA aD aE fW a8 b1 aI bs bT H aR Q bK aU w.nt ⟨aa,aa,aa,aa,aa,aa,aa,aa,aa,w.lt.2.2⟩ a3 a0 a1 a6));rintro f be p (⟨rfl,J,⟨ch,bz,ci,aQ⟩,D,L⟩|⟨rfl,b4,bM,b0,a2,D,L⟩);rotate_left;rw[<-a7,<-a4] at a2;exact ai (ai ⟨rfl,b4,bM,b0,a2,D,L⟩);have A:=w.kp J Q a9;have G:dZ c e p:=(Kp.below J (uU (bE Q))).mono aa;have ca:=Kp.size J;have j:=λs b8=>D.slot s (v s) (ZS s b8);have B:=Kp.block J aR aa;have bP:∀a,a<I an->bl p cb (bC+a) (z9 (aW an a 0)):=λa bW=>(bA G (p:=⟨cb,bC+a,Z⟩) ba).trans (a1 a bW);have b6:dJ p ro rb bL i:=a6.kept ca (λ_=>cT G rb bb);show ja _ _ _ be _;rw[kw D.size L];refine eH ?_ (g_ ((j 1 az).trans ar) ((j 2 az).trans aF) ((j 4 az).trans br) ((j 10 az).trans aw) ((j 11 az).trans aA) ((j 14 az).trans aD) ((j 15 az).trans bo) ((j 17 az).trans aE)
  (λn dA dz H=>⟨Zc A bz a9 aa aQ bQ b7 a0 (λ_=>ba) bP b6 (λ_=>bb) n dA dz H,by
    have f:n.heap[u]? =p.heap[u]? :=H.keep u (bE B) (λf=>by have:=A.box;rw[<-f,B] at this;cases this) (λf=>dS A.rows B az (bq f)) (λf=>dS A.fL B az (bq f));show _=_;unfold ap;rw[f,B];rfl⟩) bu bS a8 A b5 b2 bV aI aa a3)
 have a5:∀d:Nat,d<I b->jA (d:Int) an i=af->I (V d)=N:=λd cc bv=>by
  have⟨cy,_,h,_⟩:=aQ d cc bv;exact h
 rintro f cf cd (⟨rfl,⟨g,dA,dz,m,o,W,X,Y,ab⟩,⟨ae,y⟩,M⟩|⟨rfl,⟨g,bd,dA,dz,m,o,W,X,Y,ab,rfl⟩,y,M⟩);rw[Am j] at y;exact av ⟨rfl,a5,⟨g,dA,dz,m,o,W,G.trans X.below,Y,ab⟩,⟨ae,y⟩,M⟩;rw[j 10 az] at y;exact ai (av ⟨rfl,a5,⟨g,bd,dA,dz,m,o,W,G.trans X.below,Y,ab,rfl⟩,y,M⟩)
def IA (h f:ag)(c p i:Nat)(n:List Cc.cK×Nat×Nat):Prop:=
 (∃e g a rv nv b d,Td g c p i rv nv ((a:Nat):Int) b d/\dZ c h g/\Told e b d/\n=(e,a,0)/\f=oA g c rv nv (z9 0) (n9 a))\/
 (∃e a ra o m j l k b d,Own3 f i (ah ra o m) (ah j l k) b d/\Told e b d/\n=(e,a,3)/\dZ c h f/\f.heap[c]? =K (aq #[ah ra o m,ah j l k,z9 3,z9 ((a:Nat):Int)] 84 (0,0)))
def acM(G:ag)(v:Nat->F)(sk:Bool)(L:Int)(w:List (bx×Int))(c:List Bd)(an:List Int)(e:List bH)(V:Nat->Nat->List aC)(S a8 aR bk bh:Nat)(aQ:Option aL)(aG gI:Nat)(ba bb:Nat->Nat)(rn:F)(aU:Option aL)(cb bC bF:Nat)(ro:Option aL)(rb bL bD u B z:Nat)(aD:bt)
 (a2:v 0=(aK S)) (O:v 1=ah aU (I an) bF) (C:v 2=ah ro (I e) bD) (cf:v 3=ak sk) (ch:v 4=z9 L) (cd:v 10=(aK u)) (bl:v 11=(aK B)) (bW:Cc.Knows aD 166 (Aj v 0 0)) (b6:bU aD=[])
 (bm:DM G u w c an e S a8 aR bk bh aQ aG gI ba bb rn aU cb bC ro rb bL) (l:FQ w c an e V) (cW:∀b∈c,1<=b.rows) (cs:∀f (h:f<I w),e4 w[f].1.kind w[f].2=af)
 (cn:∀b∈c,∀g∈e,(aW b.chunks (bO g.col) ir).bT.least.s.size<=aV/\(aW b.chunks (bO g.col) ir).bT.most.s.size<=aV) (bM:∀g∈e,g.low.s.size<=aV/\g.high.s.size<=aV) (c4:∀bP,bP<I c->∀g∈e,∀j,(aW (V bP (bO g.col)) j ⟨aj,0,⟨#[]⟩⟩).s.size<=aV)
 (ci:Td G u B z aF aF 0 [] []) (dp:z<=U G.heap) (bz:u<=B):
 (fT 0 (.loop (aS (Da cV) (aS (fT 1 (jv cV)) (Bw cV))))).wp (aH ax) (λN ab M=>
   (N=cX/\(∃d k rv nv q t,Td M u B z rv nv ((k:Nat):Int) q t/\dZ u G M/\Told d q t/\gK sk c an e (dy (I w) (an++e.map bH.col)) V (λd=>decide ((I d:Int)≠L)) 0 (I c) [] 0=(d,k,0))/\Cc.Knows ab 166 [(10,v 10),(11,v 11)]/\bU ab=[])\/
   (N= .ret/\IA G M u B z (gK sk c an e (dy (I w) (an++e.map bH.col)) V (λd=>decide ((I d:Int)≠L)) 0 (I c) [] 0)/\Cc.Knows ab 166 [(10,v 10)]/\bU ab=[])) aD G:=by
 generalize c2:gK sk c an e (dy (I w) (an++e.map bH.col)) V (λd=>decide ((I d:Int)≠L)) 0 (I c) [] 0=df;have c3:jv cV=aS (Db cV) (aS (Dc cV) (aS (Dd cV) (aS (De cV) (aS (C7 cV) (aS (C8 cV) (aS (C9 cV) (aS (Dl cV) (oD cV)))))))):=rfl;rw[c3];have⟨c6,c7,c8,c9,da⟩:=bm.lt;refine wp_block (wp_loop_ghost (λbQ aA M=>∃a:Nat,∃d k rv nv q t,bQ=I c-a/\a<=I c/\Cc.Knows aA 166 (Aj v a (k8 c a))/\bU aA=[]/\Td M u B z rv nv ((k:Nat):Int) q t/\dZ u G M/\Told d q t/\I d<=k8 c a/\k<=a/\gK sk c an e (dy (I w) (an++e.map bH.col)) V (λd=>decide ((I d:Int)≠L)) a (I c-a) d k=df) (I c) ⟨0,[],0,_,_,[],[],rfl,cH _,bW,b6,ci,bN _ _,⟨rfl,rfl⟩,cH _,aZ _,c2⟩ ?_);rintro bQ aA b1 ⟨a,d,k,rv,nv,q,t,rfl,dv,Q,b7,r,J,ao,dC,dw,m⟩;have cZ:=l.nb;have P:=bm.below J;have dJ:=J.size;have du:=bE r.nt;rw[kw Q.size b7];have bj:=λs n=>Q.slot s (v s) (Ml s n);refine jo (eH ?_ (Z3 b1 S aG a (I c) gI aQ ((bj 0 az).trans a2) (Q.slot 13 _ Y) (mU P.file).1.2.2.1 aa));rintro N b4 aw ⟨rfl,co,R,bi⟩;have A:=λs n=>(R.slot s _ (GN s n)).trans (bj s n);have ca:=(R.slot 12 _ Y).trans (Q.slot 12 _ Y);have a1:=(R.slot 13 _ Y).trans (Q.slot 13 _ Y);rcases co with⟨al,rfl⟩|⟨dt,rfl⟩;rotate_left;obtain rfl:a=I c:=aa;rw[Nat.sub_self] at m;exact av ⟨rfl,⟨d,k,rv,nv,q,t,r,J,ao,bq m⟩,(iP R.size (A 11 az)).cons (A 10 az),bi⟩;obtain⟨b,E⟩:∃b,c[a]? =K b:=⟨_,dV al⟩;have ad:=oP E;have⟨cp,cq,cr⟩:=P.d a b E;have bv:=Cc.Fa E;have dq:=Cc.E9 c (a+1);have dL:=l.tot;have am:=Cc.Dr E;have cv:aW c a ⟨0,[]⟩=b:=by rw[ep,E];rfl
 have c0:pW c e a=e.any λg=>jN (aW b.chunks (bO g.col) ir).bT g:=by unfold pW;rw[cv]
 rw[show I c-a=(I c-(a+1))+1 by omega] at m;simp only[gK,c0] at m;have bK:kK c an e V a=Cc.jO (Cc.iL e λi j=>aW (V a (bO i)) j ⟨aj,0,⟨#[]⟩⟩) (λj=>an.map λi=>aW (V a (bO i)) j ⟨aj,0,⟨#[]⟩⟩) (k8 c a) 0 b.rows:=by unfold kK;rw[am];rfl
 have bs:=P.file;rw[cp] at bs;show ja _ _ _ b4 _;rw[kw R.size bi];refine jo (wp_block (c_ aw sk e (λi=>⟨(aW b.chunks (bO i) ir).text.size,(aW b.chunks (bO i) ir).bT,(aW b.chunks (bO i) ir).text⟩) S a8 aG (I w) aR (I c) gI a b.rows (ba a) (bb a) (k8 c a) u B z k rn rv nv q t ro rb bL bD ((A 0 az).trans a2) ((A 2 az).trans C) ((A 3 az).trans cf) ((A 11 az).trans bl) ca a1 bs aa al cZ l.m aa aa cq cr l.rn P.nr (P.Vy l aa E) (λg X=>⟨cn b ad g X,bM g X⟩) r bz ?_ ?_));intro aE bd a5 bo o a0;rw[a5,if_pos Y] at m;show ja _ _ _ aE _;refine Mq (v:=v) (k:=a) (f:=k8 c (a+1)) aa (Df o.size (λs n=>(o.slot s _ (sH [(12,_)] aI s ?_)).trans (A s n)) ((o.slot 12 _ Y).trans (by rw[bv])) ((o.slot 13 _ Y).trans a1)) a0 λbe p H=>?_;simp only[gy,kZ,or_false] at n ⊢;omega;exact⟨I c-(a+1),aa,a+1,d,k,rv,nv,q,t,rfl,aa,p,H,r.below bo,J.trans (bo.mono aa),ao,aa,aa,m⟩
 .intro aE bd cc bS a5 y o a0;rw[a5,if_neg az] at m;have D:=P.below y.below;have⟨b5,ck,cl⟩:=y.arr;have⟨dr,cy,dK⟩:=y.lt;have x:∀s∈[0,1,2,3,4,10,11],Cc.cx aE s=v s:=λs n=>(o.slot s _ (sH [(17,_),(12,_),(15,_),(14,_)] aI s (by simp only[gy,kZ,or_false] at n ⊢;omega))).trans (A s n);have c1:=(D.lb a al).2;have ds:=bE r.box;rw[kw o.size a0];refine eH ?_ (acN bd _ w (λf=>(aW b.chunks f ir).text) (V a) b.rows an e S cc bS u B z a8 bk (ba a) aR bh (bb a) (ah aQ (I c) gI) rn rv nv ((k+1:Nat):Int) L q t d (k8 c a) aU cb bC bF ro rb bL bD b5
   ((x 0 az).trans a2) ((x 1 az).trans O) ((x 2 az).trans C) ((x 4 az).trans ch) ((x 10 az).trans cd) ((x 11 az).trans bl) (o.slot 14 _ Y) (o.slot 15 _ Y) (o.slot 17 _ Y)
   l.cn l.rn l.m (l.rows b ad) (cW b ad) D.file (λf W=>?_) y.box ck cl y.td ao (λN=>cA ((r.rows.lt bS N).2)) aa aa aa bz ⟨c9,da,c6,c7,c8,c1,aa,aa,cy⟩ l.ck l.rk (λj dx g X=>⟨c4 a al g X j,bM g X⟩) D.ca D.cc D.nr)
  rotate_left;have cN:f<I b.chunks:=bV (l.len b ad) W;have a7:b.chunks[f]? =K b.chunks[f]:=dV cN;have cM:aW b.chunks f ir=b.chunks[f]:=by rw[ep,a7];rfl
  have br:=l.dec a b E f _ _ a7 (dV W);simp only[cM];exact⟨(D.k f W).1,(D.k f W).2,D.p a b E f _ a7 8 _ Y,br.1,cs f W,br.2⟩;rintro N be b2 (⟨rfl,a4,⟨bc,dA,dz,ar,a9,a3,T,a6,ae⟩,⟨dO,p⟩,H⟩|⟨rfl,a4,⟨bc,b3,dA,dz,ar,a9,a3,T,a6,ae,rfl⟩,p,H⟩|⟨rfl,⟨Z,dg,di,dk⟩,T,cO,cu,p,H⟩);rw[if_pos (F5.2 λZ O C=>(a4 Z O C).trans (bq am)),bK,ae,if_pos Y] at m;have bu:=Cc.E3 (λd:List Cc.cK=>decide ((I d:Int)≠L)) (Cc.jO (Cc.iL e λi j=>aW (V a (bO i)) j ⟨aj,0,⟨#[]⟩⟩) (λj=>an.map λi=>aW (V a (bO i)) j ⟨aj,0,⟨#[]⟩⟩) (k8 c a) 0 b.rows) d;rw[ae] at bu;have dE:=Cc.GY (Cc.iL e λi j=>aW (V a (bO i)) j ⟨aj,0,⟨#[]⟩⟩) (λj=>an.map λi=>aW (V a (bO i)) j ⟨aj,0,⟨#[]⟩⟩) (k8 c a) b.rows 0;show ja _ _ _ be _;refine Mq (v:=v) (k:=a) (f:=k8 c (a+1)) aa (Df p.size (λs n=>(p.slot s _ (Bx s ?_)).trans (x s n)) ((p.slot 12 _ Y).trans ((o.slot 12 _ Y).trans (by rw[bv]))) ((p.slot 13 _ Y).trans ((o.slot 13 _ Y).trans a1))) H λdl b0 b8=>?_;simp only[gy,kZ,or_false] at n ⊢;omega;exact⟨I c-(a+1),aa,a+1,bc,k+1,dA,dz,ar,a9,rfl,aa,b0,b8,a3,(J.trans y.below).trans T,a6,by simp only at bu;omega,aa,m⟩;rw[if_pos (F5.2 λZ O C=>(a4 Z O C).trans (bq am)),bK,ae,if_neg (λh=>de h)] at m;rw[x 10 az] at p;exact ai ⟨rfl,av ⟨bc,b3,k+1,dA,dz,ar,a9,a3,(J.trans y.below).trans T,a6,bq m,rfl⟩,p,H⟩;rw[if_neg λh=>dk ((F5.1 h Z dg di).trans am)] at m;rw[x 10 az] at p;obtain⟨ra,dd,rfl⟩:=e9 r.rows;obtain⟨db,dc,rfl⟩:=e9 r.fL;have c5:∀b,z<=b->b<U aw.heap->b2.heap[b]? =aw.heap[b]? :=λb O C=>(cO b aa (cA r.lt) (cA r.lt)).trans (y.keep b C (cA r.lt));exact ai ⟨rfl,ai ⟨d,k+1,ra,I q,dd,db,I t,dc,q,t,(Own3.of r).same c5,ao,bq m,(J.trans y.below).trans T,cu⟩,p,H⟩
def Iz (e:ag)(i:List Cc.cK×Nat×Nat)(h:gN)(f:ag):Prop:=
 aD e f/\∃(d:List Cc.cK) (b g:Nat) (rv nv:F) (a:List (List aC×F)) (c:List Int),i=(d,b,g)/\h=aN (bZ #[rv,nv,n9 g,n9 b])/\Own3 f (U e.heap) rv nv a c/\Told d a c
def Td.YD{rv nv:F}{c:List (List aC×F)}(h:Td w n m k rv nv M c qZ)(p:n<=k)(d e f g:F):Own3 (oA w n d e f g) n rv nv c qZ:=by
 have⟨a,s,t⟩:=h.lt;have b:∀{i l j v o},aT w k i l v j o->aT (oA w n d e f g) n i l v j o:=λh=>yf (pX (pX (pX (pX h a) a) a) a) p;exact⟨b h.rows,λr q=>b (h.each r q),b h.fL⟩
def Zl(a:ag)(sk:Bool)(g:Int)(f:List (bx×Int))(c:List Bd)(an:List Int)(b:List bH)(V:Nat->Nat->List aC)(o a2 aQ a0 aG:Nat)(aA:Option aL)(aw gI:Nat)(a4 a5:Nat->Nat)(rn:F)(n:Option aL)(cb bC bF:Nat)(ro:Option aL)(rb bL bD:Nat)
 (bv:DM a (U a.heap) f c an b o a2 aQ a0 aG aA aw gI a4 a5 rn n cb bC ro rb bL) (bK:FQ f c an b V) (bW:∀E∈c,1<=E.rows) (bS:∀T (h:T<I f),e4 f[T].1.kind f[T].2=af)
 (bQ:∀E∈c,∀q∈b,(aW E.chunks (bO q.col) ir).bT.least.s.size<=aV/\(aW E.chunks (bO q.col) ir).bT.most.s.size<=aV) (b1:∀q∈b,q.low.s.size<=aV/\q.high.s.size<=aV) (b4:∀a1,a1<I c->∀q∈b,∀W,(aW (V a1 (bO q.col)) W ⟨aj,0,⟨#[]⟩⟩).s.size<=aV):
 bc 35 #[(aK o),ah n (I an) bF,ah ro (I b) bD,ak sk,z9 g] a (Iz a (gK sk c an b (dy (I f) (an++b.map bH.col)) V (λd=>decide ((I d:Int)≠g)) 0 (I c) [] 0)):=by
 refine calls_of_wp aE.func35 n_ ?_;have k:=Cc.FC (aK o) (ah n (I an) bF) (ah ro (I b) bD) (ak sk) (z9 g) 166 az;generalize bu:(#[(aK o),ah n (I an) bF,ah ro (I b) bD,ak sk,z9 g]++jw (166-5) bR:Array F)=b7 at k;have R:({tmps:= #[(aK o),ah n (I an) bF,ah ro (I b) bD,ak sk,z9 g]++jw (cV.ntmps-5) bR,defers:=[]}:bt)=⟨b7,[]⟩:=by rw[<-bu];rfl
 show ja _ _ _ {tmps:= #[(aK o),ah n (I an) bF,ah ro (I b) bD,ak sk,z9 g]++jw (cV.ntmps-5) bR,defers:=[]} a;rw[R,kw k.size Y];refine jo (eH ?_ (ZV a));rintro z a9 a7 ⟨rfl,rfl,l,bd⟩;show ja _ _ _ a9 _;rw[kw l.size bd];refine jo (eH ?_ ZW);rintro z ba a8 ⟨rfl,rfl,i,be⟩;show ja _ _ _ ba _;rw[kw i.size be];refine jo (eH ?_ Z0);rintro z J b8 ⟨rfl,rfl,e,bh⟩;have bk:=(e.slot 0 _ Y).trans ((i.slot 0 _ Y).trans ((l.slot 0 _ Y).trans (k.slot 0 _ Y)));have bl:=(e.slot 1 _ Y).trans ((i.slot 1 _ Y).trans ((l.slot 1 _ Y).trans (k.slot 1 _ Y)));have bo:=(e.slot 2 _ Y).trans ((i.slot 2 _ Y).trans ((l.slot 2 _ Y).trans (k.slot 2 _ Y)));have br:=(e.slot 3 _ Y).trans ((i.slot 3 _ Y).trans ((l.slot 3 _ Y).trans (k.slot 3 _ Y)));have bs:=(e.slot 4 _ Y).trans ((i.slot 4 _ Y).trans ((l.slot 4 _ Y).trans (k.slot 4 _ Y)));have M:=(e.slot 10 _ Y).trans ((i.slot 10 _ Y).trans (l.slot 10 _ Y));have aU:_=cU (K ⟨U a.heap+1,0,Z⟩):=(e.slot 11 _ Y).trans ((i.slot 11 _ Y).trans (by simp));have bm:=e.slot 12 _ Y;have bM:=acG a;have N:aD a (cG (cG a (aq #[aF,aF,z9 0,z9 0] 84)) (aq #[aF,aF,z9 0,z9 0] 84)):=B3;have b2:U a.heap+2<=(cG (cG a (aq #[aF,aF,z9 0,z9 0] 84)) (aq #[aF,aF,z9 0,z9 0] 84)).heap.size:=aI;generalize cG (cG a (aq #[aF,aF,z9 0,z9 0] 84)) (aq #[aF,aF,z9 0,z9 0] 84)=a8 at*;have bz:=bv.below N;show ja _ _ _ J _;rw[kw e.size bh];refine jo (jo (eH ?_ Z1));rintro z ao am ⟨rfl,rfl,D,bi⟩;show ja _ _ _ ao _;have a3:∀y x,Cc.Knows y 166 [(10,Cc.cx J 10)]->IA am x (U a.heap) (U a.heap+1) (U a.heap+2) (gK sk c an b (dy (I f) (an++b.map bH.col)) V (λd=>decide ((I d:Int)≠g)) 0 (I c) [] 0)->bU y=[]->bU y=[]/\∃v,(dB cV y.tmps).run (aH ax) x=cm v x/\Iz a (gK sk c an b (dy (I f) (an++b.map bH.col)) V (λd=>decide ((I d:Int)≠g)) 0 (I c) [] 0) (aN v) x:=by
  intro y x a6 O aR;have A:=a6.slot 10 _ Y;rw[M] at A;unfold Cc.cx at A;rw[jh] at A;rcases O with⟨d,a7,j,rv,nv,m,p,G,P,S,C,rfl⟩|⟨d,j,ra,b6,w,t,b5,u,m,p,Q,S,C,P,bV⟩;obtain⟨ra,w,rfl⟩:=e9 G.rows;obtain⟨t,u,rfl⟩:=e9 G.fL;obtain⟨⟨X,ab,ad,ae⟩,-⟩:=mU (L1 (ah ra (I m) w) (ah t (I p) u) (z9 0) (n9 j) G.nt);refine⟨aR,bZ #[ah ra (I m) w,ah t (I p) u,z9 0,n9 j],?_,Y3 (N.trans P) (aZ _) (aZ _),d,j,0,_,_,m,p,C,rfl,G.YD aa _ _ _ _,S⟩;simp[dB,Tryz.results35,go_sem,A,X,ab,ad,ae];obtain⟨⟨X,ab,ad,ae⟩,-⟩:=mU bV;refine⟨aR,bZ #[ah ra b6 w,ah t b5 u,z9 3,n9 j],?_,N.trans P,d,j,3,_,_,m,p,C,rfl,⟨yf Q.rows aa,λW b0=>yf (Q.each W b0) aa,yf Q.fL aa⟩,S⟩;simp[dB,Tryz.results35,go_sem,A,X,ab,ad,ae]
 refine eH ?_ (acM am (Cc.cx J) sk g f c an b V o a2 aQ a0 aG aA aw gI a4 a5 rn n cb bC bF ro rb bL bD (U a.heap) (U a.heap+1) (U a.heap+2) ao bk bl bo br bs M aU (Df D.size (λs R=>D.slot s _ (GN s R)) ((D.slot 12 _ Y).trans bm) (D.slot 13 _ Y)) bi bz bK bW bS bQ b1 b4 bM b2 aa);rintro z ar H (⟨rfl,⟨d,j,rv,nv,m,p,B,bP,b3,C⟩,r,L⟩|⟨rfl,O,r,L⟩);rotate_left;exact a3 ar H r O L;obtain⟨ra,w,rfl⟩:=e9 B.rows;obtain⟨t,u,rfl⟩:=e9 B.fL;show ja _ _ _ ar _;rw[kw r.size L];refine eH ?_ (Z2 H (U a.heap) (U a.heap+1) w u ra t ((r.slot 10 _ Y).trans M) ((r.slot 11 _ Y).trans aU) B.box B.nt);rintro z bb ca ⟨rfl,rfl,al,bj⟩;rw[(r.slot 10 _ Y)] at al;exact a3 bb _ al (av ⟨d,H,j,_,_,m,p,B,bP,b3,C,rfl⟩) bj
def mK (b:List (F×F×F)):List F:=b.flatMap λa=>[ak aj,a.1,a.2.1,a.2.2]
theorem A6:∀a,I (mK a)=I a*4
 | []=>rfl
 |g::a=>by
  have:=A6 a;simp[mK] at this ⊢;omega
def Ut(b:List (F×F×F))(a:F×F×F):mK (b++[a])=mK b++[ak aj,a.1,a.2.1,a.2.2]:=by simp[mK]
def aE.Vj:((aH ax).info? 81).map (λa=>(jH a,a.size,jm a))=K (K (bZ #[ak aj,aF,aF,aF]),4,80):=aR
def yy (fn:cF):cQ:=match kA fn with
 |fT _ (aS (aS _ (.cond _ (aS _ a) _)) _)=>a
 |_=>ey
def UO(a:List F)(h:I a=n*4)(f g i j b c d e:F):gh (gh (gh (gh (a++[f,g,i,j]) (n*4) b) (n*4+1) c) (n*4+2) d) (n*4+3) e=a++[b,c,d,e]:=by
 rw[<-h];simp[List.set_append]
def LD(h:aT w 0 Qd 4 (aG n (m+1) k) (m+1) (S++[v,x,y,z]))(hx:I S=m*4)(a b c d:F):aT (m5 w n (m*4) [a,b,c,d]) 0 Qd 4 (aG n (m+1) k) (m+1) (S++[a,b,c,d]):=by
 have:=((((h.stored (m*4) a).1.stored (m*4+1) b).1.stored (m*4+2) c).1.stored (m*4+3) d).1;rw[UO S hx] at this;exact this
def S9(f:ag)(y:Nat->F){rv nv bk:F}{ra p d:Option aL}{gs:List (F×F×F)}(aA:I gs<=1000)(S:f.heap[n]? =K (aq #[ak aj,rv,nv,bk] 81 (0,0)))(bb:f.heap[m]? =K (aq #[ak aj,ah ra k i,ah p j a,ah d (I gs) wc] 81 (0,0)))(bs:n≠m)
 (bd:aT f 0 81 4 (ah d (I gs) wc) (I gs) (mK gs)) (aQ:bI (ah d (I gs) wc)≠K n) (bh:bI (ah d (I gs) wc)≠K m) (a1:y 9=(aK n)) (bj:y 13=(aK m)):
 Cc.Wr (aH ax) (yy dX) (λs B c=>s=cX/\(B.tmps.size=75/\bU B=[]/\cB B.tmps 5 bR=y 5/\cB B.tmps 7 bR=y 7/\cB B.tmps 9 bR=y 9/\cB B.tmps 11 bR=y 11/\cB B.tmps 12 bR=y 12)/\∃C,c.heap[n]? =K (aq #[ak aj,rv,nv,C] 81 (0,0))/\aT c 0 81 4 C (I gs+1) (mK (gs++[(ah ra k i,ah p j a,ah d (I gs) wc)]))/\(∀b:Nat,b<U f.heap->b≠n->bI (ah d (I gs) wc)≠K b->c.heap[b]? =f.heap[b]?)/\(∀b,bI C=K b->bI (ah d (I gs) wc)=K b\/U f.heap<=b)/\U f.heap<=U c.heap) (lu y) f:=by
 have⟨bF,bc,bx,bz,bC⟩:=eW aE.Vj;have bH:X (y 9=cU (K ⟨n,0,Z⟩)):=a1;unfold lu;rw[a1,bj];clear a1 bj;unfold yy kA dX;dsimp only;have bD:ap f ⟨m,3,Z⟩=K (ah d (I gs) wc):=by simp[ap,bb]
 have e:ap f ⟨n,3,Z⟩=K bk:=by simp[ap,S]
 have E:cE f ⟨n,3,Z⟩=aj:=by simp[cE,S]
 refine Cc.vI ?_;go_wp2_with fail;clear bD e E;have a6:=ek f n 3 _ _ (ah d (I gs) wc) S;have J:∀b:Nat,b≠n->(aY f ⟨n,3,Z⟩ (ah d (I gs) wc)).heap[b]? =f.heap[b]? :=λb h=>ei _ _ _ _ (by simpa using h);have bv:U f.heap<=(aY f ⟨n,3,Z⟩ (ah d (I gs) wc)).heap.size/\(aY f ⟨n,3,Z⟩ (ah d (I gs) wc)).heap.size<=U f.heap:=aI;have H:=aB (J m bs.symm) bb;have aD:aT (aY f ⟨n,3,Z⟩ (ah d (I gs) wc)) 0 81 4 (ah d (I gs) wc) (I gs) (mK gs):=ix bd λb _ _ h=>J b λs=>aQ (s▸h);generalize aY f ⟨n,3,Z⟩ (ah d (I gs) wc)=z at*;have G:z.heap[n]? =K (aq #[ak aj,rv,nv,ah d (I gs) wc] 81 (0,0)):=by rw[a6];rfl
 clear a6 S bd;have a7:∀c:ag,c.heap[n]? =K (aq #[ak aj,rv,nv,ah d (I gs) wc] 81 (0,0))->c.heap[m]? =K (aq #[ak aj,ah ra k i,ah p j a,ah d (I gs) wc] 81 (0,0))->ap c ⟨n,3,Z⟩=K (ah d (I gs) wc)/\ap c ⟨m,0,Z⟩=K (ak aj)/\ap c ⟨m,1,Z⟩=K (ah ra k i)/\ap c ⟨m,2,Z⟩=K (ah p j a)/\ap c ⟨m,3,Z⟩=K (ah d (I gs) wc):=λc w x=>by simp[ap,w,x]
 have aU:n<U z.heap:=bE G;have a0:m<U z.heap:=bE H;have O:X _:=a7;clear a7;refine Un.Yx (λc=>ap c ⟨n,3,Z⟩=K (ah d (I gs) wc)/\ap c ⟨m,0,Z⟩=K (ak aj)/\ap c ⟨m,1,Z⟩=K (ah ra k i)/\ap c ⟨m,2,Z⟩=K (ah p j a)/\ap c ⟨m,3,Z⟩=K (ah d (I gs) wc)) 9 (λbP=>?_) (λ_ _ l=>⟨rfl,l⟩);have Q:(λc:ag=>ap c ⟨n,3,Z⟩=K (ah d (I gs) wc)/\ap c ⟨m,0,Z⟩=K (ak aj)/\ap c ⟨m,1,Z⟩=K (ah ra k i)/\ap c ⟨m,2,Z⟩=K (ah p j a)/\ap c ⟨m,3,Z⟩=K (ah d (I gs) wc)) z.drew:=O.o z G H;have P:dF z.drew=dF z:=rfl;generalize z.drew=q at*;replace J:∀b:Nat,b≠n->q.heap[b]? =f.heap[b]? :=by rw[P];exact J
 rw[<-P] at bv H G aU a0;replace aD:aT q 0 81 4 (ah d (I gs) wc) (I gs) (mK gs):=ix aD λb _ _ _=>by rw[P]
 clear P;refine Un.pk 0 ?_;refine Un.ld [5,9] 1 ?_;refine Un.ld [5,9] 2 ?_;refine Un.pk 3 ?_;refine Un.on 4 λr o=>?_;go_simp;have V:∀b:Nat,b<U q.heap->(cG q (aq #[ak aj,aF,aF,aF] 81)).heap[b]? =q.heap[b]? :=λb h=>fM q _ b h;have bu:aT (cG q (aq #[ak aj,aF,aF,aF] 81)) 0 81 4 (ah d (I gs) wc) (I gs) (mK gs):=ix aD λb _ h _=>V b (bE h);have bo:=O.o (cG q (aq #[ak aj,aF,aF,aF] 81)) (aB (V n aU) G) (aB (V m a0) H);refine o.o _ _ (λ_=>bo) ?_;clear o r Q;try simp only[bw,ct,cj,b9]
 have bS:U q.heap<=(cG q (aq #[ak aj,aF,aF,aF] 81)).heap.size:=by simp
 have br:=iI q (aq #[ak aj,aF,aF,aF] 81);generalize cG q (aq #[ak aj,aF,aF,aF] 81)=bK at*;refine Un.one (i:=5) aR Y (λr o=>(step_append_lies _ (by rfl) _ _ 79 (by rfl) 0 81 bF _ 4 80 aE.underlying79 bc bx bz bC Y az _ (I gs) _ (by rfl) bu ⟨U q.heap,0,Z⟩ 1 1 [ak aj,aF,aF,aF] (by rfl) Y (y6 br) (by intro bT bi;simp at bi;rcases bi with rfl|rfl<;>rfl) az fW aa (cH _) _ rfl ?_));intro e A g ab a9 ao bM;have D:e≠n/\e≠m:=by
  rcases ao with l|l;exact⟨λs=>aQ (aB l (by rw[s])),λs=>bh (aB l (by rw[s]))⟩;omega
 have aC:∀b:Nat,b<U q.heap->bI (ah d (I gs) wc)≠K b->g.heap[b]? =q.heap[b]? :=λb h W=>aB (a9.block b aa (λs=>W s.symm)) (V b h);have R:=aB (aC n aU aQ) G;have ba:=aB (aC m a0 bh) H;have T:=O.o g R ba;refine o.o _ _ (λ_=>T) ?_;clear o r;try simp only[bw,ct,cj,b9]
 have Q:(λc:ag=>ap c ⟨n,3,Z⟩=K (ah d (I gs) wc)/\ap c ⟨m,0,Z⟩=K (ak aj)/\ap c ⟨m,1,Z⟩=K (ah ra k i)/\ap c ⟨m,2,Z⟩=K (ah p j a)/\ap c ⟨m,3,Z⟩=K (ah d (I gs) wc)) g:=T;refine Un.pk 6 ?_ (hy:=by intro bV;go_simp;rw[if_pos (by omega)]);refine Un.pk 8 ?_;have ad:∀c:ag,c.heap[e]? =g.heap[e]? ->c.there e (I gs*4) 4:=λc u t bc=>by
  have w:=s0 ab (I gs*4+t) (by omega);have x:=vV ab (I gs*4+t);have an:ni (ap g ⟨e,I gs*4+t,Z⟩)=af:=by
   rw[w,rX (by rw[A6];omega),A6,Nat.add_sub_cancel_left];have:t=0\/t=1\/t=2\/t=3:=aa;rcases this with rfl|rfl|rfl|rfl<;>rfl
  have bl:ap c ⟨e,I gs*4+t,Z⟩=ap g ⟨e,I gs*4+t,Z⟩:=by unfold ap;rw[u]
  have bm:cE c ⟨e,I gs*4+t,Z⟩=cE g ⟨e,I gs*4+t,Z⟩:=by unfold cE;rw[u]
  rw[bl,bm];exact⟨an,x⟩
 have a4:X _:=ad;have bQ:=a9.size;have a8:∀c:ag,c.heap[n]? =K (aq #[ak aj,rv,nv,aG e (I gs+1) A] 81 (0,0))->aT c 0 81 4 (aG e (I gs+1) A) (I gs+1) (mK gs++[ak aj,ah ra k i,ah p j a,ah d (I gs) wc])->(∀b:Nat,b≠n->b≠e->c.heap[b]? =g.heap[b]?)->U g.heap<=U c.heap->∃C,c.heap[n]? =K (aq #[ak aj,rv,nv,C] 81 (0,0))/\aT c 0 81 4 C (I gs+1) (mK (gs++[(ah ra k i,ah p j a,ah d (I gs) wc)]))/\(∀b:Nat,b<U f.heap->b≠n->bI (ah d (I gs) wc)≠K b->c.heap[b]? =f.heap[b]?)/\(∀b,bI C=K b->bI (ah d (I gs) wc)=K b\/U f.heap<=b)/\U f.heap<=U c.heap:=λc w x an bL=>by
  refine⟨_,w,by rw[Ut];exact x,λb h aA W=>aB (an b aA λs=>?_) (aB (aC b aa W) (J b aA)),λb h=>?_,aa⟩;rcases ao with l|l;exact W (aB l (by rw[s]));omega;cases h;exact ao.imp (λl=>l) (λl=>by show U f.heap<=e;omega)
 have a2:X _:=a8;have a3:X _:=ab;have am:ap g ⟨n,3,Z⟩=K (ah d (I gs) wc):=T.1;have E:cE g ⟨n,3,Z⟩=aj:=by simp[cE,R]
 clear ad a8 ab T;refine Un.pair (i:=7) (j:=9) aR Y Y (λr o=>?_) (λr o=>?_)
 .rw[if_pos (by kernel_rfl)];refine wp_store_mid 81 (.tmp 46) (.tmp 42) Y e (I gs*4) #[ak aj,ah ra k i,ah p j a,ah d (I gs) wc] aR aR (a4.o _ Y) aR (all_oneCell_toArray (by intro v M;simp at M;rcases M with rfl|rfl|rfl|rfl<;>rfl)) ?_;have u:∀b:Nat,b≠e->(m5 g e (I gs*4) [ak aj,ah ra k i,ah p j a,ah d (I gs) wc]).heap[b]? =g.heap[b]? :=λb h=>zA h _ _ _;have ar:=aB (u n D.1.symm) R;have L:(m5 g e (I gs*4) [ak aj,ah ra k i,ah p j a,ah d (I gs) wc]).heap.size=U g.heap:=by simp[m5]
  have ae:X _:=LD a3.o (A6 gs) (ak aj) (ah ra k i) (ah p j a) (ah d (I gs) wc);have aw:=O.o _ ar (aB (u m D.2.symm) ba);refine o.o _ _ (λ_=>aw) ?_;clear o r Q;have N:X _:=ar;have al:X _:=L;clear L ar am E;have am:=aw.1;have E:cE (m5 g e (I gs*4) [ak aj,ah ra k i,ah p j a,ah d (I gs) wc]) ⟨n,3,Z⟩=aj:=by simp[cE,N.o]
  clear aw;generalize m5 g e (I gs*4) [ak aj,ah ra k i,ah p j a,ah d (I gs) wc]=a5 at*;try simp only[bw,ct,cj,b9]
  refine Un.on 9 λr o=>?_;go_simp;refine o.o _ _ (λl=>absurd l az) ?_;clear o r;refine Un.done (by kernel_rfl) ?_ _;try simp only[bw,ct,cj,b9]
  refine⟨⟨rfl,rfl,rfl,rfl,rfl,rfl,rfl⟩,a2.o _ (by rw[ek a5 n 3 _ _ _ N.o];rfl) (ix ae.o λb _ _ h=>?_) (λb w x=>aB (ei _ _ _ _ (by simpa using w)) (u b x)) (by simp;rw[al.o];exact aZ _)⟩;cases h;exact ei _ _ _ _ (by simpa using D.1)
 rw[if_pos (by kernel_rfl)];go_simp;have u:∀b:Nat,b≠n->(aY g ⟨n,3,Z⟩ (aG e (I gs+1) A)).heap[b]? =g.heap[b]? :=λb h=>ei _ _ _ _ (by simpa using h);have N:X _:=ek g n 3 _ _ (aG e (I gs+1) A) R;have L:(aY g ⟨n,3,Z⟩ (aG e (I gs+1) A)).heap.size=U g.heap:=aI;have al:X _:=L;have be:aT (aY g ⟨n,3,Z⟩ (aG e (I gs+1) A)) 0 81 4 (aG e (I gs+1) A) (I gs+1) _:=ix a3.o λb _ _ h=>by cases h;exact u e D.1
 have ae:X _:=LD be (A6 gs) (ak aj) (ah ra k i) (ah p j a) (ah d (I gs) wc);have ad:=a4.o _ (u e D.1);refine o.o _ _ (λl=>absurd l az) ?_;clear o r Q L am E be;generalize aY g ⟨n,3,Z⟩ (aG e (I gs+1) A)=a5 at*;try simp only[bw,ct,cj,b9]
 refine Un.on 7 λr o=>?_;refine wp_store_mid 81 (.tmp 46) (.tmp 42) Y e (I gs*4) #[ak aj,ah ra k i,ah p j a,ah d (I gs) wc] aR aR ad aR (all_oneCell_toArray (by intro v M;simp at M;rcases M with rfl|rfl|rfl|rfl<;>rfl)) (o.o _ _ (λl=>absurd l az) ?_);clear o r;refine Un.done aR ?_ _;try simp only[bw,ct,cj,b9]
 exact⟨⟨rfl,rfl,rfl,rfl,rfl,rfl,rfl⟩,a2.o _ (aB (zA D.1.symm _ _ _) N.o) ae.o (λb w x=>aB (zA x _ _ _) (u b w)) (by simp[m5];rw[al.o];exact aZ _)⟩
def Di (fn:cF):cQ:=match fn.body with
 |some (aS a _)=>a
 |_=>ey
def Dj (fn:cF):cQ:=match fn.body with
 |some (aS _ (aS a _))=>a
 |_=>ey
def x6(h:U Q.tmps=n):Cc.Knows Q n []:=⟨h,λs v h=>by simp at h⟩
def zv(a:ag)(b:cz):(cG a b).heap[U a.heap]? =K b:=by
 show(iz a.heap b)[U a.heap]? =K b;simp
def uc(a:ag)(b:cz)(h:a.heap[n]? =K Ql):(cG a b).heap[n]? =K Ql:=by
 show(iz a.heap b)[n]? =K Ql;rw[p6,if_neg (cA ((dn.1 h).1))];exact h
structure Iu(W W':ag)(cu B:Nat)(most dp:Int):Prop where
 c4:W'.heap[U W.heap]? =K (aq #[(aK cu)] 74 (0,0))
 c5:W'.heap[U W.heap+1]? =K (aq #[z9 most] 3 (0,0))
 c6:W'.heap[U W.heap+2]? =K (aq #[z9 dp] 3 (0,0))
 c7:W'.heap[U W.heap+3]? =K (aq #[(aK B)] 31 (0,0))
 c8:W'.heap[U W.heap+4]? =K (aq #[ak aj,ah Z 0 0,ah Z 0 0,ah Z 0 0] 81 (0,0))
structure Ea(W W':ag):Prop where
 c9:W'.heap[U W.heap]? =K (aq #[ak aj,ah Z 0 0,ah Z 0 0,ah Z 0 0] 81 (0,0))
def Mr(a:ag)(c:Nat->F)(h:c 0=(aK n))(i:c 1=z9 M)(j:c 2=z9 qB)(k:c 3=(aK m)):
 (Di dX).wp (aH ax) (λg e d=>g=cX/\aD a d/\(Cc.Knows e 75 [(8,(aK (U a.heap+4))),(7,(aK (U a.heap+3))),(6,(aK (U a.heap+2))),(5,(aK (U a.heap+1))),(4,(aK (U a.heap)))]/\bU e=[])/\Iu a d n m M qB) (lu c) a:=by
 unfold lu;rw[h,i,j,k];unfold Di dX;dsimp only;go_wp2;have b:∀(a:ag) f,(a.alloc f).heap.size=U a.heap+1:=λa f=>aI;refine⟨(((((bN _ _).alloc (aZ _) _).alloc aI _).alloc bS _).alloc bS _).alloc bS _,((((x6 Y).cons Y).cons Y).cons Y).cons Y |>.cons Y,⟨uc _ _ (uc _ _ (uc _ _ (uc _ _ (zv _ _)))),?_,?_,?_,?_⟩⟩;have:=zv (a.alloc (aq #[(aK n)] 74)) (aq #[z9 M] 3);rw[b] at this;exact uc _ _ (uc _ _ (uc _ _ this));have:=zv ((a.alloc (aq #[(aK n)] 74)).alloc (aq #[z9 M] 3)) (aq #[z9 qB] 3);rw[b,b] at this;exact uc _ _ (uc _ _ this);have:=zv (((a.alloc (aq #[(aK n)] 74)).alloc (aq #[z9 M] 3)).alloc (aq #[z9 qB] 3)) (aq #[(aK m)] 31);rw[b,b,b] at this;exact uc _ _ this;have:=zv ((((a.alloc (aq #[(aK n)] 74)).alloc (aq #[z9 M] 3)).alloc (aq #[z9 qB] 3)).alloc (aq #[(aK m)] 31)) (aq #[ak aj,aF,aF,aF] 81);rw[b,b,b,b] at this;exact this
def Ms(b:ag)(a:Nat->F):
 (Dj dX).wp (aH ax) (λe d c=>e=cX/\aD b c/\(Cc.Knows d 75 [(9,(aK (U b.heap))),(8,a 8),(7,a 7),(6,a 6),(5,a 5),(4,a 4)]/\bU d=[])/\Ea b c) (lu a) b:=by
 unfold lu;unfold Dj dX;dsimp only;go_wp2;exact⟨pE (bN _ _) (aZ _) _,(((((x6 Y).cons Y).cons Y).cons Y).cons Y).cons Y |>.cons Y,⟨zv _ _⟩⟩
def Ce (e a:ag):Prop:=(∀(b:Nat) c d f,e.heap[b]? =K (aq c d f)->a.heap[b]? =K (aq c d f))/\U e.heap<=U a.heap
def Ce.trans(h:Ce w u)(a:Ce u W):Ce w W:=⟨λc d e f b=>a.1 _ _ _ _ (h.1 _ _ _ _ b),dW h.2 a.2⟩
def nW(h:Cc.RelB (Cc.fO w) w u):Ce w u:=⟨λb c d f a=>aB (h.at_ b (bE a)) a,h.size⟩
def ug(h:∀(a:Nat) b,w.heap[a]? =K b->Cc.cZ Qo b->u.heap[a]? =K b)(d:U w.heap<=U u.heap):Ce w u:=⟨λa e g f c=>h a _ c trivial,d⟩
def Cb(h:Cc.Un w u):Ce w u:=⟨λb c d f a=>h.row.1 a,Nat.le_of_eq (bq h.size)⟩
def Ce.cell(h:Ce w u)(a:ap w R=K v):ap u R=K v:=by
 unfold ap at a ⊢;cases b:w.heap[cD R]? with
 |none=>rw[b] at a;cases a
 |some c=>
  rw[b] at a;cases c<;>first|(cases a;done)|skip
  rw[h.1 _ _ _ _ b];exact a
def Ce.own(j:Ce w u)(h:aT w n Qd m v k S):aT u n Qd m v k S:=by
 obtain⟨d,⟨a,b⟩|⟨c,e,f,a,b,g,i⟩⟩:=h;exact⟨d,av ⟨a,b⟩⟩;exact⟨d,ai ⟨c,e,f,a,b,j.1 c _ _ _ g,i⟩⟩
def Ce.Bl(c:Ce w u){d:List bH}(h:dJ w O n m d):dJ u O n m d:=
 ⟨h.addr,λe=>cL (h.lt e) c.2,λb a=>c.cell (h.c0 b a),λb a=>c.cell (h.c1 b a),λb a=>c.cell (h.c2 b a),λb a=>c.cell (h.c3 b a),λb a=>c.cell (h.c4 b a),λb a=>c.cell (h.c5 b a),λb a=>c.cell (h.c6 b a)⟩
def iR:Nat->cQ->cQ
 |0,aS a _=>a
 |n+1,aS _ b=>iR n b
 |_,a=>a
def BC:Nat->cQ->cQ
 |0,a=>a
 |n+1,aS _ b=>BC n b
 |_,a=>a
def sc (b:Nat)(fn:cF):cQ:=match fn.body with|some a=>iR b a|none=>ey
def vC (b:Nat)(fn:cF):cQ:=match fn.body with|some a=>BC b a|none=>ey
def aad{a:List (List aC)}(f:zl w v a)(g:zl w x a)(c:I a<=aV)(d:∀k∈a,I k<=aV):bc 14 #[v,x] w λb e=>b=aN (ak af)/\∃j,e=cI w j:=by
 obtain⟨n,o,u,s,rfl,_,l⟩:=f;obtain⟨r,p,y,t,rfl,_,m⟩:=g;refine bG (aab c c d d l m) ?_;rintro b e ⟨q,rfl,h,i⟩;rw[h.2 Y];exact⟨rfl,i⟩
def Xh{a b:List bH}(h:(eZ a)[n]? =K v):(eZ (a++b))[n]? =K v:=by
 unfold eZ at h ⊢;rw[oN,tX (fF.1 h).1];exact h
end Ec
namespace Cc
open Go Go.Conc
open Go.RowKit (Below)
open Ec (sG aC bM eK kA gF bH dJ qv bx Bd dy)
def Yc{J:F->ag->Prop}{a:bt}{Q:List aO}{w:ag}(h:Twins Qo Qp){l:Nat}{b:Loop}(r:w.heap[l]? =K (fj b))(D:cZ Qo (fj b))(E:b.state≠.busy)(v:∀s,(b.pending.map bJ).toList++QO≠[bJ (.refuse s)])(k:nh Qo Qp J (Qg.at a ((b.pending.map bJ).toList++QO)) Q (kU w l (fj {b with state:=.exhausted}))):nh Qo Qp J (Qg.at a (.endRangeFunc l::QO)) Q w:=by
 intro I U;let i:aO:={Qg with roundOf:=Z};refine Bo (aU:=[]) (tops':=[]) (fr':=Qg.at a ((b.pending.map bJ).toList++QO)) (w':=kU w l (fj {b with state:=.exhausted})) h I Y (λf d=>⟨kU f l (fj {b with state:=.exhausted}),d.un.set l (by simp[pz]),λP=>.one ?_⟩) (λn=>?_) λN W=>k N trivial;have o:=run_endLoop (P:=Qo) (w:=Cc.sh P 0 f) (l:=l) (r:=b) (d.at_ l _ r D) E;exact stepR_endRangeFunc (P:=Qo) (b:=i) (a:=a) (k:=QO) (cs:=[fD]) o;have⟨_,s,G⟩:=n;exact v s G
def adU{J:F->ag->Prop}{b c:aO}{a:bt}{Q:List aO}{w:ag}{fn:cF}(h:Twins Qo Qp)(D:dj b=dM)(E:bU a=[])(i:Qo.funcs[b.fn]? =K fn)(ae:(dI QO (x5 Qo))=af)(P:eS Qo c [])(an:zq c)
 (am:∀k:ag,(∀(b:Nat) d,w.heap[b]? =K d->cZ Qo d->k.heap[b]? =K d)->(dB fn a.tmps).run Qo k=cm v k) (Z:Xe Qo Qp J (fO w) (dR c v) Q w):Xe Qo Qp J (fO w) {b.at a QO with mode:=jj} (c::Q) w:=by
 intro ab U N al;refine Bo (aU:=[c]) (tops':=[]) (fr':=dR c v) (w':=U) h ⟨⟨λr ad=>?_,λX n=>?_,av D⟩,λf i=>?_,P.bot⟩ Y (λar G=>⟨ar,G.un.two,λaC=>.one (step_leave_returned ⟨rfl,E,D,fn,i,am _ λb d I aa=>?_⟩)⟩) (λn=>?_) λaw _=>Z ab U N al;have:=fA.1 ae r ad;cases r<;>first|exact this|trivial|cases this
 have:X∈bU a:=n;rw[E] at this;cases this;simp at i;subst i;exact P.top;exact G.at_ b d (aB (N.at_ b (dn.1 I).1) I) aa;have⟨_,s,W⟩:=n;rcases an.2 with⟨az,r,aA,ao,o⟩|⟨l,ao,o⟩;simp[dR,o] at W;simp[dR,o] at W
def ZU (fn:cF):cQ:=match fn.body with
 |some (aS _ (aS _ (aS _ (aS _ (aS (aS _ (fT _ c)) _)))))=>c
 |_=>ey
def Dk (fn:cF):cQ:=match fn.body with
 |some (aS _ (aS _ (aS _ (aS _ (aS _ c)))))=>c
 |_=>ey
section
variable{Q:List aO}{w:ag}{a:bt}{c:aO}{l:List (bx×Int)}{A:List Bd}{an:List Int}{t:List bH}{j q p e z:Nat}{C:Option aL}{bP ew:Nat->Nat}{y:Option aL}{cb bC bF:Nat}{ro:Option aL}{rb bL bD:Nat}{V:Nat->Nat->List aC}{cW:Nat}{sk:Bool}{M x T O S u m:Nat}{R:Int}{g:F}{bW:List (F×Int)}{L H:Nat}
end
open Ec (Ck Di Dj Mr Ms Iu Ea lu)
def Fi:(ax.info? 81).map (·.size)=K 4:=aR
def UN:((aH ax).info? 81).map (·.size)=K 4:=aR
def OL:(dX.name == "runtime.NumGoroutine")=aj:=aR
section
variable{Q:List aO}{w:ag}{a:bt}{c:aO}
def i_{n b D:Nat}{rv nv h:F}(g:Knows a 75 [(9,(aK n)),(8,(aK b))])(C:bU a=[{target:=.collected D,args:= #[]}])(k:w.heap[D]? =K (kT (K [])))(s:w.heap[n]? =K (aq #[ak aj,rv,nv,h] 81 (0,0)))(o:w.heap[b]? =K (aq #[ak aj,aF,aF,aF] 81 (0,0)))(L:m3 rv=af)(H:m3 nv=af)(T:m3 h=af)(N:eS (aH ax) c [])(S:zq c)
 (G:∀i,(∀f,f<U w.heap->f≠D->f≠b->i.heap[f]? =w.heap[f]?)->U w.heap<=U i.heap->i.tape=w.tape->i.os=w.os->i.output=w.output->Xe (aH ax) ax J (fO i) (dR c (bZ #[ak aj,rv,nv,h])) Q i):
 Xe (aH ax) ax J (fO w) ((base 34).at a [bJ (Dk dX)]) (c::Q) w:=by
 have j:=me (aH ax) ax J;have Z:n<U w.heap:=(dn.1 s).1;have l:b<U w.heap:=(dn.1 o).1;have u:D<U w.heap:=(dn.1 k).1;have q:D≠b:=λm=>by rw[m,o] at k;cases k
 refine cy j (dP j [0,1] Y (nU j g Y (bZ #[ak aj,rv,nv,h]) (oz (cs:=[ak aj,rv,nv,h]) Y (g.of Y) Tryz.underlying81 Y Fi (ai Z) (wQ s)) λg=>?_));refine vh j (λab B=>eD B ff (λy=>y)) (n:=b) az Y Y l (aq #[ak aj,rv,nv,h] 81) trivial (vr (n:=b) (off:=0) (v:=bZ #[ak aj,rv,nv,h]) Y (g.of Y) (g.of Y) Fi (λad t=>by
  simp[jn] at t;rcases t with rfl|rfl|rfl|rfl;rfl;exact L;exact H;exact T) (ai l) o (aZ 4)) λae e=>?_
 refine dr j (vg j (OJ λal d=>?_));have X:=cL (cL l e.size) d.size;refine adT (by simp only[put_defers];exact C) (aB (d.at_ D u) (aB (e.at_ D (ai u) q) k)) aR Y λaa v P E M r O I R=>?_;replace g:=g.same P;have z:cq v b #[ak aj,rv,nv,h] 81:=aB (r b X (λm=>q (bq m))) (aB (d.at_ b l) e.set);exact adU fX Y E aE.func34 aR N S (λx A=>results_cell_row (P:=aH ax) Tryz.results34 _ x b 81 _ (0,0) _ (g.slot 8 _ Y) (A b _ z trivial) aE.underlying81 Y UN) (G v (λf p W V=>aB (r f (cL (cL p e.size) d.size) W) (aB (d.at_ f p) (e.at_ f (ai p) V))) (dW e.size (dW d.size M)) (aB O (aB d.tape e.tape)) (aB I (aB d.os e.os)) (aB R (aB d.output e.output)))
def j7 (e:Nat)(i:F)(h:List (F×Int))(b:Nat):Prop:=b=e\/bI i=K b\/∃g∈h,∃d f,g.1=aG b d f/\0<d
def GK{d:List (F×Int)}(h:eK n m k i j aF aF v [] d b):(b=n\/b=m\/b=k\/b=i)\/j7 j v d b:=by
 rcases h with h|h|h|h|h|h|h|h|⟨f,e,_⟩|h;exact av (av h);exact av (ai (av h));exact av (ai (ai (av h)));exact av (ai (ai (ai h)));exact ai (av h);cases h;cases h;exact ai (ai (av h));simp at e;exact ai (ai (ai h))
def JF(b:Nat){f:gw}(d:g9 Qo Qd=K (.func QF QG qW)):(uP (b+1) Qd (.func (.func f) #[] C) .nilFunc).run Qo u=cm aj u/\(uP (b+1) Qd (.func (.func f) #[] C) .nilFunc).events Qo u #[]=#[]:=by
 constructor<;>simp[uP,(uQ d u)]
def Yp{a:bt}{f:gw}(h:Qs.op= .binOp .eql Qd Qq Qr Qe)(hx:bp a Qq= .func (.func f) #[] C)(hy:bp a Qr= .nilFunc)(d:g9 Qo Qd=K (.func QF QG qW)):∀b,(bX (bp a) Qs).run Qo b=cm (fi (ak aj)) b/\(bX (bp a) Qs).events Qo b #[]=#[]:=λb=>by
 have e:(Op.equal Qd (.func (.func f) #[] C) .nilFunc).run Qo b=cm aj b:=(JF 9999 d).1;have g:(Op.equal Qd (.func (.func f) #[] C) .nilFunc).events Qo b #[]=#[]:=(JF 9999 d).2;unfold bX;constructor<;>simp[h,hx,hy,binOp,eqGuard,e,g]
end
end Cc
namespace Ec
open Go.RowKit Pk Pm
def iA.at_{W:ag}{gb b5 b6 b7 B:Nat}{most dp:Int}{wv rv nv iv:F}{L:List (List aC×F)}{c:List (F×Int)}(h:iA W gb b5 b6 b7 B most dp wv rv nv iv L qZ c)(a:eK gb b5 b6 b7 B rv nv iv L c n):∃e p,W.heap[n]? =K (aq e p (0,0)):=by
 rcases a with rfl|rfl|rfl|rfl|rfl|a|a|a|⟨o,m,a⟩|⟨f,j,y,t,i,g⟩;exact⟨_,_,h.box⟩;exact⟨_,_,h.c5⟩;exact⟨_,_,h.c6⟩;exact⟨_,_,h.c7⟩;exact⟨_,_,h.book.blk⟩;exact⟨_,_,(nX h.rows a).choose_spec⟩;exact⟨_,_,(nX h.fL a).choose_spec⟩;exact⟨_,_,(nX h.book.own a).choose_spec⟩;exact⟨_,_,(nX (h.each o m) a).choose_spec⟩;have⟨s,z,v,b,_,k⟩:=h.book.full f j;rw[i] at b;simp only[j9] at b;obtain⟨rfl,rfl,rfl⟩:=b;have⟨x,w,d,a,_⟩:=k g;simp only[iG,nM,and_true] at d;subst d;exact⟨_,_,a⟩
end Ec
namespace Cc
open Go Go.Conc Ec Pk
open Go.RowKit (Below)
structure og(W:ag)(ae4:Nat->Prop)(q:List cK)(rv nv:F):Prop where
 ex:∃L:List (List aC×F),aT W 0 43 1 rv (I L) (L.map dD)/\(∀p∈L,aT W 0 59 3 p.2 (I p.1) (bM p.1))/\L.map bf=q.map dD/\∀p∈L,∀b,bI p.2=K b->ae4 b
 fL:aT W 0 3 1 nv (I (q.map λx=>(x.1:Int))) (cO (q.map λx=>(x.1:Int)))
 zr:∀b,bI rv=K b->ae4 b
 zn:∀b,bI nv=K b->ae4 b
structure xF(W:ag)(ae4:Nat->Prop)(q:List cK)(wv:F)(gs:List (F×F×F)):Prop where
 own:aT W 0 81 4 wv (I gs) (mK gs)
 each:∀g∈gs,og W ae4 q g.1 g.2.1
 zw:∀b,bI wv=K b->ae4 b
section
variable{ae4 J:Nat->Prop}{q:List cK}{rv nv:F}{gs:List (F×F×F)}
def og.same(h:og W ae4 q rv nv)(c:∀a,ae4 a->W'.heap[a]? =W.heap[a]?):og W' ae4 q rv nv:=by
 have⟨⟨L,j,k,m,d⟩,n,e,f⟩:=h;exact⟨⟨L,ix j λa _ _ b=>c a (e a b),λi g=>ix (k i g) λa _ _ b=>c a (d i g a b),m,d⟩,ix n λa _ _ b=>c a (f a b),e,f⟩
def og.up(h:og W ae4 q rv nv)(c:∀a,ae4 a->J a):og W J q rv nv:=by
 have⟨⟨L,d,e,f,g⟩,i,j,k⟩:=h;exact⟨⟨L,d,e,f,λn m a b=>c a (g n m a b)⟩,i,λa b=>c a (j a b),λa b=>c a (k a b)⟩
def xF.same(h:xF W ae4 q wv gs)(b:∀a,ae4 a->W'.heap[a]? =W.heap[a]?):xF W' ae4 q wv gs:=
 ⟨ix h.own λa _ _ d=>b a (h.zw a d),λc e=>(h.each c e).same b,h.zw⟩
end
structure sS(W:ag)(b4 gb b5 b6 b7 B cu:Nat)(most:Int)(dp:Nat)(bW:List (F×Int))(wq pre:List cK)(wv rv nv iv:F)(L:List (List aC×F))(es':List (F×Int))(gs:List (F×F×F))(ae4:Nat->Prop):Prop where
 st:iA W gb b5 b6 b7 B most (dp:Int) wv rv nv iv L (pre.map λx=>(x.1:Int)) (bW++es')
 fs:L.map bf=pre.map dD
 len:I es'<=4*I pre+8000*dp
 c4:W.heap[b4]? =K (aq #[(aK cu)] 74 (0,0))
 z4:ae4 b4
 mW:xF W ae4 wq wv gs
 gl:I gs<=dp
 zc:∀b,ae4 b->(∃c t,W.heap[b]? =K (aq c t (0,0)))/\¬eK gb b5 b6 b7 B rv nv iv L (bW++es') b/\b≠cu
 lw:∀b,eK gb b5 b6 b7 B rv nv iv L (bW++es') b->b≠cu
 pl:I pre<=2000
section
variable{most:Int}{bW:List (F×Int)}{wq pre:List cK}{rv nv:F}{L:List (List aC×F)}{es':List (F×Int)}{gs:List (F×F×F)}{ae4:Nat->Prop}
def sS.same(h:sS W b4 gb b5 b6 b7 B cu most dp bW wq pre wv rv nv iv L es' gs ae4)(c:∀a,eK gb b5 b6 b7 B rv nv iv L (bW++es') a\/ae4 a->W'.heap[a]? =W.heap[a]?):sS W' b4 gb b5 b6 b7 B cu most dp bW wq pre wv rv nv iv L es' gs ae4:=
 ⟨h.st.same λa b=>c a (av b),h.fs,h.len,aB (c b4 (ai h.z4)) h.c4,h.z4,h.mW.same λa b=>c a (ai b),h.gl,λa b=>⟨by have⟨d,f,e⟩:=(h.zc a b).1;exact⟨d,f,aB (c a (ai b)) e⟩,(h.zc a b).2⟩,h.lw,h.pl⟩
def sS.wB(h:sS W b4 gb b5 b6 b7 B cu most dp bW wq pre wv rv nv iv L es' gs ae4)(c:eK gb b5 b6 b7 B rv nv iv L (bW++es') n\/ae4 n):∃a d,W.heap[n]? =K (aq a d (0,0)):=eD c h.st.at_ λb=>(h.zc n b).1
def sS.lt(h:sS W b4 gb b5 b6 b7 B cu most dp bW wq pre wv rv nv iv L es' gs ae4)(a:eK gb b5 b6 b7 B rv nv iv L (bW++es') n\/ae4 n):n<U W.heap/\n≠cu:=by
 have⟨d,e,c⟩:=h.wB a;exact⟨(dn.1 c).1,eD a (h.lw n) λb=>(h.zc n b).2.2⟩
end
structure kD(l D b4 gb b5 b6 b7 B cu:Nat)(most:Int)(dp:Nat)(r:Loop)(bW:List (F×Int))(eG:F)(q:Array F)(wq pre:List cK)(M:Nat->Prop)(W:ag):Prop where
 hl:W.heap[l]? =K (fj (recAt r most (I pre)))
 hD:W.heap[D]? =K (kT (K []))
 hc:∃n e:Nat,W.heap[cu]? =K (aq (fJ q n e) 119 (0,0))
 ex:∃wv rv nv iv L es' gs ae4,sS W b4 gb b5 b6 b7 B cu most dp bW wq pre wv rv nv iv L es' gs ae4/\((pre=[]->es'=[]/\iv=eG)/\∀b,(ae4 b\/bI rv=K b\/bI nv=K b\/∃p∈L,bI p.2=K b)->b=b4\/l<b)/\∀b,M b↔b=l\/b=D\/b=cu\/eK gb b5 b6 b7 B rv nv iv L (bW++es') b\/ae4 b
section
variable{l D:Nat}{most:Int}{r:Loop}{bW:List (F×Int)}{eG:F}{q:Array F}{wq pre:List cK}{M:Nat->Prop}{Q u:ag}
def kD.keeps(h:kD l D b4 gb b5 b6 b7 B cu most dp r bW eG q wq pre M W)(c:∀a,M a->W'.heap[a]? =W.heap[a]?):kD l D b4 gb b5 b6 b7 B cu most dp r bW eG q wq pre M W':=by
 have⟨e,f,⟨m,d,g⟩,wv,rv,nv,iv,L,es',gs,ae4,i,j,b⟩:=h;exact⟨aB (c l ((b l).2 (av Y))) e,aB (c D ((b D).2 (ai (av Y)))) f,⟨m,d,aB (c cu ((b cu).2 (ai (ai (av Y))))) g⟩,wv,rv,nv,iv,L,es',gs,ae4,i.same λa k=>c a ((b a).2 (ai (ai (ai k)))),j,b⟩
def kD.lt(h:kD l D b4 gb b5 b6 b7 B cu most dp r bW eG q wq pre M W)(a:Nat)(b:M a):a<U W.heap:=by
 have⟨c,d,⟨k,i,e⟩,wv,rv,nv,iv,L,es',gs,ae4,f,j,g⟩:=h;rcases(g a).1 b with rfl|rfl|rfl|b;exact(dn.1 c).1;exact(dn.1 d).1;exact(dn.1 e).1;exact(f.lt b).1
def kD.K2(h:kD l D b4 gb b5 b6 b7 B cu most dp r bW eG q wq pre M W)(o:r5 r b5 b6 b7 gb)(a:Mk (aH ax) Q W):kD l D b4 gb b5 b6 b7 B cu most dp r bW eG q wq pre M Q:=by
 have⟨f,g,⟨p,e,i⟩,wv,rv,nv,iv,L,es',gs,ae4,b,k,j⟩:=h;refine⟨a.at_ l _ f (GW o _),a.at_ D _ g (λt n=>de n),⟨p,e,a.at_ cu _ i trivial⟩,wv,rv,nv,iv,L,es',gs,ae4,b.same λd m=>?_,k,j⟩;have⟨s,v,c⟩:=b.wB m;exact aB (a.at_ d _ c trivial) (bq c)
def kD.Om(h:kD l D b4 gb b5 b6 b7 B cu most dp r bW eG q wq pre M W)(a:Un W u):kD l D b4 gb b5 b6 b7 B cu most dp r bW eG q wq pre M u:=by
 have⟨e,f,⟨m,d,g⟩,wv,rv,nv,iv,L,es',gs,ae4,b,j,i⟩:=h;refine⟨a.o e (by simp[pz]),a.o f (by simp[pz]),⟨m,d,a.row.1 g⟩,wv,rv,nv,iv,L,es',gs,ae4,b.same λn k=>?_,j,i⟩;have⟨o,p,c⟩:=b.wB k;exact aB (a.row.1 c) (bq c)
def kD.cur:Ia (kD l D b4 gb b5 b6 b7 B cu most dp r bW eG q wq) Qa w cu q:=by
 refine⟨λpre M W c _=>c.hc,λpre M W W' n a c _ f _ m=>?_⟩;have⟨d,e,⟨p,o,h⟩,wv,rv,nv,iv,L,es',gs,ae4,i,k,b⟩:=c;refine⟨aB (f l ((b l).2 (av Y)) λa=>?_) d,aB (f D ((b D).2 (ai (av Y))) λa=>?_) e,⟨n,a,m⟩,wv,rv,nv,iv,L,es',gs,ae4,i.same λg j=>f g ((b g).2 (ai (ai (ai j)))) λa=>?_,k,b⟩;rw[a,h] at d;cases d;rw[a,h] at e;cases e;exact(i.lt j).2 a
def mX (l D b4 gb b5 b6 b7 B cu:Nat)(most:Int)(dp:Nat)(r:Loop)(bW:List (F×Int))(eG:F)(q:Array F)(wq pre:List cK)(M:Nat->Prop)(W:ag)(c:Nat)(d:List aC)(v:F)(W':ag):Prop:=
 ∃b,kD l D b4 gb b5 b6 b7 B cu most dp r bW eG q wq (pre++[(c,d)]) b W'/\(∀a,a<U W.heap->¬M a->K a≠bI v->W'.heap[a]? =W.heap[a]?)/\∀a,b a->M a\/K a=bI v\/U W.heap<=a
end
section
variable{l D z A S T O R:Nat}{J:Int}{a:Nat}{r:Loop}{bW:List (F×Int)}{eG:F}{q:Array F}{d pre:List cK}{M:Nat->Prop}{C k u:ag}{i rv nv f:F}{L:List (List aC×F)}{H:List (F×Int)}{j:List (F×F×F)}{ae4:Nat->Prop}{y:Nat}{Q:List aC}{v:F}
def Jn(p:W.heap[l]? =K (fj {r with state:=.busy}))(x:W.heap[D]? =K (kT (K [])))(h:∃ad g:Nat,W.heap[R]? =K (aq (fJ q ad g) 119 (0,0)))(m:sS W z A S T O B R J a bW d pre i rv nv f L H j ae4)(n:∀b,M b↔b=l\/b=D\/b=R\/eK A S T O B rv nv f L (bW++H) b\/ae4 b)(G:∀b,(ae4 b\/bI rv=K b\/bI nv=K b\/∃ae∈L,bI ae.2=K b)->b=z\/l<b)(aU:I pre<2000)
 (a0:aT W 0 59 3 v (I Q) (bM Q)) (aC:∀an,bI v=K an->¬M an) (hP:yM W A S T O B J (a:Int) i rv nv f L (pre.map λaR=>(aR.1:Int)) (bW++H) y Q v C):
 C.heap[l]? =K (fj {r with state:=.busy})/\∀N:Loop,N=recAt r J (I pre+1)->mX l D z A S T O B R J a r bW eG q d pre M W y Q v (kU C l (fj N)):=by
 have⟨dA,dz,aa,am,V,ar,aE,E,a1,ab,aF,aG,aH⟩:=hP;have⟨ad,g,h⟩:=h;have F:∀{b:Nat} {aQ:cz},W.heap[b]? =K aQ->b<U W.heap:=λe=>(dn.1 e).1;have w:∀b,eK A S T O B rv nv f L (bW++H) b\/ae4 b->b≠l/\b≠D:=λb c=>by
  have⟨P,al,h⟩:=m.wB c;exact⟨λg=>(by rw[g,p] at h;cases h),λg=>(by rw[g,x] at h;cases h)⟩
 have t:∀b,M b->bI v≠K b:=λb c g=>aC b g c;have kl:C.heap[l]? =K (fj {r with state:=.busy}):=aB (E l (F p) (λc=>(w l (av c)).1 Y) (t l ((n l).2 (av Y)))) p;have aw:C.heap[D]? =K (kT (K [])):=aB (E D (F x) (λc=>(w D (av c)).2 Y) (t D ((n D).2 (ai (av Y))))) x;have X:∀b,ae4 b->C.heap[b]? =W.heap[b]? :=λb c=>E b (m.lt (ai c)).1 (m.zc b c).2.1 (t b ((n b).2 (ai (ai (ai (ai c))))));refine⟨kl,λN aD=>?_⟩;have o:∀b:Nat,b≠l->(kU C l (fj N)).heap[b]? =C.heap[b]? :=λb c=>y7 c;have aK:∀b,eK A S T O B dA dz aa (L++[(Q,am)]) (bW++H++V) b->b≠l/\b≠D:=λb c=>by
  have⟨P,al,h⟩:=ar.at_ c;exact⟨λg=>(by rw[g,kl] at h;cases h),λg=>(by rw[g,aw] at h;cases h)⟩
 refine⟨λb=>b=l\/b=D\/b=R\/eK A S T O B dA dz aa (L++[(Q,am)]) (bW++(H++V)) b\/ae4 b,⟨?_,aB (o D λg=>?_) aw,⟨ad,g,aB (o R λg=>?_) (aB (E R (F h) (λc=>m.lw R c Y) (t R ((n R).2 (ai (ai (av Y)))))) h)⟩,i,dA,dz,aa,L++[(Q,am)],H++V,j,ae4,⟨?_,?_,?_,?_,m.z4,?_,m.gl,λb c=>⟨?_,λe=>?_,(m.zc b c).2.2⟩,λb c g=>?_,?_⟩,⟨λe=>absurd e aI,λb c=>?_⟩,λb=>Iff.rfl⟩,λb c ao aA=>?_,λb c=>?_⟩;rw[show I (pre++[(y,Q)])=I pre+1 by simp,<-aD];exact World.putObj_heap_same (dn.1 kl).1;rw[g,p] at x;cases x;rw[g,p] at h;cases h;rw[<-ij,gD];exact ar.same λb c=>o b (aK b c).1;rw[gD,gD,m.fs];rfl;have:=m.len;rw[cJ,cJ,aE];simp;omega;exact aB (o z (w z (ai m.z4)).1) (aB (X z m.z4) m.c4);exact m.mW.same λb c=>aB (o b (w b (ai c)).1) (X b c);have⟨P,al,h⟩:=(m.zc b c).1;exact⟨P,al,aB (o b (w b (ai c)).1) (aB (X b c) h)⟩;rw[<-ij] at e;rcases ab b e with e|e|e;exact(m.zc b c).2.1 e;exact t b ((n b).2 (ai (ai (ai (ai c))))) e;have:=(m.lt (ai c)).1;omega;rw[<-ij,g] at c;rcases ab R c with e|e|e;exact m.lw R e Y;exact t R ((n R).2 (ai (ai (av Y)))) e;have:=F h;omega;simp;omega;have Z:U W.heap<=b->b=z\/l<b:=λe=>ai (cA (F p));rcases c with e|e|e|⟨ae,s,e⟩;exact G b (av e);exact eD (aF b e) (λe=>G b (ai (av e))) Z;exact eD (aG b e) (λe=>G b (ai (ai (av e)))) Z;rcases eP.1 s with s|s;exact G b (ai (ai (ai ⟨ae,s,e⟩)));rw[v5] at s;subst s;exact Z (aH b e);have az:b≠l:=λg=>ao ((n b).2 (av g));exact aB (o b az) (E b c (λe=>ao ((n b).2 (ai (ai (ai (av e)))))) (λg=>aA (bq g)));rcases c with rfl|rfl|rfl|c|c;exact av ((n _).2 (av Y));exact av ((n _).2 (ai (av Y)));exact av ((n _).2 (ai (ai (av Y))));rw[<-ij] at c;rcases ab b c with e|e|e;exact av ((n b).2 (ai (ai (ai (av e)))));exact ai (av (bq e));exact ai (ai e);exact av ((n b).2 (ai (ai (ai (ai c)))))
def ZK{g:LoopState}(e:r5 r S T O A):({({r with state:=g}:Loop) with state:=.ready,pending:=Z}:Loop)=r:=by
 have⟨h,m,n,o,p,s,t,w⟩:=r;have b:=e.st;have c:=e.pn;simp only at b c;subst b c;rfl
def Jm(m:r5 r S T O A)(e:C.heap[l]? =K (fj {r with state:=.busy}))(hP:∀h:Loop,h=recAt r J (I pre+1)->mX l D z A S T O B R J a r bW eG q d pre M W y Q v (kU C l (fj h))):
 (((I pre+1:Nat):Int)≠J->∃b,(tQ l Z).run (aH ax) C=cm (ak (gU J (pre++[(y,Q)]))) b/\mX l D z A S T O B R J a r bW eG q d pre M W y Q v b)/\
 (((I pre+1:Nat):Int)=J->∃b,(tQ l (K (.exit 0))).run (aH ax) C=cm (ak (gU J (pre++[(y,Q)]))) b/\mX l D z A S T O B R J a r bW eG q d pre M W y Q v b):=by
 have g:(I (pre++[(y,Q)]):Int)=((I pre+1:Nat):Int):=aI;refine⟨λc=>?_,λc=>?_⟩;rw[show gU J (pre++[(y,Q)])=af by simp only[gU,g,c,decide_false,Bool.not_false]];refine⟨_,run_endRound (P:=aH ax) Z e,hP _ ?_⟩;unfold recAt;rw[if_neg c];exact ZK m;rw[show gU J (pre++[(y,Q)])=aj by simp only[gU,g,c,decide_true,Bool.not_true]];refine⟨_,run_endRound (P:=aH ax) (K (.exit 0)) e,hP _ ?_⟩;unfold recAt;rw[if_pos c];rfl
end
end Cc
namespace Ec
open Go.RowKit Pk Pm
def Jl(W:ag)(b:Nat->F){Q:Exit->bt->ag->Prop}(h:∀a:bt,U a.tmps=75->bU a=[]->(∀c∈[4,5,6,7,9],cB a.tmps c bR=b c)->cB a.tmps 11 bR=b 22->cB a.tmps 12 bR=b 23->Q cX a W):Cc.Wr (aH ax) (sG dX) Q (lu b) W:=by
 unfold lu sG dX;dsimp only;refine Cc.vI ?_;go_wp2_with fail;refine Cc.OA ?_;go_wp2_with fail;refine h _ Y Y (λc e=>?_) Y Y;simp only[gy,kZ,or_false] at e;rcases e with rfl|rfl|rfl|rfl|rfl<;>rfl
end Ec
namespace Cc
open Go Go.Conc Ec Pk
open Go.RowKit (Below)
section
variable{l D z A S T O y:Nat}{J:Int}{x:Nat}{r:Loop}{bW:List (F×Int)}{eG:F}{q:Array F}{d pre:List cK}{M j:Nat->Prop}{p C:ag}{H:List aC}{v:F}
def mX.back(h:mX l D z A S T O B y J x r bW eG q d pre j p nm H v C)(o:U W.heap<=U p.heap)(c:∀a,j a->M a\/U W.heap<=a)(m:∀a,a<U W.heap->¬M a->p.heap[a]? =W.heap[a]?):mX l D z A S T O B y J x r bW eG q d pre M W nm H v C:=by
 have⟨f,g,i,k⟩:=h;exact⟨f,g,λa b e n=>aB (i a aa (λh=>eD (c a h) e (λh=>aa)) n) (m a b e),λa b=>eD (k a b) (λh=>(c a h).imp_right ai) (λh=>eD h (λh=>ai (av h)) (λh=>ai (ai aa)))⟩
def Mf(c:r5 r S T O A)(nm:Nat)(v:F):∃b:Array F,(r.params.zip #[n9 nm,v]).foldl (λi (h,e)=>cS i h e) r.tmps=b/\U b=75/\(∀a:Nat,a≠22->a≠23->cB b a bR=cB r.tmps a bR)/\cB b 22 bR=n9 nm/\cB b 23 bR=v:=by
 refine⟨cS (cS r.tmps 22 (n9 nm)) 23 v,?_,?_,λa f g=>?_,?_,?_⟩;rw[c.ps];simp;simp[c.sz];rw[jh,nI,if_neg (Ne.symm g),nI,if_neg (Ne.symm f),<-jh];rw[jh,nI,if_neg az,nI,if_pos Y,if_pos (by simp[c.sz])];rfl;rw[jh,nI,if_pos Y,if_pos (by simp[c.sz])];rfl
def S7(f:r5 r S T O A)(aR:kD l D z A S T O B y J x r bW eG q d pre M W)(aQ:gU J pre=af)(a4:I pre<2000)(a7:nm<=1000000)(bc:I H<=1000)(bK:I bW<=40000000000)(bH:x<=2)(a8:pre=[]->x=0)(be:aT W 0 59 3 v (I H) (bM H))(N:∀k,bI v=K k->¬M k)(s:aO)(w:List aO)(e:Tp):
 ∃C,mX l D z A S T O B y J x r bW eG q d pre M W nm H v C/\Steps (aH ax) (lone (mZ l r.fn ((r.params.zip #[n9 nm,v]).foldl (λbr (an,X)=>cS br an X) r.tmps) r.assign r.body dM) (s::w) (Cc.sh e 0 W)) (lone (dR s (ak (gU J (pre++[(nm,H)])))) w C):=by
 have⟨h,E,m,bQ,rv,nv,bh,V,ab,bF,ao,t,aG,G⟩:=aR;have a6:¬(I pre:Int)=J:=by simpa [gU] using aQ
 have bb:recAt r J (I pre)=r:=by unfold recAt;rw[if_neg a6]
 rw[bb] at h;have F:I V=I pre:=by
  have:=congrArg I t.fs;simpa using this
 have a3:l<U W.heap:=(dn.1 h).1;have am:M l:=(G l).2 (av Y);have⟨bo,aD,aC,bk,bl,bm⟩:=Mf f nm v;rw[aD];obtain⟨bL,C,⟨rfl,aU⟩,bd⟩:=o_ (P:=aH ax) (l:=l) (f:=r.fn) (tmps:=bo) (assign:=r.assign) (body:=r.body) (w:=Cc.sh e 0 W) (R:=λbs C=>bs=ak (gU J (pre++[(nm,H)]))/\mX l D z A S T O B y J x r bW eG q d pre M W nm H v C) (by
  rw[f.AT,f.bd];refine vH aC Y (Jl _ _ λar bv bC zz bx bz=>⟨_,run_beginRound (P:=aH ax) (w:=Cc.sh e 0 W) (l:=l) (r:=r) h f.st,(vH bv bC ?_)⟩);have o:∀a:Nat,a≠l->(kU (Cc.sh e 0 W) l (fj {r with state:=.busy})).heap[a]? =W.heap[a]? :=λa c=>y7 (w:=Cc.sh e 0 W) c;have bu:(kU (Cc.sh e 0 W) l (fj {r with state:=.busy})).heap[l]? =K (fj {r with state:=.busy}):=World.putObj_heap_same (w:=Cc.sh e 0 W) a3;have bP:(kU (Cc.sh e 0 W) l (fj {r with state:=.busy})).heap.size=U W.heap:=World.putObj_size (w:=Cc.sh e 0 W);generalize kU (Cc.sh e 0 W) l (fj {r with state:=.busy})=p at*;have aw:∀a,eK A S T O B rv nv bh V (bW++ab) a\/ao a->a≠l:=λa c b=>by
   have⟨s,an,ae⟩:=t.wB c;rw[b,h] at ae;cases ae
  have ad:=t.same (W':=p) λa c=>o a (aw a c);have aK:=aB (o D λb=>by rw[b,h] at E;cases E) E;have a0:∃P b:Nat,cq p y (fJ q P b) 119:=by
   have⟨P,b,m⟩:=m;exact⟨P,b,aB (o y λb=>by rw[b,h] at m;cases m) m⟩
  have al:aT p 0 59 3 v (I H) (bM H):=Ec.ix be λa _ _ c=>o a λb=>N a c (b▸am);have a1:I (bW++ab)<=50000000000:=by
   have:=t.len;rw[cJ];omega
  have u:∀n∈[4,5,6,7,9],cB ar.tmps n bR=cB r.tmps n bR:=λn L=>aB (zz n L) (bk n (λb=>by subst b;simp at L) (λb=>by subst b;simp at L));refine Wr.mono (S3 p _ (nm:=nm) ad.st (by simp[F]) aa a1 a7 bc (aB (u 5 aI) f.k5) (aB (u 6 aI) f.k6) (aB (u 7 aI) f.k7) (aB (u 9 aI) f.k9) (aB bx bl) (aB bz bm) (λaF=>by rw[a8 (vX.1 (F▸aF))];rfl) al (λk a2 c=>N k a2 ((G k).2 (ai (ai (ai (av c))))))) λb X bD ba=>?_;have⟨i,a9⟩:=ba;have⟨bi,bj⟩:=Jn (r:=r) (eG:=eG) bu aK a0 ad G aG.2 a4 al N a9;have⟨az,aA⟩:=Jm f bi bj;have Z:∀{g},mX l D z A S T O B y J x r bW eG q d pre M p nm H v g->mX l D z A S T O B y J x r bW eG q d pre M W nm H v g:=λaE=>aE.back aa (λa c=>av c) (λa c a5=>o a λb=>a5 (b▸am));rw[F] at i;rcases i with⟨rfl,i⟩|⟨rfl,i⟩;have⟨g,Q,R⟩:=az i;exact⟨_,g,Q,rfl,Z R⟩;have⟨g,Q,R⟩:=aA i;exact⟨_,g,Q,rfl,Z R⟩) s w
 exact⟨C,aU,bd⟩
end
def LA{P:bn}{N:bt->ag->Prop}(b:List cC)(a rest:List Nat)(hL:a.map (λc=>ops[c]?)=b.map K)(k:(dI ops.toList λi=> !x4 i.op)=af)(h:wpList P ops (Exit.then N λ_ _ _=>False) b Q w)(e:aO)(g:List ez)(f:List aO):
 ∃d j,N d j/\Steps P (lone (e.atR Q (bY ops (a++rest)::g)) f w) (lone (e.atR d (bY ops rest::g)) f j):=by
 refine Gd (Q:=Exit.then N λ_ _ _=>False) rest k (λ_ _ _ h=>h) (fun⟨_,_,h⟩=>h) a Q w ?_;have m:∀(b:List cC) (a:List Nat),a.map (λc=>ops[c]?)=b.map K->wpOps P ops (Exit.then N λ_ _ _=>False) a=wpList P ops (Exit.then N λ_ _ _=>False) b:=by
  intro b
  induction b with
  |nil=>
   intro a h;obtain rfl:a=[]:=cN h;funext Q w;rfl
  |cons i b l=>
   intro a h;cases a with
   |nil=>simp at h
   |cons c a=>
    simp only[kY,List.cons.injEq] at h;funext Q w;simp only[wpOps,h.1,wpList,l a h.2]
 rw[m b a hL];exact h
end Cc
namespace Ec
open Go.RowKit Pk Pm
def GQ (fn:cF):cQ:=match kA fn with
 |fT _ (aS (aS a _) _)=>a
 |_=>ey
def oC (fn:cF):Array cC:=match kA fn with
 |fT _ (aS (aS _ (.cond _ (aS (iB _ a _) _) _)) _)=>a
 |_=> #[]
def Zg:kA dX=fT 1 (aS (aS (GQ dX) (.cond (.tmp 31) (aS (iB 9 (oC dX) aj) (yy dX)) ey)) (uu dX)):=rfl
def D7 (c:List Nat)(d:Nat->F)(a:bt):Prop:=U a.tmps=75/\bU a=[]/\∀b∈c,cB a.tmps b bR=d b
def Te(a:ag)(b:Nat->F){ro:Option aL}{nv l:F}(i:0<M)(k:a.heap[n]? =K (aq #[ak aj,ah ro 0 bD,nv,l] 81 (0,0)))(j:a.heap[m]? =K (aq #[z9 M] 3 (0,0)))(e:b 6=(aK m))(f:b 9=(aK n)):
 Cc.Wr (aH ax) (GQ dX) (λh c g=>h=cX/\g=a/\D7 [4,5,6,7,9,11,12] b c/\bp c (.tmp 31)=ak af) (lu b) a:=by
 unfold lu;rw[e,f];have o:ap a ⟨n,1,Z⟩=K (ah ro 0 bD):=by simp[ap,k]
 have p:ap a ⟨m,0,Z⟩=K (aJ aM M):=by simp[ap,j]
 skip
 unfold GQ kA dX;dsimp only;refine Cc.OA ?_;go_wp2_with fail;refine⟨trivial,trivial,⟨rfl,rfl,λq d=>?_⟩,by simp[bp,i]⟩;simp only[gy,kZ,or_false] at d;rcases d with rfl|rfl|rfl|rfl|rfl|rfl|rfl;rfl;rfl;exact bq e;rfl;exact bq f;rfl;rfl
def Tc(a:ag)(b:Nat->F)(t:0<M/\M<=2)(g:a.heap[n]? =K (aq #[(aK i)] 74 (0,0)))(h:a.heap[m]? =K (aq #[z9 M] 3 (0,0)))(l:a.heap[k]? =K (aq #[(aK j)] 31 (0,0)))(o:b 4=(aK n))(p:b 6=(aK m))(e:b 7=(aK k)):
 wpList (aH ax) (oC dX) (Exit.then (λc f=>f=a/\D7 [5,7,9,11,12] b c/\bp c (.tmp 32)=(aK i)/\bp c (.tmp 34)=z9 (M-1)/\bp c (.tmp 35)=(aK j)) λ_ _ _=>False) ((oC dX).toList.take 4) (lu b) a:=by
 unfold lu;rw[o,p,e];have q:ap a ⟨n,0,Z⟩=K (aK i):=by simp[ap,g]
 have r:ap a ⟨m,0,Z⟩=K (aJ aM M):=by simp[ap,h]
 have s:ap a ⟨k,0,Z⟩=K (aK j):=by simp[ap,l]
 unfold oC kA dX;dsimp only[List.take];go_wp2_with fail;refine⟨trivial,⟨rfl,rfl,λu d=>?_⟩,rfl,rfl,rfl⟩;simp only[gy,kZ,or_false] at d;rcases d with rfl|rfl|rfl|rfl|rfl;rfl;exact bq e;rfl;rfl;rfl
def Tb(a:ag)(b:Nat->F){ra e f:Option aL}(h:b 36=bZ #[ak aj,ah ra n m,ah e k i,ah f j wc]):
 wpList (aH ax) (oC dX) (Exit.then (λc g=>g=cG a (aq #[ak aj,ah ra n m,ah e k i,ah f j wc] 81)/\D7 [5,7,9,11,12] b c/\bp c (.tmp 13)=(aK (U a.heap))) λ_ _ _=>False) ((oC dX).toList.drop 5) (lu b) a:=by
 unfold lu;rw[h];unfold oC kA dX;dsimp only[List.drop];go_wp2_with fail;refine⟨trivial,⟨rfl,rfl,λl d=>?_⟩,rfl⟩;simp only[gy,kZ,or_false] at d;rcases d with rfl|rfl|rfl|rfl|rfl<;>rfl
def iA.adD{W n:ag}{R S A T B:Nat}{J f:Int}{wv x rv nv z:F}{k:List (List aC×F)}{o:List (F×Int)}(h:iA W R S A T B J f wv rv nv z k qZ o)(g:n.heap[R]? =K (aq #[ak aj,rv,nv,x] 81 (0,0)))(P:∀b,eK R S A T B rv nv z k o b->b≠R->n.heap[b]? =W.heap[b]?):iA n R S A T B J f x rv nv z k qZ o:=by
 have i:∀(b:Nat) c s,cq W b c s->s≠81->eK R S A T B rv nv z k o b->n.heap[b]? =W.heap[b]? :=λb c s e N L=>P b L λp=>mG e h.box N p;exact⟨aB (i _ _ _ h.c5 az (ai (av Y))) h.c5,aB (i _ _ _ h.c6 az (ai (ai (av Y)))) h.c6,aB (i _ _ _ h.c7 az (ai (ai (ai (av Y))))) h.c7,g,
  ix h.rows λb c e g=>i b c _ e az (ai (ai (ai (ai (ai (av g)))))),
  λw t=>ix (h.each w t) λb c e g=>i b c _ e az (ai (ai (ai (ai (ai (ai (ai (ai (av ⟨w,t,g⟩))))))))),
  ix h.fL λb c e g=>i b c _ e az (ai (ai (ai (ai (ai (ai (av g))))))),
  uE h.book (i _ _ _ h.book.blk az (ai (ai (ai (ai (av Y)))))) (λb c e g=>i b c _ e az (ai (ai (ai (ai (ai (ai (ai (av g))))))))) (λp I b Q y c G E e=>i b c _ e az (ai (ai (ai (ai (ai (ai (ai (ai (ai ⟨p,I,Q,y,G,E⟩)))))))))),
  h.nf,h.gJ,h.apart,h.pP⟩
end Ec
namespace Cc
open Go Go.Conc Ec Pk
open Go.RowKit (Below)
section
variable{l D R S A T u:Nat}{J:Int}{f:Nat}{r:Loop}{bW:List (F×Int)}{eG:F}{q:Array F}{m:List cK}{M:Nat->Prop}{ae5:ag}{rv nv z:F}{O:List (F×Int)}{ae4:Nat->Prop}{j:Nat}{H:List aC}{v:F}{b:aO}{a:bt}{ra d:Option aL}{rl rc nl nc wc:Nat}{C:List (F×F×F)}
def og.yD{W:ag}{ae4 g:Nat->Prop}{q:List cK}{rv nv:F}(h:og W ae4 q rv nv)(e:∀(b:Nat) w s,ae4 b->W.heap[b]? =K (aq w s (0,0))->s≠81->g b):og W g q rv nv:=by
 have⟨⟨t,i,k,x,y⟩,n,E,G⟩:=h;exact⟨⟨t,i,k,x,λp o b c=>e b _ _ (y p o b c) (nX (k p o) c).choose_spec az⟩,n,λb c=>e b _ _ (E b c) (nX i c).choose_spec az,λb c=>e b _ _ (G b c) (nX n c).choose_spec az⟩
def Tk(e:dj b= .normal)(a5:nO b=K l)(ao:r5 r S A T R)(X:ae5.heap[l]? =K (fj {r with state:=.busy}))(an:ae5.heap[D]? =K (kT (K [])))(h:∃P g:Nat,ae5.heap[u]? =K (aq (fJ q P g) 119 (0,0)))
 (L:iA ae5 R S A T B J (f:Int) wv rv nv z [] [] (bW++O)) (b7:I O<=8000*f) (a3:ae5.heap[b4]? =K (aq #[(aK u)] 74 (0,0))) (bb:ae4 b4) (ca:I C+1<=f) (dc:f<=2) (dd:I bW<=40000000000)
 (t:∀b,ae4 b->(∃k y,ae5.heap[b]? =K (aq k y (0,0)))/\¬eK R S A T B rv nv z [] (bW++O) b/\b≠u) (a6:∀b,eK R S A T B rv nv z [] (bW++O) b->b≠u)
 (cc:og ae5 ae4 m (ah ra rl rc) (ah na nl nc)) (o:xF ae5 ae4 m (ah d (I C) wc) C) (s:∀b,M b↔b=l\/b=D\/b=u\/eK R S A T B rv nv z [] (bW++O) b\/ae4 b) (ar:∀b,(ae4 b\/bI rv=K b\/bI nv=K b)->b=b4\/l<b)
 (ch:j<=1000000) (cn:I H<=1000) (a8:aT ae5 0 59 3 v (I H) (bM H)) (aF:∀n,bI v=K n->¬M n)
 (co:U a.tmps=75) (b5:bU a=[]) (cs:cB a.tmps 5 bR=(aK S)) (cu:cB a.tmps 7 bR=(aK T)) (bc:cB a.tmps 9 bR=(aK R)) (Fv:cB a.tmps 11 bR=n9 j) (Fw:cB a.tmps 12 bR=v) (cr:cB a.tmps 36 bR=bZ #[ak aj,ah ra rl rc,ah na nl nc,ah d (I C) wc]) (k:aO) (V:List aO) (al:Tp):
 ∃E,mX l D b4 R S A T B u J f r bW eG q m [] M ae5 j H v E/\Steps (aH ax) (lone (b.atR a [bY (oC dX) [5,6],bJ (yy dX),bJ (uu dX),fh 1]) (k::V) (Cc.sh al 0 ae5)) (lone (dR k (ak (gU J [(j,H)]))) V E):=by
 have p:∀{b:Nat} {cW:cz},ae5.heap[b]? =K cW->b<U ae5.heap:=λc=>(dn.1 c).1;have a2:=LA (P:=aH ax) (ops:=oC dX) ((oC dX).toList.drop 5) [5,6] [] Y aR (Tb (Cc.sh al 0 ae5) (λae=>cB a.tmps ae bR) cr) b [bJ (yy dX),bJ (uu dX),fh 1] (k::V);rw[<-Fx co b5] at a2;obtain⟨bs,Q,⟨rfl,⟨c1,bv,F⟩,bC⟩,c3⟩:=a2;generalize aE:cG (Cc.sh al 0 ae5) (aq #[ak aj,ah ra rl rc,ah na nl nc,ah d (I C) wc] 81)=Q at*;have aC:∀b:Nat,b<U ae5.heap->Q.heap[b]? =ae5.heap[b]? :=λb e=>by rw[<-aE];exact fM (Cc.sh al 0 ae5) _ b e
 have c5:cq Q (U ae5.heap) #[ak aj,ah ra rl rc,ah na nl nc,ah d (I C) wc] 81:=by rw[<-aE];exact iI (Cc.sh al 0 ae5) _
 have di:U ae5.heap+1=U Q.heap:=by rw[<-aE];simp[Cc.sh]
 have cy:=p L.box;have a0:∀b,ae4 b->b<U ae5.heap:=λb e=>by have⟨k,y,h⟩:=(t b e).1;exact p h
 have ci:bI (ah d (I C) wc)≠K R:=λg=>(t R (o.zw R g)).2.1 (av Y);have ck:bI (ah d (I C) wc)≠K (U ae5.heap):=λg=>Nat.lt_irrefl _ (a0 _ (o.zw _ g));have b1:=vH c1 bv (S9 Q (λae=>cB bs.tmps ae bR) (gs:=C) aa ((aC R cy).trans L.box) c5 aa (ix o.own λb _ e _=>aC b (p e)) ci ck ((F 9 aI).trans bc) bC) b [bJ (uu dX),fh 1] (k::V);obtain⟨g,bu,w,⟨rfl,⟨c2,bx,bK,bL,bP,bF,bH⟩,aA,cM,bd,be,cO,df⟩,c4⟩:=b1;have x:∀b:Nat,b<U ae5.heap->b≠R->¬ae4 b->w.heap[b]? =ae5.heap[b]? :=λb e i ad=>(be b aa i (λg=>ad (o.zw b g))).trans (aC b e);have aw:∀b,bI aA=K b->bI (ah d (I C) wc)=K b\/U ae5.heap<=b:=λb e=>(cO b e).imp_right λc=>aa;have bi:∀b,eK R S A T B rv nv z [] (bW++O) b->b<U ae5.heap:=λb e=>by have⟨k,y,h⟩:=L.at_ e;exact p h
 have cK:¬ae4 l:=λc=>by have⟨k,y,h⟩:=(t l c).1;rw[X] at h;cases h
 have cv:¬ae4 D:=λc=>by have⟨k,y,h⟩:=(t D c).1;rw[an] at h;cases h
 have cx:¬ae4 u:=λc=>(t u c).2.2 Y;have bT:l≠R:=λg=>by have:=L.box;rw[<-g,X] at this;cases this
 have bQ:D≠R:=λg=>by have:=L.box;rw[<-g,an] at this;cases this
 have bS:u≠R:=λg=>a6 R (av Y) (bq g);have aU:∀b,ae4 b->bI (ah d (I C) wc)≠K b->w.heap[b]? =ae5.heap[b]? :=λb e N=>(be b (cA (a0 b e)) (λg=>(t b e).2.1 (av g)) N).trans (aC b (a0 b e));let aD:Nat->Prop:=λb=>(ae4 b/\bI (ah d (I C) wc)≠K b)\/bI aA=K b;have bo:∀{bl x},og ae5 ae4 m bl x->og w aD m bl x:=λc=>by
  have b0:og ae5 (λb=>ae4 b/\bI (ah d (I C) wc)≠K b) m _ _:=c.yD λb k y ad h cp=>⟨ad,λg=>dS o.own h cp (bq g)⟩;exact(b0.same λb e=>aU b e.1 e.2).up λb e=>av e
 have a4:sS w b4 R S A T B u J f bW m [] aA rv nv z [] O (C++[(ah ra rl rc,ah na nl nc,ah d (I C) wc)]) aD:=by
  have bm:bI (ah d (I C) wc)≠K b4:=λg=>dS o.own a3 az (bq g);refine⟨L.adD cM λb e i=>x b (bi b e) i λad=>(t b ad).2.1 e,rfl,cN b7,(aU b4 bb bm).trans a3,av ⟨bb,bm⟩,⟨bV cJ bd,λn i=>?_,λb e=>ai e⟩,bV cJ ca,λb e=>?_,a6,aI⟩;rcases eP.1 i with i|i;exact bo (o.each n i);rw[v5] at i;subst i;exact bo cc;rcases e with⟨e,N⟩|e;have⟨⟨k,y,h⟩,c⟩:=t b e;exact⟨⟨k,y,(aU b e N).trans h⟩,c⟩;refine⟨⟨_,_,(nX bd e).choose_spec⟩,λao=>?_,λg=>?_⟩;rcases aw b e with c|c;exact(t b (o.zw b c)).2.1 ao;have:=bi b ao;omega;rcases aw b e with c|c;exact(t b (o.zw b c)).2.2 g;have⟨P,db,h⟩:=h;have:=p h;omega
 let am:Nat->Prop:=λb=>b=l\/b=D\/b=u\/eK R S A T B rv nv z [] (bW++O) b\/aD b;have bh:∀b,am b->M b\/U ae5.heap<=b:=λb e=>by
  rcases e with c|c|c|c|(c|c);exact av ((s b).2 (av c));exact av ((s b).2 (ai (av c)));exact av ((s b).2 (ai (ai (av c))));exact av ((s b).2 (ai (ai (ai (av c)))));exact av ((s b).2 (ai (ai (ai (ai c.1)))));exact(aw b c).imp (λc=>(s b).2 (ai (ai (ai (ai (o.zw b c)))))) (λc=>c)
 have cd:=(x l (p X) bT cK).trans X;have b2:=(x D (p an) bQ cv).trans an;have b3:∃P g:Nat,cq w u (fJ q P g) 119:=by
  have⟨P,g,h⟩:=h;exact⟨P,g,(x u (p h) bS cx).trans h⟩
 have a9:aT w 0 59 3 v (I H) (bM H):=ix a8 λb _ e ba=>x b (p e) (λg=>aF b ba ((s b).2 (ai (ai (ai (av (av g))))))) (λc=>aF b ba ((s b).2 (ai (ai (ai (ai c))))));have a7:∀n,bI v=K n->¬am n:=λn i c=>eD (bh n c) (aF n i) λc=>by
  have⟨da,h⟩:=nX a8 i;have:=p h;omega
 have b8:I (bW++O)<=50000000000:=by
  rw[cJ];omega
 have⟨g,c9,c8,⟨ab,cl⟩,bk⟩:=(vH c2 bx (EP w (λae=>cB bu.tmps ae bR) (nm:=j) (row:=H) (v:=v) (Q:=λg _ E=>(g= .normal/\((0+1:Nat):Int)≠J\/g= .exit 0/\((0+1:Nat):Int)=J)/\yM w R S A T B J (f:Int) aA rv nv z [] [] (bW++O) j H v E) a4.st Y aI b8 ch cn (bK.trans ((F 5 aI).trans cs)) (bL.trans ((F 7 aI).trans cu)) (bP.trans ((F 9 aI).trans bc)) (bF.trans ((F 11 aI).trans Fv)) (bH.trans ((F 12 aI).trans Fw)) a9 (λn i e=>a7 n i (ai (ai (ai (av e))))) (λbr E Z cf=>⟨av ⟨rfl,cf⟩,Z⟩) (λbr E Z b6=>⟨ai ⟨rfl,b6⟩,Z⟩)) b [fh 1] (k::V));have⟨cZ,c0⟩:=Jn (r:=r) (eG:=eG) (M:=am) cd b2 b3 a4 (λb=>Iff.rfl) (λb e=>by
  rcases e with(c|c)|c|c|⟨dg,Z,_⟩;exact ar b (av c.1);exact eD (aw b c) (λc=>ar b (av (o.zw b c))) λc=>ai (cA (p X));exact ar b (ai (av c));exact ar b (ai (ai c));simp at Z) aI a9 a7 cl
 have⟨bz,bD⟩:=Jm ao cZ c0;have a1:∀{G},mX l D b4 R S A T B u J f r bW eG q m [] am w j H v G->mX l D b4 R S A T B u J f r bW eG q m [] M ae5 j H v G:=λc=>c.back aa bh (λb e N=>x b e (λg=>N ((s b).2 (ai (ai (ai (av (av g))))))) (λc=>N ((s b).2 (ai (ai (ai (ai c)))))));have bj:=c3.trans (.head stepR_region_end c4);rcases ab with⟨rfl,ab⟩|⟨rfl,ab⟩;have⟨G,aG,aQ⟩:=bz ab;exact⟨G,a1 aQ,bj.trans (sZ bk (.head stepR_inBlock (.one (stepR_round_end a5 e aG))))⟩;have⟨G,aG,aQ⟩:=bD ab;have⟨de,c6,c7⟩:=bk;exact⟨G,a1 aQ,bj.trans (sZ c7 (.one (stepR_round_exit a5 e (c6.trans Y) aG)))⟩
end
structure H8(w0 w':ag)(cu B dp:Nat)(iv:F)(bW:List (F×Int))(q:Array F)(wq:List cK)(res:List cK×Nat×Nat)(wv rv nv iv':F)(es':List (F×Int))(gs:List (F×F×F))(ae4:Nat->Prop):Prop where
 got:og w' ae4 res.1 rv nv
 mW:xF w' ae4 wq wv gs
 gl:I gs<=dp
 book:gF w' 0 B iv' (bW++es')
 len:I es'<=8000*(dp+1)
 pP:∀e∈bW++es',0<=e.2/\e.2<=1000000000000
 bk:∀b,j7 B iv' (bW++es') b->j7 B iv bW b\/U w0.heap<=b
 zb:∀b,ae4 b->U w0.heap<=b/\¬j7 B iv' (bW++es') b/\∃c t,w'.heap[b]? =K (aq c t (0,0))
 keep:∀b,b<U w0.heap->¬j7 B iv bW b->b≠cu->w'.heap[b]? =w0.heap[b]?
 cur:w'.heap[cu]? =K (aq (fJ q res.2.1 res.2.2) 119 (0,0))
 size:U w0.heap<=U w'.heap
 rl:I res.1<=2000
def BQ (g:ag)(cu B dp:Nat)(d:F)(bW:List (F×Int))(q:Array F)(h:List cK)(res:List cK×Nat×Nat)(f:gN)(w':ag):Prop:=
 ∃a rv nv e b c ae4,f=aN (bZ #[ak aj,rv,nv,a])/\H8 g w' cu B dp d bW q h res a rv nv e b c ae4
def AJ (g:F->ag->Prop)(f:ag->Prop)(cu B e:Nat)(q:Array F)(res:List cK×Nat×Nat):Prop:=
 ∀(a:ag) (c:F) (bW:List (F×Int)),f a->gF a 0 B c bW->(∀b∈bW,0<=b.2/\b.2<=1000000000000)->(∀d,j7 B c bW d->cu<d)->I bW<=40000000000->(∃h b:Nat,a.heap[cu]? =K (aq (fJ q h b) 119 (0,0)))->
  sQ (aH ax) ax g 34 #[(aK cu),z9 (-1),n9 e,(aK B)] a (BQ a cu B e c bW q res.1 res)
def zy{gb b5 b6 b7 B a:Nat}{rv nv c:F}{d:List (List aC×F)}{b:List (F×Int)}(h:j7 B c b a):eK gb b5 b6 b7 B rv nv c d b a:=by
 rcases h with h|h|h;exact ai (ai (ai (ai (av h))));exact ai (ai (ai (ai (ai (ai (ai (av h)))))));exact ai (ai (ai (ai (ai (ai (ai (ai (ai h))))))))
def Mo{gb b5 b6 b7 B a:Nat}{rv nv c iv':F}{b es':List (F×Int)}(h:eK gb b5 b6 b7 B rv nv c [] b a):(eK gb b5 b6 b7 B rv nv iv' [] [] a)\/j7 B c b a:=by
 rcases h with h|h|h|h|h|h|h|h|⟨e,d,_⟩|h;exact av (av h);exact av (ai (av h));exact av (ai (ai (av h)));exact av (ai (ai (ai (av h))));exact ai (av h);exact av (ai (ai (ai (ai (ai (av h))))));exact av (ai (ai (ai (ai (ai (ai (av h)))))));exact ai (ai (av h));simp at d;exact ai (ai (ai h))
def Eu{W:ag}{B d:Nat}{e:List (F×Int)}(h:gF W 0 B x e)(a:j7 B x e d):∃g b,W.heap[d]? =K (aq g b (0,0))/\(b=37\/b=95\/b=59):=by
 rcases a with rfl|a|⟨i,m,w,p,k,j⟩;exact⟨_,_,h.blk,av Y⟩;exact⟨_,_,(nX h.own a).choose_spec,ai (av Y)⟩;have⟨o,y,s,c,_,n⟩:=h.full i m;rw[k] at c;simp only[j9] at c;obtain⟨rfl,rfl,rfl⟩:=c;have⟨u,t,f,a,_⟩:=n j;simp only[iG,nM,and_true] at f;subst f;exact⟨_,_,a,ai (ai Y)⟩
def Et{W:ag}{B c:Nat}{d:List (F×Int)}(h:gF W 0 B x d)(f:W.heap[c]? =K (aq C Qd (0,0)))(b:Qd≠37/\Qd≠95/\Qd≠59):¬j7 B x d c:=λg=>by
 have⟨i,j,e,a⟩:=Eu h g;rw[f] at e;cases e;rcases a with a|a|a;exact b.1 a;exact b.2.1 a;exact b.2.2 a
section
variable{l D:Nat}{most:Int}{r:Loop}{bW:List (F×Int)}{eG:F}{q:Array F}{res:List cK×Nat×Nat}{M:Nat->Prop}{J w':ag}{Q:Nat}{row:List aC}{v:F}
structure BR(ae5:ag)(l D b4 gb b5 b6 b7 B cu:Nat)(most:Int)(dp:Nat)(r:Loop)(bW:List (F×Int))(eG:F)(q:Array F)(wq:List cK)(row:List aC)(v rvi nvi wvi:F)(wv rv nv iv:F)(es':List (F×Int))(gi:List (F×F×F))(ae4 M1:Nat->Prop):Prop where
 hl:ae5.heap[l]? =K (fj {r with state:=.busy})
 hD:ae5.heap[D]? =K (kT (K []))
 hc:∃n e:Nat,ae5.heap[cu]? =K (aq (fJ q n e) 119 (0,0))
 st:iA ae5 gb b5 b6 b7 B most (dp:Int) wv rv nv iv [] [] (bW++es')
 el:I es'<=8000*dp
 h4:ae5.heap[b4]? =K (aq #[(aK cu)] 74 (0,0))
 z4:ae4 b4
 gl:I gi+1<=dp
 zc:∀b,ae4 b->(∃c t,ae5.heap[b]? =K (aq c t (0,0)))/\¬eK gb b5 b6 b7 B rv nv iv [] (bW++es') b/\b≠cu
 lw:∀b,eK gb b5 b6 b7 B rv nv iv [] (bW++es') b->b≠cu
 got:og ae5 ae4 wq rvi nvi
 mW:xF ae5 ae4 wq wvi gi
 m1:∀b,M1 b↔b=l\/b=D\/b=cu\/eK gb b5 b6 b7 B rv nv iv [] (bW++es') b\/ae4 b
 own:aT ae5 0 59 3 v (I row) (bM row)
 Lh:∀g,bI v=K g->¬M1 g
 zb:∀b,(ae4 b\/bI rv=K b\/bI nv=K b)->b=b4\/l<b
def BR.same{s:List cK}{p o u t rv nv m:F}{j:List (F×Int)}{k:List (F×F×F)}(h:BR ae5 l D b4 gb b5 b6 b7 B cu most dp r bW eG q s row v p o u t rv nv m j k ae4 Qa)(i:∀(a:Nat) g,ae5.heap[a]? =K g->((∃d e,g=aq d e (0,0))\/g=fj {r with state:=.busy}\/g=kT (K []))->X'.heap[a]? =K g):BR X' l D b4 gb b5 b6 b7 B cu most dp r bW eG q s row v p o u t rv nv m j k ae4 Qa:=by
 have f:∀{a:Nat} {d e},cq ae5 a d e->cq X' a d e:=λh=>i _ _ h (av ⟨_,_,rfl⟩);have n:∀a,ae4 a->X'.heap[a]? =ae5.heap[a]? :=λa b=>by have⟨d,e,c⟩:=(h.zc a b).1;exact aB (f c) (bq c)
 have⟨x,w,c⟩:=h.hc;exact⟨i _ _ h.hl (ai (av Y)),i _ _ h.hD (ai (ai Y)),⟨x,w,f c⟩,h.st.same λa b=>by have⟨d,e,c⟩:=h.st.at_ b;exact aB (f c) (bq c),h.el,f h.h4,h.z4,h.gl,λa b=>⟨by have⟨d,e,c⟩:=(h.zc a b).1;exact⟨d,e,f c⟩,(h.zc a b).2⟩,h.lw,h.got.same n,h.mW.same n,h.m1,ix h.own λa _ b _=>aB (f b) (bq b),h.Lh,h.zb⟩
def Tm(aR:kD l D b4 gb b5 b6 b7 B cu most dp r bW eG q res.1 [] M W)(aQ:gU most []=af)(a1:∀a,j7 B eG bW a->cu<a)(bm:0<dp)(aD:aT W 0 59 3 v (I row) (bM row))(aC:∀i,bI v=K i->¬M i)(w:dF J=dF (kU W l (fj {r with state:=.busy}))){u:List (F×Int)}{aA:List (F×F×F)}{Zi:Nat->Prop}(e:H8 J w' cu B (dp-1) eG bW q res.1 res x y z T u aA Zi):
 ∃ae rv nv ae4 al,BR w' l D b4 gb b5 b6 b7 B cu most dp r bW eG q res.1 row v y z x ae rv nv T u aA ae4 al/\(∀a,al a->M a\/U W.heap<=a)/\(∀a,a<U W.heap->¬M a->w'.heap[a]? =W.heap[a]?)/\U W.heap<=U w'.heap:=by
 have⟨m,p,⟨bu,bi,R⟩,ae,rv,nv,t,aK,bj,bk,ae4,s,S,n⟩:=aR;have⟨S,ad⟩:=S;obtain⟨rfl,rfl⟩:=S rfl;have aU:aK=[]:=cN s.fs;subst aU;have a3:¬(I ([]:List cK):Int)=most:=by simpa [gU] using aQ
 have a5:recAt r most (I ([]:List cK))=r:=by unfold recAt;rw[if_neg a3]
 rw[a5] at m;have j:=s.st;rw[l5] at j n;have N:=s.zc;have o:=s.lw;rw[l5] at N o;have k:∀{a:Nat} {P:cz},W.heap[a]? =K P->a<U W.heap:=λb=>(dn.1 b).1;have bo:U J.heap=U W.heap:=bV w World.putObj_size;have ba:∀a:Nat,a≠l->J.heap[a]? =W.heap[a]? :=λa c=>bV w (y7 c);have a9:J.heap[l]? =K (fj {r with state:=.busy}):=by rw[w];exact World.putObj_heap_same (k m)
 have aH:∀{a:Nat} {g f},W.heap[a]? =K (aq g f (0,0))->a≠l:=λb h=>by rw[h,m] at b;cases b
 have O:∀a,a<U W.heap->¬j7 B t bW a->a≠cu->a≠l->w'.heap[a]? =W.heap[a]? :=λa c a2 d a0=>aB (e.keep a aa a2 d) (ba a a0);have am:∀{a:Nat} {P},W.heap[a]? =K P->(∀g f,P≠aq g f (0,0))->¬j7 B t bW a:=λb a4 X=>by
  have⟨g,f,w,_⟩:=Eu j.book X;rw[b] at w;cases w;exact a4 _ _ Y
 have E:∀{a:Nat} {g f},cq W a g f->(f≠37/\f≠95/\f≠59)->a≠cu->w'.heap[a]? =W.heap[a]? :=λb a6 d=>O _ (k b) (Et j.book b a6) d (aH b);have be:∀a,j7 B t bW a->a≠cu:=λa c=>cA (a1 a c);have bl:=k R;have aF:∀a,ae4 a->w'.heap[a]? =W.heap[a]? :=λa c=>by
  have⟨⟨g,f,d⟩,b,L⟩:=N a c;exact O a (k d) (λX=>b (zy X)) L (aH d)
 have bd:∀a,ae4 a->a<U W.heap:=λa c=>by have⟨⟨g,f,d⟩,_⟩:=N a c;exact k d
 have a8:∀a,eK gb b5 b6 b7 B rv nv t [] bW a->a<U W.heap:=λa c=>j.lt c;have H:∀a,eK gb b5 b6 b7 B rv nv T [] (bW++u) a->(eK gb b5 b6 b7 B rv nv t [] bW a)\/(U W.heap<=a/\j7 B T (bW++u) a):=λa c=>by
  rcases Mo (iv':=t) (es':=[]) c with b|b;rcases Mo (iv':=t) (es':=[]) b with b|b
  left
  rcases b with b|b|b|b|b|b|b|b|⟨aI,G,_⟩|⟨h,V,_⟩;exact av b;exact ai (av b);exact ai (ai (av b));exact ai (ai (ai (av b)));exact ai (ai (ai (ai (av b))));exact ai (ai (ai (ai (ai (av b)))));exact ai (ai (ai (ai (ai (ai (av b))))));exact ai (ai (ai (ai (ai (ai (ai (av b)))))));simp at G;simp at V;rcases b with b|b|⟨h,V,_⟩;exact av (ai (ai (ai (ai (av b)))));exact av (ai (ai (ai (ai (ai (ai (ai (av b))))))));simp at V;exact(e.bk a b).imp (λb=>zy b) λL=>⟨aa,b⟩
 have a7:∀i,bI v=K i->i<U W.heap:=λi C=>by have⟨bh,d⟩:=nX aD C;exact k d
 have ao:=j.c5;have ar:=j.c6;have aw:=j.c7;have an:=j.box;refine⟨ae,rv,nv,λa=>ae4 a\/Zi a,λa=>a=l\/a=D\/a=cu\/eK gb b5 b6 b7 B rv nv T [] (bW++u) a\/(ae4 a\/Zi a),?_⟩;have aG:∀a,(a=l\/a=D\/a=cu\/eK gb b5 b6 b7 B rv nv T [] (bW++u) a\/(ae4 a\/Zi a))->M a\/U W.heap<=a:=λa c=>by
  rcases c with b|b|b|b|b|b;exact av ((n a).2 (av b));exact av ((n a).2 (ai (av b)));exact av ((n a).2 (ai (ai (av b))));exact(H a b).imp (λb=>(n a).2 (ai (ai (ai (av b))))) (λb=>b.1);exact av ((n a).2 (ai (ai (ai (ai b)))));exact ai (cA ((e.zb a b).1))
 have aE:∀a,a<U W.heap->¬M a->w'.heap[a]? =W.heap[a]? :=λa c Z=>O a c (λb=>Z ((n a).2 (ai (ai (ai (av (zy b))))))) (λh=>Z ((n a).2 (ai (ai (av h))))) (λh=>Z ((n a).2 (av h)));refine⟨⟨aB (e.keep l (cA (k m)) (am m (λg f b=>de b)) (λh=>by rw[h,R] at m;cases m)) a9,aB (O D (k p) (am p (λg f b=>de b)) (λh=>by rw[h,R] at p;cases p) (λh=>by rw[h,m] at p;cases p)) p,⟨_,_,e.cur⟩,⟨aB (E ao az (o _ (ai (av rfl)))) ao,aB (E ar az (o _ (ai (ai (av rfl))))) ar,aB (E aw az (o _ (ai (ai (ai (av rfl)))))) aw,aB (E an az (o _ (av rfl))) an,ix j.rows λa g d c=>E d az (o a (ai (ai (ai (ai (ai (av c))))))),λaI G=>by simp at G,ix j.fL λa g d c=>E d az (o a (ai (ai (ai (ai (ai (ai (av c)))))))),e.book,j.nf,λaI G=>by simp at G,λbr bs bv f i b=>by simp at b,e.pP⟩,?_,aB (aF b4 s.z4) s.c4,av s.z4,?_,λa c=>?_,λa c=>?_,e.got.up λa c=>ai c,⟨e.mW.own,λi C=>(e.mW.each i C).up λa c=>ai c,λa c=>ai (e.mW.zw a c)⟩,λa=>Iff.rfl,ix aD λa _ d c=>aE a (k d) (aC a c),λi C b=>eD (aG i b) (aC i C) (λb=>cA (a7 i C)),λa c=>?_⟩,aG,aE,cA e.size⟩;have:=e.len;rwa [show dp-1+1=dp by omega] at this;have:=e.gl;omega;rcases c with c|c;have⟨⟨g,f,d⟩,b,L⟩:=N a c;refine⟨⟨g,f,aB (aF a c) d⟩,λab=>?_,L⟩;rcases H a ab with A|A;exact b A;have:=bd a c;omega;have⟨bx,bb,bc⟩:=e.zb a c;refine⟨bc,λab=>?_,λh=>aa⟩;rcases H a ab with A|A;have:=a8 a A;omega;exact bb A.2;rcases H a c with b|b;exact o a b;omega;rcases c with(b|b)|b|b;exact ad a (av b);exact ai (by have:=(e.zb a b).1;have:=k m;omega);exact ad a (ai (av b));exact ad a (ai (ai (av b)))
end
section
variable{l D A T:Nat}{J:Int}{r:Loop}{bW:List (F×Int)}{eG:F}{q:Array F}{H:List cK×Nat×Nat}{M:Nat->Prop}{O:List aC}{v:F}{S:F->ag->Prop}{afa:ag->Prop}
def CM (fn:cF):List ez:=[bJ (yy fn),bJ (uu fn),fh 1]
structure Is(a:bt)(b5 b7 gb B cu dp nm:Nat)(v:F):Prop where
 sz:U a.tmps=75
 df:bU a=[]
 k5:cB a.tmps 5 bR=(aK b5)
 k7:cB a.tmps 7 bR=(aK b7)
 k9:cB a.tmps 9 bR=(aK gb)
 Fv:cB a.tmps 11 bR=n9 nm
 Fw:cB a.tmps 12 bR=v
 VA:bp a (.tmp 32)=(aK cu)
 VB:bp a (.tmp 34)=z9 ((dp:Int)-1)
 VD:bp a (.tmp 35)=(aK B)
def Xl(c:r5 r b5 T b7 gb)(az:cB r.tmps 4 bR=(aK A))(an:kD l D A gb b5 T b7 B cu J dp r bW eG q H.1 [] M w)(am:gU J []=af)(br:0<dp/\dp<=2)(aC:U C=75)(aE:∀a:Nat,a≠22->a≠23->cB C a bR=cB r.tmps a bR)(aQ:cB C 22 bR=n9 nm)(aU:cB C 23 bR=v)(b:aO)(ar:nO b=K l)(g:List aO)(f:Tp):
 ∃d o,Is d b5 b7 gb B cu dp nm v/\dF o=dF (kU w l (fj {r with state:=.busy}))/\Steps (aH ax) (lone (b.atR ⟨C,[]⟩ [bJ r.assign,.beginRound,bJ r.body]) g (Cc.sh f 0 w)) (lone (b.atR d (bY (oC dX) [4,5,6]::CM dX)) g o):=by
 have⟨p,bk,bl,bv,rv,nv,bs,ab,bj,bm,bi,m,al,bo⟩:=an;obtain⟨rfl,rfl⟩:=al.1 rfl;have ao:ab=[]:=cN m.fs;subst ao;have aw:¬(I ([]:List cK):Int)=J:=by simpa [gU] using am
 have aA:recAt r J (I ([]:List cK))=r:=by unfold recAt;rw[if_neg aw]
 rw[aA] at p;obtain⟨P,N⟩:∃P,P=fj {r with state:=.busy}:=⟨_,rfl⟩;rw[<-N,c.AT,c.bd];obtain⟨e,y,bu,⟨rfl,rfl,bc,bh,zz,bd,be⟩,R⟩:=vH (a:=⟨C,[]⟩) aC rfl (Jl (Cc.sh f 0 w) _ (Q:=λe d X=>e=cX/\X=Cc.sh f 0 w/\U d.tmps=75/\bU d=[]/\(∀a∈[4,5,6,7,9],cB d.tmps a bR=cB C a bR)/\cB d.tmps 11 bR=cB C 22 bR/\cB d.tmps 12 bR=cB C 23 bR) λd t a1 a2 a6 a7=>⟨rfl,rfl,t,a1,a2,a6,a7⟩) b [.beginRound,bJ (kA dX)] g;have Q:=stepR_beginRound (P:=aH ax) (b:=b) (a:=y) (k:=[bJ (kA dX)]) (cs:=g) ar (run_beginRound (P:=aH ax) (w:=Cc.sh f 0 w) (l:=l) (r:=r) p c.st);have aD:dF (kU (Cc.sh f 0 w) l (fj {r with state:=.busy}))=dF (kU w l (fj {r with state:=.busy})):=rfl;have j:∀{b:Nat} {E V},w.heap[b]? =K (aq E V (0,0))->cq (kU (Cc.sh f 0 w) l (fj {r with state:=.busy})) b E V:=λs=>aB (y7 (w:=Cc.sh f 0 w) λe=>by rw[e,p] at s;cases s) s;generalize kU (Cc.sh f 0 w) l (fj {r with state:=.busy})=Z at*;have x:∀a∈[4,5,6,7,9],cB y.tmps a bR=cB r.tmps a bR:=λa h=>aB (zz a h) (aE a (λe=>by subst e;simp at h) (λe=>by subst e;simp at h));obtain⟨ro,bD,rfl⟩:=e9 m.st.rows;rw[Zg] at Q R ⊢;have n:=m.st;have ae:=j n.box;have G:(0:Int)<(dp:Int)/\(dp:Int)<=2:=aa;obtain⟨e,z,o,⟨rfl,rfl,⟨a9,bb,u⟩,ba⟩,aF⟩:=vH bc bh (Te Z _ G.1 ae (j n.c6) (aB (x 6 aI) c.k6) (aB (x 9 aI) c.k9)) b [bJ (.cond (.tmp 31) (aS (iB 9 (oC dX) aj) (yy dX)) ey),bJ (uu dX),fh 1] g;have i:∀a∈[4,5,6,7,9],cB z.tmps a bR=cB r.tmps a bR:=λa h=>aB (u a (by simp only[gy,kZ,or_false] at h ⊢;omega)) (x a h);have L:=LA (P:=aH ax) (ops:=oC dX) ((oC dX).toList.take 4) [0,1,2,3] [4,5,6] Y aR (Tc o (λa=>cB z.tmps a bR) G (j m.c4) (j n.c6) (j n.c7) (aB (i 4 aI) az) (aB (i 6 aI) c.k6) (aB (i 7 aI) c.k7)) b (CM dX) g;rw[<-Fx a9 bb] at L;obtain⟨ad,a0,⟨rfl,⟨t,a8,k⟩,a3,a4,a5⟩,aG⟩:=L;exact⟨ad,a0,⟨t,a8,aB (k 5 aI) (aB (i 5 aI) c.k5),aB (k 7 aI) (aB (i 7 aI) c.k7),aB (k 9 aI) (aB (i 9 aI) c.k9),aB (k 11 aI) (aB (u 11 aI) (aB bd aQ)),aB (k 12 aI) (aB (u 12 aI) (aB be aU)),a3,a4,a5⟩,bV N aD,(sZ R (.head Q (.head stepR_block (.head stepR_seq (.head stepR_seq (sZ aF (.head (stepR_cond ba) (.head stepR_seq (.head stepR_region aG)))))))))⟩
def Z9(a:r5 r b5 T b7 gb):cZ (aH ax) (fj {r with state:=.busy}):=⟨by show fC _ _ r.assign=_;rw[a.AT];exact An.1,by show fC _ _ r.body=_;rw[a.bd];exact An.2,λb c=>by have:r.pending=K b:=c;rw[a.pn] at this;cases this⟩
def Lf(c:zq Qg)(e:F):¬xk (dR Qg e):=by
 rintro⟨_,s,b⟩;rcases c.2 with⟨g,f,h,d,a⟩|⟨l,d,a⟩;simp[dR,a] at b;simp[dR,a] at b
def Ta(x:r5 r b5 T b7 gb)(cd:cB r.tmps 4 bR=(aK A))(R:kD l D A gb b5 T b7 B cu J dp r bW eG q H.1 [] M W)(hF:afa W)(bv:∀W Q,afa W->(∀a,a<cu->Q.heap[a]? =W.heap[a]?)->U W.heap<=U Q.heap->afa Q)(aG:gU J []=af)(Z:0<dp/\dp<=2)(b8:nm<=1000000)(ch:I O<=1000)(a0:I bW<=40000000000)(a1:∀a,j7 B eG bW a->cu<a)(ds:cu<l)
 (ba:AJ S afa cu B (dp-1) q H) (cr:aT W 0 59 3 v (I O) (bM O)) (ca:∀aC,bI v=K aC->¬M aC) (aR:eS (aH ax) Qg []) (cf:zq Qg)
 (bD:∀L d,L=ak (gU J [(nm,O)])/\mX l D A gb b5 T b7 B cu J dp r bW eG q H.1 [] M W nm O v d->kr (aH ax) d->Sm W d->eS (aH ax) (dR Qg L) []->iq (aH ax) ax S (aX (dR Qg L) Qj) d)
 (ad:eS (aH ax) (mZ l r.fn ((r.params.zip #[n9 nm,v]).foldl (λal (t,c)=>cS al t c) r.tmps) r.assign r.body dM) [Qg]):iq (aH ax) ax S (aX (mZ l r.fn ((r.params.zip #[n9 nm,v]).foldl (λal (t,c)=>cS al t c) r.tmps) r.assign r.body dM) (Qg::Qj)) W:=by
 have⟨a7,bk,bj,cZ,c1,c2⟩:=Mf x nm v;rw[bk] at ad ⊢;obtain⟨a,V,aQ,bK⟩:∃a:aO,dj a=dM/\nO a=K l/\mZ l r.fn a7 r.assign r.body dM=a.atR ⟨a7,[]⟩ [bJ r.assign,.beginRound,bJ r.body]:=⟨{(default:aO) with fn:=r.fn,kind:=dM,roundOf:=K l},rfl,rfl,by simp[mZ,Frame.atR]⟩;rw[bK] at ad ⊢;have⟨c4,E⟩:=x9 (aH ax) W;have bC:=R.K2 x E;refine z1 (aU:=[]) (cs:=Qg::Qj) fX (Stop:=λu aU j=>aU=[]/\dF j=dF (kU c4 l (fj {r with state:=.busy}))/\∃c,Is c b5 b7 gb B cu dp nm v/\u=a.atR c (bY (oC dX) [4,5,6]::CM dX)) (λu aU j n=>?_) ⟨ad.top,λf b1=>by simp at b1,V⟩ E.hp E.un (λP=>?_) (λbl c3 j u2 n ab br ck=>?_);obtain⟨_,_,c,_,rfl⟩:=n;rintro⟨_,s,co⟩;simp[Frame.atR] at co
 .have⟨c,j,cA,cK,cN⟩:=Xl (nm:=nm) (v:=v) x cd bC aG Z bj cZ c1 c2 a aQ [fD] P;exact⟨_,[],j,cN,rfl,cK,c,cA,rfl⟩
 obtain⟨P,aA,rfl,b2,c,h,rfl⟩:=n;have ae:dF u2=dF (kU W l (fj {r with state:=.busy})):=Ok br (E.un.set l (by simp[pz])) b2;have⟨bm,dl,⟨cy,bh,aD⟩,dx,rv,nv,o,da,dk,dq,dc,aI,bs,dr⟩:=id R;obtain⟨rfl,rfl⟩:=bs.1 rfl;have X:=aI.st.book;have a2:=aI.st.pP;rw[l5] at X a2;have a8:∀a:Nat,a≠l->u2.heap[a]? =W.heap[a]? :=λa i=>bV ae (y7 i);have z:∀{a:Nat} {Qg t},W.heap[a]? =K (aq Qg t (0,0))->u2.heap[a]? =W.heap[a]? :=λm=>a8 _ λe=>by rw[e,bm] at m;cases m
 have cq:U u2.heap=U W.heap:=bV ae World.putObj_size;have bL:gF u2 0 B o bW:=uE X (z X.blk) (λa Qg i _=>z i) (λe _ a cx bd Qg _ _ i=>z i);have bi:∀g,AtRel u2 g->dF g=dF u2:=λg m=>by obtain⟨aA,rfl⟩:=m;rfl
 have bS:((dp-1:Nat):Int)=(dp:Int)-1:=aa;show iq _ _ _ (aX (a.atR c (bY (oC dX) [4,5,6]::CM dX)) (Qg::Qj)) u2;refine Ya (R:=λe d=>∃g,dF g=dF u2/\BQ g cu B (dp-1) o bW q H.1 H e d) V Y Y Y Tryz.func34 OL Y (λg bo=>?_) (λL d cp cl=>?_) (λdf d ⟨_,_,m⟩=>by have⟨_,_,_,_,_,_,_,e,_⟩:=m;cases e) (λd ⟨_,_,m⟩=>by have⟨_,_,_,_,_,_,_,e,_⟩:=m;cases e) ab trivial;rw[IJ h.VA (rfl:bp c (.const (z9 (-1)))=z9 (-1)) h.VB h.VD,<-bS];have k:=bi g bo;intro bc be an ao c5 c6;exact ba g o bW (bv W g hF (λa i=>bV k (a8 a aa)) (by rw[k,cq];exact aZ _)) (uE bL (by rw[k]) (λa Qg _ _=>by rw[k]) (λe _ a cx bd Qg _ _ _=>by rw[k])) a2 a1 a0 ⟨cy,bh,by rw[k];exact(z aD).trans aD⟩ bc be an ao c5 λe d bT=>c6 e d ⟨g,k,bT⟩;have⟨g,k,dz,c0,dv,dt,di,aE,Zi,cs,bu⟩:=cp;cases cs;have⟨dy,dw,du,dd,aw,C,c8,c7,c9⟩:=Tm (v:=v) (row:=O) R aG a1 Z.1 cr ca (k.trans ae) bu;intro cW _;have⟨am,w⟩:=x9 (aH ax) d;have a3:U am.heap=U d.heap:=bq w.un.size;obtain⟨ra,G,p,rfl⟩:∃ra G p,c0=ah ra G p:=by
  have⟨db,cv,_⟩:=C.got.ex;have⟨ra,p,e⟩:=e9 cv;exact⟨ra,_,p,e⟩
 obtain⟨a5,a6,rfl⟩:=e9 C.got.fL;obtain⟨a9,wc,rfl⟩:=e9 C.mW.own;have b:=C.same (X':=am) (λa cO cc bF=>w.at_ a cO cc (by
  rcases bF with⟨Qg,t,rfl⟩|rfl|rfl;trivial;exact Z9 x;exact λaA bQ=>de bQ))
 refine z1 (aU:=[Qg]) fX (Stop:=λu aU j=>aU=[]/\u=dR Qg (ak (gU J [(nm,O)]))/\mX l D A gb b5 T b7 B cu J dp r bW o q H.1 [] aw am nm O v j) (λu aU j n=>?_) ⟨cW.top,λN a4=>by simp at a4;rw[a4];exact aR.top,aR.bot⟩ w.hp w.un (λP=>?_) (λbl c3 j u3 n ab aF cn=>?_);obtain⟨_,rfl,_⟩:=n;exact Lf cf _;have y:∀F:Nat,F≠36->(bw c (K 36) (bZ #[ak aj,ah ra G p,ah a5 (I (H.1.map λN=>(N.1:Int))) a6,ah a9 (I aE) wc])).tmps.getD F bR=cB c.tmps F bR:=λF b3=>by
  simp only[bw];rw[jh,nI,if_neg (Ne.symm b3),<-jh]
 have⟨bb,an,ao⟩:=Tk (eG:=o) (a:=bw c (K 36) (bZ #[ak aj,ah ra G p,ah a5 (I (H.1.map λN=>(N.1:Int))) a6,ah a9 (I aE) wc])) V aQ x b.hl b.hD b.hc b.st b.el b.h4 b.z4 b.gl Z.2 a0 b.zc b.lw b.got b.mW b.m1 b.zb b8 ch b.own b.Lh (by simp[bw,h.sz]) (by simp[bw,h.df]) ((y 5 az).trans h.k5) ((y 7 az).trans h.k7) ((y 9 az).trans h.k9) ((y 11 az).trans h.Fv) ((y 12 az).trans h.Fw) (by
  simp only[bw];rw[jh,nI,if_pos Y,if_pos (by rw[h.sz];decide)];rfl) Qg [fD] P
 exact⟨_,[],bb,ao,rfl,rfl,an⟩;obtain⟨dA,dg,rfl,rfl,ar,bx,b4,b0⟩:=n;have bz:kD l D A gb b5 T b7 B cu J dp r bW o q H.1 ([]++[(nm,O)]) ar j:=bx.keeps λa _=>rfl;have bH:mX l D A gb b5 T b7 B cu J dp r bW o q H.1 [] aw d nm O v u3:=⟨ar,bz.Om aF.un,λa i b6 bP=>aF.same w.un (b4 a (bV a3 i) b6 bP),λa i=>by rw[<-a3];exact b0 a i⟩;have ci:Sm W u2:=ck;exact bD _ u3 ⟨rfl,bH.back c9 c8 c7⟩ trivial ((ci.trans cl).trans cn) ab
end
section
variable{l D:Nat}{most:Int}{r:Loop}{bW:List (F×Int)}{eG:F}{q:Array F}{res:List cK×Nat×Nat}{afa:ag->Prop}
def S4(i:r5 r b5 b6 b7 gb)(a0:cB r.tmps 4 bR=(aK b4))(K:dp<=2)(L:I bW<=40000000000)(aI:∀b,j7 B eG bW b->cu<b)(aF:cu<l)(ar:∀d e,afa d->(∀b,b<cu->e.heap[b]? =d.heap[b]?)->U d.heap<=U e.heap->afa e)(am:0<dp->AJ Post afa cu B (dp-1) q res):
 Cons (aH ax) ax Post l afa (kD l D b4 gb b5 b6 b7 B cu most dp r bW eG q res.1) (gU most):=by
 refine⟨λpre n d e g s _=>g.keeps s,λpre n d g b h=>g.lt b h,λpre n d k x v p hF o aG P Z ad W=>?_⟩;have aQ:¬(I pre:Int)=most:=by simpa [gU] using o
 have a1:recAt r most (I pre)=r:=by unfold recAt;rw[if_neg aQ]
 have M:=p.hl;have X:=GW (most:=most) i (I pre);rw[a1] at M X;refine⟨r,M,X,gG i.ps,λc y aC Y a6 F ab=>?_⟩;by_cases N:pre=[]/\0<dp;obtain⟨rfl,G⟩:=N;exact Ta i a0 p hF ar o ⟨G,K⟩ P Z L aI aF (am G) ad W aC Y F ab;have⟨ae,f⟩:=x9 (aH ax) d;have a3:=YG f ad;refine z1 (aU:=[c]) fX (Stop:=λE aU m=>aU=[]/\E=dR c (ak (gU most (pre++[(k,x)])))/\mX l D b4 gb b5 b6 b7 B cu most dp r bW eG q res.1 pre n ae k x v m) (λE aU m t=>?_) ab f.hp f.un (λal=>?_) (λa5 a7 m u2 t aR j a2=>?_);obtain⟨_,rfl,_⟩:=t;exact Lf Y _;have⟨e,ao,j⟩:=S7 (nm:=k) i (p.K2 i f) o aG P Z L K (λg=>by
  by_cases an:0<dp;exact absurd ⟨g,an⟩ N;omega) a3 W c [fD] al
 exact⟨_,[],e,j,rfl,rfl,ao⟩;obtain⟨al,a4,rfl,rfl,z,aw,aE,aD⟩:=t;have aa:U ae.heap=U d.heap:=bq f.un.size;have az:kD l D b4 gb b5 b6 b7 B cu most dp r bW eG q res.1 (pre++[(k,x)]) z m:=aw.keeps λb _=>rfl;refine F _ u2 ⟨rfl,z,az.Om j.un,λb h s aA=>j.same f.un (aE b (bV aa h) s aA),λb h=>?_⟩ trivial a2 aR;rw[<-aa];exact aD b h
end
structure H9(w w':ag)(b4 cu gb b5 b6 b7 B:Nat)(most:Int)(dp:Nat)(eG:F)(bW:List (F×Int))(q:Array F)(wq:List cK)(res:List cK×Nat×Nat)(D:Nat):Prop where
 d:w'.heap[D]? =K (kT (K []))
 dl:U w.heap<=D
 c:w'.heap[cu]? =K (aq (fJ q res.2.1 res.2.2) 119 (0,0))
 ex:∃wv rv nv iv L es' gs ae4,sS w' b4 gb b5 b6 b7 B cu most dp bW wq res.1 wv rv nv iv L es' gs ae4/\(∀b,(ae4 b\/bI rv=K b\/bI nv=K b\/∃p∈L,bI p.2=K b)->b=b4\/U w.heap<=b)/\∀b,eK gb b5 b6 b7 B rv nv iv L (bW++es') b\/ae4 b->(eK gb b5 b6 b7 B (ah Z 0 0) (ah Z 0 0) eG [] bW b\/b=b4)\/U w.heap<=b
 keep:∀x,x<U w.heap->¬eK gb b5 b6 b7 B (ah Z 0 0) (ah Z 0 0) eG [] bW x->x≠b4->x≠cu->w'.heap[x]? =w.heap[x]?
 size:U w.heap<=U w'.heap
 tape:dG w'=dG w
 os:w'.os=w.os
 output:ga w'=ga w
section
variable{y:List aO}{w:ag}{a:bt}{c:aO}{l:List (bx×Int)}{J:List Bd}{an:List Int}{Q:List bH}{O C H u A:Nat}{S:Option aL}{bP ew:Nat->Nat}{T:Option aL}{cb bC bF:Nat}{ro:Option aL}{rb bL bD:Nat}{V:Nat->Nat->List aC}{cW:Nat}{sk:Bool}{R b8:Nat}{most:Int}{bW:List (F×Int)}{e0:Nat}{yu:List cK×Nat×Nat}
def Tf(q:FQ l J an Q V)(hF:FM w l J an Q O H S A bP ew T cb bC ro rb bL)(Z:∀d,tI O H A bP cb rb (I J) (I an) (I Q) d->d<cu)(ar:iA w gb b5 b6 b7 B most (dp:Int) aF aF aF iv [] [] bW)(E:∀f,eK gb b5 b6 b7 B aF aF iv [] bW f\/f=b4->cu<f)(bz:¬eK gb b5 b6 b7 B aF aF iv [] bW b4)(bK:¬eK gb b5 b6 b7 B aF aF iv [] bW R)(b2:R≠b4)(cp:cu<R)(bo:dp<=2)(br:I bW<=40000000000)(ao:gU most []=af)
 (L:w.heap[b4]? =K (aq #[(aK cu)] 74 (0,0))) (j:w.heap[cu]? =K (aq (fJ (ia O (I l) C H (I l) u S (I J) cW T (I an) bF ro (I Q) bD sk) n0 e0) 119 (0,0))) (hx:w.heap[R]? =K (aq #[(aK cu)] 74 (0,0)))
 (a1:0<dp->AJ Post (λn=>FM n l J an Q O H S A bP ew T cb bC ro rb bL) cu B (dp-1) (ia O (I l) C H (I l) u S (I J) cW T (I an) bF ro (I Q) bD sk) yu)
 (h:Knows a 75 [(21,.func (.func 53) #[] #[(aK R)]),(9,(aK gb)),(8,(aK b8)),(7,(aK b7)),(6,(aK b6)),(5,(aK b5)),(4,(aK b4))]) (aA:bU a=[])
 (p:∀G z D,Knows G 75 [(9,(aK gb)),(8,(aK b8))]->bU G=[{target:=.collected D,args:= #[]}]->H9 w z b4 cu gb b5 b6 b7 B most dp iv bW (ia O (I l) C H (I l) u S (I J) cW T (I an) bF ro (I Q) bD sk) yu.1 (gK sk J an Q (dy (I l) (an++Q.map bH.col)) V (gU most) 0 (I J) [] 0) D->Xe (aH ax) ax Post (fO z) ((base 34).at G [bJ (Dk dX)]) (c::y) z):
 Xe (aH ax) ax Post (fO w) ((base 34).at a [bJ (ZU dX),fh 0,bJ (Dk dX)]) (c::y) w:=by
 have aw:=me (aH ax) ax Post;intro co e t N;have aU:cu<U w.heap:=(dn.1 j).1;have cc:R<U w.heap:=(dn.1 hx).1;have aQ:b4<U w.heap:=(dn.1 L).1;have b1:=t.size;generalize W:wU (base 34).fn a.tmps #[22,23] (sG dX) (kA dX) (U e.heap)=r;have P:r5 r b5 b6 b7 gb:=by
  rw[<-W];exact⟨rfl,rfl,rfl,rfl,rfl,h.size,h.slot 5 _ Y,h.slot 6 _ Y,h.slot 7 _ Y,h.slot 9 _ Y⟩
 have bT:cB r.tmps 4 bR=(aK b4):=by
  rw[<-W];exact h.slot 4 _ Y
 have k:¬((I ([]:List cK):Nat):Int)=most:=by simpa [gU] using ao
 have b0:recAt r most (I ([]:List cK))=r:=by unfold recAt;rw[if_neg k]
 generalize x:cG (cG e (kT (K []))) (fj r)=m;have ba:∀d,d<U e.heap->m.heap[d]? =e.heap[d]? :=λd hx=>by
  rw[<-x];show(iz (iz e.heap _) _)[d]? =_;rw[p6,if_neg bS,p6,if_neg aa]
 have bb:m.heap[U e.heap]? =K (kT (K [])):=by
  rw[<-x];show(iz (iz e.heap _) _)[U e.heap]? =_;rw[p6,if_neg aI,p6,if_pos Y]
 have bc:m.heap[U e.heap+1]? =K (fj r):=by
  rw[<-x];show(iz (iz e.heap _) _)[U e.heap+1]? =_;rw[p6,if_pos aI]
 have cn:U m.heap=U e.heap+2:=by
  rw[<-x];show(iz (iz e.heap _) _).size=_;simp
 have i:∀d,d<U w.heap->m.heap[d]? =w.heap[d]? :=λd hx=>aB (ba d aa) (t.at_ d hx);let al:Nat->Prop:=λd=>d=U e.heap+1\/d=U e.heap\/d=cu\/eK gb b5 b6 b7 B aF aF iv [] bW d\/d=b4;have bh:kD (U e.heap+1) (U e.heap) b4 gb b5 b6 b7 B cu most dp r bW iv (ia O (I l) C H (I l) u S (I J) cW T (I an) bF ro (I Q) bD sk) yu.1 [] al m:=by
  refine⟨bV b0 bc,bb,⟨n0,e0,aB (i cu aU) j⟩,aF,aF,aF,iv,[],[],[],λf=>f=b4,⟨?_,rfl,cH _,aB (i b4 aQ) L,rfl,⟨iS _ _ _ _,λck bu=>(by simp at bu),λf g=>de g⟩,cH _,λf g=>?_,λf g=>?_,aI⟩,⟨λ_=>⟨rfl,rfl⟩,λf g=>by
   rcases g with b|b|b|⟨cr,N,_⟩;exact av b;cases b;cases b;simp at N⟩,λd=>?_⟩
  rw[l5];exact ar.same λf g=>i f (ar.lt g);subst g;rw[l5];exact⟨⟨_,_,aB (i f aQ) L⟩,bz,cA (E f (ai Y))⟩;rw[l5] at g;have:=E f (av g);omega;rw[l5]
 have a0:∀d,al d->cu<=d:=λd hx=>by
  rcases hx with b|b|b|b;omega;omega;omega;exact uU (E d b)
 have az:=To (Post:=Post) (cu:=cu) (xb:=R) (n0:=n0) (e0:=e0) (S4 (Post:=Post) (D:=U e.heap) (l:=U e.heap+1) (B:=B) (most:=most) (bW:=bW) (eG:=iv) (afa:=λn=>FM n l J an Q O H S A bP ew T cb bC ro rb bL) P bT bo br (λf g=>E f (av (zy g))) aa (λn ch b p aG=>b.kept aG λd hx=>zY (p d (Z d hx))) a1) ao q bh (λn bl aG=>hF.kept aa λd hx=>by
  have a8:=Z d hx;exact λcd bM bk=>bl d aa (λb=>cA (a0 d b)) aa cd (aB (i d aa) bM) bk) (λa7 b=>by
  have a8:=Z A (ai (ai (av ⟨a7,rfl⟩)));have:=a0 A b;omega) kD.cur (λb=>by
  rcases b with b|b|b|b|b;omega;omega;omega;exact bK b;exact b2 b) aa (aB (i R cc) hx) (aB (i cu aU) j)
 generalize gK sk J an Q (dy (I l) (an++Q.map bH.col)) V (gU most) 0 (I J) [] 0=res at az p;subst x;subst W;refine Yd fX (g:=.tmp 21) (gf:=53) (cap:= #[(aK R)]) (h.of Y) (λargs w=>aE.call53 args w) (av (bq (vw Y Y Y))) az (λv ad bd X=>?_) (λci z b=>by cases b.1) (λz b=>by cases b.1) (λs b=>?_) (gT Y aA aR) N;obtain⟨-,⟨a3,bi,bs⟩,bv,bm,cq⟩:=bd;have⟨am,a5,cl,cf,rv,nv,b3,a2,a4,a6,ae4,M,be,bj⟩:=bi;have ca:∀d,a3 d->d≠cu->(eK gb b5 b6 b7 B aF aF iv [] bW d\/d=b4)\/U w.heap<=d:=λd hx k=>by
  rcases bs d hx with b|b;rcases b with b|b|b|b;exact ai aa;exact ai aa;exact absurd b k;exact av b;exact ai aa
 have done:∀ab:Loop,H9 w (kU ad (U e.heap+1) (fj ab)) b4 cu gb b5 b6 b7 B most dp iv bW (ia O (I l) C H (I l) u S (I J) cW T (I an) bF ro (I Q) bD sk) yu.1 res (U e.heap):=λab=>by
  have F:∀d,d≠U e.heap+1->(kU ad (U e.heap+1) (fj ab)).heap[d]? =ad.heap[d]? :=λd hx=>y7 hx;refine⟨aB (F _ aa) a5,b1,aB (F _ aa) bm,⟨cf,rv,nv,b3,a2,a4,a6,ae4,M.same λf g=>F f λo=>?_,λf g=>(be.2 f g).imp_right λb=>aa,λf g=>ca f ((bj f).2 (ai (ai (ai g)))) (M.lt g).2⟩,λd hx bx a9 k=>?_,jC World.putObj_size,aB X.tape t.tape,aB X.os t.os,aB X.output t.output⟩;have⟨c,cs,j⟩:=M.wB g;rw[o,am] at j;cases j;refine aB (F d aa) (aB (bv d aa (λb=>?_) k) (i d hx));rcases b with b|b|b|b|b;omega;omega;exact k b;exact bx b;exact a9 b
 have ae:Knows ({a with defers:={target:=.collected (U e.heap),args:= #[]}::bU a}:bt) 75 [(9,(aK gb)),(8,(aK b8))]:=((h.nil.cons (h.slot 8 _ Y)).cons (h.slot 9 _ Y)).same Y;have aC:bU ({a with defers:={target:=.collected (U e.heap),args:= #[]}::bU a}:bt)=[{target:=.collected (U e.heap),args:= #[]}]:=by show _::bU a=_;rw[aA]
 refine Yc fX am (GW P _) ?_ ?_ ?_;unfold recAt
 split
 intro b;cases b;rw[P.st];intro b;cases b;intro s b;have:=congrArg I b;simp at this;intro _ bQ;refine Xe.go (own:=fO _) ?_ (λf b=>b) bQ;by_cases aD:((I res.1:Nat):Int)=most;have o:recAt (wU (base 34).fn a.tmps #[22,23] (sG dX) (kA dX) (U e.heap)) most (I res.1)= {wU (base 34).fn a.tmps #[22,23] (sG dX) (kA dX) (U e.heap) with state:=.done,pending:=K (.exit 0)}:=by unfold recAt;rw[if_pos aD]
 rw[o];exact wA aw (k':=[bJ (Dk dX)]) Y (p _ _ (U e.heap) ae aC (done _));have o:recAt (wU (base 34).fn a.tmps #[22,23] (sG dX) (kA dX) (U e.heap)) most (I res.1)=wU (base 34).fn a.tmps #[22,23] (sG dX) (kA dX) (U e.heap):=by unfold recAt;rw[if_neg aD]
 rw[o];exact ue aw (p _ _ (U e.heap) ae aC (done _));rw[enter_at _ aE.func53 Y] at b;cases b
end
section
variable{O:F->ag->Prop}{J:ag}{l:List (bx×Int)}{S:List Bd}{an:List Int}{H:List bH}{A a C z y:Nat}{r:Option aL}{bP ew:Nat->Nat}{M:Option aL}{cb bC bF:Nat}{ro:Option aL}{rb bL bD:Nat}{V:Nat->Nat->List aC}{cW:Nat}{sk:Bool}{Q:Nat}{most:Int}{T:F}{yu:List cK×Nat×Nat}{bW:List (F×Int)}{e0:Nat}
def EO(dc:FQ l S an H V)(hF:FM J l S an H A C r y bP ew M cb bC ro rb bL)(bs:∀g,tI A C y bP cb rb (I S) (I an) (I H) g->g<Q)(ba:gF J 0 B T bW)(cp:∀k∈bW,0<=k.2/\k.2<=1000000000000)(co:∀b,j7 B T bW b->Q<b)(ci:dp<=2)(ck:I bW<=40000000000)(b6:gU most []=af)
 (bx:0<dp->AJ O (λj=>FM j l S an H A C r y bP ew M cb bC ro rb bL) Q B (dp-1) (ia A (I l) a C (I l) z r (I S) cW M (I an) bF ro (I H) bD sk) yu) (R:J.heap[Q]? =K (aq (fJ (ia A (I l) a C (I l) z r (I S) cW M (I an) bF ro (I H) bD sk) n0 e0) 119 (0,0))):
 sQ (aH ax) ax O 34 #[(aK Q),z9 most,n9 dp,(aK B)] J (BQ J Q B dp T bW (ia A (I l) a C (I l) z r (I S) cW M (I an) bF ro (I H) bD sk) yu.1 (gK sk S an H (dy (I l) (an++H.map bH.col)) V (gU most) 0 (I S) [] 0)):=by
 intro bT du br cZ m b7;have h:=me (aH ax) ax O;have db:Q<U J.heap:=(dn.1 R).1;have bb:∀b,j7 B T bW b->b<U J.heap:=λb d=>by
  have⟨bT,dd,c,_⟩:=Eu ba d;exact(dn.1 c).1
 refine Xe.go (own:=fO J) ?_ (λb c=>c) m;rw[enter_at _ Tryz.func34 Y];refine cy h (lC fX (Ks (aK Q) (z9 most) (n9 dp) (aK B) 75 az) Y (Di dX) _ (Lc λs c=>de c) (gT Y Y aR) (λv j n bc bm=>Mr j v (n 0 _ Y) (n 1 _ Y) (n 2 _ Y) (n 3 _ Y)) λdl bM dg bv dK dQ dC cK Z cO=>?_);have⟨⟨bz,bh⟩,o,E,G,L,p⟩:=cK;replace o:=Z.row.1 o;replace E:=Z.row.1 E;replace G:=Z.row.1 G;replace L:=Z.row.1 L;replace p:=Z.row.1 p;generalize U bM.heap=e at*;have d3:e+4<U bv.heap:=(dn.1 p).1;refine cy h ?_;refine lC fX bz bh (Dj dX) (λj a7 aw=>(Knows a7 75 [(9,(aK (U j.heap))),(8,(aK (e+4))),(7,(aK (e+3))),(6,(aK (e+2))),(5,(aK (e+1))),(4,(aK e))]/\bU a7=[])/\Ea j aw) (Lc λs c=>de c) (gT Y bh aR) (λv j n bc bm=>by
  have:=Ms j v;rw[n 8 _ Y,n 7 _ Y,n 6 _ Y,n 5 _ Y,n 4 _ Y] at this;exact this) λdq bQ di aC dL dT dE cM ca bk=>?_
 have⟨⟨f,bi⟩,⟨P⟩⟩:=cM;replace P:=ca.row.1 P;generalize U bQ.heap=q at*;have yD:∀{b:Nat} {F:cz},bv.heap[b]? =K F->aC.heap[b]? =K F:=λ{b F} c=>aB (bk.at_ b (dn.1 c).1) c;replace o:=yD o;replace E:=yD E;replace G:=yD G;replace L:=yD L;replace p:=yD p;have cN:=o6 cO bk;have c9:e<U aC.heap:=(dn.1 o).1;have d4:q<U aC.heap:=(dn.1 P).1;refine cy h ?_;refine dP h [0,1,2] Y (nU h f Y (aK Q) (ju Y (f.of Y) Tryz.isAgg74 (ai c9) (tB o Y)) λf=>?_);refine OI (vs:= #[(aK Q)]) (R:=λj v aw=>v= .func (.func 53) #[] #[(aK (U j.heap))]/\aw=j.alloc (aq #[(aK Q)] 74)) fX Y Y Y Y (II (f.of Y)) Tryz.func36 ad0 Y (bq (vw Y Y Y)) (gT Y (by simp only[put_defers];exact bi) aR) (λj bc bm=>bG (Ck) λk aw ⟨t,ae⟩=>⟨by rw[ae];exact(Below.refl _ _).alloc (aZ _) _,_,t,rfl,ae⟩) λv bS dk X dO d0 dJ c4 cd bl=>?_;obtain⟨rfl,cc⟩:=c4;generalize c6:U bS.heap=a6 at*;have c5:cq X a6 #[(aK Q)] 74:=by
  refine cd.row.1 ?_;rw[cc,<-c6];exact Ec.iI _ _
 replace f:=f.put (d:=17) az (.func (.func 53) #[] #[(aK a6)]);refine lK h f λf=>dr h ?_;refine cy h (cy h (dP h [0,1] Y ?_));refine eL h f λf=>eF h f Y (ak aj) (Yp Y (f.of Y) Y Tryz.underlying87) λf=>?_;refine dr h (iJ h aj (f.of Y) (nV h (cy h (cy h (dP h [0] Y (eL h f λf=>dr h (nS h ?_)))))));have W:∀{b:Nat} {F:cz},aC.heap[b]? =K F->X.heap[b]? =K F:=λ{b F} c=>aB (bl.at_ b (dn.1 c).1) c;replace o:=W o;replace E:=W E;replace G:=W G;replace L:=W L;replace p:=W p;replace P:=W P;have w:=o6 cN bl;have c0:=w.size;have a0:∀b,j7 B T bW b->X.heap[b]? =J.heap[b]? :=λb d=>w.at_ b (bb b d);have cf:gF X 0 B T bW:=Ec.uE ba (a0 B (av Y)) (λb _ _ d=>a0 b (ai (av d))) (λk a1 b a4 aI _ t aU _=>a0 b (ai (ai ⟨k,a1,a4,aI,t,aU⟩)));have b8:iA X q (e+1) (e+2) (e+3) B most (dp:Int) aF aF aF T [] [] bW:=⟨E,G,L,P,iS _ _ _ _,λx m=>(by simp at m),iS _ _ _ _,cf,λaQ a2=>(de a2),λx m=>(by simp at m),λd1 d2 d7 dd aQ c=>(by simp at c),cp⟩;have da:e+4<U X.heap:=(dn.1 p).1;have bj:∀b,eK q (e+1) (e+2) (e+3) B aF aF T [] bW b->j7 B T bW b\/U J.heap<=b:=λb d=>by
  rcases GK d with c|c;exact ai aa;exact av c
 have a5:∀g,U J.heap<=g->g≠q->g≠e+1->g≠e+2->g≠e+3->¬eK q (e+1) (e+2) (e+3) B aF aF T [] bW g:=λg ao t ae dz dA c=>by
  rcases GK c with c|c;omega;have:=bb g c;omega
 refine Tf (b4:=e) (b8:=e+4) (B:=B) (n0:=n0) (e0:=e0) dc (hF.kept c0 λg ao=>zY (w.at_ g (by have:=bs g ao;show g<U J.heap;omega))) bs b8 (λb d=>?_) (a5 e aa aa aa aa aa) (a5 a6 aa aa aa aa aa) aa aa ci ck b6 o (aB (w.at_ Q db) R) c5 bx (((((((f.nil.cons (f.slot 4 _ Y)).cons (f.slot 5 _ Y)).cons (f.slot 6 _ Y)).cons (f.slot 7 _ Y)).cons (f.slot 8 _ Y)).cons (f.slot 9 _ Y)).cons (f.slot 21 _ Y)) (by simp only[put_defers];exact bi) λds aD D bK ch b0=>?_;rcases d with d|d;exact eD (bj b d) (co b) (λc=>aa);omega;generalize gK sk S an H (dy (I l) (an++H.map bH.col)) V (gU most) 0 (I S) [] 0=d5 at*;have⟨a8,dw,bV,⟨df,rv,nv,ar,ab,ad,b4,aA,N,c7,bd⟩,a9,dx,b3,b1,b2⟩:=b0;have bu:=a5 (e+4) aa aa aa aa aa;have b5:cq aD (e+4) #[ak aj,aF,aF,aF] 81:=aB (a9 (e+4) da bu aa aa) p;refine i_ bK ch a8 N.st.box b5 (z6 N.st.rows).2 (z6 N.st.fL).2 (z6 N.mW.own).2 br cZ λd8 cn c1 c2 cv c3=>?_;intro _ aE am cx;have a3:∀g,g<U aD.heap->g≠D->g≠e+4->aE.heap[g]? =aD.heap[g]? :=λg ao t ae=>aB (am.at_ g (cL ao c1)) (cn g ao t ae);have bo:U J.heap<=U aE.heap:=cA am.size;have gJ:∀b,eK q (e+1) (e+2) (e+3) B rv nv ar ab (bW++ad) b\/aA b->j7 B T bW b\/U J.heap<=b:=λb d=>by
  rcases bd b d with(c|c)|c;exact bj b c;exact ai aa;exact ai aa
 have c8:∀b,eK q (e+1) (e+2) (e+3) B rv nv ar ab (bW++ad) b\/aA b->aE.heap[b]? =aD.heap[b]? :=λb d=>by
  refine a3 b (N.lt d).1 (λk=>?_) (λk=>?_);have⟨dt,d6,be⟩:=N.wB d;rw[k,a8] at be;cases be;rw[k] at d;rcases bd _ d with(c|c)|c;exact bu c;omega;omega
 have i:=N.same c8;have al:=i.st.book;let aG:Nat->Prop:=λb=>aA b\/bI rv=K b\/bI nv=K b\/∃x∈ab,bI x.2=K b;have cl:∀b,aG b->eK q (e+1) (e+2) (e+3) B rv nv ar ab (bW++ad) b\/aA b:=λb d=>by
  rcases d with c|c|c|c;exact ai c;exact av (ai (ai (ai (ai (ai (av c))))));exact av (ai (ai (ai (ai (ai (ai (av c)))))));exact av (ai (ai (ai (ai (ai (ai (ai (ai (av c)))))))))
 have cs:∀b,aG b->¬j7 B ar (bW++ad) b:=λb d u=>by
  rcases d with c|c|c|⟨x,m,c⟩;exact(i.zc b c).2.1 (zy u);exact Et al (nX i.st.rows c).choose_spec az u;exact Et al (nX i.st.fL c).choose_spec az u;have⟨dv,R⟩:=nX (i.st.each x m) c;rcases u with u|u|⟨k,a1,a4,aI,t,aU⟩
  .rw[u,al.blk] at R;cases R
  .exact dS al.own R (by decide) (bq u)
  .exact i.st.gJ x m k a1 b a4 aI t aU c
 refine b7 _ aE ⟨df,rv,nv,ar,ad,b4,aG,rfl,⟨⟨⟨ab,i.st.rows,i.st.each,i.fs,λx m b d=>ai (ai (ai ⟨x,m,d⟩))⟩,i.st.fL,λb d=>ai (av d),λb d=>ai (ai (av d))⟩,⟨i.mW.own,λaQ a2=>(i.mW.each aQ a2).up λb d=>av d,λb d=>av (i.mW.zw b d)⟩,i.gl,al,?_,i.st.pP,λb d=>gJ b (av (zy d)),λb d=>⟨eD (c7 b d) (λc=>aa) (λc=>aa),cs b d,i.wB (cl b d)⟩,λb d cr cu=>?_,aB (a3 Q aa aa aa) bV,bo,i.pl⟩⟩ cx ⟨aB am.tape (aB c2 (aB b3 w.tape)),aB am.os (aB cv (aB b1 w.os)),aB am.output (aB c3 (aB b2 w.output)),bo⟩ (A4 br);have:=i.len;have:=i.pl;omega;refine aB (a3 b aa aa aa) (aB (a9 b aa (λc=>?_) aa cu) (w.at_ b d));rcases GK c with c|c;omega;exact cr c
end
end Cc
namespace Ec
open Go.RowKit Pk Pm
def eA (v:Nat->F):bt:=⟨#[v 0,v 1,v 2,v 3,v 4,v 5,v 6,v 7,v 8,v 9,v 10,v 11,v 12,v 13,v 14,v 15,v 16,v 17,v 18,v 19,v 20,v 21,v 22,v 23,v 24,v 25,v 26,v 27,v 28,v 29,v 30,v 31,v 32,v 33,v 34,v 35,v 36,v 37,v 38,v 39,v 40,v 41,v 42,v 43,v 44,v 45,v 46,v 47,v 48,v 49,v 50,v 51,v 52,v 53,v 54,v 55,v 56,v 57,v 58,v 59,v 60,v 61,v 62,v 63,v 64,v 65,v 66,v 67,v 68,v 69,v 70,v 71,v 72,v 73,v 74,v 75,v 76,v 77,v 78,v 79,v 80,v 81,v 82,v 83,v 84,v 85,v 86,v 87,v 88,v 89,v 90,v 91,v 92,v 93,v 94,v 95,v 96,v 97,v 98,v 99,v 100,v 101,v 102,v 103,v 104,v 105,v 106,v 107,v 108,v 109,v 110,v 111,v 112,v 113,v 114,v 115,v 116,v 117,v 118,v 119,v 120,v 121,v 122,v 123,v 124,v 125,v 126,v 127,v 128,v 129,v 130,v 131,v 132,v 133,v 134,v 135,v 136,v 137,v 138,v 139,v 140,v 141,v 142,v 143,v 144,v 145,v 146,v 147,v 148,v 149,v 150,v 151,v 152,v 153,v 154,v 155,v 156,v 157,v 158,v 159,v 160,v 161,v 162,v 163,v 164,v 165,v 166,v 167,v 168,v 169,v 170,v 171,v 172,v 173,v 174,v 175,v 176,v 177,v 178,v 179,v 180,v 181,v 182,v 183,v 184,v 185,v 186,v 187,v 188,v 189,v 190,v 191,v 192,v 193,v 194,v 195,v 196,v 197,v 198,v 199,v 200,v 201,v 202,v 203,v 204,v 205,v 206,v 207,v 208,v 209,v 210,v 211,v 212,v 213,v 214,v 215,v 216,v 217,v 218,v 219,v 220,v 221,v 222,v 223,v 224,v 225,v 226,v 227,v 228],[]⟩
def zZ(h:U Q.tmps=229)(b:bU Q=[]):Q=eA (Cc.cx Q):=by
 have⟨d,e⟩:=Q;simp only at h b;subst b;show _=(⟨cR ((fp 229).map (Cc.cx ⟨d,[]⟩)),[]⟩:bt);congr 1;apply vK;intro c;simp only[List.getElem?_toArray,s5,List.getElem?_range];rcases jc c 229 with a|a;simp[a,Cc.cx,h];simp[a,h]
def gV (b:List Nat)(v:Nat->F)(a:bt):Prop:=U a.tmps=229/\bU a=[]/\∀s∈b,Cc.cx a s=v s
def fm(h:Qa n)(c:∀a∈l,Qa a):∀a∈n::l,Qa a:=λa b=>by
 rcases gy.1 b with rfl|b;exact h;exact c a b
def fn:∀a∈([]:List Nat),Qa a:=λa b=>by simp at b
def SL(d:ag)(v:Nat->F)(c:F->ag->Prop)(f:bc 8 #[v 1] d λa i=>∃b,a=aN b/\c b i):
 (sc 1 cg).wp (aH ax) (λa e g=>a=cX/\gV [0,2,3,4] v e/\c (Cc.cx e 1) g) (eA v) d:=by
 unfold sc cg eA;dsimp only;simp only[iR];go_wp2_with (go_at_call 8;refine bG f ?_;rintro a j ⟨b,rfl,h⟩);exact⟨⟨rfl,rfl,by repeat' first|exact fn|refine fm Y ?_⟩,h⟩
def SS(d:ag)(v:Nat->F)(c:F->ag->Prop)(f:bc 9 #[v 2] d λa i=>∃b,a=aN b/\c b i):
 (sc 2 cg).wp (aH ax) (λa e g=>a=cX/\gV [0,1,3,4] v e/\c (Cc.cx e 2) g) (eA v) d:=by
 unfold sc cg eA;dsimp only;simp only[iR];go_wp2_with (go_at_call 9;refine bG f ?_;rintro a j ⟨b,rfl,h⟩);exact⟨⟨rfl,rfl,by repeat' first|exact fn|refine fm Y ?_⟩,h⟩
def SU(f:ag)(v:Nat->F)(e:F->F->ag->Prop)(g:bc 30 #[v 0,v 1,v 2] f λa j=>∃c d,a=aN (cP #[c,d])/\e c d j):
 (sc 3 cg).wp (aH ax) (λa b h=>a=cX/\gV [0,1,2,3,4] v b/\e (Cc.cx b 11) (Cc.cx b 12) h) (eA v) f:=by
 unfold sc cg eA;dsimp only;simp only[iR];go_wp2_with (go_at_call 30;refine bG g ?_;rintro a k ⟨c,d,rfl,i⟩);exact⟨⟨rfl,rfl,by repeat' first|exact fn|refine fm Y ?_⟩,i⟩
def SV(d:ag)(v:Nat->F)(c:F->ag->Prop)(f:bc 11 #[v 1] d λa i=>∃b,a=aN b/\c b i):
 (sc 4 cg).wp (aH ax) (λa e g=>a=cX/\gV [0,1,2,3,4,11,12] v e/\c (Cc.cx e 13) g) (eA v) d:=by
 unfold sc cg eA;dsimp only;simp only[iR];go_wp2_with (go_at_call 11;refine bG f ?_;rintro a j ⟨b,rfl,h⟩);exact⟨⟨rfl,rfl,by repeat' first|exact fn|refine fm Y ?_⟩,h⟩
def SW(d:ag)(v:Nat->F)(c:F->ag->Prop)(f:bc 12 #[v 2] d λa i=>∃b,a=aN b/\c b i):
 (sc 5 cg).wp (aH ax) (λa e g=>a=cX/\gV [0,1,2,3,4,11,12,13] v e/\c (Cc.cx e 14) g) (eA v) d:=by
 unfold sc cg eA;dsimp only;simp only[iR];go_wp2_with (go_at_call 12;refine bG f ?_;rintro a j ⟨b,rfl,h⟩);exact⟨⟨rfl,rfl,by repeat' first|exact fn|refine fm Y ?_⟩,h⟩
def SX(c:ag)(v:Nat->F)(j:F->F->ag->Prop)(a m C B k l:Nat)(y ro:Option aL)(I:a<=1000)(H:m<=1000)(n:v 1=ah y a C)(q:v 2=ah ro m B)(o:v 13=aG k (a+8) (a+8))(p:v 14=aG l (m+8) (m+8))
 (r:∀d,dF d=dF c->bc 31 #[v 0,aG k a (a+8),aG l m (m+8),v 3] d λe E=>∃h i,e=aN (cP #[h,i])/\j h i E):
 (sc 6 cg).wp (aH ax) (λe f d=>e=cX/\gV [1,2,3,4,11,12,13,14] v f/\j (Cc.cx f 15) (Cc.cx f 16) d) (eA v) c:=by
 have s:=aA (bq n);have w:=aA (bq q);have t:=aA (bq o);have u:=aA (bq p);unfold eA;rw[n,q,o,p];unfold sc cg;dsimp only;simp only[iR];refine Un.open_ (λ_=>True) 15 (λ_ _ _ _ _ b=>absurd (And.left b) (λb=>by cases b)) λJ=>?_;have z:(λ_:ag=>True) c.drew:=trivial;refine Un.pk 0 ?_;refine Un.pk 1 ?_;refine Un.pk 2 ?_;refine Un.pk 3 ?_;refine Un.pk 4 ?_ (hy:=by intro D;go_simp;rw[if_pos (by omega)]);refine Un.pk 5 ?_;refine Un.pk 6 ?_;refine Un.pk 7 ?_;refine Un.pk 8 ?_ (hy:=by intro D;go_simp;rw[if_pos (by omega)]);refine Un.pk 9 ?_;refine Un.on 10 λx g=>?_;go_simp;go_at_call 31;refine bG (r c.drew Y) ?_;rintro e G ⟨h,i,rfl,A⟩;refine g.o _ _ (λ_=>trivial) ?_;have z:(λ_:ag=>True) G:=trivial;try simp only[bw,l6,kG,jK,ct,cj,b9]
 refine Un.pk 11 ?_;refine Un.pk 12 ?_;refine Un.pk 13 ?_;refine Un.pk 14 ?_;refine Un.on 15 λx g=>?_;go_simp;refine g.o _ _ (λb=>absurd b az) ?_;exact Un.done aR ⟨rfl,⟨rfl,rfl,by repeat' first|exact fn|refine fm (by first|rfl|exact s.o|exact w.o|exact t.o|exact u.o) ?_⟩,A⟩ _
def SY(h:ag)(v:Nat->F)(g:F->ag->Prop)(f:ag->Prop)(j:bc 11 #[v 1] h λa e=>∃b,a=aN b/\g b e)(d:∀b c,g b c->bc 17 #[v 13,b] c λa e=>a=aN (ak af)/\f e):
 (sc 7 cg).wp (aH ax) (λa i k=>a=cX/\gV [1,2,3,4,11,12,13,14,15,16] v i/\Cc.cx i 17=ak af/\f k) (eA v) h:=by
 unfold sc cg eA;dsimp only;simp only[iR];go_wp2_with (first|(go_at_call 11;refine j.mono ?_;rintro a c ⟨b,rfl,l⟩;replace d:=d b c l)|(go_at_call 17;refine bG d ?_;rintro a n ⟨rfl,m⟩));exact⟨⟨rfl,rfl,by repeat' first|exact fn|refine fm Y ?_⟩,rfl,m⟩
def SZ(h:ag)(v:Nat->F)(g:F->ag->Prop)(f:ag->Prop)(j:bc 12 #[v 2] h λa e=>∃b,a=aN b/\g b e)(d:∀b c,g b c->bc 18 #[v 14,b] c λa e=>a=aN (ak af)/\f e):
 (sc 8 cg).wp (aH ax) (λa i k=>a=cX/\gV [1,2,3,4,11,12,13,14,15,16,17] v i/\Cc.cx i 18=ak af/\f k) (eA v) h:=by
 unfold sc cg eA;dsimp only;simp only[iR];go_wp2_with (first|(go_at_call 12;refine j.mono ?_;rintro a c ⟨b,rfl,l⟩;replace d:=d b c l)|(go_at_call 18;refine bG d ?_;rintro a n ⟨rfl,m⟩));exact⟨⟨rfl,rfl,by repeat' first|exact fn|refine fm Y ?_⟩,rfl,m⟩
def S0(e:ag)(v:Nat->F)(f:Nat)(a b:Option aL)(n:v 12=n9 f)(o:v 16=n9 f)(p:v 17=ak af)(q:v 18=ak af)(j:v 15=cU a)(i:v 11=cU b)(r:a=Z/\b=Z\/∃g h,a=K ⟨g,0,Z⟩/\b=K ⟨h,0,Z⟩):
 (sc 9 cg).wp (aH ax) (λm l k=>m=cX/\k=e/\gV [1,2,3,4,11,13,14,15] v l) (eA v) e:=by
 have d:=aA (bq j);have c:=aA (bq i);unfold eA;rw[n,o,p,q,j,i];unfold sc cg;dsimp only;simp only[iR];rcases r with⟨rfl,rfl⟩|⟨g,h,rfl,rfl⟩
 .go_wp2_with fail;exact⟨rfl,rfl,by repeat' first|exact fn|refine fm (by first|rfl|exact d.o|exact c.o) ?_⟩
 .go_wp2_with fail;exact⟨rfl,rfl,by repeat' first|exact fn|refine fm (by first|rfl|exact d.o|exact c.o) ?_⟩
def Jj(b:ag)(v:Nat->F)(a:Option aL)(g:v 15=cU a)(i:a=Z\/∃e,a=K ⟨e,0,Z⟩):
 (sc 10 cg).wp (aH ax) (λf c d=>(a=Z/\f= .ret/\d=b/\gV [] v c/\Cc.cx c 10=ak af)\/(a≠Z/\f=cX/\d=b/\gV [1,2,3,4,11,13,14,15] v c)) (eA v) b:=by
 have h:=aA (bq g);unfold eA;rw[g];unfold sc cg;dsimp only;simp only[iR];rcases i with rfl|⟨e,rfl⟩;go_wp2_with fail;exact⟨⟨rfl,rfl,fn⟩,rfl⟩
 .go_wp2_with fail;exact⟨rfl,rfl,by repeat' first|exact fn|refine fm (by first|rfl|exact h.o) ?_⟩
def SM(e:ag)(v:Nat->F)(b d:Nat)(a:Array F)(u:d<=2000)(q:v 13=aG b d d)(r:e.heap[b]? =K (aq a 3 (0,0)))(g:U a=d):
 (sc 11 cg).wp (aH ax) (λp o n=>p=cX/\Kp b e n/\gV [1,2,3,4,11,14,15] v o) (eA v) e:=by
 unfold eA;rw[q];unfold sc cg;dsimp only;simp only[iR];have m:X (∃a:Array F,cq e b a 3/\U a=d):=⟨a,r,g⟩;go_wp2_with fail
 go_loopw [19] (λj wr=>∃c:Nat,c<=d/\j=z9 c/\Kp b e wr/\∃a:Array F,cq wr b a 3/\U a=d) (λj _=>d-bO (bB j))
 exact⟨0,cH _,rfl,Kp.refl _ _,m.o⟩;obtain⟨c,t,rfl,i,a,f,g⟩:=hrel;by_cases w:c<d
 .obtain⟨k,x⟩:∃k,ap wr ⟨b,c,Z⟩=K k:=⟨_,by simp[ap,f];exact n7 aa⟩;have s:cE wr ⟨b,c,Z⟩=aj:=by simp[cE,f]
  have h:X (Kp b e (aY wr ⟨b,c,Z⟩ (z9 (-77)))):=(Kp.set i c (z9 (-77)) 0);have l:X (∃a:Array F,cq (aY wr ⟨b,c,Z⟩ (z9 (-77))) b a 3/\U a=d):=⟨_,ek wr b c _ _ _ f,cN g⟩;go_wp2
  go_roundw
  exact⟨c+1,by omega,by go_num,h.o,l.o⟩;simp[bB];omega
 .have h:X _:=i;clear i f g;go_wp2;exact⟨h.o,rfl,rfl,by repeat' first|exact fn|refine fm Y ?_⟩
def SN(e:ag)(v:Nat->F)(b d:Nat)(a:Array F)(P:d<=2000)(G:v 14=aG b d d)(I:e.heap[b]? =K (aq a 61 (0,0)))(l:U a=d*7):
 (sc 12 cg).wp (aH ax) (λD C B=>D=cX/\Kp b e B/\gV [1,2,3,4,11,15] v C) (eA v) e:=by
 unfold eA;rw[G];unfold sc cg;dsimp only;simp only[iR];have y:X (∃a:Array F,cq e b a 61/\U a=d*7):=⟨a,I,l⟩;go_wp2_with fail
 go_loopw [20] (λo wr=>∃c:Nat,c<=d/\o=z9 c/\Kp b e wr/\∃a:Array F,cq wr b a 61/\U a=d*7) (λo _=>d-bO (bB o))
 exact⟨0,cH _,rfl,Kp.refl _ _,y.o⟩;obtain⟨c,O,rfl,n,a,k,l⟩:=hrel;by_cases Q:c<d
 .have f:∀h,h<7->∃L,ap wr ⟨b,c*7+h,Z⟩=K L:=λh R=>⟨_,by simp[ap,k];exact n7 aa⟩;have fz:∀h,cE wr ⟨b,h,Z⟩=aj:=λh=>by simp[cE,k]
  have⟨u0,M⟩:=f 0 aa;have⟨u1,S⟩:=f 1 aa;have⟨u2,T⟩:=f 2 aa;have⟨u3,V⟩:=f 3 aa;have⟨u4,W⟩:=f 4 aa;have⟨u5,ab⟩:=f 5 aa;have⟨u6,ad⟩:=f 6 aa;rw[tY] at M;have g:∀(i:ag) (j:Nat) (m:F),Kp b e i->(∃a:Array F,cq i b a 61/\U a=d*7)->Kp b e (aY i ⟨b,j,Z⟩ m)/\∃a:Array F,cq (aY i ⟨b,j,Z⟩ m) b a 61/\U a=d*7:=λi j m E ⟨N,H,J⟩=>⟨Kp.set E j m 0,_,ek i b j _ _ _ H,cN J⟩;have A:=aA n;have x:X (∃a:Array F,cq wr b a 61/\U a=d*7):=⟨a,k,l⟩;go_wp2
  go_roundw
  have p:=g _ (c*7) (aJ aM (-77)) A.o x.o;have q:=g _ (c*7+1) (ak aj) p.1 p.2;have r:=g _ (c*7+2) (z9 0) q.1 q.2;have s:=g _ (c*7+3) (ay ⟨#[]⟩) r.1 r.2;have t:=g _ (c*7+4) (ak aj) s.1 s.2;have u:=g _ (c*7+5) (z9 0) t.1 t.2;have w:=g _ (c*7+6) (ay ⟨#[]⟩) u.1 u.2;exact⟨c+1,aa,by go_num,w.1,w.2⟩;simp[bB];omega
 .have z:=aA n;clear n k l;go_wp2;exact⟨z.o,rfl,rfl,by repeat' first|exact fn|refine fm Y ?_⟩
def SO(b:ag)(v:Nat->F)(d:bc 32 #[v 15] b λa c=>a=aN (z9 0)/\c=b)(e:bc 33 #[v 15] b λa c=>a=aN (z9 0)/\c=b):
 (sc 13 cg).wp (aH ax) (λa g f=>a=cX/\f=b/\gV [1,2,3,4,11,15] v g) (eA v) b:=by
 unfold sc cg eA;dsimp only;simp only[iR];go_wp2_with (first|(go_at_call 32;refine d.mono ?_;rintro a h ⟨rfl,rfl⟩)|(go_at_call 33;refine bG e ?_;rintro a h ⟨rfl,rfl⟩));exact⟨rfl,rfl,by repeat' first|exact fn|refine fm Y ?_⟩
def SP(a:ag)(v:Nat->F):
 (sc 14 cg).wp (aH ax) (λd b c=>d=cX/\c=cG a (aq #[aF,aF,aF,aF] 37)/\gV [1,2,3,4,11,15] v b/\Cc.cx b 21=(aK (U a.heap))) (eA v) a:=by
 unfold sc cg eA;dsimp only;simp only[iR];go_wp2_with fail;exact⟨⟨rfl,rfl,by repeat' first|exact fn|refine fm Y ?_⟩,rfl⟩
def SQ(a:ag)(v:Nat->F):
 (vC 16 cg).wp (aH ax) (λd b c=>d= .ret/\c=a/\gV [] v b/\Cc.cx b 10=ak af) (eA v) a:=by
 unfold vC cg eA;dsimp only;simp only[BC];go_wp2_with fail;exact⟨⟨rfl,rfl,fn⟩,rfl⟩
def mI (fn:cF):cQ:=match sc 15 fn with|aS _ (fT _ (.loop a))=>a|_=>ey
def sv (fn:cF):cQ:=match mI fn with|aS _ (aS (fT _ a) _)=>a|_=>ey
def cb (a:Nat)(fn:cF):cQ:=iR a (sv fn)
def zE (a:Nat)(fn:cF):cQ:=BC a (sv fn)
def ya (b:List Int)(a:Nat):Int:=if a<I b then(if aW b a 0<1 then -1 else aW b a 0) else -1
def RH(a:ag)(v:Nat->F):(cb 0 cg).wp (aH ax) (λd b c=>d=cX/\c=a/\gV [1,2,3,4,11,15,21,22] v b/\Cc.cx b 23=z9 (-1)) (eA v) a:=by
 unfold cb sv mI sc cg eA;dsimp only;simp only[iR];go_wp2_with fail;exact⟨⟨rfl,rfl,by repeat' first|exact fn|refine fm Y ?_⟩,rfl⟩
def RI(c:ag)(v:Nat->F)(a:List Int)(m:Option aL)(sb mP iX b:Nat)(q:b<=I a)(r:I a<=1048576)(j:v 4=ah m (I a) iX)(i:v 22=n9 b)(p:v 23=z9 (-1))(k:0<I a->m=K ⟨sb,mP,Z⟩)(l:∀e,e<I a->bl c sb (mP+e) (z9 (aW a e 0))):
 (cb 1 cg).wp (aH ax) (λo h n=>o=cX/\n=c/\gV [1,2,3,4,11,15,21,22] v h/\Cc.cx h 23=z9 (if b<I a then aW a b 0 else -1)) (eA v) c:=by
 have g:=aA (bq j);have f:=aA (bq i);unfold eA;rw[j,i,p];unfold cb sv mI sc cg;dsimp only;simp only[iR];by_cases d:b<I a
 .obtain rfl:=k aa;have s:=l b d;clear l k;rw[if_pos d];generalize aW a b 0=t at*;go_wp2_with fail;exact⟨⟨rfl,rfl,by repeat' first|exact fn|refine fm (by first|rfl|exact g.o|exact f.o) ?_⟩,rfl⟩
 .rw[if_neg d];go_wp2_with fail;exact⟨⟨rfl,rfl,by repeat' first|exact fn|refine fm (by first|rfl|exact g.o|exact f.o) ?_⟩,rfl⟩
def RK(b:ag)(v:Nat->F)(a:Int)(g:v 23=z9 a):
 (cb 2 cg).wp (aH ax) (λf c e=>f=cX/\e=b/\gV [1,2,3,4,11,15,21,22] v c/\Cc.cx c 23=z9 (if a<1 then -1 else a)) (eA v) b:=by
 unfold eA;rw[g];unfold cb sv mI sc cg;dsimp only;simp only[iR];by_cases d:a<1
 .rw[if_pos d];go_wp2_with fail;exact⟨⟨rfl,rfl,by repeat' first|exact fn|refine fm Y ?_⟩,rfl⟩
 .rw[if_neg d];go_wp2_with fail;exact⟨⟨rfl,rfl,by repeat' first|exact fn|refine fm Y ?_⟩,rfl⟩
def Ed (h:Option aL->Nat->Nat->Option aL->Nat->Nat->Nat->Nat->ag->Prop)(i:gN)(j:ag):Prop:=∃ra f e a d c,∃g b:Nat,i=aN (bZ #[ah ra f e,ah a d c,n9 g,n9 b])/\h ra f e a d c g b j
def RL(j:ag)(v:Nat->F)(i:Option aL->Nat->Nat->Option aL->Nat->Nat->Nat->Nat->ag->Prop)(m:bc 35 #[v 11,v 1,v 2,v 3,v 23] j (Ed i)):
 (cb 4 cg).wp (aH ax) (λl k n=>l=cX/\gV [1,2,3,4,11,15,21,22,24] v k/\∃ra g f b e d h c a,i ra g f b e d h c a/\n=cG a (aq #[ah ra g f,ah b e d,n9 h,n9 c] 84)/\Cc.cx k 25=(aK (U a.heap))) (eA v) j:=by
 unfold cb sv mI sc cg eA;dsimp only;simp only[iR];go_wp2_with (go_at_call 35;refine bG m ?_;rintro l a ⟨ra,g,f,b,e,d,h,c,rfl,o⟩);exact⟨⟨rfl,rfl,by repeat' first|exact fn|refine fm Y ?_⟩,ra,g,f,b,e,d,h,c,a,o,rfl,rfl⟩
def RQ(j:ag)(v:Nat->F)(i:Option aL->Nat->Nat->Option aL->Nat->Nat->Nat->Nat->ag->Prop)(m:bc 35 #[v 11,v 1,v 2,v 3,z9 (-1)] j (Ed i)):
 (cb 9 cg).wp (aH ax) (λl k n=>l=cX/\gV [1,2,3,4,11,15,21,22,24] v k/\∃ra g f b e d h c a,i ra g f b e d h c a/\n=cG a (aq #[ah ra g f,ah b e d,n9 h,n9 c] 84)/\Cc.cx k 29=(aK (U a.heap))) (eA v) j:=by
 unfold cb sv mI sc cg eA;dsimp only;simp only[iR];go_wp2_with (go_at_call 35;refine bG m ?_;rintro l a ⟨ra,g,f,b,e,d,h,c,rfl,o⟩);exact⟨⟨rfl,rfl,by repeat' first|exact fn|refine fm Y ?_⟩,ra,g,f,b,e,d,h,c,a,o,rfl,rfl⟩
def RM(a:ag)(v:Nat->F)(e h:Nat)(i j:F)(f:v 24=(aK e))(g:v 25=(aK h))(hx:bl a e 1 i)(hy:bl a h 0 j)(k:bc 14 #[i,j] a λc o=>c=aN (ak af)/\∃b,o=cI a b):
 (cb 5 cg).wp (aH ax) (λc d n=>c=cX/\(∃b,n=cI a b)/\gV [1,2,3,4,11,15,21,22,24,25] v d/\Cc.cx d 26=ak af) (eA v) a:=by
 have l:=aA (bq f);have m:=aA (bq g);unfold eA;rw[f,g];unfold cb sv mI sc cg;dsimp only;simp only[iR];go_wp2_with (go_at_call 14;refine bG k ?_;rintro c p ⟨rfl,b,rfl⟩);exact⟨⟨b,rfl⟩,⟨rfl,rfl,by repeat' first|exact fn|refine fm (by first|rfl|exact l.o|exact m.o) ?_⟩,rfl⟩
def RN(a:ag)(v:Nat->F)(e h:Nat)(i j:F)(f:v 24=(aK e))(g:v 25=(aK h))(hx:bl a e 2 i)(hy:bl a h 1 j)(k:bc 17 #[i,j] a λc o=>c=aN (ak af)/\∃b,o=cI a b):
 (cb 6 cg).wp (aH ax) (λc d n=>c=cX/\(∃b,n=cI a b)/\gV [1,2,3,4,11,15,21,22,24,25,26] v d/\Cc.cx d 27=ak af) (eA v) a:=by
 have l:=aA (bq f);have m:=aA (bq g);unfold eA;rw[f,g];unfold cb sv mI sc cg;dsimp only;simp only[iR];go_wp2_with (go_at_call 17;refine bG k ?_;rintro c p ⟨rfl,b,rfl⟩);exact⟨⟨b,rfl⟩,⟨rfl,rfl,by repeat' first|exact fn|refine fm (by first|rfl|exact l.o|exact m.o) ?_⟩,rfl⟩
def RO(c:ag)(v:Nat->F)(b:ag->Prop)(e:bc 16 #[v 21] c λa h=>a=aN (ak af)/\b h):
 (cb 7 cg).wp (aH ax) (λa d f=>a=cX/\b f/\gV [1,2,3,4,11,15,21,22,24,25,26,27] v d/\Cc.cx d 28=ak af) (eA v) c:=by
 unfold cb sv mI sc cg eA;dsimp only;simp only[iR];go_wp2_with (go_at_call 16;refine bG e ?_;rintro a i ⟨rfl,g⟩);exact⟨g,⟨rfl,rfl,by repeat' first|exact fn|refine fm Y ?_⟩,rfl⟩
def RP(a:ag)(v:Nat->F)(f e c j i:Nat)(l:v 24=cU (K ⟨f,0,Z⟩))(p:v 25=cU (K ⟨e,0,Z⟩))(k:v 15=(aK c))(q:v 26=ak af)(r:v 27=ak af)(s:v 28=ak af)(y:bl a f 0 (ak aj))(o:bl a e 2 (n9 j))(t:bl a e 3 (n9 i))(w:bl a c 7 (n9 j))(u:bl a c 6 (n9 i)):
 (cb 8 cg).wp (aH ax) (λd D b=>d=cX/\b=a.drew/\gV [1,2,3,4,11,15,21,22,24] v D) (eA v) a:=by
 have A:X (cU (K ⟨f,0,Z⟩)=v 24):=bq l;have z:X (cU (K ⟨c,0,Z⟩)=v 15):=bq k;have B:X (bc 32 #[cU (K ⟨c,0,Z⟩)] a.drew λd m=>d=aN (n9 j)/\m=a.drew):=Ci w;have C:X (bc 33 #[cU (K ⟨c,0,Z⟩)] a.drew λd m=>d=aN (n9 i)/\m=a.drew):=Jo c _ a.drew u;unfold eA;rw[l,p,k,q,r,s];clear l p k q r s u w;unfold cb sv mI sc cg;dsimp only;simp only[iR];refine jo ?_;refine Un.open_ (λb=>ap b ⟨f,0,Z⟩=K (ak aj)/\ap b ⟨e,2,Z⟩=K (n9 j)/\ap b ⟨e,3,Z⟩=K (n9 i)) 27 (λ_ _ _ _ _ g=>absurd (And.left g) (λg=>by cases g)) λG=>?_;have x:(λb:ag=>ap b ⟨f,0,Z⟩=K (ak aj)/\ap b ⟨e,2,Z⟩=K (n9 j)/\ap b ⟨e,3,Z⟩=K (n9 i)) a.drew:=⟨y,o,t⟩;clear y o t;generalize a.drew=E at*;refine Un.pk 0 ?_;refine Un.ld [2,5,6,9,10,13,14,20,21,27] 1 ?_;refine Un.pk 2 ?_;refine Un.pk 3 ?_;refine Un.pk 4 ?_;refine Un.pk 5 ?_;refine Un.pk 6 ?_;refine Un.pk 7 ?_;refine Un.pk 8 ?_;refine Un.pk 9 ?_;refine Un.pk 10 ?_;refine Un.pk 11 ?_;refine Un.pk 12 ?_;refine Un.pk 13 ?_;refine Un.pk 14 ?_;refine Un.pk 15 ?_;refine Un.pk 17 ?_;refine Un.ld [19,20,21,27] 18 ?_;refine Un.on 16 λn h=>?_;go_simp;go_at_call 32;refine bG B.o ?_;rintro d H ⟨rfl,rfl⟩;refine h.o _ _ (λ_=>x) ?_;try simp only[bw,l6,kG,jK,ct,cj,b9]
 refine Un.pk 19 ?_;refine Un.pk 20 ?_;refine Un.pk 21 ?_;refine Un.pk 22 ?_;refine Un.pk 24 ?_;refine Un.ld [26,27] 25 ?_;refine Un.on 23 λn h=>?_;go_simp;go_at_call 33;refine bG C.o ?_;rintro d I ⟨rfl,rfl⟩;refine h.o _ _ (λ_=>x) ?_;try simp only[bw,l6,kG,jK,ct,cj,b9]
 refine Un.pk 26 ?_;refine Un.on 27 λn h=>?_;go_simp;refine h.o _ _ (λg=>absurd g az) ?_;refine Un.done aR ?_ _;try simp only[bw,l6,kG,jK,ct,cj,b9]
 go_wp2_with fail;exact⟨rfl,rfl,by repeat' first|exact fn|refine fm (by first|rfl|exact A.o|exact z.o) ?_⟩
def JC(a:ag)(b m:Nat):(cI a b).drew.drewN m=cI a (b+1+m):=by
 show({a with drawn:=dU a+b+1+m}:ag)= {a with drawn:=dU a+(b+1+m)};congr 1;omega
def RJ(g:ag)(v:Nat->F)(l k b wc:Nat)(J:Option aL)(d:List (F×F×F))(u s:F)(a8:I d<=100)(aE:v 24=(aK l))(aF:v 29=(aK k))(aQ:bl g l 3 (ah J (I d) wc))(hx:bl g k 0 u)(hy:bl g k 1 s)
 (aR:0<I d->J=K ⟨b,0,Z⟩) (aI:∀(z:Nat) f,d[z]? =K f->bl g b (z*4) (ak aj)/\bl g b (z*4+1) f.1/\bl g b (z*4+2) f.2.1)
 (L:∀f∈d,∀a,dF a=dF g->bc 14 #[f.1,u] a λj q=>j=aN (ak af)/\∃c,q=cI a c) (M:∀f∈d,∀a,dF a=dF g->bc 17 #[f.2.1,s] a λj q=>j=aN (ak af)/\∃c,q=cI a c):
 (zE 10 cg).wp (aH ax) (λj a2 a=>j=cX/\(∃c,a=cI g c)/\gV [1,2,3,4,11,15,21,22] v a2) (eA v) g:=by
 unfold eA;rw[aE,aF];clear aE aF;unfold zE sv mI sc cg;dsimp only;simp only[iR,BC];have O:X _:=aQ;have T:X _:=hx;have U:X _:=hy;have R:X _:=aR;have N:X _:=aI;have P:X _:=L;have Q:X _:=M;clear aQ hx hy aR aI L M;go_wp2_with fail
 go_loopw [26,27,30] (λ_ _ G wr=>∃e:Nat,e<=I d/\G=z9 e/\∃c,wr=cI g c) (λ_ _ G _=>I d-bO (bB G))
 exact⟨0,cH _,rfl,0,rfl⟩;obtain⟨e,a7,rfl,c,o⟩:=hrel;have B:ap wr ⟨l,3,Z⟩=K (ah J (I d) wc):=by rw[o];exact O.o
 by_cases a3:e<I d
 .obtain rfl:=R.o (by omega);obtain⟨f,y⟩:∃f,d[e]? =K f:=⟨_,dV a3⟩;have⟨aw,aC,aD⟩:=N.o e f y;have ab:ap wr ⟨b,e*4,Z⟩=K (ak aj):=by rw[o];exact aw
  have ae:ap wr ⟨b,e*4+1,Z⟩=K f.1:=by rw[o];exact aC
  have al:ap wr ⟨b,e*4+2,Z⟩=K f.2.1:=by rw[o];exact aD
  have an:ap wr ⟨k,0,Z⟩=K u:=by rw[o];exact T.o
  have ao:ap wr ⟨k,1,Z⟩=K s:=by rw[o];exact U.o
  have D:dF wr=dF g:=by rw[o];rfl
  have V:X (∀a,dF a=dF wr->bc 14 #[f.1,u] a λj q=>j=aN (ak af)/\∃c,q=cI a c):=λa h=>P.o f (oP y) a (aB h D);have W:X (∀a,dF a=dF wr->bc 17 #[f.2.1,s] a λj q=>j=aN (ak af)/\∃c,q=cI a c):=λa h=>Q.o f (oP y) a (aB h D);have x:=aA o;clear N P Q R o D aw aC aD y O T U;generalize f.1=H at*;generalize f.2.1=w at*;go_upto_region 43 with fail;refine Un.open_ (λa=>bl a l 3 (aG b (I d) wc)/\bl a b (e*4+1) H/\bl a k 0 u) 9 (λ_ _ _ _ _ h=>absurd (And.left h) (λh=>by cases h)) λE=>?_;have p:(λa:ag=>bl a l 3 (aG b (I d) wc)/\bl a b (e*4+1) H/\bl a k 0 u) wr.drew:=⟨B,ae,an⟩;refine Un.pk 0 ?_;refine Un.ld [3,4,5,8,9] 1 ?_;refine Un.pk 2 ?_;refine Un.pk 3 ?_;refine Un.pk 4 ?_;refine Un.ld [8,9] 5 ?_;refine Un.pk 6 ?_;refine Un.ld [8,9] 7 ?_;refine Un.on 8 λt n=>?_;go_simp;go_at_call 14;refine bG (V.o wr.drew Y) ?_;rintro j r ⟨rfl,aU,i⟩;have p:(λa:ag=>ap a ⟨l,3,Z⟩=K (aG b (I d) wc)/\ap a ⟨b,e*4+1,Z⟩=K H/\ap a ⟨k,0,Z⟩=K u) r:=by rw[i];exact p
  refine n.o _ _ (λ_=>p) ?_;have C:ap r ⟨l,3,Z⟩=K (aG b (I d) wc):=by rw[i];exact B
  have ad:ap r ⟨b,e*4,Z⟩=K (ak aj):=by rw[i];exact ab
  have am:ap r ⟨b,e*4+2,Z⟩=K w:=by rw[i];exact al
  have ar:ap r ⟨k,1,Z⟩=K s:=by rw[i];exact ao
  have S:X (∃c,r=cI g c):=⟨c+1+aU,by rw[i,x.o];exact(JC g c aU)⟩;have aa:X (∀a,dF a=dF r->bc 17 #[w,s] a λj q=>j=aN (ak af)/\∃c,q=cI a c):=λa h=>W.o a (by rw[h,i];rfl);clear n t V i B ae an ab al ao x W;try simp only[bw,l6,kG,jK,ct,cj,b9]
  refine Un.on 9 λt n=>?_;go_simp;refine n.o _ _ (λh=>absurd h az) ?_;clear n t p E;refine Un.done (by kernel_rfl) ?_ _;try simp only[bw,l6,kG,jK,ct,cj,b9]
  go_upto_region 44 with fail;refine Un.open_ (λa=>bl a l 3 (aG b (I d) wc)/\bl a b (e*4+2) w/\bl a k 1 s) 9 (λ_ _ _ _ _ h=>absurd (And.left h) (λh=>by cases h)) λE=>?_;have p:(λa:ag=>bl a l 3 (aG b (I d) wc)/\bl a b (e*4+2) w/\bl a k 1 s) r.drew:=⟨C,am,ar⟩;refine Un.pk 0 ?_;refine Un.ld [3,4,5,8,9] 1 ?_;refine Un.pk 2 ?_;refine Un.pk 3 ?_;refine Un.pk 4 ?_;refine Un.ld [8,9] 5 ?_;refine Un.pk 6 ?_;refine Un.ld [8,9] 7 ?_;refine Un.on 8 λt n=>?_;go_simp;go_at_call 17;refine bG (aa.o r.drew Y) ?_;rintro j A ⟨rfl,a0,i⟩;have p:(λa:ag=>ap a ⟨l,3,Z⟩=K (aG b (I d) wc)/\ap a ⟨b,e*4+2,Z⟩=K w/\ap a ⟨k,1,Z⟩=K s) A:=by rw[i];exact p
  refine n.o _ _ (λ_=>p) ?_;have a6:ap A ⟨l,3,Z⟩=K (aG b (I d) wc):=by rw[i];exact C
  have a5:ap A ⟨b,e*4,Z⟩=K (ak aj):=by rw[i];exact ad
  have a1:X (∃c,A=cI g c):=by
   have⟨m,a4⟩:=S.o;exact⟨m+1+a0,by rw[i,a4];exact(JC g m a0)⟩
  clear n t aa i C ad am ar S;try simp only[bw,l6,kG,jK,ct,cj,b9]
  refine Un.on 9 λt n=>?_;go_simp;refine n.o _ _ (λh=>absurd h az) ?_;clear n t p E;refine Un.done (by kernel_rfl) ?_ _;try simp only[bw,l6,kG,jK,ct,cj,b9]
  go_wp2
  go_roundw
  case rel=>exact⟨e+1,by omega,by go_num,a1.o⟩
  case measure=>simp[bB];omega
 .have x:X (wr=cI g c):=o;clear o;go_wp2;exact⟨⟨c,x.o⟩,rfl,rfl,by repeat' first|exact fn|refine fm Y ?_⟩
open Cc (gK ir FQ cK gU fJ)
def r4 (W:ag)(v:F)(ae5:List (List aC)):Prop:=zl W v ae5/\I ae5<=aV/\∀a∈ae5,I a<=aV
def rU (W:ag)(v:F)(J:List Int):Prop:=I J<=aV/\∃c a d,v=ah c (I J) d/\(0<I J->c=K ⟨a,0,Z⟩/\a<U W.heap)/\∀b,b<I J->bl W a (0+b) (z9 (aW J b 0))
def Gg{W:ag}{J:List F}(h:aT W n Qd m v k J):k<=aV:=by
 rcases h.2 with⟨_,d⟩|⟨c,a,b,_,_,_,f,e,_⟩;omega;omega
def G1{W:ag}{a:List (List aC×F)}{ae5:List (List aC)}(m:a.map bf=ae5)(f:aT W n 43 1 v (I a) (a.map dD))(g:∀c∈a,aT W n 59 3 c.2 (I c.1) (bM c.1)):r4 W v ae5:=by
 subst m;refine⟨?_,by rw[er];exact Gg f,λL s=>?_⟩;have u:=f;rcases f.2 with⟨rfl,k⟩|⟨e,j,w,rfl,z,o,q,D,E,G⟩;have:a=[]:=s4 k;subst this;exact⟨Z,0,0,0,rfl,aZ _,λb=>by simp at b,λb=>by simp at b,λd b=>by simp at b⟩;refine⟨K ⟨e,0,Z⟩,e,0,j,by rw[er],by rw[er];exact q,λ_=>rfl,λ_=>bE o,λd p=>?_⟩;have i:d<I a:=cN p;have h:=u.cells (g:=e) Y d a[d].2 (by rw[s5,dV i];rfl);rw[Addr.add_mid] at h;refine⟨_,h,?_⟩;rw[oO];exact je.gB (g _ (dm i));obtain⟨c,r,rfl⟩:=jW.1 s;exact Gg (g c r)
def Ft{W:ag}{J:List Int}(h:aT W n 3 1 v (I J) (cO J)):rU W v J:=by
 refine⟨Gg h,?_⟩;by_cases c:0<I J;obtain⟨f,a,rfl,_,i,g⟩:=Cc.kz h c;exact⟨_,f,a,rfl,λ_=>⟨rfl,i⟩,λd b=>by rw[fq];exact g d _ (by simp[cO,s5,b,ep])⟩;obtain⟨e,a,rfl⟩:=e9 h;exact⟨e,0,a,rfl,λh=>absurd h c,λd b=>absurd b aa⟩
section
variable{t:ag}{ae5:List (List aC)}{J:List Int}
def r4.below(h:r4 W x ae5)(a:aD W t):r4 t x ae5:=⟨h.1.below a,h.2⟩
def rU.below(h:rU W x J)(c:aD W t):rU t x J:=by
 obtain⟨j,e,b,f,rfl,a,g⟩:=h;exact⟨j,e,b,f,rfl,λh=>⟨(a h).1,cL (a h).2 c.size⟩,λd i=>aB (bA c (p:=⟨b,0+d,Z⟩) (a aa).2) (g d i)⟩
def MI(a:r4 W x ae5)(c:r4 W y ae5):bc 14 #[x,y] W λb e=>b=aN (ak af)/\∃d,e=cI W d:=aad a.1 c.1 a.2.1 a.2.2
def Kk(o:rU W x J)(p:rU W y J):bc 17 #[x,y] W λb d=>b=aN (ak af)/\∃r,d=cI W r:=by
 obtain⟨c,g,h,m,rfl,e,f⟩:=o;obtain⟨-,Q,j,n,rfl,i,k⟩:=p;refine bG (MW J J g Q h 0 m j 0 n W c c (λa=>(e a).1) f (λa=>(i a).1) k) ?_;rintro b d ⟨rfl,q⟩;exact⟨aI,q⟩
end
def DM.up{W:ag}{l:List (bx×Int)}{bs:List Bd}{an:List Int}{rs:List bH}{H A B C T:Nat}{Q:Option aL}{M gI:Nat}{S O:Nat->Nat}{rn:F}{R:Option aL}{cb bC:Nat}{ro:Option aL}{rb bL:Nat}(h:DM W n l bs an rs H A B C T Q M gI S O rn R cb bC ro rb bL)(c:n<=m):DM W m l bs an rs H A B C T Q M gI S O rn R cb bC ro rb bL:=by
 have⟨d,e,f,g,i⟩:=h.lt;exact⟨h.file,h.k,h.d,h.p,⟨aa,aa,aa,aa,aa⟩,λb a=>by have:=h.lb b a;exact⟨aa,aa⟩,h.ca,h.cc,h.nr⟩
structure Fz(l:List (bx×Int))(bs:List Bd)(an:List Int)(rs:List bH)(V:Nat->Nat->List aC):Prop where
 q:FQ l bs an rs V
 lo:∀b∈bs,1<=b.rows
 enc:∀j (h:j<I l),e4 l[j].1.kind l[j].2=af
 bz:∀b∈bs,∀r∈rs,(aW b.chunks (bO r.col) ir).bT.least.s.size<=aV/\(aW b.chunks (bO r.col) ir).bT.most.s.size<=aV
 rz:∀r∈rs,bg r.low.s<=aV/\bg r.high.s<=aV
 vz:∀i,i<I bs->∀r∈rs,∀p,(aW (V i (bO r.col)) p ⟨aj,0,⟨#[]⟩⟩).s.size<=aV
abbrev kB(l:List (bx×Int))(bs:List Bd)(an:List Int)(rs:List bH)(V:Nat->Nat->List aC)(sk:Bool)(a:Int):List cK×Nat×Nat:=gK sk bs an rs (dy (I l) (an++rs.map bH.col)) V (gU a) 0 (I bs) [] 0
def UD(a:Int):(λb:List cK=>decide ((I b:Int)≠a))=gU a:=by
 funext b;simp[gU]
section
variable{l:List (bx×Int)}{bs:List Bd}{an:List Int}{rs:List bH}{V:Nat->Nat->List aC}{H A C T:Nat}{Q:Option aL}{M gI:Nat}{S O:Nat->Nat}{rn:F}{R:Option aL}{cb bC bF:Nat}{ro:Option aL}{rb bL bD:Nat}{sk:Bool}
def N2(d:ag)(b:Int)(a:Fz l bs an rs V)(k:DM d (U d.heap) l bs an rs H A B C T Q M gI S O rn R cb bC ro rb bL):
 bc 35 #[(aK H),ah R (I an) bF,ah ro (I rs) bD,ak sk,z9 b] d (Ed λra q i f p h x g e=>aD d e/\x=(kB l bs an rs V sk b).2.2/\g=(kB l bs an rs V sk b).2.1/\r4 e (ah ra q i) ((kB l bs an rs V sk b).1.map dD)/\rU e (ah f p h) ((kB l bs an rs V sk b).1.map λx=>(x.1:Int))):=by
 have j:=Zl d sk b l bs an rs V H A B C T Q M gI S O rn R cb bC bF ro rb bL bD k a.q a.lo a.enc a.bz a.rz a.vz;rw[UD] at j;refine bG j ?_;rintro u e ⟨m,w,g,x,rv,nv,s,v,n,rfl,c,o⟩;obtain⟨ra,i,rfl⟩:=e9 c.rows;obtain⟨f,h,rfl⟩:=e9 c.fL;unfold kB;rw[n];obtain⟨r,rfl⟩:=o;exact⟨ra,_,i,f,_,h,x,g,rfl,m,rfl,rfl,G1 r c.rows c.each,Ft c.fL⟩
end
def gV.to{v b:Nat->F}(h:gV L v qT)(d:∀s∈L',v s=b s)(c:(dI L' λs=>iT L s)=af):∀s∈L',Cc.cx qT s=b s:=λs a=>aB (h.2.2 s (by have:=fA.1 c s a;simpa using this)) (d s a)
structure AS(W:ag)(wo:Option aL)(wc wb:Nat)(gs:List (F×F×F))(q:List cK):Prop where
 ad:0<I gs->wo=K ⟨wb,0,Z⟩/\wb<U W.heap
 c:∀(k:Nat) p,gs[k]? =K p->ap W ⟨wb,k*4,Z⟩=K (ak aj)/\ap W ⟨wb,k*4+1,Z⟩=K p.1/\ap W ⟨wb,k*4+2,Z⟩=K p.2.1
 each:∀p∈gs,r4 W p.1 (q.map dD)/\rU W p.2.1 (q.map λx=>(x.1:Int))
def AS.below{f:List (F×F×F)}{i:List cK}(h:AS w P wc n f i)(a:aD w u):AS u P wc n f i:=
 ⟨λg=>⟨(h.ad g).1,cL (h.ad g).2 a.size⟩,λc d b=>by
  have e:=(h.ad (cA ((fF.1 b).1))).2;have⟨j,k,m⟩:=h.c c d b;exact⟨aB (bA a (p:=⟨n,c*4,Z⟩) e) j,aB (bA a (p:=⟨n,c*4+1,Z⟩) e) k,aB (bA a (p:=⟨n,c*4+2,Z⟩) e) m⟩,λd b=>⟨(h.each d b).1.below a,(h.each d b).2.below a⟩⟩
def P6(h:dZ n w u):dZ n w u.drew:=below_drewN h 1
section
variable{l:List (bx×Int)}{Q:List Bd}{an:List Int}{J:List bH}{V:Nat->Nat->List aC}{H C r O A:Nat}{T:Option aL}{t gI:Nat}{M S:Nat->Nat}{rn:F}{R:Option aL}{xM bC bF:Nat}{ro:Option aL}{rb bL bD:Nat}{sk:Bool}
def Tj(c:ag)(v:Nat->F)(e:Int)(d n aF cu wc:Nat)(a5:Option aL)(rv nv bm:F)(L:List (F×F×F))(G:List (F×Int))(am:Array F)(co:Fz l Q an J V)(b7:DM c (U c.heap) l Q an J H C r O A T t gI M S rn R xM bC ro rb bL)
 (b5:v 11=(aK H)) (b4:v 1=ah R (I an) bF) (a0:v 2=ah ro (I J) bD) (b6:v 3=ak sk) (dd:v 23=z9 e) (a1:v 24=(aK d)) (dc:v 21=(aK aF)) (db:v 15=(aK n))
 (bi:c.heap[d]? =K (aq #[ak aj,rv,nv,ah a5 (I L) wc] 81 (0,0))) (cl:am.size=6) (ch:c.heap[n]? =K (aq (fJ am (kB l Q an J V sk e).2.1 (kB l Q an J V sk e).2.2) 119 (0,0)))
 (dq:r4 c rv ((kB l Q an J V sk e).1.map dD)) (dp:rU c nv ((kB l Q an J V sk e).1.map λm=>(m.1:Int))) (dg:I L<=100) (di:AS c a5 wc cu L (kB l Q an J V sk (-1)).1) (cf:gF c 0 aF bm G) (dl:∀f∈G,0<=f.2/\f.2<=1000000000000) (df:I G<=100000000000):
 (zE 4 cg).wp (aH ax) (λf cv a=>f=cX/\aD c a/\gV [1,2,3,4,11,15,21,22] v cv) (eA v) c:=by
 have ds:zE 4 cg=aS (cb 4 cg) (aS (cb 5 cg) (aS (cb 6 cg) (aS (cb 7 cg) (aS (cb 8 cg) (aS (cb 9 cg) (zE 10 cg)))))):=rfl;rw[ds];have cr:=bE bi;have du:=bE ch;refine jo (eH ?_ (RL c v _ (by rw[b5,b4,a0,b6,dd];exact N2 c e co b7)));rintro f bM g ⟨rfl,br,ra,aA,ar,X,ae,ab,m,d8,z,⟨b8,rfl,rfl,dz,dC⟩,rfl,b1⟩;have bT:∀s∈[1,2,3,4,11,15,21,22,24],Cc.cx bM s=v s:=br.2.2;have ca:aD z (z.alloc (aq #[ah ra aA ar,ah X ae ab,n9 ((kB l Q an J V sk e).2.2),n9 ((kB l Q an J V sk e).2.1)] 84)):=(bN _ _).alloc (aZ _) _;have cn:=iI z (aq #[ah ra aA ar,ah X ae ab,n9 ((kB l Q an J V sk e).2.2),n9 ((kB l Q an J V sk e).2.1)] 84);have D:aD c (z.alloc (aq #[ah ra aA ar,ah X ae ab,n9 ((kB l Q an J V sk e).2.2),n9 ((kB l Q an J V sk e).2.1)] 84)):=b8.alloc b8.size _;have dA:=dz.below ca;have dE:=dC.below ca;generalize z.alloc (aq #[ah ra aA ar,ah X ae ab,n9 ((kB l Q an J V sk e).2.2),n9 ((kB l Q an J V sk e).2.1)] 84)=g at*;have cp:=bE cn;generalize U z.heap=aE at*;obtain⟨⟨dT,d0,d1,d2⟩,-⟩:=mU cn;have be:=(cT D d cr).trans bi;have dP:ap g ⟨d,1,Z⟩=K rv:=by simp[ap,be]
 have dQ:ap g ⟨d,2,Z⟩=K nv:=by simp[ap,be]
 have dO:ap g ⟨d,0,Z⟩=K (ak aj):=by simp[ap,be]
 show ja _ _ _ bM _;rw[zZ br.1 br.2.1];refine jo (eH ?_ (RM g _ d aE rv (ah ra aA ar) ((bT 24 aI).trans a1) b1 dP dT (MI (dq.below D) dA)));rintro f cy d5 ⟨rfl,⟨o,rfl⟩,a2,c2⟩;have bW:=a2.to (L':=[1,2,3,4,11,15,21,22,24]) bT az;have b0:=(a2.2.2 25 aI).trans b1;show ja _ _ _ cy _;rw[zZ a2.1 a2.2.1];refine jo (eH ?_ (RN (cI g o) _ d aE nv (ah X ae ab) ((bW 24 aI).trans a1) b0 dQ d0 (Kk ((dp.below D).below (below_drewN (bN _ _) o)) (dE.below (below_drewN (bN _ _) o)))));rintro f cA w ⟨rfl,⟨a3,rfl⟩,W,c3⟩;have b2:=W.to (L':=[1,2,3,4,11,15,21,22,24]) bW az;have c6:=(W.2.2 25 aI).trans b0;have c7:=(W.2.2 26 aI).trans c2;have a8:=below_drewN (below_drewN D o) a3;have bH:aD g (cI (cI g o) a3):=below_drewN (below_drewN (bN _ _) o) a3;generalize cI (cI g o) a3=w at*;have cZ:gF w 0 aF bm G:=by
  have bo:∀{h:Nat} {dw:cz},c.heap[h]? =K dw->w.heap[h]? =c.heap[h]? :=λb=>cT a8 _ (dn.1 b).1;exact uE cf (bo cf.blk) (λh c0 b _=>bo b) (λf _ h y aQ c0 _ _ b=>bo b)
 show ja _ _ _ cA _;rw[zZ W.1 W.2.1];refine jo (eH ?_ (RO w _ (λdL=>aD w dL) (by rw[b2 21 aI,dc];exact adu aF 0 bm G w df cZ dl)));rintro f cK aG ⟨rfl,bP,x,c4⟩;have bh:=x.to (L':=[1,2,3,4,11,15,21,22,24]) b2 az;have c8:=(x.2.2 25 aI).trans c6;have c9:=(x.2.2 26 aI).trans c7;have da:=(x.2.2 27 aI).trans c3;have bK:=a8.trans (bP.mono a8.size);have a7:=bH.trans (bP.mono bH.size);have bS:=(cT bK n du).trans ch;have bQ:∀(a:ag) (y m:Nat),cq a n (fJ am y m) 119->ap a ⟨n,7,Z⟩=K (n9 m)/\ap a ⟨n,6,Z⟩=K (n9 y):=λa y m b=>by
  constructor;unfold ap;rw[b];show(am++#[n9 y,n9 m])[7]? =_;rw[AH aa,cl];rfl;unfold ap;rw[b];show(am++#[n9 y,n9 m])[6]? =_;rw[AH aa,cl];rfl
 show ja _ _ _ cK _;rw[zZ x.1 x.2.1];refine jo (eH ?_ (RP aG _ d aE n _ _ ((bh 24 aI).trans a1) c8 ((bh 15 aI).trans db) c9 da c4 ((bA a7 (p:=⟨d,0,Z⟩) (by have:=D.size;show d<_;omega)).trans dO) ((bA a7 (p:=⟨aE,2,Z⟩) cp).trans d1) ((bA a7 (p:=⟨aE,3,Z⟩) cp).trans d2) (bQ aG _ _ bS).1 (bQ aG _ _ bS).2));rintro f cM bb ⟨rfl,rfl,bs⟩;have E:=bs.to (L':=[1,2,3,4,11,15,21,22,24]) bh az;have a9:=P6 bK;generalize aG.drew=bb at*;have cs:=a9.size;show ja _ _ _ cM _;rw[zZ bs.1 bs.2.1];refine jo (eH ?_ (RQ bb _ _ (by rw[E 11 aI,E 1 aI,E 2 aI,E 3 aI,b5,b4,a0,b6];exact N2 bb (-1) co ((b7.below a9).up cs))));rintro f cN k ⟨rfl,bu,ao,aC,aw,Y,al,ad,a6,a4,B,⟨cc,-,-,u1,u2⟩,rfl,c5⟩;have b3:=bu.to (L':=[1,2,3,4,11,15,21,22,24]) E az;have cd:aD B (B.alloc (aq #[ah ao aC aw,ah Y al ad,n9 a6,n9 a4] 84)):=(bN _ _).alloc (aZ _) _;have dt:=iI B (aq #[ah ao aC aw,ah Y al ad,n9 a6,n9 a4] 84);have ba:aD c (B.alloc (aq #[ah ao aC aw,ah Y al ad,n9 a6,n9 a4] 84)):=a9.trans ((cc.alloc cc.size _).mono cs);have dJ:=u1.below cd;have dK:=u2.below cd;generalize B.alloc (aq #[ah ao aC aw,ah Y al ad,n9 a6,n9 a4] 84)=k at*;obtain⟨⟨d3,d4,-,-⟩,-⟩:=mU dt;have aU:=di.below ba;have dS:ap k ⟨d,3,Z⟩=K (ah a5 (I L) wc):=by simp[ap,((cT ba d cr).trans bi)]
 show ja _ _ _ cN _;rw[zZ bu.1 bu.2.1];have ck:∀a,dF a=dF k->∀{u bc},r4 k u bc->r4 a u bc:=λa b u bc bl=>by
  obtain⟨⟨bd,h,dx,aQ,rfl,de,bk⟩,a0⟩:=bl;have aR:∀p,ap a p=ap k p:=λp=>by unfold ap;rw[b]
  refine⟨⟨bd,h,dx,aQ,rfl,de,bk.addr,λN=>bV b (bk.lt N),λj i=>?_⟩,a0⟩;obtain⟨d9,bx,cO,cW,dy,c1,rfl,q⟩:=bk.c j i;exact⟨_,(aR _).trans bx,cO,cW,dy,c1,rfl,q.addr,λN=>bV b (q.lt N),λj i=>(aR _).trans (q.c0 j i),λj i=>(aR _).trans (q.c1 j i),λj i=>(aR _).trans (q.c2 j i)⟩
 have ci:∀a,dF a=dF k->∀{u bz},rU k u bz->rU a u bz:=λa b u bz bl=>by
  obtain⟨dk,bd,h,aQ,rfl,bx,q⟩:=bl;exact⟨dk,bd,h,aQ,rfl,λN=>bV b (bx N),λj i=>by show _=_;rw[<-q j i];unfold ap;rw[b]⟩
 refine eH ?_ (RJ k _ d (U B.heap) cu wc a5 L (ah ao aC aw) (ah Y al ad) dg ((b3 24 aI).trans a1) c5 dS d3 d4 (λb=>(aU.ad b).1) aU.c (λp bj a P=>MI (ck a P (aU.each p bj).1) (ck a P dJ)) (λp bj a P=>Kk (ci a P (aU.each p bj).2) (ci a P dK)));rintro f d7 d6 ⟨rfl,⟨dv,rfl⟩,bv⟩;exact⟨rfl,below_drewN ba dv,bv.1,bv.2.1,bv.to (λs dr=>b3 s (by simp only[gy,kZ,or_false] at dr ⊢;omega)) az⟩
end
def Ch (fn:cF):cQ:=match mI fn with|aS (aS a _) _=>a|_=>ey
def EN (fn:cF):cQ:=match mI fn with|aS _ (aS _ a)=>a|_=>ey
def Jk(c:ag)(v:Nat->F)(a b k:Nat)(l:Option aL)(n:a<=1048576)(m:b<=a+1)(f:v 4=ah l a k)(e:v 22=n9 b):
 (Ch cg).wp (aH ax) (λj d i=>j=cX/\i=c/\gV [1,2,3,4,11,15,21,22] v d/\Cc.cx d 120=ak (decide (b<=a))) (eA v) c:=by
 have h:=aA (bq f);have g:=aA (bq e);unfold eA;rw[f,e];unfold Ch mI sc cg;dsimp only;simp only[iR];go_wp2_with fail;exact⟨⟨rfl,rfl,by repeat' first|exact fn|refine fm (by first|rfl|exact h.o|exact g.o) ?_⟩,by first|rfl|(show ak _=ak _;congr 1;simp)⟩
def S1(b:ag)(v:Nat->F)(a:Nat)(g:a<=1048577)(f:v 22=n9 a):
 (EN cg).wp (aH ax) (λe c d=>e=cX/\d=b/\gV [1,2,3,4,11,15,21] v c/\Cc.cx c 22=z9 ((a+1:Nat):Int)) (eA v) b:=by
 unfold eA;rw[f];unfold EN mI sc cg;dsimp only;simp only[iR];go_wp2_with fail;exact⟨⟨rfl,rfl,by repeat' first|exact fn|refine fm Y ?_⟩,by first|rfl|(show aJ _ _=aJ _ _;congr 1)⟩
def DM.ce{p:List (bx×Int)}{o:List Bd}{s:List bH}{q r:Nat->Nat}{rn:F}{cb bC:Nat}{ro:Option aL}{rb bL:Nat}(h:DM w n p o an s m k i j a O b gI q r rn P cb bC ro rb bL)(c:Ce w u):DM u n p o an s m k i j a O b gI q r rn P cb bC ro rb bL:=
 ⟨c.1 _ _ _ _ h.file,λd l=>⟨c.cell (h.k d l).1,c.cell (h.k d l).2⟩,λg e f=>⟨(h.d g e f).1,c.cell (h.d g e f).2.1,c.cell (h.d g e f).2.2⟩,λg e f d z v x y t=>c.cell (h.p g e f d z v x y t),h.lt,h.lb,h.ca,λd l=>c.cell (h.cc d l),c.Bl h.nr⟩
end Ec
namespace Cc
open Go Go.Conc Go.RowKit Ec Pk
def aea:(Tryz.f23.name == "runtime.NumGoroutine")=aj:=aR
def ad6(a:ag):(zeroValue 81).run ax a=cm (bZ #[ak aj,aF,aF,aF]) a:=Tryz.zeroValue81 a
section
variable{O:F->ag->Prop}{l:List (bx×Int)}{H:List Bd}{an:List Int}{Q:List bH}{A ck T f:Nat}{C:Option aL}{bP ew:Nat->Nat}{M:Option aL}{xM bC bF:Nat}{ro:Option aL}{rb bL bD:Nat}{V:Nat->Nat->List aC}{cW:Nat}{sk:Bool}
def S5(j:FQ l H an Q V)(i:∀k,tI A T db bP xM rb (I H) (I an) (I Q) k->k<cu):∀a,a<=2->AJ O (λm=>FM m l H an Q A T C db bP ew M xM bC ro rb bL) cu B a (ia A (I l) ck T (I l) f C (I H) cW M (I an) bF ro (I Q) bD sk) (kB l H an Q V sk (-1)):=by
 intro a
 induction a with
 |zero=>
  intro d s q bW hF b h g e ⟨r,n,c⟩;exact EO (dp:=0) (most:= -1) j hF i b h g d e (by rw[J5]) (λo=>absurd o (Nat.lt_irrefl _)) c
 |succ a p=>
  intro d s q bW hF b h g e ⟨r,n,c⟩;exact EO (dp:=a+1) (most:= -1) j hF i b h g d e (by rw[J5]) (λ_=>p aa) c
end
def Rs{m:Bool}{d:(Nat->Prop)->aO->List aO->ag->Prop}{own:Nat->Prop}(g:fS Qo Qp Qa m d)(o:jb Qa own w)(i:dj Qg≠.early)(r:Qu[k]? =K Qs)(t:eI Qs (en Qu qT.tmps)=af)(q:own n)(b:cz)(s:cZ Qo b)
 (h:∀c,RelB (λQg=>Qa Qg\/own Qg) w c->∃a,(bX (bp qT) Qs).run Qp c=cm .skip a/\wj n b c a/\∀e∈(bX (bp qT) Qs).events Qp c #[],pI n Qa own e) (j:Qs.dst=Z)
 (p:∀a,tc Qa own n b w a->d own (Qg.at qT (bY Qu rest::QO)) Qj a):d own (Qg.at qT (bY Qu (k::rest)::QO)) Qj w:=vh g o i r t q b s h λa h=>bV j (p a h)
def Xs:ez->Bool
 |bJ (.refuse _)=>aj
 |_=>af
def j4(h:dI QO Xs=af):∀s,bJ (.refuse s)∉QO:=λs a=>by
 have:=fA.1 h _ a;cases this
abbrev iK(u:Nat->F)(a:Nat):List (Nat×F):=[(22,aJ aM (a:Int)),(1,u 1),(2,u 2),(3,u 3),(4,u 4),(11,u 11),(15,u 15),(21,u 21)]
def wD{u:Nat->F}(b:U qT.tmps=229)(a:cx qT 22=n9 i)(h:∀s∈[1,2,3,4,11,15,21],cx qT s=u s):Knows qT 229 (iK u i):=
 ((((((((Ec.x6 b).cons (h 21 aI)).cons (h 15 aI)).cons (h 11 aI)).cons (h 4 aI)).cons (h 3 aI)).cons (h 2 aI)).cons (h 1 aI)).cons a
def zH{v u:Nat->F}(b:∀s c,(iK u i).lookup s=K c->v s=c):(∀s∈[1,2,3,4,11,15,21],v s=u s)/\v 22=n9 i:=by
 refine⟨λs a=>?_,b 22 _ Y⟩;simp only[gy,kZ,or_false] at a;rcases a with rfl|rfl|rfl|rfl|rfl|rfl|rfl<;>exact b _ _ rfl
def FT{u:Nat->F}(b:(iK u n).lookup m=Z){s:Nat}(h:(iK u n).lookup s=K x):((m,v)::iK u n).lookup s=K x:=by
 by_cases a:s=m;subst a;rw[b] at h;cases h;rw[vY,show(s==m)=aj by simpa using a];exact h
theorem _root_.Go.Proofs.YtjidbonhhpkljaaGreat.Ec.J3:∀{b:List (F×F×F)} {a:Nat} {c:F×F×F},b[a]? =K c->(mK b)[a*4]? =K (ak aj)/\(mK b)[a*4+1]? =K c.1/\(mK b)[a*4+2]? =K c.2.1
 | [],a,c,d=>by simp at d
 |g::b,0,c,d=>by
  simp at d;subst d;exact⟨rfl,rfl,rfl⟩
 |g::b,a+1,c,d=>by
  have m:b[a]? =K c:=cN d;have⟨i,j,k⟩:=Ec.J3 m;have e:∀h,(mK (g::b))[h+4]? =(mK b)[h]? :=λh=>by simp[mK]
  exact⟨by rw[show(a+1)*4=a*4+4 by omega,e];exact i,by rw[show(a+1)*4+1=a*4+1+4 by omega,e];exact j,by rw[show(a+1)*4+2=a*4+2+4 by omega,e];exact k⟩
def ZM{wS c:ag}{cu a b:Nat}(h:RelB (λa=>a<cu) wS c)(d:a<cu)(e:ap wS ⟨a,b,Z⟩=K v):ap c ⟨a,b,Z⟩=K v:=by
 rw[<-e];unfold ap;rw[h.at_ a d]
structure AN(wS w:ag)(cu B i:Nat)(qc:Array F)(iv:F)(es:List (F×Int)):Prop where
 rel:RelB (λb=>b<cu) wS w
 cur:∃n e:Nat,w.heap[cu]? =K (aq (fJ qc n e) 119 (0,0))
 book:gF w 0 B iv es
 pP:∀e∈es,0<=e.2/\e.2<=1000000000000
 low:∀b,j7 B iv es b->cu<b
 len:I es<=24000*i
def AN.next{wS d i:ag}{cu B m:Nat}{k:List (F×Int)}(h:AN wS d cu B m qK v k)(c:RelB (fO d) d i):AN wS i cu B m qK v k:=by
 have e:∀{a:Nat} {p:cz},d.heap[a]? =K p->i.heap[a]? =d.heap[a]? :=λh=>c.at_ _ (dn.1 h).1;have⟨n,j,g⟩:=h.cur;have r:=(dn.1 g).1;exact⟨⟨λa b=>aB (c.at_ a (by have:a<cu:=b;show a<U d.heap;omega)) (h.rel.at_ a b),dW h.rel.size c.size,aB c.tape h.rel.tape,aB c.os h.rel.os,aB c.output h.rel.output⟩,⟨n,j,aB (e g) g⟩,uE h.book (e h.book.blk) (λa o b _=>e b) (λj _ a n q o _ _ b=>e b),h.pP,h.low,h.len⟩
section
variable{O:F->ag->Prop}{l:List (bx×Int)}{H:List Bd}{an:List Int}{Q:List bH}{A ck T f:Nat}{C:Option aL}{bP ew:Nat->Nat}{M:Option aL}{xM bC bF:Nat}{ro:Option aL}{rb bL bD:Nat}{V:Nat->Nat->List aC}{cW:Nat}{sk:Bool}{kd afg ed aff:Nat}{bk gI:Nat}{pb pc:Nat->Nat}{rn:F}{ae8:Option aL}{afd afb ae6:Nat}{ae9:Option aL}{afe afc ae7:Nat}{u:Nat->F}{J:List Int}{sb mP iX:Nat}
def S8(aD:Fz l H an Q V)(hF:FM wS l H an Q A T C db bP ew M xM bC ro rb bL)(bi:∀y,tI A T db bP xM rb (I H) (I an) (I Q) y->y<cu)(c1:DM wS cu l H an Q fb kd afg ed aff bo bk gI pb pc rn ae8 afd afb ae9 afe afc)
 (u1:u 1=ah ae8 (I an) ae6) (u2:u 2=ah ae9 (I Q) ae7) (u3:u 3=ak sk) (u4:u 4=ah so (I J) iX) (u11:u 11=(aK fb)) (u15:u 15=(aK cu)) (u21:u 21=(aK B))
 (bh:I J<=1048576) (bQ:0<I J->so=K ⟨sb,mP,Z⟩/\sb<cu) (dJ:∀aE,aE<I J->bl wS sb (mP+aE) (z9 (aW J aE 0))) (di:∀b5∈J,-9223372036854775808<=b5/\b5<=9223372036854775807) (df:∀am,RelB (λg=>g<cu) wS am->O (ak af) am):
 ∀(al b:Nat),b+al=I J+1->∀(ao:bt) (aU:ag) (iv:F) (es:List (F×Int)),Knows ao 229 (iK u b)->bU ao=[]->AN wS aU cu B b (ia A (I l) ck T (I l) f C (I H) cW M (I an) bF ro (I Q) bD sk) iv es->Xe (aH ax) ax O (fO aU) ((base 7).at ao [bJ (mI cg),gx (mI cg),fh 4,bJ (vC 16 cg)]) [] aU:=by
 have i:=me (aH ax) ax O;intro al
 induction al with
 |zero=>
  intro b dg ao aU iv es h E e;refine cy i (cy i (lC fX h E (Ch cg) (λc d n=>Knows d 229 ((120,ak (decide (b<=I J)))::iK u b)/\bU d=[]) (j4 aR) (gT Y E aR) (λv c m D x=>?_) λch ca cc am c6 dC cZ a8 c4 bb=>?_));have⟨k,q⟩:=zH m;refine eH ?_ (Jk c v (I J) b iX so bh aa ((k 4 aI).trans u4) q);rintro p d n ⟨rfl,rfl,a,bm⟩;exact⟨rfl,bN _ _,(wD a.1 ((a.2.2 22 aI).trans q) (a.to k az)).cons bm,a.2.1⟩;have⟨L,ar⟩:=a8;have ab:decide (b<=I J)=aj:=bS;rw[ab] at L;refine iJ i aj (L.of Y) (wA i (k':=[bJ (vC 16 cg)]) Y (OG fX L ar (vC 16 cg) (λc d n=>Knows d 229 [(10,ak af)]/\bU d=[]) (j4 aR) (gT Y ar aR) (λv c m D x=>?_) λcl cd cf eb fy c7 dE c0 ba c5 bc=>?_));refine eH ?_ (SQ c v);rintro p d n ⟨rfl,rfl,a,dS⟩;exact⟨rfl,bN _ _,(Ec.x6 a.1).cons dS,a.2.1⟩;have⟨a5,a3⟩:=ba;exact OH aR Y a3 Tryz.func7 (BB Tryz.results7 (a5.slot 10 _ Y)) λb2 bd=>df b2 (((e.next bb).next bc).next bd).rel
 |succ al dQ=>
  intro b dg ao aU iv es h E e;refine cy i (cy i (lC fX h E (Ch cg) (λc d n=>Knows d 229 ((120,ak (decide (b<=I J)))::iK u b)/\bU d=[]) (j4 aR) (gT Y E aR) (λv c m D x=>?_) λch ca cc am c6 dC cZ a8 c4 bb=>?_));have⟨k,q⟩:=zH m;refine eH ?_ (Jk c v (I J) b iX so bh aa ((k 4 aI).trans u4) q);rintro p d n ⟨rfl,rfl,a,bm⟩;exact⟨rfl,bN _ _,(wD a.1 ((a.2.2 22 aI).trans q) (a.to k az)).cons bm,a.2.1⟩;have⟨L,ar⟩:=a8;have ab:decide (b<=I J)=af:=bS;rw[ab] at L;replace e:=e.next bb;refine iJ i af (L.of Y) (nV i (cy i (nS i (cy i (lC fX L ar (cb 0 cg) (λc d n=>Knows d 229 ((23,z9 (-1))::iK u b)/\bU d=[]) (j4 aR) (gT Y ar aR) (λv c m D x=>?_) λcl cd cf eb c7 dE c0 ba c5 bc=>?_)))));have⟨k,q⟩:=zH (v:=v) (u:=u) (i:=b) λs y S=>m s y (FT Y S);refine eH ?_ (RH c v);rintro p d n ⟨rfl,rfl,a,aG⟩;exact⟨rfl,bN _ _,(wD a.1 ((a.2.2 22 aI).trans q) (a.to k az)).cons aG,a.2.1⟩;have⟨a5,a3⟩:=ba;replace e:=e.next bc;refine cy i (lC fX a5 a3 (cb 1 cg) (λc d n=>Knows d 229 ((23,z9 (if b<I J then aW J b 0 else -1))::iK u b)/\bU d=[]) (j4 aR) (gT Y a3 aR) (λv c m D x=>?_) λeJ eq et b2 e4 fk eS dv eZ bd=>?_);have⟨k,q⟩:=zH (v:=v) (u:=u) (i:=b) λs y S=>m s y (FT Y S);have R:=ug D x;refine eH ?_ (RI c v J so sb mP iX b aa bh ((k 4 aI).trans u4) q (m 23 _ Y) (λr=>(bQ r).1) (λaE dk=>R.cell (ZM e.rel (bQ aa).2 (dJ aE dk))));rintro p d n ⟨rfl,rfl,a,aG⟩;exact⟨rfl,bN _ _,(wD a.1 ((a.2.2 22 aI).trans q) (a.to k az)).cons aG,a.2.1⟩;have⟨b8,bM⟩:=dv;replace e:=e.next bd;refine cy i (lC fX b8 bM (cb 2 cg) (λc d n=>Knows d 229 ((23,z9 (ya J b))::iK u b)/\bU d=[]) (j4 aR) (gT Y bM aR) (λv c m D x=>?_) λeK eA eB b3 e5 fl eU dw e0 dz=>?_);obtain⟨k,q⟩:=zH (v:=v) (u:=u) (i:=b) λs y S=>m s y (FT rfl S);refine eH ?_ (RK c v _ (m 23 _ Y));rintro p d n ⟨rfl,rfl,a,aG⟩;refine⟨rfl,bN _ _,(wD a.1 ((a.2.2 22 aI).trans q) (a.to k az)).cons (aG.trans ?_),a.2.1⟩;unfold ya;by_cases r:b<I J;rw[if_pos r,if_pos r];rw[if_neg r,if_neg r,if_pos az];obtain⟨h,E⟩:=dw;replace e:=e.next dz;have dq:gU (ya J b) []=af/\ -9223372036854775808<=ya J b/\ya J b<=9223372036854775807:=by
   unfold ya
   split
   split
   exact⟨rfl,az,az⟩;rename_i r bH;have aD:=di (aW J b 0) (by rw[ep,dV r];exact dm r);exact⟨by
    show(!decide (((I ([]:List cK):Nat):Int)=aW J b 0))=af;rw[decide_eq_false (by show ¬(0:Int)=_;omega)];rfl,aD⟩
   exact⟨rfl,az,az⟩
  generalize ya J b=aQ at*;have⟨c2,dl,dp⟩:=dq;refine cy i (dP i [0,1,2,3,4,5,6,7] Y ?_);refine eL i h λh=>?_;refine eL i h λh=>?_;refine eL i h λh=>OI (vs:= #[aJ aM aQ,aJ aM 3]) (R:=λc v n=>∃bx:Nat,bx<=2/\v=aJ aM (bx:Int)) fX Y Y Y Y (B1 (h.of Y) Y) Tryz.func23 aea Y (bq (vw Y Y Y)) (gT Y (by simp only[put_defers];exact E) aR) (λc D x=>bG (YU aQ 3 c aa aa dl dp) λp n ⟨bH,al,cx,cN,eO⟩=>⟨bV bH (bN _ _),_,cx,bO al,aa,by rw[Int.toNat_of_nonneg cN]⟩) λfB eC eE fG e6 fr eV dL e1 dA=>?_;obtain⟨a1,dd,rfl⟩:=dL;replace e:=e.next dA;replace h:=h.put (d:=136) az (n9 a1);refine eL i h λh=>AE (vs:= #[(aK cu),z9 aQ,n9 a1,(aK B)]) (R:=λam=>BQ am cu B a1 iv es (ia A (I l) ck T (I l) f C (I H) cW M (I an) bF ro (I Q) bD sk) (kB l H an Q V sk (-1)).1 (kB l H an Q V sk aQ)) Y Y Y Y (IJ ((h.of Y).trans u15) (h.of Y) (h.of Y) ((h.of Y).trans u21)) Tryz.func34 OL Y (gT Y (by simp only[put_defers];exact E) aR) (λbs be=>?_) (λbs fC W be c3 aC ds=>?_) (λb3 eM d8 ⟨_,_,_,_,_,_,_,p,_⟩=>de p) (λb3 d8 ⟨_,_,_,_,_,_,_,p,_⟩=>de p)
  .have w:=e.next be;have⟨b1,ab,P⟩:=w.cur;have fc:=w.len;exact EO (n0:=b1) (e0:=ab) aD.q (hF.kept w.rel.size λy S=>zY (w.rel.at_ y (bi y S))) bi w.book w.pP w.low dd aa c2 (λr=>S5 aD.q bi (a1-1) aa) P
  have⟨a4,rv,nv,bj,a7,a2,eF,cr,o⟩:=c3;have cs:=aeq cr;subst cs;have w:=e.next be;have fv:cu<U bs.heap:=by
   have⟨b1,ab,P⟩:=w.cur;exact(dn.1 P).1
  have d6:RelB (λg=>g<cu) bs W:=⟨λg j=>o.keep g (by have:g<cu:=j;omega) (λaw=>by have:=w.low g aw;have:g<cu:=j;omega) (by have:g<cu:=j;omega),aC.size,aC.tape,aC.os,aC.output⟩;have cO:AN wS W cu B (b+1) (ia A (I l) ck T (I l) f C (I H) cW M (I an) bF ro (I Q) bD sk) bj (es++a7):=⟨w.rel.trans d6,⟨_,_,o.cur⟩,o.book,o.pP,λg j=>(o.bk g j).elim (w.low g) (λe=>aa),by
   have:=w.len;have:=o.len;rw[cJ];omega⟩
  refine Xe.go (own:=fO W) ?_ (λg e=>e) ds;replace h:=h.put (d:=138) az (bZ #[ak aj,rv,nv,a4]);refine oS i (λg j=>j.elim ff (λe=>e)) az Y Y (aq #[ak aj,aF,aF,aF] 81) trivial (λb0=>(aK b0)) (CU Y ad6) λX fH fa ft aA c8=>?_;replace h:=h.put (d:=24) az (aK X);have⟨ec,bW,d0,d1,fu⟩:=o.got.ex;refine Rs i (λg j=>by
   rcases j with e|e|e;exact e.elim;have:g<U W.heap:=e;omega;omega) (n:=X) az Y Y (ai Y) (aq #[ak aj,rv,nv,a4] 81) trivial (vr (n:=X) (off:=0) (v:=bZ #[ak aj,rv,nv,a4]) Y (h.of Y) (h.of Y) Fi (λu bT=>by
   simp[jn] at bT;rcases bT with rfl|rfl|rfl|rfl;rfl;exact(z6 bW).2;exact(z6 o.got.fL).2;exact(z6 o.mW.own).2) (ai (ai Y)) c8 (aZ 4)) Y λfJ ae=>?_
  refine dr i (OJ λa0 ad=>?_);have a9:RelB (fO W) W a0:=⟨λg j=>(ad.at_ g (av j)).trans ((ae.at_ g (ai (av j)) (λp=>by have:g<U W.heap:=j;omega)).trans (aA.at_ g (ai j))),dW aA.size (dW ae.size ad.size),ad.tape.trans (ae.tape.trans aA.tape),ad.os.trans (ae.os.trans aA.os),ad.output.trans (ae.output.trans aA.output)⟩;have c9:cq a0 X #[ak aj,rv,nv,a4] 81:=(ad.at_ X (ai Y)).trans ae.set;have t:=cO.next a9;have bv:=nW a9;have da:=bv.1 _ _ _ _ o.cur;refine lC fX h (by simp only[put_defers];exact E) (zE 4 cg) (λc d n=>Knows d 229 (iK u b)/\bU d=[]) (j4 aR) (gT Y (by simp only[put_defers];exact E) aR) (λv c m D x=>?_) λeG ej el fD e2 fd eQ dt eX dx=>?_;have k:∀s∈[1,2,3,4,11,15,21],v s=u s:=λs x=>by
   simp only[gy,kZ,or_false] at x;rcases x with rfl|rfl|rfl|rfl|rfl|rfl|rfl<;>exact m _ _ rfl
  have R:=ug D x;have N:=bv.trans R;have cn:dZ cu wS a0:=⟨t.rel.os,t.rel.tape,t.rel.output,t.rel.size,λg j=>t.rel.at_ g j⟩;have dK:cu<=U c.heap:=by have:=t.rel.size;have:=aC.size;have:=a9.size;omega
  obtain⟨b4,wc,rfl⟩:=e9 o.mW.own;have bz:∀z∈a2,r4 c z.1 ((kB l H an Q V sk (-1)).1.map dD)/\rU c z.2.1 ((kB l H an Q V sk (-1)).1.map λy=>(y.1:Int)):=λz G=>by
   have⟨eh,d3,d4,d5,fx⟩:=(o.mW.each z G).ex;exact⟨G1 d5 (N.own d3) (λz G=>N.own (d4 z G)),Ft (N.own (o.mW.each z G).fL)⟩
  obtain⟨bu,dO⟩:∃bu,AS c b4 wc bu a2 (kB l H an Q V sk (-1)).1:=by
   by_cases r:0<I a2;have⟨cv,co,cp,_,d2,P⟩:=kz (N.own o.mW.own) r;cases cp;refine⟨cv,λ_=>⟨rfl,d2⟩,λa z G=>?_,bz⟩;have aw:=J3 G;exact⟨P _ _ aw.1,P _ _ aw.2.1,P _ _ aw.2.2⟩;exact⟨0,λe=>absurd e r,λa z G=>cA ((fF.1 G).1),bz⟩
  have br:∀{g:Nat} {a6 d7},cq a0 g a6 d7->c.heap[g]? =a0.heap[g]? :=λe=>(R.1 _ _ _ _ e).trans (bq e);have e8:=o.gl;have e7:=t.len;refine eH ?_ (Tj c v aQ X cu B bu wc b4 rv nv bj a2 (es++a7) (ia A (I l) ck T (I l) f C (I H) cW M (I an) bF ro (I Q) bD sk) aD (((c1.below cn).ce R).up dK) ((k 11 aI).trans u11) ((k 1 aI).trans u1) ((k 2 aI).trans u2) ((k 3 aI).trans u3) (m 23 _ Y) (m 24 _ Y) ((k 21 aI).trans u21) ((k 15 aI).trans u15) (R.1 _ _ _ _ c9) Y (R.1 _ _ _ _ da) (G1 d1 (N.own bW) (λz G=>N.own (d0 z G))) (Ft (N.own o.got.fL)) aa dO (uE t.book (br t.book.blk) (λg a6 j _=>br j) (λp _ g b0 co a6 _ _ j=>br j)) t.pP aa);rintro p d n ⟨rfl,j,a⟩;exact⟨rfl,j,wD a.1 ((a.2.2 22 aI).trans (m 22 _ Y)) (a.to k az),a.2.1⟩;have⟨b6,bK⟩:=dt;replace t:=t.next dx;refine ue i (lC fX b6 bK (EN cg) (λc d n=>Knows d 229 (iK u (b+1))/\bU d=[]) (j4 aR) (gT Y bK aR) (λv c m D x=>?_) λci em eo d9 e3 fg eR du eY dy=>?_);have⟨k,q⟩:=zH m;refine eH ?_ (S1 c v b aa q);rintro p d n ⟨rfl,rfl,a,dT⟩;exact⟨rfl,bN _ _,wD a.1 dT (a.to k az),a.2.1⟩;have⟨b7,dc⟩:=du;exact ve i (dQ (b+1) aa ci d9 bj (es++a7) b7 dc (t.next dy))
end
section
variable{T P:bn}{H:F->ag->Prop}{q:List aO}{w:ag}{b:aO}{a:bt}{k:List ez}
def HX(h:Twins T P){S:Nat->Prop}(ae:∀b,S b->b<U w.heap)(I:Knows a n q5)(am:bU a=[])(y:cQ)(x:ag->bt->ag->Prop)(an:∀s,bJ (.refuse s)∉k)(az:eS T (b.at a (bJ y::k)) [])
 (ao:∀v c,(∀s X,q5.lookup s=K X->v s=X)->(∀(b:Nat) d,w.heap[b]? =K d->cZ T d->c.heap[b]? =K d)->U w.heap<=U c.heap->y.wp T (λo f e=>o=cX/\((∀b,S b->e.heap[b]? =c.heap[b]?)/\U c.heap<=U e.heap)/\x c f e) ⟨cR ((fp n).map v),[]⟩ c)
 (ad:∀f c e g,(∀(b:Nat) d,w.heap[b]? =K d->cZ T d->c.heap[b]? =K d)->U w.heap<=U c.heap->x c f e->Un e g->RelB S w g->Xe T P H (fO g) (b.at f k) q g):Xe T P H (fO w) (b.at a (bJ y::k)) q w:=by
 intro aE aD j ar;refine F4 h (Q:=λl o f e=>o=cX/\∃c,dF c=dF l/\((∀b,S b->e.heap[b]? =c.heap[b]?)/\U c.heap<=U e.heap)/\x c f e) (λl p u=>?_) an (λl id a w i=>by cases i.1) (λl q5 a w i=>by cases i.1) (λl a w i=>by cases i.1) (λl o f W g u aa p i m G=>?_) az ar;intro Y aC Z;have N:=ao (cx a) (sh u 0 l) I.slot (λb d r D=>p.at_ b d (aB (j.at_ b (dn.1 r).1) r) D) (by show U w.heap<=U l.heap;rw[<-p.un.size];exact j.size);rw[<-EK I.size am] at N;have⟨o,f,g,⟨z,m,ab⟩,al⟩:=N Y aC Z;exact⟨o,f,g,⟨z,sh u 0 l,rfl,m,ab⟩,al⟩;obtain⟨rfl,c,E,L,i⟩:=i;have aA:U c.heap<=U g.heap:=bV m.un.size L.2;have V:U c.heap=U aD.heap:=by rw[E,p.un.size]
 have hrel:RelB S w g:=⟨λb Q=>by
  have z:W.heap[b]? =c.heap[b]? :=L.1 b Q;exact aB (m.same p.un (by rw[z,E])) (j.at_ b (ae b Q)),dW j.size (by rw[<-V];exact aA),aB G.tape j.tape,aB G.os j.os,aB G.output j.output⟩
 intro _ aw;exact Xe.go (ad f c (sh u aa W) g (λb d r D=>by rw[E];exact p.at_ b d (aB (j.at_ b (dn.1 r).1) r) D) (bV V j.size) i ⟨m.un.size,m.un.at_,m.un.os,m.un.output⟩ hrel) (λb h=>h) aw
end
theorem CJ{p':Nat->Bool}{s:Nat}{i:F}:∀{h:List (Nat×F)},(h.filter λj=>p' j.1).lookup s=K i->p' s=af/\h.lookup s=K i
 | [],c=>by simp at c
 |(e,m)::l,c=>by
  rw[List.filter_cons] at c;by_cases f:s=e;subst f;by_cases d:p' s=af;simp only[d,if_true,List.lookup_cons_self] at c ⊢;exact⟨trivial,c⟩;simp only[d] at c;exact absurd (CJ c).1 d;have g:(s==e)=aj:=cN f;rw[vY,g]
  split at c
  rw[vY,g] at c;exact CJ c;exact CJ c
def ox{v:Nat->F}{a:bt}(k:gV l v a)(g:∀s c,q5.lookup s=K c->v s=c):Knows a 229 (q5.filter λh=>iT l h.1):=
 ⟨k.1,λs c d=>by
  have⟨e,f⟩:=CJ (p':=λs=>iT l s) d;exact aB (k.2.2 s (cN e)) (g s c f)⟩
def OW (w:ag)(c:nL)(C:List Int)(J:List bH)(R:Option aL)(bC:Nat)(ro:Option aL)(bL:Nat)(g:Option aL):Prop:=
 (eU c C J≠0/\g=Z)\/(eU c C J=0/\∃f d e o m n l i h gI p r rn j s,c=K (f,d)/\g=K ⟨e,0,Z⟩/\DM w (U w.heap) f d C J e o m n l i h gI p r rn R j bC ro s bL)
def TS{s:ByteArray}{d:nL}{C:List Int}{J:List bH}{R ro:Option aL}{cb bC rb bL:Nat}(hF:uI s d)(h:yK u d C J (aN (cP #[v,x])) W)(i:Un W G)
 (N:0<I C->R=K ⟨cb,bC,Z⟩) (j:0<I C->cb<U u.heap) (Q:∀c,c<I C->bl u cb (bC+c) (z9 (aW C c 0))) (V:dJ u ro rb bL J):
 ∃l,v=cU l/\x=n9 (eU d C J)/\OW G d C J R bC ro bL l:=by
 obtain⟨g,⟨e,f⟩|⟨e,X,o,Y,az,ao,ar,am,rfl,f,aw,L,E⟩⟩:=h;cases f;exact⟨Z,rfl,rfl,av ⟨e,rfl⟩⟩;cases f;refine⟨_,rfl,gG e,ai ⟨e,?_⟩⟩;have⟨ab,y,z,r,n,m,gI,ad,ae,p,al,D⟩:=TR (cb:=cb) (bC:=bC) (rb:=rb) (bL:=bL) (an:=C) (rs:=J) (co:=R) (ro:=ro) hF.1.1 L E N (λh=>cL (j h) g.size) (λc S=>aB (bA g (p:=⟨cb,bC+c,Z⟩) (j aa)) (Q c S)) (V.below g);exact⟨X,o,_,ab,y,z,r,n,m,gI,ad,ae,_,p,al,rfl,rfl,(D.ce (Cb i)).up (Nat.le_of_eq (bq i.size))⟩
def gz (fn:cF):cQ:=match sc 15 fn with|aS c _=>c|_=>ey
def S2(c:ag)(v:Nat->F):
 (gz cg).wp (aH ax) (λf d e=>f=cX/\e=c/\gV [1,2,3,4,11,15,21] v d/\cx d 22=z9 0) (eA v) c:=by
 unfold gz sc cg eA;dsimp only;simp only[iR];go_wp2_with fail;exact⟨⟨rfl,rfl,by repeat' first|exact fn|refine fm Y ?_⟩,rfl⟩
section
variable{C:List Int}{J:List bH}{R ro:Option aL}{cb bC M rb bL t A O:Nat}
def Tg(d:ag)(v:Nat->F)(X:I C<=1000)(i:v 1=ah R (I C) M)(z:v 13=aG A (I C+8) (I C+8))(G:0<I C->R=K ⟨cb,bC,Z⟩)(N:0<I C->cb<U d.heap)(L:∀c,c<I C->bl d cb (bC+c) (z9 (aW C c 0)))
 (l:aT d O 3 1 (aG A (I C+8) (I C+8)) (I C+8) (cO (C++dH 8 (-77)))):
 (sc 7 cg).wp (aH ax) (λh m r=>h=cX/\gV [1,2,3,4,11,12,13,14,15,16] v m/\cx m 17=ak af/\aD d r) (eA v) d:=by
 have j:I (C++dH 8 (-77:Int))=I C+8:=aI;have⟨ad,V,u,_,Q,s⟩:=kz l aa;cases u;refine SY d v (λp f=>∃e,p=aG e (I C+8) (I C+8)/\aT f (U d.heap) 3 1 (aG e (I C+8) (I C+8)) (I C+8) (cO (C++dH 8 (-77)))/\aD d f) (λf=>aD d f) (by
  rw[i];exact bG (KY C R cb bC M d aa G N L) λh ae ⟨e,i,D,E⟩=>⟨_,i,e,rfl,D,E⟩) ?_
 rintro p f ⟨e,rfl,l,n⟩;rw[z];have⟨ab,W,x,_,_,y⟩:=kz l aa;cases x;have o:∀c,c<I (C++dH 8 (-77:Int))->(cO (C++dH 8 (-77)))[c]? =K (z9 (aW (C++dH 8 (-77:Int)) c 0)):=λc g=>by
  simp only[cO,s5,dV g,ep,gE,tZ]
 have:=MW (C++dH 8 (-77)) (C++dH 8 (-77)) (K ⟨A,0,Z⟩) (K ⟨e,0,Z⟩) A 0 (I C+8) e 0 (I C+8) f (by rw[j];unfold aV;omega) (by rw[j];unfold aV;omega) (λ_=>rfl) (λc g=>by
  rw[fq];exact aB (bA n (p:=⟨A,c,Z⟩) Q) (s _ _ (o c g))) (λ_=>rfl) (λc g=>by rw[fq];exact y _ _ (o c g))
 rw[j] at this;refine bG this ?_;rintro h Y ⟨rfl,S,rfl⟩;exact⟨aI,below_drewN n S⟩
def Ti(c:ag)(v:Nat->F)(E:I J<=1000)(g:v 2=ah ro (I J) t)(z:v 14=aG B (I J+8) (I J+8))(G:dJ c ro rb bL J)
 (h:aT c O 61 7 (aG B (I J+8) (I J+8)) (I J+8) (eZ (mM J 8))):
 (sc 8 cg).wp (aH ax) (λf j p=>f=cX/\gV [1,2,3,4,11,12,13,14,15,16,17] v j/\cx j 18=ak af/\aD c p) (eA v) c:=by
 have m:=FP J 8 aa;have⟨ad,W,s,_,L,Q⟩:=kz h aa;cases s;refine SZ c v (λo e=>∃d,o=aG d (I J+8) (I J+8)/\aT e (U c.heap) 61 7 (aG d (I J+8) (I J+8)) (I J+8) (eZ (mM J 8))/\aD c e) (λe=>aD c e) (by
  rw[g];exact bG (KZ J ro rb bL t c E G) λf ae ⟨d,y,g,D⟩=>⟨_,y,d,rfl,g,D⟩) ?_
 rintro o e ⟨d,rfl,h,l⟩;rw[z];have⟨ab,V,r,_,u,x⟩:=kz h aa;cases r;have:=aaa (mM J 8) (K ⟨B,0,Z⟩) (K ⟨d,0,Z⟩) B 0 (I J+8) d 0 (I J+8) e (by rw[m];unfold aV;omega) (dJ.Bn aa λn S i=>by rw[fq];exact aB (bA l (p:=⟨B,n,Z⟩) L) (Q _ _ i)) (dJ.Bn u λn S i=>by rw[fq];exact x _ _ i);rw[m] at this;refine bG this ?_;rintro f X ⟨rfl,N,rfl⟩;exact⟨rfl,below_drewN l N⟩
end
def aai:vC 0 cg=aS (sc 0 cg) (aS (sc 1 cg) (aS (sc 2 cg) (aS (sc 3 cg) (aS (sc 4 cg) (aS (sc 5 cg) (aS (sc 6 cg) (aS (sc 7 cg) (aS (sc 8 cg) (aS (sc 9 cg) (aS (sc 10 cg) (aS (sc 11 cg) (aS (sc 12 cg) (aS (sc 13 cg) (aS (sc 14 cg) (aS (aS (gz cg) (fT 4 (.loop (mI cg)))) (vC 16 cg)))))))))))))))):=aR
def SK(a:ag)(v:Nat->F):
 (sc 0 cg).wp (aH ax) (λd c b=>d=cX/\b=a/\gV [0,1,2,3,4] v c) (eA v) a:=by
 unfold sc cg eA;dsimp only;simp only[iR];go_wp2_with fail;exact⟨rfl,rfl,by repeat' first|exact fn|refine fm Y ?_⟩
section
variable{s:ByteArray}{an:List Int}{R:List bH}{Q:List Int}{cb bC bF:Nat}{ro:Option aL}{rb bL bD:Nat}{H:Option aL}{sb mP iX:Nat}{sk:Bool}{S:ag}
def S6{B:List (bx×Int)}{u:List Bd}{bP ew:Nat->Nat}{V:Nat->Nat->List aC}{br bs:Nat->Nat}{rn:F}(bj:Fz B u an R V)(hF:FM w B u an R n k P j bP ew O cb bC ro rb bL)(ar:∀D,tI n k j bP cb rb (I u) (I an) (I R) D->D<a)(a1:DM w a B u an R b c afg d aff QD e gI br bs rn ae8 afd afb ae9 afe afc)
 (M:w.heap[a]? =K (aq (fJ (ia n (I B) m k (I B) i P (I u) cW O (I an) bF ro (I R) bD sk) 0 0) 119 (0,0)))
 (bh:I Q<=1048576) (bd:0<I Q->H=K ⟨sb,mP,Z⟩/\sb<a) (be:∀A,A<I Q->bl w sb (mP+A) (z9 (aW Q A 0))) (a7:∀az∈Q,-9223372036854775808<=az/\az<=9223372036854775807) (a6:∀C,RelB (λp=>p<a) w C->J (ak af) C)
 (aA:Knows qT 229 [(1,ah ae8 (I an) ae6),(2,ah ae9 (I R) ae7),(3,ak sk),(4,ah H (I Q) iX),(11,(aK b)),(15,(aK a))]) (ab:bU qT=[]):
 Xe (aH ax) ax J (fO w) ((base 7).at qT [bJ (aS (sc 13 cg) (aS (sc 14 cg) (aS (aS (gz cg) (fT 4 (.loop (mI cg)))) (vC 16 cg))))]) [] w:=by
 have t:=me (aH ax) ax J;have ca:a<U w.heap:=(dn.1 M).1;refine cy t (lC fX aA ab (sc 13 cg) (λf g r=>Knows g 229 [(1,ah ae8 (I an) ae6),(2,ah ae9 (I R) ae7),(3,ak sk),(4,ah H (I Q) iX),(11,(aK b)),(15,(aK a))]/\bU g=[]) (j4 aR) (gT Y ab aR) (λv f q L T=>?_) λbQ bu bv C b3 b6 bV a9 b1 al=>?_);have X:=(ug L T).1 _ _ _ _ M;have aU:ap f ⟨a,7,Z⟩=K (z9 0):=by unfold ap;rw[X];rfl
 have aQ:ap f ⟨a,6,Z⟩=K (z9 0):=by unfold ap;rw[X];rfl
 refine eH ?_ (SO f v (by rw[q 15 _ Y];exact Ci aU) (by rw[q 15 _ Y];exact Jo a _ f aQ));rintro x g r ⟨rfl,rfl,l⟩;exact⟨rfl,bN _ _,ox l q,l.2.1⟩;have⟨aD,ad⟩:=a9;refine cy t (lC fX aD ad (sc 14 cg) (λf g r=>∃o,Knows g 229 [(21,(aK o)),(1,ah ae8 (I an) ae6),(2,ah ae9 (I R) ae7),(3,ak sk),(4,ah H (I Q) iX),(11,(aK b)),(15,(aK a))]/\bU g=[]/\U f.heap<=o/\cq r o #[aF,aF,aF,aF] 37) (j4 aR) (gT Y ad aR) (λv f q L T=>?_) λbS bz bH cc b4 b7 bW ba a2 bc=>?_);refine eH ?_ (SP f v);rintro x g r ⟨rfl,rfl,l,bk⟩;exact⟨rfl,pE (bN _ _) (aZ _) _,_,(ox l q).cons bk,l.2.1,aZ _,lF f _⟩;have⟨o,aE,ae,bT,a3⟩:=ba;have W:=(Cb a2).1 _ _ _ _ a3;have bo:a<o:=cA al.size;refine cy t (cy t (lC fX aE ae (gz cg) (λf g r=>Knows g 229 ((22,z9 0)::[(21,(aK o)),(1,ah ae8 (I an) ae6),(2,ah ae9 (I R) ae7),(3,ak sk),(4,ah H (I Q) iX),(11,(aK b)),(15,(aK a))])/\bU g=[]) (j4 aR) (gT Y ae aR) (λv f q L T=>?_) λE bK bM aw b5 b8 b0 bb b2 am=>?_));refine eH ?_ (S2 f v);rintro x g r ⟨rfl,rfl,l,bm⟩;exact⟨rfl,bN _ _,(ox l q).cons bm,l.2.1⟩;have⟨h,a5⟩:=bb;have a4:=(am.at_ o (dn.1 W).1).trans W;have N:=o6 (o6 al bc) am;refine nS t (xL t ?_);have G:=nW N;have ao:RelB (λp=>p<a) w aw:=N.mono λp y=>by have:p<a:=y;show p<U w.heap;omega
 have aG:=wD (u:=cx E) (i:=0) h.size (h.slot 22 _ Y) (λs _=>rfl);exact S8 (u:=cx E) (iv:=aF) (es:=[]) bj (hF.kept N.size λD bi=>zY (ao.at_ D (ar D bi))) ar (a1.ce G) (h.slot 1 _ Y) (h.slot 2 _ Y) (h.slot 3 _ Y) (h.slot 4 _ Y) (h.slot 11 _ Y) (h.slot 15 _ Y) (h.slot 21 _ Y) bh bd (λA a8=>G.cell (be A a8)) a7 (λC a0=>a6 C (ao.trans a0)) (I Q+1) 0 aa E aw aG a5 ⟨RelB.refl _ _,⟨0,0,G.1 _ _ _ _ M⟩,⟨a4,iS _ _ _ _,λx z=>by simp at z⟩,λx z=>by simp at z,λp y=>by
  rcases y with rfl|y|⟨x,z,_⟩;exact bo;cases y;simp at z,aI⟩
end
def Ge(h:aT w n Qd m (aG i k j) k S):n<=i/\∃a:Array F,w.heap[i]? =K (aq a Qd (0,0))/\U a=j*m:=by
 rcases h.2 with⟨b,_⟩|⟨g,f,a,b,c,d,_,_,e,_⟩;cases b;cases b;exact⟨c,a,d,e⟩
section
variable{s:ByteArray}{an:List Int}{rs:List bH}{st:List Int}{J:Option aL}{cb bC bF:Nat}{ro:Option aL}{rb bL bD:Nat}{Q:Option aL}{sb mP iX:Nat}{sk:Bool}
def Tz(bv:s.size<=aV)(d3:I an<=aV)(d0:I an<=bF)(eX:I rs<=aV)(eV:I rs<=bD)
 (b8:0<I an->J=K ⟨cb,bC,Z⟩) (d2:0<I an->cb<U w0.heap) (dT:∀m,m<I an->bl w0 cb (bC+m) (z9 (aW an m 0))) (cM:dJ w0 ro rb bL rs)
 (e9:I st<=1048576) (e4:0<I st->Q=K ⟨sb,mP,Z⟩) (e8:0<I st->sb<U w0.heap) (e6:∀m,m<I st->bl w0 sb (mP+m) (z9 (aW st m 0))) (d7:∀c6∈st,-9223372036854775808<=c6/\c6<=9223372036854775807) (ec:kr (aH ax) w0)
 (cK:∀bd,RelB (fO w0) w0 bd->Post (ak af) bd):
 iq (aH ax) ax Post (aX (eT ax 7 #[ay s,ah J (I an) bF,ah ro (I rs) bD,ak sk,ah Q (I st) iX] dM) []) w0:=by
 have B:=me (aH ax) ax Post;refine Xe.go (own:=fO w0) ?_ (λj h=>h) ec;rw[enter_at _ Tryz.func7 Y];have c7:=FC (ay s) (ah J (I an) bF) (ah ro (I rs) bD) (ak sk) (ah Q (I st) iX) 229 az;have⟨w,hF⟩:=Ua s w0 bv;have⟨V,bo⟩:=Vb w0 hF;have fa:I (an.take 16)=min (I an) 16:=jC ng;have fb:I (rs.take 16)=min (I rs) 16:=jC ng;show Xe _ _ _ _ ((base 7).at _ [bJ (vC 0 cg)]) _ _;rw[aai];refine cy B (lC fX c7 Y (sc 0 cg) (λa d g=>Knows d 229 [(0,ay s),(1,ah J (I an) bF),(2,ah ro (I rs) bD),(3,ak sk),(4,ah Q (I st) iX)]/\bU d=[]) (j4 aR) (gT Y Y aR) (λv a e q p=>?_) λge fH fK u0 g4 hi gC eh gV eF=>?_);refine eH ?_ (SK a v);rintro n d g ⟨rfl,rfl,i⟩;exact⟨rfl,bN _ _,ox i e,i.2.1⟩;have⟨c8,cc⟩:=eh;refine cy B (lC fX c8 cc (sc 1 cg) (λa d g=>∃x,Knows d 229 ((1,ah J (I (an.take 16)) x)::[(0,ay s),(2,ah ro (I rs) bD),(3,ak sk),(4,ah Q (I st) iX)])/\bU d=[]) (j4 aR) (gT Y cc aR) (λv a e q p=>?_) λgf fL fP u1 g5 hj gF ej gW eJ=>?_);refine eH ?_ (SL a v (λk g=>g=a/\∃x,k=ah J (I (an.take 16)) x) (by
  rw[e 1 _ Y];exact(T9 J (I an) bF a d3 d0 λh=>⟨_,_,b8 h⟩).mono λn g ⟨⟨x,_,o⟩,A⟩=>⟨_,o,A,x,by rw[fa]⟩))
 rintro n d g ⟨rfl,i,rfl,x,o⟩;exact⟨rfl,bN _ _,x,(ox i e).cons o,i.2.1⟩;have⟨y,c9,cd⟩:=ej;refine cy B (lC fX c9 cd (sc 2 cg) (λa d g=>∃x,Knows d 229 ((2,ah ro (I (rs.take 16)) x)::[(1,ah J (I (an.take 16)) y),(0,ay s),(3,ak sk),(4,ah Q (I st) iX)])/\bU d=[]) (j4 aR) (gT Y cd aR) (λv a e q p=>?_) λgj fV fW hE g8 hm gJ eo g0 eK=>?_);refine eH ?_ (SS a v (λk g=>g=a/\∃x,k=ah ro (I (rs.take 16)) x) (by
  rw[e 2 _ Y];exact(T8 ro (I rs) bD a eX eV λh=>⟨_,_,cM.addr h⟩).mono λn g ⟨⟨x,_,o⟩,A⟩=>⟨_,o,A,x,by rw[fb]⟩))
 rintro n d g ⟨rfl,i,rfl,x,o⟩;exact⟨rfl,bN _ _,x,(ox i e).cons o,i.2.1⟩;have⟨z,db,ch⟩:=eo;have bK:=o6 (o6 eF eJ) eK;have a8:∀m,m<I (an.take 16)->m<I an:=λm u=>by simp at u;omega
 have a2:∀m,m<I (an.take 16)->ap w0 ⟨cb,bC+m,Z⟩=K (z9 (aW (an.take 16) m 0)):=λm u=>by
  rw[dT m (a8 m u)];have o:=a8 m u;have A:m<16:=by simp at u;omega
  simp[ep,vW,A]
 have a1:0<I (an.take 16)->J=K ⟨cb,bC,Z⟩:=λh=>b8 (a8 0 h);have a5:0<I (an.take 16)->cb<U w0.heap:=λh=>d2 (a8 0 h);have a9:=dJ.take cM 16;generalize an.take 16=b at*;generalize rs.take 16=c at*;refine cy B (lC fX db ch (sc 3 cg) (λa d g=>∃k G,Knows d 229 ((12,G)::(11,k)::[(2,ah ro (I c) z),(1,ah J (I b) y),(0,ay s),(3,ak sk),(4,ah Q (I st) iX)])/\bU d=[]/\yK a w b c (aN (cP #[k,G])) g) (j4 aR) (gT Y ch aR) (λv a e q p=>?_) λgl dp f0 ao dQ e0 gK eq dK eL=>?_);have C:Ce w0 a:=(nW bK).trans (ug q p);refine eH ?_ (SU a v (λk G g=>yK a w b c (aN (cP #[k,G])) g) (by
  rw[e 0 _ Y,e 1 _ Y,e 2 _ Y];refine(PU s w b c J cb bC y ro rb bL z a bv hF aa aa a1 (λh=>cL (a5 h) C.2) (λm u=>C.cell (a2 m u)) (C.Bl a9)).mono λn g h=>?_;rcases h.2 with⟨_,rfl⟩|⟨_,_,_,_,_,_,_,_,_,rfl,_⟩;exact⟨_,_,rfl,h⟩;exact⟨_,_,rfl,h⟩))
 rintro n d g ⟨rfl,i,h⟩;exact⟨rfl,h.1,_,_,((ox i e).cons Y).cons Y,i.2.1,h⟩;have⟨k,G,dc,ci,dx⟩:=eq;have br:Ce w0 dp:=(nW bK).trans (ug dQ e0);obtain⟨F,rfl,rfl,b3⟩:=TS hF dx dK a1 (λh=>cL (a5 h) br.2) (λm u=>br.cell (a2 m u)) (br.Bl a9);have R:=o6 bK eL;refine cy B (lC fX dc ci (sc 4 cg) (λa d g=>∃r,Knows d 229 ((13,aG r (I b+8) (I b+8))::[(12,n9 (eU w b c)),(11,cU F),(2,ah ro (I c) z),(1,ah J (I b) y),(0,ay s),(3,ak sk),(4,ah Q (I st) iX)])/\bU d=[]/\aT g (U a.heap) 3 1 (aG r (I b+8) (I b+8)) (I b+8) (cO (b++dH 8 (-77)))) (j4 aR) (gT Y ci aR) (λv a e q p=>?_) λgn f1 f2 fG ha e1 gL es dL eO=>?_);have C:Ce w0 a:=(nW R).trans (ug q p);refine eH ?_ (SV a v (λk g=>∃r,k=aG r (I b+8) (I b+8)/\aT g (U a.heap) 3 1 (aG r (I b+8) (I b+8)) (I b+8) (cO (b++dH 8 (-77)))/\aD a g) (by
  rw[e 1 _ Y];exact(KY b J cb bC y a aa a1 (λh=>cL (a5 h) C.2) (λm u=>C.cell (a2 m u))).mono λn fD ⟨r,o,A,W⟩=>⟨_,o,r,rfl,A,W⟩))
 rintro n d g ⟨rfl,i,r,o,A,W⟩;exact⟨rfl,W,r,(ox i e).cons o,i.2.1,A⟩;have⟨H,dd,ck,d8⟩:=es;have cr:=yf ((Cb dL).own d8) e1;have bQ:RelB (λj=>j<U ao.heap) ao fG:=eO;refine cy B (lC fX dd ck (sc 5 cg) (λa d g=>∃r,Knows d 229 ((14,aG r (I c+8) (I c+8))::[(13,aG H (I b+8) (I b+8)),(12,n9 (eU w b c)),(11,cU F),(2,ah ro (I c) z),(1,ah J (I b) y),(0,ay s),(3,ak sk),(4,ah Q (I st) iX)])/\bU d=[]/\aT g (U a.heap) 61 7 (aG r (I c+8) (I c+8)) (I c+8) (eZ (mM c 8))) (j4 aR) (gT Y ck aR) (λv a e q p=>?_) λgp f3 f4 aQ hb c2 gM et dO bS=>?_);have C:Ce w0 a:=((nW R).trans (nW bQ)).trans (ug q p);refine eH ?_ (SW a v (λk g=>∃r,k=aG r (I c+8) (I c+8)/\aT g (U a.heap) 61 7 (aG r (I c+8) (I c+8)) (I c+8) (eZ (mM c 8))/\aD a g) (by
  rw[e 2 _ Y];exact(KZ c ro rb bL z a aa (C.Bl a9)).mono λn fD ⟨r,o,A,W⟩=>⟨_,o,r,rfl,A,W⟩))
 rintro n d g ⟨rfl,i,r,o,A,W⟩;exact⟨rfl,W,r,(ox i e).cons o,i.2.1,A⟩;have⟨E,de,cl,cv⟩:=et;have e2:=bQ.size;have bz:=yf ((Cb dO).own cv) (dW e2 c2);have hh:=dW c2 ((Ge cv).1);have cs:=(nW bS).own cr;have hy:=cr.lt H Y;have hz:=bz.lt E Y;have eM:=o6 bQ bS;have hn:=bS.size;refine cy B (HX (S:=fO aQ) fX (λj h=>h) de cl (sc 6 cg) (λa d g=>∃k G D,Knows d 229 ((16,G)::(15,k)::[(14,aG E (I c+8) (I c+8)),(13,aG H (I b+8) (I b+8)),(12,n9 (eU w b c)),(11,cU F),(2,ah ro (I c) z),(1,ah J (I b) y),(3,ak sk),(4,ah Q (I st) iX)])/\bU d=[]/\dF D=dF a/\xB D w b c sk (aN (cP #[k,G])) g) (j4 aR) (gT Y cl aR) (λv a e q p=>?_) λgq D f5 X M e3 eA bm ba=>?_);have P:=ug q p;refine eH ?_ (SX a v (λk G g=>∃D,dF D=dF a/\xB D w b c sk (aN (cP #[k,G])) g) (I b) (I c) y z H E J ro aa aa (e 1 _ Y) (e 2 _ Y) (e 13 _ Y) (e 14 _ Y) (λD M=>by
  rw[e 0 _ Y,e 3 _ Y];have bs:Ce aQ D:=⟨λj dt fC f l=>bV M (P.1 j dt fC f l),bV M P.2⟩;have⟨_,_,dv,_,_,du⟩:=kz (bs.own cs) aa;have⟨_,_,dw,_,ft,fu⟩:=kz (bs.own bz) aa;cases dv;cases dw;refine(Gc bv hF (by omega) (by omega) (λ_=>rfl) (λ_=>by have:=bs.2;omega) (λm u=>?_) (dJ.Bn ft λhu hD fc=>by rw[fq];exact fu _ _ (by unfold mM;exact Xh fc))).mono λn g h=>?_;rw[fq];refine du _ _ ?_;simp only[cO,gD];rw[tX (by simpa using u)];simp[ep,u];rcases h.2 with⟨_,rfl⟩|⟨_,_,_,_,_,_,_,_,_,_,_,_,_,_,_,_,_,_,_,_,rfl,_⟩;exact⟨_,_,rfl,D,M,h⟩;exact⟨_,_,rfl,D,M,h⟩))
 rintro n d g ⟨rfl,i,D,M,h⟩;have b6:=h.1;exact⟨rfl,⟨λj l=>by rw[<-M];exact cT b6 j (bV M (cL l p)),by rw[<-M];exact b6.size⟩,_,_,D,((ox i e).cons Y).cons Y,i.2.1,M,h⟩;have⟨k,G,dq,df,cn,dS,dC⟩:=eA;have cu:=(nW ba).own cs;have cx:=(nW ba).own bz;have aF:=o6 eM ba;have hx:U aQ.heap<=U dq.heap:=bV dS e3;have ho:=ba.size;obtain⟨L,rfl,rfl,bk⟩:∃L,k=cU L/\G=n9 (eU w b c)/\((eU w b c≠0/\L=Z)\/(eU w b c=0/\∃(S:List (bx×Int)) (O:List Bd) (t am a0 ad aU:Nat) (ar:Option aL) (aw cW:Nat) (bP ew:Nat->Nat) (J:Option aL) (cb bF:Nat) (ro:Option aL) (rb bD:Nat),w=K (S,O)/\L=K ⟨t,0,Z⟩/\U aQ.heap<=t/\cq X t (fJ (ia am (I S) a0 ad (I S) aU ar (I O) cW J (I b) bF ro (I c) bD sk) 0 0) 119/\FM X S O b c am ad ar aw bP ew J cb 0 ro rb 0/\∀k,tI am ad aw bP cb rb (I O) (I b) (I c) k->U aQ.heap<=k/\k<t)):=by
  rcases dC.2 with⟨N,n⟩|⟨S,O,t,am,a0,ad,aU,ar,aw,cW,bP,ew,ae8,afd,ae6,ae9,afe,ae7,aA,b4,n,hf,a3,bj,aI⟩;cases n;exact⟨Z,rfl,rfl,av ⟨N,rfl⟩⟩;cases n;exact⟨_,rfl,gG b4,ai ⟨b4,S,O,t,am,a0,ad,aU,ar,aw,cW,bP,ew,ae8,afd,ae6,ae9,afe,ae7,aA,rfl,aa,bm.row.1 a3,bj.kept (bV bm.size (aZ _)) (λj _=>WL bm),λk al=>⟨cA ((aI k al).1),(aI k al).2⟩⟩⟩
 have b7:=nW R;refine cy B (lC fX df cn (sc 7 cg) (λa d g=>Knows d 229 ((17,ak af)::[(16,n9 (eU w b c)),(15,cU L),(14,aG E (I c+8) (I c+8)),(13,aG H (I b+8) (I b+8)),(12,n9 (eU w b c)),(11,cU F),(2,ah ro (I c) z),(1,ah J (I b) y),(3,ak sk),(4,ah Q (I st) iX)])/\bU d=[]) (j4 aR) (gT Y cn aR) (λv a e q p=>?_) λgr f6 f7 hG hc hp gR eB g1 c1=>?_);have P:=ug q p;have C:Ce w0 a:=(b7.trans (nW aF)).trans P;refine eH ?_ (Tg a v aa (e 1 _ Y) (e 13 _ Y) a1 (λh=>cL (a5 h) C.2) (λm u=>C.cell (a2 m u)) (P.own cu));rintro n d g ⟨rfl,i,fk,l⟩;exact⟨rfl,l,(ox i e).cons fk,i.2.1⟩;have⟨dg,co⟩:=eB;refine cy B (lC fX dg co (sc 8 cg) (λa d g=>Knows d 229 ((18,ak af)::[(17,ak af),(16,n9 (eU w b c)),(15,cU L),(14,aG E (I c+8) (I c+8)),(13,aG H (I b+8) (I b+8)),(12,n9 (eU w b c)),(11,cU F),(2,ah ro (I c) z),(1,ah J (I b) y),(3,ak sk),(4,ah Q (I st) iX)])/\bU d=[]) (j4 aR) (gT Y co aR) (λv a e q p=>?_) λgs f8 f9 hH hd hq gS eC g2 eR=>?_);have P:Ce X a:=(nW c1).trans (ug q p);have C:Ce w0 a:=(b7.trans (nW aF)).trans P;refine eH ?_ (Ti a v aa (e 2 _ Y) (e 14 _ Y) (C.Bl a9) (P.own cx));rintro n d g ⟨rfl,i,fl,l⟩;exact⟨rfl,l,(ox i e).cons fl,i.2.1⟩;have⟨di,cp⟩:=eC;have eQ:=o6 c1 eR;have ed:L=Z/\F=Z\/∃dr j,L=K ⟨dr,0,Z⟩/\F=K ⟨j,0,Z⟩:=by
  rcases b3 with⟨N,ab⟩|⟨N,_,_,b2,_,_,_,_,_,_,_,_,_,_,_,_,_,ab,_⟩;rcases bk with⟨_,bi⟩|⟨o,_⟩;exact av ⟨bi,ab⟩;exact absurd o N;rcases bk with⟨o,_⟩|⟨_,_,_,t,_,_,_,_,_,_,_,_,_,_,_,_,_,_,_,_,bi,_⟩;exact absurd N o;exact ai ⟨t,b2,bi,ab⟩
 refine cy B (lC fX di cp (sc 9 cg) (λa d g=>Knows d 229 [(15,cU L),(14,aG E (I c+8) (I c+8)),(13,aG H (I b+8) (I b+8)),(11,cU F),(2,ah ro (I c) z),(1,ah J (I b) y),(3,ak sk),(4,ah Q (I st) iX)]/\bU d=[]) (j4 aR) (gT Y cp aR) (λv a e q p=>?_) λgt gb gc hI he hr gU eE g3 eS=>?_);refine eH ?_ (S0 a v (eU w b c) L F (e 12 _ Y) (e 16 _ Y) (e 17 _ Y) (e 18 _ Y) (e 15 _ Y) (e 11 _ Y) ed);rintro n d g ⟨rfl,rfl,i⟩;exact⟨rfl,bN _ _,ox i e,i.2.1⟩;have⟨b0,a7⟩:=eE;have c0:=o6 eQ eS;refine cy B ?_;rcases bk with⟨N,rfl⟩|⟨N,S,O,t,am,a0,ad,aU,ar,aw,cW,bP,ew,ae8,afd,ae6,ae9,afe,ae7,aA,rfl,hg,a3,bj,aI⟩;refine OG fX b0 a7 (sc 10 cg) (λa d g=>Knows d 229 [(10,ak af)]/\bU d=[]) (j4 aR) (gT Y a7 aR) (λv a e q p=>?_) λds dk dl c5 hC dP eY dy bH dE bM=>?_;refine eH ?_ (Jj a v Z (e 15 _ Y) (av Y));rintro n d g (⟨-,rfl,rfl,i,fg⟩|⟨h,-⟩);exact⟨rfl,bN _ _,(Ec.x6 i.1).cons fg,i.2.1⟩;exact absurd Y h;have⟨be,a6⟩:=bH;have eG:RelB (fO w0) w0 X:=R.trans (aF.mono λj l=>cL l R.size);exact OH aR Y a6 Tryz.func7 (BB Tryz.results7 (be.slot 10 _ Y)) λbT aE=>cK bT (o6 (o6 (o6 eG c0) bM) aE);refine lC fX b0 a7 (sc 10 cg) (λa d g=>Knows d 229 [(15,(aK t)),(14,aG E (I c+8) (I c+8)),(13,aG H (I b+8) (I b+8)),(11,cU F),(2,ah ro (I c) z),(1,ah J (I b) y),(3,ak sk),(4,ah Q (I st) iX)]/\bU d=[]) (j4 aR) (gT Y a7 aR) (λv a e q p=>?_) λds dk dl c5 dP eY dy bH dE bM=>?_;refine eH ?_ (Jj a v (K ⟨t,0,Z⟩) (e 15 _ Y) (ai ⟨t,rfl⟩));rintro n d g (⟨h,-⟩|⟨-,rfl,rfl,i⟩);cases h;exact⟨rfl,bN _ _,ox i e,i.2.1⟩;have⟨be,a6⟩:=bH;have bb:=o6 c0 bM;have d9:=(nW bb).own cu;have eb:=(nW bb).own cx;obtain⟨-,bh,a4,ca⟩:=Ge d9;refine cy B (HX (S:=λj=>j<U c5.heap/\j≠H) fX (λj h=>h.1) be a6 (sc 11 cg) (λa d g=>Knows d 229 [(15,(aK t)),(14,aG E (I c+8) (I c+8)),(11,cU F),(2,ah ro (I c) z),(1,ah J (I b) y),(3,ak sk),(4,ah Q (I st) iX)]/\bU d=[]) (j4 aR) (gT Y a6 aR) (λv a e q p=>?_) λgg fQ fR bT g6 hk el gY aE=>?_);refine eH ?_ (SM a v H (I b+8) bh aa (e 13 _ Y) (q _ _ a4 trivial) aa);rintro n d g ⟨rfl,aC,i⟩;exact⟨rfl,⟨λj l=>m4 aC j (cL l.1 p) (λn=>l.2 (uX n)),aC.size⟩,ox i e,i.2.1⟩;have⟨da,cf⟩:=el;have e5:=aE.size;obtain⟨-,bh,a4,ca⟩:=Ge eb;have d1:=(aE.at_ E ⟨(dn.1 a4).1,aa⟩).trans a4;refine cy B (HX (S:=λj=>j<U bT.heap/\j≠E) fX (λj h=>h.1) da cf (sc 12 cg) (λa d g=>Knows d 229 [(15,(aK t)),(11,cU F),(2,ah ro (I c) z),(1,ah J (I b) y),(3,ak sk),(4,ah Q (I st) iX)]/\bU d=[]) (j4 aR) (gT Y cf aR) (λv a e q p=>?_) λgi fS fU bW g7 hl em gZ cZ=>?_);refine eH ?_ (SN a v E (I c+8) bh aa (e 14 _ Y) (q _ _ d1 trivial) ca);rintro n d g ⟨rfl,aC,i⟩;exact⟨rfl,⟨λj l=>m4 aC j (cL l.1 p) (λn=>l.2 (uX n)),aC.size⟩,ox i e,i.2.1⟩;have⟨T,d5⟩:=em;have hs:=cZ.size;have bc:RelB (λj=>j<U X.heap/\j≠H/\j≠E) X bW:=by
  have c3:=bb.size;exact((bb.mono λj l=>l.1).trans (aE.mono λj l=>⟨cL l.1 c3,l.2.1⟩)).trans (cZ.mono λj l=>⟨cL l.1 (dW c3 e5),l.2.2⟩)
 have ae:RelB (λj=>j<U ao.heap) ao bW:=aF.trans (bc.mono λj l=>by
  have:j<U ao.heap:=l;have:=aF.size;exact⟨aa,aa,aa⟩)
 have cN:RelB (fO w0) w0 bW:=R.trans (ae.mono λj l=>cL l R.size);rcases b3 with⟨o,_⟩|⟨_,c4,b1,b2,hv,afg,gB,aff,gv,gu,gI,hA,L,rn,gA,hB,dA,rfl,dz⟩;exact absurd N o;obtain⟨rfl,rfl⟩:c4=S/\b1=O:=by
  have:=dA.symm.trans aA;cases this;exact⟨rfl,rfl⟩
 have⟨hw,gz,ab,b5,d6⟩:=PR N;rw[aA] at ab;cases ab;rw[aA] at hF bo;have bu:=hF.1;have⟨fv,fx,fy,fB⟩:=h_ bu.1 b5 d6 bo;have fd:Fz c4 b1 b c V:=⟨Uq bu b5 aa aa bo,λj l=>(bu.1.e7 j l).lo,fv,fx,fy,fB⟩;have d4:U ao.heap<=t:=aa;have fr:t<U X.heap:=(dn.1 a3).1;have ht:=R.size;exact S6 (sb:=sb) (mP:=mP) (iX:=iX) (ae6:=y) (ae7:=z) fd (bj.kept bc.size λk al=>zY (bc.at_ k (by have:=aI k al;exact⟨aa,aa,aa⟩))) (λk al=>(aI k al).2) ((dz.below ⟨ae.os,ae.tape,ae.output,ae.size,ae.at_⟩).up d4) ((bc.at_ t ⟨fr,aa,aa⟩).trans a3) e9 (λh=>⟨e4 h,cA (e8 h)⟩) (λm u=>(nW cN).cell (e6 m u)) d7 (λbd o=>cK bd (cN.trans (o.mono λj l=>by have:j<U w0.heap:=l;show j<t;omega))) (((((((Ec.x6 T.size).cons (T.slot 15 _ Y)).cons (T.slot 11 _ Y)).cons (T.slot 4 _ Y)).cons (T.slot 3 _ Y)).cons (T.slot 2 _ Y)).cons (T.slot 1 _ Y)) d5
end
end Cc
end Go.Proofs.YtjidbonhhpkljaaGreat
namespace Go.Proofs.YtjidbonhhpkljaaGreat.Js
open Go.ChangeShapes Go.WideShapes Go.ChangeAt Go.RowKit
open Go.ChangeMaps (open_string shut_string)
open Go.Conc Go.Proofs.YtjidbonhhpkljaaGreat.Cc
def own:ownKnob ax.godebug=Z:=aR
def laidOut:laidOutB ax=af:=aR
abbrev spec:OpenSpec:=aez Rows.cursorsSpec
def runs{j:Type}{enc:aP×F->j}(a:ag)(ae:Nat)(args:Array F)(i l:List (DataW j))(ad:List MemPlace)
 (bi:∀(f:Nat) O v,cg.params[f]? =K O->args[f]? =K v->Value.okWide ax a .any ae O v)
 (C:DataW.Whole enc ax cg.params.toList Rows.cursorsSpec.vars aj a (dY args) i l ad) (bd:Rows.uptoSmall j (i++l)=af)
 (be:dI (DataW.weightsEach ax (cg.params.toList++Rows.cursorsSpec.plain.varTypes ax) (i++l)) (·<=reachBytes)=af):
 ∃w q r t P,runNT ax (w+1) (solo (aX (eT ax 7 args dM) []) a) #[]=(.ended r t,P)/\runN ax w (solo (aX (eT ax 7 args dM) []) a)= .next q/\
  step ax q= .ended r t/\Conc.Good ax (λv c=>Rows.cursorsSpec.post enc ax cg aj af aj aj a args v c) q r t P:=by
 have p:=be;have b:=bi;have a8:=C;obtain⟨bo,cf,a4,a7,rfl,b6,b7⟩:=C;have B:DataW.TrodAll enc ax a 0 (λ_=>af) af cg.params.toList (dY args) i bo:=a4;rw[Tryz.params7] at B b p;obtain⟨Q,cq,bQ,bT,cc,ch,b5,rfl,rfl,a2,bv⟩:=trodAll_cons B;obtain⟨R,cr,aE,bV,br,ci,rfl,rfl,rfl,y,bx⟩:=trodAll_cons bv;obtain⟨S,cs,aF,bW,bs,ck,rfl,rfl,rfl,z,bz⟩:=trodAll_cons bx;obtain⟨T,cu,bS,b0,cd,cl,rfl,rfl,rfl,a3,bH⟩:=trodAll_cons bz;obtain⟨V,cv,aG,b1,bu,cn,rfl,rfl,rfl,A,bK⟩:=trodAll_cons bH;obtain⟨rfl,rfl,rfl⟩:=trodAll_nil bK;obtain rfl:args=#[Q,R,S,T,V]:=by cases args;simp_all
 obtain⟨rfl,rfl⟩:=trodVars_none a7;obtain⟨x,rfl,rfl,rfl,W⟩:=open_string Tryz.underlying9 (b 0 9 Q rfl rfl) a2;obtain⟨X,b8,az,rfl⟩:=okWide_slice yZ (b 1 22 R rfl rfl);obtain⟨Z,ca,aA,rfl⟩:=okWide_slice Tryz.underlying23 (b 2 23 S rfl rfl);obtain⟨k,rfl,rfl,rfl⟩:=open_bool Tryz.underlying4 (b 3 4 T rfl rfl) a3;obtain⟨ab,oy,aC,rfl⟩:=okWide_slice yZ (b 4 22 V rfl rfl);have G:=y;have H:=z;have J:=A;have bk:∀h∈br,h.block<U a.heap:=by have⟨m,d⟩:=G;exact DataW.trod_lt m _ _ _ d
 have bl:∀h∈bs,h.block<U a.heap:=by have⟨m,d⟩:=H;exact DataW.trod_lt m _ _ _ d
 have bm:∀h∈bu,h.block<U a.heap:=by have⟨m,d⟩:=J;exact DataW.trod_lt m _ _ _ d
 have a5:yN aE 22:=λg o=>of_decide_eq_true (fA.1 p g (DataW.weights_mem_each (j:=1) Y Y g o));have a6:yN aF 23:=λg o=>of_decide_eq_true (fA.1 p g (DataW.weights_mem_each (j:=2) Y Y g o));have⟨b2,ba⟩:=y;have⟨b3,bb⟩:=z;have⟨b4,D⟩:=A;have E:=acm D;have a9:Rows.uptoBulk aG<=1048576:=by
  have:=of_decide_eq_true bd;simp only[tV,s6,Rows.uptoBulkAll] at this;omega
 have⟨an,bP,cb,bC,bF,aH,al,am,ao,ar,aw⟩:=open_ints ba;have⟨L,ro,rb,bL,bD,aI,aQ,aU,a0⟩:=Yy bb;obtain⟨s,co,sb,mP,iX,aK,-,M,bM,N,-⟩:=open_ints D;obtain⟨rfl,rfl,rfl⟩:=Im aH;obtain⟨rfl,rfl,rfl⟩:=Im aI;obtain⟨rfl,rfl,rfl⟩:=Im aK;have bc:∀u∈s,-9223372036854775808<=u/\u<=9223372036854775807:=λu bj=>by
  obtain⟨f,n,rfl⟩:=m9 bj;exact E.2 sb mP (M aa) f n _ (by show _=_;rw[N f n,ep,dV n];rfl)
 obtain⟨cp,bh⟩:=Tz (Post:=λv c=>Rows.cursorsSpec.post enc ax cg aj af aj aj a #[ay x,ah X (I an) az,ah Z (I L) aA,ak k,ah ab (I s) aC] v c) (s:=x) (an:=an) (rs:=L) (st:=s) (sk:=k) (cb:=cb) (bC:=bC) (rb:=rb) (bL:=bL) (sb:=sb) (mP:=mP) (w0:=a) W (by have:=aw a5;unfold aV;omega) al (by have:=a0 a6;unfold aV;omega) aQ am ao ar aU (dW E.1 a9) M bM N bc trivial (λc e=>by
  have jZ:aD a c:=⟨e.os,e.tape,e.output,e.size,e.at_⟩;exact⟨_,_,_,[],_,[],a8,trodAll_mk1 (shut_bool Tryz.underlying4 _),(trodAll_cons_mk (shut_string Tryz.underlying9 W) (trodAll_cons_mk (Below.trod laidOut aR (of_decide_eq_true aR) G jZ bk) (trodAll_cons_mk (Below.trod laidOut aR (of_decide_eq_true aR) H jZ bl) (trodAll_cons_mk (shut_bool Tryz.underlying4 k) (trodAll_cons_mk (Below.trod laidOut aR (of_decide_eq_true aR) J jZ bm) trodAll_mk0))))),rfl,jZ.frame _,λa1=>by cases a1⟩)
 exact S_ bh trivial
def lifted(e:Os)(z:e.Started)(g:Type)(a:aP×F->g):
 ReturnsInLeavingWide {} Tryz.checked e 7 .any (spec.pre6 a ax cg Rows.cursorsUptoRow.domain aj) (Rows.cursorsSpec.post a ax cg aj af aj aj):=by
 refine returnsInLeavingWide_of_good (C:=Tryz.checked) own z (OpenSpec.witness (enc:=a) (C:=Tryz.checked) (s:=spec) (k:=Rows.uptoSmall) Y aj ⟨#[],#[.string ByteArray.empty,aF,aF,.bool aj,aF],[]⟩ 8 aR aR aR (x:=([.lit (.string []),.nil,.nil,.lit (.bool aj),.nil],[],[])) aR aR aR) ?_;intro c f b _ _ _ ⟨_,_,_,k,r,_,_,_,_,u⟩ ⟨t,w⟩ _;obtain rfl:k=cg:=uX (aB r.symm Tryz.func7);obtain⟨j,l,i,d,-,s⟩:=(OpenSpec.pre_some (s:=spec) (k:=Rows.uptoSmall) rfl _ _ _ _).1 t;have⟨h,x,y,B,A,n,o,p,q⟩:=runs (enc:=a) (c.forCall f b) (U c.heap) b.args j l i u (aeo (w':=c.forCall f b) (by rfl) d) s (w.weights d);exact⟨h,x,y,B,A,n,o,p,q.mono λv m=>aen m⟩
def over:Rows.cursorsUptoRow.holds Tryz.pinned spec:=by
 have i:∀a:Os,Stop.quiet ax a:=λa m d=>by
  have f:ax.stopKnobs=[]:=aR;rw[f] at d;cases d
 refine⟨aR,rfl,rfl,rfl,laidOut,aR,?_,?_,7,cg,aR,Tryz.func7,⟨?_,?_⟩,(λc=>de c),aR,of_decide_eq_true aR,?_,aR,⟨aR,aR,aR⟩,aR,aR,aR,aR,
  aR,⟨aR,aR,aR⟩,⟨aR,aR⟩,⟨aR,aR,aR,aR⟩,⟨aR,aR,aR,aR⟩,aR,(λn h=>de h),⟨_,WideRow.started_initial,i _⟩,[],?_,λa k _ e g _=>?_⟩
 show ax.mayEnter=af
 kernel_rfl
 exact⟨rfl,rfl,rfl,rfl,rfl,rfl,rfl⟩;exact Array.all_eq_true_iff_forall_mem.1 aR;intro b j;have c:cg.resultTypes.all (λb=>ax.readableRec b&&decide (b<ax.types.size))=af:=aR;have:=Array.all_eq_true_iff_forall_mem.1 c b j;rw[fe] at this;exact⟨this.1,of_decide_eq_true this.2⟩;unfold Func.isWrapper
 first|(rw[if_pos (by decide +kernel)];kernel_rfl)|(rw[if_neg (by decide +kernel)];exact⟨rfl,rfl⟩)
 rfl;rw[OpenClaim.post_not_still Y];intro l;exact lifted a k e g aR
end Go.Proofs.YtjidbonhhpkljaaGreat.Js
namespace Go.Proofs.YtjidbonhhpkljaaGreat
theorem cursors_holds:Rows.CursorsUptoSaid:=Js.over
end Go.Proofs.YtjidbonhhpkljaaGreat
