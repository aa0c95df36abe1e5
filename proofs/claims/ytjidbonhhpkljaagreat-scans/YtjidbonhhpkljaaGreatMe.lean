/- What the proof stands on, in short names. -/
import Derived.Test.YtjidbonhhpkljaaGreatMd
import Derived.Laws.OwnMore
import Derived.Deep.LoopGhost
set_option linter.all false
open And renaming intro->rV
open Array renaming replicate->jh,setIfInBounds->cF,size->U
open Bool renaming false->ai,false_eq_true->fA,true->af
open ByteArray renaming extract->e9,size->bf,toList->jI
open Eq renaming symm->bA,trans->aB
open False renaming elim->fe
open Go renaming Act->bK,Addr->aN,Code->de,Ending->gL,Func->cO,Obj->cj,TypeId->aK,Value->F,World->ag,bodyPost->jM,execOp->bT,info_parts->eU,lt_of_block->bC,maxLen->aS,results->dx
open Go.Act renaming defers->b8,eval->bz,put->bG
open Go.ByteArray renaming toList_eq->uF
open Go.CallKind renaming normal->eA
open Go.Calls renaming mono->bL
open Go.Code renaming block->ga,region->gu,seq->aU,skip->eO,wp->gD
open Go.Ending renaming returned->aR
open Go.Exit renaming normal->e4
open Go.Frame renaming kind->eD
open Go.FrameMode renaming returning->jA
open Go.IntKind renaming i64->bM,u64->lV
open Go.Item renaming code->b9,inRegion->bW
open Go.Next renaming value->eT
open Go.Obj renaming cells->ax
open Go.Program renaming underlying->gb
open Go.Proofs.Tryz renaming f3->eB,f35->cR,prog->av,underlying22->yT
open Go.Region renaming binds->iN
open Go.Region.Mode renaming any->ed
open Go.Region.linearise renaming go->kO
open Go.Result renaming ok->b6
open Go.RowKit renaming Below->dw,intOf->bw,wrap64->dr
open Go.RowKit.Below renaming alloc->nK,block->cS,cell->bq,grown->iB,trans->fJ
open Go.Value renaming agg->cw,bool->ak,int->bt,ownBlock->bB,pointer->dG,slice->ah,string->au,tuple->cC
open Go.World renaming alloc->cD,cell?->aA,drewN->cT,frozen?->cU,grownBy->jj,heap->gP,ownsRow->aT,ownsRow_nil->iO,rangeAt->pq,setCell->bg,setCells->s4
open Go.World.ownsRow renaming alloc->mB,cellAt->pp,frozenAt->vM,kept->fK
open Int renaming toNat->bS
open List renaming all->dM,all_eq_true->fD,contains->iP,getD->aX,length->I,lookup_cons->y3,mem_flatMap->y5,range->eH,replicate->dh,toArray->cX
open List.Pairwise renaming nil->abW
open Option renaming none->Z,some->K
open Or renaming inl->aq,inr->an
open Prod renaming fst->bp,snd->eu
variable{Q qS:Go.Act}{R:Go.Addr}{q7:Array Bool}{C:Array Go.Value}{qV qW qX:Bool}{A s:ByteArray}{M qA:Int}{H q4:List (Nat×Go.Value)}{aj qY:List Int}{L l:List Nat}{S qM:List Go.Value}{a b bE bH bN c d e f g h i j k m n n0 p q r:Nat}{Qk:Go.Obj}{Qr:Go.Oper}{Qp Qq:Go.Operand}{O P QC QD:Option Go.Addr}{QX:Option Nat}{Qn:Go.Program}{Qc:Go.TypeId}{T cx ej qq qs v x y z:Go.Value}{W u w:Go.World}
set_option maxRecDepth 100000
set_option maxHeartbeats 8000000
namespace Go.Proofs.YtjidbonhhpkljaaGreat
namespace Ec
open Go.RowKit Pk Pm
def HY{v a:az}:decide (gp a v<0)=decide (0<gp v a):=by
 rw[Hj a v];congr 1;apply propext;constructor<;>intro a<;>omega
def T4(b:List bJ)(h:Int->az)(S ar m bZ:Nat)(bm:Option aN)(rb bY bE:Nat)(o:ag)(bV:I b<=aS)(u:dy o bm rb bY b)(bP:∀Q∈b,mG o ar m Q.col S (h Q.col))(V:∀Q∈b,(h Q.col).s.size<=aS/\Q.low.s.size<=aS/\Q.high.s.size<=aS):
 bn 52 #[aI ar m bZ,n9 S,ah bm (I b) bE] o λw F=>∃aZ,w=aR (ak aZ)/\(aZ=af↔∀a (g:a<I b),fP (h b[a].col) b[a]=af)/\aD o F:=by
 unfold aS at bV;have aj:=ap u;have al:=ap V;clear u V;go_enter aE.func52,Tryz.ntmps52;go_wp2_with fail
 go_loopw [7] (λa wr=>∃d:Nat,d<=I b/\a=z9 d/\(∀a (g:a<I b),a<d->fP (h b[a].col) b[a]=af)/\aD o wr) (λa _=>I b-bS (bw a))
 exact⟨0,cE _,rfl,λcd _ g=>aa,bU _ _⟩;obtain⟨d,b5,rfl,a6,N⟩:=hrel;have aY:=ap N;have V:=N.size
 skip
 by_cases z:d<I b
 .have u:=aj.o.below N;obtain rfl:=u.addr (by omega);have a7:=u.c0 d z;have a8:=u.c1 d z;have a9:=u.c2 d z;have ba:=u.c3 d z;have bb:=u.c4 d z;have bc:=u.c5 d z;have bd:=u.c6 d z;have⟨P,ao,ca,b3,a0,bu,a1,a2,bv,T,a3,a4,a5⟩:=((bP b[d] (c8 z)).below N).ex;have⟨aL,aM,aQ⟩:=al.o b[d] (c8 z);have p:X (fP (h b[d].col) b[d]=ai->¬∀a (g:a<I b),fP (h b[a].col) b[a]=af):=λg bI=>by
   have:=bI d z;rw[g] at this;cases this
  have q:X (fP (h b[d].col) b[d]=af->∀a (g:a<I b),a<d+1->fP (h b[a].col) b[a]=af):=λg a bR b4=>by
   by_cases w:a=d;subst w;exact g;exact a6 a bR (by omega)
  clear u N aj al;generalize b[d]=br at*;generalize h br.col=v at*;have⟨cf,l,i⟩:=br;dsimp only at a0 a7 a8 a9 ba bb bc bd aM aQ;subst a0;have j:=λam=>AV v l am aL aM;have e:=λam=>AV i v am aQ aL;rw[HY] at e;clear aL aM aQ;go_upto_region 5 with fail;have b0:=vq (me wr (ax #[n9 P,ak l.null,z9 l.n,au l.s,ak i.null,z9 i.n,au i.s] 61));have⟨b1,be,bh,bi,bj,bk,bl⟩:=b0;have k:aD wr (wr.alloc (ax #[n9 P,ak l.null,z9 l.n,au l.s,ak i.null,z9 i.n,au i.s] 61)):=(bU _ _).alloc (aV _) _;have bx:=(bq k (p:=⟨ar,P,Z⟩) a1).trans a2;have bD:=(bq k (p:=⟨ao,S*3,Z⟩) T).trans a3;have bF:=(bq k (p:=⟨ao,S*3+1,Z⟩) T).trans a4;have bH:=(bq k (p:=⟨ao,S*3+2,Z⟩) T).trans a5;have ae:=ap (aY.o.trans (k.mono V));have L:U wr.heap<(wr.alloc (ax #[n9 P,ak l.null,z9 l.n,au l.s,ak i.null,z9 i.n,au i.s] 61)).heap.size:=aF;clear k a7 a8 a9 ba bb bc bd a2 a3 a4 a5 a1 T;generalize wr.alloc (ax #[n9 P,ak l.null,z9 l.n,au l.s,ak i.null,z9 i.n,au i.s] 61)=C at*;generalize U wr.heap=f at*;have bN:(P:Int)<(m:Int):=aa;go_upto_region 6 with fail;have⟨R,W,ab⟩:=M9 C (ak v.null) (z9 v.n) (au v.s) 59;have k:aD C (C.alloc (ax #[ak v.null,z9 v.n,au v.s] 59)):=(bU _ _).alloc (aV _) _;have bo:=(bq k (p:=⟨f,1,Z⟩) L).trans be;have cb:=(bq k (p:=⟨f,2,Z⟩) L).trans bh;have cc:=(bq k (p:=⟨f,3,Z⟩) L).trans bi;have G:=(bq k (p:=⟨f,4,Z⟩) L).trans bj;have Y:=(bq k (p:=⟨f,5,Z⟩) L).trans bk;have ad:=(bq k (p:=⟨f,6,Z⟩) L).trans bl;have n:X (aD o (C.alloc (ax #[ak v.null,z9 v.n,au v.s] 59))):=ae.o.trans (k.mono (by have:=ae.o.size;omega));have s:f<(C.alloc (ax #[ak v.null,z9 v.n,au v.s] 59)).heap.size:=bO;have t:U C.heap<(C.alloc (ax #[ak v.null,z9 v.n,au v.s] 59)).heap.size:=aF;clear k b1 be bh bi bj bk bl bx bD bF bH ae L bN bu bv;generalize C.alloc (ax #[ak v.null,z9 v.n,au v.s] 59)=b2 at*;generalize U C.heap=r at*;cases A:v.null
  .rw[A] at R j e;cases E:l.null
   .rw[E] at bo j;cases O:decide (gp v l<0)
    .rw[O] at j;cases y:i.null
     .rw[y] at G e;cases D:decide (0<gp v i)
      .rw[D] at e;have K:X (∀a (g:a<I b),a<d+1->fP (h b[a].col) b[a]=af):=q.o (by simp[fP,l8,l6, *]);clear p q;clear A E O y D;go_wp2_with (first|(go_at_call 72;refine(j _).mono ?_;clear j;rintro w F ⟨rfl,c⟩;have B:X (aD o F):=n.o.trans (c.mono (by have:=n.o.size;omega));have aw:=(bq c (p:=⟨r,0,Z⟩) t).trans R;have ay:=(bq c (p:=⟨r,1,Z⟩) t).trans W;have aC:=(bq c (p:=⟨r,2,Z⟩) t).trans ab;have aG:=(bq c (p:=⟨f,4,Z⟩) s).trans G;have aH:=(bq c (p:=⟨f,5,Z⟩) s).trans Y;have aJ:=(bq c (p:=⟨f,6,Z⟩) s).trans ad;clear c)|(go_at_call 72;refine(e _).mono ?_;clear e;rintro w M ⟨rfl,x⟩;have H:X (aD o M):=B.o.trans (x.mono (by have:=B.o.size;omega));clear x))
       go_roundw
       case rel=>exact⟨d+1,by omega,by go_num,K.o,H.o⟩
       case measure=>simp[bw];omega
      rw[D] at e;have J:X (¬∀a (g:a<I b),fP (h b[a].col) b[a]=af):=p.o (by simp[fP,l8,l6, *]);clear p q;clear A E O y D;go_wp2_with (first|(go_at_call 72;refine(j _).mono ?_;clear j;rintro w F ⟨rfl,c⟩;have B:X (aD o F):=n.o.trans (c.mono (by have:=n.o.size;omega));have aw:=(bq c (p:=⟨r,0,Z⟩) t).trans R;have ay:=(bq c (p:=⟨r,1,Z⟩) t).trans W;have aC:=(bq c (p:=⟨r,2,Z⟩) t).trans ab;have aG:=(bq c (p:=⟨f,4,Z⟩) s).trans G;have aH:=(bq c (p:=⟨f,5,Z⟩) s).trans Y;have aJ:=(bq c (p:=⟨f,6,Z⟩) s).trans ad;clear c)|(go_at_call 72;refine(e _).mono ?_;clear e;rintro w M ⟨rfl,x⟩;have H:X (aD o M):=B.o.trans (x.mono (by have:=B.o.size;omega));clear x));go_ret;exact⟨ai,rfl,by simp only[fA,false_iff];exact J.o,H.o⟩
     .rw[y] at G;have K:X (∀a (g:a<I b),a<d+1->fP (h b[a].col) b[a]=af):=q.o (by simp[fP,l8,l6, *]);clear p q;clear A E O y e;go_wp2_with (go_at_call 72;refine(j _).mono ?_;clear j;rintro w F ⟨rfl,c⟩;have B:X (aD o F):=n.o.trans (c.mono (by have:=n.o.size;omega));have aw:=(bq c (p:=⟨r,0,Z⟩) t).trans R;have ay:=(bq c (p:=⟨r,1,Z⟩) t).trans W;have aC:=(bq c (p:=⟨r,2,Z⟩) t).trans ab;have aG:=(bq c (p:=⟨f,4,Z⟩) s).trans G;have aH:=(bq c (p:=⟨f,5,Z⟩) s).trans Y;have aJ:=(bq c (p:=⟨f,6,Z⟩) s).trans ad;clear c)
      go_roundw
      case rel=>exact⟨d+1,by omega,by go_num,K.o,B.o⟩
      case measure=>simp[bw];omega
    rw[O] at j;have J:X (¬∀a (g:a<I b),fP (h b[a].col) b[a]=af):=p.o (by simp[fP,l8,l6, *]);clear p q;clear A E O e;go_wp2_with (go_at_call 72;refine(j _).mono ?_;clear j;rintro w F ⟨rfl,c⟩;have B:X (aD o F):=n.o.trans (c.mono (by have:=n.o.size;omega));have aw:=(bq c (p:=⟨r,0,Z⟩) t).trans R;have ay:=(bq c (p:=⟨r,1,Z⟩) t).trans W;have aC:=(bq c (p:=⟨r,2,Z⟩) t).trans ab;have aG:=(bq c (p:=⟨f,4,Z⟩) s).trans G;have aH:=(bq c (p:=⟨f,5,Z⟩) s).trans Y;have aJ:=(bq c (p:=⟨f,6,Z⟩) s).trans ad;clear c);go_ret;exact⟨ai,rfl,by simp only[fA,false_iff];exact J.o,B.o⟩
   .rw[E] at bo;cases y:i.null
    .rw[y] at G e;cases D:decide (0<gp v i)
     .rw[D] at e;have K:X (∀a (g:a<I b),a<d+1->fP (h b[a].col) b[a]=af):=q.o (by simp[fP,l8,l6, *]);clear p q;clear A E y D j;go_wp2_with (go_at_call 72;refine(e _).mono ?_;clear e;rintro w M ⟨rfl,x⟩;have H:X (aD o M):=n.o.trans (x.mono (by have:=n.o.size;omega));clear x)
      go_roundw
      case rel=>exact⟨d+1,by omega,by go_num,K.o,H.o⟩
      case measure=>simp[bw];omega
     rw[D] at e;have J:X (¬∀a (g:a<I b),fP (h b[a].col) b[a]=af):=p.o (by simp[fP,l8,l6, *]);clear p q;clear A E y D j;go_wp2_with (go_at_call 72;refine(e _).mono ?_;clear e;rintro w M ⟨rfl,x⟩;have H:X (aD o M):=n.o.trans (x.mono (by have:=n.o.size;omega));clear x);go_ret;exact⟨ai,rfl,by simp only[fA,false_iff];exact J.o,H.o⟩
    .rw[y] at G;have K:X (∀a (g:a<I b),a<d+1->fP (h b[a].col) b[a]=af):=q.o (by simp[fP,l8,l6, *]);clear p q;clear A E y j e;go_wp2
     go_roundw
     case rel=>exact⟨d+1,by omega,by go_num,K.o,n.o⟩
     case measure=>simp[bw];omega
  rw[A] at R;have J:X (¬∀a (g:a<I b),fP (h b[a].col) b[a]=af):=p.o (by simp[fP,l8,l6, *]);clear p q;clear A j e;go_wp2;go_ret;exact⟨ai,rfl,by simp only[fA,false_iff];exact J.o,n.o⟩
 .have bs:X (∀a (g:a<I b),fP (h b[a].col) b[a]=af):=λa g=>a6 a g aa;have b7:¬(d:Int)<(I b:Int):=by omega
  clear N aj al;go_wp2;go_ret;exact an ⟨rfl,bs.o,aY.o⟩
structure AA(cs:List bF)(i:Nat)(p:e8):Prop where
 n:p.size<=65536
 b:p7 (aX cs i ⟨⟨#[]⟩,0⟩).kind p.bV
 t:p.text=⟨#[]⟩
structure uR(cs:List bF)(b:c9):Prop where
 lo:1<=b.rows
 hi:b.rows<=100
 len:I b.parts=I cs
 each:nY (AA cs) b.parts
def eS (b:List c9):Nat:=(b.map λa=>a.rows).sum
def LD{b:List c9}{a:c9}:eS (b++[a])=eS b+a.rows:=by simp[eS]
structure oa(l:List (bF×Int))(rs:List c9):Prop where
 pl:kV l
 eV:∀b∈rs,uR (l.map bp) b
 rows:eS rs<=2000
def p5 (a:fc):e8:=⟨bf a.text,a.bV,⟨#[]⟩⟩
def k9 (a:Bd):c9:=⟨a.rows,a.chunks.map p5⟩
def Ab(a:List Bd):eS (a.map k9)=gK a:=by simp[eS,gK,k9,List.map_map,Function.comp_def]
def VJ{b:List bF}{a:List fc}(c:n<I a):vj b (a.map p5) n=x9 b a n:=by
 unfold vj x9;have d:aX (a.map p5) n uj=p5 a[n]:=by rw[ep,dH (cM c)];simp
 have e:aX a n ⟨⟨#[]⟩,hY⟩=a[n]:=by rw[ep,dH c];rfl
 rw[d,e];rfl
def WY{b:List bF}{a:Bd}:ur b (k9 a)=jZ b a:=by
 unfold ur jZ;show bc a.rows++mg b (a.chunks.map p5) (I (a.chunks.map p5))=_;rw[ee];congr 1;exact Jj (λd c=>VJ (n6.1 c))
def Cb{b:List (bF×Int)}{a:List Bd}:kZ b (a.map k9)=hO b a:=by
 unfold kZ hO;rw[ee];congr 2;unfold gU oe;rw[List.flatMap_map];exact Jj (λc _=>WY)
def eC (b:List e8):Nat:=(b.map λa=>a.size).sum
def tot (b:List c9):Nat:=(b.map λa=>eC a.parts).sum
def R_9{a:List fc}:eC (a.map p5)=I (fy a):=by
 induction a with
 |nil=>rfl
 |cons b c d=>
  have:fy (b::c)=bytesOf b.text++fy c:=by simp[fy]
  rw[this,cN,cJ,<-d];simp[eC,p5]
def aab{a:List Bd}:tot (a.map k9)=I (fi a):=by
 induction a with
 |nil=>rfl
 |cons b c d=>
  have:fi (b::c)=fy b.chunks++fi c:=by simp[fi]
  rw[this,cN,<-d,<-R_9];simp[tot,k9]
def W_{b:List fc}{c:fc}(a:c∈b):bf c.text<=I (fy b):=by
 induction b with
 |nil=>simp at a
 |cons d e f=>
  have:fy (d::e)=bytesOf d.text++fy e:=by simp[fy]
  rw[this,cN,cJ];rcases fT.1 a with rfl|a;omega;have:=f a;omega
def O7{b:List Bd}{c:Bd}(a:c∈b):I (fy c.chunks)<=I (fi b):=by
 induction b with
 |nil=>simp at a
 |cons d e f=>
  have:fi (d::e)=fy d.chunks++fi e:=by simp[fi]
  rw[this,cN];rcases fT.1 a with rfl|a;omega;have:=f a;omega
def Ls{h:List (bF×Int)}{d:List Bd}(e:jy h d)(o:I (fi d)<=65536):oa h (d.map k9):=by
 refine⟨e.pl,λl j=>?_,by rw[Ab];exact e.rows⟩;obtain⟨a,f,rfl⟩:=kA.1 j;have c:=e.eV a f;refine⟨c.lo,c.hi,by show I (a.chunks.map p5)=_;rw[ee];exact c.len,?_⟩;intro b k;have g:b<I a.chunks:=by have:b<I (a.chunks.map p5):=k;simpa using this
 have i:(k9 a).parts[b]=p5 a.chunks[b]:=by simp[k9]
 rw[i];refine⟨?_,(c.each b g).b,rfl⟩;show a.chunks[b].text.size<=65536;have m:=W_ (c8 g);have n:=O7 f;omega
def oP (b:ByteArray):Nat->List e8->List fc
 |_,[]=>[]
 |t,a::c=>⟨e9 b t (t+a.size),a.bV⟩::oP b (t+a.size) c
def kE (b:ByteArray):Nat->List c9->List Bd
 |_,[]=>[]
 |t,a::c=>⟨a.rows,oP b t a.parts⟩::kE b (t+eC a.parts) c
theorem Je{d:ByteArray}:∀(b:List e8) (a:Nat),a+eC b<=d.size->(∀p∈b,p.text=⟨#[]⟩)->(oP d a b).map p5=b
 | [],_,_,_=>rfl
 |p::c,a,m,g=>by
  have h:eC (p::c)=p.size+eC c:=by simp[eC]
  rw[oP,tV,Je c (a+p.size) aa (λj i=>g j (by simp[i]))];have f:=g p aF;have⟨e,k,l⟩:=p;simp only at f;subst f;simp only[p5];rw[show(e9 d a (a+e)).size=e by rw[tM];simp at h;omega]
theorem EM{z:ByteArray}:∀(c:List c9) (a:Nat),a+tot c<=bf z->(∀b∈c,∀g∈b.parts,g.text=⟨#[]⟩)->(kE z a c).map k9=c
 | [],_,_,_=>rfl
 |b::d,a,i,e=>by
  have j:tot (b::d)=eC b.parts+tot d:=by simp[tot]
  rw[kE,tV,EM d (a+eC b.parts) aa (λh f=>e h (by simp[f]))];unfold k9;simp only;rw[Je b.parts a aa (e b aF)]
def M4:(l.drop n).take (m+k)=(l.drop n).take m++(l.drop (n+m)).take k:=by
 rw[List.take_add,List.drop_drop]
theorem M5{c:ByteArray}:∀(e:List e8) (a:Nat),fy (oP c a e)=((bytesOf c).drop a).take (eC e)
 | [],_=>by simp[oP,fy,eC]
 |p::b,a=>by
  have f:eC (p::b)=p.size+eC b:=by simp[eC]
  have g:∀(d:fc) (m:List fc),fy (d::m)=bytesOf d.text++fy m:=by simp[fy]
  rw[oP,g,M5 b,f,M4];show bytesOf (e9 c a (a+p.size))++_=_;rw[m9,show a+p.size-a=p.size by omega]
theorem Ef{z:ByteArray}:∀(e:List c9) (a:Nat),fi (kE z a e)=((bytesOf z).drop a).take (tot e)
 | [],_=>by simp[kE,fi,tot]
 |b::c,a=>by
  have f:tot (b::c)=eC b.parts+tot c:=by simp[tot]
  have g:∀(d:Bd) (m:List Bd),fi (d::m)=fy d.chunks++fi m:=by simp[fi]
  rw[kE,g,Ef c,f,M4];show fy (oP z a b.parts)++_=_;rw[M5]
def Jm{i:List (bF×Int)}{g:List Bd}(d:oa i (g.map k9)):jy i g:=by
 refine⟨d.pl,λa k=>?_,by have:=d.rows;rwa [Ab] at this⟩;have b:=d.eV (k9 a) (kA.2 ⟨a,k,rfl⟩);have f:I a.chunks=(k9 a).parts.length:=by simp[k9]
 refine⟨b.lo,b.hi,b5 f b.len,λc h=>?_⟩;have e:=b.each c (by rw[<-f];exact h);have j:(k9 a).parts[c]'(by rw[<-f];exact h)=p5 a.chunks[c]:=by simp[k9]
 rw[j] at e;exact⟨by have l:a.chunks[c].text.size<=65536:=e.n;omega,e.b⟩
structure ze(F0:List Nat)(l:List (bF×Int))(rs:List c9):Prop where
 ok:oa l rs
 eq:F0=kZ l rs
 mj:∀l' rs',oa l' rs'->F0=kZ l' rs'->l'=l/\rs'=rs
def I9{s e f:ByteArray}{h:List (bF×Int)}{d:List c9}(l:Cut s (bytesOf e) (bytesOf f))(m:ze (bytesOf f) h d){c:List (bF×Int)}{b:List Bd}(a:kT s c b):c=h/\b.map k9=d/\tot d=bf e:=by
 have⟨j,k⟩:=l.mj a.2;have n:=a.2.len;have o:=a.2.1;have⟨i,g⟩:=m.mj c (b.map k9) (Ls a.1 aa) (by rw[Cb];exact k);refine⟨i,g,?_⟩;rw[<-g,aab,<-j,cJ]
def Sr{s a g:ByteArray}{e:List (bF×Int)}{b:List c9}(h:Cut s (bytesOf a) (bytesOf g))(c:ze (bytesOf g) e b)(q:tot b=bf a):n3 s (e.map bp) (eS b) 0:=by
 have f:=Ef (z:=a) b 0;have d:=EM (z:=a) b 0 aa (λk f v p=>by
  obtain⟨r,n,rfl⟩:=m6 p;exact((c.ok.eV k f).each r n).t)
 have m:fi (kE a 0 b)=bytesOf a:=by
  rw[f,s5,q,<-cJ a,iZ]
 have o:oa e ((kE a 0 b).map k9):=b5 d c.ok;refine aq ⟨e,kE a 0 b,⟨Jm o,?_⟩,rfl,?_,rfl,λu t l=>?_⟩;rw[m,<-Cb,d,<-c.eq];exact h;rw[<-Ab,d];obtain⟨i,j,-⟩:=I9 h c l;exact⟨i,by rw[<-Ab,j,<-Ab,d]⟩
def Jb{s a b:ByteArray}{h:List (bF×Int)}{c:List c9}(e:Cut s (bytesOf a) (bytesOf b))(f:ze (bytesOf b) h c)(g:tot c≠bf a):n3 s [] 0 3:=
 an ⟨λj i d=>g (I9 e f d).2.2,rfl,rfl,rfl⟩
def Sq{s e b:ByteArray}(h:Cut s (bytesOf e) (bytesOf b))(i:∀c d,oa c d->bytesOf b≠kZ c d):n3 s [] 0 3:=by
 refine an ⟨λj f a=>?_,rfl,rfl,rfl⟩;have⟨k,g⟩:=h.mj a.2;have l:=a.2.len;have m:=a.2.1;exact i j (f.map k9) (Ls a.1 aa) (by rw[Cb];exact g)
def AO{s:ByteArray}(d:∀a b,¬Cut s a b):n3 s [] 0 3:=an ⟨λf e c=>d _ _ c.2,rfl,rfl,rfl⟩
def rb (s:ByteArray)(b:Nat)(a:Bool):cj:=ax #[au s,n9 b,ak a] 157 (0,0)
def nT{s:ByteArray}(a:w.heap[n]? =K (rb s m qV)):
 aA w ⟨n,0,Z⟩=K (au s)/\aA w ⟨n,1,Z⟩=K (bt bM (m:Int))/\aA w ⟨n,2,Z⟩=K (ak qV)/\cU w ⟨n,0,Z⟩=ai/\cU w ⟨n,1,Z⟩=ai/\cU w ⟨n,2,Z⟩=ai:=by
 unfold rb at a;refine⟨?_,?_,?_,?_,?_,?_⟩<;>first|simp[aA,a]|simp[cU,a]
def WW{s:ByteArray}(a:w.heap[n]? =K (rb s m qV)):(cT (bg w ⟨n,1,Z⟩ (n9 q)) k).heap[n]? =K (rb s q qV):=by
 show(bg w ⟨n,1,Z⟩ (n9 q)).heap[n]? =_;unfold rb at*;rw[eE w n 1 _ _ _ a];rfl
def Le{s:ByteArray}(a:w.heap[n]? =K (rb s m qV)):(cT (bg w ⟨n,2,Z⟩ (ak af)) k).heap[n]? =K (rb s m af):=by
 show(bg w ⟨n,2,Z⟩ (ak af)).heap[n]? =_;unfold rb at*;rw[eE w n 2 _ _ _ a];rfl
def wH{s:ByteArray}(a:w.heap[n]? =K (rb s m qV)):(bg w ⟨n,2,Z⟩ (ak af)).heap[n]? =K (rb s m af):=by
 unfold rb at*;rw[eE w n 2 _ _ _ a];rfl
def Ae:bg (cT w m) R v=cT (bg w R v) m:=by unfold bg;rfl
def _root_.Go.Proofs.YtjidbonhhpkljaaGreat.Pk.Kp.tF(a:Kp n w u):Kp n w (bg u ⟨n,m,Z⟩ v):=a.set m v 0
def Dc(c b:Nat)(a:Int)(g:Bool)(s:ByteArray)(e:ag)(k:bf s<=aS)(u: -9223372036854775808<=a)(v:a<=9223372036854775807)(w:b<=bf s)(r:a<0\/(bf s:Int)-(b:Int)<a)(d:e.heap[c]? =K (rb s b g)):
 bn 100 #[(aZ c),z9 a] e λh f=>Kp c e f/\h=aR (au ⟨#[]⟩)/\f.heap[c]? =K (rb s b af):=by
 have⟨l,m,n,o,p,q⟩:=nT d;unfold aS at k
 skip
 by_cases i:a<0
 .have j:decide (a<0)=af:=by simpa using i
  go_enter aE.func100,Tryz.ntmps100;go_wp2_with fail;go_quiet (fail);go_wp2;go_ret;exact⟨by rw[Ae];exact(Kp.refl _ _).set _ _ _,rfl,by rw[Ae];exact Le d⟩
 .have t:decide (a<0)=ai:=by simp;omega
  have j:decide ((bf s:Int)-(b:Int)<a)=af:=bO;go_enter aE.func100,Tryz.ntmps100;go_wp2_with fail;go_quiet (fail);go_wp2;go_ret;exact⟨by rw[Ae];exact(Kp.refl _ _).set _ _ _,rfl,by rw[Ae];exact Le d⟩
def Dd(c a b:Nat)(e:Bool)(s:ByteArray)(d:ag)(i:bf s<=aS)(t:a+b<=bf s)(f:d.heap[c]? =K (rb s a e)):
 bn 100 #[(aZ c),n9 b] d λh g=>Kp c d g/\h=aR (au (e9 s a (a+b)))/\g.heap[c]? =K (rb s (a+b) e):=by
 have⟨j,k,l,n,o,p⟩:=nT f;unfold aS at i
 skip
 have r:decide ((b:Int)<0)=ai:=aF;have q:decide ((bf s:Int)-(a:Int)<(b:Int))=ai:=bO;have u:(a:Int)+(b:Int)<=(bf s:Int):=aa;have v:(a:Int)<=(a:Int)+(b:Int):=aa;go_enter aE.func100,Tryz.ntmps100;go_wp2_with fail;go_quiet (fail);generalize nq=m at*;go_wp2_with fail;go_quiet (fail);go_wp2;go_ret;refine⟨?_,rfl,?_⟩;rw[Ae];exact(Kp.refl _ _).set _ _ _
 .rw[Ae];exact WW (q:=a+b) f
def W3{s:ByteArray}(h:bf s<=aS)(i:m<bf s)(c:w.heap[n]? =K (rb s m qV)):
 bn 101 #[(aZ n)] w λb a=>Kp n w a/\b=aR (n9 (s[m].toNat))/\a.heap[n]? =K (rb s (m+1) qV):=by
 have e:X (∀w,w.heap[n]? =K (rb s m qV)->bn 100 #[(aZ n),z9 1] w λb a=>Kp n w a/\b=aR (au ⟨#[s[m]]⟩)/\a.heap[n]? =K (rb s (m+1) qV)):=λw c=>by
  have:=Dd n m 1 qV s w h aa c;rwa [I5 i] at this
 skip
 have j:dr (s[m].toNat:Int)=(s[m].toNat:Int):=by have:=s[m].toNat_lt;unfold dr;omega
 generalize s[m]=d at*;go_enter aE.func101,Tryz.ntmps101;go_wp2_with fail;refine bL (e.o _ c) ?_;rintro b l ⟨f,rfl,g⟩
 skip
 have k:(jI ⟨#[d]⟩==([]:List UInt8))=ai:=by
  rw[uF];rfl
 go_wp2;go_ret;exact⟨f,by show aR (bt bM (dr (d.toNat:Int)))=_;rw[j],g⟩
def W2{s:ByteArray}(f:bf s<=aS)(g:m<=bf s)(h:¬m<bf s)(c:w.heap[n]? =K (rb s m qV)):
 bn 101 #[(aZ n)] w λa b=>Kp n w b/\a=aR (z9 0)/\b.heap[n]? =K (rb s m af):=by
 skip
 go_enter aE.func101,Tryz.ntmps101;go_wp2_with fail;refine bL (Dc n m 1 qV s _ f aa aa g (an aa) c) ?_;rintro a i ⟨d,rfl,e⟩
 skip
 go_wp2;go_ret;exact⟨d,rfl,e⟩
def CU(d a:Nat)(g:Bool)(s:ByteArray)(m:bf s<=aS)(n:a<=bf s)(b:w.heap[d]? =K (rb s a g)):
 bn 101 #[(aZ d)] w λi e=>Kp d w e/\∃(h l:Nat) (f:Bool),i=aR (n9 h)/\h<256/\l<=bf s/\e.heap[d]? =K (rb s l f)/\(a<bf s->(bytesOf s)[a]? =K h/\l=a+1/\f=g)/\(¬a<bf s->f=af):=by
 by_cases c:a<bf s
 .refine bL (W3 m c b) ?_;rintro i e ⟨j,rfl,k⟩;exact⟨j,s[a].toNat,a+1,g,rfl,s[a].toNat_lt,aa,k,λ_=>⟨by rw[dH (by rw[cJ];exact c),BV s c],rfl,rfl⟩,λb=>absurd c b⟩
 .refine bL (W2 m n c b) ?_;rintro i e ⟨j,rfl,k⟩;exact⟨j,0,a,af,rfl,aa,n,k,λb=>absurd b c,λ_=>rfl⟩
def OA(c b a:Nat):∃d:Nat,lV.wrap ((c:Int)+lV.wrap ((b:Int)*(a:Int)))=(d:Int)/\d<18446744073709551616/\(c+b*a<18446744073709551616->d=c+b*a):=by
 refine⟨(c+b*a)%18446744073709551616,?_,Nat.mod_lt _ aa,λe=>s7 e⟩;rw[wrap_u64,wrap_u64];have:(b:Int)*(a:Int)=((b*a:Nat):Int):=by push_cast;rfl
 rw[this];omega
def Gz(n k:Nat)(l:Bool)(s:ByteArray)(az:bf s<=aS)(aD:k<=bf s)(e:w.heap[n]? =K (rb s k l)):
 bn 108 #[(aZ n)] w λL Z=>Kp n w Z/\∃(v c:Nat) (g:Bool),L=aR (bt .u64 (v:Int))/\v<18446744073709551616/\c<=bf s/\Z.heap[n]? =K (rb s c g)/\
  (∀b,b<18446744073709551616->aQ (bytesOf s) k (bc b)->v=b/\c=k+I (bc b)/\g=l)/\(l=af->g=af):=by
 have ab:=ap e;go_enter aE.func108,Tryz.ntmps108;go_wp2_with fail
 go_loopw [3,4,5] (λaI aJ E wr=>∃(a o f c:Nat) (g:Bool),a<=10/\E=n9 a/\aI=bt .u64 (o:Int)/\o<18446744073709551616/\aJ=bt .u64 (f:Int)/\f<18446744073709551616/\(a<=9->f=128^a)/\c<=bf s/\wr.heap[n]? =K (rb s c g)/\Kp n w wr/\(l=af->g=af)/\
  ((∃b,b<18446744073709551616/\aQ (bytesOf s) k (bc b))->lI (bytesOf s) k a o/\c=k+a/\g=l)) (λ_ _ E _=>10-bS (bw E))
 exact⟨0,0,1,k,l,aa,rfl,rfl,aa,rfl,aa,λ_=>aF,aD,ab.o,Kp.refl _ _,id,λ_=>⟨lI.zero _ _,rfl,rfl⟩⟩;obtain⟨a,o,f,c,g,a6,rfl,rfl,a5,rfl,a4,A,U,z,P,aG,y⟩:=hrel
 skip
 skip
 by_cases a8:a<10
 .go_wp2_with fail;refine bL (CU n c g s az U z) ?_;rintro L a9 ⟨aj,d,Y,x,rfl,ar,W,Q,C,aC⟩;have F:=ap (P.trans aj);have H:X (l=af->x=af):=λe=>by
   rcases ij c (bf s) with m|m;rw[(C m).2.2];exact aG e;exact aC aa
  have⟨J,B,R,S⟩:=OA o (d%128) f
  skip
  rw[show((d%128:Nat):Int)=(d:Int)%128 from aa] at B;obtain⟨V,al,am,ao⟩:∃V:Nat,lV.wrap ((f:Int)*128)=(V:Int)/\V<18446744073709551616/\(f*128<18446744073709551616->V=f*128):=
   ⟨f*128%18446744073709551616,by rw[wrap_u64];omega,Nat.mod_lt _ aa,λe=>s7 e⟩
  skip
  by_cases aw:128<=d;go_wp2_with fail;refine⟨⟨a+1,J,V,Y,x,aa,by go_num,by first|rfl|rw[B],R,by first|rfl|rw[al],am,?_,W,Q,F.o,H.o,?_⟩,by simp[bw];omega⟩;intro a3;have m:=A aa;have N:(128:Nat)^(a+1)<=128^9:=n7 aa aa;have ae:(128:Nat)^9=9223372036854775808:=ay;rw[rC] at N ⊢;rw[ao (jG m),m];intro T;have⟨j,r,t⟩:=y T;have⟨b,i,h⟩:=T;have D:c<bf s:=by
   rcases ij c (bf s) with e|e;exact e;exact absurd h (j.none aa (by rw[cJ];omega) b i)
  have⟨q,aH,G⟩:=C D;rw[r] at q;have u:=j.more aa q aw ar;have a7:a<=8:=by
   rcases ij a 9 with e|e;omega;have:a+1=10:=aa;rw[this] at u;exact absurd h (u.G5 b i)
  have m:=A aa;have N:=u.lt;have ae:(128:Nat)^(a+1)<=128^9:=n7 aa aa;have p:d%128*f=128^a*(d-128):=by rw[m,uP,show d%128=d-128 by omega]
  rw[S (jG p),p];exact⟨u,aa,by rw[G,t]⟩;go_wp2_with fail;go_ret;refine⟨F.o,J,Y,x,by first|rfl|rw[<-B];rfl,R,W,Q,?_,H.o⟩;intro b i h;have⟨j,r,t⟩:=y ⟨b,i,h⟩;have D:c<bf s:=by
   rcases ij c (bf s) with e|e;exact e;exact absurd h (j.none aa (by rw[cJ];omega) b i)
  have⟨q,aH,G⟩:=C D;rw[r] at q;have⟨M,ad⟩:=(j.fin aa q aa b i).1 h;have p:d%128*f=128^a*d:=by rw[(A aa),uP,show d%128=d by omega]
  have O:=j.Jf (c:=d) aa aa ad;rw[<-M] at O;exact⟨by rw[S (jG p),p,M],jG O,by rw[G,t]⟩
 obtain rfl:a=10:=aa;have⟨aL,aM,aY,a0,a1,a2⟩:=nT z;go_wp2;go_ret;refine⟨P.tF,0,c,af,rfl,aa,U,wH z,?_,λ_=>rfl⟩;intro b i h;have⟨j,r,t⟩:=y ⟨b,i,h⟩;exact absurd h (j.G5 b i)
def YG(c a:Nat)(f:Bool)(s:ByteArray)(g:ag)(q:bf s<=aS)(r:a<=bf s)(j:g.heap[c]? =K (rb s a f)):
 bn 108 #[(aZ c)] g λi h=>Kp c g h/\∃(v b:Nat) (d:Bool),i=aR (bt .u64 (v:Int))/\v<18446744073709551616/\b<=bf s/\h.heap[c]? =K (rb s b d)/\
  (∀e,e<18446744073709551616->aQ (bytesOf s) a (bc e)->v=e/\b=a+I (bc e)/\d=f):=
 bL (Gz c a f s q r j) (by
  rintro i h ⟨k,v,b,d,l,m,n,o,p,-⟩;exact⟨k,v,b,d,l,m,n,o,p⟩)
def yo(f e a:Nat)(g:Bool)(s:ByteArray)(F:a<=100000)(u:bf s<=aS)(x:e<=bf s)(r:w.heap[f]? =K (rb s e g)):
 bn 99 #[(aZ f),n9 a] w λj p=>Kp f w p/\∃(v c:Nat) (d:Bool),j=aR (n9 v)/\v<=a/\c<=bf s/\p.heap[f]? =K (rb s c d)/\
  (∀b,b<=a->aQ (bytesOf s) e (bc b)->v=b/\c=e+I (bc b)/\d=g)/\(g=af->d=af):=by
 skip
 go_enter aE.func99,Tryz.ntmps99;go_wp2_with fail;refine bL (Gz f e g s u x r) ?_;rintro j M ⟨k,v,c,d,rfl,J,n,l,o,y⟩
 skip
 have i:=ap l;have⟨B,C,D,E,G,H⟩:=nT l;have L:lV.wrap (a:Int)=(a:Int):=by rw[wrap_u64];omega
 by_cases m:a<v;have t:decide ((a:Int)<(v:Int))=af:=bO;have q:=ap m;go_wp2;go_ret;refine⟨k.tF,0,c,af,rfl,aa,n,wH i.o,?_,λ_=>rfl⟩;intro b A h;have:=(o b aa h).1;have:=q.o;omega;have t:decide ((a:Int)<(v:Int))=ai:=bO;have z:dr (v:Int)=(v:Int):=by unfold dr;omega
 skip
 go_wp2;go_ret;exact⟨k,v,c,d,by first|rfl|(rw[<-z];rfl),cB m,n,i.o,λb A h=>o b aa h,y⟩
def Lr(d b a:Nat)(g:Bool)(s:ByteArray)(q:a<=100000)(r:bf s<=aS)(t:b<=bf s)(j:w.heap[d]? =K (rb s b g)):
 bn 99 #[(aZ d),n9 a] w λi h=>Kp d w h/\∃(v c:Nat) (e:Bool),i=aR (n9 v)/\v<=a/\c<=bf s/\h.heap[d]? =K (rb s c e)/\
  (∀f,f<=a->aQ (bytesOf s) b (bc f)->v=f/\c=b+I (bc f)/\e=g):=
 bL (yo d b a g s q r t j) (by
  rintro i h ⟨k,v,c,e,l,m,n,o,p,-⟩;exact⟨k,v,c,e,l,m,n,o,p⟩)
def No(a:Nat)(f:ag)(d:a<18446744073709551616):bn 109 #[bt .u64 (a:Int)] f λg k=>k=f/\g=aR (bt bM (uz a)):=by
 have l:=ap d;have i:dr ((a:Int)/2)=(a:Int)/2:=by unfold dr;omega
 have n:lV.wrap ((a:Int)/2)=(a:Int)/2:=by rw[wrap_u64];omega
 by_cases b:a%2=1
 .have h:((a:Int)%2==1)=af:=by simp;omega
  have m:dr (-((a:Int)/2))= -((a:Int)/2):=by unfold dr;omega
  have j:dr (-((a:Int)/2)-1)= -((a:Int)/2)-1:=by unfold dr;omega
  have c:X (uz a= -((a:Int)/2)-1):=by show _=_;unfold uz;rw[if_pos b];omega
  clear d b;go_enter aE.func109,Tryz.ntmps109;go_wp2;go_ret;exact⟨rfl,by rw[c.o];exact congrArg (λe=>aR (bt bM e)) j⟩
 .have h:((a:Int)%2==1)=ai:=by simp;omega
  have c:X (uz a=(a:Int)/2):=by show _=_;unfold uz;rw[if_neg b];omega
  clear d b;go_enter aE.func109,Tryz.ntmps109;go_wp2;go_ret;exact⟨rfl,by rw[c.o];exact congrArg (λe=>aR (bt bM e)) i⟩
structure VR(v:az):Prop where
 there:v.null=ai
 BD:BL v
 sz:bf v.s<=32
def zf (s:ByteArray)(d:Nat)(e:ag)(c:Nat->Bool->Prop):Prop:=∃a b,a<=bf s/\e.heap[d]? =K (rb s a b)/\c a b
def Gp(u:Int)(a7:u=1\/u=2\/u=3)(b e:Nat)(m:Bool)(s:ByteArray)(F:s.size<=aS)(P:e<=s.size)(o:w.heap[b]? =K (rb s e m)):
 bn 104 #[(aZ b),z9 u] w λg l=>Kp b w l/\∃v:az,g=aR (cw (dF v))/\VR v/\
  zf s b l (λd f=>(∀a,VK u a->aQ (bytesOf s) e (cZ u a)->v=a/\d=e+I (cZ u a)/\f=m)/\(m=af->f=af)):=by
 have bd:=bC o;have R:X ((w.alloc (ax #[ak ai,z9 0,au ⟨#[]⟩] 59)).heap[b]? =K (rb s e m)):=by
  show _=_;rw[e6 _ _ b bd];exact o
 have Q:X (Kp b w (w.alloc (ax #[ak ai,z9 0,au ⟨#[]⟩] 59))):=(Kp.refl b w).alloc _;rcases a7 with rfl|rfl|rfl
 .go_enter aE.func104,Tryz.ntmps104;go_wp2_with fail;refine bL (Gz b e m s F P R.o) ?_;rintro g n ⟨p,c,d,f,rfl,ab,t,z,ae,ad⟩;have T:=ap ad;have E:=ap (Q.o.trans p);have k:bD n (U w.heap) #[ak ai,z9 0,au ⟨#[]⟩] 59:=Kp.block p (kQ w _) aa;have⟨ao,ar,aw,aC,aD,aF⟩:=rG k;have D:=ap k;have S:=ap z;have a0:=ap ab;have a3:=ap ae;have a4:X (∀w,bn 109 #[bt .u64 (c:Int)] w λg l=>l=w/\g=aR (z9 (uz c))):=λw=>No c w ab;go_wp2_with (go_at_call 109;refine bL (a4.o _) ?_;rintro g l ⟨bj,rfl⟩;rw[bj]);have⟨G,H,J,L,M⟩:=zn (ak ai) (z9 (uz c)) (au ⟨#[]⟩) D.o b aa E.o (aV _);simp[jM,dx,Tryz.results104,go_sem,G,H,J];have aJ:=Ns c a0.o;refine⟨M,⟨ai,uz c,⟨#[]⟩⟩,⟨rfl,rfl,rfl⟩,⟨rfl,⟨aJ.1,aJ.2⟩,by show(⟨#[]⟩:ByteArray).size<=32;decide⟩,d,f,t,by rw[L];exact S.o,?_,T.o⟩;intro a h B;have⟨O,r,V⟩:=a3.o (zz a.n) (vA h.lo h.hi) B;refine⟨?_,r,V⟩;have i:=h.there;have j:=h.s1 Y;rw[O,Am];cases a;simp at i j;simp[i,j]
 .go_enter aE.func104,Tryz.ntmps104;go_wp2_with fail;refine bL (CU b e m s F P R.o) ?_;rintro g n ⟨p,N,d,f,rfl,aH,t,z,A,a9⟩;have E:=ap (Q.o.trans p);have k:bD n (U w.heap) #[ak ai,z9 0,au ⟨#[]⟩] 59:=Kp.block p (kQ w _) aa;have⟨ao,ar,aw,aC,aD,aF⟩:=rG k;have D:=ap k;have S:=ap z;have aM:=ap A;have aL:=ap aH;have T:X (m=af->f=af):=λo=>by
   rcases ij e s.size with i|i;rw[(A i).2.2];exact o;exact a9 aa
  go_wp2;have⟨G,H,J,L,M⟩:=zn (ak ai) (n9 N) (au ⟨#[]⟩) D.o b aa E.o (aV _);simp[jM,dx,Tryz.results104,go_sem,G,H,J];have aH:=aL.o;refine⟨M,⟨ai,(N:Int),⟨#[]⟩⟩,⟨rfl,rfl,rfl⟩,⟨rfl,⟨by show _<=(N:Int);omega,by show(N:Int)<=_;omega⟩,by show(⟨#[]⟩:ByteArray).size<=32;decide⟩,d,f,t,by rw[L];exact S.o,?_,T.o⟩;intro a h B;have ba:e<s.size:=by
   have:=oX B (by rw[cJ];exact P);rw[cJ] at this;have j:I (cZ 2 a)=1:=rfl;omega
  have⟨aj,al,am⟩:=aM.o ba;have q:aQ (bytesOf s) e [byteOf a.n]:=B;rw[mW,aj,xF (h.s2 Y).1] at q;simp at q;have i:=h.there;have j:=(h.s2 Y).2;have a5:=(h.s2 Y).1;refine⟨?_,al,am⟩;cases a;simp at i j a5 q;simp[i,j];omega
 .go_enter aE.func104,Tryz.ntmps104;go_wp2_with fail;refine bL (yo b e 32 m s (by omega) F P R.o) ?_;rintro g n ⟨p,c,d,f,rfl,ab,t,z,ae,ad⟩
  skip
  have E:=ap (Q.o.trans p);have k:bD n (U w.heap) #[ak ai,z9 0,au ⟨#[]⟩] 59:=Kp.block p (kQ w _) aa;have D:=ap k;have a2:X (bn 100 #[(aZ b),n9 c] n λg l=>Kp b n l/\∃(x:ByteArray) (C:Nat) (y:Bool),g=aR (au x)/\x.size<=32/\C<=s.size/\l.heap[b]? =K (rb s C y)/\(d+c<=s.size->x=e9 s d (d+c)/\C=d+c/\y=f)/\(f=af->y=af)):=by
   by_cases A:d+c<=s.size;refine bL (Dd b d c f s n F A z) ?_;rintro g l ⟨W,rfl,Z⟩;exact⟨W,_,d+c,f,rfl,by rw[tM];omega,A,Z,λ_=>⟨rfl,rfl,rfl⟩,id⟩;refine bL (Dc b d (c:Int) f s n F aa aa t (an aa) z) ?_;rintro g l ⟨W,rfl,Z⟩;exact⟨W,_,d,af,rfl,ay,t,Z,λo=>absurd o A,λ_=>rfl⟩
  go_wp2_with fail;refine bL a2.o ?_;rintro g bk ⟨aG,x,C,y,rfl,bh,bb,a6,a8,be⟩;have a1:X (m=af->y=af):=λo=>be (ad o);have aY:=ap (E.o.trans aG);have k:=Kp.block aG D.o aa;have⟨ao,ar,aw,aC,aD,aF⟩:=rG k;go_wp2;have⟨G,H,J,L,M⟩:=zn (ak ai) (z9 0) (au x) k b aa aY.o (aV _);simp[jM,dx,Tryz.results104,go_sem,G,H,J];refine⟨M,⟨ai,0,x⟩,⟨rfl,rfl,rfl⟩,⟨rfl,⟨by show _<=(0:Int);omega,by show(0:Int)<=_;omega⟩,bh⟩,C,y,bb,by rw[L];exact a6,?_,a1.o⟩;intro a h B;have i:=h.there;have j:=h.s3 Y;have q:aQ (bytesOf s) e (bc a.s.size++bytesOf a.s):=B;rw[dn] at q;have⟨O,r,V⟩:=ae a.s.size j.2 q.1;have aI:=oX q.2 (by rw[cJ,<-r];exact t);rw[cJ,cJ,<-r,<-O] at aI;have⟨aj,al,am⟩:=a8 aI;have bi:x=a.s:=by
   apply xG;rw[aj,m9,show d+c-d=c by omega,r];refine ux (B:=bytesOf s) (p:=e+I (bc a.s.size)) (List.take_prefix _ _) q.2 ?_;rw[m7,uN,cJ,cJ,<-r];omega
  refine⟨?_,?_,by rw[am,V]⟩;rw[bi];cases a;simp at i j;simp[i,j.1];show C=e+I (bc a.s.size++bytesOf a.s);rw[cN,cJ,al,r,O,gF]
def Lt(a:Int)(r:a=1\/a=2\/a=3)(c b:Nat)(f:Bool)(s:ByteArray)(h:ag)(t:bf s<=aS)(u:b<=bf s)(k:h.heap[c]? =K (rb s b f)):
 bn 104 #[(aZ c),z9 a] h λj i=>Kp c h i/\∃v:az,j=aR (cw (dF v))/\VR v/\
  zf s c i (λg e=>∀d,VK a d->aQ (bytesOf s) b (cZ a d)->v=d/\g=b+I (cZ a d)/\e=f):=
 bL (Gp a r c b f s t u k) (by
  rintro j i ⟨l,v,m,n,g,e,o,p,q,-⟩;exact⟨l,v,m,n,g,e,o,p,q⟩)
def X9(d b a:Nat)(c:Bool)(s:ByteArray){w:ag}(v:a<=100000)(t:bf s<=aS)(l:b<=bf s)(q:w.heap[d]? =K (rb s b c)):
 bn 100 #[(aZ d),n9 a] w λi f=>Kp d w f/\∃(p:ByteArray) (o:Nat) (h:Bool),i=aR (au p)/\bf p<=a/\o<=bf s/\f.heap[d]? =K (rb s o h)/\
  (∀e:ByteArray,bf e=a->aQ (bytesOf s) b (bytesOf e)->p=e/\o=b+a/\h=c)/\(c=af->h=af):=by
 by_cases r:b+a<=bf s;refine bL (Dd d b a c s w t r q) ?_;rintro i f ⟨j,rfl,k⟩;refine⟨j,_,b+a,c,rfl,by rw[tM];omega,r,k,λe u m=>⟨?_,rfl,rfl⟩,id⟩;apply xG;rw[m9,show b+a-b=a by omega];refine ux (B:=bytesOf s) (p:=b) (List.take_prefix _ _) m ?_;rw[m7,uN,cJ,cJ];omega;refine bL (Dc d b (a:Int) c s w t (by omega) (by omega) l (an (by omega)) q) ?_;rintro i f ⟨j,rfl,k⟩;refine⟨j,_,b,af,rfl,by show bf (⟨#[]⟩:ByteArray)<=a;exact cE _,l,k,λe u m=>?_,λ_=>rfl⟩;have:=oX m (by rw[cJ];exact l);rw[cJ,cJ] at this;omega
def F4(e a:Nat)(f:Bool)(s:ByteArray)(w:ag)(z:bf s<=aS)(m:a<=bf s)(p:w.heap[e]? =K (rb s a f)):
 bn 101 #[(aZ e)] w λk i=>Kp e w i/\∃(c d:Nat) (b:Bool),k=aR (n9 c)/\c<256/\d<=bf s/\i.heap[e]? =K (rb s d b)/\(∀j,aQ (bytesOf s) a [j]->c=j/\d=a+1/\b=f)/\(f=af->b=af):=by
 refine bL (CU e a f s z m p) ?_;rintro k i ⟨t,c,d,b,rfl,x,C,u,l,A⟩;refine⟨t,c,d,b,rfl,x,C,u,λj o=>?_,λv=>?_⟩;have y:a<bf s:=by
  have:=oX o (by rw[cJ];exact m);rw[cJ] at this;simp at this;omega
 have⟨h,q,r⟩:=l y;have:=(mW.1 o).symm.trans h;simp at this;exact⟨bA this,q,r⟩;rcases ij a (bf s) with h|h;rw[(l h).2.2];exact v;exact A aa
def wM{B a Y:List Nat}(b:B.drop m=a++Y):aQ B m a:=⟨Y,bA b⟩
def wL{B a b:List Nat}(c:B.drop q=a++b):B.drop (q+I a)=b:=by
 rw[<-List.drop_drop,c,List.drop_left]
def mR (cs:List bF):Nat->List e8->List Nat
 |_,[]=>[]
 |i,a::b=>(bc a.size++gw (aX cs i ⟨⟨#[]⟩,0⟩).kind a.bV)++mR cs (i+1) b
theorem KJ(cs:List bF):∀(c:List e8) (a:Nat) (b:e8),mR cs a (c++[b])=mR cs a c++(bc b.size++gw (aX cs (a+I c) ⟨⟨#[]⟩,0⟩).kind b.bV)
 | [],a,b=>by simp[mR]
 |x::d,a,b=>by
  rw[r9,mR,KJ cs d (a+1) b,mR,pI,show a+1+I d=a+(I d+1) by omega];simp only[iD]
def VM{cs:List bF}{a:List e8}:∀n,n<=I a->mg cs a n=mR cs 0 (a.take n):=by
 intro n
 induction n with
 |zero=>intro _;simp[mg,mR]
 |succ n c=>
  intro d;rw[KH,c (by omega),gh (by omega),KJ];congr 1;unfold vj;have b:aX a n uj=a[n]:=by rw[ep,dH (by omega)];rfl
  rw[b];simp[m7,xp (show n<=I a by omega)]
def Lf{cs:List bF}{a:c9}:ur cs a=bc a.rows++mR cs 0 a.parts:=by
 unfold ur;rw[VM _ (aV _),iZ]
theorem KI{cs:List bF}:∀(d:List e8) (c:Nat),∀b∈mR cs c d,b<256
 | [],_,b,a=>by simp[mR] at a
 |p::e,c,b,a=>by
  rw[mR] at a;rcases eG.1 a with a|a;rcases eG.1 a with a|a;exact uA b a;unfold gw at a
  split at a
  rcases eG.1 a with a|a;simp at a;omega;rcases eG.1 a with a|a;exact FK b a;exact FK b a;simp at a;omega;exact KI e (c+1) b a
def SG{c:List (bF×Int)}{d:List c9}:∀b∈kZ c d,b<256:=by
 intro b a;unfold kZ kG at a;rcases eG.1 a with a|a;rcases eG.1 a with a|a;exact uA b a;unfold iI at a;obtain⟨f,-,a⟩:=y5.1 a;unfold lP at a;rcases eG.1 a with a|a;exact uA b a;rcases eG.1 a with a|a;exact xH _ b a;simp at a;rcases a with rfl|rfl<;>exact Ei;rcases eG.1 a with a|a;exact uA b a;unfold gU at a;obtain⟨e,-,a⟩:=y5.1 a;rw[Lf] at a;rcases eG.1 a with a|a;exact uA b a;exact KI _ _ b a
def Hf (s:ByteArray)(a:List (bF×Int))(b:List c9):Prop:=oa a b/\bytesOf s=kZ a b
structure PF(w W:ag)(cv ev bv:F)(rn:Nat)(cs:List bF)(es:List Int)(L:List (c9×F)):Prop where
 file:W.heap[U w.heap+1]? =K (ax #[cv,ev,bv,n9 rn] 113 (0,0))
 aj:aT W (U w.heap+1) 63 2 cv (I cs) (kX cs)
 gx:aT W (U w.heap+1) 3 1 ev (I es) (cW es)
 own:aT W (U w.heap+1) 122 2 bv (I L) (L.flatMap ir)
 each:∀p∈L,aT W (U w.heap+1) 128 9 p.2 (I p.1.parts) (p.1.parts.flatMap eN)
 fW:L.Pairwise λp q=>∀g,bB p.2=K g->bB q.2≠K g
 j9:aD w W
section
variable {w W J:ag}{cv ev bv:F}{rn:Nat}{cs:List bF}{es:List Int}{L:List (c9×F)}
def PF.kp(a:PF w W cv ev bv rn cs es L)(b:Kp (U w.heap) W J):PF w J cv ev bv rn cs es L:=
 ⟨Kp.block b a.file aa,b.own a.aj aa,b.own a.gx aa,b.own a.own aa,λd c=>b.own (a.each d c) aa,a.fW,fJ a.j9 (b.below a.j9.size)⟩
def PF.below(a:PF w W cv ev bv rn cs es L)(b:aD W J):PF w J cv ev bv rn cs es L:=a.kp (Kp.iT b)
def PF.cells(c:PF w W cv ev bv rn cs es L):(aA W ⟨U w.heap+1,0,Z⟩=K cv/\aA W ⟨U w.heap+1,1,Z⟩=K ev/\aA W ⟨U w.heap+1,2,Z⟩=K bv/\aA W ⟨U w.heap+1,3,Z⟩=K (n9 rn))/\∀b,cU W ⟨U w.heap+1,b,Z⟩=ai:=by
 have a:=c.file;exact⟨⟨by simp[aA,a],by simp[aA,a],by simp[aA,a],by simp[aA,a]⟩,λb=>by simp[cU,a]⟩
def PF.abZ(a:PF w W cv ev bv rn cs es L){c:List bF}(d:aT W (U w.heap+1) 63 2 v (I c) (kX c)):PF w (bg W ⟨U w.heap+1,0,Z⟩ v) v ev bv rn c es L:=by
 have b:=a.file;exact⟨eE W (U w.heap+1) 0 _ _ v b,fK d (eJ W _ 0 v) (an (ew d b ay).symm),fK a.gx (eJ W _ 0 v) (an (ew a.gx b ay).symm),fK a.own (eJ W _ 0 v) (an (ew a.own b ay).symm),λf e=>fK (a.each f e) (eJ W _ 0 v) (an (ew (a.each f e) b ay).symm),a.fW,zm a.j9 a.j9.size aa⟩
def PF.KN(a:PF w W cv ev bv rn cs es L):PF w (bg W ⟨U w.heap+1,3,Z⟩ (n9 m)) cv ev bv m cs es L:=by
 have b:=a.file;exact⟨eE W (U w.heap+1) 3 _ _ _ b,fK a.aj (eJ W _ 3 _) (an (ew a.aj b ay).symm),fK a.gx (eJ W _ 3 _) (an (ew a.gx b ay).symm),fK a.own (eJ W _ 3 _) (an (ew a.own b ay).symm),λd c=>fK (a.each d c) (eJ W _ 3 _) (an (ew (a.each d c) b ay).symm),a.fW,zm a.j9 a.j9.size aa⟩
def PF.S0(a:PF w W cv ev bv rn cs es L)(b:dA W J cv v){f:List bF}(l:aT J (U w.heap+1) 63 2 v (I f) (kX f)):PF w (bg J ⟨U w.heap+1,0,Z⟩ v) v ev bv rn f es L:=by
 have c:=(b.dR.block _ (bC a.file) (ew a.aj a.file ay)).trans a.file;have k:=a.j9.trans (b.below (λg b=>Nat.le_of_succ_le (a.aj.lt g b).1) a.j9.size);have h:=ju a.gx b (l7 a.gx a.aj ay);have i:=ju a.own b (l7 a.own a.aj ay);have j:=λe d=>ju (a.each e d) b (l7 (a.each e d) a.aj ay);exact⟨eE J (U w.heap+1) 0 _ _ v c,fK l (eJ J _ 0 v) (an (ew l c ay).symm),fK h (eJ J _ 0 v) (an (ew h c ay).symm),fK i (eJ J _ 0 v) (an (ew i c ay).symm),λe d=>fK (j e d) (eJ J _ 0 v) (an (ew (j e d) c ay).symm),a.fW,zm k k.size aa⟩
def PF.S1(a:PF w W cv ev bv rn cs es L)(b:dA W J ev v)(k:aT J (U w.heap+1) 3 1 v (I qY) (cW qY)):PF w (bg J ⟨U w.heap+1,1,Z⟩ v) cv v bv rn cs qY L:=by
 have c:=(b.dR.block _ (bC a.file) (ew a.gx a.file ay)).trans a.file;have j:=a.j9.trans (b.below (λg b=>Nat.le_of_succ_le (a.gx.lt g b).1) a.j9.size);have f:=ju a.aj b (l7 a.aj a.gx ay);have h:=ju a.own b (l7 a.own a.gx ay);have i:=λe d=>ju (a.each e d) b (l7 (a.each e d) a.gx ay);exact⟨eE J (U w.heap+1) 1 _ _ v c,fK f (eJ J _ 1 v) (an (ew f c ay).symm),fK k (eJ J _ 1 v) (an (ew k c ay).symm),fK h (eJ J _ 1 v) (an (ew h c ay).symm),λe d=>fK (i e d) (eJ J _ 1 v) (an (ew (i e d) c ay).symm),a.fW,zm j j.size aa⟩
def PF.Jv(a:PF w W cv ev bv rn cs es L)(c:dA W J bv v){d:c9}(s:aT W (U w.heap+1) 128 9 x (I d.parts) (d.parts.flatMap eN))(r:∀h∈L,∀g,bB h.2=K g->bB x≠K g)
 (m:aT J (U w.heap+1) 122 2 v (I (L++[(d,x)])) ((L++[(d,x)]).flatMap ir)):PF w (bg J ⟨U w.heap+1,2,Z⟩ v) cv ev v rn cs es (L++[(d,x)]):=by
 have e:=(c.dR.block _ (bC a.file) (ew a.own a.file ay)).trans a.file;have l:=a.j9.trans (c.below (λg c=>Nat.le_of_succ_le (a.own.lt g c).1) a.j9.size);have j:=ju a.aj c (l7 a.aj a.own ay);have k:=ju a.gx c (l7 a.gx a.own ay);have p:∀{i:F} {n:Nat} {q:List F},aT W (U w.heap+1) 128 9 i n q->aT (bg J ⟨U w.heap+1,2,Z⟩ v) (U w.heap+1) 128 9 i n q:=λf=>by
  have o:=ju f c (l7 f a.own ay);exact fK o (eJ J _ 2 v) (an (ew o e ay).symm)
 refine⟨eE J (U w.heap+1) 2 _ _ v e,fK j (eJ J _ 2 v) (an (ew j e ay).symm),fK k (eJ J _ 2 v) (an (ew k e ay).symm),fK m (eJ J _ 2 v) (an (ew m e ay).symm),λh b=>?_,?_,zm l l.size aa⟩;rcases eG.1 b with b|b;exact p (a.each h b);simp at b;subst b;exact p s;rw[List.pairwise_append];refine⟨a.fW,List.pairwise_singleton _ _,λh b i f=>?_⟩;simp at f;subst f;exact r h b
def PF.Cl(b:PF w W cv ev bv rn cs es L){h n:Nat}(f:aT W (U w.heap+1) Qc h v n S)(e:113≠Qc)(d:dA W J v x):(aA J ⟨U w.heap+1,0,Z⟩=K cv/\aA J ⟨U w.heap+1,1,Z⟩=K ev/\aA J ⟨U w.heap+1,2,Z⟩=K bv/\aA J ⟨U w.heap+1,3,Z⟩=K (n9 rn))/\∀c,cU J ⟨U w.heap+1,c,Z⟩=ai:=by
 have a:=aB (d.dR.block _ (bC b.file) (ew f b.file e)) b.file;exact⟨⟨by simp[aA,a],by simp[aA,a],by simp[aA,a],by simp[aA,a]⟩,λc=>by simp[cU,a]⟩
def PF.reader{e n d:Nat}(a:W.heap[U w.heap]? =K Qk)(c:aT W (U w.heap+1) Qc e v n S)(b:dA W J v x):(bg J ⟨U w.heap+1,d,Z⟩ y).heap[U w.heap]? =K Qk:=by
 rw[ef _ _ _ _ aF,b.dR.block _ (bC a) (λQc=>cB ((c.lt _ (bA Qc)).1))];exact a
end
structure PB(w B W:ag)(g n:Nat)(pv:F)(ps:List e8):Prop where
 box:W.heap[g]? =K (ax #[n9 n,pv] 122 (0,0))
 own:aT W (U B.heap) 128 9 pv (I ps) (ps.flatMap eN)
 iu:U B.heap<=g
 kp:Kp (U w.heap) B W
section
variable {w B W J:ag}{g n:Nat}{pv:F}{ps:List e8}
def PB.step(a:PB w B W g n pv ps)(c:U w.heap<U B.heap)(b:Kp (U w.heap) W J):PB w B J g n pv ps:=
 ⟨Kp.block b a.box (cB a.iu),b.own a.own c,a.iu,a.kp.trans b⟩
def PB.below(a:PB w B W g n pv ps)(b:U w.heap<U B.heap)(c:aD W J):PB w B J g n pv ps:=a.step b (Kp.iT c)
def PB.cells(b:PB w B W g n pv ps):aA W ⟨g,0,Z⟩=K (bt bM (n:Int))/\aA W ⟨g,1,Z⟩=K pv/\cU W ⟨g,1,Z⟩=ai:=by
 have a:=b.box;exact⟨by simp[aA,a],by simp[aA,a],by simp[cU,a]⟩
def PB.put(a:PB w B W g n pv ps)(e:bB pv≠K m)(h:m≠g)(d:U B.heap<=m)(b:Nat)(v:F):PB w B (bg W ⟨m,b,Z⟩ v) g n pv ps:=
 ⟨by rw[ef _ _ _ _ bO];exact a.box,fK a.own (eJ W m b v) (an e),a.iu,a.kp.grown (eJ W m b v) (λf c=>by cases c;exact d)⟩
def PB.kept(a:PB w B W g n pv ps)(c:dA W J pv v):aA J ⟨g,1,Z⟩=K pv/\cU J ⟨g,1,Z⟩=ai:=by
 have b:=aB (c.dR.block _ (bC a.box) (ew a.own a.box (by decide))) a.box;exact⟨by simp[aA,b],by simp[cU,b]⟩
def PB.oQ(a:PB w B W g n pv ps){b:List e8}(e:dA W J pv v)(f:aT J (U B.heap) 128 9 v (I b) (b.flatMap eN)):PB w B (bg J ⟨g,1,Z⟩ v) g n v b:=by
 have d:=aB (e.dR.block _ (bC a.box) (ew a.own a.box ay)) a.box;exact⟨eE J g 1 _ _ v d,fK f (eJ J g 1 v) (an (ew f d ay).symm),a.iu,(a.kp.grown e.dR (λc i=>(a.own.lt c i).1)).grown (eJ J g 1 v) (λc h=>by cases h;exact a.iu)⟩
def PB.reader(a:PB w B W g n pv ps)(e:U w.heap<U B.heap)(d:dA W J pv v)(b:W.heap[U w.heap]? =K Qk):(bg J ⟨g,1,Z⟩ v).heap[U w.heap]? =K Qk:=by
 have:=a.iu;rw[ef _ _ _ _ bO,d.dR.block _ (bC b) (λc=>cB ((a.own.lt _ (bA c)).1))];exact b
end
structure RB(s:ByteArray)(k:Int)(q0:Nat)(b0:Bool)(x:ia)(q:Nat)(b:Bool):Prop where
 le:q<=bf s
 ok:b=ai->b0=ai/\p7 k x
 mj:∀y,p7 k y->aQ (bytesOf s) q0 (gw k y)->x=y/\q=q0+I (gw k y)/\b=b0
def PF.kind{w W:ag}{b:List bF}{c:List (c9×F)}(h:PF w W (aI k m i) v y j b qY c)(a:Nat)(e:a<I b):aJ W k (a*2+1) (z9 b[a].kind):=by
 obtain⟨g,d,-,-,f⟩:=Ex h.aj aa;cases d;have:=f.c1 a e;simpa using this
structure PP(w B W:ag)(g n:Nat)(pv:F)(ps:List e8)(h sz:Nat)(x:ia):Prop where
 pb:PB w B W g n pv ps
 iy:W.heap[h]? =K (ax (cX (eN ⟨sz,x,⟨#[]⟩⟩)) 128 (0,0))
 ne:bB pv≠K h
 hg:h≠g
 iu:U B.heap<=h
section
variable {w B W J:ag}{g n:Nat}{pv:F}{ps:List e8}{h sz:Nat}{x:ia}
def PP.step(a:PP w B W g n pv ps h sz x)(c:U w.heap<U B.heap)(b:Kp (U w.heap) W J):PP w B J g n pv ps h sz x:=
 ⟨a.pb.step c b,Kp.block b a.iy (cB a.iu),a.ne,a.hg,a.iu⟩
def PP.below(c:PP w B W g n pv ps h sz x)(a:U w.heap<U B.heap)(b:aD W J):PP w B J g n pv ps h sz x:=c.step a (Kp.iT b)
def PP.cells(c:PP w B W g n pv ps h sz x):(aA W ⟨h,0,Z⟩=K (bt bM (sz:Int))/\aA W ⟨h,1,Z⟩=K (ak x.there)/\aA W ⟨h,2,Z⟩=K (ak x.least.null)/\aA W ⟨h,3,Z⟩=K (bt bM x.least.n)/\aA W ⟨h,4,Z⟩=K (au x.least.s)/\aA W ⟨h,5,Z⟩=K (ak x.most.null)/\aA W ⟨h,6,Z⟩=K (bt bM x.most.n)/\aA W ⟨h,7,Z⟩=K (au x.most.s)/\aA W ⟨h,8,Z⟩=K (au ⟨#[]⟩))/\∀b,cU W ⟨h,b,Z⟩=ai:=by
 have a:=c.iy;unfold eN at a;exact⟨⟨by simp[aA,a],by simp[aA,a],by simp[aA,a],by simp[aA,a],by simp[aA,a],by simp[aA,a],by simp[aA,a],by simp[aA,a],by simp[aA,a]⟩,λb=>by simp[cU,a]⟩
def PP.VN(a:PP w B W g n pv ps h sz ⟨ai,x.least,x.most⟩):PP w B (bg W ⟨h,1,Z⟩ (ak af)) g n pv ps h sz ⟨af,x.least,x.most⟩:=
 ⟨a.pb.put a.ne a.hg a.iu _ _,eE W h 1 _ _ (ak af) a.iy,a.ne,a.hg,a.iu⟩
def PP.VQ(a:PP w B W g n pv ps h sz x)(v:az):PP w B (bg (bg (bg W ⟨h,2,Z⟩ (ak v.null)) ⟨h,3,Z⟩ (z9 v.n)) ⟨h,4,Z⟩ (au v.s)) g n pv ps h sz ⟨x.there,v,x.most⟩:=by
 exact⟨((a.pb.put a.ne a.hg a.iu _ _).put a.ne a.hg a.iu _ _).put a.ne a.hg a.iu _ _,eE _ h 4 _ _ (au v.s) (eE _ h 3 _ _ (z9 v.n) (eE W h 2 _ _ (ak v.null) a.iy)),a.ne,a.hg,a.iu⟩
def PP.VS(a:PP w B W g n pv ps h sz x)(v:az):PP w B (bg (bg (bg W ⟨h,5,Z⟩ (ak v.null)) ⟨h,6,Z⟩ (z9 v.n)) ⟨h,7,Z⟩ (au v.s)) g n pv ps h sz ⟨x.there,x.least,v⟩:=by
 exact⟨((a.pb.put a.ne a.hg a.iu _ _).put a.ne a.hg a.iu _ _).put a.ne a.hg a.iu _ _,eE _ h 7 _ _ (au v.s) (eE _ h 6 _ _ (z9 v.n) (eE W h 5 _ _ (ak v.null) a.iy)),a.ne,a.hg,a.iu⟩
def PP.Lg(b:PP w B W g n pv ps h sz x)(c:U w.heap<U B.heap)(a:W.heap[U w.heap]? =K Qk):(bg (bg (bg W ⟨h,m,Z⟩ y) ⟨h,k,Z⟩ v) ⟨h,i,Z⟩ z).heap[U w.heap]? =K Qk:=by
 have:=b.iu;rw[ef _ _ _ _ bO,ef _ _ _ _ bO,ef _ _ _ _ bO];exact a
def PP.W5(b:PP w B W g n pv ps h sz x)(c:U w.heap<U B.heap)(a:W.heap[U w.heap]? =K Qk):(bg W ⟨h,m,Z⟩ v).heap[U w.heap]? =K Qk:=by
 have:=b.iu;rw[ef _ _ _ _ bO];exact a
end
def RB.zero{s:ByteArray}(f:k<=bf s)(c:∀x,aQ (bytesOf s) m [x]->i=x/\k=m+1/\qW=qV)(j:qV=af->qW=af)(p:i=0):RB s M m qV hY k qW:=by
 refine⟨f,λb=>⟨?_,aq Y⟩,λq o a=>?_⟩;cases qV;rfl;rw[j Y] at b;exact b;rcases o with rfl|⟨l,-⟩;obtain⟨-,d,e⟩:=c 0 a;exact⟨rfl,d,e⟩;unfold gw at a;rw[if_pos l] at a;have:=(c 1 (dn.1 a).1).1;omega
def RB.many{s:ByteArray}(d:k<=bf s)(b:∀x,aQ (bytesOf s) m [x]->i=x/\k=m+1/\qW=qV)(j:1<i):RB s M m qV hY k af:=by
 refine⟨d,λc=>(cV c),λl f a=>?_⟩;rcases f with rfl|⟨e,-⟩;have:=(b 0 a).1;omega;unfold gw at a;rw[if_pos e] at a;have:=(b 1 (dn.1 a).1).1;omega
def RB.one{s:ByteArray}(p:M=1\/M=2\/M=3){f l o t C:Bool}{b c:az}(U:j<=bf s)(F:∀x,aQ (bytesOf s) m [x]->a=x/\k=m+1/\l=f)(Z:f=af->l=af)(am:a=1)
 (G:VR b) (ab:∀x,VK M x->aQ (bytesOf s) k (cZ M x)->b=x/\i=k+I (cZ M x)/\o=l) (V:l=af->o=af)
 (H:VR c) (ad:∀x,VK M x->aQ (bytesOf s) i (cZ M x)->c=x/\j=i+I (cZ M x)/\t=o) (X:o=af->t=af)
 (K:C=if gT b M=af/\gT c M=af/\¬gp c b<0 then t else af):RB s M m f ⟨af,b,c⟩ j C:=by
 refine⟨U,λd=>?_,λA ae q=>?_⟩;rw[K] at d
 split at d
 rename_i y;refine⟨?_,an ⟨rfl,Ho p G.there G.BD y.1,Ho p H.there H.BD y.2.1,?_⟩⟩;cases f;rfl;rw[X (V (Z Y))] at d;exact d;have:=Hj b c;have:=y.2.2;show ¬ 0<gp b c;omega;cases d;rcases ae with rfl|⟨z,D,E,al⟩;have:=(F 0 q).1;omega;unfold gw at q ⊢;rw[if_pos z] at q ⊢;have⟨L,N⟩:=dn.1 q;have⟨r,e⟩:=dn.1 N;obtain⟨-,O,P⟩:=F 1 L;simp only[rB] at r e;rw[<-O] at r e;have⟨u,Q,R⟩:=ab _ D r;rw[<-Q] at e;have⟨v,aj,S⟩:=ad _ E e;refine⟨?_,?_,?_⟩;have⟨aw,ap,ar⟩:=A;simp only at z u v;rw[z,u,v];simp only[cN,rB];omega;have T:=AX p D;have ao:=Hj A.least A.most;rw[K,u,v,if_pos ⟨T,(AX p E),aa⟩,S,R,P]
def RB.part{s:ByteArray}{cs:List bF}{i d r t sz:Nat}{x:ia}(D:sz<=65536)(E:∀a,a<=65536->aQ (bytesOf s) d (bc a)->sz=a/\r=d+I (bc a)/\qW=qV)(C:qV=af->qW=af)(h:RB s (aX cs i ⟨⟨#[]⟩,0⟩).kind r qW x t qX):
 (qX=ai->qV=ai/\AA cs i ⟨sz,x,⟨#[]⟩⟩)/\(∀(a:e8) (b:List Nat),AA cs i a->(bytesOf s).drop d=(bc a.size++gw (aX cs i ⟨⟨#[]⟩,0⟩).kind a.bV)++b->(⟨sz,x,⟨#[]⟩⟩:e8)=a/\qX=qV/\(bytesOf s).drop t=b):=by
 refine⟨λA=>?_,λa b c l=>?_⟩;have⟨k,z⟩:=h.ok A;refine⟨?_,D,z,rfl⟩;cases qV;rfl;rw[C Y] at k;exact k;have o:=dn.1 (wM l);have⟨e,f,u⟩:=E _ c.n o.1;have p:=o.2;rw[<-f] at p;have⟨j,v,y⟩:=h.mj _ c.b p;have m:=wL l;refine⟨?_,by rw[y,u],?_⟩;have q:=c.t;have⟨H,G,L⟩:=a;simp only at e j q;rw[e,j,q];rw[cN,<-gF,<-f,<-v] at m;exact m
def Cg{w a:ag}(h:dA w.drew a v y):dA w a v y:=⟨⟨h.dR.os,h.dR.tape,h.dR.output,h.dR.size,h.dR.block⟩,h.at_⟩
def NC(h:m<=200000)(a:k<=100):bM.wrap ((m:Int)+(k:Int))=(m:Int)+(k:Int):=by rw[kw];omega
def toList_inj(h:jI s=jI A):s=A:=by
 rw[uF,uF] at h;apply Au;apply Array.ext';exact h
def W1{c:List bF}(q:∀a (h:a<I c),c[a].kind=1\/c[a].kind=2\/c[a].kind=3){j:c9}(h:uR c j):xy (I c) j:=by
 have d:∀b∈j.parts,jb b.bV.least/\jb b.bV.most/\b.size<=65536:=λb f=>by
  obtain⟨a,l,rfl⟩:=m6 f;have k:=h.each a l;have m:a<I c:=by rw[<-h.len];exact l
  have r:=q a m;have i:=k.b;rw[show aX c a ⟨⟨#[]⟩,0⟩=c[a] by rw[ep,dH m];rfl] at i;have o:∀v,VK c[a].kind v->jb v:=λv d=>⟨d.lo,d.hi,by
   rcases r with e|e|e;rw[d.s1 e];decide;rw[(d.s2 e).2];decide;exact(d.s3 e).2⟩
  rcases i with i|⟨-,e,p,-⟩;rw[i];exact⟨Nw,Nw,k.n⟩;exact⟨o _ e,o _ p,k.n⟩
 exact⟨cB h.hi,h.len,λb f=>cB ((d b f).2.2),λb f=>(d b f).1,λb f=>(d b f).2.1⟩
def sL (s:ByteArray)(a:Nat):Nat:=aX (bytesOf s) a 0+256*aX (bytesOf s) (a+1) 0+65536*aX (bytesOf s) (a+2) 0+16777216*aX (bytesOf s) (a+3) 0
def SE(c:n+4<=I l):(l.drop n).take 4=[aX l n 0,aX l (n+1) 0,aX l (n+2) 0,aX l (n+3) 0]:=by
 apply List.ext_getElem;simp;omega;intro a d b;simp at b;have:a=0\/a=1\/a=2\/a=3:=by omega
 rcases this with rfl|rfl|rfl|rfl;simp[dH (show n<I l by omega)];simp[dH (show n+1<I l by omega)];simp[dH (show n+2<I l by omega)];simp[dH (show n+3<I l by omega)]
def MW(s:ByteArray)(a:Nat)(j:a+4<=bf s):((bytesOf s).drop a).take 4=iS (sL s a):=by
 rw[SE (by rw[cJ];exact j)];have k:=rI s a;have l:=rI s (a+1);have m:=rI s (a+2);have n:=rI s (a+3);unfold sL iS;generalize aX (bytesOf s) a 0=b at*;generalize aX (bytesOf s) (a+1) 0=c at*;generalize aX (bytesOf s) (a+2) 0=d at*;generalize aX (bytesOf s) (a+3) 0=e at*;have f:(b+256*c+65536*d+16777216*e)%256=b:=aa;have g:(b+256*c+65536*d+16777216*e)/256%256=c:=aa;have h:(b+256*c+65536*d+16777216*e)/65536%256=d:=aa;have i:(b+256*c+65536*d+16777216*e)/16777216%256=e:=aa;rw[f,g,h,i]
def TY(b:n<4294967296)(c:m<4294967296)(a:iS n=iS m):n=m:=by
 unfold iS at a;simp at a;omega
def MX(s:ByteArray)(a:Nat):sL s a<4294967296:=by
 have b:=rI s a;have c:=rI s (a+1);have d:=rI s (a+2);have e:=rI s (a+3);unfold sL;omega
def EC(a:List Nat)(b c:Nat):a.drop b=(a.drop b).take c++a.drop (b+c):=by
 rw[<-List.drop_drop];exact bA (vO _ _)
def Cut.marks{s:ByteArray}(a:Cut s l L):(∃b,bytesOf s=[83,84,82,65]++b)/\(∃b,bytesOf s=b++[83,84,82,65])/\12<=bf s/\sL s (bf s-8)=I L/\I L<=bf s-12:=by
 have e:=a.len;have d:=a.1;refine⟨⟨_,a.2⟩,⟨nl++(l++(L++iS (I L))),by rw[a.2];simp[nl]⟩,aa,(TY (MX _ _) aa ?_),aa⟩;rw[<-MW s _ aa,a.2];have c:nl++(l++(L++(iS (I L)++nl)))=(nl++(l++L))++(iS (I L)++nl):=aF;rw[c,List.drop_append_of_le_length (by simp[nl];omega),yY (by simp[nl];omega),tW];simp[iS]
def RJ{s:ByteArray}(r:12<=bf s)(l:bf s<=65536)(p:∃b,bytesOf s=[83,84,82,65]++b)(q:∃b,bytesOf s=b++[83,84,82,65])(t:sL s (bf s-8)<=bf s-12):
 Cut s (bytesOf (e9 s 4 (bf s-8-sL s (bf s-8)))) (bytesOf (e9 s (bf s-8-sL s (bf s-8)) (bf s-8))):=by
 have k:=MW s (bf s-8) (by omega);generalize sL s (bf s-8)=a at*;refine⟨l,?_⟩;have o:I (bytesOf (e9 s (bf s-8-a) (bf s-8)))=a:=by rw[cJ,tM];omega
 rw[o,m9,m9,<-k];obtain⟨b,m⟩:=p;obtain⟨h,g⟩:=q;have n:I h=bf s-4:=by
  have:=congrArg I g;rw[cJ] at this;simp at this;omega
 have i:(bytesOf s).drop (bf s-4)=nl:=by rw[g,<-n,List.drop_left];rfl
 have j:(bytesOf s).take 4=nl:=by rw[m];rfl
 have f:=EC (bytesOf s) (bf s-8) 4;rw[show bf s-8+4=bf s-4 by omega,i] at f;have e:=EC (bytesOf s) (bf s-8-a) a;rw[show bf s-8-a+a=bf s-8 by omega,f] at e;have d:=EC (bytesOf s) 4 (bf s-8-a-4);rw[show 4+(bf s-8-a-4)=bf s-8-a by omega,e] at d;have c:=vO 4 (bytesOf s);rw[j,d] at c;rw[show bf s-8-(bf s-8-a)=a by omega];exact bA c
def jg (c:List (c9×F)):List (Nat×List (Nat×ia)):=c.map λa=>(a.1.rows,a.1.parts.map λb=>(b.size,b.bV))
def sR (b:List (c9×F))(d c:Nat)(e:ByteArray):List (c9×F):=
 match b[d]? with
 |some a=>b.set d (⟨a.1.rows,a.1.parts.set c ⟨(aX a.1.parts c uj).size,(aX a.1.parts c uj).bV,e⟩⟩,a.2)
 |none=>b
def Ar{a:List (c9×F)}(c:n<I a)(b:m<a[n].1.parts.length):sR a n m s=a.set n (⟨a[n].1.rows,a[n].1.parts.set m ⟨a[n].1.parts[m].size,a[n].1.parts[m].bV,s⟩⟩,a[n].2):=by
 unfold sR;rw[dH c];simp only;rw[show a[n].1.parts.getD m uj=a[n].1.parts[m] by rw[ep,dH b];rfl]
def Q_9{a:List (c9×F)}(d:n<I a)(c:m<a[n].1.parts.length):jg (sR a n m s)=jg a:=by
 rw[Ar d c];unfold jg;rw[List.map_set];simp only[List.map_set];have f:(a[n].1.parts.map λb=>(b.size,b.bV)).set m (a[n].1.parts[m].size,a[n].1.parts[m].bV)=a[n].1.parts.map λb=>(b.size,b.bV):=by
  have:(a[n].1.parts.map λb=>(b.size,b.bV))[m]'(cM c)=(a[n].1.parts[m].size,a[n].1.parts[m].bV):=aF;rw[<-this,List.set_getElem_self]
 rw[f];have:(a.map λe=>(e.1.rows,e.1.parts.map λb=>(b.size,b.bV)))[n]'(cM d)=(a[n].1.rows,a[n].1.parts.map λb=>(b.size,b.bV)):=aF;rw[<-this,List.set_getElem_self]
def R6{c:List (c9×F)}(a:n<I c)(f:m<c[n].1.parts.length):(sR c n m s).flatMap ir=c.flatMap ir:=by
 rw[Ar a f];have h:∀(b:List (c9×F)) (n:Nat) (a:n<I b) (d:c9×F),ir d=ir b[n]->(b.set n d).flatMap ir=b.flatMap ir:=by
  intro b
  induction b with
  |nil=>intro n a;simp at a
  |cons i j g=>
   intro n a d e;cases n with
   |zero=>rw[ct,lD,lD];rw[show ir d=ir i from e]
   |succ n=>rw[cr,lD,lD,g n (cM a) d (cM e)]
 exact h c n a _ Y
def Nc{a:List c9}(b:n<I a):tot (a.take (n+1))=tot (a.take n)+eC a[n].parts:=by
 rw[gh b];simp only[tot,gY,tV,List.map_nil,List.sum_append,List.sum_cons,List.sum_nil,s6]
def MZ{a:List e8}(b:n<I a):eC (a.take (n+1))=eC (a.take n)+a[n].size:=by
 rw[gh b];simp only[eC,gY,tV,List.map_nil,List.sum_append,List.sum_cons,List.sum_nil,s6]
def R_{ps:List e8}(a:Nat):eC (ps.take a)<=eC ps:=by
 have:eC ps=eC (ps.take a)+eC (ps.drop a):=by
  conv=>lhs;rw[<-vO a ps]
  simp only[eC,gY,List.sum_append]
 omega
def aaa{rs:List c9}(a:Nat):tot (rs.take a)<=tot rs:=by
 have:tot rs=tot (rs.take a)+tot (rs.drop a):=by
  conv=>lhs;rw[<-vO a rs]
  simp only[tot,gY,List.sum_append]
 omega
def Nb{rs:List c9}{k i:Nat}(d:k<I rs)(c:i<rs[k].parts.length):tot (rs.take k)+eC (rs[k].parts.take i)+rs[k].parts[i].size<=tot rs:=by
 have a:=aaa (rs:=rs) (k+1);rw[Nc d] at a;have b:=R_ (ps:=rs[k].parts) (i+1);rw[MZ c] at b;omega
def Dr{a b:List (c9×F)}(c:jg a=jg b):I a=I b:=by
 have:=congrArg I c;simpa [jg] using this
def G3{a b:List (c9×F)}(e:jg a=jg b)(f:n<I a)(g:n<I b):a[n].1.rows=b[n].1.rows/\(a[n].1.parts.map λc=>(c.size,c.bV))=b[n].1.parts.map λc=>(c.size,c.bV):=by
 have d:(jg a)[n]? =(jg b)[n]? :=by rw[e]
 simpa [jg,f,g] using d
def G4{a b:List (c9×F)}(d:jg a=jg b)(e:n<I a)(f:n<I b):(a[n].1.parts.map λc=>c.size)=b[n].1.parts.map λc=>c.size:=by
 simpa [List.map_map,Function.comp_def] using(congrArg (List.map bp) (G3 d e f).2)
def MY{a b:List (c9×F)}(f:jg a=jg b)(g:n<I a)(h:n<I b)(i:m<a[n].1.parts.length)(j:m<b[n].1.parts.length):a[n].1.parts[m].size=b[n].1.parts[m].size:=by
 have d:=G4 f g h;have e:(a[n].1.parts.map λc=>c.size)[m]? =(b[n].1.parts.map λc=>c.size)[m]? :=by rw[d]
 simpa [i,j] using e
def Q_{a b:List (c9×F)}(g:jg a=jg b)(h:n<I a)(i:n<I b)(j:m<a[n].1.parts.length)(k:m<b[n].1.parts.length):a[n].1.parts[m].bV=b[n].1.parts[m].bV:=by
 have d:=(G3 g h i).2;have e:(a[n].1.parts.map λc=>(c.size,c.bV))[m]? =(b[n].1.parts.map λc=>(c.size,c.bV))[m]? :=by rw[d]
 have f:(a[n].1.parts[m].size,a[n].1.parts[m].bV)=(b[n].1.parts[m].size,b[n].1.parts[m].bV):=by simpa [j,k] using e
 exact(Prod.mk.inj f).2
def zU (a:List (c9×F))(b c:Nat):Nat:=4+tot ((a.map bp).take b)+eC ((aX a b (⟨0,[]⟩,aH)).1.parts.take c)
def pK (s:ByteArray)(c N:List (c9×F))(d e:Nat):Prop:=∀a b (f:a<I N) (g:b<N[a].1.parts.length),a<d\/a=d/\b<e->N[a].1.parts[b].text=e9 s (zU c a b) (zU c a b+N[a].1.parts[b].size)
def pK.step{s:ByteArray}{d N:List (c9×F)}(e:pK s d N n m)(h:n<I N)(r:m<N[n].1.parts.length)(j:zU d n m=k)(l:i=k+N[n].1.parts[m].size):pK s d (sR N n m (e9 s k i)) n (m+1):=by
 rw[Ar h r];intro a b o c t;by_cases f:a=n;subst f;simp only[List.getElem_set_self] at c ⊢;by_cases g:b=m;subst g;simp only[List.getElem_set_self];rw[j,l];have q:b<N[a].1.parts.length:=cM c;simp only[List.getElem_set_ne (Ne.symm g)];exact e a b h q (an ⟨rfl,aa⟩);have p:a<I N:=cM o;simp only[List.getElem_set_ne (Ne.symm f)] at c ⊢;exact e a b p c (aq aa)
def pK.next{s:ByteArray}{d N:List (c9×F)}(f:pK s d N n m)(h:∀(j:n<I N),m=N[n].1.parts.length):pK s d N (n+1) 0:=by
 intro a e b c i;by_cases g:a=n;subst g;exact f a e b c (an ⟨rfl,b5 (h b) c⟩);exact f a e b c (aq aa)
def PF.part{s:List bF}{a:List (c9×F)}(h:PF w u v x y n s qY a)(l:m<I a)(t:k<a[m].1.parts.length):∃e g c i,y=aI e (I a) g/\a[m].2=aI c a[m].1.parts.length i/\aA u ⟨e,m*2+1,Z⟩=K a[m].2/\(∀b f,(eN a[m].1.parts[k])[b]? =K f->aA u ⟨c,k*9+b,Z⟩=K f)/\(∀b,cU u ⟨c,b,Z⟩=ai)/\c<U u.heap/\U w.heap+1<=c:=by
 have p:=h.each a[m] (c8 l);obtain⟨e,g,j,-⟩:=h.own.form (by omega);obtain⟨c,i,q,-⟩:=p.form (by omega);have o:=h.own;rw[j] at o;have d:=p;rw[q] at d;refine⟨e,g,c,i,j,q,?_,λb f r=>?_,λb=>vM d b,(d.lt c Y).2,(d.lt c Y).1⟩;rw[pp o _ (by omega)];exact pO ir 2 B4 a m l 1 _ Y;have z:b<9:=by have:=(fq.1 r).1;simpa [eN] using this
 rw[pp d _ (by omega)];exact pO eN 9 Bn a[m].1.parts k t b f r
def vp (a:List F):Nat->List F->List F
 |_,[]=>a
 |o,v::b=>vp (a.set o v) (o+1) b
theorem GK(b:List F):∀(e c:List F) (a:Nat),vp (b++c) (I b+a) e=b++vp c a e
 | [],c,a=>rfl
 |v::d,c,a=>by
  show vp ((b++c).set (I b+a) v) (I b+a+1) d=b++vp (c.set a v) (a+1) d;rw[y7 _ _ (by omega),show I b+a-I b=a by omega,gF];exact GK b d (c.set a v) (a+1)
theorem L3:∀(d b a:List F),I d=I b->vp (b++a) 0 d=d++a
 | [],[],a,_=>rfl
 |v::c,e::b,a,f=>by
  show vp ((e::(b++a)).set 0 v) (0+1) c=v::(c++a);rw[ct];have:=GK [v] c (b++a) 0;simp only[rB,List.singleton_append,s6] at this;rw[e7,this,L3 c b a (cM f)]
theorem L2(f:e8->List F)(m:Nat)(c:∀x,I (f x)=m):∀(e:List e8) (a:Nat) (d:a<I e) (b:e8),vp (e.flatMap f) (a*m) (f b)=(e.set a b).flatMap f
 | [],a,d,_=>by simp at d
 |x::g,0,_,b=>by
  rw[lD,ct,lD,Nat.zero_mul];exact L3 _ _ _ (by rw[c,c])
 |x::g,a+1,d,b=>by
  rw[lD,cr,lD];have:=GK (f x) (f b) (g.flatMap f) (a*m);rw[c] at this;rw[show(a+1)*m=m+a*m by rw[Nat.succ_mul,Nat.add_comm],this,L2 f m c g a (cM d) b]
def S2(a:jj w u QX)(b:jj u W QX):jj w W QX:=
 ⟨aB b.os a.os,aB b.tape a.tape,aB b.output a.output,dj a.size b.size,λe c d=>aB (b.block e (cL c a.size) d) (a.block e c d)⟩
theorem Ky{h:Nat}{j:aK}{k c d i:Nat}:∀(f:List F) (a:Nat) (b:ag) (g:List F),aT b h j k (ah (K ⟨c,0,Z⟩) d i) d g->
 aT (s4 b c a f) h j k (ah (K ⟨c,0,Z⟩) d i) d (vp g a f)/\jj b (s4 b c a f) (K c)
 | [],_,b,_,e=>⟨e,⟨rfl,rfl,rfl,aV _,λ_ _ _=>rfl⟩⟩
 |v::p,a,b,g,e=>by
  have⟨l,m⟩:=e.stored a v;have⟨n,o⟩:=Ky p (a+1) _ _ l;exact⟨n,S2 m o⟩
def ZC{a:List (c9×F)}{t:ByteArray}(b:n<I a)(c:m<a[n].1.parts.length):(sR a n m t).map eu=a.map eu:=by
 rw[Ar b c,List.map_set];have:(a.map eu)[n]'(cM b)=a[n].2:=aF;rw[<-this,List.set_getElem_self]
def PF.text{A:List bF}{a:List (c9×F)}(b:PF w u x y z n A qY a)(d:m<I a)(h:k<a[m].1.parts.length)(t:a[m].2=aI i a[m].1.parts.length j)(l:ByteArray):
 PF w (s4 u i (k*9) (eN ⟨a[m].1.parts[k].size,a[m].1.parts[k].bV,l⟩)) x y z n A qY (sR a m k l):=by
 have e:=b.each a[m] (c8 d);have p:a[m].2.ownBlock=K i:=by rw[t];rfl
 have s:=e;rw[t] at s;have O:=s.lt i Y;have⟨D,g⟩:=Ky (eN ⟨a[m].1.parts[k].size,a[m].1.parts[k].bV,l⟩) (k*9) u _ s;rw[L2 eN 9 Bn _ _ h] at D;have r:i≠U w.heap+1:=λc=>ew e b.file (by decide) (by rw[p,c]);have iu:∀{c:aK} {M J:Nat} {v:F} {N:List F},aT u (U w.heap+1) c M v J N->c≠128->bB v=Z\/bB v≠K i:=λH r=>by
  have:=l7 H e r;unfold Apart at this;rw[p] at this;exact this
 have C:=List.pairwise_iff_getElem.1 b.fW;refine⟨?_,fK b.aj g (iu b.aj (by decide)),fK b.gx g (iu b.gx (by decide)),?_,λE e=>?_,?_,Ie (aV _) (by omega) _ _ _ b.j9⟩;rw[g.block _ (bC b.file) (λc=>r (by cases c;rfl))];exact b.file;have:=fK b.own g (iu b.own (by decide));rw[R6 d h,show I (sR a m k l)=I a by rw[Ar d h,List.length_set]];exact this;rw[Ar d h] at e;obtain⟨q,o,rfl⟩:=m6 e;rw[List.length_set] at o;rw[List.getElem_set]
 split
 rename_i G;show aT _ _ _ _ a[m].2 (I (a[m].1.parts.set k _)) _;rw[t,List.length_set];exact D;rename_i G;refine fK (b.each a[q] (c8 o)) g (an ?_);intro c;rcases ij m q with f|f;exact C m q d o f i p c;exact C q m o d (by omega) i c p;have f:(a.map eu).Pairwise λE L=>∀B,bB E=K B->bB L≠K B:=List.pairwise_map.2 b.fW;rw[<-ZC (t:=l) d h] at f;exact List.pairwise_map.1 f
def W4{a:e8}:(eN a).toArray.all (·.oneCell')=af:=by simp[eN,Value.oneCell']
def PF.there{c:List bF}{a:List (c9×F)}(d:PF w u v x y n c qY a)(g:m<I a)(e:k<a[m].1.parts.length)(h:a[m].2=aI i a[m].1.parts.length j):u.there i (k*9) 9:=by
 obtain⟨q,r,s,t,-,b,-,o,p,-,-⟩:=d.part g e;rw[h] at b;cases b;intro l f;exact⟨by rw[o l _ (dH (by rw[Bn];exact f))];rfl,p _⟩
def oY (b:Bd):c9:=⟨b.rows,b.chunks.map λa=>⟨bf a.text,a.bV,a.text⟩⟩
theorem EN{d:ByteArray}:∀(a:List e8) (b:Nat),I (oP d b a)=I a
 | [],_=>rfl
 |p::c,b=>by simp[oP,EN c]
theorem Jd(f:ByteArray):∀(b:List e8) (c a:Nat) (d:a<I b),(oP f c b)[a]'(by rw[EN];exact d)=⟨e9 f (c+eC (b.take a)) (c+eC (b.take a)+b[a].size),b[a].bV⟩
 | [],_,_,d=>by simp at d
 |p::e,c,0,_=>by simp[oP,eC]
 |p::e,c,a+1,d=>by
  have:=Jd f e (c+p.size) a (by simpa using d);simp only[oP,mH,List.take_succ_cons];rw[this];have g:eC (p::e.take a)=p.size+eC (e.take a):=by simp[eC]
  rw[g,<-gF]
theorem EL{e:ByteArray}:∀(a:List c9) (c:Nat),I (kE e c a)=I a
 | [],_=>rfl
 |b::d,c=>by simp[kE,EL d]
theorem Jc(g:ByteArray):∀(d:List c9) (e a:Nat) (c:a<I d),(kE g e d)[a]'(by rw[EL];exact c)=⟨d[a].rows,oP g (e+tot (d.take a)) d[a].parts⟩
 | [],_,_,c=>by simp at c
 |b::f,e,0,_=>by simp[kE,tot]
 |b::f,e,a+1,c=>by
  have:=Jc g f (e+eC b.parts) a (by simpa using c);simp only[kE,mH,List.take_succ_cons];rw[this];have h:tot (b::f.take a)=eC b.parts+tot (f.take a):=by simp[tot]
  rw[h,<-gF]
def Sf(s:ByteArray)(f b a:Nat)(c:4+a<=f):e9 (e9 s 4 f) b a=e9 s (4+b) (4+a):=by
 apply xG;rw[m9,m9,m9,List.drop_take,List.drop_drop,List.take_take];congr 1;omega
def W_9{s:ByteArray}{b d:List (c9×F)}(g:jg d=jg b)(v:pK s b d (I b) 0)(E:4+tot (b.map bp)<=f)(G:f<=s.size):d.map bp=(kE (e9 s 4 f) 0 (b.map bp)).map oY:=by
 have x:=Dr g;apply List.ext_getElem;simp[EL,x];intro a u C;have h:a<I d:=by simpa using u
 have e:a<I b:=aa;have⟨q,r⟩:=G3 g h e;have t:d[a].1.parts.length=b[a].1.parts.length:=by
  have:=congrArg I r;simpa using this
 simp only[pH];rw[Jc _ _ _ _ (by simpa using e)];simp only[pH,oY];have A:d[a].1.parts=(oP (e9 s 4 f) (0+tot ((b.map bp).take a)) b[a].1.parts).map λj=>(⟨j.text.size,j.bV,j.text⟩:e8):=by
  apply List.ext_getElem;simp[EN,t];intro c k D;have i:c<b[a].1.parts.length:=aa;have l:=MY g h e k i;have n:=Q_ g h e k i;have m:=v a c h k (aq aa);have y:zU b a c=4+(tot ((b.map bp).take a)+eC (b[a].1.parts.take c)):=by
   unfold zU;rw[ep,dH e];show 4+_+eC (b[a].1.parts.take c)=_;omega
  have w:=Nb (rs:=b.map bp) (k:=a) (i:=c) (by simpa using e) (by simpa using i);simp only[pH] at w;simp only[pH];rw[Jd _ _ _ _ i,e7];rw[y,l] at m;have o:=Sf s f (tot ((b.map bp).take a)+eC (b[a].1.parts.take c)) (tot ((b.map bp).take a)+eC (b[a].1.parts.take c)+b[a].1.parts[c].size) aa;have z:(e9 (e9 s 4 f) (tot ((b.map bp).take a)+eC (b[a].1.parts.take c)) (tot ((b.map bp).take a)+eC (b[a].1.parts.take c)+b[a].1.parts[c].size)).size=b[a].1.parts[c].size:=by
   rw[o,tM];omega
  have p:d[a].1.parts[c]=⟨b[a].1.parts[c].size,b[a].1.parts[c].bV,e9 s (4+(tot ((b.map bp).take a)+eC (b[a].1.parts.take c))) (4+(tot ((b.map bp).take a)+eC (b[a].1.parts.take c))+b[a].1.parts[c].size)⟩:=by
   generalize d[a].1.parts[c]=B at*;have⟨H,J,L⟩:=B;simp only at l n m;rw[l,n,m]
  rw[p];simp only;rw[z,o,gF 4]
 rw[<-A,<-q]
def Sp{s a g:ByteArray}{f:List (bF×Int)}{b:List c9}(j:Cut s (bytesOf a) (bytesOf g))(d:ze (bytesOf g) f b)(n:tot b=bf a):kT s f (kE a 0 b)/\gK (kE a 0 b)=eS b:=by
 have c:=Ef (z:=a) b 0;have e:=EM (z:=a) b 0 aa (λh c p m=>by
  obtain⟨o,k,rfl⟩:=m6 m;exact((d.ok.eV h c).each o k).t)
 have i:fi (kE a 0 b)=bytesOf a:=by
  rw[c,s5,n,<-cJ a,iZ]
 have l:oa f ((kE a 0 b).map k9):=b5 e d.ok;refine⟨⟨Jm l,?_⟩,?_⟩;rw[i,<-Cb,e,<-d.eq];exact j;rw[<-Ab,e]
structure xj(w:ag)(pb n:Nat)(c:Int)(p:e8):Prop where
 ex:∃j:Nat,c=(j:Int)/\j<n/\pb<U w.heap/\aA w ⟨pb,j*9,Z⟩=K (n9 p.size)/\aA w ⟨pb,j*9+1,Z⟩=K (ak p.bV.there)/\aA w ⟨pb,j*9+2,Z⟩=K (ak p.bV.least.null)/\aA w ⟨pb,j*9+3,Z⟩=K (z9 p.bV.least.n)/\aA w ⟨pb,j*9+4,Z⟩=K (au p.bV.least.s)/\aA w ⟨pb,j*9+5,Z⟩=K (ak p.bV.most.null)/\aA w ⟨pb,j*9+6,Z⟩=K (z9 p.bV.most.n)/\aA w ⟨pb,j*9+7,Z⟩=K (au p.bV.most.s)/\aA w ⟨pb,j*9+8,Z⟩=K (au p.text)
def xj.below{c:e8}(a:xj w n m M c)(b:aD w u):xj u n m M c:=by
 obtain⟨g,d,e,f,a⟩:=a.ex;have i:=b.size;refine⟨g,d,e,by omega,?_⟩;simp only[λh=>bq b (p:=⟨n,h,Z⟩) f];exact a
def Zz(b:List bJ)(iy:Int->e8)(C:Int)(k q u:Nat)(bm:Option aN)(rb bY bE:Nat)(h:ag)(b5:I b<=aS)(i:dy h bm rb bY b)(b3:∀g∈b,xj h k q g.col (iy g.col))(J:∀g∈b,((iy g.col).bV.least.s.size<=aS/\(iy g.col).bV.most.s.size<=aS)/\g.low.s.size<=aS/\g.high.s.size<=aS):
 bn 49 #[cw #[z9 C,aI k q u],ah bm (I b) bE] h λo bo=>∃aZ,o=aR (ak aZ)/\(aZ=ai↔∀a (f:a<I b),jQ (iy b[a].col).bV b[a]=ai)/\aD h bo:=by
 unfold aS at b5;have W:=ap i;have aY:=ap J;have aM:X (aD h (h.alloc (ax #[z9 C,aI k q u] 122))):=(bU _ _).alloc (aV _) _;have aQ:X ((h.alloc (ax #[z9 C,aI k q u] 122)).heap[U h.heap]? =K (ax #[z9 C,aI k q u] 122 (0,0))):=me _ _;clear i J;go_enter aE.func49,Tryz.ntmps49;go_wp2_with fail
 go_loopw [5] (λa wr=>∃c:Nat,c<=I b/\a=z9 c/\(∀a (f:a<I b),a<c->jQ (iy b[a].col).bV b[a]=ai)/\wr.heap[U h.heap]? =K (ax #[bt bM C,aI k q u] 122 (0,0))/\aD h wr) (λa _=>I b-bS (bw a))
 exact⟨0,cE _,rfl,λcp _ f=>aa,aQ.o,aM.o⟩;clear aQ aM;obtain⟨c,ci,rfl,a4,a6,B⟩:=hrel;have R:=ap B;have J:=B.size;have b0:=bC a6
 skip
 by_cases l:c<I b
 .have i:=W.o.below B;obtain rfl:=i.addr aa;have a9:=i.c0 c l;have ba:=i.c1 c l;have bb:=i.c2 c l;have bc:=i.c3 c l;have bd:=i.c4 c l;have be:=i.c5 c l;have bh:=i.c6 c l;have⟨r,a1,bx,a2,o⟩:=((b3 b[c] (c8 l)).below B).ex;have⟨⟨aG,aH⟩,aJ,aL⟩:=aY.o b[c] (c8 l);have ab:X (jQ (iy b[c].col).bV b[c]=af->¬∀a (f:a<I b),jQ (iy b[a].col).bV b[a]=ai):=λf b1=>by
   have:=b1 c l;rw[f] at this;cases this
  have N:X (jQ (iy b[c].col).bV b[c]=ai->∀a (f:a<I b),a<c+1->jQ (iy b[a].col).bV b[a]=ai):=λf a b4 cg=>by
   by_cases o:a=c;subst o;exact f;exact a4 a b4 aa
  clear i B W aY;generalize b[c]=br at*;generalize iy br.col=b7 at*;have⟨L,v,M⟩:=b7;have⟨cA,e,d⟩:=br;dsimp only at a1 o a9 ba bb bc bd be bh aG aH aJ aL ab N;subst a1;go_upto_region 5 with fail;have⟨bi,bj,ca,cb,aw,bk,bl⟩:=vq (me wr (ax #[n9 r,ak e.null,z9 e.n,au e.s,ak d.null,z9 d.n,au d.s] 61));have p:aD wr (wr.alloc (ax #[n9 r,ak e.null,z9 e.n,au e.s,ak d.null,z9 d.n,au d.s] 61)):=(bU _ _).alloc (aV _) _;have a3:∀j,aA (wr.alloc (ax #[n9 r,ak e.null,z9 e.n,au e.s,ak d.null,z9 d.n,au d.s] 61)) ⟨k,j,Z⟩=aA wr ⟨k,j,Z⟩:=λj=>bq p (p:=⟨k,j,Z⟩) a2;simp only[<-a3] at o;have⟨bD,bF,bH,bI,bN,bO,bP,bR,bZ⟩:=o;have am:=(cS p _ b0).trans a6;have bv:aA (wr.alloc (ax #[n9 r,ak e.null,z9 e.n,au e.s,ak d.null,z9 d.n,au d.s] 61)) ⟨U h.heap,1,Z⟩=K (ah (K ⟨k,0,Z⟩) q u):=by unfold aA;rw[am];rfl
  have V:=ap (R.o.trans (p.mono J));have a8:U wr.heap<(wr.alloc (ax #[n9 r,ak e.null,z9 e.n,au e.s,ak d.null,z9 d.n,au d.s] 61)).heap.size:=aF;clear p a9 ba bb bc bd be bh a2 a3 R J;generalize wr.alloc (ax #[n9 r,ak e.null,z9 e.n,au e.s,ak d.null,z9 d.n,au d.s] 61)=t at*;generalize U wr.heap=z at*;have b2:(r:Int)<(q:Int):=aa;go_upto_region 6 with fail;have a7:=me t (ax #[n9 L,ak v.there,ak v.least.null,z9 v.least.n,au v.least.s,ak v.most.null,z9 v.most.n,au v.most.s,au M] 128);have p:aD t (t.alloc (ax #[n9 L,ak v.there,ak v.least.null,z9 v.least.n,au v.least.s,ak v.most.null,z9 v.most.n,au v.most.s,au M] 128)):=(bU _ _).alloc (aV _) _;have T:X _:=V.o.trans (p.mono (by have:=V.o.size;omega));have S:X _:=(cS p _ (bC am)).trans am;have ck:U t.heap<(t.alloc (ax #[n9 L,ak v.there,ak v.least.null,z9 v.least.n,au v.least.s,ak v.most.null,z9 v.most.n,au v.most.s,au M] 128)).heap.size:=by simp
  simp only[<- λj=>bq p (p:=⟨z,j,Z⟩) a8] at bi bj ca cb aw bk bl;clear p bD bF bH bI bN bO bP bR bZ V b2 bx bv;generalize t.alloc (ax #[n9 L,ak v.there,ak v.least.null,z9 v.least.n,au v.least.s,ak v.most.null,z9 v.most.n,au v.most.s,au M] 128)=y at*;generalize U t.heap=A at*;have g:∀ar aC,(#[bt bM (L:Int),ak v.there,ak v.least.null,bt bM v.least.n,au v.least.s,ak v.most.null,bt bM v.most.n,au v.most.s,au M]:Array F)[ar]? =K aC->aA y ⟨A,ar,Z⟩=K aC:=λar aC f=>by unfold aA;rw[a7];exact f
  have az:=g 1 _ Y;have cc:=g 2 _ Y;have cd:=g 3 _ Y;have cf:=g 4 _ Y;have cl:=g 5 _ Y;have cn:=g 6 _ Y;have co:=g 7 _ Y;clear g a7 bi;have ch:z<U y.heap:=by omega
  have x:=λad=>AV v.most e ad aH aJ;have s:=λad=>AV d v.least ad aL aG;rw[HY] at s;clear aG aH aJ aL a8;have O:∀(ae n:Bool),ae=af\/(ae=ai/\n=ai)\/(ae=ai/\n=af):=ay;have a0:∀{E:ag},aD y E->X (aD h E/\E.heap[U h.heap]? =K (ax #[bt bM C,ah (K ⟨k,0,Z⟩) q u] 122 (0,0))/\∀n j,n=z\/n=A->aA E ⟨n,j,Z⟩=aA y ⟨n,j,Z⟩):=λ{E} f=>⟨T.o.trans (f.mono (by have:=T.o.size;omega)),(cS f _ (bC S.o)).trans S.o,λn j G=>bq f (p:=⟨n,j,Z⟩) (by rcases G with rfl|rfl<;>omega)⟩;have m:X (aD y y):=bU _ _;have w:X _:= @a0;clear a0 T S;cases H:v.there
  .have bu:X _:=N.o (by simp[jQ,H]);rw[H] at az;clear ab N H x s O;go_wp2
   go_roundw
   case rel=>exact⟨c+1,by omega,by go_num,bu.o,(w.o m.o).o.2.1,(w.o m.o).o.1⟩
   case measure=>simp[bw];omega
  .rw[H] at az;cases ao:jQ v ⟨(r:Int),e,d⟩<;>rcases O e.null (decide (gp v.most e<0)) with Q|⟨Q,G⟩|⟨Q,G⟩<;>rcases O d.null (decide (0<gp v.least d)) with P|⟨P,aj⟩|⟨P,aj⟩
   all_goals try (simp[jQ,l8,l6, *] at ao;done)
   all_goals
    skip
    clear O H;rw[Q] at bj x;rw[P] at aw s;try rw[G] at x
    try rw[aj] at s
    first|clear G|clear x
    first|clear aj|clear s
    clear Q P;go_wp2_with (first|(go_at_call 72;refine(x _).mono ?_;clear x;rintro o bo ⟨rfl,al⟩;have D:=(w.o al).o.2.2;have m:=ap al;have cs:=(D A 1 (an Y)).trans az;have cu:=(D A 2 (an Y)).trans cc;have cv:=(D A 3 (an Y)).trans cd;have cx:=(D A 4 (an Y)).trans cf;have u4:=(D z 4 (aq Y)).trans aw;have u5:=(D z 5 (aq Y)).trans bk;have u6:=(D z 6 (aq Y)).trans bl;clear D al)|(go_at_call 72;refine(s _).mono ?_;clear s;rintro o cy ⟨rfl,a5⟩;have m:=ap (m.o.trans (a5.mono m.o.size));clear a5))
    first
    |(go_ret;refine⟨af,rfl,?_,(w.o m.o).o.1⟩;simp only[Bool.true_eq_false,false_iff];exact ab.o ao)
    |(go_roundw
      case rel=>exact⟨c+1,by omega,by go_num,N.o ao,(w.o m.o).o.2.1,(w.o m.o).o.1⟩
      case measure=>simp[bw];omega)
 have bs:X (∀a (f:a<I b),jQ (iy b[a].col).bV b[a]=ai):=λa f=>a4 a f aa;clear B W;go_wp2;go_ret;exact⟨ai,rfl,by simp only[true_iff];exact bs.o,R.o⟩
def Om (c:ag)(s:ByteArray)(d:gL)(f:ag):Prop:=
 aD c f/\((∃(a:List (bF×Int)) (b:List (c9×F)) (h i g:F),d=aR (cC #[(aZ (U c.heap+1)),ak af])/\ze (bytesOf s) a (b.map bp)/\PF c f h i g (eS (b.map bp)) (a.map bp) (a.map eu) b)\/
  (∃v,d=aR (cC #[v,ak ai])/\∀a e,oa a e->bytesOf s≠kZ a e))
structure HC(l:List (bF×Int)):Prop where
 n:∀y∈l,bf y.1.name<=16/\0<=y.1.kind/\y.1.kind<256/\0<=y.2/\y.2<256
def VD{a:List (bF×Int)}(b:n<I a):iI (a.drop n)=lP a[n]++iI (a.drop (n+1)):=by
 rw[pE b];unfold iI;rw[lD]
def LC(a:List c9)(c:∀b∈a,1<=b.rows):I a<=eS a:=by
 induction a with
 |nil=>simp[eS]
 |cons b i f=>
  have h:=c b (by simp);have d:=f (λg e=>c g (by simp[e]));simp[eS] at d ⊢;omega
def Ds{c:Type}{a m:List c}{b:c}(e:m=a.take n)(d:n<I a)(hx:b=a[n]):m++[b]=a.take (n+1):=by
 rw[gh d,e,hx]
def Re{s:ByteArray}{a:List (bF×Int)}{rs:List c9}(b:(bytesOf s).drop m=iI (a.drop n)++l)(c:n<I a):
 (bytesOf s).drop m=bc a[n].1.name.size++(bytesOf a[n].1.name++([byteOf a[n].1.kind]++([byteOf a[n].2]++(iI (a.drop (n+1))++l)))):=by
 rw[b,VD c];unfold lP;simp
def Vv(s:ByteArray)(d:ag)(kz:s.size<=65536):
 bn 67 #[au s] d (Om d s):=by
 have⟨j7,jB,j3,j4,j5⟩:=eU aE.JG;have⟨kc,dv,j0,j1,j2⟩:=eU aE.pP;have⟨kg,bo,jX,fB,jZ⟩:=eU aE.Tt;have⟨iV,iq,is,it,iv⟩:=eU aE.Ts;have b1:s.size<=aS:=gy;go_enter aE.func67,Tryz.ntmps67;go_upto_region 3 with fail;have hO:((d.alloc (ax #[au s,bt bM 0,ak ai] 157)).alloc (ax #[ah Z 0 0,ah Z 0 0,ah Z 0 0,bt bM 0] 113)).heap[U d.heap]? =K (rb s 0 ai):=alloc_old (by simp) (jY d _);have hW:PF d ((d.alloc (ax #[au s,bt bM 0,ak ai] 157)).alloc (ax #[ah Z 0 0,ah Z 0 0,ah Z 0 0,bt bM 0] 113)) (ah Z 0 0) (ah Z 0 0) (ah Z 0 0) 0 [] [] []:=
  ⟨BP d,iO _ _ _ _,iO _ _ _ _,iO _ _ _ _,λO H=>by simp at H,abW,BQ⟩
 have fl:U d.heap+1<((d.alloc (ax #[au s,bt bM 0,ak ai] 157)).alloc (ax #[ah Z 0 0,ah Z 0 0,ah Z 0 0,bt bM 0] 113)).heap.size:=aF;generalize (d.alloc (ax #[au s,bt bM 0,ak ai] 157)).alloc (ax #[ah Z 0 0,ah Z 0 0,ah Z 0 0,bt bM 0] 113)=hA at*;have fg:=ap hO;have hq:X (PF d hA (ah Z 0 0) (ah Z 0 0) (ah Z 0 0) 0 [] [] []):=hW;clear hO hW;go_wp2_with fail;refine(yo (U d.heap) 0 8 ai s (by omega) b1 (cE _) fg.o).mono ?_;rintro x kh ⟨hI,b5,iS,hE,rfl,kC,fx,hP,fB,-⟩;have hr:X (PF d kh (ah Z 0 0) (ah Z 0 0) (ah Z 0 0) 0 [] [] []):=hq.o.kp hI;have hm:=ap hP;have hc:X (∀c b,Hf s c b->hE=ai/\I c=b5/\(bytesOf s).drop iS=iI c++(bc (I b)++gU (c.map bp) b)):=λc b e=>by
  have j:=e.2;unfold kZ kG at j;rw[iD] at j;have az:I c<=8:=by have:=e.1.pl.1.2.1;simpa using this
  have⟨am,ao,a1⟩:=fB (I c) az (wM (Y:=iI c++(bc (I b)++gU (c.map bp) b)) (by rw[s5];exact j));refine⟨a1,am.symm,?_⟩;have:=wL (q:=0) (B:=bytesOf s) (by rw[s5];exact j);rw[ao];exact this
 clear hI hP fB fg hq fl;clear hA;go_wp2_with fail
 go_loopw [7] (λa7 wr=>∃(a:List (bF×Int)) (dO c7:F) (r:Nat) (w:Bool),a7=bt bM (I a:Int)/\I a<=b5/\HC a/\PF d wr dO c7 (ah Z 0 0) 0 (a.map bp) (a.map eu) []/\r<=s.size/\wr.heap[U d.heap]? =K (rb s r w)/\
  (∀c b,Hf s c b->w=ai/\I c=b5/\a=c.take (I a)/\(bytesOf s).drop r=iI (c.drop (I a))++(bc (I b)++gU (c.map bp) b))) (λa7 _=>b5-bS (bw a7))
 case atStart=>exact⟨[],_,_,iS,hE,rfl,cE _,⟨λfE g1=>by simp at g1⟩,hr.o,fx,hm.o,λc b e=>by have⟨j,k,q⟩:=hc.o c b e;exact⟨j,k,aF,by simpa using q⟩⟩
 case round=>
  clear hr hm hc;obtain⟨a,dO,c7,r,w,rfl,jG,h3,dZ,fx,cu,hF⟩:=hrel;have fN:=ap h3;have B:X (PF d wr dO c7 (ah Z 0 0) 0 (a.map bp) (a.map eu) []):=dZ;have aw:=ap cu;have aC:=ap hF;clear h3 dZ cu hF;by_cases gN:I a<b5
  .have hg:X (∀c b,Hf s c b->∃e:I a<I c,w=ai/\I c=b5/\a=c.take (I a)/\tc c[I a]/\c[I a].1.name.size<=16/\(bytesOf s).drop r=bc c[I a].1.name.size++(bytesOf c[I a].1.name++([byteOf c[I a].1.kind]++([byteOf c[I a].2]++(iI (c.drop (I a+1))++(bc (I b)++gU (c.map bp) b)))))):=λc b e=>by
    have⟨j,k,q,v⟩:=aC.o c b e;have C:I a<I c:=aa;have H:=e.1.pl.each.1 _ (c8 C);have jP:c[I a].1.name.size<=16:=by
     have:=J4 e.1.pl.1 c[I a].1 (kA.2 ⟨_,c8 C,rfl⟩);exact this
    exact⟨C,j,k,q,H,jP,Re (rs:=b) v C⟩
   clear aC;go_wp2_with fail;refine(yo (U d.heap) r 16 w s (by omega) b1 fx aw.o).mono ?_;rintro x ar ⟨a2,fa,aH,aG,rfl,jC,cB,a6,b2,-⟩;have dl:X (PF d ar dO c7 (ah Z 0 0) 0 (a.map bp) (a.map eu) []):=B.o.kp a2;have ei:=ap a6;have bJ:X (∀c b,Hf s c b->∃e:I a<I c,aG=ai/\I c=b5/\a=c.take (I a)/\tc c[I a]/\c[I a].1.name.size=fa/\(bytesOf s).drop aH=bytesOf c[I a].1.name++([byteOf c[I a].1.kind]++([byteOf c[I a].2]++(iI (c.drop (I a+1))++(bc (I b)++gU (c.map bp) b))))):=λc b e=>by
    have⟨C,j,k,q,v,y,L⟩:=hg.o c b e;have⟨am,ao,a1⟩:=b2 _ y (wM L);exact⟨C,by rw[a1,j],k,q,v,am.symm,by rw[ao];exact wL L⟩
   clear a2 a6 b2 B aw hg;go_wp2_with fail;refine(X9 (U d.heap) aH fa aG s (by omega) b1 cB ei.o).mono ?_;rintro x ki ⟨hK,a9,iU,hG,rfl,jR,jS,hR,iE,-⟩;have hs:X (PF d ki dO c7 (ah Z 0 0) 0 (a.map bp) (a.map eu) []):=dl.o.kp hK;have c1:=ap hR;have hd:X (∀c b,Hf s c b->∃e:I a<I c,hG=ai/\I c=b5/\a=c.take (I a)/\tc c[I a]/\c[I a].1.name=a9/\(bytesOf s).drop iU=[byteOf c[I a].1.kind]++([byteOf c[I a].2]++(iI (c.drop (I a+1))++(bc (I b)++gU (c.map bp) b)))):=λc b e=>by
    have⟨C,j,k,q,v,y,L⟩:=bJ.o c b e;have⟨am,ao,a1⟩:=iE _ y (wM L);have a5:=wL L;rw[cJ,y] at a5;exact⟨C,by rw[a1,j],k,q,v,am.symm,by rw[ao];exact a5⟩
   have ih:a9.size<=16:=aa;clear hK hR iE dl ei bJ jR;go_wp2_with fail;refine(F4 (U d.heap) iU hG s _ b1 jS c1.o).mono ?_;rintro x d3 ⟨es,a8,b7,cn,rfl,jD,e1,ey,e2,-⟩;have c3:X (PF d d3 dO c7 (ah Z 0 0) 0 (a.map bp) (a.map eu) []):=hs.o.kp es;have dg:=ap ey;have he:X (∀c b,Hf s c b->∃e:I a<I c,cn=ai/\I c=b5/\a=c.take (I a)/\tc c[I a]/\c[I a].1=⟨a9,(a8:Int)⟩/\(bytesOf s).drop b7=[byteOf c[I a].2]++(iI (c.drop (I a+1))++(bc (I b)++gU (c.map bp) b))):=λc b e=>by
    have⟨C,j,k,q,v,y,L⟩:=hd.o c b e;have⟨am,ao,a1⟩:=e2 _ (wM L);have az:=BR v.k0 v.k1;refine⟨C,by rw[a1,j],k,q,v,?_,by rw[ao];exact wL L⟩;rw[<-am] at az;generalize c[I a].1=dL at*;cases dL;simp only at y az;rw[y,az]
   clear es ey e2 hs c1 hd;have⟨⟨G,D,ae,al⟩,bE⟩:=c3.o.cells;have jd:=bE 0;have R:=c3.o.aj;have ky:I a<=8:=aa;rw[ee] at R;obtain⟨cp,W,rfl⟩:=gG R;have jW:=bC c3.o.file;go_upto_region 11 with(at_builtin;refine wpList_append_lies _ Y _ _ 44 Y (U d.heap+1) 63 j7 _ 2 24 aE.underlying44 jB j3 j4 j5 Y ay _ (I a) _ Y (R.alloc _) ⟨U d3.heap,0,Z⟩ 1 1 [au a9,bt bM (a8:Int)] Y Y (Ni d3) (by intro g3 bo;simp at bo;rcases bo with rfl|rfl<;>rfl) ay gy aa bO _ rfl ?_;intro dP dn M im h8 hZ jH;have fo:=dA.k4 (n:=I a+1) (cap:=dn) h8 hZ;have⟨⟨cs,bR,bV,dq⟩,bY⟩:=c3.o.Cl c3.o.aj ay fo;have i9:=bY 0);have ii:aT M (U d.heap+1) 63 2 (ah (K ⟨dP,0,Z⟩) (I a+1) dn) (I (a.map bp++[(⟨a9,(a8:Int)⟩:bF)])) (kX (a.map bp++[(⟨a9,(a8:Int)⟩:bF)])):=by
    rw[Iz,cN,ee];exact im
   have hX:PF d (bg M ⟨U d.heap+1,0,Z⟩ (ah (K ⟨dP,0,Z⟩) (I a+1) dn)) (ah (K ⟨dP,0,Z⟩) (I a+1) dn) c7 (ah Z 0 0) 0 (a.map bp++[(⟨a9,(a8:Int)⟩:bF)]) (a.map eu) []:=c3.o.S0 fo ii;have hS:(bg M ⟨U d.heap+1,0,Z⟩ (ah (K ⟨dP,0,Z⟩) (I a+1) dn)).heap[U d.heap]? =K (rb s b7 cn):=PF.reader dg.o c3.o.aj fo;clear R im h8 hZ jH fo ii cs bR bV dq bY i9 G D ae al bE jd jW c3 dg;generalize bg M ⟨U d.heap+1,0,Z⟩ (ah (K ⟨dP,0,Z⟩) (I a+1) dn)=u at*;generalize ah (K ⟨dP,0,Z⟩) (I a+1) dn=eo at*;have P:X (PF d u eo c7 (ah Z 0 0) 0 (a.map bp++[(⟨a9,(a8:Int)⟩:bF)]) (a.map eu) []):=hX;have a3:=ap hS;clear hX hS;have R:=P.o.gx;rw[ee] at R;obtain⟨ad,ab,rfl⟩:=gG R;have g9:X (bn 101 #[dG (K ⟨U d.heap,0,Z⟩)] u.drew λx bj=>Kp (U d.heap) u.drew bj/\∃(dL r:Nat) (w:Bool),x=aR (bt bM (dL:Int))/\dL<256/\r<=s.size/\bj.heap[U d.heap]? =K (rb s r w)/\(∀bI,aQ (bytesOf s) b7 [bI]->dL=bI/\r=b7+1/\w=cn)/\(cn=af->w=af)):=F4 (U d.heap) b7 cn s u.drew b1 e1 a3.o;obtain⟨⟨G,D,ae,al⟩,-⟩:=P.o.cells;refine Un.open_ (λh=>aJ h (U d.heap+1) 1 (ah ad (I a) ab)) 11 (λ_ _ _ _ _ e=>e) λdy=>?_;have N:(λh=>aJ h (U d.heap+1) 1 (ah ad (I a) ab)) u.drew:=D;refine Un.pk 0 ?_;refine Un.pk 1 ?_;refine Un.pk 2 ?_;refine Un.pk 3 ?_;refine Un.ld [11] 4 ?_;refine Un.pk 5 ?_;try simp only[bG,cz,ct,cr]
   refine Un.on 6 λt l=>?_;go_simp;go_at_call 101;refine g9.o.mono ?_;rintro x bk ⟨et,cg,d2,J,rfl,jw,gZ,eC,e3,-⟩;have hL:Kp (U d.heap) u bk:=(Kp.iT ((bU (U u.heap) u).drew)).trans et;have a0:X (PF d bk eo (ah ad (I a) ab) (ah Z 0 0) 0 (a.map bp++[(⟨a9,(a8:Int)⟩:bF)]) (a.map eu) []):=P.o.kp hL;have dk:=ap eC;have fP:X (∀c b,Hf s c b->J=ai/\I c=b5/\a++[((⟨a9,(a8:Int)⟩:bF),(cg:Int))]=c.take (I a+1)/\(bytesOf s).drop d2=iI (c.drop (I a+1))++(bc (I b)++gU (c.map bp) b)):=λc b e=>by
    have⟨C,j,k,q,v,y,L⟩:=he.o c b e;have⟨am,ao,a1⟩:=e3 _ (wM L);have az:=BR v.e0 v.e1;refine⟨by rw[a1,j],k,Ds q C ?_,by rw[ao];exact wL L⟩;rw[<-am] at az;generalize c[I a]=fE at*;have⟨fF,i0⟩:=fE;simp only at y az;rw[y,az]
   obtain⟨⟨kk,fF,i0,km⟩,-⟩:=a0.o.cells;refine l.o _ _ (λ_=>fF) ?_;clear l t N et hL eC e3 he G D ae al P a3 g9 R;try simp only[bG,cz,ct,cr]
   have N:(λh=>aJ h (U d.heap+1) 1 (ah ad (I a) ab)) bk:=fF;refine Un.on 7 λt l=>?_;go_simp;have ht:X (PF d (bk.alloc (ax #[bt bM (cg:Int)] 3)) eo (ah ad (I a) ab) (ah Z 0 0) 0 (a.map bp++[(⟨a9,(a8:Int)⟩:bF)]) (a.map eu) []):=a0.o.below ((bU _ _).alloc (aV _) _);refine l.o _ _ (λ_=>ht.o.cells.1.2.1) ?_;clear l t N;try simp only[bG,cz,ct,cr]
   refine Un.one (i:=8) bl Y (λt l=>?_);have R:=a0.o.gx;rw[ee] at R;have kF:=bC a0.o.file;refine step_append_lies _ (by rfl) _ _ 22 (by rfl) (U d.heap+1) 3 kc _ 1 8 aE.underlying22 dv j0 j1 j2 Y ay _ (I a) _ (by rfl) (R.alloc _) ⟨U bk.heap,0,Z⟩ 1 1 [bt bM (cg:Int)] (by rfl) Y (ot bk) (by intro g3 bo;simp at bo;subst bo;rfl) ay gy aa bO _ rfl ?_;intro dS dp cG gV ia h1 jO;have fu:=dA.k4 (n:=I a+1) (cap:=dp) ia h1;have il:aT cG (U d.heap+1) 3 1 (ah (K ⟨dS,0,Z⟩) (I a+1) dp) (I (a.map eu++[(cg:Int)])) (cW (a.map eu++[(cg:Int)])):=by
    unfold cW at gV ⊢;rw[gY,cN,ee];exact gV
   have d5:X (PF d (bg cG ⟨U d.heap+1,1,Z⟩ (ah (K ⟨dS,0,Z⟩) (I a+1) dp)) eo (ah (K ⟨dS,0,Z⟩) (I a+1) dp) (ah Z 0 0) 0 (a.map bp++[(⟨a9,(a8:Int)⟩:bF)]) (a.map eu++[(cg:Int)]) []):=a0.o.S1 fu il;have c2:X ((bg cG ⟨U d.heap+1,1,Z⟩ (ah (K ⟨dS,0,Z⟩) (I a+1) dp)).heap[U d.heap]? =K (rb s d2 J)):=PF.reader dk.o a0.o.gx fu;have⟨⟨cs,bR,bV,dq⟩,bY⟩:=a0.o.Cl a0.o.gx ay fu;have jb:=bY 1;refine l.o _ _ (λ_=>bR) ?_;clear l t R gV ia h1 jO il fu bY;try simp only[bG,cz,ct,cr]
   have N:(λh=>aJ h (U d.heap+1) 1 (ah ad (I a) ab)) cG:=bR;refine Un.pk 9 ?_;refine Un.pk 10 ?_;try simp only[bG,cz,ct,cr]
   refine Un.on 11 λt l=>?_;go_simp;refine l.o _ _ (λe=>absurd e ay) ?_;clear l t N cs bR bV dq jb kk fF i0 km;refine Un.done bl ?_ _;try simp only[bG,cz,ct,cr]
   clear a0 ht dk;generalize bg cG ⟨U d.heap+1,1,Z⟩ (ah (K ⟨dS,0,Z⟩) (I a+1) dp)=hD at*;generalize ah (K ⟨dS,0,Z⟩) (I a+1) dp=jc at*;have i2:X (HC (a++[((⟨a9,(a8:Int)⟩:bF),(cg:Int))])):=⟨λfE g1=>by
    rcases eG.1 g1 with e|e;exact fN.o.n fE e;simp at e;subst e;exact⟨ih,by show(0:Int)<=(a8:Int);omega,by show(a8:Int)<256;omega,by show(0:Int)<=(cg:Int);omega,by show(cg:Int)<256;omega⟩⟩
   clear jD jw ih jC fN;go_wp2_with fail
   go_roundw
   case rel=>exact⟨a++[((⟨a9,(a8:Int)⟩:bF),(cg:Int))],eo,jc,d2,J,by rw[cN];go_num,by rw[cN,rB];omega,i2.o,by rw[gY,gY];exact d5.o,gZ,c2.o,by rw[cN];exact fP.o⟩
   case measure=>simp[bw];omega
  .have jQ:b5=I a:=by omega
   have hf:X (∀c b,Hf s c b->w=ai/\c=a/\(bytesOf s).drop r=bc (I b)++gU (a.map bp) b):=λc b e=>by
    have⟨j,k,q,v⟩:=aC.o c b e;have y:c=a:=by rw[q,ja (by omega)]
    rw[y] at v;refine⟨j,y,?_⟩;rw[v,List.drop_length];simp[iI]
   clear aC jG gN;subst jQ;obtain⟨⟨G,D,ae,al⟩,-⟩:=B.o.cells;have⟨cp,W,h4⟩:=gG B.o.aj;have⟨ad,ab,h5⟩:=gG B.o.gx;rw[ee] at h4 h5;subst h4;subst h5;have gM:I (a.map bp)<=aS:=by rw[ee];unfold aS;omega
   have ib:I (a.map eu)<=aS:=by rw[ee];unfold aS;omega
   have fM:=ap (o7.gC B.o.aj);have ha:=ap (iC.gC B.o.gx);have g6:X (bn 102 #[ah cp (I a) W] wr λx bj=>∃c6,x=aR (ak c6)/\(c6=af↔nH (a.map bp))/\aD wr bj):=Rp (a.map bp) wr gM fM.o;have g7:X (∀h,aD wr h->bn 103 #[ah cp (I a) W,ah ad (I a) ab] h λx bj=>∃c6,x=aR (ak c6)/\(c6=af↔rY (a.map bp) (a.map eu))/\aD h bj):=λh fl=>R9 (a.map bp) (a.map eu) h gM ib (fM.o.below fl) (ha.o.lower fl);clear gM ib fM ha;go_wp2_with fail;refine g6.o.mono ?_;rintro x ci ⟨i7,rfl,er,eQ⟩;have cc:=ap er;have f8:X (PF d ci (ah cp (I a) W) (ah ad (I a) ab) (ah Z 0 0) 0 (a.map bp) (a.map eu) []):=B.o.below eQ;have f1:X (ci.heap[U d.heap]? =K (rb s r w)):=(eQ.block _ (bC aw.o)).trans aw.o;have g8:X (bn 103 #[ah cp (I a) W,ah ad (I a) ab] ci.drew λx bj=>∃c6,x=aR (ak c6)/\(c6=af↔rY (a.map bp) (a.map eu))/\aD ci.drew bj):=g7.o _ (eQ.trans ((bU (U ci.heap) ci).drew.mono eQ.size));clear er eQ g6 g7 G D ae al B aw;obtain⟨⟨G,D,ae,al⟩,-⟩:=f8.o.cells;go_upto_region 13 with fail;refine Un.open_ (λh=>aJ h (U d.heap+1) 0 (ah cp (I a) W)/\aJ h (U d.heap+1) 1 (ah ad (I a) ab)) 9 (λ_ _ _ _ _ e=>e) λdy=>?_;have N:(λh=>aJ h (U d.heap+1) 0 (ah cp (I a) W)/\aJ h (U d.heap+1) 1 (ah ad (I a) ab)) ci.drew:=⟨G,D⟩;refine Un.pk 0 ?_;refine Un.pk 1 ?_;refine Un.pk 2 ?_;refine Un.ld [9] 3 ?_;refine Un.pk 4 ?_;refine Un.pk 5 ?_;refine Un.pk 6 ?_;refine Un.ld [9] 7 ?_;try simp only[bG,cz,ct,cr]
   refine Un.on 8 λt l=>?_;go_simp;go_at_call 103;refine g8.o.mono ?_;rintro x g5 ⟨i8,rfl,gn,h2⟩;have gA:aD ci g5:=(bU (U ci.heap) ci).drew.trans h2;have fL:=ap gn;have dK:X (PF d g5 (ah cp (I a) W) (ah ad (I a) ab) (ah Z 0 0) 0 (a.map bp) (a.map eu) []):=f8.o.below gA;have fh:X (g5.heap[U d.heap]? =K (rb s r w)):=(gA.block _ (bC f1.o)).trans f1.o;have gz:=dK.o.cells.1;refine l.o _ _ (λ_=>⟨gz.1,gz.2.1⟩) ?_;clear l t N h2 gA gn f8 f1 g8 G D ae al gz;try simp only[bG,cz,ct,cr]
   refine Un.on 9 λt l=>?_;go_simp;refine l.o _ _ (λe=>absurd e ay) ?_;clear l t;try simp only[bG,cz,ct,cr]
   refine Un.done bl ?_ _;try simp only[bG,cz,ct,cr]
   go_wp2_with fail;refine(yo (U d.heap) r 2000 w s (by omega) b1 fx fh.o).mono ?_;rintro x ar ⟨a2,m,aH,aG,rfl,kB,cB,a6,b2,fz⟩;have dl:X (PF d ar (ah cp (I a) W) (ah ad (I a) ab) (ah Z 0 0) 0 (a.map bp) (a.map eu) []):=dK.o.kp a2;have ei:=ap a6;have bJ:X (∀c b,Hf s c b->aG=ai/\c=a/\I b=m/\(bytesOf s).drop aH=gU (a.map bp) b):=λc b e=>by
    have⟨j,k,q⟩:=hf.o c b e;have v:I b<=2000:=by
     have y:=e.1.rows;have L:I b<=eS b:=LC b (λw aZ=>(e.1.eV w aZ).lo);omega
    have⟨am,ao,a1⟩:=b2 _ v (wM q);exact⟨by rw[a1,j],k,am.symm,by rw[ao];exact wL q⟩
   have hQ:=a6;have⟨cM,cP,cb,cQ,cV,cY⟩:=nT hQ;have ck:=ap dl.o.j9;clear a2 a6 b2 fz dK fh hf hQ;cases i7
   .have bx:X (∀c b,oa c b->bytesOf s≠kZ c b):=λc b j k=>by
     have q:=(bJ.o c b ⟨j,k⟩).2.1;rw[q] at j;exact absurd (cc.o.2 j.pl.1) aF
    go_wp2;go_ret2;exact⟨ck.o,an ⟨_,rfl,bx.o⟩⟩
   cases i8
   .have bx:X (∀c b,oa c b->bytesOf s≠kZ c b):=λc b j k=>by
     have q:=(bJ.o c b ⟨j,k⟩).2.1;rw[q] at j;exact absurd (fL.o.2 j.pl.2) aF
    go_wp2;go_ret2;exact⟨ck.o,an ⟨_,rfl,bx.o⟩⟩
   cases aG;rotate_left
   .have bx:X (∀c b,oa c b->bytesOf s≠kZ c b):=λc b j k=>absurd (bJ.o c b ⟨j,k⟩).1 aF;go_wp2;go_ret2;exact⟨ck.o,an ⟨_,rfl,bx.o⟩⟩
   have ec:X (kV a):=⟨cc.o.1 Y,fL.o.1 Y⟩;clear cc fL ck;go_upto_region 17 with fail;clear cM cP cb cQ cV cY;have kv:1<=I a:=by have:=ec.o.1.1;simpa using this
   have jF:I a<=8:=by have:=ec.o.1.2.1;simpa using this
   obtain⟨aL,ju,-,-,-⟩:=Ex dl.o.aj (by rw[ee];omega);subst ju;have fX:=ap (JK ec.o);clear fN;go_wp2_with fail
   go_loopw [14] (λa7 wr=>∃(g:List (c9×F)) (V:F) (r:Nat) (w:Bool),a7=bt bM (I g:Int)/\I g<=m/\PF d wr (ah (K ⟨aL,0,Z⟩) (I a) W) (ah ad (I a) ab) V (eS (g.map bp)) (a.map bp) (a.map eu) g/\eS (g.map bp)<=I g*100/\r<=s.size/\wr.heap[U d.heap]? =K (rb s r w)/\(w=ai->∀O∈g,uR (a.map bp) O.1)/\
    (∀c b,Hf s c b->w=ai/\c=a/\I b=m/\g.map bp=b.take (I g)/\(bytesOf s).drop r=gU (a.map bp) (b.drop (I g)))) (λa7 _=>m-bS (bw a7))
   case atStart=>exact⟨[],_,aH,ai,rfl,cE _,dl.o,by simp[eS],cB,ei.o,λ_ O H=>by simp at H,λc b e=>by have⟨j,k,q,v⟩:=bJ.o c b e;exact⟨rfl,k,q,aF,by simpa using v⟩⟩
   case round=>
    clear dl ei bJ cB
    rename ag=>E
    obtain⟨g,V,r,w,rfl,jr,dZ,fy,dv,cu,hH,hF⟩:=hrel;have B:=ap dZ;have aw:=ap cu;have fV:=ap hH;have aC:=ap hF;have f2:=ap fy;have g0:eS (g.map bp)<=200000:=aa;have gn:=bC dZ.file;have⟨cM,cP,cb,cQ,cV,cY⟩:=nT cu;clear dZ cu hH hF fy;cases w;rotate_left
    .have bx:X (∀c b,oa c b->bytesOf s≠kZ c b):=λc b j k=>absurd (aC.o c b ⟨j,k⟩).1 aF;have ck:=ap B.o.j9;by_cases gN:I g<m
     .go_wp2;go_ret2;exact⟨ck.o,an ⟨_,rfl,bx.o⟩⟩
     go_wp2;go_ret2;exact⟨ck.o,an ⟨_,rfl,bx.o⟩⟩
    have dE:=ap (fV.o Y);by_cases gN:I g<m
    ·
     have dC:X (∀c b,Hf s c b->c=a/\I b=m/\g.map bp=b.take (I g)/\∃e:I g<I b,uR (a.map bp) b[I g]/\(bytesOf s).drop r=bc b[I g].rows++(mR (a.map bp) 0 b[I g].parts++gU (a.map bp) (b.drop (I g+1)))):=λc b e=>by
      have⟨j,k,q,v,y⟩:=aC.o c b e;have C:I g<I b:=aa;have h7:=e.1.eV _ (c8 C);rw[k] at h7;refine⟨k,q,v,C,h7,?_⟩;rw[y,pE C];unfold gU;rw[lD,Lf,iD]
     clear aC cM cP cb cQ cV cY;have cb:=(nT aw.o).2.2.1;go_upto_region 20 with fail;clear cb;go_wp2_with fail;refine(yo (U d.heap) r 100 ai s (by omega) b1 dv aw.o).mono ?_;rintro x ar ⟨a2,i,aH,aG,rfl,fv,cB,a6,b2,-⟩;have dT:PB d E (ar.alloc (ax #[bt bM (i:Int),ah Z 0 0] 122)) (U ar.heap) i (ah Z 0 0) []:=⟨jY ar _,iO _ _ _ _,a2.size,a2.alloc _⟩;have dX:(ar.alloc (ax #[bt bM (i:Int),ah Z 0 0] 122)).heap[U d.heap]? =K (rb s aH aG):=by rw[e6 _ _ _ (bC a6)];exact a6
     have bJ:X (∀c b,Hf s c b->aG=ai/\c=a/\I b=m/\g.map bp=b.take (I g)/\∃e:I g<I b,uR (a.map bp) b[I g]/\b[I g].rows=i/\(bytesOf s).drop aH=mR (a.map bp) 0 b[I g].parts++gU (a.map bp) (b.drop (I g+1))):=λc b e=>by
      have⟨k,q,v,C,y,L⟩:=dC.o c b e;have⟨am,ao,a1⟩:=b2 _ y.hi (wM L);exact⟨a1,k,q,v,C,y,am.symm,by rw[ao];exact wL L⟩
     go_upto_region 21 with fail;generalize ar.alloc (ax #[bt bM (i:Int),ah Z 0 0] 122)=hB at*;generalize U ar.heap=n at*;have d9:X (PB d E hB n i (ah Z 0 0) []):=dT;have c1:=ap dX;clear a2 a6 b2 dT dX dC fV aw;clear ar;go_wp2_with fail
     go_loopw [16] (λa7 iW=>∃(f:List e8) (iR:F) (r:Nat) (w:Bool),a7=bt bM (I f:Int)/\I f<=I a/\PB d E iW n i iR f/\r<=s.size/\iW.heap[U d.heap]? =K (rb s r w)/\(w=ai->nY (AA (a.map bp)) f)/\
      (∀c b,Hf s c b->w=ai/\c=a/\I b=m/\g.map bp=b.take (I g)/\∃e:I g<I b,uR (a.map bp) b[I g]/\b[I g].rows=i/\f=b[I g].parts.take (I f)/\(bytesOf s).drop r=mR (a.map bp) (I f) (b[I g].parts.drop (I f))++gU (a.map bp) (b.drop (I g+1)))) (λa7 _=>I a-bS (bw a7))
     case atStart=>exact⟨[],_,aH,aG,rfl,cE _,d9.o,cB,c1.o,λ_ a7 C=>by simp at C,λc b e=>by have⟨j,k,q,v,C,y,L,a5⟩:=bJ.o c b e;exact⟨j,k,q,v,C,y,L,aF,by simpa using a5⟩⟩
     case round=>
      clear d9 c1 bJ cB;obtain⟨f,iR,r,w,rfl,kE,dT,dv,cu,er,hF⟩:=hrel;have cd:=ap dT;have aw:=ap cu;have cc:=ap er;have aC:=ap hF;obtain⟨p,o,rfl⟩:=gG dT.own;clear dT cu er hF;by_cases ie:I f<I a
      .have gJ:I f<I (a.map bp):=by rw[ee];exact ie
       have dI:=ap (fX.o _ gJ);have hh:X ((aX (a.map bp) (I f) ⟨⟨#[]⟩,0⟩).kind=(a.map bp)[I f].kind):=by show _=_;rw[ep,dH gJ];rfl
       have c0:X (∀h,Kp (U d.heap) E h->aJ h (U d.heap+1) 0 (ah (K ⟨aL,0,Z⟩) (I a) W)/\aJ h aL (I f*2+1) (bt bM (a.map bp)[I f].kind)):=λh fa=>⟨(B.o.kp fa).cells.1.1,(B.o.kp fa).kind _ gJ⟩;have hi:X (∀aM,bB (ah p (I f) o)=K aM->aM<U wr.heap):=λaM e=>(cd.o.own.lt aM e).2;have kt:=bC cd.o.box;have jq:U E.heap<=U wr.heap:=cd.o.kp.size;generalize jE:(a.map bp)[I f].kind=S at*;clear jE;go_wp2_with fail;refine(yo (U d.heap) r 65536 w s (by omega) b1 dv aw.o).mono ?_;rintro x ar ⟨a2,T,aH,aG,rfl,iz,cB,a6,b2,fz⟩;have gv:PP d E (ar.alloc (ax (cX (eN ⟨T,hY,⟨#[]⟩⟩)) 128)) n i (ah p (I f) o) f (U ar.heap) T hY:=⟨(cd.o.step aa a2).below aa ((bU _ _).alloc (aV _) _),jY ar _,λe=>by have:=hi.o _ e;have:=a2.size;omega,by have:=a2.size;omega,dj jq a2.size⟩;have dX:(ar.alloc (ax (cX (eN ⟨T,hY,⟨#[]⟩⟩)) 128)).heap[U d.heap]? =K (rb s aH aG):=by rw[e6 _ _ _ (bC a6)];exact a6
       have hx:=ap b2;have hu:=ap fz;rw[show cX (eN ⟨T,hY,⟨#[]⟩⟩)=#[bt bM (T:Int),ak ai,ak ai,bt bM 0,au ⟨#[]⟩,ak ai,bt bM 0,au ⟨#[]⟩,au ⟨#[]⟩] from rfl] at gv dX;clear a6 b2 fz;go_upto_region 25 with fail;generalize ar.alloc (ax #[bt bM (T:Int),ak ai,ak ai,bt bM 0,au ⟨#[]⟩,ak ai,bt bM 0,au ⟨#[]⟩,au ⟨#[]⟩] 128)=hB at*;generalize U ar.heap=e at*;have d9:=ap gv;have c1:=ap dX;clear gv dX a2 cd aw;clear ar;go_wp2_with fail;refine(F4 (U d.heap) aH aG s _ b1 cB c1.o).mono ?_;rintro x d3 ⟨es,da,b7,cn,rfl,jx,e1,ey,e2,iw⟩;have fY:X (PP d E d3 n i (ah p (I f) o) f e T hY):=d9.o.step aa es;have dg:=ap ey;have fi:=ap e2;have f9:=ap iw;clear es ey e2 iw d9 c1
       go_upto_if 119 with fail
       go_cut [] from 118 to 122 (λfb=>∃co,PP d E fb n i (ah p (I f) o) f e T hY/\fb.heap[U d.heap]? =K (rb s b7 co)/\((da<=1/\co=cn)\/(1<da/\co=af)))
       case first=>
        have⟨cM,cP,cb,cQ,cV,cY⟩:=nT dg.o;by_cases j:1<da
        .have dc:decide ((1:Int)<(da:Int))=af:=by simp;omega
         have i4:X (PP d E (bg d3 ⟨U d.heap,2,Z⟩ (ak af)) n i (ah p (I f) o) f e T hY):=fY.o.step aa (Kp.tF (Kp.refl _ _));have i5:=ap (wH dg.o);go_wp2
         go_meet
         exact⟨af,i4.o,i5.o,an ⟨j,rfl⟩⟩
        have dc:decide ((1:Int)<(da:Int))=ai:=bO;go_wp2
        go_meet
        exact⟨cn,fY.o,dg.o,aq ⟨aa,rfl⟩⟩
       case rest=>
        have⟨co,Q,bm,h6⟩:=hcut
        rename ag=>M
        have aI:=ap Q;have cf:=ap bm;have dC:=ap h6;clear Q bm h6 fY dg
        go_upto_if 124 with fail
        go_cut [19,20,21] from 123 to 186 (λkH kI kJ fb=>∃bI dB dm,PP d E fb n i (ah p (I f) o) f e T bI/\fb.heap[U d.heap]? =K (rb s dB dm)/\RB s S aH aG bI dB dm)
        case first=>
         by_cases j:da=1
         .have js:co=cn:=by rcases dC.o with⟨-,e⟩|⟨e,-⟩;exact e;omega
          subst js;subst j;have⟨⟨br,bs,ba,bb,bd,be,bh,bi,bu⟩,bH⟩:=aI.o.cells;have je:=bH 1;go_upto_region 30 with fail;have gq:PP d E (bg M ⟨e,1,Z⟩ (ak af)) n i (ah p (I f) o) f e T ⟨af,hY.least,hY.most⟩:=PP.VN (x:=hY) aI.o;have ch:(bg M ⟨e,1,Z⟩ (ak af)).heap[U d.heap]? =K (rb s b7 co):=aI.o.W5 aa cf.o;clear br bs ba bb bd be bh bi bu bH je;generalize bg M ⟨e,1,Z⟩ (ak af)=u at*;have df:=ap gq;have a3:=ap ch;have⟨G,D⟩:=c0.o u gq.pb.kp;clear gq ch aI cf;go_wp2_with fail;refine(Gp S dI.o (U d.heap) b7 co s b1 e1 a3.o).mono ?_;rintro x bk ⟨et,z,rfl,iG,d2,J,gZ,eC,e3,ix⟩;have ge:=ap iG;have hy:=ap e3;have hv:=ap ix;have gr:=df.o.step aa et;have eb:=ap gr;have dk:=ap eC;have⟨⟨br,bs,ba,bb,bd,be,bh,bi,bu⟩,bH⟩:=gr.cells;have jf:=bH 2;have jg:=bH 3;have jl:=bH 4;clear G D iG e3 ix gr eC et df a3;go_upto_region 31 with fail;have gs:=eb.o.VQ z;have hT:(bg (bg (bg bk ⟨e,2,Z⟩ (ak z.null)) ⟨e,3,Z⟩ (bt bM z.n)) ⟨e,4,Z⟩ (au z.s)).heap[U d.heap]? =K (rb s d2 J):=eb.o.Lg aa dk.o;clear br bs ba bb bd be bh bi bu bH jf jg jl;generalize bg (bg (bg bk ⟨e,2,Z⟩ (ak z.null)) ⟨e,3,Z⟩ (bt bM z.n)) ⟨e,4,Z⟩ (au z.s)=hC at*;have hk:=ap gs;have hn:=ap hT;have⟨G,D⟩:=c0.o hC gs.pb.kp;clear gs hT eb dk;clear bk u;go_wp2_with fail;refine(Gp S dI.o (U d.heap) d2 J s b1 gZ hn.o).mono ?_;rintro x cG ⟨hM,A,rfl,iH,ca,c5,jV,hU,iF,iy⟩;have gf:=ap iH;have hz:=ap iF;have hw:=ap iy;have gt:=hk.o.step aa hM;have fZ:=ap gt;have c2:=ap hU;have⟨⟨br,bs,ba,bb,bd,be,bh,bi,bu⟩,bH⟩:=gt.cells;have jn:=bH 5;have jo:=bH 6;have jp:=bH 7;clear G D iH iF iy gt hU hM hk hn;go_upto_region 32 with fail;have hN:=fZ.o.VS A;have hV:(bg (bg (bg cG ⟨e,5,Z⟩ (ak A.null)) ⟨e,6,Z⟩ (bt bM A.n)) ⟨e,7,Z⟩ (au A.s)).heap[U d.heap]? =K (rb s ca c5):=fZ.o.Lg aa c2.o;clear br bs ba bb bd be bh bi bu bH jn jo jp;generalize bg (bg (bg cG ⟨e,5,Z⟩ (ak A.null)) ⟨e,6,Z⟩ (bt bM A.n)) ⟨e,7,Z⟩ (au A.s)=c4 at*;have fd:=ap hN;have f3:=ap hV;clear hN hV fZ c2;clear cG hC;obtain⟨⟨br,bs,ba,bb,bd,be,bh,bi,bu⟩,-⟩:=fd.o.cells;have⟨G,D⟩:=c0.o c4 fd.o.pb.kp;have d7:X (bn 47 #[cw (dF z),bt bM S] c4.drew λx bj=>x=aR (ak (gT z S))/\aD c4.drew bj):=x4 z S _ dI.o;refine Un.open_ (λh=>(aJ h e 2 (ak z.null)/\aJ h e 3 (bt bM z.n)/\aJ h e 4 (au z.s))/\aJ h (U d.heap+1) 0 (ah (K ⟨aL,0,Z⟩) (I a) W)/\aJ h aL (I f*2+1) (bt bM S)) 11 (λ_ _ _ _ _ e=>e) λdy=>?_;have N:(λh=>(aJ h e 2 (ak z.null)/\aJ h e 3 (bt bM z.n)/\aJ h e 4 (au z.s))/\aJ h (U d.heap+1) 0 (ah (K ⟨aL,0,Z⟩) (I a) W)/\aJ h aL (I f*2+1) (bt bM S)) c4.drew:=⟨⟨ba,bb,bd⟩,G,D⟩;refine Un.pk 0 ?_;refine Un.ld [11] 1 ?_;refine Un.pk 2 ?_;refine Un.pk 3 ?_;refine Un.pk 4 ?_;refine Un.ld [11] 5 ?_;refine Un.pk 6 ?_;refine Un.pk 7 ?_;refine Un.pk 8 ?_;refine Un.ld [11] 9 ?_;try simp only[bG,cz,ct,cr]
          refine Un.on 10 λt l=>?_;go_simp;go_at_call 47;refine d7.o.mono ?_;rintro x bD ⟨rfl,cy⟩;have du:aD c4 bD:=(bU (U c4.heap) c4).drew.trans cy;have dJ:X (PP d E bD n i (ah p (I f) o) f e T ⟨af,z,A⟩):=fd.o.below aa du;have f4:X (bD.heap[U d.heap]? =K (rb s ca c5)):=(du.block _ (bC f3.o)).trans f3.o;have cA:=dJ.o.cells.1;have eR:=c0.o bD dJ.o.pb.kp;refine l.o _ _ (λ_=>⟨⟨cA.2.2.1,cA.2.2.2.1,cA.2.2.2.2.1⟩,eR⟩) ?_;clear l t N cy du cA eR br bs ba bb bd be bh bi bu G D d7 fd f3;try simp only[bG,cz,ct,cr]
          refine Un.on 11 λt l=>?_;go_simp;refine l.o _ _ (λe=>absurd e ay) ?_;clear l t;try simp only[bG,cz,ct,cr]
          refine Un.done bl ?_ _;try simp only[bG,cz,ct,cr]
          clear c4;go_upto_region 33 with fail;obtain⟨⟨br,bs,ba,bb,bd,be,bh,bi,bu⟩,-⟩:=dJ.o.cells;have⟨G,D⟩:=c0.o bD dJ.o.pb.kp;have d7:X (bn 47 #[cw (dF A),bt bM S] bD.drew λx bj=>x=aR (ak (gT A S))/\aD bD.drew bj):=x4 A S _ dI.o;refine Un.open_ (λh=>(aJ h e 5 (ak A.null)/\aJ h e 6 (bt bM A.n)/\aJ h e 7 (au A.s))/\aJ h (U d.heap+1) 0 (ah (K ⟨aL,0,Z⟩) (I a) W)/\aJ h aL (I f*2+1) (bt bM S)) 11 (λ_ _ _ _ _ e=>e) λdy=>?_;have N:(λh=>(aJ h e 5 (ak A.null)/\aJ h e 6 (bt bM A.n)/\aJ h e 7 (au A.s))/\aJ h (U d.heap+1) 0 (ah (K ⟨aL,0,Z⟩) (I a) W)/\aJ h aL (I f*2+1) (bt bM S)) bD.drew:=⟨⟨be,bh,bi⟩,G,D⟩;refine Un.pk 0 ?_;refine Un.ld [11] 1 ?_;refine Un.pk 2 ?_;refine Un.pk 3 ?_;refine Un.pk 4 ?_;refine Un.ld [11] 5 ?_;refine Un.pk 6 ?_;refine Un.pk 7 ?_;refine Un.pk 8 ?_;refine Un.ld [11] 9 ?_;try simp only[bG,cz,ct,cr]
          refine Un.on 10 λt l=>?_;go_simp;go_at_call 47;refine d7.o.mono ?_;rintro x el ⟨rfl,cy⟩;have du:aD bD el:=(bU (U bD.heap) bD).drew.trans cy;have eh:X (PP d E el n i (ah p (I f) o) f e T ⟨af,z,A⟩):=dJ.o.below aa du;have f5:X (el.heap[U d.heap]? =K (rb s ca c5)):=(du.block _ (bC f4.o)).trans f4.o;have cA:=eh.o.cells.1;have eR:=c0.o el eh.o.pb.kp;refine l.o _ _ (λ_=>⟨⟨cA.2.2.2.2.2.1,cA.2.2.2.2.2.2.1,cA.2.2.2.2.2.2.2.1⟩,eR⟩) ?_;clear l t N cy du cA eR br bs ba bb bd be bh bi bu G D d7 dJ f4;try simp only[bG,cz,ct,cr]
          refine Un.on 11 λt l=>?_;go_simp;refine l.o _ _ (λe=>absurd e ay) ?_;clear l t;try simp only[bG,cz,ct,cr]
          refine Un.done bl ?_ _;try simp only[bG,cz,ct,cr]
          clear bD;obtain⟨⟨br,bs,ba,bb,bd,be,bh,bi,bu⟩,-⟩:=eh.o.cells;have iJ:z.s.size<=aS:=by have:=ge.o.sz;unfold aS;omega
          have iK:A.s.size<=aS:=by have:=gf.o.sz;unfold aS;omega
          go_wp2_with fail;refine(AV A z _ iK iJ).mono ?_;rintro x gg ⟨rfl,gB⟩;have hl:X (PP d E gg n i (ah p (I f) o) f e T ⟨af,z,A⟩):=eh.o.below aa gB;have f6:X (gg.heap[U d.heap]? =K (rb s ca c5)):=(gB.block _ (bC f5.o)).trans f5.o;have cZ:X (∀gj,(gj=if gT z S=af/\gT A S=af/\¬gp A z<0 then c5 else af)->RB s S aH aG ⟨af,z,A⟩ ca gj):=λgj fm=>RB.one dI.o jV fi.o f9.o Y ge.o hy.o hv.o gf.o hz.o hw.o fm;have⟨cM,cP,cb,cQ,cV,cY⟩:=nT f6.o;have f0:X (PP d E (bg gg ⟨U d.heap,2,Z⟩ (ak af)) n i (ah p (I f) o) f e T ⟨af,z,A⟩):=hl.o.step aa (Kp.tF (Kp.refl _ _));have f7:=ap (wH f6.o);clear br bs ba bb bd be bh bi bu iJ iK gB eh f5 hy hv hz hw ge gf c0;clear el;cases gS:gT z S
          .rw[gS] at cZ;go_wp2
           go_meet
           exact⟨_,ca,af,f0.o,f7.o,cZ.o af aF⟩
          cases ig:gT A S
          .rw[gS,ig] at cZ;go_wp2
           go_meet
           exact⟨_,ca,af,f0.o,f7.o,cZ.o af aF⟩
          by_cases d1:gp A z<0
          .have jv:decide (gp A z<0)=af:=by simpa using d1
           have fG:X (RB s S aH aG ⟨af,z,A⟩ ca af):=cZ.o af (by rw[if_neg (λe=>e.2.2 d1)]);clear cZ d1;go_wp2
           go_meet
           exact⟨_,ca,af,f0.o,f7.o,fG.o⟩
          have jv:decide (gp A z<0)=ai:=by simpa using d1
          have fG:X (RB s S aH aG ⟨af,z,A⟩ ca c5):=cZ.o c5 (by rw[if_pos ⟨gS,ig,d1⟩]);clear cZ d1;go_wp2
          go_meet
          exact⟨_,ca,c5,hl.o,f6.o,fG.o⟩
         have fh:X (RB s S aH aG hY b7 co):=by
          rcases dC.o with⟨k,q⟩|⟨k,q⟩;rw[q];exact RB.zero e1 fi.o f9.o aa;rw[q];exact RB.many e1 fi.o k
         have dc:((da:Int)==1)=ai:=bO;have ks:¬(da:Int)=1:=aa;go_wp2
         go_meet
         exact⟨hY,b7,co,aI.o,cf.o,fh.o⟩
        case rest=>
         have⟨bI,dB,dm,Q,bm,gw⟩:=hcut
         rename ag=>g4
         have ho:=ap gw;have df:=ap Q;have a3:=ap bm;have jU:dB<=s.size:=gw.le;obtain⟨⟨br,bs,ba,bb,bd,be,bh,bi,bu⟩,-⟩:=Q.cells;have⟨aY,a4,db⟩:=Q.pb.cells;have R:=Q.pb.own;have iQ:U E.heap<=U g4.heap:=Q.pb.kp.size;clear Q bm gw aI cf dC c0 hi;go_upto_region 23 with(at_builtin;refine wpList_append_lies _ Y _ _ 120 Y (U E.heap) 128 kg _ 9 96 aE.underlying120 bo jX fB jZ Y ay _ (I f) _ Y (R.alloc _) ⟨U g4.heap,0,Z⟩ 1 1 (eN ⟨T,bI,⟨#[]⟩⟩) Y Y (UB g4) UC (by decide) (by unfold aS;omega) aa bO _ Y ?_;intro fk em bk ip h9 h0 jN;have ft:=dA.k4 (n:=I f+1) (cap:=em) h9 h0;have⟨cs,bR⟩:=df.o.pb.kept ft);have ik:aT bk (U E.heap) 128 9 (ah (K ⟨fk,0,Z⟩) (I f+1) em) (I (f++[(⟨T,bI,⟨#[]⟩⟩:e8)])) ((f++[(⟨T,bI,⟨#[]⟩⟩:e8)]).flatMap eN):=by
          rw[oI,pF,cN];exact ip
         have eb:=ap (df.o.pb.oQ ft ik);unfold aI at eb;have dk:X ((bg bk ⟨n,1,Z⟩ (ah (K ⟨fk,0,Z⟩) (I f+1) em)).heap[U d.heap]? =K (rb s dB dm)):=df.o.pb.reader aa ft a3.o;clear br bs ba bb bd be bh bi bu aY a4 db R ip h9 h0 jN ik ft cs bR df a3;generalize bg bk ⟨n,1,Z⟩ (ah (K ⟨fk,0,Z⟩) (I f+1) em)=kn at*;generalize ah (K ⟨fk,0,Z⟩) (I f+1) em=kb at*;have fw:=RB.part (cs:=a.map bp) (i:=I f) iz hx.o hu.o (by rw[hh.o];exact ho.o);have i1:X (dm=ai->nY (AA (a.map bp)) (f++[(⟨T,bI,⟨#[]⟩⟩:e8)])):=λaZ=>(cc.o (fw.1 aZ).1).snoc (fw.1 aZ).2;have fP:X (∀c b,Hf s c b->dm=ai/\c=a/\I b=m/\g.map bp=b.take (I g)/\∃e:I g<I b,uR (a.map bp) b[I g]/\b[I g].rows=i/\f++[(⟨T,bI,⟨#[]⟩⟩:e8)]=b[I g].parts.take (I f+1)/\(bytesOf s).drop dB=mR (a.map bp) (I f+1) (b[I g].parts.drop (I f+1))++gU (a.map bp) (b.drop (I g+1))):=λc b eW=>by
          have⟨j,k,q,v,C,y,L,a5,az⟩:=aC.o c b eW;have gK:I f<b[I g].parts.length:=by rw[y.len,ee];exact ie
          rw[pE gK,mR,iD] at az;have⟨am,ao,a1⟩:=fw.2 b[I g].parts[I f] _ (y.each _ gK) az;exact⟨by rw[ao,j],k,q,v,C,y,L,Ds a5 gK am,a1⟩
         clear fw ho hx hu fi f9 cc aC hh dI iz jx;go_wp2_with fail
         go_roundw
         case rel=>exact⟨f++[(⟨T,bI,⟨#[]⟩⟩:e8)],kb,dB,dm,by rw[cN];go_num,by rw[cN,rB];omega,eb.o,jU,dk.o,i1.o,by rw[cN];exact fP.o⟩
         case measure=>simp[bw];omega
      .have fc:X (I f=I a):=by show _=_;omega
       have⟨cM,cP,cb,cQ,cV,cY⟩:=nT aw.o;have⟨aY,a4,db⟩:=cd.o.cells;by_cases j:i=0
       .have dc:decide ((i:Int)=0)=af:=by simp;omega
        have Q:PB d E (bg wr ⟨U d.heap,2,Z⟩ (ak af)) n i (ah p (I f) o) f:=cd.o.step aa (Kp.tF (Kp.refl _ _));have bm:=wH aw.o;have fg:=ap j;have gI:((i:Int)==0)=af:=bO;clear j;go_upto_region 40 with fail;clear dc gI cM cP cb cQ cV cY aY a4 db;generalize bg wr ⟨U d.heap,2,Z⟩ (ak af)=M at*;have cy:∃J,J=af:=⟨_,rfl⟩;have⟨J,dt⟩:=cy;rw[<-dt] at bm;have eP:(i=0/\J=af)\/(1<=i/\J=w):=aq ⟨fg.o,dt⟩;clear dt;have dd:=ap eP;have cl:=ap (B.o.kp Q.kp);have aI:=ap Q;have cf:=ap bm;have⟨aY,a4,db⟩:=Q.cells;have⟨⟨G,D,ae,al⟩,bE⟩:=cl.o.cells;have gl:=bE 3;have d4:X (∀O∈g,∀aM,bB O.2=K aM->bB (ah p (I f) o)≠K aM):=λO H aM j k=>by
         have am:=((B.o.each O H).lt aM j).2;have ao:=(aI.o.own.lt aM k).1;omega
        have jy:U E.heap<=n:=Q.iu;have d6:X (bB V≠K n):=λe=>by have:=(B.o.own.lt n e).2;omega
        clear Q bm eP cd aw B;refine Un.open_ (λh=>aJ h (U d.heap+1) 3 (bt bM (eS (g.map bp):Int))/\aJ h n 0 (bt bM (i:Int))) 10 (λ_ _ _ _ _ e=>e) λdy=>?_;have N:(λh=>aJ h (U d.heap+1) 3 (bt bM (eS (g.map bp):Int))/\aJ h n 0 (bt bM (i:Int))) M.drew:=⟨al,aY⟩;refine Un.pk 0 ?_;refine Un.pk 1 ?_;refine Un.pk 2 ?_;refine Un.pk 3 ?_;refine Un.ld [10] 4 ?_;refine Un.pk 5 ?_;refine Un.ld [10] 6 ?_;refine Un.pk 7 ?_;refine Un.pk 8 ?_;refine Un.pk 9 ?_;try simp only[bG,cz,ct,cr]
        refine Un.on 10 λt l=>?_;go_simp;refine l.o _ _ (λe=>absurd e ay) ?_;clear l t N;refine Un.done bl ?_ _;try simp only[bG,cz,ct,cr]
        rw[NC g0 fv];have cv:PF d (bg M ⟨U d.heap+1,3,Z⟩ (bt bM ((eS (g.map bp)+i:Nat):Int))) (ah (K ⟨aL,0,Z⟩) (I a) W) (ah ad (I a) ab) V (eS (g.map bp)+i) (a.map bp) (a.map eu) g:=cl.o.KN;have ch:(bg M ⟨U d.heap+1,3,Z⟩ (bt bM ((eS (g.map bp)+i:Nat):Int))).heap[U d.heap]? =K (rb s r J):=by rw[ef _ _ _ _ (by simp)];exact cf.o
        have cx:(bg M ⟨U d.heap+1,3,Z⟩ (bt bM ((eS (g.map bp)+i:Nat):Int))).heap[n]? =K (ax #[bt bM (i:Int),(ah p (I f) o)] 122 (0,0)):=by rw[ef _ _ _ _ (by simp;omega)];exact aI.o.box
        have ds:aT (bg M ⟨U d.heap+1,3,Z⟩ (bt bM ((eS (g.map bp)+i:Nat):Int))) (U d.heap+1) 128 9 (ah p (I f) o) (I f) (f.flatMap eN):=by
         have:=j6 aI.o.own (show U d.heap+1<=U E.heap by omega);exact this.kept (eJ M _ 3 _) (an (ew this cl.o.file ay).symm)
        rw[show((eS (g.map bp)+i:Nat):Int)=(eS (g.map bp):Int)+(i:Int) from by omega] at cv ch cx ds;clear aY a4 db G D ae al bE gl cl aI cf;generalize bg M ⟨U d.heap+1,3,Z⟩ (bt bM ((eS (g.map bp):Int)+(i:Int)))=u at*;have P:=ap cv;have a3:=ap ch;have bN:=ap cx;have d8:=ap ds;have⟨⟨G,D,ae,al⟩,bE⟩:=cv.cells;have⟨aY,a4⟩:=wU cx;clear cv ch cx ds bE;go_upto_region 41 with fail;refine Un.open_ (λh=>aJ h (U d.heap+1) 2 V/\aJ h n 0 (bt bM (i:Int))/\aJ h n 1 (ah p (I f) o)) 10 (λ_ _ _ _ _ e=>e) λdy=>?_;have N:(λh=>aJ h (U d.heap+1) 2 V/\aJ h n 0 (bt bM (i:Int))/\aJ h n 1 (ah p (I f) o)) u.drew:=⟨ae,aY,a4⟩;refine Un.pk 0 ?_;refine Un.pk 1 ?_;refine Un.pk 2 ?_;refine Un.pk 3 ?_;refine Un.ld [10] 4 ?_;refine Un.ld [10] 5 ?_;try simp only[bG,cz,ct,cr]
        refine Un.on 6 λt l=>?_;go_simp;have a0:X (PF d (u.drew.alloc (ax (cX (ir (⟨i,f⟩,(ah p (I f) o)))) 122)) (ah (K ⟨aL,0,Z⟩) (I a) W) (ah ad (I a) ab) V (eS (g.map bp)+i) (a.map bp) (a.map eu) g):=P.o.below (((bU (U u.heap) u).drew).alloc (aV _) _);have eI:(u.drew.alloc (ax (cX (ir (⟨i,f⟩,(ah p (I f) o)))) 122)).heap[n]? =K (ax #[bt bM (i:Int),(ah p (I f) o)] 122 (0,0)):=alloc_old (bC (show u.drew.heap[n]? =_ from bN.o)) (show u.drew.heap[n]? =_ from bN.o);have⟨b3,b4⟩:=wU eI;refine l.o _ _ (λ_=>⟨a0.o.cells.1.2.2.1,b3,b4⟩) ?_;clear l t N;try simp only[bG,cz,ct,cr]
        refine Un.one (i:=7) bl Y (λt l=>?_);have R:=P.o.own;have iQ:=bC P.o.file;refine step_append_lies _ (by rfl) _ _ 111 (by rfl) (U d.heap+1) 122 iV _ 2 32 aE.underlying111 iq is it iv Y ay V (I g) _ (by rfl) ((eM R (bU _ _).drew).alloc _) ⟨U u.heap,0,Z⟩ 1 1 (ir (⟨i,f⟩,(ah p (I f) o))) (by rfl) Y (Nj u.drew) (by intro g3 bo;simp[ir] at bo;rcases bo with rfl|rfl<;>rfl) ay gy aa bO _ rfl ?_;intro bZ bP bv e0 eX eL gR;have b0:dA u bv V (ah (K ⟨bZ,0,Z⟩) (I g+1) bP):=Cg (Cg (dA.k4 (w:=u.drew.drew) (o:=ax (cX (ir (⟨i,f⟩,ah p (I f) o))) 122) (show jj _ _ _ from eX) eL));have eZ:aT bv (U d.heap+1) 122 2 (ah (K ⟨bZ,0,Z⟩) (I g+1) bP) (I (g++[((⟨i,f⟩:c9),ah p (I f) o)])) ((g++[((⟨i,f⟩:c9),ah p (I f) o)]).flatMap ir):=by
         rw[oI,pF,cN];exact e0
        have d5:=ap (P.o.Jv b0 d8.o d4.o eZ);have c2:X ((bg bv ⟨U d.heap+1,2,Z⟩ (ah (K ⟨bZ,0,Z⟩) (I g+1) bP)).heap[U d.heap]? =K (rb s r J)):=PF.reader a3.o P.o.own b0;have⟨⟨cs,bR,bV,dq⟩,bY⟩:=P.o.Cl P.o.own ay b0;have gm:=bY 2;have eK:bv.heap[n]? =K (ax #[bt bM (i:Int),(ah p (I f) o)] 122 (0,0)):=(b0.dR.block n (bC bN.o) (λx=>d6.o x.symm)).trans bN.o;have⟨b3,b4⟩:=wU eK;refine l.o _ _ (λ_=>⟨bV,b3,b4⟩) ?_;clear l t R e0 eX eL gR eZ b0 bY eK eI;try simp only[bG,cz,ct,cr]
        have N:(λh=>aJ h (U d.heap+1) 2 V/\aJ h n 0 (bt bM (i:Int))/\aJ h n 1 (ah p (I f) o)) bv:=⟨bV,b3,b4⟩;refine Un.pk 8 ?_;refine Un.pk 9 ?_;try simp only[bG,cz,ct,cr]
        refine Un.on 10 λt l=>?_;go_simp;refine l.o _ _ (λe=>absurd e ay) ?_;clear l t N cs bR bV dq gm b3 b4 G D ae al aY a4;refine Un.done bl ?_ _;try simp only[bG,cz,ct,cr]
        clear P a0 a3 bN d8 d4 d6;generalize bg bv ⟨U d.heap+1,2,Z⟩ (ah (K ⟨bZ,0,Z⟩) (I g+1) bP)=hD at*;generalize ah (K ⟨bZ,0,Z⟩) (I g+1) bP=gi at*;have ej:X (eS ((g++[((⟨i,f⟩:c9),ah p (I f) o)]).map bp)=eS (g.map bp)+i):=by show _=_;rw[gY,sg,LD]
        have fW:X (J=ai->∀O∈g++[((⟨i,f⟩:c9),ah p (I f) o)],uR (a.map bp) O.1):=λaZ O H=>by
         rcases eG.1 H with H|H;exact dE.o O H;simp at H;subst H;rcases dd.o with⟨-,k⟩|⟨j,k⟩;rw[k] at aZ;cases aZ;exact⟨j,fv,by show I f=_;rw[ee];exact fc.o,cc.o (by rw[<-k];exact aZ)⟩
        have fO:X (∀c b,Hf s c b->J=ai/\c=a/\I b=m/\(g++[((⟨i,f⟩:c9),ah p (I f) o)]).map bp=b.take (I g+1)/\(bytesOf s).drop r=gU (a.map bp) (b.drop (I g+1))):=λc b eW=>by
         have⟨j,k,q,v,C,y,L,a5,az⟩:=aC.o c b eW;have eY:b[I g].parts.length=I f:=by rw[y.len,ee,fc.o]
         rw[<-eY,iZ] at a5;rw[<-eY,List.drop_length,mR,tW] at az;refine⟨?_,k,q,?_,az⟩;rcases dd.o with⟨eq,-⟩|⟨-,eq⟩;have:=y.lo;omega;rw[eq,j];rw[gY,sg];refine Ds v C ?_;generalize b[I g]=g2 at*;have⟨kd,ke⟩:=g2;simp only at L a5;rw[L,a5]
        clear dd cc aC dE;have fy:=f2.o;go_wp2_with fail
        go_roundw
        case rel=>exact⟨g++[((⟨i,f⟩:c9),ah p (I f) o)],gi,r,J,by rw[cN];go_num,by rw[cN,rB];omega,by rw[ej.o];exact d5.o,by rw[ej.o,cN,rB];omega,dv,c2.o,fW.o,by rw[cN];exact fO.o⟩
        case measure=>simp[bw];omega
       .have dc:decide ((i:Int)=0)=ai:=by simp;omega
        have Q:PB d E wr n i (ah p (I f) o) f:=cd.o;have bm:wr.heap[U d.heap]? =K (rb s r w):=aw.o;have gI:((i:Int)==0)=ai:=bO;go_upto_region 40 with fail;clear dc gI cM cP cb cQ cV cY aY a4 db;have cy:∃J,J=w:=⟨_,rfl⟩;have⟨J,dt⟩:=cy;rw[<-dt] at bm;have eP:(i=0/\J=af)\/(1<=i/\J=w):=an ⟨aa,dt⟩;clear dt;generalize wr=M at*;have dd:=ap eP;have cl:=ap (B.o.kp Q.kp);have aI:=ap Q;have cf:=ap bm;have⟨aY,a4,db⟩:=Q.cells;have⟨⟨G,D,ae,al⟩,bE⟩:=cl.o.cells;have gl:=bE 3;have d4:X (∀O∈g,∀aM,bB O.2=K aM->bB (ah p (I f) o)≠K aM):=λO H aM j k=>by
         have am:=((B.o.each O H).lt aM j).2;have ao:=(aI.o.own.lt aM k).1;omega
        have jy:U E.heap<=n:=Q.iu;have d6:X (bB V≠K n):=λe=>by have:=(B.o.own.lt n e).2;omega
        clear Q bm eP cd aw B;refine Un.open_ (λh=>aJ h (U d.heap+1) 3 (bt bM (eS (g.map bp):Int))/\aJ h n 0 (bt bM (i:Int))) 10 (λ_ _ _ _ _ e=>e) λdy=>?_;have N:(λh=>aJ h (U d.heap+1) 3 (bt bM (eS (g.map bp):Int))/\aJ h n 0 (bt bM (i:Int))) M.drew:=⟨al,aY⟩;refine Un.pk 0 ?_;refine Un.pk 1 ?_;refine Un.pk 2 ?_;refine Un.pk 3 ?_;refine Un.ld [10] 4 ?_;refine Un.pk 5 ?_;refine Un.ld [10] 6 ?_;refine Un.pk 7 ?_;refine Un.pk 8 ?_;refine Un.pk 9 ?_;try simp only[bG,cz,ct,cr]
        refine Un.on 10 λt l=>?_;go_simp;refine l.o _ _ (λe=>absurd e ay) ?_;clear l t N;refine Un.done bl ?_ _;try simp only[bG,cz,ct,cr]
        rw[NC g0 fv];have cv:PF d (bg M ⟨U d.heap+1,3,Z⟩ (bt bM ((eS (g.map bp)+i:Nat):Int))) (ah (K ⟨aL,0,Z⟩) (I a) W) (ah ad (I a) ab) V (eS (g.map bp)+i) (a.map bp) (a.map eu) g:=cl.o.KN;have ch:(bg M ⟨U d.heap+1,3,Z⟩ (bt bM ((eS (g.map bp)+i:Nat):Int))).heap[U d.heap]? =K (rb s r J):=by rw[ef _ _ _ _ (by simp)];exact cf.o
        have cx:(bg M ⟨U d.heap+1,3,Z⟩ (bt bM ((eS (g.map bp)+i:Nat):Int))).heap[n]? =K (ax #[bt bM (i:Int),(ah p (I f) o)] 122 (0,0)):=by rw[ef _ _ _ _ (by simp;omega)];exact aI.o.box
        have ds:aT (bg M ⟨U d.heap+1,3,Z⟩ (bt bM ((eS (g.map bp)+i:Nat):Int))) (U d.heap+1) 128 9 (ah p (I f) o) (I f) (f.flatMap eN):=by
         have:=j6 aI.o.own (show U d.heap+1<=U E.heap by omega);exact this.kept (eJ M _ 3 _) (an (ew this cl.o.file ay).symm)
        rw[show((eS (g.map bp)+i:Nat):Int)=(eS (g.map bp):Int)+(i:Int) from by omega] at cv ch cx ds;clear aY a4 db G D ae al bE gl cl aI cf;generalize bg M ⟨U d.heap+1,3,Z⟩ (bt bM ((eS (g.map bp):Int)+(i:Int)))=u at*;have P:=ap cv;have a3:=ap ch;have bN:=ap cx;have d8:=ap ds;have⟨⟨G,D,ae,al⟩,bE⟩:=cv.cells;have⟨aY,a4⟩:=wU cx;clear cv ch cx ds bE;go_upto_region 41 with fail;refine Un.open_ (λh=>aJ h (U d.heap+1) 2 V/\aJ h n 0 (bt bM (i:Int))/\aJ h n 1 (ah p (I f) o)) 10 (λ_ _ _ _ _ e=>e) λdy=>?_;have N:(λh=>aJ h (U d.heap+1) 2 V/\aJ h n 0 (bt bM (i:Int))/\aJ h n 1 (ah p (I f) o)) u.drew:=⟨ae,aY,a4⟩;refine Un.pk 0 ?_;refine Un.pk 1 ?_;refine Un.pk 2 ?_;refine Un.pk 3 ?_;refine Un.ld [10] 4 ?_;refine Un.ld [10] 5 ?_;try simp only[bG,cz,ct,cr]
        refine Un.on 6 λt l=>?_;go_simp;have a0:X (PF d (u.drew.alloc (ax (cX (ir (⟨i,f⟩,(ah p (I f) o)))) 122)) (ah (K ⟨aL,0,Z⟩) (I a) W) (ah ad (I a) ab) V (eS (g.map bp)+i) (a.map bp) (a.map eu) g):=P.o.below (((bU (U u.heap) u).drew).alloc (aV _) _);have eI:(u.drew.alloc (ax (cX (ir (⟨i,f⟩,(ah p (I f) o)))) 122)).heap[n]? =K (ax #[bt bM (i:Int),(ah p (I f) o)] 122 (0,0)):=alloc_old (bC (show u.drew.heap[n]? =_ from bN.o)) (show u.drew.heap[n]? =_ from bN.o);have⟨b3,b4⟩:=wU eI;refine l.o _ _ (λ_=>⟨a0.o.cells.1.2.2.1,b3,b4⟩) ?_;clear l t N;try simp only[bG,cz,ct,cr]
        refine Un.one (i:=7) bl Y (λt l=>?_);have R:=P.o.own;have iQ:=bC P.o.file;refine step_append_lies _ (by rfl) _ _ 111 (by rfl) (U d.heap+1) 122 iV _ 2 32 aE.underlying111 iq is it iv Y ay V (I g) _ (by rfl) ((eM R (bU _ _).drew).alloc _) ⟨U u.heap,0,Z⟩ 1 1 (ir (⟨i,f⟩,(ah p (I f) o))) (by rfl) Y (Nj u.drew) (by intro g3 bo;simp[ir] at bo;rcases bo with rfl|rfl<;>rfl) ay gy aa bO _ rfl ?_;intro bZ bP bv e0 eX eL gR;have b0:dA u bv V (ah (K ⟨bZ,0,Z⟩) (I g+1) bP):=Cg (Cg (dA.k4 (w:=u.drew.drew) (o:=ax (cX (ir (⟨i,f⟩,ah p (I f) o))) 122) (show jj _ _ _ from eX) eL));have eZ:aT bv (U d.heap+1) 122 2 (ah (K ⟨bZ,0,Z⟩) (I g+1) bP) (I (g++[((⟨i,f⟩:c9),ah p (I f) o)])) ((g++[((⟨i,f⟩:c9),ah p (I f) o)]).flatMap ir):=by
         rw[oI,pF,cN];exact e0
        have d5:=ap (P.o.Jv b0 d8.o d4.o eZ);have c2:X ((bg bv ⟨U d.heap+1,2,Z⟩ (ah (K ⟨bZ,0,Z⟩) (I g+1) bP)).heap[U d.heap]? =K (rb s r J)):=PF.reader a3.o P.o.own b0;have⟨⟨cs,bR,bV,dq⟩,bY⟩:=P.o.Cl P.o.own ay b0;have gm:=bY 2;have eK:bv.heap[n]? =K (ax #[bt bM (i:Int),(ah p (I f) o)] 122 (0,0)):=(b0.dR.block n (bC bN.o) (λx=>d6.o x.symm)).trans bN.o;have⟨b3,b4⟩:=wU eK;refine l.o _ _ (λ_=>⟨bV,b3,b4⟩) ?_;clear l t R e0 eX eL gR eZ b0 bY eK eI;try simp only[bG,cz,ct,cr]
        have N:(λh=>aJ h (U d.heap+1) 2 V/\aJ h n 0 (bt bM (i:Int))/\aJ h n 1 (ah p (I f) o)) bv:=⟨bV,b3,b4⟩;refine Un.pk 8 ?_;refine Un.pk 9 ?_;try simp only[bG,cz,ct,cr]
        refine Un.on 10 λt l=>?_;go_simp;refine l.o _ _ (λe=>absurd e ay) ?_;clear l t N cs bR bV dq gm b3 b4 G D ae al aY a4;refine Un.done bl ?_ _;try simp only[bG,cz,ct,cr]
        clear P a0 a3 bN d8 d4 d6;generalize bg bv ⟨U d.heap+1,2,Z⟩ (ah (K ⟨bZ,0,Z⟩) (I g+1) bP)=hD at*;generalize ah (K ⟨bZ,0,Z⟩) (I g+1) bP=gi at*;have ej:X (eS ((g++[((⟨i,f⟩:c9),ah p (I f) o)]).map bp)=eS (g.map bp)+i):=by show _=_;rw[gY,sg,LD]
        have fW:X (J=ai->∀O∈g++[((⟨i,f⟩:c9),ah p (I f) o)],uR (a.map bp) O.1):=λaZ O H=>by
         rcases eG.1 H with H|H;exact dE.o O H;simp at H;subst H;rcases dd.o with⟨-,k⟩|⟨j,k⟩;rw[k] at aZ;cases aZ;exact⟨j,fv,by show I f=_;rw[ee];exact fc.o,cc.o (by rw[<-k];exact aZ)⟩
        have fO:X (∀c b,Hf s c b->J=ai/\c=a/\I b=m/\(g++[((⟨i,f⟩:c9),ah p (I f) o)]).map bp=b.take (I g+1)/\(bytesOf s).drop r=gU (a.map bp) (b.drop (I g+1))):=λc b eW=>by
         have⟨j,k,q,v,C,y,L,a5,az⟩:=aC.o c b eW;have eY:b[I g].parts.length=I f:=by rw[y.len,ee,fc.o]
         rw[<-eY,iZ] at a5;rw[<-eY,List.drop_length,mR,tW] at az;refine⟨?_,k,q,?_,az⟩;rcases dd.o with⟨eq,-⟩|⟨-,eq⟩;have:=y.lo;omega;rw[eq,j];rw[gY,sg];refine Ds v C ?_;generalize b[I g]=g2 at*;have⟨kd,ke⟩:=g2;simp only at L a5;rw[L,a5]
        clear dd cc aC dE;have fy:=f2.o;go_wp2_with fail
        go_roundw
        case rel=>exact⟨g++[((⟨i,f⟩:c9),ah p (I f) o)],gi,r,J,by rw[cN];go_num,by rw[cN,rB];omega,by rw[ej.o];exact d5.o,by rw[ej.o,cN,rB];omega,dv,c2.o,fW.o,by rw[cN];exact fO.o⟩
        case measure=>simp[bw];omega
    have fQ:X (∀c b,Hf s c b->c=a/\b=g.map bp):=λc b e=>by
     obtain⟨-,k,q,v,-⟩:=aC.o c b e;refine⟨k,?_⟩;rw[v,ja (by omega)]
    have hj:X (I g<=2000):=by show _<=_;omega
    obtain⟨⟨G,D,ae,al⟩,-⟩:=B.o.cells;clear aC fV;by_cases ko:2000<eS (g.map bp)
    .have dc:decide ((2000:Int)<(eS (g.map bp):Int))=af:=by simp;omega
     have bx:X (∀c b,oa c b->bytesOf s≠kZ c b):=λc b j k=>by
      have q:=(fQ.o c b ⟨j,k⟩).2;have v:=j.rows;rw[q] at v;omega
     have ck:=ap B.o.j9;go_wp2;go_ret2;exact⟨ck.o,an ⟨_,rfl,bx.o⟩⟩
    have dc:decide ((2000:Int)<(eS (g.map bp):Int))=ai:=bO;have hp:X (oa a (g.map bp)):=⟨ec.o,λw aZ=>by
     obtain⟨O,H,rfl⟩:=kA.1 aZ;exact dE.o O H,aa⟩
    have fU:X (bn 105 #[dG (K ⟨U d.heap+1,0,Z⟩)] E λx bj=>x=aR (au (strOf (zF (a.map bp) (a.map eu) (g.map bp))))/\aD E bj):=by
     refine SD (a.map bp) (a.map eu) (g.map bp) (U d.heap+1) E (by rw[ee];exact jF) (by rw[ee,ee]) (J4 ec.o.1) (λdL jt=>?_) (by rw[ee];exact hj.o) (λw aZ=>?_) B.o.file (o7.gC B.o.aj) (iC.gC B.o.gx) ⟨g,rfl,vD.gC B4 B.o.own,λO H=>vD.gC Bn (B.o.each O H)⟩;obtain⟨a7,C,rfl⟩:=m6 jt;exact fX.o a7 C;exact W1 fX.o (hp.o.eV w aZ)
    rw[SC] at fU;have dK:X (∀h,aD E h->PF d h (ah (K ⟨aL,0,Z⟩) (I a) W) (ah ad (I a) ab) V (eS (g.map bp)) (a.map bp) (a.map eu) g):=λh e=>B.o.below e;clear dE g0 jr f2 hj;go_wp2_with fail;refine fU.o.mono ?_;rintro x kj ⟨rfl,fm⟩;have gc:=ap (dK.o kj fm);clear fm fU dK B aw G D ae al cM cP cb cQ cV cY;by_cases d0:strOf (kZ a (g.map bp))=s
    .have i3:X (ze (bytesOf s) a (g.map bp)):=⟨hp.o,by rw[<-d0,Ip SG],λka kf j k=>fQ.o ka kf ⟨j,k⟩⟩;have hb:=ap d0;clear d0;generalize strOf (kZ a (g.map bp))=i6 at*;obtain rfl:=hb.o;clear hb;go_wp2;go_ret2;exact⟨gc.o.j9,aq ⟨a,g,_,_,V,rfl,i3.o,gc.o⟩⟩
    have kD:(jI (strOf (kZ a (g.map bp)))==jI s)=ai:=by
     rw[beq_eq_false_iff_ne];intro e;exact d0 (toList_inj e)
    have bx:X (∀c b,oa c b->bytesOf s≠kZ c b):=λc b j k=>by
     have⟨am,ao⟩:=fQ.o c b ⟨j,k⟩;rw[am,ao] at k;exact d0 (by rw[<-k,Dq])
    clear d0;generalize strOf (kZ a (g.map bp))=i6 at*;go_wp2;go_ret2;exact⟨gc.o.j9,an ⟨_,rfl,bx.o⟩⟩
def Oj (f:ag)(s:ByteArray)(e:gL)(g:ag):Prop:=
 aD f g/\((∃(b:List (bF×Int)) (a:List Bd) (d:List (c9×F)) (c:ag) (i j h:F),e=aR (cC #[(aZ (U c.heap+1)),ak af])/\kT s b a/\U c.heap=U f.heap/\PF c g i j h (gK a) (b.map bp) (b.map eu) d/\d.map bp=a.map oY/\n3 s (b.map bp) (gK a) 0)\/
  (∃v,e=aR (cC #[v,ak ai])/\n3 s [] 0 3))
def V0(s:ByteArray)(cQ:s.size<=aS):
 bn 46 #[au s] w (Oj w s):=by
 have c0:=cQ;unfold aS at c0;by_cases aC:65536<s.size
 .have W:decide ((65536:Int)<(s.size:Int))=af:=by simp;omega
  have k:X (n3 s [] 0 3):=AO (λaG aH h=>by have:=h.1;omega);go_enter aE.func46,Tryz.ntmps46;go_wp2;go_ret2;exact⟨bU _ _,an ⟨_,rfl,k.o⟩⟩
 have W:decide ((65536:Int)<(s.size:Int))=ai:=bO;by_cases d2:s.size<12
 .have cG:decide ((s.size:Int)<12)=af:=by simp;omega
  have k:X (n3 s [] 0 3):=AO (λaG aH h=>by have:=h.len;omega);go_enter aE.func46,Tryz.ntmps46;go_wp2;go_ret2;exact⟨bU _ _,an ⟨_,rfl,k.o⟩⟩
 have cG:decide ((s.size:Int)<12)=ai:=bO;have aF:(4:Int)<=(s.size:Int):=aa;cases bN:(jI (e9 s 0 4)==[83,84,82,65])
 .have k:X (n3 s [] 0 3):=AO (λaG aH h=>by
   have:=(Ai).2 ((FP (by omega)).2 h.marks.1);rw[bN] at this;cases this)
  go_enter aE.func46,Tryz.ntmps46;go_wp2;go_ret2;exact⟨bU _ _,an ⟨_,rfl,k.o⟩⟩
 cases bY:(jI (e9 s (s.size-4) s.size)==[83,84,82,65])
 .have k:X (n3 s [] 0 3):=AO (λaG aH h=>by
   have:=(Ai).2 ((G2 (by omega)).2 h.marks.2.1);rw[bY] at this;cases this)
  have cn:((s.size:Int)-4).toNat=s.size-4:=aa;go_enter aE.func46,Tryz.ntmps46;go_wp2;go_ret2;exact⟨bU _ _,an ⟨_,rfl,k.o⟩⟩
 have b4:X (∃bj,bytesOf s=[83,84,82,65]++bj):=(FP aa).1 ((Ai).1 bN);have a0:X (∃bj,bytesOf s=bj++[83,84,82,65]):=(G2 aa).1 ((Ai).1 bY);have cn:((s.size:Int)-4).toNat=s.size-4:=aa;go_enter aE.func46,Tryz.ntmps46;go_upto_region 4 with fail;obtain⟨m,cZ⟩:∃m,s.size=m+8:=⟨s.size-8,aa⟩;obtain⟨M,cV⟩:∃M,M=m+1:=⟨_,rfl⟩;obtain⟨O,cW⟩:∃O,O=m+2:=⟨_,rfl⟩;obtain⟨P,cY⟩:∃P,P=m+3:=⟨_,rfl⟩;have da:m<s.size:=aa;have db:M<s.size:=aa;have dc:O<s.size:=aa;have dd:P<s.size:=aa;have d8:(m:Int)<(s.size:Int):=aa;have d9:(M:Int)<(s.size:Int):=aa;have eb:(O:Int)<(s.size:Int):=aa;have ec:(P:Int)<(s.size:Int):=aa;obtain⟨n,bE⟩:∃n,s[m].toNat=n:=⟨_,rfl⟩;obtain⟨j,az⟩:∃j,s[M].toNat=j:=⟨_,rfl⟩;obtain⟨o,bH⟩:∃o,s[O].toNat=o:=⟨_,rfl⟩;obtain⟨t,bI⟩:∃t,s[P].toNat=t:=⟨_,rfl⟩;have ch:X (sL s m=n+256*j+65536*o+16777216*t):=by
  show _=_;unfold sL;rw[<-cV,<-cW,<-cY,ep,ep,ep,ep,uT s m da,uT s M db,uT s O dc,uT s P dd,<-bE,<-az,<-bH,<-bI];rfl
 have dP:n<256:=by rw[<-bE];exact s[m].toNat_lt
 have dR:j<256:=by rw[<-az];exact s[M].toNat_lt
 have dS:o<256:=by rw[<-bH];exact s[O].toNat_lt
 have dT:t<256:=by rw[<-bI];exact s[P].toNat_lt
 have d4:bM.wrap ((s.size:Int)-8)=(m:Int):=by rw[kw];omega
 have d5:bM.wrap ((s.size:Int)-7)=(M:Int):=by rw[kw];omega
 have d6:bM.wrap ((s.size:Int)-6)=(O:Int):=by rw[kw];omega
 have d7:bM.wrap ((s.size:Int)-5)=(P:Int):=by rw[kw];omega
 have eP:bM.wrap (n:Int)=(n:Int):=by rw[kw];omega
 have eQ:bM.wrap (j:Int)=(j:Int):=by rw[kw];omega
 have eR:bM.wrap (o:Int)=(o:Int):=by rw[kw];omega
 have eW:bM.wrap (t:Int)=(t:Int):=by rw[kw];omega
 have eh:bM.wrap (256*(j:Int))=256*(j:Int):=by rw[kw];omega
 have ei:bM.wrap (65536*(o:Int))=65536*(o:Int):=by rw[kw];omega
 have ej:bM.wrap (16777216*(t:Int))=16777216*(t:Int):=by rw[kw];omega
 have eI:bM.wrap ((n:Int)+256*(j:Int))=(n:Int)+256*(j:Int):=by rw[kw];omega
 have eJ:bM.wrap ((n:Int)+256*(j:Int)+65536*(o:Int))=(n:Int)+256*(j:Int)+65536*(o:Int):=by rw[kw];omega
 have eK:bM.wrap ((n:Int)+256*(j:Int)+65536*(o:Int)+16777216*(t:Int))=(n:Int)+256*(j:Int)+65536*(o:Int)+16777216*(t:Int):=by rw[kw];omega
 have u:X (s.size=m+8):=cZ;have d1:s.size<=65536:=aa;have dX:12<=s.size:=aa;clear bN bY W cG cn aF c0 cQ cZ aC d2 cV cW cY dP dR dS dT;go_quiet (fail);obtain⟨r,cu⟩:∃r:Nat,r=n+256*j+65536*o+16777216*t:=⟨_,rfl⟩;have cv:(n:Int)+256*(j:Int)+65536*(o:Int)+16777216*(t:Int)=(r:Int):=aa;rw[cv];have ao:X (sL s m=r):=by show _=_;rw[cu];exact ch.o
 have ft:r<4294967296:=by have:=MX s m;rw[ao.o] at this;exact this
 have aL:X (aD w (cT w nq)):=below_drewN (bU _ _) _;have T:X ((cT w nq).heap.size=U w.heap):=rfl;generalize cT w nq=G at*;clear bE az bH bI ch d4 d5 d6 d7 eh ei ej eI eJ eK da db dc dd d8 d9 eb ec cu cv;clear eP eQ eR eW;by_cases d3:s.size-12<r
 .have W:decide ((s.size:Int)-12<(r:Int))=af:=by simp;omega
  have k:X (n3 s [] 0 3):=AO (λaG aH h=>by
   have A:=h.marks;have J:=u.o;rw[show s.size-8=m by omega,ao.o] at A;omega)
  go_wp2;go_ret2;exact⟨aL.o,an ⟨_,rfl,k.o⟩⟩
 .have W:decide ((s.size:Int)-12<(r:Int))=ai:=by simp;omega
  obtain⟨f,cJ⟩:∃f,m=f+r:=⟨m-r,by have:=u.o;omega⟩;have a9:X (m=f+r):=cJ;have fd:(s.size:Int)-8=(m:Int):=by have:=u.o;omega
  have fg:(m:Int)-(r:Int)=(f:Int):=by omega
  have fh:(f:Int)<=(m:Int):=by omega
  have fi:(m:Int)<=(s.size:Int):=by have:=u.o;omega
  have dZ:4<=f:=by have:=u.o;omega
  have fy:m<=65536:=by have:=u.o;omega
  have al:X (Cut s (bytesOf (e9 s 4 f)) (bytesOf (e9 s f m))):=by
   have J:=u.o;have:=RJ dX d1 b4.o a0.o (by rw[show s.size-8=m by omega,ao.o];omega);rw[show s.size-8=m by omega,ao.o,show m-r=f by omega] at this;exact this
  have ds:X ((e9 s f m).size<=65536):=by show _<=_;rw[tM];omega
  have aM:X ((e9 s 4 f).size=f-4):=by show _=_;have:=u.o;rw[tM];omega
  clear cJ d3 b4 a0 ao;go_wp2_with fail;refine(Vv (e9 s f m) G ds.o).mono ?_;rintro fc eL ⟨bF,⟨e,a,fb,a5,fa,rfl,ad,p⟩|⟨v,rfl,c1⟩⟩;rotate_left
  .have k:=ap (Sq al.o c1);have dp:X (aD w eL):=aL.o.trans (bF.mono (by rw[T.o];exact aV _));clear c1 bF;go_wp2;go_ret2;exact⟨dp.o,an ⟨_,rfl,k.o⟩⟩
  .have aZ:=ap ad;have cc:=ap p;have eZ:X (U w.heap=U G.heap):=bA T.o;have du:X (∀b (h:b<I a),a[b].1.parts.length=I e):=λb h=>by
    have:=(ad.ok.eV a[b].1 (kA.2 ⟨_,c8 h,rfl⟩)).len;rw[ee] at this;exact this
   have dy:X (I a<=2000):=by
    show _<=_;have C:=LC (a.map bp) (λj az=>(ad.ok.eV j az).lo);have A:=ad.ok.rows;rw[ee] at C;omega
   have fx:I e<=8:=by have:=ad.ok.pl.1.2.1;simpa using this
   have⟨aw,ar,cB⟩:=gG p.aj;rw[ee] at cB;subst cB;have⟨bm,V,a8⟩:=gG p.own;subst a8;clear ad bF p;go_upto_region 10 with fail;go_wp2_with fail
   go_loopw [8,9] (λbk R wr=>∃(b:Nat) (B:List (c9×F)),R=n9 b/\b<=I a/\bk=z9 ((4+tot ((a.map bp).take b):Nat):Int)/\jg B=jg a/\PF G wr (ah aw (I e) ar) a5 (ah bm (I a) V) (eS (a.map bp)) (e.map bp) (e.map eu) B/\4+tot ((a.map bp).take b)<=f/\pK s a B b 0) (λ_ R _=>I a-(bw R).toNat)
   exact⟨0,a,rfl,cE _,by simp[tot],rfl,cc.o,by simpa [tot] using dZ,λn j _ _ h=>aa⟩;clear cc;obtain⟨b,B,rfl,fv,rfl,bv,p,cx,c6⟩:=hrel;have bi:X (pK s a B b 0):=c6;clear c6;have aY:X (jg B=jg a):=bv;have dA:=ap (Dr bv);have q:=ap p;obtain⟨⟨bo,br,a4,bs⟩,-⟩:=p.cells;clear bv p;have fw:=dy.o;by_cases L:b<I a
   .obtain⟨g,D⟩:∃g,4+tot ((a.map bp).take b)=g:=⟨_,rfl⟩;have bh:=ap D;rw[D] at cx;rw[D];have aQ:=ap (du.o b L);clear D;go_upto_region 14 with fail;clear bo br a4 bs;go_wp2_with fail
    go_loopw [8,10] (λbk R eM=>∃(d:Nat) (N:List (c9×F)),R=n9 d/\d<=I e/\bk=z9 ((g+eC (a[b].1.parts.take d):Nat):Int)/\jg N=jg a/\PF G eM (ah aw (I e) ar) a5 (ah bm (I a) V) (eS (a.map bp)) (e.map bp) (e.map eu) N/\g+eC (a[b].1.parts.take d)<=f/\pK s a N b d) (λ_ R _=>I e-(bw R).toNat)
    case atStart=>exact⟨0,B,rfl,cE _,by simp[eC],aY.o,q.o,by simpa [eC] using cx,bi.o⟩
    case round=>
     clear q aY dA bi;obtain⟨d,N,rfl,fu,rfl,bx,p,cA,c7⟩:=hrel;have cg:X (pK s a N b d):=c7;clear c7;have am:X (jg N=jg a):=bx;have b2:=ap (Dr bx);have q:=ap p;have⟨⟨bo,br,a4,bs⟩,ci⟩:=p.cells;clear bx;by_cases cP:d<I e
     .have E:b<I N:=by rw[b2.o];exact L
      have b3:X (N[b].1.parts.length=I e):=by
       show _=_;have:=congrArg I (G4 am.o E L);rw[ee,ee,aQ.o] at this;exact this
      have ab:d<N[b].1.parts.length:=by rw[b3.o];exact cP
      have bJ:d<a[b].1.parts.length:=by rw[aQ.o];exact cP
      have b7:X (N[b].1.parts[d].size=a[b].1.parts[d].size):=MY am.o E L ab bJ;have dt:X (g+eC (a[b].1.parts.take d)+a[b].1.parts[d].size<=4+tot (a.map bp)):=by
       show _<=_;have:=Nb (rs:=a.map bp) (k:=b) (i:=d) (by rw[ee];exact L) (by simpa using bJ);simp only[pH] at this;have A:=bh.o;omega
      have dE:X (g+eC (a[b].1.parts.take (d+1))=g+eC (a[b].1.parts.take d)+a[b].1.parts[d].size):=by
       show _=_;rw[MZ bJ];omega
      have⟨Q,e8,x,bZ,a8,bP,aF,y,el,fF,fG⟩:=p.part E ab;rw[b2.o] at a8;cases a8;rw[bP,b3.o] at aF;have dg:=y 0 _ Y;have em:=y 1 _ Y;have eo:=y 2 _ Y;have eq:=y 3 _ Y;have er:=y 4 _ Y;have es:=y 5 _ Y;have et:=y 6 _ Y;have ew:=y 7 _ Y;have ey:=y 8 _ Y;have cd:X (N[b].1.parts[d].size<=65536\/True):=an trivial;have dF:X (∀df dk,(eN N[b].1.parts[d])[df]? =K dk->aA wr ⟨x,d*9+df,Z⟩=K dk):=y;have bb:X (N[b].2=aI x N[b].1.parts.length bZ):=bP;generalize c2:N[b].1.parts[d]=c at*;have b5:X (N[b].1.parts[d]=c):=c2;generalize cy:g+eC (a[b].1.parts.take d)=l at*;have dn:X (g+eC (a[b].1.parts.take d)=l):=cy;simp only[s6] at dg;clear p y bP c2 cy ci;go_upto_region 18 with fail;obtain⟨S,c3⟩:∃S,f=l+S:=⟨f-l,aa⟩;have cb:X (f=l+S):=c3;have fk:(f:Int)-(l:Int)=(S:Int):=by omega
      clear c3;by_cases aC:S<c.size
      .have W:decide (S<c.size)=af:=by simpa using aC
       have k:X (n3 s [] 0 3):=Jb al.o aZ.o (by
        have C:=dt.o;have A:=b7.o;have J:=aM.o;have fm:=cb.o;omega)
       have ae:X (aD w wr):=aL.o.trans (q.o.j9.mono (by rw[T.o];exact aV _));go_wp2;go_ret2;exact⟨ae.o.alloc ae.o.size _,an ⟨_,rfl,k.o⟩⟩
      .have W:decide (S<c.size)=ai:=by simpa using aC
       obtain⟨z,cs⟩:∃z,z=l+c.size:=⟨_,rfl⟩;have fo:(l:Int)+(c.size:Int)=(z:Int):=by omega
       have ca:X (z=l+c.size):=cs;have bc:X (z<=f):=by show _<=_;have:=cb.o;omega
       have e1:(l:Int)<=(z:Int):=by omega
       have e2:(z:Int)<=(s.size:Int):=by have C:=bc.o;have A:=a9.o;have J:=u.o;omega
       have e3:z<=65536:=by have C:=bc.o;have A:=a9.o;have J:=u.o;omega
       clear cs aC;go_upto_region 21 with fail;obtain⟨i,c5⟩:∃i,e9 s l z=i:=⟨_,rfl⟩;rw[c5];have a7:aD wr (wr.alloc (ax (cX (eN ⟨c.size,c.bV,i⟩)) 128)):=(bU _ _).alloc (aV _) _;have bR:pq (wr.alloc (ax (cX (eN ⟨c.size,c.bV,i⟩)) 128)) (U wr.heap) 0 (eN ⟨c.size,c.bV,i⟩):=C9 (jY wr _);have be:=ap (q.o.below a7);have ck:=(bq a7 (p:=⟨U G.heap+1,2,Z⟩) (bC q.o.file)).trans a4;have cl:=(bq a7 (p:=⟨Q,b*2+1,Z⟩) (q.o.own.lt Q Y).2).trans aF;have cf:X ((wr.alloc (ax (cX (eN ⟨c.size,c.bV,i⟩)) 128)).drew.there x (d*9) 9):=(be.o.below (bU _ _).drew).there E ab bb.o;have dC:X (U wr.heap≠x):=by show _≠_;omega
       have hx:wr.alloc (ax #[n9 c.size,ak c.bV.there,ak c.bV.least.null,z9 c.bV.least.n,au c.bV.least.s,ak c.bV.most.null,z9 c.bV.most.n,au c.bV.most.s,au i] 128)=wr.alloc (ax (cX (eN ⟨c.size,c.bV,i⟩)) 128):=rfl;rw[hx];clear hx;generalize wr.alloc (ax (cX (eN ⟨c.size,c.bV,i⟩)) 128)=a3 at*;generalize U wr.heap=a6 at*;clear a7 bo br a4 bs dg em eo eq er es et ew ey aF el q dF;refine Un.open_ (λH=>aJ H (U G.heap+1) 2 (aI Q (I a) V)/\aJ H Q (b*2+1) (aI x (I e) bZ)/\pq H a6 0 (eN ⟨c.size,c.bV,i⟩)) 11 (λ_ _ _ _ _ h=>h) λfE=>?_;have co:(λH=>aJ H (U G.heap+1) 2 (aI Q (I a) V)/\aJ H Q (b*2+1) (ah (K ⟨x,0,Z⟩) (I e) bZ)/\pq H a6 0 (eN ⟨c.size,c.bV,i⟩)) a3.drew:=⟨ck,cl,bR⟩;refine Un.pk 0 ?_;try simp only[bG,rA,n5,mH,cz,ct,cr]
       refine Un.pk 1 ?_;try simp only[bG,rA,n5,mH,cz,ct,cr]
       refine Un.pk 2 ?_;try simp only[bG,rA,n5,mH,cz,ct,cr]
       refine Un.ld [11] 3 ?_;try simp only[bG,rA,n5,mH,cz,ct,cr]
       refine Un.pk 4 ?_;try simp only[bG,rA,n5,mH,cz,ct,cr]
       refine Un.pk 5 ?_;try simp only[bG,rA,n5,mH,cz,ct,cr]
       refine Un.pk 6 ?_;try simp only[bG,rA,n5,mH,cz,ct,cr]
       refine Un.ld [11] 7 ?_;try simp only[bG,rA,n5,mH,cz,ct,cr]
       refine Un.pk 8 ?_;try simp only[bG,rA,n5,mH,cz,ct,cr]
       refine Un.take (i:=9) (v:=cw (cX (eN ⟨c.size,c.bV,i⟩))) Y bl bl bl bl bl bl (λ_ _ _ h=>h) ?y9 co ?_
       case y9=>
        refine yieldsIf_load_mid ?_ 128 (.tmp 11) ?_ a6 0 ?_ (eN ⟨c.size,c.bV,i⟩) _ (λH h=>h.2.2) aE.underlying128 Y ?_
        .rfl
        .rfl
        .kernel_rfl
        .kernel_rfl
       try simp only[bG,rA,n5,mH,cz,ct,cr]
       refine Un.pk 10 ?_;try simp only[bG,rA,n5,mH,cz,ct,cr]
       refine Un.on 11 λdO cp=>?_;refine wp_store_mid 128 (.tmp 132) (.tmp 131) Y x (d*9) (cX (eN ⟨c.size,c.bV,i⟩)) ?hx ?hy cf.o bl W4 ?_
       case hx=>kernel_rfl
       case hy=>kernel_rfl
       refine cp.o _ _ (λh=>absurd h ay) ?_;clear cp dO;try simp only[bG,rA,n5,mH,cz,ct,cr]
       refine Un.done (by kernel_rfl) ?_ _;try simp only[bG,rA,n5,mH,cz,ct,cr]
       have bD:=(be.o.below (bU _ _).drew).text E ab bb.o i;rw[b5.o] at bD;have dI:X (PF G (s4 a3.drew x (d*9) (eN ⟨c.size,c.bV,i⟩)) (ah aw (I e) ar) a5 (ah (K ⟨Q,0,Z⟩) (I a) V) (eS (a.map bp)) (e.map bp) (e.map eu) (sR N b d i)):=bD;have fl:aA (s4 a3.drew x (d*9) (eN ⟨c.size,c.bV,i⟩)) ⟨a6,0,Z⟩=K (n9 c.size):=by
        rw[World.cell?_setCells_out x _ _ _ _ (λh=>absurd h dC.o)];have:=bR 0 _ Y;exact this
       have dK:X (pK s a (sR N b d i) b (d+1)):=by
        show pK _ _ _ _ _;rw[<-c5];refine cg.o.step E ab ?_ (by rw[b5.o];exact ca.o);unfold zU;rw[ep,dH L];show _+eC (a[b].1.parts.take d)=l;rw[bh.o];exact dn.o
       have cd:X (jg (sR N b d i)=jg a):=(Q_9 E ab).trans am.o;have b0:X (g+eC (a[b].1.parts.take (d+1))=z):=by show _=_;rw[dE.o,<-b7.o,ca.o]
       try simp only[List.toList_toArray]
       generalize s4 a3.drew x (d*9) (eN ⟨c.size,c.bV,i⟩)=e0 at*;clear bD be co ck cl bR cf bb;go_wp2
       go_roundw
       case rel=>exact⟨d+1,sR N b d i,by go_num,aa,by rw[b0.o],cd.o,dI.o,by rw[b0.o];exact bc.o,dK.o⟩
       case measure=>simp[bw];omega
     .have cM:d=I e:=by omega
      have b1:X (g+eC (a[b].1.parts.take d)=4+tot ((a.map bp).take (b+1))):=by
       show _=_;rw[cM,<-aQ.o,iZ,Nc (by rw[ee];exact L),pH];have:=bh.o;omega
      have dl:X (g+eC (a[b].1.parts.take d)<=f):=cA;obtain⟨l,bu⟩:∃l,g+eC (a[b].1.parts.take d)=l:=⟨_,rfl⟩;have dm:X (g+eC (a[b].1.parts.take d)=l):=bu;rw[bu];have dL:X (pK s a N (b+1) 0):=cg.o.next λE=>by
       have:=congrArg I (G4 am.o E L);rw[ee,ee,aQ.o] at this;rw[this];exact cM
      clear p ci bu cA;go_wp2
      go_roundw
      case rel=>exact⟨b+1,N,by go_num,by omega,by rw[<-b1.o,dm.o],am.o,q.o,by rw[<-b1.o];exact dl.o,dL.o⟩
      case measure=>simp[bw];omega
   have d0:b=I a:=aa;have a2:X (4+tot ((a.map bp).take b)=4+tot (a.map bp)):=by
    show _=_;rw[ja (by rw[ee];omega)]
   have ae:X (aD w wr):=aL.o.trans (q.o.j9.mono (by rw[T.o];exact aV _));obtain⟨g,D⟩:∃g,4+tot ((a.map bp).take b)=g:=⟨_,rfl⟩;have a1:X (4+tot ((a.map bp).take b)=g):=D;rw[D];have eX:X (aT wr (U w.heap) 63 2 (ah aw (I e) ar) (I (e.map bp)) (kX (e.map bp))):=j6 q.o.aj (by have:=T.o;omega);have eY:X _:=q.o.file;by_cases c4:g=f
   .have k:X (n3 s (e.map bp) (eS (a.map bp)) 0):=Sr al.o aZ.o (by
     have C:=a2.o;have J:=a1.o;have A:=aM.o;omega)
    subst c4;clear D;have dB:=Dr aY.o;have dJ:X (B.map bp=(kE (e9 s 4 g) 0 (a.map bp)).map oY):=W_9 aY.o (by rw[<-d0];exact bi.o) (by have C:=a2.o;have J:=a1.o;omega) (by have C:=a9.o;have A:=u.o;omega);have ba:=Sp al.o aZ.o (by
     have C:=a2.o;have J:=a1.o;have A:=aM.o;omega)
    have bd:gK (kE (e9 s 4 g) 0 (a.map bp))=eS (a.map bp):=ba.2;have a0:X (PF G wr (ah aw (I e) ar) a5 (ah bm (I a) V) (gK (kE (e9 s 4 g) 0 (a.map bp))) (e.map bp) (e.map eu) B):=by
     show PF _ _ _ _ _ _ _ _ _;rw[bd];exact q.o
    have dv:=ap ba.1;have dq:X (n3 s (e.map bp) (gK (kE (e9 s 4 g) 0 (a.map bp))) 0):=by
     show n3 _ _ _ _;rw[bd];exact k.o
    clear ba bd dB;go_wp2;go_ret2;exact⟨ae.o,aq ⟨_,_,_,_,_,_,_,rfl,dv.o,T.o,a0.o,dJ.o,dq.o⟩⟩
   .have k:X (n3 s [] 0 3):=Jb al.o aZ.o (by
     have C:=a2.o;have J:=a1.o;have A:=aM.o;omega)
    have fz:((g:Int)==(f:Int))=ai:=bO;have fB:decide (g=f)=ai:=by simpa using c4
    clear D;go_wp2;go_ret2;exact⟨ae.o,an ⟨_,rfl,k.o⟩⟩
end Ec
namespace Ec
open Go.RowKit Pk Pm
open Cc (lA rZ mK fu pX lO)
def DJ (h:ag)(a:lA)(aj:List Int)(d:List bJ)(g:gL)(i:ag):Prop:=
 aD h i/\((fu a aj d≠0/\g=aR (cC #[dG Z,n9 (fu a aj d)]))\/
  (fu a aj d=0/\∃c b f e k l j,a=K (c,b)/\g=aR (cC #[(aZ (U e.heap+1)),z9 0])/\U e.heap=U h.heap/\PF e i k l j (gK b) (c.map bp) (c.map eu) f/\f.map bp=b.map oY))
def H9{a:List (bF×Int)}{c:List Bd}{b:List bJ}(d:mK (I a) aj b=ai):fu (K (a,c)) aj b=4:=by
 simp[fu,d]
def TO{a:List (bF×Int)}(l:kV a)(j:n<U w.heap)(h:∀e f,(kX (a.map bp))[e]? =K f->aJ w n e f)(k:fU (I a) M=af):yX w n (I a) M (lO a M):=by
 have⟨i,m⟩:=Cc.tI.1 k;obtain⟨b,rfl⟩:=uM i;have c:b<I a:=by omega
 have:=(BW (a.map bp) b (by simpa using c)).2;have d:lO a (b:Int)=a[b].1.kind:=by simp[lO,c]
 have g:=(l.1.2.2 b (by simpa using c)).1;simp only[pH,oO,oo,ez,decide_eq_true_eq] at g;simp only[pH] at this;refine⟨b,rfl,c,j,by rw[d];exact h _ _ this,?_⟩;rw[d];omega
def M6(b:Nat)(a:Int):(decide (a<0)=af/\fU b a=ai)\/(decide (a<0)=ai/\decide ((b:Int)<=a)=af/\fU b a=ai)\/(decide (a<0)=ai/\decide ((b:Int)<=a)=ai/\fU b a=af):=by
 simp[fU];omega
def OO(s:ByteArray)(H:lA)(aj:List Int)(b:List bJ)(a4:Option aN)(B bN bH:Nat)(be:Option aN)(rb bY bE:Nat)(G:ag)(b2:s.size<=aS)(hF:rZ s H)(cl:I aj<=1000)(cp:I b<=1000)
 (bV:0<I aj->a4=K ⟨B,bN,Z⟩) (b0:0<I aj->B<U G.heap) (bZ:∀a,a<I aj->aJ G B (bN+a) (z9 (aX aj a 0))) (h:dy G be rb bY b):
 bn 30 #[au s,ah a4 (I aj) bH,ah be (I b) bE] G (DJ G H aj b):=by
 have V:=ap b0;have aG:=ap bZ;have ab:=ap h;go_enter aE.func30,Tryz.ntmps30;go_wp2_with fail;refine(V0 s b2).mono ?_;rintro u t ⟨w,⟨c,m,br,aY,ck,bF,bu,rfl,P,ca,ao,bO,a8⟩|⟨v,rfl,a8⟩⟩;rotate_left
 .have W:X (fu H aj b=3):=by
   rcases a8 with⟨_,_,_,_,_,d,_⟩|⟨d,_⟩;cases d;cases H with
   |none=>rfl
   |some cd=>exact fe (d _ _ hF.1)
  have g:=ap w;go_wp2;go_ret2;exact⟨g.o,aq ⟨by rw[W.o];decide,by rw[W.o];rfl⟩⟩
 obtain rfl:H=K (c,m):=by
  cases H with
  |none=>exact fe (hF _ _ P)
  |some cd=>
   have⟨al,a5⟩:=hF.2 _ _ P;rw[al,a5]
 have b3:0<I c:=by
  have:=P.1.pl.1.1;simp at this;omega
 have Y:=ao.cells.1.1;obtain⟨r,ae,rfl,cs,cb,cc⟩:=Cc.k5 ao.aj (by simpa using b3);have bo:X (∀ad,fU (I c) ad=af->yX t r (I c) ad (lO c ad)):=λad bR=>TO P.1.pl cb cc bR;have bm:X (∀z,aD t z->fu (K (c,m)) aj b=0->DJ G (K (c,m)) aj b (aR (cC #[(aZ (U aY.heap+1)),z9 0])) z):=λz ar am=>⟨w.trans (ar.mono w.size),an ⟨am,c,m,br,aY,_,bF,bu,rfl,rfl,ca,ao.below ar,bO⟩⟩;have x:X (∀z e,aD t z->fu (K (c,m)) aj b=e->e≠0->DJ G (K (c,m)) aj b (aR (cC #[dG Z,n9 e])) z):=λz e ar am E=>⟨w.trans (ar.mono w.size),aq ⟨by rw[am];exact E,by rw[am]⟩⟩;have az:=bC ao.file;have b7:=w.size;have aG:X (∀a,a<I aj->aJ t B (bN+a) (z9 (aX aj a 0))):=λa d=>(bq w (p:=⟨B,bN+a,Z⟩) (V.o aa)).trans (aG.o a d);have V:X (0<I aj->B<U t.heap):=λd=>cL (V.o d) b7;have ab:=ap (ab.o.below w);have co:I c<2147483648:=P.1.pl.each.2;rw[ee] at Y;generalize U aY.heap+1=C at*;go_wp2_with fail
 go_loopw [10] (λi wr=>∃a:Nat,a<=I aj/\i=z9 a/\(∀e,e<a->fU (I c) (aX aj e 0)=af)/\aD t wr) (λi _=>I aj-bS (bw i))
 exact⟨0,cE _,rfl,λbh d=>aa,bU _ _⟩;obtain⟨a,a9,rfl,J,k⟩:=hrel;have T:=ap J;have g:=ap k;by_cases j:a<I aj
 .obtain rfl:=bV aa;have bv:=(bq k (p:=⟨B,bN+a,Z⟩) (V.o aa)).trans (aG.o a j);have aQ:=(bq k (p:=⟨C,0,Z⟩) az).trans Y;have q:X (fU (I c) (aX aj a 0)=ai->fu (K (c,m)) aj b=4):=λd=>H9 (by
   cases R:mK (I c) aj b;rfl;have:=(Cc.xD.1 R).1 (aX aj a 0) (by simp[ep,j]);rw[Cc.tI.2 this] at d;cases d)
  have M:X (fU (I c) (aX aj a 0)=af->∀e,e<a+1->fU (I c) (aX aj e 0)=af):=λd e a7=>by
   by_cases u:e=a;subst u;exact d;exact T.o e aa
  generalize aX aj a 0=a1 at*;have Q:(a:Int)<(I aj:Int):=aa;rcases M6 (I c) a1 with⟨N,F⟩|⟨N,aL,F⟩|⟨N,aL,F⟩
  all_goals
   have y:=ap F;go_wp2_with fail;go_quiet (fail);go_wp2
  .go_ret2;exact x.o _ 4 (below_drewN g.o nq) (q.o y.o) ay
  .go_ret2;exact x.o _ 4 (below_drewN g.o nq) (q.o y.o) ay
  .go_roundw
   case rel=>exact⟨a+1,by omega,by go_num,M.o y.o,below_drewN g.o nq⟩
   case measure=>simp[bw];omega
 have T:X (∀e∈aj,0<=e/\e<(I c:Int)):=λe E=>by
  obtain⟨i,O,rfl⟩:=m6 E;have:=T.o i aa;rw[ep,dH O] at this;exact Cc.tI.1 this
 have Q:¬(a:Int)<(I aj:Int):=aa;go_wp2_with fail
 go_loopw [11] (λi f=>∃a:Nat,a<=I b/\i=z9 a/\(∀e (d:e<I b),e<a->fU (I c) b[e].col=af)/\aD t f) (λi _=>I b-bS (bw i))
 exact⟨0,cE _,rfl,λbh _ d=>aa,g.o⟩;obtain⟨a,a9,rfl,J,k⟩:=hrel;have L:=ap J;have g:=ap k;by_cases j:a<I b
 .have h:=ab.o.below k;obtain rfl:=h.addr aa;have bv:=h.c0 a j;have aQ:=(bq k (p:=⟨C,0,Z⟩) az).trans Y;have q:X (fU (I c) b[a].col=ai->fu (K (c,m)) aj b=4):=λd=>H9 (by
   cases R:mK (I c) aj b;rfl;have:=(Cc.xD.1 R).2 b[a] (c8 j);rw[Cc.tI.2 this] at d;cases d)
  have M:X (fU (I c) b[a].col=af->∀e (d:e<I b),e<a+1->fU (I c) b[e].col=af):=λd e E a7=>by
   by_cases u:e=a;subst u;exact d;exact L.o e E aa
  generalize b[a].col=a1 at*;have Q:(a:Int)<(I b:Int):=aa;rcases M6 (I c) a1 with⟨N,F⟩|⟨N,aL,F⟩|⟨N,aL,F⟩
  all_goals
   have y:=ap F;go_wp2_with fail;go_quiet (fail);go_wp2
  .go_ret2;exact x.o _ 4 (below_drewN g.o nq) (q.o y.o) ay
  .go_ret2;exact x.o _ 4 (below_drewN g.o nq) (q.o y.o) ay
  .go_roundw
   case rel=>exact⟨a+1,by omega,by go_num,M.o y.o,below_drewN g.o nq⟩
   case measure=>simp[bw];omega
 have L:X (∀S∈b,fU (I c) S.col=af):=λS h=>by
  obtain⟨i,O,rfl⟩:=m6 h;exact L.o i O aa
 have a3:X (mK (I c) aj b=af):=Cc.xD.2 ⟨T.o,λS h=>Cc.tI.1 (L.o S h)⟩;have Q:¬(a:Int)<(I b:Int):=aa;go_wp2_with fail
 go_loopw [12,13,14] (λi _ _ f=>∃a:Nat,a<=I b/\i=z9 a/\(∀e (d:e<I b),e<a->ox (lO c b[e].col) b[e]=af)/\aD t f) (λi _ _ _=>I b-bS (bw i))
 exact⟨0,cE _,rfl,λbh _ d=>aa,g.o⟩;obtain⟨a,a9,rfl,J,k⟩:=hrel;have g:=ap k
 skip
 by_cases j:a<I b
 .have h:=ab.o.below k;obtain rfl:=h.addr aa;have ba:=h.c0 a j;have cf:=h.c1 a j;have cg:=h.c2 a j;have ch:=h.c3 a j;have bb:=h.c4 a j;have bc:=h.c5 a j;have bd:=h.c6 a j;have aQ:=(bq k (p:=⟨C,0,Z⟩) az).trans Y;have⟨n,al,a5,bx,bD,a6⟩:=((bo.o b[a].col (L.o _ (c8 j))).below k).ex;have q:X (ox (lO c b[a].col) b[a]=ai->fu (K (c,m)) aj b=5):=λd=>by
   have:pX c b=ai:=by
    cases R:pX c b;rfl;have:=fD.1 R b[a] (c8 j);rw[d] at this;cases this
   simp[fu,a3.o,this]
  have M:X (ox (lO c b[a].col) b[a]=af->∀e (d:e<I b),e<a+1->ox (lO c b[e].col) b[e]=af):=λd e E a7=>by
   by_cases u:e=a;subst u;exact d;exact J e E aa
  have b5:=h.lt aa;have b1:=cL az k.size;generalize b[a]=bi at*;generalize lO c bi.col=l at*;have⟨cu,p,o⟩:=bi;dsimp only at al ba cf cg ch bb bc bd;subst al;have Q:(a:Int)<(I b:Int):=aa;have cn:(n:Int)<(I c:Int):=by omega
  have bj:=λf=>x4 p l f a6;have bk:=λf=>x4 o l f a6;go_upto_region 17 with fail;refine Un.open_ (λf=>aJ f rb (bY+a*7) (n9 n)/\aJ f rb (bY+a*7+1) (ak p.null)/\aJ f rb (bY+a*7+2) (z9 p.n)/\aJ f rb (bY+a*7+3) (au p.s)/\aJ f C 0 (aI r (I c) ae)/\aJ f r (n*2+1) (z9 l)) 17 (λ_ _ _ _ _ d=>d) λb4=>?_;have bI:(λf=>aA f ⟨rb,bY+a*7,Z⟩=K (bt bM (n:Int))/\aA f ⟨rb,bY+a*7+1,Z⟩=K (ak p.null)/\aA f ⟨rb,bY+a*7+2,Z⟩=K (bt bM p.n)/\aA f ⟨rb,bY+a*7+3,Z⟩=K (au p.s)/\aA f ⟨C,0,Z⟩=K (ah (K ⟨r,0,Z⟩) (I c) ae)/\aA f ⟨r,n*2+1,Z⟩=K (bt bM l)) wr.drew:=by go_keep
  refine Un.pk 0 ?_;refine Un.pk 1 ?_;refine Un.pk 2 ?_;refine Un.pk 3 ?_;refine Un.ld [17] 4 ?_;refine Un.pk 5 ?_;refine Un.pk 6 ?_;refine Un.pk 7 ?_;refine Un.ld [17,16,15,14] 8 ?_;refine Un.pk 9 ?_;refine Un.pk 10 ?_;refine Un.pk 11 ?_;refine Un.pk 12 ?_;refine Un.ld [17,16,15,14] 13 ?_;refine Un.pk 14 ?_;refine Un.pk 15 ?_;refine Un.ld [17] 16 ?_;try simp only[bG,cz,ct,cr]
  refine Un.on 17 λaH D=>?_;go_simp;go_at_call 47;refine(bj _).mono ?_;rintro u a0 ⟨rfl,bP⟩;have aw:aD wr a0:=(bU _ wr).drew.trans bP;have a2:=ap (g.o.trans (aw.mono g.o.size));have aM:∀A aF,A<U wr.heap->aA a0 ⟨A,aF,Z⟩=aA wr ⟨A,aF,Z⟩:=λA aF d=>bq aw (p:=⟨A,aF,Z⟩) d;rw[<-aM _ _ b5] at ba bb bc bd;rw[<-aM _ _ b1] at aQ;rw[<-aM _ _ bx] at bD;refine D.o _ _ (λd=>absurd d ay) ?_;try simp only[bG,cz,ct,cr]
  refine Un.on 18 λaH D=>?_;go_simp;refine D.o _ _ (λd=>absurd d ay) ?_;try simp only[bG,cz,ct,cr]
  refine Un.done bl ?_ _;go_upto_region 18 with fail;refine Un.open_ (λf=>aJ f rb (bY+a*7) (bt bM (n:Int))/\aJ f rb (bY+a*7+4) (ak o.null)/\aJ f rb (bY+a*7+5) (z9 o.n)/\aJ f rb (bY+a*7+6) (au o.s)/\aJ f C 0 (aI r (I c) ae)/\aJ f r (n*2+1) (z9 l)) 17 (λ_ _ _ _ _ d=>d) λb4=>?_;have bI:(λf=>aA f ⟨rb,bY+a*7,Z⟩=K (bt bM (n:Int))/\aA f ⟨rb,bY+a*7+4,Z⟩=K (ak o.null)/\aA f ⟨rb,bY+a*7+5,Z⟩=K (bt bM o.n)/\aA f ⟨rb,bY+a*7+6,Z⟩=K (au o.s)/\aA f ⟨C,0,Z⟩=K (ah (K ⟨r,0,Z⟩) (I c) ae)/\aA f ⟨r,n*2+1,Z⟩=K (bt bM l)) a0.drew:=by go_keep
  refine Un.pk 0 ?_;refine Un.pk 1 ?_;refine Un.pk 2 ?_;refine Un.pk 3 ?_;refine Un.ld [17] 4 ?_;refine Un.pk 5 ?_;refine Un.pk 6 ?_;refine Un.pk 7 ?_;refine Un.ld [17,16,15,14] 8 ?_;refine Un.pk 9 ?_;refine Un.pk 10 ?_;refine Un.pk 11 ?_;refine Un.pk 12 ?_;refine Un.ld [17,16,15,14] 13 ?_;refine Un.pk 14 ?_;refine Un.pk 15 ?_;refine Un.ld [17] 16 ?_;try simp only[bG,cz,ct,cr]
  refine Un.on 17 λaH D=>?_;go_simp;go_at_call 47;refine(bk _).mono ?_;rintro u ci ⟨rfl,aw⟩;have g:X (aD t ci):=(a2.o.drew).trans (aw.mono a2.o.size);refine D.o _ _ (λd=>absurd d ay) ?_;try simp only[bG,cz,ct,cr]
  refine Un.on 18 λaH D=>?_;go_simp;refine D.o _ _ (λd=>absurd d ay) ?_;try simp only[bG,cz,ct,cr]
  refine Un.done bl ?_ _;have aC:ox l ⟨(n:Int),p,o⟩=(gT p l&&gT o l):=rfl;generalize gT p l=bs at*;generalize gT o l=A at*;cases bs<;>cases A
  all_goals
   skip
   go_wp2
  .go_ret2;exact x.o _ 5 g.o (q.o aC) ay
  .go_ret2;exact x.o _ 5 g.o (q.o aC) ay
  .go_ret2;exact x.o _ 5 g.o (q.o aC) ay
  .go_roundw
   case rel=>exact⟨a+1,by omega,by go_num,M.o aC,g.o⟩
   case measure=>simp[bw];omega
 have W:X (fu (K (c,m)) aj b=0):=by
  have:pX c b=af:=fD.2 λS h=>by
   obtain⟨i,O,rfl⟩:=m6 h;exact J i O aa
  show _=_;simp[fu,a3.o,this]
 have Q:¬(a:Int)<(I b:Int):=by omega
 go_wp2;go_ret2;exact bm.o _ g.o W.o
end Ec
namespace Ec
open Go.RowKit Pk Pm
def Bs (d a:Nat)(b:F)(e:ag):Nat:=match (aA e) ⟨d,2,Z⟩ with
 |some (ak af)=>0
 |_=>match b with
  |ah _ c _=>a+1-c
  |_=>0
def Gu{s:ByteArray}(a:w.heap[n]? =K (rb s m af)):Bs n k v w=0:=by
 unfold Bs;rw[(nT a).2.2.1]
def Bt{s:ByteArray}(a:w.heap[n]? =K (rb s m ai)):Bs n k (ah O i j) w=k+1-i:=by
 unfold Bs;rw[(nT a).2.2.1]
def LH(s:ByteArray)(c n k:Nat)(h:ag)(bm:s.size<=aS)(ch:k<=100)(co:n<=s.size)(p:h.heap[c]? =K (rb s n ai)):
 bn 73 #[(aZ c),z9 k] h λD a2=>Kp c h a2/\∃(a:List Int) (v:F),D=aR v/\I a<=200/\(∀g∈a,0<=g/\g<256)/\aT a2 (U h.heap) 3 1 v (I a) (cW a)/\
  zf s c a2 (λq t=>(t=ai->I a=k/\iU a)/\∀b:List Int,I b=k->iU b->aQ (bytesOf s) n (eK b)->a=b/\q=n+I (eK b)/\t=ai):=by
 have⟨bx,bl,bs,bu,bv⟩:=eU aE.pP;have am:=bC p;have bP:=ap p;go_enter aE.func73,Tryz.ntmps73;go_wp2_with fail
 go_loopw [5] (λx wr=>∃(a:List Int) (q:Nat) (t:Bool) (e:Option aN) (f:Nat),x=ah e (I a) f/\I a<=200/\(∀g∈a,0<=g/\g<256)/\aT wr (U h.heap) 3 1 (ah e (I a) f) (I a) (cW a)/\q<=s.size/\wr.heap[c]? =K (rb s q t)/\Kp c h wr/\
  (t=ai->iU a)/\((∃b:List Int,I b=k/\iU b/\aQ (bytesOf s) n (eK b))->t=ai/\∃r,oK (bytesOf s) n k a r/\q=n+I r)) (λx wr=>Bs c k x wr)
 exact⟨[],n,ai,Z,0,rfl,aF,λg w=>by simp at w,iO _ _ _ _,co,bP.o,Kp.refl _ _,λ_ g w=>by simp at w,λ_=>⟨rfl,[],oK.zero _ _ _,aF⟩⟩;obtain⟨a,q,t,e,f,rfl,ao,P,aj,al,bi,ae,bk,ad⟩:=hrel;have Q:=ap bi;have⟨bV,bY,bZ,b3,b4,b5⟩:=nT bi;by_cases aM:I a<k
 .cases t with
  |true=>
   have G:X (¬∃b:List Int,I b=k/\iU b/\aQ (bytesOf s) n (eK b)):=λl=>by have:=(ad l).1;cases this
   go_wp2;go_ret;exact⟨ae,a,_,rfl,ao,P,aj,q,af,al,Q.o,λp=>(cV p),λb d z A=>absurd ⟨b,d,z,A⟩ G.o⟩
  |false=>
   have ab:=ap Q.o;go_wp2_with fail;refine bL (Lr c q 100 ai s (by omega) bm al Q.o) ?_;rintro D c3 ⟨ba,i,bE,bR,rfl,c0,br,cd,cu⟩;have bI:=ap (ae.trans ba);have bN:=ap (ba.own aj am);go_wp2_with fail;refine bL (CU c bE bR s bm br cd) ?_;rintro D V ⟨bb,j,B,R,rfl,cQ,a0,aJ,ci,c1⟩;have a4:=ap (bI.o.trans bb);have a6:=ap (bb.own bN.o am);have a3:X ((∃b:List Int,I b=k/\iU b/\aQ (bytesOf s) n (eK b))->i≠0/\j<=1/\R=ai/\∃r,oK (bytesOf s) n k (a++dh i (j:Int)) r/\B=n+I r):=by
    rintro⟨b,bd,be,bh⟩;have⟨_,r,O,T⟩:=ad ⟨b,bd,be,bh⟩;have⟨cx,a7,m,a9,b7,ca,cb,aI,L,cB,cG⟩:=O.next aM b bd be bh;rw[<-T] at aI L;have⟨aG,a8,b2⟩:=cu cx aa aI;subst aG;rw[<-a8] at L;have cp:bE<s.size:=by
     have:=oX L (by rw[cJ];exact br);rw[cJ] at this;simp at this;omega
    have⟨bD,c2,cv⟩:=ci cp;rw[mW,bD] at L;simp at L;have cf:(j:Int)=a7:=aa;refine⟨aa,aa,by rw[cv,b2],r++(bc i++[bS a7]),?_,?_⟩;rw[cf];refine O.more aa b7 aa ca cb (by rw[<-T];exact aI) (by rw[<-T,<-a8,mW,bD,L]) ch aM;simp;omega
   by_cases cP:i=0\/1<j
   .have⟨bV,bY,bZ,b3,b4,b5⟩:=nT aJ;have G:X (¬∃b:List Int,I b=k/\iU b/\aQ (bytesOf s) n (eK b)):=λl=>by have⟨d,z,_⟩:=a3.o l;omega
    have C:=ap (wH aJ);have H:X (Kp c h (bg V ⟨c,2,Z⟩ (ak af))):=a4.o.tF;have J:X (aT (bg V ⟨c,2,Z⟩ (ak af)) (U h.heap) 3 1 (ah e (I a) f) (I a) (cW a)):=(Kp.tF (Kp.refl c V)).own a6.o am;by_cases bo:i=0
    .subst bo;go_wp2_with fail;generalize bg V ⟨c,2,Z⟩ (ak af)=bF at*
     go_loopw [5,8] (λx o y=>o=z9 0/\x=ah e (I a) f/\y=bF) (λ_ o _=>0-bS (bw o))
     exact⟨rfl,rfl,rfl⟩;obtain⟨rfl,rfl,rfl⟩:=hrel;go_wp2_with fail;refine⟨⟨a,B,af,e,f,rfl,ao,P,J.o,a0,C.o,H.o,λp=>(by cases p),λl=>absurd l G.o⟩,?_⟩;rw[Gu C.o,Bt ab.o];omega
    have cY:1<j:=by omega
    have cn:((i:Int)==0)=ai:=bO;have cg:decide ((1:Int)<(j:Int))=af:=bO;go_wp2_with fail;generalize bg V ⟨c,2,Z⟩ (ak af)=bF at*
    go_loopw [5,8] (λx o y=>∃(m:Nat) (e:Option aN) (f:Nat),m<=i/\o=n9 m/\x=ah e (I a+m) f/\aT y (U h.heap) 3 1 (ah e (I a+m) f) (I a+m) (cW (a++dh m (j:Int)))/\y.heap[c]? =K (rb s B af)/\Kp c h y) (λ_ o _=>i-bS (bw o))
    exact⟨0,e,f,cE _,rfl,rfl,cM J.o,C.o,H.o⟩;obtain⟨m,e,f,cl,rfl,rfl,u,N,M⟩:=hrel;have az:=ap N;have a5:=ap M;have cs:=M.size;by_cases ck:m<i
    .go_wp2_with (at_builtin;refine jw Y _ _ 22 Y (U h.heap) 3 bx (z9 0) 1 8 aE.underlying22 bl bs bu bv Y ay _ (I a+m) _ Y (mB u _) ⟨U wr.heap,0,Z⟩ 1 1 [n9 j] Y ay Y (ot _) vf (by unfold aS;omega) (by omega) (by simp;omega) ?_;intro cy W E aL);have S:=dA.append aL;have ar:X (Kp c h W):=a5.o.grown S.dR (λaH l=>(u.lt aH l).1);have aw:X (W.heap[c]? =K (rb s B af)):=by
      show _=_;rw[S.dR.block c (by omega) (λD=>by have:=(u.lt c (bA D)).1;omega)];exact az.o
     rw[CW] at E;have⟨aC,aD,a1⟩:=tw E;subst a1;refine⟨⟨m+1,aC,aD,aa,by go_num,by rw[gF],by rw[<-gF];exact E,aw.o,ar.o⟩,by simp[bw];omega⟩
    obtain rfl:m=i:=by omega
    have aY:∀g∈a++dh m (j:Int),0<=g/\g<256:=by
     intro g w;rcases eG.1 w with d|d;exact P g d;rw[(List.mem_replicate.1 d).2];omega
    have bJ:=ap aY;go_wp2_with fail;refine⟨⟨a++dh m (j:Int),B,af,e,f,aF,bO,bJ.o,cM u,a0,az.o,a5.o,?_,?_⟩,?_⟩;intro p;cases p;intro l;exact absurd l G.o;rw[Gu az.o,Bt ab.o];omega
   have bo:i≠0:=aa;have cn:((i:Int)==0)=ai:=bO;have cg:decide ((1:Int)<(j:Int))=ai:=bO;have J:=ap a6.o;have C:=ap aJ;have H:=ap a4.o;go_wp2_with fail
   go_loopw [5,8] (λx o y=>∃(m:Nat) (e:Option aN) (f:Nat),m<=i/\o=n9 m/\x=ah e (I a+m) f/\aT y (U h.heap) 3 1 (ah e (I a+m) f) (I a+m) (cW (a++dh m (j:Int)))/\y.heap[c]? =K (rb s B R)/\Kp c h y) (λ_ o _=>i-bS (bw o))
   exact⟨0,e,f,cE _,rfl,rfl,cM J.o,C.o,H.o⟩;obtain⟨m,e,f,cl,rfl,rfl,u,N,M⟩:=hrel;have cs:=M.size
   skip
   by_cases ck:m<i
   .go_wp2_with (at_builtin;refine jw Y _ _ 22 Y (U h.heap) 3 bx (z9 0) 1 8 aE.underlying22 bl bs bu bv Y ay _ (I a+m) _ Y (mB u _) ⟨U wr.heap,0,Z⟩ 1 1 [n9 j] Y ay Y (ot _) vf (by unfold aS;omega) (by omega) (by simp;omega) ?_;intro cy W E aL);have S:=dA.append aL;have ar:X (Kp c h W):=M.grown S.dR (λaH l=>(u.lt aH l).1);have aw:X (W.heap[c]? =K (rb s B R)):=by
     show _=_;rw[S.dR.block c (by omega) (λD=>by have:=(u.lt c (bA D)).1;omega)];exact N
    rw[CW] at E;have⟨aC,aD,a1⟩:=tw E;subst a1;refine⟨⟨m+1,aC,aD,aa,by go_num,by rw[gF],by rw[<-gF];exact E,aw.o,ar.o⟩,by simp[bw];omega⟩
   obtain rfl:m=i:=aa;have aY:∀g∈a++dh m (j:Int),0<=g/\g<256:=by
    intro g w;rcases eG.1 w with d|d;exact P g d;rw[(List.mem_replicate.1 d).2];omega
   skip
   go_wp2_with fail;refine⟨⟨a++dh m (j:Int),B,R,e,f,aF,bO,aY,cM u,a0,N,M,?_,?_⟩,?_⟩;intro bj g w;rcases eG.1 w with d|d;exact bk (by trivial) g d;rw[(List.mem_replicate.1 d).2];omega;intro l;have⟨d,z,A,cc⟩:=a3.o l;exact⟨A,cc⟩;cases R with
   |true=>rw[Gu N,Bt ab.o];omega
   |false=>rw[Bt N,Bt ab.o];omega
 .by_cases cZ:k<I a
  .have G:X (¬∃b:List Int,I b=k/\iU b/\aQ (bytesOf s) n (eK b)):=λl=>by
    have⟨_,r,O,_⟩:=ad l;have:=O.le;omega
   have C:=ap (wH Q.o);have H:X (Kp c h (bg wr ⟨c,2,Z⟩ (ak af))):=ae.tF;have J:X (aT (bg wr ⟨c,2,Z⟩ (ak af)) (U h.heap) 3 1 (ah e (I a) f) (I a) (cW a)):=(Kp.tF (Kp.refl c wr)).own aj am;go_wp2;go_ret;exact⟨H.o,a,_,rfl,ao,P,J.o,q,af,al,C.o,λp=>(by cases p),λb d z A=>absurd ⟨b,d,z,A⟩ G.o⟩
  have bH:X (I a=k):=by show _=_;omega
  go_wp2;go_ret;refine⟨ae,a,_,rfl,ao,P,aj,q,t,al,Q.o,λbj=>⟨bH.o,bk bj⟩,?_⟩;intro b d z A;have⟨a9,r,O,T⟩:=ad ⟨b,d,z,A⟩;have⟨cA,b0,b1⟩:=O.done aM;have aG:=b1 b d z A;subst aG;exact⟨rfl,by rw[b0];exact T,a9⟩
def AB (s:ByteArray)(f k i:Nat)(e j:Int)(g:ag)(l:gL)(c:ag):Prop:=Kp f g c/\∃(a:List az) (v:F),l=aR v/\I a<=200/\(∀d∈a,VR d)/\aT c (U g.heap) 59 3 v (I a) (bZ a)/\
 zf s f c (λm h=>∀b:List az,I b=i->(∀d∈b,VK e d)->aQ (bytesOf s) k (jE e j b)->a=b/\h=ai)
def YB(L:M=1\/M=2\/M=3){s:ByteArray}(aw:s.size<=aS)(a3:i<=100)(aC:k<=s.size)(p:w.heap[n]? =K (rb s k ai)):
 bn 74 #[(aZ n),z9 M,z9 0,z9 i] w λq a1=>AB s n k i M 0 w q a1:=by
 have⟨aY,am,aJ,aL,aM⟩:=eU aE.nh;have aG:=bC p;have W:=ap p;go_enter aE.func74,Tryz.ntmps74;go_wp2_with fail
 go_loopw [9,10] (λa0 D wr=>∃(a:List az) (e:Nat) (f:Bool),I a<=i/\D=n9 (I a)/\(∀c∈a,VR c)/\aT wr (U w.heap) 59 3 a0 (I a) (bZ a)/\e<=s.size/\wr.heap[n]? =K (rb s e f)/\Kp n w wr/\
  ((∃d:List az,I d=i/\(∀c∈d,VK M c)/\aQ (bytesOf s) k (dJ M d))->jN (dJ M) (VK M) (bytesOf s) k i a/\e=k+I (dJ M a)/\f=ai)) (λ_ D _=>i-bS (bw D))
 exact⟨[],k,ai,cE _,rfl,λc B=>by simp at B,iO _ _ _ _,aC,W.o,Kp.refl _ _,λ_=>⟨jN.zero Y,by simp[dJ],rfl⟩⟩;obtain⟨a,e,f,a4,rfl,P,z,O,G,u,F⟩:=hrel;have a5:=u.size
 skip
 by_cases y:I a<i
 .go_wp2_with (first
   |(go_at_call 104;refine bL (Lt M L n e f s wr aw O G) ?_;rintro q R ⟨x,c,rfl,B,ad⟩;have A:=x.own z aG;have a6:=x.size;have V:=ap (u.trans x))
   |(at_builtin;refine jw Y _ _ 43 Y (U w.heap) 59 aY _ 3 32 aE.underlying43 am aJ aL aM Y ay _ (I a) _ Y ((A.alloc _).alloc _) ⟨U R.heap+1,0,Z⟩ 1 1 [ak c.null,z9 c.n,au c.s] Y ay Y (by simpa using lR (R.alloc _)) (lS c) (by unfold aS;omega) aa bO ?_;intro a9 S N al))
  have J:=dA.box (dA.append al);rw[nF] at N;have⟨Q,E,aD,H,aI⟩:=ad;have aj:S.heap[n]? =K (rb s Q E):=by
   rw[J.dR.block n (bC H) (λX=>cB ((A.lt n (bA X)).1))];exact H
  have ae:Kp n w S:=V.o.grown J.dR (λab p=>(A.lt ab p).1);refine⟨⟨a++[c],Q,E,bO,aF,?_,cM N,aD,aj,ae,?_⟩,by simp[bw];omega⟩;intro T C;rcases eG.1 C with b|b;exact P T b;simp at b;rw[b];exact B
  .rintro⟨d,b,h,j⟩;have⟨o,g,t⟩:=F ⟨d,b,h,j⟩;have⟨q,m,a2,r,l⟩:=o.next (e:=λ_ v=>cZ M v) (um M) y d b h j;rw[<-g] at l;have⟨u1,u2,u3⟩:=aI q r l;subst u1;refine⟨o.more (e:=λ_ v=>cZ M v) (um M) y r (by rw[<-g];exact l) (λT C aH=>wE L C r aH (by rw[<-g];exact l)),?_,by rw[u3,t]⟩;rw[u2,g,um,cN,gF]
 have ao:I a=i:=aa;have⟨a7,a8,ar⟩:=tw z;subst ar
 skip
 go_wp2;go_ret;refine⟨u,a,_,rfl,jG ao,P,z,e,f,O,G,?_⟩;intro d b h j;have⟨o,g,t⟩:=F ⟨d,b,h,j⟩;exact⟨bA ((o.done y).2 d b h j),t⟩
def J_:VR (mX M qA):=⟨rfl,⟨(uB _).1,(uB _).2⟩,by show bf (⟨#[]⟩:ByteArray)<=32;decide⟩
def I_9(a:az)(hx:VK 1 a):mX M (uz (zz (dr (a.n-M))))=a:=by
 rw[Am];unfold mX;rw[Hy M hx.lo hx.hi Y];have b:=hx.there;have c:=hx.s1 Y;cases a;simp at b c;simp[b,c]
def YC{s:ByteArray}(aw:s.size<=aS)(a8:i<=100)(aD:k<=s.size)(o:w.heap[n]? =K (rb s k ai)):
 bn 74 #[(aZ n),z9 1,z9 1,z9 i] w λe R=>AB s n k i 1 1 w e R:=by
 have⟨a3,am,a0,a1,a2⟩:=eU aE.nh;have aH:=bC o;have W:=ap o;have q:=ap (EA 0);go_enter aE.func74,Tryz.ntmps74;go_wp2_with fail
 go_loopw [9,12,13] (λa5 a4 E wr=>∃(a:List az) (f:Nat) (g:Bool),I a<=i/\E=n9 (I a)/\a4=z9 (fQ 0 a)/\(∀p∈a,VR p)/\aT wr (U w.heap) 59 3 a5 (I a) (bZ a)/\f<=s.size/\wr.heap[n]? =K (rb s f g)/\Kp n w wr/\
  ((∃d:List az,I d=i/\(∀p∈d,VK 1 p)/\aQ (bytesOf s) k (fw 0 d))->jN (fw 0) (VK 1) (bytesOf s) k i a/\f=k+I (fw 0 a)/\g=ai)) (λ_ _ E _=>i-bS (bw E))
 exact⟨[],k,ai,cE _,rfl,rfl,λp aY=>by simp at aY,iO _ _ _ _,aD,W.o,Kp.refl _ _,λ_=>⟨jN.zero Y,by simp[fw],rfl⟩⟩;obtain⟨a,f,g,a9,rfl,rfl,O,B,N,H,y,G⟩:=hrel;have ba:=y.size
 skip
 by_cases A:I a<i
 .go_wp2_with (first
   |(go_at_call 108;refine bL (YG n f g s wr aw N H) ?_;rintro e a6 ⟨z,c,P,F,rfl,aC,aG,J,aJ⟩;have C:=z.own B aH;have bb:=z.size;have V:=ap (y.trans z))
   |(go_at_call 109;refine bL (No c _ aC) ?_;rintro e R ⟨aL,rfl⟩;rw[aL])
   |(at_builtin;refine jw Y _ _ 43 Y (U w.heap) 59 a3 _ 3 32 aE.underlying43 am a0 a1 a2 Y ay _ (I a) _ Y (mB C _) ⟨U a6.heap,0,Z⟩ 1 1 [ak ai,z9 (dr (fQ 0 a+uz c)),au ⟨#[]⟩] Y ay Y (lR _) (lS (mX (fQ 0 a) (uz c))) gy aa bO ?_;intro bh S M al))
  have L:=dA.append al;rw[show[ak ai,z9 (dr (fQ 0 a+uz c)),au ⟨#[]⟩]=[ak (mX (fQ 0 a) (uz c)).null,z9 (mX (fQ 0 a) (uz c)).n,au (mX (fQ 0 a) (uz c)).s] from rfl,(nF a (mX (fQ 0 a) (uz c)))] at M;have aj:S.heap[n]? =K (rb s P F):=by
   rw[L.dR.block n (bC J) (λX=>cB ((C.lt n (bA X)).1))];exact J
  have ae:Kp n w S:=V.o.grown L.dR (λad o=>(C.lt ad o).1);refine⟨⟨a++[mX (fQ 0 a) (uz c)],P,F,bO,aF,by rw[E8];rfl,?_,cM M,aG,aj,ae,?_⟩,by simp[bw];omega⟩;intro T D;rcases eG.1 D with b|b
  .exact O T b
  .simp at b;rw[b];exact J_
  .rintro⟨d,b,h,j⟩;have⟨l,u,x⟩:=G ⟨d,b,h,j⟩;have⟨e,m,a7,r,t⟩:=l.next (e:=λa v=>bc (zz (dr (v.n-fQ 0 a)))) q.o A d b h j;have ab:aQ (bytesOf s) f (bc (zz (dr (e.n-fQ 0 a)))):=b5 u t;have Q:=uB (e.n-fQ 0 a);have⟨u1,u2,u3⟩:=aJ _ (vA Q.1 Q.2) ab;have aM:mX (fQ 0 a) (uz c)=e:=by rw[u1];exact I_9 e r
   rw[aM];refine⟨l.more (e:=λa v=>bc (zz (dr (v.n-fQ 0 a)))) q.o A r t (λT D aI=>IU D r aI t),?_,by rw[u3,x]⟩;rw[u2,u,q.o,cN,gF]
 have ao:I a=i:=aa;have⟨bd,be,ar⟩:=tw B;subst ar
 skip
 go_wp2;go_ret;refine⟨y,a,_,rfl,jG ao,O,B,f,g,N,H,?_⟩;intro d b h j;have⟨l,u,x⟩:=G ⟨d,b,h,j⟩;exact⟨bA ((l.done A).2 d b h j),x⟩
def YE{s:ByteArray}(N:s.size<=aS)(G:k<=100)(P:m<=s.size)(g:w.heap[n]? =K (rb s m ai)):
 bn 74 #[(aZ n),z9 2,z9 3,z9 k] w λu aG=>AB s n m k 2 3 w u aG:=by
 have⟨aw,L,W,ab,ad⟩:=eU aE.nh;have x:=ap g;go_enter aE.func74,Tryz.ntmps74;go_wp2_with fail;refine bL (LH s n m k _ N G P x.o) ?_;rintro u j ⟨o,b,v,rfl,aj,al,O,E⟩;obtain⟨aL,r,t,aM,rfl,am,ao,ar⟩:=iC.gC O;have S:=o.size;go_wp2_with fail
 go_loopw [9,23] (λaC i wr=>∃a:Nat,a<=I b/\i=n9 a/\aT wr (U j.heap) 59 3 aC a (bZ ((b.take a).map rF))/\aD j wr) (λ_ i _=>I b-bS (bw i))
 exact⟨0,cE _,rfl,by simpa [bZ] using iO _ _ _ _,bU _ _⟩;obtain⟨a,aJ,rfl,e,d⟩:=hrel;have R:=d.size
 skip
 by_cases h:a<I b;obtain rfl:=am aa;have F:=ao aa;have aI:aA wr ⟨r,t+a,Z⟩=K (bt bM (aX b a 0)):=(bq d (p:=⟨r,t+a,Z⟩) F).trans (ar a h);have y:X (bZ ((b.take a).map rF)++[ak ai,z9 (aX b a 0),au ⟨#[]⟩]=bZ ((b.take (a+1)).map rF)):=by
  show _=_;rw[gh h,gY,sg,<-nF,lM h];rfl
 generalize aX b a 0=c at*;go_wp2_with (at_builtin;refine jw Y _ _ 43 Y (U j.heap) 59 aw _ 3 32 aE.underlying43 L W ab ad Y ay _ a _ Y (mB e _) ⟨U wr.heap,0,Z⟩ 1 1 [ak ai,z9 c,au ⟨#[]⟩] Y ay Y (lR _) (lS ⟨ai,c,⟨#[]⟩⟩) gy aa bO ?_;intro a1 a2 q J);have H:=dA.append J;rw[y.o] at q;refine⟨⟨a+1,aa,by go_num,q,d.trans (H.below (λA g=>(e.lt A g).1) R)⟩,by simp[bw];omega⟩;obtain rfl:a=I b:=aa;rw[iZ] at e;have⟨aY,a0,M⟩:=tw e;subst M;go_wp2;go_ret;have⟨aF,z,Q,p,aH,T⟩:=E;refine⟨o.trans (Kp.iT d),b.map rF,_,rfl,by simpa using aj,?_,by rw[ee];exact j6 e S,aF,z,Q,by rw[cS d n (bC p)];exact p,?_⟩;intro a3 V;obtain⟨c,ae,rfl⟩:=kA.1 V;have:=al c ae;exact⟨rfl,⟨by show _<=c;omega,by show c<=_;omega⟩,by show(⟨#[]⟩:ByteArray).size<=32;decide⟩;intro f B l C;have D:aQ (bytesOf s) m (eK (f.map az.n)):=C;have⟨u1,u2,u3⟩:=T (f.map az.n) (by rw[ee];exact B) (Hl f l) D;exact⟨by rw[u1,Ig f l],u3⟩
def NS(b:Nat)(a:List Nat)(d:∀f∈a,f<2^b):D b (V (iH b a)) (I a)=a:=by
 have c:=DU b a d;have e:V (iH b a)=N b a:=by
  rw[DZ,iH,za,s7];exact cL c (n7 (by omega) (B9 b (I a)))
 refine HL b _ _ Av d w8 ?_;rw[za,e,s7 c]
def R2{s:ByteArray}{b:List az}(h:az)(t:m<=100)(hL:I b=m)(l:∀c∈b,VK M c)(d:aQ (bytesOf s) n (gi M b)):
 ∃(a:List az) (e:List Nat),I a<=m/\(∀c∈a,VK M c)/\I e=m/\(∀c∈e,c<I a)/\b=e.map (λp=>aX a p h)/\aQ (bytesOf s) n (bc (I a))/\aQ (bytesOf s) (n+I (bc (I a))) (dJ M a)/\
  aQ (bytesOf s) (n+I (bc (I a))+I (dJ M a)) (iH (wid (I a)) e):=by
 obtain⟨q,r,i⟩:=EB b h;obtain⟨j,k,f,g⟩:=wi b (I b) (aV _);rw[iZ] at j k f g;unfold gi at d;rw[dn,dn] at d;exact⟨(dfold b).1,(dfold b).2,by omega,λc o=>l c (g c o),by omega,f,bA i,d.1,d.2.1,d.2.2⟩
def Ya(c a b:Nat)(d:Bool)(s:ByteArray)(e:ag)(k:bf s<=aS)(p:b<=1000000)(l:a<=bf s)(hR:e.heap[c]? =K (rb s a d)):
 bn 100 #[(aZ c),n9 b] e λg f=>Kp c e f/\∃j:ByteArray,g=aR (au j)/\bf j<=aS/\zf s c f (λo m=>a+b<=bf s->j=e9 s a (a+b)/\o=a+b/\m=d):=by
 by_cases i:a+b<=bf s;refine bL (Dd c a b d s e k i hR) ?_;rintro g f ⟨h,rfl,hR⟩;exact⟨h,_,rfl,by rw[tM];omega,a+b,d,i,hR,λ_=>⟨rfl,rfl,rfl⟩⟩;refine bL (Dc c a (b:Int) d s e k (by omega) (by omega) l (an (by omega)) hR) ?_;rintro g f ⟨h,rfl,hR⟩;exact⟨h,_,rfl,by unfold aS;decide,a,af,l,hR,λn=>absurd n i⟩
def YD(co:M=1\/M=2\/M=3){s:ByteArray}(bl:s.size<=aS)(bk:i<=100)(eb:k<=s.size)(z:w.heap[n]? =K (rb s k ai)):
 bn 74 #[(aZ n),z9 M,z9 2,z9 i] w λf t=>AB s n k i M 2 w f t:=by
 have⟨cM,O,cy,cA,cB⟩:=eU aE.nh;have cv:=bC z;have b3:=ap z;clear z;go_enter aE.func74,Tryz.ntmps74;go_wp2_with fail;refine bL (Lr n k 100 ai s (by omega) bl eb b3.o) ?_;rintro f c4 ⟨bh,T,aG,a8,rfl,fa,ec,ci,er⟩;have bR:X (Kp n w c4):=bh;have b4:X (c4.heap[n]? =K (rb s aG a8)):=ci;have fd:=bh.size;clear bh ci b3;go_wp2_with fail
 go_loopw [16,17] (λdy L wr=>∃(b:List az) (e:Nat) (y:Bool),I b<=T/\L=n9 (I b)/\(∀c∈b,VR c)/\aT wr (U w.heap) 59 3 dy (I b) (bZ b)/\e<=s.size/\wr.heap[n]? =K (rb s e y)/\Kp n w wr/\
  ((a8=ai/\∃D:List az,I D=T/\(∀c∈D,VK M c)/\aQ (bytesOf s) aG (dJ M D))->jN (dJ M) (VK M) (bytesOf s) aG T b/\e=aG+I (dJ M b)/\y=ai)) (λ_ L _=>T-bS (bw L))
 case atStart=>exact⟨[],aG,a8,cE _,rfl,λc R=>by simp at R,iO _ _ _ _,ec,b4.o,bR.o,λz=>⟨jN.zero Y,by simp[dJ],z.1⟩⟩
 case round=>
  clear b4 bR;obtain⟨b,e,y,e2,rfl,Q,bm,J,ch,be,cd⟩:=hrel;have b7:=ap Q;have fc:=be.size;clear Q;by_cases a2:I b<T
  .go_wp2_with (first
    |(go_at_call 104;refine bL (Lt M co n e y s wr bl J ch) ?_;rintro f E ⟨G,c,rfl,R,aL⟩;have bo:=G.own bm cv;have el:=G.size;have ab:=ap (be.trans G);have ds:=ap R;have c6:=ap aL;clear R aL G)
    |(at_builtin;refine jw Y _ _ 43 Y (U w.heap) 59 cM _ 3 32 aE.underlying43 O cy cA cB Y ay _ (I b) _ Y ((bo.alloc _).alloc _) ⟨U E.heap+1,0,Z⟩ 1 1 [ak c.null,z9 c.n,au c.s] Y ay Y (by simpa using lR (E.alloc _)) (lS c) (by unfold aS;omega) aa bO ?_;intro fx u cs d4))
   have l:=dA.box (dA.append d4);rw[nF] at cs;have⟨a3,aI,eh,ck,bs⟩:=c6.o;have am:u.heap[n]? =K (rb s a3 aI):=by
    rw[l.dR.block n (bC ck) (λj=>by have:=(bo.lt n (bA j)).1;omega)];exact ck
   have dO:Kp n w u:=ab.o.grown l.dR (λbd z=>(bo.lt bd z).1);refine⟨⟨b++[c],a3,aI,bO,aF,?_,by simpa using cs,eh,am,dO,?_⟩,by simp[bw];omega⟩
   .intro p bx;rcases eG.1 bx with h|h
    .exact b7.o p h
    .simp at h;rw[h];exact ds.o
   .rintro⟨ae,a,h,A,F⟩;have⟨B,r,N⟩:=cd ⟨ae,a,h,A,F⟩;have⟨f,m,cb,bc,aJ⟩:=B.next (e:=λ_ v=>cZ M v) (um M) a2 a h A F;rw[<-r] at aJ;have⟨u1,u2,u3⟩:=bs f bc aJ;subst u1;refine⟨B.more (e:=λ_ v=>cZ M v) (um M) a2 bc (by rw[<-r];exact aJ) (λp bx ej=>wE co bx bc ej (by rw[<-r];exact aJ)),?_,by rw[u3,N]⟩;rw[u2,r,um,cN,gF]
  .have d1:I b=T:=by omega
   subst d1;have⟨eY,dP,d3⟩:=tw bm;subst d3;have a7:X (∀w,bn 110 #[n9 (I b)] w λj t=>j=aR (z9 (wid (I b)))/\t=w):=λw=>Nz (I b) aa w;have cx:=Aq (I b);have bP:X ((∃a:List az,I a=i/\(∀c∈a,VK M c)/\aQ (bytesOf s) k (gi M a))->y=ai/\∃d:List Nat,I d=i/\(∀f∈d,f<I b)/\aQ (bytesOf s) e (iH (wid (I b)) d)/\
    ∀a:List az,I a=i->(∀c∈a,VK M c)->aQ (bytesOf s) k (gi M a)->a=d.map (λe=>aX b e ⟨ai,0,⟨#[]⟩⟩)):=by
    have cY:∀a:List az,I a=i->(∀c∈a,VK M c)->aQ (bytesOf s) k (gi M a)->y=ai/\∃d:List Nat,I d=i/\(∀f∈d,f<I b)/\aQ (bytesOf s) e (iH (wid (I b)) d)/\a=d.map (λe=>aX b e ⟨ai,0,⟨#[]⟩⟩):=by
     intro a h A F;have⟨bb,d,fo,c0,eK,eL,eN,eP,bF,c1⟩:=R2 ⟨ai,0,⟨#[]⟩⟩ bk h A F;have⟨u1,u2,u3⟩:=er (I bb) aa eP;rw[<-u2] at bF c1;have⟨B,r,N⟩:=cd ⟨u3,bb,bA u1,c0,bF⟩;have cb:=(B.done (by omega)).2 bb (bA u1) c0 bF;subst cb;exact⟨N,d,eK,eL,by rw[r];exact c1,eN⟩
    rintro⟨a,h,A,F⟩;have⟨et,d,cP,cQ,cV,fk⟩:=cY a h A F;refine⟨et,d,cP,cQ,cV,?_⟩;intro dt dF dI aj;have⟨_,eR,ew,ey,eC,eI⟩:=cY dt dF dI aj;have cl:∀(o:List Nat),(∀f∈o,f<I b)->∀f∈o,f<2^wid (I b):=λo z f aw=>Ap (by omega) f (z f aw);have bH:=(zS s e (wid (I b)) d J (cl _ cQ) cV).2;have c2:=(zS s e (wid (I b)) eR J (cl _ ey) eC).2;rw[cP] at bH;rw[ew] at c2;rw[c2] at bH;rw[eI,bH]
   have d9:wid (I b)*i<=700:=dj (s8 cx bk) aa;have c9:X (∀f,f<I b->f<2^wid (I b)):=λf aw=>Ap (by omega) f aw;generalize wid (I b)=q at*;obtain⟨ad,aM⟩:∃ad,q*i=ad:=⟨_,rfl⟩;have dX:(q:Int)*(i:Int)=(ad:Int):=by rw[<-aM];push_cast;rfl
   rw[aM] at d9;obtain⟨x,cg⟩:∃x,x=(ad+7)/8:=⟨_,rfl⟩;have dT:((ad:Int)+7)/8=(x:Int):=aa;have bY:X (x=(i*q+7)/8):=by show _=_;rw[cg,<-aM,uP]
   have e0:x<=1000:=by omega
   have b5:X (bn 100 #[(aZ n),n9 x] wr λj t=>Kp n wr t/\∃bI:ByteArray,j=aR (au bI)/\bI.size<=aS/\zf s n t (λa3 aI=>e+x<=s.size->bI=e9 s e (e+x)/\a3=e+x/\aI=y)):=Ya n e x y s wr bl aa J ch;clear cg aM;go_wp2_with (go_at_call 110;refine bL (a7.o _) ?_;rintro f t ⟨rfl,ar⟩;rw[ar];clear ar t);refine bL b5.o ?_;rintro f E ⟨G,C,rfl,eq,aL⟩;have ab:=ap (be.trans G);have b1:=ap (G.own bm cv);have el:=ab.o.size;clear G b5;have b0:X (bn 111 #[au C,n9 q,n9 i] E λj t=>∃v,j=aR v/\aT t (U E.heap) 3 1 v i (cW (k3 (D q (V (bytesOf C)) i)))/\aD E t):=UJ C q i E eq aa bk;go_wp2_with (go_at_call 110;refine bL (a7.o _) ?_;rintro f t ⟨rfl,ar⟩;rw[ar];clear ar t);refine bL b0.o ?_;rintro f u ⟨eQ,rfl,br,aY⟩;have⟨a4,a9,ei,am,cn⟩:=aL;have dk:X (u.heap[n]? =K (rb s a4 a9)):=by show _=_;rw[aY.block n (bC am)];exact am
   have bV:=ap (ab.o.trans (Kp.iT aY));have b2:=ap (eM b1.o aY);have a5:X ((∃a:List az,I a=i/\(∀c∈a,VK M c)/\aQ (bytesOf s) k (gi M a))->a9=ai/\(∀f∈D q (V (bytesOf C)) i,f<I b)/\∀a:List az,I a=i->(∀c∈a,VK M c)->aQ (bytesOf s) k (gi M a)->a=(D q (V (bytesOf C)) i).map (λe=>aX b e ⟨ai,0,⟨#[]⟩⟩)):=by
    intro l;have⟨B,d,r,N,cc,dE⟩:=bP.o l;have cp:=oX cc (by rw[cJ];exact J);rw[wD,r,cJ,<-bY.o] at cp;have⟨eS,fw,eV⟩:=cn cp;have d0:bytesOf C=iH q d:=by
     rw[eS,m9,show e+x-e=x by omega];refine ux (B:=bytesOf s) (p:=e) (List.take_prefix _ _) cc ?_;rw[m7,uN,cJ,wD,r,<-bY.o];omega
    have dK:D q (V (bytesOf C)) i=d:=by
     rw[d0,<-r];exact NS q d (λf aw=>c9.o f (N f aw))
    rw[dK];exact⟨by rw[eV,B],N,dE⟩
   have al:I (D q (V (bytesOf C)) i)=i:=w8;have dL:∀e∈D q (V (bytesOf C)) i,e<128:=λe J=>by
    have h:=Av e J;have A:2^q<=2^7:=n7 aa cx;omega
   generalize D q (V (bytesOf C)) i=d at*;have a0:I (k3 d)=i:=by rw[<-al];simp[k3]
   obtain⟨fh,aC,cG,fi,rfl,bD,es,bE⟩:=iC.gC (show aT u (U E.heap) 3 1 eQ (I (k3 d)) (cW (k3 d)) by rw[a0];exact br);rw[a0] at bD es bE ⊢;have db:X (∀g,(O:g<I d)->aA u ⟨aC,cG+g,Z⟩=K (n9 (d[g]))):=λg O=>by
    have h:=bE g (by rw[<-al];exact O);rw[lM (by rw[a0,<-al];exact O)] at h;simpa [k3] using h
   have ca:=ap (jr.gC b2.o);have⟨fz,W,bJ,fB,c3,Q⟩:=ca.o;simp only[lX] at c3;obtain⟨rfl,_,rfl⟩:=c3;have dp:=ap Q;have em:=bV.o.size;have dc:X (0<i->U E.heap<=aC):=λae=>(br.lt aC (by rw[bD ae];rfl)).1;have dn:X (0<I b->U w.heap<=W):=λae=>(b2.o.lt W (by rw[Q.addr ae];rfl)).1;clear br aY am cn ab b1 bE Q ca b0 a7 bP dX dT a0;go_wp2_with fail
   go_loopw [9,21] (λeJ L bN=>∃(g:Nat) (o:List az) (y:Bool),g<=i/\L=n9 g/\I o<=g/\(∀c∈o,VR c)/\aT bN (U u.heap) 59 3 eJ (I o) (bZ o)/\bN.heap[n]? =K (rb s a4 y)/\Kp n u bN/\
    ((∃a:List az,I a=i/\(∀c∈a,VK M c)/\aQ (bytesOf s) k (gi M a))->o=(d.take g).map (λe=>aX b e ⟨ai,0,⟨#[]⟩⟩)/\y=ai)) (λ_ L _=>i-bS (bw L))
   case atStart=>exact⟨0,[],a9,cE _,rfl,aV _,λc R=>by simp at R,iO _ _ _ _,dk.o,Kp.refl _ _,λl=>⟨aF,(a5.o l).1⟩⟩
   case round=>
    obtain⟨g,o,ba,e3,rfl,e8,bv,P,bj,bi,cf⟩:=hrel;have aH:=ap bj;have H:X (Kp n u wr):=bi;have a6:=ap cf;have fg:=bi.size;have⟨du,dv,eX,dB,dC,eZ⟩:=nT bj;clear bj cf bi du dv dB dC;by_cases a2:g<i
    .have a1:g<I d:=by rw[al];exact a2
     have d7:=bD (by omega);have d6:aC≠n:=by have:=dc.o aa;omega
     have e1:aA wr ⟨aC,cG+g,Z⟩=K (bt bM (d[g]:Int)):=DQ H.o (db.o g a1) (λj=>d6 (by cases j;rfl));have fb:=dL _ (c8 a1);have dm:X ((d.take (g+1)).map (λe=>aX b e ⟨ai,0,⟨#[]⟩⟩)=(d.take g).map (λe=>aX b e ⟨ai,0,⟨#[]⟩⟩)++[aX b d[g] ⟨ai,0,⟨#[]⟩⟩]):=by
      show _=_;rw[gh a1,gY,sg]
     have df:X ((∃a:List az,I a=i/\(∀c∈a,VK M c)/\aQ (bytesOf s) k (gi M a))->d[g]<I b):=λl=>(a5.o l).2.1 _ (c8 a1);rw[d7] at*;generalize d[g]=p at*;by_cases S:p<I b
     .have ao:=dp.o;have d2:=ao.addr (by omega);have bu:W≠n:=by have:=dn.o aa;omega
      have ft:aA wr ⟨W,bJ+p*3,Z⟩=K (ak b[p].null):=DQ H.o (ao.c0 p S) (λj=>bu (by cases j;rfl));have fu:aA wr ⟨W,bJ+p*3+1,Z⟩=K (bt bM b[p].n):=DQ H.o (ao.c1 p S) (λj=>bu (by cases j;rfl));have fv:aA wr ⟨W,bJ+p*3+2,Z⟩=K (au b[p].s):=DQ H.o (ao.c2 p S) (λj=>bu (by cases j;rfl));have dq:=ap (b7.o _ (c8 S));have da:X (aX b p ⟨ai,0,⟨#[]⟩⟩=b[p]):=by show _=_;simp[aX,S]
      rw[d2] at*;generalize b[p]=c at*;clear ao;go_wp2_with (at_builtin;refine jw Y _ _ 43 Y (U u.heap) 59 cM _ 3 32 aE.underlying43 O cy cA cB Y ay _ (I o) _ Y (P.alloc _) ⟨U wr.heap,0,Z⟩ 1 1 [ak c.null,z9 c.n,au c.s] Y ay Y (lR _) (lS c) (by unfold aS;omega) aa bO ?_;intro fy c5 cu d5);have l:=dA.append d5;rw[nF] at cu;have dZ:c5.heap[n]? =K (rb s a4 ba):=by
       rw[l.dR.block n (bC aH.o) (λj=>by have:=(P.lt n (bA j)).1;omega)];exact aH.o
      have dS:Kp n u c5:=H.o.grown l.dR (λbd z=>(P.lt bd z).1);refine⟨⟨g+1,o++[c],ba,aa,by go_num,bO,?_,by simpa using cu,dZ,dS,?_⟩,by simp[bw];omega⟩
      .intro eW bs;rcases eG.1 bs with h|h
       .exact bv eW h
       .simp at h;rw[h];exact dq.o
      .intro l;have⟨B,r⟩:=a6.o l;exact⟨by rw[dm.o,da.o,B],r⟩
     .have c7:X (¬∃a:List az,I a=i/\(∀c∈a,VK M c)/\aQ (bytesOf s) k (gi M a)):=λl=>S (df.o l);have dl:=ap (wH aH.o);have dd:X (Kp n u (bg wr ⟨n,2,Z⟩ (ak af))):=H.o.tF;have dg:X (aT (bg wr ⟨n,2,Z⟩ (ak af)) (U u.heap) 59 3 u9 (I o) (bZ o)):=(Kp.tF (Kp.refl n wr)).own P aa;go_wp2_with fail;refine⟨⟨g+1,o,af,by omega,by go_num,aa,bv,dg.o,dl.o,dd.o,λl=>absurd l c7.o⟩,by simp[bw];omega⟩
    .obtain rfl:g=i:=by omega
     have⟨fl,fm,d8⟩:=tw P;subst d8;have eo:d.take g=d:=ja (by rw[al];omega);rw[eo] at a6;go_wp2;go_ret;refine⟨bV.o.trans H.o,o,_,rfl,by omega,bv,j6 P em,a4,ba,ei,aH.o,?_⟩;intro a h A F;have aj:aQ (bytesOf s) k (gi M a):=F;have⟨B,r⟩:=a6.o ⟨a,h,A,aj⟩;exact⟨by rw[B];exact bA ((a5.o ⟨a,h,A,aj⟩).2.2 a h A aj),r⟩
def YF(a g:Int)(h:eW a g=af)(s:ByteArray)(k j f:Nat)(l:ag)(d:bf s<=aS)(c:f<=100)(e:j<=bf s)(b:l.heap[k]? =K (rb s j ai)):
 bn 74 #[(aZ k),z9 a,z9 g,z9 f] l λp o=>AB s k j f a g l p o:=by
 have⟨m,n⟩:=B5 h;rcases n with rfl|rfl|rfl|rfl;exact YB m d c e b;have i:a=1:=by simp[eW] at h;omega
 subst i;exact YC d c e b;exact YD m d c e b;have i:a=2:=by simp[eW] at h;omega
 subst i;exact YE d c e b
def mY:List Int->Int
 | []=>0
 |z::a=>z+mY a
def N_:mY (qY++[M])=mY qY+M:=by
 induction qY with
 |nil=>simp[mY]
 |cons c b a=>simp[mY,a];omega
def O_9(b:List Int)(a:Nat)(c:a<I b):mY (b.take (a+1))=mY (b.take a)+aX b a 0:=by
 rw[gh c,N_,lM c]
def N_9(a:List Int)(c:∀b∈a,0<=b/\b<256):0<=mY a/\mY a<=256*I a:=by
 induction a with
 |nil=>simp[mY]
 |cons b i e=>
  have g:=e (λf d=>c f (by simp[d]));have h:=c b (by simp);simp[mY];omega
def O_(a:List Int)(b:iU a):mY a=(iw a:Nat):=by
 unfold iw
 induction a with
 |nil=>rfl
 |cons g h e=>
  have c:=e (λf d=>b f (by simp[d]));rcases b g aF with rfl|rfl;simp[mY];rw[c];simp[mY];rw[c];omega
def V2(c f:Int)(a3:eW c f=af)(s:ByteArray)(o:Nat)(b4:s.size<=aS)(b1:o<=100):
 bn 51 #[au s,bt bM c,bt bM f,bt bM o] w λx u=>aD w u/\∃(bI:Option aN) (be bO:Nat) (bi:Bool),x=aR (cC #[ah bI be bO,ak bi])/\
  ((bi=af/\∃g:List az,be=I g/\aT u (U w.heap) 59 3 (ah bI be bO) (I g) (bZ g)/\I g=o/\(∀j∈g,VC c j)/\g5 c f g=bytesOf s)\/(bi=ai/\p8 s c f o)):=by
 obtain⟨cx,a7,cl,cn,co⟩:=eU aE.nh;have A:=(B5 a3).1;have bm:=ap a3;clear a3;go_enter aE.func51,Tryz.ntmps51;go_wp2_with fail;have cc:(w.alloc (rb s 0 ai)).heap[U w.heap]? =K (rb s 0 ai):=kQ w _;have bR:aD w (w.alloc (rb s 0 ai)):=(bU _ _).alloc (aV _) _;have cd:(w.alloc (rb s 0 ai)).heap.size=U w.heap+1:=by simp
 refine(LH s (U w.heap) 0 o (w.alloc (rb s 0 ai)) b4 b1 (cE _) cc).mono ?_;rintro x G ⟨a0,b,v,rfl,d4,ba,aw,bP⟩;have aG:X (aD w G):=bR.trans (a0.below (by omega));have d2:U w.heap+1<=U G.heap:=by have:=a0.size;omega
 have bs:X (aT G (U w.heap+1) 3 1 v (I b) (cW b)):=by rw[cd] at aw;exact aw
 have bk:=ap bP;have dP:=ap ba;obtain⟨du,d5,d6,dv,rfl,cu,dt,cv⟩:=iC.gC aw;have bo:=ap cv;have bD:X (∀a,a<=I b->0<=mY (b.take a)/\mY (b.take a)<=60000):=λa a7=>by
  have l:=N_9 (b.take a) (λcA B=>ba cA (xo B));rw[m7] at l;omega
 clear a0 bP ba aw cv cc bR cd;go_wp2_with fail
 go_loopw [12,13] (λbh E wr=>∃a:Nat,a<=I b/\E=bt bM (a:Int)/\bh=bt bM (mY (b.take a))/\wr=G) (λ_ E _=>I b-bS (bw E))
 exact⟨0,cE _,rfl,rfl,rfl⟩;obtain⟨a,b3,rfl,rfl,rfl⟩:=hrel;by_cases t:a<I b
 .have a6:=cu (by omega);subst a6;have V:=bo.o a t;have d0:=bD.o a (by omega);have d1:=bD.o (a+1) (by omega);have dp:=O_9 b a t;generalize aX b a 0=cA at*;generalize mY (b.take a)=dR at*;generalize ay:mY (b.take (a+1))=dS at*;have cY:=ap ay;clear ay;subst dp;go_wp2
  go_roundw
  case rel=>exact⟨a+1,by omega,by go_num,by rw[cY.o],by trivial⟩
  case measure=>simp[bw];omega
 obtain rfl:a=I b:=by omega
 rename ag=>G
 rw[iZ];obtain⟨bj,bJ,ay,a1,b0,ch⟩:=bk.o;obtain⟨c0,J,S,c7,c9,da⟩:=nT a1;have bx:=ap a1;have bE:=ap ch;have aI:X (∀d:List az,I d=o->(∀j∈d,VC c j)->g5 c f d=bytesOf s->b=d.map fX/\bj=0+I (eK (d.map fX))/\bJ=ai/\aQ (bytesOf s) bj (jE c f (there d))):=by
  intro d l m k;have L:=uw k;unfold g5 at L;rw[dn] at L;obtain⟨u1,u2,u3⟩:=bE.o (d.map fX) (by rw[ee];exact l) (Cq d) L.1;exact⟨u1,u2,u3,by rw[u2];exact L.2⟩
 clear a1 ch c0 J c7 c9 da bk t b3;cases bJ with
 |true=>
  have D:X (p8 s c f o):=λd l m k=>by have:=(aI.o d l m k).2.2.1;cases this
  go_wp2;go_ret2;exact⟨aG.o,Z,0,0,ai,rfl,an ⟨rfl,D.o⟩⟩
 |false=>
  obtain⟨cs,a2⟩:=b0 rfl;have aj:=ap a2;have bH:=ap cs;have cf:=O_ b a2;have dm:iw b<=100:=by have:=Fs b;omega
  rw[cf];clear b0 a2 cf cs;go_wp2_with fail;refine(YF c f bm.o s (U w.heap) bj (iw b) G b4 dm ay bx.o).mono ?_;rintro x p ⟨am,n,em,rfl,dX,ca,b7,dd⟩;obtain⟨eo,bN,dZ,bY,ci⟩:=dd;have ae:X (aD w p):=aG.o.trans (am.below (by omega));have bu:X (aT p (U w.heap+1) 3 1 (ah du (I b) dv) (I b) (cW b)):=am.own bs.o (by omega);have cQ:=ap ca;have al:X (∀d:List az,I d=o->(∀j∈d,VC c j)->g5 c f d=bytesOf s->b=d.map fX/\n=there d/\bN=ai/\I n=iw b):=by
   intro d l m k;obtain⟨u1,u2,u3,u4⟩:=aI.o d l m k;have cg:I (there d)=iw b:=by rw[G7,u1]
   obtain⟨aF,bd⟩:=ci (there d) cg (Dt m) u4;exact⟨u1,aF,bd,by rw[aF];exact cg⟩
  obtain⟨c1,c2,c3,c4,c5,c6⟩:=nT bY;obtain⟨ej,F,Q,el,rfl,cb⟩:=jr.gC b7;have cV:=ap cb;have d3:U G.heap<=U p.heap:=am.size;clear am ca b7 ci bY c1 c2 c4 c5 c6 S aG bs bE aI bx bo cu dt cb;cases bN with
  |true=>
   have D:X (p8 s c f o):=λd l m k=>by have:=(al.o d l m k).2.2.1;cases this
   go_wp2;go_ret2;exact⟨ae.o,Z,0,0,ai,rfl,an ⟨rfl,D.o⟩⟩
  |false=>
   by_cases N:I n=iw b
   .have dl:((I n:Int) !=(iw b:Int))=ai:=by simp;omega
    have bv:=ap N;obtain⟨d7,C,P,d8,b2,dy,dB,cy⟩:=iC.gC bu.o;simp only[lX] at b2;obtain⟨rfl,_,rfl⟩:=b2;have cJ:=ap cy;clear N cy bu;go_wp2_with fail;clear c3
    go_loopw [15,16,17] (λdC bh E wr=>∃(a e:Nat) (g:List az),a<=I b/\e<=a/\E=bt bM (a:Int)/\bh=bt bM (e:Int)/\sS c b n a e g/\aT wr (U p.heap) 59 3 dC a (bZ g)/\aD p wr) (λ_ _ E _=>I b-bS (bw E))
    exact⟨0,0,[],cE _,aV _,rfl,rfl,⟨rfl,rfl,rfl,λj ds=>by simp at ds⟩,iO _ _ _ _,bU _ _⟩;obtain⟨a,e,g,b3,dT,rfl,rfl,bV,aa,aZ⟩:=hrel;have r:=ap bV;have H:=ap aZ;have aC:=aZ.size;clear bV aZ;by_cases t:a<I b
    .have a6:=dy (by omega);subst a6;have df:=dB (by omega);have V:aA wr ⟨C,P+a,Z⟩=K (bt bM (aX b a 0)):=(bq H.o (p:=⟨C,P+a,Z⟩) df).trans (cJ.o a t);by_cases B:aX b a 0=0
     .have aH:=ap (r.o.null aj.o t B);have z:gT sC c=af:=VC.may A (aq ⟨rfl,rfl,rfl⟩);have R:X (∀w,bn 47 #[cw #[ak af,bt bM 0,au ⟨#[]⟩],bt bM c] w λf u=>f=aR (ak af)/\aD w u):=λw=>by have:=x4 sC c w A;rw[z] at this;exact this
      rw[B] at V;have dg:∀h:cj,aA (wr.alloc h) ⟨C,P+a,Z⟩=K (bt bM 0):=λh=>(bq ((bU (U wr.heap) wr).alloc (aV _) h) (p:=⟨C,P+a,Z⟩) (by show C<_;omega)).trans V;clear B z;go_wp2_with (first
       |(go_at_call 47;refine(R.o _).mono ?_;rintro x q ⟨rfl,i⟩;have T:q.heap[U wr.heap]? =K (ax #[ak af,bt bM 0,au ⟨#[]⟩] 59 (0,0)):=(cS i (U wr.heap) (by simp)).trans (kQ wr _);obtain⟨dK,dL,dO,_⟩:=rG T;have ab:=eM (aa.alloc _) i;have a9:=i.size;have y:X (aD p q):=(H.o.alloc aC _).trans (i.mono (by simp;omega));clear T i)
       |(at_builtin;refine jw Y _ _ 43 Y (U p.heap) 59 cx _ 3 32 aE.underlying43 a7 cl cn co Y (by decide) _ a _ Y (ab.alloc _) ⟨U q.heap,0,Z⟩ 1 1 [ak af,bt bM 0,au ⟨#[]⟩] Y (by decide) Y (lR _) (lS sC) (by unfold aS;omega) (by omega) (by simp at a9 ⊢;omega) ?_;intro dI dJ ad a5))
      have a4:=dA.append a5;rw[show[ak af,bt bM 0,au ⟨#[]⟩]=[ak sC.null,bt bM sC.n,au sC.s] from rfl,nF] at ad;refine⟨⟨a+1,e,g++[sC],by omega,by omega,by go_num,rfl,aH.o,ad,y.o.trans (a4.below (λaM aY=>(ab.lt aM aY).1) y.o.size)⟩,by simp[bw];omega⟩
     .have M:=r.o.lt aj.o t B bv.o;have cp:aX b a 0=1:=by
       have k:=aj.o _ (c8 t);rw[<-lM t] at k;omega
      have cP:X (VK c n[e]->sS c b n (a+1) (e+1) (g++[n[e]])):=λdq=>r.o.one aj.o t B M dq;have bF:=ap (cQ.o _ (c8 M));have cB:X (gT n[e] c=ai->p8 s c f o):=by
       intro b5 d l m k;have L:=(al.o d l m k).2.1;have dc:VK c n[e]:=Dt m _ (by rw[<-L];exact c8 M);rw[AX A dc] at b5;cases b5
      have O:=cV.o.below H.o;have N:=O.addr (by omega);have a8:F<U wr.heap:=O.lt (by omega);have W:∀h:cj,aD wr (wr.alloc h):=λh=>(bU (U wr.heap) wr).alloc (aV _) h;rw[cp] at V;have dg:∀h:cj,aA (wr.alloc h) ⟨C,P+a,Z⟩=K (bt bM 1):=λh=>(bq (W h) (p:=⟨C,P+a,Z⟩) (by show C<_;omega)).trans V;have ec:∀h:cj,aA (wr.alloc h) ⟨F,Q+e*3,Z⟩=K (ak n[e].null):=λh=>(bq (W h) (p:=⟨F,Q+e*3,Z⟩) a8).trans (O.c0 e M);have eh:∀h:cj,aA (wr.alloc h) ⟨F,Q+e*3+1,Z⟩=K (bt bM n[e].n):=λh=>(bq (W h) (p:=⟨F,Q+e*3+1,Z⟩) a8).trans (O.c1 e M);have ei:∀h:cj,aA (wr.alloc h) ⟨F,Q+e*3+2,Z⟩=K (au n[e].s):=λh=>(bq (W h) (p:=⟨F,Q+e*3+2,Z⟩) a8).trans (O.c2 e M);rw[N] at*;generalize n[e]=j at*;clear B cp O W;cases z:gT j c with
      |true=>
       have cZ:=ap (cP.o (Ho A bF.o.there bF.o.BD z));have R:X (∀w,bn 47 #[cw (dF j),bt bM c] w λf u=>f=aR (ak af)/\aD w u):=λw=>by have:=x4 j c w A;rw[z] at this;exact this
       clear z;go_wp2_with (first
        |(go_at_call 47;refine(R.o _).mono ?_;rintro x q ⟨rfl,i⟩;have T:q.heap[U wr.heap]? =K (ax (dF j) 59 (0,0)):=(cS i (U wr.heap) (by simp)).trans (kQ wr _);obtain⟨dK,dL,dO,_⟩:=rG T;have ab:=eM (aa.alloc _) i;have a9:=i.size;have y:X (aD p q):=(H.o.alloc aC _).trans (i.mono (by simp;omega));clear T i)
        |(at_builtin;refine jw Y _ _ 43 Y (U p.heap) 59 cx _ 3 32 aE.underlying43 a7 cl cn co Y (by decide) _ a _ Y (ab.alloc _) ⟨U q.heap,0,Z⟩ 1 1 [ak j.null,bt bM j.n,au j.s] Y (by decide) Y (lR _) (lS j) (by unfold aS;omega) (by omega) (by simp at a9 ⊢;omega) ?_;intro dI dJ ad a5))
       have a4:=dA.append a5;rw[nF] at ad;refine⟨⟨a+1,e+1,g++[j],by omega,by omega,by go_num,by go_num,cZ.o,ad,y.o.trans (a4.below (λaM aY=>(ab.lt aM aY).1) y.o.size)⟩,by simp[bw];omega⟩
      |false=>
       have D:=ap (cB.o z);have R:X (∀w,bn 47 #[cw (dF j),bt bM c] w λf u=>f=aR (ak ai)/\aD w u):=λw=>by have:=x4 j c w A;rw[z] at this;exact this
       clear z;go_wp2_with (go_at_call 47;refine(R.o _).mono ?_;rintro x q ⟨rfl,i⟩;have y:X (aD p q):=(H.o.alloc aC _).trans (i.mono (by simp;omega));clear i);go_ret2;exact⟨ae.o.trans (y.o.mono (by omega)),Z,0,0,ai,rfl,an ⟨rfl,D.o⟩⟩
    .obtain rfl:a=I b:=by omega
     have J:=r.o.lv;have S:=r.o.th;have aL:=r.o.A2;rw[iZ] at J aL;rw[aL,<-bv.o,iZ] at S;have ar:I g=I b:=by rw[<-J,ee]
     have br:=ap ar;have cG:=ap J;have aH:=ap S;obtain⟨bb,bc,dk⟩:=tw aa;subst dk;have aJ:X (aT wr (U p.heap) 59 3 (ah bb (I b) bc) (I g) (bZ g)):=by rw[ar];exact aa
     have bl:X (bn 75 #[ah bb (I b) bc,bt bM c,bt bM f] wr λdE u=>dE=aR (au (strOf (g5 c f g)))/\aD wr u):=PV g c f wr A (B5 bm.o).2 (λx ck=>aaL (r.o.ok x ck).BD ((r.o.ok x ck).may A)) (by rw[ar,bH.o];exact b1) (jr.gC aJ.o);clear aa J S aL ar;go_wp2_with fail;refine bl.o.mono ?_;rintro x q ⟨rfl,i⟩;have y:X (aD w q):=ae.o.trans ((H.o.trans (i.mono aC)).mono (by omega));have cM:=ap (eM aJ.o i);clear i aJ bl;go_wp2;go_ret2;refine⟨y.o,bb,I b,bc,_,rfl,?_⟩;by_cases ao:strOf (g5 c f g)=s
     .left
      refine⟨by rw[ao];simp,g,bA br.o,j6 cM.o (by omega),by rw[br.o];exact bH.o,r.o.ok,?_⟩;rw[<-ao,Ip (Rn c f g)]
     right
     refine⟨?_,?_⟩;rw[beq_eq_false_iff_ne];intro db;exact ao (toList_inj db)
     .intro d l m k;obtain⟨aF,bd,d9,eb⟩:=al.o d l m k;have:g=d:=J0 g d r.o.ok m (by rw[cG.o,aF]) (by rw[aH.o,bd]);subst this;apply ao;rw[k,Dq]
   have D:X (p8 s c f o):=λd l m k=>N (al.o d l m k).2.2.2;have dl:((I n:Int) !=(iw b:Int))=af:=by simp;omega
   clear N;go_wp2;go_ret2;exact⟨ae.o,Z,0,0,ai,rfl,an ⟨rfl,D.o⟩⟩
def ou (f:ag)(a:Nat)(b c d e:F):ag:=bg (bg (bg (bg f ⟨a,0,Z⟩ b) ⟨a,1,Z⟩ c) ⟨a,2,Z⟩ d) ⟨a,3,Z⟩ e
def KM(a b c d:F)(e:w.heap[n]? =K (ax #[v,x,y,z] Qc (0,0))):(ou w n a b c d).heap[n]? =K (ax #[a,b,c,d] Qc (0,0)):=by
 exact eE _ n 3 _ _ d (eE _ n 2 _ _ c (eE _ n 1 _ _ b (eE w n 0 _ _ a e)))
def VP(a:m≠n):(ou w n v x y z).heap[m]? =w.heap[m]? :=by
 unfold ou;rw[ef _ _ _ _ a,ef _ _ _ _ a,ef _ _ _ _ a,ef _ _ _ _ a]
def nX(a:w.heap[n]? =K (ax #[v,x,y,z] Qc (0,0))):(aA w ⟨n,0,Z⟩=K v/\aA w ⟨n,1,Z⟩=K x/\aA w ⟨n,2,Z⟩=K y/\aA w ⟨n,3,Z⟩=K z)/\∀b,cU w ⟨n,b,Z⟩=ai:=by
 unfold aA cU;simp[a]
def jv (b:cO):de:=match b.body with|some (aU _ (aU _ (aU _ (aU (aU _ (ga _ (.loop (aU _ (aU (ga _ a) _))))) _))))=>a|_=>eO
def C8 (b:cO):de:=match jv b with|aU _ (aU _ (aU _ (aU _ (aU _ (aU _ (aU _ (aU a _)))))))=>a|_=>eO
def oy (b:cO):de:=match jv b with|aU _ (aU _ (aU _ (aU _ (aU _ (aU _ (aU _ (aU _ a)))))))=>a|_=>eO
def eX (v:Nat->F):bK:=⟨#[v 0,v 1,v 2,v 3,v 4,v 5,v 6,v 7,v 8,v 9,v 10,v 11,v 12,v 13,v 14,v 15,v 16,v 17,v 18,v 19,v 20,v 21,v 22,v 23,v 24,v 25,v 26,v 27,v 28,v 29,v 30,v 31,v 32,v 33,v 34,v 35,v 36,v 37,v 38,v 39,v 40,v 41,v 42,v 43,v 44,v 45,v 46,v 47,v 48,v 49,v 50,v 51,v 52,v 53,v 54,v 55,v 56,v 57,v 58,v 59,v 60,v 61,v 62,v 63,v 64,v 65,v 66,v 67,v 68,v 69,v 70,v 71,v 72,v 73,v 74,v 75,v 76,v 77,v 78,v 79,v 80,v 81,v 82,v 83,v 84,v 85,v 86,v 87,v 88,v 89,v 90,v 91,v 92,v 93,v 94,v 95,v 96,v 97,v 98,v 99,v 100,v 101,v 102,v 103,v 104,v 105,v 106,v 107,v 108,v 109,v 110,v 111,v 112,v 113,v 114,v 115,v 116,v 117,v 118,v 119,v 120,v 121,v 122,v 123,v 124,v 125,v 126,v 127,v 128,v 129,v 130,v 131,v 132,v 133,v 134,v 135,v 136,v 137,v 138,v 139,v 140,v 141,v 142,v 143,v 144,v 145,v 146,v 147,v 148,v 149,v 150,v 151,v 152,v 153,v 154,v 155,v 156,v 157,v 158,v 159,v 160,v 161,v 162,v 163,v 164,v 165],[]⟩
abbrev ko(v:Nat->F):List (Nat×F):=[(0,v 0),(1,v 1),(2,v 2),(3,v 3),(4,v 4),(10,v 10),(11,v 11),(12,v 12),(13,v 13),(14,v 14),(15,v 15),(17,v 17)]
def wC(f:aT w n k i v j S)(l:m<=n):aT w m k i v j S:=by
 have⟨g,h⟩:=f;exact⟨g,h.imp id fun⟨e,c,d,a,b,o⟩=>⟨e,c,d,a,dj l b,o⟩⟩
def iJ{b s:Nat}(a:U Q.tmps=b)(c:Cc.cG Q s=v):Cc.Knows Q b [(s,v)]:=Cc.Knows.cons (l:=[]) ⟨a,λs v a=>by simp at a⟩ c
def VG (c:ag)(e:Nat)(d:Array F)(N f:Nat)(a:List az):Prop:=
 ∃b,d[f]? =K b/\I a=N/\aT c e 59 3 b N (bZ a)
def VG.below{N b:Nat}{a:List az}(c:VG w n C N b a)(g:aD w u):VG u n C N b a:=by
 have⟨h,d,e,f⟩:=c;exact⟨h,d,e,eM f g⟩
def XU{v:Nat->F}{s:List (bF×Int)}{bb:Nat->ByteArray}{V:Nat->List az}{N:Nat}{D:List bJ}{rb bY bE:Nat}(eq:Array F)
 (bh:v 0=(aZ n)) (J:v 1=ah QC (I aj) bH) (L:v 2=ah QD (I D) bE) (bi:v 10=(aZ i)) (bj:v 11=(aZ j)) (bk:v 14=(aZ m)) (bl:v 17=aI k (I s) (I s))
 (cn:I aj<=aS) (co:I D<=aS) (eh:I s<=1000) (dK:N<=100) (d9:0<N)
 (ab:w.heap[n]? =K (ax #[aI a (I s) d,aI b (I s) e,x,y] 113 (0,0))) (ck:∀l (u:l<I s),aA w ⟨a,l*2+1,Z⟩=K (bt bM s[l].1.kind)/\aA w ⟨b,l,Z⟩=K (bt bM s[l].2)/\aA w ⟨c,l*9+8,Z⟩=K (au (bb l))/\(bb l).size<=aS/\eW s[l].1.kind s[l].2=af/\Cc.lH (bb l) s[l].1.kind s[l].2 (N:Int) (V l))
 (aw:w.heap[m]? =K (ax #[n9 N,aI c (I s) f] 122 (0,0))) (S:w.heap[k]? =K (ax C 43 (0,0))) (ap:C.size=I s)
 (aQ:w.heap[j]? =K (ax #[ah O g h,ah P p q,z9 0,z9 M] 84 (0,0))) (cx:w.heap[i]? =K (ax #[aH,aH,z9 0,z9 0] 84 (0,0)))
 (cl:r<k/\rb<k/\n<k/\m<k/\a<k/\b<k/\c<k/\i<k/\j<k/\i≠j) (dL:i<=j)
 (cf:0<I aj->QC=K ⟨r,bN,Z⟩) (cg:∀l,l<I aj->aA w ⟨r,bN+l,Z⟩=K (z9 (aX aj l 0))) (cs:dy w QD rb bY D):
 (C8 cR).wp (aM av) (λE a6 am=>(E=e4/\Kp k w am/\(∃z,am.heap[k]? =K (ax z 43 (0,0))/\z.size=I s/\∀t:Nat,t<I s->jC (t:Int) aj D=af->VG am (k+1) z N t (V t))/\Cc.Knows a6 166 (ko v)/\b8 a6=[])\/
   (E= .ret/\(∃t:Nat,t<I s/\jC (t:Int) aj D=af/\I (V t)≠N)/\dw i w am/\(∀o,o<k->o≠i->o≠j->am.heap[o]? =w.heap[o]?)/\am.heap[i]? =K (ax #[ah O g h,ah P p q,z9 3,z9 M] 84 (0,0))/\Cc.Knows a6 166 [(10,v 10)]/\b8 a6=[])) (eX v) w:=by
 unfold eX;rw[bh,J,L,bi,bj,bk,bl];unfold C8 jv cR;dsimp only;go_wp2_with fail;have dp:X (v 0=(aZ n)/\v 1=ah QC (I aj) bH/\v 2=ah QD (I D) bE/\v 10=(aZ i)/\v 11=(aZ j)/\v 14=(aZ m)/\v 17=aI k (I s) (I s)):=⟨bh,J,L,bi,bj,bk,bl⟩;have c7:X _:=ab;have db:X _:=ck;have c4:X _:=aw;have dl:X _:=aQ;have dm:X _:=cx;have c5:X _:=cf;have c6:X _:=cg;have dk:X _:=cs;have dd:X _:=cl;have c9:X _:=dL;have al:X (k<U w.heap):=bC S;have b4:X (∃z,w.heap[k]? =K (ax z 43 (0,0))/\z.size=I s/\∀t:Nat,t<0->jC (t:Int) aj D=af->VG w (k+1) z N t (V t)):=⟨C,S,ap,λt u=>aa⟩;have b1:X (I aj<=aS/\I D<=aS):=⟨cn,co⟩;clear ab ck aw S ap aQ cx cf cg cs cl bh J L bi bj bk bl cn co
 go_loopw [18] (λa1 wr=>∃l:Nat,l<=I s/\a1=z9 l/\Kp k w wr/\∃z,wr.heap[k]? =K (ax z 43 (0,0))/\z.size=I s/\∀t:Nat,t<l->jC (t:Int) aj D=af->VG wr (k+1) z N t (V t)) (λa1 _=>I s-bS (bw a1))
 exact⟨0,cE _,rfl,Kp.refl _ _,b4.o⟩;clear b4;obtain⟨l,ec,rfl,aF,z,S,ap,ba⟩:=hrel;have⟨dX,d0,bv,bx,cB,cG,cJ,d1,d2,dZ⟩:=dd.o;have aC:∀o,o<k->wr.heap[o]? =w.heap[o]? :=λo u=>dz aF o (by have:=al.o;omega) (λE=>by cases E;omega);have aE:∀o T,o<k->aA wr ⟨o,T,Z⟩=aA w ⟨o,T,Z⟩:=λo T u=>by unfold aA;rw[aC o u]
 have ab:=(aC n bv).trans c7.o;have bd:aA wr ⟨n,0,Z⟩=K (aI a (I s) d):=by simp[aA,ab]
 have be:aA wr ⟨n,1,Z⟩=K (aI b (I s) e):=by simp[aA,ab]
 by_cases ch:l<I s
 .have⟨bO,bP,bR,c0,c1,c2⟩:=db.o l ch;have aw:=(aC m bx).trans c4.o;have cb:aA wr ⟨m,0,Z⟩=K (n9 N):=by simp[aA,aw]
  have cc:aA wr ⟨m,1,Z⟩=K (aI c (I s) f):=by simp[aA,aw]
  rw[<-aE _ _ cB] at bO;rw[<-aE _ _ cG] at bP;rw[<-aE _ _ cJ] at bR;have aG:=ON (l:Int) aj D QC r bN bH QD rb bY bE wr b1.o.1 b1.o.2 c5.o (λa1 dO=>(aE _ _ dX).trans (c6.o a1 dO)) (dk.o.kept aF.size (λ_=>aC _ d0));have ae:X _:=aF;have a5:X _:=ba;have a4:X _:=S;have b5:X _:=c1;have b7:X _:=c2;have ds:X _:=c0;have dP:(l:Int)<(I s:Int):=aa;clear ba aF aC aE ab aw c0 c1 c2 S;generalize s[l].1.kind=ad at*;generalize s[l].2=ao at*;generalize eb:bb l=a3 at*;cases ar:jC (l:Int) aj D
  .rw[ar] at aG;have bc:X (jC (l:Int) aj D=ai):=ar;clear ar;go_wp2_with (go_at_call 50;refine aG.mono ?_;rintro E bI ⟨rfl,a0⟩;rw[a0];clear a0 bI)
   go_roundw
   case rel=>
    refine⟨l+1,by omega,by go_num,ae.o,z,a4.o,ap,λt aQ W=>?_⟩;by_cases E:t=l
    .subst E;rw[bc.o] at W;cases W
    .exact a5.o t (by omega) W
   case measure=>simp[bw];omega
  .rw[ar] at aG;have bc:X (jC (l:Int) aj D=af):=ar;clear ar;go_wp2_with (go_at_call 50;refine aG.mono ?_;rintro E bI ⟨rfl,a0⟩;rw[a0];clear a0 bI);clear aG;go_upto_region 18 with fail;refine Un.open_ (λw=>aA w ⟨n,0,Z⟩=K (aI a (I s) d)/\aA w ⟨n,1,Z⟩=K (aI b (I s) e)/\aA w ⟨a,l*2+1,Z⟩=K (bt bM ad)/\aA w ⟨b,l,Z⟩=K (bt bM ao)/\aA w ⟨m,0,Z⟩=K (bt bM (N:Int))/\aA w ⟨m,1,Z⟩=K (aI c (I s) f)/\aA w ⟨c,l*9+8,Z⟩=K (au a3)) 23 (λ_ _ _ _ _ u=>Or.elim u (λu=>absurd u.1 (λu=>by cases u)) (λu=>absurd u.1 (λu=>by cases u))) λei=>?_;have dJ:(λw=>aA w ⟨n,0,Z⟩=K (aI a (I s) d)/\aA w ⟨n,1,Z⟩=K (aI b (I s) e)/\aA w ⟨a,l*2+1,Z⟩=K (bt bM ad)/\aA w ⟨b,l,Z⟩=K (bt bM ao)/\aA w ⟨m,0,Z⟩=K (bt bM (N:Int))/\aA w ⟨m,1,Z⟩=K (aI c (I s) f)/\aA w ⟨c,l*9+8,Z⟩=K (au a3)) wr.drew:=by go_keep
   refine Un.pk 0 ?_;refine Un.ld [23,5,4,3] 1 ?_;refine Un.pk 2 ?_;refine Un.pk 3 ?_;refine Un.pk 4 ?_;refine Un.ld [23] 5 ?_;refine Un.pk 6 ?_;refine Un.pk 7 ?_;refine Un.pk 8 ?_;refine Un.ld [23,13,12,11] 9 ?_;refine Un.pk 10 ?_;refine Un.pk 11 ?_;refine Un.pk 12 ?_;refine Un.ld [23] 13 ?_;refine Un.pk 14 ?_;refine Un.pk 15 ?_;refine Un.pk 16 ?_;refine Un.ld [23,20,19] 17 ?_;refine Un.pk 18 ?_;refine Un.pk 19 ?_;refine Un.ld [23] 20 ?_;refine Un.pk 21 ?_;refine Un.ld [23] 22 ?_;try simp only[bG,cz,ct,cr]
   refine Un.on 23 λaL R=>?_;go_simp;go_at_call 51;refine(V2 ad ao b5.o a3 N ds.o dK).mono ?_;rintro cZ B ⟨cd,G,cM,H,d3,rfl,cu⟩;have bn:aD wr B:=(bU _ wr).drew.trans cd;have aJ:X _:=bn;have dR:k<U wr.heap:=cL al.o ae.o.size;have Q:∀o T,o<k->aA B ⟨o,T,Z⟩=aA wr ⟨o,T,Z⟩:=λo T u=>bq bn (p:=⟨o,T,Z⟩) (by show o<_;omega);have dI:=rV ((Q _ 0 bv).trans bd) (rV ((Q _ 1 bv).trans be) (rV ((Q _ _ cB).trans bO) (rV ((Q _ _ cG).trans bP) (rV ((Q _ 0 bx).trans cb) (rV ((Q _ 1 bx).trans cc) ((Q _ _ cJ).trans bR))))));clear Q;have b3:X _:=cu;clear cu cd bn;refine R.o _ _ (λu=>absurd u ay) ?_;clear R aL dJ;refine Un.pk 24 ?_;refine Un.pk 25 ?_;refine Un.pk 26 ?_;try simp only[bG,cz,ct,cr]
   refine Un.on 27 λaL R=>?_;go_simp;refine R.o _ _ (λu=>absurd u ay) ?_;clear R aL;try simp only[bG,cz,ct,cr]
   refine Un.on 28 λaL R=>?_;go_simp;refine R.o _ _ (λu=>absurd u ay) ?_;clear R aL;try simp only[bG,cz,ct,cr]
   refine Un.done (by kernel_rfl) ?_ _;clear dI bd be cb cc bO bP bR;have aY:=(cS aJ.o k dR).trans a4.o;cases d3
   .have dS:p8 a3 ad ao N:=by
     rcases b3.o with⟨u,_⟩|⟨_,u⟩;cases u;exact u
    have df:X (I (V l)≠N):=by
     have:=Cc.lH.Kc (vs:=V l) b7.o Y dS;show I (V l)≠N;rw[this];show 0≠N;omega
    have a8:∀o,o<k->B.heap[o]? =w.heap[o]? :=λo u=>(cS aJ.o o aa).trans (dz ae.o o (by have:=al.o;omega) (λE=>by cases E;omega));have br:=(a8 j d2).trans dl.o;have cy:=(a8 i d1).trans dm.o;have⟨⟨cP,cQ,cV,cW⟩,cY⟩:=nX br;have d4:=cY 2;have cv:(bg B ⟨j,2,Z⟩ (bt bM 3)).heap[j]? =K (ax #[ah O g h,ah P p q,bt bM 3,bt bM M] 84 (0,0)):=eE B j 2 _ _ _ br;have bo:(bg B ⟨j,2,Z⟩ (z9 3)).heap[i]? =K (ax #[aH,aH,z9 0,z9 0] 84 (0,0)):=(ef _ _ _ _ dZ).trans cy;have b2:X (∀o,o<k->o≠i->o≠j->(bg B ⟨j,2,Z⟩ (z9 3)).heap[o]? =w.heap[o]?):=λo J L bm=>(ef _ _ _ _ bm).trans (a8 o J);have bV:X (dw i w (bg B ⟨j,2,Z⟩ (z9 3))):=kg (((Kp.below (show Kp k w wr from ae.o) (uO al.o)).trans (aJ.o.mono aa)).mono aa) (by have:=al.o;omega) (by have:=c9.o;omega);clear cY a8 br cy aY a4 a5;go_upto_region 21 with fail;generalize bg B ⟨j,2,Z⟩ (z9 3)=ca at*;clear cP cQ cV cW d4;obtain⟨⟨cP,cQ,cV,cW⟩,-⟩:=nX cv;have⟨⟨ej,el,em,eo⟩,a2⟩:=nX bo;have bd:=a2 0;have be:=a2 1;have d7:=a2 2;have d8:=a2 3;have dq:X _:=KM (ah O g h) (ah P p q) (z9 3) (z9 M) bo;have dg:X (∀o,o<k->o≠i->o≠j->(ou ca i (ah O g h) (ah P p q) (z9 3) (z9 M)).heap[o]? =w.heap[o]?):=λo J L bm=>(VP L).trans (b2.o o J L bm);have a7:i<=U w.heap:=by have:=al.o;omega
    have c3:X (dw i w (ou ca i (ah O g h) (ah P p q) (bt bM 3) (bt bM M))):=kg (kg (kg (kg bV.o a7 (aV _)) a7 (aV _)) a7 (aV _)) a7 (aV _);clear a2 cv bo b2 bV;unfold ou at*;go_wp2_with fail;exact⟨⟨l,ch,bc.o,df.o⟩,c3.o,dg.o,dq.o,iJ Y Y⟩
   .obtain⟨A,rfl,cp,dT,bu,bs⟩:∃A:List az,cM=I A/\aT B (U wr.drew.heap) 59 3 (ah G cM H) (I A) (bZ A)/\I A=N/\(∀cZ∈A,VC ad cZ)/\g5 ad ao A=bytesOf a3:=by
     rcases b3.o with⟨_,u⟩|⟨u,_⟩;exact u;cases u
    subst dT;have cA:A=V l:=by
     rcases b7.o with⟨bD,J,_,_,dF⟩|⟨_,u|⟨bD,J,L⟩⟩;obtain rfl:bD=I A:=aa;exact dF.mj A Y bu (uw bs)
     .exact absurd (show j0 (I A:Int) ad ao=0 by unfold j0;rw[if_neg (by omega),if_pos b5.o]) u
     obtain rfl:bD=I A:=aa;exact absurd bs (L A Y bu)
    have ci:l<z.size:=by omega
    have d6:aA B ⟨k,l,Z⟩=K z[l]:=by simp[aA,aY,ci]
    have er:cU B ⟨k,l,Z⟩=ai:=by simp[cU,aY]
    have a9:Kp k B (bg B ⟨k,l,Z⟩ (ah G (I A) H)):=(Kp.refl k B).set l (ah G (I A) H) 0;have dc:X (Kp k w (bg B ⟨k,l,Z⟩ (ah G (I A) H))):=Kp.trans (Kp.trans ae.o (Kp.iT aJ.o)) a9;have dn:X ((bg B ⟨k,l,Z⟩ (ah G (I A) H)).heap[k]? =K (ax (cF z l (ah G (I A) H)) 43 (0,0))):=eE B k l _ _ _ aY;have da:X (∀t:Nat,t<l+1->jC (t:Int) aj D=af->VG (bg B ⟨k,l,Z⟩ (ah G (I A) H)) (k+1) (cF z l (ah G (I A) H)) (I A) t (V t)):=λt aQ W=>by
     by_cases E:t=l;subst E;rw[<-cA];exact⟨ah G (I A) H,by simp[ci],rfl,a9.own (by exact wC cp (by show k+1<=U wr.heap;omega)) aa⟩;have⟨d5,u1,u2,u3⟩:=(a5.o t aa W).below aJ.o;exact⟨d5,by rw[wY (λu=>E (bA u))];exact u1,u2,a9.own u3 aa⟩
    clear a9 aY cp cA bu bs a5 a4 ae;go_wp2_with fail
    go_roundw
    case rel=>exact⟨l+1,by omega,by go_num,dc.o,_,dn.o,by simp[ap],da.o⟩
    case measure=>simp[bw];omega
 have dP:¬(l:Int)<(I s:Int):=aa;have b0:X (Kp k w wr/\∃z,wr.heap[k]? =K (ax z 43 (0,0))/\z.size=I s/\∀t:Nat,t<I s->jC (t:Int) aj D=af->VG wr (k+1) z N t (V t)):=⟨aF,z,S,ap,λt aQ W=>ba t aa W⟩;clear aF S ba aC aE ab;go_wp2_with fail;have⟨dt,du,dv,dA,dB,dC,dE⟩:=dp.o;exact⟨b0.o.1,b0.o.2,((((((((((((iJ Y (by exact bA dE)).cons Y).cons (by exact bA dC)).cons Y).cons Y).cons (by exact bA dB)).cons (by exact bA dA)).cons Y).cons Y).cons (by exact bA dv)).cons (by exact bA du)).cons (by exact bA dt))⟩
def rR (b:cO):de:=match oy b with|aU _ (ga _ (.loop (aU _ (aU (ga _ a) _))))=>a|_=>eO
def Gk (b:cO):de:=match rR b with|aU _ (aU _ (aU _ (aU a _)))=>a|_=>eO
def XP(b:ag){v:Nat->F}(aj:List Int)(c:Int->az)(n o m:Nat)(j:Option aN)(f bN bH:Nat)(aY:I aj<=1000)
 (u:v 1=ah j (I aj) bH) (w:v 17=aI o m m) (x:v 22=n9 n) (H:v 24=aH)
 (L:0<I aj->j=K ⟨f,bN,Z⟩) (N:0<I aj->f<U b.heap) (M:∀l,l<I aj->aJ b f (bN+l) (z9 (aX aj l 0))) (O:∀a∈aj,mG b o m a n (c a)):
 (Gk cR).wp (aM av) (λE s r=>E=e4/\aD b r/\(∃h,aT r (U b.heap) 59 3 h (I aj) (bZ (aj.map c))/\Cc.Knows s 166 ((24,h)::(22,v 22)::ko v))/\b8 s=[]) (eX v) b:=by
 have⟨ad,S,V,W,ab⟩:=eU aE.nh;have q:X (v 1=ah j (I aj) bH/\v 17=aI o m m/\v 22=n9 n):=⟨u,w,x⟩;have B:=ap M;unfold eX;rw[u,w,x,H];unfold Gk rR oy jv cR;dsimp only;go_wp2_with fail
 go_loopw [24,25] (λh k wr=>∃a:Nat,a<=I aj/\k=n9 a/\aT wr (U b.heap) 59 3 h a (bZ ((aj.take a).map c))/\aD b wr) (λ_ k _=>I aj-bS (bw k))
 exact⟨0,cE _,rfl,iO _ _ _ _,bU _ _⟩;obtain⟨a,aQ,rfl,d,e⟩:=hrel;have p:=ap e;have T:=e.size;by_cases g:a<I aj
 .obtain rfl:=L aa;have z:=(bq e (p:=⟨f,bN+a,Z⟩) (N aa)).trans (B.o a g);have Q:aX aj a 0=aj[a]:=by rw[ep,dH g];rfl
  rw[Q] at z;have⟨a0,t,a1,al,G,am,ao,ar,aw,aC,aF,aG,aL⟩:=((O aj[a] (c8 g)).below e).ex;have D:X (bZ ((aj.take a).map c)++[ak (c aj[a]).null,z9 (c aj[a]).n,au (c aj[a]).s]=bZ ((aj.take (a+1)).map c)):=by
   show _=_;rw[gh g,gY,sg,nF]
  generalize aZ:c aj[a]=i at*;rw[G] at z;obtain⟨a3,a2,rfl⟩:=gG d;go_wp2_with (at_builtin;refine jw Y _ _ 43 Y (U b.heap) 59 ad _ 3 32 aE.underlying43 S V W ab Y ay _ a _ Y (mB d _) ⟨U wr.heap,0,Z⟩ 1 1 [ak i.null,z9 i.n,au i.s] Y ay Y (lR _) (lS i) (by unfold aS;omega) aa bO ?_;intro a4 ae y R);have J:=dA.append R;have A:X (aD b ae):=p.o.trans (J.below (λt P=>(d.lt t P).1) T);rw[D.o] at y;go_wp2
  go_roundw
  exact⟨a+1,aa,by go_num,y,A.o⟩;simp[bw];omega
 obtain rfl:a=I aj:=aa;rw[iZ] at d;have C:X _:=d;clear e d;go_wp2_with fail;exact⟨p.o,_,C.o,((((((((((((((iJ Y (by exact bA q.o.2.1)).cons Y).cons Y).cons Y).cons Y).cons Y).cons Y).cons Y).cons Y).cons Y).cons (by exact bA q.o.1)).cons Y).cons Y).cons Y)⟩
structure Td(W:ag)(g0 g1 bse9:Nat)(rv nv:F)(nb:Int)(L:List (List az×F))(ns:List Int):Prop where
 m8:W.heap[g0]? =K (ax #[ah Z 0 0,ah Z 0 0,z9 0,z9 0] 84 (0,0))
 box:W.heap[g1]? =K (ax #[rv,nv,z9 0,z9 nb] 84 (0,0))
 rows:aT W bse9 43 1 rv (I L) (L.map eu)
 each:∀p∈L,aT W bse9 59 3 p.2 (I p.1) (bZ p.1)
 apart:∀(i j:Nat) u t g,(L.map eu)[i]? =K u->(L.map eu)[j]? =K t->bB u=K g->bB t=K g->i=j
 nt:aT W bse9 3 1 nv (I ns) (cW ns)
 lt:g0<bse9/\g1<bse9/\g0≠g1
section
variable {W Q:ag}{g0 g1 J:Nat}{rv nv cx ej:F}{nb:Int}{L:List (List az×F)}{ns:List Int}
def Td.below(a:Td W g0 g1 J rv nv nb L ns)(b:aD W Q):Td Q g0 g1 J rv nv nb L ns:=
 ⟨aB (cS b _ (bC a.m8)) a.m8,aB (cS b _ (bC a.box)) a.box,eM a.rows b,λd c=>eM (a.each d c) b,a.apart,eM a.nt b,a.lt⟩
def pV(a:aT w J n m v k S)(b:i<J):aT (bg w ⟨i,j,Z⟩ x) J n m v k S:=
 fK a (eJ w i j x) (an λn=>cB ((a.lt i n).1))
def Td.row(a:Td W g0 g1 J rv nv nb L ns){n:List az}(r:aT W J 59 3 v (I n) (bZ n))(o:∀f∈L,∀b,bB f.2=K b->bB v≠K b)(i:dA W Q rv cx)(z:aT Q J 43 1 cx (I L+1) (L.map eu++[v])):
 Td (bg Q ⟨g1,0,Z⟩ cx) g0 g1 J cx nv nb (L++[(n,v)]) ns:=by
 have⟨C,g,D⟩:=a.lt;have blk:∀b,b<J->b<U W.heap->Q.heap[b]? =W.heap[b]? :=λb E y=>dz i.dR b y (λx=>cB ((a.rows.lt b (bA x)).1));refine⟨?_,?_,?_,?_,?_,?_,a.lt⟩;exact aB (ef _ _ _ _ D) (aB (blk g0 C (bC a.m8)) a.m8);exact eE Q g1 0 _ _ _ (aB (blk g1 g (bC a.box)) a.box);rw[cN,gY];exact pV z g;intro f e;rcases eG.1 e with e|e;exact pV (ju (a.each f e) i (l7 (a.each f e) a.rows ay)) g;rw[List.mem_singleton] at e;subst e;exact pV (ju r i (l7 r a.rows ay)) g;intro c l d m b p q j k;rw[gY,sg] at p q;have u:∀(c:Nat) d,(L.map eu++[v])[c]? =K d->(c<I L/\(L.map eu)[c]? =K d)\/(c=I L/\d=v):=λc d a=>by
  rcases ij c (I L) with h|h;rw[ru (cM h)] at a;exact aq ⟨h,a⟩;rw[pG (cM h)] at a;simp at a;exact an ⟨by have:=(fq.1 a).1;simp at this;omega,by have:=(fq.1 a).2;simpa using(bA this)⟩
 have w:∀(c:Nat) d,(L.map eu)[c]? =K d->∃f∈L,f.2=d:=λc d a=>by
  have:=nO a;simpa using this
 rcases u c d p with⟨A,s⟩|⟨A,rfl⟩<;>rcases u l m q with⟨B,t⟩|⟨B,rfl⟩;exact a.apart c l d m b s t j k;obtain⟨f,e,rfl⟩:=w c d s;exact absurd k (o f e b j);obtain⟨f,e,rfl⟩:=w l m t;exact absurd j (o f e b k);omega;exact pV (ju a.nt i (l7 a.nt a.rows ay)) g
def Td.num(a:Td W g0 g1 J rv nv nb L ns)(d:dA W Q nv ej)(i:aT Q J 3 1 ej (I ns+1) (cW ns++[z9 M])):
 Td (bg Q ⟨g1,1,Z⟩ ej) g0 g1 J rv ej nb L (ns++[M]):=by
 have⟨j,c,k⟩:=a.lt;have blk:∀b,b<J->b<U W.heap->Q.heap[b]? =W.heap[b]? :=λb l h=>dz d.dR b h (λg=>cB ((a.nt.lt b (bA g)).1));refine⟨?_,?_,?_,?_,a.apart,?_,a.lt⟩;exact aB (ef _ _ _ _ k) (aB (blk g0 j (bC a.m8)) a.m8);exact eE Q g1 1 _ _ _ (aB (blk g1 c (bC a.box)) a.box);exact pV (ju a.rows d (l7 a.rows a.nt ay)) c;exact λf e=>pV (ju (a.each f e) d (l7 (a.each f e) a.nt ay)) c;rw[cN,<-uf];exact pV i c
end
def Gm (b:cO):de:=match rR b with|aU _ (aU _ (aU _ (aU _ a)))=>a|_=>eO
structure Kq(W W':ag)(g0 g1:Nat)(rv nv cx ej:F):Prop where
 keep:∀b,b<U W.heap->b≠g1->bB rv≠K b->bB nv≠K b->W'.heap[b]? =W.heap[b]?
 size:U W.heap<=U W'.heap
 r:∀g,bB cx=K g->bB rv=K g\/U W.heap<=g
 n:∀g,bB ej=K g->bB nv=K g\/U W.heap<=g
 below:dw g0 W W'
def XT(h:ag){v:Nat->F}(e a j:Nat)(Q O:F)(B r:Int)(b:List (List az×F))(f:List Int)(s:List az)(n:F)(first k:Nat)
 (o:v 4=z9 r) (V:v 10=(aZ e)) (W:v 11=(aZ a)) (ab:v 15=n9 first) (a2:v 22=n9 k) (a3:v 24=n)
 (p:Td h e a j Q O B b f) (q:aT h j 59 3 n (I s) (bZ s)) (a6:∀k∈b,∀i,bB k.2=K i->bB n≠K i) (hL:I b<=2000) (bF:I f<=2000) (bH:first+k<=100000) (bE:j<=U h.heap) (ad:e<=a):
 (Gm cR).wp (aM av) (λg u D=>(g=e4/\((I b:Int)+1≠r)/\(∃cx ej,Td D e a j cx ej B (b++[(s,n)]) (f++[((first+k:Nat):Int)])/\Kq h D e a Q O cx ej)/\Cc.Knows u 166 ((22,v 22)::ko v)/\b8 u=[])\/
   (g= .ret/\((I b:Int)+1=r)/\(∃E cx ej,Td E e a j cx ej B (b++[(s,n)]) (f++[((first+k:Nat):Int)])/\Kq h E e a Q O cx ej/\D=ou E e cx ej (z9 0) (z9 B))/\Cc.Knows u 166 [(10,v 10)]/\b8 u=[])) (eX v) h:=by
 have⟨bn,bc,be,bh,bi⟩:=eU aE.JF;have⟨bm,bb,bj,bk,bl⟩:=eU aE.pP;have aI:X (v 4=z9 r/\v 11=(aZ a)/\v 15=n9 first/\v 10=(aZ e)):=⟨o,W,ab,V⟩;obtain⟨br,bo,rfl⟩:=gG q;obtain⟨ao,am,rfl⟩:=gG p.rows;obtain⟨N,M,rfl⟩:=gG p.nt;have l:=ap p;have aH:=ap q;have⟨⟨ar,aw,aC,aD⟩,R⟩:=nX p.box;have bY:=R 0;have m:=p.rows;unfold eX;rw[o,V,W,ab,a2,a3];unfold Gm rR oy jv cR;dsimp only;have a7:=bC l.o.box;go_upto_region 34 with(at_builtin;refine jw Y _ _ 26 Y j 43 bn _ 1 24 aE.underlying26 bc be bh bi Y ay _ (I b) _ Y (mB m _) ⟨U h.heap,0,Z⟩ 1 1 [ah br (I s) bo] Y ay Y (ot _) (λn q=>by simp at q;rw[q];rfl) gy aa bO ?_;intro b1 aF aj a9;obtain⟨C,x,rfl⟩:=gG aj;have c:=dA.append a9;have a4:=(dz c.dR a a7 (λg=>by have:=(m.lt a (bA g)).1;have:=l.o.lt.2.1;omega)).trans l.o.box;have⟨⟨bs,bu,bv,bx⟩,S⟩:=nX a4;have b3:=S 0);have z:=l.o.row aH.o a6 c (cM aj);have A:Kq h (bg aF ⟨a,0,Z⟩ (ah C (I b+1) x)) e a (ah ao (I b) am) (ah N (I f) M) (ah C (I b+1) x) (ah N (I f) M):=⟨λw H y J _=>(ef _ _ _ _ y).trans (dz c.dR w H (λg=>J (bA g))),cM c.dR.size,c.at_,λi d=>aq d,kg (c.below (λi d=>by have:=(l.o.rows.lt i d).1;have:=l.o.lt.1;omega) aa) aa ad⟩;generalize bg aF ⟨a,0,Z⟩ (ah C (I b+1) x)=aJ at*;have t:=ap z;have bI:=A.size;have m:=z.nt;have⟨⟨ar,aw,aC,aD⟩,R⟩:=nX z.box;have b0:=R 1;have a8:=bC z.box;go_upto_region 35 with(at_builtin;refine jw Y _ _ 22 Y j 3 bm (z9 0) 1 8 aE.underlying22 bb bj bk bl Y ay _ (I f) _ Y (mB m _) ⟨U aJ.heap,0,Z⟩ 1 1 [z9 ((first+k:Nat):Int)] (by first|rfl|(simp;done)) ay Y (cM (ot _)) vf gy aa bO ?_;intro b2 aG al ba;obtain⟨P,G,rfl⟩:=gG al;have c:=dA.append ba;have a5:=(dz c.dR a a8 (λg=>by have:=(m.lt a (bA g)).1;have:=t.o.lt.2.1;omega)).trans t.o.box;have⟨⟨bs,bu,bv,bx⟩,S⟩:=nX a5;have b4:=S 1);have L:=t.o.num c (cM al);have ae:Kq h (bg aG ⟨a,1,Z⟩ (ah P (I f+1) G)) e a (ah ao (I b) am) (ah N (I f) M) (ah C (I b+1) x) (ah P (I f+1) G):=⟨λw H y J o=>(ef _ _ _ _ y).trans ((dz c.dR w aa (λg=>o (bA g))).trans (A.keep w H y J o)),by have:=c.dR.size;simp;omega,A.r,λi d=>(c.at_ i d).imp id (λd=>aa),A.below.trans (kg (c.below (λi d=>by have:=(m.lt i d).1;have:=t.o.lt.1;omega) aa) aa ad)⟩;generalize bg aG ⟨a,1,Z⟩ (ah P (I f+1) G)=aL at*;have T:=ap L;obtain⟨⟨ar,aw,aC,aD⟩,-⟩:=nX L.box;have⟨⟨bJ,bN,bP,bR⟩,bV⟩:=nX L.m8;by_cases bd:(I b:Int)+1=r;have bD:=ap bd;go_wp2_with fail;exact⟨⟨aL,_,_,by have d:=T.o;simpa using d,ae,rfl⟩,iJ Y Y⟩
 skip
 go_wp2_with fail;have⟨a1,aY,a0,aQ⟩:=aI.o;exact⟨⟨_,_,by have d:=T.o;simpa using d,ae⟩,(((((((((((((iJ Y Y).cons (by exact bA a0)).cons Y).cons Y).cons Y).cons (by exact bA aY)).cons (by exact bA aQ)).cons (by exact bA a1)).cons Y).cons Y).cons Y).cons Y).cons Y)⟩
def Gi (b:cO):de:=match rR b with|aU a _=>a|_=>eO
def Gf (b:cO):de:=match rR b with|aU _ (aU a _)=>a|_=>eO
def Gj (b:cO):de:=match rR b with|aU _ (aU _ (aU a _))=>a|_=>eO
def ki(a:U Q.tmps=166)(c:b8 Q=[]):Q=eX (Cc.cG Q):=by
 have⟨e,f⟩:=Q;simp only at a c;subst c;show _=(⟨cX ((eH 166).map (Cc.cG ⟨e,[]⟩)),[]⟩:bK);congr 1;apply vB;intro d;simp only[List.getElem?_toArray,sb,List.getElem?_range];rcases ij d 166 with b|b;simp[b,Cc.cG,a];simp[b,a]
def XL(c:ag)(v:Nat->F)(a:List bJ)(e:Int->Nat->az)(b g m:Nat)(f:Option aN)(rb bY bE:Nat)(i:v 2=ah f (I a) bE)(h:v 17=aI g m m)(l:v 22=n9 b)
 (C:I a<=aS) (q:dy c f rb bY a) (p:∀d∈a,mG c g m d.col b (e d.col b)) (r:∀d∈a,(e d.col b).s.size<=aS/\d.low.s.size<=aS/\d.high.s.size<=aS):
 (Gi cR).wp (aM av) (λk j w=>k=e4/\aD c w/\Cc.Knows j 166 ((23,ak (Cc.iG a e b))::(22,v 22)::ko v)/\b8 j=[]) (eX v) c:=by
 have u:X (v 2=ah f (I a) bE/\v 17=aI g m m):=⟨i,h⟩;have s:=T4 a (λD=>e D b) b g m m f rb bY bE c C q p r;unfold eX;rw[i,h,l];clear i h l q p r;unfold Gi rR oy jv cR;dsimp only;go_wp2_with (go_at_call 52;refine bL s ?_;rintro k E ⟨x,rfl,n,o⟩;have t:X (x=Cc.iG a e b/\aD c E):=⟨by rw[rX,n,Cc.Fa],o⟩;clear n o);have⟨y,A⟩:=t.o;subst y;have⟨B,z⟩:=u.o;exact⟨A,(((((((((((((iJ Y (by exact bA z)).cons Y).cons Y).cons Y).cons Y).cons Y).cons Y).cons Y).cons Y).cons (by exact bA B)).cons Y).cons Y).cons Y).cons Y⟩
def XI(a:ag){v:Nat->F}(e:v 23=ak qV):
 (Gf cR).wp (aM av) (λc b d=>d=a/\((qV=ai/\c= .exit 5)\/(qV=af/\c=e4))/\Cc.Knows b 166 ((22,v 22)::ko v)/\b8 b=[]) (eX v) a:=by
 unfold eX;rw[e];unfold Gf rR oy jv cR;dsimp only;cases qV
 all_goals
  go_wp2_with fail;exact((((((((((((iJ Y Y).cons Y).cons Y).cons Y).cons Y).cons Y).cons Y).cons Y).cons Y).cons Y).cons Y).cons Y).cons Y
def XN(a:ag){v:Nat->F}:
 (Gj cR).wp (aM av) (λd b c=>d=e4/\c=a/\Cc.Knows b 166 ((24,aH)::(22,v 22)::ko v)/\b8 b=[]) (eX v) a:=by
 unfold eX;unfold Gj rR oy jv cR;dsimp only;go_wp2_with fail;exact(((((((((((((iJ Y Y).cons Y).cons Y).cons Y).cons Y).cons Y).cons Y).cons Y).cons Y).cons Y).cons Y).cons Y).cons Y).cons Y
def C7{v:Nat->F}(b:Cc.Knows Q 166 H)(c:∀s∈[0,1,2,3,4,10,11,12,13,14,15,17,22],H.lookup s=K (v s)):((22,Cc.cG Q 22)::ko (Cc.cG Q))=(22,v 22)::ko v:=by
 have a:=λs d=>b.slot s (v s) (c s d);unfold ko;rw[a 0 ay,a 1 ay,a 2 ay,a 3 ay,a 4 ay,a 10 ay,a 11 ay,a 12 ay,a 13 ay,a 14 ay,a 15 ay,a 17 ay,a 22 ay]
def Bq{v:Nat->F}(b:n=23\/n=24):∀s∈[0,1,2,3,4,10,11,12,13,14,15,17,22],((n,x)::(22,v 22)::ko v).lookup s=K (v s):=by
 intro s a;simp only[fT,jm,or_false] at a;rcases b with rfl|rfl<;>rcases a with rfl|rfl|rfl|rfl|rfl|rfl|rfl|rfl|rfl|rfl|rfl|rfl|rfl<;>rfl
def Xt{v:Nat->F}:∀s∈[0,1,2,3,4,10,11,12,13,14,15,17,22],((22,v 22)::ko v).lookup s=K (v s):=by
 intro s a;simp only[fT,jm,or_false] at a;rcases a with rfl|rfl|rfl|rfl|rfl|rfl|rfl|rfl|rfl|rfl|rfl|rfl|rfl<;>rfl
def Kq.iT(d:aD w u)(a:Kq u W n m v x cx ej)(b:n<=U w.heap):Kq w W n m v x cx ej:=by
 have j:=d.size;exact⟨λe f g h i=>(a.keep e (by omega) g h i).trans (cS d e f),by have:=a.size;omega,λc b=>(a.r c b).imp id (λa=>by omega),λc b=>(a.n c b).imp id (λa=>by omega),(d.mono b).trans a.below⟩
def XS(e:ag){v:Nat->F}(aj:List Int)(h:List bJ)(c:Int->Nat->az)(d g w:Nat)(G E:F)(x D:Int)(i:List (List az×F))(y:List Int)(first a N z m:Nat)(K:Option aN)(J bN bH:Nat)(X:Option aN)(rb bY bE:Nat)
 (O:v 1=ah K (I aj) bH) (P:v 2=ah X (I h) bE) (a6:v 4=z9 D) (a3:v 10=(aZ d)) (a4:v 11=(aZ g)) (a5:v 15=n9 first) (ae:v 17=aI z m m) (Q:v 22=n9 a)
 (j:Cc.xw e aj h K J bN X rb bY z m N c) (ar:a<N) (a7:∀p∈h,(c p.col a).s.size<=aS/\p.low.s.size<=aS/\p.high.s.size<=aS) (a9:I aj<=1000) (bj:I h<=aS)
 (al:Td e d g w G E x i y) (hL:I i<=2000) (be:I y<=2000) (ba:first+a<=100000) (br:w<=U e.heap) (bb:d<=g):
 (rR cR).wp (aM av) (λf l B=>(f= .exit 5/\Cc.iG h c a=ai/\aD e B/\Cc.Knows l 166 ((22,v 22)::ko v)/\b8 l=[])\/
   (f=e4/\Cc.iG h c a=af/\((I i:Int)+1≠D)/\(∃k cx ej,Td B d g w cx ej x (i++[(aj.map λb=>c b a,k)]) (y++[((first+a:Nat):Int)])/\Kq e B d g G E cx ej)/\Cc.Knows l 166 ((22,v 22)::ko v)/\b8 l=[])\/
   (f= .ret/\Cc.iG h c a=af/\((I i:Int)+1=D)/\(∃k u cx ej,Td u d g w cx ej x (i++[(aj.map λb=>c b a,k)]) (y++[((first+a:Nat):Int)])/\Kq e u d g G E cx ej/\B=ou u d cx ej (z9 0) (z9 x))/\Cc.Knows l 166 [(10,v 10)]/\b8 l=[])) (eX v) e:=by
 have bk:rR cR=aU (Gi cR) (aU (Gf cR) (aU (Gj cR) (aU (Gk cR) (Gm cR)))):=rfl;rw[bk];refine gQ (fR ?_ (XL e v h c a z m X rb bY bE P ae Q bj j.nr (λp bi=>j.lc a ar p.col (an ⟨p,bi,rfl⟩)) a7));rintro f aH u ⟨rfl,o,H,aY⟩;show gD _ _ _ aH _;rw[ki H.size aY];refine gQ (fR ?_ (XI u (H.slot 23 _ Y)));rintro f aJ aE ⟨rfl,a8,A,ab⟩;rw[C7 H (Bq (aq Y))] at A;rcases a8 with⟨C,rfl⟩|⟨C,rfl⟩;exact aq ⟨rfl,C,o,A,ab⟩;show gD _ _ _ aJ _;rw[ki A.size ab];refine gQ (fR ?_ (XN aE));rintro f aL aa ⟨rfl,rfl,q,a0⟩;rw[C7 A Xt] at q;show gD _ _ _ aL _;rw[ki q.size a0];have M:=λs W=>q.slot s (v s) (Bq (an Y) s W);have aw:=o.size;have bl:∀b∈aj,mG aa z m b a (c b a):=λb bd=>(j.lc a ar b (aq bd)).below o;refine gQ (fR ?_ (XP aa aj (λb=>c b a) a z m K J bN bH a9 ((M 1 (by decide)).trans O) ((M 17 (by decide)).trans ae) ((M 22 (by decide)).trans Q) (q.slot 24 _ Y) j.ca (λa2=>cL (j.cl a2) aw) (λaC bc=>(bq o (p:=⟨J,bN+aC,Z⟩) (j.cl (by omega))).trans (j.cc aC bc)) bl));rintro f aQ aF ⟨rfl,S,⟨k,ay,r⟩,a1⟩;rw[C7 q (Bq (an Y))] at r;show gD _ _ _ aQ _;rw[ki r.size a1];have n:=λs W=>r.slot s (v s) (Bq (an Y) s W);have am:=al.below o;have bs:=S.size;have ao:=o.trans (S.mono aw);have ap:=uO (bC al.m8);refine fR ?_ (XT aF d g w G E x D i y (aj.map λb=>c b a) k first a ((n 4 (by decide)).trans a6) ((n 10 (by decide)).trans a3) ((n 11 (by decide)).trans a4) ((n 15 (by decide)).trans a5) ((n 22 (by decide)).trans Q) (r.slot 24 _ Y) (am.below S) (by rw[ee];exact j6 ay (by omega)) (λbm bh ad O P=>by
  have:=((am.each bm bh).lt ad O).2;have:=(ay.lt ad P).1;omega) hL be ba (by omega) bb)
 rintro f bo bn (⟨rfl,V,⟨cx,ej,R,T⟩,t,L⟩|⟨rfl,V,⟨aG,cx,ej,R,T,rfl⟩,t,L⟩);rw[C7 r (Bq (an Y))] at t;exact an (aq ⟨rfl,C,V,⟨k,cx,ej,R,Kq.iT ao T ap⟩,t,L⟩);rw[n 10 (by decide)] at t;exact an (an ⟨rfl,C,V,⟨k,aG,cx,ej,R,Kq.iT ao T ap,rfl⟩,t,L⟩)
def Gn (b:cO):de:=match oy b with|aU a _=>a|_=>eO
def Gg (b:cO):de:=match oy b with|aU _ (ga _ (.loop (aU a _)))=>a|_=>eO
def Gl (b:cO):de:=match oy b with|aU _ (ga _ (.loop (aU _ (aU _ a))))=>a|_=>eO
def XV(a:ag)(v:Nat->F):
 (Gn cR).wp (aM av) (λd b c=>d=e4/\c=a/\Cc.Knows b 166 ((22,z9 0)::ko v)/\b8 b=[]) (eX v) a:=by
 unfold eX Gn oy jv cR;dsimp only;go_wp2_with fail;exact((((((((((((iJ Y Y).cons Y).cons Y).cons Y).cons Y).cons Y).cons Y).cons Y).cons Y).cons Y).cons Y).cons Y).cons Y
def Lq(b:ag){v:Nat->F}(a:Nat)(g:a<=1000)(f:v 22=n9 a):
 (Gl cR).wp (aM av) (λe c d=>e=e4/\d=b/\Cc.Knows c 166 ((22,z9 ((a+1:Nat):Int))::ko v)/\b8 c=[]) (eX v) b:=by
 unfold eX;rw[f];unfold Gl oy jv cR;dsimp only;go_wp2_with fail;exact((((((((((((iJ Y Y).cons Y).cons Y).cons Y).cons Y).cons Y).cons Y).cons Y).cons Y).cons Y).cons Y).cons Y).cons (by first|rfl|(show bt _ _=_;congr 1;omega))
def XJ(b:ag){v:Nat->F}(a N e:Nat)(l:a<=1000)(c:v 14=(aZ e))(h:v 22=n9 a)(k:aJ b e 0 (n9 N)):
 (Gg cR).wp (aM av) (λf d g=>g=b/\((a<N/\f=e4)\/(N<=a/\f= .exit 4))/\Cc.Knows d 166 ((22,v 22)::ko v)/\b8 d=[]) (eX v) b:=by
 unfold eX;rw[c,h];unfold Gg oy jv cR;dsimp only;by_cases j:a<N;have i:(a:Int)<(N:Int):=aa;go_wp2_with fail;exact((((((((((((iJ Y Y).cons Y).cons (by exact bA c)).cons Y).cons Y).cons Y).cons Y).cons Y).cons Y).cons Y).cons Y).cons Y).cons Y;have i:¬(a:Int)<(N:Int):=aa;go_wp2_with fail;exact⟨aa,((((((((((((iJ Y Y).cons Y).cons (by exact bA c)).cons Y).cons Y).cons Y).cons Y).cons Y).cons Y).cons Y).cons Y).cons Y).cons Y⟩
def Told (a:List Cc.dB)(b:List (List az×F))(c:List Int):Prop:=b.map bp=a.map eu/\c=a.map λd=>(d.1:Int)
def Told.snoc{b:List Cc.dB}{a:List (List az×F)}(d:Told b a qY){c:List az}:Told (b++[(n,c)]) (a++[(c,v)]) (qY++[(n:Int)]):=by
 obtain⟨e,rfl⟩:=d;exact⟨by simp[e],aF⟩
def Told.len{a:List Cc.dB}{b:List (List az×F)}(c:Told a b qY):I b=I a/\I qY=I a:=by
 obtain⟨d,rfl⟩:=c;have:=congrArg I d;simp at this;exact⟨this,aF⟩
def Kq.refl(b:ag)(e f:Nat)(d c:F):Kq b b e f d c d c:=⟨λ_ _ _ _ _=>rfl,aV _,λ_ a=>aq a,λ_ a=>aq a,bU _ _⟩
def Kq.trans(a:Kq w u n m v x y z)(d:Kq u W n m y z T qq):Kq w W n m v x T qq:=by
 have l:=a.size;refine⟨λe k h i j=>(d.keep e aa h (λf=>?_) (λf=>?_)).trans (a.keep e k h i j),by have:=d.size;omega,λb g=>?_,λb g=>?_,a.below.trans d.below⟩;rcases a.r e f with a|a;exact i a;omega;rcases a.n e f with a|a;exact j a;omega;rcases d.r b g with c|c;exact a.r b c;exact an aa;rcases d.n b g with c|c;exact a.n b c;exact an aa
def Kq.X_(a:Kq w u n m v x y z)(c:aD u W)(b:n<=U u.heap):Kq w W n m v x y z:=
 a.trans (Kq.iT c (Kq.refl _ _ _ _ _) b)
def z8{v b:Nat->F}(a:∀s∈[0,1,2,3,4,10,11,12,13,14,15,17],b s=v s):((22,x)::ko b)=(22,x)::ko v:=by
 unfold ko;rw[a 0 ay,a 1 ay,a 2 ay,a 3 ay,a 4 ay,a 10 ay,a 11 ay,a 12 ay,a 13 ay,a 14 ay,a 15 ay,a 17 ay]
def Bp{v:Nat->F}:∀s∈[0,1,2,3,4,10,11,12,13,14,15,17],((22,x)::ko v).lookup s=K (v s):=by
 intro s a;simp only[fT,jm,or_false] at a;rcases a with rfl|rfl|rfl|rfl|rfl|rfl|rfl|rfl|rfl|rfl|rfl|rfl<;>rfl
def XQ{v:Nat->F}{f:List bJ}{d:Int->Nat->az}{K:List (List az×F)}{pre:List Cc.dB}{first N ab m:Nat}{rb bY bE:Nat}
 (aQ:v 1=ah O (I aj) bH) (a4:v 2=ah P (I f) bE) (a5:v 4=z9 qA) (aY:v 10=(aZ n)) (a0:v 11=(aZ k)) (a1:v 14=(aZ j)) (a2:v 15=n9 first) (a3:v 17=aI ab m m)
 (a6:∀o cx ej,Kq w o n k x y cx ej->Cc.xw o aj f O a bN P rb bY ab m N d/\aJ o j 0 (n9 N)) (a8:∀b,b<N->∀X∈f,(d X.col b).s.size<=aS/\X.low.s.size<=aS/\X.high.s.size<=aS) (bc:I aj<=1000) (bl:I f<=aS)
 (a9:Td w n k i x y M K qY) (bj:Told pre K qY) (bI:I pre+N<=2000) (bv:first+N<=100000) (bs:N<=100) (bu:i<=U w.heap) (bh:n<=k):
 (oy cR).wp (aM av) (λt H o=>(t=e4/\(∃c cx ej h l,Td o n k i cx ej M h l/\Kq w o n k x y cx ej/\Told c h l/\Cc.feed (λc=>decide ((I c:Int)≠qA)) pre (Cc.je (Cc.iG f d) (λb=>aj.map λe=>d e b) first 0 N)=(c,af))/\(∃br,Cc.Knows H 166 ((22,br)::ko v))/\b8 H=[])\/
   (t= .ret/\(∃c B cx ej h l,Td B n k i cx ej M h l/\Kq w B n k x y cx ej/\Told c h l/\Cc.feed (λc=>decide ((I c:Int)≠qA)) pre (Cc.je (Cc.iG f d) (λb=>aj.map λe=>d e b) first 0 N)=(c,ai)/\o=ou B n cx ej (z9 0) (z9 M))/\Cc.Knows H 166 [(10,v 10)]/\b8 H=[])) (eX v) w:=by
 have bm:oy cR=aU (Gn cR) (ga 4 (.loop (aU (Gg cR) (aU (ga 5 (rR cR)) (Gl cR))))):=rfl;rw[bm];refine gQ (fR ?_ (XV w v));rintro t aE B ⟨rfl,rfl,aw,aH⟩;show gD _ _ _ aE _;generalize bd:Cc.feed (λc=>decide ((I c:Int)≠qA)) pre (Cc.je (Cc.iG f d) (λb=>aj.map λe=>d e b) first 0 N)=bn;refine wp_block (wp_loop_ghost (λar Q o=>∃b c cx ej h l,ar=N-b/\b<=N/\Cc.Knows Q 166 ((22,n9 b)::ko v)/\b8 Q=[]/\Td o n k i cx ej M h l/\Kq B o n k x y cx ej/\Told c h l/\I c<=I pre+b/\Cc.feed (λc=>decide ((I c:Int)≠qA)) c (Cc.je (Cc.iG f d) (λb=>aj.map λe=>d e b) first b (N-b))=bn) N ⟨0,pre,x,y,K,qY,rfl,cE _,aw,aH,a9,Kq.refl _ _ _ _ _,bj,aV _,bd⟩ ?_);rintro ar Q aC ⟨b,c,cx,ej,h,l,rfl,bP,G,aL,J,z,E,bR,q⟩;have⟨a7,ba⟩:=a6 _ _ _ z;have bV:=z.size;rw[ki G.size aL];have am:=λs u=>G.slot s (v s) (Bp s u);refine gQ (fR ?_ (XJ aC b N j (by omega) ((am 14 (by decide)).trans a1) (G.slot 22 _ Y) ba));rintro t aF aD ⟨rfl,bb,r,al⟩;rw[G.slot 22 _ Y,z8 am] at r;rcases bb with⟨ap,rfl⟩|⟨bx,rfl⟩;rotate_left;obtain rfl:b=N:=aa;rw[Nat.sub_self] at q;exact aq ⟨rfl,⟨c,cx,ej,h,l,J,z,E,bA q⟩,⟨_,r⟩,al⟩;have⟨bD,bF⟩:=E.len;have bk:Cc.je (Cc.iG f d) (λb=>aj.map λe=>d e b) first b (N-b)=if Cc.iG f d b then(first+b,aj.map λe=>d e b)::Cc.je (Cc.iG f d) (λb=>aj.map λe=>d e b) first (b+1) (N-(b+1)) else Cc.je (Cc.iG f d) (λb=>aj.map λe=>d e b) first (b+1) (N-(b+1)):=by
  rw[show N-b=(N-(b+1))+1 by omega];rfl
 rw[bk] at q;have be:=uO (bC J.m8);show gD _ _ _ aF _;rw[ki r.size al];have p:=λs u=>r.slot s (v s) (Bp s u);refine gQ (wp_block (fR ?_ (XS aD aj f d n k i cx ej M qA h l first b N ab m O a bN bH P rb bY bE ((p 1 ay).trans aQ) ((p 2 ay).trans a4) ((p 4 ay).trans a5) ((p 10 ay).trans aY) ((p 11 ay).trans a0) ((p 15 ay).trans a2) ((p 17 ay).trans a3) (r.slot 22 _ Y) a7 ap (a8 b ap) bc bl J aa aa aa aa bh)));rintro t ae ad (⟨rfl,D,ao,g,C⟩|⟨rfl,D,bi,⟨bo,Z,W,T,V⟩,g,C⟩|⟨rfl,D,bi,⟨bo,L,Z,W,T,V,rfl⟩,g,C⟩);rw[r.slot 22 _ Y,z8 p] at g;rw[D,if_neg ay] at q;have S:=λs u=>g.slot s (v s) (Bp s u);show gD _ _ _ ae _;rw[ki g.size C];refine fR ?_ (Lq ad b (by omega) (g.slot 22 _ Y));rintro t aG L ⟨rfl,rfl,A,R⟩;rw[z8 S] at A;exact⟨N-(b+1),aa,b+1,c,cx,ej,h,l,rfl,aa,A,R,J.below ao,z.X_ ao be,E,aa,q⟩;rw[r.slot 22 _ Y,z8 p] at g;rw[D,if_pos Y,Cc.zC,if_pos bO] at q;have S:=λs u=>g.slot s (v s) (Bp s u);show gD _ _ _ ae _;rw[ki g.size C];refine fR ?_ (Lq ad b (by omega) (g.slot 22 _ Y));rintro t aG L ⟨rfl,rfl,A,R⟩;rw[z8 S] at A;exact⟨N-(b+1),aa,b+1,c++[(first+b,aj.map λe=>d e b)],Z,W,_,_,rfl,aa,A,R,T,z.trans V,E.snoc,by simp;omega,q⟩;rw[p 10 ay] at g;rw[D,if_pos Y,Cc.zC,if_neg bO] at q;exact an ⟨rfl,⟨c++[(first+b,aj.map λe=>d e b)],L,Z,W,_,_,T,z.trans V,E.snoc,bA q,rfl⟩,g,C⟩
def C1 (b:cO):de:=match jv b with|aU a _=>a|_=>eO
def C2 (b:cO):de:=match jv b with|aU _ (aU a _)=>a|_=>eO
def C3 (b:cO):de:=match jv b with|aU _ (aU _ (aU a _))=>a|_=>eO
def C4 (b:cO):de:=match jv b with|aU _ (aU _ (aU _ (aU a _)))=>a|_=>eO
def CX (b:cO):de:=match jv b with|aU _ (aU _ (aU _ (aU _ (aU a _))))=>a|_=>eO
def CY (b:cO):de:=match jv b with|aU _ (aU _ (aU _ (aU _ (aU _ (aU a _)))))=>a|_=>eO
def CZ (b:cO):de:=match jv b with|aU _ (aU _ (aU _ (aU _ (aU _ (aU _ (aU a _))))))=>a|_=>eO
abbrev rQ(v:Nat->F):List (Nat×F):=[(0,v 0),(1,v 1),(2,v 2),(3,v 3),(4,v 4),(10,v 10),(11,v 11),(13,v 13)]
def XE(a:ag)(v:Nat->F)(d c b e m N:Nat)(j i:Nat)(g:v 0=(aZ d))(h:v 13=n9 b)(s:aJ a d 2 (aI c e m))(t:b<e)(u:e<=100000)(q:aJ a c (b*2) (n9 N))(r:aJ a c (b*2+1) (ah O j i)):
 (C1 cR).wp (aM av) (λn f l=>n=e4/\l=cD a (ax #[n9 N,ah O j i] 122)/\Cc.Knows f 166 ((14,(aZ (U a.heap)))::(12,v 12)::rQ v)/\b8 f=[]) (eX v) a:=by
 have k:X (v 0=(aZ d)/\v 13=n9 b):=⟨g,h⟩;unfold eX;rw[g,h];unfold C1 jv cR;dsimp only;go_wp2_with fail;have⟨o,p⟩:=k.o;exact(((((((((iJ Y (by exact bA p)).cons Y).cons Y).cons Y).cons Y).cons Y).cons Y).cons (by exact bA o)).cons Y).cons Y
def XF(a:ag){v:Nat->F}:
 (C2 cR).wp (aM av) (λd b c=>d=e4/\c=a/\Cc.Knows b 166 ((15,v 12)::(14,v 14)::(12,v 12)::rQ v)/\b8 b=[]) (eX v) a:=by
 unfold eX C2 jv cR;dsimp only;go_wp2_with fail;exact((((((((((iJ Y Y).cons Y).cons Y).cons Y).cons Y).cons Y).cons Y).cons Y).cons Y).cons Y).cons Y
def XG(a:ag){v:Nat->F}(d N b:Nat)(j:b+N<=100000)(g:v 12=n9 b)(h:v 14=(aZ d))(i:aJ a d 0 (n9 N)):
 (C3 cR).wp (aM av) (λf c e=>f=e4/\e=a/\Cc.Knows c 166 ((12,z9 ((b+N:Nat):Int))::(15,v 15)::(14,v 14)::rQ v)/\b8 c=[]) (eX v) a:=by
 unfold eX;rw[g,h];unfold C3 jv cR;dsimp only;go_wp2_with fail;exact((((((((((iJ Y Y).cons Y).cons Y).cons Y).cons Y).cons Y).cons Y).cons Y).cons Y).cons Y).cons (by first|rfl|(show bt _ _=_;congr 1;omega))
def XH(c:ag){v:Nat->F}(sk:Bool)(b:List bJ)(iy:Int->e8)(N d p o z:Nat)(f:Option aN)(rb bY bE:Nat)(j:v 2=ah f (I b) bE)(k:v 3=ak sk)(i:v 14=(aZ d))(K:aJ c d 0 (n9 N))(L:aJ c d 1 (aI p o z))
 (H:I b<=aS) (e:dy c f rb bY b) (x:∀a∈b,xj c p o a.col (iy a.col)) (y:∀a∈b,((iy a.col).bV.least.s.size<=aS/\(iy a.col).bV.most.s.size<=aS)/\a.low.s.size<=aS/\a.high.s.size<=aS):
 (C4 cR).wp (aM av) (λu s B=>u=e4/\aD c B/\Cc.Knows s 166 ((16,ak (sk&&b.any λa=>jQ (iy a.col).bV a))::(12,v 12)::(15,v 15)::(14,v 14)::rQ v)/\b8 s=[]) (eX v) c:=by
 have r:X (v 2=ah f (I b) bE/\v 3=ak sk/\v 14=(aZ d)):=⟨j,k,i⟩;have q:=Zz b iy (N:Int) p o z f rb bY bE c H e x y;unfold eX;rw[j,k,i];unfold C4 jv cR;dsimp only;clear j k i e x y;cases sk
 .clear q;go_wp2_with fail;have⟨g,h,D⟩:=r.o;exact⟨bU _ _,(((((((((((iJ Y Y).cons Y).cons Y).cons Y).cons (by exact bA h)).cons (by exact bA g)).cons Y).cons Y).cons Y).cons Y).cons Y).cons Y⟩
 go_wp2_with (go_at_call 49;refine bL q ?_;rintro u J ⟨t,rfl,l,w⟩;have A:X (t=(b.any λa=>jQ (iy a.col).bV a)/\aD c J):=⟨by
  cases t;exact bA (List.any_eq_false.2 λa e=>by
   obtain⟨n,m,rfl⟩:=m6 e;rw[l.1 Y n m];decide)
  cases G:(b.any λa=>jQ (iy a.col).bV a);have:=l.2 λn m=>by
   have:=List.any_eq_false.1 G b[n] (c8 m);simpa using this
  cases this;rfl,w⟩;clear l w)
 have⟨g,h,D⟩:=r.o;have⟨C,E⟩:=A.o;subst C;exact⟨E,(((((((((((iJ Y Y).cons Y).cons Y).cons Y).cons (by exact bA h)).cons (by exact bA g)).cons Y).cons Y).cons Y).cons Y).cons Y).cons Y⟩
def Xw(a:ag){v:Nat->F}(e:v 16=ak qV):
 (CX cR).wp (aM av) (λc b d=>d=a/\((qV=af/\c= .exit 1)\/(qV=ai/\c=e4))/\Cc.Knows b 166 ((12,v 12)::(15,v 15)::(14,v 14)::rQ v)/\b8 b=[]) (eX v) a:=by
 unfold eX;rw[e];unfold CX jv cR;dsimp only;cases qV
 all_goals
  go_wp2_with fail;exact((((((((((iJ Y Y).cons Y).cons Y).cons Y).cons Y).cons Y).cons Y).cons Y).cons Y).cons Y).cons Y
def Td.OQ{c:List (List az×F)}(a:Td w n m k v x M c qY)(d:Int):Td (bg w ⟨m,3,Z⟩ (z9 d)) n m k v x d c qY:=by
 have⟨h,b,f⟩:=a.lt;exact⟨aB (ef _ _ _ _ f) a.m8,eE w m 3 _ _ _ a.box,pV a.rows b,λg e=>pV (a.each g e) b,a.apart,pV a.nt b,a.lt⟩
def Xx{v:Nat->F}(a b:Nat)(h:b<=1000000)(d:v 11=(aZ a))(g:w.heap[a]? =K (ax #[x,y,z,n9 b] 84 (0,0))):
 (CY cR).wp (aM av) (λf c e=>f=e4/\e=bg w ⟨a,3,Z⟩ (z9 ((b+1:Nat):Int))/\Cc.Knows c 166 ((12,v 12)::(15,v 15)::(14,v 14)::rQ v)/\b8 c=[]) (eX v) w:=by
 have⟨⟨i,j,k,l⟩,m⟩:=nX g;unfold eX;rw[d];unfold CY jv cR;dsimp only;go_wp2_with fail;exact((((((((((iJ Y Y).cons (by exact bA d)).cons Y).cons Y).cons Y).cons Y).cons Y).cons Y).cons Y).cons Y).cons Y
def Xy(a:ag){v:Nat->F}(g z b j:Nat)(H:b<=1000)(h:v 0=(aZ g))(G:aJ a g 0 (aI z b j)):
 (CZ cR).wp (aM av) (λl f e=>l=e4/\aD a e/\(∃c:Array F,e.heap[U a.heap]? =K (ax c 43 (0,0))/\U c=b)/\Cc.Knows f 166 ((17,aI (U a.heap) b b)::(12,v 12)::(15,v 15)::(14,v 14)::rQ v)/\b8 f=[]) (eX v) a:=by
 have⟨y,s,u,w,x⟩:=eU aE.JF;unfold eX;rw[h];unfold CZ jv cR;dsimp only
 skip
 go_wp2_with (at_make;refine wpList_make_full _ Y _ _ 26 Y (U a.heap) 43 y _ 1 aE.underlying26 s u w bM bM _ _ b Y Y (by first|omega|(push_cast;omega)) (by first|omega|(push_cast;omega)) (jG x) gy (aV _) ?_;intro i t r);have p:aD a i:=iB (bU _ _) r (aV _) aF;have q:∃c:Array F,bD i (U a.heap) c 43/\U c=b:=by
  rcases t.2 with⟨d,m⟩|⟨B,A,k,d,m,n,C,D,o,E⟩;simp at d;simp only[lX,kU,r3,and_true,true_and] at d;obtain⟨rfl,rfl⟩:=d;exact⟨k,n,cM o⟩
 exact⟨p,q,(((((((((((iJ Y Y).cons Y).cons Y).cons Y).cons Y).cons Y).cons Y).cons (by exact bA h)).cons Y).cons Y).cons Y).cons Y⟩
def z7{v:Nat->F}(b:Cc.Knows Q 166 H)(c:∀s∈[0,1,2,3,4,10,11,13],H.lookup s=K (v s)):rQ (Cc.cG Q)=rQ v:=by
 have a:=λs d=>b.slot s (v s) (c s d);unfold rQ;rw[a 0 ay,a 1 ay,a 2 ay,a 3 ay,a 4 ay,a 10 ay,a 11 ay,a 13 ay]
theorem sI{v:Nat->F}:∀(b:List (Nat×F)),(∀c∈b,c.1=12\/14<=c.1)->∀s∈[0,1,2,3,4,10,11,13],(b++rQ v).lookup s=K (v s)
 | [],_,s,a=>by
  simp only[fT,jm,or_false] at a;rcases a with rfl|rfl|rfl|rfl|rfl|rfl|rfl|rfl<;>rfl
 |x::b,d,s,a=>by
  have g:=d x (by simp);have e:(s==x.1)=ai:=by
   simp only[fT,jm,or_false] at a;simp;omega
  rw[r9,y3,e];exact sI b (λc f=>d c (by simp[f])) s a
structure Hd(W W':ag)(g0 g1 bse9 g vb n N pb cp:Nat)(rv nv:F)(nb:Int)(L:List (List az×F))(ns:List Int):Prop where
 td:Td W' g0 g1 bse9 rv nv nb L ns
 box:W'.heap[g]? =K (ax #[n9 N,aI pb n cp] 122 (0,0))
 arr:∃arr:Array F,W'.heap[vb]? =K (ax arr 43 (0,0))/\U arr=n
 keep:∀b,b<U W.heap->b≠g1->W'.heap[b]? =W.heap[b]?
 lt:g=U W.heap/\g<vb/\U W.heap<=U W'.heap
 below:dw g0 W W'
def XK{J:Exit->bK->ag->Prop}{rest:de}(a:ag){v:Nat->F}(sk:Bool)(h:List bJ)(iy:Int->e8)(n ad D d O H l9 A N o m r E g ao B:Nat)(cf a3 a2:F)(al:List (List az×F))(a1:List Int)(ae:Option aN)(rb bY bE:Nat)
 (aC:v 0=(aZ n)) (u:v 2=ah ae (I h) bE) (bu:v 3=ak sk) (bo:v 11=(aZ g)) (br:v 12=n9 r) (bs:v 13=n9 A)
 (V:a.heap[n]? =K (ax #[aI ad d O,x,aI D H l9,cf] 113 (0,0))) (bR:n≠g) (b2:A<H) (ca:H<=100000) (b4:d<=1000) (bZ:r+N<=100000) (b7:B<=1000000)
 (bH:aJ a D (A*2) (n9 N)) (bI:aJ a D (A*2+1) (aI o d m)) (b3:I h<=aS) (W:dy a ae rb bY h) (bN:∀c∈h,xj a o d c.col (iy c.col)) (cc:∀c∈h,((iy c.col).bV.least.s.size<=aS/\(iy c.col).bV.most.s.size<=aS)/\c.low.s.size<=aS/\c.high.s.size<=aS)
 (Q:Td a E g ao a3 a2 (B:Int) al a1) (b0:E<=g)
 (cb:∀l t,(sk&&h.any λc=>jQ (iy c.col).bV c)=af->aD a t->Cc.Knows l 166 ((12,z9 ((r+N:Nat):Int))::rQ v)->b8 l=[]->J (.exit 1) l t)
 (b1:∀l t aw a4,(sk&&h.any λc=>jQ (iy c.col).bV c)=ai->Hd a t E g ao aw a4 d N o m a3 a2 ((B+1:Nat):Int) al a1->Cc.Knows l 166 ((17,aI a4 d d)::(12,z9 ((r+N:Nat):Int))::(15,n9 r)::(14,(aZ aw))::rQ v)->b8 l=[]->rest.wp (aM av) J l t):
 (aU (C1 cR) (aU (C2 cR) (aU (C3 cR) (aU (C4 cR) (aU (CX cR) (aU (CY cR) (aU (CZ cR) rest))))))).wp (aM av) J (eX v) a:=by
 have bP:=(nX V).1.2.2.1;refine gQ (fR ?_ (XE a v n D A H l9 N d m aC bs bP b2 ca bH bI));rintro q a8 L ⟨rfl,aH,C,be⟩;have w:aD a L:=by rw[aH];exact nK (bU _ _) (aV _) _
 have X:bD L (U a.heap) #[n9 N,aI o d m] 122:=b5 aH (me _ _);show gD _ _ _ a8 _;rw[ki C.size be];refine gQ (fR ?_ (XF L));rintro q a9 M ⟨rfl,rfl,i,bh⟩;rw[(z7 C (sI [(14,_),(12,_)] aF)),C.slot 12 _ Y,C.slot 14 _ Y,br] at i;have ab:aA M ⟨U a.heap,0,Z⟩=K (n9 N)/\aA M ⟨U a.heap,1,Z⟩=K (aI o d m):=by unfold aA;rw[X];exact⟨rfl,rfl⟩
 show gD _ _ _ a9 _;rw[ki i.size bh];refine gQ (fR ?_ (XG M (U a.heap) N r bZ (i.slot 12 _ Y) (i.slot 14 _ Y) ab.1));rintro q ba a5 ⟨rfl,rfl,f,bi⟩;rw[(z7 i (sI [(15,_),(14,_),(12,_)] aF)),i.slot 15 _ Y,i.slot 14 _ Y] at f;have ar:=λs z=>f.slot s (v s) (sI [(12,_),(15,_),(14,_)] aF s z);show gD _ _ _ ba _;rw[ki f.size bi];refine gQ (fR ?_ (XH a5 sk h iy N (U a.heap) o d m ae rb bY bE ((ar 2 ay).trans u) ((ar 3 ay).trans bu) (f.slot 14 _ Y) ab.1 ab.2 b3 (W.below w) (λc W=>(bN c W).below w) cc));rintro q bb a6 ⟨rfl,T,j,bj⟩;rw[(z7 f (sI [(12,_),(15,_),(14,_)] aF)),f.slot 12 _ Y,f.slot 15 _ Y,f.slot 14 _ Y] at j;show gD _ _ _ bb _;rw[ki j.size bj];refine gQ (fR ?_ (Xw a6 (j.slot 16 _ Y)));rintro q am cg ⟨rfl,bF,b,ap⟩;rw[(z7 j (sI [(16,_),(12,_),(15,_),(14,_)] aF)),j.slot 12 _ Y,j.slot 15 _ Y,j.slot 14 _ Y] at b;have S:=w.trans (T.mono w.size);rcases bF with⟨R,rfl⟩|⟨R,rfl⟩;exact cb am _ R S ((((((((((iJ b.size (b.slot 13 _ Y)).cons (b.slot 11 _ Y)).cons (b.slot 10 _ Y)).cons (b.slot 4 _ Y)).cons (b.slot 3 _ Y)).cons (b.slot 2 _ Y)).cons (b.slot 1 _ Y)).cons (b.slot 0 _ Y)).cons (b.slot 12 _ Y))) ap;have bm:=λs z=>b.slot s (v s) (sI [(12,_),(15,_),(14,_)] aF s z);have aE:=(Q.below w).below T;have ch:=bC Q.box;have aL:=uO (bC Q.m8);have cd:=(cS T _ (bC X)).trans X;show gD _ _ _ am _;rw[ki b.size ap];refine gQ (fR ?_ (Xx g B b7 ((bm 11 (by decide)).trans bo) aE.box));rintro q bc p ⟨rfl,G,k,bk⟩;rw[(z7 b (sI [(12,_),(15,_),(14,_)] aF)),b.slot 12 _ Y,b.slot 15 _ Y,b.slot 14 _ Y] at k;have aG:=aE.OQ ((B+1:Nat):Int);rw[<-G] at aG;have aQ:∀e,e<U a.heap->e≠g->p.heap[e]? =a.heap[e]? :=λe P u=>by rw[G];exact(ef _ _ _ _ u).trans (cS S e P)
 have a0:bD p (U a.heap) #[n9 N,aI o d m] 122:=by rw[G];exact(ef _ _ _ _ (by show U a.heap≠g;omega)).trans cd
 have bx:dw E a p:=by rw[G];exact kg (S.mono aL) aL b0
 have bO:aJ p n 0 (aI ad d O):=(nX ((aQ n (bC V) bR).trans V)).1.1;have aY:=bC a0;have bn:=λs z=>k.slot s (v s) (sI [(12,_),(15,_),(14,_)] aF s z);show gD _ _ _ bc _;rw[ki k.size bk];refine gQ (fR ?_ (Xy p n ad d O b4 ((bn 0 (by decide)).trans aC) bO));rintro q bd a7 ⟨rfl,y,bv,aj,bl⟩;rw[(z7 k (sI [(12,_),(15,_),(14,_)] aF)),k.slot 12 _ Y,k.slot 15 _ Y,k.slot 14 _ Y] at aj;have ci:=y.size;exact b1 bd a7 (U a.heap) (U p.heap) R ⟨aG.below y,(cS y _ aY).trans a0,bv,λe P u=>(cS y e aa).trans (aQ e P u),⟨rfl,aY,aa⟩,bx.trans (y.mono aa)⟩ aj bl
def TU{f m N b g:Nat}{a:List az}(e:w.heap[f]? =K (ax C 43 (0,0)))(r:VG w g C N b a)(u:b<m){p:Nat}(t:p<N):mG w f m (b:Int) p (aX a p ⟨ai,0,⟨#[]⟩⟩):=by
 have⟨x,o,v,q⟩:=r;obtain⟨n,k,rfl,_,s,c⟩:=Cc.k5 q aa;have d:p<I a:=aa;have⟨h,i,j⟩:=vv a p d;have l:aX a p ⟨ai,0,⟨#[]⟩⟩=a[p]:=by rw[ep,dH d];rfl
 rw[l];exact⟨b,n,N,k,rfl,u,bC e,by unfold aA;rw[e];exact o,t,s,c _ _ h,c _ _ i,c _ _ j⟩
def VG.kq{h:List (List az×F)}{N g:Nat}{f:List az}(o:VG w i C N g f)(d:Td w n m k v x M h qY)(t:Kq w u n m v x cx ej):VG u i C N g f:=by
 have⟨z,p,q,e⟩:=o;refine⟨z,p,q,e.1,?_⟩;rcases e.2 with r|⟨c,j,l,rfl,s,b,y⟩;exact aq r;have a:u.heap[c]? =w.heap[c]? :=t.keep c (bC b) (λa=>by rw[a,d.box] at b;cases b) (λa=>ew d.rows b ay (bA a)) (λa=>ew d.nt b ay (bA a));exact an ⟨c,j,l,rfl,s,aB a b,y⟩
def Td.kp{e:List (List az×F)}(a:Td w n m k v x M e qY)(c:Kp i w u)(d:w.heap[i]? =K (ax C 43 (0,0)))(h:bB v≠K i):Td u n m k v x M e qY:=
 ⟨Kp.block c a.m8 (λb=>by have:=a.m8;rw[b,d] at this;cases this),Kp.block c a.box (λb=>by have:=a.box;rw[b,d] at this;cases this),fK a.rows c (an h),λg f=>fK (a.each g f) c (an λb=>ew (a.each g f) d ay (bA b)),a.apart,fK a.nt c (an λb=>ew a.nt d ay (bA b)),a.lt⟩
def VY{k n y c d N f bN rb bY:Nat}{u:List (List az×F)}{V:Nat->List az}{e:List bJ}(o:Td w k n y v x M u qY)(p:w.heap[c]? =K (ax C 43 (0,0)))(S:bB v≠K c)(G:c≠n)
 (z:∀l:Nat,l<d->jC (l:Int) aj e=af->VG w (c+1) C N l (V l)) (E:∀a∈aj,0<=a/\a<(d:Int)) (T:∀i∈e,0<=i.col/\i.col<(d:Int)) (B:0<I aj->O=K ⟨f,bN,Z⟩) (r:0<I aj->f<k) (D:∀h,h<I aj->aJ w f (bN+h) (z9 (aX aj h 0))) (L:dy w P rb bY e) (Q:0<I e->rb<k):
 ∀j cx ej,Kq w j k n v x cx ej->Cc.xw j aj e O f bN P rb bY c d N (λa q=>aX (V (bS a)) q ⟨ai,0,⟨#[]⟩⟩):=by
 intro j cx ej g;have W:=bC o.m8;have U:=g.size;have m:j.heap[c]? =w.heap[c]? :=g.keep c (bC p) G S (λm=>ew o.nt p ay (bA m));refine⟨B,λb=>by have:=r b;omega,λh H=>?_,L.kept U (λb=>cS g.below rb (Q b)),λq R a s=>?_⟩;have A:=cS g.below f (r aa);unfold aA;rw[A];exact D h H;have t:0<=a/\a<(d:Int):=by
  rcases s with b|⟨i,b,rfl⟩;exact E a b;exact T i b
 have J:jC ((bS a:Nat):Int) aj e=af:=by
  rw[Int.toNat_of_nonneg t.1];unfold jC;rw[xk];refine⟨a,?_,aF⟩;rcases s with b|⟨i,b,rfl⟩;exact List.mem_append_left _ b;exact List.mem_append_right _ (List.mem_map_of_mem b)
 have:=TU (p:=q) (aB m p) ((z (bS a) aa J).kq o g) (aa:bS a<d) R;rw[Int.toNat_of_nonneg t.1] at this;exact this
def Xs{v:Nat->F}:∀s∈[0,1,2,3,4,10,11,12,13,14,15,17],(ko v).lookup s=K (v s):=by
 intro s a;simp only[fT,jm,or_false] at a;rcases a with rfl|rfl|rfl|rfl|rfl|rfl|rfl|rfl|rfl|rfl|rfl|rfl<;>rfl
def XO(e:ag){v:Nat->F}(b:List (bF×Int))(ae:Nat->ByteArray)(V:Nat->List az)(N:Nat)(aj:List Int)(h:List bJ)(O q w c r D Q M S bk bj bl:Nat)(bi cd W bd:F)(B R:Int)(am:List (List az×F))(bc:List Int)(pre:List Cc.dB)(first:Nat)(ap:Option aN)(y bN bH:Nat)(T:Option aN)(rb bY bE:Nat)(ao:Array F)
 (bm:v 0=(aZ O)) (aw:v 1=ah ap (I aj) bH) (aG:v 2=ah T (I h) bE) (bo:v 4=z9 R) (aC:v 10=(aZ c)) (aD:v 11=(aZ r)) (aE:v 14=(aZ q)) (bn:v 15=n9 first) (aF:v 17=aI w (I b) (I b))
 (bP:I aj<=1000) (a8:I h<=aS) (b0:I b<=1000) (aH:N<=100) (br:0<N)
 (bR:e.heap[O]? =K (ax #[aI Q (I b) bk,aI M (I b) bj,bi,cd] 113 (0,0))) (G:∀a (ar:a<I b),aJ e Q (a*2+1) (z9 b[a].1.kind)/\aJ e M a (z9 b[a].2)/\aJ e S (a*9+8) (au (ae a))/\(ae a).size<=aS/\eW b[a].1.kind b[a].2=af/\Cc.lH (ae a) b[a].1.kind b[a].2 (N:Int) (V a))
 (aQ:e.heap[q]? =K (ax #[n9 N,aI S (I b) bl] 122 (0,0))) (P:e.heap[w]? =K (ax ao 43 (0,0))) (bx:ao.size=I b)
 (t:Td e c r D W bd B am bc) (b4:Told pre am bc) (a9:bB W≠K w) (b1:I pre+N<=2000) (bV:first+N<=100000) (ck:D<=U e.heap) (a3:c<=r)
 (b2:y<c/\rb<c/\O<c/\Q<c/\M<c/\S<c/\c<w/\r<w/\q<w) (bO:∀j∈aj,0<=j/\j<(I b:Int)) (b7:∀u∈h,0<=u.col/\u.col<(I b:Int)) (bs:∀k,k<N->∀u∈h,(aX (V (bS u.col)) k ⟨ai,0,⟨#[]⟩⟩).s.size<=aS/\u.low.s.size<=aS/\u.high.s.size<=aS)
 (a0:0<I aj->ap=K ⟨y,bN,Z⟩) (a1:∀a,a<I aj->aJ e y (bN+a) (z9 (aX aj a 0))) (a6:dy e T rb bY h):
 (aU (C8 cR) (oy cR)).wp (aM av) (λf p n=>
   (f=e4/\(∀d:Nat,d<I b->jC (d:Int) aj h=af->I (V d)=N)/\(∃g cx ej l m,Td n c r D cx ej B l m/\dw c e n/\Told g l m/\Cc.feed (λg=>decide ((I g:Int)≠R)) pre (Cc.je (Cc.iG h λj k=>aX (V (bS j)) k ⟨ai,0,⟨#[]⟩⟩) (λk=>aj.map λj=>aX (V (bS j)) k ⟨ai,0,⟨#[]⟩⟩) first 0 N)=(g,af))/\(∃al,Cc.Knows p 166 ((22,al)::ko v))/\b8 p=[])\/
   (f= .ret/\(∀d:Nat,d<I b->jC (d:Int) aj h=af->I (V d)=N)/\(∃g o cx ej l m,Td o c r D cx ej B l m/\dw c e o/\Told g l m/\Cc.feed (λg=>decide ((I g:Int)≠R)) pre (Cc.je (Cc.iG h λj k=>aX (V (bS j)) k ⟨ai,0,⟨#[]⟩⟩) (λk=>aj.map λj=>aX (V (bS j)) k ⟨ai,0,⟨#[]⟩⟩) first 0 N)=(g,ai)/\n=ou o c cx ej (z9 0) (z9 B))/\Cc.Knows p 166 [(10,v 10)]/\b8 p=[])\/
   (f= .ret/\(∃d:Nat,d<I b/\jC (d:Int) aj h=af/\I (V d)≠N)/\dw c e n/\n.heap[c]? =K (ax #[W,bd,z9 3,z9 B] 84 (0,0))/\Cc.Knows p 166 [(10,v 10)]/\b8 p=[])) (eX v) e:=by
 have⟨ba,bb,cl,cn,co,cp,cs,cu,cv⟩:=b2;have⟨cB,cG,a7⟩:=gG t.rows;have⟨cy,cA,a4⟩:=gG t.nt;have aY:=t.box;rw[a7,a4] at aY;refine gQ (fR ?_ (XU #[] bm aw aG aC aD aE aF gy a8 b0 aH br bR G aQ P bx aY t.m8 ⟨aa,aa,aa,aa,aa,aa,aa,aa,aa,t.lt.2.2⟩ a3 a0 a1 a6));rintro f bh o (⟨rfl,H,⟨ch,bv,ci,aL⟩,C,J⟩|⟨rfl,b3,bD,_,a2,C,J⟩);rotate_left;rw[<-a7,<-a4] at a2;exact an (an ⟨rfl,b3,bD,a2,C,J⟩);have z:=t.kp H P a9;have E:dw c e o:=(Kp.below H (uO (bC P))).mono aa;have cb:=Kp.size H;have i:=λs ca=>C.slot s (v s) (Xs s ca);have A:=Kp.block H aQ aa;have bI:∀a,a<I aj->aJ o y (bN+a) (z9 (aX aj a 0)):=λa bZ=>(bq E (p:=⟨y,bN+a,Z⟩) ba).trans (a1 a bZ);have b5:dy o T rb bY h:=a6.kept cb (λ_=>cS E rb bb);show gD _ _ _ bh _;rw[ki C.size J];refine fR ?_ (XQ ((i 1 ay).trans aw) ((i 2 ay).trans aG) ((i 4 ay).trans bo) ((i 10 ay).trans aC) ((i 11 ay).trans aD) ((i 14 ay).trans aE) ((i 15 ay).trans bn) ((i 17 ay).trans aF)
  (λn cx ej G=>⟨VY z bv a9 aa aL bO b7 a0 (λ_=>ba) bI b5 (λ_=>bb) n cx ej G,by
    have f:n.heap[q]? =o.heap[q]? :=G.keep q (bC A) (λf=>by have:=z.box;rw[<-f,A] at this;cases this) (λf=>ew z.rows A ay (bA f)) (λf=>ew z.nt A ay (bA f));show _=_;unfold aA;rw[f,A];rfl⟩) bs bP a8 z b4 b1 bV aH aa a3)
 have a5:∀d:Nat,d<I b->jC (d:Int) aj h=af->I (V d)=N:=λd cc bu=>by
  have⟨cJ,_,ar,_⟩:=aL d cc bu;exact ar
 rintro f cg cf (⟨rfl,⟨g,cx,ej,l,m,X,Y,ab,ad⟩,⟨al,x⟩,L⟩|⟨rfl,⟨g,be,cx,ej,l,m,X,Y,ab,ad,rfl⟩,x,L⟩);rw[z8 i] at x;exact aq ⟨rfl,a5,⟨g,cx,ej,l,m,X,E.trans Y.below,ab,ad⟩,⟨al,x⟩,L⟩;rw[i 10 ay] at x;exact an (aq ⟨rfl,a5,⟨g,be,cx,ej,l,m,X,E.trans Y.below,ab,ad,rfl⟩,x,L⟩)
def C0 (b:cO):de:=match b.body with|some (aU _ (aU _ (aU _ (aU (aU _ (ga _ (.loop (aU a _)))) _))))=>a|_=>eO
def Bo (b:cO):de:=match b.body with|some (aU _ (aU _ (aU _ (aU (aU _ (ga _ (.loop (aU _ (aU _ a))))) _))))=>a|_=>eO
def Gd (b:cO):de:=match b.body with|some (aU _ (aU _ (aU _ (aU (aU a _) _))))=>a|_=>eO
abbrev C6(v:Nat->F):List (Nat×F):=[(0,v 0),(1,v 1),(2,v 2),(3,v 3),(4,v 4),(10,v 10),(11,v 11),(12,v 12)]
def XC(c:ag){v:Nat->F}(g m a b j:Nat)(i:Option aN)(d:v 0=(aZ g))(k:v 13=n9 a)(o:aJ c g 2 (ah i b j))(p:a<=100000):
 (C0 cR).wp (aM av) (λf e h=>h=c/\((a<b/\f=e4)\/(b<=a/\f= .exit 0))/\Cc.Knows e 166 ((13,v 13)::C6 v)/\b8 e=[]) (eX v) c:=by
 unfold eX;rw[d,k];unfold C0 cR;dsimp only;by_cases n:a<b;have l:(a:Int)<(b:Int):=aa;go_wp2_with fail;exact((((((((iJ Y Y).cons Y).cons Y).cons Y).cons Y).cons Y).cons Y).cons (by exact bA d)).cons Y;have l:¬(a:Int)<(b:Int):=aa;go_wp2_with fail;exact⟨aa,((((((((iJ Y Y).cons Y).cons Y).cons Y).cons Y).cons Y).cons Y).cons (by exact bA d)).cons Y⟩
def XD{v:Nat->F}(e:n<=100000)(d:v 13=n9 n):
 (Bo cR).wp (aM av) (λc a b=>c=e4/\b=w/\Cc.Knows a 166 ((13,z9 ((n+1:Nat):Int))::C6 v)/\b8 a=[]) (eX v) w:=by
 unfold eX;rw[d];unfold Bo cR;dsimp only;go_wp2_with fail;exact((((((((iJ Y Y).cons Y).cons Y).cons Y).cons Y).cons Y).cons Y).cons Y).cons (by first|rfl|(show bt _ _=_;congr 1;omega))
def XA{v:Nat->F}:
 (Gd cR).wp (aM av) (λc a b=>c=e4/\b=w/\Cc.Knows a 166 ((13,z9 0)::C6 v)/\b8 a=[]) (eX v) w:=by
 unfold eX Gd cR;dsimp only;go_wp2_with fail;exact((((((((iJ Y Y).cons Y).cons Y).cons Y).cons Y).cons Y).cons Y).cons Y).cons Y
end Ec
namespace Ec
open Go.RowKit Pk Pm
open Cc (eZ j4 rN pU vu rowsOf jP jF FQ)
structure DM(W:ag)(g0:Nat)(l:List (bF×Int))(bs:List Bd)(aj:List Int)(rs:List bJ)(fb kb ck eb ce:Nat)(bo:Option aN)(bk l9:Nat)(pb pc:Nat->Nat)(rn:F)(co:Option aN)(cb bN:Nat)(ro:Option aN)(rb bY:Nat):Prop where
 file:W.heap[fb]? =K (ax #[aI kb (I l) ck,aI eb (I l) ce,ah bo (I bs) l9,rn] 113 (0,0))
 k:∀j (h:j<I l),aA W ⟨kb,j*2+1,Z⟩=K (z9 l[j].1.kind)/\aA W ⟨eb,j,Z⟩=K (z9 l[j].2)
 d:∀(i:Nat) b,bs[i]? =K b->bo=K ⟨bk,0,Z⟩/\aA W ⟨bk,i*2,Z⟩=K (n9 b.rows)/\aA W ⟨bk,i*2+1,Z⟩=K (ah (K ⟨pb i,0,Z⟩) (I l) (pc i))
 p:∀(i:Nat) b,bs[i]? =K b->∀(j:Nat) x,b.chunks[j]? =K x->∀(t:Nat) u,(eN ⟨bf x.text,x.bV,x.text⟩)[t]? =K u->aA W ⟨pb i,j*9+t,Z⟩=K u
 lt:fb<g0/\kb<g0/\eb<g0/\cb<g0/\rb<g0
 lb:∀(i:Nat),i<I bs->bk<g0/\pb i<g0
 ca:0<I aj->co=K ⟨cb,bN,Z⟩
 cc:∀j,j<I aj->aA W ⟨cb,bN+j,Z⟩=K (z9 (aX aj j 0))
 nr:dy W ro rb bY rs
section
variable {W J:ag}{g0:Nat}{l:List (bF×Int)}{bs:List Bd}{aj:List Int}{rs:List bJ}{fb kb ck eb ce:Nat}{bo:Option aN}{bk l9:Nat}{pb pc:Nat->Nat}{rn:F}{co:Option aN}{cb bN:Nat}{ro:Option aN}{rb bY:Nat}{V:Nat->Nat->List az}
def DM.below(a:DM W g0 l bs aj rs fb kb ck eb ce bo bk l9 pb pc rn co cb bN ro rb bY)(g:dw g0 W J):DM J g0 l bs aj rs fb kb ck eb ce bo bk l9 pb pc rn co cb bN ro rb bY:=by
 have⟨k,m,n,o,p⟩:=a.lt;have e:=λb q (a:b<g0)=>bq g (p:=⟨b,q,Z⟩) a;exact⟨aB (cS g fb k) a.file,λf h=>⟨aB (e _ _ m) (a.k f h).1,aB (e _ _ n) (a.k f h).2⟩,λd b c=>⟨(a.d d b c).1,aB (e _ _ (a.lb d (fq.1 c).1).1) (a.d d b c).2.1,aB (e _ _ (a.lb d (fq.1 c).1).1) (a.d d b c).2.2⟩,λd b c f t j r s i=>aB (e _ _ (a.lb d (fq.1 c).1).2) (a.p d b c f t j r s i),a.lt,a.lb,a.ca,λf h=>aB (e _ _ o) (a.cc f h),a.nr.kept g.size λ_=>cS g rb p⟩
def DM.TK(f:DM W g0 l bs aj rs fb kb ck eb ce bo bk l9 pb pc rn co cb bN ro rb bY)(i:FQ l bs aj rs V)(u:g0<=U W.heap){a:Bd}(e:bs[n]? =K a):∀c∈rs,xj W (pb n) (I l) c.col ⟨(aX a.chunks (bS c.col) jF).text.size,(aX a.chunks (bS c.col) jF).bV,(aX a.chunks (bS c.col) jF).text⟩:=by
 intro c o;obtain⟨j,s⟩:=i.rk c o;obtain⟨d,g⟩:=uM j;have t:=i.len a (nO e);have m:d<I a.chunks:=by omega
 have h:a.chunks[d]? =K a.chunks[d]:=dH m;have k:aX a.chunks (bS c.col) jF=a.chunks[d]:=by rw[g,ep];simp[h]
 rw[k];have b:=λq r p=>f.p n a e d _ h q r p;have v:=(f.lb n (fq.1 e).1).2;exact⟨d,g,by omega,by omega,b 0 _ Y,b 1 _ Y,b 2 _ Y,b 3 _ Y,b 4 _ Y,b 5 _ Y,b 6 _ Y,b 7 _ Y,b 8 _ Y⟩
end
def Fp{bs:List Bd}{aj:List Int}{rs:List bJ}{V:Nat->Nat->List az}:rN bs (cY n (aj++rs.map bJ.col)) V m=af↔∀a:Nat,a<n->jC (a:Int) aj rs=af->I (V m a)=rowsOf bs m:=by
 have f:I (cY n (aj++rs.map bJ.col))=n:=by simp[cY]
 have e:∀a,a<n->aX (cY n (aj++rs.map bJ.col)) a ai=jC (a:Int) aj rs:=λa b=>by
  unfold cY jC;rw[ep,sb,List.getElem?_range b];rfl
 unfold rN;rw[fD,f];constructor;intro c a b d;have:=c a (n6.2 b);rw[e a b,d] at this;simpa using this;intro c a b;have b:=n6.1 b;rw[e a b];cases d:jC (a:Int) aj rs;rfl;simpa using c a b d
abbrev Lo(v:Nat->F):List (Nat×F):=[(0,v 0),(1,v 1),(2,v 2),(3,v 3),(4,v 4),(10,v 10),(11,v 11)]
abbrev z6(v:Nat->F)(a f:Nat):List (Nat×F):=(13,bt bM (a:Int))::(12,bt bM (f:Int))::Lo v
def C5{v:Nat->F}(d:U Q.tmps=166)(a:∀s∈[0,1,2,3,4,10,11],Cc.cG Q s=v s)(b:Cc.cG Q 12=n9 f)(c:Cc.cG Q 13=n9 n):Cc.Knows Q 166 (z6 v n f):=
 ((((((((iJ d (a 11 ay)).cons (a 10 ay)).cons (a 4 ay)).cons (a 3 ay)).cons (a 2 ay)).cons (a 1 ay)).cons (a 0 ay)).cons b).cons c
def Ln{v:Nat->F}:∀s∈[0,1,2,3,4,10,11],(z6 v n f).lookup s=K (v s):=by
 intro s a;simp only[fT,jm,or_false] at a;rcases a with rfl|rfl|rfl|rfl|rfl|rfl|rfl<;>rfl
def Gh{v:Nat->F}:∀s∈[0,1,2,3,4,10,11],((13,x)::C6 v).lookup s=K (v s):=by
 intro s a;simp only[fT,jm,or_false] at a;rcases a with rfl|rfl|rfl|rfl|rfl|rfl|rfl<;>rfl
def Lp{d:Exit->bK->ag->Prop}{W:ag}{v:Nat->F}{k f:Nat}(m:k<=100000)(a:Cc.Knows Q 166 (z6 v k f))(h:b8 Q=[])(j:∀c,Cc.Knows c 166 (z6 v (k+1) f)->b8 c=[]->d e4 c W):(Bo cR).wp (aM av) d Q W:=by
 rw[ki a.size h];refine fR ?_ (XD m (a.slot 13 _ Y));rintro o g n ⟨rfl,rfl,b,i⟩;exact j g (C5 b.size (λs e=>aB (b.slot s _ (Gh s e)) (a.slot s _ (Ln s e))) (aB (b.slot 12 _ Y) (a.slot 12 _ Y)) (b.slot 13 _ Y)) i
def HP (e J:ag)(g0 k j:Nat)(h:List Cc.dB×Nat×Nat):Prop:=
 (∃b c a i g d f,Td c g0 k j i g ((a:Nat):Int) d f/\dw g0 e c/\Told b d f/\h=(b,a,0)/\J=ou c g0 i g (z9 0) (n9 a))\/
 (∃b a p r q m o n,h=(b,a,3)/\dw g0 e J/\J.heap[g0]? =K (ax #[ah p r q,ah m o n,z9 3,z9 ((a:Nat):Int)] 84 (0,0)))
def XM(B:ag)(v:Nat->F)(sk:Bool)(G:Int)(l:List (bF×Int))(bs:List Bd)(aj:List Int)(rs:List bJ)(V:Nat->Nat->List az)(fb kb ck eb ce:Nat)(bo:Option aN)(bk l9:Nat)(pb pc:Nat->Nat)(rn:F)(co:Option aN)(cb bN bH:Nat)(ro:Option aN)(rb bY bE g0 t C:Nat)(ap:bK)
 (aD:v 0=(aZ fb)) (P:v 1=ah co (I aj) bH) (L:v 2=ah ro (I rs) bE) (b0:v 3=ak sk) (b1:v 4=z9 G) (bZ:v 10=(aZ g0)) (a5:v 11=(aZ t)) (bl:Cc.Knows ap 166 (z6 v 0 0)) (bD:b8 ap=[])
 (a6:DM B g0 l bs aj rs fb kb ck eb ce bo bk l9 pb pc rn co cb bN ro rb bY) (i:FQ l bs aj rs V) (cs:∀b∈bs,1<=b.rows) (cg:∀d (Z:d<I l),eW l[d].1.kind l[d].2=af)
 (b7:∀b∈bs,∀e∈rs,(aX b.chunks (bS e.col) jF).bV.least.s.size<=aS/\(aX b.chunks (bS e.col) jF).bV.most.s.size<=aS) (be:∀e∈rs,e.low.s.size<=aS/\e.high.s.size<=aS) (cM:∀bh,bh<I bs->∀e∈rs,∀g,(aX (V bh (bS e.col)) g ⟨ai,0,⟨#[]⟩⟩).s.size<=aS)
 (b2:Td B g0 t C aH aH 0 [] []) (dc:C<=U B.heap) (bc:g0<=t):
 (ga 0 (.loop (aU (C0 cR) (aU (ga 1 (jv cR)) (Bo cR))))).wp (aM av) (λH X J=>
   (H=e4/\(∃c h A z o p,Td J g0 t C A z ((h:Nat):Int) o p/\dw g0 B J/\Told c o p/\eZ sk bs aj rs (cY (I l) (aj++rs.map bJ.col)) V (λc=>decide ((I c:Int)≠G)) 0 (I bs) [] 0=(c,h,0))/\Cc.Knows X 166 [(10,v 10),(11,v 11)]/\b8 X=[])\/
   (H= .ret/\HP B J g0 t C (eZ sk bs aj rs (cY (I l) (aj++rs.map bJ.col)) V (λc=>decide ((I c:Int)≠G)) 0 (I bs) [] 0)/\Cc.Knows X 166 [(10,v 10)]/\b8 X=[])) ap B:=by
 generalize cA:eZ sk bs aj rs (cY (I l) (aj++rs.map bJ.col)) V (λc=>decide ((I c:Int)≠G)) 0 (I bs) [] 0=c5;have cJ:jv cR=aU (C1 cR) (aU (C2 cR) (aU (C3 cR) (aU (C4 cR) (aU (CX cR) (aU (CY cR) (aU (CZ cR) (aU (C8 cR) (oy cR)))))))):=rfl;rw[cJ];have⟨cP,cQ,cW,cZ,c0⟩:=a6.lt;refine wp_block (wp_loop_ghost (λbi ao J=>∃a:Nat,∃c h A z o p,bi=I bs-a/\a<=I bs/\Cc.Knows ao 166 (z6 v a (jP bs a))/\b8 ao=[]/\Td J g0 t C A z ((h:Nat):Int) o p/\dw g0 B J/\Told c o p/\I c<=jP bs a/\h<=a/\eZ sk bs aj rs (cY (I l) (aj++rs.map bJ.col)) V (λc=>decide ((I c:Int)≠G)) a (I bs-a) c h=c5) (I bs) ⟨0,[],0,_,_,[],[],rfl,cE _,bl,bD,b2,bU _ _,⟨rfl,rfl⟩,cE _,aV _,cA⟩ ?_);rintro bi ao bn ⟨a,c,h,A,z,o,p,rfl,dm,N,bI,x,E,aJ,dq,dn,j⟩;have cu:=i.nb;have M:=a6.below E;have dt:=E.size;have dl:=bC x.m8;rw[ki N.size bI];have a4:=λs k=>N.slot s (v s) (Ln s k);refine gQ (fR ?_ (XC bn fb bk a (I bs) l9 bo ((a4 0 ay).trans aD) (N.slot 13 _ Y) (nX M.file).1.2.2.1 aa));rintro H bv br ⟨rfl,ca,O,a3⟩;have r:=λs k=>(O.slot s _ (Gh s k)).trans (a4 s k);have bP:=(O.slot 12 _ Y).trans (N.slot 12 _ Y);have aC:=(O.slot 13 _ Y).trans (N.slot 13 _ Y);rcases ca with⟨ae,rfl⟩|⟨dk,rfl⟩;rotate_left;obtain rfl:a=I bs:=aa;rw[Nat.sub_self] at j;exact aq ⟨rfl,⟨c,h,A,z,o,p,x,E,aJ,bA j⟩,(iJ O.size (r 11 ay)).cons (r 10 ay),a3⟩;obtain⟨b,y⟩:∃b,bs[a]? =K b:=⟨_,dH ae⟩;have ab:=nO y;have⟨cc,cd,cf⟩:=M.d a b y;have bb:=Cc.Ca y;have dd:=Cc.AQ bs (a+1);have dv:=i.tot;have al:=Cc.Br y;have ci:aX bs a ⟨0,[]⟩=b:=by rw[ep,y];rfl
 have cv:pU bs rs a=rs.any λe=>jQ (aX b.chunks (bS e.col) jF).bV e:=by unfold pU;rw[ci]
 rw[show I bs-a=(I bs-(a+1))+1 by omega] at j;simp only[eZ,cv] at j;have bd:j4 bs aj rs V a=Cc.je (Cc.iG rs λf g=>aX (V a (bS f)) g ⟨ai,0,⟨#[]⟩⟩) (λg=>aj.map λf=>aX (V a (bS f)) g ⟨ai,0,⟨#[]⟩⟩) (jP bs a) 0 b.rows:=by unfold j4;rw[al];rfl
 have a9:=M.file;rw[cc] at a9;show gD _ _ _ bv _;rw[ki O.size a3];refine gQ (wp_block (XK br sk rs (λf=>⟨(aX b.chunks (bS f) jF).text.size,(aX b.chunks (bS f) jF).bV,(aX b.chunks (bS f) jF).text⟩) fb kb bk (I l) ck (I bs) l9 a b.rows (pb a) (pc a) (jP bs a) g0 t C h rn A z o p ro rb bY bE ((r 0 ay).trans aD) ((r 2 ay).trans L) ((r 3 ay).trans b0) ((r 11 ay).trans a5) bP aC a9 aa ae cu i.m aa aa cd cf i.rn M.nr (M.TK i aa y) (λe S=>⟨b7 b ab e S,be e S⟩) x bc ?_ ?_));intro ar a1 aI a7 m aw;rw[aI,if_pos Y] at j;show gD _ _ _ ar _;refine Lp (v:=v) (k:=a) (f:=jP bs (a+1)) aa (C5 m.size (λs k=>(m.slot s _ (sI [(12,_)] aF s ?_)).trans (r s k)) ((m.slot 12 _ Y).trans (by rw[bb])) ((m.slot 13 _ Y).trans aC)) aw λa2 n D=>?_;simp only[fT,jm,or_false] at k ⊢;omega;exact⟨I bs-(a+1),aa,a+1,c,h,A,z,o,p,rfl,aa,n,D,x.below a7,E.trans (a7.mono aa),aJ,aa,aa,j⟩
 .intro ar a1 bR bj aI w m aw;rw[aI,if_neg ay] at j;have u:=M.below w.below;have⟨bx,b3,b4⟩:=w.arr;have⟨df,cl,du⟩:=w.lt;have q:∀s∈[0,1,2,3,4,10,11],Cc.cG ar s=v s:=λs k=>(m.slot s _ (sI [(17,_),(12,_),(15,_),(14,_)] aF s (by simp only[fT,jm,or_false] at k ⊢;omega))).trans (r s k);have cy:=(u.lb a ae).2;have dg:=bC x.box;rw[ki m.size aw];refine fR ?_ (XO a1 l (λd=>(aX b.chunks d jF).text) (V a) b.rows aj rs fb bR bj g0 t C kb eb (pb a) ck ce (pc a) (ah bo (I bs) l9) rn A z ((h+1:Nat):Int) G o p c (jP bs a) co cb bN bH ro rb bY bE bx
   ((q 0 ay).trans aD) ((q 1 ay).trans P) ((q 2 ay).trans L) ((q 4 ay).trans b1) ((q 10 ay).trans bZ) ((q 11 ay).trans a5) (m.slot 14 _ Y) (m.slot 15 _ Y) (m.slot 17 _ Y)
   i.cn i.rn i.m (i.rows b ab) (cs b ab) u.file (λd R=>?_) w.box b3 b4 w.td aJ (λH=>cB ((x.rows.lt bj H).2)) aa aa aa bc ⟨cZ,c0,cP,cQ,cW,cy,aa,aa,cl⟩ i.ck i.rk (λg dp e S=>⟨cM a ae e S g,be e S⟩) u.ca u.cc u.nr)
  rotate_left;have cp:d<I b.chunks:=b5 (i.len b ab) R;have aQ:b.chunks[d]? =K b.chunks[d]:=dH cp;have cn:aX b.chunks d jF=b.chunks[d]:=by rw[ep,aQ];rfl
  have a8:=i.dec a b y d _ _ aQ (dH R);simp only[cn];exact⟨(u.k d R).1,(u.k d R).2,u.p a b y d _ aQ 8 _ Y,a8.1,cg d R,a8.2⟩;rintro H a2 da (⟨rfl,aG,⟨a0,cx,ej,am,aY,aE,Q,aL,ad⟩,⟨dy,n⟩,D⟩|⟨rfl,aG,⟨a0,bu,cx,ej,am,aY,aE,Q,aL,ad,rfl⟩,n,D⟩|⟨rfl,⟨T,c6,c7,c9⟩,Q,ch,n,D⟩);rw[if_pos (Fp.2 λT P L=>(aG T P L).trans (bA al)),bd,ad,if_pos Y] at j;have ba:=Cc.EK (λc:List Cc.dB=>decide ((I c:Int)≠G)) (Cc.je (Cc.iG rs λf g=>aX (V a (bS f)) g ⟨ai,0,⟨#[]⟩⟩) (λg=>aj.map λf=>aX (V a (bS f)) g ⟨ai,0,⟨#[]⟩⟩) (jP bs a) 0 b.rows) c;rw[ad] at ba;have ds:=Cc.Da (Cc.iG rs λf g=>aX (V a (bS f)) g ⟨ai,0,⟨#[]⟩⟩) (λg=>aj.map λf=>aX (V a (bS f)) g ⟨ai,0,⟨#[]⟩⟩) (jP bs a) b.rows 0;show gD _ _ _ a2 _;refine Lp (v:=v) (k:=a) (f:=jP bs (a+1)) aa (C5 n.size (λs k=>(n.slot s _ (Bp s ?_)).trans (q s k)) ((n.slot 12 _ Y).trans ((m.slot 12 _ Y).trans (by rw[bb]))) ((n.slot 13 _ Y).trans ((m.slot 13 _ Y).trans aC))) D λdb bm bO=>?_;simp only[fT,jm,or_false] at k ⊢;omega;exact⟨I bs-(a+1),aa,a+1,a0,h+1,cx,ej,am,aY,rfl,aa,bm,bO,aE,(E.trans w.below).trans Q,aL,by simp only at ba;omega,aa,j⟩;rw[if_pos (Fp.2 λT P L=>(aG T P L).trans (bA al)),bd,ad,if_neg (λZ=>cV Z)] at j;rw[q 10 ay] at n;exact an ⟨rfl,aq ⟨a0,bu,h+1,cx,ej,am,aY,aE,(E.trans w.below).trans Q,aL,bA j,rfl⟩,n,D⟩;rw[if_neg λZ=>c9 ((Fp.1 Z T c6 c7).trans al)] at j;rw[q 10 ay] at n;obtain⟨c3,c4,rfl⟩:=gG x.rows;obtain⟨c1,c2,rfl⟩:=gG x.nt;exact an ⟨rfl,an ⟨c,h+1,c3,I o,c4,c1,I p,c2,bA j,(E.trans w.below).trans Q,ch⟩,n,D⟩
end Ec
namespace Ec
open Go.RowKit Pk Pm
open Cc (eZ jF FQ tZ AJ xh pX lO mK k5)
def dy.zero{c:List bJ}(d:I c=0):dy w O n m c:=
 ⟨λa=>aa,λa=>aa,λb a=>aa,λb a=>aa,λb a=>aa,λb a=>aa,λb a=>aa,λb a=>aa,λb a=>aa⟩
def R3{i:List (bF×Int)}{l:List Bd}{b:List (c9×F)}{G:List bJ}{cb bN rb bY:Nat}(Y:jy i l)(f:PF w u v x y n (i.map bp) (i.map eu) b)(hL:b.map bp=l.map oY)
 (aE:0<I aj->O=K ⟨cb,bN,Z⟩) (aG:0<I aj->cb<U u.heap) (aF:∀e,e<I aj->aJ u cb (bN+e) (z9 (aX aj e 0))) (ab:dy u P rb bY G):
 ∃s J N H am al l9 aQ aY m q,DM u (U u.heap) i l aj G (U w.heap+1) s J N H am al l9 aQ aY (n9 n) O m bN P q bY:=by
 have S:0<I i:=by
  have:=Y.pl.1.1;simp at this;omega
 have Q:I b=I l:=by have:=congrArg I hL;simpa using this
 obtain⟨s,J,rfl,a5,T,aM⟩:=k5 f.aj (by simpa using S);obtain⟨N,H,rfl,a3,az,aC⟩:=k5 f.gx (by simpa using S);obtain⟨m,ao,ap,ar⟩:∃m,m<U u.heap/\(0<I aj->O=K ⟨m,bN,Z⟩)/\∀e,e<I aj->aJ u m (bN+e) (z9 (aX aj e 0)):=by
  rcases vP (I aj) with g|g;exact⟨s,T,λf=>aa,λe f=>aa⟩;exact⟨cb,aG g,aE,aF⟩
 obtain⟨q,a0,a1⟩:∃q,q<U u.heap/\dy u P q bY G:=by
  rcases vP (I G) with g|g;exact⟨s,T,.zero g⟩;exact⟨rb,ab.lt g,ab⟩
 have aD:∃A r dP,y=ah A (I l) dP/\(0<I l->A=K ⟨r,0,Z⟩/\r<U u.heap)/\∀o k,(b.flatMap ir)[o]? =K k->aJ u r o k:=by
  rcases vP (I b) with g|g;have⟨ae,t,M⟩:=gG f.own;have ay:=tU g;refine⟨ae,0,t,by rw[<-Q];exact M,λf=>absurd f aa,λo k ad=>?_⟩;rw[ay] at ad;simp at ad;have⟨W,t,M,L,z,aw⟩:=k5 f.own g;exact⟨_,W,t,by rw[<-Q];exact M,λ_=>⟨rfl,z⟩,aw⟩
 obtain⟨A,r,dP,rfl,L,z⟩:=aD;have B:∀(a:Nat) c,l[a]? =K c->∃(d:a<I b),aX b a (⟨0,[]⟩,ak ai)=b[a]/\b[a].1=oY c/\b[a].2=ah (K ⟨tZ b[a].2,0,Z⟩) (I i) (AJ b[a].2)/\tZ b[a].2<U u.heap/\∀o k,((oY c).parts.flatMap eN)[o]? =K k->aA u ⟨tZ b[a].2,o,Z⟩=K k:=λa c h=>by
  have d:a<I b:=by rw[Q];exact(fq.1 h).1
  have X:b[a].1=oY c:=by
   have:(b.map bp)[a]? =K (oY c):=by rw[hL,sb,h];rfl
   rw[sb,dH d] at this;simpa using this
  have aI:(oY c).parts.length=I i:=by
   have:=(Y.eV c (nO h)).len;simpa [oY] using this
  have:=f.each b[a] (c8 d);rw[X,aI] at this;have⟨W,t,p,V,E,aZ⟩:=k5 this S;have j:aX b a (⟨0,[]⟩,ak ai)=b[a]:=by rw[ep,dH d];rfl
  refine⟨d,j,X,?_⟩;rw[p];exact⟨rfl,E,aZ⟩
 have R:=f.file;simp only[ee] at R;refine⟨s,J,N,H,A,r,dP,λa=>tZ (aX b a (⟨0,[]⟩,ak ai)).2,λa=>AJ (aX b a (⟨0,[]⟩,ak ai)).2,m,q,R,λe C=>⟨?_,?_⟩,λa c h=>⟨(L (by have:=(fq.1 h).1;omega)).1,?_,?_⟩,λa c h e a6 C a2 k aL=>?_,⟨bC R,T,az,ao,a0⟩,λa d=>⟨(L aa).2,?_⟩,ap,ar,a1⟩;have:=(BW (i.map bp) e (by simpa using C)).2;simp only[pH] at this;exact aM _ _ this;exact aC _ _ (by simp[cW,dH C]);obtain⟨d,j,D,p,-⟩:=B a c h;have:=z _ _ (pO ir 2 B4 b a d 0 (z9 ((c.rows:Nat):Int)) (by unfold ir;rw[D];rfl));exact this;obtain⟨d,j,D,p,-⟩:=B a c h;simp only[j];have:=z _ _ (pO ir 2 B4 b a d 1 b[a].2 (by unfold ir;rfl));rw[this,<-p];have⟨d,j,D,p,V,E⟩:=B a c h;obtain⟨aH,rfl⟩:=fq.1 C;simp only[j];refine E _ _ (pO eN 9 Bn (oY c).parts e (by simpa [oY] using aH) a2 k ?_);simpa [oY] using aL;have⟨a4,j,D,p,V,E⟩:=B a _ (dH d);simp only[j];exact V
def Hq{v:az}(a:M=1\/M=2\/M=3)(b:VK M v):bf v.s<=aS:=by
 have:=Cc.zO a (AX a b);unfold aS;omega
def E6{a:List (bF×Int)}(b:kV a)(c:n<I a):a[n].1.kind=1\/a[n].1.kind=2\/a[n].1.kind=3:=by
 have:=Cc.zL b (k:=(n:Int)) (Cc.tI.2 ⟨aa,aa⟩);unfold lO at this;simpa [ep,c] using this
def XR{d:List (bF×Int)}{g:List Bd}{m:List bJ}{V:Nat->Nat->List az}(f:jy d g)(E:mK (I d) aj m=af)(G:pX d m=af)(D:xh (K (d,g)) V):
 (∀a (h:a<I d),eW d[a].1.kind d[a].2=af)/\(∀c∈g,∀b∈m,(aX c.chunks (bS b.col) jF).bV.least.s.size<=aS/\(aX c.chunks (bS b.col) jF).bV.most.s.size<=aS)/\(∀b∈m,bf b.low.s<=aS/\bf b.high.s<=aS)/\(∀k,k<I g->∀b∈m,∀w,(aX (V k (bS b.col)) w ⟨ai,0,⟨#[]⟩⟩).s.size<=aS):=by
 have q:bf (⟨#[]⟩:ByteArray)<=aS:=by show 0<=_;omega
 have y:∀c∈g,I c.chunks=I d:=λc n=>by have:=(f.eV c n).len;simpa using this
 have t:=(Cc.xD.1 E).2;refine⟨λa l=>?_,λc n b j=>?_,λb j=>?_,λk z b j w=>?_⟩;have:=f.pl.2.2 a (by simpa using l);simpa [ep,l] using this;have⟨s,i⟩:=t b j;have⟨a,l⟩:=uM s;have e:a<I d:=by omega
 have p:a<I c.chunks:=by rw[y c n];exact e
 have r:aX c.chunks (bS b.col) jF=c.chunks[a]:=by rw[l,ep];simp[p]
 rw[r];have x:=((f.eV c n).each a p).b;have o:(aX (d.map bp) a ⟨⟨#[]⟩,0⟩).kind=d[a].1.kind:=by simp[ep,e]
 rw[o] at x;rcases x with h|⟨_,B,C,_⟩;rw[h];exact⟨q,q⟩;exact⟨Hq (E6 f.pl e) B,Hq (E6 f.pl e) C⟩;have i:=fD.1 G b j;have o:=Cc.zL f.pl (Cc.tI.2 (t b j));unfold ox at i;rw[ez] at i;have H:=Cc.zO o i.1;have c:=Cc.zO o i.2;unfold aS;omega;have⟨s,i⟩:=t b j;have⟨a,l⟩:=uM s;have e:a<I d:=by omega
 have p:a<g[k].chunks.length:=by rw[y _ (c8 z)];exact e
 have u:=D k _ (dH z) a _ _ (dH p) (dH e);have r:bS b.col=a:=by omega
 rw[r,ep];cases v:(V k a)[w]? with
 |none=>exact q
 |some A=>
  rcases u with⟨J,_,_,_,F⟩|⟨u,_⟩;rcases F.ok A (nO v) with⟨_,_,h⟩|h;show bf A.s<=_;rw[h];exact q;exact Hq (E6 f.pl e) h;rw[u] at v;simp at v
end Ec
namespace Ec
open Go.RowKit Pk Pm
open Cc (eZ jF FQ jq)
def Ga (b:cO):de:=match b.body with|some (aU a _)=>a|_=>eO
def Gb (b:cO):de:=match b.body with|some (aU _ (aU a _))=>a|_=>eO
def Gc (b:cO):de:=match b.body with|some (aU _ (aU _ (aU a _)))=>a|_=>eO
def Ge (b:cO):de:=match b.body with|some (aU _ (aU _ (aU _ (aU _ a))))=>a|_=>eO
def XW:(cR).body=K (aU (Ga cR) (aU (Gb cR) (aU (Gc cR) (aU (aU (Gd cR) (ga 0 (.loop (aU (C0 cR) (aU (ga 1 (jv cR)) (Bo cR)))))) (Ge cR))))):=rfl
def HS (g:ag)(m:List Cc.dB×Nat×Nat)(i:gL)(h:ag):Prop:=
 aD g h/\∃(c:List Cc.dB) (b:Nat) (d:Option aN) (f e:Nat) (j:Option aN) (l k a:Nat),m=(c,b,a)/\i=aR (cw #[ah d f e,ah j l k,n9 a,n9 b])/\(a=0/\jq h (U g.heap) (ah d f e) (c.map eu)\/a=3)
def Xu(a:ag){v:Nat->F}:(Ga cR).wp (aM av) (λd b c=>d=e4/\c=cD a (ax #[aH,aH,z9 0,z9 0] 84)/\Cc.Knows b 166 [(0,v 0),(1,v 1),(2,v 2),(3,v 3),(4,v 4),(10,(aZ (U a.heap)))]/\b8 b=[]) (eX v) a:=by
 unfold Ga cR eX;dsimp only;go_wp2_with fail;exact(((((iJ Y Y).cons Y).cons Y).cons Y).cons Y).cons Y
def Xv{v:Nat->F}:(Gb cR).wp (aM av) (λc a b=>c=e4/\b=cD w (ax #[aH,aH,z9 0,z9 0] 84)/\Cc.Knows a 166 [(0,v 0),(1,v 1),(2,v 2),(3,v 3),(4,v 4),(10,v 10),(11,(aZ (U w.heap)))]/\b8 a=[]) (eX v) w:=by
 unfold Gb cR eX;dsimp only;go_wp2_with fail;exact((((((iJ Y Y).cons Y).cons Y).cons Y).cons Y).cons Y).cons Y
def Xz{v:Nat->F}:(Gc cR).wp (aM av) (λc a b=>c=e4/\b=w/\Cc.Knows a 166 ((12,z9 0)::Lo v)/\b8 a=[]) (eX v) w:=by
 unfold Gc cR eX;dsimp only;go_wp2_with fail;exact(((((((iJ Y Y).cons Y).cons Y).cons Y).cons Y).cons Y).cons Y).cons Y
def XB(a:ag){v:Nat->F}(b d:Nat)(h:Nat)(f:Nat)(g e:Option aN)(o:v 10=(aZ b))(p:v 11=(aZ d))(l:a.heap[d]? =K (ax #[ah g n h,ah e m f,z9 0,z9 M] 84 (0,0)))(k:a.heap[b]? =K (ax #[aH,aH,z9 0,z9 0] 84 (0,0))):
 (Ge cR).wp (aM av) (λj c i=>j= .ret/\i=ou a b (ah g n h) (ah e m f) (z9 0) (z9 M)/\Cc.Knows c 166 [(10,v 10)]/\b8 c=[]) (eX v) a:=by
 obtain⟨⟨w,x,y,z⟩,-⟩:=nX l;have⟨⟨q,r,s,t⟩,u⟩:=nX k;unfold eX;rw[o,p];unfold Ge cR;dsimp only;go_wp2_with fail;exact⟨rfl,iJ Y Y⟩
def V_9(a:ag):Td (cD (cD a (ax #[aH,aH,z9 0,z9 0] 84)) (ax #[aH,aH,z9 0,z9 0] 84)) (U a.heap) (U a.heap+1) (U a.heap+2) aH aH 0 [] []:=
 ⟨alloc_old aF (jY a _),BP a,iO _ _ _ _,λg c=>absurd c aF,λe f i h d b=>by simp at b,iO _ _ _ _,aa⟩
def VO(c:dw n w u)(b:n<=U w.heap)(a:n<=m):dw n w (ou u m v x y z):=by
 unfold ou;exact kg (kg (kg (kg c b a) b a) b a) b a
def Td.vo{b:List (List az×F)}{d:List Cc.dB}(a:Td w n m k x y M b qY)(g:Told d b qY)(q:n<=k):jq (ou w n z T qq qs) n x (d.map eu):=by
 have⟨c,t,u⟩:=a.lt;have i:∀{e o j v p},aT w k e o v j p->aT (ou w n z T qq qs) n e o v j p:=λa=>wC (pV (pV (pV (pV a c) c) c) c) q;have r:I (d.map eu)=I b:=by rw[<-g.1,ee]
 refine⟨b.map eu,b5 r (i a.rows),λs A h=>?_,a.apart⟩;rw[<-g.1,sb] at h;obtain⟨l,f,rfl⟩:=vS.1 h;exact⟨l.2,by rw[sb,f];rfl,i (a.each l (nO f))⟩
def WV(a:ag)(sk:Bool)(g:Int)(f:List (bF×Int))(c:List Bd)(aj:List Int)(b:List bJ)(V:Nat->Nat->List az)(aY aG aL aC:Nat)(ar:Option aN)(ap l9:Nat)(a2 a3:Nat->Nat)(q:Option aN)(aw bN bH:Nat)(t:Option aN)(rb bY bE:Nat)
 (bs:DM a (U a.heap) f c aj b n aY aG aL aC ar ap l9 a2 a3 x q aw bN t rb bY) (bv:FQ f c aj b V) (bR:∀H∈c,1<=H.rows) (bO:∀T (cd:T<I f),eW f[T].1.kind f[T].2=af)
 (bI:∀H∈c,∀r∈b,(aX H.chunks (bS r.col) jF).bV.least.s.size<=aS/\(aX H.chunks (bS r.col) jF).bV.most.s.size<=aS) (bZ:∀r∈b,r.low.s.size<=aS/\r.high.s.size<=aS) (b3:∀aQ,aQ<I c->∀r∈b,∀b5,(aX (V aQ (bS r.col)) b5 ⟨ai,0,⟨#[]⟩⟩).s.size<=aS):
 bn 35 #[(aZ n),ah q (I aj) bH,ah t (I b) bE,ak sk,z9 g] a (HS a (eZ sk c aj b (cY (I f) (aj++b.map bJ.col)) V (λd=>decide ((I d:Int)≠g)) 0 (I c) [] 0)):=by
 refine calls_of_wp aE.func35 XW ?_;have o:=Cc.JN (aZ n) (ah q (I aj) bH) (ah t (I b) bE) (ak sk) (z9 g) 166 ay;generalize br:(#[(aZ n),ah q (I aj) bH,ah t (I b) bE,ak sk,z9 g]++jh (166-5) undef:Array F)=ca at o;have S:({tmps:= #[(aZ n),ah q (I aj) bH,ah t (I b) bE,ak sk,z9 g]++jh (cR.ntmps-5) undef,defers:=[]}:bK)=⟨ca,[]⟩:=by rw[<-br];rfl
 show gD _ _ _ {tmps:= #[(aZ n),ah q (I aj) bH,ah t (I b) bE,ak sk,z9 g]++jh (cR.ntmps-5) undef,defers:=[]} a;rw[S,ki o.size Y];refine gQ (fR ?_ (Xu a));rintro A a8 a6 ⟨rfl,rfl,p,bb⟩;show gD _ _ _ a8 _;rw[ki p.size bb];refine gQ (fR ?_ Xv);rintro A a9 a7 ⟨rfl,rfl,h,bc⟩;show gD _ _ _ a9 _;rw[ki h.size bc];refine gQ (fR ?_ Xz);rintro A M cb ⟨rfl,rfl,e,bd⟩;have bi:=(e.slot 0 _ Y).trans ((h.slot 0 _ Y).trans ((p.slot 0 _ Y).trans (o.slot 0 _ Y)));have bj:=(e.slot 1 _ Y).trans ((h.slot 1 _ Y).trans ((p.slot 1 _ Y).trans (o.slot 1 _ Y)));have bl:=(e.slot 2 _ Y).trans ((h.slot 2 _ Y).trans ((p.slot 2 _ Y).trans (o.slot 2 _ Y)));have bm:=(e.slot 3 _ Y).trans ((h.slot 3 _ Y).trans ((p.slot 3 _ Y).trans (o.slot 3 _ Y)));have bo:=(e.slot 4 _ Y).trans ((h.slot 4 _ Y).trans ((p.slot 4 _ Y).trans (o.slot 4 _ Y)));have O:=(e.slot 10 _ Y).trans ((h.slot 10 _ Y).trans (p.slot 10 _ Y));have aJ:_=dG (K ⟨U a.heap+1,0,Z⟩):=(e.slot 11 _ Y).trans ((h.slot 11 _ Y).trans (by simp));have bk:=e.slot 12 _ Y;have bx:=V_9 a;have P:aD a (cD (cD a (ax #[aH,aH,z9 0,z9 0] 84)) (ax #[aH,aH,z9 0,z9 0] 84)):=BQ;have b0:U a.heap+2<=(cD (cD a (ax #[aH,aH,z9 0,z9 0] 84)) (ax #[aH,aH,z9 0,z9 0] 84)).heap.size:=aF;generalize cD (cD a (ax #[aH,aH,z9 0,z9 0] 84)) (ax #[aH,aH,z9 0,z9 0] 84)=a7 at*;have bu:=bs.below P;show gD _ _ _ M _;rw[ki e.size bd];refine gQ (gQ (fR ?_ XA));rintro A am al ⟨rfl,rfl,G,be⟩;show gD _ _ _ am _;have a0:∀z y,Cc.Knows z 166 [(10,Cc.cG M 10)]->HP al y (U a.heap) (U a.heap+1) (U a.heap+2) (eZ sk c aj b (cY (I f) (aj++b.map bJ.col)) V (λd=>decide ((I d:Int)≠g)) 0 (I c) [] 0)->b8 z=[]->b8 z=[]/\∃v,(dx cR z.tmps).run (aM av) y=b6 v y/\HS a (eZ sk c aj b (cY (I f) (aj++b.map bJ.col)) V (λd=>decide ((I d:Int)≠g)) 0 (I c) [] 0) (aR v) y:=by
  intro z y a5 Q aI;have B:=a5.slot 10 _ Y;rw[O] at B;unfold Cc.cG at B;rw[jT] at B;rcases Q with⟨d,a6,j,b7,b4,w,E,J,R,b1,D,rfl⟩|⟨d,j,l,a4,m,i,a1,k,D,R,bP⟩;obtain⟨l,m,rfl⟩:=gG J.rows;obtain⟨i,k,rfl⟩:=gG J.nt;obtain⟨⟨W,X,ab,ad⟩,-⟩:=nX (KM (ah l (I w) m) (ah i (I E) k) (z9 0) (n9 j) J.m8);refine⟨aI,cw #[ah l (I w) m,ah i (I E) k,z9 0,n9 j],?_,VO (P.trans R) (aV _) (aV _),d,j,l,I w,m,i,I E,k,0,D,rfl,aq ⟨rfl,J.vo b1 aa⟩⟩;simp[dx,Tryz.results35,go_sem,B,W,X,ab,ad];obtain⟨⟨W,X,ab,ad⟩,-⟩:=nX bP;refine⟨aI,cw #[ah l a4 m,ah i a1 k,z9 3,n9 j],?_,P.trans R,d,j,l,a4,m,i,a1,k,3,D,rfl,an Y⟩;simp[dx,Tryz.results35,go_sem,B,W,X,ab,ad]
 refine fR ?_ (XM al (Cc.cG M) sk g f c aj b V n aY aG aL aC ar ap l9 a2 a3 x q aw bN bH t rb bY bE (U a.heap) (U a.heap+1) (U a.heap+2) am bi bj bl bm bo O aJ (C5 G.size (λs S=>G.slot s _ (Gh s S)) ((G.slot 12 _ Y).trans bk) (G.slot 13 _ Y)) be bu bv bR bO bI bZ b3 bx b0 aa);rintro A ao L (⟨rfl,⟨d,j,b7,b4,w,E,C,bD,b2,D⟩,u,N⟩|⟨rfl,Q,u,N⟩);rotate_left;exact a0 ao L u Q N;obtain⟨l,m,rfl⟩:=gG C.rows;obtain⟨i,k,rfl⟩:=gG C.nt;show gD _ _ _ ao _;rw[ki u.size N];refine fR ?_ (XB L (U a.heap) (U a.heap+1) m k l i ((u.slot 10 _ Y).trans O) ((u.slot 11 _ Y).trans aJ) C.box C.m8);rintro A ba cc ⟨rfl,rfl,ae,bh⟩;rw[(u.slot 10 _ Y)] at ae;exact a0 ba _ ae (aq ⟨d,L,j,_,_,w,E,C,bD,b2,D,rfl⟩) bh
end Ec
namespace Ec
open Go.RowKit Pk Pm
open Cc (lA rZ fu xh jq nC Ac eZ)
def _root_.Go.Proofs.YtjidbonhhpkljaaGreat.Cc.jq.below{b:List (List az)}(e:jq w n v b)(a:aD w u):jq u n v b:=by
 have⟨l,f,g,h⟩:=e;exact⟨l,eM f a,λj m i=>by have⟨k,c,d⟩:=g j m i;exact⟨k,c,eM d a⟩,h⟩
def _root_.Go.Proofs.YtjidbonhhpkljaaGreat.Cc.jq.ab7{b:List (List az)}(d:jq w n v b)(a:m<=n):jq w m v b:=by
 have⟨k,e,f,g⟩:=d;exact⟨k,wC e a,λi l h=>by have⟨j,c,n⟩:=f i l h;exact⟨j,c,wC n a⟩,g⟩
def Oo (b:ag)(a:List (List az)×Nat)(d:gL)(c:ag):Prop:=
 aD b c/\∃v,d=aR (cC #[v,n9 a.2])/\jq c (U b.heap) v a.1
def V1(s:ByteArray)(c:lA)(V:Nat->Nat->List az)(aj:List Int)(a:List bJ)(j:Option aN)(d bN bH:Nat)(l:Option aN)(rb bY bE:Nat)(sk:Bool)(h:ag)(ab:s.size<=aS)(hF:rZ s c)(r:xh c V)(x:I aj<=1000)(z:I a<=1000)
 (v:0<I aj->j=K ⟨d,bN,Z⟩) (n:0<I aj->d<U h.heap) (w:∀f,f<I aj->aJ h d (bN+f) (z9 (aX aj f 0))) (y:dy h l rb bY a):
 bn 10 #[au s,ah j (I aj) bH,ah l (I a) bE,ak sk] h (Oo h (nC c V aj a sk)):=by
 have B:=OO s c aj a j d bN bH l rb bY bE h ab hF x z v n w y
 skip
 go_enter aE.func10,Tryz.ntmps10;go_wp2_with fail;refine B.mono ?_;rintro F aH ⟨e,⟨ad,rfl⟩|⟨q,g,b,aL,ba,aY,aZ,aQ,rfl,rfl,al,R,Q⟩⟩
 .have C:=ap e;have i:X (nC c V aj a sk=([],fu c aj a)):=by
   show _=_;unfold nC;rw[if_neg ad]
  generalize fu c aj a=aI at*;go_wp2;go_ret2;exact⟨C.o,by rw[i.o];exact⟨_,rfl,Cc.jq.nil _ _⟩⟩
 have⟨a1,aM,M,t,T⟩:=Cc.Ia q;cases M;have k:=hF.1;have⟨ao,L,N,J,G,E,l9,ar,aw,H,ay,P⟩:=R3 (cb:=d) (bN:=bN) (rb:=rb) (bY:=bY) k.1 R Q v (λO=>cL (n O) e.size) (λf Y=>(bq e (p:=⟨d,bN+f,Z⟩) (n aa)).trans (w f Y)) (y.below e);have⟨aC,aD,aF,aG⟩:=XR k.1 t T r;have m:=WV aH sk (-1) g b aj a V ao L N J G E l9 ar aw j H bN bH l ay bY bE P (Cc.Jn k t x z r) (λD S=>(k.1.eV D S).lo) aC aD aF aG;have W:(λo:List Cc.dB=>decide ((I o:Int)≠ -1))=λ_=>af:=by
  funext o;simp
 rw[W] at m;have i:X (nC (K (g,b)) V aj a sk=if (eZ sk b aj a (cY (I g) (aj++a.map bJ.col)) V (λ_=>af) 0 (I b) [] 0).2.2=0 then((eZ sk b aj a (cY (I g) (aj++a.map bJ.col)) V (λ_=>af) 0 (I b) [] 0).1.map eu,0) else([],(eZ sk b aj a (cY (I g) (aj++a.map bJ.col)) V (λ_=>af) 0 (I b) [] 0).2.2)):=by
  show _=_;unfold nC;rw[if_pos q];rfl
 generalize eZ sk b aj a (cY (I g) (aj++a.map bJ.col)) V (λ_=>af) 0 (I b) [] 0=a8 at*;have A:=e.size;rw[al] at m ⊢;go_wp2_with fail;refine m.mono ?_;rintro F bb ⟨u,o,a3,a6,a9,a7,a2,a5,a4,aI,rfl,rfl,am⟩;have p:=ap (e.trans (u.mono A));have a0:=u.size;rcases am with⟨rfl,ae⟩|rfl
 skip
 skip
 go_wp2;go_ret2;refine⟨p.o.trans (nK (bU _ _) aa _),?_⟩;rw[i.o];exact⟨_,rfl,(ae.ab7 A).below (nK (bU _ _) (aV _) _)⟩;go_wp2_with fail;go_quiet (fail);go_wp2;go_ret2;refine⟨below_drewN (p.o.trans (nK (bU _ _) aa _)) nq,?_⟩;rw[i.o];exact⟨_,rfl,Cc.jq.nil _ _⟩
end Ec
namespace Ec
open Go.RowKit Pk Pm
open Cc (jq)
structure RO(W:ag)(lo hi:Nat)(v:F)(rows:List (List az))(vs:List F):Prop where
 own:aT W lo 43 1 v (I rows) vs
 each:∀(i:Nat) x,rows[i]? =K x->∃u,vs[i]? =K u/\aT W lo 59 3 u (I x) (bZ x)
 apart:∀(i j:Nat) u t g,vs[i]? =K u->vs[j]? =K t->bB u=K g->bB t=K g->i=j
 hi:∀g,bB v=K g\/(∃(j:Nat) (u:F),vs[j]? =K u/\bB u=K g)->lo<=g/\g<hi
def RO.of{c:List (List az)}(k:jq w n v c):∃d,RO w n (U w.heap) v c d:=by
 have⟨d,a,g,l⟩:=k;refine⟨d,a,g,l,λf b=>?_⟩;rcases b with b|⟨i,p,h,o⟩;exact a.lt f b;have m:i<I c:=by have:=(fq.1 h).1;have:=a.1;omega
 have⟨u2,e,j⟩:=g i _ (dH m);rw[h] at e;cases e;exact j.lt f o
def RO.ce{c:List (List az)}(a:RO w n m v c S)(b:Ce w u):RO u n m v c S:=
 ⟨b.own a.own,λg i f=>by have⟨h,d,e⟩:=a.each g i f;exact⟨h,d,b.own e⟩,a.apart,a.hi⟩
def RO.keep{h:List (List az)}(c:RO w n m v h S)(f:∀(a:Nat),bB v=K a\/(∃(l:Nat) (b:F),S[l]? =K b/\bB b=K a)->u.heap[a]? =w.heap[a]?):RO u n m v h S:=
 ⟨sF c.own λa j _ d=>f a (aq d),λg o k=>by have⟨b,e,i⟩:=c.each g o k;exact⟨b,e,sF i λa j _ d=>f a (an ⟨g,b,e,d⟩)⟩,c.apart,c.hi⟩
def RO.vo{b:List (List az)}(a:RO w n m v b S):jq w n v b:=⟨S,a.own,a.each,a.apart⟩
def LR{X:List (List az)}(e:xx w v X)(f:xx w x X)(b:I X<=aS)(c:∀j∈X,I j<=aS):bn 14 #[v,x] w λa d=>a=aR (ak af)/\∃i,d=cT w i:=by
 obtain⟨m,n,t,r,rfl,_,k⟩:=e;obtain⟨q,o,u,s,rfl,_,l⟩:=f;refine bL (YK b b c c k l) ?_;rintro a d ⟨p,rfl,g,h⟩;rw[g.2 Y];exact⟨rfl,h⟩
def El(a:ag)(c:Nat):Ce a (cT a c):=⟨λ_ _ _ _ b=>b,aV _⟩
def Uw{b c:List bJ}(a:(eP b)[n]? =K v):(eP (b++c))[n]? =K v:=by
 unfold eP at a ⊢;rw[oI,ru (fq.1 a).1];exact a
def O9:fM (cD w (ax #[aH,aH,aH,aH] 37)) n (U w.heap) aH aH [] [] (λ_=>0):=
 ⟨⟨kQ w _,iO _ _ _ _,λb a=>by simp at a⟩,iO _ _ _ _,λb a=>by simp at a⟩
def O8(a:jD n aH aH [] [] (λ_=>0) m):m=n:=by
 rcases a with a|a|a|⟨_,a,_⟩|⟨_,a,_⟩;exact a;cases a;cases a;simp at a;simp at a
def YX(b:ag)(v:Nat->F)(l:List (List az))(f:Nat)(aj:List Int)(e:List bJ)(bV a5:List F)(D:Nat)(r t:Nat)(ao:Option aN)(E bN bH:Nat)(a4:Option aN)(rb bY bE:Nat)
 (u:v 1=ah ao (I aj) bH) (w:v 2=ah a4 (I e) bE) (bj:xx b (v 9) l) (c4:v 10=n9 f) (c5:v 11=aI r (I aj+8) (I aj+8)) (c6:v 12=aI t (I e+8) (I e+8)) (c7:v 14=n9 f) (c9:v 16=n9 f)
 (bn:RO b n m (v 13) l bV) (bo:RO b m k (v 15) l a5) (dJ:f≠0->v 13=aH) (br:I l<=2000) (aQ:∀P∈l,I P<=1000)
 (dn:aT b D 3 1 (aI r (I aj+8) (I aj+8)) (I aj+8) (cW (aj++dh 8 (-77)))) (dL:aT b D 61 7 (aI t (I e+8) (I e+8)) (I e+8) (eP (ni e 8)))
 (dA:D<=n/\n<=m/\m<=k/\k<=U b.heap/\r<n/\t<n) (ej:I aj<=1000) (dO:I e<=1000)
 (dp:0<I aj->ao=K ⟨E,bN,Z⟩) (bs:0<I aj->E<D) (dq:∀d,d<I aj->aJ b E (bN+d) (z9 (aX aj d 0))) (dI:dy b a4 rb bY e) (dK:0<I e->rb<D):
 (Ad 8 eB).wp (aM av) (λc N b1=>c= .ret/\dw D b b1/\Cc.Knows N 122 [(8,ak af)]/\b8 N=[]) (kF v) b:=by
 have⟨dX,bR,ey,eC,dZ,d0⟩:=dA;have dR:Ad 8 eB=aU (sc 8 eB) (aU (sc 9 eB) (aU (sc 10 eB) (aU (sc 11 eB) (aU (sc 12 eB) (aU (sc 13 eB) (aU (sc 14 eB) (aU (sc 15 eB) (aU (sc 16 eB) (Ad 17 eB))))))))):=rfl;rw[dR];have bu:I l<=aS:=gy;have bv:∀P∈l,I P<=aS:=λP i=>by have:=aQ P i;unfold aS;omega
 refine gQ (fR ?_ (YV b v (LR bn.vo.Gt.1 bj bu bv)));rintro c b3 d7 ⟨rfl,⟨x,rfl⟩,J,ci⟩;show gD _ _ _ b3 _;rw[va J.size ci];refine gQ (fR ?_ (YW (LR (X:=l) (by rw[J.slot 15 _ Y];exact(bo.ce (El b x)).vo.Gt.1) (by rw[J.slot 9 _ Y];exact bj.below (below_drewN (bU _ _) x)) bu bv)));rintro c ba a7 ⟨rfl,⟨H,rfl⟩,R,cl⟩;have O:∀s∈[1,2,9,10,11,12,13,14,15,16],Cc.cG ba s=v s:=λs g=>by
  simp only[fT,jm,or_false] at g;rcases g with rfl|rfl|rfl|rfl|rfl|rfl|rfl|rfl|rfl|rfl<;>exact(R.slot _ _ rfl).trans (J.slot _ _ rfl)
 have da:dw n b (cT (cT b x) H):=below_drewN (below_drewN (bU _ _) x) H;have dc:Ce b (cT (cT b x) H):=(El b x).trans (El _ H);have et:(cT (cT b x) H).heap.size=U b.heap:=rfl;generalize cT (cT b x) H=a7 at*;show gD _ _ _ ba _;rw[va R.size cl];refine gQ (fR ?_ (YN a7 f ((R.slot 17 _ Y).trans (J.slot 17 _ Y)) (R.slot 18 _ Y) ((O 14 ay).trans c7) ((O 16 ay).trans c9) ((O 10 ay).trans c4) (λi=>(O 13 ay).trans (dJ i))));rintro c bb L ⟨rfl,rfl,a6,cn⟩;have cy:∀s∈[1,2,11,12,13,15],Cc.cG bb s=v s:=λs g=>by
  have:s∈[1,2,9,10,11,12,13,14,15,16]:=by
   simp only[fT,jm,or_false] at g ⊢;omega
  refine aB ?_ (O s this);simp only[fT,jm,or_false] at g;rcases g with rfl|rfl|rfl|rfl|rfl|rfl<;>exact a6.slot _ _ rfl
 show gD _ _ _ bb _;rw[va a6.size cn];refine gQ (fR ?_ (YO L));rintro c b4 M ⟨rfl,aL,ad,co⟩;have Q:∀{V N:bK} {bP:List (Nat×F)},(∀s∈[1,2,11,12,13,15],Cc.cG V s=v s)->Cc.Knows N 122 bP->(∀s∈[1,2,11,12,13,15],bP.lookup s=K (Cc.cG V s))->∀s∈[1,2,11,12,13,15],Cc.cG N s=v s:=λi bZ du s g=>(bZ.slot s _ (du s g)).trans (i s g);have ab:∀(p:F) (o:Nat) (a:Nat->F),17<=o->∀s∈[1,2,11,12,13,15],((o,p)::wN a).lookup s=K (a s):=λp o a em s g=>by
  simp only[fT,jm,or_false] at g;have:(s==o)=ai:=bO;rw[y3,this];rcases g with rfl|rfl|rfl|rfl|rfl|rfl<;>rfl
 have bc:=Q cy ad (ab _ 19 _ aa);have bm:fM M n (U L.heap) aH aH [] [] (λ_=>0):=b5 aL O9;have db:dw n b M:=b5 aL (nK da aa _);have bl:Ce b M:=dc.trans (by rw[aL];exact PD (nK (bU _ _) (aV _) _));have eq:=uO (bC bm.vk.blk);have bd:=ad.slot 19 _ Y;have G:=bn.ce bl;have aE:=bo.ce bl;show gD _ _ _ b4 _;rw[va ad.size co];refine gQ (fR ?_ (YP M (by
  rw[bd,bc 13 ay];exact Kt (U L.heap) n (v 13) l bV [] [] _ (λA=>bB (v 15)=K A\/∃(d:Nat) (y:F),a5[d]? =K y/\bB y=K A) M br aQ aF aF bm aa G.own G.each G.apart (λa j z=>by
   have:=O8 z;have u:=G.hi a;have w:=aE.hi a;rcases j with j|j|j;have:=u (aq j);omega;have:=u (an j);omega;have:=w j;omega) (λA a2=>by
   have w:=aE.hi A a2;exact⟨aa,λc=>cB (G.hi A (aq c)),λd y q c=>cB (G.hi A (an ⟨d,y,q,c⟩))⟩) (λc aZ=>by simp at aZ) (λc aZ=>by simp at aZ))))
 rintro c b7 a8 ⟨rfl,⟨⟨ew,eI,cY,c0,d1,dd,dv,dt,dB,dE,bF⟩,dg⟩,ae,cp⟩;have be:=Q bc ae (ab _ 19 _ aa);have bh:=(ae.slot 19 _ Y).trans bd;have aG:=aE.keep λa j=>(bF a j).1;simp only[List.length_nil,e7] at dv dt;show gD _ _ _ b7 _;rw[va ae.size cp];refine gQ (fR ?_ (YQ a8 (by
  rw[bh,be 15 ay];exact Kt (U L.heap) n (v 15) l a5 cY c0 d1 (λ_=>False) a8 br aQ aa aa dd aa (wC aG.own bR) (λo p dS=>by have⟨y,V,cf⟩:=aG.each o p dS;exact⟨y,V,wC cf bR⟩) aG.apart (λa j=>(bF a (j.imp id λi=>i.resolve_right id)).2) (λA a2=>fe a2) dB dE)))
 rintro c ca a9 ⟨rfl,⟨⟨dT,d4,cZ,c1,d2,df,eo,el,dC,dF,-⟩,dk⟩,al,cs⟩;have cA:=Q be al (ab _ 19 _ aa);show gD _ _ _ ca _;rw[va al.size cs];refine gQ (fR ?_ (YR a9 (by
  rw[((al.slot 19 _ Y).trans bh)];exact XX (U L.heap) n dT d4 cZ c1 d2 a9 aa aa df dC (λf ds=>cB (dF f ds)))))
 rintro c cb B ⟨rfl,dl,am,cu⟩;have ap:=Q cA am (ab _ 20 _ aa);have cJ:=am.slot 20 _ Y;have bk:=(db.trans dg).trans dk;have er:=bk.size;have W:dw n b B:=bk.trans (dl.mono (by omega));have es:=W.size;have⟨eh,eb,cQ,_,_,cg⟩:=Cc.k5 dn aa;have⟨ei,ec,cV,_,_,d3⟩:=Cc.k5 dL aa;cases cQ;cases cV;have aY:I (aj++dh 8 (-77:Int))=I aj+8:=aF;show gD _ _ _ cb _;rw[va am.size cu];refine gQ (fR ?_ (YS B (λp h=>∃a,p=aI a (I aj+8) (I aj+8)/\aT h (U B.heap) 3 1 (aI a (I aj+8) (I aj+8)) (I aj+8) (cW (aj++dh 8 (-77)))/\aD B h) (λh=>aD B h) (by
  rw[ap 1 ay,u];exact(JR aj ao E bN bH B aa dp (λi=>cB (bs i)) (λd q=>(bq W (p:=⟨E,bN+d,Z⟩) (by have:=bs aa;show E<n;omega)).trans (dq d q))).mono λc d5 ⟨a,u,w,aC⟩=>⟨_,u,a,rfl,w,aC⟩) (by
  rintro p h ⟨a,rfl,a0,z⟩;rw[ap 11 ay,c5];have⟨c2,ch,ar,_,_,aw⟩:=Cc.k5 a0 aa;cases ar;have bI:∀d,d<I (aj++dh 8 (-77:Int))->(cW (aj++dh 8 (-77)))[d]? =K (z9 (aX (aj++dh 8 (-77:Int)) d 0)):=λd q=>by
   simp only[cW,sb,dH q,ep,pJ,s9]
  have:=YI (aj++dh 8 (-77)) (aj++dh 8 (-77)) (K ⟨r,0,Z⟩) (K ⟨a,0,Z⟩) r 0 (I aj+8) a 0 (I aj+8) h (by rw[aY];unfold aS;omega) (by rw[aY];unfold aS;omega) (λ_=>rfl) (λd q=>by
   rw[e7];exact(bq z (p:=⟨r,d,Z⟩) (by show r<_;omega)).trans ((bq W (p:=⟨r,d,Z⟩) dZ).trans (cg _ _ (bI d q)))) (λ_=>rfl) (λd q=>by rw[e7];exact aw _ _ (bI d q))
  rw[aY] at this;refine this.mono ?_;rintro c d6 ⟨rfl,a3,rfl⟩;exact⟨aF,below_drewN z a3⟩)))
 rintro c cc C ⟨rfl,dm,S,cv⟩;have bi:=Q ap S (λs g=>by
  simp only[fT,jm,or_false] at g;rcases g with rfl|rfl|rfl|rfl|rfl|rfl<;>rfl)
 have cM:=(S.slot 20 _ Y).trans cJ;have cP:=S.slot 21 _ Y;have X:dw n b C:=W.trans (dm.mono aa);have dP:=X.size;show gD _ _ _ cc _;rw[va S.size cv];have bx:=E9 e 8 aa;refine gQ (fR ?_ (YT C (λp h=>∃a,p=aI a (I e+8) (I e+8)/\aT h (U C.heap) 61 7 (aI a (I e+8) (I e+8)) (I e+8) (eP (ni e 8))/\aD C h) (λh=>aD C h) (by
  rw[bi 2 ay,w];exact(JS e a4 rb bY bE C dO (dI.kept dP λi=>cS X rb (cB (dK i)))).mono λc d5 ⟨a,u,w,aC⟩=>⟨_,u,a,rfl,w,aC⟩) (by
  rintro p h ⟨a,rfl,a0,z⟩;rw[bi 12 ay,c6];have⟨c2,ch,ar,_,c3,aw⟩:=Cc.k5 a0 aa;cases ar;have:=YJ (ni e 8) (K ⟨t,0,Z⟩) (K ⟨a,0,Z⟩) t 0 (I e+8) a 0 (I e+8) h (by rw[bx];unfold aS;omega) (dy.A3 aa λo y a1=>by rw[e7];exact(bq z (p:=⟨t,o,Z⟩) (by show t<_;omega)).trans ((bq X (p:=⟨t,o,Z⟩) d0).trans (d3 _ _ a1))) (dy.A3 c3 λo y a1=>by rw[e7];exact aw _ _ a1);rw[bx] at this;refine this.mono ?_;rintro c d6 ⟨rfl,a3,rfl⟩;exact⟨rfl,below_drewN z a3⟩)))
 rintro c cd b2 ⟨rfl,bD,T,cx⟩;show gD _ _ _ cd _;rw[va T.size cx];refine fR ?_ (YU b2 ((T.slot 20 _ Y).trans cM) ((T.slot 21 _ Y).trans cP) (T.slot 22 _ Y));rintro c d9 d8 ⟨rfl,rfl,b0,ck⟩;exact⟨rfl,(X.trans (bD.mono aa)).mono dX,b0,ck⟩
end Ec
namespace Cc
open Go Go.Conc
open Go.RowKit (Below)
open Ec
def Kk{g e:aK}{d q a n r:Nat}(l:Qr.op= .slice g Qp Z (K Qq) Z)(hx:bz qS Qp=aI d q a)(hy:bz qS Qq=n9 n)(p:gb Qn g=K (.slice e))(o:∀w,(sizeOf e).run Qn w=b6 r w)(f:n<=a):
 ∀c,(bT (bz qS) Qr).run Qn c=b6 (eT (aI d n a)) c/\(bT (bz qS) Qr).events Qn c #[]=#[]:=λc=>by
 have i:(n:Int)<=(a:Int):=aa;unfold bT;simp[l,hx,hy,Instr.sliceAt,Instr.slice,Instr.sliceBounds,Instr.sliceBound,asIntOf,run_underlying p,i,o,Addr.add_mid];exact⟨λh=>absurd h aa,by rw[if_pos f,if_pos f]⟩
def mU (a:cO)(j:Nat):Array Oper:=match sc (6+j) a with
 |gu _ c _=>c
 |_=> #[]
def yt (j:Nat)(s:ByteArray)(E A B T:F)(gc n S gr m C:Nat)(sk:Bool):List (Nat×F):=[(40+14*j,au s),(41+14*j,E),(42+14*j,A),(43+14*j,n9 n),(44+14*j,aI gc n S),(45+14*j,B),(46+14*j,T),(47+14*j,n9 m),(48+14*j,aI gr m C),(49+14*j,ak sk)]
def yu (j:Nat)(Q:F)(e:Nat):List (Nat×F):=[(50+14*j,cC #[Q,n9 e]),(39+14*j,cC #[Q,n9 e]),(51+14*j,Q),(52+14*j,n9 e),(13+2*j,Q)]
def LW (j:Nat):List Nat:=[40+14*j,41+14*j,42+14*j,43+14*j,44+14*j,45+14*j,46+14*j,47+14*j,48+14*j,49+14*j]
def LX (j:Nat):List Nat:=[50+14*j,39+14*j,51+14*j,52+14*j,13+2*j]
def GG{j:Nat}(f:j=0\/j=1):nS (mU eB j) (λa=>decide (a<10)) 10 122 (LW j)=af/\nS (mU eB j) (λa=>decide (a<15)) 15 122 (LX j++LW j)=af/\
 (dM (eH (U (mU eB j))) λa=> !(λa=>decide (a<10)) a||match kY (mU eB j) a with|some d=> !(iP (LX j)) d|none=>af)=af/\
 (dM (eH (U (mU eB j))) λa=> !(λa=>decide (a<=10)) a||a==10||iP (under (mU eB j) 6 (match (mU eB j)[10]? with
 |some c=>(c.after.toList.filter λe=>iN ed e).map (·.on)
 |none=>[])) a)=af/\
 (dM (eH (U (mU eB j))) λa=> !(λa=>decide (a<=15)) a||a==15||iP (under (mU eB j) 6 (match (mU eB j)[15]? with
 |some c=>(c.after.toList.filter λe=>iN ed e).map (·.on)
 |none=>[])) a)=af/\ug (aM av) (bW (mU eB j) [])=af/\U (mU eB j)=16:=by
 rcases f with rfl|rfl;exact⟨bl,bl,bl,bl,bl,bl,bl⟩;exact⟨bl,bl,bl,bl,bl,bl,bl⟩
section
variable {J:F->ag->Prop}{b:Frame}{O:bK}{k:List Item}{w:ag}{H:List (Nat×F)}{j:Nat}{s:ByteArray}{E A B T Q:F}{gc n S gr m C e:Nat}{sk:Bool}
def Zc(l:j=0\/j=1)(F:eD b=eA)(o:Knows O 122 H)
 (h:gq (mU eB j) (λc=>decide (c<15)) O (fill O (yu j Q e++yt j s E A B T gc n S gr m C sk)) q7 qS) (u:∀c,(λc=>decide (c<=10)) c=af->Array.getD q7 c ai=af) (z:mZ q7<=i)
 (I:∀p,Knows p 122 ((14+2*j,n9 e)::(yu j Q e++yt j s E A B T gc n S gr m C sk++H))->b8 p=b8 O->Xe (aM av) av J (gM w) (b.at p k) [] w):
 Xe (aM av) av J (gM w) (b.at qS (bW (mU eB j) (kO ed (mU eB j) i a q7 [])::k)) [] w:=by
 have r:=mM (aM av) av J;have⟨P,x,R,V,G,W,q⟩:=GG l;have y:eD b≠.early:=by rw[F];decide
 refine sr (Dn:=λc=>decide (c<=10)) (u:=15) r y o x ?_ ?_ ?_ i a q7 qS h u z
 .intro d c g N u _ f;have U:c<15:=by simpa using N
  have X:¬c<=10:=by simpa using u
  have:c=11\/c=12\/c=13\/c=14:=by omega
  rcases l with rfl|rfl
  all_goals
   rcases this with rfl|rfl|rfl|rfl;cases(show K _=K g from f);exact⟨_,rfl,aq ⟨rfl,dX (gz Y (d.of Y))⟩⟩;cases(show K _=K g from f);exact⟨_,rfl,aq ⟨rfl,dX (wA Y (d.of Y) Y)⟩⟩;cases(show K _=K g from f);exact⟨_,rfl,aq ⟨rfl,dX (wA Y (d.of Y) Y)⟩⟩;cases(show K _=K g from f);exact⟨_,rfl,aq ⟨rfl,dX (wz Y (d.of Y))⟩⟩
 .intro g f i a q7 qS h D z Z _;have t:=tC (Dn:=λc=>decide (c<=15)) h D G (λc v=>by
   have:c<=15:=by simpa using v
   rw[q];omega)
  have⟨L,M⟩:=zM h D Y o.size x (λc v=>t c (by
   rw[q] at v;simp;omega))
  rw[M];subst L;have d:=o.fill (yu j Q e++yt j s E A B T gc n S gr m C sk) (by rcases l with rfl|rfl<;>rfl);rcases l with rfl|rfl
  all_goals
   exact g4 r d (λd=>(cQ r (I _ d (by rw[put_defers,rH])))) (hbk:=y)
 intro t;exact absurd (t 15 (by rw[q];decide)) (by decide)
def Zd{l:List Nat}(d:j=0\/j=1)(a:eD b=eA)(c:b8 qS=[])(f:(dM k (ug (aM av)))=af):fh (aM av) (b.at qS (bW (mU eB j) l::k)) []:=
 oA a c (by rw[List.all_cons,f,Bool.and_true];exact(GG d).2.2.2.2.2.1)
def LY{res:List (List az)×Nat}(i:j=0\/j=1)(q:eD b=eA)(aZ:(dM k (ug (aM av)))=af)(p:Knows O 122 H)(o:b8 O=[])(Z:H.lookup 0=K (au s))(ad:H.lookup 1=K (ah P n bH))(al:H.lookup 2=K (ah QC m bE))(am:H.lookup 3=K (ak sk))(ae:H.lookup 11=K (aI gc (n+8) (n+8)))(aj:H.lookup 12=K (aI gr (m+8) (m+8)))
 (aC:∀g,RelB (gM w) w g->sU (aM av) av J 13 #[au s,aI gc n (n+8),aI gr m (m+8),ak sk] g (BJ res g))
 (aQ:∀l g h Q,Knows l 122 ((14+2*j,n9 res.2)::(yu j Q res.2++yt j s (aI gc (n+8) (n+8)) (ah P n bH) (aI gr (m+8) (m+8)) (ah QC m bE) gc n (n+8) gr m (m+8) sk++H))->b8 l=[]->RelB (gM w) w g->U g.heap<=U h.heap->jq h (U g.heap) Q res.1->(res.2≠0->Q=aH)->RelB (gM w) w h->Xe (aM av) av J (gM h) (b.at l k) [] h) {id:Nat}:
 Xe (aM av) av J (gM w) (b.at O (b9 (gu id (mU eB j) af)::k)) [] w:=by
 have L:=mM (aM av) av J;have⟨D,ba,W,ab,bb,bc,G⟩:=GG i;have aw:eD b≠.early:=by rw[q];decide
 refine xI (Ph:=λa=>decide (a<10)) (l:=yt j s (aI gc (n+8) (n+8)) (ah P n bH) (aI gr (m+8) (m+8)) (ah QC m bE) gc n (n+8) gr m (m+8) sk) L yC (sr (u:=10) L aw p D ?_ ?_ ?_)
 .intro c a f a3 _ _ d;have I:a<10:=cM a3;have:a=0\/a=1\/a=2\/a=3\/a=4\/a=5\/a=6\/a=7\/a=8\/a=9:=aa;rcases i with rfl|rfl
  all_goals
   rcases this with rfl|rfl|rfl|rfl|rfl|rfl|rfl|rfl|rfl|rfl;cases(show K _=K f from d);exact⟨_,rfl,aq ⟨rfl,dX (gz Y (c.of Z))⟩⟩;cases(show K _=K f from d);exact⟨_,rfl,aq ⟨rfl,dX (gz Y (c.of ae))⟩⟩;cases(show K _=K f from d);exact⟨_,rfl,aq ⟨rfl,dX (gz Y (c.of ad))⟩⟩;cases(show K _=K f from d);exact⟨_,rfl,aq ⟨rfl,dX (vg Y (c.of Y) yT)⟩⟩;cases(show K _=K f from d);exact⟨_,rfl,aq ⟨rfl,dX (Kk Y (c.of Y) (c.of Y) yT Tryz.sizeOf3 aa)⟩⟩;cases(show K _=K f from d);exact⟨_,rfl,aq ⟨rfl,dX (gz Y (c.of aj))⟩⟩;cases(show K _=K f from d);exact⟨_,rfl,aq ⟨rfl,dX (gz Y (c.of al))⟩⟩;cases(show K _=K f from d);exact⟨_,rfl,aq ⟨rfl,dX (vg Y (c.of Y) Tryz.underlying23)⟩⟩;cases(show K _=K f from d);exact⟨_,rfl,aq ⟨rfl,dX (Kk Y (c.of Y) (c.of Y) Tryz.underlying23 Tryz.sizeOf61 aa)⟩⟩;cases(show K _=K f from d);exact⟨_,rfl,aq ⟨rfl,dX (gz Y (c.of am))⟩⟩
 .intro f d F a8 y z r x bh t _;have c:=p.fill (yt j s (aI gc (n+8) (n+8)) (ah P n bH) (aI gr (m+8) (m+8)) (ah QC m bE) gc n (n+8) gr m (m+8) sk) (by rcases i with rfl|rfl<;>rfl);have aE:=tC (Dn:=λa=>decide (a<=10)) r x ab (λa u=>by
   have:a<=10:=cM u;rw[G];omega)
  have ar:b8 z=[]:=by rw[r.xO,rH];exact o
  have a6:=Zd (l:=10::kO ed (mU eB j) F a8 (cF y 10 af) []) i q ar aZ;have aJ:∀Q,f.dst=K (50+14*j)->gq (mU eB j) (λa=>decide (a<15)) O (fill O (yu j Q res.2++yt j s (aI gc (n+8) (n+8)) (ah P n bH) (aI gr (m+8) (m+8)) (ah QC m bE) gc n (n+8) gr m (m+8) sk)) (cF y 10 af) (bG z f.dst (cC #[Q,n9 res.2])):=λQ aG=>r.AR (l2:=yu j Q res.2) (rD:=λa=>decide (a<15)) (n:=122) (v:=cC #[Q,n9 res.2]) x d p.size D (by rcases i with rfl|rfl<;>rfl) (λa u=>by
   have:a<10:=cM u;simp;omega) Y W (λbe o=>by rw[aG] at o;cases o;simp[yu])
  have a7:mZ (cF y 10 af)<=F:=by
   have⟨_,_,aL,a0,_⟩:=mem_ready x;have:=yy (b5 r.size aL) a0;omega
  rcases i with rfl|rfl
  all_goals
   cases(show K _=K f from d);refine As (vs:= #[au s,aI gc n (n+8),aI gr m (m+8),ak sk]) (R:=λg e h=>BJ res g e h) q d Y Y (D3 (aB (t _ ay) (c.of Y)) (aB (t _ ay) (c.of Y)) (aB (t _ ay) (c.of Y)) (aB (t _ ay) (c.of Y))) Tryz.func13 aby Y a6 aC (λg v R M ao a5 a4=>?_) (λa9 bd h ⟨_,e,_⟩=>cV e) (λa9 h ⟨_,e,_⟩=>cV e);have⟨Q,e,a2,a1,aY,N⟩:=ao;have X:=HE e;subst X;exact Xe.go (own:=gM R) (Zc aF q p (aJ Q Y) aE a7 λl V aD=>aQ l g R Q V (aB aD o) M N a2 a1 (Xm M aY N a5)) (λb I=>I) a4
 intro ap;exact absurd (ap 10 (by rw[G];decide)) ay
end
end Cc
namespace Cc
open Go Go.Conc
open Go.RowKit
open Ec Pk
section
variable {O P:Program}{Post:F->ag->Prop}{S:List Frame}{w:ag}{b:Frame}{a:bK}{k:List Item}
def aa5(q:Twins O P)(X:n0<=U w.heap)(y:Knows a n q4)(R:b8 a=[])(p:de)(m:bK->Prop)(T:∀s,b9 (.refuse s)∉k)(aa:fh O (b.at a (b9 p::k)) [])
 (W:∀v c,(∀s E,q4.lookup s=K E->v s=E)->(∀(b:Nat) j,w.heap[b]? =K j->dm O j->c.heap[b]? =K j)->U w.heap<=U c.heap->p.wp O (λh d o=>h= .ret/\dw n0 c o/\m d) ⟨cX ((eH n).map v),[]⟩ c)
 (M:∀d f u,m d->RelB (λb=>b<n0) w f->Xe O P Post (gM f) {b.at d u with mode:=jA} S f):Xe O P Post (gM w) (b.at a (b9 p::k)) S w:=by
 intro ao aj g Y;refine US q (Q:=λws h d o=>h= .ret/\∃c,gP c=gP ws/\dw n0 c o/\m d) (λws i x=>?_) T (λws id a w e=>by cases e.1) (λws q4 a w e=>by cases e.1) (λws a w e=>by cases e.1) (λws h d al f x am i e l t=>?_) aa Y;intro G ae I;have B:=W (cG a) (sh x 0 ws) y.slot (λb j C N=>i.at_ b j (aB (g.at_ b (Array.getElem?_eq_some_iff.1 C).1) C) N) (by show U w.heap<=U ws.heap;rw[<-i.un.size];exact g.size);rw[<-Rq y.size R] at B;have⟨h,d,f,⟨r,l,L⟩,Q⟩:=B G ae I;exact⟨h,d,f,⟨r,sh x 0 ws,rfl,l,L⟩,Q⟩;obtain⟨rfl,c,A,z,e⟩:=e;have ab:U c.heap<=U f.heap:=by rw[l.un.size];exact z.size
 have ad:U c.heap=U aj.heap:=by rw[A,i.un.size]
 have hrel:RelB (λb=>b<n0) w f:=⟨λb D=>by
  have r:al.heap[b]? =c.heap[b]? :=cS z b D;exact aB (l.same i.un (by rw[r,A])) (g.at_ b (cL D X)),dj g.size (by rw[<-ad];exact ab),aB t.tape g.tape,aB t.os g.os,aB t.output g.output⟩
 intro u _ Z;exact Xe.go (M d f u e hrel) (λb q=>q) Z
end
section
variable {sk:Bool}{bs:List Bd}{aj:List Int}{rs:List bJ}{ws:List Bool}{V:Nat->Nat->List az}
theorem Gq{k4:Nat->Bool}{f:Nat->List az}{first:Nat}:∀(n d:Nat) (e:dB),e∈je k4 f first d n->∃g,e.2=f g
 |0,d,e,c=>by simp[je] at c
 |n+1,d,e,c=>by
  simp only[je] at c
  split at c
  rcases fT.1 c with c|c;exact⟨d,by rw[c]⟩;exact Gq n (d+1) e c;exact Gq n (d+1) e c
theorem Gw:∀(r c:Nat) (pre:List dB) (d:Nat),c+r=I bs->I pre<=jP bs c->(∀g∈pre,I g.2=I aj)->(eZ sk bs aj rs ws V (λ_=>af) c r pre d).1.length<=jP bs (I bs)/\∀g∈(eZ sk bs aj rs ws V (λ_=>af) c r pre d).1,I g.2=I aj
 |0,c,pre,d,j,i,f=>by
  obtain rfl:c=I bs:=by omega
  exact⟨i,f⟩
 |r+1,c,pre,d,j,i,f=>by
  have l:c<I bs:=by omega
  have h:bs[c]? =K bs[c]:=dH l;have n:=Ca h;have o:jP bs (c+1)<=jP bs (I bs):=by
   have:=AQ bs (c+1);unfold jP at this ⊢;rw[iZ];exact this
  rw[Yr]
  split
  exact Gw r (c+1) pre d (by omega) (by omega) f
  split
  refine Gw r (c+1) _ (d+1) (by omega) ?_ λg e=>?_;have:I (j4 bs aj rs V c)<=bs[c].rows:=by
   unfold j4;rw[Br h];exact Da _ _ _ _ _
  simp;omega
  .rcases eG.1 e with e|e
   .exact f g e
   .have⟨p,m⟩:=Gq _ _ _ e;rw[m];simp
  exact⟨by show I pre<=_;omega,f⟩
def Y1{s:ByteArray}{e:lA}(hF:rZ s e):(nC e V aj rs sk).1.length<=2000/\∀d∈(nC e V aj rs sk).1,I d=I aj:=by
 unfold nC
 split
 split
 match e,hF with
 |none,_=>exact⟨cE _,λd c=>by simp[Ac] at c⟩
 |some (j,bs),hF=>
  have⟨l,g⟩:=Gw (sk:=sk) (bs:=bs) (aj:=aj) (rs:=rs) (ws:=cY (I j) (aj++rs.map bJ.col)) (V:=V) (I bs) 0 [] 0 (by omega) (cE _) (λf c=>by simp at c);have m:=AQ bs (I bs);have h:=hF.1.1.rows;unfold Ec.gK at h;refine⟨?_,λd c=>?_⟩;show I (List.map eu (eZ _ _ _ _ _ _ _ _ _ _ _).1)<=_;rw[ee];omega;obtain⟨f,i,rfl⟩:=kA.1 c;exact g f i
 exact⟨cE _,λd c=>by simp at c⟩;exact⟨cE _,λd c=>by simp at c⟩
end
def abt:(Tryz.f10.name == "runtime.NumGoroutine")=ai:=bl
def abm:(Tryz.f11.name == "runtime.NumGoroutine")=ai:=bl
def abn:(Tryz.f12.name == "runtime.NumGoroutine")=ai:=bl
def _root_.Go.Proofs.YtjidbonhhpkljaaGreat.Ec.RO.up{f:List (List az)}(c:RO u n m v f qM)(g:m<=i):RO u n i v f qM:=⟨c.own,c.each,c.apart,λd e=>⟨(c.hi d e).1,cL (c.hi d e).2 g⟩⟩
def _root_.Go.Proofs.YtjidbonhhpkljaaGreat.Ec.Ce.vo{w c:ag}(d:Ce w c){e:List (List az)}(f:jq w n v e):jq c n v e:=by
 have⟨o,g,h,i⟩:=f;exact⟨o,d.own g,λl p j=>by have⟨m,a,b⟩:=h l p j;exact⟨m,a,d.own b⟩,i⟩
section
variable {Post:F->ag->Prop}{s:ByteArray}{aj:List Int}{rs:List bJ}{J:Option aN}{cb bN bH:Nat}{H:Option aN}{rb bY bE:Nat}{sk:Bool}{w0:ag}
def Y9(ar:s.size<=aS)(bo:I aj<=aS)(bm:I aj<=bH)(b3:I rs<=aS)(b2:I rs<=bE)
 (a1:0<I aj->J=K ⟨cb,bN,Z⟩) (bn:0<I aj->cb<U w0.heap) (bk:∀f,f<I aj->aJ w0 cb (bN+f) (z9 (aX aj f 0))) (W:dy w0 H rb bY rs) (bP:kS (aM av) w0)
 (bR:∀aF,RelB (gM w0) w0 aF->Post (ak af) aF):
 jo (aM av) av Post (Conc.G (Frame.enter av 3 #[au s,ah J (I aj) bH,ah H (I rs) bE,ak sk] eA) []) w0:=by
 have d:=mM (aM av) av Post;refine Xe.go (own:=gM w0) ?_ (λb j=>j) bP;rw[enter_at _ Tryz.func3 Y];have c:=E7 (au s) (ah J (I aj) bH) (ah H (I rs) bE) (ak sk) 122 ay;have⟨G,hF⟩:=So s w0 ar;have⟨V,a0⟩:=Tn w0 hF;have cc:I (aj.take 16)=min (I aj) 16:=jG m7;have cd:I (rs.take 16)=min (I rs) 16:=jG m7;refine cA d (dg d [0] Y ?_);refine mL d c (ak ai) λc=>?_;refine cQ d (cA d (dg d [0,1,2] Y (dK d c λc=>vz (vs:= #[ah J (I aj) bH]) (R:=λe v l=>∃x,v=ah J (I (aj.take 16)) x) mh Y Y Y Y (vY (c.of Y)) Tryz.func8 abh Y (bA (ov Y Y Y)) (oA Y (by simp only[put_defers]) bl) (λe n o=>bL (Sn J (I aj) bH e bo bm λj=>⟨_,_,a1 j⟩) λQ l ⟨⟨x,_,r⟩,p⟩=>⟨b5 p (bU _ _),_,r,x,by rw[cc]⟩) λv e l aF n o ad i B bZ=>?_)));obtain⟨A,rfl⟩:=i;replace c:=c.put (d:=24) ay (ah J (I (aj.take 16)) A);refine g4 d c λc=>?_;refine cQ d (cA d (dg d [0,1,2] Y (dK d c λc=>vz (vs:= #[ah H (I rs) bE]) (R:=λe v l=>∃x,v=ah H (I (rs.take 16)) x) mh Y Y Y Y (vY (c.of Y)) Tryz.func9 abi Y (bA (ov Y Y Y)) (oA Y (by simp only[put_defers]) bl) (λe n o=>bL (Sl H (I rs) bE e b3 b2 λj=>⟨_,_,W.addr j⟩) λQ l ⟨⟨x,_,r⟩,p⟩=>⟨b5 p (bU _ _),_,r,x,by rw[cd]⟩) λv cJ cP df c3 c6 c2 i c4 b0=>?_)));obtain⟨E,rfl⟩:=i;replace c:=c.put (d:=26) ay (ah H (I (rs.take 16)) E);refine g4 d c λc=>cQ d ?_;have a4:=wK bZ b0;have R:∀f,f<I (aj.take 16)->f<I aj:=λf m=>by simp at m;omega
 have ao:∀f,f<I (aj.take 16)->aA w0 ⟨cb,bN+f,Z⟩=K (z9 (aX (aj.take 16) f 0)):=λf m=>by
  rw[bk f (R f m)];have r:=R f m;have p:f<16:=by simp at m;omega
  simp[ep,ry,p]
 have am:0<I (aj.take 16)->J=K ⟨cb,bN,Z⟩:=λj=>a1 (R 0 j);have ap:0<I (aj.take 16)->cb<U w0.heap:=λj=>bn (R 0 j);have T:=dy.take W 16;generalize aj.take 16=g at*;generalize rs.take 16=h at*;have⟨bi,bj⟩:=Y1 (V:=V) (aj:=g) (rs:=h) (sk:=sk) hF;refine cA d (dg d [0,1,2,3,4,5,6,7,8,9] Y ?_);refine dK d c λc=>?_;refine dK d c λc=>?_;refine dK d c λc=>?_;refine dK d c λc=>vz (vs:= #[au s,ah J (I g) A,ah H (I h) E,ak sk]) (R:=λe v l=>∃ab,v=cC #[ab,n9 ((nC G V g h sk).2)]/\jq l (U e.heap) ab (nC G V g h sk).1) mh Y Y Y Y (D3 (c.of Y) (c.of Y) (c.of Y) (c.of Y)) Tryz.func10 abt Y (bA (ov Y Y Y)) (oA Y (by simp only[put_defers]) bl) (λe n o=>?_) λv e l dk n o ad i B b1=>?_;have q:Ce w0 e:=(su a4).trans (BX n o);exact bL (V1 s G V g h J cb bN A H rb bY E sk e ar hF a0 aa aa am (λj=>cL (ap j) q.2) (λf m=>q.cell (ao f m)) (q.Cu T)) λQ l ⟨r,ab,p,L⟩=>⟨r,_,p,ab,rfl,L⟩;obtain⟨cG,rfl,ck⟩:=i;have cl:=(Em B).vo ck;have az:=wK a4 b1;replace c:=c.put (d:=32) ay (cC #[cG,n9 ((nC G V g h sk).2)]);generalize ca:nC G V g h sk=N at*;refine dK d c λc=>?_;refine tj d c λc=>?_;refine tj d c λc=>?_;refine g4 d c λc=>?_;refine g4 d c λc=>?_;refine cQ d (cA d (dg d [0,1,2] Y (dK d c λc=>vz (vs:= #[ah J (I g) A]) (R:=λe v l=>∃t,v=aI t (I g+8) (I g+8)/\aT l (U e.heap) 3 1 (aI t (I g+8) (I g+8)) (I g+8) (cW (g++dh 8 (-77)))) mh Y Y Y Y (vY (c.of Y)) Tryz.func11 abm Y (bA (ov Y Y Y)) (oA Y (by simp only[put_defers]) bl) (λe n o=>?_) λv e l dl n b4 ad i B a6=>?_)));have q:Ce w0 e:=(su az).trans (BX n o);exact bL (JR g J cb bN A e aa am (λj=>cL (ap j) q.2) (λf m=>q.cell (ao f m))) λQ l ⟨t,r,p,L⟩=>⟨L,_,r,t,rfl,p⟩;obtain⟨y,rfl,bF⟩:=i;have a2:=wC ((Em B).own bF) (dj az.size b4);have bu:=(a2.lt y Y).2;have cn:=(su a6).vo cl;have aC:=wK az a6;replace c:=c.put (d:=36) ay (aI y (I g+8) (I g+8));refine g4 d c λc=>?_;refine cQ d (cA d (dg d [0,1,2] Y (dK d c λc=>vz (vs:= #[ah H (I h) E]) (R:=λe v l=>∃t,v=aI t (I h+8) (I h+8)/\aT l (U e.heap) 61 7 (aI t (I h+8) (I h+8)) (I h+8) (eP (ni h 8))) mh Y Y Y Y (vY (c.of Y)) Tryz.func12 abn Y (bA (ov Y Y Y)) (oA Y (by simp only[put_defers]) bl) (λe n o=>?_) λv e l aG n b7 ad i B X=>?_)));have q:Ce w0 e:=(su aC).trans (BX n o);exact bL (JS h H rb bY E e aa (q.Cu T)) λQ l ⟨t,r,p,L⟩=>⟨L,_,r,t,rfl,p⟩;obtain⟨z,rfl,bI⟩:=i;have aw:=wC ((Em B).own bI) (dj aC.size b7);have bx:=(aw.lt z Y).2;have a3:=(su X).own a2;have bv:=cL bu X.size;have co:=(su X).vo cn;have a5:=wK aC X;replace c:=c.put (d:=38) ay (aI z (I h+8) (I h+8));refine g4 d c λc=>cQ d ?_;have⟨_,_,bc,_,_,ba⟩:=k5 a3 aa;have⟨_,_,bd,_,_,cs⟩:=k5 aw aa;cases bc;cases bd;have a7:∀(w:ag),RelB (gM aG) aG w->sU (aM av) av Post 13 #[au s,aI y (I g) (I g+8),aI z (I h) (I h+8),ak sk] w (BJ N w):=λw M=>by
  rw[<-ca];refine YZ (cb:=y) (bN:=0) (rb:=z) (bY:=0) ar hF a0 aa aa (λ_=>rfl) (λ_=>cL bv M.size) (λf m=>(su M).cell ?_) ((su M).Cu (dy.A3 bx λdb dd cf=>by rw[e7];exact cs _ _ (by unfold ni;exact Uw cf)));rw[e7];refine ba _ _ ?_;simp only[cW,gY];rw[ru (cM m)];simp[ep,m]
 refine cA d (LY (j:=0) (gc:=y) (gr:=z) (n:=I g) (m:=I h) (res:=N) (aq Y) Y bl c (by simp only[put_defers]) Y Y Y Y Y Y a7 λcV u6 dm c0 a8 bb cg c9 bJ bD aD=>?_);have⟨cu,be⟩:=RO.of bJ;have c7:=cg.size;refine cA d (LY (j:=1) (gc:=y) (gr:=z) (n:=I g) (m:=I h) (res:=N) (an Y) Y bl a8 bb Y Y Y Y Y Y (λw M=>a7 w (wK aD M)) λcY u7 cy c1 a9 aL ci da bO c5 aE=>?_);have⟨cv,bh⟩:=RO.of bO;have ch:=ci.size;have u:=wK (wK a5 aD) aE;have al:Ce aG cy:=(su aD).trans (su aE);refine aa5 (n0:=U w0.heap) mh u.size a9 aL (Ad 8 eB) (λaH=>Knows aH 122 [(8,ak af)]/\b8 aH=[]) (λs j=>by simp at j) (oA Y aL bl) (λv e i n o=>?_) λcZ dn dc bV D=>?_;have C:=BX n o;have q:Ce w0 e:=(su u).trans C;have aQ:=i 13 _ Y;have aY:=((be.ce (su aE)).up ch).ce C;have aZ:=bh.ce C;rw[<-aQ] at aY;rw[<-(i 15 _ Y)] at aZ;exact YX e v N.1 N.2 g h cu cv (U w0.heap) y z J cb bN A H rb bY E (i 1 _ Y) (i 2 _ Y) (by rw[(i 9 _ Y)];exact((al.trans C).vo co).Gt.1) (i 10 _ Y) (i 11 _ Y) (i 12 _ Y) (i 14 _ Y) (i 16 _ Y) aY aZ (λj=>b5 aQ (bD j)) bi (λcp W=>cB (bj cp W)) ((al.trans C).own a3) ((al.trans C).own aw) ⟨cB a5.size,aa,aa,o,aa,aa⟩ aa aa am ap (λf m=>q.cell (ao f m)) (q.Cu T) T.lt;have⟨c,br⟩:=bV;exact aa6 bl Y br Tryz.func3 (De Tryz.results3 (c.slot 8 _ Y)) λcx F=>bR cx ⟨λb ae=>(F.at_ b (cL ae (dj u.size D.size))).trans ((D.at_ b ae).trans (u.at_ b ae)),dj u.size (dj D.size F.size),F.tape.trans (D.tape.trans u.tape),F.os.trans (D.os.trans u.os),F.output.trans (D.output.trans u.output)⟩
end
end Cc
end Go.Proofs.YtjidbonhhpkljaaGreat
