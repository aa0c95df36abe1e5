/- Parts. -/
import Derived.Test.YtjidbonhhpkljaaGreatMc
import Derived.Lib.SlBytesConst
set_option linter.all false
open Array renaming getD->cB,replicate->jw,setIfInBounds->cS,size->U,toList->dY
open Bool renaming false->aj,false_eq_true->eN,true->af
open ByteArray renaming extract->fw,size->bg,toList->jE
open Eq renaming symm->bq,trans->aB
open False renaming elim->ff
open Go renaming Act->bt,Addr->aL,Ending->gN,Obj->cz,Oper->cC,TypeId->aP,Value->F,World->ag,bodyPost->jI,info_parts->eW,lt_of_block->bE,madeCells->m7,maxLen->aV,results->dB,undef->bR,wpList_append_fits->rT,yielded->en
open Go.ByteArray renaming toList_eq->uM
open Int renaming toNat->bO
open List renaming all->dI,contains->iT,getD->aW,length->I,mem_range->nP,range->fp,replicate->dH,set->gh,toArray->cR
open Option renaming none->Z,some->K
open Or renaming elim->eD,inl->av,inr->ai
open Prod renaming fst->bf,snd->dD
open Go
open Act renaming eval->bp,put->bw
open Addr renaming add->rQ,add_mid->vN
open Calls renaming mono->bG
open Code renaming region->iB
open Ending renaming panicked->gO,returned->aN
open Exit renaming normal->cX,panic->ig
open FrameMode renaming panicking->jx,returning->jj
open IntKind renaming i64->aM,u64->lW,u8->vP
open Next renaming value->fi
open Obj renaming cells->aq
open Oper renaming after->ri
open Proofs.Tryz renaming prog->ax
open Region renaming binds->jl,ready->fY,wanted->eI
open Region.Mode renaming any->eu
open Result renaming ok->cm
open RowKit renaming Below->dZ,intOf->bB,wrap64->cY
open RowKit.Below renaming alloc->pE,block->cT,cell->bA,grown->jy,trans->fN
open TypeInfo renaming bytes->jm,zero->jH
open Value renaming agg->bZ,bool->ak,int->aJ,oneCell'->m3,ownBlock->bI,pointer->cU,slice->ah,string->ay,tuple->cP
open World renaming alloc->cG,cell?->ap,drewN->cI,frozen?->cE,grownBy->kg,news_of_block->y6,output->ga,ownsRow->aT,ownsRow_nil->iS,setCell->aY,setCells->m5,tape->dG
open World.ownsRow renaming alloc->lE,cellAt->s0,frozenAt->vV,kept->fI
variable{qT:bt}{R qQ:aL}{C:Array F}{qW qX qY:Bool}{A s:ByteArray}{M qB:Int}{an qZ es ns:List Int}{L l qF qG:List Nat}{QV:List Go.PanicEntry}{S qN:List F}{a b i j k m n q r:Nat}{Ql:cz}{Qs Qt:cC}{O P:Option aL}{QY:Option Nat}{Qd:aP}{T dA dz eG qs qt qu qw v x y z pv:F}{W u w w4 wr B J:ag}
set_option maxRecDepth 100000
set_option maxHeartbeats 8000000
namespace Go.Proofs.YtjidbonhhpkljaaGreat
namespace Ec
open Go.RowKit Pk Pm
def X_(a f:Int)(g:e4 a f=af)(s:ByteArray)(k j e:Nat)(l:ag)(c:bg s<=aV)(b:e<=100)(d:j<=bg s)(h:l.heap[k]? =K (rb s j aj)):
 bc 74 #[(aK k),z9 a,z9 f,z9 e] l λp o=>AP s k j e a f l p o:=by
 have⟨m,n⟩:=Cp g;rcases n with rfl|rfl|rfl|rfl;exact T_ m c b d h;have i:a=1:=by simp[e4] at g;omega
 subst i;exact U_ c b d h;exact V_ m c b d h;have i:a=2:=by simp[e4] at g;omega
 subst i;exact W_ c b d h
def mT:List Int->Int
 | []=>0
 |z::a=>z+mT a
def aco:mT (qZ++[M])=mT qZ+M:=by
 induction qZ with
 |nil=>simp[mT]
 |cons c b a=>simp[mT,a];omega
def acs(b:List Int)(a:Nat)(c:a<I b):mT (b.take<|a+1)=mT (b.take a)+aW b a 0:=by
 rw[gm c,aco,lO c]
def acp(a:List Int)(h:∀b∈a,0<=b/\b<256):0<=mT a/\mT a<=256*I a:=by
 induction a with
 |nil=>simp[mT]
 |cons b i d=>
  have f:=d (λe c=>h e<|by simp[c]);have g:=h b (by simp);simp[mT];omega
def acr(a:List Int)(h:iY a):mT a=(iu a:Nat):=by
 unfold iu
 induction a with
 |nil=>rfl
 |cons f g d=>
  have b:=d (λe c=>h e<|by simp[c]);rcases h f aI with rfl|rfl;simp[mT];rw[b];simp[mT];rw[b];omega
def Zf(c f:Int)(a6:e4 c f=af)(s:ByteArray)(o:Nat)(b6:s.size<=aV)(b3:o<=100):
 bc 51 #[ay s,aJ aM c,aJ aM f,aJ aM o] w λx u=>aD w u/\∃(bP:Option aL) (bk bT:Nat) (bl:Bool),x=aN (cP #[ah bP bk bT,ak bl])/\
  ((bl=af/\∃g:List aC,bk=I g/\aT u (U w.heap) 59 3 (ah bP bk bT) (I g) (bM g)/\I g=o/\(∀j∈g,VC c j)/\g5 c f g=bytesOf s)\/(bl=aj/\p8 s c f o)):=by
 obtain⟨cx,ba,co,cp,cq⟩:=eW aE.mg;have A:=(Cp a6).1;have bs:=aA a6;clear a6;go_enter aE.func51,Tryz.ntmps51;go_wp2_with fail;have cd:(w.alloc<|rb s 0 aj).heap[U w.heap]? =K (rb s 0 aj):=lF w _;have bW:aD w (w.alloc<|rb s 0 aj):=(bN _ _).alloc (aZ _) _;have cf:(w.alloc<|rb s 0 aj).heap.size=U w.heap+1:=by simp
 refine(MJ s (U w.heap) 0 o (w.alloc<|rb s 0 aj) b6 b3 (cH _) cd).mono ?_;rintro x G ⟨a3,b,v,rfl,d7,be,aw,bV⟩;have aH:X (aD w G):=bW.trans (a3.below<|by omega);have d5:U w.heap+1<=U G.heap:=by have:=a3.size;omega
 have bx:X (aT G (U w.heap+1) 3 1 v (I b)<|cO b):=by rw[cf] at aw;exact aw
 have bo:=aA bV;have dQ:=aA be;obtain⟨dv,d8,d9,dy,rfl,cu,du,cv⟩:=iE.gB aw;have bu:=aA cv;have bF:X (∀a,a<=I b->0<=mT (b.take a)/\mT (b.take a)<=60000):=λa ba=>by
  have l:=acp (b.take a) λcA B=>be cA<|xz B;rw[ng] at l;omega
 clear a3 bV be aw cv cd bW cf;go_wp2_with fail
 go_loopw [12,13] (λnv E wr=>∃a:Nat,a<=I b/\E=aJ aM (a:Int)/\nv=aJ aM (mT<|b.take a)/\wr=G) (λ_ E _=>I b-bO (bB E))
 exact⟨0,cH _,rfl,rfl,rfl⟩;obtain⟨a,b5,rfl,rfl,rfl⟩:=hrel;by_cases t:a<I b
 .have a9:=cu (by omega);subst a9;have V:=bu.o a t;have d3:=bF.o a (by omega);have d4:=bF.o (a+1) (by omega);have dr:=acs b a t;generalize aW b a 0=cA at*;generalize mT (b.take a)=dS at*;generalize az:mT (b.take<|a+1)=dT at*;have c2:=aA az;clear az;subst dr;go_wp2
  go_roundw
  case rel=>exact⟨a+1,by omega,by go_num,by rw[c2.o],by trivial⟩
  case measure=>simp[bB];omega
 obtain rfl:a=I b:=by omega
 rename ag=>G
 rw[jq];obtain⟨bm,bQ,az,a4,b2,ck⟩:=bo.o;obtain⟨c4,J,S,db,dc,dd⟩:=nY a4;have bD:=aA a4;have bH:=aA ck;have aK:X (∀d:List aC,I d=o->(∀j∈d,VC c j)->g5 c f d=bytesOf s->b=d.map fV/\bm=0+I (eV<|d.map fV)/\bQ=aj/\aQ (bytesOf s) bm (jB c f<|there d)):=by
  intro d l m k;have L:=uy k;unfold g5 at L;rw[dw] at L;obtain⟨u1,u2,u3⟩:=bH.o (d.map fV) (by rw[er];exact l) (CI d) L.1;exact⟨u1,u2,u3,by rw[u2];exact L.2⟩
 clear a4 ck c4 J db dc dd bo t b5;cases bQ with
 |true=>
  have D:X (p8 s c f o):=λd l m k=>by have:=(aK.o d l m k).2.2.1;cases this
  go_wp2;go_ret2;exact⟨aH.o,Z,0,0,aj,rfl,ai ⟨rfl,D.o⟩⟩
 |false=>
  obtain⟨cs,a5⟩:=b2 rfl;have al:=aA a5;have bL:=aA cs;have ch:=acr b a5;have dq:iu b<=100:=by have:=F6 b;omega
  rw[ch];clear b2 a5 ch cs;go_wp2_with fail;refine(X_ c f bs.o s (U w.heap) bm (iu b) G b6 dq az bD.o).mono ?_;rintro x p ⟨an,n,es,rfl,d1,ca,b8,dg⟩;obtain⟨et,bS,d2,b1,cl⟩:=dg;have ae:X (aD w p):=aH.o.trans (an.below<|by omega);have bz:X (aT p (U w.heap+1) 3 1 (ah dv (I b) dy) (I b)<|cO b):=an.own bx.o (by omega);have c0:=aA ca;have am:X (∀d:List aC,I d=o->(∀j∈d,VC c j)->g5 c f d=bytesOf s->b=d.map fV/\n=there d/\bS=aj/\I n=iu b):=by
   intro d l m k;obtain⟨u1,u2,u3,u4⟩:=aK.o d l m k;have ci:I (there d)=iu b:=by rw[HE,u1]
   obtain⟨aG,bj⟩:=cl (there d) ci (DJ m) u4;exact⟨u1,aG,bj,by rw[aG];exact ci⟩
  obtain⟨c5,c6,c7,c8,c9,da⟩:=nY b1;obtain⟨eo,F,Q,eq,rfl,cc⟩:=je.gB b8;have c1:=aA cc;have d6:U G.heap<=U p.heap:=an.size;clear an ca b8 cl b1 c5 c6 c8 c9 da S aH bx bH aK bD bu cu du cc;cases bS with
  |true=>
   have D:X (p8 s c f o):=λd l m k=>by have:=(am.o d l m k).2.2.1;cases this
   go_wp2;go_ret2;exact⟨ae.o,Z,0,0,aj,rfl,ai ⟨rfl,D.o⟩⟩
  |false=>
   by_cases N:I n=iu b
   .have dp:((I n:Int) !=(iu b:Int))=aj:=by simp;omega
    have bC:=aA N;obtain⟨eb,C,P,ec,b4,dz,dA,cy⟩:=iE.gB bz.o;simp only[j9] at b4;obtain⟨rfl,_,rfl⟩:=b4;have cN:=aA cy;clear N cy bz;go_wp2_with fail;clear c7
    go_loopw [15,16,17] (λdC nv E wr=>∃(a e:Nat) (g:List aC),a<=I b/\e<=a/\E=aJ aM (a:Int)/\nv=aJ aM (e:Int)/\sP c b n a e g/\aT wr (U p.heap) 59 3 dC a (bM g)/\aD p wr) (λ_ _ E _=>I b-bO (bB E))
    exact⟨0,0,[],cH _,aZ _,rfl,rfl,⟨rfl,rfl,rfl,λj dt=>by simp at dt⟩,iS _ _ _ _,bN _ _⟩;obtain⟨a,e,g,b5,d0,rfl,rfl,b0,aa,a2⟩:=hrel;have r:=aA b0;have H:=aA a2;have aF:=a2.size;clear b0 a2;by_cases t:a<I b
    .have a9:=dz (by omega);subst a9;have di:=dA (by omega);have V:ap wr ⟨C,P+a,Z⟩=K (aJ aM<|aW b a 0):=(bA H.o (p:=⟨C,P+a,Z⟩) di).trans<|cN.o a t;by_cases B:aW b a 0=0
     .have aI:=aA<|r.o.null al.o t B;have z:gR sC c=af:=VC.may A<|av ⟨rfl,rfl,rfl⟩;have R:X (∀w,bc 47 #[bZ #[ak af,aJ aM 0,ay ⟨#[]⟩],aJ aM c] w λf u=>f=aN (ak af)/\aD w u):=λw=>by have:=x8 sC c w A;rw[z] at this;exact this
      rw[B] at V;have dk:∀h:cz,ap (wr.alloc h) ⟨C,P+a,Z⟩=K (aJ aM 0):=λh=>(bA ((bN (U wr.heap) wr).alloc (aZ _) h) (p:=⟨C,P+a,Z⟩) (by show C<_;omega)).trans V;clear B z;go_wp2_with (first
       |(go_at_call 47;refine(R.o _).mono ?_;rintro x q ⟨rfl,i⟩;have T:q.heap[U wr.heap]? =K (aq #[ak af,aJ aM 0,ay ⟨#[]⟩] 59 (0,0)):=(cT i (U wr.heap)<|by simp).trans<|lF wr _;obtain⟨dL,dO,dP,_⟩:=sj T;have ab:=fc (aa.alloc _) i;have bd:=i.size;have y:X (aD p q):=(H.o.alloc aF _).trans (i.mono<|by simp;omega);clear T i)
       |(at_builtin;refine jR Y _ _ 43 Y (U p.heap) 59 cx _ 3 32 aE.underlying43 ba co cp cq Y (by decide) _ a _ Y (ab.alloc _) ⟨U q.heap,0,Z⟩ 1 1 [ak af,aJ aM 0,ay ⟨#[]⟩] Y (by decide) Y (lU _) (lz sC) (by unfold aV;omega) (by omega) (by simp at bd ⊢;omega) ?_;intro dJ dK ad a8))
      have a7:=dx.append a8;rw[show[ak af,aJ aM 0,ay ⟨#[]⟩]=[ak sC.null,aJ aM sC.n,ay sC.s] from rfl,nH] at ad;refine⟨⟨a+1,e,g++[sC],by omega,by omega,by go_num,rfl,aI.o,ad,y.o.trans<|a7.below (λa0 a1=>(ab.lt a0 a1).1) y.o.size⟩,by simp[bB];omega⟩
     .have M:=r.o.lt al.o t B bC.o;have cr:aW b a 0=1:=by
       have k:=al.o _<|dm t;rw[<-lO t] at k;omega
      have cZ:X (VK c n[e]->sP c b n (a+1) (e+1) (g++[n[e]])):=λds=>r.o.one al.o t B M ds;have bK:=aA<|c0.o _<|dm M;have cK:X (gR n[e] c=aj->p8 s c f o):=by
       intro b7 d l m k;have L:=(am.o d l m k).2.1;have df:VK c n[e]:=DJ m _ (by rw[<-L];exact dm M);rw[Bh A df] at b7;cases b7
      have O:=c1.o.below H.o;have N:=O.addr (by omega);have bb:F<U wr.heap:=O.lt (by omega);have W:∀h:cz,aD wr (wr.alloc h):=λh=>(bN (U wr.heap) wr).alloc (aZ _) h;rw[cr] at V;have dk:∀h:cz,ap (wr.alloc h) ⟨C,P+a,Z⟩=K (aJ aM 1):=λh=>(bA (W h) (p:=⟨C,P+a,Z⟩) (by show C<_;omega)).trans V;have ej:∀h:cz,ap (wr.alloc h) ⟨F,Q+e*3,Z⟩=K (ak n[e].null):=λh=>(bA (W h) (p:=⟨F,Q+e*3,Z⟩) bb).trans<|O.c0 e M;have el:∀h:cz,ap (wr.alloc h) ⟨F,Q+e*3+1,Z⟩=K (aJ aM n[e].n):=λh=>(bA (W h) (p:=⟨F,Q+e*3+1,Z⟩) bb).trans<|O.c1 e M;have em:∀h:cz,ap (wr.alloc h) ⟨F,Q+e*3+2,Z⟩=K (ay n[e].s):=λh=>(bA (W h) (p:=⟨F,Q+e*3+2,Z⟩) bb).trans<|O.c2 e M;rw[N] at*;generalize n[e]=j at*;clear B cr O W;cases z:gR j c with
      |true=>
       have c3:=aA<|cZ.o<|HN A bK.o.there bK.o.BM z;have R:X (∀w,bc 47 #[bZ<|eC j,aJ aM c] w λf u=>f=aN (ak af)/\aD w u):=λw=>by have:=x8 j c w A;rw[z] at this;exact this
       clear z;go_wp2_with (first
        |(go_at_call 47;refine(R.o _).mono ?_;rintro x q ⟨rfl,i⟩;have T:q.heap[U wr.heap]? =K (aq (eC j) 59 (0,0)):=(cT i (U wr.heap)<|by simp).trans<|lF wr _;obtain⟨dL,dO,dP,_⟩:=sj T;have ab:=fc (aa.alloc _) i;have bd:=i.size;have y:X (aD p q):=(H.o.alloc aF _).trans (i.mono<|by simp;omega);clear T i)
        |(at_builtin;refine jR Y _ _ 43 Y (U p.heap) 59 cx _ 3 32 aE.underlying43 ba co cp cq Y (by decide) _ a _ Y (ab.alloc _) ⟨U q.heap,0,Z⟩ 1 1 [ak j.null,aJ aM j.n,ay j.s] Y (by decide) Y (lU _) (lz j) (by unfold aV;omega) (by omega) (by simp at bd ⊢;omega) ?_;intro dJ dK ad a8))
       have a7:=dx.append a8;rw[nH] at ad;refine⟨⟨a+1,e+1,g++[j],by omega,by omega,by go_num,by go_num,c3.o,ad,y.o.trans<|a7.below (λa0 a1=>(ab.lt a0 a1).1) y.o.size⟩,by simp[bB];omega⟩
      |false=>
       have D:=aA<|cK.o z;have R:X (∀w,bc 47 #[bZ<|eC j,aJ aM c] w λf u=>f=aN (ak aj)/\aD w u):=λw=>by have:=x8 j c w A;rw[z] at this;exact this
       clear z;go_wp2_with (go_at_call 47;refine(R.o _).mono ?_;rintro x q ⟨rfl,i⟩;have y:X (aD p q):=(H.o.alloc aF _).trans (i.mono<|by simp;omega);clear i);go_ret2;exact⟨ae.o.trans<|y.o.mono<|by omega,Z,0,0,aj,rfl,ai ⟨rfl,D.o⟩⟩
    .obtain rfl:a=I b:=by omega
     have J:=r.o.lv;have S:=r.o.th;have aU:=r.o.Bm;rw[jq] at J aU;rw[aU,<-bC.o,jq] at S;have ar:I g=I b:=by rw[<-J,er]
     have bv:=aA ar;have cM:=aA J;have aI:=aA S;obtain⟨bh,bi,dl⟩:=tv aa;subst dl;have aR:X (aT wr (U p.heap) 59 3 (ah bh (I b) bi) (I g)<|bM g):=by rw[ar];exact aa
     have br:X (bc 75 #[ah bh (I b) bi,aJ aM c,aJ aM f] wr λdE u=>dE=aN (ay<|strOf<|g5 c f g)/\aD wr u):=R8 g c f wr A (Cp bs.o).2 (λx cn=>adv (r.o.ok x cn).BM<|(r.o.ok x cn).may A) (by rw[ar,bL.o];exact b3)<|je.gB aR.o;clear aa J S aU ar;go_wp2_with fail;refine br.o.mono ?_;rintro x q ⟨rfl,i⟩;have y:X (aD w q):=ae.o.trans ((H.o.trans<|i.mono aF).mono<|by omega);have cW:=aA<|fc aR.o i;clear i aR br;go_wp2;go_ret2;refine⟨y.o,bh,I b,bi,_,rfl,?_⟩;by_cases ao:strOf (g5 c f g)=s
     .left
      refine⟨by rw[ao];simp,g,bq bv.o,j5 cW.o<|by omega,by rw[bv.o];exact bL.o,r.o.ok,?_⟩;rw[<-ao,IZ<|SD c f g]
     right
     refine⟨?_,?_⟩;rw[beq_eq_false_iff_ne];intro de;exact ao<|toList_inj de
     .intro d l m k;obtain⟨aG,bj,ed,eh⟩:=am.o d l m k;have:g=d:=K4 g d r.o.ok m (by rw[cM.o,aG]) (by rw[aI.o,bj]);subst this;apply ao;rw[k,DG]
   have D:X (p8 s c f o):=λd l m k=>N (am.o d l m k).2.2.2;have dp:((I n:Int) !=(iu b:Int))=af:=by simp;omega
   clear N;go_wp2;go_ret2;exact⟨ae.o,Z,0,0,aj,rfl,ai ⟨rfl,D.o⟩⟩
def CK:ByteArray:=⟨#[109,97,114,107]⟩
def mkV (a:Int):aC:=⟨aj,-1-a,CK⟩
def J2(h:C.toList.take (n*3)=bM (dH n<|mkV M))(d:m<n):C[m*3]? =K (ak aj)/\C[m*3+1]? =K (z9<|-1-M)/\C[m*3+2]? =K (ay CK):=by
 have⟨a,b,c⟩:=tJ (dH n<|mkV M) m<|cN d;rw[<-h,vW,if_pos aa] at a b c;simp only[List.getElem_replicate,Array.getElem?_toList] at a b c;exact⟨a,b,c⟩
def aE.Vm:((aH ax).info? 95).map (λa=>(jH a,a.size,jm a))=K (K<|bZ #[aF,z9 0],2,32):=aR
def wm (g:ag)(v:F)(m:Int):Prop:=
 ∃d c f,v=ah d c f/\c<=5000/\(0<c->∃e a,d=K ⟨e,0,Z⟩/\g.heap[e]? =K (aq a 59 (0,0))/\∀b,b<c->a[b*3]? =K (ak aj)/\a[b*3+1]? =K (z9<|-1-m)/\a[b*3+2]? =K (ay CK))
structure gF(w:ag)(bse9 B:Nat)(iv:F)(es:List (F×Int))(rx:F:=ah Z 0 0):Prop where
 blk:w.heap[B]? =K (aq #[ah Z 0 0,iv,rx,ah Z 0 0] 37 (0,0))
 own:aT w bse9 95 2 iv (I es) (vm es)
 full:∀e∈es,wm w e.1 e.2
def gF.other{j:List (F×Int)}(h:gF w n m x j v)(o:kg w u QY)
 (l:∀a,QY=K a->(∃b,w.heap[a]? =K (aq b 59 (0,0)))/\∀c∈j,∀g f i,c.1=ah g f i->0<f->bI c.1≠K a):gF u n m x j v:=by
 refine⟨?_,?_,?_⟩;rw[o.block m (bE h.blk) λe=>?_];exact h.blk;have⟨⟨b,d⟩,_⟩:=l m<|bq e;exact mG d h.blk az Y;refine fI h.own o ?_;by_cases t:bI x=Z;exact av t;refine ai λe=>?_;have⟨a,s⟩:=Option.ne_none_iff_exists'.1 t;have⟨b,d⟩:=vu h.own s;have⟨⟨B,y⟩,_⟩:=l a (by rw[<-e,s]);exact mG d y az Y;intro c r;have⟨g,f,i,k,A,z⟩:=h.full c r;rw[k];refine⟨g,f,i,rfl,A,λp=>?_⟩;obtain⟨a,b,rfl,q,d⟩:=z p;refine⟨a,b,rfl,?_,d⟩;rw[o.block a (bE q) λe=>?_];exact q;exact(l a<|bq e).2 c r _ _ _ k p<|gG k
def gF.push{o:List (F×Int)}(h:gF w n k y o x)(U:wm w v M)
 (B:aT w n 59 3 v i S) (W:n<=k) (E:aT u n 95 2 z (I o+1) (vm o++[v,z9 M])) (Q:kg (cG w Ql) u (bI y)):
 gF (aY u ⟨k,1,Z⟩ z) n k z (o++[(v,M)]) x/\aT (aY u ⟨k,1,Z⟩ z) n 59 3 v i S:=by
 have N:=xq w Ql Z;have C:∀(a:Nat) (e:Array F) (c:aP),cq w a e c->c≠95->u.heap[a]? =w.heap[a]? :=by
  intro a e c b r;rw[Q.block a (by have:=bE b;simp;omega) λl=>?_,N.block a (bE b) aI];have⟨f,j⟩:=vu h.own<|bq l;exact mG b j r Y
 have q:=C k _ _ h.blk az;rw[h.blk] at q;have D:∀(a:Nat) (e:Array F) (c:aP),cq w a e c->c≠95->c≠37->(aY u ⟨k,1,Z⟩ z).heap[a]? =w.heap[a]? :=by
  intro a e c b r T;rw[ei u ⟨k,1,Z⟩ a z λl=>?_,C a e c b r];exact mG b h.blk T l
 have A:∀s m,wm w s m->wm (aY u ⟨k,1,Z⟩ z) s m:=by
  rintro s m ⟨G,V,p,rfl,R,P⟩;refine⟨G,V,p,rfl,R,λJ=>?_⟩;obtain⟨g,f,rfl,b,j⟩:=P J;exact⟨g,f,rfl,bV (D g _ _ b az az) b,j⟩
 refine⟨⟨?_,?_,?_⟩,?_⟩;rw[(ek u k 1 _ _ z q)];rfl;rw[cJ,rY,<-TV];refine ownsRow_setCell_other E (λl=>?_) _;have⟨f,j⟩:=vu E l;exact mG j q az Y;intro H O;rcases eP.1 O with d|d;exact A _ _<|h.full H d;simp at d;subst d;exact A _ _ U;refine⟨B.1,?_⟩;rcases B.2 with d|⟨g,p,f,d,K,t,L⟩;exact av d;exact ai ⟨g,p,f,d,K,bV (D g _ _ t az az) t,L⟩
def wm.mk(h:aT w n 59 3 v m (bM<|dH m<|mkV M))(g:m<=5000):wm w v M:=by
 rcases h.2 with⟨rfl,rfl⟩|⟨c,a,b,rfl,_,d,_,_,_,e⟩;exact⟨Z,0,0,rfl,aa,aa⟩;exact⟨_,m,a,rfl,g,λi=>⟨c,b,rfl,d,λj f=>(J2 e f)⟩⟩
def Ef (v:F)(g:Nat)(f:Int)(e:List (F×Int)):Prop:=∀b∈e,∀c a d,b.1=aG c a d->0<a->bI v=K c->b.2=f/\a<=g
def gF.grow{j:List (F×Int)}(h:gF w n m y j x)(Q:Ef v k M j)
 (V:aT w n 59 3 v k (bM<|dH k<|mkV M)) (ad:aT u n 59 3 z (k+1) (bM<|dH (k+1)<|mkV M))
 (a:(kg (w.alloc Ql) u Z/\aT u (w.alloc Ql).heap.size 59 3 z (k+1) (bM<|dH (k+1)<|mkV M))\/(bI z=bI v/\kg (w.alloc Ql) u (bI v))):
 gF u n m y j x/\Ef z (k+1) M j:=by
 have c:=h.other (xq w Ql Z) λb a=>de a;rcases a with⟨a,X⟩|⟨al,a⟩;refine⟨c.other a λb a=>de a,?_⟩;intro e g b R H t J D
 exfalso
 have⟨G,E,r,f,_,B⟩:=c.full e g;rw[t] at f;simp only[j9] at f;obtain⟨rfl,rfl,rfl⟩:=f;have⟨ao,s,N,l,_⟩:=B J;simp only[iG,nM,and_true] at N;subst N;have:=bE l;have:=(X.lt b D).1;omega;rcases ad.2 with⟨_,J⟩|⟨I,am,i,rfl,_,S,_,_,_,ae⟩;omega;have q:bI v=K I:=by rw[<-al];rfl
 rw[q] at a;have⟨an,L⟩:=vu (V.alloc Ql) q;have T:∀d,d<k+1->i[d*3]? =K (ak aj)/\i[d*3+1]? =K (z9<|-1-M)/\i[d*3+2]? =K (ay CK):=λd P=>J2 ae P;refine⟨⟨?_,?_,?_⟩,?_⟩;rw[a.block m (bE c.blk) λp=>?_];exact c.blk;simp at p;subst p;exact mG L c.blk az Y;refine fI c.own a ?_;by_cases U:bI y=Z;exact av U;refine ai λp=>?_;have⟨s,A⟩:=vu c.own p;exact mG A L az Y;intro e g;have⟨G,E,r,f,ab,B⟩:=c.full e g;rw[f];refine⟨G,E,r,rfl,ab,λo=>?_⟩;obtain⟨b,s,rfl,l,A⟩:=B o;by_cases O:b=I;subst O;have⟨C,W⟩:=Q e g b E r f o q;exact⟨b,i,rfl,S,λd P=>bV C<|T d aa⟩;exact⟨b,s,rfl,by rw[a.block b (bE l)<|by simp;exact O];exact l,A⟩;intro e g b R H t o D;have⟨C,W⟩:=Q e g b R H t o<|bV q D;exact⟨C,aa⟩
def gF.cells{a:List (F×Int)}(h:gF w n m x a v):ap w ⟨m,1,Z⟩=K x/\cE w ⟨m,1,Z⟩=aj:=by
 have:=h.blk;exact⟨by simp[ap,this],by simp[cE,this]⟩
def gF.Jb{b:List (F×Int)}(h:gF w n m x b v)(d:kg (cG w Ql) u (bI x)):ap u ⟨m,1,Z⟩=K x/\cE u ⟨m,1,Z⟩=aj:=by
 have a:u.heap[m]? =K (aq #[aF,x,v,aF] 37 (0,0)):=by
  rw[d.block m (by have:=bE h.blk;simp;omega) λe=>?_,(xq w Ql Z).block m (bE h.blk)<|by simp]
  .exact h.blk
  .obtain⟨f,c⟩:=vu h.own<|bq e;exact mG h.blk c (by decide) Y
 exact⟨by simp[ap,a],by simp[cE,a]⟩
def Dx:kg w (aY w ⟨n,m,Z⟩ v) (K n):=
 ⟨rfl,rfl,rfl,aI,λc _ b=>ei _ _ _ _ λa=>b<|by cases a;rfl⟩
def G7(c:ag)(a b:Nat)(d e f:F):kg c (aY (aY (aY c ⟨a,b*3,Z⟩ d) ⟨a,b*3+1,Z⟩ e) ⟨a,b*3+2,Z⟩ f) (K a):=
 ((Dx).trans Dx).trans Dx
def rV (c:Nat)(d v:F)(b e:ag):Prop:=∀a:Nat,a<U b.heap->a≠c->bI d≠K a->bI v≠K a->e.heap[a]? =b.heap[a]?
def rV.step(h:rV n x v w wr)(k:U w.heap<=U wr.heap)(g:kg wr u QY)
 (i:∀a:Nat,QY=K a->a=n\/bI x=K a\/bI v=K a\/U w.heap<=a):rV n x v w u:=by
 intro a f c d e;rw[g.block a aa λj=>?_];exact h a f c d e;rcases i a (bq j) with b|b|b|b;exact c b;exact d b;exact e b;omega
def rV.push{o:cz}(h:rV n eG v w wr)(d:U w.heap<=U wr.heap)(c:∀b,bI x=K b->bI eG=K b\/U w.heap<=b)(a:kg (cG wr o) u (bI x))(e:F):
 rV n eG v w (aY u ⟨n,1,Z⟩ e):=by
 exact((h.step d (xq wr o Z) λb a=>de a).step bS a λb a=>eD (c b a) (λh=>ai<|av h) λh=>ai<|ai<|ai h).step (by have:=a.size;simp at this;omega) Dx (λb a=>av<|by cases a;rfl)
def adq(b:List aC){c:aC}(a:Nat)(h:a<I b):gh (dH a c++b.drop a) a c=dH (a+1) c++b.drop (a+1):=by
 rw[List.set_append_right _ _ aI,List.length_replicate,Nat.sub_self,ru h,cj,List.replicate_succ' (n:=a)];simp
def adp{a:aC}:bM (dH n a)++[ak a.null,z9 a.n,ay a.s]=bM (dH (n+1) a):=by rw[nH,List.replicate_succ']
def gF.store{g:List (F×Int)}{q:List aC}(h:gF w n m x g v)(y:aT w n 59 3 (aG k i j) i (bM q))
 (D:∀c∈g,∀l e f,c.1=aG l e f->0<e->k≠l) (a:Nat) (b:aC) (C:a<I q):
 gF (aY (aY (aY w ⟨k,a*3,Z⟩<|ak b.null) ⟨k,a*3+1,Z⟩<|z9 b.n) ⟨k,a*3+2,Z⟩<|ay b.s) n m x g v/\
  aT (aY (aY (aY w ⟨k,a*3,Z⟩<|ak b.null) ⟨k,a*3+1,Z⟩<|z9 b.n) ⟨k,a*3+2,Z⟩<|ay b.s) n 59 3 (aG k i j) i (bM<|gh q a b):=by
 refine⟨h.other (G7 w k a _ _ _) ?_,?_⟩;intro l t;simp at t;subst t;refine⟨vu y Y,?_⟩;intro c s z e f o r d;rw[o] at d;cases z with
 |none=>simp[bI] at d
 |some E=>
  have⟨G,L,H,p,_,B⟩:=h.full c s;rw[o] at p;simp only[j9] at p;obtain⟨rfl,rfl,rfl⟩:=p;have⟨A,J,u,_⟩:=B r;simp only[iG] at u;subst u;simp[bI] at d;exact D c s A e f o r<|bq d
 rw[<-adn a b C];exact((((y.stored (a*3)<|ak b.null).1).stored (a*3+1)<|z9 b.n).1.stored (a*3+2)<|ay b.s).1
def eK (A O T H B:Nat)(rv nv Q:F)(L:List (List aC×F))(R:List (F×Int))(a:Nat):Prop:=
 a=A\/a=O\/a=T\/a=H\/a=B\/bI rv=K a\/bI nv=K a\/bI Q=K a\/(∃e∈L,bI e.2=K a)\/∃d∈R,∃b c,d.1=aG a b c/\0<b
def ix{W J:ag}(h:aT W 0 Qd n v m qN)(k:∀a f,W.heap[a]? =K (aq f Qd (0,0))->bI v=K a->J.heap[a]? =W.heap[a]?):aT J 0 Qd n v m qN:=by
 obtain⟨e,h|⟨c,g,b,rfl,i,d,j⟩⟩:=h;exact⟨e,av h⟩;exact⟨e,ai ⟨c,g,b,rfl,i,aB (k c b d Y) d,j⟩⟩
def uE{W J:ag}{B:Nat}{Q:F}{R:List (F×Int)}(h:gF W 0 B Q R)(q:J.heap[B]? =W.heap[B]?)(r:∀a e,W.heap[a]? =K (aq e 95 (0,0))->bI Q=K a->J.heap[a]? =W.heap[a]?)(s:∀d∈R,∀a b c e,d.1=aG a b c->0<b->W.heap[a]? =K (aq e 59 (0,0))->J.heap[a]? =W.heap[a]?):gF J 0 B Q R:=by
 refine⟨aB q h.blk,ix h.own r,λd l=>?_⟩;have⟨m,b,c,j,p,o⟩:=h.full d l;refine⟨m,b,c,j,p,λi=>?_⟩;obtain⟨g,f,rfl,k,n⟩:=o i;exact⟨g,f,rfl,aB (s d l g b c f j i k) k,n⟩
section
variable{A O T H B:Nat}{S:Int}{rv nv Q:F}{L:List (List aC×F)}{C:List Int}{R:List (F×Int)}
end
structure iA(W:ag)(gb b5 b6 b7 B:Nat)(most dp:Int)(wv rv nv iv:F)(L:List (List aC×F))(ns:List Int)(es:List (F×Int)):Prop where
 c5:W.heap[b5]? =K (aq #[z9 most] 3 (0,0))
 c6:W.heap[b6]? =K (aq #[z9 dp] 3 (0,0))
 c7:W.heap[b7]? =K (aq #[(aK B)] 31 (0,0))
 box:W.heap[gb]? =K (aq #[ak aj,rv,nv,wv] 81 (0,0))
 rows:aT W 0 43 1 rv (I L) (L.map dD)
 each:∀p∈L,aT W 0 59 3 p.2 (I p.1)<|bM p.1
 fL:aT W 0 3 1 nv (I ns) (cO ns)
 book:gF W 0 B iv es
 nf:∀g,bI nv=K g->g≠b5/\g≠b6
 gJ:∀p∈L,∀e∈es,∀g n cap,e.1=aG g n cap->0<n->bI p.2≠K g
 apart:∀(i j:Nat) u t g,(L.map dD)[i]? =K u->(L.map dD)[j]? =K t->bI u=K g->bI t=K g->i=j
 pP:∀e∈es,0<=e.2/\e.2<=1000000000000
section
variable{gb b5 b6 b7 B:Nat}{most dp:Int}{wv rv nv iv:F}{L:List (List aC×F)}{es:List (F×Int)}
def iA.same(h:iA W gb b5 b6 b7 B most dp wv rv nv iv L ns es)(b:∀a,eK gb b5 b6 b7 B rv nv iv L es a->J.heap[a]? =W.heap[a]?):iA J gb b5 b6 b7 B most dp wv rv nv iv L ns es:=
 ⟨aB (b b5<|ai<|av Y) h.c5,aB (b b6<|ai<|ai<|av Y) h.c6,aB (b b7<|ai<|ai<|ai<|av Y) h.c7,aB (b gb<|av Y) h.box,
  ix h.rows λa _ _ c=>b a<|ai<|ai<|ai<|ai<|ai<|av c,
  λe d=>ix (h.each e d) λa _ _ c=>b a<|ai<|ai<|ai<|ai<|ai<|ai<|ai<|ai<|av ⟨e,d,c⟩,
  ix h.fL λa _ _ c=>b a<|ai<|ai<|ai<|ai<|ai<|ai<|av c,
  uE h.book (b B<|ai<|ai<|ai<|ai<|av Y) (λa _ _ c=>b a<|ai<|ai<|ai<|ai<|ai<|ai<|ai<|av c) (λg k a l f _ j i _=>b a<|ai<|ai<|ai<|ai<|ai<|ai<|ai<|ai<|ai ⟨g,k,l,f,j,i⟩),
  h.nf,h.gJ,h.apart,h.pP⟩
def iA.lt(h:iA W gb b5 b6 b7 B most dp wv rv nv iv L ns es)(a:eK gb b5 b6 b7 B rv nv iv L es n):n<U W.heap:=by
 rcases a with rfl|rfl|rfl|rfl|rfl|a|a|a|⟨k,j,a⟩|⟨d,g,r,m,f,e⟩;exact bE h.box;exact bE h.c5;exact bE h.c6;exact bE h.c7;exact bE h.book.blk;exact(h.rows.lt n a).2;exact(h.fL.lt n a).2;exact(h.book.own.lt n a).2;exact((h.each k j).lt n a).2;have⟨l,s,o,b,_,i⟩:=h.book.full d g;rw[f] at b;simp only[j9] at b;obtain⟨rfl,rfl,rfl⟩:=b;have⟨q,p,c,a,_⟩:=i e;simp only[iG,nM,and_true] at c;subst c;exact bE a
def iA.cells(h:iA W gb b5 b6 b7 B most dp wv rv nv iv L ns es):(ap W ⟨gb,0,Z⟩=K (ak aj)/\ap W ⟨gb,1,Z⟩=K rv/\ap W ⟨gb,2,Z⟩=K nv/\ap W ⟨gb,3,Z⟩=K wv)/\(ap W ⟨b5,0,Z⟩=K (aJ aM most)/\ap W ⟨b6,0,Z⟩=K (aJ aM dp)/\ap W ⟨b7,0,Z⟩=K (aK B))/\∀b,cE W ⟨gb,b,Z⟩=aj:=by
 have a:=h.box;have c:=h.c5;have d:=h.c6;have e:=h.c7;exact⟨⟨by simp[ap,a],by simp[ap,a],by simp[ap,a],by simp[ap,a]⟩,⟨by simp[ap,c],by simp[ap,d],by simp[ap,e]⟩,λb=>by simp[cE,a]⟩
def iA.US(h:iA W gb b5 b6 b7 B most dp wv rv nv iv L ns es){x:List aC}(D:dx W J rv dA)(X:aT W 0 59 3 v (I x) (bM x))(w:∀c,bI v=K c->¬eK gb b5 b6 b7 B rv nv iv L es c)(G:aT J 0 43 1 dA (I L+1) (L.map dD++[v])):
 iA (aY J ⟨gb,1,Z⟩ dA) gb b5 b6 b7 B most dp wv dA nv iv (L++[(x,v)]) ns es/\(∀a:Nat,a<U W.heap->a≠gb->bI rv≠K a->(aY J ⟨gb,1,Z⟩ dA).heap[a]? =W.heap[a]?)/\ap J ⟨gb,1,Z⟩=K rv/\∀n,cE J ⟨gb,n,Z⟩=aj:=by
 have o:=aB (D.dK.block _ (bE h.box)<|dS h.rows h.box az) h.box;have M:∀a:Nat,a<U W.heap->a≠gb->bI rv≠K a->(aY J ⟨gb,1,Z⟩ dA).heap[a]? =W.heap[a]? :=λa d S T=>by
  rw[ei _ _ _ _<|cN S];exact D.dK.block a d λj=>T j.symm
 have k:∀(a:Nat) e l,cq W a e l->l≠43->l≠81->(aY J ⟨gb,1,Z⟩ dA).heap[a]? =W.heap[a]? :=λa e l d t V=>M a (bE d) (λj=>mG d h.box V j) λj=>dS h.rows d t j.symm;refine⟨⟨aB (k _ _ _ h.c5 az az) h.c5,aB (k _ _ _ h.c6 az az) h.c6,aB (k _ _ _ h.c7 az az) h.c7,(ek J gb 1 _ _ dA o),?_,λf b=>?_,ix h.fL λa e d _=>k a e _ d az az,uE h.book (k _ _ _ h.book.blk az az) (λa e d _=>k a e _ d az az) λj _ a N C e _ _ d=>k a e _ d az az,h.nf,λf b=>?_,λn y p l c R t q u=>?_,h.pP⟩,M,by simp[ap,o],λn=>by simp[cE,o]⟩;rw[cJ,gD];exact fI G (eM J gb 1 dA)<|ai (dS G o az).symm;have r:aT W 0 59 3 f.2 (I f.1) (bM f.1):=by
  rcases eP.1 b with b|b;exact h.each f b;simp at b;subst b;exact X
 exact ix r λa e d _=>k a e _ d az az;rcases eP.1 b with b|b;exact h.gJ f b;simp at b;subst b;exact λj r c N C Q P Y=>w c Y<|ai<|ai<|ai<|ai<|ai<|ai<|ai<|ai<|ai ⟨j,r,N,C,Q,P⟩;have O:∀(i:Nat) m,((L++[(x,v)]).map dD)[i]? =K m->((L.map dD)[i]? =K m/\i<I L)\/(i=I L/\m=v):=λi m g=>by
  rw[gD,List.getElem?_append] at g
  split at g
  rename_i s;exact av ⟨g,cN s⟩;rename_i s;have E:i-I (L.map dD)=0:=by
   have:=(fF.1 g).1;simp at this ⊢;omega
  rw[E] at g;simp at g E s;exact ai ⟨aa,g.symm⟩
 have H:∀(i:Nat) m,(L.map dD)[i]? =K m->∀c,bI m=K c->∃f∈L,bI f.2=K c:=λi m g c ab=>by
  obtain⟨f,b,rfl⟩:=jW.1<|oP g;exact⟨f,b,ab⟩
 rcases O n p R with⟨z,ad⟩|⟨z,rfl⟩<;>rcases O y l t with⟨A,ae⟩|⟨A,rfl⟩;exact h.apart n y p l c z A q u;exact absurd (ai<|ai<|ai<|ai<|ai<|ai<|ai<|ai<|av<|H n p z c q)<|w c u;exact absurd (ai<|ai<|ai<|ai<|ai<|ai<|ai<|ai<|av<|H y l A c u)<|w c q;omega
def iA.UR(h:iA W gb b5 b6 b7 B most dp wv rv nv iv L ns es){x:Int}(j:dx W J nv dz)(l:aT J 0 3 1 dz (I<|ns++[x]) (cO<|ns++[x])):
 iA (aY J ⟨gb,2,Z⟩ dz) gb b5 b6 b7 B most dp wv rv dz iv L (ns++[x]) es/\(∀a:Nat,a<U W.heap->a≠gb->bI nv≠K a->(aY J ⟨gb,2,Z⟩ dz).heap[a]? =W.heap[a]?)/\ap J ⟨gb,2,Z⟩=K nv/\∀m,cE J ⟨gb,m,Z⟩=aj:=by
 have f:=aB (j.dK.block _ (bE h.box)<|dS h.fL h.box az) h.box;have g:∀a:Nat,a<U W.heap->a≠gb->bI nv≠K a->(aY J ⟨gb,2,Z⟩ dz).heap[a]? =W.heap[a]? :=λa c o q=>by
  rw[ei _ _ _ _<|cN o];exact j.dK.block a c λb=>q b.symm
 have e:∀(a:Nat) d i,cq W a d i->i≠3->i≠81->(aY J ⟨gb,2,Z⟩ dz).heap[a]? =W.heap[a]? :=λa d i c r s=>g a (bE c) (λb=>mG c h.box s b) λb=>dS h.fL c r b.symm;have t:=bE h.c5;have u:=bE h.c6;refine⟨⟨aB (g _ t (λb=>mG h.c5 h.box az b) λb=>(h.nf _ b).1 Y) h.c5,aB (g _ u (λb=>mG h.c6 h.box az b) λb=>(h.nf _ b).2 Y) h.c6,aB (e _ _ _ h.c7 az az) h.c7,(ek J gb 2 _ _ dz f),ix h.rows λa d c _=>e a d _ c az az,λv p=>ix (h.each v p) λa d c _=>e a d _ c az az,fI l (eM J gb 2 dz)<|ai (dS l f az).symm,uE h.book (e _ _ _ h.book.blk az az) (λa d c _=>e a d _ c az az) λb _ a y w d _ _ c=>e a d _ c az az,λk n=>?_,h.gJ,h.apart,h.pP⟩,g,by simp[ap,f],λm=>by simp[cE,f]⟩;rcases j.at_ k n with b|b;exact h.nf k b;exact⟨aa,aa⟩
def iA.Cx(h:iA W gb b5 b6 b7 B most dp wv rv nv iv L ns es){s:List aC}{m:List (F×Int)}(D:aT W 0 59 3 v (I s) (bM s))(r:∀f∈L,∀c,bI v=K c->bI f.2≠K c)(q:rV B iv v W J)(k:gF J 0 B x (es++m))(z:∀a∈m,∀c,bI a.1=K c->bI v=K c\/U W.heap<=c)(A:∀a∈m,0<=a.2/\a.2<=1000000000000):
 iA J gb b5 b6 b7 B most dp wv rv nv x L ns (es++m):=by
 have j:∀(b:Nat) g l,cq W b g l->l≠59->l≠37->l≠95->J.heap[b]? =W.heap[b]? :=λb g l e n w y=>q b (bE e) (λa=>mG e h.book.blk w a) (λa=>dS h.book.own e y<|bq a) λa=>dS D e n<|bq a;refine⟨aB (j _ _ _ h.c5 az az az) h.c5,aB (j _ _ _ h.c6 az az az) h.c6,aB (j _ _ _ h.c7 az az az) h.c7,aB (j _ _ _ h.box az az az) h.box,ix h.rows λb g k _=>j b g _ k az az az,λf i=>ix (h.each f i) λb g e C=>?_,ix h.fL λb g k _=>j b g _ k az az az,k,h.nf,λf i a d c E t n u o=>?_,h.apart,λa d=>?_⟩;exact q b (bE e) (λa=>mG e h.book.blk az a) (λa=>dS h.book.own e az<|bq a) λa=>r f i b a C;rcases eP.1 d with d|d;exact h.gJ f i a d c E t n u o;rcases z a d c (gG n) with p|p;exact r f i c p o;have:=((h.each f i).lt c o).2;omega;rcases eP.1 d with d|d;exact h.pP a d;exact A a d
end
def YE(l k:Nat)(v L:F)(i:List aC)(c:List (F×Int))(b:ag)(dw:I i<=1000)(dv:I c<=100000000000)(h:gF b k l L c x)
 (j:aT b k 59 3 v (I i) (bM i)) (ae:k<=l) (b1:∀f∈c,∀Q A D,f.1=aG Q A D->0<A->bI v≠K Q):
 bc 37 #[(aK l),v] b λf ar=>f=aN (cP #[])/\∃b7 m,I m=4/\gF ar k l b7 (c++m) x/\(∀f∈m,f.2=(I c:Int))/\
  (∀f∈m,∀a,bI f.1=K a->bI v=K a\/U b.heap<=a)/\rV l L v b ar/\(∀a,bI b7=K a->bI L=K a\/U b.heap<=a)/\U b.heap<=U ar.heap/\dZ k b ar:=by
 have⟨c2,G,cZ,c0,c1⟩:=eW aE.mg;have⟨b6,bK,b3,b4,b5⟩:=eW aE.Vm;have cn:k<=U b.heap:=cA<|bE h.blk;obtain⟨p,q,rfl⟩:=wM j;obtain⟨z,y,rfl⟩:=wM h.own;have⟨be,bh⟩:=h.cells;have t:=aA h;obtain⟨d,H⟩:∃d,d=mkV (I c:Int):=⟨_,rfl⟩;have bQ:d.null=aj:=gG H;have bT:d.n= -1-(I c:Int):=gG H;have bW:d.s=⟨#[109,97,114,107]⟩:=gG H;have ca:=aA H;have bj:=t.o.other (xq b (aq #[ak d.null,z9 d.n,ay d.s] 59) Z) λa g=>de g;have bo:=j.alloc<|aq #[ak d.null,z9 d.n,ay d.s] 59;have bk:rV l (ah z (I c) y) (ah p (I i) q) b (b.alloc<|aq #[ak d.null,z9 d.n,ay d.s] 59):=by
  intro a g _ _ _;rw[fM _ _ a g]
 have bi:dZ k b (b.alloc<|aq #[ak d.null,z9 d.n,ay d.s] 59):=(bN _ _).alloc cn _;have bs:cq (b.alloc<|aq #[ak d.null,z9 d.n,ay d.s] 59) (U b.heap) #[ak d.null,aJ aM d.n,ay d.s] 59:=lF b _;have br:U b.heap+1<=(b.alloc<|aq #[ak d.null,aJ aM d.n,ay d.s] 59).heap.size:=aI;rw[bQ,bT,bW] at bj bo bk bi bs br;have bH:∀a,bI (ah p (I i) q)=K a->a≠U b.heap:=λa g=>cA<|(j.lt a g).2;go_enter aE.func37,Tryz.ntmps37;go_wp2_with fail
 skip
 generalize b.alloc (aq #[ak aj,z9<|-1-(I c:Int),ay ⟨#[109,97,114,107]⟩] 59)=dd at*
 go_loopw [6] (λJ wr=>∃e:Nat,e<=I i/\J=z9 e/\aT wr k 59 3 (ah p (I i) q) (I i) (bM<|dH e d++i.drop e)/\gF wr k l (ah z (I c) y) c x/\rV l (ah z (I c) y) (ah p (I i) q) b wr/\dZ k b wr/\cq wr (U b.heap) #[ak aj,z9<|-1-(I c:Int),ay ⟨#[109,97,114,107]⟩] 59/\U b.heap+1<=U wr.heap) (λJ _=>I i-bO (bB J))
 exact⟨0,cH _,rfl,by simp only[List.replicate_zero,s6,tW];exact bo,bj,bk,bi,bs,br⟩;obtain⟨e,cy,rfl,j,S,am,M,T,b2⟩:=hrel;have bd:=aA am;have t:=aA S;have B:=aA T;have⟨da,db,dc,_⟩:=sj T;by_cases a4:e<I i
 .have⟨a,cp⟩:=LJ j aa;subst cp;have bm:I (dH e d++i.drop e)=I i:=bS;have⟨c7,c8,c9⟩:=tJ (dH e d++i.drop e) e<|bV bm a4;have bz:=s0 j (e*3) aa;have bC:=s0 j (e*3+1) aa;have bD:=s0 j (e*3+2) aa;rw[c7] at bz;rw[c8] at bC;rw[c9] at bD;obtain⟨u0,dp⟩:∃ad,bl wr a (e*3) ad:=⟨_,bz⟩;obtain⟨u1,dq⟩:∃ad,bl wr a (e*3+1) ad:=⟨_,bC⟩;obtain⟨u2,dr⟩:∃ad,bl wr a (e*3+2) ad:=⟨_,bD⟩;have ds:=vV j<|e*3;have dt:=vV j<|e*3+1;have du:=vV j<|e*3+2;have⟨b8,bb⟩:=t.o.store j (λf u Q A D E R g=>b1 f u Q A D E R<|by rw[<-g];rfl) e d<|bV bm a4;rw[adq i e a4] at bb;have al:=bd.o.step aa (G7 wr a e (ak d.null) (z9 d.n)<|ay d.s) (λQ bF=>ai<|ai<|av<|by simp at bF;subst bF;rfl);have co:=bH a Y;have bx:(((wr.setCell ⟨a,e*3,Z⟩<|ak d.null).setCell ⟨a,e*3+1,Z⟩<|z9 d.n).setCell ⟨a,e*3+2,Z⟩<|ay d.s).heap[U b.heap]? =K (aq #[ak aj,z9<|-1-(I c:Int),ay ⟨#[109,97,114,107]⟩] 59 (0,0)):=by
   rw[(G7 wr a e (ak d.null) (z9 d.n)<|ay d.s).block (U b.heap) (by omega) λf=>co<|by cases f;rfl];exact B.o
  have aR:=(j.lt a Y).1;have bu:dZ k b (((wr.setCell ⟨a,e*3,Z⟩<|ak d.null).setCell ⟨a,e*3+1,Z⟩<|z9 d.n).setCell ⟨a,e*3+2,Z⟩<|ay d.s):=((M.setCell aR _).setCell aR _).setCell aR _;rw[bQ,bT,bW] at b8 bb al bx bu;have aD:=aA al;go_wp2
  go_roundw
  case rel=>exact⟨e+1,aa,by go_num,bb,b8,aD.o,bu,bx,cN b2⟩
  case measure=>simp[bB];omega
 have cK:e=I i:=aa;subst cK;rw[za<|aZ _,l5] at j;have⟨be,bh⟩:=t.o.cells;rw[ca.o] at j;go_wp2_with (at_builtin;refine wpList_append_own_at _ Y _ _ 33 Y k 95 b6 (bZ #[aF,z9 0]) 2 32 aE.underlying33 bK b3 b4 b5 Y az _ _ _ Y (t.o.own.alloc _) ⟨U wr.heap,0,Z⟩ 1 1 [ah p (I i) q,n9<|I c] Y Y LP LQ (by unfold aV;omega) (by omega) (by simp;omega) ?_;intro dE r w O _ ci;have⟨df,di⟩:=t.o.Jb O;obtain⟨W,V,rfl⟩:=wM w);have⟨c3,c4⟩:=t.o.push (wm.mk j<|by omega) j ae w O;have cl:dZ k b (r.setCell ⟨l,1,Z⟩<|ah W (I c+1) V):=(jy (M.alloc aa _) O bS λab G=>(t.o.own.lt ab G).1).setCell ae _;have cx:U b.heap+1<=(r.setCell ⟨l,1,Z⟩<|ah W (I c+1) V).heap.size:=by have:=O.size;simp at this ⊢;omega
 have aD:X _:=bd.o.push (o:=aq #[ah p (I i) q,n9<|I c] 95) aa (λ_ h=>av h) O<|ah W (I c+1) V;have cc:X (∀a,bI (ah W (I c+1) V)=K a->bI (ah z (I c) y)=K a\/U b.heap<=a):=λa g=>eD ci (λh=>av<|aB h.symm g) (λh=>ai<|by rw[h] at g;cases g;simp;omega);have cd:X ((r.setCell ⟨l,1,Z⟩<|ah W (I c+1) V).heap[U b.heap]? =K (aq #[ak aj,z9<|-1-(I c:Int),ay ⟨#[109,97,114,107]⟩] 59 (0,0))):=by
  show _=_;have aU:=t.o.blk;rw[ei r ⟨l,1,Z⟩ (U b.heap) _ λf=>mG B.o aU (by decide) f,O.block (U b.heap) (by simp;omega) (λf=>by
   have⟨cf,a0⟩:=vu t.o.own<|bq f;exact mG B.o a0 az Y),fM wr _ (U b.heap)<|by omega]
  exact B.o
 go_loopw [1,7] (λba J wr=>∃(e s:Nat) (L:F) (m:List (F×Int)),e<=3/\J=z9 e/\s<=1000+e/\I m=e+1/\(∀f∈m,f.2=(I c:Int))/\gF wr k l L (c++m) x/\(∀a,bI L=K a->bI (ah z (I c) y)=K a\/U b.heap<=a)/\aT wr k 59 3 ba s (bM<|dH s<|mkV (I c:Int))/\
  Ef ba s (I c:Int) (c++m)/\(∀f∈m,∀a,bI f.1=K a->bI (ah p (I i) q)=K a\/U b.heap<=a)/\(∀a,bI ba=K a->(bI (ah p (I i) q)=K a\/U b.heap<=a)/\a≠U b.heap)/\rV l (ah z (I c) y) (ah p (I i) q) b wr/\dZ k b wr/\cq wr (U b.heap) #[ak aj,z9<|-1-(I c:Int),ay ⟨#[109,97,114,107]⟩] 59/\U b.heap+1<=U wr.heap) (λ_ J _=>3-bO (bB J))
 refine⟨0,I i,_,[(ah p (I i) q,(I c:Int))],aa,rfl,aa,rfl,aI,c3,cc.o,c4,?_,?_,λa g=>⟨av g,bH a g⟩,aD.o,cl,cd.o,cx⟩;intro f u a A D E R a6;rcases eP.1 u with o|o;exact absurd a6<|b1 f o a A D E R;simp at o;subst o;simp only[j9] at E;exact⟨rfl,aa⟩;intro f u a g;simp at u;subst u;exact av g;obtain⟨e,s,L,m,cy,rfl,dx,a1,H,S,a3,j,cu,bv,a5,am,M,T,b2⟩:=hrel;have B:=aA T;have⟨da,db,dc,_⟩:=sj T
 skip
 have dy:I (c++m)<=100000000004:=by rw[cJ,a1];omega
 skip
 generalize a2:c++m=aH at*
 skip
 obtain⟨dC,dA,rfl⟩:=wM S.own;by_cases dl:e<3
 .obtain⟨dL,dK,rfl⟩:=wM j;go_wp2_with (first
   |(at_builtin;refine jR Y (.tmp 42) (.tmp 44) 43 Y k 59 c2 _ 3 32 aE.underlying43 G cZ c0 c1 Y az _ s _ Y (j.alloc _) ⟨U wr.heap,0,Z⟩ 1 1 [ak aj,z9<|-1-(I c:Int),ay ⟨#[109,97,114,107]⟩] Y az Y (lU _) (lz<|mkV (I c:Int)) fW aa bS ?_;intro dO r w N;rw[show[ak aj,z9<|-1-(I c:Int),ay ⟨#[109,97,114,107]⟩]=[ak (mkV (I c:Int)).null,z9 (mkV (I c:Int)).n,ay (mkV (I c:Int)).s] from rfl,adp] at w N;have⟨aQ,cv⟩:=S.grow cu j w N;have C:=aA aQ;have⟨be,bh⟩:=aQ.cells;obtain⟨ao,an,rfl⟩:=wM w;clear aQ)
   |(at_builtin;refine wpList_append_own_at _ Y (.tmp 50) (.tmp 54) 33 Y k 95 b6 (bZ #[aF,z9 0]) 2 32 aE.underlying33 bK b3 b4 b5 Y az _ _ _ Y (C.o.own.alloc _) ⟨U r.heap,0,Z⟩ 1 1 [ah ao (s+1) an,n9<|I c] Y Y LP LQ (by unfold aV;omega) (by omega) (by have:=bE C.o.blk;simp;omega) ?_;intro dJ aw b0 P _ ck;have⟨dg,dk⟩:=C.o.Jb P;obtain⟨a9,a8,rfl⟩:=wM b0))
  have⟨c5,c6⟩:=C.o.push (wm.mk w<|by omega) w ae b0 P;have cM:dZ k b r/\U wr.heap<=U r.heap:=by
   rcases N with⟨n,_⟩|⟨_,n⟩;exact⟨jy (M.alloc aa _) n bS aI,by have:=n.size;simp at this;omega⟩;exact⟨jy (M.alloc aa _) n bS λab G=>(j.lt ab G).1,by have:=n.size;simp at this;omega⟩
  have cO:dZ k b aw:=jy (cM.1.alloc aa _) P bS λab G=>(C.o.own.lt ab G).1;have dz:U r.heap<=U aw.heap:=by have:=P.size;simp at this;omega
  have bP:∀a,bI (ah ao (s+1) an)=K a->(bI (ah p (I i) q)=K a\/U b.heap<=a)/\a≠U b.heap:=by
   intro a g;rcases N with⟨_,ch⟩|⟨n,_⟩;have:=(ch.lt a g).1;simp at this;exact⟨ai aa,aa⟩;exact a5 a<|aB (bq n) g
  have a7:r.heap[U b.heap]? =K (aq #[ak aj,z9<|-1-(I c:Int),ay ⟨#[109,97,114,107]⟩] 59 (0,0)):=by
   rcases N with⟨n,_⟩|⟨_,n⟩;rw[n.block (U b.heap) (by simp;omega)<|by simp,fM wr _ (U b.heap)<|by omega];exact B.o;rw[n.block (U b.heap) (by simp;omega) λf=>(a5 _ (bq f)).2 Y,fM wr _ (U b.heap)<|by omega];exact B.o
  have cW:(aw.setCell ⟨l,1,Z⟩<|ah a9 (I aH+1) a8).heap[U b.heap]? =K (aq #[ak aj,z9<|-1-(I c:Int),ay ⟨#[109,97,114,107]⟩] 59 (0,0)):=by
   have aU:=C.o.blk;rw[ei aw ⟨l,1,Z⟩ (U b.heap) _ λf=>mG a7 aU (by decide) f,P.block (U b.heap) (by simp;omega) (λf=>by
    have⟨cf,a0⟩:=vu C.o.own<|bq f;exact mG a7 a0 az Y),fM r _ (U b.heap)<|by omega]
   exact a7
  have al:rV l (ah z (I c) y) (ah p (I i) q) b r:=by
   have bL:=am.step aa (xq wr (aq #[ak aj,z9<|-1-(I c:Int),ay ⟨#[109,97,114,107]⟩] 59) Z) λa g=>de g;rcases N with⟨n,_⟩|⟨_,n⟩;exact bL.step bS n λa g=>de g;exact bL.step bS n λa g=>ai<|ai (a5 a g).1
  have cs:=al.push (o:=aq #[ah ao (s+1) an,n9<|I c] 95) aa a3 P<|ah a9 (I aH+1) a8;have cr:∀a,bI (ah a9 (I aH+1) a8)=K a->bI (ah z (I c) y)=K a\/U b.heap<=a:=λa g=>eD ck (λh=>a3 a<|aB h.symm g) (λh=>ai<|by rw[h] at g;cases g;simp;omega);refine⟨⟨e+1,s+1,_,m++[(ah ao (s+1) an,(I c:Int))],aa,by go_num,aa,by rw[cJ,a1];rfl,W4 H,by rw[<-ij,a2];exact c5,cr,c6,?_,?_,bP,cs,cO.setCell ae _,cW,bS⟩,by simp[bB];omega⟩;rw[<-ij,a2];intro f u a A D E R a6;rcases eP.1 u with o|o;exact cv f o a A D E R a6;simp at o;subst o;simp only[j9] at E;exact⟨rfl,aa⟩;intro f u a g;rcases eP.1 u with o|o;exact bv f o a g;simp at o;subst o;exact(bP a g).1
 go_wp2;go_end0;exact⟨rfl,_,m,jC a1,bV a2 S,H,bv,am,a3,aa,M⟩
def adk{a:List (F×Int)}(h:gF w n m v a):
 ap w ⟨m,0,Z⟩=K (ah Z 0 0)/\ap w ⟨m,1,Z⟩=K v/\ap w ⟨m,2,Z⟩=K (ah Z 0 0)/\ap w ⟨m,3,Z⟩=K (ah Z 0 0):=by
 have:=h.blk;exact⟨by simp[ap,this],by simp[ap,this],by simp[ap,this],by simp[ap,this]⟩
def Xk(a:ag)(m:Int):(binOp .neq 59 (bZ #[ak aj,z9<|-1-m,ay ⟨#[109,97,114,107]⟩])<|bZ #[ak aj,z9<|-1-m,ay ⟨#[109,97,114,107]⟩]).run (aH ax) a=cm (ak aj) a:=by
 have:=MQ a (mkV m)<|mkV m;rw[tK.2 Y] at this;exact this
def adu(f R:Nat)(aC:F)(d:List (F×Int))(l:ag)(a4:I d<=100000000000)(h:gF l R f aC d)(an:∀t∈d,0<=t.2/\t.2<=1000000000000):
 bc 16 #[(aK f)] l λt aH=>t=aN (ak af)/\aD l aH:=by
 obtain⟨az,G,rfl⟩:=wM h.own;have⟨a0,B,S,T⟩:=adk h;have N:=aA<|bE h.blk
 skip
 go_enter aE.func16,Tryz.ntmps16;go_wp2_with fail;refine wp_loop_rounds 1 ?_;rw[rounds_succ];go_wp2_with fail
 skip
 go_loopw [5] (λo wr=>∃a:Nat,a<=I d/\o=z9 a/\aD l wr) (λo _=>I d-bO (bB o))
 exact⟨0,cH _,rfl,bN _ _⟩;obtain⟨a,a7,rfl,k⟩:=hrel;have w:=N.o;have V:bl wr f 1 (ah az (I d) G):=aB (bA k (p:=⟨f,1,Z⟩) w) B;have a1:bl wr f 2 aF:=aB (bA k (p:=⟨f,2,Z⟩) w) S;have a2:bl wr f 3 aF:=aB (bA k (p:=⟨f,3,Z⟩) w) T;have q:=aA k;have ao:=k.size;by_cases A:a<I d
 .have⟨j,al⟩:=LJ h.own aa;subst al;have z:=(h.own.lt j Y).2;have E:=TU d a A;have u:=s0 h.own (a*2) aa;rw[show a*2=2*a by omega,E.1] at u;have C:=s0 h.own (a*2+1) aa;rw[show a*2+1=2*a+1 by omega,E.2] at C;have⟨x,p,y,aw,a5,ae⟩:=h.full d[a]<|dm A;have⟨a9,ba⟩:=an d[a]<|dm A;rw[aw] at u;generalize d[a].2=m at*;have M:bl wr j (a*2) (ah x p y):=aB (bA q.o (p:=⟨j,a*2,Z⟩) z)<|bV (show a*2=2*a by omega) u;have aI:bl wr j (a*2+1) (z9 m):=aB (bA q.o (p:=⟨j,a*2+1,Z⟩) z)<|bV (show a*2+1=2*a+1 by omega) C;have P:X (bl l j (a*2)<|ah x p y):=by show _=_;rw[show a*2=2*a by omega];exact u
  have a6:=λl=>Xk l m;go_wp2_with fail;have ad:=lF wr<|aq #[ak aj,z9<|-1-m,ay ⟨#[109,97,114,107]⟩] 59 (0,0);have r:X (aD l<|wr.alloc<|aq #[ak aj,z9<|-1-m,ay ⟨#[109,97,114,107]⟩] 59):=q.o.alloc ao _
  skip
  generalize a3:U wr.heap=W at*;generalize wr.alloc (aq #[ak aj,z9<|-1-m,ay ⟨#[109,97,114,107]⟩] 59)=e at*
  go_loopw [7] (λo i=>∃b:Nat,b<=p/\o=z9 b/\∃n,i=cI e n) (λo _=>p-bO (bB o))
  exact⟨0,cH _,rfl,0,rfl⟩;obtain⟨b,a8,rfl,n,g⟩:=hrel
  rename ag=>i
  have V:ap i ⟨f,1,Z⟩=K (aG j (I d) G):=by rw[g];exact aB (bA r.o (p:=⟨f,1,Z⟩) w) B
  have M:ap i ⟨j,a*2,Z⟩=K (ah x p y):=by rw[g];exact aB (bA r.o (p:=⟨j,a*2,Z⟩) z) P.o
  have ab:i.heap[W]? =K (aq #[ak aj,aJ aM<|-1-m,ay ⟨#[109,97,114,107]⟩] 59 (0,0)):=bV g ad;have⟨bb,bd,be,_⟩:=sj ab;have Q:X (i=cI e n):=g;by_cases ar:b<p
  .have⟨c,s,am,k,D⟩:=ae aa;subst am;have⟨H,J,L⟩:=D b ar;have v:e.heap[c]? =K (aq s 59 (0,0)):=by rw[cT r.o c<|bE k];exact k
   have aQ:ap i ⟨c,b*3,Z⟩=K (ak aj):=by
    rw[g,show ap (cI e n) ⟨c,b*3,Z⟩=ap e ⟨c,b*3,Z⟩ from rfl,cell_of_row e c (b*3) s 59 (0,0) v];exact H
   have aR:ap i ⟨c,b*3+1,Z⟩=K (z9<|-1-m):=by
    rw[g,show ap (cI e n) ⟨c,b*3+1,Z⟩=ap e ⟨c,b*3+1,Z⟩ from rfl,cell_of_row e c (b*3+1) s 59 (0,0) v];exact J
   have aU:ap i ⟨c,b*3+2,Z⟩=K (ay ⟨#[109,97,114,107]⟩):=by
    rw[g,show ap (cI e n) ⟨c,b*3+2,Z⟩=ap e ⟨c,b*3+2,Z⟩ from rfl,cell_of_row e c (b*3+2) s 59 (0,0) v];exact L
   clear g k D v H J L;go_wp2_with fail;go_quiet (fail);go_wp2
   go_roundw
   case rel=>exact⟨b+1,by omega,by go_num,n+nq,by rw[Q.o];exact World.drewN_drewN _ _ _⟩
   case measure=>simp[bB];omega
  .have O:X (aD l i):=by rw[g];exact below_drewN r.o n
   clear g;go_wp2
   go_roundw
   case rel=>exact⟨a+1,by omega,by go_num,O.o⟩
   case measure=>simp[bB];omega
 go_wp2_with fail;refine wp_loop_rounds 1 ?_;rw[rounds_succ];go_wp2_with fail;refine wp_loop_rounds 1 ?_;rw[rounds_succ];go_wp2;go_ret;exact⟨rfl,q.o⟩
def YU(a b:Int)(e:ag)(n:1<=b)(o:b<=1000)(k: -9223372036854775808<=a)(l:a<=9223372036854775807):bc 23 #[z9 a,z9 b] e λf h=>h=e/\∃c,f=aN (z9 c)/\0<=c/\c<b:=by
 by_cases m:a<0
 .have i:cY (a+1)=a+1:=by unfold cY;omega
  have j:cY (-(a+1))= -(a+1):=by unfold cY;omega
  have d:=tmod_neg (a+1) b aa aa;have g:cY (-((a+1).tmod b))= -((a+1).tmod b):=by unfold cY;omega
  go_enter aE.func23,Tryz.ntmps23;go_wp2;go_ret;exact⟨rfl,_,rfl,d⟩
 .have d:=N8 a b aa aa;have g:cY (a.tmod b)=a.tmod b:=by unfold cY;omega
  go_enter aE.func23,Tryz.ntmps23;go_wp2;go_ret;exact⟨rfl,_,rfl,Int.emod_nonneg _ aa,Int.emod_lt_of_pos _ aa⟩
end Ec
namespace Un
open Go.RowKit
section
variable{P:Program}{J:Array cC}{Q:Exit->bt->ag->Prop}{R:Region.Mode}{S:ag->Prop}{u:Nat}
def Any (P:Program)(R:Region.Mode)(J:Array cC)(Q:Exit->bt->ag->Prop)(S:ag->Prop)(u:Nat):Nat->Array Bool->bt->ag->Prop
 |0,listed,a,b=>fY R J listed=[]/\Q cX a b
 |n+1,listed,a,b=>(fY R J listed=[]->Q cX a b)/\
  ∀c∈fY R J listed,wpOp P J Q c (λe d=>(cB (cS listed c af) u af=aj->S d)/\Any P R J Q S u n (cS listed c af) e d) a b
theorem Ei:∀(n:Nat) (listed:Array Bool) (b:bt) (c:ag),Any P R J Q S u n listed b c->wpAny P R J Q n listed b c
 |0,_,_,_,a=>a
 |n+1,_,_,_,a=>⟨a.1,λf e=>wpOp_mono (λd g h=>Ei n _ d g h.2)<|a.2 f e⟩
def waits(R:Region.Mode)(J:Array cC)(u b:Nat):Bool:=
 match J[u]? with
 |some c=>c.after.any λa=>jl R a&&a.on==b
 |none=>aj
def F1{listed:Array Bool}(d:waits R J u n=af)(e:cB listed n af=aj):u∉fY R J listed:=by
 intro j;obtain⟨-,k,i,g⟩:=mem_ready.1 j;unfold waits at d;rw[i] at d;have⟨f,h,c⟩:=Array.any_eq_true'.1 d;simp only[fe,beq_iff_eq] at c;have a:=g f h c.1;rw[c.2] at a;rcases jc n (U listed) with b|b;simp[b] at e a;rw[e] at a;cases a;simp[uG b] at a
def first(w:J[n]? =K Qs)(D:∀(a:Nat) (I:cC) k j,J[a]? =K I->I.op≠.select k j)(an:waits R J u n=af)(ad:u≠n)
 (O:∀z c e,Q (ig z) (bw c Qs.dst v) e->Q (ig z) c e):
 ∀(o:Nat) (listed:Array Bool) (c:bt) (e:ag),
  (∀a g,J[a]? =K g->a≠n->cB listed a af=aj->(∀b∈ri g,jl R b=af->b.on≠n)->Qs.apart J g=af)->
  n∈fY R J listed->cB listed u af=aj->YieldsIf P J S Qs v c->S e->
  Any P R J Q S u o (cS listed n af) (bw c Qs.dst v) e->Any P R J Q S u (o+1) listed c e:=by
 intro o
 induction o with
 |zero=>
  intro listed c e _ y E r l i;refine⟨λM=>bu,λa m=>?_⟩;by_cases d:a=n;subst d;exact r.wpOp w l ⟨λ_=>l,i⟩;have:=ready_mono m d;rw[i.1] at this;cases this
 |succ o ao=>
  intro listed c e A y E r l i;refine⟨λM=>bu,λa m=>?_⟩;by_cases d:a=n;subst d;exact r.wpOp w l ⟨λ_=>l,i⟩;have t:=(mem_ready.1 y).1;have Z:a≠u:=λb=>F1 an t<|b▸m;have f:=i.2 a<|ready_mono m d;have⟨C,g,x,T⟩:=mem_ready.1 m;have al:∀b∈ri g,jl R b=af->b.on≠n:=λb W V X=>by
   have f:=T b W V;rw[X] at f;rcases jc n (U listed) with s|s;simp[s] at t f;rw[t] at f;cases f;simp[uG s] at f
  have N:=wpOp_putIf x (A a g x d C al) (λk j=>D n Qs k j w) (λk j=>D a g k j x) O r f;have Y:∀h p,J[h]? =K p->h≠n->cB (cS listed a af) h af=aj->
   (∀b∈ri p,jl R b=af->b.on≠n)->Qs.apart J p=af:=λh p aa ab H ae=>by
   refine A h p aa ab ?_ ae;by_cases B:a=h;subst B;exact C;rw[getD_set_ne af B] at H;exact H
  have am:cB (cS listed a af) u af=aj:=nE;have G:cB (cS (cS listed n af) a af) u af=aj:=by rw[getD_set_ne af Z,getD_set_ne af ad.symm];exact E
  refine wpOp_mono (λL ar q=>⟨λ_=>q.2.1 G,ao (cS listed a af) L ar Y (ready_mono y<|Ne.symm d) am q.1 (q.2.1 G) ?_⟩) N;rw[Array.setIfInBounds_comm _ _ d];exact q.2.2
def T1(t:J[n]? =K Qs)(G:∀(a:Nat) (L:cC) l k,J[a]? =K L->L.op≠.select l k)(w:u≠n)
 (O:∀A e f,Q (ig A) (bw e Qs.dst v) f->Q (ig A) e f):
 ∀(m:Nat) (listed:Array Bool) (e:bt) (f:ag),
  (∀a h,J[a]? =K h->a≠n->cB listed a af=aj->(∀c∈ri h,jl R c=af->c.on≠n)->Qs.apart J h=af)->
  n∈fY R J listed->(cB listed u af=aj->S f)->YieldsIf P J (λ_=>True) Qs v e->
  Any P R J Q S u m (cS listed n af) (bw e Qs.dst v) f->Any P R J Q S u (m+1) listed e f:=by
 intro m
 induction m with
 |zero=>
  intro listed e f _ y z r j;refine⟨λb=>bu,λa q=>?_⟩;by_cases d:a=n;subst d;exact r.wpOp t trivial ⟨λb=>z<|by rw[getD_set_ne af w.symm] at b;exact b,j⟩;have:=ready_mono q d;rw[j.1] at this;cases this
 |succ m ae=>
  intro listed e f C y z r j;refine⟨λb=>bu,λa q=>?_⟩;by_cases d:a=n;subst d;exact r.wpOp t trivial ⟨λb=>z<|by rw[getD_set_ne af w.symm] at b;exact b,j⟩;have B:=(mem_ready.1 y).1;have g:=j.2 a<|ready_mono q d;have⟨E,h,x,T⟩:=mem_ready.1 q;have ad:∀c∈ri h,jl R c=af->c.on≠n:=λc W V X=>by
   have g:=T c W V;rw[X] at g;rcases jc n (U listed) with s|s;simp[s] at B g;rw[B] at g;cases g;simp[uG s] at g
  have N:=wpOp_putIf x (C a h x d E ad) (λl k=>G n Qs l k t) (λl k=>G a h l k x) O r g;have Y:∀i o,J[i]? =K o->i≠n->cB (cS listed a af) i af=aj->
   (∀c∈ri o,jl R c=af->c.on≠n)->Qs.apart J o=af:=λi o Z aa I ab=>by
   refine C i o Z aa ?_ ab;by_cases D:a=i;subst D;exact E;rw[getD_set_ne af D] at I;exact I
  have H:cB (cS (cS listed n af) a af) u af=cB (cS listed a af) u af:=by
   rw[Array.setIfInBounds_comm _ _<|Ne.symm d,getD_set_ne af w.symm]
  refine wpOp_mono (λM al p=>⟨λb=>p.2.1<|aB H b,ae (cS listed a af) M al Y (ready_mono y<|Ne.symm d) (λb=>p.2.1<|aB H b) p.1 ?_⟩) N;rw[Array.setIfInBounds_comm _ _ d];exact p.2.2
def take{listed:Array Bool}(b:J[i]? =K Qs)
 (j:Region.noSelect J=af) (e:Region.free R J listed i=af) (g:iT (fY R J listed) i=af) (l:waits R J u i=af) (f:(u==i)=aj) (k:cB listed u af=aj)
 (c:∀a qT w,Q (ig a) (bw qT Qs.dst v) w->Q (ig a) qT w) (hy:YieldsIf P J S Qs v qT) (d:S w)
 (h:Any P R J Q S u n (cS listed i af) (bw qT Qs.dst v) w):Any P R J Q S u (n+1) listed qT w:=
 first b (Region.noSelect_spec j) l (cN f) c n listed qT w (Region.free_spec b e) (cN g) k hy d h
def pick{listed:Array Bool}(b:J[n]? =K Qs)
 (f:Region.noSelect J=af) (e:Region.free R J listed n=af) (i:iT (fY R J listed) n=af) (g:(u==n)=aj)
 (c:∀a qT w,Q (ig a) (bw qT Qs.dst v) w->Q (ig a) qT w) (hy:YieldsIf P J (λ_=>True) Qs v qT) (d:S w)
 (h:Any P R J Q S u m (cS listed n af) (bw qT Qs.dst v) w):Any P R J Q S u (m+1) listed qT w:=
 T1 b (Region.noSelect_spec f) bu c m listed qT w (Region.free_spec b e) bu (λ_=>d) hy h
def one{listed:Array Bool}(k:fY R J listed=[i])(j:J[i]? =K Qs)
 (h:∀a:bt->ag->Prop,X (∀c b,(cB (cS listed i af) u af=aj->S b)->Any P R J Q S u n (cS listed i af) c b->a c b)->if eI Qs (en J qT.tmps)=af then Oper.wp P Qs qT w a Q else a (bw qT Qs.dst bR) w):
 Any P R J Q S u (n+1) listed qT w:=by
 refine⟨λl=>bu,λm d=>?_⟩;rw[k] at d;simp at d;subst d;exact wpOp_step j λa g=>h a λc b e f=>g c b ⟨e,f⟩
def pair{listed:Array Bool}(o:fY R J listed=[i,j])(l:J[i]? =K Qs)(m:J[j]? =K Qt)
 (h:∀a:bt->ag->Prop,X (∀c b,(cB (cS listed i af) u af=aj->S b)->Any P R J Q S u n (cS listed i af) c b->a c b)->if eI Qs (en J qT.tmps)=af then Oper.wp P Qs qT w a Q else a (bw qT Qs.dst bR) w)
 (k:∀a:bt->ag->Prop,X (∀c b,(cB (cS listed j af) u af=aj->S b)->Any P R J Q S u n (cS listed j af) c b->a c b)->if eI Qt (en J qT.tmps)=af then Oper.wp P Qt qT w a Q else a (bw qT Qt.dst bR) w):
 Any P R J Q S u (n+1) listed qT w:=by
 refine⟨λp=>bu,λq g=>?_⟩;rw[o] at g;simp at g;rcases g with rfl|rfl;exact wpOp_step l λa f=>h a λc b d e=>f c b ⟨d,e⟩;exact wpOp_step m λa f=>k a λc b d e=>f c b ⟨d,e⟩
theorem done{listed:Array Bool}(a:fY R J listed=[])(h:Q cX qT w):∀b,Any P R J Q S u b listed qT w
 |0=>⟨a,h⟩
 |_+1=>⟨λ_=>h,by rw[a];simp⟩
def P4{id:Nat}(S:ag->Prop)(u:Nat)(a:P.follows .mixedOrders=af)
 (h:Any P eu J Q S u (U J) (jw (U J) aj) qT w.drew):(iB id J af).wp P Q qT w:=
 wp_region_any a (Ei _ _ _ _ h)
def HP (R:Region.Mode)(J:Array cC)(L:List Nat)(b:Nat):Bool:=dI L λa=>waits R J a b||L.any λc=>waits R J a c
def Ug(z:J[n]? =K Qs)(N:∀(a:Nat) (V:cC) o m,J[a]? =K V->V.op≠.select o m)(aF:HP R J l n=af)(A:u∈l)(aA:n∉l)
 (ab:∀G c f,Q (ig G) (bw c Qs.dst v) f->Q (ig G) c f):
 ∀(q:Nat) (listed:Array Bool) (c:bt) (f:ag),
  (∀a i,J[a]? =K i->a≠n->cB listed a af=aj->(∀b∈ri i,jl R b=af->b.on≠n)->Qs.apart J i=af)->
  n∈fY R J listed->(∀g∈l,cB listed g af=aj)->YieldsIf P J S Qs v c->S f->
  Any P R J Q S u q (cS listed n af) (bw c Qs.dst v) f->Any P R J Q S u (q+1) listed c f:=by
 intro q
 induction q with
 |zero=>
  intro listed c f _ D E t p k;refine⟨λX=>bu,λa j=>?_⟩;by_cases d:a=n;subst d;exact t.wpOp z p ⟨λ_=>p,k⟩;have:=ready_mono j d;rw[k.1] at this;cases this
 |succ q aG=>
  intro listed c f H D E t p k;refine⟨λX=>bu,λa j=>?_⟩;by_cases d:a=n;subst d;exact t.wpOp z p ⟨λ_=>p,k⟩;have x:=(mem_ready.1 D).1;have ao:a∉l:=λar=>by
   have Z:=List.all_eq_true.1 aF a ar;rcases Bool.or_eq_true_iff.1 Z with y|y;exact F1 y x j;have⟨e,B,aa⟩:=xx.1 y;exact F1 aa (E e B) j
  have aw:∀g∈l,a≠g:=λg I b=>ao<|b▸I;have h:=k.2 a<|ready_mono j d;have⟨M,i,C,ad⟩:=mem_ready.1 j;have aD:∀b∈ri i,jl R b=af->b.on≠n:=λb al ae am=>by
   have h:=ad b al ae;rw[am] at h;rcases jc n (U listed) with w|w;simp[w] at x h;rw[x] at h;cases h;simp[uG w] at h
  have Y:=wpOp_putIf C (H a i C d M aD) (λo m=>N n Qs o m z) (λo m=>N a i o m C) ab t h;have an:∀e r,J[e]? =K r->e≠n->cB (cS listed a af) e af=aj->
   (∀b∈ri r,jl R b=af->b.on≠n)->Qs.apart J r=af:=λe r B az T aC=>by
   refine H e r B az ?_ aC;by_cases L:a=e;subst L;exact M;rw[getD_set_ne af L] at T;exact T
  have aE:∀g∈l,cB (cS listed a af) g af=aj:=λg I=>nE;have O:cB (cS (cS listed n af) a af) u af=aj:=by rw[getD_set_ne af<|aw u A,getD_set_ne af (show n≠u from λb=>aA<|b▸A)];exact E u A
  refine wpOp_mono (λW aH s=>⟨λ_=>s.2.1 O,aG (cS listed a af) W aH an (ready_mono D<|Ne.symm d) aE s.1 (s.2.1 O) ?_⟩) Y;rw[Array.setIfInBounds_comm _ _ d];exact s.2.2
def gJ{listed:Array Bool}(c:J[n]? =K Qs)
 (g:Region.noSelect J=af) (f:Region.free R J listed n=af) (p:iT (fY R J listed) n=af) (i:HP R J l n=af) (k:iT l u=af) (o:iT l n=aj) (q:(dI l λb=>cB listed b af==aj)=af)
 (d:∀a qT w,Q (ig a) (bw qT Qs.dst v) w->Q (ig a) qT w) (hy:YieldsIf P J S Qs v qT) (e:S w)
 (h:Any P R J Q S u m (cS listed n af) (bw qT Qs.dst v) w):Any P R J Q S u (m+1) listed qT w:=
 Ug c (Region.noSelect_spec g) i bu bu d m listed qT w (Region.free_spec c f) bu (λb j=>bu) hy e h
def fK (R:Region.Mode)(J:Array cC)(u:Nat)(listed:Array Bool)(a:Nat)(c:Array F)(d:Bool):Bool:=
 Region.noSelect J&&Region.free R J listed a&&iT (fY R J listed) a && !(u==a)&&match J[a]? with
  |some b=>eI b (en J c)==d
  |none=>aj
def ED{listed:Array Bool}(a:J[n]? =K Qs)(h:fK R J u listed n C qW=af):Region.noSelect J=af/\Region.free R J listed n=af/\iT (fY R J listed) n=af/\(u==n)=aj/\eI Qs (en J C)=qW:=by
 unfold fK at h;rw[a] at h;simp only[fe,Bool.not_eq_true',beq_iff_eq] at h;exact⟨h.1.1.1.1,h.1.1.1.2,h.1.1.2,h.1.2,h.2⟩
def Gp(e:X (∀b a (QY:Nat) v c,Q (ig b) (bw a (K QY) v) c->Q (ig b) a c)):∀b a c,Q (ig b) (bw a QY v) c->Q (ig b) a c:=λb a c d=>by
 cases QY with
 |none=>exact d
 |some QY=>exact e.o b a QY v c d
def pk(b:Nat){listed:Array Bool}(h:Any P R J Q S u n (cS listed b af) (bw qT Qs.dst v) w)(c:J[b]? =K Qs:=by rfl)(g:fK R J u listed b qT.tmps af=af:=by kernel_rfl)(d:X (∀a qT (e:Nat) v w,Q (ig a) (bw qT (K e) v) w->Q (ig a) qT w):=by assumption)(f:S w:=by assumption)
 (hy:∀w,(execOp (bp qT) Qs).run P w=cm (fi v) w:=by intro w;go_simp;try with_reducible rfl):Any P R J Q S u (n+1) listed qT w:=
 have a:=ED c g
 pick c a.1 a.2.1 a.2.2.1 a.2.2.2.1 (Gp d) (av ⟨a.2.2.2.2,λw _=>hy w⟩) f h
def sk{listed:Array Bool}(h:Any P R J Q S u m (cS listed n af) (bw qT Qs.dst bR) w)(b:J[n]? =K Qs:=by rfl)(f:fK R J u listed n qT.tmps aj=af:=by kernel_rfl)(c:X (∀a qT (d:Nat) v w,Q (ig a) (bw qT (K d) v) w->Q (ig a) qT w):=by assumption)(e:S w:=by assumption):Any P R J Q S u (m+1) listed qT w:=
 have a:=ED b f
 pick b a.1 a.2.1 a.2.2.1 a.2.2.2.1 (Gp c) (ai ⟨a.2.2.2.2,rfl⟩) e h
def ld(d:List Nat)(c:Nat){listed:Array Bool}(h:Any P R J Q S u n (cS listed c af) (bw qT Qs.dst v) w)(f:J[c]? =K Qs:=by rfl)(b:(fK R J u listed c qT.tmps af&&HP R J d c&&iT d u && !d.contains c&&dI d λj=>cB listed j af==aj)=af:=by kernel_rfl)(g:X (∀a qT (i:Nat) v w,Q (ig a) (bw qT (K i) v) w->Q (ig a) qT w):=by assumption)(k:S w:=by assumption)
 (hy:∀w,S w->(execOp (bp qT) Qs).run P w=cm (fi v) w:=by intro w e;(try dsimp only at e);(repeat obtain⟨_,e⟩:=e);go_simp;try with_reducible rfl):Any P R J Q S u (n+1) listed qT w:=by
 simp only[fe,Bool.not_eq_true'] at b;have a:=ED f b.1.1.1.1;exact gJ f a.1 a.2.1 a.2.2.1 b.1.1.1.2 b.1.1.2 b.1.2 b.2 (Gp g) (av ⟨a.2.2.2.2,hy⟩) k h
def on(a:Nat){listed:Array Bool}
 (h:∀b:bt->ag->Prop,X (∀d c,(cB (cS listed a af) u af=aj->S c)->Any P R J Q S u n (cS listed a af) d c->b d c)->Oper.wp P Qs qT w b Q) (f:fY R J listed=[a]:=by kernel_rfl) (e:J[a]? =K Qs:=by rfl) (i:eI Qs (en J qT.tmps)=af:=by kernel_rfl):Any P R J Q S u (n+1) listed qT w:=
 one f e λb g=>by grind
def open_{id:Nat}(S:ag->Prop)(u:Nat)(d:∀a qT (b:Nat) v w,Q (ig a) (bw qT (K b) v) w->Q (ig a) qT w)
 (h:X (∀a qT (b:Nat) v w,Q (ig a) (bw qT (K b) v) w->Q (ig a) qT w)->Any P eu J Q S u (U J) (jw (U J) aj) qT w.drew) (c:P.follows .mixedOrders=af:=by kernel_rfl):(iB id J af).wp P Q qT w:=P4 S u c<|h d
end
end Un
namespace Ec
open Go.RowKit Pk Pm
def pu.below{a:List (Bd×F)}(h:pu w n v a)(b:aD w u):pu u n v a:=
 ⟨fc h.own b,λd c=>fc (h.each d c) b⟩
def pu.put{c:List (Bd×F)}(h:pu w n v c)(d:w.heap[m]? =K (aq C Qd (0,0)))(g:Qd≠139)(i:Qd≠143)(a:Nat)(b:F):pu (aY w ⟨m,a,Z⟩ b) n v c:=
 ⟨fI h.own (eM w m a b)<|ai (dS h.own d g).symm,λf e=>fI (h.each f e) (eM w m a b)<|ai (dS (h.each f e) d i).symm⟩
def pu.snoc{c:List (Bd×F)}(h:pu w n v c)(j:dx w u v x){b:Bd}(k:aT w n 143 8 y (I b.chunks) (sB b.chunks))
 (l:aT u n 139 2 x (I<|c++[(b,y)]) (xQ<|c++[(b,y)])):pu u n x (c++[(b,y)]):=by
 refine⟨l,λm a=>?_⟩;have e:∀{g:F} {f:Nat} {i:List F},aT w n 143 8 g f i->aT u n 143 8 g f i:=λd=>
  js d j (l8 d h.own az)
 rcases eP.1 a with a|a;exact e<|h.each m a;simp at a;subst a;exact e k
def ac7(a:ag){b:Bd}:∀(c:Nat) (d:F),(uh (b,v))[c]? =K d->ap (cG a<|aq (cR<|uh (b,v)) Qd) ((⟨U a.heap,0,Z⟩:aL).add c)=K d:=
 y6 (iI a _)
def aE.Vg:((aH ax).info? 139).map (λa=>(jH a,a.size,jm a))=K (K<|bZ #[z9 0,aF],2,32):=aR
def sN(a:Nat):I (bh a)<=10:=by unfold bh;exact sM 10 a
def Rf(b:Int)(a:ic)(c:bg a.least.s<=32)(d:bg a.most.s<=32):I (gp b a)<=85:=by
 have e:=yj b a.least c;have f:=yj b a.most d;unfold gp
 split
 .simp only[cJ,oh,ze];omega
 .simp
def Fb{c:Type}(f:c->List Nat)(m:Nat)(a:List c)(h:∀b∈a,I (f b)<=m):I (a.flatMap f)<=I a*m:=by
 induction a with
 |nil=>simp
 |cons b k e=>
  rw[kX,cJ,oh,Nat.succ_mul];have i:=h b (by simp);have j:=e (λg d=>h g<|by simp[d]);omega
def Sr{a:List bx}(h:∀c∈a,bg c.name<=16)(b:n<I a):I (xO a qZ n)<=28:=by
 have d:=sN (aW a n ⟨⟨#[]⟩,0⟩).name.size;have e:=h _ (by rw[ep,dV b];exact dm b:aW a n ⟨⟨#[]⟩,0⟩∈a);unfold xO;rw[cJ,cJ,cM];simp only[oh,ze];omega
def Jh{a:List bx}{es:List Int}(h:∀c∈a,bg c.name<=16)(b:Nat)(e:b<=I a):I (ny a es b)<=b*28:=by
 have:=Fb (xO a es) 28 (fp b) (λf d=>Sr h<|by grind);simpa [ny] using this
def w9(h:w.heap[n]? =K (aq #[v,x] Qd (0,0))):ap w ⟨n,0,Z⟩=K v/\ap w ⟨n,1,Z⟩=K x:=by
 refine⟨?_,?_⟩<;>simp[ap,h]
def Of(a:ag):∀(b:Nat) (c:F),[v,x][b]? =K c->ap (cG a<|aq #[v,x] Qd) ((⟨U a.heap,0,Z⟩:aL).add b)=K c:=
 y6 (iI a _)
def adt(a:Nat):0<I (bh a):=by
 unfold bh jP
 split<;>simp
def La{b:List bx}(h:nJ b):∀a∈b,bg a.name<=16:=by
 intro a c;obtain⟨e,d,rfl⟩:=m9 c;have:=(h.2.2 e d).1;simp[oU] at this;omega
def Ow:jd ⟨aj,0,⟨#[]⟩⟩:=⟨az,az,az⟩
def p7 (b:Int)(a:ic):Prop:=a=hU\/(a.there=af/\VK b a.least/\VK b a.most/\¬ 0<gv a.least a.most)
def jr (a:ic):Array F:= #[ak a.there,ak a.least.null,z9 a.least.n,ay a.least.s,ak a.most.null,z9 a.most.n,ay a.most.s]
theorem Kp.Gq(d:U w.heap<=m):∀(f:List F) (a:Nat) (b:ag),Kp n w b->Kp n w (m5 b m a f)
 | [],_,_,c=>c
 |v::e,a,b,c=>Kp.Gq d e (a+1) _<|c.grown (eM b m a v) λh g=>bu
def M5{a:ic}(h:w.heap[n]? =K (aq (jr a) Qd (0,0))):(ap w ⟨n,0,Z⟩=K (ak a.there)/\ap w ⟨n,1,Z⟩=K (ak a.least.null)/\ap w ⟨n,2,Z⟩=K (z9 a.least.n)/\ap w ⟨n,3,Z⟩=K (ay a.least.s)/\ap w ⟨n,4,Z⟩=K (ak a.most.null)/\ap w ⟨n,5,Z⟩=K (z9 a.most.n)/\ap w ⟨n,6,Z⟩=K (ay a.most.s))/\∀b,cE w ⟨n,b,Z⟩=aj:=by
 unfold jr at h;refine⟨⟨?_,?_,?_,?_,?_,?_,?_⟩,λb=>by simp[cE,h]⟩<;>simp[ap,h]
def DY (h:ag)(e c:Nat)(s:ByteArray)(b:Int)(d:gN)(f:ag):Prop:=
 Kp e h f/\((∃a:ic,d=aN (IX a)/\p7 b a/\aQ (bytesOf s) c (gp b a)/\c+I (gp b a)<=bg s/\f.heap[e]? =K (bQ s<|c+I (gp b a)))\/
  (∃g,d=gO (g4 g)/\∀a:ic,p7 b a->¬aQ (bytesOf s) c (gp b a)))
def Zx(a:Int)(F:a=1\/a=2\/a=3)(b c:Nat)(s:ByteArray)(f:ag)(az:s.size<=aV)(aF:c<=s.size)(h:f.heap[b]? =K (bQ s c)):
 bc 131 #[(aK b),z9 a] f (DY f b c s a):=by
 have b4:=bE h;have bv:X ((f.alloc<|aq (jr hU) 141).heap[b]? =K (bQ s c)):=by
  show _=_;rw[fM _ _ b b4];exact h
 have a1:X (Kp b f<|f.alloc<|aq (jr hU) 141):=(Kp.refl b f).alloc _;have b5:X (∀c,c<=s.size->∀aI,aQ (bytesOf s) c aI->c+I aI<=s.size):=λc aF aI e=>by have:=o9 e (by rw[cM];exact aF);rwa [cM] at this
 go_enter aE.func131,Tryz.ntmps131;go_wp2_with fail;refine bG (Es b c s az aF bv.o) ?_;rintro m bd ⟨an,⟨co,rfl,k,H,a5,a7⟩|⟨t,rfl,y⟩⟩;rotate_left
 .have w:X (∀i:ic,p7 a i->¬aQ (bytesOf s) c (gp a i)):=λi k e=>by
   rcases k with rfl|⟨r,-⟩;exact y 0 (av Y) e;unfold gp at e;rw[if_pos r] at e;exact y 1 (ai Y) (dw.1 e).1
  have A:=aA<|a1.o.trans an;go_wp2;exact⟨rfl,A.o,ai ⟨t,rfl,w.o⟩⟩
 .have A:=aA<|a1.o.trans an;have R:X (cq bd (U f.heap) (jr hU) 141):=Kp.block an (lF f _) aa;rcases k with rfl|rfl;have bF:=aA<|MC R.o;have ab:=aA<|World.rangeAt_setCells_same _ _ _ _ bF.o;have⟨⟨bH,bK,bL,bM,bP,bS,bT⟩,u⟩:=M5 R.o;have ca:=u 0;have cc:=u 1;have cd:=u 2;have cf:=u 3;have ch:=u 4;have ci:=u 5;have ck:=u 6;have T:X (DY f b c s a (aN<|bZ (jr hU).toList.toArray)<|m5 bd (U f.heap) 0<|dY<|jr hU):=⟨Kp.Gq (aZ _) _ _ _ A.o,av ⟨hU,rfl,av Y,H,a7,(zA aa _ _ _).trans a5⟩⟩;go_wp2;exact LV Tryz.results131 Y Y ab.o aE.underlying141 Y aR T.o
  .skip
   skip
   go_upto_region 3 with fail;have bs:X (∀g,g.heap[b]? =K (bQ s<|c+1)->bc 153 #[(aK b),z9 a] g λm q=>Kp b g q/\((∃v:aC,m=aN (bZ<|eC v)/\VK a v/\aQ (bytesOf s) (c+1) (dc a v)/\c+1+I (dc a v)<=s.size/\q.heap[b]? =K (bQ s<|c+1+I (dc a v)))\/(∃t,m=gO (g4 t)/\∀v:aC,VK a v->¬aQ (bytesOf s) (c+1) (dc a v)))):=λg E=>C5 a F b (c+1) s g az a7 E;go_wp2_with fail;refine bG (bs.o _ a5) ?_;rintro m z ⟨ao,⟨j,rfl,aH,aG,a8,a6⟩|⟨t,rfl,y⟩⟩;rotate_left
   .have w:X (∀i:ic,p7 a i->¬aQ (bytesOf s) c (gp a i)):=λi k e=>by
     rcases k with rfl|⟨r,x,-⟩;have:=uA H (show aQ (bytesOf s) c [0] from e) Y;simp at this;unfold gp at e;rw[if_pos r] at e;exact y _ x (dw.1 (dw.1 e).2).1
    have L:=aA<|A.o.trans ao;go_wp2;exact⟨rfl,L.o,ai ⟨t,rfl,w.o⟩⟩
   .skip
    obtain⟨l,G⟩:∃l,l=c+1+I (dc a j):=⟨_,rfl⟩;rw[<-G] at a8 a6;have L:=aA<|A.o.trans ao;have aU:X (cq z (U f.heap) (jr hU) 141):=Kp.block ao R.o aa;have cl:=bE aU.o;have bx:X ((z.alloc<|aq (eC j) 59).heap[b]? =K (bQ s l)):=by
     show _=_;rw[fM _ _ b<|by omega];exact a6
    have bu:X (∀g,g.heap[b]? =K (bQ s l)->bc 153 #[(aK b),z9 a] g λm q=>Kp b g q/\((∃v:aC,m=aN (bZ<|eC v)/\VK a v/\aQ (bytesOf s) l (dc a v)/\l+I (dc a v)<=s.size/\q.heap[b]? =K (bQ s<|l+I (dc a v)))\/(∃t,m=gO (g4 t)/\∀v:aC,VK a v->¬aQ (bytesOf s) l (dc a v)))):=λg E=>C5 a F b l s g az a8 E;go_upto_region 4 with fail;go_wp2_with fail;refine bG (bu.o _ bx.o) ?_;rintro m n ⟨P,⟨d,rfl,bb,ba,b3,b1⟩|⟨t,rfl,y⟩⟩;rotate_left
    .have w:X (∀i:ic,p7 a i->¬aQ (bytesOf s) c (gp a i)):=λi k e=>by
      rcases k with rfl|⟨r,x,D,-⟩;have:=uA H (show aQ (bytesOf s) c [0] from e) Y;simp at this;unfold gp at e;rw[if_pos r] at e;have⟨ar,k⟩:=dw.1 (dw.1 e).2;have:=wO F x aH ar aG;rw[this] at k;refine y _ D ?_;rw[G];exact k
     have V:X (Kp b f n):=(L.o.alloc _).trans P;go_wp2;exact⟨rfl,V.o,ai ⟨t,rfl,w.o⟩⟩
    skip
    have V:X (Kp b f n):=(L.o.alloc _).trans P;have bm:X (cq n (U f.heap) (jr hU) 141):=Kp.block P (alloc_old (by omega) aU.o) (by omega);have a3:X (cq n (U z.heap) (eC j) 59):=Kp.block P (iI z _) aa;have bD:X (∀i:ic,p7 a i->aQ (bytesOf s) c (gp a i)->i=⟨af,j,d⟩):=λi k e=>by
     rcases k with rfl|⟨r,x,D,-⟩;have:=uA H (show aQ (bytesOf s) c [0] from e) Y;simp at this;unfold gp at e;rw[if_pos r] at e;have⟨ar,k⟩:=dw.1 (dw.1 e).2;have am:=wO F x aH ar aG;rw[am,show c+[1].length+I (dc a j)=l from bq G] at k;have a4:=wO F D bb k ba;have⟨b8,b6,b7⟩:=i;simp only at r am a4;subst r am a4;rfl
    have bz:X (aQ (bytesOf s) c<|gp a ⟨af,j,d⟩):=by
     show aQ _ _ ([1]++(dc a j++dc a d));refine dw.2 ⟨H,dw.2 ⟨aG,?_⟩⟩;rw[show c+[1].length+I (dc a j)=l from bq G];exact ba
    have cn:=bE a3.o;have S:X (∀g,bc 125 #[bZ<|eC j,bZ<|eC d] g λm q=>m=aN (z9<|gv j d)/\aD g q):=λg=>EJ j d g;go_upto_region 5 with fail;have a0:X (Kp b f<|n.alloc<|aq (eC d) 59):=V.o.alloc _;have M:X ((n.alloc<|aq (eC d) 59).heap[b]? =K (bQ s<|l+I (dc a d))):=alloc_old (by omega) b1;have J:X (cq (n.alloc<|aq (eC d) 59) (U f.heap) (jr hU) 141):=alloc_old (by omega) bm.o;have B:X (cq (n.alloc<|aq (eC d) 59) (U z.heap) (eC j) 59):=alloc_old (by omega) a3.o;have C:X (cq (n.alloc<|aq (eC d) 59) (U n.heap) (eC d) 59):=iI n _;generalize n.alloc (aq (eC d) 59)=cp at*;generalize U z.heap=N at*;generalize U n.heap=O at*;have⟨be,bh,bi⟩:=xa B.o;have⟨bj,bk,bl⟩:=xa C.o;have bo:X (∀g,g.heap[b]? =K (bQ s<|l+I (dc a d))->bc 97 #[(aK b)] g λm q=>m=gO (g4<|l+I (dc a d))/\Kp b g q):=λg E=>bG (lP b _ s g E) λm q ⟨x,D⟩=>⟨x,by subst D;exact Kp.refl b _⟩;obtain⟨al,aw⟩:∃al,al=gv j d:=⟨_,rfl⟩;rw[<-aw] at S
    skip
    by_cases a9:0<al
    .go_upto_region 6 with(go_at_call 125;refine bG (S.o _) ?_;rintro m o ⟨rfl,p⟩;have ad:X (cq o N (eC j) 59):=(cT p N<|bE B.o).trans B.o;have ae:X (cq o O (eC d) 59):=(cT p O<|bE C.o).trans C.o;have Q:X (cq o (U f.heap) (jr hU) 141):=(cT p _<|bE J.o).trans J.o;have Z:X (o.heap[b]? =K (bQ s<|l+I (dc a d))):=(cT p _<|bE M.o).trans M.o;have W:=aA<|a0.o.trans<|Kp.iW p;have⟨be,bh,bi⟩:=xa ad.o;have⟨bj,bk,bl⟩:=xa ae.o);go_wp2_with fail;refine bG (bo.o _ Z.o) ?_;rintro m cr ⟨rfl,b0⟩;have w:X (∀i:ic,p7 a i->¬aQ (bytesOf s) c (gp a i)):=λi k e=>by
      have b2:=bD.o i k e;subst b2;rcases k with bV|⟨-,-,-,bW⟩;simp[hU] at bV;exact bW (by rw[aw] at a9;exact a9)
     have br:=aA<|W.o.trans b0;go_wp2;exact⟨rfl,br.o,ai ⟨_,rfl,w.o⟩⟩
    go_upto_region 7 with(go_at_call 125;refine bG (S.o _) ?_;rintro m o ⟨rfl,p⟩;have ad:X (cq o N (eC j) 59):=(cT p N<|bE B.o).trans B.o;have ae:X (cq o O (eC d) 59):=(cT p O<|bE C.o).trans C.o;have Q:X (cq o (U f.heap) (jr hU) 141):=(cT p _<|bE J.o).trans J.o;have Z:X (o.heap[b]? =K (bQ s<|l+I (dc a d))):=(cT p _<|bE M.o).trans M.o;have W:=aA<|a0.o.trans<|Kp.iW p;have⟨be,bh,bi⟩:=xa ad.o;have⟨bj,bk,bl⟩:=xa ae.o);have⟨⟨bH,bK,bL,bM,bP,bS,bT⟩,u⟩:=M5 Q.o;have bC:X (o.there (U f.heap) 0 (jr ⟨af,j,d⟩).size):=(show o.there (U f.heap) 0 7 from MC Q.o);have ab:=aA<|World.rangeAt_setCells_same _ _ _ _ bC.o;have a2:X (c+I (gp a ⟨af,j,d⟩)=l+I (dc a d)):=by
     show c+I ([1]++(dc a j++dc a d))=_;have:=G;simp only[cJ,rY];omega
    have T:X (DY f b c s a (aN<|bZ (jr ⟨af,j,d⟩).toList.toArray)<|m5 o (U f.heap) 0<|dY<|jr ⟨af,j,d⟩):=⟨Kp.Gq (aZ _) _ _ _ W.o,av ⟨⟨af,j,d⟩,rfl,ai ⟨rfl,aH,bb,by rw[<-aw];omega⟩,bz.o,by rw[a2.o];exact b3,(zA aa _ _ _).trans<|by rw[a2.o];exact Z.o⟩⟩;go_wp2;exact LV Tryz.results131 Y Y ab.o aE.underlying141 Y aR T.o
def Uj{d j:Type}{f c:d->List j}{a:List d}(h:∀b∈a,f b=c b):a.flatMap f=a.flatMap c:=by
 induction a with
 |nil=>rfl
 |cons b k g=>rw[kX,kX,h b aI,g λi e=>h i<|by simp[e]]
def n6 {c:Type}(d:Nat->c->Prop)(b:List c):Prop:=∀a (e:a<I b),d a b[a]
def n6.snoc{e:Type}{d:Nat->e->Prop}{a:List e}{f:e}(h:n6 d a)(hx:d (I a) f):n6 d (a++[f]):=by
 intro c g;rcases jc c (I a) with b|b;rw[List.getElem_append_left b];exact h c b;have:c=I a:=by simp at g;omega
 subst this;simpa using hx
def n6.at{b:Type}{c:Nat->b->Prop}{a e:List b}{d:b}(h:n6 c (a++d::e)):c (I a) d:=by
 have:=h (I a) aI;simpa using this
structure Q2{α:Type}(E G:List α->List Nat)(ok:Nat->α->Prop)(B:List Nat)(p:Nat)(C:List Nat)(q cn:Nat)(l:List α):Prop where
 le:I l<=cn
 yd:n6 ok l
 st:aQ B p (E l)
 sc:aQ C q (G l)
 mo:∀L:List α,I L=cn->n6 ok L->aQ B p (E L)->aQ C q (G L)->∃m,L=l++m
def Q2.zero{a:Type}{E G:List a->List Nat}{f:Nat->a->Prop}(c:E []=[])(d:G []=[]):Q2 E G f l n L m k []:=
 ⟨cH _,λg e=>by simp at e,bV c BJ,bV d BJ,λb _ _ _ _=>⟨b,rfl⟩⟩
def Q2.next{e:Type}{E G:List e->List Nat}{j:Nat->e->Prop}{o p:List e->e->List Nat}{a:List e}(h:Q2 E G j l n L k i a)(q:∀a b,E (a++[b])=E a++o a b)(r:∀a b,G (a++[b])=G a++p a b)(v:I a<i)
 (d:List e) (hL:I d=i) (s:n6 j d) (g:aQ l n (E d)) (f:aQ L k (G d)):∃b m,d=(a++[b])++m/\j (I a) b/\aQ l (n+I (E a)) (o a b)/\aQ L (k+I (G a)) (p a b):=by
 obtain⟨m,rfl⟩:=h.mo d hL s g f;cases m with
 |nil=>simp at hL;omega
 |cons b c=>
  have⟨w,t⟩:=He q (a++[b]) c;have⟨x,u⟩:=He r (a++[b]) c;refine⟨b,c,by simp,s.at,?_,?_⟩;rw[show a++b::c=a++[b]++c by simp,t,q,ij,dw,dw] at g;exact g.2.1;rw[show a++b::c=a++[b]++c by simp,u,r,ij,dw,dw] at f;exact f.2.1
def Q2.more{d:Type}{E G:List d->List Nat}{f:Nat->d->Prop}{e g:List d->d->List Nat}{a:List d}(h:Q2 E G f l n L k i a)(o:∀a b,E (a++[b])=E a++e a b)(p:∀a b,G (a++[b])=G a++g a b)(x:I a<i)
 {b:d} (hx:f (I a) b) (z:aQ l (n+I (E a)) (e a b)) (v:aQ L (k+I (G a)) (g a b)) (B:∀c,f (I a) c->aQ l (n+I (E a)) (e a c)->aQ L (k+I (G a)) (g a c)->c=b):Q2 E G f l n L k i (a++[b]):=by
 refine⟨bS,h.yd.snoc hx,by rw[o,dw];exact⟨h.st,z⟩,by rw[p,dw];exact⟨h.sc,v⟩,?_⟩;intro q u y A w;have⟨c,m,j,r,s,t⟩:=h.next o p x q u y A w;rw[B c r s t] at j;exact⟨m,j⟩
def Q2.fail{b:Type}{E G:List b->List Nat}{j:Nat->b->Prop}{e g:List b->b->List Nat}{a:List b}(h:Q2 E G j l n L k i a)(r:∀a d,E (a++[d])=E a++e a d)(s:∀a d,G (a++[d])=G a++g a d)(u:I a<i)
 (x:∀f,j (I a) f->aQ l (n+I (E a)) (e a f)->¬aQ L (k+I (G a)) (g a f)) (c:List b) (hL:I c=i) (v:n6 j c) (w:aQ l n (E c)):¬aQ L k (G c):=by
 intro t;have⟨f,m,y,o,p,q⟩:=h.next r s u c hL v w t;exact x f o p q
def Q2.done{c:Type}{E G:List c->List Nat}{e:Nat->c->Prop}{b:List c}(h:Q2 E G e l n L k i b)(p:¬I b<i):
 I b=i/\(∀a:List c,I a=i->n6 e a->aQ l n (E a)->aQ L k (G a)->a=b):=by
 have j:I b=i:=cA h.le;refine⟨j,?_⟩;intro a d f o g;obtain⟨m,rfl⟩:=h.mo a d f o g;rw[cJ] at d;have:m=[]:=vX.1 aa;rw[this];simp
structure eX(r q:Nat)(w w':ag):Prop where
 os:w'.os=w.os
 tape:dG w'=dG w
 output:ga w'=ga w
 size:U w.heap<=U w'.heap
 block:∀i,i<U w.heap->i≠r->i≠q->w'.heap[i]? =w.heap[i]?
def eX.refl(c b:Nat)(a:ag):eX c b a a:=⟨rfl,rfl,rfl,aZ _,λ_ _ _ _=>rfl⟩
def eX.trans(h:eX n m w u)(a:eX n m u W):eX n m w W:=
 ⟨aB a.os h.os,aB a.tape h.tape,aB a.output h.output,dW h.size a.size,λe d b c=>aB (a.block e (cL d h.size) b c)<|h.block e d b c⟩
def eX.sD(h:Kp n w u):eX n m w u:=⟨h.os,h.tape,h.output,h.size,λd c b _=>m4 h d c λa=>b<|by cases a;rfl⟩
def eX.Ln(h:Kp m w u):eX n m w u:=⟨h.os,h.tape,h.output,h.size,λd c _ b=>m4 h d c λa=>b<|by cases a;rfl⟩
def eX.iW(h:aD w u):eX r q w u:=⟨h.os,h.tape,h.output,h.size,λb a _ _=>cT h b a⟩
def eX.alloc(h:eX n m w u)(a:cz):eX n m w (cG u a):=h.trans<|eX.sD<|Kp.alloc (Kp.refl n u) a
def eX.grown(h:eX n m w u)(a:kg u W QY)(i:∀b,QY=K b->U w.heap<=b):eX n m w W:=
 ⟨aB a.os h.os,aB a.tape h.tape,aB a.output h.output,dW h.size a.size,λd c e f=>aB (a.block d (cL c h.size) λg=>bu)<|h.block d c e f⟩
def eX.keep(c:eX n m w u)(h:w.heap[k]? =K Ql)(a:k≠n)(b:k≠m):u.heap[k]? =K Ql:=by
 rw[c.block k (bE h) a b];exact h
def eX.own(o:eX n m w u)(h:aT w k i j v a S)(q:n<k)(p:m<k):aT u k i j v a S:=by
 refine⟨h.1,?_⟩;rcases h.2 with g|⟨b,d,e,rfl,f,c,l⟩;exact av g;refine ai ⟨b,d,e,rfl,f,?_,l⟩;rw[o.block b (bE c) aa aa];exact c
def sn (b:List bx)(c:List fy)(a:fy):List Nat:=bh (bg a.text)++gp (aW b (I c) ⟨⟨#[]⟩,0⟩).kind a.bT
def sr (b:List bx)(a:List fy):List Nat:=uq b a<|I a
def EH(b:List bx)(a:List fy)(c:fy):sr b (a++[c])=sr b a++sn b a c:=by
 unfold sr;rw[cJ,rY,YO];have d:uq b (a++[c]) (I a)=uq b a (I a):=by
  unfold uq;refine Uj λg f=>?_;unfold yh;rw[ep,tX<|nP.1 f,<-ep]
 have e:yh b (a++[c]) (I a)=sn b a c:=by
  unfold yh sn;rw[ep (l:=a++[c]),rX<|aZ _];simp
 rw[d,e]
structure xg(cs:List bx)(i:Nat)(c:fy):Prop where
 n:bg c.text<2147483648
 b:p7 (aW cs i ⟨⟨#[]⟩,0⟩).kind c.bT
structure lV(cs:List bx)(b:Bd):Prop where
 lo:1<=b.rows
 hi:b.rows<=100
 len:I b.chunks=I cs
 each:n6 (xg cs) b.chunks
def Rg(m:M=1\/M=2\/M=3){b c:ic}(h:p7 M b)(e:p7 M c)(d:aQ l n (gp M b))(a:aQ l n (gp M c)):b=c:=by
 have o:∀{b c:ic},b=hU->c.there=af->aQ l n (gp M b)->aQ l n (gp M c)->False:=by
  rintro b c rfl x d a;unfold gp at a;rw[if_pos x] at a;have:=uA (show aQ l n [0] from d) (dw.1 a).1 Y;simp at this
 rcases h with h|⟨f,s,u,y⟩<;>rcases e with e|⟨g,t,w,z⟩;rw[h,e];exact ff<|o h g d a;exact ff<|o e f a d;unfold gp at d a;rw[if_pos f] at d;rw[if_pos g] at a;have⟨p,j⟩:=dw.1 (dw.1 d).2;have⟨q,r⟩:=dw.1 (dw.1 a).2;have i:=wO m s t p q;rw[i] at j;have k:=wO m u w j r;have⟨A,C,v⟩:=b;have⟨B,D,E⟩:=c;simp only at f g i k;rw[f,g,i,k]
def R9{a:List bx}{b:List fy}(s:(aW a (I b) ⟨⟨#[]⟩,0⟩).kind=1\/(aW a (I b) ⟨⟨#[]⟩,0⟩).kind=2\/(aW a (I b) ⟨⟨#[]⟩,0⟩).kind=3){c d:fy}(hx:xg a (I b) c)(hy:xg a (I b) d)(i:aQ l n (sn a b c))(j:aQ l n (sn a b d))(q:aQ L m (bytesOf c.text))(r:aQ L m (bytesOf d.text)):d=c:=by
 unfold sn at i j;have⟨k,o⟩:=dw.1 i;have⟨p,e⟩:=dw.1 j;have f:=jQ (cA hy.n) (cA hx.n) p k;rw[f] at e;have g:=Rg s hy.b hx.b e o;have h:=xI (uA r q<|by rw[cM,cM,f]);have⟨t,v⟩:=c;have⟨u,w⟩:=d;simp only at g h;rw[g,h]
def px.gB{a:List bx}(h:aT w n 63 2 v (I a) (k4 a)):px w v a:=by
 rcases h.2 with⟨rfl,i⟩|⟨d,g,k,rfl,l,p,j,m,o,q⟩;have:a=[]:=s4 i;subst this;exact⟨Z,0,0,0,rfl,aZ _,⟨λh=>by simp at h,λh=>by simp at h,λc h=>by simp at h,λc h=>by simp at h⟩⟩;have f:=h.cells (g:=d) Y;refine⟨K ⟨d,0,Z⟩,d,0,g,rfl,j,⟨λ_=>rfl,λ_=>(h.lt d Y).2,λc e=>?_,λc e=>?_⟩⟩;have:=f _ _<|pM (λb:bx=>[ay b.name,aJ aM b.kind]) 2 (λ_=>rfl) a c e 0 _ Y;simpa [kQ] using this;have:=f _ _<|pM (λb:bx=>[ay b.name,aJ aM b.kind]) 2 (λ_=>rfl) a c e 1 _ Y;simpa [kQ] using this
def gW (b:List Bd):Nat:=(b.map λa=>a.rows).sum
def q_{b:List Bd}{a:Bd}:gW (b++[a])=gW b+a.rows:=by simp[gW]
def r_{a:List Bd}(h:n<I a):gW (a.take<|n+1)=gW (a.take n)+a[n].rows:=by
 rw[gm h,q_]
def MD(a:List Bd)(h:∀b∈a,b.rows<=100):gW a<=I a*100:=by
 induction a with
 |nil=>simp[gW]
 |cons b i e=>
  have g:=h b (by simp);have c:=e (λf d=>h f<|by simp[d]);simp[gW] at c ⊢;omega
def GZ(a:List Bd)(h:∀b∈a,1<=b.rows):I a<=gW a:=by
 induction a with
 |nil=>simp[gW]
 |cons b i e=>
  have g:=h b (by simp);have c:=e (λf d=>h f<|by simp[d]);simp[gW] at c ⊢;omega
def lR (a:bx×Int):List Nat:=bh (bg a.1.name)++(bytesOf a.1.name++[byteOf a.1.kind,byteOf a.2])
def iN (a:List (bx×Int)):List Nat:=a.flatMap lR
def CV(a:List (bx×Int))(b:bx×Int):iN (a++[b])=iN a++lR b:=by
 unfold iN;rw[oN,pH]
def YP(a:bx×Int):1<=I (lR a):=by unfold lR;simp;omega
def YS(a:List (bx×Int)):I a<=I (iN a):=by
 induction a with
 |nil=>simp
 |cons c d b=>
  have:=YP c;unfold iN at b ⊢;rw[kX,cJ,oh];omega
structure s9(y:bx×Int):Prop where
 n:bg y.1.name<2147483648
 k0:0<=y.1.kind
 k1:y.1.kind<256
 e0:0<=y.2
 e1:y.2<256
def B5(a:0<=M)(b:M<256):(byteOf M:Int)=M:=by unfold byteOf;omega
def Gh{b v:Nat}{a:bx×Int}(hy:s9 a)(d:v<2147483648)(c:aQ l b (bh v))(h:aQ l b (lR a)):bg a.1.name=v:=by
 unfold lR at h;exact jQ (cA hy.n) aa (dw.1 h).1 c
def Gi{b v:Nat}{a:bx×Int}(hy:s9 a)(i:v<2147483648)(f:aQ l b (bh v))(hx:bg s=v)(g:aQ l (b+I (bh v)) (bytesOf s))(h:aQ l b (lR a)):a.1.name=s/\aQ l (b+I (bh v)+v) [byteOf a.1.kind,byteOf a.2]:=by
 have c:=Gh hy i f h;unfold lR at h;have⟨e,d⟩:=dw.1 (dw.1 h).2;rw[c] at e d;have:=xI (uA e g<|by rw[cM,cM,c,hx]);rw[cM,c] at d;exact⟨this,d⟩
def YQ{b v f c:Nat}{a:bx×Int}(hy:s9 a)(t:v<2147483648)(o:aQ l b (bh v))(hx:bg s=v)(p:aQ l (b+I (bh v)) (bytesOf s))(q:aQ l (b+I (bh v)+v) [f])(r:aQ l (b+I (bh v)+v+1) [c])(h:aQ l b (lR a)):a=(⟨s,(f:Int)⟩,(c:Int)):=by
 have⟨j,k⟩:=Gi hy t o hx p h;have⟨m,n⟩:=ux.1 k;have g:byteOf a.1.kind=f:=by have:=aB m.symm<|mR.1 q;simpa using this
 have i:byteOf a.2=c:=by have:=(mR.1 n).symm.trans<|mR.1 r;simpa using this
 have d:=B5 hy.k0 hy.k1;have e:=B5 hy.e0 hy.e1;have⟨⟨x,w⟩,u⟩:=a;simp only at j g i d e;rw[g] at d;rw[i] at e;rw[j,d,e]
def YR{c v b a:Nat}(f:aQ l c (bh v))(hx:bg s=v)(g:aQ l (c+I (bh v)) (bytesOf s))(h:aQ l (c+I (bh v)+v) [b])(i:aQ l (c+I (bh v)+v+1) [a])(j:b<256)(k:a<256):aQ l c (lR (⟨s,(b:Int)⟩,(a:Int)))/\I (lR (⟨s,(b:Int)⟩,(a:Int)))=I (bh v)+v+1+1:=by
 have d:byteOf (b:Int)=b:=by unfold byteOf;omega
 have e:byteOf (a:Int)=a:=by unfold byteOf;omega
 unfold lR;simp only[d,e,hx];refine⟨dw.2 ⟨f,dw.2 ⟨g,?_⟩⟩,by simp[cM,hx];omega⟩;rw[cM,hx];exact ux.2 ⟨mR.1 h,i⟩
def k3 (a:List (bx×Int)):Prop:=nJ (a.map bf)/\rP (a.map bf) (a.map dD)
def k3.each{a:List (bx×Int)}(h:k3 a):(∀d∈a,s9 d)/\I a<2147483648:=by
 have⟨⟨k,l,f⟩,m,g⟩:=h;refine⟨λd j=>?_,bu⟩;obtain⟨b,i,rfl⟩:=m9 j;have e:=(f b bu).1;have c:=g b bu;simp only[oO,oU,ov,fe,decide_eq_true_eq] at e;rw[show aW (a.map dD) b 0=a[b].2 by simp[i]] at c;simp only[oO,e4,ov,tM,fe,decide_eq_true_eq,beq_iff_eq] at c;exact⟨aa,aa,aa,aa,aa⟩
def kL (a:List (bx×Int)):List Nat:=bh (I a)++iN a
structure fu where
 size:Nat
 bT:ic
 text:ByteArray
structure di where
 rows:Nat
 parts:List fu
def ul:fu:=⟨0,hU,⟨#[]⟩⟩
def eO (a:fu):List F:=[n9 a.size,ak a.bT.there,ak a.bT.least.null,z9 a.bT.least.n,ay a.bT.least.s,ak a.bT.most.null,z9 a.bT.most.n,ay a.bT.most.s,ay a.text]
def Bu(a:fu):I (eO a)=9:=rfl
def hJ (a:di×F):List F:=[n9 a.1.rows,a.2]
def Co(a:di×F):I (hJ a)=2:=rfl
def vv (c:List bx)(b:List fu)(a:Nat):List Nat:=bh (aW b a ul).size++gp (aW c a ⟨⟨#[]⟩,0⟩).kind (aW b a ul).bT
def lS (a:List bx)(b:List fu)(c:Nat):List Nat:=(fp c).flatMap<|vv a b
def LY{a:List bx}{b:List fu}:lS a b (n+1)=lS a b n++vv a b n:=by
 unfold lS;rw[List.range_succ,oN,pH]
def uv (b:List bx)(a:di):List Nat:=bh a.rows++lS b a.parts (I a.parts)
def gZ (b:List bx)(a:List di):List Nat:=a.flatMap<|uv b
def Zq(c:List bx)(a:List di)(b:Nat)(h:b<I a):gZ c (a.take<|b+1)=gZ c (a.take b)++uv c a[b]:=by
 unfold gZ;rw[gm h,oN,pH]
def zO (a:List bx)(c:List Int)(b:List di):List Nat:=bh (I a)++(ny a c (I a)++(bh (I b)++gZ a b))
structure wh(n:Nat)(b:di):Prop where
 rows:b.rows<2147483648
 len:I b.parts=n
 size:∀c∈b.parts,c.size<2147483648
 least:∀c∈b.parts,jd c.bT.least
 most:∀c∈b.parts,jd c.bT.most
def Y0{a:List fu}(h:n<I a):aW a n ul∈a:=by
 rw[ep,dV h];exact dm h
def YY{a:di}(h:wh n a)(b:List bx)(d:m<I a.parts):I (vv b a.parts m)<=95:=by
 have c:=Y0 d;have e:=sN (aW a.parts m ul).size;have f:=Rf (aW b m ⟨⟨#[]⟩,0⟩).kind (aW a.parts m ul).bT (h.least _ c).sz (h.most _ c).sz;unfold vv;rw[cJ];omega
def LX{a:di}(h:wh n a)(c:List bx)(b:Nat)(e:b<=I a.parts):I (lS c a.parts b)<=b*95:=by
 have:=Fb (vv c a.parts) 95 (fp b) λf d=>YY h c (by have:=nP.1 d;omega);simpa [lS] using this
def Zn{a:di}(h:wh n a)(f:n<=8)(b:List bx):I (uv b a)<=770:=by
 have c:=LX h b (I a.parts)<|aZ _;have d:=sN a.rows;have e:=h.len;unfold uv;rw[cJ];omega
def Zp{bs:List di}(h:∀a∈bs,wh n a)(d:n<=8)(b:List bx):I (gZ b bs)<=I bs*770:=
 Fb (uv b) 770 bs (λa c=>Zn (h a c) d b)
def Pe (c:ag)(e:F)(d:List di):Prop:=∃a:List (di×F),a.map bf=d/\uJ c hJ 2 e a/\∀b∈a,uJ c eO 9 b.2 b.1.parts
def Up(h:w.heap[n]? =K (aq #[v,x,y,z] Qd (0,0))):ap w ⟨n,0,Z⟩=K v/\ap w ⟨n,1,Z⟩=K x/\ap w ⟨n,2,Z⟩=K y/\ap w ⟨n,3,Z⟩=K z:=by
 exact⟨by simp[ap,h],by simp[ap,h],by simp[ap,h],by simp[ap,h]⟩
def LW{a:fu}(h:w.heap[n]? =K (aq (cR<|eO a) Qd (0,0))):
 ap w ⟨n,0,Z⟩=K (aJ aM (a.size:Int))/\ap w ⟨n,1,Z⟩=K (ak a.bT.there)/\ap w ⟨n,2,Z⟩=K (ak a.bT.least.null)/\ap w ⟨n,3,Z⟩=K (aJ aM a.bT.least.n)/\ap w ⟨n,4,Z⟩=K (ay a.bT.least.s)/\
  ap w ⟨n,5,Z⟩=K (ak a.bT.most.null)/\ap w ⟨n,6,Z⟩=K (aJ aM a.bT.most.n)/\ap w ⟨n,7,Z⟩=K (ay a.bT.most.s)/\ap w ⟨n,8,Z⟩=K (ay a.text):=by
 unfold eO at h;exact⟨by simp[ap,h],by simp[ap,h],by simp[ap,h],by simp[ap,h],by simp[ap,h],by simp[ap,h],by simp[ap,h],by simp[ap,h],by simp[ap,h]⟩
def SH(b:bl w n 0 (aJ .u8 (m:Int)))(c:bl w n 1 (aJ .u8 (k:Int))):
 (convert 133 9<|aG n 2 2).run (aH ax) w=cm (ay<|strOf [m,k]) w:=
 run_convert_bytes_arg w 133 5 aE.underlying133 aE.underlying5 n 0 2 2 [(m:Int),(k:Int)] Y (λa d=>by
  have:a=0\/a=1:=by omega
  rcases this with rfl|rfl;simpa using b;simpa using c) 9 aE.underlying9
def IN(h:aD w.drew u):aD w u:=(bN (U w.heap) w).drew.trans h
def B0(h:dZ ((cG w<|aq #[v,x] Qd).drew).heap.size (cG w<|aq #[v,x] Qd).drew u):bl u (U w.heap) 0 v/\bl u (U w.heap) 1 x:=by
 have:=w9<|iI w<|aq #[v,x] Qd;exact⟨aB (bA h (p:=⟨U w.heap,0,Z⟩)<|by simp) this.1,aB (bA h (p:=⟨U w.heap,1,Z⟩)<|by simp) this.2⟩
def PD(h:dZ (cG w<|aq #[v] Qd).heap.size (cG w<|aq #[v] Qd) u):bl u (U w.heap) 0 v:=
 aB (bA h (p:=⟨U w.heap,0,Z⟩)<|by simp) (by simp)
def PE(h:aD w u)(a:bl w n 0 v):bl u n 0 v:=
 aB (bA h (p:=⟨n,0,Z⟩)<|World.block_lt_of_cell? w _ a) a
def Um(b:List bx)(r:List Int)(n:List di){df dl dd rn:F}(p:Nat)(o:ag)(e5:I b<=8)(dz:I r=I b)(cl:∀j∈b,j.name.size<=16)(dC:∀j∈b,j.kind=1\/j.kind=2\/j.kind=3)(fW:I n<=2000)(du:∀k∈n,wh (I b) k)
 (ci:o.heap[p]? =K (aq #[df,dl,dd,rn] 113 (0,0))) (e6:px o df b) (e7:iE o dl r) (e3:Pe o dd n):
 bc 105 #[(aK p)] o λt G=>t=aN (ay<|strOf<|zO b r n)/\aD o G:=by
 have⟨w,ca,fa,dp⟩:=e3;obtain⟨db,a5,bk,es,rfl,a7⟩:=fa;obtain⟨de,cb,bC,bF,rfl,fX,ad⟩:=e6;obtain⟨dk,v,x,ao,rfl,dw,dx,dy⟩:=e7;have br:X (tO o de cb bC b):=ad;have c0:X (0<I r->dk=K ⟨v,x,Z⟩):=dw;have b0:X (0<I r->v<U o.heap):=dx;have c1:X (∀co,co<I r->ap o ⟨v,x+co,Z⟩=K (aJ aM<|aW r co 0)):=dy;have ec:X (I r=I b):=dz;have b2:X (∀j∈b,j.name.size<=16):=cl;have eh:X (∀j∈b,j.kind=1\/j.kind=2\/j.kind=3):=dC;have cx:X (∀k∈n,wh (I b) k):=du;have el:X (w.map bf=n):=ca;have bu:X (I w=I n):=by show _=_;rw[<-ca,er]
 have b1:X (yO o hJ 2 db a5 bk w):=a7;have eb:X (∀dS∈w,uJ o eO 9 dS.2 dS.1.parts):=dp;have f6:I w<=2000:=by have:=bu.o;omega
 have e9:p<U o.heap:=bE ci;have a2:X (∀a,aD o a->ap a ⟨p,0,Z⟩=K (ah de (I b) bF)/\ap a ⟨p,1,Z⟩=K (ah dk (I r) ao)/\ap a ⟨p,2,Z⟩=K (ah db (I w) es)):=λa m=>by
  have:=Up<|(cT m _ e9).trans ci;exact⟨this.1,this.2.1,this.2.2.1⟩
 have bj:X (∀(bo:Nat) (a:ag),bo<18446744073709551616->bc 133 #[aJ .u64 (bo:Int)] a λt G=>t=aN (ay<|strOf<|bh bo)/\aD a G):=λbo a m=>Ay bo a m;clear ad dw dx dy dz cl dC du ca a7 dp ci;have⟨aa,O,ae⟩:=a2.o o<|bN _ _;have aw:lW.wrap (I b:Int)=(I b:Int):=by rw[wrap_u64];omega
 go_enter aE.func105,Tryz.ntmps105;go_wp2_with (go_at_call 133;refine(bj.o (I b) _<|by omega).mono ?_;rintro t fJ ⟨rfl,aR⟩);have cv:X (aD o fJ):=aR;clear aw aa O ae aR;have c6:X (strOf (bh<|I b)=strOf (bh (I b)++ny b r 0)):=by show _=_;rw[show ny b r 0=[] from rfl,l5]
 go_loopw [3,4] (λs e wr=>∃f:Nat,f<=I b/\e=n9 f/\s=ay (strOf<|bh (I b)++ny b r f)/\aD o wr) (λ_ e _=>I b-bO (bB e))
 exact⟨0,cH _,rfl,by rw[c6.o],cv.o⟩;clear c6 cv;obtain⟨f,dA,rfl,rfl,z⟩:=hrel;have L:X (aD o wr):=z;have⟨aa,O,ae⟩:=a2.o wr z;have bm:U o.heap<=U wr.heap:=z.size;have f1:p<U wr.heap:=by omega
 by_cases S:f<I b
 .have fc:f<I r:=by rw[ec.o];exact S
  have ad:=br.o.below z;obtain rfl:=ad.addr (by omega);obtain rfl:=c0.o (by omega);have bK:=ad.c0 f S;have cp:=ad.c1 f S;have bH:v<U wr.heap:=cL (b0.o<|by omega) bm;have dg:ap wr ⟨v,x+f,Z⟩=K (z9<|aW r f 0):=(bA z (p:=⟨v,x+f,Z⟩)<|b0.o<|by omega).trans<|c1.o f fc;have be:X (strOf (bh (I b)++ny b r f)++strOf (bh b[f].name.size)++b[f].name++strOf [byteOf b[f].kind,byteOf<|aW r f 0]=strOf (bh (I b)++ny b r (f+1))):=by
   show _=_;rw[Ji];unfold xO;rw[ep (l:=b),dV S];simp only[tZ,n4,DG,ByteArray.append_assoc]
  have cl:=b2.o b[f]<|dm S;have dJ:(strOf<|bh (I b)++ny b r f).size<=300:=by
   have bD:=sN<|I b;have b7:=Jh (es:=r) b2.o f dA;rw[jf,cJ];omega
  have fb:(f:Int)<(I r:Int):=by omega
  have f5:(f:Int)<(I b:Int):=by omega
  generalize b[f]=j at*;generalize aW r f 0=E at*;generalize strOf (bh (I b)++ny b r f)=a4 at*;clear ad z;go_upto_region 6 with fail;have bl:(wr.alloc<|aq #[ay j.name,aJ aM j.kind] 63).heap[U wr.heap]? =K (aq #[ay j.name,aJ aM j.kind] 63 (0,0)):=iI _ _;have H:X (aD o<|wr.alloc<|aq #[ay j.name,aJ aM j.kind] 63):=L.o.alloc bm _;have b4:ap (wr.alloc<|aq #[ay j.name,z9 j.kind] 63) ⟨v,x+f,Z⟩=K (z9 E):=(bA ((bN (U wr.heap) wr).alloc (aZ _) _) (p:=⟨v,x+f,Z⟩) bH).trans dg;have a6:U wr.heap<(wr.alloc<|aq #[ay j.name,z9 j.kind] 63).heap.size:=by simp
  generalize wr.alloc (aq #[ay j.name,z9 j.kind] 63)=an at*;clear aa O ae bK cp dg;have⟨aa,O,ae⟩:=a2.o an H.o;have⟨cr,cs⟩:=w9 bl;have b5:p<U an.heap:=by omega
  have b6:v<U an.heap:=by omega
  generalize U wr.heap=B at*;have aw:vP.wrap j.kind=(byteOf j.kind:Int):=B6 j.kind;have gb:vP.wrap E=(byteOf E:Int):=B6 E;have gc:lW.wrap (j.name.size:Int)=(j.name.size:Int):=by rw[wrap_u64];omega
  have Q:X (∀a:ag,bc 133 #[aJ .u64 (j.name.size:Int)] a λt G=>t=aN (ay<|strOf<|bh j.name.size)/\aD a G):=λa=>bj.o _ a (by omega);have fC:(strOf<|bh j.name.size).size<=10:=by rw[jf];exact sN _
  have fD:(strOf [byteOf j.kind,byteOf E]).size=2:=by rw[jf];rfl
  have dv:∀(a:ag) (R:Nat),ap a ⟨R,0,Z⟩=K (aJ .u8 (byteOf j.kind:Int))->ap a ⟨R,1,Z⟩=K (aJ .u8 (byteOf E:Int))->(convert 133 9<|aG R 2 2).run (aH ax) a=cm (ay<|strOf [byteOf j.kind,byteOf E]) a:=λa R m eL=>SH m eL;generalize strOf (bh j.name.size)=V at*;generalize strOf [byteOf j.kind,byteOf E]=eq at*;generalize byteOf j.kind=bQ at*;generalize byteOf E=bS at*;have ar:¬ 9223372036854775807<a4.size+V.size:=by omega
  have fx:¬ 9223372036854775807<a4.size+V.size+j.name.size:=by omega
  have fy:¬ 9223372036854775807<a4.size+V.size+j.name.size+eq.size:=by omega
  clear fD fC;refine Un.open_ (λa=>ap a ⟨B,0,Z⟩=K (ay j.name)/\ap a ⟨B,1,Z⟩=K (aJ aM j.kind)/\ap a ⟨p,1,Z⟩=K (ah (K ⟨v,x,Z⟩) (I r) ao)/\ap a ⟨v,x+f,Z⟩=K (z9 E)) 24 (λ_ _ _ _ _ m=>m) λfu=>?_;have aQ:(λa=>ap a ⟨B,0,Z⟩=K (ay j.name)/\ap a ⟨B,1,Z⟩=K (aJ aM j.kind)/\ap a ⟨p,1,Z⟩=K (ah (K ⟨v,x,Z⟩) (I r) ao)/\ap a ⟨v,x+f,Z⟩=K (z9 E)) an.drew:=by go_keep
  refine Un.pk 0 ?_;refine Un.pk 1 ?_;refine Un.ld [24] 2 ?_;refine Un.pk 3 ?_;refine Un.pk 4 ?_;refine Un.pk 7 ?_;refine Un.ld [24] 8 ?_;refine Un.pk 10 ?_;refine Un.ld [24] 11 ?_;refine Un.pk 12 ?_;refine Un.pk 13 ?_;refine Un.pk 14 ?_;refine Un.pk 15 ?_;refine Un.ld [24] 16 ?_;refine Un.pk 17 ?_;refine Un.pk 18 ?_;refine Un.ld [24] 19 ?_;refine Un.pk 20 ?_;try simp only[bw,ct,cj,b9]
  refine Un.pair (i:=5) (j:=21) (by kernel_rfl) Y Y (λg c=>?_) λg c=>?_
  .rw[if_pos<|by rfl];go_simp;go_at_call 133;refine(Q.o _).mono ?_;rintro t P ⟨rfl,A⟩;have y:=IN A;have a1:X (aD an P):=y;have az:=(bA y (p:=⟨B,0,Z⟩) a6).trans cr;have aA:=(bA y (p:=⟨B,1,Z⟩) a6).trans cs;have aC:=(bA y (p:=⟨p,1,Z⟩) b5).trans O;have aF:=(bA y (p:=⟨v,x+f,Z⟩) b6).trans b4;refine c.o _ _ (λ_=>⟨az,aA,aC,aF⟩) ?_;clear c g aQ A y;have aQ:(λa=>ap a ⟨B,0,Z⟩=K (ay j.name)/\ap a ⟨B,1,Z⟩=K (aJ aM j.kind)/\ap a ⟨p,1,Z⟩=K (ah (K ⟨v,x,Z⟩) (I r) ao)/\ap a ⟨v,x+f,Z⟩=K (z9 E)) P:=⟨az,aA,aC,aF⟩;refine Un.pk 6 ?_;refine Un.pk 9 ?_;try simp only[bw,ct,cj,b9]
   refine Un.on 21 λg c=>?_;go_simp;have b8:(λa=>ap a ⟨B,0,Z⟩=K (ay j.name)/\ap a ⟨B,1,Z⟩=K (aJ aM j.kind)/\ap a ⟨p,1,Z⟩=K (ah (K ⟨v,x,Z⟩) (I r) ao)/\ap a ⟨v,x+f,Z⟩=K (z9 E)) (P.alloc<|aq #[aJ .u8 (bQ:Int),aJ .u8 (bS:Int)] 5):=by go_keep
   refine c.o _ _ (λ_=>b8) ?_;clear c g;try simp only[bw,ct,cj,b9]
   refine Un.on 22 λg c=>?_;go_simp;refine c.o _ _ (λ_=>by assumption) ?_;clear c g;refine Un.pk 23 ?_;try simp only[bw,ct,cj,b9]
   refine Un.on 24 λg c=>?_;go_simp;refine c.o _ _ (λm=>absurd m<|by decide) ?_;clear c g;try simp only[bw,ct,cj,b9]
   refine Un.done (by kernel_rfl) ?_ _;try simp only[bw,ct,cj,b9]
   go_wp2_with fail
   go_roundw
   case rel=>exact⟨f+1,by omega,by go_num,by rw[be.o],(H.o.trans<|a1.o.mono H.o.size).alloc (by have:=H.o.size;have:=a1.o.size;omega) _⟩
   case measure=>simp[bB];omega
  .rw[if_pos<|by rfl];go_simp;have b8:(λa=>ap a ⟨B,0,Z⟩=K (ay j.name)/\ap a ⟨B,1,Z⟩=K (aJ aM j.kind)/\ap a ⟨p,1,Z⟩=K (ah (K ⟨v,x,Z⟩) (I r) ao)/\ap a ⟨v,x+f,Z⟩=K (z9 E)) ((an.alloc<|aq #[aJ .u8 (bQ:Int),aJ .u8 (bS:Int)] 5).drew):=by go_keep
   refine c.o _ _ (λ_=>b8) ?_;clear c g;try simp only[bw,ct,cj,b9]
   refine Un.pair (i:=5) (j:=22) (by kernel_rfl) Y Y (λg c=>?_) λg c=>?_
   .rw[if_pos<|by rfl];go_simp;go_at_call 133;refine(Q.o _).mono ?_;rintro t P ⟨rfl,A⟩;have fG:=(B0 A).1;have fH:=(B0 A).2;have y:=uZ A;have a1:X (aD an P):=y;have az:=(bA y (p:=⟨B,0,Z⟩) a6).trans cr;have aA:=(bA y (p:=⟨B,1,Z⟩) a6).trans cs;have aC:=(bA y (p:=⟨p,1,Z⟩) b5).trans O;have aF:=(bA y (p:=⟨v,x+f,Z⟩) b6).trans b4;refine c.o _ _ (λ_=>⟨az,aA,aC,aF⟩) ?_;clear c g aQ A y;have aQ:(λa=>ap a ⟨B,0,Z⟩=K (ay j.name)/\ap a ⟨B,1,Z⟩=K (aJ aM j.kind)/\ap a ⟨p,1,Z⟩=K (ah (K ⟨v,x,Z⟩) (I r) ao)/\ap a ⟨v,x+f,Z⟩=K (z9 E)) P:=⟨az,aA,aC,aF⟩;refine Un.pk 6 ?_;refine Un.pk 9 ?_;try simp only[bw,ct,cj,b9]
    refine Un.on 22 λg c=>?_;go_simp;refine c.o _ _ (λ_=>by assumption) ?_;clear c g;refine Un.pk 23 ?_;try simp only[bw,ct,cj,b9]
    refine Un.on 24 λg c=>?_;go_simp;refine c.o _ _ (λm=>absurd m<|by decide) ?_;clear c g;try simp only[bw,ct,cj,b9]
    refine Un.done (by kernel_rfl) ?_ _;try simp only[bw,ct,cj,b9]
    go_wp2_with fail
    go_roundw
    case rel=>exact⟨f+1,by omega,by go_num,by rw[be.o],H.o.trans<|a1.o.mono H.o.size⟩
    case measure=>simp[bB];omega
   .rw[if_pos<|by rfl];go_simp;refine c.o _ _ (λ_=>by assumption) ?_;clear c g;try simp only[bw,ct,cj,b9]
    refine Un.on 5 λg c=>?_;go_simp;go_at_call 133;refine(Q.o _).mono ?_;rintro t P ⟨rfl,A⟩;have fG:=(B0 A).1;have fH:=(B0 A).2;have y:=uZ A;have a1:X (aD an P):=y;have az:=(bA y (p:=⟨B,0,Z⟩) a6).trans cr;have aA:=(bA y (p:=⟨B,1,Z⟩) a6).trans cs;have aC:=(bA y (p:=⟨p,1,Z⟩) b5).trans O;have aF:=(bA y (p:=⟨v,x+f,Z⟩) b6).trans b4;refine c.o _ _ (λ_=>⟨az,aA,aC,aF⟩) ?_;clear c g aQ A y;have aQ:(λa=>ap a ⟨B,0,Z⟩=K (ay j.name)/\ap a ⟨B,1,Z⟩=K (aJ aM j.kind)/\ap a ⟨p,1,Z⟩=K (ah (K ⟨v,x,Z⟩) (I r) ao)/\ap a ⟨v,x+f,Z⟩=K (z9 E)) P:=⟨az,aA,aC,aF⟩;refine Un.pk 6 ?_;refine Un.pk 9 ?_;refine Un.pk 23 ?_;try simp only[bw,ct,cj,b9]
    refine Un.on 24 λg c=>?_;go_simp;refine c.o _ _ (λm=>absurd m<|by decide) ?_;clear c g;try simp only[bw,ct,cj,b9]
    refine Un.done (by kernel_rfl) ?_ _;try simp only[bw,ct,cj,b9]
    go_wp2_with fail
    go_roundw
    case rel=>exact⟨f+1,by omega,by go_num,by rw[be.o],H.o.trans<|a1.o.mono H.o.size⟩
    case measure=>simp[bB];omega
 .obtain rfl:f=I b:=by omega
  have ed:X (strOf (zO b r n)=strOf (bh (I b)++ny b r (I b)++bh (I n)++gZ b (n.take<|I w))):=by
   show _=_;rw[bu.o,jq];unfold zO;simp only[ij]
  have dJ:I (bh (I b)++ny b r (I b))<=300:=by
   have bD:=sN<|I b;have b7:=Jh (es:=r) b2.o (I b)<|aZ _;rw[cJ];omega
  generalize bh (I b)++ny b r (I b)=pre at*;have bi:X (strOf pre++strOf (bh<|I w)=strOf (pre++bh (I n)++gZ b (n.take 0))):=by
   show _=_;rw[bu.o,show gZ b (n.take 0)=[] from rfl,l5,n4]
  have f7:I (pre++bh (I n))<=310:=by have:=sN<|I n;rw[cJ];omega
  have aw:lW.wrap (I w:Int)=(I w:Int):=by rw[wrap_u64];omega
  have Q:X (∀a:ag,bc 133 #[aJ .u64 (I w:Int)] a λt G=>t=aN (ay<|strOf<|bh<|I w)/\aD a G):=λa=>bj.o _ a (by omega);have ar:¬ 9223372036854775807<(strOf pre).size+(strOf<|bh<|I w).size:=by
   have:=sN<|I w;rw[jf,jf];omega
  generalize strOf (bh<|I w)=V at*;generalize strOf pre=a4 at*;clear z;go_upto_region 8 with(go_at_call 133;refine(Q.o _).mono ?_;rintro t P ⟨rfl,A⟩);have H:X (aD o P):=L.o.trans<|A.mono L.o.size;clear A aw ar aa O ae L Q c0 b0 c1;generalize pre++bh (I n)=a9 at*;go_wp2_with fail
  go_loopw [3,6] (λs e wr=>∃f:Nat,f<=I w/\e=n9 f/\s=ay (strOf<|a9++gZ b (n.take f))/\aD o wr) (λ_ e _=>I w-bO (bB e))
  exact⟨0,cH _,rfl,by rw[bi.o],H.o⟩
  rename ag=>bL
  clear H bi;obtain⟨f,dA,rfl,rfl,z⟩:=hrel;have L:X (aD o bL):=z;have⟨aa,O,ae⟩:=a2.o bL z;have bm:U o.heap<=U bL.heap:=z.size;by_cases S:f<I w
  .have bH:f<I n:=by rw[<-bu.o];exact S
   have a7:=b1.o.below z;obtain rfl:=a7.addr (by omega);have ch:w[f].1=n[f]:=by
    have:=el.o;have b7:(w.map bf)[f]'(by simpa using S)=n[f]:=by simp only[this]
    simpa using b7
   have bK:ap bL ⟨a5,bk+f*2,Z⟩=K (aJ aM (w[f].1.rows:Int)):=a7.c f S 0 _ Y;have c3:X (uJ o eO 9 w[f].2 n[f].parts):=by have:=eb.o w[f]<|dm S;rw[ch] at this;exact this
   have am:X (wh (I b) n[f]):=cx.o n[f]<|dm bH;have be:X (strOf (a9++gZ b (n.take<|f+1))=strOf (a9++gZ b (n.take f)++bh n[f].rows++lS b n[f].parts n[f].parts.length)):=by
    show _=_;rw[Zq b n f bH];unfold uv;simp only[ij]
   have dJ:I (a9++gZ b (n.take f))<=1540310:=by
    have bD:=Zp (bs:=n.take f) (λk cc=>cx.o k<|xz cc) e5 b;rw[cJ];rw[ng] at bD;omega
   rw[ch] at bK;have⟨dQ,T,W,dP,dE,J⟩:=c3.o;have d8:X (a5<U o.heap):=b1.o.lt (by omega);have em:X (ap o ⟨a5,bk+f*2+1,Z⟩=K (ah dQ n[f].parts.length dP)):=by
    have:=b1.o.c f S 1 _ Y;rw[<-dE];exact this
   have ej:X (yO o eO 9 dQ T W n[f].parts):=J;have f0:n[f].parts.length<=8:=by have:=am.o.len;omega
   have fv:=am.o.rows;have fb:(f:Int)<(I w:Int):=by omega
   generalize cc:n[f]=k at*;generalize fg:a9++gZ b (n.take f)=pre at*;clear a7 ch cc fg c3 J dE z;have bi:X (strOf pre++strOf (bh k.rows)=strOf (pre++bh k.rows++lS b k.parts 0)):=by
    show _=_;rw[show lS b k.parts 0=[] from rfl,l5,n4]
   have f8:I (pre++bh k.rows)<=1540320:=by have:=sN k.rows;rw[cJ];omega
   have aw:lW.wrap (k.rows:Int)=(k.rows:Int):=by rw[wrap_u64];omega
   have Q:X (∀a:ag,bc 133 #[aJ .u64 (k.rows:Int)] a λt G=>t=aN (ay<|strOf<|bh k.rows)/\aD a G):=λa=>bj.o _ a (by omega);have ar:¬ 9223372036854775807<(strOf pre).size+(strOf<|bh k.rows).size:=by
    have:=sN k.rows;rw[jf,jf];omega
   generalize strOf (bh k.rows)=V at*;generalize strOf pre=a4 at*;go_upto_region 12 with(go_at_call 133;refine(Q.o _).mono ?_;rintro t P ⟨rfl,A⟩);have H:X (aD o P):=L.o.trans<|A.mono L.o.size;clear A aw ar aa O ae L Q bK fv;generalize pre++bh k.rows=al at*;go_wp2_with fail
   go_loopw [3,7] (λs e wr=>∃cn:Nat,cn<=I b/\e=n9 cn/\s=ay (strOf<|al++lS b k.parts cn)/\aD o wr) (λ_ e _=>I b-bO (bB e))
   exact⟨0,cH _,rfl,by rw[bi.o],H.o⟩
   rename ag=>C
   clear H bi;obtain⟨e,f2,rfl,rfl,z⟩:=hrel;have L:X (aD o C):=z;have⟨aa,O,ae⟩:=a2.o C z;have bm:U o.heap<=U C.heap:=z.size;by_cases ck:e<I b
   .have N:e<I k.parts:=by have:=am.o.len;omega
    have ad:=br.o.below z;obtain rfl:=ad.addr (by omega);have J:=ej.o.below z;obtain rfl:=J.addr (by omega);have cp:ap C ⟨a5,bk+f*2+1,Z⟩=K (ah (K ⟨T,W,Z⟩) (I k.parts) dP):=(bA z (p:=⟨a5,bk+f*2+1,Z⟩) d8.o).trans em.o;have fK:ap C ⟨T,W+e*9,Z⟩=K (aJ aM (k.parts[e].size:Int)):=J.c e N 0 _ Y;have bQ:ap C ⟨T,W+e*9+1,Z⟩=K (ak k.parts[e].bT.there):=J.c e N 1 _ Y;have bS:ap C ⟨T,W+e*9+2,Z⟩=K (ak k.parts[e].bT.least.null):=J.c e N 2 _ Y;have fL:ap C ⟨T,W+e*9+3,Z⟩=K (aJ aM k.parts[e].bT.least.n):=J.c e N 3 _ Y;have fO:ap C ⟨T,W+e*9+4,Z⟩=K (ay k.parts[e].bT.least.s):=J.c e N 4 _ Y;have fP:ap C ⟨T,W+e*9+5,Z⟩=K (ak k.parts[e].bT.most.null):=J.c e N 5 _ Y;have fQ:ap C ⟨T,W+e*9+6,Z⟩=K (aJ aM k.parts[e].bT.most.n):=J.c e N 6 _ Y;have fR:ap C ⟨T,W+e*9+7,Z⟩=K (ay k.parts[e].bT.most.s):=J.c e N 7 _ Y;have fS:ap C ⟨T,W+e*9+8,Z⟩=K (ay k.parts[e].text):=J.c e N 8 _ Y;have c4:X (al++lS b k.parts (e+1)=al++lS b k.parts e++bh k.parts[e].size++gp b[e].kind k.parts[e].bT):=by
     show _=_;rw[LY];unfold vv;rw[ep (l:=b),dV ck,ep (l:=k.parts),dV N];simp
    have f9:I (al++lS b k.parts e)<=1542000:=by
     have bD:=LX am.o b e (by omega);rw[cJ];omega
    have fB:=am.o.size _<|dm N;have c8:X (jd k.parts[e].bT.least):=am.o.least _<|dm N;have c9:X (jd k.parts[e].bT.most):=am.o.most _<|dm N;have c2:X (b[e].kind=1\/b[e].kind=2\/b[e].kind=3):=eh.o _<|dm ck;have cW:X (cb<U o.heap):=br.o.lt (by omega);have eo:X (ap o ⟨cb,bC+e*2+1,Z⟩=K (aJ aM b[e].kind)):=br.o.c1 e ck;have f3:(e:Int)<(I b:Int):=by omega
    have f4:(e:Int)<(I k.parts:Int):=by omega
    generalize k.parts[e]=l at*;generalize b[e].kind=q at*;generalize al++lS b k.parts e=a0 at*;clear ad J z;have aw:lW.wrap (l.size:Int)=(l.size:Int):=by rw[wrap_u64];omega
    have Q:X (∀a:ag,bc 133 #[aJ .u64 (l.size:Int)] a λt G=>t=aN (ay<|strOf<|bh l.size)/\aD a G):=λa=>bj.o _ a (by omega);have ar:¬ 9223372036854775807<(strOf a0).size+(strOf<|bh l.size).size:=by
     have:=sN l.size;rw[jf,jf];omega
    have fd:I (a0++bh l.size)<=1542010:=by have:=sN l.size;rw[cJ];omega
    have c7:X (strOf a0++strOf (bh l.size)=strOf (a0++bh l.size)):=bq<|n4 _;generalize strOf (bh l.size)=V at*;generalize strOf a0=a4 at*;go_upto_region 16 with fail;have bl:(C.alloc<|aq (cR<|eO l) 128).heap[U C.heap]? =K (aq (cR<|eO l) 128 (0,0)):=iI _ _;have aR:aD o (C.alloc<|aq (cR<|eO l) 128):=L.o.alloc bm _;rw[show cR (eO l)=#[n9 l.size,ak l.bT.there,ak l.bT.least.null,z9 l.bT.least.n,ay l.bT.least.s,ak l.bT.most.null,z9 l.bT.most.n,ay l.bT.most.s,ay l.text] from rfl] at aR bl;generalize C.alloc (aq #[n9 l.size,ak l.bT.there,ak l.bT.least.null,z9 l.bT.least.n,ay l.bT.least.s,ak l.bT.most.null,z9 l.bT.most.n,ay l.bT.most.s,ay l.text] 128)=da at*;generalize U C.heap=d at*;have bs:X (da.heap[d]? =K (aq (cR<|eO l) 128 (0,0))):=bl;clear fK bQ bS fL fO fP fQ fR fS cp aa O ae L fB;have ew:ap da ⟨d,0,Z⟩=K (aJ aM (l.size:Int)):=(LW bs.o).1;go_upto_region 17 with(go_at_call 133;refine(Q.o _).mono ?_;rintro t u ⟨rfl,aU⟩);have cZ:X (u.heap[d]? =K (aq (cR<|eO l) 128 (0,0))):=(cT aU _<|bE bs.o).trans bs.o;have D:X (aD o u):=aR.trans<|aU.mono aR.size;have dq:=c7.o;rw[dq];have c5:X (al++lS b k.parts (e+1)=a0++bh l.size++gp q l.bT):=c4.o;clear bl aR aU ew bs aw Q ar c7 dq c4;generalize a0++bh l.size=aI at*;obtain⟨-,fU,eA,eB,eE,eF,eG,eJ,-⟩:=LW cZ.o;have⟨aa,O,ae⟩:=a2.o u D.o;have eK:ap u ⟨cb,bC+e*2+1,Z⟩=K (z9 q):=(bA D.o (p:=⟨cb,bC+e*2+1,Z⟩) cW.o).trans eo.o;have⟨EG,⟨et,h,i⟩,fV⟩:=l;cases et
    .have ab:X (strOf aI++strOf [0]=strOf (al++lS b k.parts (e+1))):=by
      show _=_;rw[c5.o,<-n4];rfl
     have ar:¬ 9223372036854775807<(strOf aI).size+(strOf [0]).size:=by
      rw[jf,jf];simp;omega
     have dv:∀(a:ag) (R:Nat),ap a ⟨R,0,Z⟩=K (aJ .u8 0)->(convert 133 9<|aG R 1 1).run (aH ax) a=cm (ay<|strOf [0]) a:=λa R m=>zG m;generalize strOf [0]=bz at*;generalize strOf aI=bv at*;have dK:U o.heap<=U u.heap:=D.o.size;go_wp2_with fail
     go_roundw
     case rel=>exact⟨e+1,by omega,by go_num,by rw[ab.o],D.o.alloc dK _⟩
     case measure=>simp[bB];omega
    .have ab:X (strOf aI++strOf [1]++strOf (dc q h)++strOf (dc q i)=strOf (al++lS b k.parts (e+1))):=by
      show _=_;rw[c5.o,<-n4,<-n4,<-n4];congr 1;show aI++[1]++dc q h++dc q i=aI++([1]++(dc q h++dc q i));simp only[ij]
     have dL:=yj q h c8.o.sz;have dO:=yj q i c9.o.sz;have fk:(strOf<|dc q h).size<=42:=by rw[jf];exact dL
     have fl:(strOf<|dc q i).size<=42:=by rw[jf];exact dO
     have fr:(strOf [1]).size<=1:=by rw[jf];simp
     have ft:(strOf aI).size<=1542010:=by rw[jf];exact fd
     have b3:X (∀a:ag,bc 134 #[bZ<|eC h,z9 q] a λt G=>t=aN (ay<|strOf<|dc q h)/\aD a G):=λa=>CX h q a c2.o c8.o;have a3:X (∀a:ag,bc 134 #[bZ<|eC i,z9 q] a λt G=>t=aN (ay<|strOf<|dc q i)/\aD a G):=λa=>CX i q a c2.o c9.o;have dv:∀(a:ag) (R:Nat),ap a ⟨R,0,Z⟩=K (aJ .u8 1)->(convert 133 9<|ah (K ⟨R,0,Z⟩) 1 1).run (aH ax) a=cm (ay<|strOf [1]) a:=λa R m=>zG m;generalize strOf [1]=bz at*;generalize strOf aI=bv at*;generalize strOf (dc q h)=cu at*;generalize strOf (dc q i)=d6 at*;have ar:¬ 9223372036854775807<bv.size+bz.size:=by omega
     have fx:¬ 9223372036854775807<bv.size+bz.size+cu.size:=by omega
     have fy:¬ 9223372036854775807<bv.size+bz.size+cu.size+d6.size:=by omega
     clear dL dO fk fl fr ft;have dK:U o.heap<=U u.heap:=D.o.size;have a8:d<U u.heap:=bE cZ.o;have e8:p<U u.heap:=by omega
     have e4:cb<U u.heap:=by have:=cW.o;omega
     have M:X (∀a,aD u a->(λa=>ap a ⟨d,2,Z⟩=K (ak h.null)/\ap a ⟨d,3,Z⟩=K (aJ aM h.n)/\ap a ⟨d,4,Z⟩=K (ay h.s)/\ap a ⟨d,5,Z⟩=K (ak i.null)/\ap a ⟨d,6,Z⟩=K (aJ aM i.n)/\ap a ⟨d,7,Z⟩=K (ay i.s)/\ap a ⟨p,0,Z⟩=K (ah (K ⟨cb,bC,Z⟩) (I b) bF)/\ap a ⟨cb,bC+e*2+1,Z⟩=K (z9 q)) a):=λa m=>
      ⟨(bA m (p:=⟨d,2,Z⟩) a8).trans eA,(bA m (p:=⟨d,3,Z⟩) a8).trans eB,(bA m (p:=⟨d,4,Z⟩) a8).trans eE,(bA m (p:=⟨d,5,Z⟩) a8).trans eF,(bA m (p:=⟨d,6,Z⟩) a8).trans eG,(bA m (p:=⟨d,7,Z⟩) a8).trans eJ,(bA m (p:=⟨p,0,Z⟩) e8).trans aa,(bA m (p:=⟨cb,bC+e*2+1,Z⟩) e4).trans eK⟩
     go_upto_region 18 with fail;refine Un.open_ (λa=>ap a ⟨d,2,Z⟩=K (ak h.null)/\ap a ⟨d,3,Z⟩=K (aJ aM h.n)/\ap a ⟨d,4,Z⟩=K (ay h.s)/\ap a ⟨d,5,Z⟩=K (ak i.null)/\ap a ⟨d,6,Z⟩=K (aJ aM i.n)/\ap a ⟨d,7,Z⟩=K (ay i.s)/\ap a ⟨p,0,Z⟩=K (ah (K ⟨cb,bC,Z⟩) (I b) bF)/\ap a ⟨cb,bC+e*2+1,Z⟩=K (z9 q)) 28 (λ_ _ _ _ _ m=>m) λfu=>?_;have d7:X (aD u u.drew):=(bN _ _).drew;have aQ:(λa=>ap a ⟨d,2,Z⟩=K (ak h.null)/\ap a ⟨d,3,Z⟩=K (aJ aM h.n)/\ap a ⟨d,4,Z⟩=K (ay h.s)/\ap a ⟨d,5,Z⟩=K (ak i.null)/\ap a ⟨d,6,Z⟩=K (aJ aM i.n)/\ap a ⟨d,7,Z⟩=K (ay i.s)/\ap a ⟨p,0,Z⟩=K (ah (K ⟨cb,bC,Z⟩) (I b) bF)/\ap a ⟨cb,bC+e*2+1,Z⟩=K (aJ aM q)) u.drew:=M.o _ d7.o;refine Un.pk 0 ?_;refine Un.pk 4 ?_;refine Un.ld [28] 5 ?_;refine Un.pk 6 ?_;refine Un.pk 7 ?_;refine Un.pk 8 ?_;refine Un.ld [28] 9 ?_;refine Un.pk 10 ?_;refine Un.pk 11 ?_;refine Un.pk 12 ?_;refine Un.ld [28] 13 ?_;refine Un.pk 16 ?_;refine Un.ld [28] 17 ?_;refine Un.pk 18 ?_;refine Un.pk 19 ?_;refine Un.pk 20 ?_;refine Un.ld [28] 21 ?_;refine Un.pk 22 ?_;refine Un.pk 23 ?_;refine Un.pk 24 ?_;refine Un.ld [28] 25 ?_;try simp only[bw,ct,cj,b9]
     refine Un.pair (i:=1) (j:=14) (by kernel_rfl) Y Y (λg c=>?_) λg c=>?_
     .rw[if_pos<|by rfl];go_simp;have d9:X (aD u<|(u.alloc<|aq #[aJ .u8 1] 5).drew):=((bN _ _).alloc (aZ _) _).drew;have eM:(λa=>ap a ⟨d,2,Z⟩=K (ak h.null)/\ap a ⟨d,3,Z⟩=K (aJ aM h.n)/\ap a ⟨d,4,Z⟩=K (ay h.s)/\ap a ⟨d,5,Z⟩=K (ak i.null)/\ap a ⟨d,6,Z⟩=K (aJ aM i.n)/\ap a ⟨d,7,Z⟩=K (ay i.s)/\ap a ⟨p,0,Z⟩=K (ah (K ⟨cb,bC,Z⟩) (I b) bF)/\ap a ⟨cb,bC+e*2+1,Z⟩=K (aJ aM q)) ((u.alloc<|aq #[aJ .u8 1] 5).drew):=M.o _ d9.o;refine c.o _ _ (λ_=>eM) ?_;clear c g;try simp only[bw,ct,cj,b9]
      refine Un.pair (i:=2) (j:=14) (by kernel_rfl) Y Y (λg c=>?_) λg c=>?_
      .rw[if_pos<|by rfl];go_simp;refine c.o _ _ (λ_=>by assumption) ?_;clear c g;refine Un.pk 3 ?_;try simp only[bw,ct,cj,b9]
       refine Un.on 14 λg c=>?_;go_simp;go_at_call 134;refine(b3.o _).mono ?_;rintro t d0 ⟨rfl,A⟩;have bW:X (aD u d0):=uZ A;have eU:(λa=>ap a ⟨d,2,Z⟩=K (ak h.null)/\ap a ⟨d,3,Z⟩=K (aJ aM h.n)/\ap a ⟨d,4,Z⟩=K (ay h.s)/\ap a ⟨d,5,Z⟩=K (ak i.null)/\ap a ⟨d,6,Z⟩=K (aJ aM i.n)/\ap a ⟨d,7,Z⟩=K (ay i.s)/\ap a ⟨p,0,Z⟩=K (ah (K ⟨cb,bC,Z⟩) (I b) bF)/\ap a ⟨cb,bC+e*2+1,Z⟩=K (aJ aM q)) d0:=M.o _ bW.o;refine c.o _ _ (λ_=>eU) ?_;clear c g A;refine Un.pk 15 ?_;try simp only[bw,ct,cj,b9]
       refine Un.on 26 λg c=>?_;go_simp;go_at_call 134;refine(a3.o _).mono ?_;rintro t d1 ⟨rfl,y⟩;have cK:X (aD u d1):=bW.o.trans<|y.mono bW.o.size;have eV:(λa=>ap a ⟨d,2,Z⟩=K (ak h.null)/\ap a ⟨d,3,Z⟩=K (aJ aM h.n)/\ap a ⟨d,4,Z⟩=K (ay h.s)/\ap a ⟨d,5,Z⟩=K (ak i.null)/\ap a ⟨d,6,Z⟩=K (aJ aM i.n)/\ap a ⟨d,7,Z⟩=K (ay i.s)/\ap a ⟨p,0,Z⟩=K (ah (K ⟨cb,bC,Z⟩) (I b) bF)/\ap a ⟨cb,bC+e*2+1,Z⟩=K (aJ aM q)) d1:=M.o _ cK.o;refine c.o _ _ (λ_=>eV) ?_;clear c g y;refine Un.pk 27 ?_;try simp only[bw,ct,cj,b9]
       refine Un.on 28 λg c=>?_;go_simp;refine c.o _ _ (λm=>absurd m<|by decide) ?_;clear c g;try simp only[bw,ct,cj,b9]
       refine Un.done (by kernel_rfl) ?_ _;try simp only[bw,ct,cj,b9]
       go_wp2_with fail
       go_roundw
       case rel=>exact⟨e+1,by omega,by go_num,by rw[ab.o],D.o.trans<|cK.o.mono D.o.size⟩
       case measure=>simp[bB];omega
      .rw[if_pos<|by rfl];go_simp;go_at_call 134;refine(b3.o _).mono ?_;rintro t d2 ⟨rfl,cf⟩;have ba:X (aD u d2):=uZ cf;have gf:=BZ cf;have eX:(λa=>ap a ⟨d,2,Z⟩=K (ak h.null)/\ap a ⟨d,3,Z⟩=K (aJ aM h.n)/\ap a ⟨d,4,Z⟩=K (ay h.s)/\ap a ⟨d,5,Z⟩=K (ak i.null)/\ap a ⟨d,6,Z⟩=K (aJ aM i.n)/\ap a ⟨d,7,Z⟩=K (ay i.s)/\ap a ⟨p,0,Z⟩=K (ah (K ⟨cb,bC,Z⟩) (I b) bF)/\ap a ⟨cb,bC+e*2+1,Z⟩=K (aJ aM q)) d2:=M.o _ ba.o;refine c.o _ _ (λ_=>eX) ?_;clear c g cf;try simp only[bw,ct,cj,b9]
       refine Un.pair (i:=2) (j:=26) (by kernel_rfl) Y Y (λg c=>?_) λg c=>?_
       .rw[if_pos<|by rfl];go_simp;refine c.o _ _ (λ_=>by assumption) ?_;clear c g;refine Un.pk 3 ?_;refine Un.pk 15 ?_;try simp only[bw,ct,cj,b9]
        refine Un.on 26 λg c=>?_;go_simp;go_at_call 134;refine(a3.o _).mono ?_;rintro t d3 ⟨rfl,ds⟩;have cM:X (aD u d3):=ba.o.trans<|ds.mono ba.o.size;have eY:(λa=>ap a ⟨d,2,Z⟩=K (ak h.null)/\ap a ⟨d,3,Z⟩=K (aJ aM h.n)/\ap a ⟨d,4,Z⟩=K (ay h.s)/\ap a ⟨d,5,Z⟩=K (ak i.null)/\ap a ⟨d,6,Z⟩=K (aJ aM i.n)/\ap a ⟨d,7,Z⟩=K (ay i.s)/\ap a ⟨p,0,Z⟩=K (ah (K ⟨cb,bC,Z⟩) (I b) bF)/\ap a ⟨cb,bC+e*2+1,Z⟩=K (aJ aM q)) d3:=M.o _ cM.o;refine c.o _ _ (λ_=>eY) ?_;clear c g ds;refine Un.pk 27 ?_;try simp only[bw,ct,cj,b9]
        refine Un.on 28 λg c=>?_;go_simp;refine c.o _ _ (λm=>absurd m<|by decide) ?_;clear c g;try simp only[bw,ct,cj,b9]
        refine Un.done (by kernel_rfl) ?_ _;try simp only[bw,ct,cj,b9]
        go_wp2_with fail
        go_roundw
        case rel=>exact⟨e+1,by omega,by go_num,by rw[ab.o],D.o.trans<|cM.o.mono D.o.size⟩
        case measure=>simp[bB];omega
       .rw[if_pos<|by rfl];go_simp;go_at_call 134;refine(a3.o _).mono ?_;rintro t d4 ⟨rfl,aU⟩;have cN:X (aD u d4):=ba.o.trans<|aU.mono ba.o.size;have gg:=PE aU ‹ap _ ⟨U u.heap,0,Z⟩=_›;have eZ:(λa=>ap a ⟨d,2,Z⟩=K (ak h.null)/\ap a ⟨d,3,Z⟩=K (aJ aM h.n)/\ap a ⟨d,4,Z⟩=K (ay h.s)/\ap a ⟨d,5,Z⟩=K (ak i.null)/\ap a ⟨d,6,Z⟩=K (aJ aM i.n)/\ap a ⟨d,7,Z⟩=K (ay i.s)/\ap a ⟨p,0,Z⟩=K (ah (K ⟨cb,bC,Z⟩) (I b) bF)/\ap a ⟨cb,bC+e*2+1,Z⟩=K (aJ aM q)) d4:=M.o _ cN.o;refine c.o _ _ (λ_=>eZ) ?_;clear c g aU;try simp only[bw,ct,cj,b9]
        refine Un.on 2 λg c=>?_;go_simp;refine c.o _ _ (λ_=>by assumption) ?_;clear c g;refine Un.pk 3 ?_;refine Un.pk 15 ?_;refine Un.pk 27 ?_;try simp only[bw,ct,cj,b9]
        refine Un.on 28 λg c=>?_;go_simp;refine c.o _ _ (λm=>absurd m<|by decide) ?_;clear c g;try simp only[bw,ct,cj,b9]
        refine Un.done (by kernel_rfl) ?_ _;try simp only[bw,ct,cj,b9]
        go_wp2_with fail
        go_roundw
        case rel=>exact⟨e+1,by omega,by go_num,by rw[ab.o],D.o.trans<|cN.o.mono D.o.size⟩
        case measure=>simp[bB];omega
     .rw[if_pos<|by rfl];go_simp;go_at_call 134;refine(b3.o _).mono ?_;rintro t bP ⟨rfl,dt⟩;have bb:X (aD u bP):=IN dt;have e0:(λa=>ap a ⟨d,2,Z⟩=K (ak h.null)/\ap a ⟨d,3,Z⟩=K (aJ aM h.n)/\ap a ⟨d,4,Z⟩=K (ay h.s)/\ap a ⟨d,5,Z⟩=K (ak i.null)/\ap a ⟨d,6,Z⟩=K (aJ aM i.n)/\ap a ⟨d,7,Z⟩=K (ay i.s)/\ap a ⟨p,0,Z⟩=K (ah (K ⟨cb,bC,Z⟩) (I b) bF)/\ap a ⟨cb,bC+e*2+1,Z⟩=K (aJ aM q)) bP:=M.o _ bb.o;refine c.o _ _ (λ_=>e0) ?_;clear c g dt;try simp only[bw,ct,cj,b9]
      refine Un.pair (i:=1) (j:=26) (by kernel_rfl) Y Y (λg c=>?_) λg c=>?_
      .rw[if_pos<|by rfl];go_simp;have bd:X (aD u<|bP.alloc<|aq #[aJ .u8 1] 5):=bb.o.alloc bb.o.size _;have e1:(λa=>ap a ⟨d,2,Z⟩=K (ak h.null)/\ap a ⟨d,3,Z⟩=K (aJ aM h.n)/\ap a ⟨d,4,Z⟩=K (ay h.s)/\ap a ⟨d,5,Z⟩=K (ak i.null)/\ap a ⟨d,6,Z⟩=K (aJ aM i.n)/\ap a ⟨d,7,Z⟩=K (ay i.s)/\ap a ⟨p,0,Z⟩=K (ah (K ⟨cb,bC,Z⟩) (I b) bF)/\ap a ⟨cb,bC+e*2+1,Z⟩=K (aJ aM q)) (bP.alloc<|aq #[aJ .u8 1] 5):=M.o _ bd.o;refine c.o _ _ (λ_=>e1) ?_;clear c g;try simp only[bw,ct,cj,b9]
       refine Un.pair (i:=2) (j:=26) (by kernel_rfl) Y Y (λg c=>?_) λg c=>?_
       .rw[if_pos<|by rfl];go_simp;refine c.o _ _ (λ_=>by assumption) ?_;clear c g;refine Un.pk 3 ?_;refine Un.pk 15 ?_;try simp only[bw,ct,cj,b9]
        refine Un.on 26 λg c=>?_;go_simp;go_at_call 134;refine(a3.o _).mono ?_;rintro t d5 ⟨rfl,cq⟩;have cO:X (aD u d5):=bd.o.trans<|cq.mono bd.o.size;have e2:(λa=>ap a ⟨d,2,Z⟩=K (ak h.null)/\ap a ⟨d,3,Z⟩=K (aJ aM h.n)/\ap a ⟨d,4,Z⟩=K (ay h.s)/\ap a ⟨d,5,Z⟩=K (ak i.null)/\ap a ⟨d,6,Z⟩=K (aJ aM i.n)/\ap a ⟨d,7,Z⟩=K (ay i.s)/\ap a ⟨p,0,Z⟩=K (ah (K ⟨cb,bC,Z⟩) (I b) bF)/\ap a ⟨cb,bC+e*2+1,Z⟩=K (aJ aM q)) d5:=M.o _ cO.o;refine c.o _ _ (λ_=>e2) ?_;clear c g cq;refine Un.pk 27 ?_;try simp only[bw,ct,cj,b9]
        refine Un.on 28 λg c=>?_;go_simp;refine c.o _ _ (λm=>absurd m<|by decide) ?_;clear c g;try simp only[bw,ct,cj,b9]
        refine Un.done (by kernel_rfl) ?_ _;try simp only[bw,ct,cj,b9]
        go_wp2_with fail
        go_roundw
        case rel=>exact⟨e+1,by omega,by go_num,by rw[ab.o],D.o.trans<|cO.o.mono D.o.size⟩
        case measure=>simp[bB];omega
       .rw[if_pos<|by rfl];go_simp;go_at_call 134;refine(a3.o _).mono ?_;rintro t dT ⟨rfl,cd⟩;have cy:X (aD u dT):=bd.o.trans<|cd.mono bd.o.size;have ge:=PD cd;have eQ:(λa=>ap a ⟨d,2,Z⟩=K (ak h.null)/\ap a ⟨d,3,Z⟩=K (aJ aM h.n)/\ap a ⟨d,4,Z⟩=K (ay h.s)/\ap a ⟨d,5,Z⟩=K (ak i.null)/\ap a ⟨d,6,Z⟩=K (aJ aM i.n)/\ap a ⟨d,7,Z⟩=K (ay i.s)/\ap a ⟨p,0,Z⟩=K (ah (K ⟨cb,bC,Z⟩) (I b) bF)/\ap a ⟨cb,bC+e*2+1,Z⟩=K (aJ aM q)) dT:=M.o _ cy.o;refine c.o _ _ (λ_=>eQ) ?_;clear c g cd;try simp only[bw,ct,cj,b9]
        refine Un.on 2 λg c=>?_;go_simp;refine c.o _ _ (λ_=>by assumption) ?_;clear c g;refine Un.pk 3 ?_;refine Un.pk 15 ?_;refine Un.pk 27 ?_;try simp only[bw,ct,cj,b9]
        refine Un.on 28 λg c=>?_;go_simp;refine c.o _ _ (λm=>absurd m<|by decide) ?_;clear c g;try simp only[bw,ct,cj,b9]
        refine Un.done (by kernel_rfl) ?_ _;try simp only[bw,ct,cj,b9]
        go_wp2_with fail
        go_roundw
        case rel=>exact⟨e+1,by omega,by go_num,by rw[ab.o],D.o.trans<|cy.o.mono D.o.size⟩
        case measure=>simp[bB];omega
      .rw[if_pos<|by rfl];go_simp;go_at_call 134;refine(a3.o _).mono ?_;rintro t bM ⟨rfl,dr⟩;have bV:X (aD u bM):=bb.o.trans<|dr.mono bb.o.size;have eR:(λa=>ap a ⟨d,2,Z⟩=K (ak h.null)/\ap a ⟨d,3,Z⟩=K (aJ aM h.n)/\ap a ⟨d,4,Z⟩=K (ay h.s)/\ap a ⟨d,5,Z⟩=K (ak i.null)/\ap a ⟨d,6,Z⟩=K (aJ aM i.n)/\ap a ⟨d,7,Z⟩=K (ay i.s)/\ap a ⟨p,0,Z⟩=K (ah (K ⟨cb,bC,Z⟩) (I b) bF)/\ap a ⟨cb,bC+e*2+1,Z⟩=K (aJ aM q)) bM:=M.o _ bV.o;refine c.o _ _ (λ_=>eR) ?_;clear c g dr;try simp only[bw,ct,cj,b9]
       refine Un.on 1 λg c=>?_;go_simp;have cA:X (aD u<|bM.alloc<|aq #[aJ .u8 1] 5):=bV.o.alloc bV.o.size _;have eS:(λa=>ap a ⟨d,2,Z⟩=K (ak h.null)/\ap a ⟨d,3,Z⟩=K (aJ aM h.n)/\ap a ⟨d,4,Z⟩=K (ay h.s)/\ap a ⟨d,5,Z⟩=K (ak i.null)/\ap a ⟨d,6,Z⟩=K (aJ aM i.n)/\ap a ⟨d,7,Z⟩=K (ay i.s)/\ap a ⟨p,0,Z⟩=K (ah (K ⟨cb,bC,Z⟩) (I b) bF)/\ap a ⟨cb,bC+e*2+1,Z⟩=K (aJ aM q)) (bM.alloc<|aq #[aJ .u8 1] 5):=M.o _ cA.o;refine c.o _ _ (λ_=>eS) ?_;clear c g;try simp only[bw,ct,cj,b9]
       refine Un.on 2 λg c=>?_;go_simp;refine c.o _ _ (λ_=>by assumption) ?_;clear c g;refine Un.pk 3 ?_;refine Un.pk 15 ?_;refine Un.pk 27 ?_;try simp only[bw,ct,cj,b9]
       refine Un.on 28 λg c=>?_;go_simp;refine c.o _ _ (λm=>absurd m<|by decide) ?_;clear c g;try simp only[bw,ct,cj,b9]
       refine Un.done (by kernel_rfl) ?_ _;try simp only[bw,ct,cj,b9]
       go_wp2_with fail
       go_roundw
       case rel=>exact⟨e+1,by omega,by go_num,by rw[ab.o],D.o.trans<|cA.o.mono D.o.size⟩
       case measure=>simp[bB];omega
   .obtain rfl:e=I b:=by omega
    have ab:X (strOf (al++lS b k.parts (I b))=strOf (a9++gZ b (n.take<|f+1))):=by
     show _=_;rw[be.o,am.o.len]
    clear z;go_wp2_with fail
    go_roundw
    case rel=>exact⟨f+1,by omega,by go_num,by rw[ab.o],L.o⟩
    case measure=>simp[bB];omega
  obtain rfl:f=I w:=by omega
  clear z;go_wp2_with fail;go_ret;rw[ed.o];exact⟨rfl,L.o⟩
def JY{d j:Type}{f c:d->List j}{a:List d}(h:∀b∈a,f b=c b):a.flatMap f=a.flatMap c:=by
 induction a with
 |nil=>rfl
 |cons b k g=>rw[kX,kX,h b aI,g λi e=>h i<|by simp[e]]
def aE.Vf:((aH ax).info? 128).map (λa=>(jH a,a.size,jm a))=K (K<|bZ Xp,9,96):=aR
def aE.Ve:((aH ax).info? 122).map (λa=>(jH a,a.size,jm a))=K (K<|bZ #[z9 0,aF],2,32):=aR
def Xm(a:ag){c:fu}:∀(b:Nat) (d:F),(eO c)[b]? =K d->ap (cG a<|aq (cR<|eO c) Qd) ((⟨U a.heap,0,Z⟩:aL).add b)=K d:=
 y6 (iI a _)
def Xn{c:fu}:∀b∈eO c,m3 b=af:=by
 intro b a;simp[eO] at a;rcases a with rfl|rfl|rfl|rfl|rfl|rfl|rfl|rfl|rfl<;>rfl
def Og(a:ag){b:di}:∀(c:Nat) (d:F),(hJ (b,v))[c]? =K d->ap (cG a<|aq (cR<|hJ (b,v)) Qd) ((⟨U a.heap,0,Z⟩:aL).add c)=K d:=
 y6 (iI a _)
def Cut (s:ByteArray)(b a:List Nat):Prop:=bg s<=65536/\bytesOf s=nB++(b++(a++(iV (I a)++nB)))
def Cut.len{s:ByteArray}(h:Cut s l L):bg s=I l+I L+12:=by
 have:=congrArg I h.2;rw[cM] at this;simp[nB,iV] at this;omega
def WC(a:n<=65536)(b:m<=65536)(h:iV n=iV m):n=m:=by
 unfold iV at h;simp at h;omega
def Cut.mo{s:ByteArray}(h:Cut s l L)(a:Cut s qF qG):l=qF/\L=qG:=by
 have i:=h.len;have j:=a.len;have g:=h.1;have b:=aB h.2.symm a.2;have f:=List.append_cancel_left b;have c:(l++L)++(iV (I L)++nB)=(qF++qG)++(iV (I qG)++nB):=bu;have⟨d,e⟩:=List.append_inj' c (by simp[iV]);exact List.append_inj' d<|WC aa aa<|List.append_cancel_right e
def hO (b:List (bx×Int))(a:List Bd):List Nat:=kL b++(bh (I a)++ot (b.map bf) a)
structure eB(l:List (bx×Int))(bs:List Bd):Prop where
 pl:k3 l
 e7:∀b∈bs,lV (l.map bf) b
 rows:gW bs<=2000
def mC (s:ByteArray)(b:List (bx×Int))(a:List Bd):Prop:=eB b a/\Cut s (fB a) (hO b a)
def oa (s:ByteArray)(d:List bx)(g e:Nat):Prop:=
 (∃b a,mC s b a/\d=b.map bf/\g=gW a/\e=0/\∀f c,mC s f c->f=b/\gW c=gW a)\/((∀b a,¬mC s b a)/\d=[]/\g=0/\e=3)
def SA{b:List (bx×Int)}:∀a,a<=I b->ny (b.map bf) (b.map dD) a=iN (b.take a):=by
 intro a
 induction a with
 |zero=>intro _;simp[ny,iN]
 |succ a e=>
  intro f;rw[Ji,e aa,gm aa,CV];congr 1;unfold xO lR;have c:aW (b.map bf) a ⟨⟨#[]⟩,0⟩=b[a].1:=by rw[ep,dV bu];simp
  have d:aW (b.map dD) a 0=b[a].2:=by rw[ep,dV bu];simp
  rw[c,d]
def lg (a:List (bx×Int))(b:List di):List Nat:=kL a++(bh (I b)++gZ (a.map bf) b)
def Ul{a:List (bx×Int)}{b:List di}:zO (a.map bf) (a.map dD) b=lg a b:=by
 unfold zO lg kL;rw[SA _ aI,er,jq,ij]
structure mq(w W:ag)(g r q n:Nat)(kv:F)(l:List fy):Prop where
 res:W.heap[U w.heap]? =K (aq #[z9 0,ah Z 0 0] 139 (0,0))
 box:W.heap[g]? =K (aq #[n9 n,kv] 139 (0,0))
 own:aT W (U w.heap) 143 8 kv (I l) (sB l)
 kp:eX r q w W
def mq.step{b:List fy}(h:mq w u n m k i v b)(d:m<U w.heap)(c:k<U w.heap)(e:U w.heap<n)(a:eX m k u W):mq w W n m k i v b:=
 ⟨a.keep h.res aa aa,a.keep h.box aa aa,a.own h.own d c,h.kp.trans a⟩
def mq.below{b:List fy}(h:mq w u n m k i v b)(a:aD u W):mq w W n m k i v b:=
 ⟨(cT a _<|bE h.res).trans h.res,(cT a _<|bE h.box).trans h.box,fc h.own a,h.kp.trans<|eX.iW a⟩
def mq.cells{b:List fy}(h:mq w u n m k i v b):
 ap u ⟨n,0,Z⟩=K (n9 i)/\ap u ⟨n,1,Z⟩=K v/\cE u ⟨n,1,Z⟩=aj:=by
 have a:=h.box;exact⟨by simp[ap,a],by simp[ap,a],by simp[cE,a]⟩
def mq.kept{c:List fy}(h:mq w u n m k i v c)(b:dx u W v x):
 ap W ⟨n,1,Z⟩=K v/\cE W ⟨n,1,Z⟩=aj:=by
 have a:=aB (b.dK.block _ (bE h.box)<|dS h.own h.box az) h.box;exact⟨by simp[ap,a],by simp[cE,a]⟩
def mq.oX{j b:List fy}(h:mq w u n m k i v j)(o:U w.heap<n)(a:dx u W v x)(e:aT W (U w.heap) 143 8 x (I b) (sB b)):
 mq w (aY W ⟨n,1,Z⟩ x) n m k i x b:=by
 have f:=aB (a.dK.block _ (bE h.res)<|dS h.own h.res az) h.res;have d:=aB (a.dK.block _ (bE h.box)<|dS h.own h.box az) h.box;refine⟨?_,(ek W n 1 _ _ x d),?_,?_⟩;rw[ei _ _ _ _ bS];exact f;exact fI e (eM W _ 1 x)<|ai (dS e d az).symm;exact(h.kp.grown a.dK λc g=>(h.own.lt c g).1).grown (eM W n 1 x) λc l=>bu
def mq.reader{d:List fy}(h:mq w u n m k i v d)(e:U w.heap<n)(c:dx u W v x)(f:j<U w.heap)(a:u.heap[j]? =K Ql):(aY W ⟨n,1,Z⟩ x).heap[j]? =K Ql:=by
 rw[ei _ _ _ _ bS,c.dK.block j (bE a) λb=>cA<|(h.own.lt j<|bq b).1];exact a
def Iv (b:List bx)(l:ag)(k c:Nat)(s:ByteArray)(j d:Nat)(e:ByteArray)(h:gN)(g:ag):Prop:=
 eX k j l g/\((∃(a:Bd) (i:F),h=aN (bZ #[n9 a.rows,i])/\lV b a/\aQ (bytesOf s) c (jY b a)/\c+I (jY b a)<=s.size/\g.heap[k]? =K (bQ s<|c+I (jY b a))/\aQ (bytesOf e) d (fH a.chunks)/\d+I (fH a.chunks)<=e.size/\g.heap[j]? =K (bQ e<|d+I (fH a.chunks))/\
  aT g (U l.heap) 143 8 i (I a.chunks) (sB a.chunks)/\(∀f,lV b f->aQ (bytesOf s) c (jY b f)->aQ (bytesOf e) d (fH f.chunks)->f=a))\/
  (∃m,h=gO (g4 m)/\∀a,lV b a->aQ (bytesOf s) c (jY b a)->¬aQ (bytesOf e) d (fH a.chunks)))
def T5(z B:Option aL)(y:Nat)(v:F)(a:List (Bd×F))(o:ag)(r:pu o y v a)(ad:I a<=65536)(x:∀q∈a.map bf,q.rows<=100):
 bc 45 #[bZ #[ah z n m,ah B k i,v]] o λA N=>A=aN (n9<|gW<|a.map bf)/\aD o N:=by
 have D:∀t∈a,∃h g e,t.2=ah h g e:=λt K=>by
  have⟨h,e,C⟩:=e9<|r.each t K;exact⟨h,_,e,C⟩
 have⟨R,Q,E⟩:=e9 r.own;have c:=uJ.gB Jw r.own;subst E;have⟨P,j,l,V,G,c⟩:=c;cases G;go_enter aE.func45,Tryz.ntmps45;go_wp2_with fail
 go_loopw [3,9] (λg s wr=>∃b:Nat,b<=I a/\s=n9 b/\g=n9 (gW<|(a.map bf).take b)/\aD o wr) (λ_ s _=>I a-bO (bB s))
 exact⟨0,cH _,rfl,rfl,pE (bN _ _) (aZ _) _⟩;obtain⟨b,ab,rfl,rfl,d⟩:=hrel;have u:=aA d;have M:=d.size;by_cases f:b<I a
 .have J:b<I (a.map bf):=by rw[er];exact f
  have p:X (gW ((a.map bf).take<|b+1)=gW ((a.map bf).take b)+a[b].1.rows):=by
   show _=_;rw[r_ J];simp
  have al:gW ((a.map bf).take b)<=65536*100:=by
   have U:=MD ((a.map bf).take b) λq d=>x q<|xz d;have W:I ((a.map bf).take b)<=65536:=bS;omega
  have ae:a[b].1.rows<=100:=x _<|jW.2 ⟨a[b],dm f,rfl⟩;have⟨h,g,e,L⟩:=D a[b]<|dm f;have H:=c.addr aa;subst H;have w:=c.lt aa;have S:bl wr j (l+b*2) (n9<|a[b].1.rows):=aB (bA d (p:=⟨j,l+b*2,Z⟩) w)<|c.c b f 0 _ Y;have T:bl wr j (l+b*2+1) (ah h g e):=aB (bA d (p:=⟨j,l+b*2+1,Z⟩) w) (by rw[<-L];exact c.c b f 1 _ Y);generalize a[b].1.rows=am at*;generalize gW ((a.map bf).take b)=O at*;go_wp2_with fail
  go_roundw
  exact⟨b+1,by omega,by go_num,by rw[p.o];go_num,pE u.o M _⟩;simp[bB];omega
 obtain rfl:b=I a:=aa;have p:X ((a.map bf).take (I a)=a.map bf):=by show _=_;rw[<-er (f:=bf),jq]
 go_wp2;go_ret;exact⟨by first|rfl|(rw[p.o];rfl),u.o⟩
def aeQ(h:n<256):cY (n:Int)=(n:Int)/\aM.wrap (n:Int)=(n:Int):=by
 constructor;unfold cY;omega;rw[kF];omega
def Pf (e:ag)(i b:Nat)(s:ByteArray)(g:gN)(c:ag):Prop:=
 Kp i e c/\((∃(a:List (bx×Int)) (f h:F),g=aN (cP #[f,h])/\k3 a/\aQ (bytesOf s) b (kL a)/\b+I (kL a)<=s.size/\c.heap[i]? =K (bQ s<|b+I (kL a))/\aT c (U e.heap) 63 2 f (I a) (k4<|a.map bf)/\aT c (U e.heap) 3 1 h (I a) (cO<|a.map dD)/\(∀d,k3 d->aQ (bytesOf s) b (kL d)->d=a))\/
  (∃j,g=gO (g4 j)/\∀a,k3 a->¬aQ (bytesOf s) b (kL a)))
def Zz(c f:Nat)(s:ByteArray)(d9:s.size<=65536)(dA:f<=s.size)(h:w.heap[c]? =K (bQ s f)):
 bc 94 #[(aK c)] w (Pf w c f s):=by
 have⟨d0,dp,dQ,dS,dT⟩:=eW aE.Kj;have⟨d1,dC,dJ,dL,dO⟩:=eW aE.pN;have y:=bE h;have N:s.size<=aV:=fW
 skip
 go_enter aE.func94,Tryz.ntmps94;go_wp2_with fail;refine bG (wL c f s N dA h) ?_;rintro e eh ⟨bP,⟨B,rfl,dv,ba,b3,bT⟩|⟨u,rfl,q⟩⟩;rotate_left
 .have aH:X (∀a,k3 a->¬aQ (bytesOf s) f (kL a)):=λa dq d=>q _ dq.each.2 (dw.1 d).1;have cp:=aA bP;go_wp2;exact⟨rfl,cp.o,ai ⟨u,rfl,aH.o⟩⟩
 .skip
  have k:=aA dv;obtain⟨z,aw⟩:∃z,z=f+I (bh B):=⟨_,rfl⟩;rw[<-aw] at b3 bT;have eb:(B:Int)<2147483648:=aa;go_wp2_with fail
  go_loopw [2,3,7] (λc9 db bb wr=>∃a:List (bx×Int),bb=n9 (I a)/\jL iN s9 (bytesOf s) z B a/\z+I (iN a)<=s.size/\wr.heap[c]? =K (bQ s<|z+I (iN a))/\aT wr (U w.heap) 63 2 c9 (I a) (k4<|a.map bf)/\aT wr (U w.heap) 3 1 db (I a) (cO<|a.map dD)/\Kp c w wr) (λ_ _ bb _=>B-bO (bB bb))
  exact⟨[],rfl,jL.zero Y,by simpa [iN] using b3,by simpa [iN] using bT,iS _ _ _ _,iS _ _ _ _,bP⟩
  skip
  obtain⟨a,rfl,J,a9,dd,am,ao,a4⟩:=hrel;have S:=aA dd;have b5:I a<=65536:=cA<|YS a;have d6:=J.le;obtain⟨o,O⟩:∃o,o=z+I (iN a):=⟨_,rfl⟩;rw[<-O] at a9 S;by_cases a8:I a<B
  .have Q:X ((∀g,s9 g->¬aQ (bytesOf s) o (lR g))->∀b,k3 b->¬aQ (bytesOf s) f (kL b)):=λA b i d=>by
    have⟨T,x⟩:=dw.1 d;have M:=jQ (cA i.each.2) aa T ba;rw[M] at x;refine J.fail (e:=λ_ g=>lR g) CV a8 (λg l=>?_) b M i.each.1 (by rw[aw];exact x);rw[<-O];exact A g l
   go_wp2_with fail;refine bG (wL c o s N a9 S.o) ?_;rintro e ej ⟨V,⟨v,rfl,E,D,b4,bV⟩|⟨u,rfl,q⟩⟩;rotate_left
   .have aH:=Q.o λg l d=>q _ l.n (dw.1 d).1;have k:=aA aH;have R:=aA<|a4.trans V;go_wp2;exact⟨rfl,R.o,ai ⟨u,rfl,k.o⟩⟩
   .skip
    have dE:v<=2147483648:=aa;have R:=aA<|a4.trans V;have cu:=aA<|V.own am y;have cN:=aA<|V.own ao y;obtain⟨t,j⟩:∃t,t=o+I (bh v):=⟨_,rfl⟩;rw[<-j] at b4 bV;go_wp2_with fail;refine bG (N0 c t v s N b4 dE bV) ?_;rintro e el ⟨W,⟨m,rfl,P,aC,dr,bW⟩|⟨u,rfl,q⟩⟩;rotate_left
    .have k:X (∀b,k3 b->¬aQ (bytesOf s) f (kL b)):=Q.o (λg l d=>q (bytesOf g.1.name) (by rw[cM];exact Gh l E D d)<|by unfold lR at d;rw[Gh l E D<|by unfold lR;exact d] at d;rw[j];exact(dw.1 (dw.1 d).2).1);have F:=aA<|R.o.trans W;go_wp2;exact⟨rfl,F.o,ai ⟨u,rfl,k.o⟩⟩
    .skip
     have cq:=aA<|R.o.trans W;have cv:=aA<|W.own cu.o y;have cW:=aA<|W.own cN.o y;have dP:m.size<=65536:=aa;have cl:X (∀n,bc 66 #[ay m] n λe C=>e=aN (ay m)/\aD n C):=λn=>Je m n dP;go_upto_region 4 with(go_at_call 66;refine bG (cl.o _) ?_;rintro e d3 ⟨rfl,ae⟩);have bi:=aA<|cq.o.trans<|Kp.iW ae;have cx:=aA<|fc cv.o ae;have cZ:=aA<|fc cW.o ae;have c4:X (d3.heap[c]? =K (bQ s<|t+v)):=(ae.block _<|bE bW).trans bW;go_wp2_with fail;refine bG (IY c (t+v) s N dr c4.o) ?_;rintro e cd ⟨ab,⟨r,rfl,b2,ca,ds,de⟩|⟨u,rfl,q⟩⟩;rotate_left
     .have k:X (∀b,k3 b->¬aQ (bytesOf s) f (kL b)):=Q.o λg l d=>q _<|mR.2 (ux.1 (by have:=(Gi l E D P (by rw[<-j];exact aC) d).2;rw[<-j] at this;exact this)).1;have F:=aA<|bi.o.trans ab;go_wp2;exact⟨rfl,F.o,ai ⟨u,rfl,k.o⟩⟩
     .skip
      have bj:=aA<|bi.o.trans ab;have an:=ab.own cx.o y;have bs:=aA<|ab.own cZ.o y;have ec:=bj.o.size;have G:=aA b5;go_upto_region 5 with(at_builtin;refine wpList_append_lies _ Y _ _ 44 Y (U w.heap) 63 d0 _ 2 24 aE.underlying44 dp dQ dS dT Y az _ (I a) _ Y (lE an _) ⟨U cd.heap,0,Z⟩ 1 1 [ay m,n9 r] Y Y (Of cd) (by intro d2 A;simp at A;rcases A with rfl|rfl<;>rfl) az (by have:=G.o;unfold aV;omega) (cA G.o) bS _ Y ?_;intro dc bz bd dz dk dg d7);have a6:=dx.mh (n:=I a+1) (cap:=bz) dk dg;have bk:X (Kp c w bd):=bj.o.grown a6.dK λa3 a5=>(an.lt a3 a5).1;have c5:X (bd.heap[c]? =K (bQ s<|t+v+1)):=(a6.dK.block c aa λe=>cA<|(an.lt c<|bq e).1).trans de;have c0:X (aT bd (U w.heap) 3 1 u3 (I a)<|cO<|a.map dD):=js bs.o a6<|l8 bs.o an az;generalize ah (K ⟨dc,0,Z⟩) (I a+1) bz=da at*;go_wp2_with fail;refine bG (IY c (t+v+1) s N ds c5.o) ?_;rintro e cf ⟨ad,⟨p,rfl,b1,cc,dt,df⟩|⟨u,rfl,q⟩⟩;rotate_left
      .have k:X (∀b,k3 b->¬aQ (bytesOf s) f (kL b)):=Q.o λg l d=>q _ (by have:=(Gi l E D P (by rw[<-j];exact aC) d).2;rw[<-j] at this;exact(ux.1 this).2);have F:=aA<|bk.o.trans ad;go_wp2;exact⟨rfl,F.o,ai ⟨u,rfl,k.o⟩⟩
      .skip
       have bl:=aA<|bk.o.trans ad;have br:=aA<|ad.own dz y;have ar:=ad.own c0.o y;have ed:=bl.o.size
       skip
       go_upto_region 6 with(at_builtin;refine wpList_append_lies _ Y _ _ 22 Y (U w.heap) 3 d1 _ 1 8 aE.underlying22 dC dJ dL dO Y az _ (I a) _ Y (lE ar _) ⟨U cf.heap,0,Z⟩ 1 1 [n9 p] Y Y (pU cf) (by intro d2 A;simp at A;subst A;rfl) az (by have:=G.o;unfold aV;omega) (cA G.o) bS _ Y ?_;intro bH a1 aF b7 dl di d8);have a7:=dx.mh (n:=I a+1) (cap:=a1) dl di;have cr:X (Kp c w aF):=bl.o.grown a7.dK λa3 a5=>(ar.lt a3 a5).1;have c6:X (aF.heap[c]? =K (bQ s<|t+v+1+1)):=(a7.dK.block c aa λe=>cA<|(ar.lt c<|bq e).1).trans df;have c1:X (aT aF (U w.heap) 3 1 (ah (K ⟨bH,0,Z⟩) (I a+1) a1) (I<|a++[((⟨m,(r:Int)⟩:bx),(p:Int))])<|cO<|(a++[((⟨m,(r:Int)⟩:bx),(p:Int))]).map dD):=by
        show aT _ _ _ _ _ _ _;rw[cJ,gD];unfold cO at b7 ⊢;rw[gD];exact b7
       have cy:X (aT aF (U w.heap) 63 2 da (I<|a++[((⟨m,(r:Int)⟩:bx),(p:Int))])<|k4<|(a++[((⟨m,(r:Int)⟩:bx),(p:Int))]).map bf):=by
        have:=js br.o a7<|l8 br.o ar az;show aT _ _ _ _ _ _ _;rw[cJ,gD,I9];exact this
       have b8:=YR D P (by rw[<-j];exact aC) (by rw[<-j];exact ca) (by rw[<-j];exact cc) b2 b1;have cs:X (jL iN s9 (bytesOf s) z B<|a++[((⟨m,(r:Int)⟩:bx),(p:Int))]):=J.more (e:=λ_ g=>lR g) CV a8 ⟨by have:=P;have:=E;show m.size<_;omega,by show(0:Int)<=(r:Int);omega,by have:=b2;show(r:Int)<256;omega,by show(0:Int)<=(p:Int);omega,by have:=b1;show(p:Int)<256;omega⟩ (by rw[<-O];exact b8.1) (λg l d=>by
        rw[<-O] at d;exact YQ l E D P (by rw[<-j];exact aC) (by rw[<-j];exact ca) (by rw[<-j];exact cc) d)
       have bu:X (z+I (iN<|a++[((⟨m,(r:Int)⟩:bx),(p:Int))])=t+v+1+1):=by
        show _=_;have T:=O;have x:=j;rw[CV,cJ,b8.2];omega
       generalize ah (K ⟨bH,0,Z⟩) (I a+1) a1=d5 at*;have b5:=G.o;go_wp2_with fail
       go_roundw
       case rel=>exact⟨_,by rw[cJ];go_num,cs.o,by rw[bu.o];exact dt,by rw[bu.o];exact c6.o,cy.o,c1.o,cr.o⟩
       case measure=>simp[bB];omega
  have aG:=J.done a8;have a0:X (∀b,k3 b->aQ (bytesOf s) f (kL b)->b=a):=λb i d=>by
   have⟨T,x⟩:=dw.1 d;have M:=jQ (cA i.each.2) aa T ba;rw[M,<-aw] at x;exact aG.2 b M i.each.1 x
  have aR:X (f+I (kL a)=o/\aQ (bytesOf s) f (kL a)):=by
   have x:=aw;have bK:=aG.1;refine⟨by unfold kL;rw[cJ,bK];omega,?_⟩;unfold kL;rw[bK];exact dw.2 ⟨ba,by rw[<-x];exact J.st⟩
  obtain⟨a2,bF,rfl⟩:=e9 am;obtain⟨bD,bC,rfl⟩:=e9 ao;have be:X (px wr (ah a2 (I a) bF)<|a.map bf):=px.gB (by rw[er];exact am);have co:X (iE wr (ah bD (I a) bC)<|a.map dD):=iE.gB (by rw[er];exact ao);have b6:I (a.map bf)<=aV:=by rw[er];unfold aV;omega
  have du:I (a.map dD)<=aV:=by rw[er];unfold aV;omega
  have ci:X (bc 55 #[ah a2 (I a) bF] wr λe C=>∃H,e=aN (ak H)/\(H=af↔nJ (a.map bf))/\aD wr C):=PM (a.map bf) wr b6 be.o;have ck:X (∀n,aD wr n->bc 57 #[ah bD (I a) bC,ah a2 (I a) bF] n λe C=>∃H,e=aN (ak H)/\(H=af↔rP (a.map bf) (a.map dD))/\aD n C):=λn b0=>PN (a.map bf) (a.map dD) n b6 du (be.o.below b0)<|co.o.lower b0;have dy:B=I a:=bq aG.1;subst dy;go_wp2_with fail;refine bG ci.o ?_;rintro e ch ⟨c7,rfl,bL,L⟩;have bm:=aA<|a4.trans<|Kp.iW L;have aU:X (ch.heap[c]? =K (bQ s o)):=(L.block c<|bE S.o).trans S.o;cases c7
  .have k:X (∀b,k3 b->¬aQ (bytesOf s) f (kL b)):=λb i d=>by
    have:=a0.o b i d;rw[this] at i;exact absurd (bL.2 i.1) aI
   go_wp2_with fail;refine bG (lP c o s _ aU.o) ?_;rintro e C ⟨rfl,rfl⟩;exact⟨rfl,bm.o,ai ⟨_,rfl,k.o⟩⟩
  have cn:=aA<|bL.1 Y
  skip
  go_wp2_with fail;refine bG (ck.o ch L) ?_;rintro e d4 ⟨c8,rfl,bM,al⟩;have bo:=aA<|bm.o.trans<|Kp.iW al;have bv:X (d4.heap[c]? =K (bQ s o)):=(al.block c<|bE aU.o).trans aU.o;have cK:=aA<|fc (fc am L) al;have c2:=aA<|fc (fc ao L) al;cases c8
  .have k:X (∀b,k3 b->¬aQ (bytesOf s) f (kL b)):=λb i d=>by
    have:=a0.o b i d;rw[this] at i;exact absurd (bM.2 i.2) aI
   go_wp2_with fail;refine bG (lP c o s _ bv.o) ?_;rintro e C ⟨rfl,rfl⟩;exact⟨rfl,bo.o,ai ⟨_,rfl,k.o⟩⟩
  have c3:X (k3 a):=⟨cn.o,bM.1 Y⟩;go_wp2;go_ret2;exact⟨bo.o,av ⟨a,_,_,rfl,c3.o,aR.o.2,by rw[aR.o.1];exact a9,by rw[aR.o.1];exact bv.o,cK.o,c2.o,a0.o⟩⟩
def EM{b:List bx}(h:aT w n 63 2 (ah O m k) (I b) (k4 b))(p:0<I b):∃a,O=K ⟨a,0,Z⟩/\n<=a/\a<U w.heap/\tO w O a 0 b:=by
 rcases h.2 with⟨g,q⟩|⟨a,l,o,g,j,i,t,r,s,u⟩;omega;cases g;have f:=h.cells (g:=a) Y;refine⟨a,rfl,j,bE i,⟨λ_=>rfl,λ_=>bE i,λe d=>?_,λe d=>?_⟩⟩;have:=f _ _<|pM (λc:bx=>[ay c.name,aJ aM c.kind]) 2 (λ_=>rfl) b e d 0 _ Y;simpa [kQ] using this;have:=f _ _<|pM (λc:bx=>[ay c.name,aJ aM c.kind]) 2 (λ_=>rfl) b e d 1 _ Y;simpa [kQ] using this
def Zw(a:List bx)(g n j l br:Nat)(s i:ByteArray)(d:ag)(eV:g≠j)(eS:s.size<=65536)(eY:i.size<=65536)(d2:n<=s.size)(d4:l<=i.size)(h:d.heap[g]? =K (bQ s n))(w:d.heap[j]? =K (bQ i l))(dy:g<br)(dz:j<br)
 (cc:aT d br 63 2 x (I a) (k4 a)) (eO:I a<=8) (dO:∀P (h:P<I a),a[P].kind=1\/a[P].kind=2\/a[P].kind=3):
 bc 96 #[(aK g),(aK j),x] d (Iv a d g n s j l i):=by
 have⟨eb,dL,d6,d7,d8⟩:=eW aE.Vh;have aI:=bE h;have aH:=bE w;have bC:s.size<=aV:=fW;have d9:i.size<=aV:=fW;obtain⟨eE,bF,rfl⟩:=e9 cc;have da:X ((d.alloc<|aq #[z9 0,aF] 139).heap[g]? =K (bQ s n)):=by
  show _=_;rw[fM _ _ g aI];exact h
 have c6:X ((d.alloc<|aq #[z9 0,aF] 139).heap[j]? =K (bQ i l)):=by
  show _=_;rw[fM _ _ j aH];exact w
 have bW:X (eX g j d<|d.alloc<|aq #[z9 0,aF] 139):=(eX.refl g j d).alloc _;go_enter aE.func96,Tryz.ntmps96;go_wp2_with fail;refine bG (wL g n s bC d2 da.o) ?_;rintro G L ⟨aw,⟨e,rfl,cn,a8,ck,ds⟩|⟨m,rfl,ab⟩⟩;rotate_left
 .have A:X (∀c,lV a c->aQ (bytesOf s) n (jY a c)->¬aQ (bytesOf i) l (fH c.chunks)):=λc t ad=>ff<|ab _ (cA t.hi) (dw.1 ad).1;have cZ:=aA<|bW.o.trans<|eX.sD aw;go_wp2;exact⟨rfl,cZ.o,ai ⟨m,rfl,A.o⟩⟩
 .have dq:L.heap[j]? =K (bQ i l):=Kp.block aw c6.o aa;have o:mq d (L.alloc<|aq #[n9 e,aF] 139) (U L.heap) g j e aF []:=by
   refine⟨?_,iI L _,iS _ _ _ _,(bW.o.trans<|eX.sD aw).alloc _⟩;have:=Kp.block aw (lF d<|aq #[z9 0,aF] 139) aa;exact alloc_old (by simpa using bE this) this
  have am:U d.heap<U L.heap:=by have:=aw.size;simp at this;omega
  have a4:(L.alloc<|aq #[n9 e,aF] 139).heap[g]? =K (bQ s<|n+I (bh e)):=by rw[fM _ _ g<|by omega];exact ds
  have dr:(L.alloc<|aq #[n9 e,aF] 139).heap[j]? =K (bQ i l):=by rw[fM _ _ j<|by omega];exact dq
  go_upto_region 2 with fail;generalize L.alloc (aq #[n9 e,aF] 139)=ew at*;generalize U L.heap=N at*;obtain⟨C,a6⟩:∃C,C=n+I (bh e):=⟨_,rfl⟩;rw[<-a6] at a4 ck;have ao:=aA o;have⟨cs,bL,eo⟩:=o.cells;by_cases cf:1<=e/\e<=100;rotate_left
  .have A:X (∀c,lV a c->aQ (bytesOf s) n (jY a c)->¬aQ (bytesOf i) l (fH c.chunks)):=λc t ad=>by
    have:=jQ (cA t.hi) aa (dw.1 ad).1 a8;have S:=t.lo;have w:=t.hi;omega
   by_cases eJ:e<1
   .have cd:decide ((e:Int)<1)=af:=by simp;omega
    go_wp2_with (go_at_call 97;refine bG (lP g C s _ a4) ?_;rintro G eq ⟨rfl,rfl⟩);exact⟨rfl,ao.o.kp,ai ⟨_,rfl,A.o⟩⟩
   have cd:decide ((e:Int)<1)=aj:=bS;have dE:decide (100<(e:Int))=af:=bS;go_wp2_with (go_at_call 97;refine bG (lP g C s _ a4) ?_;rintro G eq ⟨rfl,rfl⟩);exact⟨rfl,ao.o.kp,ai ⟨_,rfl,A.o⟩⟩
  .have cd:decide ((e:Int)<1)=aj:=by simp;omega
   have dE:decide (100<(e:Int))=aj:=bS;go_upto_region 4 with fail;go_wp2_with fail
   go_loopw [26] (λP wr=>∃(b:List fy) (k:F),P=n9 (I b)/\Q2 (sr a) fH (xg a) (bytesOf s) C (bytesOf i) l (I a) b/\mq d wr N g j e k b/\C+I (sr a b)<=s.size/\wr.heap[g]? =K (bQ s<|C+I (sr a b))/\l+I (fH b)<=i.size/\wr.heap[j]? =K (bQ i<|l+I (fH b))) (λP _=>I a-bO (bB P))
   exact⟨[],_,rfl,Q2.zero Y Y,ao.o,by simpa [sr,uq] using ck,by simpa [sr,uq] using a4,by simpa [fH] using d4,by simpa [fH] using dr⟩;obtain⟨b,k,rfl,V,o,cp,bv,bH,bu⟩:=hrel;have ao:=aA o;obtain⟨y,an⟩:∃y,y=C+I (sr a b):=⟨_,rfl⟩;obtain⟨J,a9⟩:∃J,J=l+I (fH b):=⟨_,rfl⟩;have al:=aA a9;rw[<-an] at cp bv;rw[<-a9] at bH bu;have eQ:I b<=I a:=V.le;have cN:=aA<|o.kp.own cc dy dz;by_cases W:I b<I a
   .have bi:X ((∀D,xg a (I b) D->aQ (bytesOf s) y (sn a b D)->¬aQ (bytesOf i) J (bytesOf D.text))->∀c,lV a c->aQ (bytesOf s) n (jY a c)->¬aQ (bytesOf i) l (fH c.chunks)):=λa9 c t ad a5=>by
     have⟨S,w⟩:=dw.1 ad;have aC:=jQ (cA t.hi) (cA cn) S a8;rw[aC,<-a6] at w;refine V.fail (e:=sn a) (g:=λ_ f=>bytesOf f.text) (EH a) HD W (λD B q H=>?_) c.chunks t.len t.each w a5;rw[<-an] at q;rw[<-al.o] at H;exact a9 D B q H
    have⟨cb,dC,eK,eL,ca⟩:=EM cN.o aa;subst dC;have eh:=ca.c0 (I b) W;have ej:=ca.c1 (I b) W;simp only[fq] at eh ej;have bT:=aA<|dO (I b) W;have ae:X (aW a (I b) ⟨⟨#[]⟩,0⟩=a[I b]):=by show _=_;rw[ep,dV W];rfl
    generalize a5:a[I b]=f at*;go_upto_region 7 with fail;have b3:X (mq d (wr.alloc<|aq #[ay f.name,z9 f.kind] 63) N g j e k b):=ao.o.below<|(bN _ _).alloc (aZ _) _;have dc:X ((wr.alloc<|aq #[ay f.name,z9 f.kind] 63).heap[g]? =K (bQ s y)):=by show _=_;rw[fM _ _ g<|by omega];exact bv
    have c7:X ((wr.alloc<|aq #[ay f.name,z9 f.kind] 63).heap[j]? =K (bQ i J)):=by show _=_;rw[fM _ _ j<|by omega];exact bu
    have di:X ((wr.alloc<|aq #[ay f.name,z9 f.kind] 63).heap[U wr.heap]? =K (aq #[ay f.name,z9 f.kind] 63 (0,0))):=iI wr _;generalize wr.alloc (aq #[ay f.name,z9 f.kind] 63)=eB at*;generalize U wr.heap=r at*;go_wp2_with fail;refine bG (wL g y s bC cp dc.o) ?_;rintro G cu ⟨a2,⟨v,rfl,bK,bD,cl,b8⟩|⟨m,rfl,ab⟩⟩;rotate_left
    .have A:X (∀c,lV a c->aQ (bytesOf s) n (jY a c)->¬aQ (bytesOf i) l (fH c.chunks)):=bi.o λD B q H=>ab _ B.n (dw.1 q).1;have c0:=aA<|b3.o.kp.trans<|eX.sD a2;go_wp2;exact⟨rfl,c0.o,ai ⟨m,rfl,A.o⟩⟩
    .skip
     have d5:v<=2147483648:=aa;have b4:=aA<|b3.o.step aI aH am<|eX.sD a2;have c8:X (cu.heap[j]? =K (bQ i J)):=Kp.block a2 c7.o aa;have dk:X (cq cu r #[ay f.name,z9 f.kind] 63):=Kp.block a2 di.o aa;obtain⟨aU,a7⟩:∃aU,aU=y+I (bh v):=⟨_,rfl⟩;rw[<-a7] at cl b8;go_wp2_with fail;refine bG (N0 j J v i d9 bH d5 c8.o) ?_;rintro G M ⟨a3,⟨p,rfl,ba,cr,dQ,dt⟩|⟨m,rfl,ab⟩⟩;rotate_left
     .have A:X (∀c,lV a c->aQ (bytesOf s) n (jY a c)->¬aQ (bytesOf i) l (fH c.chunks)):=bi.o λD B q H=>ab (bytesOf D.text) (by rw[cM];exact jQ (cA B.n) (cA bK) (dw.1 q).1 bD) H;have c1:=aA<|b4.o.kp.trans<|eX.Ln a3;go_wp2;exact⟨rfl,c1.o,ai ⟨m,rfl,A.o⟩⟩
     .skip
      have bm:=aA<|b4.o.step aI aH am<|eX.Ln a3;have b5:X (cq M r #[ay f.name,z9 f.kind] 63):=Kp.block a3 dk.o aa;have dd:X (M.heap[g]? =K (bQ s aU)):=Kp.block a3 b8 aa;have db:=aA<|Zx f.kind bT.o g aU s M.drew bC cl dd.o;have⟨cs,bL,eo⟩:=bm.o.cells;have es:ap M ⟨r,1,Z⟩=K (z9 f.kind):=by have:=b5.o;simp[ap,this]
      have cK:=aA bT.o;go_upto_region 8 with fail;refine Un.open_ (λu=>bl u N 1 k/\bl u r 1 (z9 f.kind)) 11 (λ_ _ _ _ _ h=>h) λeU=>?_;have b7:(λu=>bl u N 1 k/\bl u r 1 (z9 f.kind)) M.drew:=⟨bL,es⟩;refine Un.pk 0 ?_;refine Un.ld [11] 1 ?_;refine Un.pk 2 ?_;refine Un.pk 3 ?_;refine Un.pk 4 ?_;refine Un.ld [11] 5 ?_;try simp only[bw,ct,cj,b9]
      refine Un.on 6 λbo T=>?_;go_simp;go_at_call 131;refine bG db.o ?_;rintro G z ⟨O,⟨c,rfl,dA,d3,dT,du⟩|⟨m,rfl,ab⟩⟩;rotate_left;have O:=(Kp.iW (r:=g)<|(bN (U M.heap) M).drew).trans O;have A:X (∀c,lV a c->aQ (bytesOf s) n (jY a c)->¬aQ (bytesOf i) l (fH c.chunks)):=bi.o (λD B q H=>by
       unfold sn at q;have⟨a0,b6⟩:=dw.1 q;have dl:=jQ (cA B.n) (cA bK) a0 bD;rw[dl,ae.o,<-a7] at b6;have t:=B.b;rw[ae.o] at t;exact ab _ t b6)
      have c2:=aA<|bm.o.kp.trans<|eX.sD O;exact⟨rfl,c2.o,ai ⟨m,rfl,A.o⟩⟩
      .have O:=(Kp.iW (r:=g)<|(bN (U M.heap) M).drew).trans O;unfold IX;have E:=aA<|bm.o.step aI aH am<|eX.sD O;have c9:X (z.heap[j]? =K (bQ i<|J+v)):=Kp.block O dt aa;have ar:X (cq z r #[ay f.name,z9 f.kind] 63):=Kp.block O b5.o aa;obtain⟨-,cv,-⟩:=E.o.cells;have bM:ap z ⟨r,1,Z⟩=K (z9 f.kind):=by have:=ar.o;simp[ap,this]
       refine T.o _ _ (λ_=>⟨cv,bM⟩) ?_;try simp only[bw,ct,cj,b9]
       have b7:(λu=>bl u N 1 k/\bl u r 1 (z9 f.kind)) z:=⟨cv,bM⟩;refine Un.pk 7 ?_;try simp only[bw,ct,cj,b9]
       refine Un.on 8 λbo T=>?_;go_simp;have df:X (mq d (z.alloc<|aq (cR<|mL ⟨p,c⟩) 143) N g j e k b):=E.o.below<|(bN _ _).alloc (aZ _) _;have et:ap (z.alloc<|aq (cR<|mL ⟨p,c⟩) 143) ⟨r,1,Z⟩=K (z9 f.kind):=(bA ((bN (U z.heap) z).alloc (aZ _) _) (p:=⟨r,1,Z⟩)<|bE ar.o).trans bM;refine T.o _ _ (λ_=>⟨df.o.cells.2.1,et⟩) ?_;try simp only[bw,ct,cj,b9]
       refine Un.one (i:=9) aR Y λbo T=>?_;have d1:=E.o.own;have eZ:U d.heap<=U z.heap:=E.o.kp.size;refine step_append_lies _ (by rfl) _ _ 137 (by rfl) (U d.heap) 143 eb _ 8 88 aE.underlying137 dL d6 d7 d8 Y az k (I b) _ (by rfl) (d1.alloc _) ⟨U z.heap,0,Z⟩ 1 1 (mL ⟨p,c⟩) (by rfl) Y (TW z ⟨p,c⟩) TX (by decide) (by unfold aV;omega) aa bS _ Y ?_;intro R a1 bb co dJ dv eR;have aD:=dx.mh (n:=I b+1) (cap:=a1) dJ dv;have d0:aT bb (U d.heap) 143 8 (aG R (I b+1) a1) (I<|b++[(⟨p,c⟩:fy)]) (sB<|b++[(⟨p,c⟩:fy)]):=by
        unfold sB at co ⊢;rw[oN,pH,cJ];exact co
       have cO:=aA<|E.o.oX am aD d0;have bk:=aA<|E.o.reader am aD aI du;have bj:=aA<|E.o.reader am aD aH c9.o;have⟨cx,e3⟩:=E.o.kept aD;have cy:ap bb ⟨r,1,Z⟩=K (z9 f.kind):=by
        have:=(aD.dK.block _ (bE ar.o)<|dS E.o.own ar.o az).trans ar.o;simp[ap,this]
       refine T.o _ _ (λ_=>⟨cx,cy⟩) ?_;try simp only[bw,ct,cj,b9]
       have b7:(λu=>bl u N 1 k/\bl u r 1 (z9 f.kind)) bb:=⟨cx,cy⟩;refine Un.pk 10 ?_;try simp only[bw,ct,cj,b9]
       refine Un.on 11 λbo T=>?_;go_simp;refine T.o _ _ (λh=>absurd h az) ?_;refine Un.done (by kernel_rfl) ?_ _;try simp only[bw,ct,cj,b9]
       generalize aY bb ⟨N,1,Z⟩ (aG R (I b+1) a1)=eA at*;generalize ah (K ⟨R,0,Z⟩) (I b+1) a1=e0 at*;have bP:X (xg a (I b) ⟨p,c⟩):=⟨by have:=ba;have:=bK;show p.size<_;omega,by rw[ae.o];exact dA⟩;have b2:X (aQ (bytesOf s) y<|sn a b ⟨p,c⟩):=by
        show aQ _ _ (bh p.size++gp (aW a (I b) ⟨⟨#[]⟩,0⟩).kind c);rw[ba,ae.o];exact dw.2 ⟨bD,by rw[<-a7];exact d3⟩
       have b0:X (C+I (sr a<|b++[(⟨p,c⟩:fy)])=aU+I (gp f.kind c)):=by
        show _=_;rw[EH,cJ];have S:I (sn a b ⟨p,c⟩)=I (bh v)+I (gp f.kind c):=by
         show I (bh p.size++gp (aW a (I b) ⟨⟨#[]⟩,0⟩).kind c)=_;rw[ba,ae.o,cJ]
        have w:=an;have q:=a7;omega
       have b1:X (l+I (fH<|b++[(⟨p,c⟩:fy)])=J+v):=by
        show _=_;rw[HD,cJ,cM];have S:=al.o;have w:=ba;simp only;omega
       have c4:X (Q2 (sr a) fH (xg a) (bytesOf s) C (bytesOf i) l (I a)<|b++[(⟨p,c⟩:fy)]):=by
        refine V.more (e:=sn a) (g:=λ_ f=>bytesOf f.text) (EH a) HD W bP.o (by rw[<-an];exact b2.o) (by rw[<-al.o];exact cr) λD B q H=>?_;rw[<-an] at q;rw[<-al.o] at H;exact R9 (by rw[ae.o];exact cK.o) bP.o B b2.o q cr H
       go_wp2_with fail
       go_roundw
       case rel=>exact⟨b++[(⟨p,c⟩:fy)],_,by rw[cJ];go_num,c4.o,cO.o,bV b0.o dT,bV b0.o bk.o,bV b1.o dQ,bV b1.o bj.o⟩
       case measure=>simp[bB];omega
   have be:=V.done W;have⟨ed,ec,ch⟩:=e9 o.own;rw[be.1] at ch;subst ch;generalize dP:ah ed (I a) ec=k at o;obtain⟨cs,bL,-⟩:=o.cells;have S:=ek wr (U d.heap) 0 _ _ (n9 e) o.res;have w:=ek _ (U d.heap) 1 _ _ k S;have c5:X (aT (aY (aY wr ⟨U d.heap,0,Z⟩<|n9 e) ⟨U d.heap,1,Z⟩ k) (U d.heap) 143 8 k (I b)<|sB b):=by
    have a0:=o.own.kept (eM wr (U d.heap) 0<|n9 e)<|ai (dS o.own o.res az).symm;exact a0.kept (eM _ (U d.heap) 1 k)<|ai (dS a0 S az).symm
   have c3:X (eX g j d<|aY (aY wr ⟨U d.heap,0,Z⟩<|n9 e) ⟨U d.heap,1,Z⟩ k):=(o.kp.grown (eM wr (U d.heap) 0 _) λdp G=>by cases G;exact aZ _).grown (eM _ (U d.heap) 1 _) (λdp G=>by cases G;exact aZ _);have bk:X ((aY (aY wr ⟨U d.heap,0,Z⟩<|n9 e) ⟨U d.heap,1,Z⟩ k).heap[g]? =K (bQ s y)):=by
    show _=_;rw[ei _ _ _ _<|by simp;omega,ei _ _ _ _<|by simp;omega];exact bv
   have bj:X ((aY (aY wr ⟨U d.heap,0,Z⟩<|n9 e) ⟨U d.heap,1,Z⟩ k).heap[j]? =K (bQ i J)):=by
    show _=_;rw[ei _ _ _ _<|by simp;omega,ei _ _ _ _<|by simp;omega];exact bu
   have e1:ap wr ⟨U d.heap,0,Z⟩=K (z9 0):=by have:=o.res;simp[ap,this]
   have e2:ap wr ⟨U d.heap,1,Z⟩=K aF:=by have:=o.res;simp[ap,this]
   have eF:cE wr ⟨U d.heap,0,Z⟩=aj:=by have:=o.res;simp[cE,this]
   have eG:cE wr ⟨U d.heap,1,Z⟩=aj:=by have:=o.res;simp[cE,this]
   have el:ap (aY (aY wr ⟨U d.heap,0,Z⟩<|n9 e) ⟨U d.heap,1,Z⟩ k) ⟨U d.heap,0,Z⟩=K (n9 e):=by simp[ap,w]
   have em:ap (aY (aY wr ⟨U d.heap,0,Z⟩<|n9 e) ⟨U d.heap,1,Z⟩ k) ⟨U d.heap,1,Z⟩=K k:=by simp[ap,w]
   have bd:X (I (jY a ⟨e,b⟩)+n=y/\aQ (bytesOf s) n (jY a ⟨e,b⟩)):=by
    have bs:=a6;have R:=an;exact⟨by show I (bh e++sr a b)+n=y;rw[cJ];omega,(dw.2 ⟨a8,by rw[<-bs];exact V.st⟩)⟩
   have dg:X (∀Q,lV a Q->aQ (bytesOf s) n (jY a Q)->aQ (bytesOf i) l (fH Q.chunks)->Q=⟨e,b⟩):=λQ bz ad a5=>by
    have⟨bs,R⟩:=dw.1 ad;have aC:=jQ (cA bz.hi) (cA cn) bs a8;rw[aC,<-a6] at R;have ci:=be.2 Q.chunks bz.len bz.each R a5;have⟨eC,c⟩:=Q;simp only at aC ci;rw[aC,ci]
   have cW:X (lV a ⟨e,b⟩):=⟨cf.1,cf.2,be.1,V.yd⟩;have de:=aA V.sc;subst dP;go_wp2;simp[jI,dB,Tryz.results96,go_sem,el,em]
   trace_state
   exact⟨c3.o,av ⟨⟨e,b⟩,_,rfl,cW.o,bd.o.2,cA bd.o.1,by have:=bd.o.1;rw[show n+I (jY a ⟨e,b⟩)=y by omega];exact bk.o,de.o,by rw[<-al.o];exact bH,by rw[<-al.o];exact bj.o,c5.o,dg.o⟩⟩
structure mw(w W:ag)(g r q:Nat)(l:List (bx×Int))(co eo:Option aL)(cc ec:Nat)(bv:F)(L:List (Bd×F)):Prop where
 res:W.heap[U w.heap]? =K (aq #[ah Z 0 0,ah Z 0 0,ah Z 0 0] 105 (0,0))
 box:W.heap[g]? =K (aq #[ah co (I l) cc,ah eo (I l) ec,bv] 105 (0,0))
 an:aT W (U w.heap) 63 2 (ah co (I l) cc) (I l) (k4<|l.map bf)
 gA:aT W (U w.heap) 3 1 (ah eo (I l) ec) (I l) (cO<|l.map dD)
 e7:pu W (U w.heap) bv L
 kp:eX r q w W
def mw.step{e:List (bx×Int)}{d:List (Bd×F)}(h:mw w u n m k e O P i j v d)(c:m<U w.heap)(b:k<U w.heap)(l:U w.heap<n)(a:eX m k u W):mw w W n m k e O P i j v d:=
 ⟨a.keep h.res aa aa,a.keep h.box aa aa,a.own h.an c b,a.own h.gA c b,⟨a.own h.e7.own c b,λg f=>a.own (h.e7.each g f) c b⟩,h.kp.trans a⟩
def mw.below{c:List (bx×Int)}{b:List (Bd×F)}(h:mw w u n m k c O P i j v b)(a:aD u W):mw w W n m k c O P i j v b:=
 ⟨(cT a _<|bE h.res).trans h.res,(cT a _<|bE h.box).trans h.box,fc h.an a,fc h.gA a,h.e7.below a,h.kp.trans<|eX.iW a⟩
def mw.cells{b:List (bx×Int)}{c:List (Bd×F)}(h:mw w u n m k b O P i j v c):
 ap u ⟨n,0,Z⟩=K (ah O (I b) i)/\ap u ⟨n,1,Z⟩=K (ah P (I b) j)/\ap u ⟨n,2,Z⟩=K v/\cE u ⟨n,2,Z⟩=aj:=by
 have a:=h.box;exact⟨by simp[ap,a],by simp[ap,a],by simp[ap,a],by simp[cE,a]⟩
def mw.kept{d:List (bx×Int)}{b:List (Bd×F)}(h:mw w u n m k d O P i j v b)(c:dx u W v x):
 ap W ⟨n,2,Z⟩=K v/\cE W ⟨n,2,Z⟩=aj:=by
 have a:=aB (c.dK.block _ (bE h.box)<|dS h.e7.own h.box az) h.box;exact⟨by simp[ap,a],by simp[cE,a]⟩
def mw.oX{l:List (bx×Int)}{c:List (Bd×F)}(h:mw w u n m k l O P i j v c)(t:U w.heap<n)(a:dx u W v x){b:Bd}(r:aT u (U w.heap) 143 8 y (I b.chunks) (sB b.chunks))
 (s:aT W (U w.heap) 139 2 x (I<|c++[(b,y)]) (xQ<|c++[(b,y)])):mw w (aY W ⟨n,2,Z⟩ x) n m k l O P i j x (c++[(b,y)]):=by
 have p:=aB (a.dK.block _ (bE h.res)<|dS h.e7.own h.res az) h.res;have d:=aB (a.dK.block _ (bE h.box)<|dS h.e7.own h.box az) h.box;have e:=js h.an a<|l8 h.an h.e7.own az;have f:=js h.gA a<|l8 h.gA h.e7.own az;refine⟨?_,(ek W n 2 _ _ x d),fI e (eM W _ 2 x)<|ai (dS e d az).symm,fI f (eM W _ 2 x)<|ai (dS f d az).symm,(h.e7.snoc a r s).put d az az _ _,?_⟩;rw[ei _ _ _ _ bS];exact p;exact(h.kp.grown a.dK λg q=>(h.e7.own.lt g q).1).grown (eM W n 2 x) (λg o=>by cases o;omega)
def mw.reader{f:List (bx×Int)}{c:List (Bd×F)}(h:mw w u n m k f O P i j v c)(g:U w.heap<n)(e:dx u W v x)(l:a<U w.heap)(b:u.heap[a]? =K Ql):(aY W ⟨n,2,Z⟩ x).heap[a]? =K Ql:=by
 rw[ei _ _ _ _ bS,e.dK.block a (bE b) λd=>cA<|(h.e7.own.lt a<|bq d).1];exact b
def NM(h:aQ l 0 L)(b:I l<=I L):l=L:=by
 have a:L <+:l:=by simpa [aQ] using h
 exact bq<|a.eq_of_length_le b
def Em{a:List bx}(c:List Bd)(b:Bd):ot a (c++[b])=ot a c++jY a b:=by
 unfold ot;rw[oN,pH]
def PX(b:List bx)(a:Bd):1<=I (jY b a):=by unfold jY;rw[cJ];have:=adt a.rows;omega
def P1(b:List bx)(a:List Bd):I a<=I (ot b a):=by
 induction a with
 |nil=>simp
 |cons c e d=>
  have:=PX b c;unfold ot at d ⊢;rw[kX,cJ,oh];omega
def J8{b:List bx}{a:List Bd}(h:∀c∈a,lV b c):n6 (λ_=>lV b) a:=λe d=>h _<|dm d
def UM{c:List bx}{b:List Bd}(h:n6 (λ_=>lV c) b):∀a∈b,lV c a:=λa d=>by
 obtain⟨f,e,rfl⟩:=m9 d;exact h f e
def Kn{b:List (bx×Int)}(h:k3 b):∀a (h:a<I (b.map bf)),(b.map bf)[a].kind=1\/(b.map bf)[a].kind=2\/(b.map bf)[a].kind=3:=by
 intro a c;have:=(h.1.2.2 a c).1;simp only[oU,ov,fe,decide_eq_true_eq] at this;omega
def Pg (e:ag)(p:Nat)(s:ByteArray)(q:Nat)(g:ByteArray)(l:gN)(c:ag):Prop:=
 eX p q e c/\((∃(a:List (bx×Int)) (b:List Bd) (h:List (Bd×F)) (k o:Option aL) (j n:Nat) (i:F),l=aN (bZ #[ah k (I a) j,ah o (I a) n,i])/\eB a b/\h.map bf=b/\aQ (bytesOf s) 0 (hO a b)/\I (hO a b)<=s.size/\c.heap[p]? =K (bQ s<|I<|hO a b)/\bytesOf g=fB b/\
  aT c (U e.heap) 63 2 (ah k (I a) j) (I a) (k4<|a.map bf)/\aT c (U e.heap) 3 1 (ah o (I a) n) (I a) (cO<|a.map dD)/\pu c (U e.heap) i h/\(∀f d,eB f d->aQ (bytesOf s) 0 (hO f d)->bytesOf g=fB d->f=a/\d=b))\/
  (∃m,l=gO (g4 m)/\∀a b,eB a b->aQ (bytesOf s) 0 (hO a b)->bytesOf g≠fB b))
def ZD(f d:Nat)(s g:ByteArray)(c:ag)(el:f≠d)(cA:s.size<=65536)(eC:g.size<=65536)(h:c.heap[f]? =K (bQ s 0))(q:c.heap[d]? =K (bQ g 0)):
 bc 64 #[(aK f),(aK d)] c (Pg c f s d g):=by
 have⟨eE,d4,et,ew,eA⟩:=eW aE.Vg;have a4:=bE h;have a3:=bE q;have d9:s.size<=aV:=fW;have c2:g.size<=aV:=fW;have dv:X ((c.alloc<|aq #[aF,aF,aF] 105).heap[f]? =K (bQ s 0)):=by
  show _=_;rw[fM _ _ f a4];exact h
 have dt:X ((c.alloc<|aq #[aF,aF,aF] 105).heap[d]? =K (bQ g 0)):=by
  show _=_;rw[fM _ _ d a3];exact q
 have b4:X (eX f d c<|c.alloc<|aq #[aF,aF,aF] 105):=(eX.refl f d c).alloc _;go_enter aE.func64,Tryz.ntmps64;go_wp2_with fail;refine bG (Zz f 0 s cA (cH _) dv.o) ?_;rintro t L ⟨aU,⟨a,eR,eS,rfl,ae,em,cx,cp,cr,cv,c1⟩|⟨m,rfl,a2⟩⟩;rotate_left
 .have G:X (∀a b,eB a b->aQ (bytesOf s) 0 (hO a b)->bytesOf g≠fB b):=λa b j z=>ff<|a2 a j.pl (dw.1 z).1;have de:=aA<|b4.o.trans<|eX.sD aU;go_wp2;exact⟨rfl,de.o,ai ⟨m,rfl,G.o⟩⟩
 .obtain⟨i,n,rfl⟩:=e9 cr;obtain⟨o,p,rfl⟩:=e9 cv;have dK:L.heap[d]? =K (bQ g 0):=Kp.block aU dt.o aa;have H:mw c (L.alloc<|aq #[ah i (I a) n,ah o (I a) p,aF] 105) (U L.heap) f d a i o n p aF []:=by
   refine⟨?_,iI L _,(j5 cr aI).alloc _,(j5 cv aI).alloc _,⟨iS _ _ _ _,λe8 ej=>by simp at ej⟩,(b4.o.trans<|eX.sD aU).alloc _⟩;have:=Kp.block aU (lF c<|aq #[aF,aF,aF] 105) aa;exact alloc_old (by simpa using bE this) this
  have a1:U c.heap<U L.heap:=by have:=aU.size;simp at this;omega
  obtain⟨a5,bi⟩:∃a5,a5=I (kL a):=⟨_,rfl⟩;rw[fq,<-bi] at cx cp;have b7:=aA ae;have dQ:(L.alloc<|aq #[ah i (I a) n,ah o (I a) p,aF] 105).heap[f]? =K (bQ s a5):=by rw[fM _ _ f<|by omega];exact cp
  have dO:(L.alloc<|aq #[ah i (I a) n,ah o (I a) p,aF] 105).heap[d]? =K (bQ g 0):=by rw[fM _ _ d<|by omega];exact dK
  have d6:I a<=8:=by have:=ae.1.2.1;simpa using this
  have c8:X (I (a.map bf)<=8):=by show _<=_;simpa using d6
  go_upto_region 3 with fail;generalize L.alloc (aq #[ah i (I a) n,ah o (I a) p,aF] 105)=eL at*;generalize U L.heap=N at*;have E:=aA H;go_wp2_with fail;refine bG (wL f a5 s d9 cx dQ) ?_;rintro t eK ⟨ba,⟨B,rfl,eb,cZ,cy,bM⟩|⟨m,rfl,a2⟩⟩;rotate_left
  .have G:X (∀a b,eB a b->aQ (bytesOf s) 0 (hO a b)->bytesOf g≠fB b):=λr b j z _=>by
    have⟨w,q⟩:=dw.1 z;obtain rfl:=c1 r j.pl w;rw[fq,<-bi] at q;refine a2 _ ?_ (dw.1 q).1;have x:=GZ b λe W=>(j.e7 e W).lo;have:=j.rows;omega
   have df:=aA<|E.o.kp.trans<|eX.sD ba;go_wp2;exact⟨rfl,df.o,ai ⟨m,rfl,G.o⟩⟩
  .have ch:=aA<|E.o.step a4 a3 a1<|eX.sD ba;have ca:X (eK.heap[d]? =K (bQ g 0)):=Kp.block ba dO aa;obtain⟨J,bW⟩:∃J,J=a5+I (bh B):=⟨_,rfl⟩;rw[<-bW] at cy bM;have cf:=aA bM;have ec:(B:Int)<2147483648:=aa;have b3:X (∀r k,eB r k->aQ (bytesOf s) 0 (hO r k)->r=a/\I k=B/\aQ (bytesOf s) J (ot (a.map bf) k)):=λr k j z=>by
    have⟨w,q⟩:=dw.1 z;obtain rfl:=c1 r j.pl w;rw[fq,<-bi] at q;have⟨x,O⟩:=dw.1 q;have bD:=GZ k λe W=>(j.e7 e W).lo;have e0:=j.rows;have cs:=jQ aa (by have:=eb;omega) x cZ;rw[cs,<-bW] at O;exact⟨rfl,cs,O⟩
   clear ba bM E;go_wp2_with fail
   go_loopw [18] (λb1 wr=>∃(b:List Bd) (u:List (Bd×F)) (l:F),b1=n9 (I b)/\u.map bf=b/\Q2 (ot<|a.map bf) fB (λ_=>lV<|a.map bf) (bytesOf s) J (bytesOf g) 0 B b/\mw c wr N f d a i o n p l u/\J+I (ot (a.map bf) b)<=s.size/\wr.heap[f]? =K (bQ s<|J+I (ot (a.map bf) b))/\I (fB b)<=g.size/\wr.heap[d]? =K (bQ g<|I<|fB b)) (λb1 _=>B-bO (bB b1))
   exact⟨[],[],_,rfl,rfl,Q2.zero Y Y,ch.o,by simpa [ot] using cy,by simpa [ot] using cf.o,by simp[fB],by simpa [fB] using ca.o⟩;clear ch cf ca;obtain⟨b,u,l,rfl,a0,bH,H,ae,bL,c0,bK⟩:=hrel;have S:=aA bH;have E:=aA H;have bu:X (I u=I b):=by show _=_;rw[<-a0,er]
   have cq:I b<=65536:=by have:=P1 (a.map bf) b;omega
   obtain⟨C,ad⟩:∃C,C=J+I (ot (a.map bf) b):=⟨_,rfl⟩;obtain⟨D,R⟩:∃D,D=I (fB b):=⟨_,rfl⟩;have ab:=aA R;rw[<-ad] at ae bL;rw[<-R] at c0 bK;have aC:X (wr.heap[f]? =K (bQ s C)):=bL;have aw:X (wr.heap[d]? =K (bQ g D)):=bK;have d8:I b<=B:=bH.le;have eq:U c.heap<=U wr.heap:=H.kp.size;clear bH R bL bK;by_cases be:I b<B
   .have db:X ((∀v,lV (a.map bf) v->aQ (bytesOf s) C (jY (a.map bf) v)->¬aQ (bytesOf g) D (fH v.chunks))->∀a b,eB a b->aQ (bytesOf s) 0 (hO a b)->bytesOf g≠fB b):=λR r k j z Q=>by
     have⟨w,q,x⟩:=b3.o r k j z;rw[w] at j;refine S.o.fail (e:=λ_ v=>jY (a.map bf) v) (g:=λ_ v=>fH v.chunks) Em Ex be (λv b0 O bD=>?_) k q (J8 j.e7) x<|uy Q.symm;rw[<-ad] at O;rw[fq,<-ab.o] at bD;exact R v b0 O bD
    have cd:X (bc 96 #[(aK f),(aK d),ah i (I a) n] wr.drew (Iv (a.map bf) wr.drew f C s d D g)):=Zw (a.map bf) f C d D (U c.heap) s g wr.drew el cA eC ae c0 aC.o aw.o a4 a3 (by rw[er];exact(fc E.o.an<|(bN (U wr.heap) wr).drew)) c8.o<|Kn b7.o;have⟨bj,bk,a6,bm⟩:=H.cells;go_upto_region 5 with fail;refine Un.open_ (λT=>bl T N 2 l) 9 (λ_ _ _ _ _ h=>h) λe3=>?_;have bF:(λT=>bl T N 2 l) wr.drew:=a6;refine Un.pk 0 ?_;refine Un.ld [9] 1 ?_;refine Un.pk 2 ?_;refine Un.pk 3 ?_;refine Un.pk 4 ?_;try simp only[bw,ct,cj,b9]
    refine Un.on 5 λa8 P=>?_;go_simp;go_at_call 96;refine bG cd.o ?_;rintro t ao ⟨V,⟨e,e6,rfl,d0,eo,d5,dP,d1,d7,dL,bT,es⟩|⟨m,rfl,a2⟩⟩;rotate_left;have V:=(eX.iW (r:=f) (q:=d)<|(bN (U wr.heap) wr).drew).trans V;have G:=aA<|db.o a2;have dg:=aA<|E.o.kp.trans V;exact⟨rfl,dg.o,ai ⟨m,rfl,G.o⟩⟩
    .have V:=(eX.iW (r:=f) (q:=d)<|(bN (U wr.heap) wr).drew).trans V;obtain⟨am,al,rfl⟩:=e9 bT;have M:=aA<|E.o.step a4 a3 a1 V;have dk:X (aT ao (U c.heap) 143 8 (ah am (I e.chunks) al) (I e.chunks)<|sB e.chunks):=j5 bT (by simpa using eq);have c6:=M.o.cells.2.2.1;refine P.o _ _ (λ_=>c6) ?_;clear P a8 bF V bT bj bk a6 bm cd E aC aw;try simp only[bw,ct,cj,b9]
     have bF:(λT=>bl T N 2 l) ao:=c6;refine Un.on 6 λa8 P=>?_;go_simp;have dC:X (mw c (ao.alloc<|aq (cR<|uh (e,ah am (I e.chunks) al)) 139) N f d a i o n p l u):=M.o.below<|(bN _ _).alloc (aZ _) _;refine P.o _ _ (λ_=>dC.o.cells.2.2.1) ?_;try simp only[bw,ct,cj,b9]
     refine Un.one (i:=7) aR Y λa8 P=>?_;have cK:=M.o.e7.own;rw[bu.o] at cK;have e5:U c.heap<=U ao.heap:=M.o.kp.size;refine step_append_lies _ (by rfl) _ _ 103 (by rfl) (U c.heap) 139 eE _ 2 32 aE.underlying103 d4 et ew eA Y az l (I b) _ (by rfl) (cK.alloc _) ⟨U ao.heap,0,Z⟩ 1 1 (uh (e,ah am (I e.chunks) al)) (by rfl) Y (ac7 ao) (by intro D R;simp[uh] at R;rcases R with rfl|rfl<;>rfl) az fW aa bS _ rfl ?_;intro aH a9 b2 cN d3 dT e2;have bd:=dx.mh (n:=I b+1) (cap:=a9) d3 dT;have eh:aT b2 (U c.heap) 139 2 (aG aH (I b+1) a9) (I<|u++[(e,ah am (I e.chunks) al)]) (xQ<|u++[(e,ah am (I e.chunks) al)]):=by
      unfold xQ at cN ⊢;rw[oN,pH,cJ,bu.o];exact cN
     have dc:=aA<|M.o.oX a1 bd dk.o eh;have bx:=aA<|M.o.reader a1 bd a4 dP;have du:=aA<|M.o.reader a1 bd a3 dL;have⟨c7,fg⟩:=M.o.kept bd;refine P.o _ _ (λ_=>c7) ?_;try simp only[bw,ct,cj,b9]
     have bF:(λT=>bl T N 2 l) b2:=c7;refine Un.pk 8 ?_;try simp only[bw,ct,cj,b9]
     refine Un.on 9 λa8 P=>?_;go_simp;refine P.o _ _ (λh=>absurd h az) ?_;refine Un.done (by kernel_rfl) ?_ _;try simp only[bw,ct,cj,b9]
     generalize aY b2 ⟨N,2,Z⟩ (aG aH (I b+1) a9)=eO at*;generalize ah (K ⟨aH,0,Z⟩) (I b+1) a9=eQ at*;have b5:X (J+I (ot (a.map bf)<|b++[e])=C+I (jY (a.map bf) e)):=by
      show _=_;rw[Em,cJ];have x:=ad;omega
     have b6:X (I (fB<|b++[e])=D+I (fH e.chunks)):=by
      show _=_;rw[Ex,cJ,ab.o]
     have dp:X (Q2 (ot<|a.map bf) fB (λ_=>lV<|a.map bf) (bytesOf s) J (bytesOf g) 0 B<|b++[e]):=by
      refine S.o.more (e:=λ_ v=>jY (a.map bf) v) (g:=λ_ v=>fH v.chunks) Em Ex be d0 (by rw[<-ad];exact eo) (by rw[fq,<-ab.o];exact d1) λv b0 x O=>?_;rw[<-ad] at x;rw[fq,<-ab.o] at O;exact es v b0 x O
     have dl:X ((u++[(e,ah am (I e.chunks) al)]).map bf=b++[e]):=by show _=_;rw[gD,a0];rfl
     go_wp2_with fail
     go_roundw
     case rel=>exact⟨b++[e],_,_,by rw[cJ];go_num,dl.o,dp.o,dc.o,by rw[b5.o];exact d5,by rw[b5.o];exact bx.o,by rw[b6.o];exact d7,by rw[b6.o];exact du.o⟩
     case measure=>simp[bB];omega
   .have a7:=S.o.done be;have c9:=aA a7.1;have da:=aA a7.2;have ed:B=I b:=a7.1.symm;have bs:X (∀e∈b,lV (a.map bf) e):=UM S.o.yd;have bC:X (∀r k,eB r k->aQ (bytesOf s) 0 (hO r k)->bytesOf g=fB k->r=a/\k=b):=λr k j z Q=>by
     have⟨w,q,x⟩:=b3.o r k j z;rw[w] at j;exact⟨w,da.o k q (J8 j.e7) x<|uy Q.symm⟩
    have bv:X (bc 45 #[bZ #[ah i (I a) n,ah o (I a) p,l]] wr λt bo=>t=aN (n9<|gW<|u.map bf)/\aD wr bo):=T5 i o (U c.heap) l u wr H.e7 (by rw[bu.o];exact cq) (by rw[a0];exact λe W=>(bs.o e W).hi);rw[a0] at bv;have e4:gW b<=6553600:=by have:=MD b λe W=>(bs.o e W).hi;have:=Nat.mul_le_mul_right 100 cq;omega
    have br:X (I (hO a b)=C/\aQ (bytesOf s) 0 (hO a b)):=by
     have dJ:=bi;have aH:=bW;have eZ:=ad;unfold hO;rw[c9.o];refine⟨by rw[cJ,cJ];omega,?_⟩;exact dw.2 ⟨em,by rw[fq,<-dJ];exact dw.2 ⟨cZ,by rw[<-aH];exact S.o.st⟩⟩
    have dA:X (aQ (bytesOf g) 0<|fB b):=S.o.sc;have⟨cn,cl,bP⟩:=e9 H.e7.own;subst bP;obtain⟨bj,bk,a6,bm⟩:=H.cells;subst ed;clear H a7 S be d8 ec;go_wp2_with fail;refine bG bv.o ?_;rintro t ar ⟨rfl,bb⟩;have bz:=aA<|E.o.below bb;have cc:X (ar.heap[f]? =K (bQ s C)):=(cT bb f<|bE aC.o).trans aC.o;have b8:X (ar.heap[d]? =K (bQ g D)):=(cT bb d<|bE aw.o).trans aw.o;clear bb E aC aw bj bk a6 bm bv;by_cases e1:2000<gW b
    .have d2:decide ((2000:Int)<(gW b:Int))=af:=by simp;omega
     have G:X (∀a b,eB a b->aQ (bytesOf s) 0 (hO a b)->bytesOf g≠fB b):=λr k j z Q=>by
      obtain⟨w,q⟩:=bC.o r k j z Q;have:=j.rows;rw[q] at this;omega
     go_wp2_with (go_at_call 97;refine bG (lP f C s _ cc.o) ?_;rintro t bo ⟨rfl,rfl⟩);exact⟨rfl,bz.o.kp,ai ⟨_,rfl,G.o⟩⟩
    have d2:decide ((2000:Int)<(gW b:Int))=aj:=bS;have dz:X (gW b<=2000):=by show _<=_;omega
    by_cases cu:D<g.size
    .have G:X (∀a b,eB a b->aQ (bytesOf s) 0 (hO a b)->bytesOf g≠fB b):=λr k j z Q=>by
      obtain⟨w,q⟩:=bC.o r k j z Q;have x:=congrArg I Q;rw[cM,q,<-ab.o] at x;omega
     go_wp2_with (go_at_call 93;refine bG (EX d D g c2 cu b8.o) ?_;rintro t bo ⟨rfl,m,rfl⟩);exact⟨rfl,bz.o.kp.trans<|eX.sD<|(Kp.refl f ar).drewN _,ai ⟨_,rfl,G.o⟩⟩
    have dE:X (bytesOf g=fB b):=by
     show _=_;refine(NM dA.o ?_);rw[cM,<-ab.o];omega
    have dd:X (eB a b):=⟨b7.o,bs.o,dz.o⟩;go_upto_region 10 with(go_at_call 93;refine bG (EY d D g c2 cu b8.o) ?_;rintro t bo ⟨rfl,m,rfl⟩);have y:mw c (ar.drewN m) N f d a i o n p (ah cn (I u) cl) u:=bz.o.below<|below_drewN (bN _ _) _;have dy:X ((ar.drewN m).heap[f]? =K (bQ s C)):=cc.o;generalize ar.drewN m=A at*;generalize bP:ah cn (I u) cl=l at y;obtain⟨bj,bk,a6,bm⟩:=y.cells;obtain⟨fa,fb,fd⟩:=xa y.res;have eU:cE A ⟨U c.heap,0,Z⟩=aj:=by have:=y.res;simp[cE,this]
    have eV:cE A ⟨U c.heap,1,Z⟩=aj:=by have:=y.res;simp[cE,this]
    have eY:cE A ⟨U c.heap,2,Z⟩=aj:=by have:=y.res;simp[cE,this]
    have w:=ek A (U c.heap) 0 _ _ (ah i (I a) n) y.res;have q:=ek _ (U c.heap) 1 _ _ (ah o (I a) p) w;have x:=ek _ (U c.heap) 2 _ _ l q;obtain⟨eF,eG,eJ⟩:=xa (show _=K (aq #[ah i (I a) n,ah o (I a) p,l] 105 (0,0)) from x);have dq:X (pu (aY (aY (aY A ⟨U c.heap,0,Z⟩<|ah i (I a) n) ⟨U c.heap,1,Z⟩<|ah o (I a) p) ⟨U c.heap,2,Z⟩ l) (U c.heap) l u):=
     ((y.e7.put y.res az az _ _).put w az az _ _).put q az az _ _
    have c4:∀{d:F} {B t c3:Nat} {c5:List F},t≠105->aT A (U c.heap) t c3 d B c5->aT (aY (aY (aY A ⟨U c.heap,0,Z⟩<|ah i (I a) n) ⟨U c.heap,1,Z⟩<|ah o (I a) p) ⟨U c.heap,2,Z⟩ l) (U c.heap) t c3 d B c5:=λbV cW=>by
     have ci:=cW.kept (eM A (U c.heap) 0<|ah i (I a) n)<|ai (dS cW y.res bV.symm).symm;have ck:=ci.kept (eM _ (U c.heap) 1<|ah o (I a) p)<|ai (dS ci w bV.symm).symm;exact ck.kept (eM _ (U c.heap) 2 l)<|ai (dS ck q bV.symm).symm
    have dr:X (aT (aY (aY (aY A ⟨U c.heap,0,Z⟩<|ah i (I a) n) ⟨U c.heap,1,Z⟩<|ah o (I a) p) ⟨U c.heap,2,Z⟩ l) (U c.heap) 63 2 (ah i (I a) n) (I a)<|k4<|a.map bf):=c4 az y.an;have ds:X (aT (aY (aY (aY A ⟨U c.heap,0,Z⟩<|ah i (I a) n) ⟨U c.heap,1,Z⟩<|ah o (I a) p) ⟨U c.heap,2,Z⟩ l) (U c.heap) 3 1 (ah o (I a) p) (I a)<|cO<|a.map dD):=c4 az y.gA;have di:X (eX f d c<|aY (aY (aY A ⟨U c.heap,0,Z⟩<|ah i (I a) n) ⟨U c.heap,1,Z⟩<|ah o (I a) p) ⟨U c.heap,2,Z⟩ l):=((y.kp.grown (eM A (U c.heap) 0 _) λco t=>by cases t;exact aZ _).grown (eM _ (U c.heap) 1 _) λco t=>by cases t;exact aZ _).grown (eM _ (U c.heap) 2 _) (λco t=>by cases t;exact aZ _);have bx:X ((aY (aY (aY A ⟨U c.heap,0,Z⟩<|ah i (I a) n) ⟨U c.heap,1,Z⟩<|ah o (I a) p) ⟨U c.heap,2,Z⟩ l).heap[f]? =K (bQ s C)):=by
     show _=_;rw[ei _ _ _ _<|by simp;omega,ei _ _ _ _<|by simp;omega,ei _ _ _ _<|by simp;omega];exact dy.o
    subst bP;go_wp2;simp[jI,dB,Tryz.results64,go_sem,eF,eG,eJ];exact⟨di.o,av ⟨a,b,u,i,o,n,p,_,rfl,dd.o,a0,br.o.2,by rw[br.o.1];exact ae,by rw[br.o.1];exact bx.o,dE.o,dr.o,ds.o,dq.o,bC.o⟩⟩
def vp:Array F:= #[aF,aF,aF]
def rL{t:aP}(h:w.heap[n]? =K (aq #[v,x,y] t (0,0))):(ap w ⟨n,0,Z⟩=K v/\ap w ⟨n,1,Z⟩=K x/\ap w ⟨n,2,Z⟩=K y)/\(cE w ⟨n,0,Z⟩=aj/\cE w ⟨n,1,Z⟩=aj/\cE w ⟨n,2,Z⟩=aj):=by
 refine⟨⟨?_,?_,?_⟩,?_,?_,?_⟩<;>simp[ap,cE,h]
def gS (e:ag)(a:Nat)(b c d:F):ag:=aY (aY (aY e ⟨a,0,Z⟩ b) ⟨a,1,Z⟩ c) ⟨a,2,Z⟩ d
def Ad(a b c:F)(h:w.heap[n]? =K (aq #[v,x,y] Qd (0,0))):(gS w n a b c).heap[n]? =K (aq #[a,b,c] Qd (0,0)):=by
 exact ek _ n 2 _ _ c<|ek _ n 1 _ _ b<|ek w n 0 _ _ a h
def Ae(h:m≠n):(gS w n v x y).heap[m]? =w.heap[m]? :=by
 unfold gS;rw[ei _ _ _ _ bS,ei _ _ _ _ bS,ei _ _ _ _ bS]
def Bt(h:dZ m u w)(b:m<=U u.heap)(a:m<=n):dZ m u (gS w n v x y):=
 ku (ku (ku h b a) b a) b a
def RE(p:n≠m)(hL:w.heap[n]? =K (aq #[x,y,z] 105 (0,0)))(c:w.heap[m]? =K (aq #[v] 4 (0,0))):
 CallsD (aH ax) 92 #[(aK n),(aK m)] (jx<|{v:=.iface Qd T,recovered:=aj}::QV) w λd C D=>
  d=aN (cP #[])/\C=jx ({v:=.iface Qd T,recovered:=af}::QV)/\D=aY (gS (cG w<|aq vp 105) n aF aF aF) ⟨m,0,Z⟩ (ak aj):=by
 have o:=bE hL;have l:=bE c;have j:(cG w<|aq vp 105).heap[n]? =K (aq #[x,y,z] 105 (0,0)):=bV (fM _ _ n o) hL;have h:(cG w<|aq vp 105).heap[m]? =K (aq #[v] 4 (0,0)):=bV (fM _ _ m l) c;have k:(cG w<|aq vp 105).heap[U w.heap]? =K (aq #[aF,aF,aF] 105 (0,0)):=iI w _;refine callsD_of_wpS aE.func92 Y λG E q=>?_;apply wpS_seq;apply wpS_region;simp[wpOpsS,go_sem,recoverD,q,Tryz.ntmps92,Exit.thenS];refine wpS_cond (t:=af) (by simp[bp,jw]) ?_;simp only[if_true];apply wpS_seq;apply wpS_region;simp[wpOpsS,go_sem,Exit.thenS];apply wpS_region;obtain⟨⟨u,A,B⟩,-⟩:=rL k;have⟨⟨r,s,t⟩,e,f,g⟩:=rL j;have i:(gS (cG w<|aq vp 105) n aF aF aF).heap[m]? =K (aq #[v] 4 (0,0)):=by rw[Ae p.symm];exact h
 have⟨a,b⟩:=o3 i;unfold gS at a b ⊢;unfold vp at*;simp[wpOpsS,go_sem,u,A,B,r,s,t,e,f,g,a,b,bodyPostS,dB,Tryz.results92]
def RD:
 CallsD (aH ax) 92 #[cU<|K R,cU<|K qQ] jj w λb d e=>b=aN (cP #[])/\d=jj/\e=w:=by
 refine callsD_of_wpS aE.func92 Y λa f c=>?_;apply wpS_seq;apply wpS_region;simp[wpOpsS,go_sem,recoverD,c,Tryz.ntmps92,Exit.thenS];refine wpS_cond (t:=aj) (by simp[bp,jw]) ?_;simp only[eN,if_false];refine wpS_of_wp<|wp_skip ?_;cases a;simp_all [bodyPostS,dB,Tryz.results92]
def Kt(h:Kp n w u)(a:eX n m u W)(f:U w.heap<=m):Kp n w W:=
 ⟨aB a.os h.os,aB a.tape h.tape,aB a.output h.output,dW (Kp.size h) a.size,λd b c=>aB (a.block d (cL b<|Kp.size h) (λe=>c<|by rw[e]) aa)<|m4 h d b c⟩
structure iZ(W:ag)(bse9:Nat)(l:List (bx×Int))(L:List (Bd×F))(a b c:F):Prop where
 an:aT W bse9 63 2 a (I l) (k4<|l.map bf)
 gA:aT W bse9 3 1 b (I l) (cO<|l.map dD)
 e7:pu W bse9 c L
def iZ.below{c:List (bx×Int)}{b:List (Bd×F)}(h:iZ w n c b v x y)(a:aD w u):iZ u n c b v x y:=⟨fc h.an a,fc h.gA a,h.e7.below a⟩
def iZ.B4{c:List (bx×Int)}{b:List (Bd×F)}(h:iZ w n c b v x y)(a:m<=n):iZ w m c b v x y:=⟨j5 h.an a,j5 h.gA a,⟨j5 h.e7.own a,λe d=>j5 (h.e7.each e d) a⟩⟩
def iZ.put{f:List (bx×Int)}{e:List (Bd×F)}(h:iZ w n f e v x y)(d:w.heap[m]? =K (aq C Qd (0,0)))(a:Qd=105\/Qd=4\/Qd=9)(b:Nat)(c:F):iZ (aY w ⟨m,b,Z⟩ c) n f e v x y:=by
 have g:Qd≠63:=by rcases a with rfl|rfl|rfl<;>decide
 have i:Qd≠3:=by rcases a with rfl|rfl|rfl<;>decide
 have j:Qd≠139:=by rcases a with rfl|rfl|rfl<;>decide
 have k:Qd≠143:=by rcases a with rfl|rfl|rfl<;>decide
 exact⟨fI h.an (eM w m b c)<|ai (dS h.an d g).symm,fI h.gA (eM w m b c)<|ai (dS h.gA d i).symm,h.e7.put d j k b c⟩
def iZ.gS{d:List (bx×Int)}{a:List (Bd×F)}(h:iZ w n d a v x y)(c:w.heap[m]? =K (aq #[z,T,qs] 105 (0,0))):iZ (Ec.gS w m qt qu qw) n d a v x y:=by
 have b:=ek w m 0 _ _ qt c;exact((h.put c (av Y) _ _).put b (av Y) _ _).put (ek _ m 1 _ _ qu b) (av Y) _ _
def iZ.Fc{f:List (bx×Int)}{g:List (Bd×F)}(h:iZ w n f g v x y):∃a ac c b e d,v=ah a (I f) ac/\x=ah c (I f) b/\y=ah e (I g) d:=by
 have⟨a,ac,i⟩:=e9 h.an;have⟨c,b,j⟩:=e9 h.gA;have⟨e,d,k⟩:=e9 h.e7.own;exact⟨a,ac,c,b,e,d,i,j,k⟩
def Po (n:ag)(l:Nat)(s f:ByteArray)(k:gN)(e:ag):Prop:=
 Kp l n e/\((∃(b:List (bx×Int)) (a:List Bd) (g:List (Bd×F)) (h i j:F),k=aN (bZ #[h,i,j])/\eB b a/\g.map bf=a/\aQ (bytesOf s) 0 (hO b a)/\I (hO b a)<=s.size/\e.heap[l]? =K (bQ s<|I<|hO b a)/\bytesOf f=fB a/\iZ e (U n.heap) b g h i j/\(∀d c,eB d c->aQ (bytesOf s) 0 (hO d c)->bytesOf f=fB c->d=b/\c=a))\/
  (∃m,k=gO (g4 m)/\∀b a,eB b a->aQ (bytesOf s) 0 (hO b a)->bytesOf f≠fB a))
def YN{b cb:Nat}{s c:ByteArray}(ao:s.size<=65536)(C:c.size<=65536)(h:w.heap[b]? =K (bQ s 0))(B:w.heap[cb]? =K (aq #[ay c] 9 (0,0))):
 bc 63 #[(aK b),(aK cb)] w (Po w b s c):=by
 have aG:=bE h;have al:=bE B;have a1:ap (w.alloc<|aq #[aF,aF,aF] 105) ⟨cb,0,Z⟩=K (ay c):=(o3 (t:=9)<|bV (fM _ _ cb al) B).1;have G:X (∀p,bc 66 #[ay c] p λe a0=>e=aN (ay c)/\aD p a0):=λp=>Je c p C;have v:X ((w.alloc<|aq #[aF,aF,aF] 105).heap[b]? =K (bQ s 0)):=by
  show _=_;rw[fM _ _ b aG];exact h
 have x:X (cq (w.alloc<|aq #[aF,aF,aF] 105) (U w.heap) #[aF,aF,aF] 105):=iI w _;have J:X (Kp b w<|w.alloc<|aq #[aF,aF,aF] 105):=(Kp.refl b w).alloc _;go_enter aE.func63,Tryz.ntmps63;go_wp2_with fail;refine bG (G.o _) ?_;rintro e d ⟨rfl,t⟩;have P:X (d.heap[b]? =K (bQ s 0)):=(cT t b<|bE v.o).trans v.o;have y:X (cq d (U w.heap) #[aF,aF,aF] 105):=(cT t _<|bE x.o).trans x.o;have L:=aA<|J.o.trans<|Kp.iW t;go_wp2_with fail;refine bG (FV c) ?_;rintro e a5 ⟨rfl,rfl⟩;have aQ:=bE y.o;have Q:X ((d.alloc<|bQ c 0).heap[b]? =K (bQ s 0)):=by show _=_;rw[fM _ _ b aa];exact P.o
 have O:X ((d.alloc<|bQ c 0).heap[U d.heap]? =K (bQ c 0)):=iI d _;have S:X (cq (d.alloc<|bQ c 0) (U w.heap) #[aF,aF,aF] 105):=by show _=_;rw[fM _ _ _ aQ];exact y.o
 have u:X (Kp b w<|d.alloc<|bQ c 0):=L.o.alloc _;have aI:U w.heap<=(d.alloc<|bQ c 0).heap.size:=bS;generalize d.alloc (bQ c 0)=V at*;generalize U d.heap=aU at*;go_wp2_with fail;refine bG (ZD b aU s c V aa ao C Q.o O.o) ?_;rintro e g ⟨q,⟨a,z,f,j,l,i,k,W,rfl,am,ab,aH,an,ad,ae,az,aC,aw,aR⟩|⟨m,rfl,ar⟩⟩;rotate_left
 .skip
  have M:X (Kp b w g):=Kt u.o q aa;go_wp2;exact⟨rfl,M.o,ai ⟨m,rfl,ar⟩⟩
 have Y:Kp b w g:=Kt u.o q aa;have r:cq g (U w.heap) #[aF,aF,aF] 105:=q.keep S.o aa aa;have hF:iZ g (U w.heap) a f (ah j (I a) i) (ah l (I a) k) W:=(iZ.mk az aC aw).B4 aI;obtain⟨-,-,-,-,o,n,-,-,rfl⟩:=hF.Fc;have H:X (iZ (gS g (U w.heap) (ah j (I a) i) (ah l (I a) k)<|ah o (I f) n) (U w.heap) a f (ah j (I a) i) (ah l (I a) k)<|ah o (I f) n):=hF.gS r;have R:X ((gS g (U w.heap) (ah j (I a) i) (ah l (I a) k)<|ah o (I f) n).heap[b]? =K (bQ s<|I<|hO a z)):=by show _=_;rw[Ae<|by omega];exact ad
 have N:X (Kp b w<|gS g (U w.heap) (ah j (I a) i) (ah l (I a) k)<|ah o (I f) n):=((Y.grown (eM _ (U w.heap) 0 _) λA e=>by cases e;exact aZ _).grown (eM _ (U w.heap) 1 _) λA e=>by cases e;exact aZ _).grown (eM _ (U w.heap) 2 _) (λA e=>by cases e;exact aZ _);have T:X (cq (gS g (U w.heap) (ah j (I a) i) (ah l (I a) k)<|ah o (I f) n) (U w.heap) #[ah j (I a) i,ah l (I a) k,ah o (I f) n] 105):=Ad _ _ _ r;have⟨⟨a6,a7,a8⟩,a2,a3,a4⟩:=rL r;obtain⟨⟨D,E,F⟩,-⟩:=rL T.o;unfold gS at D E F;go_wp2;simp[jI,dB,Tryz.results63,go_sem,D,E,F];exact⟨N.o,av ⟨a,z,f,_,_,_,rfl,am,ab,aH,an,R.o,ae,H.o,aR⟩⟩
def KX(E:ByteArray)(h:bg E=4):iV (oy E 4)=bytesOf E:=by
 have f:I (bytesOf E)=4:=by rw[cM,h]
 have b:=rE E 0;have c:=rE E 1;have d:=rE E 2;have e:=rE E 3;simp only[oy];generalize bytesOf E=a at*
 match a,f with
 | [g,i,j,k],_=>
  simp at b c d e;simp[iV];omega
def WA(E:ByteArray)(d:n<=65536)(h:bytesOf E=iV n):oy E 4=n:=by
 have b:bg E=4:=by rw[<-cM,h];rfl
 have a:iV (oy E 4)=iV n:=by rw[(KX E b),h]
 have c:=CH E 4;unfold iV at a;simp at a;have:(256:Nat)^4=4294967296:=az;omega
def OU (s:ByteArray)(c:gN):Prop:=
 (∃a b:ByteArray,c=aN (cP #[ay a,ay b,ak af])/\Cut s (bytesOf a) (bytesOf b))\/(c=aN (cP #[ay ⟨#[]⟩,ay ⟨#[]⟩,ak aj])/\∀a b,¬Cut s a b)
def TB(s:ByteArray)(t:s.size<=aV):
 bc 61 #[ay s] w λj u=>OU s j/\aD w u:=by
 have P:=t;unfold aV at P;by_cases W:65536<s.size
 .have L:decide ((65536:Int)<(s.size:Int))=af:=by simp;omega
  have f:X (∀b a,¬Cut s b a):=λb a e=>by have:=e.1;omega
  go_enter aE.func61,Tryz.ntmps61;go_wp2;simp[jI,dB,Tryz.results61,go_sem];exact⟨ai ⟨rfl,f.o⟩,bN _ _⟩
 .have L:decide ((65536:Int)<(s.size:Int))=aj:=by simp;omega
  go_enter aE.func61,Tryz.ntmps61;go_wp2_with fail;refine bG (TA s t) ?_;rintro j al ⟨⟨n,A,rfl,g⟩,rfl⟩;rcases g with⟨rfl,g⟩|⟨rfl,rfl,g⟩;rotate_left
  .have f:X (∀b a,¬Cut n b a):=λb a e=>g _ e.2;go_wp2_with fail;refine bG (Jt n t) ?_;rintro j v ⟨⟨d,A,rfl,h⟩,rfl⟩;go_wp2;simp[jI,dB,Tryz.results61,go_sem];exact⟨ai ⟨rfl,f.o⟩,bN _ _⟩
  .have Z:n.size+4=s.size:=by
    have:=congrArg I g;rw[cM,cJ,cM] at this;simp at this;omega
   have R:n.size<=aV:=fW
   skip
   go_wp2_with fail;refine bG (Jt n R) ?_;rintro j v ⟨⟨d,A,rfl,h⟩,rfl⟩;rcases h with⟨rfl,h⟩|⟨rfl,rfl,h⟩;rotate_left
   .have f:X (∀b a,¬Cut s b a):=λb a e=>by
     have k:=e.2;rw[g] at k;exact h (b++(a++iV (I a))) (by rw[(List.append_cancel_left (show[83,84,82,65]++bytesOf _=[83,84,82,65]++_ from k))];simp[nB])
    go_wp2;simp[jI,dB,Tryz.results61,go_sem];exact⟨ai ⟨rfl,f.o⟩,bN _ _⟩
   have ab:d.size+4=n.size:=by
    have:=congrArg I h;rw[cM,cJ,cM] at this;simp at this;omega
   have o:X (∀b a,Cut s b a->bytesOf d=b++(a++iV (I a))):=λb a e=>by
    have k:=e.2;rw[g] at k;have l:=List.append_cancel_left (show[83,84,82,65]++bytesOf _=[83,84,82,65]++_ from k);rw[h] at l;have C:bytesOf d++[83,84,82,65]=(b++(a++iV (I a)))++[83,84,82,65]:=by rw[l];simp[nB]
    exact List.append_cancel_right C
   have z:X (∀b a,bytesOf d=b++(a++iV (I a))->Cut s b a):=λb a e=>by
    refine⟨aa,?_⟩;rw[g,h,e];simp[nB]
   by_cases C:d.size<4
   .have M:decide ((d.size:Int)-4<0)=af:=by simp;omega
    have S:cY ((d.size:Int)-4)=(d.size:Int)-4:=by unfold cY;omega
    have f:X (∀b a,¬Cut s b a):=λb a e=>by
     have:=congrArg I<|o.o b a e;rw[cM] at this;simp[iV] at this;omega
    go_wp2;simp[jI,dB,Tryz.results61,go_sem];exact⟨ai ⟨rfl,f.o⟩,bN _ _⟩
   obtain⟨c,Y⟩:∃c,d.size=c+4:=⟨d.size-4,aa⟩;have M:decide ((c:Int)<0)=aj:=aI;have S:cY ((d.size:Int)-4)=(c:Int):=by unfold cY;omega
   have U:(c:Int)<=(d.size:Int):=aa;have V:(d.size:Int)-4=(c:Int):=aa;obtain⟨E,q⟩:∃E,E=fw d c (c+4):=⟨_,rfl⟩;have r:E.size=4:=by rw[q,tN];omega
   have p:X (bytesOf d=(bytesOf d).take c++bytesOf E):=by
    show _=_;rw[q,nu,iF (l:=(bytesOf d).drop c)<|by rw[uT,cM];omega,v7]
   have H:X (bc 91 #[ay<|fw d c<|c+4] v λj u=>j=aN (aJ .u64 (oy E 4:Int))/\u=v):=by rw[<-q];exact ZE E r
   have y:=aA<|KX E r;have G:=aA<|CH E 4;have x:X (∀b a,Cut s b a->oy E 4=I a/\I a<=c):=λb a e=>by
    have B:=o.o b a e;have D:=congrArg I B;rw[cM] at D;simp[iV] at D;have l:(bytesOf d).take c++bytesOf E=(b++a)++iV (I a):=by rw[<-p.o,B,ij]
    have J:=(List.append_inj' l<|by rw[cM,r];rfl).2;exact⟨WA E (by omega) J,by omega⟩
   generalize oy E 4=i at*;go_wp2_with fail;refine bG H.o ?_;rintro j am ⟨rfl,rfl⟩;have ad:lW.wrap (c:Int)=(c:Int):=by rw[wrap_u64];omega
   have T:X (s.size<=65536):=by show _<=_;omega
   by_cases K:c<i
   .have N:(c:Int)<(i:Int):=by omega
    have f:X (∀b a,¬Cut s b a):=λb a e=>by have:=x.o b a e;omega
    go_wp2;simp[jI,dB,Tryz.results61,go_sem];exact⟨ai ⟨rfl,f.o⟩,bN _ _⟩
   have N:decide ((c:Int)<(i:Int))=aj:=bS;obtain⟨m,Q⟩:∃m,c=m+i:=⟨c-i,aa⟩;have ae:(c:Int)-(i:Int)=(m:Int):=aa;have F:X (Cut s (bytesOf<|fw d 0 m)<|bytesOf<|fw d m c):=by
    refine z.o _ _ ?_;have O:I (bytesOf<|fw d m c)=i:=by rw[cM,tN];omega
    rw[O,y.o];have k:=p.o;rw[nu,nu,tW,<-ij];have l:((bytesOf d).take<|m-0)++((bytesOf d).drop m).take (c-m)=(bytesOf d).take c:=by
     rw[show c=m+(c-m) by omega,List.take_add,show m+(c-m)-m=c-m by omega];rfl
    rw[l];exact k
   clear o z x p y G Q K;go_upto_region 12 with fail;go_quiet (fail);go_wp2;simp[jI,dB,Tryz.results61,go_sem];exact⟨av ⟨_,_,rfl,F.o⟩,below_drewN (bN _ _) _⟩
def Pr (k:ag)(s e:ByteArray)(j:gN)(l:ag):Prop:=
 aD k l/\((∃(b:List (bx×Int)) (a:List Bd) (f:List (Bd×F)) (g h i:F),j=aN (cP #[bZ #[g,h,i],ak af])/\eB b a/\f.map bf=a/\bytesOf s=hO b a/\bytesOf e=fB a/\iZ l (U k.heap) b f g h i/\(∀d c,eB d c->bytesOf s=hO d c->bytesOf e=fB c->d=b/\c=a))\/
  (j=aN (cP #[bZ #[aF,aF,aF],ak aj])/\∀b a,eB b a->bytesOf s=hO b a->bytesOf e≠fB a))
def I7(hL:u.heap[U w.heap]? =K (aq #[x,y,z] 105 (0,0)))(b:u.heap[U w.heap+1]? =K (aq #[v] 4 (0,0))):
 CallsD (aH ax) 92 #[(aK<|U w.heap),(aK<|U w.heap+1)] (jx<|g4 n) u λa c d=>
  a=aN (cP #[])/\c=jx [{v:=.iface 205<|bZ #[n9 n],recovered:=af}]/\d=aY (gS (cG u<|aq vp 105) (U w.heap) aF aF aF) ⟨U w.heap+1,0,Z⟩ (ak aj):=
 RE aa hL b
def HR(b c d e:F)(hL:w4.heap[U w.heap]? =K (aq #[x,y,z] 105 (0,0)))(i:w4.heap[U w.heap+1]? =K (aq #[v] 4 (0,0)))(h:aD w w4):
 let a:=(gS w4 (U w.heap) b c d).setCell ⟨U w.heap+1,0,Z⟩ e
 (bl a (U w.heap) 0 b/\bl a (U w.heap) 1 c/\bl a (U w.heap) 2 d)/\bl a (U w.heap+1) 0 e/\aD w a:=by
 have f:=Ad b c d hL;have g:(gS w4 (U w.heap) b c d).heap[U w.heap+1]? =K (aq #[v] 4 (0,0)):=by rw[Ae<|by omega];exact i
 refine⟨(rL (t:=105)<|by rw[ei _ _ _ _ aI];exact f).1,(o3<|Bp e g).1,?_⟩;exact(Bt h (aZ _)<|aZ _).setCell (Nat.le_succ _) _
def adz(cb:Nat)(s v:ByteArray)(a:ag)(bh:s.size<=65536)(bk:v.size<=65536)(ab:a.heap[cb]? =K (aq #[ay v] 9 (0,0))):
 bc 62 #[ay s,.func (.func 63) #[] #[(aK cb)]] a (Pr a s v):=by
 have bd:=bE ab;have ae:s.size<=aV:=fW
 skip
 go_enter_defers aE.func62,Tryz.ntmps62
 go_wp2_with (go_at_call 65;refine(FV s).mono ?_;rintro q am ⟨rfl,rfl⟩);have W:cq (((a.alloc<|aq #[aF,aF,aF] 105).alloc<|aq #[ak aj] 4).alloc<|bQ s 0) (U a.heap) #[aF,aF,aF] 105:=HF _ _ _ _;have S:cq (((a.alloc<|aq #[aF,aF,aF] 105).alloc<|aq #[ak aj] 4).alloc<|bQ s 0) (U a.heap+1) #[ak aj] 4:=HG _ _ _ _;have a8:(((a.alloc<|aq #[aF,aF,aF] 105).alloc<|aq #[ak aj] 4).alloc<|bQ s 0).heap[U a.heap+1+1]? =K (bQ s 0):=HH _ _ _ _;have bv:(((a.alloc<|aq #[aF,aF,aF] 105).alloc<|aq #[ak aj] 4).alloc<|bQ s 0).heap.size=U a.heap+3:=aI;have M:aD a (((a.alloc<|aq #[aF,aF,aF] 105).alloc<|aq #[ak aj] 4).alloc<|bQ s 0):=(((bN _ _).alloc (aZ _) _).alloc aI _).alloc bS _;generalize (((a.alloc<|aq #[aF,aF,aF] 105).alloc<|aq #[ak aj] 4).alloc<|bQ s 0)=br at*;refine(YN bh bk a8<|(cT M cb bd).trans ab).mono ?_;rintro q i ⟨u,⟨b,j,c,aw,az,aC,rfl,be,a6,bi,bx,a9,bb,hF,bj⟩|⟨bz,rfl,a7⟩⟩;have n:cq i (U a.heap) #[aF,aF,aF] 105:=Kp.block u W aa;have z:cq i (U a.heap+1) #[ak aj] 4:=Kp.block u S aa;have N:aD a i:=M.trans<|(u.below aa).mono aa;have V:iZ i (U a.heap) b c aw az aC:=hF.B4 aa;obtain⟨d,ac,f,e,h,g,rfl,rfl,rfl⟩:=V.Fc;have P:X (iZ (gS i (U a.heap) (ah d (I b) ac) (ah f (I b) e)<|ah h (I c) g) (U a.heap) b c (ah d (I b) ac) (ah f (I b) e)<|ah h (I c) g):=V.gS n;have a5:cq (gS i (U a.heap) (ah d (I b) ac) (ah f (I b) e)<|ah h (I c) g) (U a.heap) #[ah d (I b) ac,ah f (I b) e,ah h (I c) g] 105:=Ad _ _ _ n;have a3:(gS i (U a.heap) (ah d (I b) ac) (ah f (I b) e)<|ah h (I c) g).heap[U a.heap+1]? =K (aq #[ak aj] 4 (0,0)):=by rw[Ae<|by omega];exact z
 have ba:(gS i (U a.heap) (ah d (I b) ac) (ah f (I b) e)<|ah h (I c) g).heap[U a.heap+1+1]? =K (bQ s<|I<|hO b j):=by rw[Ae<|by omega];exact a9
 have a2:aD a (gS i (U a.heap) (ah d (I b) ac) (ah f (I b) e)<|ah h (I c) g):=Bt N (aZ _)<|aZ _;have⟨⟨bl,bm,bo⟩,aH,w,x⟩:=rL n;have Q:X (∀l k,eB l k->bytesOf s=hO l k->bytesOf v=fB k->l=b/\k=j):=λl k y r L=>bj l k y (uy<|bq r) L;have D:=aA a5;have C:=aA a3;have B:=aA a2;have F:=aA ba;go_upto_region 4 with fail;unfold gS at P D C B F;generalize aY (aY (aY i ⟨U a.heap,0,Z⟩<|ah d (I b) ac) ⟨U a.heap,1,Z⟩<|ah f (I b) e) ⟨U a.heap,2,Z⟩ (ah h (I c) g)=p at*;by_cases ad:I (hO b j)<s.size;have E:X (∀b j,eB b j->bytesOf s=hO b j->bytesOf v≠fB j):=λl k y r L=>by
  have⟨R,aG⟩:=Q.o l k y r L;have:=congrArg I r;rw[cM,R,aG] at this;omega
 go_wp2_with (go_at_call 93;refine(EX (U a.heap+1+1) _ s ae ad F.o).mono ?_;rintro q am ⟨rfl,m,rfl⟩);have o:cq (cI p m) (U a.heap) #[ah d (I b) ac,ah f (I b) e,ah h (I c) g] 105:=D.o;have t:cq (cI p m) (U a.heap+1) #[ak aj] 4:=C.o;have O:=below_drewN B.o m;generalize cI p m=A at*;have⟨⟨w,x,G⟩,H,J⟩:=HR aF aF aF (ak aj) (w4:=A.alloc<|aq vp 105) (bV (fM _ _ _<|bE o) o) (bV (fM _ _ _<|bE t) t)<|O.alloc (cA<|bE o) _;refine leaves_cons (f:=92) (args:= #[(aK<|U a.heap),(aK<|U a.heap+1)]) aI (by simp[go_sem]) ?_;refine(I7 o t).mono ?_;rintro q al an ⟨rfl,rfl,rfl⟩;simp[Leaves,settle,dB,Tryz.results62,go_sem,w,x,G,H];exact⟨J,ai ⟨rfl,E.o⟩⟩
 .have ao:X (bytesOf s=hO b j):=NM bi (by rw[cM];omega);go_upto_region 5 with(go_at_call 93;refine(EY (U a.heap+1+1) _ s ae ad F.o).mono ?_;rintro q am ⟨rfl,m,rfl⟩);have o:cq (cI p m) (U a.heap) #[ah d (I b) ac,ah f (I b) e,ah h (I c) g] 105:=D.o;have t:cq (cI p m) (U a.heap+1) #[ak aj] 4:=C.o;have O:=below_drewN B.o m;have a4:iZ (cI p m) (U a.heap) b c (ah d (I b) ac) (ah f (I b) e) (ah h (I c) g):=P.o.below<|below_drewN (bN _ _) _;generalize cI p m=A at*;have⟨⟨aQ,aR,aU⟩,a0,a1⟩:=HR (ah d (I b) ac) (ah f (I b) e) (ah h (I c) g) (ak af) o t O;have T:(gS A (U a.heap) (ah d (I b) ac) (ah f (I b) e)<|ah h (I c) g).heap[U a.heap+1]? =K (aq #[ak aj] 4 (0,0)):=by rw[Ae<|by omega];exact t
  have ar:X (iZ (aY (gS A (U a.heap) (ah d (I b) ac) (ah f (I b) e)<|ah h (I c) g) ⟨U a.heap+1,0,Z⟩<|ak af) (U a.heap) b c (ah d (I b) ac) (ah f (I b) e)<|ah h (I c) g):=(a4.gS o).put T (ai<|av Y) _ _;have⟨⟨bl,bm,bo⟩,aH,w,x⟩:=rL o;have⟨bu,R⟩:=o3 T;unfold gS at*;go_wp2;generalize aY (aY (aY (aY A ⟨U a.heap,0,Z⟩<|ah d (I b) ac) ⟨U a.heap,1,Z⟩<|ah f (I b) e) ⟨U a.heap,2,Z⟩<|ah h (I c) g) ⟨U a.heap+1,0,Z⟩ (ak af)=bs at*;refine leaves_cons (f:=92) (args:= #[(aK<|U a.heap),(aK<|U a.heap+1)]) aI (by simp[go_sem]) ?_;refine(RD).mono ?_;rintro q al an ⟨rfl,rfl,rfl⟩;simp[Leaves,settle,dB,Tryz.results62,go_sem,aQ,aR,aU,a0];exact⟨a1,av ⟨b,j,c,_,_,_,rfl,be,a6,ao.o,bb,ar.o,Q.o⟩⟩
 have n:cq i (U a.heap) #[aF,aF,aF] 105:=Kp.block u W aa;have z:cq i (U a.heap+1) #[ak aj] 4:=Kp.block u S aa;have N:aD a i:=M.trans<|(u.below aa).mono aa;have E:X (∀b j,eB b j->bytesOf s=hO b j->bytesOf v≠fB j):=λl k y r=>a7 l k y<|uy<|bq r;have⟨⟨w,x,G⟩,H,J⟩:=HR aF aF aF (ak aj) (w4:=i.alloc<|aq vp 105) (by rw[fM _ _ _<|bE n];exact n) (by rw[fM _ _ _<|bE z];exact z)<|N.alloc (cA<|bE n) _;refine leaves_cons (f:=92) (args:= #[(aK<|U a.heap),(aK<|U a.heap+1)]) aI (by simp[go_sem]) ?_;refine(I7 n z).mono ?_;rintro q al an ⟨rfl,rfl,rfl⟩;simp[Leaves,settle,dB,Tryz.results62,go_sem,w,x,G,H];exact⟨J,ai ⟨rfl,E.o⟩⟩
def l9 (v low:aC):Bool:= !low.null&&decide (gv v low<0)
def l7 (v high:aC):Bool:= !high.null&&decide (0<gv v high)
def Km(v low:aC)(a:ag):bc 114 #[v.agg,low.agg] a λg e=>g=aN (ak<|l9 v low)/\aD a e:=by
 have i:=λk=>EJ v low k;have⟨h,b,c⟩:=low;unfold aC.agg;have f:X (aD a<|(a.alloc<|aq (eC v) 59).alloc<|aq #[ak h,z9 b,ay c] 59):=((bN _ _).alloc (aZ _) _).alloc aI _;cases h
 .have d:l9 v ⟨aj,b,c⟩=decide (gv v ⟨aj,b,c⟩<0):=by simp[l9]
  rw[d];go_enter aE.func114,Tryz.ntmps114;go_wp2_with (go_at_call 125;refine(i _).mono ?_;rintro g e ⟨rfl,l⟩;have j:X (aD a e):=fN f.o<|l.mono bS);go_ret;exact⟨rfl,j.o⟩
 .have d:l9 v ⟨af,b,c⟩=aj:=by simp[l9]
  rw[d];go_enter aE.func114,Tryz.ntmps114;go_wp2;go_ret;exact⟨rfl,f.o⟩
def Kl(v low:aC)(a:ag):bc 115 #[v.agg,low.agg] a λg e=>g=aN (ak<|l7 v low)/\aD a e:=by
 have i:=λk=>EJ v low k;have⟨h,b,c⟩:=low;unfold aC.agg;have f:X (aD a<|(a.alloc<|aq (eC v) 59).alloc<|aq #[ak h,z9 b,ay c] 59):=((bN _ _).alloc (aZ _) _).alloc aI _;cases h
 .have d:l7 v ⟨aj,b,c⟩=decide (0<gv v ⟨aj,b,c⟩):=by simp[l7]
  rw[d];go_enter aE.func115,Tryz.ntmps115;go_wp2_with (go_at_call 125;refine(i _).mono ?_;rintro g e ⟨rfl,l⟩;have j:X (aD a e):=fN f.o<|l.mono bS);go_ret;exact⟨rfl,j.o⟩
 .have d:l7 v ⟨af,b,c⟩=aj:=by simp[l7]
  rw[d];go_enter aE.func115,Tryz.ntmps115;go_wp2;go_ret;exact⟨rfl,f.o⟩
def qv (a b c d e:F)(sk:Bool):F:=bZ #[a,b,c,d,e,ak sk]
def UY(g:Option aL)(d j:Nat)(h i k l:F)(sk:Bool)(a:Int)(b:ag):bc 106 #[qv (ah g d j) h i k l sk,z9 a] b λf n=>f=aN (ak<|decide (0<=a)&&decide (a<(d:Int)))/\aD b n:=by
 unfold qv;have e:X (aD b<|b.alloc<|aq #[ah g d j,h,i,k,l,ak sk] 115):=(bN _ _).alloc (aZ _) _;by_cases m:0<=a
 .have c:decide (0<=a)=af:=by simpa using m
  rw[c];go_enter aE.func106,Tryz.ntmps106;go_wp2;go_ret;exact⟨rfl,e.o⟩
 .have c:decide (0<=a)=aj:=by simpa using m
  rw[c];go_enter aE.func106,Tryz.ntmps106;go_wp2;go_ret;exact⟨rfl,e.o⟩
structure bH where
 col:Int
 low:aC
 high:aC
def tt (a:bH):List F:=[z9 a.col,ak a.low.null,z9 a.low.n,ay a.low.s,ak a.high.null,z9 a.high.n,ay a.high.s]
def eZ (a:List bH):List F:=a.flatMap tt
structure dJ(w:ag)(ao:Option aL)(b off:Nat)(l:List bH):Prop where
 addr:0<I l->ao=K ⟨b,off,Z⟩
 lt:0<I l->b<U w.heap
 c0:∀j (h:j<I l),ap w ⟨b,off+j*7,Z⟩=K (z9 l[j].col)
 c1:∀j (h:j<I l),ap w ⟨b,off+j*7+1,Z⟩=K (ak l[j].low.null)
 c2:∀j (h:j<I l),ap w ⟨b,off+j*7+2,Z⟩=K (z9 l[j].low.n)
 c3:∀j (h:j<I l),ap w ⟨b,off+j*7+3,Z⟩=K (ay l[j].low.s)
 c4:∀j (h:j<I l),ap w ⟨b,off+j*7+4,Z⟩=K (ak l[j].high.null)
 c5:∀j (h:j<I l),ap w ⟨b,off+j*7+5,Z⟩=K (z9 l[j].high.n)
 c6:∀j (h:j<I l),ap w ⟨b,off+j*7+6,Z⟩=K (ay l[j].high.s)
def dJ.kept{d:List bH}(h:dJ w O n m d)(i:U w.heap<=U u.heap)(g:0<I d->u.heap[n]? =w.heap[n]?):dJ u O n m d:=by
 have c:∀a,a<I d->∀e,ap u ⟨n,e,Z⟩=ap w ⟨n,e,Z⟩:=λa b e=>by unfold ap;rw[g aa]
 exact⟨h.addr,λf=>cL (h.lt f) i,λa b=>aB (c a b _)<|h.c0 a b,λa b=>aB (c a b _)<|h.c1 a b,λa b=>aB (c a b _)<|h.c2 a b,λa b=>aB (c a b _)<|h.c3 a b,λa b=>aB (c a b _)<|h.c4 a b,λa b=>aB (c a b _)<|h.c5 a b,λa b=>aB (c a b _)<|h.c6 a b⟩
def dJ.below{b:List bH}(h:dJ w O n m b)(a:aD w u):dJ u O n m b:=h.kept a.size λc=>cT a n<|h.lt c
theorem yb:∀(d:List bH) (b:Nat) (h:b<I d) (a:Nat) (v:F),(tt d[b])[a]? =K v->(eZ d)[b*7+a]? =K v
 | [],b,h,a,v,c=>by simp at h
 |x::d,0,h,a,v,c=>by
  simp only[kG] at c;simp only[eZ,kX,Nat.zero_mul,fq];exact tX (fF.1 c).1▸c
 |x::d,b+1,h,a,v,c=>by
  simp only[jK] at c;have:=yb d b (cN h) a v c;have e:(b+1)*7+a=b*7+a+7:=aa;rw[e];simpa [eZ,tt] using this
def uk(a:List bH):I (eZ a)=I a*7:=by
 induction a with
 |nil=>rfl
 |cons c a b=>simp only[eZ,kX,cJ,oh,tt,ze] at b ⊢;omega
def dJ.Bn{e:List bH}(g:n<U w.heap)(f:∀d v,(eZ e)[d]? =K v->ap w ⟨n,m+d,Z⟩=K v):dJ w (K ⟨n,m,Z⟩) n m e:=by
 have c:∀a (b:a<I e) d v,(tt e[a])[d]? =K v->bl w n (m+a*7+d) v:=λa b d v h=>by
  have:=f _ _<|yb e a b d v h;rw[gH];exact this
 exact⟨λ_=>rfl,λ_=>g,λa b=>c a b 0 _ Y,λa b=>c a b 1 _ Y,λa b=>c a b 2 _ Y,λa b=>c a b 3 _ Y,λa b=>c a b 4 _ Y,λa b=>c a b 5 _ Y,λa b=>c a b 6 _ Y⟩
structure mD(w:ag)(lb m:Nat)(c:Int)(p:Nat)(v:aC):Prop where
 ex:∃j g n cap:Nat,c=(j:Int)/\j<m/\lb<U w.heap/\ap w ⟨lb,j,Z⟩=K (aG g n cap)/\p<n/\g<U w.heap/\ap w ⟨g,p*3,Z⟩=K (ak v.null)/\ap w ⟨g,p*3+1,Z⟩=K (z9 v.n)/\ap w ⟨g,p*3+2,Z⟩=K (ay v.s)
def mD.below{v:aC}(h:mD w n m M k v)(a:aD w u):mD u n m M k v:=by
 have⟨d,b,r,e,f,g,i,j,l,c,o,p,q⟩:=h.ex;have s:=a.size;exact⟨d,b,r,e,f,g,aa,aB (bA a (p:=⟨n,d,Z⟩) i) j,l,aa,aB (bA a (p:=⟨b,k*3,Z⟩) c) o,aB (bA a (p:=⟨b,k*3+1,Z⟩) c) p,aB (bA a (p:=⟨b,k*3+2,Z⟩) c) q⟩
def fP (v:aC)(a:bH):Bool:= !(v.null||l9 v a.low||l7 v a.high)
def mi(b:ag)(a:cz):(cG b a).heap[U b.heap]? =K a:=by
 show(Array.push b.heap a)[U b.heap]? =K a;simp
def vE{a b c d e f h:F}(g:w.heap[n]? =K (aq #[a,b,c,d,e,f,h] Qd (0,0))):ap w ⟨n,0,Z⟩=K a/\ap w ⟨n,1,Z⟩=K b/\ap w ⟨n,2,Z⟩=K c/\ap w ⟨n,3,Z⟩=K d/\ap w ⟨n,4,Z⟩=K e/\ap w ⟨n,5,Z⟩=K f/\ap w ⟨n,6,Z⟩=K h:=by
 unfold ap;simp[g]
def K0(b:List bH)(s:Int->aC)(D O m bj:Nat)(a2 a3 a4 a5:F)(ro:Option aL)(rb bL bD:Nat)(sk:Bool)(j:ag)(bh:I b<=aV)(l:dJ j ro rb bL b)(bd:∀ao∈b,mD j O m ao.col D<|s ao.col):
 bc 118 #[qv a2 a3 a4 a5 (ah ro (I b) bD) sk,aG O m bj,n9 D] j λt z=>∃ab,t=aN (ak ab)/\(ab=af↔∀a (h:a<I b),fP (s b[a].col) b[a]=af)/\aD j z:=by
 unfold qv;unfold aV at bh;have aU:=aA l;go_enter aE.func118,Tryz.ntmps118;go_wp2_with fail
 go_loopw [13] (λa wr=>∃d:Nat,d<=I b/\a=z9 d/\(∀a (h:a<I b),a<d->fP (s b[a].col) b[a]=af)/\aD j wr) (λa _=>I b-bO (bB a))
 exact⟨0,cH _,rfl,λcd _ h=>aa,(bN _ _).alloc (aZ _) _⟩;obtain⟨d,b5,rfl,al,G⟩:=hrel;have W:=aA G;have bi:=G.size
 skip
 by_cases p:d<I b
 .have l:=aU.o.below G;obtain rfl:=l.addr (by omega);have bk:=l.c0 d p;have bl:=l.c1 d p;have bm:=l.c2 d p;have bo:=l.c3 d p;have br:=l.c4 d p;have bs:=l.c5 d p;have bu:=l.c6 d p;have⟨y,M,b6,bQ,ad,bT,a6,a7,bV,L,a8,a9,ba⟩:=((bd b[d]<|dm p).below G).ex;have J:X (fP (s b[d].col) b[d]=aj->¬∀a (h:a<I b),fP (s b[a].col) b[a]=af):=λh bb=>by
   have:=bb d p;rw[h] at this;cases this
  have a0:X (fP (s b[d].col) b[d]=af->∀a (h:a<I b),a<d+1->fP (s b[a].col) b[a]=af):=λh a be b3=>by
   by_cases t:a=d;subst t;exact h;exact al a be (by omega)
  generalize b[d]=aQ at*;generalize s aQ.col=v at*;have⟨cf,g,f⟩:=aQ;dsimp only at ad bk bl bm bo br bs bu;subst ad;go_upto_region 4 with fail;have bv:=vE<|mi wr<|aq #[n9 y,ak g.null,z9 g.n,ay g.s,ak f.null,z9 f.n,ay f.s] 61;have⟨b7,bx,bz,bC,bF,bK,bM⟩:=bv;have i:aD wr (wr.alloc<|aq #[n9 y,ak g.null,z9 g.n,ay g.s,ak f.null,z9 f.n,ay f.s] 61):=(bN _ _).alloc (aZ _) _;have bW:=(bA i (p:=⟨O,y,Z⟩) a6).trans a7;have b0:=(bA i (p:=⟨M,D*3,Z⟩) L).trans a8;have b1:=(bA i (p:=⟨M,D*3+1,Z⟩) L).trans a9;have b2:=(bA i (p:=⟨M,D*3+2,Z⟩) L).trans ba;have Y:=aA<|W.o.trans<|i.mono bi;have B:U wr.heap<(wr.alloc<|aq #[n9 y,ak g.null,z9 g.n,ay g.s,ak f.null,z9 f.n,ay f.s] 61).heap.size:=aI;generalize wr.alloc (aq #[n9 y,ak g.null,z9 g.n,ay g.s,ak f.null,z9 f.n,ay f.s] 61)=n at*;generalize U wr.heap=e at*;have b4:(y:Int)<(m:Int):=aa;go_upto_region 5 with fail;have⟨E,P,Q⟩:=N7 n (ak v.null) (z9 v.n) (ay v.s) 59;have i:aD n (n.alloc<|aq (eC v) 59):=(bN _ _).alloc (aZ _) _;have b8:=(bA i (p:=⟨e,1,Z⟩) B).trans bx;have ca:=(bA i (p:=⟨e,2,Z⟩) B).trans bz;have cc:=(bA i (p:=⟨e,3,Z⟩) B).trans bC;have R:=(bA i (p:=⟨e,4,Z⟩) B).trans bF;have S:=(bA i (p:=⟨e,5,Z⟩) B).trans bK;have T:=(bA i (p:=⟨e,6,Z⟩) B).trans bM;have w:X (aD j<|n.alloc<|aq (eC v) 59):=Y.o.trans<|i.mono<|cA Y.o.size;have q:e<(n.alloc<|aq (eC v) 59).heap.size:=bS;have r:U n.heap<(n.alloc<|aq (eC v) 59).heap.size:=aI;generalize n.alloc (aq (eC v) 59)=bP at*;generalize U n.heap=o at*;have u:=λK=>Km v g K;have A:=λK=>Kl v f K;unfold aC.agg at u A;have k:fP v ⟨(y:Int),g,f⟩= !(v.null||l9 v g||l7 v f):=rfl;cases an:v.null
  .rw[an] at E u A k;cases am:l9 v g
   .rw[am] at u k;cases ae:l7 v f
    .rw[ae] at A k;have a1:=aA<|a0.o k;go_wp2_with (first|(go_at_call 114;refine(u _).mono ?_;rintro t z ⟨rfl,c⟩;have x:X (aD j z):=w.o.trans<|c.mono<|cA w.o.size;have ar:=(bA c (p:=⟨o,0,Z⟩) r).trans E;have aw:=(bA c (p:=⟨o,1,Z⟩) r).trans P;have az:=(bA c (p:=⟨o,2,Z⟩) r).trans Q;have aF:=(bA c (p:=⟨e,4,Z⟩) q).trans R;have aH:=(bA c (p:=⟨e,5,Z⟩) q).trans S;have aK:=(bA c (p:=⟨e,6,Z⟩) q).trans T)|(go_at_call 115;refine(A _).mono ?_;rintro t V ⟨rfl,N⟩;have H:X (aD j V):=x.o.trans<|N.mono<|cA x.o.size))
     go_roundw
     exact⟨d+1,by omega,by go_num,a1.o,H.o⟩;simp[bB];omega
    rw[ae] at A k;have C:=aA<|J.o k;go_wp2_with (first|(go_at_call 114;refine(u _).mono ?_;rintro t z ⟨rfl,c⟩;have x:X (aD j z):=w.o.trans<|c.mono<|cA w.o.size;have ar:=(bA c (p:=⟨o,0,Z⟩) r).trans E;have aw:=(bA c (p:=⟨o,1,Z⟩) r).trans P;have az:=(bA c (p:=⟨o,2,Z⟩) r).trans Q;have aF:=(bA c (p:=⟨e,4,Z⟩) q).trans R;have aH:=(bA c (p:=⟨e,5,Z⟩) q).trans S;have aK:=(bA c (p:=⟨e,6,Z⟩) q).trans T)|(go_at_call 115;refine(A _).mono ?_;rintro t V ⟨rfl,N⟩;have H:X (aD j V):=x.o.trans<|N.mono<|cA x.o.size));go_ret;exact⟨aj,rfl,by simp only[eN,false_iff];exact C.o,H.o⟩
   rw[am] at u k;have C:=aA<|J.o k;go_wp2_with (go_at_call 114;refine(u _).mono ?_;rintro t z ⟨rfl,c⟩;have x:X (aD j z):=w.o.trans<|c.mono<|cA w.o.size;have ar:=(bA c (p:=⟨o,0,Z⟩) r).trans E;have aw:=(bA c (p:=⟨o,1,Z⟩) r).trans P;have az:=(bA c (p:=⟨o,2,Z⟩) r).trans Q;have aF:=(bA c (p:=⟨e,4,Z⟩) q).trans R;have aH:=(bA c (p:=⟨e,5,Z⟩) q).trans S;have aK:=(bA c (p:=⟨e,6,Z⟩) q).trans T);go_ret;exact⟨aj,rfl,by simp only[eN,false_iff];exact C.o,x.o⟩
  rw[an] at E k;have C:=aA<|J.o k;go_wp2;go_ret;exact⟨aj,rfl,by simp only[eN,false_iff];exact C.o,w.o⟩
 have aR:X (∀a (h:a<I b),fP (s b[a].col) b[a]=af):=λa h=>al a h aa;go_wp2;go_ret;exact⟨af,rfl,by simp only[true_iff];exact aR.o,W.o⟩
def My{b:Int->aC}{c d e f:F}{cb bC bF:Nat}{sk:Bool}(a0:I an<=1000)(M:0<I an->O=K ⟨cb,bC,Z⟩)(P:0<I an->cb<U w.heap)(N:∀p,p<I an->bl w cb (bC+p) (z9<|aW an p 0))(Q:∀a∈an,mD w k m a n<|b a):
 bc 119 #[qv c d e (ah O (I an) bF) f sk,aG k m i,n9 n] w λH z=>aD w z/\∃v,H=aN v/\aT z (U w.heap) 59 3 v (I an) (bM<|an.map b):=by
 unfold qv;have⟨x,s,ad,u,ae⟩:=eW aE.mg;have E:=aA N;have D:X (aD w<|w.alloc<|aq #[c,d,e,ah O (I an) bF,f,ak sk] 115):=(bN _ _).alloc (aZ _) _;have a2:(w.alloc<|aq #[c,d,e,ah O (I an) bF,f,ak sk] 115).heap.size=U w.heap+1:=aI;go_enter aE.func119,Tryz.ntmps119;go_wp2_with (at_make;refine wpList_make_own _ Y _ _ 43 Y (U w.heap+1) 59 x _ 3 aE.underlying43 s ad u aM aM _ (I an) Y Y Y (jC ae) fW aI ?_;intro A W T;have r:=jy (bN (U w.heap+1)<|w.alloc<|aq #[c,d,e,ah O (I an) bF,f,ak sk] 115) T aI aI;have a1:bl A (U w.heap) 3 (ah O (I an) bF):=(bA r (p:=⟨U w.heap,3,Z⟩) aI).trans<|by unfold ap;rw[mi];rfl);have B:X (aD w A):=D.o.trans<|r.mono aa
 go_loopw [7,17] (λal o wr=>∃a:Nat,a<=I an/\o=n9 a/\al=aG (U w.heap+1) a (I an)/\aT wr (U w.heap+1) 59 3 (aG (U w.heap+1) a<|I an) a (bM<|(an.take a).map b)/\aD w wr) (λ_ o _=>I an-bO (bB o))
 exact⟨0,cH _,rfl,rfl,by simpa [bM] using W,B.o⟩;obtain⟨a,aU,rfl,rfl,l,g⟩:=hrel;have q:=aA g;have ab:=g.size;by_cases h:a<I an;obtain rfl:=M aa;have y:bl wr cb (bC+a) (z9<|aW an a 0):=(bA g (p:=⟨cb,bC+a,Z⟩)<|P aa).trans<|E.o a h;have S:aW an a 0=an[a]:=by rw[ep,dV h];rfl
 rw[S] at y;have⟨a4,L,a5,ao,J,ar,aw,az,aF,aH,aK,aQ,aR⟩:=((Q an[a]<|dm h).below g).ex;have G:X (bM ((an.take a).map b)++[ak (b an[a]).null,z9 (b an[a]).n,ay (b an[a]).s]=bM ((an.take<|a+1).map b)):=by
  show _=_;rw[gm h,gD,rZ,nH]
 generalize a3:b an[a]=j at*;rw[J] at y;go_wp2_with (at_builtin;refine rT _ Y _ _ 43 Y (U w.heap+1) 59 x 3 aE.underlying43 s u (U w.heap+1) a (I an) _ Y (l.alloc _) ⟨U wr.heap,0,Z⟩ 1 1 [ak j.null,z9 j.n,ay j.s] Y Y (by exact lU _) (lz j) aa ?_;intro am t V);have C:X (aD w am):=jy (q.o.alloc ab _) V bS (by intro L R;simp at R;omega);rw[G.o] at t;go_wp2
 go_roundw
 exact⟨a+1,aa,by go_num,rfl,t,C.o⟩;simp[bB];omega;obtain rfl:a=I an:=aa;rw[jq] at l;go_wp2;go_ret;exact⟨q.o,_,rfl,j5 l aa⟩
def aE.Vi:((aH ax).info? 4).map (λa=>(jH a,a.size,jm a))=K (K<|ak aj,1,1):=aR
def dy (d:Nat)(c:List Int):List Bool:=(fp d).map fun(a:Nat)=>c.any λb=>b==(a:Int)
def kH (a:List Bool):List F:=a.map ak
def CL:I (dy n qZ)=n:=by simp[dy]
def K8:gh (kH<|dy n qZ) m (ak af)=kH (dy n<|qZ++[(m:Int)]):=by
 apply List.ext_getElem?;intro c;simp only[kH,dy,List.getElem?_set,er,List.length_range,s5,List.any_append];by_cases b:m=c;subst b;by_cases a:m<n;simp[a];simp[a];rcases jc c n with a|a;have d:((m:Int)==(c:Int))=aj:=by simpa using λa=>b aa
 simp[b,a,d];simp[b,a]
def MA(h:w.heap[n]? =K (aq (cR S) Qd (0,0)))(a:S[j]? =K v):ap w ⟨n,j,Z⟩=K v/\cE w ⟨n,j,Z⟩=aj:=by
 constructor;unfold ap;simp only[h];simpa using a;unfold cE;simp only[h];simp
def MB(h:w.heap[n]? =K (aq (cR S) Qd (0,0)))(a:Nat)(v:F):(aY w ⟨n,a,Z⟩ v).heap[n]? =K (aq (cR<|gh S a v) Qd (0,0)):=by
 have:=ek w n a _ _ v h;rw[this];simp
def DQ(c:Nat)(an:List Int)(d:List bH)(n:Option aL)(m:Nat)(o p:F)(l:Option aL)(cb bC bF:Nat)(ro:Option aL)(rb bL bD:Nat)(sk:Bool)(b:ag)(bi:c<=1000)(aF:I an<=aV)(aH:I d<=aV)
 (ad:0<I an->l=K ⟨cb,bC,Z⟩) (am:0<I an->cb<U b.heap) (al:∀u,u<I an->ap b ⟨cb,bC+u,Z⟩=K (z9<|aW an u 0)) (i:dJ b ro rb bL d) (aK:∀a∈an,0<=a/\a<(c:Int)) (aQ:∀M∈d,0<=M.col/\M.col<(c:Int)):
 bc 76 #[qv (ah n c m) o p (ah l (I an) bF) (ah ro (I d) bD) sk] b λA N=>aD b N/\∃B,A=aN (aG B c c)/\U b.heap<=B/\N.heap[B]? =K (aq (cR<|kH<|dy c<|an++d.map bH.col) 4 (0,0)):=by
 unfold qv;have⟨a2,az,aU,a0,a1⟩:=eW aE.Vi;unfold aV at aF aH;have T:=aA i;have S:X (aD b<|b.alloc<|aq #[ah n c m,o,p,ah l (I an) bF,ah ro (I d) bD,ak sk] 115):=(bN _ _).alloc (aZ _) _;go_enter aE.func76,Tryz.ntmps76;go_wp2_with (at_make;refine wpList_make_full _ Y _ _ 160 Y (U b.heap+1) 4 a2 (ak aj) 1 aE.underlying160 az aU a0 aM aM _ _ c Y Y Y Y (by rw[a1];omega) fW aI ?_;intro w D aw;have r:=jy (bN (U b.heap+1)<|b.alloc<|aq #[ah n c m,o,p,ah l (I an) bF,ah ro (I d) bD,ak sk] 115) aw aI aI;have bj:ap w ⟨U b.heap,3,Z⟩=K (ah l (I an) bF):=(bA r (p:=⟨U b.heap,3,Z⟩) aI).trans<|by unfold ap;rw[mi];rfl);have Q:X (aD b w):=S.o.trans<|r.mono aa;have s:cq w (U b.heap) #[ah n c m,o,p,ah l (I an) bF,ah ro (I d) bD,ak sk] 115:=(cT r (U b.heap) aa).trans<|mi _ _;have y:X (w.heap[U b.heap+1]? =K (aq (cR<|kH<|dy c []) 4 (0,0))):=by
  have A:dY (m7 (ak aj).cells<|c*1)=kH (dy c []):=by
   show dY (m7 #[ak aj] (c*1))=_;rw[toList_madeCells_one];refine List.ext_getElem (by simp[kH,CL]) λu be bh=>?_;simp[kH,dy]
  rw[A] at D;have aR:(b.alloc<|aq #[ah n c m,o,p,ah l (I an) bF,ah ro (I d) bD,ak sk] 115).heap.size=U b.heap+1:=aI;rw[aR] at D;exact IU D
 have R:=aA s
 go_loopw [16] (λq wr=>∃a:Nat,a<=I an/\q=n9 a/\wr.heap[U b.heap+1]? =K (aq (cR<|kH<|dy c<|an.take a) 4 (0,0))/\cq wr (U b.heap) #[ah n c m,o,p,ah l (I an) bF,ah ro (I d) bD,ak sk] 115/\aD b wr) (λq _=>I an-bO (bB q))
 exact⟨0,cH _,rfl,y.o,R.o,Q.o⟩;obtain⟨a,aC,rfl,k,s,j⟩:=hrel;have P:=aA j;have L:=j.size;by_cases h:a<I an
 .obtain rfl:=ad aa;have ae:=am aa;have G:bl wr cb (bC+a) (z9<|aW an a 0):=(bA j (p:=⟨cb,bC+a,Z⟩) ae).trans<|al a h;have ao:aW an a 0=an[a]:=by rw[ep,dV h];rfl
  rw[ao] at G;have⟨v,E⟩:=aK an[a]<|dm h;have⟨e,t⟩:=uR v;rw[t] at G E;have C:e<c:=aa;have⟨W,ab⟩:=MA k (j:=e) (v:=ak<|(an.take a).any λa=>a==(e:Int)) (by simp[kH,dy,C]);have z:X ((wr.setCell ⟨U b.heap+1,e,Z⟩<|ak af).heap[U b.heap+1]? =K (aq (cR<|kH<|dy c<|an.take<|a+1) 4 (0,0))):=by
   show _=_;rw[MB k,K8,gm h,t]
  have V:X (cq (wr.setCell ⟨U b.heap+1,e,Z⟩<|ak af) (U b.heap) #[ah n c m,o,p,ah (K ⟨cb,bC,Z⟩) (I an) bF,ah ro (I d) bD,ak sk] 115):=by
   show _=_;rw[ei _ _ _ _<|by simp];exact s
  have x:X (aD b<|wr.setCell ⟨U b.heap+1,e,Z⟩<|ak af):=j.setCell (by show U b.heap<=U b.heap+1;omega) _;go_wp2
  go_roundw
  exact⟨a+1,by omega,by go_num,z.o,V.o,x.o⟩;simp[bB];omega
 obtain rfl:a=I an:=aa;rw[jq] at k;have bk:ap wr ⟨U b.heap,4,Z⟩=K (ah ro (I d) bD):=by unfold ap;rw[s];rfl
 have y:=aA k;go_wp2_with fail
 go_loopw [27] (λq O=>∃a:Nat,a<=I d/\q=n9 a/\O.heap[U b.heap+1]? =K (aq (cR<|kH<|dy c<|an++(d.take a).map bH.col) 4 (0,0))/\aD b O) (λq _=>I d-bO (bB q))
 exact⟨0,cH _,rfl,by simpa using y.o,P.o⟩;obtain⟨a,aC,rfl,k,j⟩:=hrel;have L:=j.size;by_cases h:a<I d
 .have i:=T.o.below j;obtain rfl:=i.addr (by omega);have a3:=i.c0 a h;have a4:=i.c1 a h;have a5:=i.c2 a h;have a6:=i.c3 a h;have a7:=i.c4 a h;have a8:=i.c5 a h;have a9:=i.c6 a h;have⟨v,E⟩:=aQ d[a]<|dm h;have H:X ((d.take<|a+1).map bH.col=(d.take a).map bH.col++[d[a].col]):=by
   show _=_;rw[gm h,gD,rZ]
  generalize d[a]=ba at*;have⟨bm,g,f⟩:=ba;dsimp only at a3 a4 a5 a6 a7 a8 a9 v E H;have⟨e,t⟩:=uR v;subst t;have C:e<c:=by omega
  have ar:=bE k;have r:aD wr (wr.alloc<|aq #[n9 e,ak g.null,z9 g.n,ay g.s,ak f.null,z9 f.n,ay f.s] 61):=(bN _ _).alloc (aZ _) _;have J:=(cT r (U b.heap+1) ar).trans k;have⟨W,ab⟩:=MA J (j:=e) (v:=ak<|(an++(d.take a).map bH.col).any λa=>a==(e:Int)) (by simp[kH,dy,C]);have z:X (((wr.alloc<|aq #[n9 e,ak g.null,z9 g.n,ay g.s,ak f.null,z9 f.n,ay f.s] 61).setCell ⟨U b.heap+1,e,Z⟩<|ak af).heap[U b.heap+1]? =K (aq (cR<|kH<|dy c<|an++(d.take<|a+1).map bH.col) 4 (0,0))):=by
   show _=_;rw[MB J,K8,H.o,ij]
  have x:X (aD b<|(wr.alloc<|aq #[n9 e,ak g.null,z9 g.n,ay g.s,ak f.null,z9 f.n,ay f.s] 61).setCell ⟨U b.heap+1,e,Z⟩<|ak af):=(j.trans<|r.mono L).setCell (by show U b.heap<=U b.heap+1;omega) _;have G:ap (wr.alloc<|aq #[n9 e,ak g.null,z9 g.n,ay g.s,ak f.null,z9 f.n,ay f.s] 61) ⟨U wr.heap,0,Z⟩=K (n9 e):=(vE<|mi wr _).1;go_upto_region 10 with fail;generalize wr.alloc (aq #[n9 e,ak g.null,z9 g.n,ay g.s,ak f.null,z9 f.n,ay f.s] 61)=bb at*;generalize U wr.heap=bd at*;go_wp2
  go_roundw
  exact⟨a+1,by omega,by go_num,z.o,x.o⟩;simp[bB];omega
 obtain rfl:a=I d:=aa;rw[jq] at k;go_wp2;go_ret;exact⟨j,U b.heap+1,rfl,aa,k⟩
structure tU(w:ag)(cb n:Nat)(c:Int)(b:ic):Prop where
 ex:∃j:Nat,c=(j:Int)/\j<n/\cb<U w.heap/\ap w ⟨cb,j*8+1,Z⟩=K (ak b.there)/\ap w ⟨cb,j*8+1+1,Z⟩=K (ak b.least.null)/\ap w ⟨cb,j*8+1+2,Z⟩=K (z9 b.least.n)/\ap w ⟨cb,j*8+1+3,Z⟩=K (ay b.least.s)/\ap w ⟨cb,j*8+1+4,Z⟩=K (ak b.most.null)/\ap w ⟨cb,j*8+1+5,Z⟩=K (z9 b.most.n)/\ap w ⟨cb,j*8+1+6,Z⟩=K (ay b.most.s)
def tU.below{cb e:Nat}{c:ic}(h:tU w cb e M c)(d:aD w u):tU u cb e M c:=by
 obtain⟨q,f,i,j,k,l,m,n,o,p,g⟩:=h.ex;have r:=d.size;have a:∀b,ap u ⟨cb,b,Z⟩=ap w ⟨cb,b,Z⟩:=λb=>bA d (p:=⟨cb,b,Z⟩) j;exact⟨q,f,i,by omega,aB (a _) k,aB (a _) l,aB (a _) m,aB (a _) n,aB (a _) o,aB (a _) p,aB (a _) g⟩
def jN (a:ic)(b:bH):Bool:=a.there&&(l9 a.most b.low||l7 a.least b.high)
def Fs(a:List bH)(bT:Int->ic)(l:Int)(cb j bF:Nat)(G H J L:F)(ro:Option aL)(rb bL bD:Nat)(sk:Bool)(d:ag)(bz:I a<=aV)(o:dJ d ro rb bL a)(bv:∀a0∈a,tU d cb j a0.col<|bT a0.col):
 bc 77 #[qv G H J L (ah ro (I a) bD) sk,bZ #[z9 l,aG cb j bF]] d λu p=>∃az,u=aN (ak az)/\(az=aj↔∀b (h:b<I a),jN (bT a[b].col) a[b]=aj)/\aD d p:=by
 unfold qv;unfold aV at bz;have bd:=aA o;have a9:X (aD d<|(d.alloc<|aq #[G,H,J,L,ah ro (I a) bD,ak sk] 115).alloc<|aq #[z9 l,aG cb j bF] 139):=((bN _ _).alloc (aZ _) _).alloc aI _;have ba:X (((d.alloc<|aq #[G,H,J,L,ah ro (I a) bD,ak sk] 115).alloc<|aq #[z9 l,aG cb j bF] 139).heap[U d.heap+1]? =K (aq #[z9 l,aG cb j bF] 139 (0,0))):=by
  have:=mi (d.alloc<|aq #[G,H,J,L,ah ro (I a) bD,ak sk] 115)<|aq #[z9 l,aG cb j bF] 139 (0,0);have bC:(d.alloc<|aq #[G,H,J,L,ah ro (I a) bD,ak sk] 115).heap.size=U d.heap+1:=aI;rw[bC] at this;exact this
 go_enter aE.func77,Tryz.ntmps77;go_wp2_with fail
 go_loopw [11] (λb wr=>∃e:Nat,e<=I a/\b=z9 e/\(∀b (h:b<I a),b<e->jN (bT a[b].col) a[b]=aj)/\cq wr (U d.heap+1) #[z9 l,aG cb j bF] 139/\aD d wr) (λb _=>I a-bO (bB b))
 exact⟨0,cH _,rfl,λcN _ h=>aa,ba.o,a9.o⟩;obtain⟨e,cr,rfl,aK,aR,O⟩:=hrel;have am:=aA O;have bK:=O.size;have bs:=bE aR
 skip
 by_cases r:e<I a
 .have o:=bd.o.below O;obtain rfl:=o.addr (by omega);have bM:=o.c0 e r;have bP:=o.c1 e r;have bQ:=o.c2 e r;have bV:=o.c3 e r;have bW:=o.c4 e r;have b0:=o.c5 e r;have b1:=o.c6 e r;have⟨w,aF,cc,bh,bi,bj,bk,bm,bo,br,be⟩:=((bv a[e]<|dm r).below O).ex;have ar:X (jN (bT a[e].col) a[e]=af->¬∀b (h:b<I a),jN (bT a[b].col) a[b]=aj):=λh bu=>by
   have:=bu e r;rw[h] at this;cases this
  have aw:X (jN (bT a[e].col) a[e]=aj->∀b (h:b<I a),b<e+1->jN (bT a[b].col) a[b]=aj):=λh b bx co=>by
   by_cases u:b=e;subst u;exact h;exact aK b bx (by omega)
  generalize a[e]=a8 at*;generalize bT a8.col=v at*;have⟨cO,g,f⟩:=a8;dsimp only at aF bM bP bQ bV bW b0 b1;subst aF;go_upto_region 4 with fail;have⟨cs,b2,b3,b4,b5,b6,b7⟩:=vE<|mi wr<|aq #[n9 w,ak g.null,z9 g.n,ay g.s,ak f.null,z9 f.n,ay f.s] 61;have k:aD wr (wr.alloc<|aq #[n9 w,ak g.null,z9 g.n,ay g.s,ak f.null,z9 f.n,ay f.s] 61):=(bN _ _).alloc (aZ _) _;have A:∀P v,bl wr cb P v->ap (wr.alloc<|aq #[n9 w,ak g.null,z9 g.n,ay g.s,ak f.null,z9 f.n,ay f.s] 61) ⟨cb,P,Z⟩=K v:=λP v h=>(bA k (p:=⟨cb,P,Z⟩) bh).trans h;have cf:=A _ _ bi;have ch:=A _ _ bj;have ci:=A _ _ bk;have ck:=A _ _ bm;have cl:=A _ _ bo;have cn:=A _ _ br;have cd:=A _ _ be;have V:=(cT k _ bs).trans aR;have ca:ap (wr.alloc<|aq #[n9 w,ak g.null,z9 g.n,ay g.s,ak f.null,z9 f.n,ay f.s] 61) ⟨U d.heap+1,1,Z⟩=K (aG cb j bF):=by unfold ap;rw[V];rfl
  have ao:=aA<|am.o.trans<|k.mono bK;have D:U wr.heap<(wr.alloc<|aq #[n9 w,ak g.null,z9 g.n,ay g.s,ak f.null,z9 f.n,ay f.s] 61).heap.size:=aI;generalize wr.alloc (aq #[n9 w,ak g.null,z9 g.n,ay g.s,ak f.null,z9 f.n,ay f.s] 61)=m at*;generalize U wr.heap=i at*;have cp:(w:Int)<(j:Int):=aa;go_upto_region 5 with fail;have⟨a1,W,ab,ad,cu,cv,cx⟩:=vE<|mi m<|aq #[ak v.there,ak v.least.null,z9 v.least.n,ay v.least.s,ak v.most.null,z9 v.most.n,ay v.most.s] 141;have k:aD m (m.alloc<|aq #[ak v.there,ak v.least.null,z9 v.least.n,ay v.least.s,ak v.most.null,z9 v.most.n,ay v.most.s] 141):=(bN _ _).alloc (aZ _) _;have cy:=(bA k (p:=⟨i,1,Z⟩) D).trans b2;have cK:=(bA k (p:=⟨i,2,Z⟩) D).trans b3;have cM:=(bA k (p:=⟨i,3,Z⟩) D).trans b4;have Y:=(bA k (p:=⟨i,4,Z⟩) D).trans b5;have ae:=(bA k (p:=⟨i,5,Z⟩) D).trans b6;have al:=(bA k (p:=⟨i,6,Z⟩) D).trans b7;have y:X (aD d<|m.alloc<|aq #[ak v.there,ak v.least.null,z9 v.least.n,ay v.least.s,ak v.most.null,z9 v.most.n,ay v.most.s] 141):=ao.o.trans<|k.mono<|cA ao.o.size;have x:X (cq (m.alloc<|aq #[ak v.there,ak v.least.null,z9 v.least.n,ay v.least.s,ak v.most.null,z9 v.most.n,ay v.most.s] 141) (U d.heap+1) #[z9 l,aG cb j bF] 139):=(cT k _<|bE V).trans V;have s:i<(m.alloc<|aq #[ak v.there,ak v.least.null,z9 v.least.n,ay v.least.s,ak v.most.null,z9 v.most.n,ay v.most.s] 141).heap.size:=bS;have t:U m.heap<(m.alloc<|aq #[ak v.there,ak v.least.null,z9 v.least.n,ay v.least.s,ak v.most.null,z9 v.most.n,ay v.most.s] 141).heap.size:=aI;generalize m.alloc (aq #[ak v.there,ak v.least.null,z9 v.least.n,ay v.least.s,ak v.most.null,z9 v.most.n,ay v.most.s] 141)=b8 at*;generalize U m.heap=q at*;have B:=λT=>Km v.most g T;have E:=λT=>Kl v.least f T;unfold aC.agg at B E;have n:jN v ⟨(w:Int),g,f⟩=(v.there&&(l9 v.most g||l7 v.least f)):=rfl;cases aU:v.there
  .rw[aU] at a1 n;have S:=aA<|aw.o n;go_wp2
   go_roundw
   exact⟨e+1,by omega,by go_num,S.o,x.o,y.o⟩;simp[bB];omega
  rw[aU] at a1 n;cases aQ:l9 v.most g
  .rw[aQ] at B n;cases aH:l7 v.least f
   .rw[aH] at E n;have S:=aA<|aw.o n;go_wp2_with (first|(go_at_call 114;refine(B _).mono ?_;rintro u p ⟨rfl,c⟩;have z:X (aD d p):=y.o.trans<|c.mono<|cA y.o.size;have a2:=(bA c (p:=⟨q,1,Z⟩) t).trans W;have a3:=(bA c (p:=⟨q,2,Z⟩) t).trans ab;have a4:=(bA c (p:=⟨q,3,Z⟩) t).trans ad;have a5:=(bA c (p:=⟨i,4,Z⟩) s).trans Y;have a6:=(bA c (p:=⟨i,5,Z⟩) s).trans ae;have a7:=(bA c (p:=⟨i,6,Z⟩) s).trans al;have C:X (cq p (U d.heap+1) #[z9 l,aG cb j bF] 139):=(cT c _<|bE x.o).trans x.o)|(go_at_call 115;refine(E _).mono ?_;rintro u N ⟨rfl,M⟩;have Q:X (aD d N):=z.o.trans<|M.mono<|cA z.o.size;have an:X (cq N (U d.heap+1) #[z9 l,aG cb j bF] 139):=(cT M _<|bE C.o).trans C.o))
    go_roundw
    exact⟨e+1,by omega,by go_num,S.o,an.o,Q.o⟩;simp[bB];omega
   rw[aH] at E n;have R:=aA<|ar.o n;go_wp2_with (first|(go_at_call 114;refine(B _).mono ?_;rintro u p ⟨rfl,c⟩;have z:X (aD d p):=y.o.trans<|c.mono<|cA y.o.size;have a2:=(bA c (p:=⟨q,1,Z⟩) t).trans W;have a3:=(bA c (p:=⟨q,2,Z⟩) t).trans ab;have a4:=(bA c (p:=⟨q,3,Z⟩) t).trans ad;have a5:=(bA c (p:=⟨i,4,Z⟩) s).trans Y;have a6:=(bA c (p:=⟨i,5,Z⟩) s).trans ae;have a7:=(bA c (p:=⟨i,6,Z⟩) s).trans al;have C:X (cq p (U d.heap+1) #[z9 l,aG cb j bF] 139):=(cT c _<|bE x.o).trans x.o)|(go_at_call 115;refine(E _).mono ?_;rintro u N ⟨rfl,M⟩;have Q:X (aD d N):=z.o.trans<|M.mono<|cA z.o.size;have an:X (cq N (U d.heap+1) #[z9 l,aG cb j bF] 139):=(cT M _<|bE C.o).trans C.o));go_ret;exact⟨af,rfl,by simp only[Bool.true_eq_false,false_iff];exact R.o,Q.o⟩
  rw[aQ] at B n;have R:=aA<|ar.o n;go_wp2_with (go_at_call 114;refine(B _).mono ?_;rintro u p ⟨rfl,c⟩;have z:X (aD d p):=y.o.trans<|c.mono<|cA y.o.size;have a2:=(bA c (p:=⟨q,1,Z⟩) t).trans W;have a3:=(bA c (p:=⟨q,2,Z⟩) t).trans ab;have a4:=(bA c (p:=⟨q,3,Z⟩) t).trans ad;have a5:=(bA c (p:=⟨i,4,Z⟩) s).trans Y;have a6:=(bA c (p:=⟨i,5,Z⟩) s).trans ae;have a7:=(bA c (p:=⟨i,6,Z⟩) s).trans al;have C:X (cq p (U d.heap+1) #[z9 l,aG cb j bF] 139):=(cT c _<|bE x.o).trans x.o);go_ret;exact⟨af,rfl,by simp only[Bool.true_eq_false,false_iff];exact R.o,z.o⟩
 have bb:X (∀b (h:b<I a),jN (bT a[b].col) a[b]=aj):=λb h=>aK b h aa;go_wp2;go_ret;exact⟨aj,rfl,by simp only[true_iff];exact bb.o,am.o⟩
def fR (b:Nat)(a:Int):Bool:=decide (0<=a)&&decide (a<(b:Int))
def o7{a b c d e f:F}(g:w.heap[n]? =K (aq #[a,b,c,d,e,f] Qd (0,0))):ap w ⟨n,0,Z⟩=K a/\ap w ⟨n,1,Z⟩=K b/\ap w ⟨n,2,Z⟩=K c/\ap w ⟨n,3,Z⟩=K d/\ap w ⟨n,4,Z⟩=K e/\ap w ⟨n,5,Z⟩=K f:=by
 unfold ap;simp[g]
def UZ{c:List bH}{cb bC bF:Nat}{ro:Option aL}{rb bL bD:Nat}{sk:Bool}(aK:I an<=aV)(aQ:I c<=aV)
 (az:0<I an->P=K ⟨cb,bC,Z⟩) (aG:0<I an->cb<U w.heap) (aF:∀Q,Q<I an->bl w cb (bC+Q) (z9<|aW an Q 0)) (f:dJ w ro rb bL c):
 bc 68 #[qv (ah O n m) v x (ah P (I an) bF) (ah ro (I c) bD) sk] w λg r=>∃S,g=aN (ak S)/\(S=af↔(∀a (h:a<I an),fR n an[a]=af)/\∀a (h:a<I c),fR n c[a].col=af)/\aD w r:=by
 unfold qv;unfold aV at aK aQ;have z:=λb ar=>UY O n m v x (ah P (I an) bF) (ah ro (I c) bD) sk b ar;unfold qv at z;have ao:=aA f;have ab:X (aD w<|w.alloc<|aq #[ah O n m,v,x,ah P (I an) bF,ah ro (I c) bD,ak sk] 115):=(bN _ _).alloc (aZ _) _;have s:X (cq (w.alloc<|aq #[ah O n m,v,x,ah P (I an) bF,ah ro (I c) bD,ak sk] 115) (U w.heap) #[ah O n m,v,x,ah P (I an) bF,ah ro (I c) bD,ak sk] 115):=mi _ _;go_enter aE.func68,Tryz.ntmps68;go_wp2_with fail
 go_loopw [10] (λa wr=>∃b:Nat,b<=I an/\a=n9 b/\(∀a (h:a<I an),a<b->fR n an[a]=af)/\cq wr (U w.heap) #[ah O n m,v,x,ah P (I an) bF,ah ro (I c) bD,ak sk] 115/\aD w wr) (λa _=>I an-bO (bB a))
 exact⟨0,cH _,rfl,λa5 _ h=>aa,s.o,ab.o⟩;obtain⟨b,aI,rfl,u,t,o⟩:=hrel;have A:=aA o;have s:=aA t;have R:=aA u;have y:=o.size;have⟨a6,a7,a8,a9,ba,bb⟩:=o7 t;by_cases M:b<I an;obtain rfl:=az aa;have aC:=aG (by omega);have W:bl wr cb (bC+b) (z9<|aW an b 0):=(bA o (p:=⟨cb,bC+b,Z⟩) aC).trans<|aF b M;have aH:aW an b 0=an[b]:=by rw[ep,dV M];rfl
 rw[aH] at W;have C:X (fR n an[b]=aj->¬((∀a (h:a<I an),fR n an[a]=af)/\∀a (h:a<I c),fR n c[a].col=af)):=λh J=>by
  have:=J.1 b M;rw[h] at this;cases this
 have E:X (fR n an[b]=af->∀a (h:a<I an),a<b+1->fR n an[a]=af):=λh a L aw=>by
  by_cases g:a=b;subst g;exact h;exact R.o a L aa
 generalize an[b]=d at*;have e:=z d;have N:fR n d=(decide (0<=d)&&decide (d<(n:Int))):=rfl;rw[<-N] at e;cases i:fR n d
 .rw[i] at e;have D:=aA<|C.o i;go_wp2_with (go_at_call 106;refine(e _).mono ?_;rintro g r ⟨rfl,j⟩;have q:=aA<|A.o.trans<|j.mono y);go_ret;exact⟨aj,rfl,by simp only[eN,false_iff];exact D.o,q.o⟩
 rw[i] at e;have G:=aA<|E.o i;go_wp2_with (go_at_call 106;refine(e _).mono ?_;rintro g r ⟨rfl,j⟩;have q:=aA<|A.o.trans<|j.mono y;have ad:X (cq r (U w.heap) #[ah O n m,v,x,ah (K ⟨cb,bC,Z⟩) (I an) bF,ah ro (I c) bD,ak sk] 115):=(cT j _<|bE s.o).trans s.o)
 go_roundw
 exact⟨b+1,aa,by go_num,G.o,ad.o,q.o⟩;simp[bB];omega;have al:X (∀a (h:a<I an),fR n an[a]=af):=λa h=>R.o a h aa;go_wp2_with fail
 go_loopw [22] (λa Y=>∃b:Nat,b<=I c/\a=n9 b/\(∀a (h:a<I c),a<b->fR n c[a].col=af)/\cq Y (U w.heap) #[ah O n m,v,x,ah P (I an) bF,ah ro (I c) bD,ak sk] 115/\aD w Y) (λa _=>I c-bO (bB a))
 exact⟨0,cH _,rfl,λa5 _ h=>aa,s.o,A.o⟩;obtain⟨b,aI,rfl,u,t,o⟩:=hrel;have y:=o.size
 skip
 by_cases p:b<I c
 .have f:=ao.o.below o;obtain rfl:=f.addr (by omega);have aR:=f.c0 b p;have aU:=f.c1 b p;have a0:=f.c2 b p;have a1:=f.c3 b p;have a2:=f.c4 b p;have a3:=f.c5 b p;have a4:=f.c6 b p;have C:X (fR n c[b].col=aj->¬((∀a (h:a<I an),fR n an[a]=af)/\∀a (h:a<I c),fR n c[a].col=af)):=λh J=>by
   have:=J.2 b p;rw[h] at this;cases this
  have E:X (fR n c[b].col=af->∀a (h:a<I c),a<b+1->fR n c[a].col=af):=λh a L aw=>by
   by_cases g:a=b;subst g;exact h;exact u a L (by omega)
  generalize c[b]=bd at*;have⟨d,l,k⟩:=bd;dsimp only at aR aU a0 a1 a2 a3 a4;go_upto_region 10 with fail;have⟨W,bi,bj,bk,bm,bo,br⟩:=vE<|mi wr<|aq #[z9 d,ak l.null,z9 l.n,ay l.s,ak k.null,z9 k.n,ay k.s] 61;have T:aD wr (wr.alloc<|aq #[z9 d,ak l.null,z9 l.n,ay l.s,ak k.null,z9 k.n,ay k.s] 61):=(bN _ _).alloc (aZ _) _;have H:=(cT T _<|bE t).trans t;have⟨a6,a7,a8,a9,ba,bb⟩:=o7 H;have B:=aA<|o.trans<|T.mono y;generalize wr.alloc (aq #[z9 d,ak l.null,z9 l.n,ay l.s,ak k.null,z9 k.n,ay k.s] 61)=be at*;generalize U wr.heap=bh at*;have e:=z d;have N:fR n d=(decide (0<=d)&&decide (d<(n:Int))):=rfl;rw[<-N] at e;have V:=B.o.size;cases i:fR n d
  .rw[i] at e;have D:=aA<|C.o i;go_wp2_with (go_at_call 106;refine(e _).mono ?_;rintro g r ⟨rfl,j⟩;have q:=aA<|B.o.trans<|j.mono V);go_ret;exact⟨aj,rfl,by simp only[eN,false_iff];exact D.o,q.o⟩
  rw[i] at e;have G:=aA<|E.o i;go_wp2_with (go_at_call 106;refine(e _).mono ?_;rintro g r ⟨rfl,j⟩;have q:=aA<|B.o.trans<|j.mono V;have ae:X (cq r (U w.heap) #[ah O n m,v,x,ah P (I an) bF,ah (K ⟨rb,bL,Z⟩) (I c) bD,ak sk] 115):=(cT j _<|bE H).trans H)
  go_roundw
  exact⟨b+1,by omega,by go_num,G.o,ae.o,q.o⟩;simp[bB];omega
 have am:X ((∀a (h:a<I an),fR n an[a]=af)/\∀a (h:a<I c),fR n c[a].col=af):=⟨al.o,λa h=>u a h aa⟩;go_wp2;go_ret;exact⟨af,rfl,by simp only[true_iff];exact am.o,o⟩
structure y8(w:ag)(kb n:Nat)(c k:Int):Prop where
 ex:∃j:Nat,c=(j:Int)/\j<n/\kb<U w.heap/\ap w ⟨kb,j*2+1,Z⟩=K (z9 k)/\(k=1\/k=2\/k=3)
def y8.below(h:y8 w n m M qB)(a:aD w u):y8 u n m M qB:=by
 obtain⟨b,c,d,e,f,g⟩:=h.ex;have i:=a.size;exact⟨b,c,d,by omega,aB (bA a (p:=⟨n,b*2+1,Z⟩) e) f,g⟩
def oB (a:Int)(b:bH):Bool:=gR b.low a&&gR b.high a
def U3{a:List bH}(j:Int->Int){ro:Option aL}{rb bL bD:Nat}{sk:Bool}(a1:I a<=aV)(a2:n<=aV)(g:dJ w ro rb bL a)(a0:∀an∈a,y8 w m n an.col<|j an.col):
 bc 69 #[qv (aG m n k) v x y (ah ro (I a) bD) sk] w λl A=>∃S,l=aN (ak S)/\(S=af↔∀b (h:b<I a),oB (j a[b].col) a[b]=af)/\aD w A:=by
 unfold qv;unfold aV at a1 a2;have aC:=aA g;have ar:X (aD w<|w.alloc<|aq #[aG m n k,v,x,y,ah ro (I a) bD,ak sk] 115):=(bN _ _).alloc (aZ _) _;have aw:X (cq (w.alloc<|aq #[aG m n k,v,x,y,ah ro (I a) bD,ak sk] 115) (U w.heap) #[aG m n k,v,x,y,ah ro (I a) bD,ak sk] 115):=mi _ _;go_enter aE.func69,Tryz.ntmps69;go_wp2_with fail
 go_loopw [9] (λb wr=>∃c:Nat,c<=I a/\b=n9 c/\(∀b (h:b<I a),b<c->oB (j a[b].col) a[b]=af)/\cq wr (U w.heap) #[aG m n k,v,x,y,ah ro (I a) bD,ak sk] 115/\aD w wr) (λb _=>I a-bO (bB b))
 exact⟨0,cH _,rfl,λbv _ h=>aa,aw.o,ar.o⟩;obtain⟨c,bm,rfl,W,Y,H⟩:=hrel;have P:=aA H;have a3:=H.size
 skip
 by_cases i:c<I a
 .have g:=aC.o.below H;obtain rfl:=g.addr (by omega);have a4:=g.c0 c i;have a5:=g.c1 c i;have a6:=g.c2 c i;have a7:=g.c3 c i;have a8:=g.c4 c i;have a9:=g.c5 c i;have ba:=g.c6 c i;have⟨s,T,bi,aK,aQ,V⟩:=((a0 a[c]<|dm i).below H).ex;have R:X (oB (j a[c].col) a[c]=aj->¬∀b (h:b<I a),oB (j a[b].col) a[b]=af):=λh aR=>by
   have:=aR c i;rw[h] at this;cases this
  have aF:X (oB (j a[c].col) a[c]=af->∀b (h:b<I a),b<c+1->oB (j a[b].col) a[b]=af):=λh b aU bk=>by
   by_cases l:b=c;subst l;exact h;exact W b aU (by omega)
  generalize a[c]=ao at*;generalize j ao.col=t at*;have⟨bP,f,e⟩:=ao;dsimp only at T a4 a5 a6 a7 a8 a9 ba;subst T;go_upto_region 4 with fail;have⟨bo,br,bs,bu,ae,al,am⟩:=vE<|mi wr<|aq #[n9 s,ak f.null,z9 f.n,ay f.s,ak e.null,z9 e.n,ay e.s] 61;have N:aD wr (wr.alloc<|aq #[n9 s,ak f.null,z9 f.n,ay f.s,ak e.null,z9 e.n,ay e.s] 61):=(bN _ _).alloc (aZ _) _;have bj:=(bA N (p:=⟨m,s*2+1,Z⟩) aK).trans aQ;have C:=(cT N _<|bE Y).trans Y;have⟨bx,bz,bC,bF,bK,bM⟩:=o7 C;have G:=aA<|P.o.trans<|N.mono a3;have z:U wr.heap<(wr.alloc<|aq #[n9 s,ak f.null,z9 f.n,ay f.s,ak e.null,z9 e.n,ay e.s] 61).heap.size:=aI;generalize wr.alloc (aq #[n9 s,ak f.null,z9 f.n,ay f.s,ak e.null,z9 e.n,ay e.s] 61)=bh at*;generalize U wr.heap=u at*;have bl:(s:Int)<(n:Int):=by omega
  have o:=λM=>K3 f t M V;have E:=λM=>K3 e t M V;have r:oB t ⟨(s:Int),f,e⟩=(gR f t&&gR e t):=rfl;have O:=G.o.size;cases ab:gR f t
  .rw[ab] at o r;have L:=aA<|R.o r;go_wp2_with (go_at_call 82;refine(o _).mono ?_;rintro l A ⟨rfl,d⟩;have p:=aA<|G.o.trans<|d.mono O;clear d);go_ret;exact⟨aj,rfl,by simp only[eN,false_iff];exact L.o,p.o⟩
  .rw[ab] at o r;cases ad:gR e t
   .rw[ad] at E r;have L:=aA<|R.o r;go_wp2_with (first|(go_at_call 82;refine(o _).mono ?_;rintro l A ⟨rfl,d⟩;have p:=aA<|G.o.trans<|d.mono O;have bb:=(bA d (p:=⟨u,4,Z⟩) z).trans ae;have bd:=(bA d (p:=⟨u,5,Z⟩) z).trans al;have be:=(bA d (p:=⟨u,6,Z⟩) z).trans am;have B:X (cq A (U w.heap) #[aG m n k,v,x,y,ah (K ⟨rb,bL,Z⟩) (I a) bD,ak sk] 115):=(cT d _<|bE C).trans C;clear d o)|(go_at_call 82;refine(E _).mono ?_;rintro l D ⟨rfl,q⟩;have J:X (aD w D):=p.o.trans<|q.mono (by have:=p.o.size;omega);have Q:X (cq D (U w.heap) #[aG m n k,v,x,y,ah (K ⟨rb,bL,Z⟩) (I a) bD,ak sk] 115):=(cT q _<|bE B.o).trans B.o;clear q));go_ret;exact⟨aj,rfl,by simp only[eN,false_iff];exact L.o,J.o⟩
   .rw[ad] at E r;have aH:=aA<|aF.o r;go_wp2_with (first|(go_at_call 82;refine(o _).mono ?_;rintro l A ⟨rfl,d⟩;have p:=aA<|G.o.trans<|d.mono O;have bb:=(bA d (p:=⟨u,4,Z⟩) z).trans ae;have bd:=(bA d (p:=⟨u,5,Z⟩) z).trans al;have be:=(bA d (p:=⟨u,6,Z⟩) z).trans am;have B:X (cq A (U w.heap) #[aG m n k,v,x,y,ah (K ⟨rb,bL,Z⟩) (I a) bD,ak sk] 115):=(cT d _<|bE C).trans C;clear d o)|(go_at_call 82;refine(E _).mono ?_;rintro l D ⟨rfl,q⟩;have J:X (aD w D):=p.o.trans<|q.mono (by have:=p.o.size;omega);have Q:X (cq D (U w.heap) #[aG m n k,v,x,y,ah (K ⟨rb,bL,Z⟩) (I a) bD,ak sk] 115):=(cT q _<|bE B.o).trans B.o;clear q))
    go_roundw
    case rel=>exact⟨c+1,by omega,by go_num,aH.o,Q.o,J.o⟩
    case measure=>simp[bB];omega
 have az:X (∀b (h:b<I a),oB (j a[b].col) a[b]=af):=λb h=>W b h aa;go_wp2;go_ret;exact⟨af,rfl,by simp only[true_iff];exact az.o,P.o⟩
def aE.Fq:((aH ax).info? 61).map (λa=>(jH a,a.size,jm a))=K (K<|bZ #[z9 0,ak aj,z9 0,ay ⟨#[]⟩,ak aj,z9 0,ay ⟨#[]⟩],7,72):=aR
def aE.Vl:((aH ax).info? 3).map (λa=>(jH a,a.size,jm a))=K (K<|z9 0,1,8):=aR
def Sc(b:List Int)(p:Option aL)(f l q:Nat)(a:ag)(V:I b<=1000)(y:0<I b->p=K ⟨f,l,Z⟩)(z:∀e c,(cO b)[e]? =K c->ap a ⟨f,l+e,Z⟩=K c):
 bc 70 #[ah p (I b) q] a λx i=>aD a i/\((I b=0/\∃J,x=aN (ah J 0 0))\/(0<I b/\∃v,x=aN v/\aT i (U a.heap) 3 1 v (I b) (cO b))):=by
 have⟨D,A,Q,C,R⟩:=eW aE.Vl;have n:aD a (a.alloc<|aq #[] 3):=(bN _ _).alloc (aZ _) _;have B:aT (a.alloc<|aq #[] 3) (U a.heap) 3 1 (aG (U a.heap) 0 0) 0 []:=⟨rfl,ai ⟨U a.heap,0,#[],rfl,aZ _,mi _ _,aZ _,cH _,rfl,rfl⟩⟩;have S:∀(m:aL) (k j:Nat) (d:ag),(binOp .eql 22 (ah (K m) k j) aF).run (aH ax) d=cm (ak aj) d:=λm k j d=>by simp only[binOp];simp[run_equal_slice_nil d 22 3 _ _ _ aE.underlying22]
 have T:∀(k j:Nat) (d:ag),(binOp .eql 22 (ah Z k j) aF).run (aH ax) d=cm (ak af) d:=λk j d=>by simp only[binOp];simp[run_equal_slice_nil d 22 3 _ _ _ aE.underlying22]
 by_cases r:0<I b
 .obtain rfl:=y r;have F:X (∀e c,(cO b)[e]? =K c->ap (a.alloc<|aq #[] 3) (rQ ⟨f,l,Z⟩ e)=K c):=λe c N=>by
   rw[vN];have h:=z e c N;have M:f<U a.heap:=by
    unfold ap at h;rcases jc f (U a.heap) with g|g;exact g;simp[uG g] at h
   exact aB (bA n (p:=⟨f,l+e,Z⟩) M) h
  have G:X (∀c∈cO b,m3 c=af):=λc P=>by obtain⟨ab,_,rfl⟩:=jW.1 P;rfl
  have E:X (I (cO b)=I b*1):=by show _=_;simp[cO]
  have w:=aA n;clear z n y;go_enter aE.func70,Tryz.ntmps70;go_wp2_with (at_builtin;refine jR Y _ _ 22 Y (U a.heap) 3 D (z9 0) 1 8 aE.underlying22 A Q C R Y az (aG (U a.heap) 0 0) 0 [] Y B ⟨f,l,Z⟩ (I b) q (cO b) Y r E.o F.o G.o fW aa aI ?_;intro W i u t);have o:X (aD a i):=by
   rcases t with⟨h,_⟩|⟨_,h⟩;exact jy w.o h aI aI;exact jy w.o h aI (λL s=>by simp[bI] at s;omega)
  rw[fq,s6] at u;have H:=aA u;go_wp2;go_ret;exact⟨o.o,ai ⟨r,_,rfl,H.o⟩⟩
 .have O:I b=0:=by omega
  rw[O];cases p with
  |none=>
   go_enter aE.func70,Tryz.ntmps70;go_wp2;go_ret;exact⟨bN _ _,av ⟨trivial,_,rfl⟩⟩
  |some m=>
   go_enter aE.func70,Tryz.ntmps70;go_wp2_with (at_builtin;refine rT _ Y _ _ 22 Y (U a.heap) 3 D 1 aE.underlying22 A C (U a.heap) 0 0 [] Y B m 0 q [] Y aI (λe c g=>by simp at g) (λc g=>by simp at g) aa ?_;intro i u t);have o:X (aD a i):=jy n t aI (λL s=>by simp at s;omega);go_wp2;go_ret;exact⟨o.o,av ⟨trivial,_,rfl⟩⟩
def Sd{a:List bH}(o:Nat)(W:I a<=1000)(x:0<I a->O=K ⟨n,m,Z⟩)(y:∀d b,(eZ a)[d]? =K b->ap w ⟨n,m+d,Z⟩=K b):
 bc 107 #[ah O (I a) o] w λu g=>aD w g/\((I a=0/\∃J,u=aN (ah J 0 0))\/(0<I a/\∃v,u=aN v/\aT g (U w.heap) 61 7 v (I a) (eZ a))):=by
 have⟨D,z,R,C,S⟩:=eW aE.Fq;have k:aD w (w.alloc<|aq #[] 61):=(bN _ _).alloc (aZ _) _;have A:aT (w.alloc<|aq #[] 61) (U w.heap) 61 7 (aG (U w.heap) 0 0) 0 []:=⟨rfl,ai ⟨U w.heap,0,#[],rfl,aZ _,mi _ _,aZ _,cH _,rfl,rfl⟩⟩;have T:∀(j:aL) (i h:Nat) (c:ag),(binOp .eql 23 (ah (K j) i h) aF).run (aH ax) c=cm (ak aj) c:=λj i h c=>by simp only[binOp];simp[run_equal_slice_nil c 23 61 _ _ _ aE.underlying23]
 have V:∀(i h:Nat) (c:ag),(binOp .eql 23 (ah Z i h) aF).run (aH ax) c=cm (ak af) c:=λi h c=>by simp only[binOp];simp[run_equal_slice_nil c 23 61 _ _ _ aE.underlying23]
 by_cases p:0<I a
 .obtain rfl:=x p;have F:X (∀d b,(eZ a)[d]? =K b->ap (w.alloc<|aq #[] 61) (rQ ⟨n,m,Z⟩ d)=K b):=λd b N=>by
   rw[vN];have f:=y d b N;have M:n<U w.heap:=by
    unfold ap at f;rcases jc n (U w.heap) with e|e;exact e;simp[uG e] at f
   exact aB (bA k (p:=⟨n,m+d,Z⟩) M) f
  have G:X (∀b∈eZ a,m3 b=af):=λb Q=>by
   have⟨ad,_,B⟩:=xy.1 Q;simp only[tt,gy,kZ,or_false] at B;rcases B with rfl|rfl|rfl|rfl|rfl|rfl|rfl<;>rfl
  have E:=aA<|uk a;have t:=aA k;clear y k x;go_enter aE.func107,Tryz.ntmps107;go_wp2_with (at_builtin;refine jR Y _ _ 23 Y (U w.heap) 61 D (bZ #[z9 0,ak aj,z9 0,ay ⟨#[]⟩,ak aj,z9 0,ay ⟨#[]⟩]) 7 72 aE.underlying23 z R C S Y az (aG (U w.heap) 0 0) 0 [] Y A ⟨n,m,Z⟩ (I a) o (eZ a) Y p E.o F.o G.o fW aa aI ?_;intro ab g s r);have l:X (aD w g):=by
   rcases r with⟨f,_⟩|⟨_,f⟩;exact jy t.o f aI aI;exact jy t.o f aI (λL q=>by simp[bI] at q;omega)
  rw[fq,s6] at s;have H:=aA s;go_wp2;go_ret;exact⟨l.o,ai ⟨p,_,rfl,H.o⟩⟩
 .have P:I a=0:=by omega
  rw[P];cases O with
  |none=>
   go_enter aE.func107,Tryz.ntmps107;go_wp2;go_ret;exact⟨bN _ _,av ⟨trivial,_,rfl⟩⟩
  |some j=>
   go_enter aE.func107,Tryz.ntmps107;go_wp2_with (at_builtin;refine rT _ Y _ _ 23 Y (U w.heap) 61 D 7 aE.underlying23 z C (U w.heap) 0 0 [] Y A j 0 o [] Y aI (λd b e=>by simp at e) (λb e=>by simp at e) aa ?_;intro g s r);have l:X (aD w g):=jy k r aI (λL q=>by simp at q;omega);go_wp2;go_ret;exact⟨l.o,av ⟨trivial,_,rfl⟩⟩
def aay(h:w.heap[n]? =K (aq C Qd (0,0)))(b:C[m]? =K v):(aY w ⟨n,m,Z⟩ v).heap[n]? =K (aq C Qd (0,0)):=by
 rw[ek w n m _ _ v h];congr 2;apply vK;intro d;rw[nI]
 split
 rename_i a;subst a
 split
 exact bq b;rename_i c;rw[uG aa];rfl
def LM(h:aT w n 61 7 (aG m i j) i S)(b:S[k]? =K v):aT (aY w ⟨m,k,Z⟩ v) n 61 7 (aG m i j) i S:=by
 obtain⟨p,⟨a,_⟩|⟨r,q,d,a,e,f,g,l,o,c⟩⟩:=h;cases a;simp only[j9,iG,nM,and_true,true_and] at a;obtain⟨rfl,rfl⟩:=a;refine⟨p,ai ⟨m,j,d,rfl,e,aay f ?_,g,l,o,c⟩⟩;rw[<-c,vW] at b
 split at b
 simpa using b;cases b
def YF(h:aT w n m k v i S)(l:0<i):∃d b,v=aG d i b:=by
 obtain⟨j,⟨a,g⟩|⟨e,c,f,a,_⟩⟩:=h;omega;exact⟨e,c,a⟩
def dJ.Lm{c:List bH}(h:aT w n 61 7 (aG m (I c) k) (I c) (eZ c)):dJ w (K ⟨m,0,Z⟩) m 0 c:=by
 obtain⟨q,⟨a,_⟩|⟨i,f,g,a,j,d,l,o,p,e⟩⟩:=h;cases a;simp only[j9,iG,nM,and_true,true_and] at a;obtain⟨rfl,rfl⟩:=a;refine dJ.Bn (bE d) λr v b=>?_;rw[<-e,vW] at b
 split at b
 rw[fq];unfold ap;simp only[d];simpa using b;cases b
def LG(h:aT w n a j (aG m k i) k S):n<=m:=by
 obtain⟨r,⟨b,_⟩|⟨f,d,e,b,c,g,l,o,p,q⟩⟩:=h;cases b;simp only[j9,iG,nM,and_true,true_and] at b;obtain⟨rfl,rfl⟩:=b;exact c
def LI(h:aT w n a j (aG m k i) k S):cE w ⟨m,b,Z⟩=aj:=by
 obtain⟨s,⟨c,_⟩|⟨g,e,f,c,l,d,o,p,q,r⟩⟩:=h;cases c;simp only[j9,iG,nM,and_true,true_and] at c;obtain⟨rfl,rfl⟩:=c;simp[cE,d]
def LF(h:aT w n 61 7 (aG m k i) k S)(b:S[j]? =K v):ap w ⟨m,j,Z⟩=K v:=by
 obtain⟨r,⟨a,_⟩|⟨g,e,f,a,l,c,o,p,q,d⟩⟩:=h;cases a;simp only[j9,iG,nM,and_true,true_and] at a;obtain⟨rfl,rfl⟩:=a;rw[<-d,vW] at b
 split at b
 unfold ap;simp only[c];simpa using b;cases b
def SI(a:List bH)(t:Option aL)(ar aR u:Nat)(f:ag)(aF:I a<=1000)(az:0<I a->t=K ⟨ar,aR,Z⟩)(aC:∀aQ a1,(eZ a)[aQ]? =K a1->bl f ar (aR+aQ) a1)(bd:∀a0∈a,a0.low.s.size<=32/\a0.high.s.size<=32):
 bc 71 #[ah t (I a) u] f λg k=>aD f k/\((I a=0/\∃w,g=aN (ah w 0 0))\/(0<I a/\∃v,g=aN v/\aT k (U f.heap) 61 7 v (I a) (eZ a))):=by
 have p:=Sd u aF az aC;clear az aC;by_cases x:0<I a
 .have am:bc 107 #[ah t (I a) u] f λg k=>aD f k/\∃c o,g=aN (aG c (I a) o)/\aT k (U f.heap) 61 7 (aG c (I a) o) (I a) (eZ a):=by
   refine p.mono λg k h=>⟨h.1,?_⟩;obtain⟨_,v,rfl,m⟩:=h.2.resolve_left λh=>absurd h.1 aa;obtain⟨c,o,rfl⟩:=YF m x;exact⟨c,o,rfl,m⟩
  clear p;go_enter aE.func71,Tryz.ntmps71;go_wp2_with (go_at_call 107;refine am.mono ?_;rintro g a2 ⟨z,c,o,rfl,aH⟩);have ab:=aA z;have an:=aA aH;clear z aH am
  go_loopw [10] (λn wr=>∃b:Nat,b<=I a/\n=n9 b/\aT wr (U f.heap) 61 7 (aG c (I a) o) (I a) (eZ a)/\aD f wr) (λn _=>I a-bO (bB n))
  exact⟨0,cH _,rfl,an.o,ab.o⟩;clear ab an;obtain⟨b,bx,rfl,m,y⟩:=hrel;have E:=aA y;have s:=aA m;have aK:=y.size;by_cases i:b<I a
  .have l:=dJ.Lm m;have O:=l.c0 b i;have P:=l.c1 b i;have Q:=l.c2 b i;have R:=l.c3 b i;have S:=l.c4 b i;have T:=l.c5 b i;have V:=l.c6 b i;simp only[fq] at O P Q R S T V;have J:=aA<|yb a b i 3 _ Y;have H:=aA<|yb a b i 6 _ Y;have⟨a4,a5⟩:=bd a[b]<|dm i;have C:=λL=>EI a[b].low.s L a4;have D:=λL=>EI a[b].high.s L a5;clear m y l a4 a5;generalize a[b]=bs at*;have⟨B,d,e⟩:=bs;dsimp only at O P Q R S T V J H C D;go_upto_region 5 with fail;have⟨bh,bi,bj,bk,bm,bo,aU⟩:=vE<|mi wr<|aq #[z9 B,ak d.null,z9 d.n,ay d.s,ak e.null,z9 e.n,ay e.s] 61;have M:aD wr (wr.alloc<|aq #[z9 B,ak d.null,z9 d.n,ay d.s,ak e.null,z9 e.n,ay e.s] 61):=(bN _ _).alloc (aZ _) _;have F:=aA<|E.o.trans<|M.mono aK;have bb:=fc s.o M;have be:U wr.heap<(wr.alloc<|aq #[z9 B,ak d.null,z9 d.n,ay d.s,ak e.null,z9 e.n,ay e.s] 61).heap.size:=aI;have ba:U wr.heap≠c:=λh=>by have:=(dJ.Lm s.o).lt x;omega
   clear M O P Q R S T V E aK s;generalize wr.alloc (aq #[z9 B,ak d.null,z9 d.n,ay d.s,ak e.null,z9 e.n,ay e.s] 61)=bu at*;generalize U wr.heap=aw at*;go_upto_region 6 with(go_at_call 66;refine(C _).mono ?_;rintro g A ⟨rfl,j⟩;have ad:=aA<|F.o.trans<|j.mono F.o.size;have q:=aA<|fc bb j;have W:=(bA j (p:=⟨aw,6,Z⟩) be).trans aU;have u3:=LF q.o J.o;have a8:cE A ⟨c,b*7+1+2,Z⟩=aj:=LI q.o;have bz:=j.size;clear j C);have G:X (aD f<|A.setCell ⟨c,b*7+1+2,Z⟩<|ay d.s):=ad.o.setCell (p:=⟨c,b*7+1+2,Z⟩) (LG q.o) _;have ao:=aA<|LM q.o J.o;have br:ap (A.setCell ⟨c,b*7+1+2,Z⟩<|ay d.s) ⟨aw,6,Z⟩=K (ay e.s):=by
    unfold ap at W ⊢;rw[ei _ _ _ _ ba];exact W
   clear u3 a8 W ad q F bh bi bj bk bm bo aU;generalize A.setCell ⟨c,b*7+1+2,Z⟩ (ay d.s)=bv at*;go_upto_region 7 with(go_at_call 66;refine(D _).mono ?_;rintro g a3 ⟨rfl,j⟩;have ae:=aA<|G.o.trans<|j.mono G.o.size;have r:=aA<|fc ao.o j;have u6:=LF r.o H.o;have a9:cE a3 ⟨c,b*7+4+2,Z⟩=aj:=LI r.o;clear j D);have a6:X (aD f<|a3.setCell ⟨c,b*7+4+2,Z⟩<|ay e.s):=ae.o.setCell (p:=⟨c,b*7+4+2,Z⟩) (LG r.o) _;have a7:=aA<|LM r.o H.o;clear u6 a9 br ae r G ao;go_wp2
   go_roundw
   case rel=>exact⟨b+1,aa,by go_num,a7.o,a6.o⟩
   case measure=>simp[bB];omega
  clear m y;go_wp2;go_ret;exact⟨E.o,ai ⟨x,_,rfl,s.o⟩⟩
 .have N:I a=0:=by omega
  have al:bc 107 #[ah t 0 u] f λg k=>aD f k/\∃w,g=aN (ah w 0 0):=by
   rw[N] at p;exact p.mono λg k h=>⟨h.1,(h.2.resolve_right λh=>absurd h.1 aa).2⟩
  rw[N];clear p N x aF;go_enter aE.func71,Tryz.ntmps71;go_wp2_with (go_at_call 107;refine al.mono ?_;rintro g a2 ⟨z,w,rfl⟩);clear al
  go_loopw [10] (λn wr=>n=z9 0/\wr=a2) (λn _=>0)
  exact⟨rfl,rfl⟩;obtain⟨rfl,rfl⟩:=hrel;go_wp2;go_ret;exact⟨z,av ⟨trivial,_,rfl⟩⟩
def Pn (j:ag)(s:ByteArray)(h:gN)(k:ag):Prop:=
 aD j k/\((∃(b:List (bx×Int)) (a:List Bd) (c:List (Bd×F)) (d e g:F),h=aN (cP #[bZ #[d,e,g],ak af])/\mC s b a/\c.map bf=a/\iZ k (U j.heap) b c d e g/\(∀i f,mC s i f->i=b/\f=a))\/
  (h=aN (cP #[bZ #[aF,aF,aF],ak aj])/\∀b a,¬mC s b a))
def Ku(s:ByteArray)(a:ag)(aC:s.size<=aV):
 bc 44 #[ay s] a (Pn a s):=by
 have J:X (cq (a.alloc<|aq #[aF,aF,aF] 105) (U a.heap) #[aF,aF,aF] 105):=iI a _;have V:X (aD a<|a.alloc<|aq #[aF,aF,aF] 105):=(bN _ _).alloc (aZ _) _;go_enter aE.func44,Tryz.ntmps44;go_wp2_with fail;refine(TB s aC).mono ?_;rintro ad c ⟨ao,P⟩;have z:X (cq c (U a.heap) #[aF,aF,aF] 105):=(cT P _<|bE J.o).trans J.o;have H:X (aD a c):=V.o.trans<|P.mono aI;have Q:=bE z.o;rcases ao with⟨e,G,rfl,hcut⟩|⟨rfl,E⟩;rotate_left
 .have y:X (∀b d,¬mC s b d):=λb d f=>E _ _ f.2;have g:(c.alloc<|aq #[ay ⟨#[]⟩] 9).heap[U a.heap]? =K (aq #[aF,aF,aF] 105 (0,0)):=by rw[fM _ _ _ Q];exact z.o
  have j:aD a (c.alloc<|aq #[ay ⟨#[]⟩] 9):=H.o.alloc aa _;go_upto_region 2 with fail;generalize c.alloc (aq #[ay ⟨#[]⟩] 9)=A at*;have W:X (aD a<|gS A (U a.heap) aF aF aF):=Bt j (aZ _)<|aZ _;have⟨⟨R,S,T⟩,L,M,N⟩:=rL g;obtain⟨⟨l,m,n⟩,-⟩:=rL<|Ad aF aF aF g;unfold gS at*;go_wp2;simp[jI,dB,Tryz.results44,go_sem,l,m,n];exact⟨W.o,ai ⟨rfl,y.o⟩⟩
 skip
 have aA:=hcut.len;have aR:=hcut.1;rw[cM,cM] at aA;have g:(c.alloc<|aq #[ay e] 9).heap[U a.heap]? =K (aq #[aF,aF,aF] 105 (0,0)):=by rw[fM _ _ _ Q];exact z.o
 have j:aD a (c.alloc<|aq #[ay e] 9):=H.o.alloc aa _;have al:cq (c.alloc<|aq #[ay e] 9) (U c.heap) #[ay e] 9:=iI c _;have F:U a.heap<=(c.alloc<|aq #[ay e] 9).heap.size:=j.size;have am:G.size<=65536:=aa;have ae:e.size<=65536:=aa;go_upto_region 2 with fail;generalize c.alloc (aq #[ay e] 9)=A at*;generalize U c.heap=cb at*;go_wp2_with fail;refine(adz cb G e A am ae al).mono ?_;rintro ad k ⟨v,⟨b,d,h,aH,aK,aQ,rfl,az,an,ar,aw,hF,aG⟩|⟨rfl,E⟩⟩
 .have i:cq k (U a.heap) #[aF,aF,aF] 105:=(cT v _<|bE g).trans g;have D:=j.trans<|v.mono F;have O:=hF.B4 F;obtain⟨o,ac,q,p,u,t,rfl,rfl,rfl⟩:=O.Fc;have Y:X (iZ (gS k (U a.heap) (ah o (I b) ac) (ah q (I b) p)<|ah u (I h) t) (U a.heap) b h (ah o (I b) ac) (ah q (I b) p)<|ah u (I h) t):=O.gS i;have x:X (aD a<|gS k (U a.heap) (ah o (I b) ac) (ah q (I b) p)<|ah u (I h) t):=Bt D (aZ _)<|aZ _;have Z:X (mC s b d):=⟨az,by rw[<-ar,<-aw];exact hcut⟩;have ab:X (∀w r,mC s w r->w=b/\r=d):=λw r f=>by
   have⟨B,C⟩:=hcut.mo f.2;exact aG w r f.1 C B
  have⟨⟨R,S,T⟩,L,M,N⟩:=rL i;obtain⟨⟨l,m,n⟩,-⟩:=rL<|Ad (ah o (I b) ac) (ah q (I b) p) (ah u (I h) t) i;unfold gS at*;go_wp2;simp[jI,dB,Tryz.results44,go_sem,l,m,n];exact⟨x.o,av ⟨b,d,h,_,_,_,rfl,Z.o,an,Y.o,ab.o⟩⟩
 have i:cq k (U a.heap) #[aF,aF,aF] 105:=(cT v _<|bE g).trans g;have D:=j.trans<|v.mono F;have x:X (aD a<|gS k (U a.heap) aF aF aF):=Bt D (aZ _)<|aZ _;have y:X (∀b d,¬mC s b d):=λb d f=>by
  have⟨B,C⟩:=hcut.mo f.2;exact E b d f.1 C B
 have⟨⟨R,S,T⟩,L,M,N⟩:=rL i;obtain⟨⟨l,m,n⟩,-⟩:=rL<|Ad aF aF aF i;unfold gS at*;go_wp2;simp[jI,dB,Tryz.results44,go_sem,l,m,n];exact⟨x.o,ai ⟨rfl,y.o⟩⟩
def T9(b:Option aL)(a e:Nat)(h:ag)(l:a<=aV)(k:a<=e)(j:0<a->∃d g,b=K ⟨d,g,Z⟩):
 bc 8 #[ah b a e] h λi m=>(∃f,min a 16<=f/\i=aN (ah b (min a 16) f))/\m=h:=by
 unfold aV at l;by_cases n:16<a
 .obtain⟨d,g,rfl⟩:=j aa;have c:min a 16=16:=aa;rw[c];go_enter aE.func8,Tryz.ntmps8;go_wp2;go_ret;exact⟨⟨_,aa,rfl⟩,rfl⟩
 .have c:min a 16=a:=by omega
  rw[c];go_enter aE.func8,Tryz.ntmps8;go_wp2;go_ret;exact⟨⟨_,k,rfl⟩,rfl⟩
def T8(b:Option aL)(a e:Nat)(h:ag)(l:a<=aV)(k:a<=e)(j:0<a->∃d g,b=K ⟨d,g,Z⟩):
 bc 9 #[ah b a e] h λi m=>(∃f,min a 16<=f/\i=aN (ah b (min a 16) f))/\m=h:=by
 unfold aV at l;by_cases n:16<a
 .obtain⟨d,g,rfl⟩:=j aa;have c:min a 16=16:=aa;rw[c];go_enter aE.func9,Tryz.ntmps9;go_wp2;go_ret;exact⟨⟨_,aa,rfl⟩,rfl⟩
 .have c:min a 16=a:=by omega
  rw[c];go_enter aE.func9,Tryz.ntmps9;go_wp2;go_ret;exact⟨⟨_,k,rfl⟩,rfl⟩
def jA (a:Int)(an:List Int)(b:List bH):Bool:=(an++b.map bH.col).any λc=>c==a
def PT(e:Int)(an:List Int)(d:List bH)(u:Option aL)(cb bC bF:Nat)(ro:Option aL)(rb bL bD:Nat)(n:ag)(B:I an<=aV)(C:I d<=aV)
 (A:0<I an->u=K ⟨cb,bC,Z⟩) (v:∀b,b<I an->bl n cb (bC+b) (z9<|aW an b 0)) (m:dJ n ro rb bL d):
 bc 50 #[z9 e,ah u (I an) bF,ah ro (I d) bD] n λj D=>j=aN (ak<|jA e an d)/\D=n:=by
 unfold aV at B C;have y:=aA v;have t:=aA m;clear v m;go_enter aE.func50,Tryz.ntmps50;go_wp2_with fail
 go_loop [7] (λc=>∃b:Nat,b<=I an/\c=z9 b/\∀a,a<b->aW an a 0≠e) (λc=>I an-bO (bB c))
 exact⟨0,cH _,rfl,λa k=>aa⟩;obtain⟨b,E,rfl,l⟩:=hrel;have s:=aA l;by_cases q:b<I an;obtain rfl:=A aa;have p:=y.o b q;have G:(b:Int)<(I an:Int):=aa;by_cases f:aW an b 0=e
 .have i:X (jA e an d=af):=by
   show _=af;unfold jA;rw[List.any_append,tM];refine av<|xx.2 ⟨aW an b 0,?_,by rw[f];simp⟩;rw[ep,dV q];exact dm q
  rw[f] at p;go_wp2;go_ret;exact⟨by rw[i.o];rfl,rfl⟩
 have o:X (∀a,a<b+1->aW an a 0≠e):=λa r=>by
  by_cases j:a=b;subst j;exact f;exact s.o a aa
 generalize aW an b 0=h at*;go_wp2
 go_round
 exact⟨b+1,aa,by go_num,o.o⟩;simp[bB];omega;have z:X (∀h∈an,h≠e):=λh g=>by
  obtain⟨c,w,rfl⟩:=m9 g;have:=s.o c aa;rw[ep,dV w] at this;exact this
 go_wp2_with fail
 go_loop [8] (λc=>∃b:Nat,b<=I d/\c=z9 b/\∀a (k:a<I d),a<b->d[a].col≠e) (λc=>I d-bO (bB c))
 exact⟨0,cH _,rfl,λa _ k=>aa⟩;obtain⟨c,w,rfl,l⟩:=hrel
 skip
 by_cases x:c<I d;obtain rfl:=t.o.addr aa;have p:=t.o.c0 c x;have F:(c:Int)<(I d:Int):=aa;by_cases f:d[c].col=e;have i:X (jA e an d=af):=by
  show _=af;unfold jA;rw[List.any_append,tM];exact ai<|xx.2 ⟨d[c].col,jW.2 ⟨d[c],dm x,rfl⟩,by simp[f]⟩
 rw[f] at p;go_wp2;go_ret;exact⟨gG i.o,rfl⟩;have o:X (∀a (k:a<I d),a<c+1->d[a].col≠e):=λa k r=>by
  by_cases j:a=c;subst j;exact f;exact l a k aa
 skip
 generalize d[c].col=h at*;go_wp2
 go_round
 exact⟨c+1,aa,by go_num,o.o⟩;simp[bB];omega;have i:X (jA e an d=aj):=by
  show _=aj;unfold jA;rw[List.any_eq_false];intro h g;rcases eP.1 g with g|g;simpa using z.o h g;obtain⟨H,m,rfl⟩:=jW.1 g;obtain⟨a,r,rfl⟩:=m9 m;simpa using l a r aa
 go_wp2;go_ret;exact⟨gG i.o,rfl⟩
def IG{v h:aC}:decide (gv h v<0)=decide (0<gv v h):=by
 rw[HL h v];congr 1;apply propext;constructor<;>intro h<;>omega
def WK(b:List bH)(g:Int->aC)(S ar m b1:Nat)(ro:Option aL)(rb bL bD:Nat)(o:ag)(b0:I b<=aV)(u:dJ o ro rb bL b)(bV:∀Q∈b,mD o ar m Q.col S<|g Q.col)(V:∀Q∈b,(g Q.col).s.size<=aV/\Q.low.s.size<=aV/\Q.high.s.size<=aV):
 bc 52 #[aG ar m b1,n9 S,ah ro (I b) bD] o λw F=>∃a2,w=aN (ak a2)/\(a2=af↔∀a (h:a<I b),fP (g b[a].col) b[a]=af)/\aD o F:=by
 unfold aV at b0;have al:=aA u;have am:=aA V;clear u V;go_enter aE.func52,Tryz.ntmps52;go_wp2_with fail
 go_loopw [7] (λa wr=>∃d:Nat,d<=I b/\a=z9 d/\(∀a (h:a<I b),a<d->fP (g b[a].col) b[a]=af)/\aD o wr) (λa _=>I b-bO (bB a))
 exact⟨0,cH _,rfl,λcf _ h=>aa,bN _ _⟩;obtain⟨d,b7,rfl,a9,N⟩:=hrel;have a1:=aA N;have V:=N.size
 skip
 by_cases z:d<I b
 .have u:=al.o.below N;obtain rfl:=u.addr (by omega);have ba:=u.c0 d z;have bb:=u.c1 d z;have bd:=u.c2 d z;have be:=u.c3 d z;have bh:=u.c4 d z;have bi:=u.c5 d z;have bj:=u.c6 d z;have⟨P,ao,ca,b5,a3,bz,a4,a5,bC,T,a6,a7,a8⟩:=((bV b[d]<|dm z).below N).ex;have⟨aR,aU,a0⟩:=am.o b[d]<|dm z;have p:X (fP (g b[d].col) b[d]=aj->¬∀a (h:a<I b),fP (g b[a].col) b[a]=af):=λh bQ=>by
   have:=bQ d z;rw[h] at this;cases this
  have q:X (fP (g b[d].col) b[d]=af->∀a (h:a<I b),a<d+1->fP (g b[a].col) b[a]=af):=λh a bW b6=>by
   by_cases w:a=d;subst w;exact h;exact a9 a bW (by omega)
  clear u N al am;generalize b[d]=bv at*;generalize g bv.col=v at*;have⟨ch,l,i⟩:=bv;dsimp only at a3 ba bb bd be bh bi bj aU a0;subst a3;have j:=λan=>Bf v l an aR aU;have e:=λan=>Bf i v an a0 aR;rw[IG] at e;clear aR aU a0;go_upto_region 5 with fail;have b2:=vE<|mi wr<|aq #[n9 P,ak l.null,z9 l.n,ay l.s,ak i.null,z9 i.n,ay i.s] 61;have⟨b3,bk,bl,bm,bo,br,bs⟩:=b2;have k:aD wr (wr.alloc<|aq #[n9 P,ak l.null,z9 l.n,ay l.s,ak i.null,z9 i.n,ay i.s] 61):=(bN _ _).alloc (aZ _) _;have bF:=(bA k (p:=⟨ar,P,Z⟩) a4).trans a5;have bK:=(bA k (p:=⟨ao,S*3,Z⟩) T).trans a6;have bM:=(bA k (p:=⟨ao,S*3+1,Z⟩) T).trans a7;have bP:=(bA k (p:=⟨ao,S*3+2,Z⟩) T).trans a8;have ae:=aA<|a1.o.trans<|k.mono V;have L:U wr.heap<(wr.alloc<|aq #[n9 P,ak l.null,z9 l.n,ay l.s,ak i.null,z9 i.n,ay i.s] 61).heap.size:=aI;clear k ba bb bd be bh bi bj a5 a6 a7 a8 a4 T;generalize wr.alloc (aq #[n9 P,ak l.null,z9 l.n,ay l.s,ak i.null,z9 i.n,ay i.s] 61)=C at*;generalize U wr.heap=f at*;have bT:(P:Int)<(m:Int):=aa;go_upto_region 6 with fail;have⟨R,W,ab⟩:=N7 C (ak v.null) (z9 v.n) (ay v.s) 59;have k:aD C (C.alloc<|aq #[ak v.null,z9 v.n,ay v.s] 59):=(bN _ _).alloc (aZ _) _;have bu:=(bA k (p:=⟨f,1,Z⟩) L).trans bk;have cc:=(bA k (p:=⟨f,2,Z⟩) L).trans bl;have cd:=(bA k (p:=⟨f,3,Z⟩) L).trans bm;have G:=(bA k (p:=⟨f,4,Z⟩) L).trans bo;have Y:=(bA k (p:=⟨f,5,Z⟩) L).trans br;have ad:=(bA k (p:=⟨f,6,Z⟩) L).trans bs;have n:X (aD o<|C.alloc<|aq #[ak v.null,z9 v.n,ay v.s] 59):=ae.o.trans<|k.mono (by have:=ae.o.size;omega);have s:f<(C.alloc<|aq #[ak v.null,z9 v.n,ay v.s] 59).heap.size:=bS;have t:U C.heap<(C.alloc<|aq #[ak v.null,z9 v.n,ay v.s] 59).heap.size:=aI;clear k b3 bk bl bm bo br bs bF bK bM bP ae L bT bz bC;generalize C.alloc (aq #[ak v.null,z9 v.n,ay v.s] 59)=b4 at*;generalize U C.heap=r at*;cases A:v.null
  .rw[A] at R j e;cases E:l.null
   .rw[E] at bu j;cases O:decide (gv v l<0)
    .rw[O] at j;cases y:i.null
     .rw[y] at G e;cases D:decide (0<gv v i)
      .rw[D] at e;have K:X (∀a (h:a<I b),a<d+1->fP (g b[a].col) b[a]=af):=q.o (by simp[fP,l9,l7, *]);clear p q;clear A E O y D;go_wp2_with (first|(go_at_call 72;refine(j _).mono ?_;clear j;rintro w F ⟨rfl,c⟩;have B:X (aD o F):=n.o.trans<|c.mono (by have:=n.o.size;omega);have aw:=(bA c (p:=⟨r,0,Z⟩) t).trans R;have az:=(bA c (p:=⟨r,1,Z⟩) t).trans W;have aF:=(bA c (p:=⟨r,2,Z⟩) t).trans ab;have aH:=(bA c (p:=⟨f,4,Z⟩) s).trans G;have aK:=(bA c (p:=⟨f,5,Z⟩) s).trans Y;have aQ:=(bA c (p:=⟨f,6,Z⟩) s).trans ad;clear c)|(go_at_call 72;refine(e _).mono ?_;clear e;rintro w M ⟨rfl,x⟩;have H:X (aD o M):=B.o.trans<|x.mono (by have:=B.o.size;omega);clear x))
       go_roundw
       case rel=>exact⟨d+1,by omega,by go_num,K.o,H.o⟩
       case measure=>simp[bB];omega
      rw[D] at e;have J:X (¬∀a (h:a<I b),fP (g b[a].col) b[a]=af):=p.o (by simp[fP,l9,l7, *]);clear p q;clear A E O y D;go_wp2_with (first|(go_at_call 72;refine(j _).mono ?_;clear j;rintro w F ⟨rfl,c⟩;have B:X (aD o F):=n.o.trans<|c.mono (by have:=n.o.size;omega);have aw:=(bA c (p:=⟨r,0,Z⟩) t).trans R;have az:=(bA c (p:=⟨r,1,Z⟩) t).trans W;have aF:=(bA c (p:=⟨r,2,Z⟩) t).trans ab;have aH:=(bA c (p:=⟨f,4,Z⟩) s).trans G;have aK:=(bA c (p:=⟨f,5,Z⟩) s).trans Y;have aQ:=(bA c (p:=⟨f,6,Z⟩) s).trans ad;clear c)|(go_at_call 72;refine(e _).mono ?_;clear e;rintro w M ⟨rfl,x⟩;have H:X (aD o M):=B.o.trans<|x.mono (by have:=B.o.size;omega);clear x));go_ret;exact⟨aj,rfl,by simp only[eN,false_iff];exact J.o,H.o⟩
     .rw[y] at G;have K:X (∀a (h:a<I b),a<d+1->fP (g b[a].col) b[a]=af):=q.o (by simp[fP,l9,l7, *]);clear p q;clear A E O y e;go_wp2_with (go_at_call 72;refine(j _).mono ?_;clear j;rintro w F ⟨rfl,c⟩;have B:X (aD o F):=n.o.trans<|c.mono (by have:=n.o.size;omega);have aw:=(bA c (p:=⟨r,0,Z⟩) t).trans R;have az:=(bA c (p:=⟨r,1,Z⟩) t).trans W;have aF:=(bA c (p:=⟨r,2,Z⟩) t).trans ab;have aH:=(bA c (p:=⟨f,4,Z⟩) s).trans G;have aK:=(bA c (p:=⟨f,5,Z⟩) s).trans Y;have aQ:=(bA c (p:=⟨f,6,Z⟩) s).trans ad;clear c)
      go_roundw
      case rel=>exact⟨d+1,by omega,by go_num,K.o,B.o⟩
      case measure=>simp[bB];omega
    rw[O] at j;have J:X (¬∀a (h:a<I b),fP (g b[a].col) b[a]=af):=p.o (by simp[fP,l9,l7, *]);clear p q;clear A E O e;go_wp2_with (go_at_call 72;refine(j _).mono ?_;clear j;rintro w F ⟨rfl,c⟩;have B:X (aD o F):=n.o.trans<|c.mono (by have:=n.o.size;omega);have aw:=(bA c (p:=⟨r,0,Z⟩) t).trans R;have az:=(bA c (p:=⟨r,1,Z⟩) t).trans W;have aF:=(bA c (p:=⟨r,2,Z⟩) t).trans ab;have aH:=(bA c (p:=⟨f,4,Z⟩) s).trans G;have aK:=(bA c (p:=⟨f,5,Z⟩) s).trans Y;have aQ:=(bA c (p:=⟨f,6,Z⟩) s).trans ad;clear c);go_ret;exact⟨aj,rfl,by simp only[eN,false_iff];exact J.o,B.o⟩
   .rw[E] at bu;cases y:i.null
    .rw[y] at G e;cases D:decide (0<gv v i)
     .rw[D] at e;have K:X (∀a (h:a<I b),a<d+1->fP (g b[a].col) b[a]=af):=q.o (by simp[fP,l9,l7, *]);clear p q;clear A E y D j;go_wp2_with (go_at_call 72;refine(e _).mono ?_;clear e;rintro w M ⟨rfl,x⟩;have H:X (aD o M):=n.o.trans<|x.mono (by have:=n.o.size;omega);clear x)
      go_roundw
      case rel=>exact⟨d+1,by omega,by go_num,K.o,H.o⟩
      case measure=>simp[bB];omega
     rw[D] at e;have J:X (¬∀a (h:a<I b),fP (g b[a].col) b[a]=af):=p.o (by simp[fP,l9,l7, *]);clear p q;clear A E y D j;go_wp2_with (go_at_call 72;refine(e _).mono ?_;clear e;rintro w M ⟨rfl,x⟩;have H:X (aD o M):=n.o.trans<|x.mono (by have:=n.o.size;omega);clear x);go_ret;exact⟨aj,rfl,by simp only[eN,false_iff];exact J.o,H.o⟩
    .rw[y] at G;have K:X (∀a (h:a<I b),a<d+1->fP (g b[a].col) b[a]=af):=q.o (by simp[fP,l9,l7, *]);clear p q;clear A E y j e;go_wp2
     go_roundw
     case rel=>exact⟨d+1,by omega,by go_num,K.o,n.o⟩
     case measure=>simp[bB];omega
  rw[A] at R;have J:X (¬∀a (h:a<I b),fP (g b[a].col) b[a]=af):=p.o (by simp[fP,l9,l7, *]);clear p q;clear A j e;go_wp2;go_ret;exact⟨aj,rfl,by simp only[eN,false_iff];exact J.o,n.o⟩
 .have bx:X (∀a (h:a<I b),fP (g b[a].col) b[a]=af):=λa h=>a9 a h aa;have b8:¬(d:Int)<(I b:Int):=by omega
  clear N al am;go_wp2;go_ret;exact ai ⟨rfl,bx.o,a1.o⟩
structure AO(cs:List bx)(i:Nat)(p:fu):Prop where
 n:p.size<=65536
 b:p7 (aW cs i ⟨⟨#[]⟩,0⟩).kind p.bT
 t:p.text=⟨#[]⟩
structure uY(cs:List bx)(b:di):Prop where
 lo:1<=b.rows
 hi:b.rows<=100
 len:I b.parts=I cs
 each:n6 (AO cs) b.parts
def e6 (b:List di):Nat:=(b.map λa=>a.rows).sum
def MF{b:List di}{a:di}:e6 (b++[a])=e6 b+a.rows:=by simp[e6]
structure oo(l:List (bx×Int))(rs:List di):Prop where
 pl:k3 l
 e7:∀b∈rs,uY (l.map bf) b
 rows:e6 rs<=2000
def p5 (a:fy):fu:=⟨bg a.text,a.bT,⟨#[]⟩⟩
def lA (a:Bd):di:=⟨a.rows,a.chunks.map p5⟩
def Ap(a:List Bd):e6 (a.map lA)=gW a:=by simp[e6,gW,lA,List.map_map,sU]
def YZ{b:List bx}{a:List fy}(h:n<I a):vv b (a.map p5) n=yh b a n:=by
 unfold vv yh;have c:aW (a.map p5) n ul=p5 a[n]:=by rw[ep,dV<|cN h];simp
 have d:aW a n ⟨⟨#[]⟩,hU⟩=a[n]:=by rw[ep,dV h];rfl
 rw[c,d];rfl
def Zo{b:List bx}{a:Bd}:uv b (lA a)=jY b a:=by
 unfold uv jY;show bh a.rows++lS b (a.chunks.map p5) (I<|a.chunks.map p5)=_;rw[er];congr 1;exact JY λd c=>YZ<|nP.1 c
def Cs{b:List (bx×Int)}{a:List Bd}:lg b (a.map lA)=hO b a:=by
 unfold lg hO;rw[er];congr 2;unfold gZ ot;rw[List.flatMap_map];exact JY λc _=>Zo
def eJ (b:List fu):Nat:=(b.map λa=>a.size).sum
def tot (b:List di):Nat:=(b.map λa=>eJ a.parts).sum
def acy{a:List fy}:eJ (a.map p5)=I (fH a):=by
 induction a with
 |nil=>rfl
 |cons b c d=>
  have:fH (b::c)=bytesOf b.text++fH c:=by simp[fH]
  rw[this,cJ,cM,<-d];simp[eJ,p5]
def acS{a:List Bd}:tot (a.map lA)=I (fB a):=by
 induction a with
 |nil=>rfl
 |cons b c d=>
  have:fB (b::c)=fH b.chunks++fB c:=by simp[fB]
  rw[this,cJ,<-d,<-acy];simp[tot,lA]
def acH{a:List fy}{b:fy}(h:b∈a):bg b.text<=I (fH a):=by
 induction a with
 |nil=>simp at h
 |cons c d e=>
  have:fH (c::d)=bytesOf c.text++fH d:=by simp[fH]
  rw[this,cJ,cM];rcases gy.1 h with rfl|h;omega;have:=e h;omega
def Re{a:List Bd}{b:Bd}(h:b∈a):I (fH b.chunks)<=I (fB a):=by
 induction a with
 |nil=>simp at h
 |cons c d e=>
  have:fB (c::d)=fH c.chunks++fB d:=by simp[fB]
  rw[this,cJ];rcases gy.1 h with rfl|h;omega;have:=e h;omega
def Mv{g:List (bx×Int)}{d:List Bd}(h:eB g d)(o:I (fB d)<=65536):oo g (d.map lA):=by
 refine⟨h.pl,λl j=>?_,by rw[Ap];exact h.rows⟩;obtain⟨a,e,rfl⟩:=jW.1 j;have c:=h.e7 a e;refine⟨c.lo,c.hi,by show I (a.chunks.map p5)=_;rw[er];exact c.len,?_⟩;intro b k;have f:b<I a.chunks:=by have:b<I (a.chunks.map p5):=k;simpa using this
 have i:(lA a).parts[b]=p5 a.chunks[b]:=by simp[lA]
 rw[i];refine⟨?_,(c.each b f).b,rfl⟩;show a.chunks[b].text.size<=65536;have m:=acH<|dm f;have n:=Re e;omega
def oV (b:ByteArray):Nat->List fu->List fy
 |_,[]=>[]
 |t,a::c=>⟨fw b t<|t+a.size,a.bT⟩::oV b (t+a.size) c
def kJ (b:ByteArray):Nat->List di->List Bd
 |_,[]=>[]
 |t,a::c=>⟨a.rows,oV b t a.parts⟩::kJ b (t+eJ a.parts) c
theorem JU{d:ByteArray}:∀(b:List fu) (a:Nat),a+eJ b<=d.size->(∀p∈b,p.text=⟨#[]⟩)->(oV d a b).map p5=b
 | [],_,_,_=>rfl
 |p::c,a,m,g=>by
  have h:eJ (p::c)=p.size+eJ c:=by simp[eJ]
  rw[oV,kY,JU c (a+p.size) aa λj i=>g j<|by simp[i]];have f:=g p aI;have⟨e,k,l⟩:=p;simp only at f;subst f;simp only[p5];rw[show(fw d a<|a+e).size=e by rw[tN];simp at h;omega]
theorem E5{z:ByteArray}:∀(c:List di) (a:Nat),a+tot c<=bg z->(∀b∈c,∀g∈b.parts,g.text=⟨#[]⟩)->(kJ z a c).map lA=c
 | [],_,_,_=>rfl
 |b::d,a,i,e=>by
  have j:tot (b::d)=eJ b.parts+tot d:=by simp[tot]
  rw[kJ,kY,E5 d (a+eJ b.parts) aa λh f=>e h<|by simp[f]];unfold lA;simp only;rw[JU b.parts a aa<|e b aI]
def N1:(l.drop n).take (m+k)=(l.drop n).take m++(l.drop<|n+m).take k:=by
 rw[List.take_add,List.drop_drop]
theorem N3{c:ByteArray}:∀(e:List fu) (a:Nat),fH (oV c a e)=((bytesOf c).drop a).take (eJ e)
 | [],_=>by simp[oV,fH,eJ]
 |p::b,a=>by
  have f:eJ (p::b)=p.size+eJ b:=by simp[eJ]
  have g:∀(d:fy) (m:List fy),fH (d::m)=bytesOf d.text++fH m:=by simp[fH]
  rw[oV,g,N3 b,f,N1];show bytesOf (fw c a<|a+p.size)++_=_;rw[nu,show a+p.size-a=p.size by omega]
theorem Ew{z:ByteArray}:∀(e:List di) (a:Nat),fB (kJ z a e)=((bytesOf z).drop a).take (tot e)
 | [],_=>by simp[kJ,fB,tot]
 |b::c,a=>by
  have f:tot (b::c)=eJ b.parts+tot c:=by simp[tot]
  have g:∀(d:Bd) (m:List Bd),fB (d::m)=fH d.chunks++fB m:=by simp[fB]
  rw[kJ,g,Ew c,f,N1];show fH (oV z a b.parts)++_=_;rw[N3]
def J1{i:List (bx×Int)}{f:List Bd}(h:oo i (f.map lA)):eB i f:=by
 refine⟨h.pl,λa k=>?_,by have:=h.rows;rwa [Ap] at this⟩;have b:=h.e7 (lA a)<|jW.2 ⟨a,k,rfl⟩;have e:I a.chunks=(lA a).parts.length:=by simp[lA]
 refine⟨b.lo,b.hi,bV e b.len,λc g=>?_⟩;have d:=b.each c (by rw[<-e];exact g);have j:(lA a).parts[c]'(by rw[<-e];exact g)=p5 a.chunks[c]:=by simp[lA]
 rw[j] at d;exact⟨by have l:a.chunks[c].text.size<=65536:=d.n;omega,d.b⟩
structure zh(F0:List Nat)(l:List (bx×Int))(rs:List di):Prop where
 ok:oo l rs
 eq:F0=lg l rs
 mo:∀l' rs',oo l' rs'->F0=lg l' rs'->l'=l/\rs'=rs
def JO{s d e:ByteArray}{g:List (bx×Int)}{c:List di}(l:Cut s (bytesOf d) (bytesOf e))(m:zh (bytesOf e) g c){b:List (bx×Int)}{a:List Bd}(h:mC s b a):b=g/\a.map lA=c/\tot c=bg d:=by
 have⟨j,k⟩:=l.mo h.2;have n:=h.2.len;have o:=h.2.1;have⟨i,f⟩:=m.mo b (a.map lA) (Mv h.1 aa) (by rw[Cs];exact k);refine⟨i,f,?_⟩;rw[<-f,acS,<-j,cM]
def Ud{s a g:ByteArray}{e:List (bx×Int)}{b:List di}(h:Cut s (bytesOf a) (bytesOf g))(c:zh (bytesOf g) e b)(q:tot b=bg a):oa s (e.map bf) (e6 b) 0:=by
 have f:=Ew (z:=a) b 0;have d:=E5 (z:=a) b 0 aa (λk f v p=>by
  obtain⟨r,n,rfl⟩:=m9 p;exact((c.ok.e7 k f).each r n).t)
 have m:fB (kJ a 0 b)=bytesOf a:=by
  rw[f,tW,q,<-cM a,jq]
 have o:oo e ((kJ a 0 b).map lA):=bV d c.ok;refine av ⟨e,kJ a 0 b,⟨J1 o,?_⟩,rfl,?_,rfl,λu t l=>?_⟩;rw[m,<-Cs,d,<-c.eq];exact h;rw[<-Ap,d];obtain⟨i,j,-⟩:=JO h c l;exact⟨i,by rw[<-Ap,j,<-Ap,d]⟩
def JQ{s a b:ByteArray}{h:List (bx×Int)}{c:List di}(e:Cut s (bytesOf a) (bytesOf b))(f:zh (bytesOf b) h c)(g:tot c≠bg a):oa s [] 0 3:=
 ai ⟨λj i d=>g (JO e f d).2.2,rfl,rfl,rfl⟩
def Uc{s e b:ByteArray}(h:Cut s (bytesOf e) (bytesOf b))(i:∀c d,oo c d->bytesOf b≠lg c d):oa s [] 0 3:=by
 refine ai ⟨λj f a=>?_,rfl,rfl,rfl⟩;have⟨k,g⟩:=h.mo a.2;have l:=a.2.len;have m:=a.2.1;exact i j (f.map lA) (Mv a.1 aa) (by rw[Cs];exact g)
def A3{s:ByteArray}(d:∀a b,¬Cut s a b):oa s [] 0 3:=ai ⟨λf e c=>d _ _ c.2,rfl,rfl,rfl⟩
def w_(d b a:Nat)(c:Bool)(s:ByteArray){w:ag}(v:a<=100000)(t:bg s<=aV)(m:b<=bg s)(h:w.heap[d]? =K (rb s b c)):
 bc 100 #[(aK d),n9 a] w λj f=>Kp d w f/\∃(q:ByteArray) (p:Nat) (i:Bool),j=aN (ay q)/\bg q<=a/\p<=bg s/\f.heap[d]? =K (rb s p i)/\
  (∀e:ByteArray,bg e=a->aQ (bytesOf s) b (bytesOf e)->q=e/\p=b+a/\i=c)/\(c=af->i=af):=by
 by_cases r:b+a<=bg s;refine bG (Dt d b a c s w t r h) ?_;rintro j f ⟨k,rfl,l⟩;refine⟨k,_,b+a,c,rfl,by rw[tN];omega,r,l,λe u o=>⟨?_,rfl,rfl⟩,id⟩;apply xI;rw[nu,show b+a-b=a by omega];refine uA (B:=bytesOf s) (p:=b) (List.take_prefix _ _) o ?_;rw[ng,uT,cM,cM];omega;refine bG (Ds d b (a:Int) c s w t (by omega) (by omega) m (ai<|by omega) h) ?_;rintro j f ⟨k,rfl,l⟩;refine⟨k,_,b,af,rfl,by show bg (⟨#[]⟩:ByteArray)<=a;exact cH _,m,l,λe u o=>?_,λ_=>rfl⟩;have:=o9 o (by rw[cM];exact m);rw[cM,cM] at this;omega
def Gt(e a:Nat)(f:Bool)(s:ByteArray)(w:ag)(z:bg s<=aV)(o:a<=bg s)(h:w.heap[e]? =K (rb s a f)):
 bc 101 #[(aK e)] w λl j=>Kp e w j/\∃(c d:Nat) (b:Bool),l=aN (n9 c)/\c<256/\d<=bg s/\j.heap[e]? =K (rb s d b)/\(∀k,aQ (bytesOf s) a [k]->c=k/\d=a+1/\b=f)/\(f=af->b=af):=by
 refine bG (C4 e a f s z o h) ?_;rintro l j ⟨t,c,d,b,rfl,x,C,u,m,A⟩;refine⟨t,c,d,b,rfl,x,C,u,λk p=>?_,λv=>?_⟩;have y:a<bg s:=by
  have:=o9 p (by rw[cM];exact o);rw[cM] at this;simp at this;omega
 have⟨i,q,r⟩:=m y;have:=(mR.1 p).symm.trans i;simp at this;exact⟨bq this,q,r⟩;rcases jc a (bg s) with i|i;rw[(m i).2.2];exact v;exact A aa
def wX{B a Y:List Nat}(h:B.drop m=a++Y):aQ B m a:=⟨Y,bq h⟩
def wW{B a b:List Nat}(h:B.drop q=a++b):B.drop (q+I a)=b:=by
 rw[<-List.drop_drop,h,List.drop_left]
def mN (cs:List bx):Nat->List fu->List Nat
 |_,[]=>[]
 |i,a::b=>(bh a.size++gp (aW cs i ⟨⟨#[]⟩,0⟩).kind a.bT)++mN cs (i+1) b
theorem L0(cs:List bx):∀(c:List fu) (a:Nat) (b:fu),mN cs a (c++[b])=mN cs a c++(bh b.size++gp (aW cs (a+I c) ⟨⟨#[]⟩,0⟩).kind b.bT)
 | [],a,b=>by simp[mN]
 |x::d,a,b=>by
  rw[tV,mN,L0 cs d (a+1) b,mN,oh,show a+1+I d=a+(I d+1) by omega];simp only[ij]
def Y1{cs:List bx}{a:List fu}:∀n,n<=I a->lS cs a n=mN cs 0 (a.take n):=by
 intro n
 induction n with
 |zero=>intro _;simp[lS,mN]
 |succ n c=>
  intro d;rw[LY,c<|by omega,gm<|by omega,L0];congr 1;unfold vv;have b:aW a n ul=a[n]:=by rw[ep,dV<|by omega];rfl
  rw[b];simp[ng,xA (show n<=I a by omega)]
def L7{cs:List bx}{a:di}:uv cs a=bh a.rows++mN cs 0 a.parts:=by
 unfold uv;rw[Y1 _<|aZ _,jq]
theorem LZ{cs:List bx}:∀(d:List fu) (c:Nat),∀b∈mN cs c d,b<256
 | [],_,b,a=>by simp[mN] at a
 |p::e,c,b,a=>by
  rw[mN] at a;rcases eP.1 a with a|a;rcases eP.1 a with a|a;exact uD b a;unfold gp at a
  split at a
  rcases eP.1 a with a|a;simp at a;omega;rcases eP.1 a with a|a;exact Gk b a;exact Gk b a;simp at a;omega;exact LZ e (c+1) b a
def Ur{c:List (bx×Int)}{d:List di}:∀b∈lg c d,b<256:=by
 intro b a;unfold lg kL at a;rcases eP.1 a with a|a;rcases eP.1 a with a|a;exact uD b a;unfold iN at a;obtain⟨f,-,a⟩:=xy.1 a;unfold lR at a;rcases eP.1 a with a|a;exact uD b a;rcases eP.1 a with a|a;exact xJ _ b a;simp at a;rcases a with rfl|rfl<;>exact Ey;rcases eP.1 a with a|a;exact uD b a;unfold gZ at a;obtain⟨e,-,a⟩:=xy.1 a;rw[L7] at a;rcases eP.1 a with a|a;exact uD b a;exact LZ _ _ b a
def Hf (s:ByteArray)(a:List (bx×Int))(b:List di):Prop:=oo a b/\bytesOf s=lg a b
structure PF(w W:ag)(cv ev bv:F)(rn:Nat)(cs:List bx)(es:List Int)(L:List (di×F)):Prop where
 file:W.heap[U w.heap+1]? =K (aq #[cv,ev,bv,n9 rn] 113 (0,0))
 an:aT W (U w.heap+1) 63 2 cv (I cs) (k4 cs)
 gA:aT W (U w.heap+1) 3 1 ev (I es) (cO es)
 own:aT W (U w.heap+1) 122 2 bv (I L) (L.flatMap hJ)
 each:∀p∈L,aT W (U w.heap+1) 128 9 p.2 (I p.1.parts)<|p.1.parts.flatMap eO
 fU:L.Pairwise λp q=>∀g,bI p.2=K g->bI q.2≠K g
 jZ:aD w W
section
variable{w:ag}{cv ev bv:F}{rn:Nat}{cs:List bx}{L:List (di×F)}
def PF.kp(h:PF w W cv ev bv rn cs es L)(a:Kp (U w.heap) W J):PF w J cv ev bv rn cs es L:=
 ⟨Kp.block a h.file aa,a.own h.an aa,a.own h.gA aa,a.own h.own aa,λc b=>a.own (h.each c b) aa,h.fU,fN h.jZ<|a.below h.jZ.size⟩
def PF.below(h:PF w W cv ev bv rn cs es L)(a:aD W J):PF w J cv ev bv rn cs es L:=h.kp<|Kp.iW a
def PF.cells(h:PF w W cv ev bv rn cs es L):(ap W ⟨U w.heap+1,0,Z⟩=K cv/\ap W ⟨U w.heap+1,1,Z⟩=K ev/\ap W ⟨U w.heap+1,2,Z⟩=K bv/\ap W ⟨U w.heap+1,3,Z⟩=K (n9 rn))/\∀b,cE W ⟨U w.heap+1,b,Z⟩=aj:=by
 have a:=h.file;exact⟨⟨by simp[ap,a],by simp[ap,a],by simp[ap,a],by simp[ap,a]⟩,λb=>by simp[cE,a]⟩
def PF.aeL(h:PF w W cv ev bv rn cs es L){b:List bx}(c:aT W (U w.heap+1) 63 2 v (I b) (k4 b)):PF w (aY W ⟨U w.heap+1,0,Z⟩ v) v ev bv rn b es L:=by
 have a:=h.file;exact⟨ek W (U w.heap+1) 0 _ _ v a,fI c (eM W _ 0 v)<|ai (dS c a az).symm,fI h.gA (eM W _ 0 v)<|ai (dS h.gA a az).symm,fI h.own (eM W _ 0 v)<|ai (dS h.own a az).symm,λe d=>fI (h.each e d) (eM W _ 0 v)<|ai (dS (h.each e d) a az).symm,h.fU,zx h.jZ h.jZ.size aa⟩
def PF.L2(h:PF w W cv ev bv rn cs es L):PF w (aY W ⟨U w.heap+1,3,Z⟩<|n9 m) cv ev bv m cs es L:=by
 have a:=h.file;exact⟨ek W (U w.heap+1) 3 _ _ _ a,fI h.an (eM W _ 3 _)<|ai (dS h.an a az).symm,fI h.gA (eM W _ 3 _)<|ai (dS h.gA a az).symm,fI h.own (eM W _ 3 _)<|ai (dS h.own a az).symm,λc b=>fI (h.each c b) (eM W _ 3 _)<|ai (dS (h.each c b) a az).symm,h.fU,zx h.jZ h.jZ.size aa⟩
def PF.UP(h:PF w W cv ev bv rn cs es L)(a:dx W J cv v){e:List bx}(l:aT J (U w.heap+1) 63 2 v (I e) (k4 e)):PF w (aY J ⟨U w.heap+1,0,Z⟩ v) v ev bv rn e es L:=by
 have b:=(a.dK.block _ (bE h.file)<|dS h.an h.file az).trans h.file;have k:=h.jZ.trans<|a.below (λg a=>Nat.le_of_succ_le (h.an.lt g a).1) h.jZ.size;have f:=js h.gA a<|l8 h.gA h.an az;have i:=js h.own a<|l8 h.own h.an az;have j:=λd c=>js (h.each d c) a<|l8 (h.each d c) h.an az;exact⟨ek J (U w.heap+1) 0 _ _ v b,fI l (eM J _ 0 v)<|ai (dS l b az).symm,fI f (eM J _ 0 v)<|ai (dS f b az).symm,fI i (eM J _ 0 v)<|ai (dS i b az).symm,λd c=>fI (j d c) (eM J _ 0 v)<|ai (dS (j d c) b az).symm,h.fU,zx k k.size aa⟩
def PF.UQ(h:PF w W cv ev bv rn cs es L)(a:dx W J ev v)(k:aT J (U w.heap+1) 3 1 v (I qZ) (cO qZ)):PF w (aY J ⟨U w.heap+1,1,Z⟩ v) cv v bv rn cs qZ L:=by
 have b:=(a.dK.block _ (bE h.file)<|dS h.gA h.file az).trans h.file;have j:=h.jZ.trans<|a.below (λg a=>Nat.le_of_succ_le (h.gA.lt g a).1) h.jZ.size;have e:=js h.an a<|l8 h.an h.gA az;have f:=js h.own a<|l8 h.own h.gA az;have i:=λd c=>js (h.each d c) a<|l8 (h.each d c) h.gA az;exact⟨ek J (U w.heap+1) 1 _ _ v b,fI e (eM J _ 1 v)<|ai (dS e b az).symm,fI k (eM J _ 1 v)<|ai (dS k b az).symm,fI f (eM J _ 1 v)<|ai (dS f b az).symm,λd c=>fI (i d c) (eM J _ 1 v)<|ai (dS (i d c) b az).symm,h.fU,zx j j.size aa⟩
def PF.Cx(h:PF w W cv ev bv rn cs es L)(b:dx W J bv v){c:di}(s:aT W (U w.heap+1) 128 9 x (I c.parts) (c.parts.flatMap eO))(r:∀f∈L,∀g,bI f.2=K g->bI x≠K g)
 (m:aT J (U w.heap+1) 122 2 v (I<|L++[(c,x)]) ((L++[(c,x)]).flatMap hJ)):PF w (aY J ⟨U w.heap+1,2,Z⟩ v) cv ev v rn cs es (L++[(c,x)]):=by
 have d:=(b.dK.block _ (bE h.file)<|dS h.own h.file az).trans h.file;have l:=h.jZ.trans<|b.below (λg b=>Nat.le_of_succ_le (h.own.lt g b).1) h.jZ.size;have j:=js h.an b<|l8 h.an h.own az;have k:=js h.gA b<|l8 h.gA h.own az;have p:∀{i:F} {n:Nat} {q:List F},aT W (U w.heap+1) 128 9 i n q->aT (aY J ⟨U w.heap+1,2,Z⟩ v) (U w.heap+1) 128 9 i n q:=λe=>by
  have o:=js e b<|l8 e h.own az;exact fI o (eM J _ 2 v)<|ai (dS o d az).symm
 refine⟨ek J (U w.heap+1) 2 _ _ v d,fI j (eM J _ 2 v)<|ai (dS j d az).symm,fI k (eM J _ 2 v)<|ai (dS k d az).symm,fI m (eM J _ 2 v)<|ai (dS m d az).symm,λf a=>?_,?_,zx l l.size aa⟩;rcases eP.1 a with a|a;exact p<|h.each f a;simp at a;subst a;exact p s;rw[List.pairwise_append];refine⟨h.fU,List.pairwise_singleton _ _,λf a i e=>?_⟩;simp at e;subst e;exact r f a
def PF.CC(h:PF w W cv ev bv rn cs es L){f n:Nat}(e:aT W (U w.heap+1) Qd f v n S)(d:113≠Qd)(c:dx W J v x):(ap J ⟨U w.heap+1,0,Z⟩=K cv/\ap J ⟨U w.heap+1,1,Z⟩=K ev/\ap J ⟨U w.heap+1,2,Z⟩=K bv/\ap J ⟨U w.heap+1,3,Z⟩=K (n9 rn))/\∀b,cE J ⟨U w.heap+1,b,Z⟩=aj:=by
 have a:=aB (c.dK.block _ (bE h.file)<|dS e h.file d) h.file;exact⟨⟨by simp[ap,a],by simp[ap,a],by simp[ap,a],by simp[ap,a]⟩,λb=>by simp[cE,a]⟩
def PF.reader{e n d:Nat}(a:W.heap[U w.heap]? =K Ql)(c:aT W (U w.heap+1) Qd e v n S)(b:dx W J v x):(aY J ⟨U w.heap+1,d,Z⟩ y).heap[U w.heap]? =K Ql:=by
 rw[ei _ _ _ _ aI,b.dK.block _ (bE a) λQd=>cA<|(c.lt _<|bq Qd).1];exact a
end
structure PB(w B W:ag)(g n:Nat)(pv:F)(ps:List fu):Prop where
 box:W.heap[g]? =K (aq #[n9 n,pv] 122 (0,0))
 own:aT W (U B.heap) 128 9 pv (I ps) (ps.flatMap eO)
 gJ:U B.heap<=g
 kp:Kp (U w.heap) B W
section
variable{w:ag}{g n:Nat}{ps:List fu}
def PB.step(h:PB w B W g n pv ps)(b:U w.heap<U B.heap)(a:Kp (U w.heap) W J):PB w B J g n pv ps:=
 ⟨Kp.block a h.box<|cA h.gJ,a.own h.own b,h.gJ,h.kp.trans a⟩
def PB.below(h:PB w B W g n pv ps)(a:U w.heap<U B.heap)(b:aD W J):PB w B J g n pv ps:=h.step a<|Kp.iW b
def PB.cells(h:PB w B W g n pv ps):ap W ⟨g,0,Z⟩=K (aJ aM (n:Int))/\ap W ⟨g,1,Z⟩=K pv/\cE W ⟨g,1,Z⟩=aj:=by
 have a:=h.box;exact⟨by simp[ap,a],by simp[ap,a],by simp[cE,a]⟩
def PB.put(h:PB w B W g n pv ps)(d:bI pv≠K m)(f:m≠g)(c:U B.heap<=m)(a:Nat)(v:F):PB w B (aY W ⟨m,a,Z⟩ v) g n pv ps:=
 ⟨by rw[ei _ _ _ _ bS];exact h.box,fI h.own (eM W m a v)<|ai d,h.gJ,h.kp.grown (eM W m a v) λe b=>by cases b;exact c⟩
def PB.kept(h:PB w B W g n pv ps)(b:dx W J pv v):ap J ⟨g,1,Z⟩=K pv/\cE J ⟨g,1,Z⟩=aj:=by
 have a:=aB (b.dK.block _ (bE h.box)<|dS h.own h.box<|by decide) h.box;exact⟨by simp[ap,a],by simp[cE,a]⟩
def PB.oX(h:PB w B W g n pv ps){a:List fu}(d:dx W J pv v)(e:aT J (U B.heap) 128 9 v (I a) (a.flatMap eO)):PB w B (aY J ⟨g,1,Z⟩ v) g n v a:=by
 have c:=aB (d.dK.block _ (bE h.box)<|dS h.own h.box az) h.box;exact⟨ek J g 1 _ _ v c,fI e (eM J g 1 v)<|ai (dS e c az).symm,h.gJ,(h.kp.grown d.dK λb i=>(h.own.lt b i).1).grown (eM J g 1 v) λb f=>by cases f;exact h.gJ⟩
def PB.reader(h:PB w B W g n pv ps)(d:U w.heap<U B.heap)(c:dx W J pv v)(a:W.heap[U w.heap]? =K Ql):(aY J ⟨g,1,Z⟩ v).heap[U w.heap]? =K Ql:=by
 have:=h.gJ;rw[ei _ _ _ _ bS,c.dK.block _ (bE a) λb=>cA<|(h.own.lt _<|bq b).1];exact a
end
structure RB(s:ByteArray)(k:Int)(q0:Nat)(b0:Bool)(x:ic)(q:Nat)(b:Bool):Prop where
 le:q<=bg s
 ok:b=aj->b0=aj/\p7 k x
 mo:∀y,p7 k y->aQ (bytesOf s) q0 (gp k y)->x=y/\q=q0+I (gp k y)/\b=b0
def PF.kind{w W:ag}{cb m d:Nat}{rn:Nat}{b:List bx}{c:List (di×F)}(h:PF w W (aG cb m d) v y rn b qZ c)(a:Nat)(f:a<I b):bl W cb (a*2+1) (z9 b[a].kind):=by
 obtain⟨g,e,-,-,i⟩:=EM h.an aa;cases e;have:=i.c1 a f;simpa using this
structure PP(w B W:ag)(g n:Nat)(pv:F)(ps:List fu)(h sz:Nat)(x:ic):Prop where
 pb:PB w B W g n pv ps
 iy:W.heap[h]? =K (aq (cR<|eO ⟨sz,x,⟨#[]⟩⟩) 128 (0,0))
 ne:bI pv≠K h
 hg:h≠g
 gJ:U B.heap<=h
section
variable{w:ag}{g n:Nat}{ps:List fu}{h sz:Nat}{x:ic}
def PP.step(a:PP w B W g n pv ps h sz x)(c:U w.heap<U B.heap)(b:Kp (U w.heap) W J):PP w B J g n pv ps h sz x:=
 ⟨a.pb.step c b,Kp.block b a.iy<|cA a.gJ,a.ne,a.hg,a.gJ⟩
def PP.below(c:PP w B W g n pv ps h sz x)(a:U w.heap<U B.heap)(b:aD W J):PP w B J g n pv ps h sz x:=c.step a<|Kp.iW b
def PP.cells(c:PP w B W g n pv ps h sz x):(ap W ⟨h,0,Z⟩=K (aJ aM (sz:Int))/\ap W ⟨h,1,Z⟩=K (ak x.there)/\ap W ⟨h,2,Z⟩=K (ak x.least.null)/\ap W ⟨h,3,Z⟩=K (aJ aM x.least.n)/\ap W ⟨h,4,Z⟩=K (ay x.least.s)/\ap W ⟨h,5,Z⟩=K (ak x.most.null)/\ap W ⟨h,6,Z⟩=K (aJ aM x.most.n)/\ap W ⟨h,7,Z⟩=K (ay x.most.s)/\ap W ⟨h,8,Z⟩=K (ay ⟨#[]⟩))/\∀b,cE W ⟨h,b,Z⟩=aj:=by
 have a:=c.iy;unfold eO at a;exact⟨⟨by simp[ap,a],by simp[ap,a],by simp[ap,a],by simp[ap,a],by simp[ap,a],by simp[ap,a],by simp[ap,a],by simp[ap,a],by simp[ap,a]⟩,λb=>by simp[cE,a]⟩
def PP.Y2(a:PP w B W g n pv ps h sz ⟨aj,x.least,x.most⟩):PP w B (aY W ⟨h,1,Z⟩<|ak af) g n pv ps h sz ⟨af,x.least,x.most⟩:=
 ⟨a.pb.put a.ne a.hg a.gJ _ _,ek W h 1 _ _ (ak af) a.iy,a.ne,a.hg,a.gJ⟩
def PP.Y5(a:PP w B W g n pv ps h sz x)(v:aC):PP w B (aY (aY (aY W ⟨h,2,Z⟩<|ak v.null) ⟨h,3,Z⟩<|z9 v.n) ⟨h,4,Z⟩<|ay v.s) g n pv ps h sz ⟨x.there,v,x.most⟩:=by
 exact⟨((a.pb.put a.ne a.hg a.gJ _ _).put a.ne a.hg a.gJ _ _).put a.ne a.hg a.gJ _ _,ek _ h 4 _ _ (ay v.s)<|ek _ h 3 _ _ (z9 v.n)<|ek W h 2 _ _ (ak v.null) a.iy,a.ne,a.hg,a.gJ⟩
def PP.Y6(a:PP w B W g n pv ps h sz x)(v:aC):PP w B (aY (aY (aY W ⟨h,5,Z⟩<|ak v.null) ⟨h,6,Z⟩<|z9 v.n) ⟨h,7,Z⟩<|ay v.s) g n pv ps h sz ⟨x.there,x.least,v⟩:=by
 exact⟨((a.pb.put a.ne a.hg a.gJ _ _).put a.ne a.hg a.gJ _ _).put a.ne a.hg a.gJ _ _,ek _ h 7 _ _ (ay v.s)<|ek _ h 6 _ _ (z9 v.n)<|ek W h 5 _ _ (ak v.null) a.iy,a.ne,a.hg,a.gJ⟩
def PP.L8(b:PP w B W g n pv ps h sz x)(c:U w.heap<U B.heap)(a:W.heap[U w.heap]? =K Ql):(aY (aY (aY W ⟨h,m,Z⟩ y) ⟨h,k,Z⟩ v) ⟨h,i,Z⟩ z).heap[U w.heap]? =K Ql:=by
 have:=b.gJ;rw[ei _ _ _ _ bS,ei _ _ _ _ bS,ei _ _ _ _ bS];exact a
def PP.Zv(b:PP w B W g n pv ps h sz x)(c:U w.heap<U B.heap)(a:W.heap[U w.heap]? =K Ql):(aY W ⟨h,m,Z⟩ v).heap[U w.heap]? =K Ql:=by
 have:=b.gJ;rw[ei _ _ _ _ bS];exact a
end
def RB.zero{s:ByteArray}(f:k<=bg s)(c:∀x,aQ (bytesOf s) m [x]->i=x/\k=m+1/\qX=qW)(j:qW=af->qX=af)(p:i=0):RB s M m qW hU k qX:=by
 refine⟨f,λb=>⟨?_,av Y⟩,λq o a=>?_⟩;cases qW;rfl;rw[j Y] at b;exact b;rcases o with rfl|⟨l,-⟩;obtain⟨-,d,e⟩:=c 0 a;exact⟨rfl,d,e⟩;unfold gp at a;rw[if_pos l] at a;have:=(c 1 (dw.1 a).1).1;omega
def RB.many{s:ByteArray}(d:k<=bg s)(b:∀x,aQ (bytesOf s) m [x]->i=x/\k=m+1/\qX=qW)(j:1<i):RB s M m qW hU k af:=by
 refine⟨d,λc=>(de c),λl f a=>?_⟩;rcases f with rfl|⟨e,-⟩;have:=(b 0 a).1;omega;unfold gp at a;rw[if_pos e] at a;have:=(b 1 (dw.1 a).1).1;omega
def RB.one{s:ByteArray}(p:M=1\/M=2\/M=3){f l o t C:Bool}{b c:aC}(U:j<=bg s)(F:∀x,aQ (bytesOf s) m [x]->a=x/\k=m+1/\l=f)(Z:f=af->l=af)(an:a=1)
 (G:VR b) (ab:∀x,VK M x->aQ (bytesOf s) k (dc M x)->b=x/\i=k+I (dc M x)/\o=l) (V:l=af->o=af)
 (H:VR c) (ad:∀x,VK M x->aQ (bytesOf s) i (dc M x)->c=x/\j=i+I (dc M x)/\t=o) (X:o=af->t=af)
 (K:C=if gR b M=af/\gR c M=af/\¬gv c b<0 then t else af):RB s M m f ⟨af,b,c⟩ j C:=by
 refine⟨U,λd=>?_,λA ae q=>?_⟩;rw[K] at d
 split at d
 rename_i y;refine⟨?_,ai ⟨rfl,HN p G.there G.BM y.1,HN p H.there H.BM y.2.1,?_⟩⟩;cases f;rfl;rw[X<|V<|Z Y] at d;exact d;have:=HL b c;have:=y.2.2;show ¬ 0<gv b c;omega;cases d;rcases ae with rfl|⟨z,D,E,am⟩;have:=(F 0 q).1;omega;unfold gp at q ⊢;rw[if_pos z] at q ⊢;have⟨L,N⟩:=dw.1 q;have⟨r,e⟩:=dw.1 N;obtain⟨-,O,P⟩:=F 1 L;simp only[rY] at r e;rw[<-O] at r e;have⟨u,Q,R⟩:=ab _ D r;rw[<-Q] at e;have⟨v,al,S⟩:=ad _ E e;refine⟨?_,?_,?_⟩;have⟨az,ar,aw⟩:=A;simp only at z u v;rw[z,u,v];simp only[cJ,rY];omega;have T:=Bh p D;have ao:=HL A.least A.most;rw[K,u,v,if_pos ⟨T,(Bh p E),aa⟩,S,R,P]
def RB.part{s:ByteArray}{cs:List bx}{i d r t sz:Nat}{x:ic}(D:sz<=65536)(E:∀a,a<=65536->aQ (bytesOf s) d (bh a)->sz=a/\r=d+I (bh a)/\qX=qW)(C:qW=af->qX=af)(h:RB s (aW cs i ⟨⟨#[]⟩,0⟩).kind r qX x t qY):
 (qY=aj->qW=aj/\AO cs i ⟨sz,x,⟨#[]⟩⟩)/\(∀(a:fu) (b:List Nat),AO cs i a->(bytesOf s).drop d=(bh a.size++gp (aW cs i ⟨⟨#[]⟩,0⟩).kind a.bT)++b->(⟨sz,x,⟨#[]⟩⟩:fu)=a/\qY=qW/\(bytesOf s).drop t=b):=by
 refine⟨λA=>?_,λa b c l=>?_⟩;have⟨k,z⟩:=h.ok A;refine⟨?_,D,z,rfl⟩;cases qW;rfl;rw[C Y] at k;exact k;have o:=dw.1<|wX l;have⟨e,f,u⟩:=E _ c.n o.1;have p:=o.2;rw[<-f] at p;have⟨j,v,y⟩:=h.mo _ c.b p;have m:=wW l;refine⟨?_,by rw[y,u],?_⟩;have q:=c.t;have⟨H,G,L⟩:=a;simp only at e j q;rw[e,j,q];rw[cJ,<-gH,<-f,<-v] at m;exact m
def Cw{w a:ag}(h:dx w.drew a v y):dx w a v y:=⟨⟨h.dK.os,h.dK.tape,h.dK.output,h.dK.size,h.dK.block⟩,h.at_⟩
def OD(h:m<=200000)(a:k<=100):aM.wrap ((m:Int)+(k:Int))=(m:Int)+(k:Int):=by rw[kF];omega
def toList_inj(h:jE s=jE A):s=A:=by
 rw[uM,uM] at h;apply AI;apply Array.ext';exact h
def Zr{c:List bx}(q:∀a (h:a<I c),c[a].kind=1\/c[a].kind=2\/c[a].kind=3){j:di}(h:uY c j):wh (I c) j:=by
 have d:∀b∈j.parts,jd b.bT.least/\jd b.bT.most/\b.size<=65536:=λb f=>by
  obtain⟨a,l,rfl⟩:=m9 f;have k:=h.each a l;have m:a<I c:=by rw[<-h.len];exact l
  have r:=q a m;have i:=k.b;rw[show aW c a ⟨⟨#[]⟩,0⟩=c[a] by rw[ep,dV m];rfl] at i;have o:∀v,VK c[a].kind v->jd v:=λv d=>⟨d.lo,d.hi,by
   rcases r with e|e|e;rw[d.s1 e];decide;rw[(d.s2 e).2];decide;exact(d.s3 e).2⟩
  rcases i with i|⟨-,e,p,-⟩;rw[i];exact⟨Ow,Ow,k.n⟩;exact⟨o _ e,o _ p,k.n⟩
 exact⟨cA h.hi,h.len,λb f=>cA<|(d b f).2.2,λb f=>(d b f).1,λb f=>(d b f).2.1⟩
def sJ (s:ByteArray)(a:Nat):Nat:=aW (bytesOf s) a 0+256*aW (bytesOf s) (a+1) 0+65536*aW (bytesOf s) (a+2) 0+16777216*aW (bytesOf s) (a+3) 0
def Uo(h:n+4<=I l):(l.drop n).take 4=[aW l n 0,aW l (n+1) 0,aW l (n+2) 0,aW l (n+3) 0]:=by
 apply List.ext_getElem;simp;omega;intro a c b;simp at b;have:a=0\/a=1\/a=2\/a=3:=by omega
 rcases this with rfl|rfl|rfl|rfl;simp[dV (show n<I l by omega)];simp[dV (show n+1<I l by omega)];simp[dV (show n+2<I l by omega)];simp[dV (show n+3<I l by omega)]
def NU(s:ByteArray)(a:Nat)(h:a+4<=bg s):((bytesOf s).drop a).take 4=iV (sJ s a):=by
 rw[Uo<|by rw[cM];exact h];have k:=rE s a;have l:=rE s<|a+1;have m:=rE s<|a+2;have n:=rE s<|a+3;unfold sJ iV;generalize aW (bytesOf s) a 0=b at*;generalize aW (bytesOf s) (a+1) 0=c at*;generalize aW (bytesOf s) (a+2) 0=d at*;generalize aW (bytesOf s) (a+3) 0=e at*;have f:(b+256*c+65536*d+16777216*e)%256=b:=aa;have g:(b+256*c+65536*d+16777216*e)/256%256=c:=aa;have i:(b+256*c+65536*d+16777216*e)/65536%256=d:=aa;have j:(b+256*c+65536*d+16777216*e)/16777216%256=e:=aa;rw[f,g,i,j]
def WD(a:n<4294967296)(b:m<4294967296)(h:iV n=iV m):n=m:=by
 unfold iV at h;simp at h;omega
def NV(s:ByteArray)(a:Nat):sJ s a<4294967296:=by
 have b:=rE s a;have c:=rE s<|a+1;have d:=rE s<|a+2;have e:=rE s<|a+3;unfold sJ;omega
def EW(a:List Nat)(b c:Nat):a.drop b=(a.drop b).take c++a.drop (b+c):=by
 rw[<-List.drop_drop];exact bq<|v7 _ _
def Cut.marks{s:ByteArray}(h:Cut s l L):(∃a,bytesOf s=[83,84,82,65]++a)/\(∃a,bytesOf s=a++[83,84,82,65])/\12<=bg s/\sJ s (bg s-8)=I L/\I L<=bg s-12:=by
 have d:=h.len;have c:=h.1;refine⟨⟨_,h.2⟩,⟨nB++(l++(L++iV (I L))),by rw[h.2];simp[nB]⟩,aa,(WD (NV _ _) aa ?_),aa⟩;rw[<-NU s _ aa,h.2];have b:nB++(l++(L++(iV (I L)++nB)))=(nB++(l++L))++(iV (I L)++nB):=aI;rw[b,List.drop_append_of_le_length<|by simp[nB];omega,za<|by simp[nB];omega,s6];simp[iV]
def TC{s:ByteArray}(r:12<=bg s)(l:bg s<=65536)(p:∃b,bytesOf s=[83,84,82,65]++b)(q:∃b,bytesOf s=b++[83,84,82,65])(t:sJ s (bg s-8)<=bg s-12):
 Cut s (bytesOf<|fw s 4<|bg s-8-sJ s (bg s-8)) (bytesOf<|fw s (bg s-8-sJ s (bg s-8))<|bg s-8):=by
 have k:=NU s (bg s-8) (by omega);generalize sJ s (bg s-8)=a at*;refine⟨l,?_⟩;have o:I (bytesOf<|fw s (bg s-8-a)<|bg s-8)=a:=by rw[cM,tN];omega
 rw[o,nu,nu,<-k];obtain⟨b,m⟩:=p;obtain⟨h,g⟩:=q;have n:I h=bg s-4:=by
  have:=congrArg I g;rw[cM] at this;simp at this;omega
 have i:(bytesOf s).drop (bg s-4)=nB:=by rw[g,<-n,List.drop_left];rfl
 have j:(bytesOf s).take 4=nB:=by rw[m];rfl
 have f:=EW (bytesOf s) (bg s-8) 4;rw[show bg s-8+4=bg s-4 by omega,i] at f;have e:=EW (bytesOf s) (bg s-8-a) a;rw[show bg s-8-a+a=bg s-8 by omega,f] at e;have d:=EW (bytesOf s) 4<|bg s-8-a-4;rw[show 4+(bg s-8-a-4)=bg s-8-a by omega,e] at d;have c:=v7 4<|bytesOf s;rw[j,d] at c;rw[show bg s-8-(bg s-8-a)=a by omega];exact bq c
def jg (c:List (di×F)):List (Nat×List (Nat×ic)):=c.map λa=>(a.1.rows,a.1.parts.map λb=>(b.size,b.bT))
def sO (b:List (di×F))(d c:Nat)(e:ByteArray):List (di×F):=
 match b[d]? with
 |some a=>gh b d (⟨a.1.rows,gh a.1.parts c ⟨(aW a.1.parts c ul).size,(aW a.1.parts c ul).bT,e⟩⟩,a.2)
 |none=>b
def AD{a:List (di×F)}(c:n<I a)(b:m<a[n].1.parts.length):sO a n m s=gh a n (⟨a[n].1.rows,a[n].1.parts.set m ⟨a[n].1.parts[m].size,a[n].1.parts[m].bT,s⟩⟩,a[n].2):=by
 unfold sO;rw[dV c];simp only;rw[show a[n].1.parts.getD m ul=a[n].1.parts[m] by rw[ep,dV b];rfl]
def acv{a:List (di×F)}(d:n<I a)(c:m<a[n].1.parts.length):jg (sO a n m s)=jg a:=by
 rw[AD d c];unfold jg;rw[List.map_set];simp only[List.map_set];have f:gh (a[n].1.parts.map λb=>(b.size,b.bT)) m (a[n].1.parts[m].size,a[n].1.parts[m].bT)=a[n].1.parts.map λb=>(b.size,b.bT):=by
  have:(a[n].1.parts.map λb=>(b.size,b.bT))[m]'(cN c)=(a[n].1.parts[m].size,a[n].1.parts[m].bT):=aI;rw[<-this,List.set_getElem_self]
 rw[f];have:(a.map λe=>(e.1.rows,e.1.parts.map λb=>(b.size,b.bT)))[n]'(cN d)=(a[n].1.rows,a[n].1.parts.map λb=>(b.size,b.bT)):=aI;rw[<-this,List.set_getElem_self]
def TT{c:List (di×F)}(a:n<I c)(f:m<c[n].1.parts.length):(sO c n m s).flatMap hJ=c.flatMap hJ:=by
 rw[AD a f];have h:∀(b:List (di×F)) (n:Nat) (a:n<I b) (d:di×F),hJ d=hJ b[n]->(gh b n d).flatMap hJ=b.flatMap hJ:=by
  intro b
  induction b with
  |nil=>intro n a;simp at a
  |cons i j g=>
   intro n a d e;cases n with
   |zero=>rw[cj,kX,kX];rw[show hJ d=hJ i from e]
   |succ n=>rw[b9,kX,kX,g n (cN a) d<|cN e]
 exact h c n a _ Y
def Oa{a:List di}(h:n<I a):tot (a.take<|n+1)=tot (a.take n)+eJ a[n].parts:=by
 rw[gm h];simp only[tot,gD,kY,List.map_nil,List.sum_append,List.sum_cons,List.sum_nil,tY]
def NX{a:List fu}(h:n<I a):eJ (a.take<|n+1)=eJ (a.take n)+a[n].size:=by
 rw[gm h];simp only[eJ,gD,kY,List.map_nil,List.sum_append,List.sum_cons,List.sum_nil,tY]
def acw{ps:List fu}(a:Nat):eJ (ps.take a)<=eJ ps:=by
 have:eJ ps=eJ (ps.take a)+eJ (ps.drop a):=by
  conv=>lhs;rw[<-v7 a ps]
  simp only[eJ,gD,List.sum_append]
 omega
def acR{rs:List di}(a:Nat):tot (rs.take a)<=tot rs:=by
 have:tot rs=tot (rs.take a)+tot (rs.drop a):=by
  conv=>lhs;rw[<-v7 a rs]
  simp only[tot,gD,List.sum_append]
 omega
def N9{rs:List di}{k i:Nat}(d:k<I rs)(c:i<rs[k].parts.length):tot (rs.take k)+eJ (rs[k].parts.take i)+rs[k].parts[i].size<=tot rs:=by
 have a:=acR (rs:=rs)<|k+1;rw[Oa d] at a;have b:=acw (ps:=rs[k].parts)<|i+1;rw[NX c] at b;omega
def DH{a b:List (di×F)}(h:jg a=jg b):I a=I b:=by
 have:=congrArg I h;simpa [jg] using this
def HA{a b:List (di×F)}(h:jg a=jg b)(e:n<I a)(f:n<I b):a[n].1.rows=b[n].1.rows/\(a[n].1.parts.map λc=>(c.size,c.bT))=b[n].1.parts.map λc=>(c.size,c.bT):=by
 have d:(jg a)[n]? =(jg b)[n]? :=by rw[h]
 simpa [jg,e,f] using d
def HB{a b:List (di×F)}(h:jg a=jg b)(d:n<I a)(e:n<I b):(a[n].1.parts.map λc=>c.size)=b[n].1.parts.map λc=>c.size:=by
 simpa [List.map_map,sU] using(congrArg (List.map bf) (HA h d e).2)
def NW{a b:List (di×F)}(h:jg a=jg b)(f:n<I a)(g:n<I b)(i:m<a[n].1.parts.length)(j:m<b[n].1.parts.length):a[n].1.parts[m].size=b[n].1.parts[m].size:=by
 have d:=HB h f g;have e:(a[n].1.parts.map λc=>c.size)[m]? =(b[n].1.parts.map λc=>c.size)[m]? :=by rw[d]
 simpa [i,j] using e
def acu{a b:List (di×F)}(h:jg a=jg b)(g:n<I a)(i:n<I b)(j:m<a[n].1.parts.length)(k:m<b[n].1.parts.length):a[n].1.parts[m].bT=b[n].1.parts[m].bT:=by
 have d:=(HA h g i).2;have e:(a[n].1.parts.map λc=>(c.size,c.bT))[m]? =(b[n].1.parts.map λc=>(c.size,c.bT))[m]? :=by rw[d]
 have f:(a[n].1.parts[m].size,a[n].1.parts[m].bT)=(b[n].1.parts[m].size,b[n].1.parts[m].bT):=by simpa [j,k] using e
 exact(Prod.mk.inj f).2
def Ab (a:List (di×F))(b c:Nat):Nat:=4+tot ((a.map bf).take b)+eJ ((aW a b (⟨0,[]⟩,aF)).1.parts.take c)
def pJ (s:ByteArray)(c N:List (di×F))(d e:Nat):Prop:=∀a b (f:a<I N) (g:b<N[a].1.parts.length),a<d\/a=d/\b<e->N[a].1.parts[b].text=fw s (Ab c a b) (Ab c a b+N[a].1.parts[b].size)
def pJ.step{s:ByteArray}{d N:List (di×F)}(h:pJ s d N n m)(g:n<I N)(r:m<N[n].1.parts.length)(j:Ab d n m=k)(l:i=k+N[n].1.parts[m].size):pJ s d (sO N n m<|fw s k i) n (m+1):=by
 rw[AD g r];intro a b o c t;by_cases e:a=n;subst e;simp only[List.getElem_set_self] at c ⊢;by_cases f:b=m;subst f;simp only[List.getElem_set_self];rw[j,l];have q:b<N[a].1.parts.length:=cN c;simp only[List.getElem_set_ne<|Ne.symm f];exact h a b g q<|ai ⟨rfl,aa⟩;have p:a<I N:=cN o;simp only[List.getElem_set_ne<|Ne.symm e] at c ⊢;exact h a b p c<|av aa
def pJ.next{s:ByteArray}{d N:List (di×F)}(h:pJ s d N n m)(g:∀(j:n<I N),m=N[n].1.parts.length):pJ s d N (n+1) 0:=by
 intro a e b c i;by_cases f:a=n;subst f;exact h a e b c<|ai ⟨rfl,bV (g b) c⟩;exact h a e b c<|av aa
def PF.part{rn:Nat}{r:List bx}{a:List (di×F)}(h:PF w u v x y rn r qZ a)(k:n<I a)(s:m<a[n].1.parts.length):∃e g c i,y=aG e (I a) g/\a[n].2=aG c a[n].1.parts.length i/\ap u ⟨e,n*2+1,Z⟩=K a[n].2/\(∀b f,(eO a[n].1.parts[m])[b]? =K f->ap u ⟨c,m*9+b,Z⟩=K f)/\(∀b,cE u ⟨c,b,Z⟩=aj)/\c<U u.heap/\U w.heap+1<=c:=by
 have o:=h.each a[n]<|dm k;obtain⟨e,g,j,-⟩:=h.own.form (by omega);obtain⟨c,i,p,-⟩:=o.form (by omega);have l:=h.own;rw[j] at l;have d:=o;rw[p] at d;refine⟨e,g,c,i,j,p,?_,λb f q=>?_,λb=>vV d b,(d.lt c Y).2,(d.lt c Y).1⟩;rw[s0 l _<|by omega];exact pM hJ 2 Co a n k 1 _ Y;have t:b<9:=by have:=(fF.1 q).1;simpa [eO] using this
 rw[s0 d _<|by omega];exact pM eO 9 Bu a[n].1.parts m s b f q
def vD (a:List F):Nat->List F->List F
 |_,[]=>a
 |o,v::b=>vD (gh a o v) (o+1) b
theorem G8(b:List F):∀(e c:List F) (a:Nat),vD (b++c) (I b+a) e=b++vD c a e
 | [],c,a=>rfl
 |v::d,c,a=>by
  show vD (gh (b++c) (I b+a) v) (I b+a+1) d=b++vD (gh c a v) (a+1) d;rw[List.set_append_right _ _<|by omega,show I b+a-I b=a by omega,gH];exact G8 b d (gh c a v)<|a+1
theorem M3:∀(d b a:List F),I d=I b->vD (b++a) 0 d=d++a
 | [],[],a,_=>rfl
 |v::c,e::b,a,f=>by
  show vD (gh (e::(b++a)) 0 v) (0+1) c=v::(c++a);rw[cj];have:=G8 [v] c (b++a) 0;simp only[rY,List.singleton_append,tY] at this;rw[fq,this,M3 c b a<|cN f]
theorem M2(f:fu->List F)(m:Nat)(c:∀x,I (f x)=m):∀(e:List fu) (a:Nat) (d:a<I e) (b:fu),vD (e.flatMap f) (a*m) (f b)=(gh e a b).flatMap f
 | [],a,d,_=>by simp at d
 |x::g,0,_,b=>by
  rw[kX,cj,kX,Nat.zero_mul];exact M3 _ _ _ (by rw[c,c])
 |x::g,a+1,d,b=>by
  rw[kX,b9,kX];have:=G8 (f x) (f b) (g.flatMap f)<|a*m;rw[c] at this;rw[show(a+1)*m=m+a*m by rw[Nat.succ_mul,Nat.add_comm],this,M2 f m c g a (cN d) b]
def UT(h:kg w u QY)(a:kg u W QY):kg w W QY:=
 ⟨aB a.os h.os,aB a.tape h.tape,aB a.output h.output,dW h.size a.size,λd b c=>aB (a.block d (cL b h.size) c)<|h.block d b c⟩
theorem LL{h:Nat}{j:aP}{k c d i:Nat}:∀(f:List F) (a:Nat) (b:ag) (g:List F),aT b h j k (ah (K ⟨c,0,Z⟩) d i) d g->
 aT (m5 b c a f) h j k (ah (K ⟨c,0,Z⟩) d i) d (vD g a f)/\kg b (m5 b c a f) (K c)
 | [],_,b,_,e=>⟨e,⟨rfl,rfl,rfl,aZ _,λ_ _ _=>rfl⟩⟩
 |v::p,a,b,g,e=>by
  have⟨l,m⟩:=e.stored a v;have⟨n,o⟩:=LL p (a+1) _ _ l;exact⟨n,UT m o⟩
def aaF{a:List (di×F)}{t:ByteArray}(b:n<I a)(c:m<a[n].1.parts.length):(sO a n m t).map dD=a.map dD:=by
 rw[AD b c,List.map_set];have:(a.map dD)[n]'(cN b)=a[n].2:=aI;rw[<-this,List.set_getElem_self]
def PF.text{rn:Nat}{t:List bx}{a:List (di×F)}(h:PF w u x y z rn t qZ a)(c:n<I a)(g:m<a[n].1.parts.length)(s:a[n].2=aG k a[n].1.parts.length i)(j:ByteArray):
 PF w (m5 u k (m*9)<|eO ⟨a[n].1.parts[m].size,a[n].1.parts[m].bT,j⟩) x y z rn t qZ (sO a n m j):=by
 have d:=h.each a[n]<|dm c;have o:a[n].2.ownBlock=K k:=by rw[s];rfl
 have r:=d;rw[s] at r;have N:=r.lt k Y;have⟨C,f⟩:=LL (eO ⟨a[n].1.parts[m].size,a[n].1.parts[m].bT,j⟩) (m*9) u _ r;rw[M2 eO 9 Bu _ _ g] at C;have q:k≠U w.heap+1:=λb=>dS d h.file (by decide) (by rw[o,b]);have gJ:∀{b:aP} {L H:Nat} {v:F} {M:List F},aT u (U w.heap+1) b L v H M->b≠128->bI v=Z\/bI v≠K k:=λG q=>by
  have:=l8 G d q;unfold Apart at this;rw[o] at this;exact this
 have B:=List.pairwise_iff_getElem.1 h.fU;refine⟨?_,fI h.an f<|gJ h.an<|by decide,fI h.gA f<|gJ h.gA<|by decide,?_,λD d=>?_,?_,IP (aZ _) (by omega) _ _ _ h.jZ⟩;rw[f.block _ (bE h.file) λb=>q<|by cases b;rfl];exact h.file;have:=fI h.own f (gJ h.own<|by decide);rw[TT c g,show I (sO a n m j)=I a by rw[AD c g,List.length_set]];exact this;rw[AD c g] at d;obtain⟨p,l,rfl⟩:=m9 d;rw[List.length_set] at l;rw[List.getElem_set]
 split
 rename_i E;show aT _ _ _ _ a[n].2 (I<|a[n].1.parts.set m _) _;rw[s,List.length_set];exact C;rename_i E;refine fI (h.each a[p]<|dm l) f<|ai ?_;intro b;rcases jc n p with e|e;exact B n p c l e k o b;exact B p n l c (by omega) k b o;have e:(a.map dD).Pairwise λD J=>∀A,bI D=K A->bI J≠K A:=List.pairwise_map.2 h.fU;rw[<-aaF (t:=j) c g] at e;exact List.pairwise_map.1 e
def Zu{a:fu}:(eO a).toArray.all (·.oneCell')=af:=by simp[eO,m3]
def PF.there{rn:Nat}{c:List bx}{a:List (di×F)}(h:PF w u v x y rn c qZ a)(f:n<I a)(d:m<a[n].1.parts.length)(g:a[n].2=aG k a[n].1.parts.length i):u.there k (m*9) 9:=by
 obtain⟨p,q,r,s,-,b,-,l,o,-,-⟩:=h.part f d;rw[g] at b;cases b;intro j e;exact⟨by rw[l j _<|dV<|by rw[Bu];exact e];rfl,o _⟩
def pe (b:Bd):di:=⟨b.rows,b.chunks.map λa=>⟨bg a.text,a.bT,a.text⟩⟩
theorem E6{d:ByteArray}:∀(a:List fu) (b:Nat),I (oV d b a)=I a
 | [],_=>rfl
 |p::c,b=>by simp[oV,E6 c]
theorem JS(e:ByteArray):∀(b:List fu) (c a:Nat) (h:a<I b),(oV e c b)[a]'(by rw[E6];exact h)=⟨fw e (c+eJ (b.take a))<|c+eJ (b.take a)+b[a].size,b[a].bT⟩
 | [],_,_,h=>by simp at h
 |p::d,c,0,_=>by simp[oV,eJ]
 |p::d,c,a+1,h=>by
  have:=JS e d (c+p.size) a (by simpa using h);simp only[oV,jK,List.take_succ_cons];rw[this];have f:eJ (p::d.take a)=p.size+eJ (d.take a):=by simp[eJ]
  rw[f,<-gH]
theorem E4{e:ByteArray}:∀(a:List di) (c:Nat),I (kJ e c a)=I a
 | [],_=>rfl
 |b::d,c=>by simp[kJ,E4 d]
theorem JR(f:ByteArray):∀(c:List di) (d a:Nat) (h:a<I c),(kJ f d c)[a]'(by rw[E4];exact h)=⟨c[a].rows,oV f (d+tot (c.take a)) c[a].parts⟩
 | [],_,_,h=>by simp at h
 |b::e,d,0,_=>by simp[kJ,tot]
 |b::e,d,a+1,h=>by
  have:=JR f e (d+eJ b.parts) a (by simpa using h);simp only[kJ,jK,List.take_succ_cons];rw[this];have g:tot (b::e.take a)=eJ b.parts+tot (e.take a):=by simp[tot]
  rw[g,<-gH]
def T4(s:ByteArray)(f b a:Nat)(h:4+a<=f):fw (fw s 4 f) b a=fw s (4+b) (4+a):=by
 apply xI;rw[nu,nu,nu,List.drop_take,List.drop_drop,List.take_take];congr 1;omega
def acI{s:ByteArray}{b d:List (di×F)}{f:Nat}(g:jg d=jg b)(v:pJ s b d (I b) 0)(E:4+tot (b.map bf)<=f)(G:f<=s.size):d.map bf=(kJ (fw s 4 f) 0<|b.map bf).map pe:=by
 have x:=DH g;apply List.ext_getElem;simp[E4,x];intro a u C;have h:a<I d:=by simpa using u
 have e:a<I b:=aa;have⟨q,r⟩:=HA g h e;have t:d[a].1.parts.length=b[a].1.parts.length:=by
  have:=congrArg I r;simpa using this
 simp only[oO];rw[JR _ _ _ _<|by simpa using e];simp only[oO,pe];have A:d[a].1.parts=(oV (fw s 4 f) (0+tot ((b.map bf).take a)) b[a].1.parts).map λj=>(⟨j.text.size,j.bT,j.text⟩:fu):=by
  apply List.ext_getElem;simp[E6,t];intro c k D;have i:c<b[a].1.parts.length:=aa;have l:=NW g h e k i;have n:=acu g h e k i;have m:=v a c h k<|av aa;have y:Ab b a c=4+(tot ((b.map bf).take a)+eJ (b[a].1.parts.take c)):=by
   unfold Ab;rw[ep,dV e];show 4+_+eJ (b[a].1.parts.take c)=_;omega
  have w:=N9 (rs:=b.map bf) (k:=a) (i:=c) (by simpa using e) (by simpa using i);simp only[oO] at w;simp only[oO];rw[JS _ _ _ _ i,fq];rw[y,l] at m;have o:=T4 s f (tot ((b.map bf).take a)+eJ (b[a].1.parts.take c)) (tot ((b.map bf).take a)+eJ (b[a].1.parts.take c)+b[a].1.parts[c].size) aa;have z:(fw (fw s 4 f) (tot ((b.map bf).take a)+eJ (b[a].1.parts.take c))<|tot ((b.map bf).take a)+eJ (b[a].1.parts.take c)+b[a].1.parts[c].size).size=b[a].1.parts[c].size:=by
   rw[o,tN];omega
  have p:d[a].1.parts[c]=⟨b[a].1.parts[c].size,b[a].1.parts[c].bT,fw s (4+(tot ((b.map bf).take a)+eJ (b[a].1.parts.take c)))<|4+(tot ((b.map bf).take a)+eJ (b[a].1.parts.take c))+b[a].1.parts[c].size⟩:=by
   generalize d[a].1.parts[c]=B at*;have⟨H,J,L⟩:=B;simp only at l n m;rw[l,n,m]
  rw[p];simp only;rw[z,o,gH 4]
 rw[<-A,<-q]
def Ub{s a g:ByteArray}{f:List (bx×Int)}{b:List di}(j:Cut s (bytesOf a) (bytesOf g))(d:zh (bytesOf g) f b)(n:tot b=bg a):mC s f (kJ a 0 b)/\gW (kJ a 0 b)=e6 b:=by
 have c:=Ew (z:=a) b 0;have e:=E5 (z:=a) b 0 aa (λh c p m=>by
  obtain⟨o,k,rfl⟩:=m9 m;exact((d.ok.e7 h c).each o k).t)
 have i:fB (kJ a 0 b)=bytesOf a:=by
  rw[c,tW,n,<-cM a,jq]
 have l:oo f ((kJ a 0 b).map lA):=bV e d.ok;refine⟨⟨J1 l,?_⟩,?_⟩;rw[i,<-Cs,e,<-d.eq];exact j;rw[<-Ap,e]
structure xu(w:ag)(pb n:Nat)(c:Int)(p:fu):Prop where
 ex:∃j:Nat,c=(j:Int)/\j<n/\pb<U w.heap/\ap w ⟨pb,j*9,Z⟩=K (n9 p.size)/\ap w ⟨pb,j*9+1,Z⟩=K (ak p.bT.there)/\ap w ⟨pb,j*9+2,Z⟩=K (ak p.bT.least.null)/\ap w ⟨pb,j*9+3,Z⟩=K (z9 p.bT.least.n)/\ap w ⟨pb,j*9+4,Z⟩=K (ay p.bT.least.s)/\ap w ⟨pb,j*9+5,Z⟩=K (ak p.bT.most.null)/\ap w ⟨pb,j*9+6,Z⟩=K (z9 p.bT.most.n)/\ap w ⟨pb,j*9+7,Z⟩=K (ay p.bT.most.s)/\ap w ⟨pb,j*9+8,Z⟩=K (ay p.text)
def xu.below{b:fu}(h:xu w n m M b)(a:aD w u):xu u n m M b:=by
 obtain⟨f,c,d,e,h⟩:=h.ex;have i:=a.size;refine⟨f,c,d,by omega,?_⟩;simp only[λg=>bA a (p:=⟨n,g,Z⟩) e];exact h
def aaC(b:List bH)(iy:Int->fu)(C:Int)(k q u:Nat)(ro:Option aL)(rb bL bD:Nat)(g:ag)(b7:I b<=aV)(i:dJ g ro rb bL b)(b5:∀f∈b,xu g k q f.col<|iy f.col)(J:∀f∈b,((iy f.col).bT.least.s.size<=aV/\(iy f.col).bT.most.s.size<=aV)/\f.low.s.size<=aV/\f.high.s.size<=aV):
 bc 49 #[bZ #[z9 C,aG k q u],ah ro (I b) bD] g λo bu=>∃a2,o=aN (ak a2)/\(a2=aj↔∀a (h:a<I b),jN (iy b[a].col).bT b[a]=aj)/\aD g bu:=by
 unfold aV at b7;have W:=aA i;have a1:=aA J;have aU:X (aD g<|g.alloc<|aq #[z9 C,aG k q u] 122):=(bN _ _).alloc (aZ _) _;have a0:X ((g.alloc<|aq #[z9 C,aG k q u] 122).heap[U g.heap]? =K (aq #[z9 C,aG k q u] 122 (0,0))):=mi _ _;clear i J;go_enter aE.func49,Tryz.ntmps49;go_wp2_with fail
 go_loopw [5] (λa wr=>∃c:Nat,c<=I b/\a=z9 c/\(∀a (h:a<I b),a<c->jN (iy b[a].col).bT b[a]=aj)/\wr.heap[U g.heap]? =K (aq #[aJ aM C,aG k q u] 122 (0,0))/\aD g wr) (λa _=>I b-bO (bB a))
 exact⟨0,cH _,rfl,λcr _ h=>aa,a0.o,aU.o⟩;clear a0 aU;obtain⟨c,cl,rfl,a7,a9,B⟩:=hrel;have R:=aA B;have J:=B.size;have b2:=bE a9
 skip
 by_cases l:c<I b
 .have i:=W.o.below B;obtain rfl:=i.addr aa;have bd:=i.c0 c l;have be:=i.c1 c l;have bh:=i.c2 c l;have bi:=i.c3 c l;have bj:=i.c4 c l;have bk:=i.c5 c l;have bl:=i.c6 c l;have⟨r,a4,bF,a5,o⟩:=((b5 b[c]<|dm l).below B).ex;have⟨⟨aH,aK⟩,aQ,aR⟩:=a1.o b[c]<|dm l;have ab:X (jN (iy b[c].col).bT b[c]=af->¬∀a (h:a<I b),jN (iy b[a].col).bT b[a]=aj):=λh b3=>by
   have:=b3 c l;rw[h] at this;cases this
  have N:X (jN (iy b[c].col).bT b[c]=aj->∀a (h:a<I b),a<c+1->jN (iy b[a].col).bT b[a]=aj):=λh a b6 ci=>by
   by_cases o:a=c;subst o;exact h;exact a7 a b6 aa
  clear i B W a1;generalize b[c]=bv at*;generalize iy bv.col=b8 at*;have⟨L,v,M⟩:=b8;have⟨cA,e,d⟩:=bv;dsimp only at a4 o bd be bh bi bj bk bl aH aK aQ aR ab N;subst a4;go_upto_region 5 with fail;have⟨bm,bo,ca,cc,aw,br,bs⟩:=vE<|mi wr<|aq #[n9 r,ak e.null,z9 e.n,ay e.s,ak d.null,z9 d.n,ay d.s] 61;have p:aD wr (wr.alloc<|aq #[n9 r,ak e.null,z9 e.n,ay e.s,ak d.null,z9 d.n,ay d.s] 61):=(bN _ _).alloc (aZ _) _;have a6:∀j,ap (wr.alloc<|aq #[n9 r,ak e.null,z9 e.n,ay e.s,ak d.null,z9 d.n,ay d.s] 61) ⟨k,j,Z⟩=ap wr ⟨k,j,Z⟩:=λj=>bA p (p:=⟨k,j,Z⟩) a5;simp only[<-a6] at o;have⟨bK,bM,bP,bQ,bS,bV,bW,b0,b1⟩:=o;have an:=(cT p _ b2).trans a9;have bC:ap (wr.alloc<|aq #[n9 r,ak e.null,z9 e.n,ay e.s,ak d.null,z9 d.n,ay d.s] 61) ⟨U g.heap,1,Z⟩=K (ah (K ⟨k,0,Z⟩) q u):=by unfold ap;rw[an];rfl
  have V:=aA<|R.o.trans<|p.mono J;have bb:U wr.heap<(wr.alloc<|aq #[n9 r,ak e.null,z9 e.n,ay e.s,ak d.null,z9 d.n,ay d.s] 61).heap.size:=aI;clear p bd be bh bi bj bk bl a5 a6 R J;generalize wr.alloc (aq #[n9 r,ak e.null,z9 e.n,ay e.s,ak d.null,z9 d.n,ay d.s] 61)=t at*;generalize U wr.heap=z at*;have b4:(r:Int)<(q:Int):=aa;go_upto_region 6 with fail;have ba:=mi t<|aq #[n9 L,ak v.there,ak v.least.null,z9 v.least.n,ay v.least.s,ak v.most.null,z9 v.most.n,ay v.most.s,ay M] 128;have p:aD t (t.alloc<|aq #[n9 L,ak v.there,ak v.least.null,z9 v.least.n,ay v.least.s,ak v.most.null,z9 v.most.n,ay v.most.s,ay M] 128):=(bN _ _).alloc (aZ _) _;have T:X _:=V.o.trans<|p.mono (by have:=V.o.size;omega);have S:X _:=(cT p _<|bE an).trans an;have cn:U t.heap<(t.alloc<|aq #[n9 L,ak v.there,ak v.least.null,z9 v.least.n,ay v.least.s,ak v.most.null,z9 v.most.n,ay v.most.s,ay M] 128).heap.size:=by simp
  simp only[<- λj=>bA p (p:=⟨z,j,Z⟩) bb] at bm bo ca cc aw br bs;clear p bK bM bP bQ bS bV bW b0 b1 V b4 bF bC;generalize t.alloc (aq #[n9 L,ak v.there,ak v.least.null,z9 v.least.n,ay v.least.s,ak v.most.null,z9 v.most.n,ay v.most.s,ay M] 128)=y at*;generalize U t.heap=A at*;have f:∀ar aF,(#[aJ aM (L:Int),ak v.there,ak v.least.null,aJ aM v.least.n,ay v.least.s,ak v.most.null,aJ aM v.most.n,ay v.most.s,ay M]:Array F)[ar]? =K aF->ap y ⟨A,ar,Z⟩=K aF:=λar aF h=>by unfold ap;rw[ba];exact h
  have aC:=f 1 _ Y;have cd:=f 2 _ Y;have cf:=f 3 _ Y;have ch:=f 4 _ Y;have co:=f 5 _ Y;have cp:=f 6 _ Y;have cq:=f 7 _ Y;clear f ba bm;have ck:z<U y.heap:=by omega
  have x:=λad=>Bf v.most e ad aK aQ;have s:=λad=>Bf d v.least ad aR aH;rw[IG] at s;clear aH aK aQ aR bb;have O:∀(ae n:Bool),ae=af\/(ae=aj/\n=aj)\/(ae=aj/\n=af):=az;have a3:∀{E:ag},aD y E->X (aD g E/\E.heap[U g.heap]? =K (aq #[aJ aM C,ah (K ⟨k,0,Z⟩) q u] 122 (0,0))/\∀n j,n=z\/n=A->ap E ⟨n,j,Z⟩=ap y ⟨n,j,Z⟩):=λ{E} h=>⟨T.o.trans<|h.mono (by have:=T.o.size;omega),(cT h _<|bE S.o).trans S.o,λn j G=>bA h (p:=⟨n,j,Z⟩) (by rcases G with rfl|rfl<;>omega)⟩;have m:X (aD y y):=bN _ _;have w:X _:= @a3;clear a3 T S;cases H:v.there
  .have bz:X _:=N.o (by simp[jN,H]);rw[H] at aC;clear ab N H x s O;go_wp2
   go_roundw
   case rel=>exact⟨c+1,by omega,by go_num,bz.o,(w.o m.o).o.2.1,(w.o m.o).o.1⟩
   case measure=>simp[bB];omega
  .rw[H] at aC;cases ao:jN v ⟨(r:Int),e,d⟩<;>rcases O e.null (decide (gv v.most e<0)) with Q|⟨Q,G⟩|⟨Q,G⟩<;>rcases O d.null (decide (0<gv v.least d)) with P|⟨P,al⟩|⟨P,al⟩
   all_goals try (simp[jN,l9,l7, *] at ao;done)
   all_goals
    skip
    clear O H;rw[Q] at bo x;rw[P] at aw s;try rw[G] at x
    try rw[al] at s
    first|clear G|clear x
    first|clear al|clear s
    clear Q P;go_wp2_with (first|(go_at_call 72;refine(x _).mono ?_;clear x;rintro o bu ⟨rfl,am⟩;have D:=(w.o am).o.2.2;have m:=aA am;have cs:=(D A 1<|ai Y).trans aC;have cu:=(D A 2<|ai Y).trans cd;have cv:=(D A 3<|ai Y).trans cf;have cx:=(D A 4<|ai Y).trans ch;have u4:=(D z 4<|av Y).trans aw;have u5:=(D z 5<|av Y).trans br;have u6:=(D z 6<|av Y).trans bs;clear D am)|(go_at_call 72;refine(s _).mono ?_;clear s;rintro o cy ⟨rfl,a8⟩;have m:=aA<|m.o.trans<|a8.mono m.o.size;clear a8))
    first
    |(go_ret;refine⟨af,rfl,?_,(w.o m.o).o.1⟩;simp only[Bool.true_eq_false,false_iff];exact ab.o ao)
    |(go_roundw
      case rel=>exact⟨c+1,by omega,by go_num,N.o ao,(w.o m.o).o.2.1,(w.o m.o).o.1⟩
      case measure=>simp[bB];omega)
 have bx:X (∀a (h:a<I b),jN (iy b[a].col).bT b[a]=aj):=λa h=>a7 a h aa;clear B W;go_wp2;go_ret;exact⟨aj,rfl,by simp only[true_iff];exact bx.o,R.o⟩
end Ec
end Go.Proofs.YtjidbonhhpkljaaGreat
