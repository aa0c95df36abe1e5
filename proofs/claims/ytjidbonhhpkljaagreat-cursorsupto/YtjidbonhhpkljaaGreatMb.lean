/- Parts. -/
import Derived.Test.YtjidbonhhpkljaaGreatMa
import Derived.Conc.AppendWalk
import Derived.Deep.MidRow
import Derived.Great.BuildSlice
import Derived.Test.YtjidbonhhpkljaaGreatProg
import Derived.WalkKit
set_option linter.all false
open Array renaming getD->cB,getElem?_eq_some_iff->dn,getElem?_modify->yI,push->iz,range->vL,replicate->jw,setIfInBounds->cS,size->U,toList->dY
open Bool renaming false->aj,false_eq_true->eN,true->af
open Classical renaming choose->mr
open Eq renaming symm->bq,trans->aB
open False renaming elim->ff
open Go renaming Act->bt,Addr->aL,BinOp->kE,Code->cQ,Ending->gN,Event->ef,FloatKind->od,Frame->aO,Func->cF,FuncId->gw,Goroutine->dN,IntKind->oe,Item->ez,Obj->cz,Oper->cC,Operand->eg,PanicEntry->py,Program->bn,Sem->dh,TypeId->aP,TypeInfo->oI,Value->F,World->ag,behindNumber->ki,callDeferred->oJ,doReturn->m6,execOp->bX,exitTo->jJ,madeCells->m7,resolve->m8,results->dB,seen->iD,sizeOf->lZ,stepG->cw,tryRecover->kV,typeInfo->ko,undef->bR,underlying->rq,unwind->kW,yielded->en,zeroValue->lG
open List renaming all->dI,all_eq_true->fA,contains->iT,length->I,mem_range->nP,range->fp,toArray->cR
open Option renaming isNone->nQ,isSome->ni,none->Z,some->K
open Or renaming elim->eD,inl->av,inr->ai
open Go
open Act renaming defers->bU,eval->bp,put->bw
open Addr renaming add_mid->vN,block->cD
open Builtin renaming copy_->sV,firstCells->uK,lenOf->uL,mayShare->AL,unsafeAdd_->yP
open CallKind renaming normal->dM
open Calls renaming mono->bG
open Code renaming block->fT,region->iB,seq->aS,skip->ey
open Conc renaming G->aX,served->nN
open Deferred renaming ofValue->yR,target->gX
open Ending renaming panicked->gO,returned->aN
open Extern renaming find->yS
open Extern.BytealgCompare renaming compare->D2
open Extern.ReflectliteType renaming rows->Ic
open Extern.RuntimeError renaming rows->oG
open Frame renaming defers->oH,enter->eT,finish->dR,kind->dj,mode->ea,raise->jF,roundOf->nO
open FrameMode renaming panicking->jx,returning->jj
open Func renaming results->rR
open GStep renaming after->jT
open GoStatus renaming running->kR
open Goroutine renaming callers->sW,status->m0
open Instr renaming buildSlice->yT,checkKey->yU,findKey->yV,loadAt->xm,storeAt->yY,sureAddr->tR
open IntKind renaming i64->aM
open Item renaming code->bJ,inBlock->fh,inLoop->gx,inRegion->bY
open Next renaming value->fi
open Obj renaming cells->aq
open Op.Complex renaming add->Ig,arith->BS,cmp->D3,conv->BT,corrected->O4,mul->Ih,product->Ii,quo->O5,quotient->Ij,sub->Ik
open Oper renaming after->ri
open Program renaming underlying->g9
open Proofs.Tryz renaming prog->ax
open Region renaming binds->jl,ready->fY,schedule->y4,wanted->eI
open Region.Mode renaming any->eu
open Region.linearise renaming go->lX
open Result renaming ok->cm
open RowKit.Below renaming block->cT
open Sem renaming run->jU,runT->gQ
open TypeInfo renaming bytes->jm,zero->jH
open Value renaming agg->bZ,bool->ak,cells->jn,chan->fZ,int->aJ,oneCell'->m3,pointer->cU,slice->ah,string->ay,tuple->cP
open World renaming alloc->cG,cell?->ap,drawn->dU,frozen?->cE,heap->dF,output->ga,ownsRow->aT,rangeAt->pF,setCell->aY,setChan->lY,tape->dG
open stepG renaming apply->jV,exec->gd
variable{qT qU a0:bt}{R qQ:aL}{q8:Array Bool}{QS:Array ef}{Qu J ops:Array cC}{QN:Array eg}{QF:Array aP}{C args qK vs:Array F}{qW qX:Bool}{QK c1 c2:cQ}{QU:ef}{Qg Qh:aO}{QW g' g2:dN}{M qB:Int}{Qw:oe}{H l2 q5:List (Nat×F)}{Qj aU cs:List aO}{QO k':List ez}{l:List Nat}{news qN:List F}{b c cap d e i j k m n off:Nat}{Qa Qb S:Nat→Prop}{Qy val:Nat→F}{Ql Qm:cz}{Qs:cC}{Qq Qr:eg}{O:Option aL}{QY:Option Nat}{Qo P P0:bn}{Qd Qe:aP}{v v0 v1 v2 x y z:F}{G W W' u w w1':ag}{Q X0:(Nat→Prop)→aO→List aO→ag→Prop}{Dn Ph:Nat→Bool}
set_option maxRecDepth 100000
set_option maxHeartbeats 8000000
namespace Go.Proofs.YtjidbonhhpkljaaGreat
namespace Rn
open Go
section
variable{π:Mp}{R Q H J:Type}{A:R->Q->Prop}{B:H->J->Prop}
def VW(a:Nat):∀d b c,SR P π (E λe=>e) (Op.eqGuardIn a d b c) (Op.eqGuardIn a d (rv π b)<|rv π c):=by
 induction a with
 |zero=>exact λ_ _ _=>su
 |succ a gk=>
  intro d b c;unfold Op.eqGuardIn;refine sb (rF _) λf=>?_;cases f<;>first|exact sp rfl|(cases b using vc<;>simp only[rv]<;>first|exact sp rfl|(cases c using vc<;>simp only[rv]<;>first|exact sp rfl|exact au))
def FF(b:Kx P π)(a:aP)(hx:rv (iU P) v=v)(hy:rv (iU P) x=x):SR P π (E λc=>c) (Op.equal a v x) (Op.equal a (rv π v)<|rv π x):=VY b _ a v x hx hy
def VV(g:kE)(e:aP)(a f:eg)(b c:F):SR P π (E λa=>a) (eqGuard g e a f b c) (eqGuard g e a f (rv π b)<|rv π c):=by
 unfold eqGuard;have d:=VW (P:=P) (π:=π) Op.maxDepth e b c;cases b using vc<;>simp only[rv] at d ⊢
 case nili|agg=>cases c using vc<;>simp only[rv] at d ⊢<;>(have gk:=d;exact au)
 all_goals exact au
def KW(e:Array aP)(d:aP)(b a:F):SR P π (E<|rv π) (yP e d #[b,a]) (yP e d #[rv π b,rv π a]):=by
 unfold yP;cases b using vc
 case nilp=>rw[show rv π (cU Z)=cU Z by simp];refine sb (A9 a) λf=>?_;exact au
 case ptr c=>rw[show rv π (cU<|K c)=cU (K<|ra π c) by simp];refine sb (A9 a) λf=>?_;exact au
 all_goals exact sd
def FK(c:aP)(a:F)(hx:rv (iU P) x=x):SR P π (E<|rv π) (movedNumber c x a) (movedNumber c (rv π x)<|rv π a):=by
 unfold movedNumber asNumber;have gk:=λx a=>KW (P:=P) (π:=π) #[] c x a;have b:=gk x a;cases x using vc<;>simp only[rv,gE,nR] at b ⊢
 case ptr h=>
  refine sb (rF _) λg=>?_;have i:SR P π (E<|rv π) (do
   let (d,f) <-ki h
   match <-yP #[] c #[cU<|K d,a] with
   |cU (K e)=>do pure (cU<|K ⟨<-newObj (.number e f),0,Z⟩)
   |v=>pure v) (do
   let (d,f) <-ki (ra π h)
   match <-yP #[] c #[cU<|K d,rv π a] with
   |cU (K e)=>do pure (cU<|K ⟨<-newObj (.number e f),0,Z⟩)
   |v=>pure v):=by
   refine(zV<|vl hx).bind ?_;rintro j _ ⟨rfl,-⟩;have b:=gk (cU<|K j.1) a;simp only[rv,gE] at b;refine sb b λv=>?_;cases v using vc<;>simp only[rv,gE,nR]<;>first|exact sp (by simp)|exact sb (CE (o:=.number _ _) rfl) λ_=>sp (by simp[ra])
  cases g<;>first|exact sub|exact i
 all_goals (refine sb (rF _) λg=>?_;cases g<;>first|exact sub|exact b)
def Wc(c:aP)(a d:F):SR P π (E<|rv π) (movedPointer c a d) (movedPointer c (rv π a)<|rv π d):=by
 unfold movedPointer;have b:=KW (P:=P) (π:=π) #[] c a d;cases a using vc<;>simp only[rv,gE,nR] at b ⊢<;>try exact b
 refine sb (KN _) λe=>?_;cases e<;>first|exact b|exact sub
def Wt{A:Nat×Nat->Nat×Nat->Prop}{a c b d:aL}(e:U P.globals<=cD a):SR P π A (Op.twoPlaces a c) (Op.twoPlaces b d):=by
 unfold Op.twoPlaces;refine sk ?_;simp only[ge_iff_le,e,decide_true,Bool.or_true,if_true];exact sub
def VN(b:oe)(a:aL)(c:Int):SR P π (E<|rv π) (Op.addrMod b a c) (Op.addrMod b (ra π a) c):=by unfold Op.addrMod;exact au
end
section
structure ji where
 g:Nat
 b:Nat->Bool
structure ej(G:ji) where
 f:Nat->Option Nat
 inj:∀a b c,f a=K c->f b=K c->a=b
 lo:∀a b,f a=K b->G.g<=a/\G.g<=b
 hi:∃N,∀a b,f a=K b->b<N
variable{G:ji}
def ej.le(c d:ej G):Prop:=∀a b,c.f a=K b->d.f a=K b
structure Fm(ρ:ej G)(π:Mp):Prop where
 on:∀a b,ρ.f a=K b->π.f a=b
 inj:∀a b,π.f a=π.f b↔a=b
 gl:∀b,G.g<=b->G.g<=π.f b
 fn:∀f,G.b f=af->π.h (.func f)= .func f
def Fm.sub{b c:ej G}{a:Mp}(h:Fm c a)(g:b.le c):Fm b a:=⟨λd e f=>h.on d e<|g _ _ f,h.inj,h.gl,h.fn⟩
def mp (d:ej G)(N:Nat)(a:Bool):Mp where
 f:=λb=>match d.f b with
  |some c=>c
  |none=>N+b+a.toNat
 h:=fun
  | .func f=>if G.b f then .func f else .method (if a then "a" else "b")
  |_=>.method (if a then "a" else "b")
def K6(d:ej G){N:Nat}(g:∀e b,d.f e=K b->b<N)(l:G.g<=N)(j:Bool):Fm d (mp d N j):=by
 refine⟨λe b a=>by simp only[mp,a],λe b=>⟨λa=>?_,λa=>by rw[a]⟩,λb k=>?_,λf i=>by simp[mp,i]⟩
 .simp only[mp] at a
  split at a<;>split at a
  .rename_i c _ _ h;subst a;exact d.inj _ _ _ c h
  .rename_i c _ _;have:=g _ _ c;omega
  .rename_i _ _ _ c;have:=g _ _ c;omega
  .omega
 .simp only[mp]
  split
  .exact(d.lo _ _<|by assumption).2
  .omega
def ej.any(a:ej G):∃N,Fm a (mp a N af)/\Fm a (mp a N aj):=by
 have⟨N,e⟩:=a.hi;exact⟨N+G.g,K6 a (λb c d=>cA<|e b c d) aa _,K6 a (λb c d=>cA<|e b c d) aa _⟩
def ej.dom{c:ej G}(h:∀e,Fm c e->m=e.f n):c.f n=K m:=by
 obtain⟨N,a,b⟩:=c.any;have a:=h _ a;have b:=h _ b;simp only[mp] at a b;cases d:c.f n with
 |some f=>rw[d] at a;rw[a]
 |none=>rw[d] at a b;rw[a] at b;simp at b
def ej.fun{ρ:ej G}{f c:Fn}(h:∀g,Fm ρ g->c=g.h f):∃b,f= .func b/\G.b b=af:=by
 obtain⟨N,d,a⟩:=ρ.any;have d:=h _ d;have a:=h _ a;rw[d] at a;cases f<;>simp[mp] at a;rename_i b;by_cases e:G.b b=af
 .exact⟨b,rfl,e⟩
 .simp[e] at a
def Sb{σ τ c:Mp}(j:∀d,σ.f d=τ.f d->c.f d=d)(m:∀f,c.h f=f)(v:F):rv σ v=rv τ v->rv c v=v:=by
 have i:∀a:Option aL,a.map (ra σ)=a.map (ra τ)->a.map (ra c)=a:=λa h=>by
  cases a with
  |none=>rfl
  |some a=>simp only[gE,iG,ra,nM] at h;simp[ra,j _ h.1]
 have k:∀a:Option Nat,a.map σ.f=a.map τ.f->a.map c.f=a:=λa h=>by
  cases a with
  |none=>rfl
  |some a=>simp only[gE,iG] at h;simp[j _ h]
 have e:∀b:Array F,(∀v∈b,rv σ v=rv τ v->rv c v=v)->b.map (rv σ)=b.map (rv τ)->b.map (rv c)=b:=λb gk h=>
  aB (Array.map_congr_left λv l=>gk v l<|Array.map_inj_left.1 h v l) (Array.map_id _)
 induction v using rv.induct<;>intro h<;>simp only[rv] at h ⊢
 case case6 a=>simp only[aeF] at h;rw[i a h]
 case case7 a r q=>simp only[j9,and_true] at h;rw[i a h]
 case case8 g=>simp only[Value.map.injEq] at h;rw[k g h]
 case case9 g=>simp only[aeD] at h;rw[k g h]
 case case10 f b p n o=>simp only[O7] at h;rw[m,e b n h.2.1,e p o h.2.2]
 case case12 s v gk=>simp only[aeE,true_and] at h;rw[gk h]
 case case14 b gk=>simp only[Value.agg.injEq] at h;rw[e b gk h]
 case case15 b gk=>simp only[aeG] at h;rw[e b gk h]
def Cg(hP:U Qo.globals=G.g){ρ:ej G}{v u:F}(h:∀c,Fm ρ c->u=rv c v):rv (iU Qo) v=v:=by
 obtain⟨N,e,f⟩:=ρ.any;refine Sb (σ:=mp ρ N af) (τ:=mp ρ N aj) (λd a=>?_) (λ_=>rfl) v<|(h _ e).symm.trans<|h _ f;simp only[mp,iU] at a ⊢;cases b:ρ.f d with
 |some g=>rw[if_neg<|by rw[hP];exact Nat.not_lt.2 (ρ.lo _ _ b).1]
 |none=>rw[b] at a;simp at a
structure WR(ρ:ej G)(w w':ag):Prop where
 gl:G.g<=U w.heap
 gr:G.g<=U w'.heap
 at_:∀b b',ρ.f b=K b'->∃o,w.heap[b]? =K o/\nC o=af/\∀ π,Fm ρ π->w'.heap[b']? =K (ro π o)
 tape:dG w'=dG w
 drawn:dU w'=dU w
 os:w'.os=w.os
def nK (b:ej G)(d:ef):Prop:=match d.loc with
 | .cell c=>∃a,b.f a=K (cD c)
 | .obj e=>∃a,b.f a=K e
 | .mark m=>m= .noRoom
 |_=>True
def nK.mono{a b:ej G}(d:a.le b)(h:nK a QU):nK b QU:=by
 unfold nK at*
 split<;>simp_all
 all_goals exact h.imp λe c=>d _ _ c
structure Fr(ρ σ:ej G)(w w1:ag):Prop where
 le:ρ.le σ
 os:w1.os=w.os
 output:ga w1=ga w
 tape:dG w1=dG w
 size:U w.heap<=U w1.heap
 keep:∀b',(∀b,σ.f b≠K b')->b'<U w.heap->w1.heap[b']? =w.heap[b']?
 fresh:∀b b',σ.f b=K b'->ρ.f b=K b'\/U w.heap<=b'
def Fr.refl(c:ej G)(b:ag):Fr c c b b:=⟨λ_ _ a=>a,rfl,rfl,rfl,aZ _,λ_ _ _=>rfl,λ_ _ a=>av a⟩
def Fr.trans{g i j:ej G}(h:Fr g i w u)(a:Fr i j u W):Fr g j w W:=
 ⟨λ_ _ e=>a.le _ _<|h.le _ _ e,aB a.os h.os,aB a.output h.output,aB a.tape h.tape,dW h.size a.size,
  λb d f=>aB (a.keep b d<|cL f h.size)<|h.keep b (λc e=>d c<|a.le _ _ e) f,
  λc b d=>eD (a.fresh c b d) (h.fresh c b) λk=>ai<|dW h.size k⟩
def RR {m n:Type}(o:Mp->m->n->Prop)(r:ej G)(q:ag)(f:Result m×Array ef)(h:Result n×Array ef):Prop:=
 (∃k a d,f=(.halt k a,d)/\uj k=af)\/∃(c:ej G) (a e:ag) (d g:Array ef),WR c a e/\Fr r c q e/\(∀p∈g,nK c p)/\((∃i j,f=(cm i a,d)/\h=(cm j e,g)/\∀b,Fm c b->o b i j)\/∃v l,f=(.halt (.panic v) a,d)/\h=(.halt (.panic l) e,g)/\∀b,Fm c b->l=rv b v)
def RR.after{d e:Type}{a:Mp->d->e->Prop}{f σ:ej G}{b:Result d×Array ef}{c:Result e×Array ef}(m:Fr f σ w w1')(h:RR a σ w1' b c):RR a f w b c:=
 h.imp id fun⟨p,n,o,g,i,j,k,l⟩=>⟨p,n,o,g,i,j,m.trans k,l⟩
def RR.dead{e a:Type}{b:Mp->e->a->Prop}{f:ej G}{h:Halt}{c:Result a×Array ef}(d:uj h=af):RR b f w (.halt h u,QS) c:=av ⟨h,u,QS,rfl,d⟩
def WR.lt{a:ej G}(h:WR a w u)(e:a.f n=K m):n<U w.heap/\m<U u.heap:=by
 obtain⟨f,b,-,c⟩:=h.at_ n m e;obtain⟨N,d,-⟩:=a.any;exact⟨(dn.1 b).1,(dn.1<|c _ d).1⟩
structure BX(w W:ag)(b:Nat)(o:cz):Prop where
 at_:W.heap[b]? =K o
 other:∀c,c≠b->W.heap[c]? =w.heap[c]?
 size:U W.heap=U w.heap
 tape:dG W=dG w
 drawn:dU W=dU w
 os:W.os=w.os
 output:ga W=ga w
def WR.upd{b:ej G}(h:WR b w u)(r:b.f n=K m)(s:nC Ql=af)(d:BX w W n Ql)(k:∀e,Fm b e->BX u W' m (ro e Ql)):WR b W W'/\Fr b b u W':=by
 obtain⟨N,a,-⟩:=b.any;have a:=k _ a;refine⟨⟨bV d.size h.gl,bV a.size h.gr,λg c i=>?_,by rw[a.tape,d.tape,h.tape],by rw[a.drawn,d.drawn,h.drawn],by rw[a.os,d.os,h.os]⟩,⟨λ_ _ h=>h,a.os,a.output,a.tape,bV a.size<|aZ _,λc i _=>a.other c λf=>i n<|bV f r,λ_ _ h=>av h⟩⟩;by_cases f:g=n;subst f;have:c=m:=bu;subst this;exact⟨Ql,d.at_,s,λe j=>(k e j).at_⟩;have l:c≠m:=λv=>f<|b.inj g n c i bu;have⟨t,o,p,q⟩:=h.at_ g c i;exact⟨t,aB (d.other g f) o,p,λe j=>aB (a.other c l)<|q e j⟩
def DN(a:cz->cz)(h:w.heap[n]? =K Ql):BX w {w with heap:=w.heap.modify n a} n (a Ql):=
 ⟨by simp[yI,h],λc b=>by simp[yI,Ne.symm b],by simp,rfl,rfl,rfl,rfl⟩
def Oo(a:cz)(h:n<U w.heap):BX w {w with heap:=cS w.heap n a} n a:=
 ⟨by simp[nI,h],λc b=>by simp[xf<|Ne.symm b],by simp,rfl,rfl,rfl,rfl⟩
def ej.ext(d:ej G)(g f:Nat)(h:d.f g=Z)(i:∀b,d.f b≠K f)(l:G.g<=g)(m:G.g<=f):ej G where
 f:=λb=>if b=g then K f else d.f b
 inj:=λc b j a e=>by
  split at a<;>split at e
  .omega
  .cases a;exact absurd e<|i b
  .cases e;exact absurd a<|i c
  .exact d.inj c b j a e
 lo:=λc b a=>by
  split at a
  .cases a;omega
  .exact d.lo c b a
 hi:=by
  obtain⟨N,k⟩:=d.hi;refine⟨N+f+1,λc b a=>?_⟩
  split at a
  .cases a;omega
  .have:=k c b a;omega
def WR.new{b:ej G}(h:WR b w u)(p:nC Ql=af)(q:∀d,Fm b d->Qm=ro d Ql):∃i:ej G,i.f (U w.heap)=K (U u.heap)/\WR i {w with heap:=iz w.heap Ql} {u with heap:=iz u.heap Qm}/\Fr b i u {u with heap:=iz u.heap Qm}:=by
 have j:b.f (U w.heap)=Z:=by
  cases o:b.f (U w.heap) with
  |none=>rfl
  |some e=>have:=(h.lt o).1;omega
 have f:b.le (b.ext (U w.heap) (U u.heap) j (λc a=>cA<|(h.lt a).2) h.gl h.gr):=λc e a=>by
  have:=(h.lt a).1;simp only[ej.ext,if_neg (show c≠U w.heap by omega),a]
 refine⟨b.ext (U w.heap) (U u.heap) j (λc a=>cA<|(h.lt a).2) h.gl h.gr,by simp[ej.ext],⟨by have:=h.gl;simp;omega,by have:=h.gr;simp;omega,λc e a=>?_,h.tape,h.drawn,h.os⟩,⟨f,rfl,rfl,rfl,aI,λe a r=>by simp[p6,Nat.ne_of_lt r],λc e a=>?_⟩⟩;simp only[ej.ext] at a
 split at a
 rename_i k;cases a;subst k;exact⟨Ql,aI,p,λd g=>by simp[q d<|g.sub f]⟩;have⟨s,l,m,n⟩:=h.at_ c e a;have:=h.lt a;exact⟨s,by simp only[p6,if_neg<|Nat.ne_of_lt this.1];exact l,m,λd g=>by simp only[p6,if_neg<|Nat.ne_of_lt this.2];exact n d<|g.sub f⟩;simp only[ej.ext] at a
 split at a
 cases a;exact ai<|aZ _;exact av a
end
section
variable{G:ji}
def xT{b:ej G}(h:∀QU∈QS,nK b QU)(d:nK b QU):∀c∈iz QS QU,nK b c:=λc e=>by grind
section
variable{J:ej G}{w Q:ag}{a a':aL}
def WR.ob(h:WR J w Q)(e:∀b,Fm J b->a'=ra b a):J.f (cD a)=K (cD a')/\a'.off=a.off/\a'.spot=a.spot/\∃d,w.heap[cD a]? =K d/\nC d=af/\∀b,Fm J b->Q.heap[cD a']? =K (ro b d):=by
 have f:J.f (cD a)=K (cD a'):=ej.dom λb g=>by rw[e b g];rfl
 obtain⟨N,c,-⟩:=J.any;have c:=e _ c;exact⟨f,by rw[c];rfl,by rw[c];rfl,h.at_ _ _ f⟩
def WR.cell(h:WR J w Q)(i:∀b,Fm J b->a'=ra b a)(b:Mp)(j:Fm J b):ap Q a'=(ap w a).map (rv b)/\cE Q a'=cE w a/\Q.shape? (cD a')=w.shape? (cD a):=by
 obtain⟨l,d,e,k,f,g,c⟩:=h.ob i;have c:=c b j;cases k<;>simp[nC] at g<;>simp only[ro] at c<;>simp[ap,cE,World.shape?,f,c,d,e]
 split<;>simp
end
def fz (b e:Nat):cz->cz
 |aq f g (d,c)=>aq f g (if d==c then(b,b+e) else(min d b,max c<|b+e))
 |o=>o
def sc (d:Nat)(s:Option Nat)(v:F):cz->cz
 |aq b c e=>aq (if ni s then b else cS b d v) c e
 |o=>o
def Dm(c:Mp)(b d:Nat)(s:Option Nat)(v:F)(h:nC Ql=af):(nC (fz b d Ql)=af/\fz b d (ro c Ql)=ro c (fz b d Ql))/\nC (sc b s v Ql)=af/\sc b s (rv c v) (ro c Ql)=ro c (sc b s v Ql):=by
 cases Ql<;>simp[nC] at h<;>simp[fz,sc,ro,nC]
 split<;>simp
theorem NS{g:Type}{m:Mode}{a:aL}{b:dh g}{w:ag}(d:∀c,v≠bZ c)(e:∀c,v≠cP c):(Sem.store m a v b).runT Qo w QS=match (ap w) a with
 |some _=>if cE w a then(.halt (.unsupported<|.unsafePointer "a write to bytes that a string shares") w,QS) else b.runT Qo (aY w a v)<|iz QS ⟨.cell a,af,m == .atomic⟩
 |none=>match w.farStore Qo a v (m == .atomic) with
  | .ok (w,f)=>b.runT Qo w (QS++f.toArray.map (⟨.cell ·,af,m == .atomic⟩))
  | .error h=>(.halt h w,QS):=by
 cases v<;>first|exact absurd rfl (d _)|exact absurd rfl (e _)|rfl
def runs{aa ab:Type}(hP:U Qo.globals=G.g){A:Mp->aa->ab->Prop}(s:dh aa):∀{J:ej G} (O:dh ab) (w Q:ag) (o F:Array ef),(∀b,Fm J b->SR Qo b (A b) s O)->WR J w Q->(∀g∈F,nK J g)->RR A J Q (s.runT Qo w o) (O.runT Qo Q F):=by
 induction s<;>intro J O w Q o F e d i<;>obtain⟨N,p,-⟩:=J.any<;>have u:=e _ p
 case halt f=>
  by_cases h:uj f=af;exact .dead h;simp only[SR,h,eN,false_or] at u;obtain⟨v,rfl,rfl⟩:=u;refine ai ⟨J,w,Q,o,F,d,Fr.refl _ _,i,ai ⟨v,_,rfl,rfl,λb c=>?_⟩⟩;have:=e b c;simp only[SR,h,eN,false_or] at this;have⟨ao,q,L⟩:=this;cases q;simpa using L
 all_goals cases O<;>simp only[SR] at u
 case pure.pure a D=>exact ai ⟨J,w,Q,o,F,d,Fr.refl _ _,i,av ⟨a,D,rfl,rfl,λb c=>e b c⟩⟩
 case load.load m a n gk T a' l=>
  have C:=λb c=>(e b c).2.1;obtain⟨h,-,-,x,k,j,-⟩:=d.ob C;cases y:ap w a with
  |none=>
   have:w.farLoad Qo a (m == .atomic)= .error (.stuck "load: no such cell"):=by cases x<;>simp[nC] at j<;>simp[World.farLoad,World.noCell,k]
   simp only[gQ,y,this];exact .dead Y
  |some v=>
   have B:∀b,Fm J b->ap Q a'=K (rv b v):=λb c=>by rw[(d.cell C b c).1,y];rfl
   simp only[gQ,y,B _ p];exact gk v _ w Q _ _ (λb c=>by have:=(e b c).2.2 v<|Cg hP λb c=>uX<|(B _ p).symm.trans<|B b c;rwa [uX<|(B b c).symm.trans<|B _ p] at this) d<|xT i ⟨_,h⟩
 case store.store m a v n gk T a' P l=>
  have C:=λb c=>(e b c).2.1;have B:=λb c=>(e b c).2.2.1;have⟨h,q,L,x,k,j,r⟩:=d.ob C;have y:=d.cell C _ p;by_cases H:(∃f,v=bZ f)\/∃f,v=cP f;rcases H with⟨f,rfl⟩|⟨f,rfl⟩<;>exact .dead rfl;have R:(∀f,v≠bZ f)/\∀f,v≠cP f:=⟨λf g=>H<|av ⟨f,g⟩,λf g=>H<|ai ⟨f,g⟩⟩;have W:(∀f,P≠bZ f)/\∀f,P≠cP f:=by rw[B _ p];cases v<;>simp at R ⊢
  rw[NS R.1 R.2,NS W.1 W.2,y.1,y.2.1];cases aw:ap w a with
  |none=>
   have:w.farStore Qo a v (m == .atomic)= .error (.stuck "store: no such cell"):=by cases x<;>simp[nC] at j<;>simp[World.farStore,World.noCell,k]
   simp only[this];exact .dead Y
  |some ao=>
   simp only[gE]
   split
   exact .dead Y;have z:=d.upd h (W':=aY Q a' P) (Dm (mp J N af) a.off 0 a.spot v j).2.1 (DN (sc a.off a.spot v) k) λb c=>by
    rw[<-(Dm b a.off 0 a.spot v j).2.2,<-q,<-L,<-B b c];exact DN (sc a'.off a'.spot P)<|r b c
   exact .after z.2<|gk _ _ _ _ _ (λb c=>(e b c).2.2.2) z.1<|xT i ⟨_,h⟩
 case new.new x n gk X l=>
  have⟨aE,al,k,j⟩:=d.new u.1 λb c=>(e b c).2.1;exact .after j<|gk _ _ _ _ _ _ (λb c=>by have:=(e b<|c.sub j.le).2.2<|U w.heap;rwa [c.on _ _ al] at this) k λg f=>(i g f).mono j.le
 case shape.shape I n gk E l=>
  simp only[gQ];have:=(d.cell (a:=⟨I,0,Z⟩) (a':=⟨E,0,Z⟩) (λb c=>gG<|(e b c).1) _ p).2.2;simp only at this;rw[this];exact gk _ _ _ _ _ _ (λb c=>(e b c).2 _) d i
 case freeze.freeze a V n gk a' M l=>
  obtain⟨rfl,-⟩:=u;have C:=λb c=>(e b c).2.1;have⟨h,q,L,x,k,j,r⟩:=d.ob C;simp only[gQ,World.freeze]
  split
  exact gk _ _ _ _ _ (λb c=>(e b c).2.2) d i;have z:=d.upd h (Dm (mp J N af) a.off M Z (ak af) j).1.1 (DN (fz a.off M) k) λb c=>by
   rw[<-(Dm b a.off M Z (ak af) j).1.2,<-q];exact DN (fz a'.off M)<|r b c
  exact .after z.2<|gk _ _ _ _ _ (λb c=>(e b c).2.2) z.1 i
 case frozen.frozen a n gk a' l=>
  simp only[gQ,(d.cell (λb c=>(e b c).1) _ p).2.1];exact gk _ _ _ _ _ _ (λb c=>(e b c).2 _) d i
 case getObj.getObj I n gk E l=>
  have h:J.f I=K E:=ej.dom λb c=>(e b c).1;have⟨x,k,j,r⟩:=d.at_ _ _ h;have t:=r _ p;cases x with
  |cells ad aC aD=>simp only[gQ,k];exact .dead Y
  |number D am=>
   simp only[ro] at t;simp only[gQ,k,t];have g:∀b,Fm J b->ra b D=ra (mp J N af) D:=λb c=>by have g:=(r b c).symm.trans t;simp only[ro,iG,aey] at g;exact g.1
   have ae:U Qo.globals<=cD D:=by rw[hP];exact(J.lo _ _<|ej.dom λb c=>bq<|congrArg cD<|g b c).1
   exact gk _ _ _ _ _ _ (λb c=>by have:=(e b c).2.1 D am ae;rwa [g b c] at this) d<|xT i ⟨_,h⟩
  |map o V=>
   simp only[ro] at t;simp only[gQ,k,t];have g:∀b,Fm J b->o.map (re b)=o.map (re<|mp J N af):=λb c=>by have g:=(r b c).symm.trans t;simp only[ro,iG,Obj.map.injEq] at g;exact g.1
   have y:o.map (re<|iU Qo)=o:=aB (Array.map_congr_left λf H=>by
    have q:=λb c=>Array.map_inj_left.1 (g b c) f H;simp only[re,aew] at q;show re (iU Qo) f=f;simp only[re];rw[Cg hP λb c=>(q b c).1.symm,Cg hP λb c=>(q b c).2.1.symm])<|Array.map_id _
   exact gk _ _ _ _ _ _ (λb c=>by have:=(e b c).2.2 o V y;rwa [g b c] at this) d<|xT i ⟨_,h⟩
  |_=>simp[nC] at j
 case setObj.setObj I x n gk E X l=>
  have h:J.f I=K E:=ej.dom λb c=>(e b c).1;have⟨an,k,j,r⟩:=d.at_ _ _ h;have t:=r _ p;have S:=d.lt h;have z:=d.upd h u.2.1 (Oo x S.1) (W':={Q with heap:=cS Q.heap E X}) λb c=>bV ((e b c).2.2.1)<|Oo _ S.2;cases an<;>simp[nC] at j<;>simp only[ro] at t<;>simp only[gQ,k,t]<;>first|exact .dead rfl|exact .after z.2<|gk _ _ _ _ _ (λb c=>(e b c).2.2.2) z.1<|xT i ⟨_,h⟩
 case choose.choose az n gk aA l=>
  obtain⟨rfl,-⟩:=u;simp only[gQ,d.tape,d.drawn]
  split
  exact gk _ _ _ _ _ _ (λb c=>(e b c).2 _) d i;exact .after (σ:=J) (w1':={Q with tape:=w.tape,drawn:=w.drawn+1}) ⟨λ_ _ e=>e,rfl,rfl,bq d.tape,aZ _,λ_ _ _=>rfl,λ_ _ e=>av e⟩<|gk _ _ {w with drawn:=w.drawn+1} _ _ _ (λb c=>(e b c).2 _) ⟨d.gl,d.gr,d.at_,rfl,rfl,d.os⟩ i
 case sys.sys ad n gk ar l=>
  obtain⟨rfl,rfl,-⟩:=u;show RR A J Q ((n<|.strings w.os.env).runT Qo w _) ((l<|.strings Q.os.env).runT Qo Q _);rw[d.os];exact gk _ _ _ _ _ _ (λb c=>(e b c).2.2 _) d<|xT i trivial
 case program.program n gk l=>exact gk Qo (l Qo) _ _ _ _ (λb c=>e b c) d i
 case mark.mark m n gk T l=>
  obtain⟨rfl,rfl,-⟩:=u;exact gk l _ _ _ _ (λb c=>(e b c).2.2) d<|xT i Y
end
def plainKey(P:bn):Nat->aP->Bool
 |0,_=>af
 |d+1,c=>match (g9 P) c with
  |some (.interface _)=>aj
  |some (.array _ a)=>plainKey P d a
  |some (.struct b)=>dI b.toList λf=>plainKey P d f.type
  |_=>af
def tw:Nat->F->Bool
 |_,ak _|_,aJ _ _|_,ay _|_,cU Z|_,ah Z _ _|_,.map Z|_,fZ Z|_,.nilFunc|_,.nilIface=>af
 |n+1,.iface _ v=>tw n v
 |n+1,bZ a|n+1,cP a=>dI a.toList<|tw n
 |_,_=>aj
def LR(π:Mp)(b:Nat):∀v,tw b v=af->rv π v=v:=by
 have f:∀(m:Nat) (c:Array F),(∀v,tw m v=af->rv π v=v)->dI c.toList (tw m)=af->c.map (rv π)=c:=λm c gk a=>by
  apply Array.ext';rw[rM];exact aB (vZ λv g=>gk v<|fA.1 a v g)<|List.map_id _
 induction b with
 |zero=>intro v a;cases v using vc<;>simp_all [tw];rename_i d;cases d<;>simp_all [tw]
 |succ b gk=>
  intro v a;cases v using vc
  case agg e=>rw[rv];exact congrArg _<|f b e gk a
  case tuple e=>rw[rv];exact congrArg _<|f b e gk a
  case chan d=>cases d<;>simp_all [tw]
  all_goals simp_all [tw]
def iO (G:ji):eg->Bool
 | .tmp _=>af
 | .const v=>tw 6 v
 | .global _=>aj
 | .func f=>G.b f
def A5 (P:bn)(a:Builtin)(c:Array aP):Bool:=
 match a with
 | .append=>match c[1]? with
  |some b=>(match (g9 P) b with|some (.int _)=>aj|_=>af)
  |none=>af
 | .copy| .len| .recover| .unsafeString=>af
 |_=>aj
def zN (G:ji)(P:bn)(a:Call):Bool:=
 dI a.args.toList (iO G)&&match a.callee with
  | .builtin b=>A5 P b a.argTypes
  | .value f=>iO G f
  | .invoke _ _=>aj
def A8 (P:bn)(a:aP):Bool:=match (g9 P) a with|some (.int _)=>af|_=>aj
def zT (P:bn)(b:aP):Bool:=match (g9 P) b with|some (.map a _)=>plainKey P 10000 a|_=>af
def sx (G:ji)(P:bn):Op->Bool
 | .move a| .assign a| .box _ a| .load _ a| .nilCheck a| .unOp _ _ a| .makeInterface _ a| .fieldAddr _ a _| .field _ a _| .extract a _| .panic a=>iO G a
 | .pick c b h=>iO G c&&iO G b&&iO G h
 | .alloc _=>af
 | .build _ g| .buildSlice _ _ g=>dI g.toList λn=>iO G n.2
 | .store _ b v| .binOp _ _ b v _| .makeSlice _ b v| .indexAddr _ b v| .index _ b v=>iO G b&&iO G v
 | .convert s j a=>iO G a&&A8 P s&&A8 P j
 | .makeFunc fn first i=>(match fn with| .func f=>G.b f|_=>aj)&&dI first.toList (iO G)&&dI i.toList (iO G)
 | .makeMap _ o=>dI o.toList<|iO G
 | .slice _ a l k m=>iO G a&&dI l.toList (iO G)&&dI k.toList (iO G)&&dI m.toList (iO G)
 | .lookup d b v _=>zT P d&&iO G b&&iO G v
 | .mapUpdate d m e v| .insert d m e v=>zT P d&&iO G m&&iO G e&&iO G v
 | .call c| .defer c=>zN G P c
 |_=>aj
def oW (G:ji)(P:bn):cQ->Bool
 |iB _ e _=>dI e.toList λd=>sx G P d.op
 |aS a b=>oW G P a&&oW G P b
 | .cond c a b=>iO G c&&oW G P a&&oW G P b
 |fT _ a| .loop a| .scope a=>oW G P a
 |ey| .exit _| .label _| .ret=>af
 | .rangeFunc _ _ _ _| .goto _| .refuse _=>aj
def hY (G:ji)(P:bn):ez->Bool
 |bJ a|gx a| .inScope a=>oW G P a
 |fh _=>af
 |bY c _=>dI c.toList λb=>sx G P b.op
 |_=>aj
def um (P:bn):Target->Bool
 | .fn _ _| .nil=>af
 | .builtin a b _ _=>A5 P a b
 |_=>aj
def rt (π:Mp):Target->Target
 | .fn f a=>.fn (π.h f)<|a.map<|rv π
 |t=>t
def rd (π:Mp)(a:Deferred):Deferred:=⟨rt π<|gX a,a.args.map<|rv π⟩
def rn (π:Mp):Next->Next
 |fi v=>fi<|rv π v
 | .enter f b=>.enter f<|b.map<|rv π
 | .defer a=>.defer<|rd π a
 |n=>n
def oZ (G:ji)(P:bn):Next->Bool
 |fi _| .skip| .recover=>af
 | .enter f _=>G.b f
 | .defer a=>um P<|gX a
 |_=>aj
def rp (π:Mp)(a:py):py:={a with v:=rv π a.v}
def rm (π:Mp):FrameMode->FrameMode
 |jx a=>jx<|a.map<|rp π
 |m=>m
def rf (π:Mp)(a:aO):aO:={a with tmps:=a.tmps.map<|rv π,defers:=a.defers.map<|rd π,mode:=rm π<|ea a}
structure Fo(G:ji)(P:bn)(fn:gw)(td:List ez)(ds:List Deferred)(kd:CallKind)(rd:Option Nat):Prop where
 may:G.b fn=af
 todo:dI td (hY G P)=af
 xR:∀d∈ds,um P (gX d)=af
 kinds:kd=dM\/kd= .deferred
 round:rd=Z
abbrev eB(G:ji)(P:bn)(a:aO):Prop:=Fo G P a.fn a.todo (oH a) (dj a)<|nO a
def jS:CallKind->List aO->Prop
 |k,[]=>k=dM
 |_,f::a=>jS (dj f) a
section
variable{π:Mp}{G:ji}
def Bv(b:∀f,G.b f=af->π.h (.func f)= .func f)(a:aO)(hx:iO G Qq=af):(rf π a).eval Qq=rv π (a.eval Qq):=by
 cases Qq with
 |tmp c=>simp only[Frame.eval,rf,jh,pq];cases a.tmps[c]? <;>simp[bR]
 |const v=>exact bq<|LR π 6 v hx
 |global d=>cases hx
 |func f=>simp[Frame.eval,b f hx]
def yx(a:aO)(v:F)(h:dI a.todo (hY G P)=af):dR (rf π a) (rv π v)=rf π (dR a v):=by
 unfold dR;rw[show(rf π a).todo=a.todo from rfl];cases d:a.todo with
 |nil=>rfl
 |cons b f=>
  rw[d] at h;cases b<;>first|rfl|(simp[hY] at h;done)|skip
  rename_i e c;cases c with
  |nil=>rfl
  |cons b c=>
   dsimp only;cases(e[b]?).bind (·.dst)<;>simp[rf]
def GD(a:aO)(b:List py):jF (rf π a) (b.map<|rp π)=rf π (jF a b):=by
 unfold jF;cases c:ea a<;>simp[rf,rm,c]
def GB(f:gw)(b:Array F)(a:CallKind):eT P f (b.map<|rv π) a=rf π (eT P f b a):=by
 simp[eT,rf,rm,bR]
end
section
variable{J:Mp}{H R O Q:Type}{A:H->R->Prop}{B:O->Q->Prop}
def zX(a:aP):SR P J (λb c=>c=b/\g9 P a=K b) (rq a) (rq a):=by
 unfold rq;refine sk ?_;split<;>first|exact(⟨rfl,by assumption⟩:_/\_)|exact sd
def KA(d:Bool)(a:Nat):∀c v,plainKey P a c=af->SR P J (E λg=>g) (yU d a c v) (yU d a c<|rv J v):=by
 induction a with
 |zero=>exact λ_ _ _=>su
 |succ a e=>
  intro c v b;unfold yU;refine(zX c).bind ?_;rintro _ k ⟨rfl,j⟩;unfold plainKey at b;rw[j] at b;cases k with
  |interface o=>cases b
  |struct m=>
   cases v using vc<;>simp only[rv]<;>try exact sd
   refine sb (FI λf i l=>?_) λ_=>sp Y;have gk:=λv=>e f.type v<|fA.1 b f i;exact au
  |array n h=>
   have gk:=λv=>e h v b;cases v using vc<;>simp only[rv]<;>first|exact sd|exact au
  |_=>cases v using vc<;>simp only[rv]<;>exact sp Y
def aaf(a:TypeDesc)(b c:F):Instr.sameNow a (rv J b) (rv J c)=Instr.sameNow a b c:=by
 cases a<;>first|rfl|(cases b using vc<;>simp only[rv]<;>first|rfl|(cases c using vc<;>simp only[rv]<;>rfl))
def Uf(f:TypeDesc)(d:F)(a:List MapEntry):∀b,Instr.findNow f (rv J d) (a.map<|re J) b=(Instr.findNow f d a b).map (Option.map λe=>(e.1,rv J e.2)):=by
 induction a with
 |nil=>exact λ_=>rfl
 |cons c a gk=>
  intro b;simp only[kY,Instr.findNow];rw[show(re J c).key=rv J c.key from rfl,aaf]
  split<;>first|rfl|exact gk _
def V1(f:Kx P J)(d:aP)(g:rv (iU P) v=v)(a:List MapEntry):∀c,a.map (re<|iU P)=a->SR P J (E<|Option.map λe=>(e.1,rv J e.2)) (Instr.findAsking d v a c) (Instr.findAsking d (rv J v) (a.map<|re J) c):=by
 induction a with
 |nil=>exact λ_ _=>sp Y
 |cons i a gk=>
  intro c b;simp only[kY,List.cons.injEq] at b;simp only[kY,Instr.findAsking];refine sb (FF f d g<|congrArg MapEntry.key b.1) λh=>?_
  split
  .exact sp Y
  .exact gk _ b.2
def KC(d:Kx P J)(b:aP)(f:rv (iU P) v=v){a:List MapEntry}(e:a.map (re<|iU P)=a):SR P J (E<|Option.map λc=>(c.1,rv J c.2)) (yV b v a) (yV b (rv J v)<|a.map<|re J):=by
 unfold yV;refine sb (rF _) λg=>?_;rw[Uf];cases Instr.findNow g v a 0
 .exact V1 d b f a 0 e
 .exact sp Y
def Ly(c:Kx P J)(a b:Option aL):(a.map (ra J)==b.map (ra J))=(a==b):=by cases a<;>cases b<;>first|rfl|exact C3 c _ _
def aae(c:Kx P J)(d:Nat):∀a b,Instr.sameBits d (rv J a) (rv J b)=Instr.sameBits d a b:=by
 induction d with
 |zero=>intro a b;cases a<;>cases b<;>simp only[rv,Instr.sameBits,Ly c,CP c]
 |succ d gk=>
  intro a b;cases a<;>cases b<;>simp only[rv,Instr.sameBits,Ly c,CP c,gk];simp only[Array.size_map,rM,List.zip_map,List.all_map,sU,Prod.map,gk]
def KG(c:Kx P J)(a b:F):SR P J (E<|rv J) (Instr.keyThatStays a b) (Instr.keyThatStays (rv J a)<|rv J b):=by
 unfold Instr.keyThatStays;rw[aae c]
 split
 .exact sp Y
 .exact sb (CD _) λd=>sp (by split<;>rfl)
def VJ(a:Array MapEntry)(b:Nat)(c:F):(((a.map<|re J)[b]?).map (·.key)).getD (rv J c)=rv J (((a[b]?).map (·.key)).getD c):=by
 rw[pq];cases a[b]? <;>rfl
def W3(b:Array MapEntry)(c:Nat)(d v:F):(b.map<|re J).modify c (λa=>{a with key:=rv J d,val:=rv J v})=(b.modify c λa=>{a with key:=d,val:=v}).map (re J):=by
 apply Array.ext (by simp);intro g e f;simp only[Array.getElem_modify,Array.getElem_map]
 split<;>rfl
def V8(i:Kx P J)(e:aP)(h:F)(m:rv (iU P) x=x)(c:Bool)(g:zT P e=af):SR P J (E<|rv J) (Instr.lookup e h x c) (Instr.lookup e (rv J h) (rv J x) c):=by
 unfold Instr.lookup;refine(zX e).bind ?_;rintro _ o ⟨rfl,n⟩;unfold zT at g;rw[n] at g;cases o<;>try exact sd
 rename_i b j;have k:∀a:Array MapEntry,a.map (re<|iU P)=a->SR P J (E<|rv J) (do
  yU a.isEmpty 10000 b x
  let (v,d) <-match <-yV b x (dY a) with
   |some (_,v)=>pure (v,af)
   |none=>pure (<-lG j,aj)
  pure (if c then cP #[v,ak d] else v)) (do
  yU (a.map<|re J).isEmpty 10000 b (rv J x)
  let (v,d) <-match <-yV b (rv J x) (dY<|a.map<|re J) with
   |some (_,v)=>pure (v,af)
   |none=>pure (<-lG j,aj)
  pure (if c then cP #[v,ak d] else v)):=λa f=>by
  rw[rM,show(a.map<|re J).isEmpty=a.isEmpty by simp[Array.isEmpty]];refine sb (KA _ _ b x g) λ_=>sb (KC i b m<|by rw[<-rM,f]) λd=>?_;cases d with
  |none=>exact sb (Bc i _) λq=>sp (by cases c<;>simp)
  |some p=>exact sp (by cases c<;>simp)
 cases h using vc<;>simp only[rv,gE,nR]<;>try exact sd
 .have l:=k #[] (by simp);rw[Array.map_empty] at l;exact l
 .exact x7 (λ_ _ _=>sd) λa _ f=>k a f
def Wa(c:Kx P J)(a:aP)(m:F)(g:rv (iU P) x=x)(v:F)(b:zT P a=af):SR P J (E λf=>f) (Instr.mapUpdate a m x v) (Instr.mapUpdate a (rv J m) (rv J x)<|rv J v):=by
 unfold Instr.mapUpdate;refine(zX a).bind ?_;rintro _ k ⟨rfl,i⟩;unfold zT at b;rw[i] at b;cases k<;>try exact sd
 cases m using vc<;>simp only[rv,gE,nR]<;>try exact sd
 .exact wH
 .refine x7 (λ_ _ _=>sd) λd e h=>?_;dsimp only;rw[rM];refine sb (KA _ _ _ x b) λ_=>sb (KC c _ g<|by rw[<-rM,h]) λj=>?_;cases j with
  |none=>
   simp only[nR];rw[show iz (d.map<|re J) {key:=rv J x,val:=rv J v,born:=e}=(iz d {key:=x,val:=v,born:=e}).map (re J) by simp[re]];exact FL Y
  |some l=>
   simp only[gE,VJ];refine sb (KG c _ _) λx=>?_;rw[W3];exact FL Y
end
section
variable{π:Mp}
def FJ(v:F):SR P π (E λa=>a) (uL v) (uL<|rv π v):=by unfold uL;exact au
def Ba(s a:Nat)(v:F):SR P π (E<|Array.map<|rv π) (uK s a v) (uK s a<|rv π v):=by
 unfold uK;cases v using vc<;>simp only[rv,gE,nR]<;>first|exact sd|exact sp (by simp[sU])|exact au
def V4(a:aL)(b:Nat):SR P π (E λa=>a) (Builtin.holdsCells a b) (Builtin.holdsCells (ra π a) b):=by unfold Builtin.holdsCells;exact au
def KJ(d:Kx P π)(s m b:Nat)(a:Option aL)(v:F):SR P π (E λc=>c) (AL s m b a v) (AL s m b (a.map<|ra π)<|rv π v):=by
 unfold AL;cases a<;>cases v using vc<;>simp only[rv,gE,nR,Option.any_some,Option.any_none]<;>exact au
def V5(b:Nat):∀(a:aL) (c:ByteArray),SR P π (E λa=>a) (loadBytes a c b) (loadBytes (ra π a) c b):=by
 induction b with
 |zero=>exact λ_ _=>sp Y
 |succ b gk=>intro a c;unfold loadBytes;rw[yo];exact au
def Wv(a:aL)(c:aP)(b:Nat):SR P π (E λa=>a) (variablesAt a c b) (variablesAt (ra π a) c b):=by unfold variablesAt;exact au
def X6(h:Array aP)(g:aP)(d:Array F):SR P π (E<|rv π) (Builtin.unsafeString_ h g d) (Builtin.unsafeString_ h g<|d.map<|rv π):=by
 unfold Builtin.unsafeString_;obtain⟨f⟩:=d;rcases f with _|⟨e,_|⟨c,_|⟨j,f⟩⟩⟩<;>try exact sd
 rw[show(Array.mk [e,c]).map (rv π)=#[rv π e,rv π c] by simp];have i:=λa b=>V5 (P:=P) (π:=π) b a .empty;cases e using vc
 case nilp=>rw[show rv π (cU Z)=cU Z by simp];refine sb (A9 c) λb=>?_;exact au
 case ptr a=>rw[show rv π (cU<|K a)=cU (K<|ra π a) by simp];refine sb (A9 c) λb=>?_;have gk:=i a<|Int.toNat b;exact au
 all_goals exact sd
def XU(a:Array aP)(d:aP)(c:Array F):SR P π (E<|rv π) (Builtin.len_ a d c) (Builtin.len_ a d<|c.map<|rv π):=by
 unfold Builtin.len_;rw[pq];cases a[0]? <;>cases c[0]? <;>simp only[gE,nR]<;>try exact sd
 rename_i f;refine sb (rF _) λb=>?_;cases b<;>cases f using vc<;>simp only[rv,gE,nR]<;>first|exact sd|exact sp (by simp[goInt])|exact x7 (λ_ _ _=>sd) (λ_ _ _=>sd)|exact x7 (λ_ _ _=>sd) (λ_ _ _=>sp<|by simp[goInt])|exact sb (rF _) λb=>(by cases b<;>first|exact sd|exact sp<|by simp[goInt])|(rename_i e;cases e<;>first|exact sp (by simp[goInt])|exact x7 (λ_ _ _=>sd) λ_ _ _=>sd)
def XN(b:Array aP)(c:aP)(a:Array F):SR P π (E<|rv π) (sV b c a) (sV b c<|a.map<|rv π):=by
 unfold sV;rw[pq,pq];cases b[0]? <;>cases a[0]? <;>cases a[1]? <;>simp only[gE,nR]<;>try exact sd
 rename_i e h;refine sb (rF _) λd=>?_;cases d<;>try exact sd
 cases e using vc<;>simp only[rv,gE,nR]<;>try exact sd
 all_goals
  refine sb (FJ _) λg=>sb (wI _) λs=>sb (Ba _ _ _) λf=>?_;try rw[rM]
  first|exact sp (by simp[goInt])|exact sb (FN _ _ _) λ_=>sp (by simp[goInt])
def aeh(a:Array F)(b:Nat):Builtin.zeroCells (a.map<|rv π) b=(Builtin.zeroCells a b).map (rv π):=by
 unfold Builtin.zeroCells;rw[Array.size_map];exact(by simpa using zr (π:=π) a<|b*U a)
def XG(k:Kx P π)(h:Array aP)(p:aP)(j:Array F)(g:A5 P .append h=af):SR P π (E<|rv π) (Builtin.append_ h p j) (Builtin.append_ h p<|j.map<|rv π):=by
 unfold Builtin.append_;rw[pq,pq];cases h[0]? <;>cases j[0]? <;>cases j[1]? <;>simp only[gE,nR]<;>try exact sd
 rename_i s e;refine sb (rF _) λx=>?_;cases x<;>try exact sd
 rename_i f;have i:∀(b:Option aL) (m c a:Nat),SR P π (E<|rv π) (uL e >>= λd=>Cc.zu f a m d c b e) (uL (rv π e) >>= λd=>Cc.zu f a m d c (b.map<|ra π)<|rv π e):=λb m c a=>by
  refine sb (FJ _) λd=>?_;have u:SR P π (E<|rv π) (Cc.x2 f a m d c b e) (Cc.x2 f a m d c (b.map<|ra π)<|rv π e):=by
   unfold Cc.x2;refine sb (CD _) λz=>sb (Bb _) λo=>sb (Kz _) λ_=>?_;have n:=Ba (P:=P) (π:=π) a m<|ah b m c;simp only[rv] at n;refine sb n λq=>sb (Ba _ _ _) λr=>sb (Bc k _) λB=>?_;rw[yA,aeh,<-Array.map_append,<-Array.map_append];exact sb (CF _ _) λA=>sp aI
  have v:SR P π (E<|rv π) (Cc.xZ f a m d c b e) (Cc.xZ f a m d c (b.map<|ra π)<|rv π e):=by
   unfold Cc.xZ;refine sb (Bb _) λo=>?_
   split
   refine Dv<|sb (KJ k _ _ _ _ _) λr=>?_
   split
   exact⟨rfl,rfl,av Y⟩;exact sub;exact u
  unfold Cc.zu
  split
  refine sb (Ba _ _ _) λq=>?_;cases b with
  |none=>exact sp aI
  |some l=>
   simp only[gE,yo,rM];exact sb (FN _ _ _) λ_=>sp aI
  refine sb (Bb _) λo=>?_
  split
  exact KR;exact v
 unfold A5 at g;cases s using vc<;>simp only[rv,gE,nR]<;>try exact sd
 all_goals
  refine sb (wI _) λa=>?_;cases w:h[1]? with
  |none=>
   simp only[pure_bind,eN,if_false,Bool.not_false,if_true]
   first|exact i Z _ _ a|exact i (K _) _ _ a
  |some y=>
   rw[w] at g;refine(zX y).bind ?_;rintro _ l ⟨rfl,t⟩;dsimp only at g;rw[t] at g;cases l<;>first|(cases g;done)|skip
   all_goals
    simp only[pure_bind,eN,if_false,Bool.not_false,if_true]
    first|exact i Z _ _ a|exact i (K _) _ _ a
end
section
variable{J:Mp}
def FG(a:kE)(b:od)(c d:Nat):SR P J (E<|rv J) (Op.floatArith a b c d) (Op.floatArith a b c d):=by
 unfold Op.floatArith;cases a<;>exact au
def FH(b:kE)(a:od)(c d:Nat):SR P J (E<|rv J) (Op.floatCmp b a c d) (Op.floatCmp b a c d):=by unfold Op.floatCmp;exact au
def VQ(b:kE)(a:od)(c d:Nat):SR P J (E λe=>e) (BS b a c d) (BS b a c d):=by
 unfold BS;refine sb (FG _ _ _ _) λv=>?_;cases v using vc<;>exact au
def VS(b:kE)(a:od)(c d:Nat):SR P J (E λe=>e) (D3 b a c d) (D3 b a c d):=sb (FH _ _ _ _) λ_=>FD _
def VT(a:od)(c:Nat)(b:od):SR P J (E λa=>a) (BT a c b) (BT a c b):=by
 unfold BT
 split
 .exact sp Y
 .refine sb (F:=rv J) ?_ λv=>?_
  .unfold Conv.floatToFloat;exact au
  .cases v using vc<;>exact au
def VU(a:kE)(f:od)(b c d e:Nat):SR P J (E<|rv J) (Op.complexOp a f b c d e) (Op.complexOp a f b c d e):=by
 unfold Op.complexOp Ii Ij O4 Ik Ih Ig O5;cases a<;>first|exact sd|exact au
def zW(c:kE)(d e:oe)(a b:Int):SR P J (E<|rv J) (Op.shift c d a e b) (Op.shift c d a e b)/\SR P J (E<|rv J) (Op.intArith c d a b) (Op.intArith c d a b)/\SR P J (E<|rv J) (Op.intDiv c d a b) (Op.intDiv c d a b)/\SR P J (E<|rv J) (Op.intBits c d a b) (Op.intBits c d a b)/\SR P J (E<|rv J) (Op.intCmp c a b) (Op.intCmp c a b):=by
 unfold Op.shift Op.intArith Op.intDiv Op.intBits Op.intCmp;refine⟨?_,?_,?_,?_,?_⟩<;>exact au
def Wq(c:kE)(a b:ByteArray):SR P J (E<|rv J) (Op.stringOp c a b) (Op.stringOp c a b):=by unfold Op.stringOp;exact au
def Kv(c:kE)(e:U P.globals<=cD R)(g:U P.globals<=cD qQ):SR P J (E<|rv J) (do Op.addrSub .u64 (<-ki R).1 (<-ki qQ).1) (do Op.addrSub .u64 (<-ki (ra J R)).1 (<-ki (ra J qQ)).1)/\SR P J (E<|rv J) (do Op.addrCmp c (<-ki R).1 (<-ki qQ).1) (do Op.addrCmp c (<-ki (ra J R)).1 (<-ki (ra J qQ)).1):=by
 unfold Op.addrSub Op.addrCmp;have b:∀{f a:Nat×Nat->dh F},SR P J (E<|rv J) (do f (<-Op.twoPlaces (<-ki R).1 (<-ki qQ).1)) (do a (<-Op.twoPlaces (<-ki (ra J R)).1 (<-ki (ra J qQ)).1)):=λ{f a}=>by
  refine(zV e).bind ?_;rintro j _ ⟨rfl,h⟩;refine(zV g).bind ?_;rintro k _ ⟨rfl,i⟩;exact(Wt (A:=λ_ _=>False) h).bind λ_ _ d=>ff d
 exact⟨b,b⟩
def KL(a:oe)(b:Int)(d:U P.globals<=cD R):SR P J (E<|rv J) (do Op.addrMod a (<-ki R).1 b) (do Op.addrMod a (<-ki (ra J R)).1 b):=(zV d).bind λe _ c=>by rw[c.1];exact VN _ _ _
def XH(c:Kx P J)(b:kE)(a:aP)(hx:rv (iU P) v=v)(hy:rv (iU P) x=x):SR P J (E<|rv J) (binOp b a v x) (binOp b a (rv J v)<|rv J x):=by
 have h:SR P J (E<|rv J) (do pure (ak<|<-Op.equal a v x)) (do pure (ak<|<-Op.equal a (rv J v) (rv J x))):=sb (FF c a hx hy) λ_=>sp (by simp);have i:SR P J (E<|rv J) (do pure (ak<|!(<-Op.equal a v x))) (do pure (ak<|!(<-Op.equal a (rv J v) (rv J x)))):=sb (FF c a hx hy) λ_=>sp (by simp);have d:=FK (π:=J) a x hx;have e:=FK (π:=J) a v hy;have f:=Wc (P:=P) (π:=J) a v x;have g:=λj k=>FK (π:=J) a (aJ j k) hx;unfold binOp;cases v using vc<;>cases x using vc<;>simp only[rv,gE,nR] at h i d e f g ⊢<;>cases b<;>first
  |exact sd
  |exact su
  |exact h
  |exact i
  |exact e
  |exact g _ _
  |exact Wq _ _ _
  |exact(Kv .add (vl hx)<|vl hy).1
  |exact(Kv _ (vl hx)<|vl hy).2
  |exact KL _ _<|vl hx
  |exact KL _ _<|vl hy
  |(refine sb (rF _) λl=>?_;cases l<;>first|exact d|exact f)
  |((try dsimp only);split<;>first|exact sd|exact(zW _ _ _ _ _).1|exact(zW _ _ .i8 _ _).2.1|exact(zW _ _ .i8 _ _).2.2.1|exact(zW _ _ .i8 _ _).2.2.2.1|exact(zW _ .i8 .i8 _ _).2.2.2.2|exact FG _ _ _ _|exact FH _ _ _ _|exact VU _ _ _ _ _ _)
  |exact(zW _ _ _ _ _).1
end
section
variable{π:Mp}{G:ji}
def NR (G:ji)(P:bn)(π:Mp)(a b:Next):Prop:=b=rn π a/\oZ G P a=af
def sq{d e:Type}{a:d->e->Prop}{b:d}{c:e}(h:a b c):SR P π a (Pure.pure b) (Pure.pure c):=h
def nv{s a:dh F}(h:SR P π (E<|rv π) s a):SR P π (NR G P π) (do pure (fi<|<-s)) (do pure (fi<|<-a)):=sb h λv=>(⟨rfl,rfl⟩:_/\_)
def nk{s a:dh Unit}(h:SR P π (E λb=>b) s a):SR P π (NR G P π) (do s;pure .skip) (do a;pure .skip):=sb h λv=>(⟨rfl,rfl⟩:_/\_)
def XL(g:Kx P π)(d:Builtin)(a:Array aP)(b:aP)(e:Array Bool)(f:A5 P d a=af)(c:Array F):SR P π (NR G P π) (builtin d a b e c) (builtin d a b e<|c.map<|rv π):=by
 unfold builtin;cases d<;>first
  |(cases f;done)
  |exact nv<|XN a b c
  |exact nv<|XU a b c
  |exact nv<|X6 a b c
  |exact nv<|XG g a b c f
  |exact(⟨rfl,rfl⟩:_/\_)
structure rN(G:ji)(P:bn):Prop where
 g:U P.globals=G.g
 z:∀t i v,P.info? t=K i->jH i=K v->∀ π,rv π v=v
 b:∀f,G.b f=af->∃fn c,P.funcs[f]? =K fn/\fn.body=K c/\oW G P c=af/\(fn.name == "runtime.NumGoroutine")=aj
def Lj(n:rN G P)(h:Kx P π)(o:∀f,G.b f=af->π.h (.func f)= .func f){b:Target}(g:um P b=af)(p:∀f c,b= .fn f c->∃a,f= .func a/\G.b a=af)(e:Array F):SR P π (NR G P π) (invoke b e) (invoke (rt π b)<|e.map<|rv π):=by
 unfold invoke;cases b with
 |nil=>exact wH
 |builtin i q b j=>exact XL h i q b j g e
 |fn f c=>
  obtain⟨a,rfl,d⟩:=p f c rfl;obtain⟨fn,c,k,l,-,m⟩:=n.b a d;simp only[rt,o a d,callFunc,<-Array.map_append];refine sk ?_;show SR P π _ (match P.funcs[a]? with|none=>_|some fn=>_) (match P.funcs[a]? with|none=>_|some fn=>_);simp only[k,m,l,Option.isNone_some,eN,if_false];exact⟨rfl,d⟩
 |_=>cases g
def Lk(a:eg->F)(b:Call)(i:aP)(h:zN G P b=af):SR P π (λe k=>k=rd π e/\um P (gX e)=af/\∀f d,gX e= .fn f d->∃c j,b.callee= .value c/\a c= .func f j d) (m8 a b i) (m8 (λc=>rv π<|a c) b i):=by
 unfold m8;simp only[zN,fe] at h;have m:b.args.map (λc=>rv π<|a c)=(b.args.map a).map (rv π):=by simp[sU]
 dsimp only;rw[m];cases g:b.callee with
 |builtin o=>rw[g] at h;exact sq ⟨rfl,h.2,λf d a=>by cases a⟩
 |invoke q p=>rw[g] at h;cases h.2
 |value f=>
  dsimp only;unfold yR;generalize n:a f=v;cases v using vc<;>simp only[rv]
  case func=>exact sq ⟨by simp[rd,rt],rfl,λl d a=>by cases a;exact⟨f,_,rfl,n⟩⟩
  case nilf=>exact sq ⟨by simp[rd,rt],rfl,λl d a=>by cases a⟩
  all_goals exact sd
def XM(s a:aP)(v:F)(c:A8 P s=af)(b:A8 P a=af):SR P π (E<|rv π) (convert s a v) (convert s a<|rv π v):=by
 unfold convert;refine(zX s).bind ?_;rintro _ f ⟨rfl,d⟩;refine(zX a).bind ?_;rintro _ g ⟨rfl,e⟩;unfold A8 at c b;rw[d] at c;rw[e] at b;cases f<;>first|(simp at c;done)|skip
 cases g<;>first|(simp at b;done)|skip
 cases v using vc<;>simp only[rv,gE,nR]<;>first|exact sd|exact su|exact sp (by simp)|(unfold Conv.floatToInt;exact au)
def XZ(v:F):SR P π (E<|rv π) (Instr.panic v) (Instr.panic<|rv π v):=by
 unfold Instr.panic;cases v using vc<;>simp only[rv]<;>first|exact sd|exact sg (by simp)|skip
 refine sb (F:=λb=>b) ?_ λd=>?_
 .unfold Instr.panicnil;refine⟨rfl,rfl,λa=>?_⟩;show SR P π _ (match a with| .strings c=>_|_=>_) (match a with| .strings c=>_|_=>_)
  split<;>first|exact sd|exact rfl
 .split<;>first|exact sg (by simp)|exact wH
def XO(B:rN G P)(c:Kx P π)(o:∀f,G.b f=af->π.h (.func f)= .func f)(b:eg->F)(q:cC)(h:sx G P q.op=af)(n:∀a,iO G a=af->rv (iU P) (b a)=b a)(k:∀a f d p,b a= .func f d p->iO G a=af->∃i,f= .func i/\G.b i=af):SR P π (NR G P π) (bX b q) (bX (λa=>rv π<|b a) q):=by
 unfold bX;cases C:q.op<;>rw[C] at h<;>first|(cases h;done)|skip
 all_goals dsimp only
 case move|assign=>exact sq ⟨rfl,rfl⟩
 case pick=>exact sb (FD _) λj=>sq ⟨by cases j<;>rfl,rfl⟩
 case alloc=>exact nv<|XF c _
 case box=>exact nv<|XI _ _
 case build s m=>rw[show m.map (fun(e,a)=>(e,rv π<|b a))=(m.map fun(e,a)=>(e,b a)).map λl=>(l.1,rv π l.2) by simp[sU]];exact nv<|XJ c _ _
 case buildSlice s i m=>rw[show m.map (fun(e,a)=>(e,rv π<|b a))=(m.map fun(e,a)=>(e,b a)).map λl=>(l.1,rv π l.2) by simp[sU]];exact nv<|XK c _ _ _
 case load=>exact nv<|XV _ _
 case store=>exact nk<|X4 _ _ _
 case nilCheck a=>
  have k:=k a;generalize b a=v at k;cases v using vc<;>simp only[rv,gE,nR]<;>first|exact wH|exact sq ⟨by simp[rn],rfl⟩|skip
  obtain⟨i,rfl,u⟩:=k _ _ _ rfl h;rw[o i u];exact sq ⟨by simp[rn,o i u],rfl⟩
 case binOp=>simp only[sx,fe] at h;exact nv<|sb (VV _ _ _ _ _ _) λ_=>XH c _ _ (n _ h.1)<|n _ h.2
 case unOp=>exact nv<|X5 _ _
 case convert=>simp only[sx,fe] at h;exact nv<|XM _ _ _ h.1.2 h.2
 case makeInterface=>exact nv<|XW _ _
 case makeFunc fn d j=>
  simp only[sx,fe] at h;cases fn<;>first|(cases h.1.1;done)|skip
  exact nv (sp<|by simp[o _ h.1.1,sU])
 case makeMap s w=>rw[show w.map (λa=>rv π<|b a)=(w.map b).map (rv π) by simp[sU]];exact nv<|XX _ _
 case makeSlice=>exact nv<|XY c _ _ _
 case slice s a d j g=>rw[show d.map (λa=>rv π<|b a)=(d.map b).map (rv π) by simp[sU],show j.map (λa=>rv π<|b a)=(j.map b).map (rv π) by simp[sU],show g.map (λa=>rv π<|b a)=(g.map b).map (rv π) by simp[sU]];exact nv<|X3 _ _ _ _ _
 case fieldAddr=>exact nv<|XR _ _ _
 case field=>exact nv<|XQ _ _ _
 case indexAddr=>exact nv<|XT _ _ _
 case index=>exact nv<|XS _ _ _
 case lookup=>simp only[sx,fe] at h;exact nv<|V8 c _ _ (n _ h.2) _ h.1.1
 case mapUpdate|insert=>simp only[sx,fe] at h;exact nk<|Wa c _ _ (n _ h.1.2) _ h.1.1.1
 case extract=>exact nv<|XP _ _
 case panic=>exact nv<|XZ _
 case call g=>
  refine(Lk b g _ h).bind ?_;rintro x _ ⟨rfl,r,t⟩;refine Lj B c o r (λf p y=>?_) _;obtain⟨a,d,z,A⟩:=t f p y;simp only[sx,zN,fe,z] at h;exact k a f d p A h.2
 case defer g=>
  refine(Lk b g _ h).bind ?_;rintro x _ ⟨rfl,r,t⟩;exact sq ⟨rfl,r⟩
def T2{e b:eg->F}(n:∀a,iO G a=af->b a=e a)(c:cC)(h:sx G P c.op=af):bX b c=bX e c:=by
 unfold bX;have p:∀m:Array eg,dI m.toList (iO G)=af->m.map b=m.map e:=λm j=>Array.map_congr_left λa h=>n a<|fA.1 j a<|Array.mem_toList_iff.2 h;have t:∀l:Array (Nat×eg),(dI l.toList λg=>iO G g.2)=af->l.map (fun(k,a)=>(k,b a))=l.map fun(k,a)=>(k,e a):=λl j=>Array.map_congr_left λg h=>by
  have:=n g.2<|fA.1 j g<|Array.mem_toList_iff.2 h;have⟨k,a⟩:=g;dsimp only at this ⊢;rw[this]
 have s:∀i:Option eg,dI i.toList (iO G)=af->i.map b=i.map e:=λi j=>by cases i<;>simp_all
 have r:∀d:Call,zN G P d=af->m8 b d c.type=m8 e d c.type:=λd f=>by
  simp only[zN,fe] at f;unfold m8;rw[p _ f.1];cases o:d.callee<;>rw[o] at f<;>first|rfl|(dsimp only;rw[n _ f.2])|cases f.2
 cases q:c.op<;>rw[q] at h<;>first|(cases h;done)|(simp only[sx,fe] at h;dsimp only;simp only[*];done)|(simp only[sx] at h;dsimp only;rw[r _ h])
def V9{e:Type}{c d:e->dh F}(h:∀b,SR P π (E<|rv π) (c b)<|d b)(a:List e):SR P π (E<|List.map<|rv π) (a.mapM c) (a.mapM d):=by
 induction a with
 |nil=>exact rfl
 |cons b a gk=>rw[List.mapM_cons,List.mapM_cons];exact sb (h b) λv=>sb gk λ_=>sp Y
def KP(fn:cF)(a:Array F):SR P π (E<|rv π) (dB fn a) (dB fn<|a.map<|rv π):=by
 unfold dB;have d:∀c,cB (a.map<|rv π) c bR=rv π (cB a c bR):=λc=>by
  rw[jh,jh,pq];cases a[c]? <;>simp[bR]
 simp only[d];refine sb (F:=Array.map<|rv π) ?_ λg=>sp ?_;rw[Array.mapM_eq_mapM_toList,Array.mapM_eq_mapM_toList];refine sb (V9 (λe=>?_)<|dY fn.results) λi=>sp aI;cases e with
 |tmp f=>exact sp Y
 |cell h f=>exact sb (Kw _) λ_=>KI _ _
 by_cases b:U g=1;rw[dif_pos b,dif_pos<|cN b];simp;rw[dif_neg b,dif_neg<|cN b];simp
end
section
variable{G:ji}
def zo (g:bn)(iK gz:List aO)(p:ej G)(o:ag)(h k:GStep):Prop:=
 (∃m n c,h= .ended m n c)\/∃(b:ej G) (a:aO) (aU:List aO) (j d:ag) (c i:Array ef),h= .go (aX a<|aU++iK) j c/\WR b j d/\Fr p b o d/\(∀l∈i,nK b l)/\eB G g a/\(∀f∈aU,eB G g f)/\jS (dj a) aU/\∀e,Fm b e->k= .go (aX (rf e a)<|aU.map (rf e)++gz) d i
def mv (d:aO):Option (List ez):=match d.todo with
 |bJ ey::a|bJ (.label _)::a|fh _::a| .inScope _::a|bY _ []::a=>K a
 |bJ (aS b c)::a=>K<|bJ b::bJ c::a
 |bJ (fT id b)::a=>K<|bJ b::fh id::a
 |bJ (.loop b)::a|gx b::a=>K<|bJ b::gx b::a
 |bJ (.scope b)::a=>K<|bJ b :: .inScope b::a
 |bJ (.cond f b c)::a=>match d.eval f with
  |ak g=>K<|bJ (if g then b else c)::a
  |_=>Z
 |bJ (.exit id)::a=>jJ id a
 |bJ (iB _ e aj)::a=>K<|bY e (fp<|U e)::a
 |_=>Z
def K7{m:Bool}(h:ea Qg= .run)(a:mv Qg=K QO):cw Qo m (aX Qg Qj) w= .go (aX {Qg with todo:=QO} Qj) w:=by
 unfold mv at a
 split at a<;>first|cases a|skip
 all_goals simp[aX,cw,gd,h, *]
 split at a<;>simp_all
theorem E2{e:bn}{id:Nat}:∀{d c:List ez},dI d (hY G e)=af->jJ id d=K c->dI c (hY G e)=af
 | [],c,_,a=>by simp[jJ] at a
 |i::d,c,b,a=>by
  simp only[xw,fe] at b;cases i<;>simp only[jJ] at a<;>first
   |exact E2 b.2 a
   |(split at a
     .cases a;exact b.2
     .exact E2 b.2 a)
def Xd(h:dI Qg.todo (hY G Qo)=af)(a:mv Qg=K QO):dI QO (hY G Qo)=af:=by
 unfold mv at a
 split at a<;>(try rename_i b)<;>(try rw[b] at h)<;>(try simp only[xw,hY,oW,fe] at h)
 all_goals first
  |(cases a;done)
  |exact E2 h.2 a
  |(cases a;simp_all [hY,oW];done)
  |(split at a<;>cases a;rename_i c _;cases c<;>simp_all [hY,oW])
def Xf{a:Mp}(b:∀f,G.b f=af->a.h (.func f)= .func f)(h:dI Qg.todo (hY G Qo)=af):mv (rf a Qg)=mv Qg:=by
 unfold mv;rw[show(rf a Qg).todo=Qg.todo from rfl]
 split<;>first|rfl|skip
 rename_i c;rw[c] at h;simp only[xw,hY,oW,fe] at h;rw[Bv b Qg h.1.1.1];generalize Qg.eval _=v;cases v<;>simp only[rv]
def pR (P:bn)(fr:aO)(aU:List aO):Next->aO×List aO
 |fi v=>(dR fr v,aU)
 | .enter f c=>(eT P f c dM,fr::aU)
 | .defer a=>({fr with defers:=a::oH fr}.finish bR,aU)
 | .recover=>match kV fr aU with
  |some (v,b)=>(dR fr v,b)
  |none=>(dR fr .nilIface,aU)
 |_=>(dR fr bR,aU)
def pS (P:bn)(fr:aO)(aU:List aO):Next->aO×List aO
 | .enter f b=>(eT P f b .deferred,fr::aU)
 | .recover=>(fr,match (ea fr),kV fr aU with
  |jj,K (_,a)=>a
  |_,_=>aU)
 |_=>(fr,aU)
section
variable{J:Mp}{fr:aO}{aU Q:List aO}{w:ag}{m:Bool}
def Mb(a:dj fr=dM\/dj fr= .deferred)(c:jS (dj fr) aU):kV fr (aU++Q)=(kV fr aU).map λb=>(b.1,b.2++Q):=by
 rcases a with a|a
 .simp[kV,a]
 .cases aU with
  |nil=>simp[jS,a] at c
  |cons f d=>
   unfold kV;simp only[a,tV]
   split<;>rfl
def Me(a:dj fr=dM\/dj fr= .deferred):kV (rf J fr) (aU.map<|rf J)=(kV fr aU).map λb=>(rv J b.1,b.2.map<|rf J):=by
 rcases a with a|a
 .simp[kV,rf,a]
 .cases aU with
  |nil=>simp[kV,rf,a]
  |cons f g=>
   unfold kV;simp only[show dj (rf J fr)=dj fr from rfl,a,kY,show ea (rf J f)=rm J (ea f) from rfl];cases(ea f) with
   |panicking c=>
    cases c with
    |nil=>rfl
    |cons b c=>
     obtain⟨v,e,d⟩:=b;cases e<;>cases d<;>simp[rm,rp,rf]
   |_=>rfl
def Mc(h:∀f∈aU,eB G P f)(d:jS (dj fr) aU)(b:dj fr=dM\/dj fr= .deferred)(a:kV fr aU=K (v,Qj)):(∀f∈Qj,eB G P f)/\jS (dj fr) Qj:=by
 rcases b with b|b;simp[kV,b] at a;cases aU with
 |nil=>simp[jS,b] at d
 |cons f g=>
  unfold kV at a;simp only[b] at a
  split at a
  simp only[iG,Prod.mk.injEq] at a;obtain⟨rfl,rfl⟩:=a;refine⟨λe c=>?_,d⟩;rcases gy.1 c with rfl|c;exact(h f aI);exact h e (by simp[c]);cases a
def Lq(a:Next):oZ G P (rn J a)=oZ G P a:=by
 cases a<;>first|rfl|skip
 rename_i b;obtain⟨c,d⟩:=b;cases c<;>rfl
def Xz(a:eB G P fr){b:Next}(f:oZ G P b=af):pR P (rf J fr) (aU.map<|rf J) (rn J b)=(rf J (pR P fr aU b).1,(pR P fr aU b).2.map<|rf J):=by
 have d:=yx (π:=J) fr bR a.todo;rw[show rv J bR=bR by simp[bR]] at d;cases b<;>simp only[oZ,eN] at f<;>simp only[pR,rn]
 .rw[yx (π:=J) fr _ a.todo]
 .rw[d]
 .rw[GB];rfl
 .rename_i e;have:=yx (π:=J) {fr with defers:=e::oH fr} bR a.todo;rw[show rv J bR=bR by simp[bR]] at this;exact congrArg (·,_) this
 .rw[Me a.kinds];have c:=yx (π:=J) fr .nilIface a.todo;rw[show rv J .nilIface= .nilIface by simp] at c;cases kV fr aU with
  |none=>simp only[nR];rw[c]
  |some g=>simp only[gE];rw[yx (π:=J) fr _ a.todo]
def Xx(b:eB G P fr){a:Next}(c:oZ G P a=af):pS P (rf J fr) (aU.map<|rf J) (rn J a)=(rf J (pS P fr aU a).1,(pS P fr aU a).2.map<|rf J):=by
 cases a<;>simp only[oZ,eN] at c<;>simp only[pS,rn]
 .rw[GB];rfl
 .rw[Me b.kinds,show ea (rf J fr)=rm J (ea fr) from rfl];cases(ea fr)<;>cases kV fr aU<;>rfl
def wF(a:eB G P fr)(v:F):eB G P (dR fr v)/\dj (dR fr v)=dj fr:=by
 have b:=a.todo;unfold dR
 split
 .rename_i c;rw[c] at b;exact⟨⟨a.may,b,a.xR,a.kinds,a.round⟩,rfl⟩
 all_goals first|exact⟨a,rfl⟩|(rename_i c;rw[c] at b;simp[hY] at b)
def Xy(r:∀f,G.b f=af->∃fn h,P.funcs[f]? =K fn/\fn.body=K h/\oW G P h=af)(a:eB G P fr)(g:∀f∈aU,eB G P f)(d:jS (dj fr) aU){c:Next}(e:oZ G P c=af):eB G P (pR P fr aU c).1/\(∀f∈(pR P fr aU c).2,eB G P f)/\jS (pR P fr aU c).1.kind (pR P fr aU c).2:=by
 have n:∀v,eB G P (dR fr v)/\(∀f∈aU,eB G P f)/\jS (dj<|dR fr v) aU:=λv=>⟨(wF a v).1,g,bV ((wF a v).2) d⟩;cases c<;>simp only[oZ,eN] at e<;>simp only[pR]<;>try exact n _
 rename_i f t;have⟨fn,h,i,j,q⟩:=r f e;refine⟨⟨e,by simp[eT,i,j,hY,q],by simp[eT],av Y,rfl⟩,λk b=>?_,d⟩;rcases gy.1 b with rfl|b;exact a;exact g k b;rename_i o;have l:eB G P {fr with defers:=o::oH fr}:=⟨a.may,a.todo,λk b=>by
  rcases gy.1 b with rfl|b;exact e;exact a.xR k b,a.kinds,a.round⟩
 exact⟨(wF l bR).1,g,bV ((wF l bR).2) d⟩
 split
 rename_i v s p;have⟨i,j⟩:=Mc g d a.kinds p;exact⟨(wF a v).1,i,bV ((wF a v).2) j⟩;exact n _
def Xw(n:∀f,G.b f=af->∃fn e,P.funcs[f]? =K fn/\fn.body=K e/\oW G P e=af)(b:eB G P fr)(d:∀f∈aU,eB G P f)(c:jS (dj fr) aU){a:Next}(i:oZ G P a=af):eB G P (pS P fr aU a).1/\(∀f∈(pS P fr aU a).2,eB G P f)/\jS (pS P fr aU a).1.kind (pS P fr aU a).2:=by
 cases a<;>simp only[oZ,eN] at i<;>simp only[pS]<;>try exact⟨b,d,c⟩
 .rename_i f q;obtain⟨fn,e,g,h,l⟩:=n f i;refine⟨⟨i,by simp[eT,g,h,hY,l],by simp[eT],ai Y,rfl⟩,λo j=>?_,c⟩;rcases gy.1 j with rfl|j
  .exact b
  .exact d o j
 .split
  .rename_i v p k;obtain⟨g,h⟩:=Mc d c b.kinds k;exact⟨b,g,h⟩
  .exact⟨b,d,c⟩
def Lv(k:ea fr= .run)(b:eB G P fr)(g:jS (dj fr) aU)(o:fr.todo=bY Qu (n::l)::QO)(j:Qu[n]? =K Qs)(p:eI Qs (en Qu fr.tmps)=af){a:Next}(i:oZ G P a=af)(d:(bX fr.eval Qs).runT P w #[]=(cm a u,QS)):cw P m (aX fr<|aU++Q) w= .go (aX (pR P fr aU a).1<|(pR P fr aU a).2++Q) u (iD P fr.fn QS):=by
 have h:(dj fr == .early)=aj:=by rcases b.kinds with c|c<;>rw[c]<;>rfl
 rw[Sem.runT_eq,Prod.mk.injEq] at d;obtain⟨e,f⟩:=d;cases a<;>simp only[oZ,eN] at i<;>simp[aX,cw,gd,stepG.oper,jV,Frame.oper?,k,o,j,p,b.round,e,f,h,jT,pR];rw[Mb b.kinds g];cases kV fr aU<;>simp[jT]
def F9(g:ea fr= .run)(a:eB G P fr)(h:fr.todo=bY Qu (n::l)::QO)(f:Qu[n]? =K Qs)(i:eI Qs (en Qu fr.tmps)=af){b:Halt}(o:(bX fr.eval Qs).runT P w #[]=(.halt b u,QS)):(∀v,b= .panic v->cw P m (aX fr Q) w= .go (aX (jF fr [{v,recovered:=aj}]) Q) u (iD P fr.fn QS))/\(uj b=af->∃Qs r p,cw P m (aX fr Q) w= .ended Qs r p):=by
 have e:(dj fr == .early)=aj:=by rcases a.kinds with j|j<;>rw[j]<;>rfl
 rw[Sem.runT_eq,Prod.mk.injEq] at o;obtain⟨c,d⟩:=o;constructor
 .rintro v rfl;simp[aX,cw,gd,stepG.oper,jV,Frame.oper?,g,h,f,i,a.round,c,d,e,jT]
 .intro k;cases b<;>simp only[uj,eN] at k
  .rename_i q;cases q<;>simp only[eN] at k<;>simp[aX,cw,gd,stepG.oper,jV,Frame.oper?,g,h,f,i,a.round,c,d,e,jT]
  .simp[aX,cw,gd,stepG.oper,jV,Frame.oper?,g,h,f,i,a.round,c,d,e,jT]
def o5(b:eB G P fr)(a:List py):eB G P (jF fr a)/\dj (jF fr a)=dj fr:=by unfold jF;split<;>exact⟨b,rfl⟩
def OK(a:Array cC)(b:Array F):en a (b.map<|rv J)=en a b:=by
 funext c;unfold en;cases(a[c]?).bind (·.dst) with
 |none=>rfl
 |some d=>
  simp only[Option.bind_some,pq];cases b[d]? with
  |none=>rfl
  |some v=>cases v<;>simp only[gE,rv]
def JB(j:eB G P fr)(g:jS (dj fr) aU)(n:ea fr≠.run){a:Deferred}(i:gX a= .nil->∀e,ea fr≠jx e){b:Next}(k:oZ G P b=af)(l:(invoke (gX a) a.args).runT P w #[]=(cm b u,QS)):oJ P fr (aU++Q) Z a w= .go (aX (pS P fr aU b).1<|(pS P fr aU b).2++Q) u (iD P fr.fn QS):=by
 unfold oJ;rw[if_neg ?h]
 case h=>
  intro f;cases d:gX a<;>cases c:ea fr<;>simp[d,c] at f;exact i d _ c
 rw[l];cases b<;>simp only[oZ,eN] at k<;>simp[jT,pS,aX];rw[Mb j.kinds g];cases(ea fr)<;>cases kV fr aU<;>simp[jT]
def EU{a:Deferred}{e:Halt}(j:(invoke (gX a) a.args).runT P w #[]=(.halt e u,QS)):(∀v,e= .panic v->(gX a= .nil->∀b,ea fr≠jx b)->oJ P fr Q Z a w= .go (aX (jF fr [{v,recovered:=aj}]) Q) u (iD P fr.fn QS))/\(uj e=af\/(gX a= .nil/\∃b,ea fr=jx b)->∃o q k,oJ P fr Q Z a w= .ended o q k):=by
 constructor
 .rintro v rfl i;unfold oJ;rw[if_neg ?h]
  case h=>
   intro f;cases d:gX a<;>cases c:ea fr<;>simp[d,c] at f;exact i d _ c
  rw[j];simp[jT,aX]
 .intro h;by_cases g:gX a= .nil/\∃b,ea fr=jx b
  .obtain⟨l,b,n⟩:=g;unfold oJ;rw[if_pos<|by simp[l,n]];exact⟨_,_,_,rfl⟩
  .have i:=h.resolve_right g;unfold oJ;rw[if_neg ?h,j]
   case h=>
    intro f;cases d:gX a<;>cases c:ea fr<;>simp[d,c] at f;exact g ⟨d,_,c⟩
   cases e<;>simp only[uj,eN] at i
   .rename_i p;cases p<;>simp[jT]
   .simp[jT]
end
section
variable{π:Mp}{ρ:ej G}{fr:aO}{aU iK gz:List aO}{w J:ag}{m m':Bool}
def kx(b:rN G P)(c:Fm ρ π):Kx P π:=⟨c.inj,λa=>by rw[b.g];exact c.gl a,λf e v d a=>b.z f e v d a π⟩
def GC(h:eB G P fr):eB G P (rf π fr):=⟨h.may,h.todo,λf b=>by
 obtain⟨a,c,rfl⟩:=jW.1 b;have:=h.xR a c;obtain⟨d,e⟩:=a;cases d<;>exact this,h.kinds,h.round⟩
theorem GA:∀{k:CallKind} {aU:List aO},jS k aU->jS k (aU.map<|rf π)
 |_,[],a=>a
 |_,f::b,a=>GA (k:=dj f) (aU:=b) a
def Ai(h:ea fr= .run):ea (rf π fr)= .run:=by simp[rf,rm,h]
def vn:∀a∈(#[]:Array ef),nK ρ a:=λa b=>by simp at b
def zL{f:gw}(h:∀a∈QS,nK ρ a):∀a∈iD P f QS,nK ρ a:=λa b=>h a<|Conc.mem_seen b
structure r6(P:bn)(gz:List aO)(ρ:ej G)(fr:aO)(aU:List aO)(g':dN):Prop where
 ok:eB G P fr
 tp:∀f∈aU,eB G P f
 bot:jS (dj fr) aU
 go:∀ π,Fm ρ π->g'=aX (rf π fr) (aU.map (rf π)++gz)
def Yw(q:rN G P)(h:r6 P gz ρ fr aU g')(K:WR ρ w J)(j:ea fr= .run)(g:fr.todo=bY Qu (n::l)::QO):zo P iK gz ρ J (cw P m (aX fr<|aU++iK) w) (cw P m' g' J):=by
 have D:=h.ok.todo;rw[g] at D;simp only[xw,hY,fe] at D;have skip:∀(b:((Qu[n]?).map (eI · (en Qu fr.tmps))).getD aj=aj),zo P iK gz ρ J (cw P m (aX fr<|aU++iK) w) (cw P m' g' J):=λb=>by
  have u:∀(fr:aO) (B:List aO) (m:Bool) (w:ag),ea fr= .run->fr.todo=bY Qu (n::l)::QO->((Qu[n]?).map (eI · (en Qu fr.tmps))).getD aj=aj->cw P m (aX fr B) w= .go (aX (dR fr bR) B) w:=λfr B m w c e y=>by simp[aX,cw,gd,c,e,y]
  have⟨c,e⟩:=wF h.ok bR;refine ai ⟨ρ,dR fr bR,aU,w,J,_,#[],u fr _ m w j g b,K,Fr.refl _ _,vn,c,h.tp,bV e h.bot,fun π a=>?_⟩;rw[h.go π a,u (rf π fr) _ m' J (Ai j) g<|by rw[show(rf π fr).tmps=fr.tmps.map (rv π) from rfl,OK];exact b,<-yx (π:=π) fr bR h.ok.todo,show rv π bR=bR by simp[bR]]
 cases b:Qu[n]? with
 |none=>exact skip (gG b)
 |some i=>
  cases r:eI i (en Qu fr.tmps) with
  |false=>exact skip (bV b r)
  |true=>
   have I:=fA.1 D.1 i<|Array.mem_toList_iff.2<|Array.mem_of_getElem? b;have W:∀d f t QO,fr.eval d= .func f t QO->iO G d=af->∃s,f= .func s/\G.b s=af:=λd f t QO u o=>by
    obtain⟨N,x,-⟩:=ρ.any;refine ej.fun (ρ:=ρ) (c:=(mp ρ N af).h f) fun π a=>?_;have c:=congrArg (λS:dN=>S.frame.eval d)<|(h.go _ x).symm.trans<|h.go π a;simp only[aX] at c;rw[Bv x.fn fr o,Bv a.fn fr o,u] at c;simp only[rv,O7] at c;exact c.1
   have T:=runs q.g (A:=NR G P) (bX fr.eval i) (bX g'.frame.eval i) w J #[] #[] (fun π a=>by
    rw[h.go π a];show SR P π _ _ (bX (rf π fr).eval i);rw[T2 (e:=λd=>rv π<|fr.eval d) (λd o=>Bv a.fn fr o) i I];exact XO q (kx q a) a.fn fr.eval i I (λd o=>Cg q.g (ρ:=ρ) (u:=g'.frame.eval d) fun π a=>bV (h.go π a)<|Bv a.fn fr o) W) K vn
   have L:∀ π,eI i (en Qu (rf π fr).tmps)=af:=fun π=>by rw[show(rf π fr).tmps=fr.tmps.map (rv π) from rfl,OK];exact r
   rcases T with⟨d,E,C,p,U⟩|⟨F,E,M,C,H,c,e,y,⟨s,Z,p,k,z⟩|⟨v,X,p,k,z⟩⟩;exact av<|(F9 j h.ok g b r p).2 U;obtain⟨N,x,-⟩:=F.any;have A:=(z _ x).2;have⟨aa,ab,ad⟩:=Xy (λf V=>by obtain⟨fn,Q,t,O,R,-⟩:=q.b f V;exact⟨fn,Q,t,O,R⟩) h.ok h.tp h.bot A;refine ai ⟨F,(pR P fr aU s).1,(pR P fr aU s).2,E,M,iD P fr.fn C,iD P fr.fn H,Lv j h.ok h.bot g b r A p,c,e,zL (f:=fr.fn) y,aa,ab,ad,fun π a=>?_⟩;rw[h.go π<|a.sub e.le] at k ⊢;rw[(z π a).1] at k;rw[Lv (Ai j) (GC h.ok) (GA h.bot) g b (L π) (by rw[Lq];exact A) k,Xz h.ok A];rfl;refine ai ⟨F,jF fr [{v,recovered:=aj}],aU,E,M,iD P fr.fn C,iD P fr.fn H,(F9 j h.ok g b r p).1 v Y,c,e,zL (f:=fr.fn) y,?_,h.tp,?_,fun π a=>?_⟩;exact(o5 h.ok _).1;rw[(o5 h.ok _).2];exact h.bot;rw[h.go π<|a.sub e.le] at k ⊢;rw[(F9 (Ai j) (GC h.ok) g b (L π) k).1 X Y,<-GD,z π a];rfl
def T3(h:r6 P gz ρ fr aU g')(c:WR ρ w J)(e:ea fr= .run)(x:∀g p q b,fr.todo≠bY g (p::q)::b):zo P iK gz ρ J (cw P m (aX fr<|aU++iK) w) (cw P m' g' J):=by
 cases a:mv fr with
 |some b=>exact ai ⟨ρ,{fr with todo:=b},aU,w,J,_,#[],K7 e a,c,Fr.refl _ _,vn,⟨h.ok.may,Xd h.ok.todo a,h.ok.xR,h.ok.kinds,h.ok.round⟩,h.tp,h.bot,fun π i=>by rw[h.go π i,K7 (Ai e)<|aB (Xf i.fn h.ok.todo) a];rfl⟩
 |none=>
  have s:(fr.todo=[]\/∃b,fr.todo=bJ .ret::b)->zo P iK gz ρ J (cw P m (aX fr<|aU++iK) w) (cw P m' g' J):=λt=>by
   have j:∀(fr:aO) (f:List aO) (m:Bool) (w:ag),ea fr= .run->nO fr=Z->(fr.todo=[]\/∃b,fr.todo=bJ .ret::b)->cw P m (aX fr f) w= .go (aX {fr with mode:=jj} f) w:=by
    rintro fr f m w n o (r|⟨b,r⟩)<;>simp[aX,cw,gd,n,o,r]
   exact ai ⟨ρ,{fr with mode:=jj},aU,w,J,_,#[],j fr _ m w e h.ok.round t,c,Fr.refl _ _,vn,h.ok,h.tp,h.bot,fun π i=>by rw[h.go π i,j (rf π fr) _ m' J (Ai e) h.ok.round t];rfl⟩
  cases d:fr.todo with
  |nil=>exact s<|av d
  |cons y b=>
   have k:=h.ok.todo;rw[d] at k;unfold mv at a;rw[d] at a;cases y<;>first|(simp[hY] at k;done)|(simp at a;done)|skip
   rename_i l;cases l<;>first|(simp[hY,oW] at k;done)|(simp at a;done)|exact s (ai ⟨b,d⟩)|skip
   rename_i id g v;cases v with
   |false=>simp at a
   |true=>
    have j:∀(fr:aO) (f:List aO) (m:Bool) (w:ag),ea fr= .run->fr.todo=bJ (iB id g af)::b->cw P m (aX fr f) w= .go (aX {fr with todo:=bY g (y4 (P.follows .mixedOrders) g<|w.tape w.drawn<|.order fr.fn id)::b} f) {w with drawn:=w.drawn+1}:=λfr f m w n o=>by simp[aX,cw,gd,n,o,choose,jU,Question.forced,Question.cut]
    refine ai ⟨ρ,_,aU,_,{J with drawn:=J.drawn+1},_,#[],j fr _ m w e d,⟨c.gl,c.gr,c.at_,c.tape,by simp[c.drawn],c.os⟩,⟨λ_ _ h=>h,rfl,rfl,rfl,aZ _,λ_ _ _=>rfl,λ_ _ h=>av h⟩,vn,⟨h.ok.may,k,h.ok.xR,h.ok.kinds,h.ok.round⟩,h.tp,h.bot,fun π i=>?_⟩;rw[h.go π i,j (rf π fr) _ m' J (Ai e) d,c.tape,c.drawn];rfl
   rename_i l A B;refine av ?_;dsimp only at a;cases u:fr.eval l<;>rw[u] at a<;>first|(cases a;done)|simp[aX,cw,gd,e,d,u]
   refine av ?_;dsimp only at a;simp[aX,cw,gd,e,d,a,h.ok.round];rename_i g z;cases z with
   |nil=>simp at a
   |cons p q=>exact absurd d<|x g p q b
def rB (a:aO):aO:=match (ea a) with
 |jx ({recovered:=af,..}::b)=>match b.dropWhile (!·.goexit) with
  | []=>{a with mode:=jj}
  |rest=>{a with mode:=jx rest}
 |_=>a
def PC(b:aO):rB (rf π b)=rf π (rB b):=by
 have d:∀a:List py,(a.map<|rp π).dropWhile (!·.goexit)=(a.dropWhile (!·.goexit)).map (rp π):=λa=>by
  induction a with
  |nil=>rfl
  |cons c a gk=>simp only[kY,List.dropWhile_cons,show(rp π c).goexit=c.goexit from rfl];split<;>first|exact gk|rfl
 unfold rB;rw[show ea (rf π b)=rm π (ea b) from rfl];cases g:ea b with
 |panicking a=>
  cases a with
  |nil=>rfl
  |cons c a=>
   obtain⟨v,e,f⟩:=c;cases e
   .rfl
   .simp only[rm,kY,rp,d];cases a.dropWhile (!·.goexit)<;>simp[rf,rm]
 |_=>simp only[rm]
def PA(h:eB G P Qg):eB G P (rB Qg)/\dj (rB Qg)=dj Qg:=by
 unfold rB
 split
 .split<;>exact⟨h,rfl⟩
 .exact⟨h,rfl⟩
def Mj(h:ea fr≠.run):ea (rf π fr)≠.run:=by
 simp only[rf];cases a:ea fr<;>simp_all [rm]
def ada(C:rN G P)(h:r6 P gz ρ fr aU g')(ab:WR ρ w J)(r:ea fr≠.run)(aH:aU=[]->oH fr≠[]):zo P iK gz ρ J (cw P m (aX fr<|aU++iK) w) (cw P m' g' J):=by
 have I:∀(fr:aO) (d:List aO) (m:Bool) (w:ag),ea fr≠.run->cw P m (aX fr d) w=kW P m fr d Z w:=λfr d m w r=>by cases h:ea fr<;>first|exact absurd h r|simp[aX,cw,h]
 cases i:oH fr with
 |cons a j=>
  have X:=h.ok.xR a (by rw[i];simp);have s:∀(fr:aO) (d:List aO) (m:Bool) (w:ag) (a:Deferred) (j:List Deferred),ea fr≠.run->oH fr=a::j->um P (gX a)=af->cw P m (aX fr d) w=oJ P {fr with defers:=j} d Z a w:=λfr d m w a j c g p=>by
   rw[I fr d m w c];unfold kW;rw[g];have⟨Q,u⟩:=a;cases Q<;>first|rfl|cases p
  have H:eB G P {fr with defers:=j}:=⟨h.ok.may,h.ok.todo,λt ad=>h.ok.xR t<|by rw[i];simp[ad],h.ok.kinds,h.ok.round⟩;have aG:∀f e,gX a= .fn f e->∃O,f= .func O/\G.b O=af:=λf e aD=>by
   obtain⟨N,V,-⟩:=ρ.any;refine ej.fun (ρ:=ρ) (c:=(mp ρ N af).h f) fun π b=>?_;have c:=congrArg (λaE:dN=>aE.frame.defers.head?)<|(h.go _ V).symm.trans<|h.go π b;simp only[aX,rf,i,kY,List.head?_cons,rd,aD,rt,iG,aep,Target.fn.injEq] at c;exact c.1.1
  have W:=runs C.g (A:=NR G P) (invoke (gX a) a.args) ((g'.frame.defers.head?.elim (stuck "") λa=>invoke (gX a) a.args)) w J #[] #[] (fun π b=>by
   rw[h.go π b];simp only[aX,rf,i,kY,List.head?_cons,Option.elim];exact Lj C (kx C b) b.fn X aG _) ab vn
  have al:∀ π,Fm ρ π->cw P m' g' J=oJ P (rf π {fr with defers:=j}) (aU.map (rf π)++gz) Z (rd π a) J:=fun π b=>by
   rw[h.go π b,s (rf π fr) _ m' J (rd π a) (j.map<|rd π) (Mj r) (by simp[rf,i]) (by have⟨Q,u⟩:=a;cases Q<;>exact X)];rfl
  have ae:∀ π,Fm ρ π->(g'.frame.defers.head?.elim (stuck "") λa=>invoke (gX a) a.args)=invoke (gX<|rd π a) (rd π a).args:=fun π b=>by rw[h.go π b];simp[aX,rf,i]
  rw[s fr _ m w a j r i X];by_cases ar:gX a= .nil/\∃e,ea fr=jx e;refine av ?_;unfold oJ;have⟨c,e,g⟩:=ar;rw[if_pos<|by simp[c,g]];exact⟨_,_,_,rfl⟩;have aa:gX a= .nil->∀e,ea fr≠jx e:=λu e x=>ar ⟨u,e,x⟩;have ao:∀ π,gX (rd π a)= .nil->∀e,ea (rf π fr)≠jx e:=fun π u e x=>by
   have aA:gX a= .nil:=by have⟨Q,a0⟩:=a;cases Q<;>simp[rd,rt] at u ⊢
   simp only[rf] at x;cases aw:ea fr<;>rw[aw] at x<;>first|exact aa aA _ aw|cases x
  rcases W with⟨t,o,n,l,am⟩|⟨T,o,S,n,L,c,g,p,⟨O,a1,l,q,k⟩|⟨v,R,l,q,k⟩⟩;exact av<|(EU l).2<|av am;obtain⟨N,V,-⟩:=T.any;have U:=(k _ V).2;have⟨aK,aQ,aR⟩:=Xw (λf z=>by obtain⟨fn,e,u,x,a,-⟩:=C.b f z;exact⟨fn,e,u,x,a⟩) H h.tp h.bot U;refine ai ⟨T,(pS P {fr with defers:=j} aU O).1,(pS P {fr with defers:=j} aU O).2,o,S,iD P fr.fn n,iD P fr.fn L,JB H h.bot r aa U l,c,g,zL (f:=fr.fn) p,aK,aQ,aR,fun π b=>?_⟩;have M:=b.sub g.le;rw[ae π M,(k π b).1] at q;rw[al π M,JB (GC H) (GA h.bot) (Mj r) (ao π) (by rw[Lq];exact U) q,Xx H U];rfl;refine ai ⟨T,jF {fr with defers:=j} [{v,recovered:=aj}],aU,o,S,iD P fr.fn n,iD P fr.fn L,(EU l).1 v Y aa,c,g,zL (f:=fr.fn) p,?_,h.tp,?_,fun π b=>?_⟩;exact(o5 H _).1;rw[(o5 H _).2];exact h.bot;have M:=b.sub g.le;rw[ae π M] at q;rw[al π M,(EU (fr:=rf π {fr with defers:=j}) q).1 R Y<|ao π,<-GD,k π b];rfl
 |nil=>
  cases aU with
  |nil=>exact absurd i<|aH Y
  |cons f B=>
   obtain⟨fn,e,D,-⟩:=C.b fr.fn h.ok.may;have z:=h.tp f aI;have an:∀t∈B,eB G P t:=λt ad=>h.tp t (by simp[ad]);cases A:ea fr with
   |run=>exact absurd A r
   |panicking y=>
    have s:∀(fr f:aO) (d:List aO) (m:Bool) (w:ag) (y:List py),ea fr=jx y->oH fr=[]->P.funcs[fr.fn]? =K fn->cw P m (aX fr<|f::d) w= .go (aX (jF f y) d) w:=λfr f d m w y c g p=>by
     have aC:fr.catches P=aj:=by unfold Frame.catches;rw[p]
     rw[I fr _ m w<|by rw[c];simp];simp[kW,c,g,aC,aX]
    refine ai ⟨ρ,jF f y,B,w,J,#[],#[],s fr f (B++iK) m w y A i D,ab,Fr.refl _ _,vn,?_,an,?_,fun π b=>?_⟩;exact(o5 z _).1;rw[(o5 z _).2];exact h.bot;rw[h.go π b,<-GD];exact s (rf π fr) (rf π f) (B.map (rf π)++gz) m' J (y.map<|rp π) (by simp[rf,rm,A]) (by simp[rf,i]) D
   |returning=>
    have W:=runs C.g (A:=fun π=>E<|rv π) (dB fn fr.tmps) (dB fn g'.frame.tmps) w J #[] #[] (fun π b=>bV (h.go π b)<|KP fn fr.tmps) ab vn;have s:∀(fr f:aO) (d:List aO) (m:Bool) (w o:ag) (v:F) (n:Array ef),ea fr=jj->oH fr=[]->P.funcs[fr.fn]? =K fn->(dj fr=dM\/dj fr= .deferred)->(dB fn fr.tmps).runT P w #[]=(cm v o,n)->cw P m (aX fr<|f::d) w= .go (aX (if dj fr=dM then dR f v else rB f) d) o (iD P fr.fn n):=λfr f d m w o v n c g p k aF=>by
     rw[I fr _ m w<|by rw[c];simp];unfold kW;simp only[c,g,p,aF];rcases k with k|k<;>simp[m6,k,jT,aX,rB]<;>rfl
    rcases W with⟨t,o,n,l,am⟩|⟨T,o,S,n,L,c,g,p,⟨v,R,l,q,k⟩|⟨v,R,l,q,k⟩⟩;refine av ?_;rw[I fr _ m w r];unfold kW;simp only[A,i,D,l];cases t<;>simp[jT];have az:eB G P (if dj fr=dM then dR f v else rB f)/\dj (if dj fr=dM then dR f v else rB f)=dj f:=by
     split
     exact wF z v;exact PA z
    refine ai ⟨T,_,B,o,S,iD P fr.fn n,iD P fr.fn L,s fr f (B++iK) m w o v n A i D h.ok.kinds l,c,g,zL (f:=fr.fn) p,az.1,an,bV az.2 h.bot,fun π b=>?_⟩;rw[h.go π<|b.sub g.le] at q ⊢;refine aB (s (rf π fr) (rf π f) (B.map (rf π)++gz) m' J S R L (by simp[rf,rm,A]) (by simp[rf,i]) D h.ok.kinds q) ?_;rw[show R=rv π v from k π b,show dj (rf π fr)=dj fr from rfl]
    split
    rw[yx (π:=π) f v z.todo];rfl;rw[PC];rfl;refine av ?_;rw[I fr _ m w r];unfold kW;simp only[A,i,D,l];simp[jT]
def aci(g:rN G P)(h:r6 P gz ρ fr aU g')(f:WR ρ w J)(k:aU=[]->ea fr≠.run->oH fr≠[]):zo P iK gz ρ J (cw P m (aX fr<|aU++iK) w) (cw P m' g' J):=by
 by_cases a:ea fr= .run
 .by_cases i:∃d b e c,fr.todo=bY d (b::e)::c
  .obtain⟨d,b,e,c,l⟩:=i;exact Yw g h f a l
  .exact T3 h f a λd b e c j=>i ⟨d,b,e,c,j⟩
 .exact ada g h f a λh=>k h a
end
end
def Zk (v:F):Prop:=∀a,rv a v=v
def OQ(h:Zk v):∀a∈v.cells,Zk a:=by
 intro a b d;have:=h d;cases v<;>simp only[jn,Array.mem_singleton] at b<;>first|(subst b;exact this)|skip
 rename_i c;simp only[rv,Value.agg.injEq] at this;exact Array.map_inj_left.1 (aB this<|bq<|Array.map_id c) a b
def HY(h:∀a∈C,Zk a):Zk (bZ C):=λc=>by
 rw[rv];exact congrArg _<|aB (Array.map_congr_left λa b=>h a b c)<|Array.map_id _
def Zi (a:oI):Prop:=∀v,jH a=K v->Zk v
theorem LB{m j:Type}{f:m->j->Option (ForInStep j)}(e:j->Prop)(k:∀a b s,e b->f a b=K s->∀d,(s= .yield d\/s= .done d)->e d):∀(l:List m) (b g:j),e b->forIn l b f=K g->e g
 | [],b,g,h,c=>by simp at c;rw[<-c];exact h
 |a::l,b,g,h,c=>by
  rw[List.forIn_cons] at c;cases i:f a b with
  |none=>rw[i] at c;cases c
  |some s=>
   rw[i] at c;cases s with
   |done d=>simp at c;rw[<-c];exact k a b _ h i d<|ai Y
   |yield d=>exact LB e k l d g (k a b _ h i d<|av Y) c
def ael{g:Option (Array F)}{f:oI}(j:Zi f)(k:∀C,g=K C->∀a∈C,Zk a){e:Prop} [Decidable e]
 (h:(if e then Z else g.bind λc=>f.zero.bind λd=>K<|c++d.cells)=K C):∀a∈C,Zk a:=by
 split at h
 .cases h
 .obtain⟨c,i,h⟩:=lH.1 h;obtain⟨d,l,h⟩:=lH.1 h;cases h;intro a b;rcases Array.mem_append.1 b with b|b
  .exact k c i a b
  .exact OQ (j d l) a b
def IF (c:Array Field×Nat×Nat×Nat×Nat×Bool×Bool×Option (Array F)×String):Prop:=∀a,c.2.2.2.2.2.2.2.1=K a->∀b∈a,Zk b
def aek{info:aP->Option oI}(l:∀p c,info p=K c->Zi c)(j:Array Field)(g:oI)(h:Made.reckonStruct info j=K g):Zi g:=by
 unfold Made.reckonStruct at h;simp only[bind,lH,pure] at h;obtain⟨q,e,h⟩:=h;have k:IF q:=by
  rw[<-Array.forIn_toList] at e;refine LB IF ?_ _ _ _ ?_ e
  .intro f t s n a i hc;obtain⟨c,m,a⟩:=lH.1 a
   split at a
   .cases a
   .split at a
    .cases a
    .split at a<;>(obtain⟨tag,r,a⟩:=lH.1 a;split at a<;>(cases a;rcases hc with hc|hc<;>cases hc;exact λd b=>ael (l _ _ m) n b))
  .intro d b;cases b;intro i hc;simp at hc
 split at h<;>(cases h;intro v o;obtain⟨d,b,rfl⟩:=xD.1 o;exact HY<|k d b)
def AG{b:TypeDesc}{s:String}(c:Zk x):Zi (Made.word b s x qW n):=by
 intro v a;unfold Made.word at a;cases a;exact c
def aej{info:aP->Option oI}(j:∀o f,info o=K f->Zi f)(m:TypeDesc)(l:oI)(h:Made.reckon info m=K l):Zi l:=by
 unfold Made.reckon at h;simp only[bind,pure] at h
 split at h
 have⟨f,k,h⟩:=lH.1 h
 split at h
 cases h
 split at h
 cases h;have⟨s,b,h⟩:=lH.1 h;cases h;exact AG λd=>aI;have⟨s,b,h⟩:=lH.1 h;cases h;exact AG λd=>aI;have⟨s,b,h⟩:=lH.1 h;have⟨g,e,h⟩:=lH.1 h;cases h;exact AG λd=>aI;have⟨s,b,h⟩:=lH.1 h;have⟨g,e,h⟩:=lH.1 h;have⟨s,b,h⟩:=lH.1 h;have⟨g,e,h⟩:=lH.1 h;cases h;exact AG λd=>aI;have⟨s,b,h⟩:=lH.1 h;have⟨g,e,h⟩:=lH.1 h;cases h;exact AG λd=>aI;have⟨s,b,h⟩:=lH.1 h;cases h;exact AG λd=>aI;have⟨f,k,h⟩:=lH.1 h;have⟨g,e,h⟩:=lH.1 h;cases h;intro v c;simp only at c
 split at c
 cases c
 split at c
 cases c;exact HY λi a=>by simp at a
 obtain⟨p,n,rfl⟩:=xD.1 c;refine HY λi a=>?_;simp only[Array.mem_flatten,Array.mem_replicate] at a;obtain⟨q,⟨_,rfl⟩,a⟩:=a;exact OQ (j _ _ k p n) i a;exact aek j _ _ h;cases h
theorem OO{d:Tables}(e:∀(c:Nat) b,d.types[c]? =K b->Zi b):∀(f:Nat) (c:aP) (b:oI),Made.infoAt d f c=K b->Zi b
 |0,c,b,a=>by cases a
 |f+1,c,b,a=>by
  unfold Made.infoAt at a
  split at a
  .exact e _ _ a
  .obtain⟨g,h,a⟩:=lH.1 a;exact aej (OO e f) g b a
def aei{T:Tables}(c:∀(b:Nat) a,T.types[b]? =K a->Zi a)(b:aP)(a:oI)(h:T.info? b=K a):Zi a:=by
 unfold Tables.info? at h
 split at h
 .exact c _ _ h
 .exact OO c _ b a h
end Rn
namespace Cc
open Go Go.Conc
open Rn (ji ej Fm rN r6 WR Fr nK rv rf)
def gY (P0 P:bn)(S:Nat->Prop)(c:Nat)(own:Nat->Prop)(J:List F)(g:dN)(w:ag):Prop:=∃a,Wk P0 P S c a own J g w
section
variable{c:Nat}{own:Nat->Prop}{J:List F}{g:dN}{w:ag}
def DR(m:m0 g=kR)(h:∀a,RelB (λb=>S b\/own b) w a->∃k e j,cw P aj g a= .go k e j/\oL P0 S own a e j/\gY P0 P S c (g6 own a e) J k e):gY P0 P S c own J g w:=by
 classical
 let f:ag->Tr:=λa=>if d:RelB (λb=>S b\/own b) w a then mr (fE<|fE<|fE<|h a d).2.2 else .fin
 refine⟨.mk f,xe.2 ⟨m,av λa d=>?_⟩⟩;have i:=fE<|fE<|fE<|h a d;have l:f a=mr (fE<|fE<|fE<|h a d).2.2:=bu;exact⟨_,_,_,i.1,i.2.1,Wk.cast l<|fE i.2.2⟩
def adJ(i:m0 g=kR)(h:∀a,RelB (λb=>S b\/own b) w a->cw P aj g a= .comm g2 #[scase c v z] af .send a #[]/\gY P0 P S c own qN (nN g2 bR) a):gY P0 P S c own (v::qN) g w:=by
 classical
 let f:ag->Tr:=λa=>if d:RelB (λb=>S b\/own b) w a then mr (h a d).2 else .fin
 refine⟨.mk f,xe.2 ⟨i,ai<|av ⟨v,qN,g2,z,rfl,λa d=>⟨(h a d).1,?_⟩⟩⟩⟩;have e:f a=mr (h a d).2:=bu;exact Wk.cast e<|fE (h a d).2
def adG(l:m0 g=kR)(k:QuitsIn P n g')(j:mayWake P g=af)(h:∀a,RelB (λb=>S b\/own b) w a->∀e d s f i,a.heap[c]? =K (.chan e d aj s f i)->cw P aj g a= .go g' (lY a c e d af s f i) #[⟨.obj c,aj,af⟩,⟨.obj c,af,af⟩]):gY P0 P S c own [] g w:=
 ⟨.mk λ_=>.fin,xe.2 ⟨l,ai<|ai ⟨rfl,g',n,k,j,h⟩⟩⟩
def gY.rely(h:gY P0 P S c own J g w)(b:RelB (λa=>S a\/own a) w u):gY P0 P S c own J g u:=by
 have⟨d,h⟩:=h;exact⟨d,h.rely b⟩
def adK(l:m0 g=kR)(h:∀a,RelB (λb=>S b\/own b) w a->cw P aj g a= .go QW a QS)(j:∀d∈QS,EvW S own d)(k:∀a,RelB (λb=>S b\/own b) w a->gY P0 P S c own J QW a):gY P0 P S c own J g w:=by
 refine DR l λa f=>⟨QW,a,QS,h a f,⟨λ_ _ _=>rfl,aZ _,rfl,rfl,rfl,λn=>n,λd i=>?_⟩,?_⟩;have:=j d i;unfold EvW at this ⊢;cases e:d.loc with
 |cell o=>rw[e] at this;exact this.imp (λh=>av h) λh=>h
 |obj p=>rw[e] at this;exact this.imp (λh=>av h) λh=>h
 |mark m=>rw[e] at this;exact this
 |_=>trivial
 have d:g6 own a a=own:=by
  funext b;unfold g6;apply propext;constructor;rintro(h|h);exact h;omega;exact av
 rw[d];exact k a f
end
section
variable{c:Nat}{J:List F}{gz:List aO}{Q:ji}
def Ka{o i:ej Q}{own:Nat->Prop}(s:WR i u G)(e:Fr o i W G)(q:∀f∈QS,nK i f)(n:∀a b,o.f a=K b->own b):oL P0 S own W G QS/\∀a b,i.f a=K b->g6 own W G b:=by
 have k:∀a b,i.f a=K b->g6 own W G b:=λa b d=>by
  rcases e.fresh a b d with h|h
  .exact av (n a b h)
  .exact ai ⟨h,(s.lt d).2⟩
 refine⟨⟨λa d r=>e.keep a (λl f=>?_) d,e.size,e.tape,e.os,e.output,λ_=>trivial,λf p=>?_⟩,k⟩
 .rcases e.fresh l a f with h|h
  .exact r (n l a h)
  .omega
 .have:=q f p;unfold nK at this;unfold EvW;cases j:f.loc with
  |cell t=>rw[j] at this;obtain⟨a,d⟩:=this;exact av<|k _ _ d
  |obj v=>rw[j] at this;obtain⟨a,d⟩:=this;exact av<|k _ _ d
  |mark m=>rw[j] at this;subst this;exact rfl
  |_=>trivial
def Mg{h:ej Q}{j w e:ag}{own:Nat->Prop}(d:WR h (sh (dG w) (dU w) j) w)(n:∀a b,h.f a=K b->own b)(f:RelB (λa=>S a\/own a) w e):WR h (sh (dG e) (dU e) j) e:=
 ⟨d.gl,dW d.gr f.size,λa b i=>by
  obtain⟨p,k,l,m⟩:=d.at_ a b i;exact⟨p,k,l,λq o=>aB (f.at_ b<|ai<|n a b i)<|m q o⟩,rfl,rfl,aB f.os d.os⟩
def adO{b:ej Q}{a w:ag}(h:WR b a w):WR b (sh (dG w) (dU w) a) w:=⟨h.gl,h.gr,h.at_,rfl,rfl,h.os⟩
structure pp(S own:Nat->Prop)(w:ag):Prop where
 sh:∀b,S b->b<U w.heap/\¬own b
 bd:∀b,own b->b<U w.heap
def pp.step{own:Nat->Prop}{w i f:ag}(h:pp S own w)(d:RelB (λa=>S a\/own a) w i)(e:oL P0 S own i f QS):pp S (g6 own i f) f/\RelB S w f:=
 ⟨⟨λa b=>⟨cL (h.sh a b).1<|dW d.size e.size,λj=>eD j (h.sh a b).2 λj=>by have:=(h.sh a b).1;have:=d.size;omega⟩,λa b=>eD b (λb=>cL (h.bd a b)<|dW d.size e.size) λb=>b.2⟩,
  λa b=>aB (e.keep a (cL (h.sh a b).1 d.size) (h.sh a b).2)<|d.at_ a<|av b,dW d.size e.size,aB e.tape d.tape,aB e.os d.os,aB e.output d.output⟩
def adH(O:rN Q P){Stop:aO->List aO->ag->Prop}(h:Fin P0 P Stop Qg aU u W)(n:ag):
 ∀{a:ej Q} {b:dN} {own:Nat->Prop} {w:ag},dF W=dF u/\W.os=u.os->r6 P gz a Qg aU b->WR a (sh (dG w) (dU w) W) w->(∀f d,a.f f=K d->own d)->Hp (cZ P0) u->pp S own w->RelB S n w->
  (∀(a:ej Q) Qg aU u b own w,Stop Qg aU u->r6 P gz a Qg aU b->WR a (sh (dG w) (dU w) u) w->(∀f d,a.f f=K d->own d)->Hp (cZ P0) u->pp S own w->RelB S n w->gY P0 P S c own J b w)->
  gY P0 P S c own J b w:=by
 intro a b own w;refine h (λQg aU u W=>∀{a:ej Q} {b:dN} {own:Nat->Prop} {w:ag},dF W=dF u/\W.os=u.os->r6 P gz a Qg aU b->WR a (sh (dG w) (dU w) W) w->(∀f d,a.f f=K d->own d)->Hp (cZ P0) u->pp S own w->RelB S n w->
  (∀(a:ej Q) Qg aU u b own w,Stop Qg aU u->r6 P gz a Qg aU b->WR a (sh (dG w) (dU w) u) w->(∀f d,a.f f=K d->own d)->Hp (cZ P0) u->pp S own w->RelB S n w->gY P0 P S c own J b w)->
  gY P0 P S c own J b w) ?_ ?_
 intro Qg aU u W U a b own w k l j m x q o p;exact p a _ _ _ _ _ _ U l ⟨by have:=j.gl;rwa [show dF (sh (dG w) (dU w) W)=dF u from k.1] at this,j.gr,λf d T=>by have:=j.at_ f d T;rwa [show dF (sh (dG w) (dU w) W)=dF u from k.1] at this,rfl,rfl,bV j.os k.2⟩ m x q o;intro Qg aU u W ao E Z A aw aa Y a b own w k l j m x q o p;obtain⟨N,C,-⟩:=a.any;refine DR (gG<|l.go _ C) λe y=>?_;have z:=Rn.aci (m:=aj) (m':=aj) (iK:=[]) O l (Mg (S:=S) j m y) λi=>((aa i).1);rw[E (dG e) (dU e) aj []] at z;rcases z with⟨ar,ab,B,i⟩|⟨ae,an,az,ab,aA,B,am,i,r,F,H,I,L,M,s⟩;cases i;simp only[aX,GStep.go.injEq,Ie,l5] at i;obtain⟨⟨rfl,rfl,-⟩,rfl,rfl⟩:=i;have⟨t,V⟩:=Ka (P0:=P0) (S:=S) r F H m;have⟨R,G⟩:=q.step y t;obtain⟨al,D,-⟩:=ae.any;have v:=s _ D;exact⟨_,_,_,v,t,Y (dG e) (dU e) ⟨ac8 (A (dG e)<|dU e).1 k.1,(A (dG e)<|dU e).1.un.os⟩ ⟨I,L,M,λad X=>by have:=v.symm.trans<|s ad X;simp only[GStep.go.injEq] at this;exact this.1⟩ (adO r) V (Z (dG e)<|dU e).hp R (o.trans G) p⟩
end
section
variable{c:Nat}{Q:List F}{gz:List aO}{J:ji}
def adI(G:rN J P){a:ej J}{own:Nat->Prop}{fn:cF}(n:r6 P (Qh::gz) a Qg [] QW)(R:ea Qg=jj)(L:oH Qg=[])(O:dj Qg=dM)(M:P.funcs[Qg.fn]? =K fn)
 (U:∀z r,(dB fn Qg.tmps).run P (sh z r w)=cm v (sh z r w)) (V:WR a (sh (dG u) (dU u) w) u) (x:∀l g,a.f l=K g->own g)
 (H:∀(k:ej J) j q e,(∀f,Fm k f->j=rv f v)->WR k (sh (dG e) (dU e) w) e->(∀l g,k.f l=K g->q g)->pp S q e->RelB S u e->gY P0 P S c q Q (aX (dR Qh j) gz) e) (t:pp S own u):gY P0 P S c own Q QW u:=by
 obtain⟨N,s,-⟩:=a.any;refine DR (by rw[n.go _ s];rfl) λb p=>?_;have I:=Rn.runs G.g (A:=λf=>Rn.E<|rv f) (dB fn Qg.tmps) (dB fn QW.frame.tmps) _ b #[] #[] (λf W=>by rw[n.go f W];exact Rn.KP fn Qg.tmps) (Mg (S:=S) V x p) Rn.vn;have d:((dB fn Qg.tmps).runT P (sh (dG b) (dU b) w) #[]).1=cm v (sh (dG b) (dU b) w):=by rw[Sem.runT_eq];exact U _ _
 rcases I with⟨ad,Y,B,h,-⟩|⟨k,Y,aa,B,ab,i,C,D,⟨X,j,h,m,E⟩|⟨X,j,h,m,-⟩⟩;rw[h] at d;cases d;rw[h] at d;simp only[Result.ok.injEq] at d;obtain⟨rfl,rfl⟩:=d;have⟨o,T⟩:=Ka (P0:=P0) (S:=S) i C (Rn.zL (P:=P) (f:=Qg.fn) D) x;refine⟨_,_,_,?_,o,H k j _ aa E ⟨i.gl,i.gr,i.at_,rfl,rfl,i.os⟩ T (t.step p o).1 (t.step p o).2⟩;rw[n.go _ s] at m ⊢;have y:ea (rf (Rn.mp a N af) Qg)=jj:=by simp[rf,Rn.rm,R]
 have A:cw P aj (aX (rf (Rn.mp a N af) Qg)<|Qh::gz) b=kW P aj (rf (Rn.mp a N af) Qg) (Qh::gz) Z b:=by simp[aX,cw,y]
 show cw P aj (aX (rf (Rn.mp a N af) Qg)<|Qh::gz) b=_;rw[A];unfold kW;rw[show oH (rf (Rn.mp a N af) Qg)=[] by simp[rf,L]];simp only[y,show(rf (Rn.mp a N af) Qg).fn=Qg.fn from rfl,M];rw[show(dB fn (rf (Rn.mp a N af) Qg).tmps).runT P b #[]=_ from m];simp only[m6,show dj (rf (Rn.mp a N af) Qg)=dM from O];rfl;rw[h] at d;cases d
def Xq (J:ji):ej J:=⟨λ_=>Z,λb d c a=>(by cases a),λb d a=>(by cases a),⟨0,λb d a=>(by cases a)⟩⟩
def Az (a:Nat)(os:Os):ag:={heap:=jw a<|aq #[] 0,tape:=λ_ _=>0,drawn:=0,os,output:= #[]}
def adF(h:Twins P0 P)(y:rN J P){f:gw}(A:J.b f=af)(al:P.funcs[f]? =P0.funcs[f]?)(ab:∀l,args.map (rv l)=args){R:gN->ag->Prop}(V:∀i a,R i a->∃v,i=aN v){own:Nat->Prop}(aA:∀b,Calls P0 f args (sh b 0<|Az J.g w.os) R)
 (X:pp S own w) (ar:J.g<=U w.heap)
 (O:∀(u:ej J) v t e s a,(∃b g,R (aN v)<|sh b g e)->(∀l,Fm u l->t=rv l v)->WR u (sh (dG a) (dU a) e) a->(∀p q,u.f p=K q->s q)->pp S s a->RelB S w a->gY P0 P S c s Q (aX (dR Qg t) gz) a):gY P0 P S c own Q (aX (eT P f args dM)<|Qg::gz) w:=by
 have L:eT P f args dM=eT P0 f args dM:=by unfold eT;rw[al]
 have C:Hp (cZ P0) (Az J.g w.os):=λp ba r=>by
  simp only[Az,Array.getElem?_replicate] at r
  split at r
  cases r;exact av trivial;cases r
 have am:Fin P0 P (AR λd aU a=>aU=[]/\∃v,R (aN v) a/\d.fn=f/\d.leaving P0 a (aN v)) (eT P0 f args dM) [] (Az J.g w.os) (Az J.g w.os):=by
  refine JW h (λd aU a j=>?_) ⟨JE h<|av Y,λbd a0=>by simp at a0,rfl⟩ C (Un.refl _) λb=>?_;have⟨_,v,_,_,n⟩:=j;rintro⟨k,_⟩;rw[n.1] at k;cases k;have⟨i,a,d,z,ad,B,n⟩:=aA b [fD];obtain⟨v,rfl⟩:=V i a z;have⟨N,T⟩:=ad;exact⟨N,d,[],a,T,rfl,v,z,B,n⟩
 obtain⟨a5,a4,G,H,I,-⟩:=y.b f A;have k:r6 P (Qg::gz) (Xq J) (eT P0 f args dM) [] (aX (eT P f args dM)<|Qg::gz):=by
  rw[<-L];refine⟨⟨A,by simp[eT,G,H,Rn.hY,I],by simp[eT],av Y,rfl⟩,λf h=>(by simp at h),rfl,λl _=>?_⟩;rw[<-Rn.GB,ab l];rfl
 refine adH (aU:=[]) (gz:=Qg::gz) y am w ⟨rfl,rfl⟩ k ⟨by simp[Az,sh],ar,λp q i=>(de i),rfl,rfl,rfl⟩ (λp q i=>(de i)) C X (RelB.refl _ _) λu d aU e a6 s a j ao aQ aC aE Z aF=>?_;obtain⟨b,g,rfl,v,W,B,n⟩:=j;have⟨k,ae,az,fn,a7,a8⟩:=n;have an:P.funcs[d.fn]? =K fn:=bu;have aI:∀o m,(dB fn d.tmps).run P (sh o m e)=cm v (sh o m e):=by
  intro o m;have aH:=MR (tu P0) h.A.view (dB fn d.tmps) (sh b g e) #[] (NG h.A.T fn d.tmps) (aE.sh b g);have x:((dB fn d.tmps).runT P0 (sh b g e) #[]).1=cm v (sh b g e):=nE;rcases aH.shift with⟨be,a,E⟩|j;rw[x] at E;cases E;have⟨bc,D,j⟩:=j o m (sh b g e) (Un.refl _) (by rw[x];intro a9 bb aw;simp[rW] at aw);rw[x] at j D;have:=congrArg Prod.fst j;rw[Sem.runT_eq] at this;have M:=Oj D o m;simp only[us,rW,Nat.sub_self,tY] at this;rw[M] at this;exact this
 exact adI (P0:=P0) y ao k ae az an aI aQ aC (λa3 t a1 a2 aK aR aD aa aG=>O a3 v t e a1 a2 ⟨b,g,W⟩ aK aR aD aa<|aF.trans aG) Z
end
structure fS(P0 P:bn)(S:Nat->Prop)(m:Bool)(X0:(Nat->Prop)->aO->List aO->ag->Prop):Prop where
 step:∀own fr cs w,(∀w1,RelB (λb=>S b\/own b) w w1->∃fr' cs' w' es,cw P m (aX fr cs) w1= .go (aX fr' cs') w' es/\oL P0 S own w1 w' es/\X0 (g6 own w1 w') fr' cs' w')->X0 own fr cs w
 rely:∀own fr cs w w1,X0 own fr cs w->RelB (λb=>S b\/own b) w w1->X0 own fr cs w1
def eR (P0 P:bn)(J:F->ag->Prop)(S O:Nat->Prop)(R:Nat->Option (List F))(g:dN)(w:ag):Prop:=∃c,Mn P0 P J c (.sh S O R) g w
section
variable{J:F->ag->Prop}{O:Nat->Prop}{R:Nat->Option (List F)}{g:dN}{w:ag}
def wC(P0 P:bn)(S:Nat->Prop)(f:Nat)(p:List F):fS P0 P S aj (λown fr cs w=>gY P0 P S f own p (aX fr cs) w):=
 ⟨λown fr cs w c=>DR Y λe d=>by
  have⟨fr',r,q,h,j,l,n⟩:=c e d;exact⟨_,q,h,j,l,n⟩,λown fr cs w e c d=>c.rely d⟩
def Xa(h:∀c,RelB (λb=>S b\/O b) w c->∃l j n,cw P af g c= .go l j n/\m0 l=kR/\oL P0 S O c j n/\eR P0 P J S (g6 O c j) R l j):eR P0 P J S O R g w:=by
 classical
 let f:ag->Tr:=λc=>if d:RelB (λb=>S b\/O b) w c then mr (fE<|fE<|fE<|h c d).2.2.2 else .fin
 refine⟨.mk f,pQ.2 <| av λc d=>?_⟩;have e:=fE<|fE<|fE<|h c d;have p:f c=mr (fE<|fE<|fE<|h c d).2.2.2:=bu;exact⟨_,_,_,e.1,e.2.1,e.2.2.1,Mn.cast p<|fE e.2.2.2⟩
def mH(P0 P:bn)(J:F->ag->Prop)(S:Nat->Prop)(R:Nat->Option (List F)):fS P0 P S af (λO fr cs w=>eR P0 P J S O R (aX fr cs) w):=
 ⟨λown fr cs w c=>Xa λe d=>by
  have⟨fr',q,p,f,h,j,l⟩:=c e d;exact⟨_,p,f,h,rfl,j,l⟩,λown fr cs w e c d=>by
  have⟨n,c⟩:=c;exact⟨n,c.tG d⟩⟩
def W9(q:O n)(u:I qN<=j)(v:R n=Z)(s:w.heap[n]? =K (.chan j #[] aj 0 0 aj))(h:∀c,RelB (λb=>S b\/O b) w c->∃l p,cw P af g c= .spawn l p c #[]/\m0 l=kR/\gY P0 P S n (λ_=>False) qN p c/\eR P0 P J S (λb=>O b/\b≠n) (gu R n<|K qN) l c):eR P0 P J S O R g w:=by
 classical
 let f:ag->Tr:=λc=>if d:RelB (λb=>S b\/O b) w c then mr (fE<|fE<|h c d).2.2.2 else .fin
 refine⟨.mk f,pQ.2 <| ai (av ⟨n,qN,j,q,u,v,s,λc d=>?_⟩)⟩;have e:=fE<|fE<|h c d;have t:f c=mr (fE<|fE<|h c d).2.2.2:=bu;have⟨x,r⟩:=e.2.2.1;exact⟨_,_,x,e.1,e.2.1,r,Mn.cast t<|fE e.2.2.2⟩
def W7(l:R n=K (v::qN))(j:g2.frame=g.frame/\sW g2=sW g/\g2.dying=g.dying)(h:∀c,RelB (λb=>S b\/O b) w c->cw P af g c= .comm g2 #[rcase n z] af (.recv af) c #[]/\eR P0 P J S O (gu R n<|K qN) (nN g2<|recvd af v af) c):eR P0 P J S O R g w:=by
 classical
 let f:ag->Tr:=λc=>if d:RelB (λb=>S b\/O b) w c then mr (h c d).2 else .fin
 refine⟨.mk f,pQ.2 <| ai (ai<|av ⟨n,z,g2,v::qN,l,j,λc d=>⟨(h c d).1,?_⟩⟩)⟩;have e:f c=mr (h c d).2:=bu;exact Mn.cast e<|fE (h c d).2
def W8(l:R n=K [])(j:g2.frame=g.frame/\sW g2=sW g/\g2.dying=g.dying)(h:∀c,RelB (λb=>S b\/O b) w c->cw P af g c= .comm g2 #[rcase n z] af (.recv af) c #[]/\eR P0 P J S O (gu R n Z) (nN g2<|recvd af z aj) c):eR P0 P J S O R g w:=by
 classical
 let f:ag->Tr:=λc=>if d:RelB (λb=>S b\/O b) w c then mr (h c d).2 else .fin
 refine⟨.mk f,pQ.2 <| ai (ai<|av ⟨n,z,g2,[],l,j,λc d=>⟨(h c d).1,?_⟩⟩)⟩;have e:f c=mr (h c d).2:=bu;exact Mn.cast e<|fE (h c d).2
def W6(n:∀j,R j=Z)(h:∀c,RelB (λb=>S b\/O b) w c->kr P0 c->iq P0 P J g c):eR P0 P J S O R g w:=by
 classical
 let f:ag->Tr:=λc=>if d:RelB (λb=>S b\/O b) w c/\kr P0 c then mr (h c d.1 d.2) else .fin
 refine⟨.mk f,pQ.2 <| ai (ai<|ai ⟨n,λc d e=>?_⟩)⟩;have l:f c=mr (h c d e):=bu;exact Mn.cast l<|fE<|h c d e
def Yk(S O:Nat->Prop)(j:∀b,S b->b<U w.heap/\¬O b)(e:∀b,O b->b<U w.heap)(h:∀c,AtRel w c->eR P0 P J S O (λ_=>Z) g c):iq P0 P J g w:=by
 classical
 let f:ag->Tr:=λc=>if d:AtRel w c then mr (h c d) else .fin
 refine⟨.mk f,pQ.2 <| ai (ai ⟨S,O,j,e,λc d=>?_⟩)⟩;have l:f c=mr (h c d):=bu;exact Mn.cast l<|fE<|h c d
end
section
variable{m:Bool}(T:fS P0 P S m X0){own:Nat->Prop}{fr fr':aO}{w:ag}{b:aO}{a:bt}{k:List ez}{Q:Array cC}{H:List Nat}{o:cC}
def CN{own:Nat->Prop}{w:ag}:g6 own w w=own:=by
 funext b;unfold g6;apply propext;constructor;rintro(c|c);exact c;omega;exact av
def Kb{P0:bn}(d:∀c∈QS,EvW S own c):oL P0 S own w w QS:=⟨λ_ _ _=>rfl,aZ _,rfl,rfl,rfl,λe=>e,by rw[CN];exact d⟩
def nT(T:fS P0 P S m X0)(h:∀w,cw P m (aX fr cs) w= .go (aX fr' Qj) w)(e:X0 own fr' Qj w):X0 own fr cs w:=
 T.step _ _ _ _ λc f=>⟨fr',Qj,c,#[],h c,Kb λj d=>by simp at d,by rw[CN];exact T.rely _ _ _ _ _ e f⟩
def EA(T:fS P0 P S m X0)(n:dj b≠.early)(q:Q[i]? =K o)(s:eI o (en Q a.tmps)=af)
 (h:∀d,RelB (λb=>S b\/own b) w d->∃v e,(bX (bp a) o).run P d=cm (fi v) e/\oL P0 S own d e ((bX (bp a) o).events P d #[])/\X0 (g6 own d e) (b.at (bw a o.dst v)<|bY Q H::k) cs e):X0 own (b.at a<|bY Q (i::H)::k) cs w:=
 T.step _ _ _ _ λd r=>by
  have⟨v,e,j,c,l⟩:=h d r;refine⟨_,_,_,_,stepG_value q s n j,⟨c.keep,c.size,c.tape,c.os,c.output,c.hp,λf p=>c.evs f<|Conc.mem_listed p⟩,l⟩
def vf(T:fS P0 P S m X0)(f:dj b≠.early)(l:Q[i]? =K o)(n:eI o (en Q a.tmps)=af)
 (h:∀c,RelB (λb=>S b\/own b) w c->(bX (bp a) o).run P c=cm (fi v) c/\∀e∈(bX (bp a) o).events P c #[],EvW S own e) (j:X0 own (b.at (bw a o.dst v)<|bY Q H::k) cs w):X0 own (b.at a<|bY Q (i::H)::k) cs w:=
 EA T f l n λc d=>⟨v,c,(h c d).1,Kb (h c d).2,by rw[CN];exact T.rely _ _ _ _ _ j d⟩
end
def cx (a:bt)(s:Nat):F:=cB a.tmps s bR
def DT (ops:Array cC)(l:Array Bool)(s:Nat):Prop:=∃b c,cB l b aj=af/\ops[b]? =K c/\c.dst=K s
structure gM(ops:Array cC)(Ph:Nat->Bool)(a0 z:bt)(l:Array Bool)(a:bt):Prop where
 size:U l=U ops
 closed:∀(i:Nat) o,cB l i aj=af->ops[i]? =K o->∀e∈ri o,jl eu e=af->cB l e.on aj=af
 ph:∀i:Nat,cB l i aj=af->Ph i=af
 w6:U a.tmps=U z.tmps
 zJ:bU a=bU z
 yes:∀s,DT ops l s->cx a s=cx z s
 no:∀s,¬DT ops l s->cx a s=cx a0 s
def Vv:Op->Bool
 | .select _ _=>af
 |_=>aj
def yt (ops:Array cC)(Ph:Nat->Bool):Bool:=dI (fp<|U ops) λd=>match ops[d]? with
 |none=>af
 |some c=> !Vv c.op&&(dI (c.looksAt ops) λs=>(c.after.toList.any λb=>jl eu b&&((ops[b.on]?).bind (·.dst))==K s)||dI (fp<|U ops) λe=> !Ph e||((ops[e]?).bind (·.dst)) !=K s)&&(match c.guard with|some (f,_)=>ni ((ops[f]?).bind (·.dst))|none=>af)&&dI c.after.toList λb=> !jl eu b||decide (b.on<d)
def CW (ops:Array cC)(Ph:Nat->Bool)(e:Nat):Bool:=dI (fp<|U ops) λb=>Ph b||b==e||match ops[b]? with
 |none=>af
 |some d=>d.after.toList.any λc=>jl eu c && !Ph c.on
def n5 (l:Array Bool):Nat:=l.toList.countP (!·)
theorem countP_set:∀(e:List Bool) (c:Nat),e[c]? =K aj->(List.set e c af).countP (!·)+1=e.countP (!·)
 | [],c,d=>by simp at d
 |b::f,0,d=>bu
 |b::f,c+1,d=>bu
def Av{l:Array Bool}(b:n<U l)(h:cB l n af=aj):n5 (cS l n af)+1=n5 l:=by
 unfold n5;rw[Array.toList_setIfInBounds];refine countP_set _ _ ?_;have:l[n]? =K l[n]:=n7 b;simp only[jh,this,tZ] at h;rw[Array.getElem?_toList,this,h]
def xX{l:Array Bool}(d:n<U l):cB (cS l n af) m aj=(decide (m=n)||cB l m aj):=by
 simp only[jh,nI];by_cases b:n=m;subst b;simp[d];have:¬m=n:=λc=>b<|bq c;simp[b,this]
def mem_ready{ops:Array cC}{l:Array Bool}(h:i∈fY eu ops l):∃f,ops[i]? =K f/\i<U ops/\cB l i af=aj/\∀c∈ri f,jl eu c=af->cB l c.on aj=af:=by
 unfold fY at h;have⟨g,b⟩:=List.mem_filter.1 h;have d:=nP.1 g;simp only[fe,Bool.not_eq_true'] at b;have e:ops[i]? =K ops[i]:=n7 d;rw[e] at b;simp only[gE,tZ] at b;refine⟨_,e,d,b.1,λc k j=>?_⟩;have:=Array.all_eq_true.1 b.2;obtain⟨n,m,rfl⟩:=Array.mem_iff_getElem.1 k;have:=this n m;simpa [j] using this
def ZJ{ops:Array cC}{Ph:Nat->Bool}{l:Array Bool}(p:U l=U ops)(n:yt ops Ph=af)(h:fY eu ops l=[]):∀b,b<U ops->cB l b aj=af:=by
 intro b
 induction b using Nat.strongRecOn with
 |_ b o=>
  intro c;cases j:cB l b aj with
  |true=>rfl
  |false=>
   exfalso
   have:b∈fY eu ops l:=by
    unfold fY;refine List.mem_filter.2 ⟨nP.2 c,?_⟩;have e:ops[b]? =K ops[b]:=n7 c;have d:=fA.1 n b<|nP.2 c;rw[e] at d;simp only[fe,fA] at d;have k:cB l b af=aj:=by
     have:l[b]? =K l[b]:=n7 aa;simpa [jh,this] using j
    rw[e,k];simp only[Bool.not_false,Bool.true_and,gE,tZ,Array.all_eq_true];intro f i;have:=d.2 _<|Array.getElem_mem_toList i;cases g:jl eu (ops[b].after[f]) with
    |false=>rfl
    |true=>
     rw[g] at this;have m:ops[b].after[f].on<b:=bu;simpa using o _ m aa
   rw[h] at this;cases this
section
variable{z:bt}{l:Array Bool}{a:bt}
def gM.looks(i:gM ops Ph a0 z l a)(u:yt ops Ph=af)(w:∀s,(∀(b:Nat) Qs,Ph b=af->ops[b]? =K Qs->Qs.dst≠K s)->cx z s=cx a0 s)(m:ops[n]? =K Qs)(o:∀c∈ri Qs,jl eu c=af->cB l c.on aj=af):∀s∈Qs.looksAt ops,cx a s=cx z s:=by
 intro s v;have p:n<U ops:=(dn.1 m).1;have j:=fA.1 u n<|nP.2 p;rw[m] at j;simp only[fe,fA] at j;have:=j.1.1.2 s v;rw[tM] at this;rcases this with g|g;have⟨c,x,h⟩:=xx.1 g;simp only[fe,beq_iff_eq] at h;have⟨f,r,d⟩:=lH.1 h.2;exact i.yes s ⟨c.on,f,o c bu h.1,r,d⟩;have k:∀(b:Nat) Qs,Ph b=af->ops[b]? =K Qs->Qs.dst≠K s:=λb f t e d=>by
  have:=fA.1 g b<|nP.2 (dn.1 e).1;rw[e] at this;simp[d,t] at this
 rw[w s k];exact i.no s fun⟨b,f,q,e,d⟩=>k b f (i.ph b q) e d
def gM.exec(k:gM ops Ph a0 z l a)(p:yt ops Ph=af)(y:∀s,(∀(e:Nat) Qs,Ph e=af->ops[e]? =K Qs->Qs.dst≠K s)->cx z s=cx a0 s)(m:ops[n]? =K Qs)(t:∀f∈ri Qs,jl eu f=af->cB l f.on aj=af):bX (bp a) Qs=bX (bp z) Qs/\eI Qs (en ops a.tmps)=eI Qs (en ops z.tmps):=by
 have o:=k.looks p y m t;have w:n<U ops:=(dn.1 m).1;have g:=fA.1 p n<|nP.2 w;rw[m] at g;simp only[fe] at g;refine⟨execOp_congr Qs (λC B f=>by have:=g.1.1.1;rw[f] at this;cases this) λA D=>?_,?_⟩;cases A with
 |tmp q=>exact o q<|List.mem_append_left _<|List.mem_filterMap.2 ⟨.tmp q,bu,rfl⟩
 |_=>rfl
 unfold eI;cases v:Qs.guard with
 |none=>rfl
 |some r=>
  have⟨e,E⟩:=r;have j:=g.1.2;rw[v] at j;dsimp only at j ⊢;have⟨b,u⟩:=Option.isSome_iff_exists.1 j;have d:cx a b=cx z b:=o b<|List.mem_append_right _ bu;have x:en ops a.tmps e=en ops z.tmps e:=by
   unfold en;rw[u];simp only[Option.bind_some];unfold cx at d;simp only[jh] at d;rcases jc b (U z.tmps) with c|c;have h:z.tmps[b]? =K z.tmps[b]:=n7 c;have i:a.tmps[b]? =K (a.tmps[b]'(bV k.w6 c)):=n7 _;rw[h,i] at d ⊢;simp only[tZ] at d;rw[d];have h:z.tmps[b]? =Z:=uG c;have i:a.tmps[b]? =Z:=uG<|bV k.w6 c;rw[h,i]
  rw[x]
def gM.next(c:gM ops Ph a0 z l a)(C:Ph n=af)(m:ops[n]? =K Qs)(y:∀b∈ri Qs,jl eu b=af->cB l b.on aj=af)(x:∀g,Qs.dst=K g->g<z.tmps.size/\cx z g=v):gM ops Ph a0 z (cS l n af) (bw a Qs.dst v):=by
 have k:n<l.size:=by rw[c.size];exact(dn.1 m).1
 have r:∀s,DT ops (cS l n af) s↔Qs.dst=K s\/DT ops l s:=by
  intro s;constructor;rintro⟨f,i,e,h,j⟩;rw[xX k] at e;simp only[tM,decide_eq_true_eq] at e;rcases e with rfl|e;rw[m] at h;cases h;exact av j;exact ai ⟨f,i,e,h,j⟩;rintro(p|⟨f,i,e,h,j⟩);exact⟨n,Qs,nE,m,p⟩;exact⟨f,i,by rw[xX k,e];simp,h,j⟩
 have w:∀s,cx (bw a Qs.dst v) s=if Qs.dst=K s then v else cx a s:=by
  intro s;unfold cx bw;cases A:Qs.dst with
  |none=>simp
  |some g=>
   have B:=(x g A).1;simp only[jh,nI,iG];by_cases b:g=s;subst b;simp[c.w6,B];simp[b]
 refine⟨by simp[c.size],λf i d q b u t=>?_,λf d=>?_,?_,?_,λs o=>?_,λs o=>?_⟩;rw[xX k] at d ⊢;simp only[tM,decide_eq_true_eq] at d ⊢;rcases d with rfl|d;rw[m] at q;cases q;exact ai<|y b u t;exact ai<|c.closed f i d q b u t;rw[xX k] at d;simp only[tM,decide_eq_true_eq] at d;rcases d with rfl|d;exact C;exact c.ph f d;unfold bw;split;simp[c.w6];exact c.w6;unfold bw;split;exact c.zJ;exact c.zJ;rw[w]
 split
 rename_i b;exact bq<|(x s b).2;rename_i b;exact c.yes s<|((r s).1 o).resolve_left b;rw[w,if_neg λb=>o<|(r s).2<|av b];exact c.no s λp=>o<|(r s).2<|ai p
def gM.start{a0 z:bt}(f:U a0.tmps=U z.tmps)(e:bU a0=bU z):gM ops Ph a0 z (jw (U ops) aj) a0:=by
 have d:∀c:Nat,cB (jw (U ops) aj) c aj=aj:=λc=>by
  simp only[jh,Array.getElem?_replicate]
  split<;>rfl
 refine⟨aI,λc g b=>?_,λc b=>?_,f,e,λs ⟨c,g,b,_⟩=>?_,λs _=>rfl⟩;rw[d] at b;cases b;rw[d] at b;cases b;rw[d] at b;cases b
def gM.all(f:gM ops Ph a0 z l a)(t:∀s,(∀(c:Nat) b,Ph c=af->ops[c]? =K b->b.dst≠K s)->cx z s=cx a0 s)(h:∀g,g<U ops->cB l g aj=af):a=z:=by
 have r:∀s,cx a s=cx z s:=λs=>by
  by_cases j:∃(c:Nat) (b:cC),ops[c]? =K b/\b.dst=K s;have⟨c,b,d,e⟩:=j;exact f.yes s ⟨c,b,h c (dn.1 d).1,d,e⟩;have i:∀(c:Nat) b,ops[c]? =K b->b.dst≠K s:=λc b d e=>j ⟨c,b,d,e⟩;rw[t s λc b _=>i c b];exact f.no s fun⟨c,b,_,d,e⟩=>i c b d e
 have⟨u,k⟩:=a;have⟨v,m⟩:=z;have o:k=m:=f.zJ;have n:u=v:=by
  refine Array.ext f.w6 λg p q=>?_;have:=r g;unfold cx at this;simpa [jh,p,q] using this
 rw[n,o]
def gM.PI(f:gM ops Ph a0 z l a)(w:∀s,(∀(b:Nat) c,Ph b=af->ops[b]? =K c->c.dst≠K s)->cx z s=cx a0 s)(B:Ph n=aj)(h:∀g,g<U ops->g≠n->cB l g aj=af):a=z:=by
 have v:∀s,cx a s=cx z s:=λs=>by
  by_cases k:∃(b:Nat) (c:cC),Ph b=af/\ops[b]? =K c/\c.dst=K s;have⟨b,c,j,d,e⟩:=k;exact f.yes s ⟨b,c,h b (dn.1 d).1 λA=>bu,d,e⟩;have i:∀(b:Nat) c,Ph b=af->ops[b]? =K c->c.dst≠K s:=λb c j d e=>k ⟨b,c,j,d,e⟩;rw[w s i];exact f.no s fun⟨b,c,u,d,e⟩=>i b c (f.ph b u) d e
 have⟨x,m⟩:=a;have⟨y,o⟩:=z;have q:m=o:=f.zJ;have p:x=y:=by
  refine Array.ext f.w6 λg r t=>?_;have:=v g;unfold cx at this;simpa [jh,r,t] using this
 rw[p,q]
def drawn{k:Nat->Bool}{G:List Nat->bt->Prop}(D:yt ops Ph=af)(P:CW ops Ph n=af)
 (Y:∀(b:Nat) c i,Ph b=af->ops[b]? =K c->c.dst=K i->i<z.tmps.size/\cx z i=Qy b)
 (E:∀s,(∀(p:Nat) c,Ph p=af->ops[p]? =K c->c.dst≠K s)->cx z s=cx a0 s)
 (V:∀b c a H,Ph b=af->k b=aj->b≠n->ops[b]? =K c->bX (bp a) c=bX (bp z) c->eI c (en ops a.tmps)=eI c (en ops z.tmps)->G H (bw a c.dst<|Qy b)->G (b::H) a)
 (X:∀e f l a,gM ops Ph a0 z l a->n∈fY eu ops l->n5 l<=e+1->G (n::lX eu ops e f (cS l n af) []) a)
 (R:(∀b,b<ops.size->Ph b=af)->G [] z):
 ∀(e f:Nat) (l:Array Bool) (a:bt),gM ops Ph a0 z l a->(∀b,k b=af->cB l b aj=af)->n5 l<=e->G (lX eu ops e f l []) a:=by
 have done:∀l a,gM ops Ph a0 z l a->fY eu ops l=[]->G [] a:=λl a d o=>by
  have A:=ZJ d.size D o;rw[d.all E A];exact R λb g=>d.ph b<|A b g
 intro e
 induction e with
 |zero=>
  intro f l a d t C;simp only[lX,List.reverse_nil];refine done l a d ?_;cases o:fY eu ops l with
  |nil=>rfl
  |cons b ab=>
   have⟨c,_,g,h,_⟩:=mem_ready (ops:=ops) (l:=l) (i:=b) bu;have:=Av bu h;omega
 |succ e Z=>
  intro f l a d t C;simp only[lX];change G (match (fY eu ops l)[f%I (fY eu ops l)]? with
   |some b=>lX eu ops e (f/I (fY eu ops l)) (cS l b af) [b]
   |none=>[].reverse) a
  cases g:(fY eu ops l)[f%I (fY eu ops l)]? with
  |none=>
   have U:fY eu ops l=[]:=by
    cases o:fY eu ops l with
    |nil=>rfl
    |cons J L=>
     rw[o] at g;have x:f%I (J::L)<I (J::L):=Nat.mod_lt _ aI;simp at g;simp at x;omega
   exact done l a d U
  |some b=>
   simp only[];rw[linearise_go_acc,List.reverse_singleton,List.singleton_append];have B:=oP g;have⟨c,j,x,h,u⟩:=mem_ready B;by_cases w:b=n;subst w;exact X e _ l a d B C
   .have y:Ph b=af:=by
     have:=fA.1 P b<|nP.2 x;cases W:Ph b with
     |true=>rfl
     |false=>
      rw[W,j] at this;simp only[Bool.false_or,tM,beq_iff_eq] at this;rcases this with r|r;exact absurd r w;have⟨q,aa,v⟩:=xx.1 r;simp only[fe,Bool.not_eq_true'] at v;have:=d.ph _<|u q bu v.1;rw[v.2] at this;cases this
    have⟨m,N⟩:=d.exec D E j u;have O:k b=aj:=by
     cases q:k b with
     |false=>rfl
     |true=>
      have m:=t b q;have T:b<l.size:=bu;have M:l[b]? =K l[b]:=n7 T;simp only[jh,M,tZ] at m h;rw[m] at h;cases h
    refine V b c a _ y O w j m N (Z _ _ _ (d.next y j u λi Q=>Y b c i y j Q) (λp S=>by
     rw[xX bu,t p S];simp) ?_)
    have:=Av bu h;omega
end
section
variable{m:Bool}{own:Nat->Prop}{H:List aO}{w:ag}{b:aO}{a:bt}{k:List ez}{R:List Nat}{o:cC}
def cy(c:fS P0 P S m Q)(d:Q own (b.at a<|bJ c1::bJ c2::k) H w):Q own (b.at a<|bJ (aS c1 c2)::k) H w:=nT c (λw=>stepG_seq) d
def iJ(d:fS P0 P S m Q)(c:Bool)(hx:bp a Qq=ak c)(e:Q own (b.at a<|bJ (if c then c1 else c2)::k) H w):Q own (b.at a<|bJ (.cond Qq c1 c2)::k) H w:=nT d (λw=>stepG_cond hx) e
def nS(c:fS P0 P S m Q){id:Nat}(d:Q own (b.at a<|bJ QK::fh id::k) H w):Q own (b.at a<|bJ (fT id QK)::k) H w:=nT c (λw=>stepG_block) d
def ue(c:fS P0 P S m Q){id:Nat}(d:Q own (b.at a k) H w):Q own (b.at a<|fh id::k) H w:=nT c (λw=>stepG_inBlock) d
def xL(c:fS P0 P S m Q)(d:Q own (b.at a<|bJ QK::gx QK::k) H w):Q own (b.at a<|bJ (.loop QK)::k) H w:=nT c (λw=>stepG_loop) d
def ve(c:fS P0 P S m Q)(d:Q own (b.at a<|bJ QK::gx QK::k) H w):Q own (b.at a<|gx QK::k) H w:=nT c (λw=>stepG_inLoop) d
def nV(c:fS P0 P S m Q)(d:Q own (b.at a k) H w):Q own (b.at a<|bJ ey::k) H w:=nT c (λw=>stepG_skip) d
def wA(c:fS P0 P S m Q){id:Nat}(d:jJ id k=K k')(e:Q own (b.at a k') H w):Q own (b.at a<|bJ (.exit id)::k) H w:=nT c (λw=>stepG_exit d) e
def vg(c:fS P0 P S m Q)(d:Q own {b.at a (bJ .ret::k) with mode:=jj} H w):Q own (b.at a<|bJ .ret::k) H w:=nT c (λw=>by rfl) d
def I0(c:fS P0 P S m Q)(d:Q own {b.at a [] with mode:=jj} H w):Q own (b.at a []) H w:=nT c (λw=>stepG_end) d
def Rr(c:fS P0 P S m Q){id:Nat}(d:Q own (b.at a<|bY J (fp<|U J)::k) H w):Q own (b.at a<|bJ (iB id J aj)::k) H w:=nT c (λw=>stepG_region) d
def dr(c:fS P0 P S m Q)(d:Q own (b.at a k) H w):Q own (b.at a<|bY J []::k) H w:=nT c (λw=>stepG_region_end) d
def Rm(e:fS P0 P S m Q){id:Nat}(j:P.follows .mixedOrders=af)(h:∀d,Q own (b.at a<|bY J (lX eu J (U J) d (jw (U J) aj) [])::k) H w):Q own (b.at a<|bJ (iB id J af)::k) H w:=
 e.step _ _ _ _ λc p=>by
  have f:cw P m (aX (b.at a<|bJ (iB id J af)::k) H) c= .go (aX (b.at a<|bY J (y4 (P.follows .mixedOrders) J<|dG c (dU c)<|.order b.fn id)::k) H) {c with drawn:=dU c+1}:=by rfl
  have q:∀d,y4 (P.follows .mixedOrders) J d=lX eu J (U J) d (jw (U J) aj) []:=λd=>by
   simp only[y4,j,Bool.true_or,if_true];rfl
  rw[q] at f;have n:g6 own c {c with drawn:=dU c+1}=g6 own c c:=rfl;refine⟨_,_,_,_,f,⟨λ_ _ _=>rfl,aZ _,rfl,rfl,rfl,λr=>r,λs g=>by simp at g⟩,?_⟩;rw[n,CN];exact e.rely _ _ _ _ _ (h _)<|p.trans ⟨λ_ _=>rfl,aZ _,rfl,rfl,rfl⟩
def I2(d:fS P0 P S m Q)(c:J[i]? =K o)(g:eI o (en J a.tmps)=aj)(f:Q own (b.at (bw a o.dst bR)<|bY J R::k) H w):Q own (b.at a<|bY J (i::R)::k) H w:=by
 refine nT d (λw=>?_) f;have e:dR (b.at a<|bY J (i::R)::k) bR=b.at (bw a o.dst bR) (bY J R::k):=by rw[xl,c];rfl
 rw[<-e];simp[aX,cw,gd,stepG.oper,Frame.oper?,Frame.at,c,g]
def tf(d:fS P0 P S m Q)(e:dj b≠.early)(g:J[i]? =K o)(j:eI o (en J a.tmps)=af)
 (h:∀c,(bX (bp a) o).run P c=cm (fi v) c/\(bX (bp a) o).events P c #[]=#[]) (f:Q own (b.at (bw a o.dst v)<|bY J R::k) H w):Q own (b.at a<|bY J (i::R)::k) H w:=
 vf d e g j (λc _=>⟨(h c).1,λn p=>bu⟩) f
def I1(h:fS P0 P S m Q){f:gw}{fn:cF}{args:Array eg}(n:dj b≠.early)(q:J[i]? =K o)(r:eI o (en J a.tmps)=af)(g:o.op= .call {callee:=.value<|.func f,args,argTypes:=QF})
 (d:P.funcs[f]? =K fn) (e:(fn.name == "runtime.NumGoroutine")=aj) (j:fn.body=K QK) (p:Q own (eT P f (args.map<|bp a) dM) (b.at a (bY J (i::R)::k)::H) w):Q own (b.at a<|bY J (i::R)::k) H w:=by
 have c:nQ fn.body=aj:=gG j;refine nT h (λw=>?_) p;rw[stepG_enter q r n<|run_call_body g d e c];have:listed P b.fn a o w=#[]:=by unfold listed;rw[events_call_body g d e c];exact Conc.seen_none P _
 rw[this]
def Rp(c:fS P0 P S m Q){fn:cF}{T:bt}(h:dj b=dM)(d:bU a=[])(f:P.funcs[b.fn]? =K fn)(n:∀w,(dB fn a.tmps).run P w=cm v w)(e:∀w,(dB fn a.tmps).events P w #[]=#[])(j:J[i]? =K o)
 (g:Q own (Qg.at (bw T o.dst v)<|bY J R::k) H w):Q own {b.at a QO with mode:=jj} (Qg.at T (bY J (i::R)::k)::H) w:=by
 refine nT c (λw=>?_) g;rw[stepG_leave h d f (n w)<|e w,xl,j];rfl
def pI (e:Nat)(S own:Nat->Prop)(d:ef):Prop:=(∃m,d.loc= .mark m/\Neutral m)\/(∃c:aL,d.loc= .cell c/\(cD c=e\/own (cD c)\/(S (cD c)/\d.write=aj)))
def pI.ev(e:Qa n)(f:∀b,own b->Qa b)(h:pI n S own QU):EvW S Qa QU:=by
 unfold EvW;rcases h with⟨m,h,d⟩|⟨g,h,c⟩;rw[h];exact d;rw[h];rcases c with rfl|c|c;exact av e;exact av<|f _ c;exact ai c
def jb (S own:Nat->Prop)(w:ag):Prop:=∀b,S b\/own b->b<U w.heap
def oS(B:fS P0 P S m Q)(E:jb S own w)(C:dj b≠.early)(I:J[i]? =K o)(L:eI o (en J a.tmps)=af)(p:cz)(M:cZ P0 p)(v:Nat->F)
 (h:∀c,RelB (λb=>S b\/own b) w c->∃d,(bX (bp a) o).run P c=cm (fi<|v<|U c.heap) d/\dF d=iz c.heap p/\d.tape=c.tape/\d.os=c.os/\d.output=c.output/\∀n∈(bX (bp a) o).events P c #[],pI (U c.heap) S own n)
 (G:∀j d,U w.heap<=j->U d.heap=j+1->RelB (λb=>S b\/own b) w d->d.heap[j]? =K p->Q (λb=>own b\/b=j) (b.at (bw a o.dst<|v j)<|bY J R::k) H d):Q own (b.at a<|bY J (i::R)::k) H w:=
 EA B C I L λc e=>by
  have⟨d,x,g,q,r,s,y⟩:=h c e;have u:g6 own c d=λb=>own b\/b=U c.heap:=by
   funext N;unfold g6;rw[g,Array.size_push];apply propext;constructor;rintro(h|h);exact av h;exact ai aa;rintro(h|h);exact av h;exact ai aa
  have t:∀b:Nat,b<U c.heap->d.heap[b]? =c.heap[b]? :=λb f=>by
   rw[g,p6,if_neg aa]
  refine⟨_,d,x,⟨λb f _=>t b f,by rw[g];simp,q,r,s,λ_=>trivial,λn D=>?_⟩,?_⟩;rw[u];exact(y n D).ev (ai Y) λb f=>av f;rw[u];refine G (U c.heap) d e.size (by rw[g];simp) ⟨λb f=>?_,by rw[g];simp;have:=e.size;omega,aB q e.tape,aB r e.os,aB s e.output⟩ (by rw[g];simp);rw[<-e.at_ b f];exact t b<|cL (E b f) e.size
def jb.new(h:jb S own w)(d:U w.heap<=n)(e:U u.heap=n+1):jb S (λb=>own b\/b=n) u:=λb c=>by
 rcases c with c|c|c;have:=h b<|av c;omega;have:=h b<|ai c;omega;omega
def Rq(n:fS P0 P S m Q)(p:dj b≠.early)(r:J[i]? =K o)(t:eI o (en J a.tmps)=af)
 (h:∀d,RelB (λb=>S b\/own b) w d->∃e,(bX (bp a) o).run P d=cm .skip e/\oL P0 S own d e ((bX (bp a) o).events P d #[])/\Q (g6 own d e) (b.at (bw a o.dst bR)<|bY J R::k) H e):Q own (b.at a<|bY J (i::R)::k) H w:=
 n.step _ _ _ _ λd s=>by
  have⟨e,g,c,j⟩:=h d s;exact⟨_,_,_,_,stepG_none r t p g,⟨c.keep,c.size,c.tape,c.os,c.output,c.hp,λf q=>c.evs f<|Conc.mem_listed q⟩,j⟩
structure tc(S own:Nat->Prop)(n:Nat)(ob:cz)(w w':ag):Prop where
 at_:∀b,S b\/own b->b≠n->w'.heap[b]? =w.heap[b]?
 set:w'.heap[n]? =K ob
 size:U w.heap<=U w'.heap
 tape:dG w'=dG w
 os:w'.os=w.os
 output:ga w'=ga w
structure wj(n:Nat)(ob:cz)(w1 w':ag):Prop where
 heap:dF w'=cS w1.heap n ob
 tape:dG w'=dG w1
 os:w'.os=w1.os
 output:ga w'=ga w1
def wj.J9(h:wj n Ql u W)(f:own n)(s:n<U u.heap)(x:cZ P0 Ql)(r:∀c∈QS,pI n S own c)(d:RelB (λb=>S b\/own b) w u):oL P0 S own u W QS/\g6 own u W=own/\tc S own n Ql w W:=by
 have v:U W.heap=U u.heap:=by rw[h.heap];simp
 have g:∀b:Nat,b≠n->W.heap[b]? =u.heap[b]? :=λb e=>by rw[h.heap,nI,if_neg λc=>e<|bq c]
 have j:g6 own u W=own:=by
  funext y;unfold g6;rw[v];apply propext;constructor;rintro(h|h);exact h;omega;exact av
 refine⟨⟨λb e t=>g b λc=>t<|c▸f,aa,h.tape,h.os,h.output,λ_=>trivial,λc p=>?_⟩,j,⟨λb e q=>aB (g b q)<|d.at_ b e,by rw[h.heap,nI,if_pos Y,if_pos s],cA d.size,aB h.tape d.tape,aB h.os d.os,aB h.output d.output⟩⟩;rw[j];exact(r c p).ev f λ_ h=>h
def vh(t:fS P0 P S m Q)(v:jb S own w)(u:dj b≠.early)(x:J[i]? =K o)(B:eI o (en J a.tmps)=af)(g:own n)(f:cz)(y:cZ P0 f)
 (h:∀d,RelB (λb=>S b\/own b) w d->∃c,(bX (bp a) o).run P d=cm .skip c/\wj n f d c/\∀j∈(bX (bp a) o).events P d #[],pI n S own j)
 (E:∀c,tc S own n f w c->Q own (b.at (bw a o.dst bR)<|bY J R::k) H c):Q own (b.at a<|bY J (i::R)::k) H w:=
 Rq t u x B λd e=>by
  have⟨c,q,r,s⟩:=h d e;have⟨p,C,D⟩:=r.J9 (P0:=P0) g (cL (v n<|ai g) e.size) y s e;exact⟨c,q,p,bu⟩
def Rt(t:fS P0 P S m Q)(x:jb S own w)(u:dj b≠.early)(y:J[i]? =K o)(C:eI o (en J a.tmps)=af)(g:own n)(f:cz)(B:cZ P0 f)(v:F)
 (h:∀d,RelB (λb=>S b\/own b) w d->∃c,(bX (bp a) o).run P d=cm (fi v) c/\wj n f d c/\∀j∈(bX (bp a) o).events P d #[],pI n S own j)
 (G:∀c,tc S own n f w c->Q own (b.at (bw a o.dst v)<|bY J R::k) H c):Q own (b.at a<|bY J (i::R)::k) H w:=
 EA t u y C λd e=>by
  have⟨c,q,r,s⟩:=h d e;have⟨p,D,E⟩:=r.J9 (P0:=P0) g (cL (x n<|ai g) e.size) B s e;exact⟨v,c,q,p,bu⟩
def jb.set(h:jb S own w)(d:tc S own n Ql w u):jb S own u:=λb c=>cL (h b c) d.size
def Ro(r:fS P0 P S m Q)(y:dj b≠.early){O p:Nat->Bool}{z:bt}{T:bt}(I:yt J O=af)(x:CW J O n=af)
 (M:∀(i:Nat) o e,O i=af->J[i]? =K o->o.dst=K e->e<U z.tmps/\cx z e=val i)
 (N:∀s,(∀(u:Nat) o,O u=af->J[u]? =K o->o.dst≠K s)->cx z s=cx T s)
 (E:∀i o,O i=af->p i=aj->i≠n->J[i]? =K o->(eI o (en J z.tmps)=af/\∀d,RelB (λb=>S b\/own b) w d->(bX (bp z) o).run P d=cm (fi<|val i) d/\∀v∈(bX (bp z) o).events P d #[],EvW S own v)\/(eI o (en J z.tmps)=aj/\val i=bR))
 (L:∀c j l a,gM J O T z l a->n∈fY eu J l->n5 l<=c+1->Q own (b.at a<|bY J (n::lX eu J c j (cS l n af) [])::k) H w)
 (C:(∀i,i<U J->O i=af)->Q own (b.at z<|bY J []::k) H w):
 ∀(c j:Nat) (l:Array Bool) (a:bt),gM J O T z l a->(∀i,p i=af->cB l i aj=af)->n5 l<=c->Q own (b.at a<|bY J (lX eu J c j l [])::k) H w:=
 drawn (G:=λl a=>Q own (b.at a<|bY J l::k) H w) I x M N (λi o a X G B D h V t g=>by
  rcases E i o G B D h with⟨f,q⟩|⟨f,q⟩;exact vf r y h (aB t f) (λd W=>bu) g;rw[q] at g;exact I2 r h (aB t f) g) L C
end
section
variable{O r3:Nat->Bool}{T z A:bt}{l:Array Bool}{a:bt}
def gM.acT(c:gM J O T z l a){o:cC}(y:n∈fY eu J l)(f:J[n]? =K o)(t:∀i,O i=af->r3 i=af)(C:r3 n=af)(B:A.tmps.size=z.tmps.size)(x:bU A=bU z)
 (E:∀(i:Nat) o d,O i=af->J[i]? =K o->o.dst=K d->cx A d=cx z d) (D:∀d,o.dst=K d->d<A.tmps.size/\cx A d=v):gM J r3 T A (cS l n af) (bw a o.dst v):=by
 have⟨j,g,_,_,u⟩:=mem_ready y;rw[f] at g;cases g;have e:gM J r3 T A l a:=⟨c.size,c.closed,λi p=>t i<|c.ph i p,aB c.w6<|bq B,aB c.zJ<|bq x,λs h=>by
  have⟨i,j,e,q,r⟩:=h;rw[E i j s (c.ph i e) q r];exact c.yes s h,c.no⟩
 exact e.next C f u D
def ac9:n5 (jw n aj)<=n:=by
 unfold n5;exact dW (List.countP_le_length) aI
end
section
variable{Q:bn}{own:Nat->Prop}{a:bt}{o:cC}{w J:ag}
def EvW.read(h:QU.loc= .cell R)(c:QU.write=aj)(b:S (cD R)\/own (cD R)):EvW S own QU:=by
 unfold EvW;rw[h];exact eD b (λd=>ai ⟨d,c⟩) av
def EB(d:RelB (λb=>S b\/own b) w J)(c:S (cD R)\/own (cD R)):ap J R=ap w R:=by
 unfold ap;rw[d.at_ (cD R) c]
def ju(h:o.op= .load Qd Qq)(hx:bp a Qq=cU (K R))(e:∀w,(isAgg Qd).run P w=cm aj w)(f:S (cD R)\/own (cD R))(i:ap w R=K v):∀J,RelB (λc=>S c\/own c) w J->(bX (bp a) o).run P J=cm (fi v) J/\∀d∈(bX (bp a) o).events P J #[],EvW S own d:=by
 intro J j;have g:ap J R=K v:=aB (EB j f) i;constructor;unfold bX;simp[h,hx,xm,tR,loadVar,e,g];intro d b;unfold bX at b;simp[h,hx,xm,tR,loadVar,e,g] at b;subst b;exact EvW.read Y Y f
def oz{cs:List F}{d:TypeDesc}(k:o.op= .load Qd Qq)(hx:bp a Qq=cU (K ⟨n,m,Z⟩))(l:g9 P Qd=K d)(y:d.isRow=af)(j:(P.info? Qd).map (·.size)=K (I cs))(u:S n\/own n)(x:pF w n m cs):∀J,RelB (λc=>S c\/own c) w J->(bX (bp a) o).run P J=cm (fi<|bZ<|cR cs) J/\∀e∈(bX (bp a) o).events P J #[],EvW S own e:=by
 intro J C;have f:pF J n m cs:=λb v h=>aB (EB C u)<|x b v h;have B:=run_loadAt_mid (P:=P) J n m Qd cs d f l y j;constructor
 .unfold bX;simp[k,hx,B]
 intro e g;have t:(isAgg Qd).run P J=cm af J:=by
  unfold isAgg;rw[Sem.run_bind,uQ l J];cases d<;>simp_all
 have⟨M,A,E⟩:=xD.1 j;have D:(lZ Qd).run P J=cm (I cs) J:=by simp[lZ,ko,A,E]
 unfold bX at g;simp only[k,hx] at g;have z:e∈(loadCellsFrom ⟨n,m,Z⟩ 0 (I cs) #[]).events P J #[]:=by
  have i:∃p,(loadCells ⟨n,m,Z⟩<|I cs).run P J=cm p J:=⟨_,run_loadCells_list (P:=P) J ⟨n,m,Z⟩ cs λb v G=>by rw[vN];exact f b v G⟩;have⟨p,i⟩:=i;simpa [xm,tR,loadVar,t,D,i,loadCells] using g
 rcases events_loadCellsFrom_at (P:=P) ⟨n,m,Z⟩ (λc=>c=n) rfl (I cs) 0 #[] J #[] (λb h=>by
  rw[fq,vN,f b cs[b]<|dV h];rfl) e z with q|⟨H,r,s,L⟩
 simp at q;exact EvW.read r s bu
def z3(f:o.op= .box Qd Qq)(hx:bp a Qq=v):∀J,RelB (λc=>S c\/own c) w J->∃b,(bX (bp a) o).run P J=cm (fi<|aK<|U J.heap) b/\dF b=iz J.heap (aq v.cells Qd)/\dG b=dG J/\b.os=J.os/\ga b=ga J/\∀d∈(bX (bp a) o).events P J #[],pI (U J.heap) S own d:=by
 intro J g;refine⟨cG J<|aq v.cells Qd,?_,rfl,rfl,rfl,rfl,?_⟩;unfold bX;simp[f,hx,Instr.box,newVar,newRow];intro d e;unfold bX at e;simp[f,hx,Instr.box,newVar,newRow] at e
def CU(f:o.op= .alloc Qd)(g:∀w,(lG Qd).run P w=cm v w):∀J,RelB (λc=>S c\/own c) w J->∃b,(bX (bp a) o).run P J=cm (fi<|aK<|U J.heap) b/\dF b=iz J.heap (aq v.cells Qd)/\dG b=dG J/\b.os=J.os/\ga b=ga J/\∀d∈(bX (bp a) o).events P J #[],pI (U J.heap) S own d:=by
 intro J h;refine⟨cG J<|aq v.cells Qd,?_,rfl,rfl,rfl,rfl,?_⟩;unfold bX;simp[f,Instr.alloc,g,newVar,newRow];intro d e;unfold bX at e;simp[f,Instr.alloc,g,newVar,newRow] at e
def M4{fz:Nat×Nat}(c:J.heap[n]? =K (aq C Qd fz)):wj n (aq qK Qd fz) J (J.setRow n qK):=by
 refine⟨?_,rfl,rfl,rfl⟩;unfold World.setRow;apply vK;intro d;simp only[yI,nI];by_cases b:n=d;subst b;rw[if_pos Y,if_pos Y,if_pos<|(dn.1 c).1,c];rfl;simp[b]
def vr(i:o.op= .store Qd Qq Qr)(hx:bp a Qq=cU (K ⟨n,off,Z⟩))(hy:bp a Qr=v)(x:(P.info? Qd).map (·.size)=K v.cells.size)(c:∀m∈dY v.cells,m3 m=af)(r:S n\/own n)(u:w.heap[n]? =K (aq C Qe (0,0)))(z:off+v.cells.size<=C.size):
 ∀J,RelB (λf=>S f\/own f) w J->∃k,(bX (bp a) o).run P J=cm .skip k/\wj n (aq (cR<|C.toList.take off++dY v.cells++C.toList.drop (off+v.cells.size)) Qe (0,0)) J k/\∀b∈(bX (bp a) o).events P J #[],pI n S own b:=by
 intro J y;have d:cq J n C Qe:=aB (y.at_ n r) u;have⟨A,h,j⟩:=xD.1 x;have e:=run_storeCells_at P n off Qe (dY v.cells) 0 C J d aa c;have t:=events_storeCells_at (P:=P) n off Qe (dY v.cells) 0 C J #[] d aa c;simp only[tY,yJ] at e;refine⟨_,?_,M4 d,λb g=>?_⟩;unfold bX;simp[i,hx,hy,yY,tR,storeVar,lZ,ko,h,j,e];have s:b∈(storeCells ⟨n,off,Z⟩ (dY v.cells) 0).events P J #[]:=by
  unfold bX at g;simpa [i,hx,hy,yY,tR,storeVar,lZ,ko,h,j,e] using g
 rcases t b s with p|⟨l,c,q⟩;simp at p;exact ai ⟨l,c,av q⟩
def F7{c:oI}{kl g:oe}{L b:Nat}(m:o.op= .makeSlice Qd Qq Qr)(l:bp a Qq=aJ kl (L:Int))(j:bp a Qr=aJ g (b:Int))(n:g9 P Qd=K (.slice Qe))(k:P.info? Qe=K c)(p:jH c=K v)(s:L<=b)(u:b*jm c<=140737488355328)(r:b<=9223372036854775807):
 ∀J,RelB (λh=>S h\/own h) w J->∃d,(bX (bp a) o).run P J=cm (fi<|aG (U J.heap) L b) d/\dF d=iz J.heap (aq (m7 v.cells<|b*c.size) Qe)/\dG d=dG J/\d.os=J.os/\ga d=ga J/\∀Qe∈(bX (bp a) o).events P J #[],pI (U J.heap) S own Qe:=by
 intro J t;have i:(jm c:Int)*(b:Int)<=281474976710656:=bu;have f:=run_make (P:=P) J Qd Qe c v n k p kl g (L:Int) (b:Int) aa aa i aa;simp only[Int.toNat_natCast] at f;refine⟨cG J<|aq (m7 v.cells<|b*c.size) Qe,?_,rfl,rfl,rfl,rfl,λq e=>?_⟩;unfold bX;simp[m,l,j,f];unfold bX at e;simp only[m,l,j] at e;simp[f,(events_make (P:=P) J Qd Qe c v n k p kl g (L:Int) (b:Int) aa aa i aa bu #[])] at e
def Yu{l:ChanDir}{k:oI}(h:o.op= .makeChan Qd Qq)(hx:bp a Qq=aJ Qw (n:Int))(j:g9 P Qd=K (.chan l Qe))(g:P.info? Qe=K k)(e:(n:Int)<=9223372036854775807)(f:(jm k:Int)*n<=281474976710544):
 ∀J,RelB (λd=>S d\/own d) w J->∃b,(bX (bp a) o).run P J=cm (fi<|.chan<|K<|U J.heap) b/\dF b=iz J.heap (.chan n #[] aj 0 0 aj)/\dG b=dG J/\b.os=J.os/\ga b=ga J/\∀Qe∈(bX (bp a) o).events P J #[],pI (U J.heap) S own Qe:=by
 intro J p;have i:=run_makeChan (P:=P) (w:=J) j g Qw n e f;refine⟨cG J<|.chan n #[] aj 0 0 aj,?_,rfl,rfl,rfl,rfl,λm c=>?_⟩;unfold bX;simp[h,hx,i];unfold bX at c;simp only[h,hx] at c;simp[i,(events_makeChan (P:=P) (w:=J) j g Qw n e f #[])] at c
end
structure Knows(a:bt)(n:Nat)(l:List (Nat×F)):Prop where
 size:U a.tmps=n
 slot:∀s v,l.lookup s=K v->cx a s=v
def M6{a:bt}(c:n<U a.tmps)(v:F)(s:Nat):cx (bw a (K n) v) s=if n=s then v else cx a s:=by
 unfold cx bw;simp only[jh,nI];by_cases b:n=s;subst b;simp[c];simp[b]
def size_put{a:bt}:(bw a QY v).tmps.size=U a.tmps:=by
 unfold bw
 split<;>simp
def Knows.put{a:bt}(h:Knows a n H)(f:d<n)(v:F):Knows (bw a (K d) v) n ((d,v)::H):=by
 refine⟨aB (size_put) h.size,λs g b=>?_⟩;rw[M6<|bV h.size f];simp only[vY] at b;by_cases c:d=s;subst c;simp at b;simp[b];have:(s==d)=aj:=by simpa using λe=>c<|bq e
 rw[this] at b;rw[if_neg c];exact h.slot s g b
def Knows.none{a:bt}(h:Knows a n H)(v:F):Knows (bw a Z v) n H:=h
def Knows.of{a:bt}(h:Knows a n H){s:Nat}(b:H.lookup s=K v):bp a (.tmp s)=v:=h.slot s v b
section
variable{a:bt}{o:cC}
def iw(c:o.op= .move Qq)(hx:bp a Qq=v):∀b,(bX (bp a) o).run P b=cm (fi v) b/\(bX (bp a) o).events P b #[]=#[]:=λb=>by
 unfold bX;simp[c,hx]
def z2(c:o.op= .assign Qq)(hx:bp a Qq=v):∀b,(bX (bp a) o).run P b=cm (fi v) b/\(bX (bp a) o).events P b #[]=#[]:=λb=>by
 unfold bX;simp[c,hx]
def Yr{f d g:Nat}{e:Array Field}{c:Field}(j:o.op= .fieldAddr Qd Qq f)(hx:bp a Qq=cU (K ⟨d,g,Z⟩))(l:g9 P Qd=K (.struct e))(i:e[f]? =K c)(k:∀h,(lZ c.type).run P h=cm (n+1) h):
 ∀b,(bX (bp a) o).run P b=cm (fi<|cU<|K ⟨d,g+c.offset,Z⟩) b/\(bX (bp a) o).events P b #[]=#[]:=λb=>by
 unfold bX;simp[j,hx,Instr.fieldAt,uQ l,i,tR,fieldPlace,k,vN]
def pV(g:o.op= .indexAddr Qd Qq Qr)(hx:bp a Qq= .slice (K ⟨n,m,Z⟩) k i)(hy:bp a Qr=aJ Qw (b:Int))(l:g9 P Qd=K (.slice Qe))(h:∀e,(lZ Qe).run P e=cm j e)(p:b<k):
 ∀c,(bX (bp a) o).run P c=cm (fi<|cU<|K ⟨n,m+b*j,Z⟩) c/\(bX (bp a) o).events P c #[]=#[]:=λc=>by
 have f:(b:Int)<(k:Int):=aa;unfold bX;simp[g,hx,hy,Instr.indexAt,asIntOf,uQ l,f,h,vN];exact⟨λd=>absurd d aa,λd=>absurd d aa⟩
def ye(c:o.op= .call {callee:=.builtin .len,args:= #[Qq],argTypes:= #[Qd]})(hx:bp a Qq= .slice O n m)(d:g9 P Qd=K (.slice Qe)):
 ∀b,(bX (bp a) o).run P b=cm (fi<|n9 n) b/\(bX (bp a) o).events P b #[]=#[]:=λb=>by
 unfold bX;simp[c,hx,m8,invoke,builtin,Builtin.len_,uQ d,goInt]
def z5(c:o.op= .extract Qq n)(hx:bp a Qq=cP C)(d:C[n]? =K v):∀b,(bX (bp a) o).run P b=cm (fi v) b/\(bX (bp a) o).events P b #[]=#[]:=λb=>by
 unfold bX;simp[c,hx,Instr.extract,d]
def Lx{c d e:eg}(f:o.op= .pick c d e)(hx:bp a c=ak qW):∀b,(bX (bp a) o).run P b=cm (fi (if qW then bp a d else bp a e)) b/\(bX (bp a) o).events P b #[]=#[]:=λb=>by
 unfold bX;simp[f,hx,asBool]
def Yt(c:o.op= .binOp .lss Qd Qq Qr Qe)(hx:bp a Qq=z9 M)(hy:bp a Qr=z9 qB):∀b,(bX (bp a) o).run P b=cm (fi<|ak<|decide (M<qB)) b/\(bX (bp a) o).events P b #[]=#[]:=λb=>by
 unfold bX;simp[c,hx,hy,binOp,eqGuard,Op.intCmp]
def Yq(c:o.op= .binOp .eql Qd Qq Qr Qe)(hx:bp a Qq=z9 M)(hy:bp a Qr=z9 qB):∀b,(bX (bp a) o).run P b=cm (fi<|ak<|M==qB) b/\(bX (bp a) o).events P b #[]=#[]:=λb=>by
 unfold bX;simp[c,hx,hy,binOp,eqGuard,Op.intCmp]
def Yv(c:o.op= .binOp .neq Qd Qq Qr Qe)(hx:bp a Qq=z9 M)(hy:bp a Qr=z9 qB):∀b,(bX (bp a) o).run P b=cm (fi<|ak<|M !=qB) b/\(bX (bp a) o).events P b #[]=#[]:=λb=>by
 unfold bX;simp[c,hx,hy,binOp,eqGuard,Op.intCmp]
def uo(c:o.op= .binOp .add Qd Qq Qr Qe)(hx:bp a Qq=n9 n)(hy:bp a Qr=n9 j)(d:n+j<=9223372036854775807):∀b,(bX (bp a) o).run P b=cm (fi<|z9 ((n+j:Nat):Int)) b/\(bX (bp a) o).events P b #[]=#[]:=λb=>by
 have:aM.wrap ((n:Int)+(j:Int))=((n+j:Nat):Int):=by rw[kF]<;>omega
 unfold bX;simp[c,hx,hy,binOp,eqGuard,Op.intArith,this]
end
def below(P:bn):aO:={(default:aO) with fn:=U P.funcs,mode:=jx [goexitEntry]}
section
variable{H:bn}{c:Nat}{own:Nat->Prop}{O:List F}{R:List aO}{w:ag}{b:aO}{a:bt}{k:List ez}{Q:Array cC}{J:List Nat}{o:cC}
def adE {f:gw} {fn:cF} (e:P.funcs[f]? =K fn) (r:(fn.name == "runtime.NumGoroutine")=aj) (d:fn.body=K QK) (h:gY H P S c own O (aX ((baseD f).at {tmps:=args++jw (fn.ntmps-U args) bR,defers:=[]} [bJ QK]) [below P]) w):gY H P S c own O (born P<|dcall f args) w:=by
 have p:∀w,cw P aj (born P<|dcall f args) w= .go (aX ((baseD f).at {tmps:=args++jw (fn.ntmps-U args) bR,defers:=[]} [bJ QK]) [below P]) w #[]:=by
  intro w;have j:¬fn.name= "runtime.NumGoroutine" :=bu;rw[<-enter_atD args e d];simp[born,cw,kW,oJ,dcall,invoke,callFunc,e,j,d,jT,seen_none,aX,below];rfl
 exact adK Y (λg _=>p g) (λq l=>by simp at l) λg n=>h.rely n
def Oz{fn:cF}(t:dj b= .deferred)(r:a.defers=[{target:=.builtin .close QF Qd q8,args:= #[fZ<|K c]}])(f:P.funcs[b.fn]? =K fn)(v:rR fn=#[])(u:fn.norace=aj):gY H P S c own [] (aX {b.at a QO with mode:=jj} [below P]) w:=by
 refine adG (n:=2) (g':=aX {b.at ⟨a.tmps,[]⟩ QO with mode:=jj} [below P]) Y ?_ ?_ ?_;refine ai ⟨rfl,aX (below P) [],λw=>?_,ai ⟨rfl,{aX (below P) [] with status:=.finished},λw=>?_,rfl⟩⟩;simp[aX,cw,kW,m6,Frame.at,t,f,dB,v,iD,jT,below,goexitEntry];have j:(default:aO).defers=[]:=rfl;have l:(default:aO).todo=[]:=rfl;simp[aX,cw,kW,below,Frame.catches,goexitEntry,j,l];simp[mayWake,aX,Frame.at];intro d _ h g s x y e;have n:(invoke (.builtin .close QF Qd q8) #[fZ<|K c]).run P d=cm (fi<|cP #[]) (lY d c h g af s x y):=by
  simp[go_sem,run_close_open _ _ e,lY]
 have p:(invoke (.builtin .close QF Qd q8) #[fZ<|K c]).events P d #[]=#[⟨.obj c,aj,af⟩,⟨.obj c,af,af⟩]:=by
  simp[go_sem,events_close_open _ _ e]
 have q:iD P b.fn #[⟨.obj c,aj,af⟩,⟨.obj c,af,af⟩]=#[⟨.obj c,aj,af⟩,⟨.obj c,af,af⟩]:=seen_eq (by simp[f,u]) aI;simp[aX,cw,kW,oJ,Frame.at,r,n,p,q,jT]
def ady(g:dj b≠.early)(e:Q[i]? =K o)(q:eI o (en Q a.tmps)=af)(f:o.op= .send Qq Qr)(hx:bp a Qq=fZ (K c))(hy:bp a Qr=v)
 (j:gY H P S c own O (aX (b.at (bw a o.dst bR)<|bY Q J::k) R) w):gY H P S c own (v::O) (aX (b.at a<|bY Q (i::J)::k) R) w:=by
 have p:nN (aX (b.at a<|bY Q (i::J)::k) R) bR=aX (b.at (bw a o.dst bR)<|bY Q J::k) R:=by
  simp only[nN,aX,xl,e];rfl
 refine adJ (g2:=aX (b.at a<|bY Q (i::J)::k) R) (z:=cP #[]) Y λd l=>⟨?_,bV p<|j.rely l⟩;have n:(bX (bp a) o).run P d=cm (.comm #[scase c v<|cP #[]] af .send) d:=by
  unfold bX;simp[f,hx,hy,scase]
 have h:(bX (bp a) o).events P d #[]=#[]:=by
  unfold bX;simp[f,hx,hy]
 rw[stepG_comm e q g n];unfold listed;rw[h,seen_none]
end
section
variable{H:bn}{m:Bool}{T:(Nat->Prop)->aO->List aO->ag->Prop}{own:Nat->Prop}{R:List aO}{w:ag}{b:aO}{a:bt}{k:List ez}{Q:Array cC}{J:List Nat}{o:cC}
def Rl(h:fS H P S m T)(s:dj b≠.early)(e:Q[i]? =K o)(r:eI o (en Q a.tmps)=af){d:Builtin}(f:o.op= .defer {callee:=.builtin d,args:= #[Qq],argTypes:=QF})(hx:bp a Qq=v)
 (n:∀g,T own (b.at (bw ⟨a.tmps,{target:=.builtin d QF o.type g,args:= #[v]}::bU a⟩ o.dst bR)<|bY Q J::k) R w):T own (b.at a<|bY Q (i::J)::k) R w:=by
 refine nT h (λw=>?_)<|n (#[Qq].map fun| .const _=>af|_=>aj);have q:(bX (bp a) o).run P w=cm (.defer {target:=.builtin d QF o.type (#[Qq].map fun| .const _=>af|_=>aj),args:= #[v]}) w:=by
  unfold bX;simp[f,m8,hx];cases Qq<;>rfl
 have j:(bX (bp a) o).events P w #[]=#[]:=by
  unfold bX;simp[f,m8]
 have l:dR (b.at ⟨a.tmps,{target:=.builtin d QF o.type (#[Qq].map fun| .const _=>af|_=>aj),args:= #[v]}::bU a⟩<|bY Q (i::J)::k) bR=b.at (bw ⟨a.tmps,{target:=.builtin d QF o.type (#[Qq].map fun| .const _=>af|_=>aj),args:= #[v]}::bU a⟩ o.dst bR) (bY Q J::k):=by rw[xl,e];rfl
 have p:(dj b==CallKind.early)=aj:=bu;rw[stepG_oper e r,<-l];simp[jV,q,j,aX,Frame.at,p,jT,seen_none]
end
def fill (a:bt):List (Nat×F)->bt
 | []=>a
 |(c,v)::l=>bw (fill a l) (K c) v
theorem xU{a:bt}:∀l,(fill a l).tmps.size=U a.tmps
 | []=>rfl
 |(c,v)::l=>aB (size_put)<|xU l
theorem tj{a:bt}:∀l,bU (fill a l)=bU a
 | []=>rfl
 |(c,v)::l=>tj l
theorem Knows.fill{n:Nat}{R:List (Nat×F)}(h:Knows qT n R):∀(l:List (Nat×F)),(dI l λc=>decide (c.1<n))=af->Knows (fill qT l) n (l++R)
 | [],_=>h
 |(d,v)::l,a=>by
  simp only[xw,fe,decide_eq_true_eq] at a;exact(Knows.fill h l a.2).put a.1 v
theorem zM{a:bt}{s:Nat}:∀(l:List (Nat×F)),(dI l λg=>decide (g.1<U a.tmps))=af->cx (fill a l) s=(l.lookup s).getD (cx a s)
 | [],_=>rfl
 |(c,v)::l,e=>by
  simp only[xw,fe,decide_eq_true_eq] at e;show cx (bw (fill a l) (K c) v) s=_;rw[M6<|by rw[xU];exact e.1,zM l e.2,vY];by_cases d:c=s
  .subst d;simp
  .have:(s==c)=aj:=by simpa using λf=>d (bq f)
   rw[this,if_neg d]
def lN (J:Array cC)(a:Nat):Option Nat:=(J[a]?).bind (·.dst)
def o4 (J:Array cC)(Ph:Nat->Bool)(u n:Nat)(d:List Nat):Bool:=
 yt J Ph&&CW J Ph u&&dI d (λc=>decide (c<n)&&(fp<|U J).any λa=>Ph a&&lN J a==K c)&&dI (fp<|U J) λa=> !Ph a||match lN J a with
  |some c=>iT d c
  |none=>af
theorem K1{s:Nat}:∀{l:List (Nat×F)},iT (l.map (·.1)) s=af->∃v,l.lookup s=K v
 | [],a=>by simp at a
 |(c,v)::l,a=>by
  simp only[kY,List.contains_cons,tM] at a;rw[vY];cases d:s==c with
  |true=>exact⟨v,rfl⟩
  |false=>
   rw[d] at a;exact K1<|a.resolve_left aI
theorem Bi{s:Nat}{v:F}:∀{l:List (Nat×F)},l.lookup s=K v->s∈l.map (·.1)
 | [],a=>by simp at a
 |(d,e)::l,a=>by
  rw[vY] at a;cases c:s==d with
  |true=>simp at c;simp[c]
  |false=>rw[c] at a;simp[Bi a]
section
variable{O:bn}{m:Bool}{own:Nat->Prop}{H:List aO}{w:ag}{b:aO}{k:List ez}{u n:Nat}{l R:List (Nat×F)}
def Gj(i:o4 J Ph u n (l.map (·.1))=af)(B:U a0.tmps=n):yt J Ph=af/\CW J Ph u=af/\(dI l λf=>decide (f.1<U a0.tmps))=af/\(∀c a d,Ph c=af->J[c]? =K a->a.dst=K d->∃v,l.lookup d=K v/\d<U a0.tmps)/\∀s,(∀(t:Nat) a,Ph t=af->J[t]? =K a->a.dst≠K s)->cx (fill a0 l) s=cx a0 s:=by
 unfold o4 at i;simp only[fe] at i;have⟨⟨⟨x,y⟩,z⟩,A⟩:=i;have o:=fA.1 z;have p:(dI l λf=>decide (f.1<U a0.tmps))=af:=fA.2 λf q=>bu;refine⟨x,y,p,λc a d q e g=>?_,λs C=>?_⟩;have:=fA.1 A c<|nP.2 (dn.1 e).1;rw[q] at this;have j:lN J c=a.dst:=by unfold lN;rw[e];rfl
 rw[j,g] at this;simp only[Bool.not_true,Bool.false_or] at this;have⟨v,r⟩:=K1 this;refine⟨v,r,?_⟩;have:=o d<|Bi r;simp only[fe,decide_eq_true_eq] at this;rw[B];exact this.1;rw[zM l p];cases g:l.lookup s with
 |none=>rfl
 |some v=>
  exfalso
  have:=o s<|Bi g;simp only[fe] at this;have⟨c,D,h⟩:=xx.1 this.2;simp only[fe,beq_iff_eq,lN] at h;have⟨a,e,j⟩:=lH.1 h.2;exact C c a h.1 e j
def uf(F:fS O P S m Q)(M:dj b≠.early)(r:Knows a0 n R)(N:o4 J Ph u n (l.map (·.1))=af)
 (Y:Knows (fill a0 l) n (l++R)->∀a c,Ph a=af->Dn a=aj->a≠u->J[a]? =K c->∃v,(c.dst.bind λh=>l.lookup h)=K v/\((eI c (en J (fill a0 l).tmps)=af/\∀o,RelB (λb=>S b\/own b) w o->(bX (bp<|fill a0 l) c).run P o=cm (fi v) o/\∀i∈(bX (bp<|fill a0 l) c).events P o #[],EvW S own i)\/(eI c (en J (fill a0 l).tmps)=aj/\v=bR)))
 (Z:∀c,J[u]? =K c->∀g j d e,gM J Ph a0 (fill a0 l) d e->u∈fY eu J d->n5 d<=g+1->(∀s∈c.looksAt J,cx e s=cx (fill a0 l) s)->eI c (en J e.tmps)=eI c (en J (fill a0 l).tmps)->Q own (b.at e<|bY J (u::lX eu J g j (cS d u af) [])::k) H w)
 (U:(∀a,a<J.size->Ph a=af)->Knows (fill a0 l) n (l++R)->Q own (b.at (fill a0 l)<|bY J []::k) H w):
 ∀(g j:Nat) (d:Array Bool) (e:bt),gM J Ph a0 (fill a0 l) d e->(∀a,Dn a=af->d.getD a aj=af)->n5 d<=g->Q own (b.at e<|bY J (lX eu J g j d [])::k) H w:=by
 have⟨p,G,z,L,q⟩:=Gj (a0:=a0) N r.size;have A:=r.fill l (by rw[<-r.size];exact z);refine Ro F M (val:=λa=>((lN J a).bind λh=>l.lookup h).getD bR) p G (λa c h x f C=>?_) q (λa c x T V f=>?_) (λg j d e t D X=>?_) λI=>U I A;have⟨v,y,W⟩:=L a c h x f C;have i:lN J a=K h:=by unfold lN;rw[f];exact C
 refine⟨by rw[xU];exact W,?_⟩;rw[zM l z,i];simp[y];have⟨v,y,E⟩:=Y A a c x T V f;have i:lN J a=c.dst:=by unfold lN;rw[f];rfl
 rw[i,y];exact E;have⟨c,f,_,_,B⟩:=mem_ready D;exact Z c f g j d e t D X (t.looks p q f B) (t.exec p q f B).2
def gM.Cv{r3:Nat->Bool}(x:gM J Ph a0 (fill a0 l) q8 qT)(B:u∈fY eu J q8)(A:J[u]? =K Qs)(i:U a0.tmps=n)(s:o4 J Ph u n (l.map (·.1))=af)(r:(dI (l2++l) λd=>decide (d.1<n))=af)
 (q:∀c,Ph c=af->r3 c=af) (C:r3 u=af) (t:(dI (fp<|U J) λc=> !Ph c||match lN J c with|some a=> !(iT (l2.map (·.1))) a|none=>af)=af) (D:∀a,Qs.dst=K a->(l2++l).lookup a=K v):gM J r3 a0 (fill a0<|l2++l) (cS q8 u af) (bw qT Qs.dst v):=by
 have⟨E,G,p,L,M⟩:=Gj (a0:=a0) s i;have g:(dI (l2++l) λd=>decide (d.1<U a0.tmps))=af:=bu;refine x.acT B A q C (by rw[xU,xU]) (by rw[tj,tj]) (λc I a f j e=>?_) λa e=>?_;rw[zM _ g,zM l p];have:=fA.1 t c<|nP.2 (dn.1 j).1;have o:lN J c=K a:=by unfold lN;rw[j];exact e
 rw[f,o] at this;simp only[Bool.not_true,Bool.false_or,Bool.not_eq_true'] at this;have z:l2.lookup a=Z:=bu;rw[List.lookup_append,z];rfl;have h:=D a e;refine⟨?_,by rw[zM _ g,h];rfl⟩;rw[xU,i];have:=fA.1 r;have y:=Bi h;obtain⟨d,f,rfl⟩:=jW.1 y;simpa using this d f
def under(J:Array cC):Nat->List Nat->List Nat
 |0,l=>l
 |n+1,l=>l++under J n (l.flatMap λc=>match J[c]? with
  |some d=>(d.after.toList.filter λa=>jl eu a).map (·.on)
  |none=>[])
theorem Ol{v:bt}{h:Array Bool}{p:bt}(j:gM J Ph a0 v h p):∀(n:Nat) (l:List Nat),(∀o∈l,cB h o aj=af)->∀d∈under J n l,cB h d aj=af
 |0,l,e,d,a=>e d a
 |n+1,l,e,d,a=>by
  rcases eP.1 a with a|a;exact e d a;refine Ol j n _ (λo c=>?_) d a;have⟨g,r,c⟩:=xy.1 c;cases f:J[g]? with
  |none=>rw[f] at c;simp at c
  |some t=>
   rw[f] at c;obtain⟨q,i,rfl⟩:=jW.1 c;have⟨i,s⟩:=List.mem_filter.1 i;exact j.closed g t (e g r) f q bu s
def vB(q:gM J Ph a0 qT q8 qU)(t:u∈fY eu J q8)(p:(dI (fp<|U J) λa=> !Dn a||a==u||iT (under J i (match J[u]? with
 |some g=>(g.after.toList.filter λc=>jl eu c).map (·.on)
 |none=>[])) a)=af) (h:∀a,Dn a=af->a<U J):∀a,Dn a=af->cB (cS q8 u af) a aj=af:=by
 intro a f;have⟨g,s,v,_,j⟩:=mem_ready t;rw[xX bu];have:=fA.1 p a<|nP.2<|h a f;rw[f,s] at this;simp only[Bool.not_true,Bool.false_or,tM,beq_iff_eq] at this;rcases this with d|d;simp[d];rw[Ol q _ _ (λx r=>by
  obtain⟨c,e,rfl⟩:=jW.1 r;have⟨e,o⟩:=List.mem_filter.1 e;exact j c bu o) a<|List.contains_iff_mem.1 d]
 simp
def zC(g:fS O P S m Q){id:Nat}(i:P.follows .mixedOrders=af)(h:∀(f d:Nat) (a:Array Bool) (e:bt),gM J Ph a0 (fill a0 l) a e->(∀c,(λ_=>aj) c=af->cB a c aj=af)->n5 a<=f->Q own (b.at e<|bY J (lX eu J f d a [])::k) H w):Q own (b.at a0<|bJ (iB id J af)::k) H w:=
 Rm g i λd=>h _ d _ _ (gM.start (bq<|xU _)<|bq<|tj _) (λc h=>de h) ac9
def WM(h:∀a,a<U J->cB q8 a aj=af):∀d f,lX eu J d f q8 []=[]:=by
 have o:fY eu J q8=[]:=by
  refine List.eq_nil_iff_forall_not_mem.2 λa i=>?_;have⟨p,_,j,e,_⟩:=mem_ready i;have c:=h a j;simp only[jh] at c e;cases g:q8[a]? with
  |none=>rw[g] at c;cases c
  |some b=>rw[g] at c e;simp at c e;rw[c] at e;cases e
 intro d f;cases d with
 |zero=>rfl
 |succ d=>
  simp only[lX];change (match (fY eu J q8)[f%I (fY eu J q8)]? with
   |some a=>lX eu J d (f/I (fY eu J q8)) (cS q8 a af) [a]
   |none=>[].reverse)=[]
  rw[o];rfl
def Be(g:gM J Ph a0 (fill a0 l) q8 qT)(o:u∈fY eu J q8)(p:Ph u=aj)(j:U a0.tmps=n)(f:o4 J Ph u n (l.map (·.1))=af)(c:∀a,a<U J->cB (cS q8 u af) a aj=af):qT=fill a0 l/\∀d q,lX eu J d q (cS q8 u af) []=[]:=by
 have⟨r,s,t,v,e⟩:=Gj (a0:=a0) f j;have⟨_,_,x,_,_⟩:=mem_ready o;refine⟨g.PI e p λa h i=>?_,WM c⟩;have:=c a h;rw[xX bu] at this;simpa [i] using this
end
def RelB.mono{w Q:ag}(h:RelB Qa w Q)(c:∀b,Qb b->Qa b):RelB Qb w Q:=⟨λb d=>h.at_ b<|c b d,h.size,h.tape,h.os,h.output⟩
section
variable{M:bn}{H:F->ag->Prop}{O:Nat->Prop}{A:Nat->Option (List F)}{T:List aO}{w:ag}{b:aO}{a:bt}{k:List ez}{R:List Nat}{o:cC}
def eR.rely{Q:ag}(h:eR M P H S O A QW w)(c:RelB (λb=>S b\/O b) w Q):eR M P H S O A QW Q:=by
 have⟨d,h⟩:=h;exact⟨d,h.tG c⟩
def MZ(c:J[i]? =K o):nN (aX (b.at a<|bY J (i::R)::k) T) v=aX (b.at (bw a o.dst v)<|bY J R::k) T:=by
 simp only[nN,aX,xl,c];rfl
def NP{m:Bool}{f:ChanDir}(g:dj b≠.early)(j:J[i]? =K o)(p:eI o (en J a.tmps)=af)(c:o.op= .recv Qd Qq af)(d:g9 P Qd=K (.chan f Qe))(e:∀w,(lG Qe).run P w=cm v w)(q:∀w,(lG Qe).events P w #[]=#[])(hx:bp a Qq= .chan (K n)){w:ag}:
 cw P m (aX (b.at a<|bY J (i::R)::k) T) w= .comm (aX (b.at a<|bY J (i::R)::k) T) #[rcase n v] af (.recv af) w #[]:=by
 have l:(bX (bp a) o).run P w=cm (.comm #[rcase n v] af (.recv af)) w:=by
  unfold bX;simp[c,hx,uQ d,e,rcase]
 have h:(bX (bp a) o).events P w #[]=#[]:=by
  unfold bX;simp[c,hx,uQ d,e,q]
 rw[stepG_comm j p g l];unfold listed;rw[h,seen_none]
def WV{d:ChanDir}(e:dj b≠.early)(c:J[i]? =K o)(l:eI o (en J a.tmps)=af)(g:o.op= .recv Qd Qq af)(j:g9 P Qd=K (.chan d Qe))(m:∀w,(lG Qe).run P w=cm x w)(p:∀w,(lG Qe).events P w #[]=#[])(hx:bp a Qq= .chan (K n))(q:A n=K (v::qN))
 (f:eR M P H S O (gu A n<|K qN) (aX (b.at (bw a o.dst<|recvd af v af)<|bY J R::k) T) w):eR M P H S O A (aX (b.at a<|bY J (i::R)::k) T) w:=
 W7 (g2:=aX (b.at a<|bY J (i::R)::k) T) (z:=x) q ⟨rfl,rfl,rfl⟩ λQ h=>⟨NP e c l g j m p hx,bV (MZ c)<|f.rely h⟩
def WW{d:ChanDir}(e:dj b≠.early)(c:J[i]? =K o)(l:eI o (en J a.tmps)=af)(g:o.op= .recv Qd Qq af)(j:g9 P Qd=K (.chan d Qe))(m:∀w,(lG Qe).run P w=cm v w)(p:∀w,(lG Qe).events P w #[]=#[])(hx:bp a Qq= .chan (K n))(q:A n=K [])
 (f:eR M P H S O (gu A n Z) (aX (b.at (bw a o.dst<|recvd af v aj)<|bY J R::k) T) w):eR M P H S O A (aX (b.at a<|bY J (i::R)::k) T) w:=
 W8 (g2:=aX (b.at a<|bY J (i::R)::k) T) (z:=v) q ⟨rfl,rfl,rfl⟩ λQ h=>⟨NP e c l g j m p hx,bV (MZ c)<|f.rely h⟩
def WX{f:gw}{vs:List F}(p:dj b≠.early)(u:J[i]? =K o)(x:eI o (en J a.tmps)=af)(d:o.op= .go {callee:=.value<|.func f,args:=QN,argTypes:=QF})(l:QN.map (bp a)=args)(g:O n)(t:I vs<=cap)(y:A n=Z)(q:w.heap[n]? =K (.chan cap #[] aj 0 0 aj))
 (j:∀Q,RelB (λb=>S b\/O b) w Q->gY M P S n (λ_=>False) vs (born P<|dcall f args) Q)
 (s:eR M P H S (λb=>O b/\b≠n) (gu A n<|K vs) (aX (b.at (bw a o.dst bR)<|bY J R::k) T) w):eR M P H S O A (aX (b.at a<|bY J (i::R)::k) T) w:=by
 have c:bp a (.func f)= .func (.func f) #[] #[]:=rfl;refine W9 g t y q λQ e=>⟨_,_,?_,rfl,j Q e,s.rely<|e.mono λb m=>m.imp (λh=>h) λh=>h.1⟩;have v:(bX (bp a) o).run P Q=cm (.spawn<|dcall f args) Q:=by
  unfold bX;simp[d,m8,yR,c,dcall,l]
 have r:(bX (bp a) o).events P Q #[]=#[]:=by
  unfold bX;simp[d,m8,yR,c]
 rw[stepG_spawn u x p v Y];unfold listed;rw[r,seen_none]
end
section
variable{M:bn}{own:Nat->Prop}{a:bt}{o:cC}{w Q:ag}
def Yn{i:oI}(u:o.op= .call {callee:=.builtin .append,args:= #[Qq,Qr],argTypes:= #[Qd,Qd]})(hx:bp a Qq=aG n j c)(hy:bp a Qr= .slice (K qQ) 1 d)
 (B:g9 P Qd=K (.slice Qe)) (s:P.info? Qe=K i) (an:jH i=K v) (W:w.heap[n]? =K (aq C Qe (0,0))) (X:S n\/own n) (L:S (cD qQ)\/own (cD qQ)) (ab:I news=i.size) (ae:∀e f,news[e]? =K f->ap w (qQ.add e)=K f) (ar:∀e,cD (qQ.add e)=cD qQ) (g:∀f∈news,m3 f=af)
 (y:j+1<=c) (z:C.size=c*i.size) (ao:c<=1000000) (N:jm i<=1000):
 ∀Q,RelB (λb=>S b\/own b) w Q->∃D,(bX (bp a) o).run P Q=cm (fi<|aG n (j+1) c) D/\wj n (aq (cR<|C.toList.take (j*i.size)++news++C.toList.drop (j*i.size+I news)) Qe (0,0)) Q D/\∀l∈(bX (bp a) o).events P Q #[],pI n S own l:=by
 intro Q x;have p:cq Q n C Qe:=aB (x.at_ n X) W;have t:∀e f,news[e]? =K f->ap Q (qQ.add e)=K f:=λe f Z=>aB (EB x bu)<|ae e f Z;have V:j*i.size+I news<=C.size:=by
  rw[z,ab];have:=Nat.mul_le_mul_right i.size y;rw[Nat.add_mul,Nat.one_mul] at this;exact this
 have am:=run_append_room (P:=P) (w:=Q) Qd o.type Qe i B s n j c C p qQ 1 d news aa t g y V;have aw:1000000<=maxLen:=az;have al:aT Q 0 Qe i.size (aG n j c) j (C.toList.take<|j*i.size):=by
  refine⟨?_,ai ⟨n,c,C,rfl,cH _,p,aa,?_,z,rfl⟩⟩;rw[ng,yJ];omega;omega
 have U:=events_append_where (P:=P) Q 0 Qd o.type Qe i v i.size (jm i) B s an Y Y (aG n j c) j _ al qQ 1 d news aa t g aa (by
  have:(j+1)*jm i<=1000000*1000:=s8 aa N;omega)
 refine⟨_,?_,M4 p,λl r=>?_⟩;unfold bX;simp[u,hx,hy,m8,invoke,builtin,am];rw[events_append_op Qq Qr Qd u hx hy] at r;rcases U l r with⟨q,g,h⟩|⟨m,rfl,ad⟩;rcases h with⟨h,G⟩|h;refine ai ⟨q,g,?_⟩;rw[G];exact ai<|eD L (λE=>ai ⟨E,h⟩) av;refine ai ⟨q,g,av ?_⟩;simpa [Value.ownBlock] using h;exact av ⟨m,rfl,ad⟩
def Yo{i:oI}(l:o.op= .buildSlice Qd 1 #[(0,Qq)])(hx:bp a Qq=bZ #[v0,v1,v2])(n:g9 P Qd=K (.slice Qe))(j:P.info? Qe=K i)(p:jH i=K (bZ #[v,x,y]))(c:i.size=3):
 ∀Q,RelB (λb=>S b\/own b) w Q->∃e,(bX (bp a) o).run P Q=cm (fi<|aG (U Q.heap) 1 1) e/\dF e=iz Q.heap (aq #[v0,v1,v2] Qe)/\dG e=dG Q/\e.os=Q.os/\ga e=ga Q/\∀h∈(bX (bp a) o).events P Q #[],pI (U Q.heap) S own h:=by
 intro Q t;have g:Instr.fill (λd=>K (d*i.size,i.size)) ((vL<|1*i.size).map ((bZ #[v,x,y]).cells[· % (bZ #[v,x,y]).cells.size]!)) #[(0,bZ #[v0,v1,v2])].toList=K #[v0,v1,v2]:=by
  rw[c];simp[Instr.fill,jn,vL,Array.zipIdx];apply Array.ext;simp;intro d s q;simp at q;have:d=0\/d=1\/d=2:=aa;rcases this with rfl|rfl|rfl<;>simp
 have m:=run_buildSlice (P:=P) Q Qd Qe 1 #[(0,bZ #[v0,v1,v2])] #[v0,v1,v2] i _ n j p (by rw[c];decide) (by rw[c];decide) g;refine⟨cG Q<|aq #[v0,v1,v2] Qe,?_,rfl,rfl,rfl,rfl,λh f=>?_⟩;unfold bX;simp[l,hx,m];have r:(yT Qd 1 #[(0,bZ #[v0,v1,v2])]).events P Q #[]=#[]:=by
  simp only[cR,Nat.one_mul,c] at g;simp[yT,uQ n,lZ,ko,lG,j,p,c,g,newRow]
 unfold bX at f;simp only[l] at f;simp[hx,m,r] at f
end
def put_defers{a:bt}:bU (bw a QY v)=bU a:=by
 unfold bw
 split<;>rfl
def Knows.nil{a:bt}(h:Knows a n q5):Knows a n []:=⟨h.size,λs v c=>by simp at c⟩
def Knows.defer{a:bt}(h:Knows a n q5){c:List Deferred}(v:F):Knows (bw ⟨a.tmps,c⟩ Z v) n q5:=⟨h.size,h.slot⟩
def Knows.cons{a:bt}{l:List (Nat×F)}(h:Knows a n l){s:Nat}(f:cx a s=v):Knows a n ((s,v)::l):=⟨h.size,λe g c=>by
 rw[vY] at c;cases d:e==s with
 |true=>
  rw[d] at c;cases c;rw[beq_iff_eq] at d;rw[d];exact f
 |false=>rw[d] at c;exact h.slot e g c⟩
def Knows.four{a:bt}(h:Knows a n q5)(f:q5.lookup j=K v)(g:q5.lookup c=K x)(l:q5.lookup d=K y)(p:q5.lookup e=K z):Knows a n [(j,v),(c,x),(d,y),(e,z)]:=(((h.nil.cons<|h.slot e _ p).cons<|h.slot d _ l).cons<|h.slot c _ g).cons<|h.slot j _ f
section
variable{T:bn}{m:Bool}{R:(Nat->Prop)->aO->List aO->ag->Prop}{own:Nat->Prop}{H:List aO}{w:ag}{b:aO}{a:bt}{k:List ez}
def dP(d:fS T P S m R){id:Nat}(c:List Nat)(f:fp (U J)=c)(e:R own (b.at a<|bY J c::k) H w):R own (b.at a<|bJ (iB id J aj)::k) H w:=Rr d bu
variable{Q:List Nat}{o:cC}
def nU(f:fS T P S m R)(d:Knows a n q5)(r:J[i]? =K o)(v:F)(h:∀c,RelB (λb=>S b\/own b) w c->(bX (bp a) o).run P c=cm (fi v) c/\∀e∈(bX (bp a) o).events P c #[],EvW S own e)
 (p:Knows (a.put (K j) v) n ((j,v)::q5)->R own (b.at (a.put (K j) v)<|bY J Q::k) H w) (l:o.dst=K j:=by rfl) (q:j<n:=by decide) (g:dj b≠.early:=by decide) (s:eI o (en J a.tmps)=af:=by rfl):R own (b.at a<|bY J (i::Q)::k) H w:=
 vf f g r s h (by rw[l];exact p<|d.put q v)
def eF(e:fS T P S m R)(d:Knows a n q5)(q:J[i]? =K o)(v:F)(h:∀c,(bX (bp a) o).run P c=cm (fi v) c/\(bX (bp a) o).events P c #[]=#[])
 (l:Knows (a.put (K j) v) n ((j,v)::q5)->R own (b.at (a.put (K j) v)<|bY J Q::k) H w) (g:o.dst=K j:=by rfl) (p:j<n:=by decide) (f:dj b≠.early:=by decide) (r:eI o (en J a.tmps)=af:=by rfl):R own (b.at a<|bY J (i::Q)::k) H w:=
 tf e f q r h (by rw[g];exact l<|d.put p v)
def eL(e:fS T P S m R)(d:Knows a n q5){c s:Nat}(h:Knows (bw a (K c) v) n ((c,v)::q5)->R own (b.at (bw a (K c) v)<|bY J Q::k) H w)(p:J[i]? =K o:=by rfl)(q:o.op= .move (.tmp s):=by rfl)(j:q5.lookup s=K v:=by rfl)(g:o.dst=K c:=by rfl)(l:c<n:=by decide)(f:dj b≠.early:=by decide)(r:eI o (en J a.tmps)=af:=by rfl):R own (b.at a<|bY J (i::Q)::k) H w:=
 eF e d p v (iw q<|d.of j) h g l f r
def lK(e:fS T P S m R)(d:Knows a n q5){c s:Nat}(h:Knows (bw a (K c) v) n ((c,v)::q5)->R own (b.at (bw a (K c) v)<|bY J Q::k) H w)(p:J[i]? =K o:=by rfl)(q:o.op= .assign (.tmp s):=by rfl)(j:q5.lookup s=K v:=by rfl)(g:o.dst=K c:=by rfl)(l:c<n:=by decide)(f:dj b≠.early:=by decide)(r:eI o (en J a.tmps)=af:=by rfl):R own (b.at a<|bY J (i::Q)::k) H w:=
 eF e d p v (z2 q<|d.of j) h g l f r
def rD(d:fS T P S m R)(c:Knows a n q5)(v:F)(g:Knows (bw a (K j) v) n ((j,v)::q5)->R own (b.at (bw a (K j) v)<|bY J Q::k) H w)(l:J[i]? =K o:=by rfl)(p:o.op= .assign (.const v):=by rfl)(f:o.dst=K j:=by rfl)(h:j<n:=by decide)(e:dj b≠.early:=by decide)(q:eI o (en J a.tmps)=af:=by rfl):R own (b.at a<|bY J (i::Q)::k) H w:=
 eF d c l v (z2 p Y) g f h e q
def AW(f:fS T P S m R)(d:Knows a n q5){c s e:Nat}(j:Knows (bw a (K c) v) n ((c,v)::q5)->R own (b.at (bw a (K c) v)<|bY J Q::k) H w)(q:J[i]? =K o:=by rfl)(r:o.op= .extract (.tmp s) e:=by rfl)(l:q5.lookup s=K (cP C):=by rfl)(t:C[e]? =K v:=by rfl)(h:o.dst=K c:=by rfl)(p:c<n:=by decide)(g:dj b≠.early:=by decide)(u:eI o (en J a.tmps)=af:=by rfl):R own (b.at a<|bY J (i::Q)::k) H w:=
 eF f d q v (z5 r (d.of l) t) j h p g u
end
section
variable{a:bt}{o:cC}
def nD{f e h off':Nat}{g:Array Field}{c:Field}(p:o.op= .fieldAddr Qd Qq f)(hx:bp a Qq=cU (K ⟨e,h,Z⟩))(r:g9 P Qd=K (.struct g))(j:g[f]? =K c)(q:∀w,(lZ c.type).run P w=cm (n+1) w)(l:h+c.offset=off'):
 ∀d,(bX (bp a) o).run P d=cm (fi<|cU<|K ⟨e,off',Z⟩) d/\(bX (bp a) o).events P d #[]=#[]:=by
 subst l;exact Yr p hx r j q
def Gb{d e h:eg}(f:o.op= .pick d e h)(hx:bp a d=ak af)(g:bp a e=v):∀c,(bX (bp a) o).run P c=cm (fi v) c/\(bX (bp a) o).events P c #[]=#[]:=by
 subst g;exact Lx f hx
def Ga{d h e:eg}(f:o.op= .pick d h e)(hx:bp a d=ak aj)(g:bp a e=v):∀c,(bX (bp a) o).run P c=cm (fi v) c/\(bX (bp a) o).events P c #[]=#[]:=by
 subst g;exact Lx f hx
def sE{i d:Int}(f:o.op= .binOp .lss Qd Qq Qr Qe)(hx:bp a Qq=z9 i)(hy:bp a Qr=z9 d)(e:decide (i<d)=qW):∀c,(bX (bp a) o).run P c=cm (fi<|ak qW) c/\(bX (bp a) o).events P c #[]=#[]:=by
 subst e;exact Yt f hx hy
def Lu{i d:Int}(f:o.op= .binOp .neq Qd Qq Qr Qe)(hx:bp a Qq=z9 i)(hy:bp a Qr=z9 d)(e:(i !=d)=qW):∀c,(bX (bp a) o).run P c=cm (fi<|ak qW) c/\(bX (bp a) o).events P c #[]=#[]:=by
 subst e;exact Yv f hx hy
end
structure D5(S O O':Nat->Prop)(w w':ag):Prop where
 sub:∀b,O b->O' b
 new:∀b,O' b->O b\/U w.heap<=b
 rel:RelB (λb=>S b\/O b) w w'
 inr:jb S O' w'
def BB{P:bn}{fn:cF}{a:bt}(d:rR fn=#[.tmp n])(c:cx a n=v):(∀w,(dB fn a.tmps).run P w=cm v w)/\∀w,(dB fn a.tmps).events P w #[]=#[]:=by
 unfold cx at c;rw[jh] at c;constructor<;>intro w<;>simp[dB,d,c]
def Du{P:bn}{fn:cF}{a:bt}(d:rR fn=#[.tmp n,.tmp j])(c:cx a n=v)(hx:cx a j=x):(∀w,(dB fn a.tmps).run P w=cm (cP #[v,x]) w)/\∀w,(dB fn a.tmps).events P w #[]=#[]:=by
 unfold cx at c hx;rw[jh] at c hx;constructor<;>intro w<;>simp[dB,d,c,hx]
open Go.RowKit (Below)
def Xe (P0 P:bn)(Q:F->ag->Prop)(own:Nat->Prop)(d:aO)(O:List aO)(w:ag):Prop:=
 (∀b,own b->b<U w.heap)->∀c,RelB own w c->kr P0 c->iq P0 P Q (aX d O) c
def tr:Nat->Prop:=λ_=>False
def ZN{own:Nat->Prop}{w c:ag}(h:RelB own w c):RelB (λb=>tr b\/own b) w c:=h.mono λb d=>eD d ff λh=>h
def FX{own:Nat->Prop}{w c:ag}(h:RelB (λb=>tr b\/own b) w c):RelB own w c:=h.mono λb d=>ai d
def me(P0 P:bn)(Q:F->ag->Prop):fS P0 P tr af (Xe P0 P Q):=by
 refine⟨λown y O w c h p f n=>?_,λown y O w p c f h u B n=>?_⟩;refine CR λu e=>?_;obtain⟨q,rfl⟩:=e;have⟨E,D,g,x,v,d,C⟩:=c (p.at q)<|ZN<|f.trans<|RelB.at _ _ _;have j:∀b,g6 own (p.at q) g b->b<U g.heap:=λb z=>z.elim (λc=>cL (h b c)<|dW f.size d.size) λc=>c.2;refine⟨_,g,x,v,rfl,⟨d.size,d.tape,d.os,d.output,d.hp,λr A=>?_⟩,C j g (RelB.refl _ _)<|d.hp n⟩;have:=d.evs r A;unfold EvW at this;unfold mY;cases l:r.loc with
 |cell a=>rw[l] at this;exact this.elim (j _) λc=>c.1.elim
 |obj G=>rw[l] at this;exact this.elim (j _) λc=>c.1.elim
 |mark m=>rw[l] at this;exact this
 |_=>trivial
 have t:=FX f;refine c (λb s=>?_) u (t.trans B) n;have e:=t.at_ b s;rw[n7<|h b s] at e;exact(dn.1<|bq e).1
def x5 (P:bn):ez->Bool
 |bJ c|gx c=>fC P aj c
 |fh _| .inRangeFunc _| .endRangeFunc _=>af
 |bY J _=>dI J.toList λo=>tg P aj o.op
 |_=>aj
def gT{P:bn}{b:aO}{a:bt}(c:dj b=dM)(e:bU a=[])(l:(dI QO<|x5 P)=af):eS P (b.at a QO) []:=by
 refine⟨⟨λi j=>?_,λd g=>?_,av c⟩,λf h=>by simp at h,c⟩;have:=fA.1 l i j;cases i<;>first|exact this|trivial|cases this
 have:d∈bU a:=g;rw[e] at this;cases this
section
variable{Q:F->ag->Prop}{own:Nat->Prop}{O:List aO}{w:ag}{b:aO}{a:bt}{k:List ez}{H:List Nat}{o:cC}
def grown(own:Nat->Prop)(c m:Nat):Nat->Prop:=λb=>own b\/(c<=b/\b<m)
def AE{f:gw}{fn:cF}{args:Array eg}{R:ag->gN->ag->Prop}(A:dj b=dM)(G:J[i]? =K o)(T:eI o (en J a.tmps)=af)(I:o.op= .call {callee:=.value<|.func f,args,argTypes:=QF})(y:args.map (bp a)=vs)
 (C:P.funcs[f]? =K fn) (D:(fn.name == "runtime.NumGoroutine")=aj) (z:fn.body=K QK) (N:eS P0 (b.at a<|bY J (i::H)::k) []) (x:∀d,RelB own w d->sQ P0 P Q f vs d (R d))
 (u:∀d v c,RelB own w d->R d (aN v) c->Sm d c->kr P0 c->iq P0 P Q (aX (b.at (bw a o.dst v)<|bY J H::k) O) c) (hP:∀d m c,¬R d (gO m) c) (E:∀d c,¬R d .outgrown c):Xe P0 P Q own (b.at a<|bY J (i::H)::k) O w:=by
 intro U d n L;have:=X9 (P0:=P0) (P:=P) (Post:=Q) (b:=b) (a:=a) (k:=k) (cs:=O) (w:=d) (R:=λh c=>∃e,R (d.at e) h c) A G T I C D z (λW l=>by
  obtain⟨e,rfl⟩:=l;rw[y];intro p q r l s t;exact x _ (n.trans<|RelB.at _ _ _) p q r l s λh c B=>t h c ⟨e,B⟩) (λv c ⟨e,S⟩ g V M=>u (d.at e) v c (n.trans<|RelB.at _ _ _) S ⟨g.tape,g.os,g.output,g.size⟩ M) (λm c ⟨e,j⟩=>absurd j<|hP _ _ _) λc ⟨e,j⟩=>E _ _ j
 exact this N L
def DW(h:Twins P0 P){f:gw}{fn:cF}{args:Array eg}{R:ag->gN->ag->Prop}(V:dj b=dM)(s:J[i]? =K o)(am:eI o (en J a.tmps)=af)(ab:o.op= .call {callee:=.value<|.func f,args,argTypes:=QF})(T:args.map (bp a)=vs)
 (X:P.funcs[f]? =K fn) (Z:(fn.name == "runtime.NumGoroutine")=aj) (z:fn.body=K QK) (Y:P.funcs[f]? =P0.funcs[f]?) (ae:eS P0 (b.at a<|bY J (i::H)::k) [])
 (N:∀c,(∀b o,own b->w.heap[b]? =K o->cZ P0 o->c.heap[b]? =K o)->U w.heap<=U c.heap->Calls P0 f vs c λd g=>aD c g/\∃v,d=aN v/\R c (aN v) g)
 (M:∀v e c g,(∀b o,own b->w.heap[b]? =K o->cZ P0 o->c.heap[b]? =K o)->U w.heap<=U c.heap->aD c g->R c (aN v) g->Un g e->RelB own w e->Xe P0 P Q (grown own (U c.heap)<|U e.heap) (b.at (bw a o.dst v)<|bY J H::k) O e):Xe P0 P Q own (b.at a<|bY J (i::H)::k) O w:=by
 intro A;refine AE (P0:=P0) (R:=λq d an=>∃p,Mk P0 p q/\Tl p q (λd g=>∃c,dF c=dF p/\aD c g/\∃v,d=aN v/\R c (aN v) g) d an) V s am ab T X Z z ae (λq j=>?_) (λq v e j al B ad=>?_) (λq ao e ⟨_,_,_,_,_,_,c,_,_,v,d,_⟩=>de d) (λq e ⟨_,_,_,_,_,_,c,_,_,v,d,_⟩=>de d) A;have⟨p,n⟩:=x9 P0 q;intro D E r l I L;exact I6 h n.hp n.un Y (λe ⟨c,_,_,v,d,_⟩=>de d) (λt=>bG (N (sh t 0 p) (λb o z s x=>n.at_ b o (aB (j.at_ b z) s) x) (by show U w.heap<=U p.heap;rw[<-n.un.size];exact j.size)) λd g ⟨r,l⟩=>⟨sh t 0 p,rfl,r,l⟩) D E r l I λd e W=>L d e ⟨p,n,W⟩;have⟨p,n,t,G,g,l,c,y,u,aw,d,S⟩:=al;cases d;have ar:U c.heap<=U e.heap:=bV l.un.size u.size;have C:U c.heap=U q.heap:=by rw[y,n.un.size]
 have hrel:RelB own w e:=⟨λb m=>by
  have r:g.heap[b]? =c.heap[b]? :=cT u b (by rw[C];exact cL (A b m) j.size);exact aB (l.same n.un<|by rw[r,y])<|j.at_ b m,dW j.size aa,aB B.tape j.tape,aB B.os j.os,aB B.output j.output⟩
 refine M v e c (sh t G g) (λb o m s x=>by rw[y];exact n.at_ b o (aB (j.at_ b m) s) x) (bV C j.size) u S ⟨l.un.size,l.un.at_,l.un.os,l.un.output⟩ hrel (λb m=>?_) e (RelB.refl _ _) ad;rcases m with m|m;exact cL (A b m) hrel.size;exact m.2
def adS(h:Twins P0 P){l:Nat}{R:ag->F->ag->Prop}(f:J[i]? =K o)(s:eI o (en J a.tmps)=af)(g:o.op= .call {callee:=.value Qq,args:=QN,argTypes:=QF})(hx:bp a Qq= .func (Go.Fn.yield l) #[] #[])(u:QN.map (bp a)=vs)(q:eS P0 (b.at a<|bY J (i::H)::k) [])
 (t:∀c,RelB own w c->Eb P0 P Q l vs c (R c)) (e:∀c v d,RelB own w c->R c v d->Sm c d->kr P0 d->iq P0 P Q (aX (b.at (bw a o.dst v)<|bY J H::k) O) d):Xe P0 P Q own (b.at a<|bY J (i::H)::k) O w:=by
 intro x c n j;exact Yf h f s g hx bu (λv d r p _ m=>e c v d n r p m) q j
def Xe.go(h:Xe P0 P Q own Qg O w)(c:∀b,own b->b<U w.heap)(d:kr P0 w):iq P0 P Q (aX Qg O) w:=h c w (RelB.refl _ _) d
end
section
variable{a:bt}{o:cC}
def Bq(d:o.op= .unOp .not Qd Qq)(hx:bp a Qq=ak qW):∀c,(bX (bp a) o).run P c=cm (fi<|ak<|!qW) c/\(bX (bp a) o).events P c #[]=#[]:=λc=>by
 unfold bX;simp[d,hx,Op.unary]
end
def HQ{o:cC}{J:Array cC}{e b:Bool}(h:o.guard=K (n,e))(f:lN J n=K d)(c:cx qT d=ak b)(g:d<U qT.tmps):eI o (en J qT.tmps)=(b==e):=by
 unfold eI en;rw[h];unfold lN at f;unfold cx at c;rw[jh,n7 g] at c;simp only[f,Option.bind_some,n7 g];simp only[tZ] at c;rw[c];cases b<;>cases e<;>rfl
def Knows.want{a:bt}(c:Knows a n q5){o:cC}{J:Array cC}{want b:Bool}(f:o.guard=K (m,want))(e:lN J m=K d)(h:q5.lookup d=K (ak b))(g:d<n):eI o (en J a.tmps)=(b==want):=HQ f e (c.slot d _ h)<|bV c.size g
def pK{P0 P:bn}{m:Bool}{e:(Nat->Prop)->aO->List aO->ag->Prop}{own:Nat->Prop}{O:List aO}{w:ag}{b:aO}{a:bt}{k:List ez}{J:Array cC}{i:Nat}{H:List Nat}{o:cC}(g:fS P0 P Qa m e)(f:Knows a n q5)(q:Knows (a.put (K j) bR) n ((j,bR)::q5)->e own (b.at (a.put (K j) bR)<|bY J H::k) O w)(u:J[i]? =K o:=by rfl)(p:o.guard=K (c,qW):=by rfl)(l:lN J c=K d:=by rfl)(v:q5.lookup d=K (ak qX):=by rfl)(r:d<n:=by decide)(t:(qX==qW)=aj:=by rfl)(h:o.dst=K j:=by rfl)(s:j<n:=by decide):e own (b.at a<|bY J (i::H)::k) O w:=
 I2 g u (aB (f.want p l v r) t) (by rw[h];exact q<|f.put s bR)
end Cc
end Go.Proofs.YtjidbonhhpkljaaGreat
namespace Go.Proofs
def aE.cut (fn:cF):cF:={fn with body:=K<|.refuse ""}
def aH (a:bn):bn:={a with funcs:=((a.funcs.modify 78 aE.cut).modify 116 aE.cut).modify 117 aE.cut}
def aE.tables(a:bn):a.toTables=(aH a).toTables:=rfl
namespace YtjidbonhhpkljaaGreat.Cc
open Go
def Y8(b:bn)(f:Nat):(aH b).funcs[f]? =if f=78\/f=116\/f=117 then(b.funcs[f]?).map aE.cut else b.funcs[f]? :=by
 show(((b.funcs.modify 78 aE.cut).modify 116 aE.cut).modify 117 aE.cut)[f]? =_;simp only[yI];by_cases c:f=78
 .subst c;simp
 .by_cases d:f=116
  .subst d;simp
  .by_cases e:f=117
   .subst e;simp
   .simp only[c,d,e,or_self,if_false];rw[if_neg λa=>e a.symm,if_neg λa=>d a.symm,if_neg λa=>c a.symm]
def L4(f:Nat):(aH ax).funcs[f]? =if f=78\/f=116\/f=117 then(ax.funcs[f]?).map aE.cut else ax.funcs[f]? :=Y8 _ f
def vw{f:Nat}(b:(f==78)=aj)(c:(f==116)=aj)(d:(f==117)=aj):(aH ax).funcs[f]? =ax.funcs[f]? :=by
 rw[L4,if_neg];simp at b c d;rintro(a|a|a)
 .exact b a
 .exact c a
 .exact d a
def ym(f:Nat):ax.funcs[f]? =(aH ax).funcs[f]? \/∃fn:cF,fn.body.isNone=aj/\ax.funcs[f]? =K fn/\(aH ax).funcs[f]? =K (aE.cut fn):=by
 rw[L4];by_cases a:f=78\/f=116\/f=117
 .rw[if_pos a]
  right
  rcases a with rfl|rfl|rfl
  .exact⟨_,rfl,Tryz.func78,by rw[Tryz.func78];rfl⟩
  .exact⟨_,rfl,Tryz.func116,by rw[Tryz.func116];rfl⟩
  .exact⟨_,rfl,Tryz.func117,by rw[Tryz.func117];rfl⟩
 .rw[if_neg a];exact .inl rfl
def L5:Twin (aH ax) ax:=ac6 (aE.tables _) λf=>by
 rcases ym f with a|⟨fn,b,c,d⟩
 .exact .inl a
 .exact .inr ⟨_,fn,d,c,rfl,rfl,b⟩
def wz{a:cF->Bool}(h:Qo.funcs.toList.all a=af){f:Nat}{fn:cF}(b:Qo.funcs[f]? =K fn):a fn=af:=by
 obtain⟨c,rfl⟩:=dn.1 b;exact fA.1 h _ (by simp)
def BO:(ax.funcs.toList.all λfn=> !(fn.name == "runtime.NumGoroutine"))=af:=by kernel_rfl
def ad8:(ax.funcs.toList.all λfn=> !fn.body.isNone||(Extern.findNext fn).isNone)=af:=by kernel_rfl
def Y9:((aH ax).funcs.toList.all λfn=>match fn.body with|some a=>fC (aH ax) aj a|none=>af)=af:=by kernel_rfl
end YtjidbonhhpkljaaGreat.Cc
end Go.Proofs
namespace Go.Proofs.YtjidbonhhpkljaaGreat
abbrev bc(f:gw)(b:Array F)(c:ag)(a:gN->ag->Prop):Prop:=Go.Calls (aH ax) f b c a
end Go.Proofs.YtjidbonhhpkljaaGreat
namespace Go.Proofs
namespace aE
def gL(a:bn)(b:aP):(aH a).underlying b=a.underlying b:=YtjidbonhhpkljaaGreat.Cc.pi (aE.tables a).symm b
def cr{f:Nat}{b:Option cF}(h:ax.funcs[f]? =b)(a:(f==78||(f==116||f==117))=aj):(aH ax).funcs[f]? =b:=(YtjidbonhhpkljaaGreat.Cc.vw (Bool.or_eq_false_iff.1 a).1 (Bool.or_eq_false_iff.1 (Bool.or_eq_false_iff.1 a).2).1 (Bool.or_eq_false_iff.1 (Bool.or_eq_false_iff.1 a).2).2).trans h
def info(a:bn)(b:aP):(aH a).info? b=a.info? b:=YtjidbonhhpkljaaGreat.Cc.uB (aE.tables a).symm b
@[simp,go_sem] theorem MN (a:bn) (b:aP) (c:ag):jU (aH a) (ko b) c=jU a (ko b) c:=by
 unfold ko program;simp only[bind,Sem.bind,jU,info];generalize a.info? b=d;cases d<;>rfl
@[simp,go_sem] theorem H_ (a:bn) (b:aP) (c:ag):jU (aH a) (rq b) c=jU a (rq b) c:=by
 unfold rq program;simp only[bind,Sem.bind,jU,gL];generalize a.underlying b=d;cases d<;>rfl
def zeroOf (c:bn) (b:Option F) (a:ag):jU (aH c) (match b with|some v=>pure v|none=>unsupported<|.resourceLimit "a value of more than 2^22 cells") a=jU c (match b with|some v=>pure v|none=>unsupported<|.resourceLimit "a value of more than 2^22 cells") a:=by
 cases b with
 |some v=>exact(Sem.run_pure _ _ _).trans (Sem.run_pure _ _ _).symm
 |none=>exact Eq.refl<|Result.halt _ a
@[simp,go_sem] theorem aeP (a:bn) (b:aP) (c:ag):jU (aH a) (lG b) c=jU a (lG b) c:=by
 unfold lG;rw[Sem.run_bind,Sem.run_bind,MN];generalize jU a (ko b) c=g;cases g with
 |ok f d=>exact zeroOf a f.zero d
 |halt e d=>exact Eq.refl<|Result.halt e d
@[simp,go_sem] theorem aeO (a:bn) (b:aP) (c:ag):jU (aH a) (lZ b) c=jU a (lZ b) c:=by
 unfold lZ;rw[Sem.run_bind,Sem.run_bind,MN];cases jU a (ko b) c with
 |ok f d=>rfl
 |halt e d=>rfl
def Vs(b:bn)(a:TypeDesc)(c:ag):jU (aH b) (match a with| .struct _| .array _ _=>pure af|_=>pure aj) c=jU b (match a with| .struct _| .array _ _=>pure af|_=>pure aj) c:=by
 cases a<;>exact(Sem.run_pure _ _ _).trans (Sem.run_pure _ _ _).symm
@[simp,go_sem] theorem aeN (a:bn) (b:aP) (c:ag):jU (aH a) (isAgg b) c=jU a (isAgg b) c:=by
 unfold isAgg;rw[Sem.run_bind,Sem.run_bind,H_];generalize jU a (rq b) c=g;cases g with
 |ok f d=>exact Vs a f d
 |halt e d=>exact Eq.refl<|Result.halt e d
@[simp,go_sem] theorem JG (a:bn) (b:Nat) (c:aP):(aH a).eqGuardType b c=a.eqGuardType b c:=YtjidbonhhpkljaaGreat.Cc.Od (aE.tables a).symm b c
@[simp,go_sem] theorem depth (a:bn):(aH a).depth=a.depth:=YtjidbonhhpkljaaGreat.Cc.w8 (aE.tables a).symm
@[simp,go_sem] theorem NQ (a:bn) (b:aP):(aH a).stoodInHeld b=a.stoodInHeld b:=YtjidbonhhpkljaaGreat.Cc.DK (aE.tables a).symm b
def C_ {f:Nat} {fn:cF} (h:Qo.funcs[f]? =K fn) (c:(fn.name == "runtime.NumGoroutine")=aj) (b:fn.body.isNone=aj) (args:Array F) (a:ag):jU Qo (callFunc f args) a= .ok (.enter f args) a:=by
 unfold callFunc program;simp only[bind,pure,Sem.bind,jU,h,c,b,eN,if_false]
def MK{f:Nat}{fn:cF}(h:(aH ax).funcs[f]? =K fn)(g:fn.body.isNone=aj)(args:Array F)(a:ag):jU (aH ax) (callFunc f args) a= .ok (.enter f args) a:=by
 refine C_ h ?_ g args a;rcases YtjidbonhhpkljaaGreat.Cc.ym f with b|⟨c,i,d,e⟩
 .rw[<-b] at h;simpa using YtjidbonhhpkljaaGreat.Cc.wz YtjidbonhhpkljaaGreat.Cc.BO h
 .rw[e] at h;cases h;exact(by simpa using YtjidbonhhpkljaaGreat.Cc.wz YtjidbonhhpkljaaGreat.Cc.BO d:(c.name == "runtime.NumGoroutine")=aj)
def func8:=cr Tryz.func8 rfl
def func9:=cr Tryz.func9 rfl
def func11:=cr Tryz.func11 rfl
def func12:=cr Tryz.func12 rfl
def func14:=cr Tryz.func14 rfl
def func16:=cr Tryz.func16 rfl
def func17:=cr Tryz.func17 rfl
def func18:=cr Tryz.func18 rfl
def func23:=cr Tryz.func23 rfl
def func29:=cr Tryz.func29 rfl
def func30:=cr Tryz.func30 rfl
def func31:=cr Tryz.func31 rfl
def func32:=cr Tryz.func32 rfl
def func33:=cr Tryz.func33 rfl
def func34:=cr Tryz.func34 rfl
def func35:=cr Tryz.func35 rfl
def func36:=cr Tryz.func36 rfl
def func37:=cr Tryz.func37 rfl
def func44:=cr Tryz.func44 rfl
def func45:=cr Tryz.func45 rfl
def func46:=cr Tryz.func46 rfl
def func47:=cr Tryz.func47 rfl
def func48:=cr Tryz.func48 rfl
def func49:=cr Tryz.func49 rfl
def func50:=cr Tryz.func50 rfl
def func51:=cr Tryz.func51 rfl
def func52:=cr Tryz.func52 rfl
def func53:=cr Tryz.func53 rfl
def func55:=cr Tryz.func55 rfl
def func57:=cr Tryz.func57 rfl
def func61:=cr Tryz.func61 rfl
def func62:=cr Tryz.func62 rfl
def func63:=cr Tryz.func63 rfl
def func64:=cr Tryz.func64 rfl
def func65:=cr Tryz.func65 rfl
def func66:=cr Tryz.func66 rfl
def func67:=cr Tryz.func67 rfl
def func68:=cr Tryz.func68 rfl
def func69:=cr Tryz.func69 rfl
def func70:=cr Tryz.func70 rfl
def func71:=cr Tryz.func71 rfl
def func72:=cr Tryz.func72 rfl
def func73:=cr Tryz.func73 rfl
def func74:=cr Tryz.func74 rfl
def func75:=cr Tryz.func75 rfl
def func76:=cr Tryz.func76 rfl
def func77:=cr Tryz.func77 rfl
def func80:=cr Tryz.func80 rfl
def func81:=cr Tryz.func81 rfl
def func82:=cr Tryz.func82 rfl
def func83:=cr Tryz.func83 rfl
def func89:=cr Tryz.func89 rfl
def func90:=cr Tryz.func90 rfl
def func91:=cr Tryz.func91 rfl
def func92:=cr Tryz.func92 rfl
def func93:=cr Tryz.func93 rfl
def func94:=cr Tryz.func94 rfl
def func95:=cr Tryz.func95 rfl
def func96:=cr Tryz.func96 rfl
def func97:=cr Tryz.func97 rfl
def func98:=cr Tryz.func98 rfl
def func99:=cr Tryz.func99 rfl
def func100:=cr Tryz.func100 rfl
def func101:=cr Tryz.func101 rfl
def func102:=cr Tryz.func102 rfl
def func103:=cr Tryz.func103 rfl
def func104:=cr Tryz.func104 rfl
def func105:=cr Tryz.func105 rfl
def func106:=cr Tryz.func106 rfl
def func107:=cr Tryz.func107 rfl
def func108:=cr Tryz.func108 rfl
def func109:=cr Tryz.func109 rfl
def func110:=cr Tryz.func110 rfl
def func111:=cr Tryz.func111 rfl
def func112:=cr Tryz.func112 rfl
def func113:=cr Tryz.func113 rfl
def func114:=cr Tryz.func114 rfl
def func115:=cr Tryz.func115 rfl
def func118:=cr Tryz.func118 rfl
def func119:=cr Tryz.func119 rfl
def func120:=cr Tryz.func120 rfl
def func123:=cr Tryz.func123 rfl
def func125:=cr Tryz.func125 rfl
def func126:=cr Tryz.func126 rfl
def func127:=cr Tryz.func127 rfl
def func128:=cr Tryz.func128 rfl
def func129:=cr Tryz.func129 rfl
def func130:=cr Tryz.func130 rfl
def func131:=cr Tryz.func131 rfl
def func132:=cr Tryz.func132 rfl
def func133:=cr Tryz.func133 rfl
def func134:=cr Tryz.func134 rfl
def func135:=cr Tryz.func135 rfl
def func136:=cr Tryz.func136 rfl
def func137:=cr Tryz.func137 rfl
def func138:=cr Tryz.func138 rfl
def func139:=cr Tryz.func139 rfl
def func141:=cr Tryz.func141 rfl
def func147:=cr Tryz.func147 rfl
def func148:=cr Tryz.func148 rfl
def func149:=cr Tryz.func149 rfl
def func150:=cr Tryz.func150 rfl
def func151:=cr Tryz.func151 rfl
def func152:=cr Tryz.func152 rfl
def func153:=cr Tryz.func153 rfl
def func154:=cr Tryz.func154 rfl
def func155:=cr Tryz.func155 rfl
def func156:=cr Tryz.func156 rfl
def func158:=cr Tryz.func158 rfl
def func159:=cr Tryz.func159 rfl
def func160:=cr Tryz.func160 rfl
def func161:=cr Tryz.func161 rfl
def func162:=cr Tryz.func162 rfl
def func163:=cr Tryz.func163 rfl
def func164:=cr Tryz.func164 rfl
def func165:=cr Tryz.func165 rfl
def func166:=cr Tryz.func166 rfl
def func167:=cr Tryz.func167 rfl
def func168:=cr Tryz.func168 rfl
def func169:=cr Tryz.func169 rfl
def func170:=cr Tryz.func170 rfl
def func171:=cr Tryz.func171 rfl
def func172:=cr Tryz.func172 rfl
def func173:=cr Tryz.func173 rfl
def func175:=cr Tryz.func175 rfl
def func176:=cr Tryz.func176 rfl
def func177:=cr Tryz.func177 rfl
def func178:=cr Tryz.func178 rfl
def Sa:((fp 179).all λf=>f==0||f==1||f==168||f==78||f==116||f==117||match ax.funcs[f]? with|some a=> !a.body.isNone|none=>aj)=af:=by kernel_rfl
@[simp,go_sem] theorem aeK (a:Nat) (h:a<179) (i:a≠0) (j:a≠1) (k:a≠168) (e:a≠78) (f:a≠116) (g:a≠117) (c:Array F) (d:ag):jU (aH ax) (callFunc a c) d= .ok (.enter a c) d:=by
 have b:=fA.1 Sa a<|nP.2 h;simp only[beq_eq_false_iff_ne.2 i,beq_eq_false_iff_ne.2 j,beq_eq_false_iff_ne.2 k,beq_eq_false_iff_ne.2 e,beq_eq_false_iff_ne.2 f,beq_eq_false_iff_ne.2 g,Bool.false_or] at b
 split at b
 .rename_i m l;exact MK (cr l<|by simp[e,f,g]) (by simpa using b) c d
 .cases b
@[simp,go_sem] def call53:=MK func53 rfl
@[simp,go_sem] def underlying2:=(gL _ _).trans Tryz.underlying2
@[simp,go_sem] def underlying3:=(gL _ _).trans Tryz.underlying3
@[simp,go_sem] def underlying4:=(gL _ _).trans Tryz.underlying4
@[simp,go_sem] def underlying5:=(gL _ _).trans Tryz.underlying5
@[simp,go_sem] def underlying9:=(gL _ _).trans Tryz.underlying9
@[simp,go_sem] def underlying20:=(gL _ _).trans Tryz.underlying20
@[simp,go_sem] def underlying22:=(gL _ _).trans Tryz.underlying22
@[simp,go_sem] def underlying23:=(gL _ _).trans Tryz.underlying23
@[simp,go_sem] def underlying26:=(gL _ _).trans Tryz.underlying26
@[simp,go_sem] def underlying32:=(gL _ _).trans Tryz.underlying32
@[simp,go_sem] def underlying33:=(gL _ _).trans Tryz.underlying33
@[simp,go_sem] def underlying34:=(gL _ _).trans Tryz.underlying34
@[simp,go_sem] def underlying35:=(gL _ _).trans Tryz.underlying35
@[simp,go_sem] def underlying43:=(gL _ _).trans Tryz.underlying43
@[simp,go_sem] def underlying44:=(gL _ _).trans Tryz.underlying44
@[simp,go_sem] def underlying59:=(gL _ _).trans Tryz.underlying59
@[simp,go_sem] def underlying61:=(gL _ _).trans Tryz.underlying61
@[simp,go_sem] def underlying71:=(gL _ _).trans Tryz.underlying71
@[simp,go_sem] def underlying74:=(gL _ _).trans Tryz.underlying74
@[simp,go_sem] def underlying79:=(gL _ _).trans Tryz.underlying79
@[simp,go_sem] def underlying81:=(gL _ _).trans Tryz.underlying81
@[simp,go_sem] def underlying103:=(gL _ _).trans Tryz.underlying103
@[simp,go_sem] def underlying111:=(gL _ _).trans Tryz.underlying111
@[simp,go_sem] def underlying120:=(gL _ _).trans Tryz.underlying120
@[simp,go_sem] def underlying128:=(gL _ _).trans Tryz.underlying128
@[simp,go_sem] def underlying133:=(gL _ _).trans Tryz.underlying133
@[simp,go_sem] def underlying137:=(gL _ _).trans Tryz.underlying137
@[simp,go_sem] def underlying141:=(gL _ _).trans Tryz.underlying141
@[simp,go_sem] def underlying160:=(gL _ _).trans Tryz.underlying160
@[simp,go_sem] def underlying170:=(gL _ _).trans Tryz.underlying170
@[simp,go_sem] def underlying176:=(gL _ _).trans Tryz.underlying176
@[simp,go_sem] def underlying205:=(gL _ _).trans Tryz.underlying205
@[simp,go_sem] def underlying206:=(gL _ _).trans Tryz.underlying206
@[simp,go_sem] def underlying229:=(gL _ _).trans Tryz.underlying229
end aE
end Go.Proofs
namespace Go.Proofs.YtjidbonhhpkljaaGreat
namespace Cc
open Go
def adX:(ax.funcs.toList.all λfn=> !fn.body.isNone||(iT ([Tryz.f0.name,Tryz.f1.name,Tryz.f168.name,Tryz.f179.name,Tryz.f180.name,Tryz.f181.name,Tryz.f182.name,Tryz.f183.name,Tryz.f184.name,Tryz.f185.name,Tryz.f186.name,Tryz.f187.name,Tryz.f188.name,Tryz.f189.name,Tryz.f190.name,Tryz.f191.name,Tryz.f192.name,Tryz.f193.name,Tryz.f194.name]:List String) fn.name&&fn.origin==Tryz.f0.origin))=af:=aR
def ad2{fn:cF}(a:(iT ([Tryz.f0.name,Tryz.f1.name,Tryz.f168.name,Tryz.f179.name,Tryz.f180.name,Tryz.f181.name,Tryz.f182.name,Tryz.f183.name,Tryz.f184.name,Tryz.f185.name,Tryz.f186.name,Tryz.f187.name,Tryz.f188.name,Tryz.f189.name,Tryz.f190.name,Tryz.f191.name,Tryz.f192.name,Tryz.f193.name,Tryz.f194.name]:List String) fn.name)=af)(e:fn.origin=Tryz.f0.origin){f:Array F->dh F}(b:yS fn=K f)(args:Array F):St (aH ax) ax (cZ<|aH ax) (f args):=by
 have d:=L5;have c:=tu<|aH ax;simp only[List.contains_cons,List.contains_nil,Bool.or_false,tM,beq_iff_eq] at a;rcases a with a|a|a|a|a|a|a|a|a|a|a|a|a|a|a|a|a|a|a;rw[E8 a e aR aR aR aR aR aR] at b;cases b;rw[E8 a e aR aR aR aR aR aR] at b;cases b;rw[ou (e:=D2) a aR aR aR] at b;cases b;exact aa1 _;rw[ou (e:=(oG[4]'(az)).2) a aR aR aR] at b;cases b;exact p0 d c _ (dm _) _;rw[ou (e:=(oG[11]'(az)).2) a aR aR aR] at b;cases b;exact p0 d c _ (dm _) _;rw[ou (e:=(oG[0]'(az)).2) a aR aR aR] at b;cases b;exact p0 d c _ (dm _) _;rw[ou (e:=(oG[8]'(az)).2) a aR aR aR] at b;cases b;exact p0 d c _ (dm _) _;rw[ou (e:=(oG[1]'(az)).2) a aR aR aR] at b;cases b;exact p0 d c _ (dm _) _;rw[ou (e:=(oG[9]'(az)).2) a aR aR aR] at b;cases b;exact p0 d c _ (dm _) _;rw[ou (e:=(oG[2]'(az)).2) a aR aR aR] at b;cases b;exact p0 d c _ (dm _) _;rw[ou (e:=(oG[10]'(az)).2) a aR aR aR] at b;cases b;exact p0 d c _ (dm _) _;rw[ou (e:=(oG[5]'(az)).2) a aR aR aR] at b;cases b;exact p0 d c _ (dm _) _;rw[ou (e:=(oG[12]'(az)).2) a aR aR aR] at b;cases b;exact p0 d c _ (dm _) _;rw[ou (e:=(oG[6]'(az)).2) a aR aR aR] at b;cases b;exact p0 d c _ (dm _) _;rw[ou (e:=(oG[13]'(az)).2) a aR aR aR] at b;cases b;exact p0 d c _ (dm _) _;rw[E8 a e aR aR aR aR aR aR] at b;cases b;rw[ou (e:=(oG[7]'(az)).2) a aR aR aR] at b;cases b;exact p0 d c _ (dm _) _;rw[ou (e:=(oG[14]'(az)).2) a aR aR aR] at b;cases b;exact p0 d c _ (dm _) _;rw[ou (e:=(Ic[11]'(az)).2) a aR aR aR] at b;cases b;exact abo _ _
def L3{f:Nat}{fn:cF}(a:(aH ax).funcs[f]? =K fn)(d:nQ fn.body=af):ax.funcs[f]? =K fn:=by
 rcases ym f with b|⟨e,_,_,c⟩;rw[b];exact a;rw[c] at a;cases a;cases d
def Za:Ext (aH ax) ax:=by
 refine⟨λf fn a=>?_,λf fn a b=>?_,λf fn i a b h args=>?_⟩;rcases ym f with d|⟨c,_,e,g⟩;have:=wz BO<|aB d a;simpa using this;rw[g] at a;cases a;have:=wz BO e;show(c.name==_)=aj;simpa using this;have:=wz ad8<|L3 a b;rw[b] at this;simpa using this;have:=wz adX<|L3 a b;rw[b] at this;simp only[Bool.not_true,Bool.false_or,fe,beq_iff_eq] at this;exact ad2 this.1 this.2 h args
def Zb:r8 (aH ax) ax:=by
 refine⟨L5,Za,λf=>?_,rfl,λf=>?_,λf fn h g e=>?_,adr<|aE.tables _⟩;rcases ym f with a|⟨d,_,c,b⟩;rw[a];rw[c,b];rfl;rcases ym f with a|⟨d,_,c,b⟩;exact av a;exact ai ⟨_,_,b,rfl⟩;have:=wz Y9 g;rw[e] at this;exact this
def fX:Twins (aH ax) ax:=by
 refine⟨Zb,λf=>?_⟩;rcases ym f with g|⟨h,_,a,b⟩;exact⟨by rw[g],λfn e i a=>bu⟩;refine⟨by rw[a,b];simp,λfn e c d=>?_⟩;rw[b] at c;rw[a] at d;cases c;cases d;rfl
def Jy:List Nat:=[65,66,83,93,95,97,98,120,123,128,129,130,139,141,152,153,154,155,156,158,161,162,163,164,165,166,167,169,170,171,172,173,174,175,176,177,178]
def ES:Rn.ji:=⟨1,λf=>iT Jy f⟩
def aeg:(ax.types.toList.all λa=>match (jH a) with|some v=>Rn.tw 12 v|none=>af)=af:=by kernel_rfl
def ad5:ax.globals.size=1:=aR
def ad3:(dI Jy λf=>match ax.funcs[f]? with|some fn=>(match fn.body with|some a=>Rn.oW ES ax a|none=>aj)|none=>aj)=af:=by kernel_rfl
def adW:Rn.rN ES ax:=⟨ad5,λc e v a b=>by
 refine Rn.aei (T:=ax.toTables) (λc e a v b=>?_) c e a v b;obtain⟨k,rfl⟩:=dn.1 a;have:=fA.1 aeg (ax.types[c]) (by simp);rw[b] at this;exact λj=>Rn.LR j _ _ this,λf i=>by
 have:=fA.1 ad3 f (by simpa [ES] using i)
 split at this
 .rename_i fn d
  split at this
  .rename_i g h;exact⟨fn,g,d,h,this,by simpa using wz BO d⟩
  .cases this
 .cases this⟩
end Cc
end Go.Proofs.YtjidbonhhpkljaaGreat
