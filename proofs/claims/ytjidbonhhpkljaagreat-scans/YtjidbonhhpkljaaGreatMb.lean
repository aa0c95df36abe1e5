/- What the proof stands on, in short names. -/
import Derived.Test.YtjidbonhhpkljaaGreatMa
import Derived.Orders
import Derived.Conc.DeferLaws
import Derived.Conc.EventLaws
import Derived.Conc.Neutral
import Derived.Conc.AppendWalk
import Derived.Conc.SmallLaws
import Derived.Conc.AppendEvents3
import Derived.Deep.MidRow
import Derived.Laws.AppendOwn
import Derived.Laws.MakeOwn
import Derived.Great.BuildSlice
import Derived.RangeFuncRecord
import Derived.RangeFuncIn
import Derived.Calls
import Derived.Test.YtjidbonhhpkljaaGreatProg
import Derived.WalkKit
import Derived.Test.YtjidbonhhpkljaaGreatRows
import Derived.ProofKit
import Derived.Deep.QuietTactic
import Derived.BigQuiet
import Derived.Laws.BytesArg
import Derived.Deep.RegionWith
import Derived.Laws.BitsLemmas
import Derived.ArgAppend
import Derived.Laws.CopyOwn
import Derived.Laws.StructEq
import Derived.Lib.AppendStr
import Derived.Lib.Strings
import Derived.Lib.Slices
import Derived.Lib.Small
import Derived.Lib.Walk
import Derived.Lib.BitFns
import Derived.Maps.OwnSet
import Derived.Maps.OwnOps
import Derived.DeepKeys4
import Derived.Deep.CutBlock
import Derived.WalkSpells
import Derived.Lib.Bytealg
import Derived.Deep.RegionHeld
import Derived.WalkLawsBesides
import Derived.Recover
set_option linter.all false
open Array renaming getD->ek,getElem?_eq_some_iff->dY,getElem?_modify->uC,push->gW,range->wZ,replicate->jh,setIfInBounds->cF,size->U,toList->dD
open Bool renaming false->ai,false_eq_true->fA,true->af
open ByteArray renaming extract->e9,size->bf,toList->jI
open Classical renaming choose->mq
open Eq renaming symm->bA,trans->aB
open False renaming elim->fe
open Go renaming Act->bK,Addr->aN,Code->de,Deferred->jJ,Ending->gL,Event->cK,Frame->aP,Func->cO,FuncId->fH,GStep->ku,Goroutine->dQ,IntKind->iX,Item->dW,Obj->cj,Oper->cq,Operand->dU,PanicEntry->hJ,Program->aW,Sem->bX,TypeId->aK,TypeInfo->nL,Value->F,World->ag,doReturn->l5,execOp->bT,exitTo->mC,info_parts->eU,lt_of_block->bC,madeCells->px,maxLen->aS,resolve->oD,results->dx,run_underlying->uL,sizeOf->mD,stepG->bQ,tryRecover->rp,typeInfo->mE,undef->cI,underlying->rq,unwind->mF,yielded->eg,zeroValue->kR
open Go.Act renaming defers->b8,eval->bz,put->bG
open Go.Addr renaming add->o9,add_mid->tN,block->cH
open Go.Builtin renaming copy_->tO
open Go.ByteArray renaming toList_eq->uF
open Go.CallKind renaming normal->eA
open Go.Calls renaming mono->bL,quiet_of_same->vG
open Go.Code renaming block->ga,region->gu,seq->aU,skip->eO
open Go.Conc renaming G->aO,served->nJ
open Go.Deferred renaming ofValue->yK
open Go.Departure renaming mixedOrders->n4
open Go.Ending renaming panicked->gO,returned->aR
open Go.Exit renaming normal->e4,panic->iL
open Go.Extern renaming find->yL
open Go.Extern.BytealgCompare renaming compare->DO
open Go.Extern.Bytes renaming bytesOf->NT,loadBytes->NU
open Go.Extern.ReflectliteType renaming rows->HF
open Go.Extern.RuntimeError renaming boundsError->abL,boundsErrorFmts->abN,boundsNegErrorFmts->abO,described->NV,pkgpathOf->NW,rows->oC,text->NX,typeAssertionError->NY,unhashableTypeError->NZ
open Go.Extern.RuntimeError.boundsError renaming match_1->abM
open Go.Fn renaming yield->gH
open Go.Frame renaming enter->fC,finish->di,kind->eD,mode->iM,raise->jz,round->rf,roundOf->pe
open Go.FrameMode renaming panicking->kr,returning->jA
open Go.Func renaming results->r4
open Go.GStep renaming after->pg
open Go.GoStatus renaming running->lB
open Go.Goroutine renaming callers->sY,status->m5
open Go.Instr renaming buildSlice->yM,fill->tQ,sureAddr->uG
open Go.IntKind renaming i64->bM,u64->lV,u8->vH
open Go.Item renaming code->b9,inBlock->fI,inLoop->gE,inRegion->bW
open Go.Lib renaming compareBytes->mv
open Go.Maps.Keyed renaming of_law->abQ
open Go.Next renaming value->eT
open Go.Obj renaming cells->ax,deferred->mz
open Go.Oper renaming after->ri
open Go.Program renaming cellsOf->rj,eqGuardType->yQ,holdsPacked->yR,stoodInHeld->yS,toTables->e5,underlying->gb
open Go.Proofs.Tryz renaming ntmps132->vI,prog->av
open Go.Region renaming binds->iN,ready->gd,schedule->yV,wanted->eF
open Go.Region.Mode renaming any->ed
open Go.Region.linearise renaming go->kO
open Go.Result renaming ok->b6
open Go.RowKit renaming Below->dw,intOf->bw,wrap64->dr
open Go.RowKit.Below renaming alloc->nK,block->cS,cell->bq,grown->iB,setCell->tS,trans->fJ
open Go.Sem renaming run->iY,run_bind->s0
open Go.TypeInfo renaming bytes->ji,zero->jL
open Go.Value renaming agg->cw,bool->ak,cells->lC,chan->fp,int->bt,oneCell'->nM,ownBlock->bB,pointer->dG,slice->ah,string->au,tuple->cC
open Go.World renaming alloc->cD,cell?->aA,drawn->cm,drewN->cT,drewN_drewN->r5,frozen?->cU,grownBy->jj,heap->gP,output->fS,ownsRow->aT,ownsRow_nil->iO,rangeAt->pq,setCell->bg,setChan->lZ,tape->dV
open Go.World.grownBy renaming refl->Oa
open Go.World.ownsRow renaming alloc->mB,cellAt->pp,frozenAt->vM,kept->fK
open Go.stepG renaming apply->kx,exec->dN
open Int renaming toNat->bS
open List renaming all->dM,all_eq_true->fD,contains->iP,getD->aX,length->I,lookup_cons->y3,range->eH,replicate->dh,toArray->cX
open MonadExceptOf renaming throw->HK
open Option renaming isNone->lF,isSome->lG,none->Z,some->K
open Or renaming elim->ff,inl->aq,inr->an
variable{Q qS qT:Go.Act}{R qP:Go.Addr}{q7:Array Bool}{QR QS oh:Array Go.Event}{Qt:Array Go.Oper}{QM:Array Go.Operand}{QE:Array Go.TypeId}{C args qJ vs:Array Go.Value}{qV qW:Bool}{B s:ByteArray}{QJ assign c1 c2:Go.Code}{QT:Go.Event}{Qf Qg Qh fr':Go.Frame}{QI:Go.Func}{QG gf:Go.FuncId}{QV g' g2:Go.Goroutine}{M qA:Int}{Qv:Go.IntKind}{H l2 q4:List (Nat×Go.Value)}{Qi Qj aY tops':List Go.Frame}{qY:List Int}{QN:List Go.Item}{L l qE rest:List Nat}{QU:List Go.PanicEntry}{S news qM:List Go.Value}{a b b1 c cap d e f i j k m n off off' r:Nat}{Qa q9:Nat→Prop}{Qx val:Nat→Go.Value}{Qk Ql:Go.Obj}{Qr:Go.Oper}{Qp Qq:Go.Operand}{O P:Option Go.Addr}{QX:Option Nat}{Qn:Go.Program}{QK:String}{Qc Qd:Go.TypeId}{v v0 v1 v2 x y z:Go.Value}{G W u w:Go.World}
set_option maxRecDepth 100000
set_option maxHeartbeats 8000000
namespace Go.Proofs.YtjidbonhhpkljaaGreat
namespace Rl
section
variable {G:fo}
def AU (P:aW)(a:aK):Bool:=match (gb P) a with|some (.int _)=>af|_=>ai
def Cm (P:aW)(b:aK):Bool:=match (gb P) b with|some (.map a _)=>plainKey P 10000 a|_=>af
def lK (G:fo)(P:aW):Op->Bool
 | .move a| .assign a| .box _ a| .load _ a| .nilCheck a| .unOp _ _ a| .makeInterface _ a| .fieldAddr _ a _| .field _ a _| .extract a _| .panic a=>ix G a
 | .pick c b h=>ix G c&&ix G b&&ix G h
 | .alloc _=>af
 | .build _ g| .buildSlice _ _ g=>dM g.toList λo=>ix G o.2
 | .store _ b v| .binOp _ _ b v _| .makeSlice _ b v| .indexAddr _ b v| .index _ b v=>ix G b&&ix G v
 | .convert s j a=>ix G a&&AU P s&&AU P j
 | .makeFunc k first i=>(match k with| .func f=>G.b f|_=>ai)&&dM first.toList (ix G)&&dM i.toList (ix G)
 | .makeMap _ p=>dM p.toList (ix G)
 | .slice _ a n l m=>ix G a&&dM n.toList (ix G)&&dM l.toList (ix G)&&dM m.toList (ix G)
 | .lookup d b v _=>Cm P d&&ix G b&&ix G v
 | .mapUpdate d m e v| .insert d m e v=>Cm P d&&ix G m&&ix G e&&ix G v
 | .call c| .defer c=>EP G P c
 |_=>ai
section
variable {P J:aW}{ρ:aL G}
def Wd(f:Alike G P J){s a:aK}(c:AU P s=af)(b:AU P a=af)(g:aG ρ v x):aC P J aG ρ (convert s a v) (convert s a x):=by
 unfold convert;refine(iz f.S).bindM (λn h l j d=>?_);obtain⟨rfl,d⟩:=d;refine(iz f.S).bindM (λo i m k e=>?_);obtain⟨rfl,e⟩:=e;unfold AU at c b;rw[d] at c;rw[e] at b;cases h<;>first|(simp at c;done)|skip
 cases i<;>first|(simp at b;done)|skip
 cases g using aG.ind<;>first|exact .bI (.int _ _)|exact aC.fY
def CB{c d:dU->F}(f:∀a,ix G a=af->aG ρ (c a) (d a)){b:Option dU}(e:dM b.toList (ix G)=af):gR ρ (b.map c) (b.map d):=by
 cases b with
 |none=>exact .none
 |some a=>exact .some (f a (cM e))
def KL{f g:dU->F}(h:∀a,ix G a=af->aG ρ (f a) (g a)){c:Array (Nat×dU)}(b:(dM c.toList λe=>ix G e.2)=af):kB ρ (dD (c.map fun(d,a)=>(d,f a))) (dD (c.map fun(d,a)=>(d,g a))):=by
 rw[Array.toList_map,Array.toList_map];generalize dD c=j at b
 induction j with
 |nil=>exact .nil
 |cons e k i=>
  simp only[List.all_cons,ez] at b;exact .cons e.1 (h _ b.1) (i b.2)
def E4(b:Cm P Qc=af):∀a c,gb P Qc=K (.map a c)->plainKey P 10000 a=af:=by
 intro a c d;unfold Cm at b;rw[d] at b;exact b
def Wi(e:Alike G P J)(p:cq){k l:dU->F}(a:lK G P p.op=af)(b:∀c,ix G c=af->aG ρ (k c) (l c))(I:∀c,p.op= .panic c->(∃g v,k c= .iface g v)\/k c=cI):aC P J (gZ P) ρ (bT k p) (bT l p):=by
 unfold bT;cases d:p.op with
 |move c=>rw[d] at a;exact .bI (.value (b c a))
 |assign c=>rw[d] at a;exact .bI (.value (b c a))
 |pick r i j=>
  rw[d] at a;simp only[lK,ez] at a;refine(V6 (b r a.1.1)).bindM (λy c x n H=>?_);cases H;cases c;exact .bI (.value ((b j a.2).mono n));exact .bI (.value ((b i a.1.2).mono n))
 |alloc g=>exact kH (V3 e)
 |box g c=>rw[d] at a;exact kH (V8 (b c a))
 |build g L=>rw[d] at a;exact kH (V9 e (KL b a))
 |buildSlice g U L=>rw[d] at a;exact kH (Wa e (KL b a))
 |load g c=>rw[d] at a;exact kH (Wz e (b c a))
 |store g i v=>
  rw[d] at a;simp only[lK,ez] at a;exact F1 (WN e (b i a.1) (b v a.2))
 |nilCheck c=>
  rw[d] at a;have h:=b c a;dsimp only;generalize k c=v at h;generalize l c=C at h;have A:=h;cases h using aG.ind with
  |hU=>exact pW e.S _ aF aF aF
  |nilIface=>exact pW e.S _ aF aF aF
  |nilFunc=>exact pW e.S _ aF aF aF
  |func a O Q R S=>
   cases a using lz.ind with
   |func f N=>exact .bI (.value A)
  |_=>exact .bI (.value A)
 |binOp K g c x X=>
  rw[d] at a;simp only[lK,ez] at a;exact kH ((Wh e (b c a.1) (b x a.2)).bindM (λy _ _ n _=>V7 e ((b c a.1).mono n) ((b x a.2).mono n)))
 |unOp K g c=>rw[d] at a;exact kH (WS (b c a))
 |convert s z c=>
  rw[d] at a;simp only[lK,ez] at a;exact kH (Wd e a.1.2 a.2 (b c a.1.1))
 |makeInterface g c=>rw[d] at a;exact kH (WB e (b c a))
 |makeFunc E first M=>
  rw[d] at a;simp only[lK,ez] at a;have t:=Hs b a.1.2;have u:=Hs b a.2;cases E with
  |func f=>exact kH (.bI (.func (.func f a.1.1) t.1 t.2 u.1 u.2))
  |_=>exact absurd a.1.1 aF
 |makeMap g W=>rw[d] at a;exact kH (WC e (CB b a))
 |makeSlice g i j=>
  rw[d] at a;simp only[lK,ez] at a;exact kH (WD e (b i a.1) (b j a.2))
 |slice g c T h m=>
  rw[d] at a;simp only[lK,ez] at a;exact kH (WM e (b c a.1.1.1) (CB b a.1.1.2) (CB b a.1.2) (CB b a.2))
 |fieldAddr g c B=>rw[d] at a;exact kH (Wm e (b c a))
 |field g c B=>rw[d] at a;exact kH (Wl e (b c a))
 |indexAddr g i j=>
  rw[d] at a;simp only[lK,ez] at a;exact kH (Wr e (b i a.1) (b j a.2))
 |index g i j=>
  rw[d] at a;simp only[lK,ez] at a;exact kH (Wq e (b i a.1) (b j a.2))
 |lookup g i j V=>
  rw[d] at a;simp only[lK,ez] at a;exact kH (WA e (E4 a.1.1) (b i a.1.2) (b j a.2))
 |mapUpdate g m w v=>
  rw[d] at a;simp only[lK,ez] at a;exact F1 (K4 e (E4 a.1.1.1) (b m a.1.1.2) (b w a.1.2) (b v a.2))
 |insert g m w v=>
  rw[d] at a;simp only[lK,ez] at a;exact F1 (K4 e (E4 a.1.1.1) (b m a.1.1.2) (b w a.1.2) (b v a.2))
 |extract c B=>rw[d] at a;exact kH (Wj (b c a))
 |call r=>
  rw[d] at a;exact(K8 b a).bindM (λy z D _ q=>KW e q.target q.args)
 |defer r=>
  rw[d] at a;exact(K8 b a).bindM (λy z D _ q=>.bI (.defer q))
 |panic c=>
  rw[d] at a;have h:=b c a;dsimp only;rcases I c d with⟨g,v,o⟩|o;rw[o] at h ⊢;generalize l c=C at h;cases h using aG.ind with
  |iface g o=>exact aC.halt (.panic (.iface g o))
  rw[o] at h ⊢;generalize l c=C at h;unfold cI at h ⊢;cases h using aG.ind with
  |tuple t u=>exact aC.stuck
 |_=>rw[d] at a;simp[lK] at a
end
end
section
variable {G:fo}
def zK:Op->Bool
 | .panic _=>af
 |_=>ai
def CF (b:Array cq)(c d:Nat):Bool:=
 match b[d]? with
 |some e=>match e.op with
  | .panic h=>match b[c]? with
   |some a=>(match a.op,a.dst,h with| .makeInterface _ _,K f,.tmp g=>f==g|_,_,_=>ai)&&lF a.guard
   |none=>ai
  |_=>af
 |none=>af
def uc (c:Array cq):List Nat->Bool
 |a::b::d=>CF c a b&&uc c (b::d)
 |_=>af
def J7 (c:Array cq)(a:Nat):Bool:=match c[a]? with|some b=> !zK b.op|none=>af
def AP (G:fo)(P:aW)(a:Array cq)(c:Bool):Bool:=
 (dM a.toList λb=>lK G P b.op)&&if c then dM a.toList (λb=> !zK b.op) else uc a (eH (U a))&&J7 a 0
def j3 (G:fo)(P:aW):de->Bool
 |gu _ e d=>AP G P e d
 |aU a b=>j3 G P a&&j3 G P b
 | .cond c a b=>ix G c&&j3 G P a&&j3 G P b
 |ga _ a| .loop a| .scope a=>j3 G P a
 |eO| .exit _| .label _| .ret=>af
 | .rangeFunc _ _ _ _| .goto _| .refuse _=>ai
def fL (G:fo)(P:aW)(h:dW):Prop:=∀b:dW->Prop,(∀(a:de) (c:j3 G P a=af),b (b9 a))->(∀(f:Nat),b (fI f))->(∀(a:de) (c:j3 G P a=af),b (gE a))->(∀(a:de) (c:j3 G P a=af),b (.inScope a))->(∀(d:Array cq) (e:List Nat) (c:(dM d.toList λg=>lK G P g.op)=af) (i:uc d e=af),b (bW d e))->b h
def fL.code{G:fo}{P:aW}(a:de)(c:j3 G P a=af):fL G P (b9 a):=λd b e f g h=>b a c
def fL.inBlock{G:fo}{P:aW}(a:Nat):fL G P (fI a):=λc d b e f g=>b a
def fL.inLoop{G:fo}{P:aW}(b:j3 G P QJ=af):fL G P (gE QJ):=λc d e a f g=>a QJ b
def fL.inScope{G:fo}{P:aW}(b:j3 G P QJ=af):fL G P (.inScope QJ):=λc d e f a g=>a QJ b
def fL.inRegion{G:fo}{P:aW}(a:Array cq)(b:List Nat)(d:(dM a.toList λf=>lK G P f.op)=af)(e:uc a b=af):fL G P (bW a b):=λg h i j k c=>c a b d e
def fL.ind{G:fo}{P:aW}{b:∀(c:dW),fL G P c->Prop}(code:∀(a:de) (h:j3 G P a=true),b _ (fL.code a h))(inBlock:∀(i:Nat),b _ (fL.inBlock i))(inLoop:∀(a:de) (h:j3 G P a=true),b _ (fL.inLoop h))(inScope:∀(a:de) (h:j3 G P a=true),b _ (fL.inScope h))(inRegion:∀(d:Array cq) (e:List Nat) (h:(dM d.toList λo=>lK G P o.op)=true) (hc:uc d e=true),b _ (fL.inRegion d e h hc)){c:dW}(h:fL G P c):b c h:=(h (λc=>fL G P c/\∀h,b c h) (λa h=>⟨fL.code a h,λ_=>code a h⟩) (λi=>⟨fL.inBlock i,λ_=>inBlock i⟩) (λa h=>⟨fL.inLoop h,λ_=>inLoop a h⟩) (λa h=>⟨fL.inScope h,λ_=>inScope a h⟩) (λd e h hc=>⟨fL.inRegion d e h hc,λ_=>inRegion d e h hc⟩)).2 h
def nN (G:fo)(P:aW)(b:List dW):Prop:=∀a∈b,fL G P a/\∀c d,a≠bW c d
def xA (G:fo)(P:aW):List dW->Prop
 | []=>True
 |i::a=>fL G P i/\nN G P a
structure zc(ρ:aL G)(p p':hJ):Prop where
 v:aG ρ p.v p'.v
 r:p.recovered=p'.recovered
 g:p.goexit=p'.goexit
def g9 (ρ:aL G)(f:List hJ)(g:List hJ):Prop:=∀a:List hJ->List hJ->Prop,(a [] [])->(∀{d e:hJ} {b c:List hJ} (h:zc ρ d e) (i:a b c),a (d::b) (e::c))->a f g
def g9.nil{ρ:aL G}:g9 ρ [] []:=λb a c=>a
def g9.cons{ρ:aL G}{d e:hJ}{b c:List hJ}(h:zc ρ d e)(i:g9 ρ b c):g9 ρ (d::b) (e::c):=λf g a=>a h (i f g a)
def g9.ind{ρ:aL G}{d:∀(a:List hJ) (b:List hJ),g9 ρ a b->Prop}(nil:d _ _ (g9.nil))(cons:∀{p g:hJ} {e f:List hJ} (h:zc ρ p g) (c:g9 ρ e f),(d _ _ c)->d _ _ (g9.cons h c)){a:List hJ}{b:List hJ}(h:g9 ρ a b):d a b h:=(h (λa b=>g9 ρ a b/\∀h,d a b h) (⟨g9.nil,λ_=>nil⟩) (λh c=>⟨g9.cons h c.1,λ_=>cons h c.1 (c.2 _)⟩)).2 h
def gB (ρ:aL G)(d:FrameMode)(e:FrameMode):Prop:=∀a:FrameMode->FrameMode->Prop,(a .run .run)->(a jA jA)->(∀{b c:List hJ} (f:g9 ρ b c),a (kr b) (kr c))->a d e
def gB.run{ρ:aL G}:gB ρ .run .run:=λb a c d=>a
def gB.returning{ρ:aL G}:gB ρ jA jA:=λb c a d=>a
def gB.panicking{ρ:aL G}{a b:List hJ}(d:g9 ρ a b):gB ρ (kr a) (kr b):=λe f g c=>c d
def gB.ind{ρ:aL G}{c:∀(a:FrameMode) (b:FrameMode),gB ρ a b->Prop}(run:c _ _ (gB.run))(returning:c _ _ (gB.returning))(panicking:∀{d e:List hJ} (h:g9 ρ d e),c _ _ (gB.panicking h)){a:FrameMode}{b:FrameMode}(h:gB ρ a b):c a b h:=(h (λa b=>gB ρ a b/\∀h,c a b h) (⟨gB.run,λ_=>run⟩) (⟨gB.returning,λ_=>returning⟩) (λh=>⟨gB.panicking h,λ_=>panicking h⟩)).2 h
def lm (P:aW)(ρ:aL G)(f:List jJ)(g:List jJ):Prop:=∀a:List jJ->List jJ->Prop,(a [] [])->(∀{b c:jJ} {d e:List jJ} (h:sW P ρ b c) (i:a d e),a (b::d) (c::e))->a f g
def lm.nil{P:aW}{ρ:aL G}:lm P ρ [] []:=λb a c=>a
def lm.cons{P:aW}{ρ:aL G}{b c:jJ}{d e:List jJ}(h:sW P ρ b c)(i:lm P ρ d e):lm P ρ (b::d) (c::e):=λf g a=>a h (i f g a)
def lm.ind{P:aW}{ρ:aL G}{e:∀(a:List jJ) (b:List jJ),lm P ρ a b->Prop}(nil:e _ _ (lm.nil))(cons:∀{d f:jJ} {g i:List jJ} (h:sW P ρ d f) (c:lm P ρ g i),(e _ _ c)->e _ _ (lm.cons h c)){a:List jJ}{b:List jJ}(h:lm P ρ a b):e a b h:=(h (λa b=>lm P ρ a b/\∀h,e a b h) (⟨lm.nil,λ_=>nil⟩) (λh c=>⟨lm.cons h c.1,λ_=>cons h c.1 (c.2 _)⟩)).2 h
structure fB(P:aW)(ρ:aL G)(fr fr':aP):Prop where
 fn:fr'.fn=fr.fn
 may:G.b fr.fn=af
 tmps:cP ρ fr.tmps fr'.tmps
 todo:fr'.todo=fr.todo
 ok:xA G P fr.todo
 defers:lm P ρ fr.defers fr'.defers
 mode:gB ρ (iM fr) (iM fr')
 kind:eD fr'=eD fr
 kinds:eD fr=eA\/eD fr= .deferred
 round:pe fr=Z
 round':pe fr'=Z
def kz (a:aP):Prop:=iM a= .run->∀e c g f d b,a.todo=bW e (c::g)::f->e[c]? =K d->d.op= .panic b->(∃h v,a.eval b= .iface h v)\/a.eval b=cI
def vX (a:aP):Prop:=iM a= .run->∃d b g f c e,a.todo=bW d (b::g)::f/\d[b]? =K c/\c.op= .call e
def gv (P:aW)(ρ:aL G)(e:List aP)(g:List aP):Prop:=∀a:List aP->List aP->Prop,(a [] [])->(∀{f b:aP} {c d:List aP} (h:fB P ρ f b) (j:vX f) (i:a c d),a (f::c) (b::d))->a e g
def gv.nil{P:aW}{ρ:aL G}:gv P ρ [] []:=λb a c=>a
def gv.cons{P:aW}{ρ:aL G}{f b:aP}(e:fB P ρ f b)(h:vX f)(g:gv P ρ Qi Qj):gv P ρ (f::Qi) (b::Qj):=λc d a=>a e h (g c d a)
def gv.ind{P:aW}{ρ:aL G}{d:∀(a:List aP) (b:List aP),gv P ρ a b->Prop}(nil:d _ _ (gv.nil))(cons:∀{f g:aP} {i j:List aP} (h:fB P ρ f g) (e:vX f) (c:gv P ρ i j),(d _ _ c)->d _ _ (gv.cons h e c)){a:List aP}{b:List aP}(h:gv P ρ a b):d a b h:=(h (λa b=>gv P ρ a b/\∀h,d a b h) (⟨gv.nil,λ_=>nil⟩) (λh e c=>⟨gv.cons h e c.1,λ_=>cons h e c.1 (c.2 _)⟩)).2 h
def fG:aP->List aP->Prop
 |fr,[]=>eD fr=eA
 |_,f::a=>fG f a
theorem fG.of{fr b:aP}(d:eD b=eD fr):∀{c:List aP},fG fr c->fG b c
 | [],a=>aB d a
 |_::_,a=>a
section
variable {P:aW}{ρ J:aL G}
def jV.mono(c:ρ.le J){b d:Target}(a:jV P ρ b d):jV P J b d:=by
 cases a using jV.ind with
 |fn g a=>exact .fn (g.mono c) (a.mono c)
 |nil=>exact .nil
 |builtin e h b f a=>exact .builtin e h b f a
def sW.mono(b:ρ.le J){c d:jJ}(a:sW P ρ c d):sW P J c d:=⟨a.target.mono b,a.args.mono b⟩
def lm.mono(d:ρ.le J){b c:List jJ}(a:lm P ρ b c):lm P J b c:=by
 induction a using lm.ind with
 |nil=>exact .nil
 |cons a _ e=>exact .cons (a.mono d) e
def zc.mono(d:ρ.le J){b c:hJ}(a:zc ρ b c):zc J b c:=⟨a.v.mono d,a.r,a.g⟩
def g9.mono(d:ρ.le J){b c:List hJ}(a:g9 ρ b c):g9 J b c:=by
 induction a using g9.ind with
 |nil=>exact .nil
 |cons a _ e=>exact .cons (a.mono d) e
def g9.append{b c d e:List hJ}(a:g9 ρ b c)(f:g9 ρ d e):g9 ρ (b++d) (c++e):=by
 induction a using g9.ind with
 |nil=>exact f
 |cons a _ g=>exact .cons a g
def gB.mono(d:ρ.le J){b c:FrameMode}(a:gB ρ b c):gB J b c:=by
 cases a using gB.ind with
 |run=>exact .run
 |returning=>exact .returning
 |panicking a=>exact .panicking (a.mono d)
def fB.mono(b:ρ.le J){f c:aP}(a:fB P ρ f c):fB P J f c:=
 ⟨a.fn,a.may,a.tmps.mono b,a.todo,a.ok,a.defers.mono b,a.mode.mono b,a.kind,a.kinds,a.round,a.round'⟩
def gv.mono(c:ρ.le J){f b:List aP}(a:gv P ρ f b):gv P J f b:=by
 induction a using gv.ind with
 |nil=>exact .nil
 |cons a d _ e=>exact .cons (a.mono c) d e
def Aj:aG ρ cI cI:=.tuple Y (λb a=>by simp at a)
def cP.getD(d:cP ρ C qJ)(c:Nat):aG ρ (ek C c cI) (ek qJ c cI):=by
 rw[jT,jT];rcases d.get c with⟨a,b⟩|⟨v,f,a,b,e⟩;rw[a,b];exact Aj;rw[a,b];exact e
def fB.eval{f c:aP}(a:fB P ρ f c)(b:dU)(hx:ix G b=af):aG ρ (f.eval b) (c.eval b):=by
 cases b with
 |tmp e=>exact a.tmps.getD e
 |const v=>exact CJ 6 v hx
 |global g=>cases hx
 |func f=>exact .func (.func f hx) Y (λd a=>by simp at a) Y (λd a=>by simp at a)
def aa9(e:cP ρ C qJ)(d:Array cq)(c:Nat):eg d C c=eg d qJ c:=by
 unfold eg;cases(d[c]?).bind (·.dst) with
 |none=>rfl
 |some g=>
  simp only[zb];rcases e.get g with⟨a,b⟩|⟨v,h,a,b,f⟩
  .rw[a,b]
  .rw[a,b];cases f using aG.ind<;>rfl
def nN.todo(a:nN G P QN):xA G P QN:=by
 cases QN with
 |nil=>trivial
 |cons c QN=>exact⟨(a c aF).1,λd b=>a d (by simp[b])⟩
def nN.tail{c:dW}(a:nN G P (c::QN)):nN G P QN:=λd b=>a d (by simp[b])
def nN.cons{b:dW}(d:fL G P b)(e:∀f g,b≠bW f g)(c:nN G P QN):nN G P (b::QN):=λh a=>by
 rcases fT.1 a with rfl|a;exact⟨d,e⟩;exact c h a
theorem EJ{id:Nat}:∀{c b:List dW},nN G P c->mC id c=K b->nN G P b
 | [],b,_,a=>by simp[mC] at a
 |i::c,b,e,a=>by
  have d:nN G P c:=e.tail;cases i<;>simp only[mC] at a<;>first
   |exact EJ d a
   |(split at a
     cases a;exact d;exact EJ d a)
def JA(d:∀c a rest b,Qf.todo≠bW c (a::rest)::b):kz Qf:=λ_ c a rest b f g e=>absurd e (d c a rest b)
def Tf(b:nN G P QN):kz {Qf with todo:=QN}:=JA (λd c e f a=>by
 simp only at a;exact(b (bW d (c::e)) (by rw[a];simp)).2 _ _ Y)
def uZ(a:iM Qf≠.run):kz Qf:=λb=>absurd b a
def Nx(a:iM Qf≠.run):vX Qf:=λb=>absurd b a
end
end
section
variable {G:fo}{R:Nat}
def iR (P:aW)(dL dc:List aP)(Q:aL G)(k:Nat)(J:ag)(r:ku)(s:ku):Prop:=∀d:ku->ku->Prop,(∀(p:Outcome) (q:ag) (b:Array cK) (f:ku),d (.ended p q b) f)->(∀{o:dQ} {a:ag} {b:Array cK} {f:ku} (t:k<cm a),d (.go o a b) f)->(∀{c:aL G} {h:Nat} {e j:aP} {aY l:List aP} {a g:ag} {b i:Array cK} (y:fB P c e j) (z:kz e) (A:gv P c aY l) (C:eY c h a g) (x:Fr Q c J g) (v:∀n∈i,jx c n) (u:fG e aY) (B:cm a+h=k),d (.go (aO e (aY++dL)) a b) (.go (aO j (l++dc)) g i))->d r s
def iR.lost{P:aW}{dL dc:List aP}{Q:aL G}{J:ag}{a:Outcome}{b:ku}:iR P dL dc Q n J (.ended a u QR) b:=λd c e f=>c a u QR b
def iR.over{P:aW}{dL dc:List aP}{Q:aL G}{J:ag}{c:ku}(b:n<cm u):iR P dL dc Q n J (.go QV u QR) c:=λd e a f=>a b
def iR.go{P:aW}{dL dc:List aP}{Q:aL G}{J:ag}{a:aL G}{fr fr':aP}(g:fB P a fr fr')(h:kz fr)(i:gv P a aY tops')(k:eY a b1 u W)(f:Fr Q a J W)(e:∀c∈QS,jx a c)(d:fG fr aY)(j:cm u+b1=n):iR P dL dc Q n J (.go (aO fr (aY++dL)) u QR) (.go (aO fr' (tops'++dc)) W QS):=λl o p b=>b g h i k f e d j
def iR.ind{P:aW}{dL dc:List aP}{Q:aL G}{t:Nat}{J:ag}{f:∀(b:ku) (c:ku),iR P dL dc Q t J b c->Prop}(lost:∀(o:Outcome) (v:ag) (a:Array cK) (r:ku),f (.ended o v a) r iR.lost)(over:∀{B:dQ} {d:ag} {a:Array cK} {r:ku} (h:t<cm d),f (.go B d a) r (iR.over h))(go:∀{g:aL G} {x:Nat} {fr z:aP} {aY A:List aP} {d u:ag} {a y:Array cK} (l:fB P g fr z) (n:kz fr) (p:gv P g aY A) (s:eY g x d u) (k:Fr Q g J u) (j:∀e∈y,jx g e) (i:fG fr aY) (q:cm d+x=t),f (.go (aO fr (aY++dL)) d a) (.go (aO z (A++dc)) u y) (iR.go l n p s k j i q)){b:ku}{c:ku}(h:iR P dL dc Q t J b c):f b c h:=(h (λb c=>iR P dL dc Q t J b c/\∀h,f b c h) (λo v a r=>⟨iR.lost,λ_=>lost o v a r⟩) (λh=>⟨iR.over h,λ_=>over h⟩) (λl n p s k j i q=>⟨iR.go l n p s k j i q,λ_=>go l n p s k j i q⟩)).2 h
def tK (G:fo)(P H:aW):Prop:=∀f,G.b f=af->∃a b,P.funcs[f]? =K a/\H.funcs[f]? =K a/\a.body=K b/\j3 G P b=af
section
variable {P H:aW}{Q:aL G}{dL dc:List aP}{w J:ag}{m O:Bool}
def ue:∀a∈(#[]:Array cK),jx Q a:=λa b=>by simp at b
def OY(j:nN G P QN)(a:AP G P Qt ai=af)(f:aP):xA G P (.inRegion Qt (eH (U Qt))::QN)/\kz {f with todo:=.inRegion Qt (eH (U Qt))::QN}:=by
 unfold AP at a;simp only[fA,if_false,ez] at a;refine⟨⟨.inRegion _ _ a.1 a.2.1,j⟩,λ_ p k q l o r d h i=>?_⟩;simp only[vN,Ax] at d;obtain⟨⟨rfl,b⟩,-⟩:=d;have g:k=0:=by
  rw[List.range_eq_range'] at b;cases e:U Qt with
  |zero=>rw[e] at b;simp at b
  |succ n=>rw[e,List.range'_succ] at b;simp at b;omega
 have c:=a.2.2;unfold J7 at c;rw[<-g,h] at c;simp only[i,zK] at c;cases c
def R4(o:nN G P QN)(c:AP G P Qt af=af)(b:List Nat)(j:aP):xA G P (.inRegion Qt b::QN)/\kz {j with todo:=.inRegion Qt b::QN}:=by
 unfold AP at c;simp only[if_true,ez] at c;have h:∀(d:Nat) (a:cq),Qt[d]? =K a->zK a.op=ai:=λd a e=>by
  have:=fD.1 c.2 a (by
   have:=dY.1 e;obtain⟨s,rfl⟩:=this;simp)
  simpa using this
 refine⟨⟨.inRegion _ _ c.1 ?_,o⟩,λ_ u d v t a x g k l=>?_⟩;have:∀b,uc Qt b=af:=by
  intro b
  induction b with
  |nil=>rfl
  |cons q i p=>
   cases i with
   |nil=>rfl
   |cons f i=>
    simp only[uc,ez];refine⟨?_,p⟩;unfold CF;cases n:Qt[f]? with
    |none=>rfl
    |some a=>
     have:=h f a n;dsimp only;cases e:a.op<;>first|rfl|(rw[e] at this;simp[zK] at this)
 exact this b;simp only[vN,Ax] at g;obtain⟨⟨rfl,r⟩,-⟩:=g;have:=h d a k;rw[l] at this;simp[zK] at this
def fB.Na(a:fB P Q Qf Qg)(b:xA G P QN):fB P Q {Qf with todo:=QN} {Qg with todo:=QN}:=
 ⟨a.fn,a.may,a.tmps,rfl,b,a.defers,a.mode,a.kind,a.kinds,a.round,a.round'⟩
def MU(b:fB P Q Qf Qg)(e:gv P Q aY Qi)(f:eY Q R w J)(d:xA G P QN)(c:kz {Qf with todo:=QN})(a:fG Qf aY):
 iR P dL dc Q (cm w+R) J (.go (aO {Qf with todo:=QN} (aY++dL)) w) (.go (aO {Qg with todo:=QN} (Qi++dc)) J):=
 .go (b.Na d) c e f (Fr.refl _ _) ue (fG.of (by rfl) a) Y
def K_(c:fB P Q Qf Qg)(d:gv P Q aY Qi)(e:eY Q R w J)(a:nN G P QN)(b:fG Qf aY):
 iR P dL dc Q (cm w+R) J (.go (aO {Qf with todo:=QN} (aY++dL)) w) (.go (aO {Qg with todo:=QN} (Qi++dc)) J):=MU c d e a.todo (Tf a) b
def LL(b:fB P Q Qf Qg)(c:Qf.mode= .run):Qg.mode= .run:=by
 have:=b.mode;rw[c] at this;cases a:Qg.mode with
 |run=>rfl
 |returning=>rw[a] at this;cases this using gB.ind
 |panicking d=>rw[a] at this;cases this using gB.ind
def Se(Z:H.follows n4=P.follows n4)(c:fB P Q Qf Qg)(B:gv P Q aY Qi)(p:eY Q R w J)(d:iM Qf= .run)(ab:∀l s E e,Qf.todo≠bW l (s::E)::e)(z:fG Qf aY):
 iR P dL dc Q (cm w+R) J (bQ P m (aO Qf (aY++dL)) w) (bQ H O (aO Qg (Qi++dc)) J):=by
 have i:=LL c d;have g:=c.todo;have I:=c.ok;have D:=c.round;have K:=c.round';have L:iR P dL dc Q (cm w+R) J (.go (aO {Qf with mode:=.returning} (aY++dL)) w) (.go (aO {Qg with mode:=.returning} (Qi++dc)) J):=
  .go ⟨c.fn,c.may,c.tmps,c.todo,c.ok,c.defers,.returning,c.kind,c.kinds,c.round,c.round'⟩ (uZ aF) B p (Fr.refl _ _) ue (fG.of (by rfl) z) Y
 cases b:Qf.todo with
 |nil=>
  rw[b] at g;have j:bQ P m (aO Qf (aY++dL)) w= .go (aO {Qf with mode:=.returning} (aY++dL)) w:=by simp[aO,bQ,dN,d,b,D]
  have o:bQ H O (aO Qg (Qi++dc)) J= .go (aO {Qg with mode:=.returning} (Qi++dc)) J:=by simp[aO,bQ,dN,i,g,K]
  rw[j,o];exact L
 |cons ao e=>
  rw[b] at g I;have⟨W,k⟩:=I;have move:∀(t:List dW),nN G P t->bQ P m (aO Qf (aY++dL)) w= .go (aO {Qf with todo:=t} (aY++dL)) w->bQ H O (aO Qg (Qi++dc)) J= .go (aO {Qg with todo:=t} (Qi++dc)) J->iR P dL dc Q (cm w+R) J (bQ P m (aO Qf (aY++dL)) w) (bQ H O (aO Qg (Qi++dc)) J):=λt r j o=>by
   rw[j,o];exact K_ c B p r z
  cases W using fL.ind with
  |inBlock s=>exact move e k (by simp[aO,bQ,dN,d,b]) (by simp[aO,bQ,dN,i,g])
  |inLoop n a=>exact move (.code n :: .inLoop n::e) (.cons (.code n a) aF (.cons (.inLoop a) aF k)) (by simp[aO,bQ,dN,d,b]) (by simp[aO,bQ,dN,i,g])
  |inScope n a=>exact move e k (by simp[aO,bQ,dN,d,b]) (by simp[aO,bQ,dN,i,g])
  |inRegion l aj a al=>
   cases aj with
   |nil=>exact move e k (by simp[aO,bQ,dN,d,b]) (by simp[aO,bQ,dN,i,g])
   |cons s E=>exact absurd b (ab l s E e)
  |code n a=>
   cases n with
   |skip=>exact move e k (by simp[aO,bQ,dN,d,b]) (by simp[aO,bQ,dN,i,g])
   |label ad=>exact move e k (by simp[aO,bQ,dN,d,b]) (by simp[aO,bQ,dN,i,g])
   |seq h q=>
    simp only[j3,ez] at a;exact move (.code h :: .code q::e) (.cons (.code h a.1) aF (.cons (.code q a.2) aF k)) (by simp[aO,bQ,dN,d,b]) (by simp[aO,bQ,dN,i,g])
   |block id h=>
    simp only[j3] at a;exact move (.code h :: .inBlock id::e) (.cons (.code h a) aF (.cons (.inBlock id) aF k)) (by simp[aO,bQ,dN,d,b]) (by simp[aO,bQ,dN,i,g])
   |loop h=>
    simp only[j3] at a;exact move (.code h :: .inLoop h::e) (.cons (.code h a) aF (.cons (.inLoop a) aF k)) (by simp[aO,bQ,dN,d,b]) (by simp[aO,bQ,dN,i,g])
   |scope h=>
    simp only[j3] at a;exact move (.code h :: .inScope h::e) (.cons (.code h a) aF (.cons (.inScope a) aF k)) (by simp[aO,bQ,dN,d,b]) (by simp[aO,bQ,dN,i,g])
   |ret=>
    have j:bQ P m (aO Qf (aY++dL)) w= .go (aO {Qf with mode:=.returning} (aY++dL)) w:=by simp[aO,bQ,dN,d,b,D]
    have o:bQ H O (aO Qg (Qi++dc)) J= .go (aO {Qg with mode:=.returning} (Qi++dc)) J:=by simp[aO,bQ,dN,i,g,K]
    rw[j,o];exact L
   |exit id=>
    cases A:mC id e with
    |some t=>exact move t (EJ k A) (by simp[aO,bQ,dN,d,b,A]) (by simp[aO,bQ,dN,i,g,A])
    |none=>
     have j:∃x,bQ P m (aO Qf (aY++dL)) w= .ended x w:=by simp[aO,bQ,dN,d,b,A,D]
     have⟨x,j⟩:=j;rw[j];exact .lost
   |cond n h q=>
    simp only[j3,ez] at a;have u:=c.eval n a.1.1;have X:∀v,Qf.eval n=v->(∀q,v≠ak q)->∃x,bQ P m (aO Qf (aY++dL)) w= .ended x w:=λv S u=>by
     cases v<;>first|exact absurd rfl (u _)|(simp[aO,bQ,dN,d,b,S])
    cases C:Qf.eval n with
    |bool F=>
     rw[C] at u;have V:Qg.eval n=ak F:=by
      cases T:Qg.eval n<;>rw[T] at u<;>cases u using aG.ind;rfl
     refine move (.code (if F then h else q)::e) (.cons (.code _ ?_) aF k) (by simp[aO,bQ,dN,d,b,C]) (by simp[aO,bQ,dN,i,g,V]);cases F;exact a.2;exact a.1.2
    |_=>
     have⟨x,j⟩:=X _ C aF;rw[j];exact .lost
   |region id l N=>
    simp only[j3] at a;cases N with
    |false=>
     have⟨y,r⟩:=OY k a Qf;have j:bQ P m (aO Qf (aY++dL)) w= .go (aO {Qf with todo:=bW l (eH (U l))::e} (aY++dL)) w:=by simp[aO,bQ,dN,d,b]
     have o:bQ H O (aO Qg (Qi++dc)) J= .go (aO {Qg with todo:=bW l (eH (U l))::e} (Qi++dc)) J:=by simp[aO,bQ,dN,i,g]
     rw[j,o];exact MU c B p y r z
    |true=>
     have⟨y,r⟩:=R4 k a (yV (P.follows n4) l (w.tape (cm w) (.order Qf.fn id))) Qf;have j:bQ P m (aO Qf (aY++dL)) w= .go (aO {Qf with todo:=bW l (yV (P.follows n4) l (w.tape (cm w) (.order Qf.fn id)))::e} (aY++dL)) {w with drawn:=cm w+1}:=by
      simp[aO,bQ,dN,d,b,choose,iY,Question.forced,Question.cut]
     rw[j];cases R with
     |zero=>exact .over aF
     |succ R=>
      have M:=p.tape 0 (.order Qf.fn id) aa;simp only[s6] at M;have o:bQ H O (aO Qg (Qi++dc)) J= .go (aO {Qg with todo:=bW l (yV (P.follows n4) l (w.tape (cm w) (.order Qf.fn id)))::e} (Qi++dc)) {J with drawn:=cm J+1}:=by
       simp[aO,bQ,dN,i,g,choose,iY,Question.forced,Question.cut,Z,c.fn,M]
      rw[o];refine .go (b1:=R) (c.Na y) r B ⟨p.gl,p.gr,p.at_,λs ae am=>?_⟩ ⟨aL.le.refl _,rfl,rfl,rfl,aF,aV _,λ_ _ _=>rfl,λ_ _ a=>aq a,λ_ y r=>absurd r bO⟩ ue (fG.of (by rfl) z) bh;have:=p.tape (1+s) ae aa;simpa [gF] using this
   |rangeFunc f ap h q=>simp[j3] at a
   |goto ad=>simp[j3] at a
   |refuse ar=>simp[j3] at a
end
end
section
variable {G:fo}
section
variable {P J:aW}{R:aL G}{dL dc:List aP}{w Q:ag}{m H:Bool}
def wm{d:aL G}(a:fB P d Qf Qg)(c:Qf.todo= .inRegion Qt (n::rest)::QN)(j:aG d v x):fB P d (di Qf v) (di Qg x):=by
 have i:=aB a.todo c;have b:=a.ok;rw[c] at b;have f:xA G P (.inRegion Qt rest::QN):=by
  refine⟨?_,b.2⟩;cases b.1 using fL.ind with
  |inRegion _ _ h e=>
   refine .inRegion _ _ h ?_;cases rest with
   |nil=>rfl
   |cons k l=>simp only[uc,ez] at e;exact e.2
 unfold di;rw[c,i];dsimp only;cases(Qt[n]?).bind (·.dst) with
 |none=>exact⟨a.fn,a.may,a.tmps,rfl,f,a.defers,a.mode,a.kind,a.kinds,a.round,a.round'⟩
 |some g=>exact⟨a.fn,a.may,a.tmps.set j g,rfl,f,a.defers,a.mode,a.kind,a.kinds,a.round,a.round'⟩
def xT{z:aL G}(p:fB P z Qf Qg)(l:Qf.todo=bW Qt (n::rest)::QN)(j:Qt[n]? =K Qr)(t:∀c d,Qr.op= .makeInterface c d->Qr.guard=Z->∃c i,v= .iface c i):kz (di Qf v):=by
 intro _ I C L D E d e q r;have k:=p.ok;rw[l] at k;unfold di at e ⊢;rw[l] at e ⊢;simp only[vN,Ax] at e;obtain⟨⟨rfl,s⟩,rfl⟩:=e;cases k.1 using fL.ind with
 |inRegion _ _ A f=>
  rw[s] at f;simp only[uc,ez] at f;have b:=f.1;unfold CF at b;rw[q] at b;dsimp only at b;rw[r] at b;dsimp only at b;rw[j] at b;simp only[ez] at b;have⟨a,B⟩:=b;cases h:Qr.op with
  |makeInterface c y=>
   rw[h] at a;cases g:Qr.dst with
   |none=>rw[g] at a;cases d<;>cases a
   |some o=>
    rw[g] at a;cases d with
    |tmp M=>
     simp only[beq_iff_eq] at a;subst a;obtain⟨x,i,rfl⟩:=t c y h k8;simp only[j,zb,g,Frame.eval];by_cases u:o<U Qf.tmps;refine aq ⟨x,i,?_⟩;rw[jT,Array.getElem?_setIfInBounds_self_of_lt u];rfl;refine an ?_;rw[jT,o5 bh];rfl
    |_=>cases a
  |_=>rw[h] at a;cases d<;>cases a
def Zf{b:aL G}(c:∀a∈QR,jx b a):∀a∈seen P QG QR,jx b a:=λa d=>c a (Conc.mem_seen d)
def F3{d:aL G}(a:fB P d Qf Qg){e f:List hJ}(b:g9 d e f):fB P d (jz Qf e) (jz Qg f):=by
 have c:=a.mode;unfold jz;generalize h:Qf.mode=j at c;generalize i:Qg.mode=k at c;cases c using gB.ind with
 |run=>exact⟨a.fn,a.may,a.tmps,a.todo,a.ok,a.defers,.panicking b,a.kind,a.kinds,a.round,a.round'⟩
 |returning=>exact⟨a.fn,a.may,a.tmps,a.todo,a.ok,a.defers,.panicking b,a.kind,a.kinds,a.round,a.round'⟩
 |panicking g=>exact⟨a.fn,a.may,a.tmps,a.todo,a.ok,a.defers,.panicking (b.append g),a.kind,a.kinds,a.round,a.round'⟩
def raise_mode:iM (jz Qf QU)≠.run:=by
 unfold jz
 split<;>simp
def EF(k:tK G P J){g:aL G}{f:fH}(e:G.b f=af)(b:cP g C qJ)(a:CallKind)(l:a=eA\/a= .deferred):fB P g (fC P f C a) (fC J f qJ a)/\kz (fC P f C a):=by
 have⟨o,h,c,d,i,j⟩:=k f e;unfold fC;simp only[c,d,pJ,s9,zb,i];refine⟨⟨rfl,e,?_,rfl,⟨.code h j,λq n=>by simp at n⟩,.nil,.run,rfl,l,rfl,rfl⟩,JA aF⟩;rw[b.1];refine b.append ⟨aF,λp c d=>?_⟩;simp only[Array.getElem_replicate];exact Aj
end
end
section
variable {G:fo}{O:Nat}
section
variable {P Q:aW}{R:aL G}{dL dc:List aP}{w J:ag}{m H:Bool}
def Lj{h:aL G}(i:fB P h Qf Qg)(z:gv P h aY Qi)(k:fG Qf aY):
 (rp Qf (aY++dL)=Z/\rp Qg (Qi++dc)=Z)\/∃v e p t,rp Qf (aY++dL)=K (v,p++dL)/\rp Qg (Qi++dc)=K (e,t++dc)/\aG h v e/\gv P h p t/\fG Qf p:=by
 rcases i.kinds with d|d;have n:=aB i.kind d;exact aq ⟨by unfold rp;rw[d],by unfold rp;rw[n]⟩;have n:=aB i.kind d;cases z using gv.ind with
 |nil=>simp[fG,d] at k
 |cons b T x ihz=>
  rename_i f g s A;have a:=b.mode;unfold rp;rw[d,n];simp only[r9];cases j:f.mode with
  |run=>
   rw[j] at a;cases c:g.mode<;>rw[c] at a<;>first|exact aq ⟨rfl,rfl⟩|cases a using gB.ind
  |returning=>
   rw[j] at a;cases c:g.mode<;>rw[c] at a<;>first|exact aq ⟨rfl,rfl⟩|cases a using gB.ind
  |panicking M=>
   rw[j] at a;cases c:g.mode with
   |run=>rw[c] at a;cases a using gB.ind
   |returning=>rw[c] at a;cases a using gB.ind
   |panicking N=>
    rw[c] at a;cases a using gB.ind with
    |panicking l=>
     cases l using g9.ind with
     |nil=>exact aq ⟨rfl,rfl⟩
     |cons y l ihz=>
      rename_i D E B C;have⟨v,L,u⟩:=D;have⟨e,V,S⟩:=E;have⟨o,r,q⟩:=y;simp only at o r q;subst r q;cases L with
      |true=>exact aq ⟨by rfl,by rfl⟩
      |false=>
       cases u with
       |true=>exact aq ⟨rfl,rfl⟩
       |false=>
        refine an ⟨v,e,{f with mode:=.panicking ({v,recovered:=af}::B)}::s,{g with mode:=.panicking ({v:=e,recovered:=af}::C)}::A,rfl,rfl,o,?_,?_⟩;exact .cons ⟨b.fn,b.may,b.tmps,b.todo,b.ok,b.defers,.panicking (.cons ⟨o,rfl,rfl⟩ l),b.kind,b.kinds,b.round,b.round'⟩ (Nx aF) x;cases s with
        |nil=>exact k
        |cons F I=>exact k
def Sw{k:aL G}(f:fB P k Qf Qg)(e:Qf.todo=bW Qt (n::rest)::QN)(j:Qt[n]? =Z):kz (di Qf v):=by
 intro _ r o s p q t b g h;have d:=f.ok;rw[e] at d;unfold di at b;rw[e] at b;simp only[vN,Ax] at b;obtain⟨⟨rfl,i⟩,rfl⟩:=b;cases d.1 using fL.ind with
 |inRegion _ _ l c=>
  rw[i] at c;simp only[uc,ez] at c;have a:=c.1;unfold CF at a;rw[g] at a;dsimp only at a;rw[h] at a;dsimp only at a;rw[j] at a;cases a
def wj(a:aP)(v:F):eD (di a v)=eD a:=by
 unfold di
 split<;>rfl
def F2:eD (jz Qf QU)=eD Qf:=by
 unfold jz
 split<;>rfl
def aaQ(d:Qf.todo=bW Qt (n::rest)::QN)(c:Qt[n]? =K Qr){a:Call}(b:Qr.op= .call a):vX Qf:=λ_=>⟨Qt,n,rest,QN,Qr,a,d,c,b⟩
def Sa(z:Alike G P Q){e:dU->F}(k:lK G P Qr.op=af)(q:∀c,Qr.op= .nilCheck c->∀t d j,e c≠.func (.method t) d j){f:fH}(g:(bT e Qr).runT P w QR=(b6 (.enter f C) u,oh)):∃o,Qr.op= .call o:=by
 have a:(bT e Qr).run P w=b6 (.enter f C) u:=k8;have x:∀(s:bX F),((do pure (eT (<-s))):bX Next).run P w=b6 (.enter f C) u->False:=λs b=>by
  rw[s0] at b;cases i:s.run P w<;>rw[i] at b<;>simp at b
 have y:∀(s:bX Unit),((do s;pure Next.skip):bX Next).run P w=b6 (.enter f C) u->False:=λs b=>by
  rw[s0] at b;cases i:s.run P w<;>rw[i] at b<;>simp at b
 unfold bT at a;cases h:Qr.op with
 |nilCheck c=>
  have l:=q c h;rw[h] at a;dsimp only at a;have n:(runtimePanic .nilDeref:bX Next).run P w=b6 (.enter f C) u->False:=λg=>by
   unfold runtimePanic at g;simp[program,iY,goPanic] at g
  cases r:e c<;>rw[r] at a l<;>(try dsimp only at a)<;>first
   |exact fe (n a)
   |(simp at a;done)
   |(rename_i d;cases d<;>first|exact fe (n a)|(simp at a;done))
   |(rename_i p d j;cases p<;>first|(simp at a;done)|exact absurd Y (l _ _ _))
 |_=>
  rw[h] at a k;dsimp only at a
  first
  |exact⟨_,rfl⟩
  |(simp[lK] at k;done)
  |exact fe (x _ a)
  |exact fe (y _ a)
  |(simp at a;done)
  |(rw[s0] at a;generalize iY P _ w=v at a;cases v<;>simp at a
    done)
def A0{c:dU->F}(f:Qr.op= .makeInterface Qc Qp){b:Next}(h:(bT c Qr).runT P w QR=(b6 b u,oh)):∃Qc g,b=eT (.iface Qc g):=by
 have a:(bT c Qr).run P w=b6 b u:=k8;unfold bT at a;rw[f] at a;dsimp only at a;unfold Instr.makeInterface rq at a;rw[s0] at a;cases d:gb P Qc with
 |none=>simp[program,d,iY,stuck] at a
 |some e=>cases e<;>simp[program,d,iY,stuck] at a<;>exact⟨_,_,bA a.1⟩
def pN{c:aL G}{f:fH}(d:∀a∈QR,jx c a):∀a∈seen P f QR++#[],jx c a:=λa b=>by
 rw[Array.append_empty] at b;exact Zf d a b
def Ve(am:Alike G P Q)(aL:tK G P Q)(d:fB P R Qf Qg)(a1:kz Qf)(I:gv P R aY Qi)(ab:eY R O w J)(k:fG Qf aY)(C:Qf.mode= .run)(a:Qf.todo=bW Qt (n::rest)::QN):
 iR P dL dc R (cm w+O) J (bQ P m (aO Qf (aY++dL)) w) (bQ Q H (aO Qg (Qi++dc)) J):=by
 have aa:=LL d C;have K:=aB d.todo a;have X:=d.round;have az:=d.round';have bj:eg Qt Qf.tmps=eg Qt Qg.tmps:=funext λa4=>aa9 d.tmps Qt a4;have ay:(Qf.kind==CallKind.early)=ai:=by rcases d.kinds with E|E<;>rw[E]<;>rfl
 have a2:(Qg.kind==CallKind.early)=ai:=by rw[d.kind];exact ay
 cases e:Qt[n]? with
 |none=>
  have z:bQ P m (aO Qf (aY++dL)) w= .go (aO (di Qf cI) (aY++dL)) w:=by simp[aO,bQ,dN,C,a,e]
  have A:bQ Q H (aO Qg (Qi++dc)) J= .go (aO (di Qg cI) (Qi++dc)) J:=by simp[aO,bQ,dN,aa,K,e]
  rw[z,A];exact .go (wm d a Aj) (Sw d a e) I ab (Fr.refl _ _) ue (fG.of (wj _ _) k) Y
 |some j=>
  have F:lK G P j.op=af:=by
   have B:=d.ok;rw[a] at B;cases B.1 using fL.ind with
   |inRegion _ _ c u=>
    obtain⟨bi,rfl⟩:=dY.1 e;exact fD.1 c _ aF
  cases ad:eF j (eg Qt Qf.tmps) with
  |false=>
   have ae:eF j (eg Qt Qg.tmps)=ai:=bh;have z:bQ P m (aO Qf (aY++dL)) w= .go (aO (di Qf cI) (aY++dL)) w:=by simp[aO,bQ,dN,C,a,e,ad]
   have A:bQ Q H (aO Qg (Qi++dc)) J= .go (aO (di Qg cI) (Qi++dc)) J:=by simp[aO,bQ,dN,aa,K,e,ae]
   rw[z,A];exact .go (wm d a Aj) (xT d a e (λy g _ a0=>by simp[eF,a0] at ad)) I ab (Fr.refl _ _) ue (fG.of (wj _ _) k) Y
  |true=>
   have ae:eF j (eg Qt Qg.tmps)=af:=bh;have z:bQ P m (aO Qf (aY++dL)) w=kx P af Qf (aY++dL) Z (bT Qf.eval j) w:=by simp[aO,bQ,dN,stepG.oper,Frame.oper?,C,a,e,ad,X]
   have A:bQ Q H (aO Qg (Qi++dc)) J=kx Q af Qg (Qi++dc) Z (bT Qg.eval j) J:=by simp[aO,bQ,dN,stepG.oper,Frame.oper?,aa,K,e,ae,az]
   rw[z,A];have V:=(Wi (ρ:=R) am j F (λg o=>d.eval g o) (λg o=>a1 C Qt n rest QN j g a e o)).runs w J #[] #[] O ab ue (λap E=>by simp at E);generalize r:(bT Qf.eval j).runT P w #[]=ba at V;generalize aM:(bT Qg.eval j).runT Q J #[]=bb at V;unfold kx;simp only[if_true,r,aM,a,K,ay,a2,fA,if_false];cases V using fV.ind with
   |halt o q h p i W=>
    rename_i al aD g a9 aC a8 ar aE;cases o using jU.ind with
    |panic L=>
     rename_i v D;exact .go (fr:=jz Qf [{v,recovered:=ai}]) (fr':=jz Qg [{v:=D,recovered:=ai}]) (F3 (d.mono h.le) (.cons ⟨L,rfl,rfl⟩ .nil)) (uZ raise_mode) (I.mono h.le) q h (pN p) (fG.of F2 k) i
    |same _ t=>
     cases g with
     |stuck s=>exact .lost
     |unsupported aj=>cases aj<;>first|exact .lost|(simp[tq] at t;done)
     |_=>simp[tq] at t
   |ok U q h p i W=>
    rename_i al aD a5 bk aC a8 ar aE;have b:=d.mono h.le;have x:=I.mono h.le;cases U using gZ.ind with
    |value L=>
     rename_i v D;exact .go (fr:=di Qf v) (fr':=di Qg D) (wm b a L) (xT b a e (λy g l _=>by
      have⟨M,N,c⟩:=A0 l r;cases c;exact⟨_,_,rfl⟩)) x q h (pN p) (fG.of (wj _ _) k) i
    |skip=>
     exact .go (fr:=di Qf cI) (fr':=di Qg cI) (wm b a Aj) (xT b a e (λy g l _=>by
      have⟨M,N,c⟩:=A0 l r;cases c)) x q h (pN p) (fG.of (wj _ _) k) i
    |enter f aZ a3=>
     rename_i a6 a7;have⟨c,u⟩:=EF aL aZ a3 eA (aq Y);have⟨be,aQ⟩:=Sa am F (λg o a5 bc bd ap=>by
      have T:=d.eval g (by rw[o] at F;exact F);rw[ap] at T;generalize Qg.eval g=bn at T;cases T using aG.ind with
      |func h _ _ _ _=>cases h using lz.ind) r
     exact .go (fr:=fC P f a6 eA) (fr':=fC Q f a7 eA) (aY:=Qf::aY) (tops':=Qg::Qi) c u (.cons b (aaQ a e aQ) x) q h (pN p) k i
    |defer t=>
     rename_i S ao;have B:=b.ok;rw[a] at B;have aw:fB P al {Qf with defers:=S::Qf.defers,todo:=bW Qt (n::rest)::QN} {Qg with defers:=ao::Qg.defers,todo:=bW Qt (n::rest)::QN}:=⟨b.fn,b.may,b.tmps,rfl,B,.cons t b.defers,b.mode,b.kind,b.kinds,b.round,b.round'⟩;exact .go (fr:=di {Qf with defers:=S::Qf.defers,todo:=bW Qt (n::rest)::QN} cI) (fr':=di {Qg with defers:=ao::Qg.defers,todo:=bW Qt (n::rest)::QN} cI) (wm aw Y Aj) (xT aw Y e (λy g l _=>by
      have⟨M,N,c⟩:=A0 l r;cases c)) x q h (pN p) (fG.of (wj {Qf with defers:=S::Qf.defers,todo:=bW Qt (n::rest)::QN} cI) (fG.of (fr:=Qf) (by rfl) k)) i
    |recover=>
     simp only[X,az];rcases Lj (dL:=dL) (dc:=dc) b x k with⟨c,u⟩|⟨v,D,y,bm,c,u,aH,aI,aJ⟩
     .rw[c,u];exact .go (fr:=di Qf .nilIface) (fr':=di Qg .nilIface) (wm b a .nilIface) (xT b a e (λy g l _=>by
       have⟨M,N,c⟩:=A0 l r;cases c)) x q h (pN p) (fG.of (wj _ _) k) i
     .rw[c,u];exact .go (fr:=di Qf v) (fr':=di Qg D) (wm b a aH) (xT b a e (λy g l _=>by
       have⟨M,N,c⟩:=A0 l r;cases c)) aI q h (pN p) (fG.of (wj _ _) aJ) i
   |rO o i W=>
    rename_i al g a9 aC ar;cases o using jU.ind with
    |panic L=>exact .over i
    |same _ t=>
     cases g with
     |stuck s=>exact .lost
     |unsupported aj=>cases aj<;>first|exact .lost|(simp[tq] at t;done)
     |_=>simp[tq] at t
   |over U i W=>
    cases U using gZ.ind with
    |recover=>
     simp only[X];cases rp Qf (aY++dL) with
     |none=>exact .over i
     |some bl=>exact .over i
    |_=>exact .over i
end
end
section
variable {G:fo}
section
variable {P J:aW}{ρ:aL G}{dL dc:List aP}{w Q:ag}{m R:Bool}
theorem K3{g:Type}{e f:g->bX F}:∀(a:List g) {ρ:aL G},(∀d,ρ.le d->∀x∈a,aC P J aG d (e x) (f x))->aC P J ig ρ (a.mapM e) (a.mapM f)
 | [],ρ,b=>by rw[List.mapM_nil,List.mapM_nil];exact .bI .nil
 |x::a,ρ,b=>by
  rw[List.mapM_cons,List.mapM_cons];exact(b ρ (aL.le.refl _) x aF).bindM (λd o p k i=>((K3 a (λh c n l=>b h (k.trans c) n (by simp[l]))).bindM (λh q r c j=>(.bI (.cons (i.mono c) j)))))
def K9(h:Alike G P J)(j:cO)(c:cP ρ C qJ):aC P J aG ρ (dx j C) (dx j qJ):=by
 unfold dx;refine aC.bindM (A:=cP) ?_ (λg a i e b=>?_);rw[Array.mapM_eq_mapM_toList,Array.mapM_eq_mapM_toList];refine aC.bind (A:=ig) (K3 _ (λg e o _=>?_)) (λg a i _ b=>.pure b.toArray);cases o with
 |tmp k=>exact .bI ((c.mono e).getD k)
 |cell a k=>
  have f:=(c.mono e).getD a;dsimp only;generalize C.getD a cI=v at f;generalize qJ.getD a cI=p at f;have l:aC P J dS g (asAddr v) (asAddr p):=by
   cases f using aG.ind with
   |ptr c=>exact .bI c
   |hU=>exact pW h.S .nilDeref aF aF aF
   |_=>exact aC.stuck
  exact l.bindM (λq a i _ n=>K1 h.S n)
 refine .bI ?_;by_cases d:U a=1;rw[dif_pos d,dif_pos (by rw[<-b.1];exact d)];exact b.2 0 _ _;rw[dif_neg d,dif_neg (by rw[<-b.1];exact d)];exact .tuple b.1 b.2
def AS(d:vX Qf):kz Qf:=by
 intro i r k t n p v e f g;have⟨s,l,u,o,q,j,a,b,c⟩:=d i;rw[e] at a;simp only[vN,Ax] at a;obtain⟨⟨rfl,h,-⟩,-⟩:=a;subst h;rw[f] at b;cases b;rw[g] at c;cases c
def Sv{e:aL G}(c:fB P e Qf Qg)(i:vX Qf)(p:aG e v x):fB P e (di Qf v) (di Qg x)/\kz (di Qf v):=by
 have d:=c.todo;have h:=c.ok;have g:(∀b,di Qf b=Qf)->(∀b,di Qg b=Qg)->fB P e (di Qf v) (di Qg x)/\kz (di Qf v):=λj k=>by
  rw[j,k];exact⟨c,AS i⟩
 cases a:Qf.todo with
 |nil=>rw[a] at d;exact g (λb=>by unfold di;rw[a]) (λb=>by unfold di;rw[d])
 |cons B C=>
  rw[a] at d h;cases h.1 using fL.ind with
  |inRegion H q s t=>
   cases q with
   |nil=>exact g (λb=>by unfold di;rw[a]) (λb=>by unfold di;rw[d])
   |cons z I=>
    refine⟨wm c a p,?_⟩;by_cases o:iM Qf= .run;have⟨L,A,M,D,E,r,f,l,u⟩:=i o;rw[a] at f;simp only[vN,Ax] at f;obtain⟨⟨rfl,n,-⟩,-⟩:=f;subst n;exact xT c a l (λK N y _=>bh);have:iM (di Qf v)=iM Qf:=by
     unfold di;rw[a]
    exact uZ bh
  |_=>exact g (λb=>by unfold di;rw[a]) (λb=>by unfold di;rw[d])
def R5{d:aL G}{a b:List hJ}(e:g9 d a b):g9 d (a.dropWhile (!·.goexit)) (b.dropWhile (!·.goexit)):=by
 induction e using g9.ind with
 |nil=>exact .nil
 |cons c f g=>
  simp only[List.dropWhile_cons,c.g]
  split
  exact g;exact .cons c f
def xC (a:aP):aP:=match (iM a) with
 |kr ({recovered:=af,..}::b)=>
  match b.dropWhile (!·.goexit) with
  | []=>{a with mode:=jA}
  |rest=>{a with mode:=kr rest}
 |_=>a
def OD{e:aL G}{f c:aP}(a:fB P e f c)(d:vX f):fB P e (xC f) (xC c)/\kz (xC f)/\(xC f).kind=f.kind:=by
 have j:=a.mode;have o:∀{g h:FrameMode},gB e g h->fB P e {f with mode:=g} {c with mode:=h}:=λp=>⟨a.fn,a.may,a.tmps,a.todo,a.ok,a.defers,p,a.kind,a.kinds,a.round,a.round'⟩;unfold xC;generalize A:f.mode=E at j;generalize B:c.mode=F at j;cases j using gB.ind with
 |run=>exact⟨a,AS d,rfl⟩
 |returning=>exact⟨a,AS d,rfl⟩
 |panicking b=>
  cases b using g9.ind with
  |nil=>exact⟨a,AS d,rfl⟩
  |cons k b ihz=>
   rename_i t u r s;have⟨v,x,y⟩:=t;have⟨D,C,z⟩:=u;have⟨q,n,l⟩:=k;simp only at q n l;subst n l;cases x with
   |false=>exact⟨a,AS d,rfl⟩
   |true=>
    dsimp only;have i:=R5 b;generalize r.dropWhile (!·.goexit)=g at i;generalize s.dropWhile (!·.goexit)=h at i;cases i using g9.ind with
    |nil=>exact⟨o .returning,uZ aF,rfl⟩
    |cons k b=>exact⟨o (.panicking (.cons k b)),uZ aF,rfl⟩
end
end
section
variable {G:fo}{H:Nat}
section
variable {P Q:aW}{J:aL G}{dL dc:List aP}{w R:ag}{m m':Bool}
def Ut{a b:FrameMode}(c:gB J a b)(d:a≠.run):b≠.run:=by
 cases c using gB.ind with
 |run=>exact absurd Y d
 |returning=>simp
 |panicking c=>simp
def RS(X:Alike G P Q)(ao:tK G P Q)(B:fB P J Qf Qg)(T:gv P J aY Qi)(aC:eY J H w R)(n:fG Qf aY)(C:Qf.mode≠.run){q r:jJ}(o:sW P J q r):
 iR P dL dc J (cm w+H) R (callDeferred P Qf (aY++dL) Z q w) (callDeferred Q Qg (Qi++dc) Z r R):=by
 have hR:=(KW (ρ:=J) X o.target o.args).runs w R #[] #[] H aC ue (λk aj=>by simp at aj);have⟨L,aa⟩:=q;have⟨M,ab⟩:=r;have l:=o.target;have a:=B.mode;simp only at l hR;by_cases p:L= .nil/\∃d,Qf.mode=kr d
 .obtain⟨rfl,d,z⟩:=p;unfold callDeferred;rw[if_pos ?hP]
  case hP=>simp[z]
  exact .lost
 .have ar:¬(M= .nil/\∃d,Qg.mode=kr d):=by
   rintro⟨rfl,d,z⟩;rw[z] at a;cases l using jV.ind;generalize Qf.mode=j at a p;cases a using gB.ind;exact p ⟨rfl,_,rfl⟩
  unfold callDeferred;rw[if_neg ?hL,if_neg ?hR]
  case hL=>
   intro k;apply p;cases L<;>cases E:Qf.mode<;>simp[E] at k ⊢
  case hR=>
   intro k;apply ar;cases M<;>cases E:Qg.mode<;>simp[E] at k ⊢
  dsimp only;generalize (invoke L aa).runT P w #[]=aI at hR;generalize (invoke M ab).runT Q R #[]=aJ at hR;cases hR using fV.ind with
  |halt K h c e b D=>
   rename_i W ae O aH N V t S;cases K using jU.ind with
   |panic I=>
    rename_i v U;exact .go (fr:=jz Qf [{v,recovered:=ai}]) (fr':=jz Qg [{v:=U,recovered:=ai}]) (F3 (B.mono c.le) (.cons ⟨I,rfl,rfl⟩ .nil)) (uZ raise_mode) (T.mono c.le) h c (pN e) (fG.of F2 n) b
   |same _ A=>
    cases O with
    |stuck s=>exact .lost
    |unsupported aE=>exact .lost
    |_=>simp[tq] at A
  |ok y h c e b D=>
   rename_i W ae aM aQ N V t S;have g:=B.mono c.le;have F:=T.mono c.le;have i:iR P dL dc J (cm w+H) R (pg (seen P Qf.fn t) (.go (aO Qf (aY++dL)) N)) (pg (seen Q Qg.fn S) (.go (aO Qg (Qi++dc)) V)):=.go g (uZ C) F h c (pN e) n b;cases y using gZ.ind with
   |value I=>exact i
   |skip=>exact i
   |defer o=>exact i
   |enter f ap az=>
    rename_i aF aG;have⟨l,a⟩:=EF ao ap az .deferred (an Y);exact .go (fr:=fC P f aF .deferred) (fr':=fC Q f aG .deferred) (aY:=Qf::aY) (tops':=Qg::Qi) l a (.cons g (Nx C) F) h c (pN e) n b
   |recover=>
    have a:=g.mode;rcases Lj (dL:=dL) (dc:=dc) g F n with⟨u,x⟩|⟨v,U,aZ,a0,u,x,aL,al,am⟩;dsimp only;rw[u,x];generalize aw:Qf.mode=j at a;generalize ay:Qg.mode=ad at a;cases a using gB.ind<;>exact i;dsimp only;rw[u,x];generalize aw:Qf.mode=j at a;generalize ay:Qg.mode=ad at a;cases a using gB.ind with
    |returning=>exact .go g (uZ C) al h c (pN e) am b
    |_=>exact i
  |rO K b D=>
   rename_i W O aH N t;cases K using jU.ind with
   |panic I=>exact .over b
   |same _ A=>
    cases O with
    |stuck s=>exact .lost
    |unsupported aE=>exact .lost
    |_=>simp[tq] at A
  |over y b D=>
   cases y using gZ.ind with
   |recover=>
    dsimp only;generalize Qf.mode=j;generalize rp Qf (aY++dL)=aD;cases j<;>cases aD<;>exact .over b
   |_=>exact .over b
def aav(x:Alike G P Q)(B:tK G P Q)(a:fB P J Qf Qg)(K:gv P J aY Qi)(s:eY J H w R)(h:fG Qf aY)(i:Qf.mode≠.run)(ar:aY=[]->Qf.defers≠[]):
 iR P dL dc J (cm w+H) R (bQ P m (aO Qf (aY++dL)) w) (bQ Q m' (aO Qg (Qi++dc)) R):=by
 have ab:bQ P m (aO Qf (aY++dL)) w=mF P m Qf (aY++dL) Z w:=by
  cases b:Qf.mode<;>first|exact absurd b i|simp[aO,bQ,b]
 have ad:bQ Q m' (aO Qg (Qi++dc)) R=mF Q m' Qg (Qi++dc) Z R:=by
  cases b:Qg.mode<;>first|exact absurd b (Ut a.mode i)|simp[aO,bQ,b]
 rw[ab,ad];unfold mF;have o:=a.defers;generalize al:Qf.defers=aJ at o;generalize aQ:Qg.defers=aL at o;cases o using lm.ind with
 |cons E g ihz=>
  rename_i X aa N O;have ap:fB P J {Qf with defers:=N} {Qg with defers:=O}:=⟨a.fn,a.may,a.tmps,a.todo,a.ok,g,a.mode,a.kind,a.kinds,a.round,a.round'⟩;have⟨a2,aE⟩:=X;have⟨a3,aF⟩:=aa;have L:=E.target;simp only at L;cases L using jV.ind<;>exact(RS (dL:=dL) (dc:=dc) x B ap K s (fG.of (fr:=Qf) (by rfl) h) i E)
 |nil=>
  cases K using gv.ind with
  |nil=>exact absurd al (ar Y)
  |cons F M g ihz=>
   rename_i f z N O;have⟨j,aI,C,D,a0,a1⟩:=B Qf.fn a.may;have q:=a.mode;dsimp only;generalize am:Qf.mode=aG at q;generalize aZ:Qg.mode=aH at q;cases q using gB.ind with
   |run=>exact absurd am i
   |panicking ao=>
    have V:Qf.catches P=ai:=by unfold Frame.catches;rw[C]
    have W:Qg.catches Q=ai:=by unfold Frame.catches;rw[a.fn,D]
    simp only[V,W,fA,if_false,r9];exact .go (fr:=jz f _) (fr':=jz z _) (F3 F ao) (uZ raise_mode) g s (Fr.refl _ _) ue (fG.of F2 h) Y
   |returning=>
    dsimp only;rw[a.fn,C,D];dsimp only;have n:=(K9 (ρ:=J) x j a.tmps).runs w R #[] #[] H s ue (λaM b=>by simp at b);generalize (dx j Qf.tmps).runT P w #[]=aC at n;generalize (dx j Qg.tmps).runT Q R #[]=aD at n;cases n using fV.ind with
    |halt aw t c p e r=>
     rename_i T U u az S ay y ae;cases u<;>exact .lost
    |rO aw e r=>
     rename_i T u az S y;cases u<;>exact .lost
    |over A e r=>
     dsimp only;unfold l5;simp only[r9];rcases a.kinds with d|d<;>rw[d]<;>exact .over e
    |ok A t c p e r=>
     rename_i T U v a4 S ay y ae;have I:=F.mono c.le;dsimp only;unfold l5;simp only[r9];rcases a.kinds with d|d;rw[a.kind,d];have⟨k,l⟩:=Sv I M A;exact .go k l (g.mono c.le) t c (pN p) (fG.of (wj _ _) h) e;rw[a.kind,d];have⟨k,l,aj⟩:=OD I M;exact .go (fr:=xC f) (fr':=xC z) k l (g.mono c.le) t c (pN p) (fG.of aj h) e
def L_(j:Alike G P Q)(k:tK G P Q)(q:Q.follows n4=P.follows n4)(g:fB P J Qf Qg)(p:kz Qf)(h:gv P J aY Qi)(i:eY J H w R)(f:fG Qf aY)(r:aY=[]->iM Qf≠.run->Qf.defers≠[]):
 iR P dL dc J (cm w+H) R (bQ P m (aO Qf (aY++dL)) w) (bQ Q m' (aO Qg (Qi++dc)) R):=by
 by_cases a:iM Qf= .run;by_cases l:∃d b e c,Qf.todo=bW d (b::e)::c;have⟨d,b,e,c,s⟩:=l;exact Ve j k g p h i f a s;exact Se q g h i a (λd b e c n=>l ⟨d,b,e,c,n⟩) f;exact aav j k g h i f a (λo=>r o a)
end
end
end Rl
namespace Cc
open Go Go.Conc
open Rl (fo aL tK fB gv kz eY Fr jx er iR aG cP)
def gS (P0 P:aW)(S:Nat->Prop)(c:Nat)(own:Nat->Prop)(J:List F)(g:dQ)(w:ag):Prop:=∃a,Wk P0 P S c a own J g w
section
variable {P0 P:aW}{S:Nat->Prop}{c:Nat}{own:Nat->Prop}{J:List F}{g:dQ}{w:ag}
def Dz(m:m5 g=lB)(h:∀a,RelB (λb=>S b\/own b) w a->∃k e j,bQ P ai g a= .go k e j/\oF P0 S own a e j/\gS P0 P S c (g6 own a e) J k e):gS P0 P S c own J g w:=by
 classical
 let f:ag->Tr:=λa=>if d:RelB (λb=>S b\/own b) w a then mq (fj (fj (fj (h a d)))).2.2 else .fin
 refine⟨.mk f,wX.2 ⟨m,aq λa d=>?_⟩⟩;have i:=fj (fj (fj (h a d)));have l:f a=mq (fj (fj (fj (h a d)))).2.2:=bh;exact⟨_,_,_,i.1,i.2.1,Wk.cast l (fj i.2.2)⟩
def aa0(i:m5 g=lB)(e:∀a,RelB (λb=>S b\/own b) w a->bQ P ai g a= .comm g2 #[scase c v z] af .send a #[]/\gS P0 P S c own qM (nJ g2 cI) a):gS P0 P S c own (v::qM) g w:=by
 classical
 let f:ag->Tr:=λa=>if d:RelB (λb=>S b\/own b) w a then mq (e a d).2 else .fin
 refine⟨.mk f,wX.2 ⟨i,an (aq ⟨v,qM,g2,z,rfl,λa d=>⟨(e a d).1,?_⟩⟩)⟩⟩;have h:f a=mq (e a d).2:=bh;exact Wk.cast h (fj (e a d).2)
def aaX(l:m5 g=lB)(k:QuitsIn P n g')(j:mayWake P g=af)(i:∀a,RelB (λb=>S b\/own b) w a->∀e d s f h,a.heap[c]? =K (.chan e d ai s f h)->bQ P ai g a= .go g' (lZ a c e d af s f h) #[⟨.obj c,ai,af⟩,⟨.obj c,af,af⟩]):gS P0 P S c own [] g w:=
 ⟨.mk λ_=>.fin,wX.2 ⟨l,an (an ⟨rfl,g',n,k,j,i⟩)⟩⟩
def gS.rely(a:gS P0 P S c own J g w)(d:RelB (λb=>S b\/own b) w u):gS P0 P S c own J g u:=by
 have⟨e,a⟩:=a;exact⟨e,a.rely d⟩
def aa1(l:m5 g=lB)(a:∀b,RelB (λd=>S d\/own d) w b->bQ P ai g b= .go QV b QR)(j:∀e∈QR,EvW S own e)(k:∀b,RelB (λd=>S d\/own d) w b->gS P0 P S c own J QV b):gS P0 P S c own J g w:=by
 refine Dz l λb h=>⟨QV,b,QR,a b h,⟨λ_ _ _=>rfl,aV _,rfl,rfl,rfl,λn=>n,λe i=>?_⟩,?_⟩;have:=j e i;unfold EvW at this ⊢;cases f:e.loc with
 |cell o=>rw[f] at this;exact this.imp (λa=>aq a) (λa=>a)
 |obj p=>rw[f] at this;exact this.imp (λa=>aq a) (λa=>a)
 |mark m=>rw[f] at this;exact this
 |_=>trivial
 have e:g6 own b b=own:=by
  funext d;unfold g6;apply propext;constructor;rintro(a|a);exact a;omega;exact aq
 rw[e];exact k b h
end
section
variable {P0 P:aW}{S:Nat->Prop}{c:Nat}{J:List F}{dc:List aP}{Q:fo}
def J_9{dL dc:List aP}{l:aL Q}{e f:ku}(j:iR P dL dc l n u e f)(a:e= .go (aO Qf (Qi++dL)) W QR)(A:cm W<=n):
 ∃(b:aL Q) (m:Nat) (i:aP) (k:List aP) (d:ag) (h:Array cK),f= .go (aO i (k++dc)) d h/\fB P b Qf i/\kz Qf/\gv P b Qi k/\eY b m W d/\Fr l b u d/\(∀a∈h,jx b a)/\Rl.fG Qf Qi:=by
 cases j using iR.ind with
 |lost C E z D=>cases a
 |over j=>
  cases a;omega
 |go t v x y s r q B=>
  simp only[aO,GStep.go.injEq,HG] at a;obtain⟨⟨rfl,o,-⟩,rfl,rfl⟩:=a;have p:=List.append_cancel_right o;subst p;exact⟨_,_,_,_,_,_,rfl,t,v,x,y,s,r,q⟩
def Jx{p i:aL Q}{own:Nat->Prop}(v:eY i n u G)(e:Fr p i W G)(s:∀f∈QR,jx i f)(o:∀a b,p.f a=K b->own b):oF P0 S own W G QR/\∀a b,i.f a=K b->g6 own W G b:=by
 have k:∀a b,i.f a=K b->g6 own W G b:=λa b d=>by
  rcases e.fresh a b d with h|h;exact aq (o a b h);have⟨y,z,_,r,_⟩:=v.at_ a b d;exact an ⟨h,(dY.1 r).1⟩
 refine⟨⟨λa d t=>e.keep a (λl f=>?_) d,e.size,e.tape,e.os,e.output,λ_=>trivial,λf q=>?_⟩,k⟩;rcases e.fresh l a f with h|h;exact t (o l a h);omega;have:=s f q;unfold jx at this;unfold EvW;cases j:f.loc with
 |cell x=>rw[j] at this;have⟨a,d⟩:=this;exact aq (k _ _ d)
 |obj A=>rw[j] at this;have⟨a,d⟩:=this;exact aq (k _ _ d)
 |mark m=>
  rw[j] at this;cases m<;>first|exact fe this|exact rfl
 |_=>trivial
def Lk{f:aL Q}{j w d:ag}{own:Nat->Prop}(e:eY f 0 j w)(o:∀a b,f.f a=K b->own b)(i:RelB (λa=>S a\/own a) w d):eY f n (sh (dV d) (cm d) j) d:=
 ⟨e.gl,dj e.gr i.size,λa b h=>by
  have⟨p,q,k,l,m⟩:=e.at_ a b h;exact⟨p,q,k,aB (i.at_ b (an (o a b h))) l,m⟩,λr s _=>rfl⟩
def eY.zero{d:aL Q}{b w:ag}(a:eY d n b w):eY d 0 b w:=⟨a.gl,a.gr,a.at_,λf h e=>aa⟩
structure o4(S own:Nat->Prop)(w:ag):Prop where
 sh:∀b,S b->b<U w.heap/\¬own b
 bd:∀b,own b->b<U w.heap
def o4.step{own:Nat->Prop}{w i h:ag}(f:o4 S own w)(d:RelB (λa=>S a\/own a) w i)(e:oF P0 S own i h QR):o4 S (g6 own i h) h/\RelB S w h:=
 ⟨⟨λa b=>⟨cL (f.sh a b).1 (dj d.size e.size),λj=>ff j (f.sh a b).2 λj=>by have:=(f.sh a b).1;have:=d.size;omega⟩,λa b=>ff b (λb=>cL (f.bd a b) (dj d.size e.size)) (λb=>b.2)⟩,
  λa b=>aB (e.keep a (cL (f.sh a b).1 d.size) (f.sh a b).2) (d.at_ a (aq b)),dj d.size e.size,aB e.tape d.tape,aB e.os d.os,aB e.output d.output⟩
def aaY(y:Rl.Alike Q P P)(F:tK Q P P){Stop:aP->List aP->ag->Prop}(C:Fin P0 P Stop Qf aY u W):
 ∀{a:aL Q} {b:aP} {tops':List aP} {own:Nat->Prop} {w:ag},gP W=gP u->fB P a Qf b->kz Qf->gv P a aY tops'->Rl.fG Qf aY->eY a 0 W w->(∀f d,a.f f=K d->own d)->Hp (dm P0) u->o4 S own w->RelB S G w->
  (∀(a:aL Q) Qf aY u b tops' own w,Stop Qf aY u->fB P a Qf b->gv P a aY tops'->eY a 0 u w->(∀f d,a.f f=K d->own d)->Hp (dm P0) u->o4 S own w->RelB S G w->gS P0 P S c own J (aO b (tops'++dc)) w)->
  gS P0 P S c own J (aO b (tops'++dc)) w:=by
 intro a b tops' own w;refine C (λQf aY u W=>∀{a:aL Q} {b:aP} {tops':List aP} {own:Nat->Prop} {w:ag},gP W=gP u->fB P a Qf b->kz Qf->gv P a aY tops'->Rl.fG Qf aY->eY a 0 W w->(∀f d,a.f f=K d->own d)->Hp (dm P0) u->o4 S own w->RelB S G w->
  (∀(a:aL Q) Qf aY u b tops' own w,Stop Qf aY u->fB P a Qf b->gv P a aY tops'->eY a 0 u w->(∀f d,a.f f=K d->own d)->Hp (dm P0) u->o4 S own w->RelB S G w->gS P0 P S c own J (aO b (tops'++dc)) w)->
  gS P0 P S c own J (aO b (tops'++dc)) w) ?_ ?_
 intro Qf aY u W I a b tops' own w k o s p i h j t n l m;exact m a _ _ _ _ _ _ _ I o p ⟨by rw[<-k];exact h.gl,h.gr,λf d i=>by rw[<-k];exact h.at_ f d i,λal ao aj=>aa⟩ j t n l;intro Qf aY u W x B V Z am X U a b tops' own w k o s p i h j t n l m;refine Dz Y λe v=>?_;have⟨aw,ab,ae,ap,ar,ad,A,E,H,L,q,M,N,O⟩:=J_9 (Rl.L_ (m:=ai) (m':=ai) (dL:=[]) (dc:=dc) y F Y o s p (Lk (S:=S) h j v) i (λz=>((X z).1))) (B (dV e) (cm e) ai []) (by
  show(x (dV e) (cm e)).2.2.2.1.drawn<=cm e+(x (dV e) (cm e)).2.2.2.1.drawn;omega)
 have⟨r,T⟩:=Jx (P0:=P0) (S:=S) q M N j;have⟨R,D⟩:=n.step v r;exact⟨_,_,_,A,r,U (dV e) (cm e) (aar (Z (dV e) (cm e)).1 k) E H L O (eY.zero q) T (V (dV e) (cm e)).hp R (l.trans D) m⟩
end
section
variable {P0 P:aW}{S:Nat->Prop}{c:Nat}{Q:List F}{dc:List aP}{J:fo}
def aaZ(I:Rl.Alike J P P){l:aL J}{own:Nat->Prop}(f:fB P l Qf Qg)(W:Qf.mode=jA)(O:Qf.defers=[])(V:Qf.kind=eA)(T:P.funcs[Qf.fn]? =K QI)
 (ay:∀H x,(dx QI Qf.tmps).run P (sh H x w)=b6 v (sh H x w)) (X:eY l 0 w u) (E:∀m e,l.f m=K e->own e)
 (N:∀(h:aL J) j t k,aG h v j->eY h 0 w k->(∀m e,h.f m=K e->t e)->o4 S t k->RelB S u k->gS P0 P S c t Q (aO (di Qh j) dc) k) (A:o4 S own u):gS P0 P S c own Q (aO Qg (Qh::dc)) u:=by
 refine Dz Y λa r=>?_;have o:=(Rl.K9 (ρ:=l) I QI f.tmps).runs (sh (dV a) (cm a) w) a #[] #[] 0 (Lk (S:=S) X E r) Rl.ue (λy n=>by simp at n);have D:Qg.mode=jA:=by
  have:=f.mode;rw[W] at this;cases d:Qg.mode with
  |returning=>rfl
  |run=>rw[d] at this;cases this using Rl.gB.ind
  |panicking ad=>rw[d] at this;cases this using Rl.gB.ind
 have R:Qg.defers=[]:=by
  have:=f.defers;rw[O] at this;cases d:Qg.defers with
  |nil=>rfl
  |cons L ad=>rw[d] at this;cases this using Rl.lm.ind
 have b:((dx QI Qf.tmps).runT P (sh (dV a) (cm a) w) #[]).1=b6 v (sh (dV a) (cm a) w):=k8;have G:bQ P ai (aO Qg (Qh::dc)) a=pg (seen P Qg.fn ((dx QI Qg.tmps).runT P a #[]).2) (match ((dx QI Qg.tmps).runT P a #[]).1 with
  |b6 v u=>l5 P ai Qg (Qh::dc) Z v u
  | .halt (.stuck s) u=>.ended (.stuck s (Qg.pos P)) u
  | .halt _ u=>.ended (.stuck "return: the result variables cannot be read" (Qg.pos P)) u):=by
  have M:bQ P ai (aO Qg (Qh::dc)) a=mF P ai Qg (Qh::dc) Z a:=by simp[aO,bQ,D]
  rw[M];unfold mF;rw[R];simp only[D,f.fn,T];rfl
 generalize ar:(dx QI Qf.tmps).runT P (sh (dV a) (cm a) w) #[]=aj at o b;generalize aw:(dx QI Qg.tmps).runT P a #[]=al at o G;cases o using Rl.fV.ind with
 |halt d g C B i q=>cases b
 |rO d i q=>cases b
 |over z i q=>
  simp only[Result.ok.injEq] at b;obtain⟨-,rfl⟩:=b;simp[sh] at i
 |ok z g C B i q=>
  rename_i h am L j aD ae ao ap;simp only[Result.ok.injEq] at b;obtain⟨rfl,rfl⟩:=b;have⟨p,ab⟩:=Jx (P0:=P0) (S:=S) g C (λy n=>Rl.pN (P:=P) (f:=Qg.fn) B y n) E;refine⟨_,_,_,?_,p,N h j _ ae z ⟨g.gl,g.gr,g.at_,λaz aC U=>absurd U aa⟩ ab (A.step r p).1 (A.step r p).2⟩;rw[G];simp only[l5,f.kind,V];rfl
def J9 (J:fo):aL J:=⟨λ_=>Z,λb d c a=>(cV a),λb d a=>(cV a)⟩
def Ao (a:Nat)(os:Os):ag:={heap:=jh a (ax #[] 0),tape:=λ_ _=>0,drawn:=0,os,output:= #[]}
def aaW(p:Twins P0 P)(z:Rl.Alike J P P)(D:tK J P P){f:fH}(ad:J.b f=af)(al:P.funcs[f]? =P0.funcs[f]?)(ab:cP (J9 J) args args){R:gL->ag->Prop}(hR:∀h a,R h a->∃v,h=aR v){os:Os}(ay:∀b,Calls P0 f args (sh b 0 (Ao J.g os)) R)
 {own:Nat->Prop} (W:o4 S own w) (ar:J.g<=U w.heap)
 (O:∀(u:aL J) v t e s a,(∃b g,R (aR v) (sh b g e))->aG u v t->eY u 0 e a->(∀n o,u.f n=K o->s o)->o4 S s a->RelB S w a->gS P0 P S c s Q (aO (di Qf t) dc) a):gS P0 P S c own Q (aO (fC P f args eA) (Qf::dc)) w:=by
 have A:fC P f args eA=fC P0 f args eA:=by unfold fC;rw[al]
 have H:Hp (dm P0) (Ao J.g os):=λn a9 q=>by
  simp only[Ao,Array.getElem?_replicate] at q
  split at q
  cases q;exact aq trivial;cases q
 have am:Fin P0 P (AE λd aY a=>aY=[]/\∃v,R (aR v) a/\d.fn=f/\d.leaving P0 a (aR v)) (fC P0 f args eA) [] (Ao J.g os) (Ao J.g os):=by
  refine Jg p (λd aY a i=>?_) ⟨IY p (aq Y),λbc a0=>by simp at a0,rfl⟩ H (Un.refl _) λb=>?_;have⟨_,v,_,_,l⟩:=i;rintro⟨r,_⟩;rw[l.1] at r;cases r;have⟨h,a,d,E,ae,G,l⟩:=ay b [fF];obtain⟨v,rfl⟩:=hR h a E;have⟨N,T⟩:=ae;exact⟨N,d,[],a,T,rfl,v,E,G,l⟩
 have⟨B,C⟩:=Rl.EF D ad ab eA (aq Y);rw[A] at B C;rw[A];refine aaY (aY:=[]) (tops':=[]) (dc:=Qf::dc) z D am Y B C .nil Y ⟨by simp[Ao],ar,λn o h=>(cV h),λa1 a3 y=>absurd y aa⟩ (λn o h=>(cV h)) H W (RelB.refl _ _) λu d aY e a6 ba s a i ap aJ aQ az aD X aE=>?_;obtain⟨b,g,rfl,v,V,G,l⟩:=i;cases aJ using gv.ind;have⟨r,aj,aw,k,a7,a8⟩:=l;have ao:P.funcs[d.fn]? =K k:=bh;have aI:∀m j,(dx k d.tmps).run P (sh m j e)=b6 v (sh m j e):=by
  intro m j;have aH:=LM (tv P0) p.A.view (dx k d.tmps) (sh b g e) #[] (MK p.A.T k d.tmps) (aD.sh b g);have x:((dx k d.tmps).runT P0 (sh b g e) #[]).1=b6 v (sh b g e):=k8;rcases aH.shift with⟨bd,a,I⟩|i;rw[x] at I;cases I;have⟨bb,L,i⟩:=i m j (sh b g e) (Un.refl _) (by rw[x];intro a1 a3 y;simp[rW] at y);rw[x] at i L;have:=congrArg Prod.fst i;rw[Sem.runT_eq] at this;have M:=Nm L m j;simp only[uo,rW,Nat.sub_self,s6] at this;rw[M] at this;exact this
 exact aaZ (P0:=P0) z ap r aj aw ao aI aQ az (λa5 t a2 a4 aM aZ aC Z aF=>O a5 v t e a2 a4 ⟨b,g,V⟩ aM aZ aC Z (aE.trans aF)) X
end
end Cc
namespace Cc
open Go Go.Conc
structure fZ(P0 P:aW)(S:Nat->Prop)(m:Bool)(X0:(Nat->Prop)->aP->List aP->ag->Prop):Prop where
 step:∀own fr cs w,(∀w1,RelB (λb=>S b\/own b) w w1->∃fr' cs' w' es,bQ P m (aO fr cs) w1= .go (aO fr' cs') w' es/\oF P0 S own w1 w' es/\X0 (g6 own w1 w') fr' cs' w')->X0 own fr cs w
 rely:∀own fr cs w w1,X0 own fr cs w->RelB (λb=>S b\/own b) w w1->X0 own fr cs w1
def eI (P0 P:aW)(J:F->ag->Prop)(S O:Nat->Prop)(R:Nat->Option (List F))(g:dQ)(w:ag):Prop:=∃c,Mn P0 P J c (.sh S O R) g w
section
variable {P0 P:aW}{J:F->ag->Prop}{S O:Nat->Prop}{R:Nat->Option (List F)}{g:dQ}{w:ag}
def wh(P0 P:aW)(S:Nat->Prop)(f:Nat)(p:List F):fZ P0 P S ai (λown fr cs w=>gS P0 P S f own p (aO fr cs) w):=
 ⟨λown fr cs w c=>Dz Y λe d=>by
  have⟨fr',r,q,h,j,l,n⟩:=c e d;exact⟨_,q,h,j,l,n⟩,λown fr cs w e c d=>c.rely d⟩
def Ur(l:∀c,RelB (λb=>S b\/O b) w c->∃j h n,bQ P af g c= .go j h n/\m5 j=lB/\oF P0 S O c h n/\eI P0 P J S (g6 O c h) R j h):eI P0 P J S O R g w:=by
 classical
 let f:ag->Tr:=λc=>if d:RelB (λb=>S b\/O b) w c then mq (fj (fj (fj (l c d)))).2.2.2 else .fin
 refine⟨.mk f,pR.2 <| aq λc d=>?_⟩;have e:=fj (fj (fj (l c d)));have p:f c=mq (fj (fj (fj (l c d)))).2.2.2:=bh;exact⟨_,_,_,e.1,e.2.1,e.2.2.1,Mn.cast p (fj e.2.2.2)⟩
def mN(P0 P:aW)(J:F->ag->Prop)(S:Nat->Prop)(R:Nat->Option (List F)):fZ P0 P S af (λO fr cs w=>eI P0 P J S O R (aO fr cs) w):=
 ⟨λown fr cs w c=>Ur λe d=>by
  have⟨fr',q,p,f,h,j,l⟩:=c e d;exact⟨_,p,f,h,rfl,j,l⟩,λown fr cs w e c d=>by
  have⟨n,c⟩:=c;exact⟨n,c.tH d⟩⟩
def Uq(q:O n)(u:I qM<=j)(v:R n=Z)(s:w.heap[n]? =K (.chan j #[] ai 0 0 ai))(l:∀c,RelB (λb=>S b\/O b) w c->∃h p,bQ P af g c= .spawn h p c #[]/\m5 h=lB/\gS P0 P S n (λ_=>False) qM p c/\eI P0 P J S (λb=>O b/\b≠n) (gm R n (K qM)) h c):eI P0 P J S O R g w:=by
 classical
 let f:ag->Tr:=λc=>if d:RelB (λb=>S b\/O b) w c then mq (fj (fj (l c d))).2.2.2 else .fin
 refine⟨.mk f,pR.2 <| an (aq ⟨n,qM,j,q,u,v,s,λc d=>?_⟩)⟩;have e:=fj (fj (l c d));have t:f c=mq (fj (fj (l c d))).2.2.2:=bh;have⟨x,r⟩:=e.2.2.1;exact⟨_,_,x,e.1,e.2.1,r,Mn.cast t (fj e.2.2.2)⟩
def Uo(l:R n=K (v::qM))(j:g2.frame=g.frame/\sY g2=sY g/\g2.dying=g.dying)(e:∀c,RelB (λb=>S b\/O b) w c->bQ P af g c= .comm g2 #[rcase n z] af (.recv af) c #[]/\eI P0 P J S O (gm R n (K qM)) (nJ g2 (recvd af v af)) c):eI P0 P J S O R g w:=by
 classical
 let f:ag->Tr:=λc=>if d:RelB (λb=>S b\/O b) w c then mq (e c d).2 else .fin
 refine⟨.mk f,pR.2 <| an (an (aq ⟨n,z,g2,v::qM,l,j,λc d=>⟨(e c d).1,?_⟩⟩))⟩;have h:f c=mq (e c d).2:=bh;exact Mn.cast h (fj (e c d).2)
def Up(l:R n=K [])(j:g2.frame=g.frame/\sY g2=sY g/\g2.dying=g.dying)(e:∀c,RelB (λb=>S b\/O b) w c->bQ P af g c= .comm g2 #[rcase n z] af (.recv af) c #[]/\eI P0 P J S O (gm R n Z) (nJ g2 (recvd af z ai)) c):eI P0 P J S O R g w:=by
 classical
 let f:ag->Tr:=λc=>if d:RelB (λb=>S b\/O b) w c then mq (e c d).2 else .fin
 refine⟨.mk f,pR.2 <| an (an (aq ⟨n,z,g2,[],l,j,λc d=>⟨(e c d).1,?_⟩⟩))⟩;have h:f c=mq (e c d).2:=bh;exact Mn.cast h (fj (e c d).2)
def Um(n:∀j,R j=Z)(e:∀c,RelB (λb=>S b\/O b) w c->kS P0 c->jo P0 P J g c):eI P0 P J S O R g w:=by
 classical
 let f:ag->Tr:=λc=>if d:RelB (λb=>S b\/O b) w c/\kS P0 c then mq (e c d.1 d.2) else .fin
 refine⟨.mk f,pR.2 <| an (an (an ⟨n,λc d h=>?_⟩))⟩;have l:f c=mq (e c d h):=bh;exact Mn.cast l (fj (e c d h))
def U3(S O:Nat->Prop)(j:∀b,S b->b<U w.heap/\¬O b)(h:∀b,O b->b<U w.heap)(e:∀c,AtRel w c->eI P0 P J S O (λ_=>Z) g c):jo P0 P J g w:=by
 classical
 let f:ag->Tr:=λc=>if d:AtRel w c then mq (e c d) else .fin
 refine⟨.mk f,pR.2 <| an (an ⟨S,O,j,h,λc d=>?_⟩)⟩;have l:f c=mq (e c d):=bh;exact Mn.cast l (fj (e c d))
end
section
variable {P0 P:aW}{S:Nat->Prop}{m:Bool}{X0:(Nat->Prop)->aP->List aP->ag->Prop}(T:fZ P0 P S m X0){own:Nat->Prop}{fr fr':aP}{cs:List aP}{w:ag}{b:aP}{a:bK}{k:List dW}{Q:Array cq}{i:Nat}{H:List Nat}{o:cq}
def Ct{own:Nat->Prop}{w:ag}:g6 own w w=own:=by
 funext b;unfold g6;apply propext;constructor;rintro(c|c);exact c;omega;exact aq
def Jy{P0:aW}(d:∀c∈QR,EvW S own c):oF P0 S own w w QR:=⟨λ_ _ _=>rfl,aV _,rfl,rfl,rfl,λe=>e,by rw[Ct];exact d⟩
def nQ(T:fZ P0 P S m X0)(h:∀w,bQ P m (aO fr cs) w= .go (aO fr' Qi) w)(e:X0 own fr' Qi w):X0 own fr cs w:=
 T.step _ _ _ _ λc f=>⟨fr',Qi,c,#[],h c,Jy (λj d=>by simp at d),by rw[Ct];exact T.rely _ _ _ _ _ e f⟩
def Ek(T:fZ P0 P S m X0)(n:eD b≠.early)(q:Q[i]? =K o)(s:eF o (eg Q a.tmps)=af)
 (h:∀d,RelB (λb=>S b\/own b) w d->∃v e,(bT (bz a) o).run P d=b6 (eT v) e/\oF P0 S own d e ((bT (bz a) o).events P d #[])/\X0 (g6 own d e) (b.at (bG a o.dst v) (bW Q H::k)) cs e):X0 own (b.at a (bW Q (i::H)::k)) cs w:=
 T.step _ _ _ _ λd r=>by
  have⟨v,e,j,c,l⟩:=h d r;refine⟨_,_,_,_,stepG_value q s n j,⟨c.keep,c.size,c.tape,c.os,c.output,c.hp,λf p=>c.evs f (Conc.mem_listed p)⟩,l⟩
def uV(T:fZ P0 P S m X0)(h:eD b≠.early)(l:Q[i]? =K o)(n:eF o (eg Q a.tmps)=af)
 (e:∀c,RelB (λb=>S b\/own b) w c->(bT (bz a) o).run P c=b6 (eT v) c/\∀f∈(bT (bz a) o).events P c #[],EvW S own f) (j:X0 own (b.at (bG a o.dst v) (bW Q H::k)) cs w):X0 own (b.at a (bW Q (i::H)::k)) cs w:=
 Ek T h l n λc d=>⟨v,c,(e c d).1,Jy (e c d).2,by rw[Ct];exact T.rely _ _ _ _ _ j d⟩
end
def cG (a:bK)(s:Nat):F:=ek a.tmps s cI
def DE (ops:Array cq)(l:Array Bool)(s:Nat):Prop:=∃b c,ek l b ai=af/\ops[b]? =K c/\c.dst=K s
structure gq(ops:Array cq)(Ph:Nat->Bool)(a0 z:bK)(l:Array Bool)(a:bK):Prop where
 size:U l=U ops
 closed:∀(i:Nat) o,ek l i ai=af->ops[i]? =K o->∀e∈ri o,iN ed e=af->ek l e.on ai=af
 ph:∀i:Nat,ek l i ai=af->Ph i=af
 wR:U a.tmps=U z.tmps
 xO:b8 a=b8 z
 yes:∀s,DE ops l s->cG a s=cG z s
 no:∀s,¬DE ops l s->cG a s=cG a0 s
def TH:Op->Bool
 | .select _ _=>af
 |_=>ai
def yl (ops:Array cq)(Ph:Nat->Bool):Bool:=dM (eH (U ops)) λd=>match ops[d]? with
 |none=>af
 |some c=> !TH c.op&&(dM (c.looksAt ops) λs=>(c.after.toList.any λb=>iN ed b&&((ops[b.on]?).bind (·.dst))==K s)||dM (eH (U ops)) λe=> !Ph e||((ops[e]?).bind (·.dst)) !=K s)&&(match c.guard with|some (f,_)=>lG ((ops[f]?).bind (·.dst))|none=>af)&&dM c.after.toList λb=> !iN ed b||decide (b.on<d)
def CH (ops:Array cq)(Ph:Nat->Bool)(e:Nat):Bool:=dM (eH (U ops)) λb=>Ph b||b==e||match ops[b]? with
 |none=>af
 |some d=>d.after.toList.any λc=>iN ed c && !Ph c.on
def mZ (l:Array Bool):Nat:=l.toList.countP (!·)
theorem countP_set:∀(e:List Bool) (c:Nat),e[c]? =K ai->(e.set c af).countP (!·)+1=e.countP (!·)
 | [],c,d=>by simp at d
 |b::f,0,d=>bh
 |b::f,c+1,d=>bh
def yy{l:Array Bool}(c:n<U l)(b:ek l n af=ai):mZ (cF l n af)+1=mZ l:=by
 unfold mZ;rw[Array.toList_setIfInBounds];refine countP_set _ _ ?_;have:l[n]? =K l[n]:=m3 c;simp only[jT,this,s9] at b;rw[Array.getElem?_toList,this,b]
def xW{l:Array Bool}(d:n<U l):ek (cF l n af) m ai=(decide (m=n)||ek l m ai):=by
 simp only[jT,nG];by_cases b:n=m;subst b;simp[d];have:¬m=n:=λc=>b (bA c);simp[b,this]
def mem_ready{ops:Array cq}{l:Array Bool}(d:i∈gd ed ops l):∃g,ops[i]? =K g/\i<U ops/\ek l i af=ai/\∀c∈ri g,iN ed c=af->ek l c.on ai=af:=by
 unfold gd at d;have⟨h,b⟩:=List.mem_filter.1 d;have e:=n6.1 h;simp only[ez,Bool.not_eq_true'] at b;have f:ops[i]? =K ops[i]:=m3 e;rw[f] at b;simp only[pJ,s9] at b;refine⟨_,f,e,b.1,λc k j=>?_⟩;have:=Array.all_eq_true.1 b.2;obtain⟨n,m,rfl⟩:=Array.mem_iff_getElem.1 k;have:=this n m;simpa [j] using this
def Xk{ops:Array cq}{Ph:Nat->Bool}{l:Array Bool}(p:U l=U ops)(n:yl ops Ph=af)(g:gd ed ops l=[]):∀b,b<U ops->ek l b ai=af:=by
 intro b
 induction b using Nat.strongRecOn with
 |_ b o=>
  intro c;cases j:ek l b ai with
  |true=>rfl
  |false=>
   exfalso
   have:b∈gd ed ops l:=by
    unfold gd;refine List.mem_filter.2 ⟨n6.2 c,?_⟩;have e:ops[b]? =K ops[b]:=m3 c;have d:=fD.1 n b (n6.2 c);rw[e] at d;simp only[ez,fD] at d;have k:ek l b af=ai:=by
     have:l[b]? =K l[b]:=m3 aa;simpa [jT,this] using j
    rw[e,k];simp only[Bool.not_false,Bool.true_and,pJ,s9,Array.all_eq_true];intro f i;have:=d.2 _ (Array.getElem_mem_toList i);cases h:iN ed (ops[b].after[f]) with
    |false=>rfl
    |true=>
     rw[h] at this;have m:ops[b].after[f].on<b:=bh;simpa using o _ m aa
   rw[g] at this;cases this
section
variable {ops:Array cq}{Ph:Nat->Bool}{a0 z:bK}{l:Array Bool}{a:bK}
def gq.looks(i:gq ops Ph a0 z l a)(u:yl ops Ph=af)(w:∀s,(∀(b:Nat) Qr,Ph b=af->ops[b]? =K Qr->Qr.dst≠K s)->cG z s=cG a0 s)(m:ops[n]? =K Qr)(o:∀c∈ri Qr,iN ed c=af->ek l c.on ai=af):∀s∈Qr.looksAt ops,cG a s=cG z s:=by
 intro s v;have p:n<U ops:=(dY.1 m).1;have j:=fD.1 u n (n6.2 p);rw[m] at j;simp only[ez,fD] at j;have:=j.1.1.2 s v;rw[tL] at this;rcases this with g|g;have⟨c,x,h⟩:=xk.1 g;simp only[ez,beq_iff_eq] at h;have⟨f,r,d⟩:=lE.1 h.2;exact i.yes s ⟨c.on,f,o c bh h.1,r,d⟩;have k:∀(b:Nat) Qr,Ph b=af->ops[b]? =K Qr->Qr.dst≠K s:=λb f t e d=>by
  have:=fD.1 g b (n6.2 (dY.1 e).1);rw[e] at this;simp[d,t] at this
 rw[w s k];exact i.no s fun⟨b,f,q,e,d⟩=>k b f (i.ph b q) e d
def gq.exec(k:gq ops Ph a0 z l a)(p:yl ops Ph=af)(y:∀s,(∀(e:Nat) Qr,Ph e=af->ops[e]? =K Qr->Qr.dst≠K s)->cG z s=cG a0 s)(m:ops[n]? =K Qr)(t:∀f∈ri Qr,iN ed f=af->ek l f.on ai=af):bT (bz a) Qr=bT (bz z) Qr/\eF Qr (eg ops a.tmps)=eF Qr (eg ops z.tmps):=by
 have o:=k.looks p y m t;have w:n<U ops:=(dY.1 m).1;have g:=fD.1 p n (n6.2 w);rw[m] at g;simp only[ez] at g;refine⟨execOp_congr Qr (λC B f=>by have:=g.1.1.1;rw[f] at this;cases this) λA D=>?_,?_⟩;cases A with
 |tmp q=>exact o q (List.mem_append_left _ (List.mem_filterMap.2 ⟨.tmp q,bh,rfl⟩))
 |_=>rfl
 unfold eF;cases v:Qr.guard with
 |none=>rfl
 |some r=>
  have⟨e,E⟩:=r;have j:=g.1.2;rw[v] at j;dsimp only at j ⊢;have⟨b,u⟩:=Option.isSome_iff_exists.1 j;have d:cG a b=cG z b:=o b (List.mem_append_right _ bh);have x:eg ops a.tmps e=eg ops z.tmps e:=by
   unfold eg;rw[u];simp only[zb];unfold cG at d;simp only[jT] at d;rcases ij b (U z.tmps) with c|c;have h:z.tmps[b]? =K z.tmps[b]:=m3 c;have i:a.tmps[b]? =K (a.tmps[b]'(b5 k.wR c)):=m3 _;rw[h,i] at d ⊢;simp only[s9] at d;rw[d];have h:z.tmps[b]? =Z:=o5 c;have i:a.tmps[b]? =Z:=o5 (b5 k.wR c);rw[h,i]
  rw[x]
def gq.next(c:gq ops Ph a0 z l a)(C:Ph n=af)(m:ops[n]? =K Qr)(y:∀b∈ri Qr,iN ed b=af->ek l b.on ai=af)(x:∀g,Qr.dst=K g->g<z.tmps.size/\cG z g=v):gq ops Ph a0 z (cF l n af) (bG a Qr.dst v):=by
 have k:n<l.size:=by rw[c.size];exact(dY.1 m).1
 have r:∀s,DE ops (cF l n af) s↔Qr.dst=K s\/DE ops l s:=by
  intro s;constructor;rintro⟨f,i,e,h,j⟩;rw[xW k] at e;simp only[tL,decide_eq_true_eq] at e;rcases e with rfl|e;rw[m] at h;cases h;exact aq j;exact an ⟨f,i,e,h,j⟩;rintro(p|⟨f,i,e,h,j⟩);exact⟨n,Qr,k8,m,p⟩;exact⟨f,i,by rw[xW k,e];simp,h,j⟩
 have w:∀s,cG (bG a Qr.dst v) s=if Qr.dst=K s then v else cG a s:=by
  intro s;unfold cG bG;cases A:Qr.dst with
  |none=>simp
  |some g=>
   have B:=(x g A).1;simp only[jT,nG,kU];by_cases b:g=s;subst b;simp[c.wR,B];simp[b]
 refine⟨by simp[c.size],λf i d q b u t=>?_,λf d=>?_,?_,?_,λs o=>?_,λs o=>?_⟩;rw[xW k] at d ⊢;simp only[tL,decide_eq_true_eq] at d ⊢;rcases d with rfl|d;rw[m] at q;cases q;exact an (y b u t);exact an (c.closed f i d q b u t);rw[xW k] at d;simp only[tL,decide_eq_true_eq] at d;rcases d with rfl|d;exact C;exact c.ph f d;unfold bG;split;simp[c.wR];exact c.wR;unfold bG;split;exact c.xO;exact c.xO;rw[w]
 split
 rename_i b;exact bA ((x s b).2);rename_i b;exact c.yes s (((r s).1 o).resolve_left b);rw[w,if_neg λb=>o ((r s).2 (aq b))];exact c.no s λp=>o ((r s).2 (an p))
def gq.start{a0 z:bK}(f:U a0.tmps=U z.tmps)(e:b8 a0=b8 z):gq ops Ph a0 z (jh (U ops) ai) a0:=by
 have d:∀c:Nat,ek (jh (U ops) ai) c ai=ai:=λc=>by
  simp only[jT,Array.getElem?_replicate]
  split<;>rfl
 refine⟨aF,λc g b=>?_,λc b=>?_,f,e,λs ⟨c,g,b,_⟩=>?_,λs _=>rfl⟩;rw[d] at b;cases b;rw[d] at b;cases b;rw[d] at b;cases b
def gq.all(f:gq ops Ph a0 z l a)(t:∀s,(∀(c:Nat) b,Ph c=af->ops[c]? =K b->b.dst≠K s)->cG z s=cG a0 s)(o:∀g,g<U ops->ek l g ai=af):a=z:=by
 have r:∀s,cG a s=cG z s:=λs=>by
  by_cases i:∃(c:Nat) (b:cq),ops[c]? =K b/\b.dst=K s;have⟨c,b,d,e⟩:=i;exact f.yes s ⟨c,b,o c (dY.1 d).1,d,e⟩;have h:∀(c:Nat) b,ops[c]? =K b->b.dst≠K s:=λc b d e=>i ⟨c,b,d,e⟩;rw[t s λc b _=>h c b];exact f.no s fun⟨c,b,_,d,e⟩=>h c b d e
 have⟨u,j⟩:=a;have⟨v,k⟩:=z;have n:j=k:=f.xO;have m:u=v:=by
  refine Array.ext f.wR λg p q=>?_;have:=r g;unfold cG at this;simpa [jT,p,q] using this
 rw[m,n]
def gq.OF(f:gq ops Ph a0 z l a)(w:∀s,(∀(b:Nat) c,Ph b=af->ops[b]? =K c->c.dst≠K s)->cG z s=cG a0 s)(B:Ph n=ai)(q:∀g,g<U ops->g≠n->ek l g ai=af):a=z:=by
 have v:∀s,cG a s=cG z s:=λs=>by
  by_cases j:∃(b:Nat) (c:cq),Ph b=af/\ops[b]? =K c/\c.dst=K s;have⟨b,c,i,d,e⟩:=j;exact f.yes s ⟨b,c,q b (dY.1 d).1 (λA=>bh),d,e⟩;have h:∀(b:Nat) c,Ph b=af->ops[b]? =K c->c.dst≠K s:=λb c i d e=>j ⟨b,c,i,d,e⟩;rw[w s h];exact f.no s fun⟨b,c,u,d,e⟩=>h b c (f.ph b u) d e
 have⟨x,k⟩:=a;have⟨y,m⟩:=z;have p:k=m:=f.xO;have o:x=y:=by
  refine Array.ext f.wR λg r t=>?_;have:=v g;unfold cG at this;simpa [jT,r,t] using this
 rw[o,p]
def drawn{k:Nat->Bool}{G:List Nat->bK->Prop}(D:yl ops Ph=af)(P:CH ops Ph n=af)
 (Y:∀(b:Nat) c i,Ph b=af->ops[b]? =K c->c.dst=K i->i<z.tmps.size/\cG z i=Qx b)
 (E:∀s,(∀(p:Nat) c,Ph p=af->ops[p]? =K c->c.dst≠K s)->cG z s=cG a0 s)
 (V:∀b c a H,Ph b=af->k b=ai->b≠n->ops[b]? =K c->bT (bz a) c=bT (bz z) c->eF c (eg ops a.tmps)=eF c (eg ops z.tmps)->G H (bG a c.dst (Qx b))->G (b::H) a)
 (X:∀e f l a,gq ops Ph a0 z l a->n∈gd ed ops l->mZ l<=e+1->G (n::kO ed ops e f (cF l n af) []) a)
 (R:(∀b,b<ops.size->Ph b=af)->G [] z):
 ∀(e f:Nat) (l:Array Bool) (a:bK),gq ops Ph a0 z l a->(∀b,k b=af->ek l b ai=af)->mZ l<=e->G (kO ed ops e f l []) a:=by
 have done:∀l a,gq ops Ph a0 z l a->gd ed ops l=[]->G [] a:=λl a d o=>by
  have A:=Xk d.size D o;rw[d.all E A];exact R λb g=>d.ph b (A b g)
 intro e
 induction e with
 |zero=>
  intro f l a d t C;simp only[kO,List.reverse_nil];refine done l a d ?_;cases o:gd ed ops l with
  |nil=>rfl
  |cons b ab=>
   have⟨c,_,g,h,_⟩:=mem_ready (ops:=ops) (l:=l) (i:=b) bh;have:=yy bh h;omega
 |succ e Z=>
  intro f l a d t C;simp only[kO];change G (match (gd ed ops l)[f%I (gd ed ops l)]? with
   |some b=>kO ed ops e (f/I (gd ed ops l)) (cF l b af) [b]
   |none=>[].reverse) a
  cases g:(gd ed ops l)[f%I (gd ed ops l)]? with
  |none=>
   have U:gd ed ops l=[]:=by
    cases o:gd ed ops l with
    |nil=>rfl
    |cons J L=>
     rw[o] at g;have x:f%I (J::L)<I (J::L):=Nat.mod_lt _ aF;simp at g;simp at x;omega
   exact done l a d U
  |some b=>
   simp only[];rw[linearise_go_acc,List.reverse_singleton,List.singleton_append];have B:=nO g;have⟨c,j,x,h,u⟩:=mem_ready B;by_cases w:b=n;subst w;exact X e _ l a d B C
   .have y:Ph b=af:=by
     have:=fD.1 P b (n6.2 x);cases W:Ph b with
     |true=>rfl
     |false=>
      rw[W,j] at this;simp only[Bool.false_or,tL,beq_iff_eq] at this;rcases this with r|r;exact absurd r w;have⟨q,aa,v⟩:=xk.1 r;simp only[ez,Bool.not_eq_true'] at v;have:=d.ph _ (u q bh v.1);rw[v.2] at this;cases this
    have⟨m,N⟩:=d.exec D E j u;have O:k b=ai:=by
     cases q:k b with
     |false=>rfl
     |true=>
      have m:=t b q;have T:b<l.size:=bh;have M:l[b]? =K l[b]:=m3 T;simp only[jT,M,s9] at m h;rw[m] at h;cases h
    refine V b c a _ y O w j m N (Z _ _ _ (d.next y j u λi Q=>Y b c i y j Q) (λp S=>by
     rw[xW bh,t p S];simp) ?_)
    have:=yy bh h;omega
end
section
variable {P0 P:aW}{S:Nat->Prop}{m:Bool}{Q:(Nat->Prop)->aP->List aP->ag->Prop}{own:Nat->Prop}{H:List aP}{w:ag}{b:aP}{a:bK}{k:List dW}{J:Array cq}{i:Nat}{R:List Nat}{o:cq}
def cA(c:fZ P0 P S m Q)(d:Q own (b.at a (b9 c1::b9 c2::k)) H w):Q own (b.at a (b9 (aU c1 c2)::k)) H w:=nQ c (λw=>stepG_seq) d
def iq(d:fZ P0 P S m Q)(c:Bool)(hx:bz a Qp=ak c)(e:Q own (b.at a (b9 (if c then c1 else c2)::k)) H w):Q own (b.at a (b9 (.cond Qp c1 c2)::k)) H w:=nQ d (λw=>stepG_cond hx) e
def oL(c:fZ P0 P S m Q){id:Nat}(d:Q own (b.at a (b9 QJ::fI id::k)) H w):Q own (b.at a (b9 (ga id QJ)::k)) H w:=nQ c (λw=>stepG_block) d
def uU(c:fZ P0 P S m Q){id:Nat}(d:Q own (b.at a k) H w):Q own (b.at a (fI id::k)) H w:=nQ c (λw=>stepG_inBlock) d
def zq(c:fZ P0 P S m Q)(d:Q own (b.at a (b9 QJ::gE QJ::k)) H w):Q own (b.at a (b9 (.loop QJ)::k)) H w:=nQ c (λw=>stepG_loop) d
def v9(c:fZ P0 P S m Q)(d:Q own (b.at a (b9 QJ::gE QJ::k)) H w):Q own (b.at a (gE QJ::k)) H w:=nQ c (λw=>stepG_inLoop) d
def nR(c:fZ P0 P S m Q)(d:Q own (b.at a k) H w):Q own (b.at a (b9 eO::k)) H w:=nQ c (λw=>stepG_skip) d
def zo(c:fZ P0 P S m Q){id:Nat}{k':List dW}(d:mC id k=K k')(e:Q own (b.at a k') H w):Q own (b.at a (b9 (.exit id)::k)) H w:=nQ c (λw=>stepG_exit d) e
def tg(c:fZ P0 P S m Q)(d:Q own {b.at a (b9 .ret::k) with mode:=jA} H w):Q own (b.at a (b9 .ret::k)) H w:=nQ c (λw=>by rfl) d
def Iq(c:fZ P0 P S m Q)(d:Q own {b.at a [] with mode:=jA} H w):Q own (b.at a []) H w:=nQ c (λw=>stepG_end) d
def Pp(c:fZ P0 P S m Q){id:Nat}(d:Q own (b.at a (bW J (eH (U J))::k)) H w):Q own (b.at a (b9 (gu id J ai)::k)) H w:=nQ c (λw=>stepG_region) d
def cQ(c:fZ P0 P S m Q)(d:Q own (b.at a k) H w):Q own (b.at a (bW J []::k)) H w:=nQ c (λw=>stepG_region_end) d
def Pg(e:fZ P0 P S m Q){id:Nat}(j:P.follows n4=af)(h:∀d,Q own (b.at a (bW J (kO ed J (U J) d (jh (U J) ai) [])::k)) H w):Q own (b.at a (b9 (gu id J af)::k)) H w:=
 e.step _ _ _ _ λc p=>by
  have f:bQ P m (aO (b.at a (b9 (gu id J af)::k)) H) c= .go (aO (b.at a (bW J (yV (P.follows n4) J (dV c (cm c) (.order b.fn id)))::k)) H) {c with drawn:=cm c+1}:=by rfl
  have q:∀d,yV (P.follows n4) J d=kO ed J (U J) d (jh (U J) ai) []:=λd=>by
   simp only[yV,j,Bool.true_or,if_true];rfl
  rw[q] at f;have n:g6 own c {c with drawn:=cm c+1}=g6 own c c:=rfl;refine⟨_,_,_,_,f,⟨λ_ _ _=>rfl,aV _,rfl,rfl,rfl,λr=>r,λs g=>by simp at g⟩,?_⟩;rw[n,Ct];exact e.rely _ _ _ _ _ (h _) (p.trans ⟨λ_ _=>rfl,aV _,rfl,rfl,rfl⟩)
def Is(d:fZ P0 P S m Q)(c:J[i]? =K o)(g:eF o (eg J a.tmps)=ai)(f:Q own (b.at (bG a o.dst cI) (bW J R::k)) H w):Q own (b.at a (bW J (i::R)::k)) H w:=by
 refine nQ d (λw=>?_) f;have e:di (b.at a (bW J (i::R)::k)) cI=b.at (bG a o.dst cI) (bW J R::k):=by rw[w9,c];rfl
 rw[<-e];simp[aO,bQ,dN,stepG.oper,Frame.oper?,Frame.at,c,g]
def tf(e:fZ P0 P S m Q)(f:eD b≠.early)(h:J[i]? =K o)(j:eF o (eg J a.tmps)=af)
 (d:∀c,(bT (bz a) o).run P c=b6 (eT v) c/\(bT (bz a) o).events P c #[]=#[]) (g:Q own (b.at (bG a o.dst v) (bW J R::k)) H w):Q own (b.at a (bW J (i::R)::k)) H w:=
 uV e f h j (λc _=>⟨(d c).1,λn p=>bh⟩) g
def Ir(h:fZ P0 P S m Q){f:fH}{args:Array dU}(n:eD b≠.early)(q:J[i]? =K o)(r:eF o (eg J a.tmps)=af)(g:o.op= .call {callee:=.value (.func f),args,argTypes:=QE})
 (d:P.funcs[f]? =K QI) (e:(QI.name == "runtime.NumGoroutine")=ai) (j:QI.body=K QJ) (p:Q own (fC P f (args.map (bz a)) eA) (b.at a (bW J (i::R)::k)::H) w):Q own (b.at a (bW J (i::R)::k)) H w:=by
 have c:lF QI.body=ai:=gJ j;refine nQ h (λw=>?_) p;rw[stepG_enter q r n (run_call_body g d e c)];have:listed P b.fn a o w=#[]:=by unfold listed;rw[events_call_body g d e c];exact Conc.seen_none P _
 rw[this]
def Pn(c:fZ P0 P S m Q){T:bK}(h:eD b=eA)(d:b8 a=[])(f:P.funcs[b.fn]? =K QI)(n:∀w,(dx QI a.tmps).run P w=b6 v w)(e:∀w,(dx QI a.tmps).events P w #[]=#[])(j:J[i]? =K o)
 (g:Q own (Qf.at (bG T o.dst v) (bW J R::k)) H w):Q own {b.at a QN with mode:=jA} (Qf.at T (bW J (i::R)::k)::H) w:=by
 refine nQ c (λw=>?_) g;rw[stepG_leave h d f (n w) (e w),w9,j];rfl
def iQ (e:Nat)(S own:Nat->Prop)(d:cK):Prop:=(∃m,d.loc= .mark m/\Neutral m)\/(∃c:aN,d.loc= .cell c/\(cH c=e\/own (cH c)\/(S (cH c)/\d.write=ai)))
def iQ.ev(f:q9 n)(g:∀b,own b->q9 b)(c:iQ n S own QT):EvW S q9 QT:=by
 unfold EvW;rcases c with⟨m,c,e⟩|⟨h,c,d⟩;rw[c];exact e;rw[c];rcases d with rfl|d|d;exact aq f;exact aq (g _ d);exact an d
def jl (S own:Nat->Prop)(w:ag):Prop:=∀b,S b\/own b->b<U w.heap
def oM(A:fZ P0 P S m Q)(D:jl S own w)(B:eD b≠.early)(I:J[i]? =K o)(L:eF o (eg J a.tmps)=af)(p:cj)(M:dm P0 p)(v:Nat->F)
 (f:∀c,RelB (λb=>S b\/own b) w c->∃d,(bT (bz a) o).run P c=b6 (eT (v (U c.heap))) d/\gP d=gW c.heap p/\d.tape=c.tape/\d.os=c.os/\d.output=c.output/\∀n∈(bT (bz a) o).events P c #[],iQ (U c.heap) S own n)
 (G:∀j d,U w.heap<=j->U d.heap=j+1->RelB (λb=>S b\/own b) w d->d.heap[j]? =K p->Q (λb=>own b\/b=j) (b.at (bG a o.dst (v j)) (bW J R::k)) H d):Q own (b.at a (bW J (i::R)::k)) H w:=
 Ek A B I L λc e=>by
  have⟨d,x,h,q,r,s,y⟩:=f c e;have u:g6 own c d=λb=>own b\/b=U c.heap:=by
   funext N;unfold g6;rw[h,Array.size_push];apply propext;constructor;rintro(f|f);exact aq f;exact an aa;rintro(f|f);exact aq f;exact an aa
  have t:∀b:Nat,b<U c.heap->d.heap[b]? =c.heap[b]? :=λb g=>by
   rw[h,p6,if_neg aa]
  refine⟨_,d,x,⟨λb g _=>t b g,by rw[h];simp,q,r,s,λ_=>trivial,λn C=>?_⟩,?_⟩;rw[u];exact(y n C).ev (an Y) (λb g=>aq g);rw[u];refine G (U c.heap) d e.size (by rw[h];simp) ⟨λb g=>?_,by rw[h];simp;have:=e.size;omega,aB q e.tape,aB r e.os,aB s e.output⟩ (by rw[h];simp);rw[<-e.at_ b g];exact t b (cL (D b g) e.size)
def jl.new(d:jl S own w)(e:U w.heap<=n)(f:U u.heap=n+1):jl S (λb=>own b\/b=n) u:=λb c=>by
 rcases c with c|c|c;have:=d b (aq c);omega;have:=d b (an c);omega;omega
def Po(n:fZ P0 P S m Q)(p:eD b≠.early)(r:J[i]? =K o)(t:eF o (eg J a.tmps)=af)
 (g:∀d,RelB (λb=>S b\/own b) w d->∃e,(bT (bz a) o).run P d=b6 .skip e/\oF P0 S own d e ((bT (bz a) o).events P d #[])/\Q (g6 own d e) (b.at (bG a o.dst cI) (bW J R::k)) H e):Q own (b.at a (bW J (i::R)::k)) H w:=
 n.step _ _ _ _ λd s=>by
  have⟨e,h,c,j⟩:=g d s;exact⟨_,_,_,_,stepG_none r t p h,⟨c.keep,c.size,c.tape,c.os,c.output,c.hp,λf q=>c.evs f (Conc.mem_listed q)⟩,j⟩
structure tX(S own:Nat->Prop)(n:Nat)(ob:cj)(w w':ag):Prop where
 at_:∀b,S b\/own b->b≠n->w'.heap[b]? =w.heap[b]?
 set:w'.heap[n]? =K ob
 size:U w.heap<=U w'.heap
 tape:dV w'=dV w
 os:w'.os=w.os
 output:fS w'=fS w
structure xz(n:Nat)(ob:cj)(w1 w':ag):Prop where
 heap:gP w'=cF w1.heap n ob
 tape:dV w'=dV w1
 os:w'.os=w1.os
 output:fS w'=fS w1
def xz.Jw(c:xz n Qk u W)(g:own n)(s:n<U u.heap)(x:dm P0 Qk)(r:∀d∈QR,iQ n S own d)(e:RelB (λb=>S b\/own b) w u):oF P0 S own u W QR/\g6 own u W=own/\tX S own n Qk w W:=by
 have v:U W.heap=U u.heap:=by rw[c.heap];simp
 have h:∀b:Nat,b≠n->W.heap[b]? =u.heap[b]? :=λb f=>by rw[c.heap,nG,if_neg (λd=>f (bA d))]
 have j:g6 own u W=own:=by
  funext y;unfold g6;rw[v];apply propext;constructor;rintro(c|c);exact c;omega;exact aq
 refine⟨⟨λb f t=>h b (λd=>t (d▸g)),aa,c.tape,c.os,c.output,λ_=>trivial,λd p=>?_⟩,j,⟨λb f q=>aB (h b q) (e.at_ b f),by rw[c.heap,nG,if_pos Y,if_pos s],cB e.size,aB c.tape e.tape,aB c.os e.os,aB c.output e.output⟩⟩;rw[j];exact(r d p).ev g (λ_ c=>c)
def xJ(t:fZ P0 P S m Q)(v:jl S own w)(u:eD b≠.early)(x:J[i]? =K o)(A:eF o (eg J a.tmps)=af)(g:own n)(f:cj)(y:dm P0 f)
 (p:∀d,RelB (λb=>S b\/own b) w d->∃c,(bT (bz a) o).run P d=b6 .skip c/\xz n f d c/\∀h∈(bT (bz a) o).events P d #[],iQ n S own h)
 (D:∀c,tX S own n f w c->Q own (b.at (bG a o.dst cI) (bW J R::k)) H c):Q own (b.at a (bW J (i::R)::k)) H w:=
 Po t u x A λd e=>by
  have⟨c,q,r,s⟩:=p d e;have⟨j,B,C⟩:=r.Jw (P0:=P0) g (cL (v n (an g)) e.size) y s e;exact⟨c,q,j,bh⟩
def Pq(t:fZ P0 P S m Q)(x:jl S own w)(u:eD b≠.early)(y:J[i]? =K o)(B:eF o (eg J a.tmps)=af)(g:own n)(f:cj)(A:dm P0 f)(v:F)
 (p:∀d,RelB (λb=>S b\/own b) w d->∃c,(bT (bz a) o).run P d=b6 (eT v) c/\xz n f d c/\∀h∈(bT (bz a) o).events P d #[],iQ n S own h)
 (G:∀c,tX S own n f w c->Q own (b.at (bG a o.dst v) (bW J R::k)) H c):Q own (b.at a (bW J (i::R)::k)) H w:=
 Ek t u y B λd e=>by
  have⟨c,q,r,s⟩:=p d e;have⟨j,C,D⟩:=r.Jw (P0:=P0) g (cL (x n (an g)) e.size) A s e;exact⟨v,c,q,j,bh⟩
def jl.set(c:jl S own w)(e:tX S own n Qk w u):jl S own u:=λb d=>cL (c b d) e.size
def Pj(r:fZ P0 P S m Q)(y:eD b≠.early){O p:Nat->Bool}{z:bK}{T:bK}(I:yl J O=af)(x:CH J O n=af)
 (M:∀(i:Nat) o e,O i=af->J[i]? =K o->o.dst=K e->e<U z.tmps/\cG z e=val i)
 (N:∀s,(∀(u:Nat) o,O u=af->J[u]? =K o->o.dst≠K s)->cG z s=cG T s)
 (D:∀i o,O i=af->p i=ai->i≠n->J[i]? =K o->(eF o (eg J z.tmps)=af/\∀d,RelB (λb=>S b\/own b) w d->(bT (bz z) o).run P d=b6 (eT (val i)) d/\∀v∈(bT (bz z) o).events P d #[],EvW S own v)\/(eF o (eg J z.tmps)=ai/\val i=cI))
 (L:∀c j l a,gq J O T z l a->n∈gd ed J l->mZ l<=c+1->Q own (b.at a (bW J (n::kO ed J c j (cF l n af) [])::k)) H w)
 (B:(∀i,i<U J->O i=af)->Q own (b.at z (bW J []::k)) H w):
 ∀(c j:Nat) (l:Array Bool) (a:bK),gq J O T z l a->(∀i,p i=af->ek l i ai=af)->mZ l<=c->Q own (b.at a (bW J (kO ed J c j l [])::k)) H w:=
 drawn (G:=λl a=>Q own (b.at a (bW J l::k)) H w) I x M N (λi o a X G A C h V t g=>by
  rcases D i o G A C h with⟨f,q⟩|⟨f,q⟩;exact uV r y h (aB t f) (λd W=>bh) g;rw[q] at g;exact Is r h (aB t f) g) L B
end
section
variable {J:Array cq}{O rD:Nat->Bool}{T z E:bK}{l:Array Bool}{a:bK}
def gq.aac(c:gq J O T z l a){o:cq}(y:n∈gd ed J l)(f:J[n]? =K o)(t:∀i,O i=af->rD i=af)(B:rD n=af)(A:E.tmps.size=z.tmps.size)(x:b8 E=b8 z)
 (D:∀(i:Nat) o d,O i=af->J[i]? =K o->o.dst=K d->cG E d=cG z d) (C:∀d,o.dst=K d->d<E.tmps.size/\cG E d=v):gq J rD T E (cF l n af) (bG a o.dst v):=by
 have⟨j,g,_,_,u⟩:=mem_ready y;rw[f] at g;cases g;have e:gq J rD T E l a:=⟨c.size,c.closed,λi p=>t i (c.ph i p),aB c.wR (bA A),aB c.xO (bA x),λs h=>by
  have⟨i,j,e,q,r⟩:=h;rw[D i j s (c.ph i e) q r];exact c.yes s h,c.no⟩
 exact e.next B f u C
def aat:mZ (jh n ai)<=n:=by
 unfold mZ;exact dj (List.countP_le_length) aF
end
section
variable {Q P:aW}{S own:Nat->Prop}{a:bK}{o:cq}{w J:ag}
def EvW.read(b:QT.loc= .cell R)(d:QT.write=ai)(c:S (cH R)\/own (cH R)):EvW S own QT:=by
 unfold EvW;rw[b];exact ff c (λe=>an ⟨e,d⟩) aq
def zv(d:RelB (λb=>S b\/own b) w J)(c:S (cH R)\/own (cH R)):aA J R=aA w R:=by
 unfold aA;rw[d.at_ (cH R) c]
def jd(h:o.op= .load Qc Qp)(hx:bz a Qp=dG (K R))(e:∀w,(isAgg Qc).run P w=b6 ai w)(f:S (cH R)\/own (cH R))(i:aA w R=K v):∀J,RelB (λc=>S c\/own c) w J->(bT (bz a) o).run P J=b6 (eT v) J/\∀d∈(bT (bz a) o).events P J #[],EvW S own d:=by
 intro J j;have g:aA J R=K v:=aB (zv j f) i;constructor;unfold bT;simp[h,hx,Instr.loadAt,uG,loadVar,e,g];intro d b;unfold bT at b;simp[h,hx,Instr.loadAt,uG,loadVar,e,g] at b;subst b;exact EvW.read Y Y f
def oU{cs:List F}{d:TypeDesc}(k:o.op= .load Qc Qp)(hx:bz a Qp=dG (K ⟨n,m,Z⟩))(l:gb P Qc=K d)(y:d.isRow=af)(j:(P.info? Qc).map (·.size)=K (I cs))(u:S n\/own n)(x:pq w n m cs):∀J,RelB (λc=>S c\/own c) w J->(bT (bz a) o).run P J=b6 (eT (cw (cX cs))) J/\∀e∈(bT (bz a) o).events P J #[],EvW S own e:=by
 intro J C;have f:pq J n m cs:=λb v h=>aB (zv C u) (x b v h);have B:=run_loadAt_mid (P:=P) J n m Qc cs d f l y j;constructor
 .unfold bT;simp[k,hx,B]
 intro e g;have t:(isAgg Qc).run P J=b6 af J:=by
  unfold isAgg;rw[s0,uL l J];cases d<;>simp_all
 have⟨M,A,E⟩:=vS.1 j;have D:(mD Qc).run P J=b6 (I cs) J:=by simp[mD,mE,A,E]
 unfold bT at g;simp only[k,hx] at g;have z:e∈(loadCellsFrom ⟨n,m,Z⟩ 0 (I cs) #[]).events P J #[]:=by
  have i:∃p,(loadCells ⟨n,m,Z⟩ (I cs)).run P J=b6 p J:=⟨_,run_loadCells_list (P:=P) J ⟨n,m,Z⟩ cs (λb v G=>by rw[tN];exact f b v G)⟩;have⟨p,i⟩:=i;simpa [Instr.loadAt,uG,loadVar,t,D,i,loadCells] using g
 rcases events_loadCellsFrom_at (P:=P) ⟨n,m,Z⟩ (λc=>c=n) rfl (I cs) 0 #[] J #[] (λb h=>by
  rw[e7,tN,f b cs[b] (dH h)];rfl) e z with q|⟨H,r,s,L⟩
 simp at q;exact EvW.read r s bh
def zP(f:o.op= .box Qc Qp)(hx:bz a Qp=v):∀J,RelB (λc=>S c\/own c) w J->∃b,(bT (bz a) o).run P J=b6 (eT (aZ (U J.heap))) b/\gP b=gW J.heap (ax v.cells Qc)/\dV b=dV J/\b.os=J.os/\fS b=fS J/\∀d∈(bT (bz a) o).events P J #[],iQ (U J.heap) S own d:=by
 intro J g;refine⟨cD J (ax v.cells Qc),?_,rfl,rfl,rfl,rfl,?_⟩;unfold bT;simp[f,hx,Instr.box,newVar,newRow];intro d e;unfold bT at e;simp[f,hx,Instr.box,newVar,newRow] at e
def CA(f:o.op= .alloc Qc)(g:∀w,(kR Qc).run P w=b6 v w):∀J,RelB (λc=>S c\/own c) w J->∃b,(bT (bz a) o).run P J=b6 (eT (aZ (U J.heap))) b/\gP b=gW J.heap (ax v.cells Qc)/\dV b=dV J/\b.os=J.os/\fS b=fS J/\∀d∈(bT (bz a) o).events P J #[],iQ (U J.heap) S own d:=by
 intro J h;refine⟨cD J (ax v.cells Qc),?_,rfl,rfl,rfl,rfl,?_⟩;unfold bT;simp[f,Instr.alloc,g,newVar,newRow];intro d e;unfold bT at e;simp[f,Instr.alloc,g,newVar,newRow] at e
def L4{b:Nat×Nat}(d:J.heap[n]? =K (ax C Qc b)):xz n (ax qJ Qc b) J (J.setRow n qJ):=by
 refine⟨?_,rfl,rfl,rfl⟩;unfold World.setRow;apply vB;intro e;simp only[uC,nG];by_cases c:n=e;subst c;rw[if_pos Y,if_pos Y,if_pos ((dY.1 d).1),d];rfl;simp[c]
def wB(i:o.op= .store Qc Qp Qq)(hx:bz a Qp=dG (K ⟨n,off,Z⟩))(hy:bz a Qq=v)(x:(P.info? Qc).map (·.size)=K v.cells.size)(c:∀m∈dD v.cells,nM m=af)(r:S n\/own n)(u:w.heap[n]? =K (ax C Qd (0,0)))(z:off+v.cells.size<=C.size):
 ∀J,RelB (λf=>S f\/own f) w J->∃k,(bT (bz a) o).run P J=b6 .skip k/\xz n (ax (cX (C.toList.take off++dD v.cells++C.toList.drop (off+v.cells.size))) Qd (0,0)) J k/\∀b∈(bT (bz a) o).events P J #[],iQ n S own b:=by
 intro J y;have d:bD J n C Qd:=aB (y.at_ n r) u;have⟨A,h,j⟩:=vS.1 x;have e:=run_storeCells_at P n off Qd (dD v.cells) 0 C J d aa c;have t:=events_storeCells_at (P:=P) n off Qd (dD v.cells) 0 C J #[] d aa c;simp only[s6,Array.length_toList] at e;refine⟨_,?_,L4 d,λb g=>?_⟩;unfold bT;simp[i,hx,hy,Instr.storeAt,uG,storeVar,mD,mE,h,j,e];have s:b∈(storeCells ⟨n,off,Z⟩ (dD v.cells) 0).events P J #[]:=by
  unfold bT at g;simpa [i,hx,hy,Instr.storeAt,uG,storeVar,mD,mE,h,j,e] using g
 rcases t b s with p|⟨l,c,q⟩;simp at p;exact an ⟨l,c,aq q⟩
def Ft{c:nL}{kl g:iX}{L b:Nat}(m:o.op= .makeSlice Qc Qp Qq)(l:bz a Qp=bt kl (L:Int))(j:bz a Qq=bt g (b:Int))(n:gb P Qc=K (.slice Qd))(k:P.info? Qd=K c)(p:jL c=K v)(s:L<=b)(u:b*ji c<=140737488355328)(r:b<=9223372036854775807):
 ∀J,RelB (λh=>S h\/own h) w J->∃d,(bT (bz a) o).run P J=b6 (eT (aI (U J.heap) L b)) d/\gP d=gW J.heap (ax (px v.cells (b*c.size)) Qd)/\dV d=dV J/\d.os=J.os/\fS d=fS J/\∀Qd∈(bT (bz a) o).events P J #[],iQ (U J.heap) S own Qd:=by
 intro J t;have i:(ji c:Int)*(b:Int)<=281474976710656:=bh;have f:=run_make (P:=P) J Qc Qd c v n k p kl g (L:Int) (b:Int) aa aa i aa;simp only[Int.toNat_natCast] at f;refine⟨cD J (ax (px v.cells (b*c.size)) Qd),?_,rfl,rfl,rfl,rfl,λq e=>?_⟩;unfold bT;simp[m,l,j,f];unfold bT at e;simp only[m,l,j] at e;simp[f,(events_make (P:=P) J Qc Qd c v n k p kl g (L:Int) (b:Int) aa aa i aa bh #[])] at e
def Vc{l:ChanDir}{k:nL}(h:o.op= .makeChan Qc Qp)(hx:bz a Qp=bt Qv (n:Int))(j:gb P Qc=K (.chan l Qd))(g:P.info? Qd=K k)(e:(n:Int)<=9223372036854775807)(f:(ji k:Int)*n<=281474976710544):
 ∀J,RelB (λd=>S d\/own d) w J->∃b,(bT (bz a) o).run P J=b6 (eT (.chan (K (U J.heap)))) b/\gP b=gW J.heap (.chan n #[] ai 0 0 ai)/\dV b=dV J/\b.os=J.os/\fS b=fS J/\∀Qd∈(bT (bz a) o).events P J #[],iQ (U J.heap) S own Qd:=by
 intro J p;have i:=run_makeChan (P:=P) (w:=J) j g Qv n e f;refine⟨cD J (.chan n #[] ai 0 0 ai),?_,rfl,rfl,rfl,rfl,λm c=>?_⟩;unfold bT;simp[h,hx,i];unfold bT at c;simp only[h,hx] at c;simp[i,(events_makeChan (P:=P) (w:=J) j g Qv n e f #[])] at c
end
structure Knows(a:bK)(n:Nat)(l:List (Nat×F)):Prop where
 size:U a.tmps=n
 slot:∀s v,l.lookup s=K v->cG a s=v
def L6{a:bK}(c:n<U a.tmps)(v:F)(s:Nat):cG (bG a (K n) v) s=if n=s then v else cG a s:=by
 unfold cG bG;simp only[jT,nG];by_cases b:n=s;subst b;simp[c];simp[b]
def size_put{a:bK}:(bG a QX v).tmps.size=U a.tmps:=by
 unfold bG
 split<;>simp
def Knows.put{a:bK}(e:Knows a n H)(g:d<n)(v:F):Knows (bG a (K d) v) n ((d,v)::H):=by
 refine⟨aB (size_put) e.size,λs h b=>?_⟩;rw[L6 (b5 e.size g)];simp only[y3] at b;by_cases c:d=s;subst c;simp at b;simp[b];have:(s==d)=ai:=by simpa using λf=>c (bA f)
 rw[this] at b;rw[if_neg c];exact e.slot s h b
def Knows.none{a:bK}(b:Knows a n H)(v:F):Knows (bG a Z v) n H:=b
def Knows.of{a:bK}(b:Knows a n H){s:Nat}(c:H.lookup s=K v):bz a (.tmp s)=v:=b.slot s v c
section
variable {P:aW}{a:bK}{o:cq}
def gz(c:o.op= .move Qp)(hx:bz a Qp=v):∀b,(bT (bz a) o).run P b=b6 (eT v) b/\(bT (bz a) o).events P b #[]=#[]:=λb=>by
 unfold bT;simp[c,hx]
def wz(c:o.op= .assign Qp)(hx:bz a Qp=v):∀b,(bT (bz a) o).run P b=b6 (eT v) b/\(bT (bz a) o).events P b #[]=#[]:=λb=>by
 unfold bT;simp[c,hx]
def U9{d:Array Field}{c:Field}(h:o.op= .fieldAddr Qc Qp f)(hx:bz a Qp=dG (K ⟨n,m,Z⟩))(j:gb P Qc=K (.struct d))(g:d[f]? =K c)(i:∀e,(mD c.type).run P e=b6 (k+1) e):
 ∀b,(bT (bz a) o).run P b=b6 (eT (dG (K ⟨n,m+c.offset,Z⟩))) b/\(bT (bz a) o).events P b #[]=#[]:=λb=>by
 unfold bT;simp[h,hx,Instr.fieldAt,uL j,g,uG,fieldPlace,i,tN]
def pS(g:o.op= .indexAddr Qc Qp Qq)(hx:bz a Qp= .slice (K ⟨n,m,Z⟩) k i)(hy:bz a Qq=bt Qv (b:Int))(l:gb P Qc=K (.slice Qd))(h:∀e,(mD Qd).run P e=b6 j e)(p:b<k):
 ∀c,(bT (bz a) o).run P c=b6 (eT (dG (K ⟨n,m+b*j,Z⟩))) c/\(bT (bz a) o).events P c #[]=#[]:=λc=>by
 have f:(b:Int)<(k:Int):=aa;unfold bT;simp[g,hx,hy,Instr.indexAt,asIntOf,uL l,f,h,tN];exact⟨λd=>absurd d aa,λd=>absurd d aa⟩
def vg(c:o.op= .call {callee:=.builtin .len,args:= #[Qp],argTypes:= #[Qc]})(hx:bz a Qp= .slice O n m)(d:gb P Qc=K (.slice Qd)):
 ∀b,(bT (bz a) o).run P b=b6 (eT (n9 n)) b/\(bT (bz a) o).events P b #[]=#[]:=λb=>by
 unfold bT;simp[c,hx,oD,invoke,builtin,Builtin.len_,uL d,goInt]
def wA(c:o.op= .extract Qp n)(hx:bz a Qp=cC C)(d:C[n]? =K v):∀b,(bT (bz a) o).run P b=b6 (eT v) b/\(bT (bz a) o).events P b #[]=#[]:=λb=>by
 unfold bT;simp[c,hx,Instr.extract,d]
def Kl{c d e:dU}(f:o.op= .pick c d e)(hx:bz a c=ak qV):∀b,(bT (bz a) o).run P b=b6 (eT (if qV then bz a d else bz a e)) b/\(bT (bz a) o).events P b #[]=#[]:=λb=>by
 unfold bT;simp[f,hx,asBool]
def Vb(c:o.op= .binOp .lss Qc Qp Qq Qd)(hx:bz a Qp=z9 M)(hy:bz a Qq=z9 qA):∀b,(bT (bz a) o).run P b=b6 (eT (ak (decide (M<qA)))) b/\(bT (bz a) o).events P b #[]=#[]:=λb=>by
 unfold bT;simp[c,hx,hy,binOp,eqGuard,Op.intCmp]
def U8(c:o.op= .binOp .eql Qc Qp Qq Qd)(hx:bz a Qp=z9 M)(hy:bz a Qq=z9 qA):∀b,(bT (bz a) o).run P b=b6 (eT (ak (M==qA))) b/\(bT (bz a) o).events P b #[]=#[]:=λb=>by
 unfold bT;simp[c,hx,hy,binOp,eqGuard,Op.intCmp]
def Vd(c:o.op= .binOp .neq Qc Qp Qq Qd)(hx:bz a Qp=z9 M)(hy:bz a Qq=z9 qA):∀b,(bT (bz a) o).run P b=b6 (eT (ak (M !=qA))) b/\(bT (bz a) o).events P b #[]=#[]:=λb=>by
 unfold bT;simp[c,hx,hy,binOp,eqGuard,Op.intCmp]
def uk(c:o.op= .binOp .add Qc Qp Qq Qd)(hx:bz a Qp=n9 n)(hy:bz a Qq=n9 j)(d:n+j<=9223372036854775807):∀b,(bT (bz a) o).run P b=b6 (eT (z9 ((n+j:Nat):Int))) b/\(bT (bz a) o).events P b #[]=#[]:=λb=>by
 have:bM.wrap ((n:Int)+(j:Int))=((n+j:Nat):Int):=by rw[kw]<;>omega
 unfold bT;simp[c,hx,hy,binOp,eqGuard,Op.intArith,this]
end
def below(P:aW):aP:={(default:aP) with fn:=U P.funcs,mode:=kr [goexitEntry]}
section
variable {H P:aW}{S:Nat->Prop}{c:Nat}{own:Nat->Prop}{O:List F}{R:List aP}{w:ag}{b:aP}{a:bK}{k:List dW}{Q:Array cq}{i:Nat}{J:List Nat}{o:cq}
def aaV {f:fH} (e:P.funcs[f]? =K QI) (r:(QI.name == "runtime.NumGoroutine")=ai) (d:QI.body=K QJ) (h:gS H P S c own O (aO ((baseD f).at {tmps:=args++jh (QI.ntmps-U args) cI,defers:=[]} [b9 QJ]) [below P]) w):gS H P S c own O (born P (dcall f args)) w:=by
 have p:∀w,bQ P ai (born P (dcall f args)) w= .go (aO ((baseD f).at {tmps:=args++jh (QI.ntmps-U args) cI,defers:=[]} [b9 QJ]) [below P]) w #[]:=by
  intro w;have j:¬QI.name= "runtime.NumGoroutine" :=bh;rw[<-enter_atD args e d];simp[born,bQ,mF,callDeferred,dcall,invoke,callFunc,e,j,d,pg,seen_none,aO,below];rfl
 exact aa1 Y (λg _=>p g) (λq l=>by simp at l) (λg n=>h.rely n)
def NA(t:eD b= .deferred)(r:a.defers=[{target:=.builtin .close QE Qc q7,args:= #[fp (K c)]}])(f:P.funcs[b.fn]? =K QI)(v:r4 QI=#[])(u:QI.norace=ai):gS H P S c own [] (aO {b.at a QN with mode:=jA} [below P]) w:=by
 refine aaX (n:=2) (g':=aO {b.at ⟨a.tmps,[]⟩ QN with mode:=jA} [below P]) Y ?_ ?_ ?_;refine an ⟨rfl,aO (below P) [],λw=>?_,an ⟨rfl,{aO (below P) [] with status:=.finished},λw=>?_,rfl⟩⟩;simp[aO,bQ,mF,l5,Frame.at,t,f,dx,v,seen,pg,below,goexitEntry];have j:(default:aP).defers=[]:=rfl;have l:(default:aP).todo=[]:=rfl;simp[aO,bQ,mF,below,Frame.catches,goexitEntry,j,l];simp[mayWake,aO,Frame.at];intro d _ h g s x y e;have n:(invoke (.builtin .close QE Qc q7) #[fp (K c)]).run P d=b6 (eT (cC #[])) (lZ d c h g af s x y):=by
  simp[go_sem,run_close_open _ _ e,lZ]
 have p:(invoke (.builtin .close QE Qc q7) #[fp (K c)]).events P d #[]=#[⟨.obj c,ai,af⟩,⟨.obj c,af,af⟩]:=by
  simp[go_sem,events_close_open _ _ e]
 have q:seen P b.fn #[⟨.obj c,ai,af⟩,⟨.obj c,af,af⟩]=#[⟨.obj c,ai,af⟩,⟨.obj c,af,af⟩]:=seen_eq (by simp[f,u]) aF;simp[aO,bQ,mF,callDeferred,Frame.at,r,n,p,q,pg]
def aaP(g:eD b≠.early)(e:Q[i]? =K o)(q:eF o (eg Q a.tmps)=af)(f:o.op= .send Qp Qq)(hx:bz a Qp=fp (K c))(hy:bz a Qq=v)
 (j:gS H P S c own O (aO (b.at (bG a o.dst cI) (bW Q J::k)) R) w):gS H P S c own (v::O) (aO (b.at a (bW Q (i::J)::k)) R) w:=by
 have p:nJ (aO (b.at a (bW Q (i::J)::k)) R) cI=aO (b.at (bG a o.dst cI) (bW Q J::k)) R:=by
  simp only[nJ,aO,w9,e];rfl
 refine aa0 (g2:=aO (b.at a (bW Q (i::J)::k)) R) (z:=cC #[]) Y λd l=>⟨?_,b5 p (j.rely l)⟩;have n:(bT (bz a) o).run P d=b6 (.comm #[scase c v (cC #[])] af .send) d:=by
  unfold bT;simp[f,hx,hy,scase]
 have h:(bT (bz a) o).events P d #[]=#[]:=by
  unfold bT;simp[f,hx,hy]
 rw[stepG_comm e q g n];unfold listed;rw[h,seen_none]
end
section
variable {H P:aW}{S:Nat->Prop}{m:Bool}{T:(Nat->Prop)->aP->List aP->ag->Prop}{own:Nat->Prop}{R:List aP}{w:ag}{b:aP}{a:bK}{k:List dW}{Q:Array cq}{i:Nat}{J:List Nat}{o:cq}
def Pf(h:fZ H P S m T)(s:eD b≠.early)(e:Q[i]? =K o)(r:eF o (eg Q a.tmps)=af){d:Builtin}(f:o.op= .defer {callee:=.builtin d,args:= #[Qp],argTypes:=QE})(hx:bz a Qp=v)
 (n:∀g,T own (b.at (bG ⟨a.tmps,{target:=.builtin d QE o.type g,args:= #[v]}::b8 a⟩ o.dst cI) (bW Q J::k)) R w):T own (b.at a (bW Q (i::J)::k)) R w:=by
 refine nQ h (λw=>?_) (n (#[Qp].map fun| .const _=>af|_=>ai));have q:(bT (bz a) o).run P w=b6 (.defer {target:=.builtin d QE o.type (#[Qp].map fun| .const _=>af|_=>ai),args:= #[v]}) w:=by
  unfold bT;simp[f,oD,hx];cases Qp<;>rfl
 have j:(bT (bz a) o).events P w #[]=#[]:=by
  unfold bT;simp[f,oD]
 have l:di (b.at ⟨a.tmps,{target:=.builtin d QE o.type (#[Qp].map fun| .const _=>af|_=>ai),args:= #[v]}::b8 a⟩ (bW Q (i::J)::k)) cI=b.at (bG ⟨a.tmps,{target:=.builtin d QE o.type (#[Qp].map fun| .const _=>af|_=>ai),args:= #[v]}::b8 a⟩ o.dst cI) (bW Q J::k):=by rw[w9,e];rfl
 have p:(eD b==CallKind.early)=ai:=bh;rw[stepG_oper e r,<-l];simp[kx,q,j,aO,Frame.at,p,pg,seen_none]
end
def fill (a:bK):List (Nat×F)->bK
 | []=>a
 |(c,v)::l=>bG (fill a l) (K c) v
theorem xR{a:bK}:∀l,(fill a l).tmps.size=U a.tmps
 | []=>rfl
 |(c,v)::l=>aB (size_put) (xR l)
theorem rH{a:bK}:∀l,b8 (fill a l)=b8 a
 | []=>rfl
 |(c,v)::l=>rH l
theorem Knows.fill{n:Nat}{R:List (Nat×F)}(c:Knows qS n R):∀(l:List (Nat×F)),(dM l λd=>decide (d.1<n))=af->Knows (fill qS l) n (l++R)
 | [],_=>c
 |(e,v)::l,a=>by
  simp only[List.all_cons,ez,decide_eq_true_eq] at a;exact(Knows.fill c l a.2).put a.1 v
theorem zD{a:bK}{s:Nat}:∀(l:List (Nat×F)),(dM l λg=>decide (g.1<U a.tmps))=af->cG (fill a l) s=(l.lookup s).getD (cG a s)
 | [],_=>rfl
 |(c,v)::l,e=>by
  simp only[List.all_cons,ez,decide_eq_true_eq] at e;show cG (bG (fill a l) (K c) v) s=_;rw[L6 (by rw[xR];exact e.1),zD l e.2,y3];by_cases d:c=s
  .subst d;simp
  .have:(s==c)=ai:=by simpa using λf=>d (bA f)
   rw[this,if_neg d]
def kY (J:Array cq)(a:Nat):Option Nat:=(J[a]?).bind (·.dst)
def nS (J:Array cq)(Ph:Nat->Bool)(u n:Nat)(d:List Nat):Bool:=
 yl J Ph&&CH J Ph u&&dM d (λc=>decide (c<n)&&(eH (U J)).any λa=>Ph a&&kY J a==K c)&&dM (eH (U J)) λa=> !Ph a||match kY J a with
  |some c=>iP d c
  |none=>af
theorem JW{s:Nat}:∀{l:List (Nat×F)},iP (l.map (·.1)) s=af->∃v,l.lookup s=K v
 | [],a=>by simp at a
 |(c,v)::l,a=>by
  simp only[tV,List.contains_cons,tL] at a;rw[y3];cases d:s==c with
  |true=>exact⟨v,rfl⟩
  |false=>
   rw[d] at a;exact JW (a.resolve_left aF)
theorem AY{s:Nat}{v:F}:∀{l:List (Nat×F)},l.lookup s=K v->s∈l.map (·.1)
 | [],a=>by simp at a
 |(d,e)::l,a=>by
  rw[y3] at a;cases c:s==d with
  |true=>simp at c;simp[c]
  |false=>rw[c] at a;simp[AY a]
section
variable {O P:aW}{S:Nat->Prop}{m:Bool}{Q:(Nat->Prop)->aP->List aP->ag->Prop}{own:Nat->Prop}{H:List aP}{w:ag}{b:aP}{a0:bK}{k:List dW}{J:Array cq}{Ph Dn:Nat->Bool}{u n:Nat}{l R:List (Nat×F)}
def FJ(i:nS J Ph u n (l.map (·.1))=af)(B:U a0.tmps=n):yl J Ph=af/\CH J Ph u=af/\(dM l λf=>decide (f.1<U a0.tmps))=af/\(∀c a d,Ph c=af->J[c]? =K a->a.dst=K d->∃v,l.lookup d=K v/\d<U a0.tmps)/\∀s,(∀(t:Nat) a,Ph t=af->J[t]? =K a->a.dst≠K s)->cG (fill a0 l) s=cG a0 s:=by
 unfold nS at i;simp only[ez] at i;have⟨⟨⟨x,y⟩,z⟩,A⟩:=i;have o:=fD.1 z;have p:(dM l λf=>decide (f.1<U a0.tmps))=af:=fD.2 λf q=>bh;refine⟨x,y,p,λc a d q e g=>?_,λs C=>?_⟩;have:=fD.1 A c (n6.2 (dY.1 e).1);rw[q] at this;have j:kY J c=a.dst:=by unfold kY;rw[e];rfl
 rw[j,g] at this;simp only[Bool.not_true,Bool.false_or] at this;have⟨v,r⟩:=JW this;refine⟨v,r,?_⟩;have:=o d (AY r);simp only[ez,decide_eq_true_eq] at this;rw[B];exact this.1;rw[zD l p];cases g:l.lookup s with
 |none=>rfl
 |some v=>
  exfalso
  have:=o s (AY g);simp only[ez] at this;have⟨c,D,h⟩:=xk.1 this.2;simp only[ez,beq_iff_eq,kY] at h;have⟨a,e,j⟩:=lE.1 h.2;exact C c a h.1 e j
def sr(F:fZ O P S m Q)(M:eD b≠.early)(r:Knows a0 n R)(N:nS J Ph u n (l.map (·.1))=af)
 (Y:Knows (fill a0 l) n (l++R)->∀a c,Ph a=af->Dn a=ai->a≠u->J[a]? =K c->∃v,(c.dst.bind λh=>l.lookup h)=K v/\((eF c (eg J (fill a0 l).tmps)=af/\∀o,RelB (λb=>S b\/own b) w o->(bT (bz (fill a0 l)) c).run P o=b6 (eT v) o/\∀i∈(bT (bz (fill a0 l)) c).events P o #[],EvW S own i)\/(eF c (eg J (fill a0 l).tmps)=ai/\v=cI)))
 (Z:∀c,J[u]? =K c->∀g j d e,gq J Ph a0 (fill a0 l) d e->u∈gd ed J d->mZ d<=g+1->(∀s∈c.looksAt J,cG e s=cG (fill a0 l) s)->eF c (eg J e.tmps)=eF c (eg J (fill a0 l).tmps)->Q own (b.at e (bW J (u::kO ed J g j (cF d u af) [])::k)) H w)
 (U:(∀a,a<J.size->Ph a=af)->Knows (fill a0 l) n (l++R)->Q own (b.at (fill a0 l) (bW J []::k)) H w):
 ∀(g j:Nat) (d:Array Bool) (e:bK),gq J Ph a0 (fill a0 l) d e->(∀a,Dn a=af->d.getD a ai=af)->mZ d<=g->Q own (b.at e (bW J (kO ed J g j d [])::k)) H w:=by
 have⟨p,G,z,L,q⟩:=FJ (a0:=a0) N r.size;have A:=r.fill l (by rw[<-r.size];exact z);refine Pj F M (val:=λa=>((kY J a).bind λh=>l.lookup h).getD cI) p G (λa c h x f C=>?_) q (λa c x T V f=>?_) (λg j d e t D X=>?_) (λI=>U I A);have⟨v,y,W⟩:=L a c h x f C;have i:kY J a=K h:=by unfold kY;rw[f];exact C
 refine⟨by rw[xR];exact W,?_⟩;rw[zD l z,i];simp[y];have⟨v,y,E⟩:=Y A a c x T V f;have i:kY J a=c.dst:=by unfold kY;rw[f];rfl
 rw[i,y];exact E;have⟨c,f,_,_,B⟩:=mem_ready D;exact Z c f g j d e t D X (t.looks p q f B) (t.exec p q f B).2
def gq.AR{rD:Nat->Bool}(x:gq J Ph a0 (fill a0 l) q7 qS)(B:u∈gd ed J q7)(A:J[u]? =K Qr)(i:U a0.tmps=n)(s:nS J Ph u n (l.map (·.1))=af)(r:(dM (l2++l) λd=>decide (d.1<n))=af)
 (q:∀c,Ph c=af->rD c=af) (C:rD u=af) (t:(dM (eH (U J)) λc=> !Ph c||match kY J c with|some a=> !(iP (l2.map (·.1))) a|none=>af)=af) (D:∀a,Qr.dst=K a->(l2++l).lookup a=K v):gq J rD a0 (fill a0 (l2++l)) (cF q7 u af) (bG qS Qr.dst v):=by
 have⟨E,G,p,L,M⟩:=FJ (a0:=a0) s i;have g:(dM (l2++l) λd=>decide (d.1<U a0.tmps))=af:=bh;refine x.aac B A q C (by rw[xR,xR]) (by rw[rH,rH]) (λc I a f j e=>?_) (λa e=>?_);rw[zD _ g,zD l p];have:=fD.1 t c (n6.2 (dY.1 j).1);have o:kY J c=K a:=by unfold kY;rw[j];exact e
 rw[f,o] at this;simp only[Bool.not_true,Bool.false_or,Bool.not_eq_true'] at this;have z:l2.lookup a=Z:=bh;rw[List.lookup_append,z];rfl;have h:=D a e;refine⟨?_,by rw[zD _ g,h];rfl⟩;rw[xR,i];have:=fD.1 r;have y:=AY h;obtain⟨d,f,rfl⟩:=kA.1 y;simpa using this d f
def under(J:Array cq):Nat->List Nat->List Nat
 |0,l=>l
 |n+1,l=>l++under J n (l.flatMap λc=>match J[c]? with
  |some d=>(d.after.toList.filter λa=>iN ed a).map (·.on)
  |none=>[])
theorem Nn{v:bK}{h:Array Bool}{p:bK}(j:gq J Ph a0 v h p):∀(n:Nat) (l:List Nat),(∀o∈l,ek h o ai=af)->∀d∈under J n l,ek h d ai=af
 |0,l,e,d,a=>e d a
 |n+1,l,e,d,a=>by
  rcases eG.1 a with a|a;exact e d a;refine Nn j n _ (λo c=>?_) d a;have⟨g,r,c⟩:=List.mem_flatMap.1 c;cases f:J[g]? with
  |none=>rw[f] at c;simp at c
  |some t=>
   rw[f] at c;obtain⟨q,i,rfl⟩:=kA.1 c;have⟨i,s⟩:=List.mem_filter.1 i;exact j.closed g t (e g r) f q bh s
def tC(q:gq J Ph a0 qS q7 qT)(t:u∈gd ed J q7)(p:(dM (eH (U J)) λa=> !Dn a||a==u||iP (under J i (match J[u]? with
 |some g=>(g.after.toList.filter λc=>iN ed c).map (·.on)
 |none=>[])) a)=af) (h:∀a,Dn a=af->a<U J):∀a,Dn a=af->ek (cF q7 u af) a ai=af:=by
 intro a f;have⟨g,s,v,_,j⟩:=mem_ready t;rw[xW bh];have:=fD.1 p a (n6.2 (h a f));rw[f,s] at this;simp only[Bool.not_true,Bool.false_or,tL,beq_iff_eq] at this;rcases this with d|d;simp[d];rw[Nn q _ _ (λx r=>by
  obtain⟨c,e,rfl⟩:=kA.1 r;have⟨e,o⟩:=List.mem_filter.1 e;exact j c bh o) a (List.contains_iff_mem.1 d)]
 simp
def xI(h:fZ O P S m Q){id:Nat}(i:P.follows n4=af)(c:∀(g e:Nat) (a:Array Bool) (f:bK),gq J Ph a0 (fill a0 l) a f->(∀d,(λ_=>ai) d=af->ek a d ai=af)->mZ a<=g->Q own (b.at f (bW J (kO ed J g e a [])::k)) H w):Q own (b.at a0 (b9 (gu id J af)::k)) H w:=
 Pg h i λe=>c _ e _ _ (gq.start (bA (xR _)) (bA (rH _))) (λd c=>cV c) aat
def T6(h:∀a,a<U J->ek q7 a ai=af):∀d f,kO ed J d f q7 []=[]:=by
 have o:gd ed J q7=[]:=by
  refine List.eq_nil_iff_forall_not_mem.2 λa i=>?_;have⟨p,_,j,e,_⟩:=mem_ready i;have c:=h a j;simp only[jT] at c e;cases g:q7[a]? with
  |none=>rw[g] at c;cases c
  |some b=>rw[g] at c e;simp at c e;rw[c] at e;cases e
 intro d f;cases d with
 |zero=>rfl
 |succ d=>
  simp only[kO];change (match (gd ed J q7)[f%I (gd ed J q7)]? with
   |some a=>kO ed J d (f/I (gd ed J q7)) (cF q7 a af) [a]
   |none=>[].reverse)=[]
  rw[o];rfl
def zM(g:gq J Ph a0 (fill a0 l) q7 qS)(o:u∈gd ed J q7)(p:Ph u=ai)(j:U a0.tmps=n)(f:nS J Ph u n (l.map (·.1))=af)(c:∀a,a<U J->ek (cF q7 u af) a ai=af):qS=fill a0 l/\∀d q,kO ed J d q (cF q7 u af) []=[]:=by
 have⟨r,s,t,v,e⟩:=FJ (a0:=a0) f j;have⟨_,_,x,_,_⟩:=mem_ready o;refine⟨g.OF e p λa h i=>?_,T6 c⟩;have:=c a h;rw[xW bh] at this;simpa [i] using this
end
def RelB.mono{w Q:ag}(c:RelB q9 w Q)(d:∀b,Qa b->q9 b):RelB Qa w Q:=⟨λb e=>c.at_ b (d b e),c.size,c.tape,c.os,c.output⟩
section
variable {A P:aW}{H:F->ag->Prop}{S O:Nat->Prop}{E:Nat->Option (List F)}{T:List aP}{w:ag}{b:aP}{a:bK}{k:List dW}{J:Array cq}{i:Nat}{R:List Nat}{o:cq}
def eI.rely{Q:ag}(c:eI A P H S O E QV w)(d:RelB (λb=>S b\/O b) w Q):eI A P H S O E QV Q:=by
 have⟨e,c⟩:=c;exact⟨e,c.tH d⟩
def L1(c:J[i]? =K o):nJ (aO (b.at a (bW J (i::R)::k)) T) v=aO (b.at (bG a o.dst v) (bW J R::k)) T:=by
 simp only[nJ,aO,w9,c];rfl
def MT{m:Bool}{f:ChanDir}(g:eD b≠.early)(j:J[i]? =K o)(p:eF o (eg J a.tmps)=af)(c:o.op= .recv Qc Qp af)(d:gb P Qc=K (.chan f Qd))(e:∀w,(kR Qd).run P w=b6 v w)(q:∀w,(kR Qd).events P w #[]=#[])(hx:bz a Qp= .chan (K n)){w:ag}:
 bQ P m (aO (b.at a (bW J (i::R)::k)) T) w= .comm (aO (b.at a (bW J (i::R)::k)) T) #[rcase n v] af (.recv af) w #[]:=by
 have l:(bT (bz a) o).run P w=b6 (.comm #[rcase n v] af (.recv af)) w:=by
  unfold bT;simp[c,hx,uL d,e,rcase]
 have h:(bT (bz a) o).events P w #[]=#[]:=by
  unfold bT;simp[c,hx,uL d,e,q]
 rw[stepG_comm j p g l];unfold listed;rw[h,seen_none]
def Ud{d:ChanDir}(e:eD b≠.early)(c:J[i]? =K o)(l:eF o (eg J a.tmps)=af)(g:o.op= .recv Qc Qp af)(j:gb P Qc=K (.chan d Qd))(m:∀w,(kR Qd).run P w=b6 x w)(p:∀w,(kR Qd).events P w #[]=#[])(hx:bz a Qp= .chan (K n))(q:E n=K (v::qM))
 (f:eI A P H S O (gm E n (K qM)) (aO (b.at (bG a o.dst (recvd af v af)) (bW J R::k)) T) w):eI A P H S O E (aO (b.at a (bW J (i::R)::k)) T) w:=
 Uo (g2:=aO (b.at a (bW J (i::R)::k)) T) (z:=x) q ⟨rfl,rfl,rfl⟩ λQ h=>⟨MT e c l g j m p hx,b5 (L1 c) (f.rely h)⟩
def Ue{d:ChanDir}(e:eD b≠.early)(c:J[i]? =K o)(l:eF o (eg J a.tmps)=af)(g:o.op= .recv Qc Qp af)(j:gb P Qc=K (.chan d Qd))(m:∀w,(kR Qd).run P w=b6 v w)(p:∀w,(kR Qd).events P w #[]=#[])(hx:bz a Qp= .chan (K n))(q:E n=K [])
 (f:eI A P H S O (gm E n Z) (aO (b.at (bG a o.dst (recvd af v ai)) (bW J R::k)) T) w):eI A P H S O E (aO (b.at a (bW J (i::R)::k)) T) w:=
 Up (g2:=aO (b.at a (bW J (i::R)::k)) T) (z:=v) q ⟨rfl,rfl,rfl⟩ λQ h=>⟨MT e c l g j m p hx,b5 (L1 c) (f.rely h)⟩
def Uf{f:fH}{vs:List F}(p:eD b≠.early)(u:J[i]? =K o)(x:eF o (eg J a.tmps)=af)(e:o.op= .go {callee:=.value (.func f),args:=QM,argTypes:=QE})(l:QM.map (bz a)=args)(h:O n)(t:I vs<=cap)(y:E n=Z)(q:w.heap[n]? =K (.chan cap #[] ai 0 0 ai))
 (j:∀Q,RelB (λb=>S b\/O b) w Q->gS A P S n (λ_=>False) vs (born P (dcall f args)) Q)
 (s:eI A P H S (λb=>O b/\b≠n) (gm E n (K vs)) (aO (b.at (bG a o.dst cI) (bW J R::k)) T) w):eI A P H S O E (aO (b.at a (bW J (i::R)::k)) T) w:=by
 have d:bz a (.func f)= .func (.func f) #[] #[]:=rfl;refine Uq h t y q λQ g=>⟨_,_,?_,rfl,j Q g,s.rely (g.mono λb m=>m.imp (λc=>c) (λc=>c.1))⟩;have v:(bT (bz a) o).run P Q=b6 (.spawn (dcall f args)) Q:=by
  unfold bT;simp[e,oD,yK,d,dcall,l]
 have r:(bT (bz a) o).events P Q #[]=#[]:=by
  unfold bT;simp[e,oD,yK,d]
 rw[stepG_spawn u x p v Y];unfold listed;rw[r,seen_none]
end
section
variable {A P:aW}{S own:Nat->Prop}{a:bK}{o:cq}{w Q:ag}
def U6{i:nL}(u:o.op= .call {callee:=.builtin .append,args:= #[Qp,Qq],argTypes:= #[Qc,Qc]})(hx:bz a Qp=aI n j c)(hy:bz a Qq= .slice (K qP) 1 d)
 (B:gb P Qc=K (.slice Qd)) (s:P.info? Qd=K i) (am:jL i=K v) (W:w.heap[n]? =K (ax C Qd (0,0))) (X:S n\/own n) (M:S (cH qP)\/own (cH qP)) (ab:I news=i.size) (ae:∀e f,news[e]? =K f->aA w (qP.add e)=K f) (ap:∀e,cH (qP.add e)=cH qP) (g:∀f∈news,nM f=af)
 (y:j+1<=c) (z:C.size=c*i.size) (ao:c<=1000000) (N:ji i<=1000):
 ∀Q,RelB (λb=>S b\/own b) w Q->∃D,(bT (bz a) o).run P Q=b6 (eT (aI n (j+1) c)) D/\xz n (ax (cX (C.toList.take (j*i.size)++news++C.toList.drop (j*i.size+I news))) Qd (0,0)) Q D/\∀l∈(bT (bz a) o).events P Q #[],iQ n S own l:=by
 intro Q x;have p:bD Q n C Qd:=aB (x.at_ n X) W;have t:∀e f,news[e]? =K f->aA Q (qP.add e)=K f:=λe f Z=>aB (zv x bh) (ae e f Z);have V:j*i.size+I news<=C.size:=by
  rw[z,ab];have:=Nat.mul_le_mul_right i.size y;rw[Nat.add_mul,Nat.one_mul] at this;exact this
 have al:=run_append_room (P:=P) (w:=Q) Qc o.type Qd i B s n j c C p qP 1 d news aa t g y V;have ar:1000000<=aS:=ay;have aj:aT Q 0 Qd i.size (aI n j c) j (C.toList.take (j*i.size)):=by
  refine⟨?_,an ⟨n,c,C,rfl,cE _,p,aa,?_,z,rfl⟩⟩;rw[m7,Array.length_toList];omega;omega
 have U:=events_append_where (P:=P) Q 0 Qc o.type Qd i v i.size (ji i) B s am Y Y (aI n j c) j _ aj qP 1 d news aa t g aa (by
  have:(j+1)*ji i<=1000000*1000:=s8 aa N;omega)
 refine⟨_,?_,L4 p,λl r=>?_⟩;unfold bT;simp[u,hx,hy,oD,invoke,builtin,al];rw[events_append_op Qp Qq Qc u hx hy] at r;rcases U l r with⟨q,g,h⟩|⟨m,rfl,ad⟩;rcases h with⟨h,L⟩|h;refine an ⟨q,g,?_⟩;rw[L];exact an (ff M (λG=>an ⟨G,h⟩) aq);refine an ⟨q,g,aq ?_⟩;simpa [bB] using h;exact aq ⟨m,rfl,ad⟩
def U7{i:nL}(l:o.op= .buildSlice Qc 1 #[(0,Qp)])(hx:bz a Qp=cw #[v0,v1,v2])(n:gb P Qc=K (.slice Qd))(j:P.info? Qd=K i)(p:jL i=K (cw #[v,x,y]))(c:i.size=3):
 ∀Q,RelB (λb=>S b\/own b) w Q->∃e,(bT (bz a) o).run P Q=b6 (eT (aI (U Q.heap) 1 1)) e/\gP e=gW Q.heap (ax #[v0,v1,v2] Qd)/\dV e=dV Q/\e.os=Q.os/\fS e=fS Q/\∀h∈(bT (bz a) o).events P Q #[],iQ (U Q.heap) S own h:=by
 intro Q t;have g:tQ (λd=>K (d*i.size,i.size)) ((wZ (1*i.size)).map ((cw #[v,x,y]).cells[· % (cw #[v,x,y]).cells.size]!)) #[(0,cw #[v0,v1,v2])].toList=K #[v0,v1,v2]:=by
  rw[c];simp[tQ,lC,wZ,Array.zipIdx];apply Array.ext;simp;intro d s q;simp at q;have:d=0\/d=1\/d=2:=aa;rcases this with rfl|rfl|rfl<;>simp
 have m:=run_buildSlice (P:=P) Q Qc Qd 1 #[(0,cw #[v0,v1,v2])] #[v0,v1,v2] i _ n j p (by rw[c];decide) (by rw[c];decide) g;refine⟨cD Q (ax #[v0,v1,v2] Qd),?_,rfl,rfl,rfl,rfl,λh f=>?_⟩;unfold bT;simp[l,hx,m];have r:(yM Qc 1 #[(0,cw #[v0,v1,v2])]).events P Q #[]=#[]:=by
  simp only[cX,Nat.one_mul,c] at g;simp[yM,uL n,mD,mE,kR,j,p,c,g,newRow]
 unfold bT at f;simp only[l] at f;simp[hx,m,r] at f
end
def put_defers{a:bK}:b8 (bG a QX v)=b8 a:=by
 unfold bG
 split<;>rfl
def Knows.nil{a:bK}(c:Knows a n q4):Knows a n []:=⟨c.size,λs v d=>by simp at d⟩
def Knows.defer{a:bK}(c:Knows a n q4){d:List jJ}(v:F):Knows (bG ⟨a.tmps,d⟩ Z v) n q4:=⟨c.size,c.slot⟩
def Knows.cons{a:bK}{l:List (Nat×F)}(e:Knows a n l){s:Nat}(g:cG a s=v):Knows a n ((s,v)::l):=⟨e.size,λf h c=>by
 rw[y3] at c;cases d:f==s with
 |true=>
  rw[d] at c;cases c;rw[beq_iff_eq] at d;rw[d];exact g
 |false=>rw[d] at c;exact e.slot f h c⟩
def Knows.four{a:bK}(f:Knows a n q4)(g:q4.lookup j=K v)(h:q4.lookup c=K x)(l:q4.lookup d=K y)(p:q4.lookup e=K z):Knows a n [(j,v),(c,x),(d,y),(e,z)]:=(((f.nil.cons (f.slot e _ p)).cons (f.slot d _ l)).cons (f.slot c _ h)).cons (f.slot j _ g)
section
variable {T P:aW}{S:Nat->Prop}{m:Bool}{R:(Nat->Prop)->aP->List aP->ag->Prop}{own:Nat->Prop}{H:List aP}{w:ag}{b:aP}{a:bK}{k:List dW}{J:Array cq}
def dg(d:fZ T P S m R){id:Nat}(c:List Nat)(f:eH (U J)=c)(e:R own (b.at a (bW J c::k)) H w):R own (b.at a (b9 (gu id J ai)::k)) H w:=Pp d bh
variable {i:Nat}{Q:List Nat}{o:cq}
def og(g:fZ T P S m R)(d:Knows a n q4)(r:J[i]? =K o)(v:F)(f:∀c,RelB (λb=>S b\/own b) w c->(bT (bz a) o).run P c=b6 (eT v) c/\∀e∈(bT (bz a) o).events P c #[],EvW S own e)
 (p:Knows (a.put (K j) v) n ((j,v)::q4)->R own (b.at (a.put (K j) v) (bW J Q::k)) H w) (l:o.dst=K j:=by rfl) (q:j<n:=by decide) (h:eD b≠.early:=by decide) (s:eF o (eg J a.tmps)=af:=by rfl):R own (b.at a (bW J (i::Q)::k)) H w:=
 uV g h r s f (by rw[l];exact p (d.put q v))
def ei(f:fZ T P S m R)(d:Knows a n q4)(q:J[i]? =K o)(v:F)(e:∀c,(bT (bz a) o).run P c=b6 (eT v) c/\(bT (bz a) o).events P c #[]=#[])
 (l:Knows (a.put (K j) v) n ((j,v)::q4)->R own (b.at (a.put (K j) v) (bW J Q::k)) H w) (h:o.dst=K j:=by rfl) (p:j<n:=by decide) (g:eD b≠.early:=by decide) (r:eF o (eg J a.tmps)=af:=by rfl):R own (b.at a (bW J (i::Q)::k)) H w:=
 tf f g q r e (by rw[h];exact l (d.put p v))
def dK(e:fZ T P S m R)(d:Knows a n q4){c s:Nat}(h:Knows (bG a (K c) v) n ((c,v)::q4)->R own (b.at (bG a (K c) v) (bW J Q::k)) H w)(p:J[i]? =K o:=by rfl)(q:o.op= .move (.tmp s):=by rfl)(j:q4.lookup s=K v:=by rfl)(g:o.dst=K c:=by rfl)(l:c<n:=by decide)(f:eD b≠.early:=by decide)(r:eF o (eg J a.tmps)=af:=by rfl):R own (b.at a (bW J (i::Q)::k)) H w:=
 ei e d p v (gz q (d.of j)) h g l f r
def g4(e:fZ T P S m R)(d:Knows a n q4){c s:Nat}(g:Knows (bG a (K c) v) n ((c,v)::q4)->R own (b.at (bG a (K c) v) (bW J Q::k)) H w)(l:J[i]? =K o:=by rfl)(p:o.op= .assign (.tmp s):=by rfl)(h:q4.lookup s=K v:=by rfl)(f:o.dst=K c:=by rfl)(j:c<n:=by decide)(hbk:eD b≠.early:=by decide)(q:eF o (eg J a.tmps)=af:=by rfl):R own (b.at a (bW J (i::Q)::k)) H w:=
 ei e d l v (wz p (d.of h)) g f j hbk q
def mL(d:fZ T P S m R)(c:Knows a n q4)(v:F)(g:Knows (bG a (K j) v) n ((j,v)::q4)->R own (b.at (bG a (K j) v) (bW J Q::k)) H w)(l:J[i]? =K o:=by rfl)(p:o.op= .assign (.const v):=by rfl)(f:o.dst=K j:=by rfl)(h:j<n:=by decide)(e:eD b≠.early:=by decide)(q:eF o (eg J a.tmps)=af:=by rfl):R own (b.at a (bW J (i::Q)::k)) H w:=
 ei d c l v (wz p Y) g f h e q
def tj(f:fZ T P S m R)(d:Knows a n q4){c s e:Nat}(j:Knows (bG a (K c) v) n ((c,v)::q4)->R own (b.at (bG a (K c) v) (bW J Q::k)) H w)(q:J[i]? =K o:=by rfl)(r:o.op= .extract (.tmp s) e:=by rfl)(l:q4.lookup s=K (cC C):=by rfl)(t:C[e]? =K v:=by rfl)(h:o.dst=K c:=by rfl)(p:c<n:=by decide)(g:eD b≠.early:=by decide)(u:eF o (eg J a.tmps)=af:=by rfl):R own (b.at a (bW J (i::Q)::k)) H w:=
 ei f d q v (wA r (d.of l) t) j h p g u
end
section
variable {P:aW}{a:bK}{o:cq}
def nu{g:Array Field}{d:Field}(p:o.op= .fieldAddr Qc Qp f)(hx:bz a Qp=dG (K ⟨n,j,Z⟩))(r:gb P Qc=K (.struct g))(h:g[f]? =K d)(q:∀w,(mD d.type).run P w=b6 (c+1) w)(l:j+d.offset=off'):
 ∀e,(bT (bz a) o).run P e=b6 (eT (dG (K ⟨n,off',Z⟩))) e/\(bT (bz a) o).events P e #[]=#[]:=by
 subst l;exact U9 p hx r h q
def Fw{d e h:dU}(f:o.op= .pick d e h)(hx:bz a d=ak af)(g:bz a e=v):∀c,(bT (bz a) o).run P c=b6 (eT v) c/\(bT (bz a) o).events P c #[]=#[]:=by
 subst g;exact Kl f hx
def Fv{d h e:dU}(f:o.op= .pick d h e)(hx:bz a d=ak ai)(g:bz a e=v):∀c,(bT (bz a) o).run P c=b6 (eT v) c/\(bT (bz a) o).events P c #[]=#[]:=by
 subst g;exact Kl f hx
def sE{i d:Int}(f:o.op= .binOp .lss Qc Qp Qq Qd)(hx:bz a Qp=z9 i)(hy:bz a Qq=z9 d)(e:decide (i<d)=qV):∀c,(bT (bz a) o).run P c=b6 (eT (ak qV)) c/\(bT (bz a) o).events P c #[]=#[]:=by
 subst e;exact Vb f hx hy
def zQ{i e:Int}{c:Bool}(g:o.op= .binOp .neq Qc Qp Qq Qd)(hx:bz a Qp=z9 i)(hy:bz a Qq=z9 e)(f:(i !=e)=c):∀d,(bT (bz a) o).run P d=b6 (eT (ak c)) d/\(bT (bz a) o).events P d #[]=#[]:=by
 subst f;exact Vd g hx hy
end
structure DR(S O O':Nat->Prop)(w w':ag):Prop where
 sub:∀b,O b->O' b
 new:∀b,O' b->O b\/U w.heap<=b
 rel:RelB (λb=>S b\/O b) w w'
 inr:jl S O' w'
def De{P:aW}{a:bK}(d:r4 QI=#[.tmp n])(c:cG a n=v):(∀w,(dx QI a.tmps).run P w=b6 v w)/\∀w,(dx QI a.tmps).events P w #[]=#[]:=by
 unfold cG at c;rw[jT] at c;constructor<;>intro w<;>simp[dx,d,c]
def yp{P:aW}{a:bK}(d:r4 QI=#[.tmp n,.tmp j])(c:cG a n=v)(hx:cG a j=x):(∀w,(dx QI a.tmps).run P w=b6 (cC #[v,x]) w)/\∀w,(dx QI a.tmps).events P w #[]=#[]:=by
 unfold cG at c hx;rw[jT] at c hx;constructor<;>intro w<;>simp[dx,d,c,hx]
section
variable {P0 P:aW}{J:F->ag->Prop}
def Cy(C:Twins P0 P){aY tops' cs:List aP}{w w':ag}(H:fh P0 Qf aY)(A:w'.tape=w.tape)(s:∀h,Mk P0 h w->∃d,iE h w d w'/\∀c,Steps P0 (lone Qf (aY++[fF]) (sh c 0 h)) (lone fr' (tops'++[fF]) (sh c 0 d)))(F:¬yF fr')
 (D:fh P0 fr' tops'->Sm w w'->jo P0 P J (aO fr' (tops'++cs)) w'):jo P0 P J (aO Qf (aY++cs)) w:=by
 have⟨h,t⟩:=AZ P0 w;have⟨d,q,s⟩:=s h t;refine Cx C (Stop:=λf x e=>f=fr'/\x=tops'/\∃c g,e=sh c g d) (λf x e u=>?_) H t.hp t.un (λc=>⟨fr',tops',_,s c,rfl,rfl,c,0,rfl⟩) (λf x e u2 u G r j=>?_);obtain⟨rfl,_⟩:=u;exact F;obtain⟨c,g,rfl,rfl,y,l,v⟩:=u;have B:gP e=gP d:=show gP (sh c g e)=gP (sh y l d) by rw[v]
 have m:=aas r q B;have n:u2.os=w'.os:=by
  rw[r.un.os,q.un.os];exact show(sh c g e).os=(sh y l d).os by rw[v]
 have p:u2.output=w'.output:=by
  rw[r.un.output,q.un.output];exact show(sh c g e).output=(sh y l d).output by rw[v]
 have E:AtRel w' u2:=by
  refine⟨cm u2,?_⟩;have z:=aB j.tape (bA A);have⟨L,M,N,O,Q⟩:=u2;simp only at m n p z;subst m n p z;rfl
 exact UZ (D G ⟨A,n▸j.os,p▸j.output,m▸j.size⟩) E
def DV (P0 P:aW)(J:F->ag->Prop)(f:Nat)(args:Array F)(w:ag)(j:F->ag->Prop):Prop:=
 ∃c:Loop,w.heap[f]? =K (.loop c)/\dm P0 (.loop c)/\U args=U c.params/\∀(d:aP) (cs:List aP),fh P0 d []->HW d->kS P0 w->
  (∀v e,j v e->kS P0 e->Sm w e->fh P0 (di d v) []->jo P0 P J (aO (di d v) cs) e)->
  fh P0 (rf f c.fn ((c.params.zip args).foldl (λh (g,a)=>cF h g a) c.tmps) c.assign c.body eA) [d]->jo P0 P J (aO (rf f c.fn ((c.params.zip args).foldl (λh (g,a)=>cF h g a) c.tmps) c.assign c.body eA) (d::cs)) w
section
variable {b:aP}{a:bK}{k:List dW}{cs:List aP}{w:ag}{ops:Array cq}{i:Nat}{rest:List Nat}{o:cq}
def UY(t:Twins P0 P){l:F->ag->Prop}(p:ops[i]? =K o)(M:eF o (eg ops a.tmps)=af)(A:o.op= .call {callee:=.value Qp,args:=QM,argTypes:=QE})(hx:bz a Qp= .func (gH n) #[] #[])
 (hR:DV P0 P J n (QM.map (bz a)) w l) (x:∀v f,l v f->Sm w f->n8 P0 P J (b.at (bG a o.dst v) (bW ops rest::k)) cs f):n8 P0 P J (b.at a (bW ops (i::rest)::k)) cs w:=by
 intro r O;have⟨c,C,D,H,y⟩:=hR;have E:∀d,Mk P0 d w->∀e,(bT (bz a) o).run P0 (sh e 0 d)=b6 (.round n c.fn ((c.params.zip (QM.map (bz a))).foldl (λj (h,a)=>cF j h a) c.tmps) c.assign c.body) (sh e 0 d):=λd g e=>by
  have u:(sh e 0 d).heap[n]? =K (.loop c):=g.at_ n _ C D;unfold bT;simp[A,oD,yK,hx,invoke,(run_yield (P:=P0) (args:=QM.map (bz a)) u H)]
 refine Cy (aY:=[]) (tops':=[b.at a (bW ops (i::rest)::k)]) (fr':=rf n c.fn ((c.params.zip (QM.map (bz a))).foldl (λj (h,a)=>cF j h a) c.tmps) c.assign c.body eA) (w':=w) t r Y (λd g=>⟨d,g.un.two,λe=>.one (step_lone_go ?_)⟩) (λz=>?_) λN Q=>?_;rw[stepG_op p M];simp[kx,E d g e];have⟨_,s,L⟩:=z;simp[rf] at L;refine y _ cs r ⟨rfl,aq ⟨ops,i,rest,k,rfl⟩⟩ trivial (λv f I B G q=>?_) N;have m:=w9 b a ops i rest k v;rw[p] at m;rw[m] at q ⊢;exact x v f I G q B
end
section
variable {b:aP}{k:List dW}{cs:List aP}{ops:Array cq}
def U4{o:cq}{i:Nat}{rest:List Nat}{a:bK}{w:ag}{next:bK->ag->Prop}{l:Exit->bK->ag->Prop}(p:ops[i]? =K o)(D:eF o (eg ops a.tmps)=af)(B:∀u,o.op≠.defer u)(t:∀x a w,¬l (iL x) a w)(C:¬LetsOut l)(d:o.wp P0 a w next l):
 ∃r c,next r c/\Steps P0 (lone (b.atR a (bW ops (i::rest)::k)) cs w) (lone (b.atR r (bW ops rest::k)) cs c):=by
 have g:=stepGR_op (P:=P0) (b:=b) (k:=k) (cs:=cs) (w:=w) (rest:=rest) p D;rw[Oper.semAt_eq _ _ _ B] at g;have j:∀v,di (b.atR a (bW ops (i::rest)::k)) v=b.atR (bG a o.dst v) (bW ops rest::k):=by
  intro v;rw[Frame.finish_atR,p];rfl
 simp only[Oper.wp,Oper.upon] at d
 split at d
 rename_i v c e;refine⟨_,_,d,.one (step_lone_go ?_)⟩;rw[g,<-j];simp[kx,e];rename_i c e;refine⟨_,_,d,.one (step_lone_go ?_)⟩;rw[g,<-j];simp[kx,e];rename_i m c e;refine⟨_,_,d,.one (step_lone_go ?_)⟩;have z:di ({b.atR a (bW ops (i::rest)::k) with defers:=m::b8 a}:aP) cI=b.atR ({a with defers:=m::b8 a}.put o.dst cI) (bW ops rest::k):=by
  have:=Frame.finish_atR b {a with defers:=m::b8 a} ops i rest k cI;rw[p] at this;exact this
 rw[g];simp only[kx,Sem.runT_eq,e,GStep.bare_after];exact congrArg (λs=>GStep.go {frame:=s,callers:=cs,status:=lB,dying:=Z} c) z
 .rename_i f args c e;have⟨y,G,s,h,q,_,A⟩:=d (b.atR a (bW ops (i::rest)::k)::cs);have n:step P0 (lone (b.atR a (bW ops (i::rest)::k)) cs w)= .next (lone (fC P0 f args eA) (b.atR a (bW ops (i::rest)::k)::cs) c):=
   step_lone_go (by rw[g];simp[kx,e,Frame.atR])
  cases y with
  |returned v=>
   refine⟨_,_,h,.head n (q.trans (.one ?_))⟩;rw[<-j];exact step_leave_returned A
  |panicked F=>exact absurd h (t _ _ _)
  |outgrown=>exact absurd h C
 .rename_i E args c e;have⟨v,G,h,q⟩:=d (b.atR a (bW ops (i::rest)::k)) cs;have n:step P0 (lone (b.atR a (bW ops (i::rest)::k)) cs w)= .next (lone (Frame.ofRow P0 E args eA) (b.atR a (bW ops (i::rest)::k)::cs) c):=
   step_lone_go (by rw[g];simp[kx,e,Frame.atR])
  refine⟨_,_,h,.head n ?_⟩;rw[<-j];exact q
 exact absurd d (t _ _ _);exact fe d
def E1:Op->Bool
 | .defer _=>af
 |_=>ai
def Kn{Q:Exit->bK->ag->Prop}(rest:List Nat)(z:(dM ops.toList λo=> !E1 o.op)=af)(A:∀s a w,¬Q (iL s) a w)(q:¬LetsOut Q):∀(e:List Nat) (a:bK) (w:ag),wpOps P0 ops Q e a w->
 ∃d f,Q e4 d f/\Steps P0 (lone (b.atR a (bW ops (e++rest)::k)) cs w) (lone (b.atR d (bW ops rest::k)) cs f):=by
 intro e
 induction e with
 |nil=>exact λa w c=>⟨a,w,c,.refl _ _⟩
 |cons i e n=>
  intro a w c;simp only[wpOps] at c;cases g:ops[i]? with
  |none=>
   simp only[g] at c;have l:=stepR_op_skip (P:=P0) (b:=b) (a:=a) (k:=k) (cs:=cs) (w:=w) (ops:=ops) (i:=i) (rest:=e++rest) (by simp[g]);simp only[g,Option.bind_none,bG] at l;have⟨d,f,h,j⟩:=n a w c;exact⟨d,f,h,.head l j⟩
  |some o=>
   simp only[g] at c;have x:∀p,o.op≠.defer p:=λp t=>by
    obtain⟨y,rfl⟩:=dY.1 g;have:=fD.1 z _ (Array.getElem_mem_toList y);rw[t] at this;cases this
   by_cases m:eF o (eg ops a.tmps)=af;simp only[m,if_true] at c;rcases c with c|⟨_,c⟩;have⟨d,f,h,j⟩:=U4 (b:=b) (k:=k) (cs:=cs) (rest:=e++rest) g m x A q c;have⟨r,B,u,v⟩:=n d f h;exact⟨r,B,u,j.trans v⟩;exact absurd c q;simp only[m,if_false,fA] at c;have l:=stepR_op_skip (P:=P0) (b:=b) (a:=a) (k:=k) (cs:=cs) (w:=w) (ops:=ops) (i:=i) (rest:=e++rest) bh;simp only[g,zb] at l;have⟨d,f,h,j⟩:=n _ w c;exact⟨d,f,h,.head l j⟩
end
end
section
variable {Q P:aW}{J:F->ag->Prop}{b:aP}{a:bK}{k:List dW}{H:List aP}{w:ag}
def z4 (fn:fH)(tmps:Array F)(c:Array Tmp)(assign body:de)(D:Nat):Loop:={state:=.ready,pending:=Z,fn,tmps,params:=c,assign,body,defers:=D}
def UW(q:Twins Q P){g:dU}{h:Array Tmp}{cap:Array F}{i:gL->ag->Prop}(B:bz a g= .func (.func gf) #[] cap)(t:∀args w,(callFunc gf args).run Q w=b6 (.enter gf args) w)(z:P.funcs[gf]? =Q.funcs[gf]? \/fC P gf (#[.func (gH (U w.heap+1)) #[] #[]]++cap) eA=fC Q gf (#[.func (gH (U w.heap+1)) #[] #[]]++cap) eA)
 (hR:sU Q P J gf (#[.func (gH (U w.heap+1)) #[] #[]]++cap) (cD (cD w (mz (K []))) (.loop (z4 b.fn a.tmps h assign QJ (U w.heap)))) i)
 (r:∀v c,i (aR v) c->Sm w c->n8 Q P J (b.at {a with defers:={target:=.collected (U w.heap),args:= #[]}::b8 a} (.endRangeFunc (U w.heap+1)::k)) H c) (C:∀m c,¬i (gO m) c) (D:∀c,¬i .outgrown c) (E:∀s,(fC Q gf (#[.func (gH (U w.heap+1)) #[] #[]]++cap) eA).todo≠[b9 (.refuse s)]):n8 Q P J (b.at a (b9 (.rangeFunc g h assign QJ)::k)) H w:=by
 intro R S;have A:fC P gf (#[.func (gH (U w.heap+1)) #[] #[]]++cap) eA=fC Q gf (#[.func (gH (U w.heap+1)) #[] #[]]++cap) eA:=by
  rcases z with e|e;unfold fC;rw[e];exact e
 let p:aP:={b with roundOf:=Z};refine Cy (aY:=[]) (tops':=[b.at {a with defers:={target:=.collected (U w.heap),args:= #[]}::b8 a} (.inRangeFunc (U w.heap+1)::k)]) (fr':=fC Q gf (#[.func (gH (U w.heap+1)) #[] #[]]++cap) eA) (w':=cD (cD w (mz (K []))) (.loop (z4 b.fn a.tmps h assign QJ (U w.heap)))) q R Y (λd l=>⟨cD (cD d (mz (K []))) (.loop (z4 b.fn a.tmps h assign QJ (U w.heap))),?_,λo=>.one ?_⟩) (λx=>?_) λn M=>?_;exact(l.un.push (by simp[pz])).trans ((l.un.push (by simp[pz])).un.push (by simp[pz]));rw[<-bA l.un.size];have L:=stepR_rangeFunc (P:=Q) (b:=p) (a:=a) (k:=k) (cs:=[fF]) (w:=sh o 0 d) (g:=g) (ps:=h) (assign:=assign) (body:=QJ) (w₁':=_) (d:={target:=.fn (.func gf) cap,args:= #[.func (gH (U d.heap+1)) #[] #[]]}) (f:=gf) (args:= #[.func (gH (U d.heap+1)) #[] #[]]++cap) (run_enterLoop_outer (P:=Q) (w:=sh o 0 d) b.fn a.tmps h assign QJ) (by
  have e:bz a (.const (.func (gH (U d.heap+1)) #[] #[]))= .func (gH (U d.heap+1)) #[] #[]:=rfl;simp[oD,rangeCall,B,yK,sh];exact⟨rfl,rfl⟩) (by simp only[invoke];exact t _ _)
 exact L;have⟨_,s,O⟩:=x;exact E s O;have u:fh Q (b.at {a with defers:={target:=.collected (U w.heap),args:= #[]}::b8 a} (.inRangeFunc (U w.heap+1)::k)) []:=⟨n.rest _ aF,λf y=>by simp at y,n.bot⟩;show jo Q P J (aO (fC Q gf _ eA) _) _;rw[<-A];refine hR _ H u ⟨rfl,an ⟨_,_,rfl⟩⟩ trivial λe c j I N G=>?_;cases e with
 |returned v=>exact r v c j (M.trans N) G I
 |panicked m=>exact absurd j (C _ _)
 |outgrown=>exact absurd j (D _)
def UU(h:Twins Q P){c:Loop}(m:w.heap[n]? =K (.loop c))(p:dm Q (.loop c))(q:c.state≠.busy)(e:c.pending=Z)(o:∀s,k≠[b9 (.refuse s)])(i:n8 Q P J (b.at a k) H (w.putObj n (.loop {c with state:=.exhausted}))):n8 Q P J (b.at a (.endRangeFunc n::k)) H w:=by
 intro t B;let g:aP:={b with roundOf:=Z};refine Cy (aY:=[]) (tops':=[]) (fr':=b.at a k) (w':=w.putObj n (.loop {c with state:=.exhausted})) h t Y (λf d=>⟨f.putObj n (.loop {c with state:=.exhausted}),d.un.set n (by simp[pz]),λv=>.one ?_⟩) (λj=>?_) λu C=>i u trivial;have l:=run_endLoop (P:=Q) (w:=sh v 0 f) (l:=n) (r:=c) (d.at_ n _ m p) q;have:=stepR_endRangeFunc (P:=Q) (b:=g) (a:=a) (k:=k) (cs:=[fF]) l;have⟨G,D,A,L,E,x,y,z⟩:=c;simp only at e;subst e;exact this;have⟨_,s,r⟩:=j;exact o s r
def UT(f:Twins Q P){D:Nat}(c:b8 a=[{target:=.collected D,args:= #[]}])(g:w.heap[D]? =K (mz (K [])))(h:n8 Q P J {b.at {a with defers:=[]} QN with mode:=jA} H (w.putObj D (mz Z))):n8 Q P J {b.at a QN with mode:=jA} H w:=by
 intro j o;refine Cy (aY:=[]) (tops':=[]) (fr':={b.at {a with defers:=[]} QN with mode:=jA}) (w':=w.putObj D (mz Z)) f j Y (λe d=>⟨e.putObj D (mz Z),d.un.set D (by simp[pz]),λm=>.one (step_lone_go ?_)⟩) (λc=>?_) λl p=>h l trivial;have i:=run_takeDeferred (P:=Q) (w:=sh m 0 e) (b:=D) (ds:=[]) (d.at_ D _ g (λn c=>cV c));simp[bQ,mF,Frame.at,c,i,Sem.runT_eq,GStep.bare_after];rfl;have⟨d,_⟩:=c;cases d
end
end Cc
namespace Cc
open Go Go.Conc
open Go.RowKit (Below)
def Xe (P0 P:aW)(Q:F->ag->Prop)(own:Nat->Prop)(d:aP)(O:List aP)(w:ag):Prop:=
 (∀b,own b->b<U w.heap)->∀c,RelB own w c->kS P0 c->jo P0 P Q (aO d O) c
def rM:Nat->Prop:=λ_=>False
def Xn{own:Nat->Prop}{w d:ag}(c:RelB own w d):RelB (λb=>rM b\/own b) w d:=c.mono λb e=>ff e fe (λc=>c)
def Ff{own:Nat->Prop}{w c:ag}(d:RelB (λb=>rM b\/own b) w c):RelB own w c:=d.mono λb e=>an e
def mM(P0 P:aW)(Q:F->ag->Prop):fZ P0 P rM af (Xe P0 P Q):=by
 refine⟨λown y O w c h p f n=>?_,λown y O w p c f h u B n=>?_⟩;refine Fq λu e=>?_;obtain⟨q,rfl⟩:=e;have⟨E,D,g,x,v,d,C⟩:=c (p.at q) (Xn (f.trans (RelB.at _ _ _)));have j:∀b,g6 own (p.at q) g b->b<U g.heap:=λb z=>z.elim (λc=>cL (h b c) (dj f.size d.size)) (λc=>c.2);refine⟨_,g,x,v,rfl,⟨d.size,d.tape,d.os,d.output,d.hp,λr A=>?_⟩,C j g (RelB.refl _ _) (d.hp n)⟩;have:=d.evs r A;unfold EvW at this;unfold m4;cases l:r.loc with
 |cell a=>rw[l] at this;exact this.elim (j _) (λc=>c.1.elim)
 |obj G=>rw[l] at this;exact this.elim (j _) (λc=>c.1.elim)
 |mark m=>rw[l] at this;exact this
 |_=>trivial
 have t:=Ff f;refine c (λb s=>?_) u (t.trans B) n;have e:=t.at_ b s;rw[m3 (h b s)] at e;exact(dY.1 (bA e)).1
def ug (P:aW):dW->Bool
 |b9 c|gE c=>fN P ai c
 |fI _| .inRangeFunc _| .endRangeFunc _=>af
 |bW J _=>dM J.toList λo=>tn P ai o.op
 |_=>ai
def oA{P:aW}{b:aP}{a:bK}(c:eD b=eA)(e:b8 a=[])(l:(dM QN (ug P))=af):fh P (b.at a QN) []:=by
 refine⟨⟨λi j=>?_,λd g=>?_,aq c⟩,λf h=>by simp at h,c⟩;have:=fD.1 l i j;cases i<;>first|exact this|trivial|cases this
 have:d∈b8 a:=g;rw[e] at this;cases this
section
variable {P0 P:aW}{Q:F->ag->Prop}{own:Nat->Prop}{O:List aP}{w:ag}{b:aP}{a:bK}{k:List dW}{J:Array cq}{i:Nat}{H:List Nat}{o:cq}
def grown(own:Nat->Prop)(c m:Nat):Nat->Prop:=λb=>own b\/(c<=b/\b<m)
def As{f:fH}{args:Array dU}{R:ag->gL->ag->Prop}(z:eD b=eA)(E:J[i]? =K o)(S:eF o (eg J a.tmps)=af)(G:o.op= .call {callee:=.value (.func f),args,argTypes:=QE})(x:args.map (bz a)=vs)
 (B:P.funcs[f]? =K QI) (C:(QI.name == "runtime.NumGoroutine")=ai) (y:QI.body=K QJ) (M:fh P0 (b.at a (bW J (i::H)::k)) []) (hR:∀d,RelB own w d->sU P0 P Q f vs d (R d))
 (u:∀d v c,RelB own w d->R d (aR v) c->Sm d c->kS P0 c->jo P0 P Q (aO (b.at (bG a o.dst v) (bW J H::k)) O) c) (hP:∀d m c,¬R d (gO m) c) (D:∀d c,¬R d .outgrown c):Xe P0 P Q own (b.at a (bW J (i::H)::k)) O w:=by
 intro T d n I;have:=UR (P0:=P0) (P:=P) (Post:=Q) (b:=b) (a:=a) (k:=k) (cs:=O) (w:=d) (R:=λh c=>∃e,R (d.at e) h c) z E S G B C y (λU l=>by
  obtain⟨e,rfl⟩:=l;rw[x];intro p q r l s t;exact hR _ (n.trans (RelB.at _ _ _)) p q r l s λh c A=>t h c ⟨e,A⟩) (λv c ⟨e,N⟩ g V L=>u (d.at e) v c (n.trans (RelB.at _ _ _)) N ⟨g.tape,g.os,g.output,g.size⟩ L) (λm c ⟨e,j⟩=>absurd j (hP _ _ _)) (λc ⟨e,j⟩=>D _ _ j)
 exact this M I
def DG(G:Twins P0 P){f:fH}{args:Array dU}{R:ag->gL->ag->Prop}(T:eD b=eA)(r:J[i]? =K o)(aj:eF o (eg J a.tmps)=af)(Z:o.op= .call {callee:=.value (.func f),args,argTypes:=QE})(S:args.map (bz a)=vs)
 (W:P.funcs[f]? =K QI) (Y:(QI.name == "runtime.NumGoroutine")=ai) (y:QI.body=K QJ) (X:P.funcs[f]? =P0.funcs[f]?) (ad:fh P0 (b.at a (bW J (i::H)::k)) [])
 (hR:∀c,(∀b o,own b->w.heap[b]? =K o->dm P0 o->c.heap[b]? =K o)->U w.heap<=U c.heap->Calls P0 f vs c λd g=>aD c g/\∃v,d=aR v/\R c (aR v) g)
 (M:∀v e c g,(∀b o,own b->w.heap[b]? =K o->dm P0 o->c.heap[b]? =K o)->U w.heap<=U c.heap->aD c g->R c (aR v) g->Un g e->RelB own w e->Xe P0 P Q (grown own (U c.heap) (U e.heap)) (b.at (bG a o.dst v) (bW J H::k)) O e):Xe P0 P Q own (b.at a (bW J (i::H)::k)) O w:=by
 intro z;refine As (P0:=P0) (R:=λp d al=>∃n,Mk P0 n p/\Tl n p (λd g=>∃c,gP c=gP n/\aD c g/\∃v,d=aR v/\R c (aR v) g) d al) T r aj Z S W Y y ad (λp h=>?_) (λp v e h ae A ab=>?_) (λp am e ⟨_,_,_,_,_,_,c,_,_,v,d,_⟩=>cV d) (λp e ⟨_,_,_,_,_,_,c,_,_,v,d,_⟩=>cV d) z;have⟨n,m⟩:=AZ P0 p;intro C D q j I L;exact Iw G m.hp m.un X (λe ⟨c,_,_,v,d,_⟩=>cV d) (λs=>bL (hR (sh s 0 n) (λb o y r u=>m.at_ b o (aB (h.at_ b y) r) u) (by show U w.heap<=U n.heap;rw[<-m.un.size];exact h.size)) λd g ⟨q,j⟩=>⟨sh s 0 n,rfl,q,j⟩) C D q j I λd e V=>L d e ⟨n,m,V⟩;have⟨n,m,s,E,g,j,c,x,t,ap,d,N⟩:=ae;cases d;have ao:U c.heap<=U e.heap:=b5 j.un.size t.size;have B:U c.heap=U p.heap:=by rw[x,m.un.size]
 have hrel:RelB own w e:=⟨λb l=>by
  have q:g.heap[b]? =c.heap[b]? :=cS t b (by rw[B];exact cL (z b l) h.size);exact aB (j.same m.un (by rw[q,x])) (h.at_ b l),dj h.size aa,aB A.tape h.tape,aB A.os h.os,aB A.output h.output⟩
 refine M v e c (sh s E g) (λb o l r u=>by rw[x];exact m.at_ b o (aB (h.at_ b l) r) u) (b5 B h.size) t N ⟨j.un.size,j.un.at_,j.un.os,j.un.output⟩ hrel (λb l=>?_) e (RelB.refl _ _) ab;rcases l with l|l;exact cL (z b l) hrel.size;exact l.2
def aa7(e:Twins P0 P){l:Nat}{R:ag->F->ag->Prop}(g:J[i]? =K o)(s:eF o (eg J a.tmps)=af)(h:o.op= .call {callee:=.value Qp,args:=QM,argTypes:=QE})(hx:bz a Qp= .func (gH l) #[] #[])(t:QM.map (bz a)=vs)(q:fh P0 (b.at a (bW J (i::H)::k)) [])
 (hR:∀c,RelB own w c->DV P0 P Q l vs c (R c)) (f:∀c v d,RelB own w c->R c v d->Sm c d->kS P0 d->jo P0 P Q (aO (b.at (bG a o.dst v) (bW J H::k)) O) d):Xe P0 P Q own (b.at a (bW J (i::H)::k)) O w:=by
 intro u c n j;exact UY e g s h hx bh (λv d r p _ m=>f c v d n r p m) q j
def Xe.go(c:Xe P0 P Q own Qf O w)(d:∀b,own b->b<U w.heap)(e:kS P0 w):jo P0 P Q (aO Qf O) w:=c d w (RelB.refl _ _) e
end
section
variable {P:aW}{a:bK}{o:cq}
def A5(d:o.op= .unOp .not Qc Qp)(hx:bz a Qp=ak qV):∀c,(bT (bz a) o).run P c=b6 (eT (ak (!qV))) c/\(bT (bz a) o).events P c #[]=#[]:=λc=>by
 unfold bT;simp[d,hx,Op.unary]
end
def Hu{o:cq}{J:Array cq}{e b:Bool}(h:o.guard=K (n,e))(f:kY J n=K d)(c:cG qS d=ak b)(g:d<U qS.tmps):eF o (eg J qS.tmps)=(b==e):=by
 unfold eF eg;rw[h];unfold kY at f;unfold cG at c;rw[jT,m3 g] at c;simp only[f,zb,m3 g];simp only[s9] at c;rw[c];cases b<;>cases e<;>rfl
def Knows.want{a:bK}(c:Knows a n q4){o:cq}{J:Array cq}{want b:Bool}(f:o.guard=K (m,want))(e:kY J m=K d)(h:q4.lookup d=K (ak b))(g:d<n):eF o (eg J a.tmps)=(b==want):=Hu f e (c.slot d _ h) (b5 c.size g)
def pL{P0 P:aW}{m:Bool}{e:(Nat->Prop)->aP->List aP->ag->Prop}{own:Nat->Prop}{O:List aP}{w:ag}{b:aP}{a:bK}{k:List dW}{J:Array cq}{i:Nat}{H:List Nat}{o:cq}(g:fZ P0 P q9 m e)(f:Knows a n q4)(q:Knows (a.put (K j) cI) n ((j,cI)::q4)->e own (b.at (a.put (K j) cI) (bW J H::k)) O w)(u:J[i]? =K o:=by rfl)(p:o.guard=K (c,qV):=by rfl)(l:kY J c=K d:=by rfl)(v:q4.lookup d=K (ak qW):=by rfl)(r:d<n:=by decide)(t:(qW==qV)=ai:=by rfl)(h:o.dst=K j:=by rfl)(s:j<n:=by decide):e own (b.at a (bW J (i::H)::k)) O w:=
 Is g u (aB (f.want p l v r) t) (by rw[h];exact q (f.put s cI))
end Cc
namespace Cc
open Go
section
variable {P J:aW}
def uy(b:e5 J=e5 P)(a:aK):J.info? a=P.info? a:=by rw[b]
def o3(b:e5 J=e5 P)(a:aK):gb J a=gb P a:=by unfold gb;simp only[uy b]
def vr(b:e5 J=e5 P)(a:aK):rj J a=rj P a:=by unfold rj;simp only[uy b]
def wS(b:e5 J=e5 P)(a:aK):J.bytesOf a=P.bytesOf a:=by unfold Program.bytesOf;simp only[uy b]
def wT(a:e5 J=e5 P):J.depth=P.depth:=by unfold Program.depth;rw[a]
def Dv(b:e5 J=e5 P)(a:aK):J.underlyingId a=P.underlyingId a:=by unfold Program.underlyingId;simp only[uy b]
def Hh(d:e5 J=e5 P)(a:Nat):∀c b,byteOfCell J a c b=byteOfCell P a c b:=by
 induction a with
 |zero=>intro c b;rfl
 |succ a e=>intro c b;simp only[byteOfCell,o3 d,vr d,wS d,e]
def aae(d:e5 J=e5 P)(a:Nat):∀c b,cellOfByte J a c b=cellOfByte P a c b:=by
 induction a with
 |zero=>intro c b;rfl
 |succ a e=>intro c b;simp only[cellOfByte,o3 d,vr d,wS d,e]
def aad(a:e5 J=e5 P)(d:aK)(c e:Nat)(b:Int):cellAtBytes J n d c e b=cellAtBytes P n d c e b:=by
 simp only[cellAtBytes,vr a,wS a,Hh a,aae a]
def Nf(d:e5 J=e5 P)(a:Nat):∀b c,J.alikeButTags a b c=P.alikeButTags a b c:=by
 induction a with
 |zero=>intro b c;rfl
 |succ a e=>intro b c;simp only[Program.alikeButTags,o3 d,Dv d,uy d,e]
def aan(a:e5 J=e5 P)(b:aK):J.stoodInAs b=P.stoodInAs b:=by
 simp only[Program.stoodInAs,Program.ownRow,o3 a,Dv a,uy a,Nf a,wT a,a]
def Du(a:e5 J=e5 P)(b:aK):yS J b=yS P b:=by
 simp only[yS,aan a,uy a]
def aah(a:e5 J=e5 P)(b:aK):J.packed b=P.packed b:=by
 simp only[Program.packed,Program.packedAs,Program.ownRow,o3 a,Dv a,uy a,Nf a,wT a,a]
def aai(b:e5 J=e5 P):∀a,yR J n a=yR P n a:=by
 induction n with
 |zero=>intro a;rfl
 |succ n c=>intro a;simp only[yR,aah b,o3 b,c]
def Ng(c:e5 J=e5 P)(a:Nat):∀b,yQ J a b=yQ P a b:=by
 induction a with
 |zero=>intro b;rfl
 |succ a d=>intro b;simp only[yQ,o3 c,d]
def aal(d:e5 J=e5 P)(a:Nat):∀b c,sameLayout J a b c=sameLayout P a b c:=by
 induction a with
 |zero=>intro b c;rfl
 |succ a e=>intro b c;simp only[sameLayout,o3 d,Dv d,Du d,e]
def aak(g:e5 J=e5 P)(f:aK->Bool)(b:Nat):∀c a e d,rowAt J f b c a e d=rowAt P f b c a e d:=by
 induction b with
 |zero=>intro c a e d;rfl
 |succ b h=>intro c a e d;simp only[rowAt,o3 g,vr g,Du g,h]
def aag(c:e5 J=e5 P):∀b a e f d,liesAt J n b a e f d=liesAt P n b a e f d:=by
 induction n with
 |zero=>intro b a e f d;rfl
 |succ n g=>intro b a e f d;simp only[liesAt,o3 c,wT c,aak c,aal c,g]
def aaj(d:e5 J=e5 P)(a:Nat):∀c b,plainCell J a c b=plainCell P a c b:=by
 induction a with
 |zero=>intro c b;rfl
 |succ a e=>intro c b;simp only[plainCell,o3 d,vr d,e]
def aaf(d:e5 J=e5 P)(b:Nat):∀c a,cellHolding J b c a=cellHolding P b c a:=by
 induction b with
 |zero=>intro c a;rfl
 |succ b e=>intro c a;simp only[cellHolding,o3 d,vr d,wS d,e]
def aao(c:e5 J=e5 P)(a:Nat):∀b,tight J a b=tight P a b:=by
 induction a with
 |zero=>intro b;rfl
 |succ a d=>intro b;simp only[tight,o3 c,wS c,d]
def aam(a:e5 J=e5 P)(c:Array F)(d:aK)(f:Nat):∀b s,seenCells J c d f b s=seenCells P c d f b s:=by
 induction f with
 |zero=>intro b s;rfl
 |succ f e=>intro b s;simp only[seenCells,aaf a,wT a,vr a,wS a,e]
def Nh(c:e5 J=e5 P)(n:∀a b f,w.heap[cH R]? =K (ax a b f)↔u.heap[cH R]? =K (ax a b f))(k:aK)(j:aN)(m:Bool):u.seen J R k j m=w.seen P R k j m:=by
 have g:(∃a b f,w.heap[cH R]? =K (ax a b f)/\u.heap[cH R]? =K (ax a b f))\/((∀a b f,w.heap[cH R]? ≠K (ax a b f))/\∀a b f,u.heap[cH R]? ≠K (ax a b f)):=bh;unfold World.seen;simp only[aaj c,Hh c,vr c,wS c,wT c,aam c];rcases g with⟨a,b,f,d,e⟩|⟨d,e⟩;rw[d,e];cases g:w.heap[cH R]? with
 |none=>cases h:u.heap[cH R]? with
  |none=>rfl
  |some i=>cases i<;>first|exact absurd h (e _ _ _)|rfl
 |some l=>cases h:u.heap[cH R]? with
  |none=>cases l<;>first|exact absurd g (d _ _ _)|rfl
  |some i=>cases l<;>first|exact absurd g (d _ _ _)|(cases i<;>first|exact absurd h (e _ _ _)|rfl)
def L0{P:aW}{m:Bool}{d:_}(a:w.seen P R Qc qP m= .ok d):cH R<U w.heap:=by
 rcases ij (cH R) (U w.heap) with b|b;exact b
 .have c:w.heap[cH R]? =Z:=o5 b;unfold World.seen at a;rw[c] at a;simp only[bind,Except.bind,throw,throwThe,HK,pure,Except.pure] at a
  repeat' first|(cases a;done)|split at a
def aaI(q:e5 J=e5 P):Views P J:=by
 refine⟨λc k b j p m a=>?_,λc b j p m v s a y w=>?_,λc k b j p v m a=>?_⟩;unfold World.viewLoad;rw[Nh q a];unfold World.viewLoad at a;cases h:c.seen P b j p m with
 |error e=>rw[h] at a;cases a
 |ok C=>
  have u:=L0 h;rw[h] at a;simp only[bind,Except.bind,throw,throwThe,HK,pure,Except.pure] at a
  split at a
  cases a;obtain⟨e,_,rfl⟩:=kA.1 w;exact u;cases a
 unfold World.viewStore;rw[Nh q a,aao q,wT q];cases H:tight P P.depth j with
 |false=>exact aq ⟨_,rfl,rfl⟩
 |true=>
  cases h:c.seen P b j p m with
  |error e=>exact aq ⟨e,rfl,rfl⟩
  |ok C=>
   have u:=L0 h;have⟨t,d,f,first,i,z⟩:=C;cases G:v.bytes? with
   |none=>exact aq ⟨_,rfl,rfl⟩
   |some bytes=>
    by_cases r:K (I bytes)≠i.bytes?.map (·.length);refine aq ⟨ "memory seen as another type: a value of another size",?_,?_⟩;show(if K (I bytes)≠i.bytes?.map (·.length) then _ else _)=_;rw[if_pos r];rfl;show(if K (I bytes)≠i.bytes?.map (·.length) then _ else _)=_;rw[if_pos r];rfl;have E:∀(l n:Except String (ag×List aN)) (o:Except String (Array F)),l=o.bind (λg=>.ok ({c with heap:=cF c.heap (cH b) (ax g d f)},z.map λx=>({block:=cH b,off:=x.1}:aN)))->n=o.bind (λg=>.ok ({k with heap:=cF k.heap (cH b) (ax g d f)},z.map λx=>({block:=cH b,off:=x.1}:aN)))->
     (∃D,l= .error D/\n= .error D)\/∃t d f s,l= .ok ({c with heap:=cF c.heap (cH b) (ax t d f)},s)/\n= .ok ({k with heap:=cF k.heap (cH b) (ax t d f)},s)/\∀y∈s,cH y<U c.heap:=by
     intro l n o A B;cases o with
     |error e=>exact aq ⟨e,A,B⟩
     |ok g=>
      refine an ⟨g,d,f,_,A,B,λy w=>?_⟩;obtain⟨e,_,rfl⟩:=kA.1 w;exact u
    apply E;show(if K (I bytes)≠i.bytes?.map (·.length) then _ else _)=_;rw[if_neg r];rfl;show(if K (I bytes)≠i.bytes?.map (·.length) then _ else _)=_;rw[if_neg r];rfl
def aap(a:e5 J=e5 P)(e:∀f:Nat,J.funcs[f]? =P.funcs[f]? \/∃c d:cO,P.funcs[f]? =K c/\J.funcs[f]? =K d/\d.name=c.name/\lF c.body=ai/\lF d.body=ai):Twin P J:=
 ⟨uy a,o3 a,by rw[a],vr a,wS a,wT a,λb=>aag a,λb=>aad a,λb=>Hh a b,λb=>Ng a b,Du a,λb=>aai a,by rw[a],by rw[a],by rw[a],e⟩
end
end Cc
end Go.Proofs.YtjidbonhhpkljaaGreat
namespace Go.Proofs
def aE.cut (a:cO):cO:={a with body:=K (.refuse "")}
def aM (a:aW):aW:={a with funcs:=((a.funcs.modify 78 aE.cut).modify 116 aE.cut).modify 117 aE.cut}
def aE.tables(a:aW):a.toTables=(aM a).toTables:=rfl
namespace YtjidbonhhpkljaaGreat.Cc
open Go
def VU(b:aW)(f:Nat):(aM b).funcs[f]? =if f=78\/f=116\/f=117 then(b.funcs[f]?).map aE.cut else b.funcs[f]? :=by
 show(((b.funcs.modify 78 aE.cut).modify 116 aE.cut).modify 117 aE.cut)[f]? =_;simp only[uC];by_cases c:f=78
 .subst c;simp
 .by_cases d:f=116
  .subst d;simp
  .by_cases e:f=117
   .subst e;simp
   .simp only[c,d,e,or_self,if_false];rw[if_neg (λa=>e a.symm),if_neg (λa=>d a.symm),if_neg (λa=>c a.symm)]
def KP(f:Nat):(aM av).funcs[f]? =if f=78\/f=116\/f=117 then(av.funcs[f]?).map aE.cut else av.funcs[f]? :=VU _ f
def ov(b:(f==78)=ai)(c:(f==116)=ai)(d:(f==117)=ai):(aM av).funcs[f]? =av.funcs[f]? :=by
 rw[KP,if_neg];simp at b c d;rintro(a|a|a)
 .exact b a
 .exact c a
 .exact d a
def yc(f:Nat):av.funcs[f]? =(aM av).funcs[f]? \/∃a:cO,a.body.isNone=ai/\av.funcs[f]? =K a/\(aM av).funcs[f]? =K (aE.cut a):=by
 rw[KP];by_cases b:f=78\/f=116\/f=117
 .rw[if_pos b]
  right
  rcases b with rfl|rfl|rfl
  .exact⟨_,rfl,Tryz.func78,by rw[Tryz.func78];rfl⟩
  .exact⟨_,rfl,Tryz.func116,by rw[Tryz.func116];rfl⟩
  .exact⟨_,rfl,Tryz.func117,by rw[Tryz.func117];rfl⟩
 .rw[if_neg b];exact .inl rfl
def KQ:Twin (aM av) av:=aap (aE.tables _) λf=>by
 rcases yc f with a|⟨b,c,d,e⟩
 .exact .inl a
 .exact .inr ⟨_,b,e,d,rfl,rfl,c⟩
def vZ{a:cO->Bool}(b:Qn.funcs.toList.all a=af)(c:Qn.funcs[f]? =K QI):a QI=af:=by
 obtain⟨d,rfl⟩:=dY.1 c;exact fD.1 b _ (by simp)
def BF:(av.funcs.toList.all λa=> !(a.name == "runtime.NumGoroutine"))=af:=by kernel_rfl
def abp:(av.funcs.toList.all λa=> !a.body.isNone||(Extern.findNext a).isNone)=af:=by kernel_rfl
def VV:((aM av).funcs.toList.all λb=>match b.body with|some a=>fN (aM av) ai a|none=>af)=af:=by kernel_rfl
end YtjidbonhhpkljaaGreat.Cc
end Go.Proofs
namespace Go.Proofs.YtjidbonhhpkljaaGreat
abbrev bn(f:fH)(b:Array F)(c:ag)(a:gL->ag->Prop):Prop:=Go.Calls (aM av) f b c a
end Go.Proofs.YtjidbonhhpkljaaGreat
namespace Go.Proofs.YtjidbonhhpkljaaGreat
namespace Cc
open Go
section
variable {P J:aW}{O:cj->Prop}
def Mg(a:Twin P J)(b:Plain O)(v:F):St P J O (NV v):=by
 unfold NV;refine mV ?_ ?_;have:∀v,handleType J v=handleType P v:=λv=>by unfold handleType;rw[a.xY]
 rw[this]
 .exact ey
def r_(c:Twin P J)(b:Plain O)(a:nL):St P J O (NW a):=by
 unfold NW;exact ey
def D_9(b:Twin P J)(a:Plain O)(args:Array F):St P J O (NY args):=by
 unfold NY NX;exact ey
def Vg{o:Option String}{a:String->bX F}{b:Unit->bX F}(c:∀f,St P J O (a f))(d:St P J O (b ())):St P J O (abM (λ_=>bX F) o a b):=bh
def ZO(args:Array F):St P J O (abL args):=by
 have a:∀s:String,St P J O (stuck s:bX F):=λs=>dI s;have⟨c⟩:=args;rcases c with _|⟨v,_|⟨o,c⟩⟩
 case cons.nil=>
  cases v with
  |agg b=>
   have⟨d⟩:=b;rcases d with _|⟨e,_|⟨g,_|⟨h,_|⟨i,_|⟨k,d⟩⟩⟩⟩⟩
   case cons.cons.cons.cons.nil=>
    cases e with
    |int l b=>
     cases g with
     |int m p=>
      cases h with
      |bool s=>
       cases i with
       |int n j=>
        refine Vg (o:=(if (s&&decide (b<0))=af then abO else abN)[bS j]?) (λf=>?_) ?_;exact trivial;exact a _
       |_=>exact a _
      |_=>exact a _
     |_=>exact a _
    |_=>exact a _
   all_goals exact a _
  |_=>exact a _
 all_goals exact a _
def E_9(c:Twin P J)(b:Plain O)(args:Array F):St P J O (NZ args):=by
 have a:∀s:String,St P J O (stuck s:bX F):=λs=>dI s;unfold NZ NX;have⟨d⟩:=args;rcases d with _|⟨v,_|⟨j,d⟩⟩
 case cons.nil=>
  cases v with
  |agg f=>
   have⟨e⟩:=f;rcases e with _|⟨g,_|⟨h,e⟩⟩
   case cons.nil=>
    refine bP (Mg c b _) λi=>?_
    split
    exact trivial;exact mi c b _
   all_goals exact a _
  |_=>exact a _
 all_goals exact a _
def Z6(b:aN)(a:Nat)(c:ByteArray):St P J O (NU b a c):=by
 induction a generalizing b c with
 |zero=>exact trivial
 |succ a d=>
  unfold NU;refine bP (Bz _ _) λv=>?_
  split
  exact d _ _;exact dI _
def Me(v:F):St P J O (NT v):=by
 unfold NT
 split<;>first|exact trivial|exact Z6 _ _ _|exact dI _
def ZX(args:Array F):St P J O (DO args):=by
 have b:∀s:String,St P J O (stuck s:bX F):=λs=>dI s;unfold DO;have⟨a⟩:=args;rcases a with _|⟨c,_|⟨d,_|⟨e,a⟩⟩⟩
 case cons.cons.nil=>exact bP (Me _) λ_=>bP (Me _) λ_=>trivial
 all_goals exact b _
def pZ(b:Twin P J)(a:Plain O):∀d∈oC,∀args,St P J O (d.2 args):=by
 intro d c args;simp only[oC,fT,jm,or_false] at c;rcases c with rfl|rfl|rfl|rfl|rfl|rfl|rfl|rfl|rfl|rfl|rfl|rfl|rfl|rfl|rfl
 all_goals first
  |exact ZO _
  |exact D_9 b a _
  |exact E_9 b a _
  |exact trivial
  |exact bP (GQ _) λ_=>trivial
  |exact bP (GO _) λ_=>bP (GQ _) λ_=>trivial
  |exact bP (GO _) λ_=>bP (Bw _) λ_=>trivial
def f_(a:11<I HF)(args:Array F):St P J O ((HF[11]'a).2 args):=bP (Bw (ek args 0 (cC #[]))) λ_=>trivial
def om{e:Array F->bX F}(d:QI.name=QK)(a:lF (Extern.allGenericRows.lookup QK)=af)(b:lF (Extern.allTypedRows.lookup QK)=af)(c:Extern.allRows.lookup QK=K e):yL QI=K e:=by
 unfold yL;dsimp only;rw[d,xu.1 a,xu.1 b,c];rfl
def EO{a m:String}(f:QI.name=a)(e:QI.origin=m)(b:lF (Extern.allGenericRows.lookup a)=af)(c:lF (Extern.allTypedRows.lookup a)=af)(d:lF (Extern.allRows.lookup a)=af)(g:lF (Extern.allGenericRows.lookup m)=af)(h:lF (Extern.allTypedRows.lookup m)=af)(i:lF (Extern.allRows.lookup m)=af):yL QI=Z:=by
 unfold yL;dsimp only;rw[f,e,xu.1 b,xu.1 c,xu.1 d,xu.1 g,xu.1 h,xu.1 i];rfl
end
def abc:(av.funcs.toList.all λa=> !a.body.isNone||(iP ([Tryz.f0.name,Tryz.f1.name,Tryz.f168.name,Tryz.f179.name,Tryz.f180.name,Tryz.f181.name,Tryz.f182.name,Tryz.f183.name,Tryz.f184.name,Tryz.f185.name,Tryz.f186.name,Tryz.f187.name,Tryz.f188.name,Tryz.f189.name,Tryz.f190.name,Tryz.f191.name,Tryz.f192.name,Tryz.f193.name,Tryz.f194.name]:List String) a.name&&a.origin==Tryz.f0.origin))=af:=bl
def abj(a:(iP ([Tryz.f0.name,Tryz.f1.name,Tryz.f168.name,Tryz.f179.name,Tryz.f180.name,Tryz.f181.name,Tryz.f182.name,Tryz.f183.name,Tryz.f184.name,Tryz.f185.name,Tryz.f186.name,Tryz.f187.name,Tryz.f188.name,Tryz.f189.name,Tryz.f190.name,Tryz.f191.name,Tryz.f192.name,Tryz.f193.name,Tryz.f194.name]:List String) QI.name)=af)(e:QI.origin=Tryz.f0.origin){f:Array F->bX F}(b:yL QI=K f)(args:Array F):St (aM av) av (dm (aM av)) (f args):=by
 have d:=KQ;have c:=tv (aM av);simp only[List.contains_cons,List.contains_nil,Bool.or_false,tL,beq_iff_eq] at a;rcases a with a|a|a|a|a|a|a|a|a|a|a|a|a|a|a|a|a|a|a;rw[EO a e bl bl bl bl bl bl] at b;cases b;rw[EO a e bl bl bl bl bl bl] at b;cases b;rw[om (e:=DO) a bl bl bl] at b;cases b;exact ZX _;rw[om (e:=(oC[4]'(ay)).2) a bl bl bl] at b;cases b;exact pZ d c _ (c8 _) _;rw[om (e:=(oC[11]'(ay)).2) a bl bl bl] at b;cases b;exact pZ d c _ (c8 _) _;rw[om (e:=(oC[0]'(ay)).2) a bl bl bl] at b;cases b;exact pZ d c _ (c8 _) _;rw[om (e:=(oC[8]'(ay)).2) a bl bl bl] at b;cases b;exact pZ d c _ (c8 _) _;rw[om (e:=(oC[1]'(ay)).2) a bl bl bl] at b;cases b;exact pZ d c _ (c8 _) _;rw[om (e:=(oC[9]'(ay)).2) a bl bl bl] at b;cases b;exact pZ d c _ (c8 _) _;rw[om (e:=(oC[2]'(ay)).2) a bl bl bl] at b;cases b;exact pZ d c _ (c8 _) _;rw[om (e:=(oC[10]'(ay)).2) a bl bl bl] at b;cases b;exact pZ d c _ (c8 _) _;rw[om (e:=(oC[5]'(ay)).2) a bl bl bl] at b;cases b;exact pZ d c _ (c8 _) _;rw[om (e:=(oC[12]'(ay)).2) a bl bl bl] at b;cases b;exact pZ d c _ (c8 _) _;rw[om (e:=(oC[6]'(ay)).2) a bl bl bl] at b;cases b;exact pZ d c _ (c8 _) _;rw[om (e:=(oC[13]'(ay)).2) a bl bl bl] at b;cases b;exact pZ d c _ (c8 _) _;rw[EO a e bl bl bl bl bl bl] at b;cases b;rw[om (e:=(oC[7]'(ay)).2) a bl bl bl] at b;cases b;exact pZ d c _ (c8 _) _;rw[om (e:=(oC[14]'(ay)).2) a bl bl bl] at b;cases b;exact pZ d c _ (c8 _) _;rw[om (e:=(HF[11]'(ay)).2) a bl bl bl] at b;cases b;exact f_ _ _
def KO(a:(aM av).funcs[f]? =K QI)(d:lF QI.body=af):av.funcs[f]? =K QI:=by
 rcases yc f with b|⟨e,_,_,c⟩;rw[b];exact a;rw[c] at a;cases a;cases d
def VW:Ext (aM av) av:=by
 refine⟨λf c a=>?_,λf c a b=>?_,λf c j a b i args=>?_⟩;rcases yc f with e|⟨d,_,g,h⟩;have:=vZ BF (aB e a);simpa using this;rw[h] at a;cases a;have:=vZ BF g;show(d.name==_)=ai;simpa using this;have:=vZ abp (KO a b);rw[b] at this;simpa using this;have:=vZ abc (KO a b);rw[b] at this;simp only[Bool.not_true,Bool.false_or,ez,beq_iff_eq] at this;exact abj this.1 this.2 i args
def VX:sn (aM av) av:=by
 refine⟨KQ,VW,λf=>?_,rfl,λf=>?_,λf i h g e=>?_,aaI (aE.tables _)⟩;rcases yc f with a|⟨d,_,c,b⟩;rw[a];rw[c,b];rfl;rcases yc f with a|⟨d,_,c,b⟩;exact aq a;exact an ⟨_,_,b,rfl⟩;have:=vZ VV g;rw[e] at this;exact this
def mh:Twins (aM av) av:=by
 refine⟨VX,λf=>?_⟩;rcases yc f with h|⟨i,_,a,b⟩;exact⟨by rw[h],λe g j a=>bh⟩;refine⟨by rw[a,b];simp,λe g c d=>?_⟩;rw[b] at c;rw[a] at d;cases c;cases d;rfl
end Cc
end Go.Proofs.YtjidbonhhpkljaaGreat
namespace Go.Proofs
namespace aE
def gN(a:aW)(b:aK):(aM a).underlying b=a.underlying b:=YtjidbonhhpkljaaGreat.Cc.o3 (aE.tables a).symm b
def cg{b:Option cO}(c:av.funcs[f]? =b)(a:(f==78||(f==116||f==117))=ai):(aM av).funcs[f]? =b:=(YtjidbonhhpkljaaGreat.Cc.ov (Bool.or_eq_false_iff.1 a).1 (Bool.or_eq_false_iff.1 (Bool.or_eq_false_iff.1 a).2).1 (Bool.or_eq_false_iff.1 (Bool.or_eq_false_iff.1 a).2).2).trans c
def info(a:aW)(b:aK):(aM a).info? b=a.info? b:=YtjidbonhhpkljaaGreat.Cc.uy (aE.tables a).symm b
@[simp,go_sem] theorem LK (a:aW) (b:aK) (c:ag):iY (aM a) (mE b) c=iY a (mE b) c:=by
 unfold mE program;simp only[bind,Sem.bind,iY,info];generalize a.info? b=d;cases d<;>rfl
@[simp,go_sem] theorem Yk (a:aW) (b:aK) (c:ag):iY (aM a) (rq b) c=iY a (rq b) c:=by
 unfold rq program;simp only[bind,Sem.bind,iY,gN];generalize a.underlying b=d;cases d<;>rfl
def zeroOf (c:aW) (b:Option F) (a:ag):iY (aM c) (match b with|some v=>pure v|none=>unsupported (.resourceLimit "a value of more than 2^22 cells")) a=iY c (match b with|some v=>pure v|none=>unsupported (.resourceLimit "a value of more than 2^22 cells")) a:=by
 cases b with
 |some v=>exact(Sem.run_pure _ _ _).trans (Sem.run_pure _ _ _).symm
 |none=>exact Eq.refl (Result.halt _ a)
@[simp,go_sem] theorem ab3 (a:aW) (b:aK) (c:ag):iY (aM a) (kR b) c=iY a (kR b) c:=by
 unfold kR;rw[s0,s0,LK];generalize iY a (mE b) c=g;cases g with
 |ok f d=>exact zeroOf a f.zero d
 |halt e d=>exact Eq.refl (Result.halt e d)
@[simp,go_sem] theorem ab2 (a:aW) (b:aK) (c:ag):iY (aM a) (mD b) c=iY a (mD b) c:=by
 unfold mD;rw[s0,s0,LK];cases iY a (mE b) c with
 |ok f d=>rfl
 |halt e d=>rfl
def TE(b:aW)(a:TypeDesc)(c:ag):iY (aM b) (match a with| .struct _| .array _ _=>pure af|_=>pure ai) c=iY b (match a with| .struct _| .array _ _=>pure af|_=>pure ai) c:=by
 cases a<;>exact(Sem.run_pure _ _ _).trans (Sem.run_pure _ _ _).symm
@[simp,go_sem] theorem ab1 (a:aW) (b:aK) (c:ag):iY (aM a) (isAgg b) c=iY a (isAgg b) c:=by
 unfold isAgg;rw[s0,s0,Yk];generalize iY a (rq b) c=g;cases g with
 |ok f d=>exact TE a f d
 |halt e d=>exact Eq.refl (Result.halt e d)
@[simp,go_sem] theorem B6 (a:aW) (b:Nat) (c:aK):(aM a).eqGuardType b c=a.eqGuardType b c:=YtjidbonhhpkljaaGreat.Cc.Ng (aE.tables a).symm b c
@[simp,go_sem] theorem depth (a:aW):(aM a).depth=a.depth:=YtjidbonhhpkljaaGreat.Cc.wT (aE.tables a).symm
@[simp,go_sem] theorem Dp (a:aW) (b:aK):(aM a).stoodInHeld b=a.stoodInHeld b:=YtjidbonhhpkljaaGreat.Cc.Du (aE.tables a).symm b
def Yf (b:Qn.funcs[f]? =K QI) (d:(QI.name == "runtime.NumGoroutine")=ai) (c:QI.body.isNone=ai) (args:Array F) (a:ag):iY Qn (callFunc f args) a= .ok (.enter f args) a:=by
 unfold callFunc program;simp only[bind,pure,Sem.bind,iY,b,d,c,fA,if_false]
def cy(a:(aM av).funcs[f]? =K QI)(h:QI.body.isNone=ai)(args:Array F)(b:ag):iY (aM av) (callFunc f args) b= .ok (.enter f args) b:=by
 refine Yf a ?_ h args b;rcases YtjidbonhhpkljaaGreat.Cc.yc f with c|⟨d,i,e,g⟩
 .rw[<-c] at a;simpa using YtjidbonhhpkljaaGreat.Cc.vZ YtjidbonhhpkljaaGreat.Cc.BF a
 .rw[g] at a;cases a;exact(by simpa using YtjidbonhhpkljaaGreat.Cc.vZ YtjidbonhhpkljaaGreat.Cc.BF e:(d.name == "runtime.NumGoroutine")=ai)
def func8:=cg Tryz.func8 rfl
def func9:=cg Tryz.func9 rfl
def func10:=cg Tryz.func10 rfl
def func11:=cg Tryz.func11 rfl
def func12:=cg Tryz.func12 rfl
def func14:=cg Tryz.func14 rfl
def func15:=cg Tryz.func15 rfl
def func16:=cg Tryz.func16 rfl
def func17:=cg Tryz.func17 rfl
def func18:=cg Tryz.func18 rfl
def func29:=cg Tryz.func29 rfl
def func30:=cg Tryz.func30 rfl
def func31:=cg Tryz.func31 rfl
def func32:=cg Tryz.func32 rfl
def func35:=cg Tryz.func35 rfl
def func36:=cg Tryz.func36 rfl
def func37:=cg Tryz.func37 rfl
def func44:=cg Tryz.func44 rfl
def func45:=cg Tryz.func45 rfl
def func46:=cg Tryz.func46 rfl
def func47:=cg Tryz.func47 rfl
def func48:=cg Tryz.func48 rfl
def func49:=cg Tryz.func49 rfl
def func50:=cg Tryz.func50 rfl
def func51:=cg Tryz.func51 rfl
def func52:=cg Tryz.func52 rfl
def func53:=cg Tryz.func53 rfl
def func55:=cg Tryz.func55 rfl
def func57:=cg Tryz.func57 rfl
def func61:=cg Tryz.func61 rfl
def func62:=cg Tryz.func62 rfl
def func63:=cg Tryz.func63 rfl
def func64:=cg Tryz.func64 rfl
def func65:=cg Tryz.func65 rfl
def func66:=cg Tryz.func66 rfl
def func67:=cg Tryz.func67 rfl
def func68:=cg Tryz.func68 rfl
def func69:=cg Tryz.func69 rfl
def func70:=cg Tryz.func70 rfl
def func71:=cg Tryz.func71 rfl
def func72:=cg Tryz.func72 rfl
def func73:=cg Tryz.func73 rfl
def func74:=cg Tryz.func74 rfl
def func75:=cg Tryz.func75 rfl
def func76:=cg Tryz.func76 rfl
def func77:=cg Tryz.func77 rfl
def func80:=cg Tryz.func80 rfl
def func81:=cg Tryz.func81 rfl
def func82:=cg Tryz.func82 rfl
def func83:=cg Tryz.func83 rfl
def func89:=cg Tryz.func89 rfl
def func90:=cg Tryz.func90 rfl
def func91:=cg Tryz.func91 rfl
def func92:=cg Tryz.func92 rfl
def func93:=cg Tryz.func93 rfl
def func94:=cg Tryz.func94 rfl
def func95:=cg Tryz.func95 rfl
def func96:=cg Tryz.func96 rfl
def func97:=cg Tryz.func97 rfl
def func98:=cg Tryz.func98 rfl
def func99:=cg Tryz.func99 rfl
def func100:=cg Tryz.func100 rfl
def func101:=cg Tryz.func101 rfl
def func102:=cg Tryz.func102 rfl
def func103:=cg Tryz.func103 rfl
def func104:=cg Tryz.func104 rfl
def func105:=cg Tryz.func105 rfl
def func106:=cg Tryz.func106 rfl
def func107:=cg Tryz.func107 rfl
def func108:=cg Tryz.func108 rfl
def func109:=cg Tryz.func109 rfl
def func110:=cg Tryz.func110 rfl
def func111:=cg Tryz.func111 rfl
def func112:=cg Tryz.func112 rfl
def func113:=cg Tryz.func113 rfl
def func114:=cg Tryz.func114 rfl
def func115:=cg Tryz.func115 rfl
def func118:=cg Tryz.func118 rfl
def func119:=cg Tryz.func119 rfl
def func120:=cg Tryz.func120 rfl
def func123:=cg Tryz.func123 rfl
def func125:=cg Tryz.func125 rfl
def func126:=cg Tryz.func126 rfl
def func127:=cg Tryz.func127 rfl
def func128:=cg Tryz.func128 rfl
def func129:=cg Tryz.func129 rfl
def func130:=cg Tryz.func130 rfl
def func131:=cg Tryz.func131 rfl
def func132:=cg Tryz.func132 rfl
def func133:=cg Tryz.func133 rfl
def func134:=cg Tryz.func134 rfl
def func135:=cg Tryz.func135 rfl
def func136:=cg Tryz.func136 rfl
def func137:=cg Tryz.func137 rfl
def func138:=cg Tryz.func138 rfl
def func139:=cg Tryz.func139 rfl
def func141:=cg Tryz.func141 rfl
def func147:=cg Tryz.func147 rfl
def func148:=cg Tryz.func148 rfl
def func149:=cg Tryz.func149 rfl
def func150:=cg Tryz.func150 rfl
def func151:=cg Tryz.func151 rfl
def func152:=cg Tryz.func152 rfl
def func153:=cg Tryz.func153 rfl
def func154:=cg Tryz.func154 rfl
def func155:=cg Tryz.func155 rfl
def func156:=cg Tryz.func156 rfl
def func158:=cg Tryz.func158 rfl
def func159:=cg Tryz.func159 rfl
def func160:=cg Tryz.func160 rfl
def func161:=cg Tryz.func161 rfl
def func162:=cg Tryz.func162 rfl
def func163:=cg Tryz.func163 rfl
def func164:=cg Tryz.func164 rfl
def func165:=cg Tryz.func165 rfl
def func166:=cg Tryz.func166 rfl
def func167:=cg Tryz.func167 rfl
def func168:=cg Tryz.func168 rfl
def func169:=cg Tryz.func169 rfl
def func170:=cg Tryz.func170 rfl
def func171:=cg Tryz.func171 rfl
def func172:=cg Tryz.func172 rfl
def func173:=cg Tryz.func173 rfl
def func175:=cg Tryz.func175 rfl
def func176:=cg Tryz.func176 rfl
def func177:=cg Tryz.func177 rfl
def func178:=cg Tryz.func178 rfl
@[simp,go_sem] def call11:=cy func11 rfl
@[simp,go_sem] def call12:=cy func12 rfl
@[simp,go_sem] def call14:=cy func14 rfl
@[simp,go_sem] def call15:=cy func15 rfl
@[simp,go_sem] def call16:=cy func16 rfl
@[simp,go_sem] def call17:=cy func17 rfl
@[simp,go_sem] def call18:=cy func18 rfl
@[simp,go_sem] def call29:=cy func29 rfl
@[simp,go_sem] def call30:=cy func30 rfl
@[simp,go_sem] def call35:=cy func35 rfl
@[simp,go_sem] def call37:=cy func37 rfl
@[simp,go_sem] def call44:=cy func44 rfl
@[simp,go_sem] def call45:=cy func45 rfl
@[simp,go_sem] def call46:=cy func46 rfl
@[simp,go_sem] def call47:=cy func47 rfl
@[simp,go_sem] def call48:=cy func48 rfl
@[simp,go_sem] def call49:=cy func49 rfl
@[simp,go_sem] def call50:=cy func50 rfl
@[simp,go_sem] def call51:=cy func51 rfl
@[simp,go_sem] def call52:=cy func52 rfl
@[simp,go_sem] def call53:=cy func53 rfl
@[simp,go_sem] def call55:=cy func55 rfl
@[simp,go_sem] def call57:=cy func57 rfl
@[simp,go_sem] def call61:=cy func61 rfl
@[simp,go_sem] def call62:=cy func62 rfl
@[simp,go_sem] def call63:=cy func63 rfl
@[simp,go_sem] def call64:=cy func64 rfl
@[simp,go_sem] def call65:=cy func65 rfl
@[simp,go_sem] def call66:=cy func66 rfl
@[simp,go_sem] def call67:=cy func67 rfl
@[simp,go_sem] def call68:=cy func68 rfl
@[simp,go_sem] def call69:=cy func69 rfl
@[simp,go_sem] def call70:=cy func70 rfl
@[simp,go_sem] def call71:=cy func71 rfl
@[simp,go_sem] def call72:=cy func72 rfl
@[simp,go_sem] def call73:=cy func73 rfl
@[simp,go_sem] def call74:=cy func74 rfl
@[simp,go_sem] def call75:=cy func75 rfl
@[simp,go_sem] def call80:=cy func80 rfl
@[simp,go_sem] def call81:=cy func81 rfl
@[simp,go_sem] def call82:=cy func82 rfl
@[simp,go_sem] def call83:=cy func83 rfl
@[simp,go_sem] def call89:=cy func89 rfl
@[simp,go_sem] def call90:=cy func90 rfl
@[simp,go_sem] def call91:=cy func91 rfl
@[simp,go_sem] def call92:=cy func92 rfl
@[simp,go_sem] def call93:=cy func93 rfl
@[simp,go_sem] def call94:=cy func94 rfl
@[simp,go_sem] def call95:=cy func95 rfl
@[simp,go_sem] def call96:=cy func96 rfl
@[simp,go_sem] def call97:=cy func97 rfl
@[simp,go_sem] def call98:=cy func98 rfl
@[simp,go_sem] def call99:=cy func99 rfl
@[simp,go_sem] def call100:=cy func100 rfl
@[simp,go_sem] def call101:=cy func101 rfl
@[simp,go_sem] def call102:=cy func102 rfl
@[simp,go_sem] def call103:=cy func103 rfl
@[simp,go_sem] def call104:=cy func104 rfl
@[simp,go_sem] def call105:=cy func105 rfl
@[simp,go_sem] def call106:=cy func106 rfl
@[simp,go_sem] def call107:=cy func107 rfl
@[simp,go_sem] def call108:=cy func108 rfl
@[simp,go_sem] def call109:=cy func109 rfl
@[simp,go_sem] def call110:=cy func110 rfl
@[simp,go_sem] def call111:=cy func111 rfl
@[simp,go_sem] def call112:=cy func112 rfl
@[simp,go_sem] def call113:=cy func113 rfl
@[simp,go_sem] def call114:=cy func114 rfl
@[simp,go_sem] def call115:=cy func115 rfl
@[simp,go_sem] def call120:=cy func120 rfl
@[simp,go_sem] def call123:=cy func123 rfl
@[simp,go_sem] def call125:=cy func125 rfl
@[simp,go_sem] def call126:=cy func126 rfl
@[simp,go_sem] def call127:=cy func127 rfl
@[simp,go_sem] def call128:=cy func128 rfl
@[simp,go_sem] def call129:=cy func129 rfl
@[simp,go_sem] def call130:=cy func130 rfl
@[simp,go_sem] def call131:=cy func131 rfl
@[simp,go_sem] def call132:=cy func132 rfl
@[simp,go_sem] def call133:=cy func133 rfl
@[simp,go_sem] def call134:=cy func134 rfl
@[simp,go_sem] def call135:=cy func135 rfl
@[simp,go_sem] def call136:=cy func136 rfl
@[simp,go_sem] def call137:=cy func137 rfl
@[simp,go_sem] def call138:=cy func138 rfl
@[simp,go_sem] def call141:=cy func141 rfl
@[simp,go_sem] def call147:=cy func147 rfl
@[simp,go_sem] def call148:=cy func148 rfl
@[simp,go_sem] def call149:=cy func149 rfl
@[simp,go_sem] def call150:=cy func150 rfl
@[simp,go_sem] def call151:=cy func151 rfl
@[simp,go_sem] def call152:=cy func152 rfl
@[simp,go_sem] def call153:=cy func153 rfl
@[simp,go_sem] def call154:=cy func154 rfl
@[simp,go_sem] def call155:=cy func155 rfl
@[simp,go_sem] def call156:=cy func156 rfl
@[simp,go_sem] def call158:=cy func158 rfl
@[simp,go_sem] def call159:=cy func159 rfl
@[simp,go_sem] def call160:=cy func160 rfl
@[simp,go_sem] def call161:=cy func161 rfl
@[simp,go_sem] def call162:=cy func162 rfl
@[simp,go_sem] def call163:=cy func163 rfl
@[simp,go_sem] def call164:=cy func164 rfl
@[simp,go_sem] def call165:=cy func165 rfl
@[simp,go_sem] def call166:=cy func166 rfl
@[simp,go_sem] def call167:=cy func167 rfl
@[simp,go_sem] def call169:=cy func169 rfl
@[simp,go_sem] def call170:=cy func170 rfl
@[simp,go_sem] def call171:=cy func171 rfl
@[simp,go_sem] def call172:=cy func172 rfl
@[simp,go_sem] def call173:=cy func173 rfl
@[simp,go_sem] def call175:=cy func175 rfl
@[simp,go_sem] def call176:=cy func176 rfl
@[simp,go_sem] def call177:=cy func177 rfl
@[simp,go_sem] def call178:=cy func178 rfl
@[simp,go_sem] def underlying2:=(gN _ _).trans Tryz.underlying2
@[simp,go_sem] def underlying3:=(gN _ _).trans Tryz.underlying3
@[simp,go_sem] def underlying4:=(gN _ _).trans Tryz.underlying4
@[simp,go_sem] def underlying5:=(gN _ _).trans Tryz.underlying5
@[simp,go_sem] def underlying9:=(gN _ _).trans Tryz.underlying9
@[simp,go_sem] def underlying20:=(gN _ _).trans Tryz.underlying20
@[simp,go_sem] def underlying22:=(gN _ _).trans Tryz.underlying22
@[simp,go_sem] def underlying23:=(gN _ _).trans Tryz.underlying23
@[simp,go_sem] def underlying26:=(gN _ _).trans Tryz.underlying26
@[simp,go_sem] def underlying32:=(gN _ _).trans Tryz.underlying32
@[simp,go_sem] def underlying33:=(gN _ _).trans Tryz.underlying33
@[simp,go_sem] def underlying34:=(gN _ _).trans Tryz.underlying34
@[simp,go_sem] def underlying35:=(gN _ _).trans Tryz.underlying35
@[simp,go_sem] def underlying43:=(gN _ _).trans Tryz.underlying43
@[simp,go_sem] def underlying44:=(gN _ _).trans Tryz.underlying44
@[simp,go_sem] def underlying59:=(gN _ _).trans Tryz.underlying59
@[simp,go_sem] def underlying61:=(gN _ _).trans Tryz.underlying61
@[simp,go_sem] def underlying103:=(gN _ _).trans Tryz.underlying103
@[simp,go_sem] def underlying111:=(gN _ _).trans Tryz.underlying111
@[simp,go_sem] def underlying120:=(gN _ _).trans Tryz.underlying120
@[simp,go_sem] def underlying128:=(gN _ _).trans Tryz.underlying128
@[simp,go_sem] def underlying133:=(gN _ _).trans Tryz.underlying133
@[simp,go_sem] def underlying137:=(gN _ _).trans Tryz.underlying137
@[simp,go_sem] def underlying141:=(gN _ _).trans Tryz.underlying141
@[simp,go_sem] def underlying160:=(gN _ _).trans Tryz.underlying160
@[simp,go_sem] def underlying170:=(gN _ _).trans Tryz.underlying170
@[simp,go_sem] def underlying176:=(gN _ _).trans Tryz.underlying176
@[simp,go_sem] def underlying205:=(gN _ _).trans Tryz.underlying205
@[simp,go_sem] def underlying206:=(gN _ _).trans Tryz.underlying206
@[simp,go_sem] def underlying229:=(gN _ _).trans Tryz.underlying229
end aE
end Go.Proofs
namespace Go.Proofs.YtjidbonhhpkljaaGreat
namespace Pk
open Go.RowKit
def F9(a:M=qA):aR (bt Qv M)=aR (bt Qv qA):=by rw[a]
def pw (a:Nat):Int:=((2^a:Nat):Int)
def wF(a:Nat):0<pw a:=by
 have:0<2^a:=Nat.pow_pos aa;unfold pw;omega
def FU(a m:Nat)(b:a<=m):pw a<=pw m:=by
 have:=n7 (show 0<2 by omega) b;unfold pw;omega
def VT:pw (n+1)=2*pw n:=by
 unfold pw;rw[rC];omega
def zY(a:Nat)(b:a<=16):pw a<=65536:=FU a 16 b
def Ba(k:n<=16):
 bn 135 #[z9 n] w λc f=>c=aR (z9 (pw n))/\f=w:=by
 go_enter aE.func135,Tryz.ntmps135;go_wp2
 go_loop [3,4] (λe b=>∃a:Nat,a<=n/\b=z9 a/\e=z9 (pw a)) (λ_ b=>n-bS (bw b))
 exact⟨0,cE _,rfl,rfl⟩;obtain⟨a,i,rfl,rfl⟩:=hrel;have g:=wF a;have h:=zY a aa;by_cases j:a<n;go_wp2
 go_round
 exact⟨a+1,aa,by go_num,by rw[VT]⟩;simp[bw];omega;have d:a=n:=aa;subst d;go_wp2;go_ret;exact⟨rfl,rfl⟩
def xK (a:Int):Int:=if a<0\/100<a then 6 else 0
def IC(a:Int)(c:ag):
 bn 141 #[z9 a] c λd f=>d=aR (z9 (xK a))/\f=c:=by
 by_cases b:a<0
 .go_enter aE.func141,Tryz.ntmps141;go_wp2
  all_goals go_ret
  all_goals exact⟨F9 (by simp[xK,b]),rfl⟩
 .by_cases e:100<a
  all_goals
   go_enter aE.func141,Tryz.ntmps141;go_wp2
   all_goals go_ret
   all_goals exact⟨F9 (by simp[xK,b,e]),rfl⟩
end Pk
namespace Pm
def V:List Nat->Nat
 | []=>0
 |b::a=>b+256*V a
def N (a:Nat):List Nat->Nat
 | []=>0
 |x::b=>x+2^a*N a b
def HU(a:List Nat)(c:∀b∈a,b<256):V a<256^I a:=by
 induction a with
 |nil=>simp[V]
 |cons b i e=>
  have g:=c b (by simp);have h:=e (λf d=>c f (by simp[d]));simp only[V,pI,rC];omega
def Ov(a:List Nat)(f:∀b∈l,b<256)(g:∀b∈a,b<256)(h:I l=I a)(k:V l=V a):l=a:=by
 induction l generalizing a with
 |nil=>cases a with
  |nil=>rfl
  |cons d s=>simp at h
 |cons b n m=>cases a with
  |nil=>simp at h
  |cons d s=>
   simp only[V] at k;have o:=f b aF;have p:=g d aF;have i:b=d:=aa;have j:V n=V s:=aa;rw[i,m s (λe c=>f e (by simp[c])) (λe c=>g e (by simp[c])) bh j]
def HV(a b:Nat)(c:a<I l):V (l.set a b)+l[a]*256^a=V l+b*256^a:=by
 induction l generalizing a with
 |nil=>simp at c
 |cons g f d=>
  cases a with
  |zero=>simp[V];omega
  |succ e=>
   have:=d e bh;simp only[cr,V,mH,rC];rw[<-Nat.mul_assoc,<-Nat.mul_assoc];omega
def Ou(a:n<I l):l[n]*256^n<=V l:=by
 have:=HV n 0 a;omega
def Ox:V (dh n 0)=0:=by
 induction n with
 |zero=>rfl
 |succ b a=>simp[List.replicate_succ,V,a]
def Ow(a:Nat)(d:∀h∈l,h<256):V (l.take a)=V l%256^a:=by
 induction l generalizing a with
 |nil=>simp[V]
 |cons b c g=>
  cases a with
  |zero=>simp[V,Nat.mod_one]
  |succ e=>
   have j:=d b aF;simp only[List.take_succ_cons,V,(g e (λi f=>d i (by simp[f]))),rC];rw[uP (256^e) 256,Nat.mod_mul,show(b+256*V c)%256=b by omega,show(b+256*V c)/256=V c by omega]
def HT(a:Nat)(b:∀h∈l,h<256):(l[a]?.getD 0)=V l/256^a%256:=by
 induction l generalizing a with
 |nil=>simp[V]
 |cons e d g=>
  have j:=b e aF;cases a with
  |zero=>simp[V];omega
  |succ c=>
   simp only[List.getElem?_cons_succ,(g c (λi f=>b i (by simp[f]))),V,rC];rw[uP (256^c) 256,<-Nat.div_div_eq_div_mul,show(e+256*V d)/256=V d by omega]
def HM:N n (l++[m])=N n l+2^(n*I l)*m:=by
 induction l with
 |nil=>simp[N]
 |cons c a b=>
  simp only[r9,N,b,pI];rw[Nat.mul_add,<-Nat.mul_assoc,<-oJ,gF,show n+n*I a=n*(I a+1) by grind]
def DU(a:Nat)(b:List Nat)(d:∀h∈b,h<2^a):N a b<2^(a*I b):=by
 induction b with
 |nil=>simp[N]
 |cons i c g=>
  have k:=d i aF;simp only[N,pI];rw[show a*(I c+1)=a+a*I c by grind,oJ];have e:2^a*(N a c+1)<=2^a*2^(a*I c):=Nat.mul_le_mul_left _ (g (λj f=>d j (by simp[f])));rw[Nat.mul_add] at e;omega
def D (a v:Nat):Nat->List Nat
 |0=>[]
 |n+1=>D a v n++[v/2^(a*n)%2^a]
def w8{c v a:Nat}:I (D c v a)=a:=by
 induction a with
 |zero=>rfl
 |succ d b=>simp[D,b]
def Av{d v c:Nat}:∀b∈D d v c,b<2^d:=by
 induction c with
 |zero=>simp[D]
 |succ f e=>
  intro b a;simp only[D,eG,List.mem_singleton] at a;rcases a with a|a;exact e b a;rw[a];exact Nat.mod_lt _ (Nat.pow_pos aa)
def za{a v b:Nat}:N a (D a v b)=v%2^(a*b):=by
 induction b with
 |zero=>simp[D,N,Nat.mod_one]
 |succ c d=>
  rw[D,HM,d,w8,show a*(c+1)=a*c+a by rfl,oJ,Nat.mod_mul]
def Fb:n%2^(m+1)=n%2^m+2^m*(n/2^m%2):=by
 rw[rC,Nat.mod_mul]
def zV:256^n=2^(8*n):=by rw[Nat.pow_mul]
def O1{v a:Nat}:v/256^(a/8)%256/2^(a%8)%2=v/2^a%2:=by
 have b:(256:Nat)=2^(a%8)*(2^(8-a%8)):=by rw[<-oJ,show a%8+(8-a%8)=8 by omega]
 have c:v/256^(a/8)%256/2^(a%8)=v/256^(a/8)/2^(a%8)%2^(8-a%8):=by
  conv=>lhs;rw[b]
  rw[Nat.mod_mul_right_div_self,<-b]
 rw[c,Nat.div_div_eq_div_mul,zV,<-oJ,show 8*(a/8)+a%8=a by omega,show 8-a%8=(7-a%8)+1 by omega,rC,uP,Nat.mod_mul_right_mod]
def L_9(d:List Nat)(f e c a b:Nat)(n:f<2^(c*a))(k:V d=f+2^(c*a)*(e%2^b))(g:(a*c+b)/8<I d)(hx:e/2^b%2=1):
 d[(a*c+b)/8]+2^((a*c+b)%8)<256/\V (d.set ((a*c+b)/8) (d[(a*c+b)/8]+2^((a*c+b)%8)))=f+2^(c*a)*(e%2^(b+1)):=by
 have p:V d<2^(a*c+b):=by
  have i:e%2^b+1<=2^b:=Nat.mod_lt _ (Nat.pow_pos aa);have j:=Nat.mul_le_mul_left (2^(c*a)) i;rw[Nat.mul_add,<-oJ] at j;rw[k,uP a c];omega
 have o:=Ou g;have h:2^(a*c+b)=2^((a*c+b)%8)*256^((a*c+b)/8):=by
  rw[zV,<-oJ];congr 1;omega
 have m:d[(a*c+b)/8]<2^((a*c+b)%8):=by
  have:d[(a*c+b)/8]*256^((a*c+b)/8)<2^((a*c+b)%8)*256^((a*c+b)/8):=aa;exact Nat.lt_of_mul_lt_mul_right this
 refine⟨?_,?_⟩;have:2^((a*c+b)%8+1)<=2^8:=n7 aa aa;rw[rC] at this;omega
 .have l:=HV _ (d[(a*c+b)/8]+2^((a*c+b)%8)) g;rw[Nat.add_mul,<-h] at l;rw[Fb,hx,uQ,Nat.mul_add,<-oJ,show c*a+b=a*c+b by grind];omega
def K_9(b a:Nat)(hx:¬b/2^a%2=1):b%2^(a+1)=b%2^a:=by
 rw[Fb,show b/2^a%2=0 by omega];omega
def Oe(c:Nat)(b:List Nat)(a:Nat)(d:a<I b):N c (b.take (a+1))=N c (b.take a)+2^(c*a)*b[a]:=by
 rw[gh d,HM,m7,xp aa]
def Od(c:Nat)(b:List Nat)(a:Nat)(e:∀d∈b,d<2^c)(f:a<=I b):N c (b.take a)<2^(c*a):=by
 have:=DU c (b.take a) (λd g=>e d (xo g));rwa [m7,xp f] at this
def Zt(b:List Nat)(c:∀a∈b,a<256)(hx:m<256):∀a∈b.set n m,a<256:=bh
def OP(a:k<n)(b:i<m):(k*m+i)/8<(n*m+7)/8:=by
 have:(k+1)*m<=n*m:=Nat.mul_le_mul_right _ a;rw[Nat.succ_mul] at this;omega
end Pm
namespace Pk
open Go.RowKit Pm
def aE.EZ:((aM av).info? 5).map (λa=>(jL a,a.size,ji a))=K (K (bt .u8 0),1,1):=bl
def aE.pP:((aM av).info? 3).map (λa=>(jL a,a.size,ji a))=K (K (z9 0),1,8):=bl
def js (b:List Nat):List F:=b.map fun(a:Nat)=>bt .u8 (a:Int)
def Ug:dD (px (lC (bt .u8 0)) (n*1))=js (dh n 0):=by
 have:lC (bt .u8 0)=#[bt .u8 0]:=rfl;rw[this,toList_madeCells_one,js,List.map_replicate,uQ];rfl
def Ib(b:List Nat)(a:Nat)(c:a<I b):(js b)[a]? =K (bt .u8 ((b[a]:Nat):Int)):=by
 simp[js,c]
def OV(b:aT w n 5 1 (aI m k i) k (js l))(d:I l=k):
 ∀a,a<k->aA w ⟨m,0+a,Z⟩=K (bt .u8 (aX (l.map (fun(k:Nat)=>(k:Int))) a 0)):=by
 intro a c;rw[e7,pp b a (by omega),Ib l a (by omega)];simp[aX,show a<I l by omega]
def OW:(js l).set n (bt .u8 (m:Int))=js (l.set n m):=by simp[js,List.map_set]
def O5(e:aT w n 5 1 (aI m k i) k (js l))(c b a:Nat):
 aT ((bg w ⟨m,c,Z⟩ (bt .u8 ((b:Int)+pw a))).drew) n 5 1 (aI m k i) k (js (l.set c (b+2^a))):=by
 have d:=(e.stored c (bt .u8 ((b:Int)+pw a))).1;rw[show(b:Int)+pw a=((b+2^a:Nat):Int) from by rfl,OW] at d;rw[show(b:Int)+pw a=((b+2^a:Nat):Int) from by rfl];exact d.drew
def CM(a:Nat):bn 135 #[z9 ((a:Int)%8)] w λb d=>b=aR (z9 (pw (a%8)))/\d=w:=by
 have c:((a:Int)%8)=((a%8:Nat):Int):=aa;rw[c];exact Ba aa
def DF{x:Int}(a:0<=x)(b:x<256):vH.wrap x=x:=by
 simp[IntKind.wrap,IntKind.signed,IntKind.bits];omega
def Pe(a:n+2^m<256):(n:Int)+pw m<256:=by unfold pw;omega
def Ih:(n:Int)/pw m%2=((n/2^m%2:Nat):Int):=by rfl
def Ii(b a:Nat)(c:(b:Int)/pw a%2=1):b/2^a%2=1:=by rw[Ih] at c;omega
def Ij(b a:Nat)(c:¬(b:Int)/pw a%2=1):¬b/2^a%2=1:=by rw[Ih] at c;omega
def below_drewN(a:dw n w u)(b:Nat):dw n w (cT u b):=fJ a ⟨rfl,rfl,rfl,aV _,λ_ _=>rfl⟩
def x8(b:aT w n Qc m v k S)(a:Nat):aT (cT w a) n Qc m v k S:=by
 induction a with
 |zero=>exact b
 |succ a c=>exact c.drew
def O3(c:List Nat)(a:Nat)(D:Option aN)(k p L:Nat)(h:ag)(x:a<=16)(am:I c<=100)(v:∀g∈c,g<2^a)
 (ao:0<I c->D=K ⟨k,p,Z⟩) (P:0<I c->k<U h.heap) (a1:∀z,z<I c->aA h ⟨k,p+z,Z⟩=K (z9 ((aX c z 0:Nat):Int))):
 bn 138 #[ah D (I c) L,z9 a] h λE H=>∃d:List Nat,I d=(I c*a+7)/8/\(∀g∈d,g<256)/\V d=N a c/\
  E=aR (au (strOfNums (d.map (fun(A:Nat)=>(A:Int)))))/\aD h H:=by
 have⟨aH,aj,az,aC,aG⟩:=eU aE.EZ;have bd:I c*a<=1600:=s8 am x;have be:(0:Int)<=(I c:Int)*(a:Int):=aa;have bi:(I c:Int)*(a:Int)<=1600:=aa;go_enter aE.func138,Tryz.ntmps138;go_wp2_with (at_make;refine wpList_make_full _ Y _ _ 133 Y (U h.heap) 5 aH (bt .u8 0) 1 aE.underlying133 aj az aC bM bM _ _ ((I c*a+7)/8) Y Y (by first|omega|(push_cast;omega)) (by first|omega|(push_cast;omega)) (by rw[aG];omega) gy (aV _) ?_;intro aL G ae);rw[Ug] at G;have R:aD h aL:=iB (bU _ _) ae (aV _) aF;generalize F:(I c*a+7)/8=i at*
 go_loopw [7] (λy wr=>∃(b:Nat) (d:List Nat),b<=I c/\y=z9 b/\I d=i/\(∀g∈d,g<256)/\V d=N a (c.take b)/\
  aT wr (U h.heap) 5 1 (aI (U h.heap) i i) i (js d)/\aD h wr) (λy _=>I c-bS (bw y))
 exact⟨0,dh i 0,cE _,rfl,aF,aF,by simp[Ox,N],G,R⟩;obtain⟨b,d,a9,rfl,j,m,n,o,l⟩:=hrel;by_cases s:b<I c
 .obtain rfl:=ao aa;have bE:aX c b 0=c[b]:=bh;have ab:aJ h k (p+b) (z9 ((c[b]:Nat):Int)):=bh;have T:k<U h.heap:=P aa;have bF:(c[b]:Nat)<65536:=by have aQ:=v _ (c8 s);have aY:2^a<=2^16:=n7 aa x;omega
  have M:N a (c.take b)<2^(a*b):=Od a c b v aa;have ba:b*a<=100*16:=s8 aa x;have bb:(0:Int)<=(b:Int)*(a:Int):=aa;have bc:(b:Int)*(a:Int)<=1600:=aa;have O:=ap (Oe a c b s);have ay:=ap (s7 (v _ (c8 s)));generalize c[b]=g at*;generalize N a (c.take b)=C at*;go_wp2_with fail
  go_loopw [8] (λB wr=>∃(f:Nat) (d:List Nat),f<=a/\B=z9 f/\I d=i/\(∀g∈d,g<256)/\V d=C+2^(a*b)*(g%2^f)/\
   aT wr (U h.heap) 5 1 (aI (U h.heap) i i) i (js d)/\aD h wr) (λB _=>a-bS (bw B))
  exact⟨0,d,cE _,rfl,j,m,bh,o,l⟩;obtain⟨f,d,bs,rfl,j,m,n,o,l⟩:=hrel;have a3:aJ wr k (p+b) (n9 g):=aB (bq l (p:=⟨k,p+b,Z⟩) T) ab;have bj:=wF f;have bk:=zY f aa;have bl:(0:Int)<=(g:Int)/pw f:=Int.ediv_nonneg aa aa;have bm:(g:Int)/pw f<=65536:=by have:=Int.ediv_le_self (a:=(g:Int)) (pw f) aa;omega
  by_cases ar:f<a
  .by_cases r:(g:Int)/pw f%2=1
   .have Q:=beq_iff_eq.2 r
    skip
    go_wp2_with fail;go_quiet ((go_at_call 135;exact vG (Ba (by omega))));go_wp2_with fail;rw[show(b:Int)*(a:Int)+(f:Int)=((b*a+f:Nat):Int) from by rfl];have u:(b*a+f)/8<I d:=by rw[j,<-F];exact OP s ar
    have t:=ap (L_9 d C g a b f M n u (Ii g f r));have aZ:b*a+f<=1616:=aa;generalize a0:b*a+f=e at*;have w:=x8 o nq;have S:=below_drewN l nq;generalize cT wr nq=J at*;have W:=pp w (e/8) aa;rw[Ib d _ u] at W;have a5:=vM w (e/8);have bH:d[e/8]<256:=m _ (c8 u);have a7:(e:Int)/8<(i:Int):=aa;have a8:e/8<i:=aa;generalize bI:d[e/8]=q at*
    skip
    have ad:X (bS ((e:Int)/8)=e/8):=show _=_ by omega
    have a2:aA J ⟨U h.heap,bS ((e:Int)/8),Z⟩=K (bt .u8 (q:Int)):=bh;have a6:cU J ⟨U h.heap,bS ((e:Int)/8),Z⟩=ai:=bh;have bu:bM.wrap ((e:Int)/8)=((e/8:Nat):Int):=by simp[kw];omega
    have bv:bM.wrap ((e:Int)%8)=((e%8:Nat):Int):=by simp[kw];omega
    have bo:=wF (e%8);have br:pw (e%8)<=128:=FU (e%8) 7 aa;have bx:vH.wrap (pw (e%8))=pw (e%8):=DF aa aa;have bD:vH.wrap ((q:Int)+pw (e%8))=(q:Int)+pw (e%8):=DF aa (Pe t.o.1)
    go_region_with (go_at_call 135;refine bL (CM e) ?_;rintro E H ⟨rfl,rfl⟩)
    all_goals
     go_wp2
     go_roundw
     case rel=>
      try rw[ad.o]
      exact⟨f+1,d.set (e/8) (q+2^(e%8)),aa,by go_num,by rw[List.length_set];exact j,Zt d m t.o.1,t.o.2,O5 w (e/8) q (e%8),(tS S (aV _) _).drew⟩
     case measure=>simp[bw];omega
   .have Q:=beq_eq_false_iff_ne.2 r;go_wp2_with fail;go_quiet ((go_at_call 135;exact vG (Ba (by omega))));go_wp2
    go_roundw
    case rel=>exact⟨f+1,d,aa,by go_num,j,m,by rw[n,K_9 g f (Ij g f r)],x8 o nq,below_drewN l nq⟩
    case measure=>simp[bw];omega
  .have aw:f=a:=by omega
   subst aw;go_wp2
   go_roundw
   case rel=>exact⟨b+1,d,aa,by go_num,j,m,by rw[n,O.o,ay.o],o,l⟩
   case measure=>simp[bw];omega
 have al:b=I c:=aa;subst al;rw[iZ] at n;have a4:=run_convert_bytes_arg (P:=(aM av)) wr 133 5 aE.underlying133 aE.underlying5 (U h.heap) 0 i i (d.map (fun(A:Nat)=>(A:Int))) (by simp[j]) (OV o j) 9 aE.underlying9;go_wp2;go_ret;exact⟨d,by rw[j,F],m,n,rfl,l⟩
def ND(a:Int)(b:0<=a)(c:a<2^62):bM.wrap a=a:=by rw[kw];omega
def Vp(c b a:Nat)(g:a<=16)(hx:b<65536)(f:c<2^a):bits .or bM (c:Int) (dr ((b:Int)*2^a))=((c+2^a*b:Nat):Int):=by
 have e:2^a<=2^16:=n7 aa g;have h:2^a*b<=2^16*65536:=s8 e aa;have d:dr ((b:Int)*2^a)=((2^a*b:Nat):Int):=by
  rw[show(b:Int)*2^a=((2^a*b:Nat):Int) from bh];generalize 2^a*b=i at*;unfold dr;omega
 rw[d,(bits_nat bM 62 ay ND c (2^a*b) (by omega) (by omega)).2,Nat.or_comm,<-Nat.two_pow_add_eq_or_of_lt f b,Nat.add_comm]
end Pk
end Go.Proofs.YtjidbonhhpkljaaGreat
namespace Go.Proofs.YtjidbonhhpkljaaGreat.Pm
def DZ(a:List Nat):V a=N 8 a:=by
 induction a with
 |nil=>rfl
 |cons d c b=>simp only[V,N,b]
def iH (b:Nat)(a:List Nat):List Nat:=D 8 (N b a) ((I a*b+7)/8)
def KA:∀a∈iH n l,a<256:=λa b=>Av a b
def wD:I (iH n l)=(I l*n+7)/8:=w8
def KB(c:Nat)(b a:List Nat)(d:I a=(I b*c+7)/8)(e:∀g∈a,g<256)(f:V a=N c b):a=iH c b:=by
 refine Ov _ e KA (by rw[wD,d]) ?_;rw[DZ (iH c b),iH,za,<-f,<-d,<-zV,s7 (HU a e)]
end Go.Proofs.YtjidbonhhpkljaaGreat.Pm
namespace Go.Proofs.YtjidbonhhpkljaaGreat.Pk
open Go.RowKit Go.Proofs.YtjidbonhhpkljaaGreat.Pm
def strOf(b:List Nat):ByteArray:=strOfNums (b.map (fun(a:Nat)=>(a:Int)))
def jf:bf (strOf l)=I l:=by
 unfold strOf strOfNums;simp[bf]
def xU (b:Nat)(c:List Int):Bool:=dM c λa=>decide (0<=a)&&decide (a<pw b)
def Ji(b:xU n qY=af):∀a∈qY,0<=a/\a<pw n:=by
 intro a c;have:=fD.1 b a c;simpa using this
def Sz(c:∀a,(b:a<I qY)->0<=qY[a]/\qY[a]<pw n):xU n qY=af:=by
 unfold xU;rw[fD];intro e d;obtain⟨a,b,rfl⟩:=m6 d;have:=c a b;simp[this.1,this.2]
def toNat_lt(b:xU n qY=af):∀a∈qY.map bS,a<2^n:=by
 intro a c;obtain⟨e,d,rfl⟩:=kA.1 c;have:=Ji b e d;unfold pw at this;omega
def Z_(c:xU n qY=af)(d:∀a,a<I qY->aA w ⟨m,k+a,Z⟩=K (z9 (aX qY a 0))):
 ∀a,a<I (qY.map bS)->aA w ⟨m,k+a,Z⟩=K (z9 ((aX (qY.map bS) a 0:Nat):Int)):=by
 intro a e;have b:a<I qY:=bh;rw[d a b];have:=Ji c _ (c8 b);simp[aX,b,Int.toNat_of_nonneg this.1]
def O4(b:Nat)(l:n<=16)(r:¬ 100<I qY)(e:xU n qY=af)
 (s:0<I qY->O=K ⟨m,k,Z⟩) (q:0<I qY->m<U w.heap) (j:∀a,a<I qY->aJ w m (k+a) (z9 (aX qY a 0))):
 bn 138 #[ah O (I qY) b,z9 n] w λc f=>c=aR (au (strOf (iH n (qY.map bS))))/\aD w f:=by
 have d:=O3 (qY.map bS) n O m k b w l bO (toNat_lt e) bh bh (Z_ e j);rw[ee] at d;refine bL d ?_;rintro c f ⟨o,p,g,h,rfl,i⟩;have:=KB n (qY.map bS) o bh g h;subst this;exact⟨rfl,i⟩
end Go.Proofs.YtjidbonhhpkljaaGreat.Pk
namespace Go.Proofs.YtjidbonhhpkljaaGreat
namespace Ec
open Pk Pm
def jR:Nat->Nat->List Nat
 |0,a=>[]
 |f+1,a=>if a<128 then[a] else(a%128+128)::jR f (a/128)
def bc (a:Nat):List Nat:=jR 10 a
def wW(a:n<128):jR (f+1) n=[n]:=by simp[jR,a]
def vw(a:¬n<128):jR (f+1) n=(n%128+128)::jR f (n/128):=by simp[jR,a]
def aaJ(b:Nat):∀c∈jR f b,c<256:=by
 induction f generalizing b with
 |zero=>simp[jR]
 |succ f g=>
  intro c a;by_cases d:b<128;rw[wW d] at a;simp at a;omega;rw[vw d] at a;rcases fT.1 a with e|e;omega;exact g _ c e
def sP(f a:Nat):I (jR f a)<=f:=by
 induction f generalizing a with
 |zero=>simp[jR]
 |succ f c=>
  by_cases b:a<128;rw[wW b];simp;rw[vw b];have:=c (a/128);simp;omega
def VH(a:n<128^(f+1)):n/128<128^f:=by
 rw[rC] at a;exact Nat.div_lt_of_lt_mul aa
def Uc(a:n<18446744073709551616):n<128^10:=by
 have:(128:Nat)^10=1180591620717411303424:=ay;omega
def nW(a:List Nat):strOf (a++l)=strOf a++strOf l:=by
 unfold strOf strOfNums;apply Au;simp
def zz (a:Int):Nat:=if a<0 then bS (-2*a-1) else bS (2*a)
def vA(a: -9223372036854775808<=M)(b:M<=9223372036854775807):zz M<18446744073709551616:=by
 unfold zz;split<;>omega
end Ec
namespace Pk
open Go.RowKit Pm
def j6(b:aT w n Qc k v i S)(h:m<=n):aT w m Qc k v i S:=by
 refine⟨b.1,?_⟩;rcases b.2 with a|⟨e,c,d,a,f,g⟩;exact aq a;exact an ⟨e,c,d,a,dj h f,g⟩
def eM(c:aT w n Qc m v k S)(i:aD w u):aT u n Qc m v k S:=by
 refine⟨c.1,?_⟩;rcases c.2 with a|⟨b,e,f,a,g,d,h⟩;exact aq a;exact an ⟨b,e,f,a,g,b5 (cS i b (bC d)) d,h⟩
def jw{rest:List cq}{L:Exit->bK->ag->Prop}
 (E:Qr.guard=Z) (s o:dU) (i:aK) (H:Qr.op=Op.call {callee:=Callee.builtin Builtin.append,args:= #[s,o],argTypes:= #[i,i]})
 (base:Nat) (c:aK) (g:nL) (r:F) (b bytes:Nat) (y:gb Qn i=K (.slice c)) (A:Qn.info? c=K g) (P:jL g=K r) (B:g.size=b) (R:ji g=bytes) (S:r.cells.size=b) (T:0<b)
 (v:F) (d:Nat) (j:List F) (J:bz Q s=v) (n:aT w base c b v d j)
 (k:aN) (m p:Nat) (e:List F) (hx:bz Q o= .slice (K k) m p) (ap:0<m) (G:I e=m*b) (D:∀V q,e[V]? =K q->aA w (k.add V)=K q) (z:∀q∈e,nM q=af)
 (M:d+m<=aS) (N:(d+m)*bytes<=140737488355328) (O:base<=U w.heap)
 (C:∀f a,aT a base c b f (d+m) (j++e)->((jj w a Z/\aT a (U w.heap) c b f (d+m) (j++e))\/(bB f=bB v/\jj w a (bB v)))->wpList Qn Qt L rest (bG Q Qr.dst f) a):
 wpList Qn Qt L (Qr::rest) Q w:=by
 rcases n.2 with⟨rfl,rfl⟩|⟨u,t,ae,rfl,aj,ao,ar,al,am,aw⟩;have ad:j=[]:=tU (cM n.1);subst ad;exact wpList_append_grows w E s o i H c g r b bytes y A P B R S T Z 0 0 [] J (λ_=>⟨rfl,rfl⟩) aF (λW x=>cV x) k m p e hx G D z aa M N
  λf a h l=>C f a (j6 h O) (aq ⟨l,h⟩)
 by_cases ab:d+m<=t;exact wpList_append_fits w E s o i H base c g b y A B u d t j J n k m p e hx G D z ab λa h l=>C _ a h (an ⟨rfl,l⟩);exact wpList_append_grows w E s o i H c g r b bytes y A P B R S T (K ⟨u,0,Z⟩) d t j J (λx=>cV x) n.1 (λW X=>by cases X;exact n.cells (g:=u) Y) k m p e hx G D z aa M N
  λf a h l=>C f a (j6 h O) (aq ⟨l,h⟩)
def lM(a:n<I qY):aX qY n 0=qY[n]:=bh
def cW (a:List Int):List F:=a.map (bt bM)
def YI(b c:List Int)(v w:Option aN)(h l M i m N:Nat)(f:ag)(T:I b<=aS)(U:I c<=aS)
 (A:0<I b->v=K ⟨h,l,Z⟩) (x:∀d,d<I b->aA f ⟨h,l+d,Z⟩=K (z9 (aX b d 0)))
 (B:0<I c->w=K ⟨i,m,Z⟩) (y:∀d,d<I c->aA f ⟨i,m+d,Z⟩=K (z9 (aX c d 0))):
 bn 17 #[ah v (I b) M,ah w (I c) N] f λo W=>o=aR (ak (decide (b=c)))/\∃e,W=cT f e:=by
 unfold aS at T U;by_cases z:I b=I c
 .have S:((I b:Int) !=(I c:Int))=ai:=by simp[z]
  have u:=ap z;go_enter aE.func17,Tryz.ntmps17;go_wp2_with fail
  go_loopw [5] (λr wr=>∃a:Nat,a<=I b/\r=z9 a/\b.take a=c.take a/\∃e,wr=cT f e) (λr _=>I b-bS (bw r))
  exact⟨0,cE _,rfl,rfl,0,rfl⟩;obtain⟨a,Y,rfl,C,e,D⟩:=hrel;have g:=ap D;have n:=ap C;clear D C;by_cases j:a<I b;have q:a<I c:=by rw[<-u.o];exact j
  obtain rfl:=A aa;obtain rfl:=B aa;have P:=x a j;rw[lM j,show aA f ⟨h,l+a,Z⟩=aA wr ⟨h,l+a,Z⟩ from gJ g.o] at P;have Q:=y a q;rw[lM q,show aA f ⟨i,m+a,Z⟩=aA wr ⟨i,m+a,Z⟩ from gJ g.o] at Q;have F:X (b[a]≠c[a]->b≠c):=λp o=>p (by subst o;rfl);have H:X (b[a]=c[a]->b.take (a+1)=c.take (a+1)):=λp=>by rw[gh j,gh q,n.o,p]
  clear x y A B n;generalize b[a]=s at*;generalize c[a]=t at*;by_cases k:s=t;have O:(s !=t)=ai:=by simp[k]
  have J:=H.o k;have L:=ap J;go_wp2_with fail;go_quiet (fail);go_wp2
  go_roundw
  exact⟨a+1,aa,by go_num,L.o,e+nq,b5 g.o (r5 _ _ _)⟩;simp[bw];omega;have O:(s !=t)=af:=by simp[k]
  have G:=ap (F.o k);go_wp2_with fail;go_quiet (fail);go_wp2;go_ret;refine⟨?_,e+nq,b5 g.o (r5 _ _ _)⟩;rw[decide_eq_false G.o];rfl;have R:b=c:=by
   have:=n.o;rwa [ja aa,ja (by rw[<-u.o];omega)] at this
  have E:=ap R;go_wp2;go_ret;exact⟨gJ (decide_eq_true E.o),e,g.o⟩
 .have S:((I b:Int) !=(I c:Int))=af:=by simp;omega
  have V:decide (b=c)=ai:=bh;rw[V];go_enter aE.func17,Tryz.ntmps17;go_wp2;go_ret;exact⟨rfl,0,rfl⟩
def Vt(a:w.heap[m]? =K (ax (cX S) Qc (0,0)))(c:I S=k)(b:n<=m)(d:k<=aS):
 aT w n Qc 1 (aI m k k) k S:=
 ⟨aa,an ⟨m,k,cX S,rfl,b,a,aV _,d,by simp[c],bh⟩⟩
def Ik(c:aT w n Qc 1 (aI m k k) k S):w.heap[m]? =K (ax (cX S) Qc (0,0)):=by
 rcases c.2 with⟨a,_⟩|⟨h,g,b,a,_,d,_,_,e,f⟩;simp at a;simp only[lX,kU,r3,and_true,true_and] at a;obtain⟨rfl,rfl⟩:=a;rw[d];have:dD b=S:=by rw[<-f];exact bA (ja (by simp[e]))
 rw[<-this]
def Zs(a:n<8):
 (cW (qY++(dh n (-77)++dh (8-n) 0))).set (I qY+n) (z9 (-77))=cW (qY++(dh (n+1) (-77)++dh (8-(n+1)) 0)):=by
 unfold cW;rw[<-List.map_set];congr 1;rw[y7 _ _ aa,show I qY+n-I qY=n by omega,y7 _ _ aF];simp only[List.length_replicate,Nat.sub_self];rw[show 8-n=(8-(n+1))+1 by omega,List.replicate_succ,ct,y6 (n:=n)];simp
def Uh:dD (px (lC (z9 0)) (n*1))=cW (dh n 0):=by
 have:lC (z9 0)=#[z9 0]:=rfl;rw[this,toList_madeCells_one,cW,List.map_replicate,uQ]
def ZD:splice (cW (dh (I qY+8) 0)) 0 (cW qY)=cW (qY++(dh 0 (-77)++dh (8-0) 0)):=by
 unfold splice cW;simp[List.map_replicate]
def EY(a:n<I qY):(cW qY)[n]? =K (z9 qY[n]):=by simp[cW,a]
def zI(a:List Int):I (cW a)=I a:=by simp[cW]
def T2{g:Nat}(j:0<I qY->O=K ⟨n,m,Z⟩)(f:0<I qY->n<U w.heap)
 (i:∀a,a<I qY->aJ w n (m+a) (z9 (aX qY a 0))) (h:aD w u):
 0<I (cW qY)->K (⟨g,0,Z⟩:aN)=K ⟨g,0,Z⟩/\∃e,O=K e/\∀a v,(cW qY)[a]? =K v->aA u (e.add a)=K v:=by
 intro b;rw[zI] at b;refine⟨rfl,⟨n,m,Z⟩,j b,?_⟩;intro a v c;have d:a<I qY:=by have:=(fq.1 c).1;rwa [zI] at this
 rw[EY d] at c;rw[lU,bq h (p:=⟨n,m+a,Z⟩) (f b),i a d,lM d];exact c
def T1(q:0<I qY->O=K ⟨n,m,Z⟩)(j:0<I qY->n<U w.heap)
 (l:∀c,c<I qY->aJ w n (m+c) (z9 (aX qY c 0))) (b:aD w u) (o:U w.heap<=k)
 (a:u.heap[k]? =K (ax (cX (cW (dh (I qY+8) 0))) 3 (0,0))):
 ∃d,(tO #[22,22] 3 #[aI k (I qY+8) (I qY+8),ah O (I qY) cap]).run (aM av) u=b6 (n9 (I qY)) d/\
  X (d.heap[k]? =K (ax (cX (cW (qY++(dh 0 (-77)++dh (8-0) 0)))) 3 (0,0)))/\aD w d:=by
 have⟨x,p,t,s,v⟩:=eU aE.pP;have f:((aM av).info? 3).map (·.size)=K 1:=by rw[p];simp[s]
 by_cases h:0<I qY
 .obtain⟨_,g,rfl,r⟩:=T2 (g:=k) q j l b (by rw[zI];exact h);have e:=run_copy_row (P:=(aM av)) u 22 22 3 3 k 0 (I qY+8) (I qY+8) g (I qY) cap _ 3 (cW qY) aE.underlying22 f a (by rw[zI];exact bA (xp aa)) r (by simp[cW]) (ints_oneCell bM qY);rw[zI] at e;refine⟨_,e,?_,below_setRow b o _⟩;show _=_;rw[<-ZD];simpa [splice,zI] using setRow_heap u k _ _ 3 _ a
 have i:qY=[]:=tU aa;subst i;exact⟨u,run_copy_none (P:=(aM av)) u 22 22 3 3 _ O _ _ _ cap aE.underlying22 f aF,by show _=_;simpa using a,b⟩
def JR(a:List Int)(k:Option aN)(f p l:Nat)(b:ag)(T:I a*8<=140737488351232)
 (F:0<I a->k=K ⟨f,p,Z⟩) (y:0<I a->f<U b.heap) (B:∀j,j<I a->aA b ⟨f,p+j,Z⟩=K (z9 (aX a j 0))):
 bn 11 #[ah k (I a) l] b λw r=>∃m,w=aR (aI m (I a+8) (I a+8))/\
  aT r (U b.heap) 3 1 (aI m (I a+8) (I a+8)) (I a+8) (cW (a++dh 8 (-77)))/\aD b r:=by
 have⟨N,D,J,L,M⟩:=eU aE.pP;go_enter aE.func11,Tryz.ntmps11;go_wp2_with (first
  |(at_make;refine wpList_make_full _ Y _ _ 22 Y (U b.heap) 3 N (z9 0) 1 aE.underlying22 D J L bM bM _ _ (I a+8) Y Y (by first|omega|(push_cast;omega)) (by first|omega|(push_cast;omega)) (jG M) gy (aV _) ?_;intro O o C;have z:aD b O:=iB (bU _ _) C (aV _) aF;rw[Uh] at o;have s:=ap (Ik o)))
 have⟨P,G,t,A⟩:=T1 (cap:=l) F y B z (aV _) s.o;rw[G];go_wp2_with fail;have E:aT P (U b.heap) 3 1 (aI (U b.heap) (I a+8) (I a+8)) (I a+8) (cW (a++(dh 0 (-77)++dh (8-0) 0))):=
  Vt t.o (by simp[cW]) (aV _) gy
 go_loopw [4] (λi wr=>∃(c d:Nat),c<=8/\d=I a+c/\i=n9 d/\
  aT wr (U b.heap) 3 1 (aI (U b.heap) (I a+8) (I a+8)) (I a+8) (cW (a++(dh c (-77)++dh (8-c) 0)))/\aD b wr) (λi _=>I a+8-bS (bw i))
 exact⟨0,_,aa,rfl,rfl,E,A⟩;obtain⟨c,d,V,g,rfl,e,n⟩:=hrel;have u:=ap g;by_cases x:c<8;have S:d<I a+8:=aa;obtain⟨q,Q⟩:∃q,aA wr ⟨U b.heap,d,Z⟩=K q:=by
  rw[pp e d aa];exact⟨_,EY (by simp;omega)⟩
 have R:=vM e d;have h:=(e.stored (I a+c) (z9 (-77))).1;rw[Zs x,<-g] at h;have v:=ap h;clear h e g;go_wp2
 go_roundw
 exact⟨c+1,d+1,aa,cB u.o,by go_num,v.o,tS n (aV _) _⟩;simp[bw];omega;have H:c=8:=aa;subst H;go_wp2;go_ret;exact⟨_,rfl,bh,n⟩
end Pk
end Go.Proofs.YtjidbonhhpkljaaGreat
namespace Go.Proofs.YtjidbonhhpkljaaGreat.Pm
def Oq(b:List Nat)(c:∀e∈b,e<256)(a:Nat)(d:a/8<I b):b[a/8]/2^(a%8)%2=V b/2^a%2:=by
 have:=HT (a/8) c;rw[dH d,s9] at this;rw[this,O1]
def Ot(a:List Nat)(c:∀d∈a,d<256)(b:Nat)(e:¬b/8<I a):V a/2^b%2=0:=by
 rw[Nat.div_eq_of_lt];refine cL (HU a c) ?_;rw[zV];exact n7 aa aa
def UI(v c a b:Nat):v/2^(c*a)%2^(b+1)=v/2^(c*a)%2^b+2^b*(v/2^(a*c+b)%2):=by
 rw[Fb,Nat.div_div_eq_div_mul,<-oJ,uP c a]
end Go.Proofs.YtjidbonhhpkljaaGreat.Pm
namespace Go.Proofs.YtjidbonhhpkljaaGreat.Pk
open Go.RowKit Go.Proofs.YtjidbonhhpkljaaGreat.Pm
def bytesOf(s:ByteArray):List Nat:=s.data.toList.map UInt8.toNat
def xH(s:ByteArray):∀a∈bytesOf s,a<256:=by
 intro a b;obtain⟨c,_,rfl⟩:=kA.1 b;exact c.toNat_lt
def cJ(s:ByteArray):I (bytesOf s)=bf s:=by simp[bytesOf]
def BV(s:ByteArray)(a:n<bf s):(bytesOf s)[n]'(by rw[cJ];exact a)=s[n].toNat:=by
 simp only[bytesOf,pH];rfl
def k3 (a:List Nat):List Int:=a.map (fun(b:Nat)=>(b:Int))
def uf:cW qY++[z9 M]=cW (qY++[M]):=by simp[cW]
def UJ(s:ByteArray)(c g:Nat)(f:ag)(K:s.size<=aS)(M:c<=16)(al:g<=100):
 bn 111 #[au s,bt bM c,bt bM g] f λt r=>∃v,t=aR v/\
  aT r (U f.heap) 3 1 v g (cW (k3 (D c (V (bytesOf s)) g)))/\aD f r:=by
 have⟨Q,G,N,O,P⟩:=eU aE.pP;unfold aS at K;have w:=xH s;have x:=cJ s
 skip
 go_enter aE.func111,Tryz.ntmps111;go_wp2_with fail
 go_loopw [7,8] (λR o wr=>∃b:Nat,b<=g/\o=bt bM b/\aT wr (U f.heap) 3 1 R b (cW (k3 (D c (V (bytesOf s)) b)))/\aD f wr) (λ_ o _=>g-(bw o).toNat)
 exact⟨0,cE _,rfl,iO _ _ _ _,bU _ _⟩;obtain⟨b,ao,rfl,h,e⟩:=hrel;by_cases aw:b<g
 .have ar:b*c<=100*16:=s8 aa M;go_wp2_with fail
  go_loopw [9,10] (λS q wr=>∃d:Nat,d<=c/\q=bt bM d/\S=bt bM ((V (bytesOf s)/2^(c*b)%2^d:Nat):Int)/\aT wr (U f.heap) 3 1 u7 b (cW (k3 (D c (V (bytesOf s)) b)))/\aD f wr) (λ_ q _=>c-(bw q).toNat)
  exact⟨0,cE _,rfl,aF,h,e⟩;obtain⟨d,aM,rfl,rfl,h,e⟩:=hrel;have l:=ap (UI (V (bytesOf s)) c b d);have A:X (d=c->D c (V (bytesOf s)) (b+1)=D c (V (bytesOf s)) b++[V (bytesOf s)/2^(c*b)%2^d]):=by intro B;subst B;rfl
  have az:V (bytesOf s)/2^(c*b)%2^d<65536:=by
   have ad:2^d<=2^16:=n7 aa aa;omega
  generalize V (bytesOf s)/2^(c*b)%2^d=T at*;by_cases aQ:d<c
  .have ae:b*c+d<=1616:=by omega
   have aC:=wF d;have aG:=zY d (by omega);go_wp2_with fail;rw[show(b:Int)*(c:Int)+(d:Int)=((b*c+d:Nat):Int) from by rfl];generalize aj:b*c+d=a at*;have aJ:=wF (a%8);have aL:pw (a%8)<=128:=FU (a%8) 7 aa;have aY:bM.wrap ((a:Int)/8)=(a:Int)/8:=by simp[kw];omega
   have aZ:bM.wrap ((a:Int)%8)=(a:Int)%8:=by simp[kw];omega
   by_cases n:a/8<s.size
   .have am:(0:Int)<=(a:Int)/8:=by omega
    have H:(a:Int)/8<(s.size:Int):=aa;have I:decide ((a:Int)/8<(s.size:Int))=af:=bh;have u:=Oq (bytesOf s) w a (b5 x n);rw[BV s n] at u;have j:=ap u;have a0:s[a/8].toNat<256:=s[a/8].toNat_lt;have aH:(0:Int)<=(s[a/8].toNat:Int)/pw (a%8):=Int.ediv_nonneg aa aa;have aI:(s[a/8].toNat:Int)/pw (a%8)<=255:=cB (Int.ediv_le_self (a:=(s[a/8].toNat:Int)) (pw (a%8)) aa);by_cases k:(s[a/8].toNat:Int)/pw (a%8)%2=1
    .have C:=beq_iff_eq.2 k;have m:X (V (bytesOf s)/2^a%2=1):=by show _=_;rw[<-j.o];exact Ii _ _ k
     go_quiet ((go_at_call 135;exact vG (CM a)));go_wp2_with (go_at_call 135;refine bL (Ba (by omega)) ?_;rintro t r ⟨rfl,rfl⟩)
     go_roundw
     case rel=>exact⟨d+1,aa,by go_num,by rw[l.o,m.o];congr 1;unfold pw;omega,x8 h nq,below_drewN e nq⟩
     case measure=>simp[bw];omega
    .have C:=beq_eq_false_iff_ne.2 k;have m:X (V (bytesOf s)/2^a%2=0):=by show _=_;rw[<-j.o];have:=Ij _ _ k;omega
     go_quiet ((go_at_call 135;exact vG (CM a)));go_wp2
     go_roundw
     case rel=>exact⟨d+1,aa,by go_num,by rw[l.o,m.o];simp,x8 h nq,below_drewN e nq⟩
     case measure=>simp[bw];omega
   .have H:¬(a:Int)/8<(s.size:Int):=by omega
    have I:decide ((a:Int)/8<(s.size:Int))=ai:=bh;have j:X _:=Ot (bytesOf s) w a (b5 x n);go_quiet ((go_at_call 135;exact vG (CM a)));go_wp2
    go_roundw
    case rel=>exact⟨d+1,aa,by go_num,by rw[l.o,j.o];simp,x8 h nq,below_drewN e nq⟩
    case measure=>simp[bw];omega
  .have L:d=c:=by omega
   go_wp2_with (at_builtin;refine wpList_append_own _ Y _ _ 22 Y (U f.heap) 3 Q (bt bM 0) 1 8 aE.underlying22 G N O P Y ay _ _ _ Y (h.alloc _) ⟨U wr.heap,0,Z⟩ 1 1 [bt bM (T:Int)] Y Y ?c1 ?c2 ?c3 ?c4 ?c5 ?_)
   case c1=>
    intro p W i
    match p,i with
    |0,i=>simp at i;subst i;simp[o9]
   case c2=>intro W z;simp at z;subst z;rfl
   case c3=>unfold aS;omega
   case c4=>omega
   case c5=>have:=e.size;simp;omega
   .intro a1 ab y F _;have E:aD f ab:=iB (e.alloc e.size _) F (by have:=e.size;simp;omega) (λp i=>(h.lt p i).1);rw[uf] at y;go_wp2
    go_roundw
    case rel=>exact⟨b+1,aa,by go_num,by rw[A.o L];simpa [k3] using y,E⟩
    case measure=>simp[bw];omega
 have J:b=g:=by omega
 subst J;go_wp2;go_ret;exact⟨_,rfl,h,e⟩
end Go.Proofs.YtjidbonhhpkljaaGreat.Pk
namespace Go.Proofs.YtjidbonhhpkljaaGreat
namespace Pk
open Go.RowKit Pm
def Ip(c:∀a∈l,a<256):bytesOf (strOf l)=l:=by
 unfold bytesOf strOf strOfNums;simp only[List.map_map];have:∀a∈l,(UInt8.toNat ∘ (fun(b:Int)=>UInt8.ofNat (bS b)) ∘ fun(b:Nat)=>(b:Int)) a=a:=k8;rw[y4 this];simp
def xG{s a:ByteArray}(b:bytesOf s=bytesOf a):s=a:=by
 have c:dD s.data=dD a.data:=by
  unfold bytesOf at b;exact List.map_inj_right (λe f d=>UInt8.toNat_inj.1 d) |>.1 b
 cases s;cases a;simp at c;simp[c]
def toList_inj{s c:ByteArray}(b:s.toList=c.toList):s=c:=by
 have d:∀a:ByteArray,a.toList=a.data.toList:=λa=>uF a;rw[d,d] at b;cases s;cases c;simp at b;simp[b]
end Pk
end Go.Proofs.YtjidbonhhpkljaaGreat
namespace Go.Proofs.YtjidbonhhpkljaaGreat.Ec
open Go.RowKit Go.Proofs.YtjidbonhhpkljaaGreat.Pk
structure az where
 null:Bool
 n:Int
 s:ByteArray
def az.agg(v:az):F:=cw #[ak v.null,z9 v.n,au v.s]
def bZ (a:List az):List F:=a.flatMap λv=>[ak v.null,z9 v.n,au v.s]
structure xB(w:ag)(ao:Option aN)(b off:Nat)(l:List az):Prop where
 addr:0<I l->ao=K ⟨b,off,Z⟩
 lt:0<I l->b<U w.heap
 c0:∀j (h:j<I l),aA w ⟨b,off+j*3,Z⟩=K (ak l[j].null)
 c1:∀j (h:j<I l),aA w ⟨b,off+j*3+1,Z⟩=K (z9 l[j].n)
 c2:∀j (h:j<I l),aA w ⟨b,off+j*3+2,Z⟩=K (au l[j].s)
def xB.below{e:List az}(a:xB w O n m e)(d:aD w u):xB u O n m e:=
 ⟨a.addr,λf=>cL (a.lt f) d.size,
  λb c=>aB (bq d (p:=⟨n,m+b*3,Z⟩) (a.lt aa)) (a.c0 b c),
  λb c=>aB (bq d (p:=⟨n,m+b*3+1,Z⟩) (a.lt aa)) (a.c1 b c),
  λb c=>aB (bq d (p:=⟨n,m+b*3+2,Z⟩) (a.lt aa)) (a.c2 b c)⟩
def m0 (a b:az):Bool:=(a.null==b.null)&&(a.n==b.n)&&(jI a.s==jI b.s)
def sO{a b:az}:m0 a b=af↔a=b:=by
 unfold m0;constructor;intro c;simp only[ez,beq_iff_eq] at c;have⟨⟨d,e⟩,f⟩:=c;cases a;cases b;simp only at d e f;rw[d,e,toList_inj f];rintro rfl;simp
def Yp(c:ag)(a b:az):(binOp .eql 59 (cw #[ak a.null,z9 a.n,au a.s]) (cw #[ak b.null,z9 b.n,au b.s])).run (aM av) c=b6 (ak (m0 a b)) c:=by
 go_simp;unfold m0;by_cases d:a.null=b.null<;>by_cases e:a.n=b.n<;>by_cases f:jI a.s=jI b.s<;>simp[d,e,f]
def Gy(c:ag)(a b:az):(binOp .neq 59 (cw #[ak a.null,z9 a.n,au a.s]) (cw #[ak b.null,z9 b.n,au b.s])).run (aM av) c=b6 (ak (!m0 a b)) c:=by
 go_simp;unfold m0;by_cases d:a.null=b.null<;>by_cases e:a.n=b.n<;>by_cases f:jI a.s=jI b.s<;>simp[d,e,f]
def YL{c d:List az}(J:I c<=aS)(K:I d<=aS)
 (h:xB w O n m c) (l:xB w P i j d):
 bn 29 #[ah O (I c) k,ah P (I d) a] w λt M=>∃n,t=aR (ak n)/\(n=af↔c=d)/\∃f,M=cT w f:=by
 unfold aS at J K;by_cases y:I c=I d
 .have H:((I c:Int) !=(I d:Int))=ai:=by simp[y]
  have x:=ap y;go_enter aE.func29,Tryz.ntmps29;go_wp2_with fail
  go_loopw [5] (λv wr=>∃b:Nat,b<=I c/\v=z9 b/\c.take b=d.take b/\∃f,wr=cT w f) (λv _=>I c-bS (bw v))
  exact⟨0,cE _,rfl,rfl,0,rfl⟩;obtain⟨b,N,rfl,L,f,e⟩:=hrel;have s:=ap L;by_cases o:b<I c
  .have q:b<I d:=by rw[<-x.o];exact o
   obtain rfl:=h.addr aa;obtain rfl:=l.addr aa;have Q:aJ wr n (m+b*3) (ak c[b].null):=b5 e (h.c0 b o);have R:aJ wr n (m+b*3+1) (z9 c[b].n):=b5 e (h.c1 b o);have S:aJ wr n (m+b*3+2) (au c[b].s):=b5 e (h.c2 b o);have T:aJ wr i (j+b*3) (ak d[b].null):=b5 e (l.c0 b q);have U:aJ wr i (j+b*3+1) (z9 d[b].n):=b5 e (l.c1 b q);have V:aJ wr i (j+b*3+2) (au d[b].s):=b5 e (l.c2 b q);have p:=ap e;have C:X (c[b]≠d[b]->c≠d):=λg t=>g (by subst t;rfl);have E:X (c[b]=d[b]->c.take (b+1)=d.take (b+1)):=λg=>by rw[gh o,gh q,s.o,g]
   have z:=λw=>Gy w c[b] d[b];clear e h l s;generalize c[b]=A at*;generalize d[b]=B at*;by_cases r:A=B
   .have u:=sO.2 r;have F:=ap (E.o r);rw[u] at z;go_wp2_with fail;go_quiet (fail);go_wp2
    go_roundw
    exact⟨b+1,aa,by go_num,F.o,f+nq,b5 p.o (r5 _ _ _)⟩;simp[bw];omega
   have u:m0 A B=ai:=by rw[Bool.eq_false_iff];intro g;exact r (sO.1 g)
   have D:=ap (C.o r);rw[u] at z;go_wp2_with fail;go_quiet (fail);go_wp2;go_ret;exact⟨ai,rfl,by simp;exact D.o,f+nq,b5 p.o (r5 _ _ _)⟩
  have G:c=d:=by
   have:=s.o;rwa [ja (by omega),ja (by rw[<-x.o];omega)] at this
  have p:=ap e;clear e;go_wp2;go_ret;exact⟨af,rfl,by simp;exact G,f,p.o⟩
 .have H:((I c:Int) !=(I d:Int))=af:=by simp;omega
  go_enter aE.func29,Tryz.ntmps29;go_wp2;go_ret;exact⟨ai,rfl,bh,0,rfl⟩
end Go.Proofs.YtjidbonhhpkljaaGreat.Ec
namespace Go.Proofs.YtjidbonhhpkljaaGreat
abbrev dF(a:Ec.az):Array F:= #[.bool a.null,.int .i64 a.n,.string a.s]
end Go.Proofs.YtjidbonhhpkljaaGreat
namespace Go.Proofs.YtjidbonhhpkljaaGreat
namespace Ec
open Go.RowKit Pk Pm
structure dA(w w':ag)(v v':F):Prop where
 dR:jj w w' (bB v)
 at_:∀g,bB v'=K g->bB v=K g\/U w.heap<=g
def dA.refl(a:ag)(v:F):dA a a v v:=⟨Oa a _,λ_ b=>aq b⟩
def dA.trans(a:dA w u v x)(c:dA u W x y):dA w W v y:=by
 refine⟨⟨aB c.dR.os a.dR.os,aB c.dR.tape a.dR.tape,aB c.dR.output a.dR.output,dj a.dR.size c.dR.size,?_⟩,?_⟩;intro d f g;rw[c.dR.block d (cL f a.dR.size) (λi=>?_),a.dR.block d f g];rcases a.at_ d (bA i) with b|b;exact g (bA b);omega;intro e h;rcases c.at_ e h with b|b;exact a.at_ e b;exact an (dj a.dR.size b)
def dA.alloc(a:dA w u v x)(b:cj):dA w (cD u b) v x:=
 a.trans ⟨uK u b _,λ_ a=>aq a⟩
def dA.below(b:dA w u v x)(d:∀a,bB v=K a->n<=a)(c:n<=U w.heap):dw n w u:=
 iB (bU n w) b.dR c d
def dA.append
 (e:(jj (w.alloc Qk) u Z/\aT u (w.alloc Qk).heap.size n m x k S)\/(bB x=bB v/\jj (w.alloc Qk) u (bB v))):dA w u v x:=by
 refine((dA.refl w v).alloc Qk).trans ?_;rcases e with⟨a,b⟩|⟨a,b⟩;refine⟨⟨a.os,a.tape,a.output,a.size,λg f _=>a.block g f aF⟩,λc d=>an (b.lt c d).1⟩;exact⟨b,λc d=>aq bh⟩
def zy(a:aA w ⟨n,0,Z⟩=K (bt .u8 (m:Int))):
 (convert 133 9 (aI n 1 1)).run (aM av) w=b6 (au (strOf [m])) w:=
 run_convert_bytes_arg w 133 5 aE.underlying133 aE.underlying5 n 0 1 1 [(m:Int)] Y (λb c=>by
  have:b=0:=aa;subst this;exact a) 9 aE.underlying9
def BN(a:dw ((cD w (ax #[v] Qc)).drew).heap.size (cD w (ax #[v] Qc)).drew u):aA u ⟨U w.heap,0,Z⟩=K v:=
 aB (bq a (p:=⟨U w.heap,0,Z⟩) aF) aF
def uS(a:dw ((w.alloc Qk).drew).heap.size (w.alloc Qk).drew u):aD w u:=
 fJ (((bU _ _).alloc (aV _) Qk).drew) (a.mono aF)
def D8(a:aD w.drew u):aD w (u.alloc Qk):=
 (fJ ((bU _ _).drew) a).alloc a.size Qk
def ot(d:ag):∀(b:Nat) (c:F),[v][b]? =K c->aA (cD d (ax #[v] Qc)) ((⟨U d.heap,0,Z⟩:aN).add b)=K c:=by
 intro b c a
 match b,a with
 |0,a=>simp at a;subst a;simp[o9]
def Rr(a:ag)(b:Nat):(convert 133 9 (aI (U a.heap) 1 1)).run (aM av) (cD a (ax #[bt .u8 (b:Int)] 5))=b6 (au (strOf [b])) (cD a (ax #[bt .u8 (b:Int)] 5)):=
 zy aF
def Nu(b:n<128):bn 133 #[bt .u64 n] w λa c=>a=aR (au (strOf (jR (f+1) n)))/\aD w c:=by
 rw[wW b];have d:=Rr w n;go_enter aE.func133,Tryz.ntmps133;go_wp2;go_ret;exact⟨rfl,nK (bU _ _) (aV _) _⟩
def aaB(t:f<=9):∀(a:Nat) (c:ag),a<128^(f+1)->a<18446744073709551616->
 bn 133 #[bt .u64 a] c λg l=>g=aR (au (strOf (jR (f+1) a)))/\aD c l:=by
 induction f with
 |zero=>intro a c d _;exact Nu (by simpa using d)
 |succ f h=>
  intro a c m v;have h:=h aa;by_cases d:a<128
  .exact Nu d
  .rw[vw d];have n:=VH m;have o:X (∀c,bn 133 #[bt .u64 ((a:Int)/128)] c λg l=>g=aR (au (strOf (jR (f+1) (a/128))))/\aD c l):=λc=>by
    have:=h (a/128) c n aa;rwa [show((a/128:Nat):Int)=(a:Int)/128 from aa] at this
   obtain⟨b,k⟩:∃b,b=a%128+128:=⟨_,rfl⟩;have y:vH.wrap (vH.wrap ((a:Int).tmod 128)+128)=(b:Int):=by
    rw[Int.tmod_eq_emod_of_nonneg aa,DF (x:=(a:Int)%128) aa aa,DF aa aa];omega
   have x:lV.wrap ((a:Int)/128)=(a:Int)/128:=by simp[IntKind.wrap,IntKind.signed,IntKind.bits];omega
   have s:∀(e:ag) (i:Nat),aA e ⟨i,0,Z⟩=K (bt .u8 (b:Int))->(convert 133 9 (aI i 1 1)).run (aM av) e=b6 (au (strOf [b])) e:=λe i d=>zy d;rw[<-k,show strOf (b::jR (f+1) (a/128))=strOf [b]++strOf (jR (f+1) (a/128)) from nW [b]];have u:I (jR (f+1) (a/128))<=f+1:=sP _ _;have q:X (b=a%128+128):=k;clear h m n k;generalize jR (f+1) (a/128)=p at*;have w:¬ 9223372036854775807<(strOf [b]).size+(strOf p).size:=by rw[Pk.jf,Pk.jf];simp;omega
   go_enter aE.func133,Tryz.ntmps133;go_wp2_with fail
   go_region_with (go_at_call 133;refine bL (o.o _) ?_;rintro g z ⟨rfl,j⟩;try (have r:=BN j))
   all_goals
    go_wp2;go_ret;exact⟨rfl,by first|exact uS j|exact D8 j⟩
def An(a:Nat)(b:ag)(c:a<18446744073709551616):bn 133 #[bt .u64 a] b λd e=>d=aR (au (strOf (bc a)))/\aD b e:=
 aaB aa a b (Uc c) c
def wrap_u64:lV.wrap M=M%18446744073709551616:=by rfl
def oo (a:Int):Bool:=decide (1<=a)&&decide (a<=3)
def eW (b a:Int):Bool:=((a==0||a==2)&&oo b)||(a==1&&b==1)||(a==3&&b==2)
def Ck(a:Int)(b:ag):bn 120 #[z9 a] b λc f=>c=aR (ak (oo a))/\f=b:=by
 by_cases d:1<=a<;>by_cases e:a<=3
 all_goals
  go_enter aE.func120,Tryz.ntmps120;go_wp2
  all_goals go_ret
  all_goals exact⟨by simp[oo,d,e],rfl⟩
def uW(a:Int):a=0\/a=1\/a=2\/a=3\/((a==0)=ai/\(a==1)=ai/\(a==2)=ai/\(a==3)=ai):=by
 by_cases b:a=0;exact aq b;by_cases c:a=1;exact an (aq c);by_cases d:a=2;exact an (an (aq d));by_cases e:a=3;exact an (an (an (aq e)));exact an (an (an (an ⟨bh,bh,bh,bh⟩)))
def Jz(a b:Int)(d:ag):bn 83 #[z9 a,z9 b] d λi c=>i=aR (ak (eW a b))/\c=d:=by
 rcases uW b with rfl|rfl|rfl|rfl|⟨e,f,g,h⟩
 .rw[show eW a 0=oo a from by simp[eW]];go_enter aE.func83,Tryz.ntmps83;go_wp2_with (go_at_call 120;refine bL (Ck a _) ?_;rintro b c ⟨rfl,rfl⟩);go_ret;exact⟨rfl,rfl⟩
 .rw[show eW a 1=(a==1) from by simp[eW]];go_enter aE.func83,Tryz.ntmps83;go_wp2
  all_goals go_ret
  all_goals exact⟨rfl,rfl⟩
 .rw[show eW a 2=oo a from by simp[eW]];go_enter aE.func83,Tryz.ntmps83;go_wp2_with (go_at_call 120;refine bL (Ck a _) ?_;rintro b c ⟨rfl,rfl⟩);go_ret;exact⟨rfl,rfl⟩
 .rw[show eW a 3=(a==2) from by simp[eW]];go_enter aE.func83,Tryz.ntmps83;go_wp2
  all_goals go_ret
  all_goals exact⟨rfl,rfl⟩
 .rw[show eW a b=ai from by simp[eW,e,f,g,h]];go_enter aE.func83,Tryz.ntmps83;go_wp2
  all_goals go_ret
  all_goals exact⟨rfl,rfl⟩
def A1(a:(M==1)=ai)(b:(M==2)=ai)(e:(M==3)=ai):eW M qA=ai:=by
 have d:oo M=ai:=by
  simp at a b e;unfold oo;by_cases c:1<=M;have:¬M<=3:=aa;simp[this];simp[c]
 simp[eW,d,a,b]
def Ka(a:(qA==0)=ai)(b:(qA==1)=ai)(c:(qA==2)=ai)(d:(qA==3)=ai):eW M qA=ai:=by simp[eW,a,b,c,d]
def SA(d f:Int)(g:ag):bn 132 #[z9 d,z9 f] g λl m=>l=aR (ak (eW d f))/\m=g:=by
 rcases uW f with rfl|rfl|rfl|rfl|⟨h,i,j,k⟩
 .rcases uW d with rfl|rfl|rfl|rfl|⟨e,a,b,c⟩
  case inr.inr.inr.inr=>rw[A1 a b c];go_enter aE.func132,vI;go_wp2;go_ret;exact⟨rfl,rfl⟩
  all_goals (go_enter aE.func132,vI;go_wp2;go_ret;exact⟨rfl,rfl⟩)
 .rcases uW d with rfl|rfl|rfl|rfl|⟨e,a,b,c⟩
  case inr.inr.inr.inr=>rw[A1 a b c];go_enter aE.func132,vI;go_wp2;go_ret;exact⟨rfl,rfl⟩
  all_goals (go_enter aE.func132,vI;go_wp2;go_ret;exact⟨rfl,rfl⟩)
 .rcases uW d with rfl|rfl|rfl|rfl|⟨e,a,b,c⟩
  case inr.inr.inr.inr=>rw[A1 a b c];go_enter aE.func132,vI;go_wp2;go_ret;exact⟨rfl,rfl⟩
  all_goals (go_enter aE.func132,vI;go_wp2;go_ret;exact⟨rfl,rfl⟩)
 .rcases uW d with rfl|rfl|rfl|rfl|⟨e,a,b,c⟩
  case inr.inr.inr.inr=>rw[A1 a b c];go_enter aE.func132,vI;go_wp2;go_ret;exact⟨rfl,rfl⟩
  all_goals (go_enter aE.func132,vI;go_wp2;go_ret;exact⟨rfl,rfl⟩)
 .rw[Ka h i j k];rcases uW d with rfl|rfl|rfl|rfl|⟨e,a,b,c⟩
  all_goals (go_enter aE.func132,vI;go_wp2;go_ret;exact⟨rfl,rfl⟩)
def j0 (a c b:Int):Int:=if a<0\/100<a then 6 else if eW c b then 0 else 2
def PO(b c a:Int)(h:ag):bn 123 #[z9 b,z9 c,z9 a] h λk e=>k=aR (z9 (j0 b c a))/\e=h:=by
 by_cases f:b<0\/100<b
 .have d:=IC b h;rw[show xK b=6 from by simp[xK,f]] at d;rw[show j0 b c a=6 from by simp[j0,f]];go_enter aE.func123,Tryz.ntmps123;go_wp2_with (go_at_call 141;refine bL d ?_;rintro a e ⟨rfl,rfl⟩)
  all_goals go_ret
  all_goals exact⟨rfl,rfl⟩
 .have d:=IC b h;rw[show xK b=0 from by simp[xK,f]] at d;have g:=Jz c a;by_cases i:eW c a=af
  .rw[show j0 b c a=0 from by simp[j0,f,i]];rw[i] at g;go_enter aE.func123,Tryz.ntmps123;go_wp2_with (first|(go_at_call 141;refine bL d ?_;rintro a e ⟨rfl,rfl⟩)|(go_at_call 83;refine bL (g _) ?_;rintro a e ⟨rfl,rfl⟩))
   all_goals go_ret
   all_goals exact⟨rfl,rfl⟩
  .have j:eW c a=ai:=by simpa using i
   rw[show j0 b c a=2 from by simp[j0,f,j]];rw[j] at g;go_enter aE.func123,Tryz.ntmps123;go_wp2_with (first|(go_at_call 141;refine bL d ?_;rintro a e ⟨rfl,rfl⟩)|(go_at_call 83;refine bL (g _) ?_;rintro a e ⟨rfl,rfl⟩))
   all_goals go_ret
   all_goals exact⟨rfl,rfl⟩
def NM(e: -9223372036854775808<=M)(f:M<=9223372036854775807)(a:ag):
 bn 137 #[z9 M] a λb c=>b=aR (bt .u64 (zz M))/\c=a:=by
 by_cases d:M<0
 all_goals
  go_enter aE.func137,Tryz.ntmps137;go_wp2
  all_goals go_ret
  all_goals exact⟨F9 (by unfold zz;split<;>omega),rfl⟩
def gT (v:az)(a:Int):Bool:=
 if v.null then(v.n==0)&&(jI v.s==[]) else if a==1 then jI v.s==[] else if a==2 then(v.n==0||v.n==1)&&(jI v.s==[]) else(v.n==0)&&decide ((bf v.s:Int)<=32)
def tD(a:qV=qW):aR (ak qV)=aR (ak qW):=by rw[a]
def x4(v:az)(a:Int)(c:ag)(b:a=1\/a=2\/a=3):
 bn 47 #[cw (dF v),z9 a] c λd e=>d=aR (ak (gT v a))/\aD c e:=by
 cases f:v.null
 .rcases b with rfl|rfl|rfl
  all_goals
   go_enter aE.func47,Tryz.ntmps47;go_wp2
   all_goals go_ret
   all_goals refine⟨tD ?_,nK (bU _ _) (aV _) _⟩
   all_goals rw[rX]
   all_goals simp[gT, *]
   all_goals try omega
 .rcases b with rfl|rfl|rfl
  all_goals
   go_enter aE.func47,Tryz.ntmps47;go_wp2
   all_goals go_ret
   all_goals refine⟨tD ?_,nK (bU _ _) (aV _) _⟩
   all_goals rw[rX]
   all_goals simp[gT, *]
   all_goals try omega
def JZ(v:az)(a:Int)(e:ag)(b:a=1\/a=2\/a=3):
 bn 82 #[cw (dF v),z9 a] e λd f=>d=aR (ak (gT v a))/\aD e f:=by
 have c:=Ck a;rw[show oo a=af from by rcases b with rfl|rfl|rfl<;>rfl] at c;cases g:v.null
 .rcases b with rfl|rfl|rfl
  all_goals
   go_enter aE.func82,Tryz.ntmps82;go_wp2
   all_goals go_ret
   all_goals refine⟨tD ?_,nK (bU _ _) (aV _) _⟩
   all_goals rw[rX]
   all_goals simp[gT, *]
   all_goals try omega
 .rcases b with rfl|rfl|rfl
  all_goals
   go_enter aE.func82,Tryz.ntmps82;go_wp2_with (go_at_call 120;refine bL (c _) ?_;rintro d f ⟨rfl,rfl⟩)
   all_goals go_ret
   all_goals refine⟨tD ?_,nK (bU _ _) (aV _) _⟩
   all_goals rw[rX]
   all_goals simp[gT, *]
   all_goals try omega
def iK (a:Int):List Int->Nat
 | []=>0
 |y::b=>if y=a then iK a b+1 else 0
def byteOf(a:Int):Nat:=bS (a%256)
def lQ:Nat->List Int->List Nat
 |0,_=>[]
 |f+1,b=>match b with
  | []=>[]
  |x::a=>bc (iK x (x::a))++([byteOf x]++lQ f ((x::a).drop (iK x (x::a))))
def eK (a:List Int):List Nat:=lQ (I a) a
def LI(b:Int)(a:List Int):iK b a<=I a:=by
 induction a with
 |nil=>simp[iK]
 |cons e d c=>simp only[iK];split<;>simp<;>omega
def Yh(a:Nat)(b:a<iK M qY):∃f:a<I qY,qY[a]=M:=by
 induction qY generalizing a with
 |nil=>simp[iK] at b
 |cons i h c=>
  simp only[iK] at b
  split at b
  rename_i g;cases a with
  |zero=>exact⟨aF,bh⟩
  |succ m=>
   have⟨d,e⟩:=c m aa;exact⟨bh,bh⟩
  omega
def LJ(c:Int)(b:List Int)(a:iK c b<I b):b[iK c b]≠c:=by
 induction b with
 |nil=>simp at a
 |cons f g e=>
  simp only[iK] at a ⊢;by_cases d:f=c;simp only[d,if_true] at a ⊢;have:=e (cM a);simpa using this;simp only[d,if_false] at a ⊢;simpa using d
def oz (b:List Int)(a:Nat):Nat:=iK (aX b a 0) (b.drop a)
def Ye(c:List Int)(b:Nat)(a:b<I c):0<oz c b:=by
 unfold oz;rw[pE a,lM a];simp[iK]
def Yc(b:List Int)(a:Nat)(c:a<I b):a+oz b a<=I b:=by
 have:=LI (aX b a 0) (b.drop a);unfold oz;rw[uN] at this;omega
def Yb(c:List Int)(a b:Nat)(d:b<oz c a):∃h:a+b<I c,c[a+b]=aX c a 0:=by
 have⟨f,g⟩:=Yh b d;have e:a+b<I c:=bh;exact⟨e,bh⟩
def Yd(b:List Int)(a:Nat)(c:a+oz b a<I b):b[a+oz b a]≠aX b a 0:=by
 have:=LJ (aX b a 0) (b.drop a) (by unfold oz at c;rw[uN];omega);simpa [oz] using this
def Yy(f:Nat)(b:List Int)(a:Nat)(c:a<I b):lQ (f+1) (b.drop a)=bc (oz b a)++([byteOf (aX b a 0)]++lQ f (b.drop (a+oz b a))):=by
 unfold oz;rw[pE c,lM c];simp only[lQ];rw[<-pE c,List.drop_drop]
def Yu(f:Nat)(b:List Int)(a:Nat)(c:¬a<I b):lQ f (b.drop a)=[]:=by
 rw[yY aa];cases f<;>rfl
def Ei:byteOf M<256:=by unfold byteOf;omega
def BS(a:Int):a%256=(byteOf a:Int):=by unfold byteOf;omega
def Yw(f:Nat)(b:List Int):I (lQ f b)<=11*f:=by
 induction f generalizing b with
 |zero=>simp[lQ]
 |succ f d=>
  cases b with
  |nil=>simp[lQ]
  |cons a c=>
   simp only[lQ];have e:=sP 10 (iK a (a::c));have g:=d ((a::c).drop (iK a (a::c)));simp only[cN,rB];unfold bc;omega
def Ki(c:cH R<U w.heap)(b:aA w R=K v)(a:dw ((cD w Qk).drew).heap.size (cD w Qk).drew u):aA u R=K v:=
 aB (bq (uS a) c) b
def Kj(c:cH R<U w.heap)(b:aA w R=K v)(a:aD w.drew u):aA u R=K v:=
 aB (bq a k8) b
def Yz(a2:I qY<=100)
 (aZ:0<I qY->O=K ⟨n,m,Z⟩) (ab:0<I qY->n<U w.heap) (aI:∀d,d<I qY->aJ w n (m+d) (z9 (aX qY d 0))):
 bn 112 #[ah O (I qY) k] w λo R=>o=aR (au (strOf (eK qY)))/\aD w R:=by
 go_enter aE.func112,Tryz.ntmps112;go_wp2_with fail
 go_loopw [3,4] (λa3 Q wr=>∃(a f:Nat) (e:List Nat),a<=I qY/\a3=au (strOf e)/\Q=z9 a/\I qY<=a+f/\f<=100/\I e+11*f<=1100/\e++lQ f (qY.drop a)=eK qY/\aD w wr) (λ_ Q _=>I qY-bS (bw Q))
 exact⟨0,I qY,[],cE _,rfl,rfl,aa,a2,bO,rfl,bU _ _⟩;obtain⟨a,f,e,bi,rfl,rfl,bj,bh,bb,ad,z⟩:=hrel
 rename ag=>C
 have bs:U w.heap<=U C.heap:=z.size;have a8:(strOf e).size<=1100:=by rw[Pk.jf];omega
 have a7:X (∃q,q=strOf e):=⟨_,rfl⟩;generalize Y:strOf e=q at*;by_cases u:a<I qY
 .obtain rfl:=aZ aa;have L:∀d,d<I qY->aJ C n (m+d) (z9 (aX qY d 0)):=λd aQ=>(bq z (ab aa)).trans (aI d aQ);have ay:=ap (Yy (f-1) qY a u);have bm:=Ye qY a u;have bl:=Yc qY a u;have ar:X (∀i,i<oz qY a->∃v:a+i<I qY,qY[a+i]=aX qY a 0):=λi v=>Yb qY a i v;have aw:X (∀y:a+oz qY a<I qY,qY[a+oz qY a]≠aX qY a 0):=λy=>Yd qY a y;have J:=L a u
  skip
  generalize oz qY a=g at*;generalize bE:aX qY a 0=l at*
  skip
  go_wp2_with fail
  go_loopw [5] (λd a5=>∃b:Nat,b<=g/\d=n9 b/\∃i,a5=cT C i) (λd _=>I qY+1-bS (bw d))
  exact⟨0,aa,rfl,0,rfl⟩;obtain⟨b,bu,rfl,i,p⟩:=hrel;have az:X (wr=cT C i):=p;have aj:aA wr ⟨n,m+a,Z⟩=K (bt bM l):=by simp_all
  by_cases N:b<g
  .obtain⟨v,am⟩:=ar.o b N;have A:aA wr ⟨n,m+(a+b),Z⟩=K (z9 l):=by
    rw[p];have:=L (a+b) v;rwa [lM v,am] at this
   have al:decide ((a:Int)+(b:Int)<(I qY:Int))=af:=bO;clear J p am;go_wp2_with fail;go_quiet (fail);go_wp2
   go_roundw
   case rel=>exact⟨b+1,by omega,by go_num,i+nq,by rw[az.o];exact r5 _ _ _⟩
   case measure=>simp[bw];omega
  .have F:X (b=g):=by show b=g;omega
   have a0:vH.wrap l=l%256:=by rfl
   rw[BS] at a0;have bD:lV.wrap (b:Int)=(b:Int):=by rw[wrap_u64];omega
   generalize bF:byteOf l=r at*
   skip
   have bx:=sP 10 g;have a9:(strOf (bc g)).size<=10:=by rw[Pk.jf];unfold bc;omega
   have T:X (∀c:ag,bn 133 #[bt .u64 (b:Int)] c λo R=>o=aR (au (strOf (bc g)))/\aD c R):=λc=>by
    rw[F.o];exact An g c aa
   generalize aG:strOf (bc g)=V at*;have ba:(strOf [r]).size=1:=by rfl
   have bo:¬ 9223372036854775807<q.size+V.size:=by omega
   have br:¬ 9223372036854775807<q.size+V.size+(strOf [r]).size:=by omega
   have bd:∀(c:ag) (G:Nat),aA c ⟨G,0,Z⟩=K (bt .u8 (r:Int))->(convert 133 9 (ah (K ⟨G,0,Z⟩) 1 1)).run (aM av) c=b6 (au (strOf [r])) c:=λc G y=>zy y;have E:X (aD w wr):=by show dw _ _ _;rw[p];exact below_drewN z i
   have ae:n<U wr.heap:=cL (ab aa) E.o.size;have bk:(a:Int)<(I qY:Int):=by omega
   have x:X (∀c:ag,aD w c->∃(B f:Nat) (e:List Nat),B<=I qY/\au (q++V++strOf [r])=au (strOf e)/\bt bM ((a:Int)+(b:Int))=n9 B/\I qY<=B+f/\f<=100/\I e+11*f<=1100/\e++lQ f (qY.drop B)=eK qY/\aD w c):=λc aH=>by
    have W:=ay.o;rw[show f-1+1=f by omega] at W;have aC:=F.o;have a6:=sP 10 g;refine⟨a+b,f-1,e++(bc g++[r]),aa,?_,aF,aa,aa,?_,?_,aH⟩
    .rw[<-Y,<-aG,nW,nW,ByteArray.append_assoc]
    .rw[cN,cN];unfold bc;simp;omega
    .rw[<-ad,W,aC];simp[iD]
   have bv:0<b:=by omega
   by_cases P:a+b<I qY
   .have A:∃D,aA wr ⟨n,m+(a+b),Z⟩=K (z9 D)/\D≠l:=by
     refine⟨aX qY (a+b) 0,by rw[p];exact L (a+b) P,?_⟩;have o:=F.o;subst o;rw[lM P];exact aw.o P
    have⟨D,A,a1⟩:=A;have al:decide ((a:Int)+(b:Int)<(I qY:Int))=af:=bO;have be:(D==l)=ai:=by grind
    clear J p N a1;go_wp2_with fail;go_quiet (fail);try clear A
    go_wp2_with fail;have t:aA (cT wr nq) ⟨n,m+a,Z⟩=K (z9 l):=aj;have H:n<(cT wr nq).heap.size:=ae;have j:=ap (below_drewN E.o nq);generalize cT wr nq=S at*;have s:cH (⟨n,m+a,Z⟩:aN)<U S.heap:=H
    go_region_with (go_at_call 133;refine(T.o _).mono ?_;rintro o a4 ⟨rfl,h⟩;(try have aL:=BN h);(first|have M:=Kj s t h|have M:=Ki s t h))
    all_goals go_wp2
    all_goals go_roundw
    all_goals first
     |exact x.o _ (j.o.trans ((uS h).mono j.o.size))
     |exact x.o _ (j.o.trans ((D8 h).mono j.o.size))
     |(simp[bw];omega)
   .have al:decide ((a:Int)+(b:Int)<(I qY:Int))=ai:=by simp;omega
    clear J p N;go_wp2_with fail;go_quiet (fail);go_wp2_with fail;have t:aA (cT wr nq) ⟨n,m+a,Z⟩=K (z9 l):=aj;have H:n<(cT wr nq).heap.size:=ae;have j:=ap (below_drewN E.o nq);generalize cT wr nq=S at*;have s:cH (⟨n,m+a,Z⟩:aN)<U S.heap:=H
    go_region_with (go_at_call 133;refine(T.o _).mono ?_;rintro o a4 ⟨rfl,h⟩;(try have aL:=BN h);(first|have M:=Kj s t h|have M:=Ki s t h))
    all_goals go_wp2
    all_goals go_roundw
    all_goals first
     |exact x.o _ (j.o.trans ((uS h).mono j.o.size))
     |exact x.o _ (j.o.trans ((D8 h).mono j.o.size))
     |(simp[bw];omega)
 have aY:=Yu f qY a u;have ao:X (strOf (eK qY)=q):=by show _=_;rw[<-ad,aY,oH];exact Y
 go_wp2;go_ret;exact⟨by rw[ao.o];rfl,z⟩
def Dq{s:ByteArray}:strOf (bytesOf s)=s:=by
 unfold strOf bytesOf strOfNums;apply Au;apply Array.ext';have c:∀a:UInt8,((λb:Int=>UInt8.ofNat (bS b)) ∘ (λb:Nat=>(b:Int)) ∘ UInt8.toNat) a=a:=λa=>aF;simp;rw[y4 (λa _=>c a)];simp
def cJ(s:ByteArray):I (bytesOf s)=bf s:=by
 unfold bytesOf;simp
def xH(s:ByteArray):∀b∈bytesOf s,b<256:=by
 intro b a;unfold bytesOf at a;obtain⟨c,_,rfl⟩:=kA.1 a;exact c.toNat_lt
def cZ (a:Int)(v:az):List Nat:=if a=1 then bc (zz v.n) else if a=2 then[byteOf v.n] else bc (bf v.s)++bytesOf v.s
def ya(a:Int)(v:az)(b:bf v.s<=32):I (cZ a v)<=42:=by
 have c:=sP 10 (zz v.n);have d:=sP 10 (bf v.s);unfold cZ
 split
 unfold bc;omega
 split
 simp;rw[cN,cJ];unfold bc;omega
structure jb(v:az):Prop where
 lo: -9223372036854775808<=v.n
 hi:v.n<=9223372036854775807
 sz:bf v.s<=32
def dA.box(a:dA (w.alloc Qk) u v x):dA w u v x:=((dA.refl w v).alloc Qk).trans a
def OZ(a:dw (w.alloc Qk).heap.size (w.alloc Qk) u):aD w u:=
 fJ ((bU _ _).alloc (aV _) Qk) (a.mono aF)
def Pc(a:dw ((cD w (ax #[v,x,y] Qc)).drew).heap.size (cD w (ax #[v,x,y] Qc)).drew u):aJ u (U w.heap) 2 y:=
 aB (bq a (p:=⟨U w.heap,2,Z⟩) aF) aF
def CI(v:az)(b:Int)(i:ag)(m:b=1\/b=2\/b=3)(n:jb v):
 bn 134 #[cw (dF v),z9 b] i λc p=>c=aR (au (strOf (cZ b v)))/\aD i p:=by
 have⟨g,h,q⟩:=n;rcases m with rfl|rfl|rfl
 .rw[show cZ 1 v=bc (zz v.n) from by simp[cZ]];have k:=NM g h;have e:=λa=>An (zz v.n) a (vA g h);go_enter aE.func134,Tryz.ntmps134;go_wp2_with first
   |(go_at_call 137;refine bL (k _) ?_;rintro c j ⟨rfl,rfl⟩)
   |(go_at_call 133;refine bL (e _) ?_;rintro c j ⟨rfl,d⟩)
  go_ret;exact⟨rfl,OZ d⟩
 .rw[show cZ 2 v=[byteOf v.n] from by simp[cZ]];have o:vH.wrap v.n=v.n%256:=by rfl
  rw[BS] at o;have r:∀(a:ag) (f:Nat),aA a ⟨f,0,Z⟩=K (bt .u8 (byteOf v.n:Int))->(convert 133 9 (aI f 1 1)).run (aM av) a=b6 (au (strOf [byteOf v.n])) a:=λa f l=>zy l;go_enter aE.func134,Tryz.ntmps134;go_wp2;go_ret;exact⟨rfl,nK (nK (bU _ _) (aV _) _) aF _⟩
 .rw[show cZ 3 v=bc v.s.size++bytesOf v.s from by simp[cZ],nW,Dq];have e:=λa=>An v.s.size a aa;have t:=sP 10 v.s.size;have u:¬ 9223372036854775807<(strOf (bc v.s.size)).size+v.s.size:=by rw[Pk.jf];unfold bc;omega
  go_enter aE.func134,Tryz.ntmps134;go_wp2_with fail;have w:lV.wrap (v.s.size:Int)=(v.s.size:Int):=by rw[wrap_u64];omega
  go_region_with (go_at_call 133;refine bL (e _) ?_;rintro c j ⟨rfl,d⟩;have s:=Pc d)
  all_goals
   go_wp2;go_ret;exact⟨rfl,uS d⟩
def wid (a:Nat):Nat:=if a<=1 then 0 else if a<=2 then 1 else if a<=4 then 2 else if a<=8 then 3 else if a<=16 then 4 else if a<=32 then 5 else if a<=64 then 6 else 7
def Aq(a:Nat):wid a<=7:=by
 unfold wid
 repeat' split
 all_goals omega
def Ny:∀a,a<101->∀b,b<8->(2^b<a↔b<wid a):=by decide +kernel
def Ap(b:n<=100)(a:Nat)(e:a<n):a<2^wid n:=by
 have c:=Aq n;have d:=(Ny n aa (wid n) aa);omega
def aaT:∀a,a<128->Lib.bitLen a=wid (a+1):=by decide +kernel
def Nz(b:Nat)(r:b<=100)(c:ag):bn 110 #[z9 b] c λd g=>d=aR (z9 (wid b))/\g=c:=by
 have s:=Aq b;have l:X (∀a,a<=7->(pw a<(b:Int)↔a<wid b)):=λa o=>by
  have:=Ny b aa a aa;unfold pw;omega
 generalize wid b=e at*;go_enter aE.func110,Tryz.ntmps110;go_wp2_with fail
 go_loopw [3] (λf wr=>∃a:Nat,a<=e/\f=z9 a/\wr=c) (λf _=>8-bS (bw f))
 exact⟨0,cE _,rfl,rfl⟩;obtain⟨a,o,rfl,rfl⟩:=hrel;have i:X (∀c,bn 135 #[z9 a] c λd g=>d=aR (z9 (pw a))/\g=c):=λc=>Ba (by omega);have h:=l.o a aa;generalize pw a=p at*;by_cases j:a<e;have n:=h.2 j;go_wp2_with (go_at_call 135;refine bL (i.o _) ?_;rintro d q ⟨rfl,rfl⟩)
 go_roundw
 exact⟨a+1,aa,by go_num,trivial⟩;simp[bw];omega;have n:¬p<(b:Int):=λm=>j (h.1 m);have k:X (a=e):=by show a=e;omega
 go_wp2_with (go_at_call 135;refine bL (i.o _) ?_;rintro d q ⟨rfl,rfl⟩);go_ret;exact⟨by rw[<-k.o];rfl,rfl⟩
def S_:∀a:Nat,a<128->∀b:a<Lib.len8tab.size,Lib.len8tab[a].toNat=Lib.bitLen a:=by decide +kernel
def TW(b:0<=M)(e:M<=127):bn 175 #[bt .u64 M] w λa d=>a=aR (z9 (Lib.bitLen (bS M)))/\d=w:=by
 go_enter aE.func175,Tryz.ntmps175;go_wp2
 all_goals (go_ret;refine⟨congrArg aR (congrArg (bt bM) ?_),rfl⟩)
 all_goals
  have c:=S_ (bS M) aa aa;have f:=Lib.bitLen_le8' M b aa;rw[c];unfold dr;omega
def TZ(a:Int)(c:ag)(e:0<=a)(f:a<=127):bn 167 #[bt .u64 a] c λb d=>b=aR (z9 (Lib.bitLen (bS a)))/\d=c:=by
 go_enter aE.func167,Tryz.ntmps167;go_wp2_with (go_at_call 175;refine bL (TW e f) ?_;rintro b d ⟨rfl,rfl⟩);go_ret;exact⟨rfl,rfl⟩
def aaU(a:Nat)(h:a<=100)(b:ag):bn 158 #[z9 a] b λc d=>c=aR (z9 (wid a))/\d=b:=by
 by_cases g:a<2
 .rw[show wid a=0 from by unfold wid;rw[if_pos aa]];go_enter aE.func158,Tryz.ntmps158;go_wp2;go_ret;exact⟨rfl,rfl⟩
 .have f:X (∀b,bn 167 #[bt .u64 ((a:Int)-1)] b λc d=>c=aR (z9 (wid a))/\d=b):=λb=>by
   have e:=TZ ((a:Int)-1) b aa aa;rw[aaT _ aa,show bS ((a:Int)-1)+1=a by omega] at e;exact e
  go_enter aE.func158,Tryz.ntmps158;go_wp2_with (go_at_call 167;refine bL (f.o _) ?_;rintro c d ⟨rfl,rfl⟩);go_ret;exact⟨rfl,rfl⟩
def Apart(a v:F):Prop:=bB a=Z\/bB a≠bB v
def Apart.symm(a:Apart x v):Apart v x:=by
 rcases a with a|a;cases c:bB v with
 |none=>exact aq c
 |some d=>exact an bh
 exact an (λb=>a (bA b))
def ju(a:aT w n m k x i S)(c:dA w u v y)(b:Apart x v):aT u n m k x i S:=
 fK a c.dR b
def Apart.oQ(f:Apart x v)(e:aT w n m k x i S)(g:dA w u v y):Apart x y:=by
 rcases f with a|a;exact aq a;cases b:bB x with
 |none=>exact aq b
 |some c=>
  right
  intro m;rw[b] at m a;have h:=(e.lt c b).2;rcases g.at_ c (bA m) with d|d;exact a (bA d);omega
def jr (f:ag)(v:F)(b:List az):Prop:=∃a c e d,v=ah a (I b) d/\xB f a c e b
def jr.below{b:List az}(a:jr w v b)(f:aD w u):jr u v b:=by
 obtain⟨c,d,g,e,rfl,a⟩:=a;exact⟨c,d,g,e,rfl,a.below f⟩
def Dw{a:az}{b:List az}:bZ (a::b)=[ak a.null,z9 a.n,au a.s]++bZ b:=by simp[bZ]
def yA{a b:List az}:bZ (a++b)=bZ a++bZ b:=by simp[bZ]
def yB{a:az}:bZ [a]=[ak a.null,z9 a.n,au a.s]:=by simp[bZ]
def vv(b:List az):∀(a:Nat) (c:a<I b),(bZ b)[a*3]? =K (ak b[a].null)/\(bZ b)[a*3+1]? =K (bt bM b[a].n)/\(bZ b)[a*3+2]? =K (au b[a].s):=by
 induction b with
 |nil=>intro a c;simp at c
 |cons g f e=>
  intro a c;rw[Dw];cases a with
  |zero=>simp
  |succ a=>
   have:=e a (by simpa using c);have d:(a+1)*3=a*3+3:=by omega
   rw[d,pG (by simp),pG (by simp),pG (by simp)];simpa [show a*3+3+1-3=a*3+1 by omega,show a*3+3+2-3=a*3+2 by omega] using this
def jr.gC{base:Nat}{c:List az}(a:aT w base 59 3 v (I c) (bZ c)):jr w v c:=by
 rcases a.2 with⟨rfl,h⟩|⟨e,g,i,rfl,j,m,n,k,l,o⟩;have:c=[]:=tU h;subst this;exact⟨Z,0,0,0,rfl,⟨λa=>by simp at a,λa=>by simp at a,λb a=>by simp at a,λb a=>by simp at a,λb a=>by simp at a⟩⟩;have f:=a.cells (g:=e) Y;refine⟨K ⟨e,0,Z⟩,e,0,g,rfl,⟨λ_=>rfl,λ_=>(a.lt e Y).2,?_,?_,?_⟩⟩;intro b d;have:=f _ _ (vv c b d).1;simpa [lU] using this;intro b d;have:=f _ _ (vv c b d).2.1;simpa [lU] using this;intro b d;have:=f _ _ (vv c b d).2.2;simpa [lU] using this
def idx:List az->az->Nat
 | [],_=>0
 |y::b,a=>if m0 y a then 0 else idx b a+1
def To(a:List az)(b:az):idx a b<=I a:=by
 induction a with
 |nil=>simp[idx]
 |cons e d c=>simp only[idx];split<;>simp<;>omega
def JE(c:List az)(e:az):∀a,(b:a<I c)->a<idx c e->m0 c[a] e=ai:=by
 induction c with
 |nil=>intro a b;simp at b
 |cons i h g=>
  intro a b d;simp only[idx] at d
  split at d
  omega;rename_i f;cases a with
  |zero=>simpa using f
  |succ a=>exact g a (cM b) aa
def Ci{a:List az}{c:az}(b:idx a c<I a):a[idx a c]=c:=by
 induction a with
 |nil=>simp at b
 |cons f g e=>
  simp only[idx] at b ⊢;by_cases d:m0 f c=af;simp only[d,if_true];exact sO.1 d;simp only[d] at b ⊢;exact e (cM b)
def tB (a:List az)(b:az):Int:=if idx a b<I a then(idx a b:Int) else -1
def zT(a:List az)(v:F)(c:az)(d:ag)(e:jr d v a)(E:I a<=100):
 bn 136 #[v,cw (dF c)] d λz A=>z=aR (z9 (tB a c))/\aD d A:=by
 obtain⟨B,C,H,D,rfl,t⟩:=e;have y:=ap (JE a c);have u:X (∀e:idx a c<I a,a[idx a c]=c):=λe=>Ci e;have w:X (tB a c=if idx a c<I a then(idx a c:Int) else -1):=rfl;generalize tB a c=p at*;generalize idx a c=f at*;go_enter aE.func136,Tryz.ntmps136;go_wp2_with fail
 go_loopw [5] (λn wr=>∃b:Nat,b<=f/\n=z9 b/\∃k,wr=cT (d.alloc (ax (dF c) 59)) k) (λn _=>I a-bS (bw n))
 exact⟨0,cE _,rfl,0,rfl⟩;obtain⟨b,G,rfl,k,j⟩:=hrel;have m:X (aD d wr):=by show dw _ _ _;rw[j];exact below_drewN ((bU _ _).alloc (aV _) _) k
 have x:=ap j;have N:aA wr ⟨U d.heap,0,Z⟩=K (ak c.null):=k8;have O:aA wr ⟨U d.heap,1,Z⟩=K (z9 c.n):=k8;have P:aA wr ⟨U d.heap,2,Z⟩=K (au c.s):=k8;by_cases g:b<I a
 .have i:=t.below m.o;obtain rfl:=t.addr aa;have J:=i.c0 b g;have L:=i.c1 b g;have M:=i.c2 b g;have s:=λd=>Yp d a[b] c;have o:X ((b<f->m0 a[b] c=ai)/\(b=f->a[b]=c)):=⟨λe=>y.o b g e,λe=>by subst e;exact u.o g⟩;clear i j;generalize a[b]=Q at*;by_cases q:b<f
  .have h:=o.o.1 q;rw[h] at s;go_wp2_with fail;go_quiet (fail);go_wp2
   go_roundw
   exact⟨b+1,aa,by go_num,k+nq,b5 x.o (r5 _ _ _)⟩;simp[bw];omega
  have r:b=f:=aa;have h:=sO.2 (o.o.2 r);have l:X (p=(b:Int)):=bh;rw[h] at s;clear h r q;go_wp2_with fail;go_quiet (fail);go_wp2;go_ret;exact⟨gJ l.o,below_drewN m.o nq⟩
 have l:X (p= -1):=by show _=_;rw[w.o,if_neg aa]
 clear j;go_wp2;go_ret;exact⟨gJ l.o,m.o⟩
def dJ (a:Int)(b:List az):List Nat:=b.flatMap (cZ a)
def KD{a:List az}(b:n<I a):dJ M (a.take (n+1))=dJ M (a.take n)++cZ M a[n]:=by
 rw[gh b];unfold dJ;rw[oI,pF]
def CK(e:Int)(a:List az)(c:∀b∈a,jb b):I (dJ e a)<=42*I a:=by
 induction a with
 |nil=>simp[dJ]
 |cons b j g=>
  have d:=g (λh f=>c h (by simp[f]));have i:=ya e b (c b (by simp)).sz;unfold dJ at d ⊢;simp at d ⊢;omega
def fw:Int->List az->List Nat
 |_,[]=>[]
 |a,v::b=>bc (zz (dr (v.n-a)))++fw v.n b
def fQ:Int->List az->Int
 |a,[]=>a
 |_,v::b=>fQ v.n b
def EA(a:Int)(b:List az)(c:az):fw a (b++[c])=fw a b++bc (zz (dr (c.n-fQ a b))):=by
 induction b generalizing a with
 |nil=>simp[fw,fQ]
 |cons f e d=>simp[fw,fQ,d]
def E8(a:Int){b:List az}{c:az}:fQ a (b++[c])=c.n:=by
 induction b generalizing a with
 |nil=>simp[fQ]
 |cons f e d=>simp[fQ,d]
def IT(a:Int)(b:List az):I (fw a b)<=10*I b:=by
 induction b generalizing a with
 |nil=>simp[fw]
 |cons c g d=>
  have e:=d c.n;have f:=sP 10 (zz (dr (c.n-a)));simp only[fw,cN,pI];unfold bc;omega
def TT(b:List az)(c:∀d∈b,jb d)(a:Int)(f: -9223372036854775808<=a)(g:a<=9223372036854775807): -9223372036854775808<=fQ a b/\fQ a b<=9223372036854775807:=by
 induction b generalizing a with
 |nil=>exact⟨f,g⟩
 |cons e j i=>exact i (λd h=>c d (by simp[h])) e.n (c e aF).lo (c e aF).hi
def uB(a:Int): -9223372036854775808<=dr a/\dr a<=9223372036854775807:=by unfold dr;omega
def vf:∀b∈[bt bM M],nM b=af:=by
 intro b a;simp at a;subst a;rfl
def iC (f:ag)(v:F)(a:List Int):Prop:=∃d b e g,v=ah d (I a) g/\(0<I a->d=K ⟨b,e,Z⟩)/\(0<I a->b<U f.heap)/\∀c,c<I a->aJ f b (e+c) (z9 (aX a c 0))
def iC.gC{base:Nat}(a:aT w base 3 1 v (I qY) (cW qY)):iC w v qY:=by
 rcases a.2 with⟨rfl,e⟩|⟨b,d,h,rfl,i,l,m,j,k,n⟩;have:qY=[]:=tU e;subst this;exact⟨Z,0,0,0,rfl,λa=>by simp at a,λa=>by simp at a,λg a=>by simp at a⟩;have f:=a.cells (g:=b) Y;refine⟨K ⟨b,0,Z⟩,b,0,d,rfl,λ_=>rfl,λ_=>(a.lt b Y).2,?_⟩;intro g c;have:=f _ _ (EY c);rw[lM c];simpa [lU] using this
def TS:laidOutB (aM av)=af:=bl
def Lx:(59:aK)<(aM av).types.size:=of_decide_eq_true bl
def TR:(aM av).keyTypeAt 2 59=af:=bl
def Co:Maps.Keyed (aM av) 59:=abQ (deep_law_laid TS (m:=2) aa Lx TR (by rw[aE.underlying59]))
def IB:rj (aM av) 59=3:=bl
def PE:rj (aM av) 4=1:=bl
def PG:rj (aM av) 3=1:=bl
def PI:rj (aM av) 9=1:=bl
def Zy(a:59<n):∃m,n=m+1:=⟨n-1,aa⟩
def Zx:∃m,(aM av).types.size=m+1:=Zy Lx
def TP:(aM av).keyType 59=af:=bl
def kl (a:az):Lit:=.string (keyBytes [.bool a.null,.int bM a.n,.string (dD a.s.data)])
def wf_i64(a: -9223372036854775808<=M)(b:M<=9223372036854775807):(Lit.int bM M).wf=af:=by
 simp[Lit.wf,IntKind.min,IntKind.max,IntKind.signed,IntKind.bits];omega
def E5(a:az)(b:jb a):keyOf (aM av) 59 (cw (dF a))=K (kl a):=by
 have⟨m,d⟩:=Zx;have f:=wf_i64 b.lo b.hi;have e:bf a.s<=aS:=by have:=b.sz;unfold aS;omega
 have c:(cw (dF a)).formed (aM av) 59=af:=by simp[Value.formed,aE.underlying59,IB]
 unfold keyOf;simp only[aE.underlying59,TP,c,Bool.and_self,if_true,d];unfold Program.keyLits;simp[aE.underlying59,IB,PE,PG,PI,lC,Program.keyLits,aE.underlying4,aE.underlying3,aE.underlying9,f,e,kl]
def JL{a b:az}(hx:jb a)(hy:jb b)(d:kl a=kl b):a=b:=by
 have c:=Co.inj (E5 a hx) (b5 d (E5 b hy));cases a;cases b;simp at c;simp[c]
def JM(a:az):WideAt.IsKeyLit (kl a):=trivial
def ins (a:List az)(v:az):List az:=if idx a v<I a then a else a++[v]
def JD(a:List az)(c:az)(f:List az)(b:idx a c<I a):idx (a++f) c=idx a c:=by
 induction a with
 |nil=>simp at b
 |cons g h e=>
  simp only[idx,r9] at b ⊢;by_cases d:m0 g c=af;simp[d];simp only[d] at b ⊢;have:=e (cM b);simp[this]
def zJ(a:List az)(c:az)(b:¬idx a c<I a)(v:az):idx (a++[v]) c=if m0 v c then I a else I a+1:=by
 induction a with
 |nil=>simp[idx]
 |cons f g e=>
  simp only[idx,r9] at b ⊢;by_cases d:m0 f c=af;simp[d] at b;simp only[d] at b ⊢;have:=e (cM b);rw[if_neg aF,this]
  split<;>simp
def Cj(a:List az)(v:az):idx (ins a v) v=idx a v/\idx (ins a v) v<I (ins a v)/\(¬idx a v<I a->idx a v=I a):=by
 have d:=To a v;unfold ins;by_cases b:idx a v<I a;simp only[b,if_true];exact⟨trivial,trivial,λb=>absurd trivial b⟩;have c:m0 v v=af:=sO.2 Y;have:=zJ a v b v;rw[c] at this;simp only[b,if_false];simp at this;rw[this];refine⟨aa,aF,λ_=>aa⟩
def kD (s:List az×List Nat)(v:az):List az×List Nat:=(ins s.1 v,s.2++[idx (ins s.1 v) v])
def dfold(a:List az):List az×List Nat:=a.foldl kD ([],[])
def dfold_succ{a:List az}(b:n<I a):dfold (a.take (n+1))=kD (dfold (a.take n)) a[n]:=by
 unfold dfold;rw[gh b,List.foldl_append];rfl
def TA(a:List az)(v:az):I (ins a v)<=I a+1/\I a<=I (ins a v):=by
 unfold ins;split<;>simp
def TB{c:List az}{v b:az}(a:b∈ins c v):b∈c\/b=v:=by
 unfold ins at a
 split at a
 exact aq a;rcases eG.1 a with a|a;exact aq a;exact an (cM a)
def wi(b:List az):∀a,a<=I b->(dfold (b.take a)).1.length<=a/\(dfold (b.take a)).2.length=a/\(∀e∈(dfold (b.take a)).2,e<(dfold (b.take a)).1.length)/\(∀f∈(dfold (b.take a)).1,f∈b):=by
 intro a
 induction a with
 |zero=>intro _;simp[dfold]
 |succ a l=>
  intro d;have⟨m,g,h,i⟩:=l aa;rw[dfold_succ (by omega)];have n:=TA (dfold (b.take a)).1 b[a];have k:=Cj (dfold (b.take a)).1 b[a];unfold kD;refine⟨bh,by simp[g],?_,?_⟩;intro e c;simp only at c ⊢;rcases eG.1 c with c|c
  .have:=h e c;omega
  .simp at c;rw[c];exact k.2.1
  .intro f j;rcases TB j with d|d;exact i f d;rw[d];exact c8 _
structure Knows(D:DataW Unit)(d:List az):Prop where
 map:Maps.IsMap D
 has:∀x,jb x->Maps.has D (kl x)=decide (idx d x<I d)
 at_:∀x,jb x->idx d x<I d->D.atKey (kl x) (.lit (.int bM 0))= .lit (.int bM (idx d x:Int))
def Knows.empty:Knows (.map []) []:=⟨Maps.isMap_empty,λb _=>by rfl,λb _ a=>by simp at a⟩
def Knows.put{D:DataW Unit}{b:List az}(e:Knows D b)(v:az)(k:jb v)(j:¬idx b v<I b):Knows (D.put (kl v) (.lit (.int bM (I b:Int)))) (b++[v]):=by
 have l:m0 v v=af:=sO.2 Y;refine⟨e.map.put _ _,?_,?_⟩
 .intro a f;by_cases c:a=v
  .subst c;rw[Maps.has_put_same e.map (JM a)];have:=zJ b a j a;rw[l] at this;simp at this;simp[this]
  .rw[Maps.has_put_other (λg=>c (JL f k g)),e.has a f];by_cases d:idx b a<I b
   .rw[JD b a [v] d];simp;omega
   .rw[zJ b a d v];have:m0 v a=ai:=by
     rw[Bool.eq_false_iff];intro h;exact c (bA (sO.1 h))
    rw[this];simp;omega
 .intro a f d;by_cases c:a=v
  .subst c;rw[Maps.atKey_put_same e.map (JM a)];have:=zJ b a j a;rw[l] at this;simp at this;rw[this]
  .rw[Maps.atKey_put_other (λg=>c (JL f k g))];by_cases i:idx b a<I b
   .rw[JD b a [v] i];exact e.at_ a f i
   .exfalso
    rw[zJ b a i v] at d;have:m0 v a=ai:=by
     rw[Bool.eq_false_iff];intro h;exact c (bA (sO.1 h))
    rw[this] at d;simp at d
def aE.nh:((aM av).info? 59).map (λa=>(jL a,a.size,ji a))=K (K (cw #[ak ai,z9 0,au ⟨#[]⟩]),3,32):=bl
def NK:(kR 3).run (aM av) w=b6 (z9 0) w:=bl
def tw(c:aT w n m k v i S):∃b a,v=ah b i a:=by
 rcases c.2 with⟨rfl,rfl⟩|⟨e,a,d,rfl,_⟩;exact⟨Z,0,rfl⟩;exact⟨_,_,rfl⟩
def lR(d:ag):∀(b:Nat) (c:F),[v,x,y][b]? =K c->aA (cD d (ax #[v,x,y] Qc)) ((⟨U d.heap,0,Z⟩:aN).add b)=K c:=by
 intro b c a
 match b,a with
 |0,a=>simp at a;subst a;simp[o9]
 |1,a=>simp at a;subst a;simp[lU]
 |2,a=>simp at a;subst a;simp[lU]
def lS(a:az):∀c∈[ak a.null,z9 a.n,au a.s],nM c=af:=by
 intro c b;simp at b;rcases b with rfl|rfl|rfl<;>rfl
def gi (b:Int)(a:List az):List Nat:=bc (dfold a).1.length++(dJ b (dfold a).1++iH (wid (dfold a).1.length) (dfold a).2)
def ints (b:List Nat):List Int:=b.map fun(a:Nat)=>(a:Int)
def fX (a:az):Int:=if a.null then 0 else 1
def there(a:List az):List az:=a.filter λb=> !b.null
def jE (c b:Int)(a:List az):List Nat:=if b=1 then fw 0 a else if b=2 then gi c a else if b=3 then eK (a.map az.n) else dJ c a
def g5 (c b:Int)(a:List az):List Nat:=eK (a.map fX)++jE c b (there a)
def X_9{a:List az}{b:az}(c:b∈there a):b∈a:=(List.mem_filter.1 c).1
def M7(a:List az):I (there a)<=I a:=List.length_filter_le _ _
def Y_(b:List az)(a:Nat)(c:a<I b):there (b.take (a+1))=if b[a].null then there (b.take a) else there (b.take a)++[b[a]]:=by
 unfold there;rw[gh c,List.filter_append];cases d:b[a].null<;>simp[d]
def T3(b:List az)(a:Nat)(c:a<I b):(b.take (a+1)).map fX=(b.take a).map fX++[fX b[a]]:=by
 rw[gh c,gY];rfl
def LO(a:List Int)(b:I a<=100):I (eK a)<=1100:=by
 have:=Yw (I a) a;unfold eK;omega
def LQ(c:F)(b:List Int)(a:ag)(i:I b<=100)(e:iC a c b):
 bn 112 #[c] a λd j=>d=aR (au (strOf (eK b)))/\aD a j:=by
 obtain⟨k,l,n,m,rfl,f,g,h⟩:=e;exact Yz i f g h
def O2(m:n<=16)(t:I l<=100)(j:∀o∈l,o<2^n)(d:iC w v (ints l)):
 bn 138 #[v,z9 n] w λa p=>a=aR (au (strOf (iH n l)))/\aD w p:=by
 obtain⟨q,r,x,c,rfl,e,f,g⟩:=d;have u:I (ints l)=I l:=ee _;have k:(ints l).map bS=l:=by
  unfold ints;rw[List.map_map,y4 (g:=id) (λy _=>aF)];simp
 have h:xU n (ints l)=af:=by
  apply Sz;intro b s;have i:b<I l:=aa;have a:(ints l)[b]=(l[b]:Int):=by simp[ints]
  have:=j _ (c8 i);rw[a];unfold pw;omega
 have:=O4 c m (by omega) h e f g;rwa [k] at this
def A9{a:List az}{b:az}(c:idx a b<I a):tB a b=(idx a b:Int):=by unfold tB;rw[if_pos c]
def CL{a:List az}{b:az}(c:¬idx a b<I a):tB a b= -1:=by unfold tB;rw[if_neg c]
def B2{a:List az×List Nat}{b:az}(d:idx a.1 b<I a.1):kD a b=(a.1,a.2++[idx a.1 b]):=by
 unfold kD;have c:ins a.1 b=a.1:=by unfold ins;rw[if_pos d]
 rw[c]
def B3{a:List az×List Nat}{b:az}(c:¬idx a.1 b<I a.1):kD a b=(a.1++[b],a.2++[I a.1]):=by
 have d:=Cj a.1 b;unfold kD;rw[d.1,d.2.2 c];have e:ins a.1 b=a.1++[b]:=by unfold ins;rw[if_neg c]
 rw[e]
def VE{base:Nat}{a:List az}{b:az}(g:aT w base 59 3 v (I a+1) (bZ a++[ak b.null,z9 b.n,au b.s]))(f:¬idx a b<I a)(i:I a+1<=100):
 bn 136 #[v,cw (dF b)] w λe h=>e=aR (n9 (I a))/\aD w h:=by
 rw[<-yB,<-yA] at g;have j:I (a++[b])=I a+1:=by simp
 have c:=zT (a++[b]) v b w (jr.gC (base:=base) (by grind)) (by omega);have d:=zJ a b f b;rw[sO.2 Y,if_pos Y] at d;rw[A9 (by omega),d] at c;exact c
def P5{b:List az}(aw:M=1\/M=2\/M=3)(N:∀c∈b,jb c)(bc:I b<=100)(aF:jr w v b):
 bn 113 #[v,z9 M,z9 0] w λa3 k=>a3=aR (au (strOf (dJ M b)))/\aD w k:=by
 have⟨bm,ba,bj,bk,bl⟩:=eU aE.pP;have⟨aQ,ao,aI,aL,aM⟩:=eU aE.nh;obtain⟨a8,x,C,a9,rfl,q⟩:=aF;have R:=ap (wi b)
 skip
 go_enter aE.func113,Tryz.ntmps113;go_wp2_with fail
 go_loopw [7,8,9,10,11] (λa4 V aZ aY B wr=>∃(a:Nat),a<=I b/\B=z9 a/\a4=au (strOf (dJ M (b.take a)))/\aZ=aH/\aY=z9 0/\aT wr (U w.heap) 59 3 V (dfold (b.take a)).1.length (bZ (dfold (b.take a)).1)/\aD w wr) (λ_ _ _ _ B _=>I b-bS (bw B))
 exact⟨0,cE _,rfl,rfl,rfl,rfl,iO _ _ _ _,bU _ _⟩;obtain⟨a,ar,rfl,rfl,rfl,rfl,n,z⟩:=hrel;have t:=ap z;have L:U w.heap<=U wr.heap:=z.size;have⟨ab,ad,ae,aj⟩:=R.o a ar;by_cases i:a<I b
 .obtain rfl:=q.addr (by omega);have l:X (∀e,aD w e->aJ e x (C+a*3) (ak b[a].null)/\aJ e x (C+a*3+1) (z9 b[a].n)/\aJ e x (C+a*3+2) (au b[a].s)):=λe y=>
   ⟨(q.below y).c0 a i,(q.below y).c1 a i,(q.below y).c2 a i⟩
  have⟨bo,br,bs⟩:=l.o wr z;have H:=ap (N _ (c8 i));have D:X (dfold (b.take (a+1))=kD (dfold (b.take a)) b[a]):=dfold_succ i;have S:X (dJ M (b.take (a+1))=dJ M (b.take a)++cZ M b[a]):=KD i;have bd:(strOf (dJ M (b.take a))).size<=4200:=by
   have:=CK M (b.take a) (λc aG=>N c (xo aG));rw[m7] at this;rw[Pk.jf];omega
  generalize b[a]=c at*;generalize dfold (b.take a)=T at*;have⟨d,r⟩:=T;simp only at ab ad ae aj n;have be:(strOf (cZ M c)).size<=42:=by rw[Pk.jf];exact ya M c H.o.sz
  have E:X (∀e,bn 134 #[cw (dF c),z9 M] e λf k=>f=aR (au (strOf (cZ M c)))/\aD e k):=λe=>CI c M e aw H.o;have G:X (strOf (dJ M (b.take (a+1)))=strOf (dJ M (b.take a))++strOf (cZ M c)):=by show _=_;rw[S.o,nW]
  generalize strOf (dJ M (b.take a))=P at*;generalize strOf (cZ M c)=a6 at*;have m:X (bn 136 #[u8,cw (dF c)] wr λf k=>f=aR (z9 (tB d c))/\aD wr k):=zT d u8 c wr (jr.gC n) aa;by_cases p:idx d c<I d
  .have u:X (kD (d,r) c=(d,r++[idx d c])):=B2 p;rw[(A9 p)] at m;generalize idx d c=a7 at*;go_wp2_with fail;refine m.o.mono ?_;rintro f s ⟨rfl,g⟩;have h:=fJ t.o (g.mono L);have⟨a0,a1,a2⟩:=l.o s h;have o:=eM n g;have aC:=g.size;go_wp2_with first
    |(go_at_call 134;refine(E.o _).mono ?_;rintro f a5 ⟨rfl,j⟩)
   go_roundw
   exact⟨a+1,by omega,by go_num,by rw[G.o],rfl,rfl,by rw[D.o,u.o];exact eM o j,fJ h (j.mono h.size)⟩;simp[bw];omega
  have u:X (kD (d,r) c=(d++[c],r++[I d])):=B3 p;rw[(CL p)] at m;go_wp2_with fail;refine m.o.mono ?_;rintro f s ⟨rfl,g⟩;have h:=fJ t.o (g.mono L);have⟨a0,a1,a2⟩:=l.o s h;have o:=eM n g;have aC:=g.size;go_wp2_with first
   |(at_builtin;refine jw Y _ _ 43 Y (U w.heap) 59 aQ _ 3 32 aE.underlying43 ao aI aL aM Y ay _ (I d) _ Y (mB o _) ⟨U s.heap,0,Z⟩ 1 1 [ak c.null,z9 c.n,au c.s] Y ay Y (lR _) (lS c) (by unfold aS;omega) aa bO ?_;intro bD O K am;have J:=dA.append am;have A:aD w O:=fJ h (J.below (λW al=>(o.lt W al).1) h.size);have⟨bu,bv,bx⟩:=l.o O A;have bi:=J.dR.size)
   |(go_at_call 134;refine(E.o _).mono ?_;rintro f a5 ⟨rfl,j⟩)
  rw[<-yB,<-yA] at K
  go_roundw
  exact⟨a+1,by omega,by go_num,by rw[G.o],rfl,rfl,by rw[D.o,u.o];simpa using eM K j,fJ A (j.mono A.size)⟩;simp[bw];omega
 have bb:b.take a=b:=ja aa;have Q:X (strOf (dJ M (b.take a))=strOf (dJ M b)):=bh;generalize strOf (dJ M (b.take a))=P at*;go_wp2;go_ret;exact⟨by rw[<-Q.o];rfl,t.o⟩
def P6{b:List az}(br:M=1\/M=2\/M=3)(aL:∀c∈b,jb c)(bu:I b<=100)(aM:jr w v b):
 bn 113 #[v,z9 M,z9 1] w λa7 k=>a7=aR (au (strOf (fw 0 b)))/\aD w k:=by
 have⟨bJ,bm,bF,bH,bI⟩:=eU aE.pP;have⟨a1,aF,aY,aZ,a0⟩:=eU aE.nh;obtain⟨bj,z,D,bk,rfl,s⟩:=aM;have W:=ap (wi b)
 skip
 go_enter aE.func113,Tryz.ntmps113;go_wp2_with fail
 go_loopw [7,8,9,10,11] (λbb ae a3 a2 C wr=>∃(a:Nat),a<=I b/\C=z9 a/\bb=au (strOf (fw 0 (b.take a)))/\a3=aH/\a2=z9 (fQ 0 (b.take a))/\aT wr (U w.heap) 59 3 ae (dfold (b.take a)).1.length (bZ (dfold (b.take a)).1)/\aD w wr) (λ_ _ _ _ C _=>I b-bS (bw C))
 exact⟨0,cE _,rfl,rfl,rfl,rfl,iO _ _ _ _,bU _ _⟩;obtain⟨a,aG,rfl,rfl,rfl,rfl,p,B⟩:=hrel;have x:=ap B;have P:U w.heap<=U wr.heap:=B.size;have⟨al,am,ao,ar⟩:=W.o a aG;by_cases m:a<I b
 .obtain rfl:=s.addr (by omega);have l:X (∀d,aD w d->aJ d z (D+a*3) (ak b[a].null)/\aJ d z (D+a*3+1) (z9 b[a].n)/\aJ d z (D+a*3+2) (au b[a].s)):=λd A=>
   ⟨(s.below A).c0 a m,(s.below A).c1 a m,(s.below A).c2 a m⟩
  have⟨bN,bP,bR⟩:=l.o wr B;have G:X (dfold (b.take (a+1))=kD (dfold (b.take a)) b[a]):=dfold_succ m;have ab:X (fw 0 (b.take (a+1))=fw 0 (b.take a)++bc (zz (dr (b[a].n-fQ 0 (b.take a))))):=by show _=_;rw[gh m,EA]
  have H:X (fQ 0 (b.take (a+1))=b[a].n):=by show _=_;rw[gh m,E8]
  have bv:(strOf (fw 0 (b.take a))).size<=1000:=by
   have:=IT 0 (b.take a);rw[m7] at this;rw[Pk.jf];omega
  have⟨bs,bl⟩:=TT (b.take a) (λc aQ=>aL c (xo aQ)) 0 aa aa;generalize b[a]=c at*;generalize dfold (b.take a)=ad at*;have⟨e,t⟩:=ad;simp only at al am ao ar p;generalize fQ 0 (b.take a)=g at*;have⟨Q,R⟩:=uB (c.n-g);have bE:=sP 10 (zz (dr (c.n-g)));have bx:(strOf (bc (zz (dr (c.n-g))))).size<=10:=by rw[Pk.jf];unfold bc;omega
  have L:X (∀d,bn 137 #[z9 (dr (c.n-g))] d λf k=>f=aR (bt .u64 (zz (dr (c.n-g))))/\k=d):=λd=>NM Q R d;have K:X (∀d,bn 133 #[bt .u64 (zz (dr (c.n-g)))] d λf k=>f=aR (au (strOf (bc (zz (dr (c.n-g))))))/\aD d k):=λd=>An _ d (vA Q R);have J:X (strOf (fw 0 (b.take (a+1)))=strOf (fw 0 (b.take a))++strOf (bc (zz (dr (c.n-g))))):=by show _=_;rw[ab.o,nW]
  generalize strOf (fw 0 (b.take a))=T at*;generalize strOf (bc (zz (dr (c.n-g))))=be at*;have o:X (bn 136 #[u8,cw (dF c)] wr λf k=>f=aR (z9 (tB e c))/\aD wr k):=zT e u8 c wr (jr.gC p) aa;by_cases r:idx e c<I e
  .have y:X (kD (e,t) c=(e,t++[idx e c])):=B2 r;rw[(A9 r)] at o;generalize idx e c=bi at*;go_wp2_with fail;refine o.o.mono ?_;rintro f u ⟨rfl,i⟩;have h:=fJ x.o (i.mono P);have⟨a4,a5,a6⟩:=l.o u h;have q:=eM p i;have aI:=i.size;go_wp2_with first
    |(go_at_call 137;refine(L.o _).mono ?_;rintro f bd ⟨rfl,rfl⟩)
    |(go_at_call 133;refine(K.o _).mono ?_;rintro f E ⟨rfl,j⟩;have⟨a8,a9,ba⟩:=l.o E (fJ h (j.mono h.size)))
   go_roundw
   exact⟨a+1,by omega,by go_num,by rw[J.o],rfl,by rw[H.o],by rw[G.o,y.o];exact eM q j,fJ h (j.mono h.size)⟩;simp[bw];omega
  have y:X (kD (e,t) c=(e++[c],t++[I e])):=B3 r;rw[(CL r)] at o;go_wp2_with fail;refine o.o.mono ?_;rintro f u ⟨rfl,i⟩;have h:=fJ x.o (i.mono P);have⟨a4,a5,a6⟩:=l.o u h;have q:=eM p i;have aI:=i.size;go_wp2_with first
   |(at_builtin;refine jw Y _ _ 43 Y (U w.heap) 59 a1 _ 3 32 aE.underlying43 aF aY aZ a0 Y ay _ (I e) _ Y (mB q _) ⟨U u.heap,0,Z⟩ 1 1 [ak c.null,z9 c.n,au c.s] Y ay Y (lR _) (lS c) (by unfold aS;omega) aa bO ?_;intro b1 S O aC;have N:=dA.append aC;have n:aD w S:=fJ h (N.below (λaj aw=>(q.lt aj aw).1) h.size);have⟨bV,bY,b0⟩:=l.o S n;have bD:=N.dR.size)
   |(go_at_call 137;refine(L.o _).mono ?_;rintro f bd ⟨rfl,rfl⟩)
   |(go_at_call 133;refine(K.o _).mono ?_;rintro f E ⟨rfl,j⟩;have⟨a8,a9,ba⟩:=l.o E (fJ n (j.mono n.size)))
  rw[<-yB,<-yA] at O
  go_roundw
  exact⟨a+1,by omega,by go_num,by rw[J.o],rfl,by rw[H.o],by rw[G.o,y.o];simpa using eM O j,fJ n (j.mono n.size)⟩;simp[bw];omega
 have bo:b.take a=b:=ja aa;have V:X (strOf (fw 0 (b.take a))=strOf (fw 0 b)):=bh;generalize fQ 0 (b.take a)=g at*;generalize strOf (fw 0 (b.take a))=T at*;go_wp2;go_ret;exact⟨by rw[<-V.o];rfl,x.o⟩
def P8{b:List az}(bl:M=1\/M=2\/M=3)(bs:∀c∈b,jb c)(bo:I b<=100)(a2:jr w v b):
 bn 113 #[v,z9 M,z9 3] w λbb p=>bb=aR (au (strOf (eK (b.map az.n))))/\aD w p:=by
 have⟨al,W,ad,ae,aj⟩:=eU aE.pP;have⟨a6,aY,a3,a4,a5⟩:=eU aE.nh;obtain⟨bj,D,P,bk,rfl,z⟩:=a2;have ar:=ap (wi b)
 skip
 go_enter aE.func113,Tryz.ntmps113;go_wp2_with fail
 go_loopw [7,8,9,10,11] (λbc V am a7 O wr=>∃(a:Nat),a<=I b/\O=z9 a/\bc=au ⟨#[]⟩/\aT wr (U w.heap) 3 1 am a (cW ((b.take a).map az.n))/\Apart V am/\a7=z9 0/\aT wr (U w.heap) 59 3 V (dfold (b.take a)).1.length (bZ (dfold (b.take a)).1)/\aD w wr) (λ_ _ _ _ O _=>I b-bS (bw O))
 exact⟨0,cE _,rfl,rfl,iO _ _ _ _,aq Y,rfl,iO _ _ _ _,bU _ _⟩;obtain⟨a,a0,rfl,rfl,K,t,rfl,u,G⟩:=hrel;have B:=ap G;have N:U w.heap<=U wr.heap:=G.size;have⟨aH,aI,aL,aM⟩:=ar.o a a0;by_cases n:a<I b;obtain rfl:=z.addr aa;have r:X (∀i,aD w i->aJ i D (P+a*3) (ak b[a].null)/\aJ i D (P+a*3+1) (z9 b[a].n)/\aJ i D (P+a*3+2) (au b[a].s)):=λi E=>
  ⟨(z.below E).c0 a n,(z.below E).c1 a n,(z.below E).c2 a n⟩
 have⟨bu,bv,bx⟩:=r.o wr G;have R:X (dfold (b.take (a+1))=kD (dfold (b.take a)) b[a]):=dfold_succ n;have S:X ((b.take (a+1)).map az.n=(b.take a).map az.n++[b[a].n]):=by show _=_;rw[gh n,gY];rfl
 generalize b[a]=c at*;generalize dfold (b.take a)=aC at*;have⟨d,A⟩:=aC;simp only at aH aI aL aM u;have s:X (bn 136 #[u8,cw (dF c)] wr λh p=>h=aR (z9 (tB d c))/\aD wr p):=zT d u8 c wr (jr.gC u) aa;by_cases y:idx d c<I d;have C:X (kD (d,A) c=(d,A++[idx d c])):=B2 y;rw[(A9 y)] at s;generalize idx d c=bi at*;go_wp2_with fail;refine s.o.mono ?_;rintro h q ⟨rfl,e⟩;have f:=fJ B.o (e.mono N);have⟨a8,a9,ba⟩:=r.o q f;have k:=eM u e;have a1:=e.size;have m:=eM K e;go_wp2_with first
  |(at_builtin;refine jw Y _ _ 22 Y (U w.heap) 3 al (z9 0) 1 8 aE.underlying22 W ad ae aj Y ay _ a _ Y (mB m _) ⟨U q.heap,0,Z⟩ 1 1 [z9 c.n] Y ay Y (ot _) vf (by unfold aS;omega) (by omega) (by simp;omega) ?_;intro be ao o J)
 have g:=dA.append J;rw[uf] at o;refine⟨⟨a+1,aa,aF,rfl,b5 S.o o,t.oQ k g,rfl,by rw[R.o,C.o];exact ju k g t,fJ f (g.below (λj l=>(m.lt j l).1) f.size)⟩,by simp[bw];omega⟩;have C:X (kD (d,A) c=(d++[c],A++[I d])):=B3 y;rw[(CL y)] at s;go_wp2_with fail;refine s.o.mono ?_;rintro h q ⟨rfl,e⟩;have f:=fJ B.o (e.mono N);have⟨a8,a9,ba⟩:=r.o q f;have k:=eM u e;have a1:=e.size;have m:=eM K e;go_wp2_with first
  |(at_builtin;refine jw Y _ _ 43 Y (U w.heap) 59 a6 _ 3 32 aE.underlying43 aY a3 a4 a5 Y ay _ (I d) _ Y (mB k _) ⟨U q.heap,0,Z⟩ 1 1 [ak c.null,z9 c.n,au c.s] Y ay Y (lR _) (lS c) (by unfold aS;omega) aa bO ?_;intro bd Q L aQ;have x:=dA.append aQ;have H:aD w Q:=fJ f (x.below (λj l=>(k.lt j l).1) f.size);have⟨bD,bE,bF⟩:=r.o Q H;have br:=x.dR.size;have ab:=ju m x t.symm)
  |(at_builtin;refine jw Y _ _ 22 Y (U w.heap) 3 al (z9 0) 1 8 aE.underlying22 W ad ae aj Y ay _ a _ Y (mB ab _) ⟨U Q.heap,0,Z⟩ 1 1 [z9 c.n] Y ay Y (ot _) vf (by unfold aS;omega) (by omega) (by simp;omega) ?_;intro be ao o J)
 rw[<-yB,<-yA] at L;have g:=dA.append J;have T:Apart bd u9:=(t.symm.oQ m x).symm;rw[uf] at o;refine⟨⟨a+1,aa,aF,rfl,b5 S.o o,T.oQ L g,rfl,by rw[R.o,C.o];simpa using ju L g T,fJ H (g.below (λj l=>(ab.lt j l).1) H.size)⟩,by simp[bw];omega⟩;have aZ:b.take a=b:=ja aa;rw[aZ] at K;have bm:I (b.map az.n)=I b:=ee _;have aw:X (bn 112 #[u9] wr λh p=>h=aR (au (strOf (eK (b.map az.n))))/\aD wr p):=
  LQ u9 (b.map az.n) wr aa (iC.gC (base:=U w.heap) bh)
 go_wp2_with (go_at_call 112;refine aw.o.mono ?_;rintro h ao ⟨rfl,aG⟩);go_ret;exact⟨rfl,fJ B.o (aG.mono N)⟩
def P7{d:List az}(b0:M=1\/M=2\/M=3)(a6:∀c∈d,jb c)(c1:I d<=100)(cc:jr w v d):
 bn 113 #[v,z9 M,z9 2] w λcx i=>cx=aR (au (strOf (gi M d)))/\aD w i:=by
 have⟨ba,a5,a7,a8,a9⟩:=eU aE.pP;have⟨ci,bR,cf,cg,ch⟩:=eU aE.nh;obtain⟨cM,al,aL,cQ,rfl,R⟩:=cc;have bl:=ap (wi d)
 skip
 go_enter aE.func113,Tryz.ntmps113;go_wp2_with fail
 go_loopw [7,8,9,10,11] (λaM a1 bb ck o wr=>∃(b:Nat),b<=I d/\o=z9 b/\aM=au ⟨#[]⟩/\aT wr (U w.heap) 3 1 bb b (cW (ints (dfold (d.take b)).2))/\Apart a1 bb/\ck=z9 0/\aT wr (U w.heap) 59 3 a1 (dfold (d.take b)).1.length (bZ (dfold (d.take b)).1)/\aD w wr) (λ_ _ _ _ o _=>I d-bS (bw o))
 exact⟨0,cE _,rfl,rfl,iO _ _ _ _,aq Y,rfl,iO _ _ _ _,bU _ _⟩;obtain⟨b,bY,rfl,rfl,B,O,rfl,m,am⟩:=hrel;have ab:=ap am;have aH:U w.heap<=U wr.heap:=am.size;have⟨a3,ar,aw,a4⟩:=bl.o b bY;by_cases D:b<I d
 .obtain rfl:=R.addr (by omega);have H:X (∀e,aD w e->aJ e al (aL+b*3) (ak d[b].null)/\aJ e al (aL+b*3+1) (z9 d[b].n)/\aJ e al (aL+b*3+2) (au d[b].s)):=λe s=>
   ⟨(R.below s).c0 b D,(R.below s).c1 b D,(R.below s).c2 b D⟩
  have⟨cn,co,cp⟩:=H.o wr am;have ae:=ap (a6 _ (c8 D));have J:X (dfold (d.take (b+1))=kD (dfold (d.take b)) d[b]):=dfold_succ D;generalize d[b]=c at*;generalize dfold (d.take b)=aj at*;have⟨a,h⟩:=aj;simp only at a3 ar aw a4 m B;have L:X (bn 136 #[u8,cw (dF c)] wr λf i=>f=aR (z9 (tB a c))/\aD wr i):=zT a u8 c wr (jr.gC m) aa;by_cases A:idx a c<I a
  .have q:X (kD (a,h) c=(a,h++[idx a c])):=B2 A;have K:=A9 A;rw[K] at L;generalize idx a c=N at*;go_wp2_with fail;refine L.o.mono ?_;rintro f p ⟨rfl,k⟩;have l:=fJ ab.o (k.mono aH);have⟨cs,cu,cv⟩:=H.o p l;have x:=eM m k;have b7:=k.size;have Q:=eM B k;have bm:X (bn 136 #[u8,cw (dF c)] p λf i=>f=aR (n9 N)/\aD p i):=by
    have a2:=zT a u8 c p (jr.gC x) aa;rw[K] at a2;exact a2
   go_wp2_with first
    |(go_at_call 136;refine bm.o.mono ?_;rintro f T ⟨rfl,j⟩;have C:=eM Q j;have ca:=j.size;have u:=fJ l (j.mono l.size))
    |(at_builtin;refine jw Y _ _ 22 Y (U w.heap) 3 ba (z9 0) 1 8 aE.underlying22 a5 a7 a8 a9 Y ay _ b _ Y (mB C _) ⟨U T.heap,0,Z⟩ 1 1 [n9 N] Y ay Y (ot _) vf (by unfold aS;omega) (by omega) (by simp;omega) ?_;intro cA cB E aC)
   have n:=dA.append aC;have y:=eM x j;rw[uf] at E;refine⟨⟨b+1,by omega,aF,rfl,?_,O.oQ y n,rfl,by rw[J.o,q.o];exact ju y n O,fJ u (n.below (λr z=>(C.lt r z).1) u.size)⟩,by simp[bw];omega⟩;rw[J.o,q.o];simp only;rw[show ints (h++[N])=ints h++[(N:Int)] from by simp[ints]];exact E
  .have q:X (kD (a,h) c=(a++[c],h++[I a])):=B3 A;have K:=CL A;rw[K] at L;go_wp2_with fail;refine L.o.mono ?_;rintro f p ⟨rfl,k⟩;have l:=fJ ab.o (k.mono aH);have⟨cs,cu,cv⟩:=H.o p l;have x:=eM m k;have b7:=k.size;have Q:=eM B k;have bJ:I a+1<=100:=aa;go_wp2_with first
    |(at_builtin;refine jw Y _ _ 43 Y (U w.heap) 59 ci _ 3 32 aE.underlying43 bR cf cg ch Y ay _ (I a) _ Y (mB x _) ⟨U p.heap,0,Z⟩ 1 1 [ak c.null,z9 c.n,au c.s] Y ay Y (lR _) (lS c) (by unfold aS;omega) aa bO ?_;intro cy bh aG bP;have P:=dA.append bP;have ao:aD w bh:=fJ l (P.below (λr z=>(x.lt r z).1) l.size);have⟨c7,c9,da⟩:=H.o bh ao;have c4:=P.dR.size;have b1:=ju Q P O.symm;have bo:=ap (VE aG A bJ))
    |(go_at_call 136;refine bo.o.mono ?_;rintro f T ⟨rfl,j⟩;have C:=eM b1 j;have ca:=j.size;have u:=fJ ao (j.mono ao.size))
    |(at_builtin;refine jw Y _ _ 22 Y (U w.heap) 3 ba (z9 0) 1 8 aE.underlying22 a5 a7 a8 a9 Y ay _ b _ Y (mB C _) ⟨U T.heap,0,Z⟩ 1 1 [n9 (I a)] Y ay Y (ot _) vf (by unfold aS;omega) (by omega) (by simp;omega) ?_;intro cA cB E aC)
   rw[<-yB,<-yA] at aG;have n:=dA.append aC;have aZ:Apart cy u9:=(O.symm.oQ Q P).symm;have y:=eM aG j;rw[uf] at E;refine⟨⟨b+1,by omega,aF,rfl,?_,aZ.oQ y n,rfl,by rw[J.o,q.o];simpa using ju y n aZ,fJ u (n.below (λr z=>(C.lt r z).1) u.size)⟩,by simp[bw];omega⟩;rw[J.o,q.o];simp only;rw[show ints (h++[I a])=ints h++[(I a:Int)] from by simp[ints]];exact E
 .have bV:d.take b=d:=ja aa;have aY:X (gi M d=bc (dfold (d.take b)).1.length++(dJ M (dfold (d.take b)).1++iH (wid (dfold (d.take b)).1.length) (dfold (d.take b)).2)):=by show _=_;rw[bV];rfl
  have ad:X (∀c∈(dfold (d.take b)).1,jb c):=λc aI=>a6 c (a4 c aI)
  rename ag=>aQ
  generalize dfold (d.take b)=aj at*;have⟨a,h⟩:=aj;simp only at a3 ar aw m B aY ad;obtain⟨bE,cY,rfl⟩:=tw m;have bv:X (∃a0 bd,xB aQ bE a0 bd a):=by
   have⟨cP,bD,cl,cV,bN,b3⟩:=jr.gC m;cases bN;exact⟨bD,cl,b3⟩
  have cd:=Aq (I a);have bi:X (∀e,aD aQ e->bn 138 #[u9,z9 (wid (I a):Nat)] e λf i=>f=aR (au (strOf (iH (wid (I a)) h)))/\aD e i):=λe s=>
   O2 (by omega) (by omega) (λbe b2=>Ap (by omega) be (aw be b2)) (iC.gC (base:=U w.heap) (by
    have:=eM B s;unfold ints at this ⊢;rw[ee,ar];exact this))
  have bx:X (∀e,bn 110 #[n9 (I a)] e λf i=>f=aR (z9 (wid (I a)))/\i=e):=λe=>Nz (I a) aa e;have bu:X (∀e,bn 133 #[bt .u64 (I a:Int)] e λf i=>f=aR (au (strOf (bc (I a))))/\aD e i):=λe=>An (I a) e aa;have c2:(strOf (iH (wid (I a)) h)).size<=1000:=by
   rw[Pk.jf,wD];have:I h*wid (I a)<=100*7:=s8 aa cd;omega
  have c6:=sP 10 (I a);go_wp2_with (go_at_call 133;refine(bu.o _).mono ?_;rintro f T ⟨rfl,j⟩)
  go_loopw [7,12] (λaM o cJ=>∃(g:Nat),g<=I a/\o=z9 g/\aM=au (strOf (bc (I a)++dJ M (a.take g)))/\aD aQ cJ) (λ_ o _=>I a-bS (bw o))
  exact⟨0,cE _,rfl,by simp[dJ],j⟩;obtain⟨g,c5,rfl,rfl,t⟩:=hrel;have bI:=t.size;have c0:(strOf (bc (I a)++dJ M (a.take g))).size<=4300:=by
   have:=CK M (a.take g) (λc aI=>ad.o c (xo aI));rw[m7] at this;rw[Pk.jf,cN];unfold bc;omega
  by_cases G:g<I a
  .have⟨a0,bd,b4⟩:=bv.o;have S:=b4.below t;obtain rfl:=S.addr aa;have cn:=S.c0 g G;have co:=S.c1 g G;have cp:=S.c2 g G;have ae:=ap (ad.o _ (c8 G));have bs:X (strOf (bc (I a)++dJ M (a.take (g+1)))=strOf (bc (I a)++dJ M (a.take g))++strOf (cZ M a[g])):=by
    show _=_;rw[KD G,<-iD,nW]
   generalize a[g]=c at*;have c3:(strOf (cZ M c)).size<=42:=by rw[Pk.jf];exact ya M c ae.o.sz
   have br:X (∀e,bn 134 #[cw (dF c),z9 M] e λf i=>f=aR (au (strOf (cZ M c)))/\aD e i):=λe=>CI c M e b0 ae.o;generalize strOf (bc (I a)++dJ M (a.take g))=V at*;generalize strOf (cZ M c)=W at*;have b5:¬ 9223372036854775807<V.size+W.size:=aa;go_wp2_with (go_at_call 134;refine(br.o _).mono ?_;rintro f cG ⟨rfl,bF⟩)
   go_roundw
   case rel=>exact⟨g+1,aa,by go_num,by rw[bs.o],fJ t (bF.mono bI)⟩
   case measure=>simp[bw];omega
  have cb:a.take g=a:=ja aa;have bk:X (strOf (gi M d)=strOf (bc (I a)++dJ M (a.take g))++strOf (iH (wid (I a)) h)):=by
   show _=_;rw[cb,aY.o,<-iD,nW]
  generalize strOf (bc (I a)++dJ M (a.take g))=V at*;have bj:=ap (bi.o wr t);generalize strOf (iH (wid (I a)) h)=W at*;have b5:¬ 9223372036854775807<V.size+W.size:=aa;go_wp2_with first
   |(go_at_call 110;refine(bx.o _).mono ?_;rintro f cG ⟨rfl,rfl⟩)
   |(go_at_call 138;refine bj.o.mono ?_;rintro f db ⟨rfl,bH⟩)
  go_ret;exact⟨by rw[bk.o];rfl,fJ (fJ ab.o (t.mono aH)) (bH.mono aa)⟩
def Ra(i:F)(g:List az)(b a:Int)(h:ag)(c:b=1\/b=2\/b=3)(j:a=0\/a=1\/a=2\/a=3)(e:∀m∈g,jb m)(d:I g<=100)(f:jr h i g):
 bn 113 #[i,z9 b,z9 a] h λk l=>k=aR (au (strOf (jE b a g)))/\aD h l:=by
 rcases j with rfl|rfl|rfl|rfl;exact P5 c e d f;exact P6 c e d f;exact P7 c e d f;exact P8 c e d f
def P9(c f:Int)(a:List az)(d:∀b∈a,jb b)(m:I a<=100):I (jE c f a)<=100000:=by
 unfold jE
 split
 have:=IT 0 a;omega
 split
 unfold gi;have e:=wi a (I a) (aV _);rw[iZ] at e;have⟨j,k,l,g⟩:=e;have o:=CK c (dfold a).1 (λb i=>d b (g b i));have p:=sP 10 (dfold a).1.length;have h:=Aq (dfold a).1.length;have n:(dfold a).2.length*wid (dfold a).1.length<=100*7:=s8 aa h;rw[cN,cN,wD];unfold bc;omega
 split
 have:=LO (a.map az.n) bh;omega;have:=CK c a d;omega
def PV(a:List az)(e c:Int)(f:ag)(aM:e=1\/e=2\/e=3)(aG:c=0\/c=1\/c=2\/c=3)(aZ:∀d∈a,jb d)(bj:I a<=100)(a0:jr f v a):
 bn 75 #[v,z9 e,z9 c] f λK s=>K=aR (au (strOf (g5 e c a)))/\aD f s:=by
 have⟨ab,O,T,V,W⟩:=eU aE.pP;have⟨a4,aI,a1,a2,a3⟩:=eU aE.nh;obtain⟨bb,C,J,bc,rfl,x⟩:=a0
 skip
 go_enter aE.func75,Tryz.ntmps75;go_wp2_with fail
 go_loopw [7,8,9] (λad ae H wr=>∃(b:Nat),b<=I a/\H=z9 b/\aT wr (U f.heap) 3 1 ad b (cW ((a.take b).map fX))/\aT wr (U f.heap) 59 3 ae (I (there (a.take b))) (bZ (there (a.take b)))/\Apart ad ae/\aD f wr) (λ_ _ H _=>I a-bS (bw H))
 exact⟨0,cE _,rfl,iO _ _ _ _,iO _ _ _ _,aq Y,bU _ _⟩;obtain⟨b,be,rfl,q,j,u,w⟩:=hrel;have z:=ap w;have y:U f.heap<=U wr.heap:=w.size;have bl:I (there (a.take b))<=b:=by have:=M7 (a.take b);rw[m7] at this;omega
 by_cases p:b<I a;obtain rfl:=x.addr aa;have k:X (∀g,aD f g->aJ g C (J+b*3) (ak a[b].null)/\aJ g C (J+b*3+1) (z9 a[b].n)/\aJ g C (J+b*3+2) (au a[b].s)):=λg m=>
  ⟨(x.below m).c0 b p,(x.below m).c1 b p,(x.below m).c2 b p⟩
 have M:=Y_ a b p;have L:=ap (T3 a b p);generalize a[b]=d at*;cases i:d.null
 .rw[i] at M k;have⟨a5,a6,a7⟩:=k.o wr w;have B:X (there (a.take (b+1))=there (a.take b)++[d]):=bh;have A:X (fX d=1):=by show _=_;unfold fX;rw[i];rfl
  have aC:bZ [d]=[ak ai,z9 d.n,au d.s]:=by rw[yB,i]
  have ar:∀a8∈[ak ai,z9 d.n,au d.s],nM a8=af:=by have:=lS d;rwa [i] at this
  go_wp2_with (first
   |(at_builtin;refine jw Y _ _ 22 Y (U f.heap) 3 ab (z9 0) 1 8 aE.underlying22 O T V W Y ay _ b _ Y (mB q _) ⟨U wr.heap,0,Z⟩ 1 1 [z9 1] Y ay Y (ot _) vf (by unfold aS;omega) (by omega) (by simp;omega) ?_;intro aj t r G;have h:=dA.append G;have n:aD f t:=fJ z.o (h.below (λl o=>(q.lt l o).1) y);have⟨bs,bu,bv⟩:=k.o t n;have R:=ju j h u.symm;have bk:=h.dR.size)
   |(at_builtin;refine jw Y _ _ 43 Y (U f.heap) 59 a4 _ 3 32 aE.underlying43 aI a1 a2 a3 Y ay _ _ _ Y (mB R _) ⟨U t.heap,0,Z⟩ 1 1 [ak ai,z9 d.n,au d.s] Y ay Y (lR _) ar (by unfold aS;omega) aa bO ?_;intro bx bE Q aH))
  have E:=dA.append aH;have N:Apart aj u8:=(u.symm.oQ j h).symm;have P:=ju r E N;rw[uf] at P;rw[<-aC,<-yA] at Q;refine⟨⟨b+1,aa,by simp,by rw[L.o,A.o];exact P,by rw[B.o];simpa using Q,N.oQ r E,fJ n (E.below (λl o=>(R.lt l o).1) n.size)⟩,by simp[bw];omega⟩
 rw[i] at M k;have⟨a5,a6,a7⟩:=k.o wr w;have B:X (there (a.take (b+1))=there (a.take b)):=bh;have A:X (fX d=0):=by show _=_;unfold fX;rw[i];rfl
 go_wp2_with (at_builtin;refine jw Y _ _ 22 Y (U f.heap) 3 ab (z9 0) 1 8 aE.underlying22 O T V W Y ay _ b _ Y (mB q _) ⟨U wr.heap,0,Z⟩ 1 1 [z9 0] Y ay Y (ot _) vf (by unfold aS;omega) (by omega) (by simp;omega) ?_;intro aj t r G);have h:=dA.append G;rw[uf] at r;refine⟨⟨b+1,aa,aF,by rw[L.o,A.o];exact r,b5 B.o (ju j h u.symm),(u.symm.oQ j h).symm,fJ z.o (h.below (λl o=>(q.lt l o).1) y)⟩,by simp[bw];omega⟩;have bd:b=I a:=aa;have aL:a.take b=a:=ja aa;rw[aL] at q j;have bi:(I (a.map fX))=I a:=ee _;have aQ:aT wr (U f.heap) 3 1 u7 (I (a.map fX)) (cW (a.map fX)):=bh;have S:∀d∈there a,jb d:=λd i=>aZ d (X_9 i);have bm:=M7 a;have aY:=LO (a.map fX) aa;have aw:=P9 e c (there a) S aa;have al:X (bn 112 #[u7] wr λc s=>c=aR (au (strOf (eK (a.map fX))))/\aD wr s):=LQ u7 (a.map fX) wr aa (iC.gC aQ);have am:X (∀g,aD wr g->bn 113 #[u8,z9 e,z9 c] g λK s=>K=aR (au (strOf (jE e c (there a))))/\aD g s):=λg m=>
  Ra u8 (there a) e c g aM aG S aa (jr.gC (eM j m))
 have ao:X (strOf (g5 e c a)=strOf (eK (a.map fX))++strOf (jE e c (there a))):=nW _;have bo:(strOf (eK (a.map fX))).size<=1100:=by rw[Pk.jf];exact aY
 have br:(strOf (jE e c (there a))).size<=100000:=by rw[Pk.jf];exact aw
 generalize strOf (eK (a.map fX))=a9 at*;generalize strOf (jE e c (there a))=ba at*;go_wp2_with first
  |(go_at_call 112;refine al.o.mono ?_;rintro c bD ⟨rfl,D⟩)
  |(go_at_call 113;refine(am.o _ D).mono ?_;rintro c t ⟨rfl,n⟩)
 go_ret;exact⟨gJ ao.o,fJ (fJ z.o (D.mono y)) (n.mono (dj y D.size))⟩
structure BL(v:az):Prop where
 lo: -9223372036854775808<=v.n
 hi:v.n<=9223372036854775807
def GL{s:ByteArray}(a:s.toList=[]):s.size=0:=by
 have b:=uF s;rw[b] at a;show s.data.size=0;rw[<-Array.length_toList,a];rfl
def aaL{b:az}(c:BL b)(a:gT b M=af):jb b:=by
 refine⟨c.lo,c.hi,?_⟩;unfold gT at a
 split at a
 simp at a;have:=GL a.2;omega
 split at a
 simp at a;have:=GL a;omega
 split at a
 simp at a;have:=GL a.2;omega;simp at a;omega
def B5(a:eW M qA=af):(M=1\/M=2\/M=3)/\(qA=0\/qA=1\/qA=2\/qA=3):=by
 constructor;rcases uW M with rfl|rfl|rfl|rfl|⟨i,f,g,h⟩;simp[eW,oo] at a;exact aq Y;exact an (aq Y);exact an (an Y);rw[A1 f g h] at a;cases a;rcases uW qA with rfl|rfl|rfl|rfl|⟨b,c,d,e⟩;exact aq Y;exact an (aq Y);exact an (an (aq Y));exact an (an (an Y));rw[Ka b c d e] at a;cases a
end Ec
namespace Ec
open Go.RowKit Pk
structure bF where
 name:ByteArray
 kind:Int
def kX (b:List bF):List F:=b.flatMap λa=>[au a.name,z9 a.kind]
structure uD(w:ag)(ao:Option aN)(b off:Nat)(l:List bF):Prop where
 addr:0<I l->ao=K ⟨b,off,Z⟩
 lt:0<I l->b<U w.heap
 c0:∀j (h:j<I l),aA w ⟨b,off+j*2,Z⟩=K (au l[j].name)
 c1:∀j (h:j<I l),aA w ⟨b,off+j*2+1,Z⟩=K (z9 l[j].kind)
def uD.below{e:List bF}(a:uD w O n m e)(c:aD w u):uD u O n m e:=
 ⟨a.addr,λf=>cL (a.lt f) c.size,
  λb d=>aB (bq c (p:=⟨n,m+b*2,Z⟩) (a.lt aa)) (a.c0 b d),
  λb d=>aB (bq c (p:=⟨n,m+b*2+1,Z⟩) (a.lt aa)) (a.c1 b d)⟩
def uD.take{d:List bF}(a:uD w O n m d)(f:Nat):uD w O n m (d.take f):=by
 refine⟨λb=>a.addr ?_,λb=>a.lt ?_,λc e=>?_,λc e=>?_⟩;simp at b;omega;simp at b;omega;rw[rz];exact a.c0 c bh;rw[rz];exact a.c1 c bh
def o7 (f:ag)(v:F)(a:List bF):Prop:=∃b d e c,v=ah b (I a) c/\I a<=c/\uD f b d e a
def o7.below{b:List bF}(a:o7 w v b)(f:aD w u):o7 u v b:=by
 obtain⟨c,d,h,e,rfl,g,a⟩:=a;exact⟨c,d,h,e,rfl,g,a.below f⟩
def oO (a:bF):Bool:=decide ((1:Int)<=(bf a.name:Int))&&decide ((bf a.name:Int)<=16)&&oo a.kind
def oE (b:List bF)(a:Nat):Prop:=∀d:a<I b,oO b[a]=af/\∀c (e:c<a),b[c].name≠b[a].name
def nH (a:List bF):Prop:=1<=I a/\I a<=8/\∀b,oE a b
def TF(a:bF)(c:ag):
 bn 80 #[cw #[au a.name,z9 a.kind]] c λb d=>b=aR (ak (oO a))/\aD c d:=by
 have e:=Ck a.kind;cases f:decide ((1:Int)<=(a.name.size:Int))<;>cases g:decide ((a.name.size:Int)<=16)
 all_goals
  go_enter aE.func80,Tryz.ntmps80;go_wp2_with (go_at_call 120;refine bL (e _) ?_;rintro b d ⟨rfl,rfl⟩)
  all_goals go_ret
  all_goals refine⟨tD ?_,nK (bU _ _) (aV _) _⟩
  all_goals simp_all [oO]
  all_goals try (intros;omega)
def S9(a:List bF)(s:ByteArray)(A:Nat)(C:I a<=aS)(g:uD w O n m a):
 bn 81 #[ah O (I a) A,au s] w λi E=>∃p,i=aR (ak p)/\(p=af↔∃e,∃c:e<I a,a[e].name=s)/\aD w E:=by
 unfold aS at C;have u:=ap g;go_enter aE.func81,Tryz.ntmps81;go_wp2_with fail
 go_loopw [9] (λl wr=>∃b:Nat,b<=I a/\l=z9 b/\(∀d,(k:d<I a)->d<b->a[d].name≠s)/\aD w wr) (λl _=>I a-bS (bw l))
 exact⟨0,cE _,rfl,λd _ c=>aa,bU _ _⟩;obtain⟨b,G,rfl,q,f⟩:=hrel;have r:=f.size
 skip
 by_cases j:b<I a
 .have g:=u.o.below f;obtain rfl:=g.addr aa;have H:=g.c0 b j;have J:=g.c1 b j;have v:X (a[b].name=s->∃e,∃c:e<I a,a[e].name=s):=λc=>⟨b,j,c⟩;have y:X (a[b].name≠s->∀d,(k:d<I a)->d<b+1->a[d].name≠s):=λc d k F=>by
   by_cases B:d=b;subst B;exact c;exact q d k aa
  generalize a[b]=o at*;by_cases h:o.name=s
  .have x:=v.o h;have D:(jI o.name==jI s)=af:=by rw[h];simp
   go_wp2;go_ret;exact⟨af,rfl,by simp only[true_iff];exact x,nK f r _⟩
  have z:=ap (y.o h);have D:(jI o.name==jI s)=ai:=by rw[beq_eq_false_iff_ne];exact λc=>h (toList_inj c)
  go_wp2
  go_roundw
  exact⟨b+1,by omega,by go_num,z.o,nK f r _⟩;simp[bw];omega
 have t:X (¬∃e,∃c:e<I a,a[e].name=s):=by
  rintro⟨e,c,i⟩;exact q e c aa i
 skip
 go_wp2;go_ret;exact⟨ai,rfl,by simp only[fA,false_iff];exact t.o,f⟩
def Nk(a:ag)(b c:F)(d:aK):aA (cD a (ax #[b,c] d)) ⟨U a.heap,0,Z⟩=K b/\aA (cD a (ax #[b,c] d)) ⟨U a.heap,1,Z⟩=K c:=aF
def wu (a b:Int):Int:=if a<b then -1 else if b<a then 1 else 0
def gp (a b:az):Int:=if a.n<b.n then -1 else if b.n<a.n then 1 else mv (dD a.s.data) (dD b.s.data)
def aaE{a b:az}:gp a b=if wu a.n b.n=0 then mv (dD a.s.data) (dD b.s.data) else wu a.n b.n:=by
 unfold gp wu;by_cases c:a.n<b.n;rw[if_pos c,if_pos c,if_neg aa];rw[if_neg c,if_neg c];by_cases d:b.n<a.n;rw[if_pos d,if_pos d,if_neg aa];rw[if_neg d,if_neg d,if_pos Y]
def TG(b:Int)(a:ag):bn 159 #[z9 b] a λc d=>c=aR (ak ai)/\d=a:=by
 go_enter aE.func159,Tryz.ntmps159;go_wp2;go_ret;exact⟨rfl,rfl⟩
def P2(a b:Int)(h:ag):bn 148 #[z9 a,z9 b] h λi c=>i=aR (z9 (wu a b))/\c=h:=by
 have d:=TG;unfold wu;go_enter aE.func148,Tryz.ntmps148;by_cases e:a<b
 .rw[if_pos e];go_wp2_with (go_at_call 159;refine bL (d _ _) ?_;rintro g c ⟨rfl,rfl⟩);go_ret;exact⟨rfl,rfl⟩
 rw[if_neg e];by_cases f:b<a
 .rw[if_pos f];go_wp2_with (go_at_call 159;refine bL (d _ _) ?_;rintro g c ⟨rfl,rfl⟩);go_ret;exact⟨rfl,rfl⟩
 rw[if_neg f];go_wp2_with (go_at_call 159;refine bL (d _ _) ?_;rintro g c ⟨rfl,rfl⟩);go_ret;exact⟨rfl,rfl⟩
def P4:bn 160 #[au s,au B] w λa b=>a=aR (z9 (mv (dD s.data) (dD B.data)))/\b=w:=by
 go_enter aE.func160,Tryz.ntmps160;go_wp2;rw[run_callFunc_extern aE.func168 bl bl bl (e:=DO) bl,Lib.run_compareString];simp only[Result.andThen];rw[Oper.upon_value];go_wp2;go_ret;exact⟨rfl,rfl⟩
def YH(a b:ByteArray)(d:ag):bn 149 #[au a,au b] d λc e=>c=aR (z9 (mv (dD a.data) (dD b.data)))/\e=d:=by
 go_enter aE.func149,Tryz.ntmps149;go_wp2_with (go_at_call 160;refine bL (P4) ?_;rintro c e ⟨rfl,rfl⟩);go_ret;exact⟨rfl,rfl⟩
def P3(l:aA w ⟨n,0,Z⟩=K (bt bM M))(m:aA w ⟨n,1,Z⟩=K (bt bM qA)):
 bn 147 #[ah (K ⟨n,0,Z⟩) 2 2] w λg k=>g=aR (bt bM (if M=0 then qA else M))/\k=w:=by
 go_enter aE.func147,Tryz.ntmps147;go_wp2_with fail
 go_loopw [8] (λd wr=>∃b:Nat,b<=2/\d=bt bM (b:Int)/\(1<=b->M=0)/\(2<=b->qA=0)/\wr=w) (λd _=>2-bS (bw d))
 exact⟨0,aa,rfl,λh=>aa,λh=>aa,rfl⟩;obtain⟨b,j,rfl,e,i,rfl⟩:=hrel
 skip
 match b,j with
 |0,_=>
  by_cases a:M=0;have c:(M !=0)=ai:=by simp[a]
  have f:=ap a;go_wp2
  go_roundw
  refine⟨1,aa,rfl,λ_=>f.o,?_⟩;simp;simp[bw];have c:(M !=0)=af:=by simp[a]
  go_wp2;go_ret;exact⟨rfl,rfl⟩
 |1,_=>
  obtain rfl:M=0:=e aa;by_cases a:qA=0;have c:(qA !=0)=ai:=by simp[a]
  skip
  go_wp2
  go_roundw
  refine⟨2,aa,rfl,?_⟩;simp;try exact a
  simp[bw];have c:(qA !=0)=af:=by simp[a]
  skip
  go_wp2;go_ret;exact⟨rfl,rfl⟩
 |2,_=>
  obtain rfl:M=0:=e aa;obtain rfl:qA=0:=i aa;go_wp2;go_ret;exact⟨rfl,rfl⟩
def BQ:aD w ((w.alloc Qk).alloc Ql):=((bU _ _).alloc (aV _) Qk).alloc aF Ql
def Il(a:ag)(c d:az):(λb:ag=>aA b ⟨U a.heap,1,Z⟩=K (z9 c.n)/\aA b ⟨U a.heap,2,Z⟩=K (au c.s)/\aA b ⟨U a.heap+1,1,Z⟩=K (z9 d.n)/\aA b ⟨U a.heap+1,2,Z⟩=K (au d.s)) (cD (cD a (ax (dF c) 59)) (ax (dF d) 59)):=by
 refine⟨?_,?_,?_,?_⟩<;>simp
def Ev(a b:az)(d:ag):
 bn 125 #[cw (dF a),cw (dF b)] d λe h=>e=aR (z9 (gp a b))/\aD d h:=by
 have l:=P2 a.n b.n;have m:=YH a.s b.s;have n:X (∀(c:ag) (g:Nat),g=U c.heap->bn 147 #[aI g 2 2] ((c.alloc (ax #[z9 (wu a.n b.n),z9 (mv (dD a.s.data) (dD b.s.data))] 3)).drew) λe h=>e=aR (z9 (gp a b))/\h=((c.alloc (ax #[z9 (wu a.n b.n),z9 (mv (dD a.s.data) (dD b.s.data))] 3)).drew)):=λc g p=>by
  rw[aaE];subst p;exact P3 (by simp) (by simp)
 generalize wu a.n b.n=r at*;generalize mv (dD a.s.data) (dD b.s.data)=s at*;generalize gp a b=t at*;go_enter aE.func125,Tryz.ntmps125;go_upto_region 1 with fail;have j:aD d ((d.alloc (ax (dF a) 59)).alloc (ax (dF b) 59)):=BQ;have o:=Il d a b;generalize (d.alloc (ax (dF a) 59)).alloc (ax (dF b) 59)=q at*;have⟨u,v,w,x⟩:=o;generalize U d.heap+1=i at*
 go_region_held (λc=>aA c ⟨U d.heap,1,Z⟩=K (z9 a.n)/\aA c ⟨U d.heap,2,Z⟩=K (au a.s)/\aA c ⟨i,1,Z⟩=K (z9 b.n)/\aA c ⟨i,2,Z⟩=K (au b.s)) (go_keep) (first
  |(go_at_call 148;refine bL (l _) ?_;rintro e k ⟨rfl,f⟩;rw[f])
  |(go_at_call 149;refine bL (m _) ?_;rintro e k ⟨rfl,f⟩;rw[f])
  |(go_at_call 147;refine bL (n.o _ _ Y) ?_;rintro e k ⟨rfl,f⟩;rw[f]))
 all_goals go_wp2_with fail
 all_goals go_ret
 all_goals exact⟨rfl,(j.alloc j.size _).drew⟩
theorem IE:∀d e:List UInt8,mv d e= - mv e d
 | [],[]=>rfl
 | [],_::_=>rfl
 |_::_,[]=>rfl
 |a::g,f::rb=>by
  simp only[mv];by_cases b:a<f;rw[if_pos b,if_neg (by grind),if_pos b];rw[if_neg b];by_cases c:f<a;rw[if_pos c,if_pos c];rfl;rw[if_neg c,if_neg c,if_neg b,(IE g rb)]
def Hj(c d:az):gp c d= - gp d c:=by
 unfold gp;by_cases a:c.n<d.n;rw[if_pos a,if_neg (by omega),if_pos a];rw[if_neg a];by_cases b:d.n<c.n;rw[if_pos b,if_pos b];rfl;rw[if_neg b,if_neg b,if_neg a];exact IE _ _
structure ia where
 there:Bool
 least:az
 most:az
def hY:ia:=⟨ai,⟨ai,0,⟨#[]⟩⟩,⟨ai,0,⟨#[]⟩⟩⟩
end Ec
namespace Ec
open Go.RowKit Pk Pm
def eJ(b:ag)(a e:Nat)(v:F):jj b (bg b ⟨a,e,Z⟩ v) (K a):=
 ⟨rfl,rfl,rfl,aF,λf _ d=>ef _ _ _ _ (λc=>d (by cases c;rfl))⟩
def zm(a:dw n w u)(b:n<=U u.heap)(c:n<=m):dw n w (bg u ⟨m,k,Z⟩ v):=
 iB a (eJ u m k v) b bh
def kg(a:dw n w u)(c:n<=U w.heap)(b:n<=m):dw n w (bg u ⟨m,k,Z⟩ v):=
 zm a (dj c a.size) b
def jY(b:ag)(a:cj):(cD b a).heap[U b.heap]? =K a:=by
 show(gW b.heap a)[U b.heap]? =K a;simp
def alloc_old{a:Option cj}(b:n<U w.heap)(hx:w.heap[n]? =a):(w.alloc Qk).heap[n]? =a:=
 aB (cS ((bU (U w.heap) w).alloc (aV _) Qk) n b) hx
def BP(a:ag):(cD (cD a Qk) Ql).heap[U a.heap+1]? =K Ql:=by
 have:=jY (cD a Qk) Ql;rwa [show(cD a Qk).heap.size=U a.heap+1 by simp] at this
def Im (a:ia):F:=cw #[ak a.there,ak a.least.null,z9 a.least.n,au a.least.s,ak a.most.null,z9 a.most.n,au a.most.s]
def wV(a:w.heap[n]? =K (ax #[v,x,y] Qc (0,0))):
 aA w ⟨n,0,Z⟩=K v/\aA w ⟨n,1,Z⟩=K x/\aA w ⟨n,2,Z⟩=K y:=by
 refine⟨?_,?_,?_⟩<;>simp[aA,a]
end Ec
namespace Ec
open Go.RowKit Pk
def SX{b:List bF}(c:∀a,a<n->oE b a)(d:oE b n):∀a,a<n+1->oE b a:=bh
def Rk{a:List bF}(d:1<=I a)(e:I a<=8)(f:∀b,b<n->oE a b)(g:¬n<I a):nH a:=
 ⟨d,e,λb c=>f b aa c⟩
def OJ(a:List bF)(q:ag)(aH:I a<=aS)(aC:o7 q v a):
 bn 55 #[v] q λe A=>∃f,e=aR (ak f)/\(f=af↔nH a)/\dw (U q.heap) q A:=by
 obtain⟨a1,E,M,P,rfl,a6,m⟩:=aC;unfold aS at aH;by_cases x:1<=I a/\I a<=8
 .have⟨x,aw⟩:=x;have ae:=ap m;obtain rfl:=m.addr aa;have Q:decide ((I a:Int)<1)=ai:=bO;have al:decide (8<(I a:Int))=ai:=bO;go_enter aE.func55,Tryz.ntmps55;go_wp2_with fail
  go_loopw [15] (λg wr=>∃b:Nat,b<=I a/\g=z9 b/\(∀g,g<b->oE a g)/\dw (U q.heap) q wr) (λg _=>I a-bS (bw g))
  exact⟨0,cE _,rfl,λbd d=>aa,bU _ _⟩;obtain⟨b,a7,rfl,S,z⟩:=hrel;have aL:=z.size
  skip
  by_cases t:b<I a
  .have m:=ae.o.below z;have a9:=m.c0 b t;have ba:=m.c1 b t;have B:X (∀l,dw (U wr.heap) wr l->∀r,bn 81 #[ah (K ⟨E,M,Z⟩) b r,au a[b].name] l λe A=>∃f,e=aR (ak f)/\(f=af↔∃c,∃d:c<b,a[c].name=a[b].name)/\dw (U l.heap) l A):=λl ay r=>by
    have:=S9 (a.take b) a[b].name r (by simp;unfold aS;omega) ((m.below ay).take b);have am:I (a.take b)=b:=bO;have aJ:ah (K ⟨E,M,Z⟩) b r=ah (K ⟨E,M,Z⟩) (I (a.take b)) r:=by rw[am]
    rw[aJ];refine this.mono ?_;rintro e A ⟨f,rfl,y,az⟩;refine⟨f,rfl,y.trans ?_,az⟩;constructor;rintro⟨c,d,e⟩;rw[rz] at e;exact⟨c,by omega,e⟩;rintro⟨c,d,e⟩;refine⟨c,by simp;omega,?_⟩;rw[rz];exact e
   have o:=λl=>TF a[b] l;have u:X (oO a[b]=ai->¬nH a):=λd h=>by
    have:=(h.2.2 b t).1;rw[d] at this;cases this
   have C:X ((∃c,∃d:c<b,a[c].name=a[b].name)->¬nH a):=by
    rintro⟨c,d,e⟩ h;exact(h.2.2 b t).2 c d e
   have w:X (oO a[b]=af->(¬∃c,∃d:c<b,a[c].name=a[b].name)->∀g,g<b+1->oE a g):=λao ar=>SX S (λ_=>⟨ao,λc aG e=>ar ⟨c,aG,e⟩⟩);have a0:X (∀O:Prop,O=(∃c,∃d:c<b,a[c].name=a[b].name)->True):=λ_ _=>trivial;generalize a5:(∃c,∃d:c<b,a[c].name=a[b].name)=O at*;generalize a[b]=i at*;go_upto_region 6 with fail;have aM:=Nk wr (au i.name) (z9 i.kind) 63;have J:U wr.heap<(wr.alloc (ax #[au i.name,z9 i.kind] 63)).heap.size:=aF;have T:dw (U wr.heap) wr (wr.alloc (ax #[au i.name,z9 i.kind] 63)):=(bU _ _).alloc (aV _) _;generalize wr.alloc (ax #[au i.name,z9 i.kind] 63)=j at*;generalize aD:U wr.heap=G at*
   skip
   have⟨aQ,bb⟩:=aM
   go_cut [30] from 16 to 31 (λaY W=>∃f,aY=ak f/\(f=ai->∀g,g<b+1->oE a g)/\(f=af->¬nH a)/\dw G wr W)
   case first=>
    cases h:oO i
    .have D:=ap (u.o h);rw[h] at o
     first
      |go_region_with (go_at_call 80;refine(o _).mono ?_;rintro e N ⟨rfl,s⟩)
      |fail
     all_goals
      have p:dw (U j.heap) j N:=((bU (U j.heap) j).drew).trans s;have n:=ap (T.trans (p.mono (uO J)));clear s p;go_wp2_with fail
      go_meet
      exact⟨af,rfl,(λd=>cV d),λ_=>D.o,n.o⟩
    .have aj:=ap (w.o h);rw[h] at o;have a2:(0:Int)<=(b:Int):=aa;have a3:(b:Int)<=(P:Int):=aa;have a4:b<=P:=aa;clear u w h
     first
      |go_region_with (first
       |(go_at_call 80;refine(o _).mono ?_;rintro e N ⟨rfl,s⟩;have p:dw (U j.heap) j N:=((bU (U j.heap) j).drew).trans s;have k:=T.trans (p.mono (uO J));have bc:=(bq p (p:=⟨G,0,Z⟩) J).trans aQ;clear s p)
       |(go_at_call 81;refine(B.o _ k _).mono ?_;rintro e aZ ⟨f,rfl,y,V⟩))
      |fail
     all_goals
      have n:X (dw G wr aZ):=k.trans (V.mono (by have:=k.size;rw[aD] at this;exact this));clear V k;go_wp2_with fail
      go_meet
      refine⟨f,rfl,λd=>aj.o (λaI=>?_),λd=>C.o (y.1 d),n.o⟩;rw[y.2 aI] at d;cases d
   case rest=>
    rename ag=>W
    obtain⟨f,rfl,L,H,k⟩:=hcut;have n:=ap (z.trans (k.mono aL));cases f
    .have ab:=ap (L Y);clear L H k u C w B o;go_wp2
     go_roundw
     case rel=>exact⟨b+1,aa,by go_num,ab.o,n.o⟩
     case measure=>simp[bw];omega
    .have D:=ap (H Y);clear L H k u C w B o;go_wp2;go_ret;exact⟨ai,rfl,by simp only[fA,false_iff];exact D.o,n.o⟩
  have ad:=ap (Rk x aw S t)
  skip
  go_wp2;go_ret;exact⟨af,rfl,by simp only[true_iff];exact ad.o,z⟩
 .have R:¬nH a:=λd=>x ⟨d.1,d.2.1⟩;clear m;by_cases a8:I a<1
  .have Q:decide ((I a:Int)<1)=af:=by simp;omega
   go_enter aE.func55,Tryz.ntmps55;go_wp2
   all_goals go_ret
   all_goals exact⟨ai,rfl,by simp only[fA,false_iff];exact R,bU _ _⟩
  .have Q:decide ((I a:Int)<1)=ai:=by simp;omega
   have al:decide (8<(I a:Int))=af:=bO;go_enter aE.func55,Tryz.ntmps55;go_wp2
   all_goals go_ret
   all_goals exact⟨ai,rfl,by simp only[fA,false_iff];exact R,bU _ _⟩
structure zg(w:ag)(ao:Option aN)(b off:Nat)(l:List (List az)):Prop where
 addr:0<I l->ao=K ⟨b,off,Z⟩
 lt:0<I l->b<U w.heap
 c:∀j (h:j<I l),∃v,aA w ⟨b,off+j,Z⟩=K v/\jr w v l[j]
def zg.below{d:List (List az)}(a:zg w O n m d)(b:dw (U w.heap) w u):zg u O n m d:=
 ⟨a.addr,λe=>cL (a.lt e) b.size,λc h=>by
  have⟨v,f,g⟩:=a.c c h;exact⟨v,aB (bq b (p:=⟨n,m+c,Z⟩) (a.lt aa)) f,g.below b⟩⟩
def xx (f:ag)(v:F)(a:List (List az)):Prop:=∃b d e c,v=ah b (I a) c/\I a<=c/\zg f b d e a
def xx.below{b:List (List az)}(a:xx w v b)(f:dw (U w.heap) w u):xx u v b:=by
 obtain⟨c,d,h,e,rfl,g,a⟩:=a;exact⟨c,d,h,e,rfl,g,a.below f⟩
end Ec
namespace Pk
open Go.RowKit Pm
def I5{s:ByteArray}(a:n<bf s):e9 s n (n+1)=⟨#[s[n]]⟩:=by
 apply xG;unfold bytesOf;congr 1;rw[ByteArray.data_extract];simp only[Array.toList_extract];have b:n<I (dD s.data):=a;rw[show List.extract (dD s.data) n (n+1)=(s.data.toList.drop n).take 1 from aF,pE b];rfl
def bR (s:ByteArray)(a:Nat):cj:=ax #[au s,n9 a] 182 (0,0)
def g3 (a:Nat):List hJ:=[{v:=.iface 205 (cw #[n9 a]),recovered:=ai}]
def yh{s:ByteArray}(a:w.heap[n]? =K (bR s m)):
 aA w ⟨n,0,Z⟩=K (au s)/\aA w ⟨n,1,Z⟩=K (n9 m)/\cU w ⟨n,0,Z⟩=ai/\cU w ⟨n,1,Z⟩=ai:=by
 unfold bR at a;refine⟨?_,?_,?_,?_⟩;simp[aA,a];simp[aA,a];simp[cU,a];simp[cU,a]
def IV:cT (bg (cT w m) R v) n=cT (bg w R v) (m+n):=by
 rw[show bg (cT w m) R v=cT (bg w R v) m from by rfl,r5]
def lN(c b:Nat)(s:ByteArray)(a:ag)(e:a.heap[c]? =K (bR s b)):
 bn 97 #[(aZ c)] a λd f=>d=gO (g3 b)/\f=a:=by
 have⟨g,h,i,j⟩:=yh e;go_enter aE.func97,Tryz.ntmps97;go_wp2;exact⟨rfl,rfl,rfl⟩
def S_9{s:ByteArray}(d:bf s<=aS)(k:¬m<bf s)(l:m<=bf s)(b:w.heap[n]? =K (bR s m)):
 bn 128 #[(aZ n),z9 1] w λa c=>a=gO (g3 m)/\∃e,c=cT w e:=by
 have⟨f,g,h,i⟩:=yh b;unfold aS at d
 skip
 have j:decide ((bf s:Int)-(m:Int)<1)=af:=bO;go_enter aE.func128,Tryz.ntmps128;go_wp2_with fail;go_quiet (fail);go_wp2_with (go_at_call 97;refine bL (lN n m s _ (by exact b)) ?_;rintro a c ⟨rfl,rfl⟩);exact⟨rfl,rfl,nq,rfl⟩
def U_{s:ByteArray}(c:bf s<=aS)(d:k<bf s)(b:w.heap[n]? =K (bR s k)):
 bn 128 #[(aZ n),z9 1] w λa f=>a=aR (au ⟨#[s[k]]⟩)/\∃e,f=cT (bg w ⟨n,1,Z⟩ (z9 ((k+1:Nat):Int))) e:=by
 have⟨g,h,i,j⟩:=yh b;unfold aS at c;have l:decide ((bf s:Int)-(k:Int)<1)=ai:=bO;have o:(0:Int)<=(k:Int)+1:=aa;have p:(k:Int)+1<=(bf s:Int):=aa;have q:(k:Int)<=(k:Int)+1:=aa;have r:bS ((k:Int)+1)=k+1:=aa;have t:=I5 d;go_enter aE.func128,Tryz.ntmps128;go_wp2_with fail;go_quiet (fail);generalize nq=m at*;go_wp2_with fail;go_quiet (fail);go_wp2;go_ret;exact⟨rfl,m+nq,IV⟩
def BT(d a:Nat)(s:ByteArray)(g:bf s<=aS)(h:¬a<bf s)(i:a<=bf s)(f:w.heap[d]? =K (bR s a)):
 bn 129 #[(aZ d)] w λc e=>c=gO (g3 a)/\∃b,e=cT w b:=by
 skip
 go_enter aE.func129,Tryz.ntmps129;go_wp2_with (go_at_call 128;refine bL (S_9 g h i f) ?_;rintro c e ⟨rfl,b,rfl⟩);exact⟨rfl,rfl,b,rfl⟩
def BU(c a:Nat)(s:ByteArray)(d:ag)(h:bf s<=aS)(i:a<bf s)(g:d.heap[c]? =K (bR s a)):
 bn 129 #[(aZ c)] d λe f=>e=aR (bt .u8 (s[a].toNat:Int))/\∃b,f=cT (bg d ⟨c,1,Z⟩ (z9 ((a+1:Nat):Int))) b:=by
 skip
 go_enter aE.func129,Tryz.ntmps129;go_wp2_with (go_at_call 128;refine bL (U_ h i g) ?_;rintro e f ⟨rfl,b,rfl⟩);go_ret;exact⟨rfl,b,rfl⟩
def ED(b a:Nat)(s:ByteArray)(f:bf s<=aS)(m:a<bf s)(d:w.heap[b]? =K (bR s a)):
 bn 93 #[(aZ b)] w λc e=>c=gO (g3 a)/\∃g,e=cT w g:=by
 have⟨h,i,j,k⟩:=yh d;unfold aS at f
 skip
 have l:decide ((a:Int)<(bf s:Int))=af:=bO;go_enter aE.func93,Tryz.ntmps93;go_wp2_with fail;go_quiet (fail);go_wp2_with (go_at_call 97;refine bL (lN b a s _ (by exact d)) ?_;rintro c e ⟨rfl,rfl⟩);exact⟨rfl,rfl,nq,rfl⟩
def EE(b a:Nat)(s:ByteArray)(e:bf s<=aS)(m:¬a<bf s)(d:w.heap[b]? =K (bR s a)):
 bn 93 #[(aZ b)] w λc g=>c=aR (cC #[])/\∃f,g=cT w f:=by
 have⟨h,i,j,k⟩:=yh d;unfold aS at e;have l:decide ((a:Int)<(bf s:Int))=ai:=bO;go_enter aE.func93,Tryz.ntmps93;go_wp2_with fail;go_quiet (fail);go_wp2;go_end0;exact⟨rfl,nq,rfl⟩
def Fc(s:ByteArray):
 bn 65 #[au s] w λa b=>a=aR (aZ (U w.heap))/\b=cD w (bR s 0):=by
 go_enter aE.func65,Tryz.ntmps65;go_wp2;go_ret;exact⟨rfl,rfl⟩
def vn{s:ByteArray}(a:w.heap[n]? =K (bR s m))(b:Nat):(cT (bg w ⟨n,1,Z⟩ (n9 k)) b).heap[n]? =K (bR s k):=by
 show(bg w ⟨n,1,Z⟩ (n9 k)).heap[n]? =_;unfold bR at*;rw[eE w n 1 _ _ _ a];rfl
def Kp (a:Nat)(b c:ag):Prop:=jj b c (K a)
def Kp.refl(b:Nat)(a:ag):Kp b a a:=Oa a _
def Kp.size(a:Kp n w u):U w.heap<=U u.heap:=yW a
def Kp.trans(a:Kp n w u)(b:Kp n u W):Kp n w W:=
 ⟨aB b.os a.os,aB b.tape a.tape,aB b.output a.output,dj (yW a) (yW b),λe c d=>aB (dz b e (cL c (yW a)) d) (dz a e c d)⟩
def Kp.drewN(a:Kp n w u)(b:Nat):Kp n w (cT u b):=Kp.trans a ⟨rfl,rfl,rfl,aV _,λ_ _ _=>rfl⟩
def Kp.alloc(b:Kp n w u)(a:cj):Kp n w (cD u a):=Kp.trans b (uK u a _)
def Kp.grown(a:Kp n w u)(b:jj u W QX)(h:∀c,QX=K c->U w.heap<=c):Kp n w W:=
 ⟨aB b.os a.os,aB b.tape a.tape,aB b.output a.output,dj (yW a) b.size,λe d f=>aB (b.block e (cL d (yW a)) (λg=>bh)) (dz a e d f)⟩
def Kp.set(c:Kp n w u)(a:Nat)(v:F)(f:Nat):Kp n w (cT (bg u ⟨n,a,Z⟩ v) f):=
 Kp.trans c ⟨rfl,rfl,rfl,aF,λe g d=>by
  show(bg u ⟨n,a,Z⟩ v).heap[e]? =_;exact ef _ _ _ _ (λb=>d (by cases b;rfl))⟩
def Kp.below(a:Kp n w u)(e:n<=U w.heap):dw n w u:=⟨a.os,a.tape,a.output,yW a,λb d=>dz a b aa (λc=>bh)⟩
def Kp.iT(a:aD w u):Kp r w u:=⟨a.os,a.tape,a.output,a.size,λc b _=>cS a c b⟩
def Kp.own(c:Kp n w u)(a:aT w m k i v j S)(e:n<m):aT u m k i v j S:=
 fK a c (by
  cases b:bB v with
  |none=>exact aq Y
  |some d=>exact an (λk=>by cases k;have:=(a.lt n b).1;omega))
def Kp.block(d:Kp n w u)(a:w.heap[m]? =K Qk)(c:m≠n):u.heap[m]? =K Qk:=by
 rw[dz d m (bC a) (λb=>c (by cases b;rfl))];exact a
end Pk
namespace Ec
open Go.RowKit Pk Pm
def aQ (a:List Nat)(b:Nat)(c:List Nat):Prop:=c <+:a.drop b
def BA:aQ l n []:=List.nil_prefix
def dn:aQ l n (L++qE)↔aQ l n L/\aQ l (n+I L) qE:=by
 unfold aQ;constructor;rintro⟨c,a⟩;refine⟨⟨qE++c,bh⟩,⟨c,?_⟩⟩;rw[<-List.drop_drop,<-a];simp;rintro⟨⟨c,a⟩,⟨d,b⟩⟩;refine⟨d,?_⟩;rw[<-List.drop_drop,<-a] at b;simp at b;rw[<-a,iD,b]
def uv:aQ l n (m::L)↔l[n]? =K m/\aQ l (n+1) L:=by
 rw[show m::L=[m]++L from rfl,dn];have:aQ l n [m]↔l[n]? =K m:=by
  unfold aQ;rw[<-List.head?_drop];cases l.drop n with
  |nil=>simp
  |cons b a=>simp[List.cons_prefix_cons];exact eq_comm
 rw[this];rfl
def mW:aQ l n [m]↔l[n]? =K m:=by
 rw[uv];simp[BA]
def oX(a:aQ l n L)(b:n<=I l):n+I L<=I l:=by
 have:=a.length_le;rw[uN] at this;omega
def H_(a:aQ l 0 L)(b:¬ 0+I L<I l):L=l:=by
 unfold aQ at a;rw[s5] at a;exact a.eq_of_length_le aa
def uw(a:L=l):aQ l 0 L:=by
 subst a;unfold aQ;exact List.prefix_refl _
def ux{B:List Nat}{p:Nat}(a:aQ B p l)(b:aQ B p L)(c:I l=I L):l=L:=
 (List.prefix_of_prefix_length_le a b aa).eq_of_length c
def MR(b:l[n]? =K m)(d:128<=m)(a:aQ l n (jR (f+1) k)):128<=k/\k%128+128=m/\aQ l (n+1) (jR f (k/128)):=by
 by_cases c:k<128;rw[wW c,mW,b] at a;simp at a;omega;rw[vw c,uv,b] at a;simp at a;exact⟨aa,bA a.1,a.2⟩
def G1(a:l[n]? =K m)(c:m<128):aQ l n (jR (f+1) k)↔k=m:=by
 by_cases b:k<128;rw[wW b,mW,a];simp;exact eq_comm;rw[vw b,uv,a];simp;omega
structure lI(B:List Nat)(p j acc:Nat):Prop where
 lt:acc<128^j
 all:∀v,v<18446744073709551616->(aQ B p (bc v)↔∃x,v=acc+128^j*x/\(x≠0\/j=0)/\aQ B (p+j) (jR (10-j) x))
 len:∀x,(x≠0\/j=0)->I (bc (acc+128^j*x))=j+I (jR (10-j) x)
def lI.zero(b:List Nat)(e:Nat):lI b e 0 0:=
 ⟨aF,λv _=>⟨λc=>⟨v,aF,an Y,c⟩,fun⟨f,a,_,d⟩=>by simp at a;subst a;exact d⟩,λf _=>by simp[bc]⟩
def lI.more(d:lI l n m k)(u:m<10)(o:l[n+m]? =K i)(h:128<=i)(q:i<256):lI l n (m+1) (k+128^m*(i-128)):=by
 have x:=d.lt;have f:10-m=(10-(m+1))+1:=by omega
 have w:∀a,i-128+128*a=128*a+(i-128):=λa=>by omega
 have e:∀a,k+128^m*(i-128)+128^(m+1)*a=k+128^m*(i-128+128*a):=λa=>by
  rw[rC,Nat.mul_add,Nat.mul_assoc];omega
 refine⟨?_,?_,?_⟩;have b:128^m*(i-128)<=128^m*127:=Nat.mul_le_mul_left _ (by omega);rw[rC];omega;intro v p;rw[d.all v p];constructor;rintro⟨a,b,j,c⟩;rw[f] at c;have⟨r,s,t⟩:=MR o h c;refine⟨a/128,?_,aq (by omega),by omega⟩;rw[e,b];congr 2;omega;rintro⟨a,b,j,c⟩;have g:a≠0:=by omega
 refine⟨i-128+128*a,by rw[b,e],aq (by omega),?_⟩;rw[f,vw (by omega),uv];refine⟨by grind,?_⟩;rw[show(i-128+128*a)/128=a by omega,gF];exact c;intro a g;have g:a≠0:=by omega
 rw[e,d.len _ (aq (by omega)),f,vw (by omega),show(i-128+128*a)/128=a by omega];simp;omega
def lI.fin(g:lI l n m k)(j:m<10)(e:l[n+m]? =K i)(c:i<128)(v:Nat)(h:v<18446744073709551616):
 aQ l n (bc v)↔v=k+128^m*i/\(i≠0\/m=0):=by
 rw[g.all v h];have f:10-m=(10-(m+1))+1:=aa;constructor;rintro⟨o,a,b,d⟩;rw[f,G1 e c] at d;subst d;exact⟨a,b⟩;rintro⟨a,b⟩;exact⟨i,a,b,by rw[f,G1 e c]⟩
def lI.Jf{g a b c:Nat}(d:lI l g a b)(h:a<10)(e:c<128)(f:c≠0\/a=0):I (bc (b+128^a*c))=a+1:=by
 rw[d.len c f,show 10-a=(10-(a+1))+1 by omega,wW e];rfl
def lI.none(d:lI l n m k)(i:m<10)(j:¬n+m<I l)(v:Nat)(e:v<18446744073709551616):¬aQ l n (bc v):=by
 rw[d.all v e];rintro⟨f,g,h,a⟩;rw[show 10-m=(10-(m+1))+1 by omega] at a;have b:l[n+m]? =Z:=xl (by omega);by_cases c:f<128
 .rw[wW c,mW,b] at a;simp at a
 .rw[vw c,uv,b] at a;simp at a
def lI.G5(a:lI l n 10 m)(v:Nat)(c:v<18446744073709551616):¬aQ l n (bc v):=by
 rw[a.all v c];rintro⟨f,b,d,e⟩;have:(128:Nat)^10=1180591620717411303424:=ay;rw[this] at b;omega
def lI.top(b:lI l n m k)(e:m<9\/(m=9/\i<=1))(h:i<128):k+128^m*i<18446744073709551616:=by
 have f:=b.lt;rcases e with c|⟨rfl,c⟩;have d:128^(m+1)<=128^9:=n7 aa aa;have a:(128:Nat)^9=9223372036854775808:=ay;rw[rC] at d;have g:128^m*i<=128^m*127:=Nat.mul_le_mul_left _ aa;omega;have a:(128:Nat)^9=9223372036854775808:=ay;rw[a] at f ⊢;omega
def lI.over{B:List Nat}{p b a:Nat}(d:1<a):¬b+128^9*a<18446744073709551616:=by
 have c:(128:Nat)^9=9223372036854775808:=ay;rw[c];omega
def jS(d:m<18446744073709551616)(q:k<18446744073709551616)(b:aQ l n (bc m))(c:aQ l n (bc k)):m=k:=by
 have i:∀f m k n,m<128^f->k<128^f->aQ l n (jR f m)->aQ l n (jR f k)->m=k:=by
  intro f
  induction f with
  |zero=>intro m k n b c;simp at b c;omega
  |succ f h=>
   intro m k n b c a e;by_cases d:m<128
   .rw[wW d,mW] at a;exact bA ((G1 a d).1 e)
   .rw[vw d,uv] at a;have⟨j,o,g⟩:=MR a.1 aa e;have p:=h (m/128) (k/128) (n+1) aa aa a.2 g;omega
 have a:(128:Nat)^10=1180591620717411303424:=ay;exact i 10 m k n aa aa b c
def iU (b:List Int):Prop:=∀a∈b,a=0\/a=1
def Gv(a:Int)(b:List Int):0<iK a (a::b):=by simp[iK]
def Yx:∀(f:Nat) (a:List Int),I a<=f->lQ (f+1) a=lQ f a:=by
 intro f
 induction f with
 |zero=>intro a d;cases a with
  |nil=>rfl
  |cons b c=>simp at d
 |succ f e=>
  intro a d;cases a with
  |nil=>rfl
  |cons b c=>
   have g:=Gv b c;rw[lQ,lQ];simp only[(e ((b::c).drop (iK b (b::c))) bh)]
def Yv(f:Nat)(a:List Int)(d:I a<=f):lQ f a=eK a:=by
 induction f with
 |zero=>
  have:a=[]:=xm.1 (by omega);subst this;rfl
 |succ f c=>
  by_cases b:I a<=f
  .rw[Yx f a b,c b]
  .unfold eK;rw[show I a=f+1 by omega]
def Ys:eK []=[]:=rfl
def LN:eK (M::qY)=bc (iK M (M::qY))++([byteOf M]++eK ((M::qY).drop (iK M (M::qY)))):=by
 have a:=Gv M qY;rw[<-Yv (I qY) ((M::qY).drop (iK M (M::qY))) (by grind)];rfl
def Yi(a:Nat){m:List Int}(b:m.head? ≠K M):iK M (dh a M++m)=a:=by
 induction a with
 |zero=>
  cases m with
  |nil=>rfl
  |cons f e=>simp[iK];intro c;subst c;simp at b
 |succ a d=>rw[List.replicate_succ,r9,iK,if_pos Y,d]
def Yt{m:List Int}(e:n≠0)(d:m.head? ≠K M):eK (dh n M++m)=bc n++([byteOf M]++eK m):=by
 obtain⟨a,rfl⟩:∃a,n=a+1:=⟨n-1,aa⟩;have b:dh (a+1) M++m=M::(dh a M++m):=by rfl
 have c:=Yi (a+1) d;rw[b] at c ⊢;rw[LN,c,<-b];simp
def Yj:qY=dh (iK M qY) M++qY.drop (iK M qY):=by
 induction qY with
 |nil=>rfl
 |cons d c b=>
  simp only[iK]
  split
  rename_i a;subst a;rw[List.replicate_succ,r9,List.drop_succ_cons,<-b];simp
def Yg:(qY.drop (iK M qY)).head? ≠K M:=by
 intro a;rw[List.head?_drop] at a;have⟨b,c⟩:=fq.1 a;exact LJ M qY b c
structure oK(B:List Nat)(p cn:Nat)(l:List Int)(R:List Nat):Prop where
 le:I l<=cn
 bits:iU l
 st:aQ B p R
 ext:∀m:List Int,(m=[]\/l=[]\/m.head? ≠List.getLast? l)->eK (l++m)=R++eK m
 mj:∀L:List Int,I L=cn->iU L->aQ B p (eK L)->∃m,L=l++m/\(m=[]\/l=[]\/m.head? ≠List.getLast? l)
def oK.zero(a:List Nat)(e c:Nat):oK a e c [] []:=
 ⟨cE _,λf d=>by simp at d,BA,λm _=>rfl,λb _ _ _=>⟨b,rfl,an (aq Y)⟩⟩
def xF(a:M=0\/M=1):byteOf M=bS M:=by rcases a with rfl|rfl<;>rfl
def oK.next(i:oK l n k qY L)(q:I qY<k)(c:List Int)(hL:I c=k)(j:iU c)(g:aQ l n (eK c)):
 ∃(e:Nat) (b:Int) (m:List Int),1<=e/\e<=k-I qY/\(b=0\/b=1)/\(qY=[]\/List.getLast? qY≠K b)/\aQ l (n+I L) (bc e)/\aQ l (n+I L+I (bc e)) [bS b]/\
  c=(qY++dh e b)++m/\m.head? ≠K b:=by
 obtain⟨m,rfl,o⟩:=i.mj c hL j g;rw[cN] at hL;cases m with
 |nil=>simp at hL;omega
 |cons a f=>
  rw[i.ext _ o,dn] at g;have h:=g.2;rw[LN,dn,dn] at h;have p:a=0\/a=1:=j a aF;refine⟨iK a (a::f),a,(a::f).drop (iK a (a::f)),Gv a f,?_,p,?_,h.1,?_,?_,Yg⟩;have:=LI a (a::f);omega;rcases o with d|d|d;simp at d;exact aq d
  right;simpa [eq_comm] using d
  rw[<-xF p];exact h.2.1;rw[iD,<-Yj]
def oK.more(a:oK l n k qY L)(f:i≠0)(N:i<=k-I qY)(y:i<18446744073709551616)(e:M=0\/M=1)(J:qY=[]\/List.getLast? qY≠K M)
 (g:aQ l (n+I L) (bc i)) (c:aQ l (n+I L+I (bc i)) [bS M]) (F:k<=100) (v:I qY<k):oK l n k (qY++dh i M) (L++(bc i++[bS M])):=by
 have u:List.getLast? (qY++dh i M)=K M:=by
  rw[List.getLast?_append,List.getLast?_replicate,if_neg f];rfl
 refine⟨bO,?_,?_,?_,?_⟩;intro C A;rcases eG.1 A with b|b;exact a.bits C b;rw[(List.mem_replicate.1 b).2];exact e;rw[dn,dn];exact⟨a.st,g,c⟩;intro m w;rw[u] at w;have x:m.head? ≠K M:=bh;rw[iD,a.ext _ bh,Yt f x,xF e];simp
 .intro h s t z;have⟨B,j,m,b,D,E,G,q,d,r,H⟩:=a.next v h s t z;have o:B=i:=jS aa y q g;subst o;have p:j=M:=by
   rw[mW] at d c;rw[d] at c;simp at c;omega
  subst p;exact⟨m,r,an (an bh)⟩
def oK.done(b:oK l n k qY L)(g:¬I qY<k):
 I qY=k/\eK qY=L/\(∀a:List Int,I a=k->iU a->aQ l n (eK a)->a=qY):=by
 have e:I qY=k:=cB b.le;refine⟨e,?_,?_⟩;have:=b.ext [] (aq Y);simpa [Ys] using this;intro a c d f;obtain⟨m,rfl,_⟩:=b.mj a c d f;rw[cN] at c;have:m=[]:=xm.1 aa;rw[this];simp
def uT(s:ByteArray)(a:Nat)(b:a<bf s):(bytesOf s)[a]? =K s[a].toNat:=by
 rw[dH (by rw[cJ];exact b),BV s b]
def OI(a:Nat)(b:a<256):bits .and .u8 (a:Int) 127=((a%128:Nat):Int):=by
 have:=bits_mask .u8 8 ay wraps_u8 7 ay (a:Int) aa aa;rw[show(127:Int)=2^7-1 from ay,this];omega
def Hz(a:Int)(b:0<=a)(c:a<2^64):lV.wrap a=a:=by rw[wrap_u64];omega
def m9{s:ByteArray}:bytesOf (e9 s n m)=((bytesOf s).drop n).take (m-n):=by
 unfold bytesOf;rw[ByteArray.data_extract];simp only[Array.toList_extract,List.extract_eq_take_drop,List.map_take,List.map_drop]
def M1(b:Nat)(a:Nat)(s:ByteArray)(f:bf s<=aS)(l:a<=2147483648)(p:¬n+a<=bf s)(q:n<=bf s)(d:w.heap[b]? =K (bR s n)):
 bn 128 #[(aZ b),n9 a] w λc e=>c=gO (g3 n)/\∃g,e=cT w g:=by
 have⟨h,i,j,k⟩:=yh d;unfold aS at f
 skip
 have o:decide ((a:Int)<0)=ai:=aF;have m:decide ((bf s:Int)-(n:Int)<(a:Int))=af:=bO;go_enter aE.func128,Tryz.ntmps128;go_wp2_with fail;go_quiet (fail);go_wp2_with (go_at_call 97;refine bL (lN b n s _ (by exact d)) ?_;rintro c e ⟨rfl,rfl⟩);exact⟨rfl,rfl,nq,rfl⟩
def M2(b:Nat)(a:Nat)(s:ByteArray)(c:ag)(f:bf s<=aS)(q:n+a<=bf s)(e:c.heap[b]? =K (bR s n)):
 bn 128 #[(aZ b),n9 a] c λd h=>d=aR (au (e9 s n (n+a)))/\∃g,h=cT (bg c ⟨b,1,Z⟩ (z9 ((n+a:Nat):Int))) g:=by
 have⟨i,j,k,l⟩:=yh e;unfold aS at f;have p:decide ((a:Int)<0)=ai:=aF;have o:decide ((bf s:Int)-(n:Int)<(a:Int))=ai:=bO;have r:(n:Int)+(a:Int)<=(bf s:Int):=aa;have t:(n:Int)<=(n:Int)+(a:Int):=aa;go_enter aE.func128,Tryz.ntmps128;go_wp2_with fail;go_quiet (fail);generalize nq=m at*;go_wp2_with fail;go_quiet (fail);go_wp2;go_ret;exact⟨rfl,m+nq,IV⟩
def Eb(c a:Nat)(s:ByteArray)(m:bf s<=aS)(n:a<=bf s)(p:w.heap[c]? =K (bR s a)):
 bn 152 #[(aZ c)] w λd f=>Kp c w f/\((∃b:Int,d=aR (z9 b)/\(b=0\/b=1)/\aQ (bytesOf s) a [b.toNat]/\f.heap[c]? =K (bR s (a+1))/\a+1<=bf s)\/
  (∃v,d=gO (g3 v)/\∀b:Int,(b=0\/b=1)->¬aQ (bytesOf s) a [b.toNat])):=by
 have g:=ap p;by_cases j:a<bf s
 .have o:=uT s a j;have l:X (∀w,w.heap[c]? =K (bR s a)->bn 129 #[(aZ c)] w λd f=>d=aR (bt .u8 (s[a].toNat:Int))/\∃e,f=(bg w ⟨c,1,Z⟩ (z9 ((a+1:Nat):Int))).drewN e):=
   λw u=>BU c a s w m j u
  have y:s[a].toNat<256:=s[a].toNat_lt;have k:=ap o;generalize s[a].toNat=h at*;by_cases x:h<=1
  .have r:decide ((1:Int)<(h:Int))=ai:=by simp;omega
   go_enter aE.func152,Tryz.ntmps152;go_wp2_with (go_at_call 129;refine bL (l.o _ g.o) ?_;rintro d f ⟨rfl,e,rfl⟩);go_ret;refine⟨(Kp.refl _ _).set _ _ e,aq ⟨(h:Int),by first|rfl|(congr 2;omega),aa,?_,vn g.o e,aa⟩⟩;rw[mW,k.o];simp
  .have r:decide ((1:Int)<(h:Int))=af:=by simp;omega
   have i:X (∀b:Int,(b=0\/b=1)->¬aQ (bytesOf s) a [b.toNat]):=by
    intro b q;rw[mW,k.o];simp;omega
   go_enter aE.func152,Tryz.ntmps152;go_wp2_with first|(go_at_call 129;refine bL (l.o _ g.o) ?_;rintro d f ⟨rfl,e,rfl⟩)|(go_at_call 97;refine bL (lN c (a+1) s _ (by exact vn g.o _)) ?_;rintro d f ⟨rfl,rfl⟩)
   exact⟨rfl,(Kp.refl _ _).set _ _ e,an ⟨_,rfl,i.o⟩⟩
 .have i:X (∀b:Int,(b=0\/b=1)->¬aQ (bytesOf s) a [b.toNat]):=by
   intro b q t;have:=oX t (by rw[cJ];exact n);rw[cJ] at this;simp at this;omega
  go_enter aE.func152,Tryz.ntmps152;go_wp2_with (go_at_call 129;refine bL (BT c a s m j n g.o) ?_;rintro d f ⟨rfl,e,rfl⟩);exact⟨rfl,(Kp.refl _ _).drewN e,an ⟨_,rfl,i.o⟩⟩
def FN:(128:Nat)^n=2^(7*n):=by rw[Nat.pow_mul]
def Vq(d b a:Nat)(i:a<=9)(g:d<128^a)(m:b<128):∃e:Nat,bits .or .u64 (d:Int) (lV.wrap ((b:Int)*2^(7*a)))=(e:Int)/\e<18446744073709551616/\((a<=8\/b<=1)->e=d+128^a*b):=by
 have k:128^a<=128^9:=n7 (by omega) i;have h:(b:Int)*2^(7*a)=((2^(7*a)*b:Nat):Int):=by grind
 have l:lV.wrap ((b:Int)*2^(7*a))=((2^(7*a)*b%18446744073709551616:Nat):Int):=by rw[h,wrap_u64];omega
 rw[l];refine⟨_,((bits_nat .u64 64 (by decide) Hz d (2^(7*a)*b%18446744073709551616) (by omega) (by omega)).2),?_,?_⟩;exact Nat.or_lt_two_pow (n:=64) (by omega) (by omega);intro c;have j:2^(7*a)*b<18446744073709551616:=by
  rw[<-FN];rcases c with c|c;have f:128^a<=128^8:=n7 (by omega) c;have:=s8 f (show b<=127 by omega);omega;have:=s8 k c;omega
 rw[s7 j,Nat.or_comm,<-Nat.two_pow_add_eq_or_of_lt (by rw[<-FN];exact g) b,Nat.add_comm,FN]
def Nt(e b:Nat)(s:ByteArray)(C:bf s<=aS)(Y:b<=bf s)(G:w.heap[e]? =K (bR s b)):
 bn 130 #[(aZ e)] w λf g=>Kp e w g/\((∃v:Nat,f=aR (bt .u64 (v:Int))/\v<18446744073709551616/\aQ (bytesOf s) b (bc v)/\g.heap[e]? =K (bR s (b+I (bc v))))\/
  (∃S,f=gO (g3 S)/\∀v,v<18446744073709551616->¬aQ (bytesOf s) b (bc v))):=by
 skip
 go_enter aE.func130,Tryz.ntmps130;go_wp2_with fail
 go_loopw [3,4] (λd sh wr=>∃(a p i:Nat),a<=10/\sh=z9 ((7*a:Nat):Int)/\d=bt .u64 (i:Int)/\(a<=9->i=p)/\lI (bytesOf s) b a p/\b+a<=bf s/\wr.heap[e]? =K (bR s (b+a))/\Kp e w wr) (λ_ sh _=>71-(bw sh).toNat)
 exact⟨0,0,0,aa,rfl,rfl,λ_=>rfl,lI.zero _ _,aa,G,Kp.refl _ _⟩
 skip
 obtain⟨a,p,i,W,rfl,rfl,M,k,P,j,m⟩:=hrel
 skip
 by_cases B:a<=9
 .obtain rfl:=M B;by_cases n:b+a<bf s
  .have o:X (∀w,w.heap[e]? =K (bR s (b+a))->bn 129 #[(aZ e)] w λf g=>f=aR (bt .u8 (s[b+a].toNat:Int))/\∃d,g=(bg w ⟨e,1,Z⟩ (z9 ((b+a+1:Nat):Int))).drewN d):=
    λw R=>BU e (b+a) s w C n R
   have z:s[b+a].toNat<256:=s[b+a].toNat_lt;have t:=ap (uT s (b+a) n);generalize s[b+a].toNat=c at*;have V:bits .and .u8 (c:Int) 127=(c:Int)%128:=by rw[OI c z];omega
   obtain⟨x,q,U,y⟩:=Vq i (c%128) a B k.lt aa;rw[show((c%128:Nat):Int)=(c:Int)%128 from by omega] at q;have E:=ap y;clear y;by_cases N:128<=c
   .go_wp2_with (go_at_call 129;refine bL (o.o _ j) ?_;rintro f g ⟨rfl,d,rfl⟩);refine⟨⟨a+1,i+128^a*(c-128),x,aa,by go_num,by first|rfl|rw[q],?_,k.more aa t.o N z,aa,vn j d,m.set _ _ d⟩,by simp[bw];omega⟩;intro T;rw[E.o (aq (by omega)),show c%128=c-128 by omega]
   .have O:(c:Int)%128=(c:Int):=by omega
    rw[O] at q;have A:=λv h=>k.fin (v:=v) aa t.o aa h
    skip
    by_cases r:(c≠0\/a=0)/\(c<=1\/a<=8)
    .have u:X (i+128^a*c<18446744073709551616):=k.top aa aa;have D:X _:=k.Jf (c:=c) aa aa r.1;have F:X (x=i+128^a*c):=bh;go_wp2_with (go_at_call 129;refine bL (o.o _ j) ?_;rintro f g ⟨rfl,d,rfl⟩)
     all_goals
      go_ret;exact⟨m.set _ _ d,aq ⟨i+128^a*c,by rw[<-F.o];rfl,u.o,(A _ u.o).2 ⟨rfl,r.1⟩,by rw[D.o,<-gF];exact vn j d⟩⟩
    .have l:X (∀v,v<18446744073709551616->¬aQ (bytesOf s) b (bc v)):=by
      intro v h Q;have⟨H,J⟩:=(A v h).1 Q;by_cases L:c<=1\/a<=8;exact r ⟨J,L⟩;obtain rfl:a=9:=aa;rw[H] at h;exact lI.over (B:=bytesOf s) (p:=b) aa h
     go_wp2_with first|(go_at_call 129;refine bL (o.o _ j) ?_;rintro f g ⟨rfl,d,rfl⟩)|(go_at_call 97;refine bL (lN e (b+a+1) s _ (by exact vn j _)) ?_;rintro f g ⟨rfl,rfl⟩)
     all_goals exact⟨rfl,m.set _ _ d,an ⟨_,rfl,l.o⟩⟩
  .have l:X (∀v,v<18446744073709551616->¬aQ (bytesOf s) b (bc v)):=λv h=>k.none aa (by rw[cJ];exact n) v h;go_wp2_with (go_at_call 129;refine bL (BT e (b+a) s C n P j) ?_;rintro f g ⟨rfl,d,rfl⟩);exact⟨rfl,m.drewN d,an ⟨_,rfl,l.o⟩⟩
 obtain rfl:a=10:=aa;have l:X (∀v,v<18446744073709551616->¬aQ (bytesOf s) b (bc v)):=λv h=>k.G5 v h;go_wp2_with (go_at_call 97;refine bL (lN e (b+10) s _ j) ?_;rintro f g ⟨rfl,rfl⟩);exact⟨rfl,m,an ⟨_,rfl,l.o⟩⟩
def wv(b a:Nat)(s:ByteArray)(u:bf s<=aS)(m:a<=bf s)(q:w.heap[b]? =K (bR s a)):
 bn 95 #[(aZ b)] w λd h=>Kp b w h/\((∃v:Nat,d=aR (n9 v)/\v<2147483648/\aQ (bytesOf s) a (bc v)/\a+I (bc v)<=bf s/\h.heap[b]? =K (bR s (a+I (bc v))))\/
  (∃g,d=gO (g3 g)/\∀v,v<2147483648->¬aQ (bytesOf s) a (bc v))):=by
 skip
 go_enter aE.func95,Tryz.ntmps95;go_wp2_with fail;refine bL (Nt b a s u m q) ?_;rintro d A ⟨k,⟨v,rfl,n,e,l⟩|⟨g,rfl,x⟩⟩;have i:=ap k;have j:=ap e;have o:X (a+I (bc v)<=bf s):=by have:=oX e (by rw[cJ];exact m);rwa [cJ] at this
 have p:=ap n;by_cases t:v<2147483648
 .skip
  have r:decide ((2147483648:Int)<=(v:Int))=ai:=bh;have z:dr (v:Int)=(v:Int):=by unfold dr;omega
  skip
  go_wp2;go_ret;exact⟨i.o,aq ⟨v,by first|rfl|go_num,t,j.o,o.o,l⟩⟩
 have f:X (∀c,c<2147483648->¬aQ (bytesOf s) a (bc c)):=by
  intro c y e;have:=jS aa p.o e j.o;omega
 have r:decide ((2147483648:Int)<=(v:Int))=af:=bh
 skip
 go_wp2_with (go_at_call 97;refine bL (lN b (a+I (bc v)) s _ l) ?_;rintro d h ⟨rfl,rfl⟩);exact⟨rfl,i.o,an ⟨_,rfl,f.o⟩⟩
 skip
 have f:X (∀c,c<2147483648->¬aQ (bytesOf s) a (bc c)):=λv n=>x v aa;go_wp2;exact⟨rfl,k,an ⟨g,rfl,f.o⟩⟩
structure jN{α:Type}(E:List α->List Nat)(ok:α->Prop)(B:List Nat)(p cn:Nat)(l:List α):Prop where
 le:I l<=cn
 x7:∀x∈l,ok x
 st:aQ B p (E l)
 mj:∀L:List α,I L=cn->(∀x∈L,ok x)->aQ B p (E L)->∃m,L=l++m
def GM{d:Type}{c:List d->List Nat}{f:List d->d->List Nat}(h:∀a b,c (a++[b])=c a++f a b)(a m:List d):∃e,c (a++m)=c a++e:=by
 induction m generalizing a with
 |nil=>exact⟨[],by simp⟩
 |cons b g j=>
  obtain⟨e,i⟩:=j (a++[b]);refine⟨f a b++e,?_⟩;rw[show a++b::g=a++[b]++g by simp,i,h,iD]
def jN.zero{b:Type}{a:List b->List Nat}{f:b->Prop}(d:a []=[]):jN a f l n m []:=
 ⟨cE _,λg e=>by simp at e,b5 d BA,λc _ _ _=>⟨c,rfl⟩⟩
def jN.next{c:Type}{d:List c->List Nat}{i:c->Prop}{e:List c->c->List Nat}{b:List c}(p:jN d i l n k b)(j:∀b a,d (b++[a])=d b++e b a)(r:I b<k)
 (f:List c) (hL:I f=k) (o:∀a∈f,i a) (h:aQ l n (d f)):∃a m,f=(b++[a])++m/\i a/\aQ l (n+I (d b)) (e b a):=by
 obtain⟨m,rfl⟩:=p.mj f hL o h;cases m with
 |nil=>simp at hL;omega
 |cons a g=>
  obtain⟨s,q⟩:=GM j (b++[a]) g;refine⟨a,g,by simp,o a (by simp),?_⟩;rw[show b++a::g=b++[a]++g by simp,q,j,iD,dn,dn] at h;exact h.2.1
def jN.more{g:Type}{f:List g->List Nat}{h:g->Prop}{e:List g->g->List Nat}{a:List g}(i:jN f h l n k a)(j:∀a c,f (a++[c])=f a++e a c)(s:I a<k)
 {c:g} (hx:h c) (u:aQ l (n+I (f a)) (e a c)) (w:∀d,h d->aQ l (n+I (f a)) (e a d)->d=c):jN f h l n k (a++[c]):=by
 refine⟨bO,?_,by rw[j,dn];exact⟨i.st,u⟩,?_⟩;intro d x;rcases eG.1 x with b|b;exact i.x7 d b;simp at b;rw[b];exact hx
 .intro o r t v;have⟨d,m,b,p,q⟩:=i.next j s o r t v;rw[w d p q] at b;exact⟨m,b⟩
def jN.fail{b:Type}{c:List b->List Nat}{h:b->Prop}{e:List b->b->List Nat}{a:List b}(i:jN c h l n k a)(p:∀a f,c (a++[f])=c a++e a f)(q:I a<k)
 (t:∀g,h g->¬aQ l (n+I (c a)) (e a g)) (d:List b) (hL:I d=k) (r:∀f∈d,h f):¬aQ l n (c d):=by
 intro s;have⟨g,m,u,j,o⟩:=i.next p q d hL r s;exact t g j o
def jN.done{c:Type}{d:List c->List Nat}{g:c->Prop}{b:List c}(e:jN d g l n k b)(p:¬I b<k):
 I b=k/\(∀a:List c,I a=k->(∀o∈a,g o)->aQ l n (d a)->a=b):=by
 have i:I b=k:=cB e.le;refine⟨i,?_⟩;intro a f h j;obtain⟨m,rfl⟩:=e.mj a f h j;rw[cN] at f;have:m=[]:=xm.1 aa;rw[this];simp
def uz (m:Nat):Int:=if m%2=1 then -((m/2:Nat):Int)-1 else((m/2:Nat):Int)
def abJ:zz (uz m)=m:=by
 unfold zz uz
 split<;>split<;>omega
def Am(a:Int):uz (zz a)=a:=by
 unfold zz uz
 split<;>split<;>omega
def Ns(m:Nat)(a:m<18446744073709551616): -9223372036854775808<=uz m/\uz m<=9223372036854775807:=by
 unfold uz
 split<;>omega
structure VK(k:Int)(v:az):Prop where
 there:v.null=ai
 lo: -9223372036854775808<=v.n
 hi:v.n<=9223372036854775807
 s1:k=1->v.s=⟨#[]⟩
 s2:k=2->(v.n=0\/v.n=1)/\v.s=⟨#[]⟩
 s3:k=3->v.n=0/\bf v.s<=32
def Fe{s:ByteArray}(a:jI s=[]):s=⟨#[]⟩:=by
 rw[uF s] at a;apply Au;apply Array.ext';simpa using a
def AX{v:az}(b:M=1\/M=2\/M=3)(a:VK M v):gT v M=af:=by
 unfold gT;rw[a.there];rcases b with rfl|rfl|rfl;simp[a.s1 Y,uF];have:=a.s2 Y;simp[this.2,this.1,uF];have:=a.s3 Y;simp[this.1];omega
def Ho{v:az}(d:M=1\/M=2\/M=3)(c:v.null=ai)(b:BL v)(a:gT v M=af):VK M v:=by
 unfold gT at a;rw[c] at a;refine⟨c,b.lo,b.hi,?_,?_,?_⟩;rintro rfl;simp at a;exact Fe a;rintro rfl;simp at a;exact⟨a.1,Fe a.2⟩;rintro rfl;simp at a;exact⟨a.1,aa⟩
def VK.ok{v:az}(b:M=1\/M=2\/M=3)(a:VK M v):jb v:=by
 refine⟨a.lo,a.hi,?_⟩;rcases b with rfl|rfl|rfl;rw[a.s1 Y];decide;rw[(a.s2 Y).2];decide;exact(a.s3 Y).2
def wE(j:M=1\/M=2\/M=3){c d:az}(hx:VK M c)(hy:VK M d)(b:aQ l n (cZ M c))(a:aQ l n (cZ M d)):c=d:=by
 have f:c.n=d.n->c.s=d.s->c=d:=by
  intro g h;have i:=aB hx.there (bA hy.there);cases c;cases d;simp at g h i;simp[g,h,i]
 rcases j with rfl|rfl|rfl;have e:∀v,cZ 1 v=bc (zz v.n):=λv=>rfl;rw[e] at b a;have:=jS (vA hx.lo hx.hi) (vA hy.lo hy.hi) b a;refine f ?_ (by rw[hx.s1 Y,hy.s1 Y]);rw[<-Am c.n,this,Am];have e:∀v,cZ 2 v=[byteOf v.n]:=λv=>rfl;rw[e,mW] at b a;rw[b] at a;simp at a;refine f ?_ (by rw[(hx.s2 Y).2,(hy.s2 Y).2]);rw[xF (hx.s2 Y).1,xF (hy.s2 Y).1] at a;have:=(hx.s2 Y).1;have:=(hy.s2 Y).1;omega;have e:∀v,cZ 3 v=bc (bf v.s)++bytesOf v.s:=λv=>rfl;rw[e,dn] at b a;have k:=(hx.s3 Y).2;have m:=(hy.s3 Y).2;have:=jS aa aa b.1 a.1;rw[this] at b;exact f (by rw[(hx.s3 Y).1,(hy.s3 Y).1]) (xG (ux b.2 a.2 (by rw[cJ,cJ,this])))
def um(a:Int)(b:List az)(c:az):dJ a (b++[c])=dJ a b++cZ a c:=by
 unfold dJ;rw[oI,pF]
def Hy(a:Int)(c: -9223372036854775808<=M)(d:M<=9223372036854775807)(b:dr (M-a)=qA):dr (a+qA)=M:=by
 unfold dr at*;omega
def aa3(a: -9223372036854775808<=qA)(b:qA<=9223372036854775807):dr (dr (M+qA)-M)=qA:=by
 unfold dr;omega
def IU{a b:az}(hx:VK 1 a)(hy:VK 1 b)(k:aQ l n (bc (zz (dr (a.n-M)))))(m:aQ l n (bc (zz (dr (b.n-M))))):a=b:=by
 have f:=uB (a.n-M);have g:=uB (b.n-M);have i:=jS (vA f.1 f.2) (vA g.1 g.2) k m;have j:dr (a.n-M)=dr (b.n-M):=by rw[<-Am (dr (a.n-M)),i,Am]
 have c:=Hy M hx.lo hx.hi Y;have h:=Hy M hy.lo hy.hi Y;rw[j,h] at c;have d:=aB hx.there (bA hy.there);have e:=aB (hx.s1 Y) (bA (hy.s1 Y));cases a;cases b;simp at c d e;simp[c,d,e]
end Ec
end Go.Proofs.YtjidbonhhpkljaaGreat
