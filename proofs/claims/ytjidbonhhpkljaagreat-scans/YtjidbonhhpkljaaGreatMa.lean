/- What the proof stands on, in short names. -/
import Derived.Below
import Derived.KernelRfl
import Derived.Conc.Beside
import Derived.Laws.Sem
import Derived.StepT
import GoSem.Dispatch
import Derived.Conc.Listed
import Derived.Conc.LoneCalls
import Derived.Conc.Know
import Derived.Conc.CrowdComm
import Derived.Conc.WalkWords
set_option linter.all false
open Array renaming getD->ek,getElem?_eq_some_iff->dY,getElem?_modify->uC,push->gW,range->wZ,setIfInBounds->cF,size->U,toList->dD
open Bool renaming false->ai,false_eq_true->fA,true->af
open Classical renaming choose->mq
open Eq renaming symm->bA,trans->aB
open False renaming elim->fe
open Go renaming Addr->aN,BinOp->kM,Code->de,Deferred->jJ,Ending->gL,Event->cK,Frame->aP,Func->cO,FuncId->fH,GStep->ku,Goroutine->dQ,IntKind->iX,Item->dW,MapEntry->gX,MemOp->kN,Obj->cj,Operand->dU,PanicEntry->hJ,Program->aW,Result->kP,Sem->bX,TypeId->aK,Value->F,World->ag,behindNumber->pu,doReturn->l5,exitTo->mC,resolve->oD,results->dx,sizeOf->mD,stepG->bQ,tryRecover->rp,typeInfo->mE,undef->cI,underlying->rq,unwind->mF,zeroValue->kR
open Go.Act renaming eval->bz,put->bG
open Go.Addr renaming block->cH
open Go.Builtin renaming copy_->tO,firstCells->vE,holdsCells->yH,lenOf->vF,mayShare->Aw,unsafeAdd_->yI
open Go.CallKind renaming normal->eA
open Go.Code renaming block->ga,region->gu,seq->aU,skip->eO
open Go.Conc renaming G->aO,mem_ofEvents->yJ,served->nJ,solo->sX
open Go.ConcN renaming sumTo->tP
open Go.Deferred renaming ofValue->yK
open Go.Departure renaming mixedOrders->n4
open Go.Ending renaming panicked->gO,returned->aR
open Go.Exit renaming normal->e4,panic->iL
open Go.Extern renaming find->yL
open Go.Frame renaming enter->fC,finish->di,kind->eD,mode->iM,raise->jz,round->rf,roundOf->pe
open Go.FrameMode renaming panicking->kr,returning->jA
open Go.Func renaming results->r4
open Go.GStep renaming after->pg
open Go.GoStatus renaming running->lB
open Go.Goroutine renaming callers->sY,status->m5
open Go.Halt renaming unsupported->pi
open Go.Instr renaming buildSlice->yM,checkKey->xa,endRound->yN,fill->tQ,findKey->yO,makeSlice->yP,sameBits->xd,sureAddr->uG
open Go.IntKind renaming i64->bM
open Go.Item renaming code->b9,inBlock->fI,inLoop->gE,inRegion->bW
open Go.Loc renaming isMemory->uI
open Go.Machine.mk renaming injEq->abP
open Go.MemAct renaming ofEvent->sZ,touch?->mw
open Go.MemOp renaming ofEvents->xe
open Go.Next renaming value->eT
open Go.Obj renaming cells->ax,deferred->mz
open Go.Op.Complex renaming add->N0,arith->N1,cmp->N2,conv->N3,corrected->abR,mul->N4,product->N5,quo->abS,quotient->N6,sub->N7
open Go.Program renaming cellsOf->rj,eqGuardType->yQ,holdsPacked->yR,stoodInHeld->yS,underlying->gb
open Go.Region renaming schedule->yV,wanted->eF
open Go.Result renaming ok->b6
open Go.RuntimeError renaming error->abU
open Go.Sem renaming run->iY,runT->en
open Go.TypeInfo renaming bytes->ji,zero->jL
open Go.Unsupported renaming resourceLimit->N8,unsafePointer->HH
open Go.Value renaming agg->cw,bool->ak,chan->fp,int->bt,pointer->dG,slice->ah,string->au,tuple->cC
open Go.World renaming cell?->aA,drawn->cm,farLoad->xg,farStore->vL,freeze->lY,frozen?->cU,heap->gP,noCell->r6,output->fS,setCell->bg,setChan->lZ,tape->dV
open Go.stepG renaming apply->kx,exec->dN
open List renaming all->dM,all_eq_true->fD,length->I,toArray->cX
open MonadExceptOf renaming throw->HK
open Option renaming isNone->lF,isSome->lG,none->Z,some->K
open Or renaming elim->ff,inl->aq,inr->an
open WellFounded renaming fixF->abX
variable{R qP qQ qR:Go.Addr}{q7:Array Bool}{QR QS es:Array Go.Event}{QM:Array Go.Operand}{QE:Array Go.TypeId}{C args buf' qJ qK qL:Array Go.Value}{qV qW:Bool}{B s:ByteArray}{QJ:Go.Code}{QT:Go.Event}{Qf Qg:Go.Frame}{QI:Go.Func}{QG:Go.FuncId}{QV QW g':Go.Goroutine}{M qA:Int}{Qv Qw:Go.IntKind}{H q4:List (Nat×Go.Value)}{Qi Qj aY:List Go.Frame}{QN:List Go.Item}{rest:List Nat}{QU:List Go.PanicEntry}{S qM vi':List Go.Value}{a cap f i j k m n r' s' γ:Nat}{Qa q9:Nat→Prop}{Qk Ql:Go.Obj}{Qr:Go.Oper}{Qp Qq:Go.Operand}{O QC:Option Go.Addr}{QK pos:String}{Qc:Go.TypeId}{T v x y z:Go.Value}{E W u w w' w1':Go.World}
set_option maxRecDepth 100000
set_option maxHeartbeats 8000000
namespace Go.Proofs.YtjidbonhhpkljaaGreat
def X (a:Prop):Prop:=a
def X.o{a:Prop}(b:X a):a:=b
def ap{a:Prop}(b:a):X a:=b
def Y{b:Sort _}{a:b}:a=a:=rfl
abbrev aH:Go.Value:=.slice none 0 0
abbrev n9(a:Nat):Go.Value:=.int .i64 (a:Int)
abbrev z9(a:Int):Go.Value:=.int .i64 a
abbrev aI(b c a:Nat):Go.Value:=.slice (some ⟨b,0,none⟩) c a
abbrev bD(d:Go.World)(b:Nat)(a:Array Go.Value)(c:Go.TypeId):Prop:=d.heap[b]? =some (.cells a c (0,0))
abbrev aJ(c:Go.World)(a b:Nat)(v:Go.Value):Prop:=c.cell? ⟨a,b,none⟩=some v
abbrev aZ(a:Nat):Go.Value:=.pointer (some ⟨a,0,none⟩)
abbrev aD(a b:Go.World):Prop:=Go.RowKit.Below a.heap.size a b
def aa{a:Prop}(b:a:=by omega):a:=b
def ay{a:Prop}(b:a:=by decide):a:=b
def aF{a:Prop}(b:a:=by simp):a:=b
def bO{a:Prop}(b:a:=by simp;omega):a:=b
def gy{a:Prop}(b:a:=by unfold Go.maxLen;omega):a:=b
def cB{c b:Prop}(d:c)(a:c->b:=by intro a;omega):b:=a d
def cM{c b:Prop}(d:c)(a:c->b:=by intro a;simpa using a):b:=a d
def b5{h:Sort _}{c d:h}{f e:Prop}(a:c=d)(b:f)(g:c=d->f->e:=by intro a b;rw[a];exact b):e:=g a b
def jG{f:Sort _}{b c:f}{d:Prop}(a:b=c)(e:b=c->d:=by intro a;rw[a];omega):d:=e a
def rr9{f:Sort _}{b c:f}{d:Prop}(a:b=c)(e:b=c->d:=by intro a;rw[a]):d:=e a
def gJ{f:Sort _}{b c:f}{d:Prop}(a:b=c)(e:b=c->d:=by intro a;rw[a];rfl):d:=e a
def cV{c b:Prop}(d:c)(a:c->b:=by intro a;cases a):b:=a d
def bh{a:Prop}(b:a:=by grind):a:=b
def k8{a:Prop}(b:a:=by simp_all):a:=b
def bl{a:Prop}(b:a:=by kernel_rfl):a:=b
def vB:=@Array.ext_getElem?
def jT:=@Array.getD_eq_getD_getElem?
def m3:=@Array.getElem?_eq_getElem
def o5:=@Array.getElem?_eq_none
def p6:=@Array.getElem?_push
def nG:=@Array.getElem?_setIfInBounds
def wY:=@Array.getElem?_setIfInBounds_ne
def ez:=@Bool.and_eq_true
def rX:=@Bool.eq_iff_iff
def tL:=@Bool.or_eq_true
def Au:=@ByteArray.ext
def tM:=@ByteArray.size_extract
def w7:=@Classical.byContradiction
def fj:=@Classical.choose_spec
def lU:=@Go.Addr.add_lit
def r3:=@Go.Addr.mk.injEq
def fR:=@Go.Code.wp_mono
def HE:=@Go.Ending.returned.inj
def w9:=@Go.Frame.finish_at
def HG:=@Go.Goroutine.mk.injEq
def kw:=@Go.IntKind.wrap_i64
def Ax:=@Go.Item.inRegion.injEq
def abT:=@Go.Result.halt.injEq
def e6:=@Go.RowKit.Below.heap_alloc
def bU:=@Go.RowKit.Below.refl
def abV:=@Go.Stepped.next.injEq
def N9:=@Go.Value.slice.inj
def lX:=@Go.Value.slice.injEq
def dz:=@Go.World.grownBy.block
def DQ:=@Go.World.grownBy.cell
def yW:=@Go.World.grownBy.size
def uK:=@Go.World.grownBy_alloc
def kQ:=@Go.heap_alloc_new
def ef:=@Go.heap_setCell_other
def eE:=@Go.heap_setCell_same
def gQ:=@Go.wp_seq
def uM:=@Int.eq_ofNat_of_zero_le
def xk:=@List.any_eq_true
def iD:=@List.append_assoc
def oH:=@List.append_nil
def vN:=@List.cons.injEq
def r9:=@List.cons_append
def pE:=@List.drop_eq_getElem_cons
def yY:=@List.drop_of_length_le
def s5:=@List.drop_zero
def tU:=@List.eq_nil_of_length_eq_zero
def oI:=@List.flatMap_append
def lD:=@List.flatMap_cons
def pF:=@List.flatMap_singleton
def ep:=@List.getD_eq_getElem?_getD
def ru:=@List.getElem?_append_left
def pG:=@List.getElem?_append_right
def dH:=@List.getElem?_eq_getElem
def xl:=@List.getElem?_eq_none
def fq:=@List.getElem?_eq_some_iff
def sb:=@List.getElem?_map
def ry:=@List.getElem?_take
def mH:=@List.getElem_cons_succ
def n5:=@List.getElem_cons_zero
def pH:=@List.getElem_map
def c8:=@List.getElem_mem
def m6:=@List.getElem_of_mem
def rz:=@List.getElem_take
def rA:=@List.getElem_toArray
def cN:=@List.length_append
def pI:=@List.length_cons
def uN:=@List.length_drop
def xm:=@List.length_eq_zero_iff
def ee:=@List.length_map
def rB:=@List.length_singleton
def m7:=@List.length_take
def gY:=@List.map_append
def y4:=@List.map_congr_left
def tV:=@List.map_cons
def sg:=@List.map_singleton
def eG:=@List.mem_append
def fT:=@List.mem_cons
def kA:=@List.mem_map
def nO:=@List.mem_of_getElem?
def xo:=@List.mem_of_mem_take
def n6:=@List.mem_range
def tW:=@List.nil_append
def jm:=@List.not_mem_nil
def y6:=@List.replicate_succ'
def cz:=@List.setIfInBounds_toArray
def y7:=@List.set_append_right
def cr:=@List.set_cons_succ
def ct:=@List.set_cons_zero
def vO:=@List.take_append_drop
def iZ:=@List.take_length
def ja:=@List.take_of_length_le
def gh:=@List.take_succ_eq_append_getElem
def gF:=@Nat.add_assoc
def s6:=@Nat.add_zero
def vP:=@Nat.eq_zero_or_pos
def uO:=@Nat.le_of_lt
def aV:=@Nat.le_refl
def dj:=@Nat.le_trans
def cL:=@Nat.lt_of_lt_of_le
def ij:=@Nat.lt_or_ge
def xp:=@Nat.min_eq_left
def s7:=@Nat.mod_eq_of_lt
def uP:=@Nat.mul_comm
def s8:=@Nat.mul_le_mul
def uQ:=@Nat.mul_one
def oJ:=@Nat.pow_add
def n7:=@Nat.pow_le_pow_right
def rC:=@Nat.pow_succ
def e7:=@Nat.zero_add
def cE:=@Nat.zero_le
def lE:=@Option.bind_eq_some_iff
def zb:=@Option.bind_some
def s9:=@Option.getD_some
def xu:=@Option.isNone_iff_eq_none
def vS:=@Option.map_eq_some_iff
def pJ:=@Option.map_some
def Az:=@Option.some.inj
def kU:=@Option.some.injEq
def zk:=@Std.Legacy.Range.forIn_eq_forIn_range'
def abY:=@WellFounded.fixF_eq
end Go.Proofs.YtjidbonhhpkljaaGreat
namespace Go.Proofs.YtjidbonhhpkljaaGreat.Cc
open Go
abbrev Tp:=Nat->Question->Nat
def sh (b:Tp)(a:Nat)(w:ag):ag:={w with tape:=b,drawn:=a}
def rW {α:Type}:kP α->ag
 |b6 _ w=>w
 | .halt _ w=>w
def Al (f:Tp)(c:Nat)(g:Tp)(d:Nat)(e:Nat):Prop:=∀a b,a<e->g (d+a) b=f (c+a) b
def Al.sub{a b:Tp}(c:Al a n b k i)(g:m<=i):Al a n b k m:=λd e f=>c d e aa
def Al.refl(b:Tp)(a c:Nat):Al b a b a c:=λ_ _ _=>rfl
def sM:Halt->Bool
 | .panic _=>af
 | .stuck _=>af
 |pi (.initOrder _)=>ai
 |pi _=>af
 |_=>ai
def pz:cj:=.coro Z
def jk:cj->Bool
 | .loop _|mz _| .pending _ _| .coro _=>af
 |_=>ai
def Gx {α:Type}(a:cj->bX α):Prop:=(∃s,a pz= .halt (.stuck s))\/((∀d,a (.loop d)=a pz)/\(∀c,a (mz c)=a pz)/\(∀b e,a (.pending b e)=a pz)/\∀f,a (.coro f)=a pz)
def Gx.bind{α d:Type}{b:cj->bX α}(a:Gx b)(f:α->bX d):Gx λc=>(b c).bind f:=by
 rcases a with⟨s,a⟩|⟨h,i,j,k⟩;exact aq ⟨s,by dsimp only;rw[a];rfl⟩;exact an ⟨λl=>bh,λg=>bh,λe m=>bh,λn=>bh⟩
def Gx.TL{α:Type}{a:cj->bX α}(b:Gx a)(hx:jk Qk=af):(∃s,a pz= .halt (.stuck s))\/a Qk=a pz:=by
 rcases b with b|⟨c,d,e,f⟩;exact aq b;cases Qk<;>first|(simp[jk] at hx;done)|exact an (c _)|exact an (d _)|exact an (e _ _)|exact an (f _)
section
variable (P P':aW)(O:cj->Prop)
def Still{α:Type}(Q:α->Prop):bX α->Prop
 | .pure d=>Q d
 | .load _ _ a=>∀v,Still Q (a v)
 | .store _ _ _ a=>Still Q a
 | .new b a=>O b/\∀c,Still Q (a c)
 | .shape _ a=>∀s,Still Q (a s)
 | .freeze _ _ a=>Still Q a
 | .frozen _ a=>∀e,Still Q (a e)
 | .getObj _ a=>(∀b,O b->Still Q (a b))/\Gx a
 | .setObj _ b a=>O b/\Still Q a
 | .choose _ a=>∀i,Still Q (a i)
 | .sys g a=>g= .env/\∀c,Still Q (a c)
 | .program a=>a P=a P'/\Still Q (a P)
 | .mark m a=>(Conc.Neutral m\/∃f,m= .extern f)/\Still Q a
 | .halt h=>sM h=af
def Still.bind{α k:Type}{Q:α->Prop}{i:k->Prop}{f:α->bX k}(l:∀d,Q d->Still P P' O i (f d)):∀{s:bX α},Still P P' O Q s->Still P P' O i (s.bind f):=by
 intro s
 induction s with
 |pure d=>intro a;exact l d a
 |load m d c b=>intro a v;exact b v (a v)
 |store m d v c b=>intro a;exact b a
 |new g c b=>intro a;exact⟨a.1,λe=>b e (a.2 e)⟩
 |shape e c b=>intro a s;exact b s (a s)
 |freeze d h c b=>intro a;exact b a
 |frozen d c b=>intro a j;exact b j (a j)
 |getObj e c b=>intro a;exact⟨λg n=>b g (a.1 g n),a.2.bind f⟩
 |setObj e g c b=>intro a;exact⟨a.1,b a.2⟩
 |choose p c b=>intro a h;exact b h (a h)
 |sys o c b=>intro a;exact⟨a.1,λe=>b e (a.2 e)⟩
 |program c b=>intro a;exact⟨congrArg (·.bind f) a.1,b P a.2⟩
 |mark m c b=>intro a;exact⟨a.1,b a.2⟩
 |halt a=>intro a;exact a
def Still.mono{α:Type}{Q h:α->Prop}(k:∀d,Q d->h d):∀{s:bX α},Still P P' O Q s->Still P P' O h s:=by
 intro s
 induction s with
 |pure d=>intro a;exact k d a
 |load m d c b=>intro a v;exact b v (a v)
 |store m d v c b=>intro a;exact b a
 |new f c b=>intro a;exact⟨a.1,λe=>b e (a.2 e)⟩
 |shape e c b=>intro a s;exact b s (a s)
 |freeze d g c b=>intro a;exact b a
 |frozen d c b=>intro a i;exact b i (a i)
 |getObj e c b=>intro a;exact⟨λf j=>b f (a.1 f j),a.2⟩
 |setObj e f c b=>intro a;exact⟨a.1,b a.2⟩
 |choose n c b=>intro a g;exact b g (a g)
 |sys l c b=>intro a;exact⟨a.1,λe=>b e (a.2 e)⟩
 |program c b=>intro a;exact⟨a.1,b P a.2⟩
 |mark m c b=>intro a;exact⟨a.1,b a.2⟩
 |halt a=>intro a;exact a
end
def Hp (O:cj->Prop)(w:ag):Prop:=∀(b:Nat) (a:cj),w.heap[b]? =K a->O a\/a=pz
structure Plain(O:cj->Prop):Prop where
 cells:∀c t f,O (ax c t f)
 pending:∀c t,¬O (.pending c t)
 Fh:¬O pz
 loop:∃r,O (.loop r)
structure Un(w u:ag):Prop where
 size:U u.heap=U w.heap
 at_:∀(b:Nat) (o:cj),w.heap[b]? =K o->u.heap[b]? =K o\/(o=pz/\∃x,u.heap[b]? =K x/\jk x=af)
 os:u.os=w.os
 output:fS u=fS w
structure iE(w u w' u':ag):Prop where
 un:Un w' u'
 keep:∀b:Nat,w'.heap[b]? =K pz->w.heap[b]? =K pz/\u'.heap[b]? =u.heap[b]?
def Un.refl(w:ag):Un w w:=⟨rfl,λb c a=>aq a,rfl,rfl⟩
def Un.two{w a:ag}(b:Un w a):iE w a w a:=⟨b,λd c=>⟨c,rfl⟩⟩
def iE.trans{w c J u1 d u2:ag}(i:iE w c J u1)(b:iE J u1 d u2):iE w c d u2:=⟨b.un,λa j=>by
 have⟨e,f⟩:=b.keep a j;have⟨g,h⟩:=i.keep a e;exact⟨g,aB f h⟩⟩
def Un.none{w b:ag}(c:Un w b)(a:w.heap[n]? =Z):b.heap[n]? =Z:=by
 rw[Array.getElem?_eq_none_iff] at a ⊢;rw[c.size];exact a
def Un.o{w b:ag}(a:Un w b)(c:w.heap[n]? =K Qk)(d:Qk≠pz):b.heap[n]? =K Qk:=ff (a.at_ n Qk c) id λa=>absurd a.1 d
def Un.row{w e:ag}(c:Un w e){f:Nat×Nat}:w.heap[n]? =K (ax C Qc f)↔e.heap[n]? =K (ax C Qc f):=by
 constructor;exact λa=>c.o a (by simp[pz]);intro a;cases d:w.heap[n]? with
 |none=>rw[c.none d] at a;cases a
 |some h=>
  rcases c.at_ n h d with b|⟨_,i,b,g⟩;rw[b] at a;exact a;rw[b] at a;cases a;simp[jk] at g
def Un.cases{w d:ag}(e:Un w d)(a:Nat):d.heap[a]? =w.heap[a]? \/(w.heap[a]? =K pz/\∃b,d.heap[a]? =K b/\jk b=af):=by
 cases f:w.heap[a]? with
 |none=>exact aq (e.none f)
 |some h=>
  rcases e.at_ a h f with c|⟨rfl,b,c,g⟩;exact aq c;exact an ⟨rfl,b,c,g⟩
def Un.cell{w c:ag}(e:Un w c)(a:aN):aA c a=aA w a:=by
 unfold aA;rcases e.cases (cH a) with b|⟨b,g,d,f⟩;rw[b];rw[b,d];cases g<;>first|rfl|(simp[jk] at f;done)
def Un.shape{w c:ag}(e:Un w c)(b:Nat):c.shape? b=w.shape? b:=by
 unfold World.shape?;rcases e.cases b with a|⟨a,g,d,f⟩;rw[a];rw[a,d];cases g<;>first|rfl|(simp[jk] at f;done)
def Un.frozen{w c:ag}(e:Un w c)(a:aN):cU c a=cU w a:=by
 unfold cU;rcases e.cases (cH a) with b|⟨b,g,d,f⟩;rw[b];rw[b,d];cases g<;>first|rfl|(simp[jk] at f;done)
def Un.modify{w q:ag}(i:Un w q){f:cj->cj}(A:∀e g h,∃r y z,f (ax e g h)=ax r y z)(p:∀m,(∀e g h,m≠ax e g h)->f m=m):iE w q {w with heap:=w.heap.modify n f} {q with heap:=q.heap.modify n f}:=by
 have v:∀(i:Array cj) (d:Nat),(i.modify n f)[d]? =(i[d]?).map λm=>if n=d then f m else m:=λi d=>by
  rw[uC]
  split
  rename_i a;subst a;simp;rename_i a;simp[a]
 have x:∀c,jk c=af->∀e g h,c≠ax e g h:=λc l e g h a=>by rw[a] at l;simp[jk] at l
 refine⟨⟨by simp[i.size],λd m b=>?_,i.os,i.output⟩,λd b=>?_⟩;simp only[v] at b ⊢;cases k:w.heap[d]? with
 |none=>rw[k] at b;cases b
 |some j=>
  rw[k] at b;rcases i.at_ d j k with a|⟨rfl,c,a,l⟩;rw[a];exact aq b;have o:(if n=d then f pz else pz)=pz:=by split<;>first|rfl|exact p pz (λe g h=>by simp[pz])
  have t:(if n=d then f c else c)=c:=by split<;>first|rfl|exact p c (x c l)
  simp only[pJ,o,kU] at b;exact an ⟨bA b,c,bh,l⟩
 simp only[v] at b ⊢;cases k:w.heap[d]? with
 |none=>rw[k] at b;cases b
 |some j=>
  rw[k] at b;have B:j=pz:=by
   by_cases u:∃e g h,j=ax e g h;obtain⟨e,g,h,rfl⟩:=u;have⟨r,y,z,a⟩:=A e g h;simp only[pJ,a,kU] at b
   split at b<;>simp[pz] at b
   have o:(if n=d then f j else j)=j:=by split<;>first|rfl|exact p j (λe g h a=>u ⟨e,g,h,a⟩)
   simpa [o] using b
  subst B;refine⟨rfl,?_⟩;rcases i.at_ d pz k with a|⟨_,c,a,l⟩;rw[a];have o:(if n=d then f pz else pz)=pz:=by split<;>first|rfl|exact p pz (λe g h=>by simp[pz])
  simp[o];rw[a];have t:(if n=d then f c else c)=c:=by split<;>first|rfl|exact p c (x c l)
  simp[t]
def Un.push{w d:ag}(b:Un w d)(f:Qk≠pz):iE w d {w with heap:=gW w.heap Qk} {d with heap:=gW d.heap Qk}:=by
 refine⟨⟨by simp[b.size],λe g a=>?_,b.os,b.output⟩,λe a=>?_⟩;simp only[p6,b.size] at a ⊢
 split
 rename_i c;rw[if_pos c] at a;exact aq a;rename_i c;rw[if_neg c] at a;exact b.at_ e g a;simp only[p6,b.size] at a ⊢
 split at a
 cases a;exact absurd Y f;rename_i c;rw[if_neg c];exact⟨a,rfl⟩
def Un.set{w d:ag}(b:Un w d)(f:Nat)(g:Qk≠pz):iE w d {w with heap:=cF w.heap f Qk} {d with heap:=cF d.heap f Qk}:=by
 refine⟨⟨by simp[b.size],λe h a=>?_,b.os,b.output⟩,λe a=>?_⟩;simp only[nG,b.size] at a ⊢
 split
 rename_i c;rw[if_pos c] at a;exact aq a;rename_i c;rw[if_neg c] at a;exact b.at_ e h a;simp only[nG,b.size] at a ⊢
 split at a
 split at a
 cases a;exact absurd Y g;cases a;rename_i c;rw[if_neg c];exact⟨a,rfl⟩
structure Views(P P':aW):Prop where
 load:∀(w u:ag) at_ t a m,(∀c e f,w.heap[cH (at_:aN)]? =K (ax c e f)↔u.heap[cH at_]? =K (ax c e f))->u.viewLoad P' at_ t a m=w.viewLoad P at_ t a m
 touch:∀(w:ag) at_ t a m v l,w.viewLoad P at_ t a m= .ok (v,l)->∀x∈l,cH x<U w.heap
 store:∀(w u:ag) at_ t a v m,(∀c e f,w.heap[cH (at_:aN)]? =K (ax c e f)↔u.heap[cH at_]? =K (ax c e f))->(∃why,w.viewStore P at_ t a v m= .error why/\u.viewStore P' at_ t a v m= .error why)\/∃c e f l,w.viewStore P at_ t a v m= .ok ({w with heap:=cF w.heap (cH at_) (ax c e f)},l)/\u.viewStore P' at_ t a v m= .ok ({u with heap:=cF u.heap (cH at_) (ax c e f)},l)/\∀x∈l,cH x<U w.heap
def lu (a:Nat)(c:cK):Prop:=match c.loc with
 | .obj d=>d<a
 | .cell b=>cH b<a
 | .mark m=>Conc.Neutral m\/∃f,m= .extern f
 |_=>True
def lu.mono(a:n<=m)(b:lu n QT):lu m QT:=by
 unfold lu at*
 split<;>simp_all<;>omega
def uo {α:Type}(a:ag):kP α->kP α
 |b6 b _=>b6 b a
 | .halt c _=>.halt c a
structure mJ{α:Type}(P P':aW)(O:cj->Prop)(Q:α->Prop)(s:bX α)(w:ag)(es:Array cK):Prop where
 tape:dV (rW (s.runT P w es).1)=dV w
 drawn:cm w<=cm (rW (s.runT P w es).1)
 size:U w.heap<=(rW (s.runT P w es).1).heap.size
 os:(rW (s.runT P w es).1).os=w.os
 output:fS (rW (s.runT P w es).1)=fS w
 hp:Hp O (rW (s.runT P w es).1)
 ok:∀a w',(s.runT P w es).1=b6 a w'->Q a
 halt:∀h w',(s.runT P w es).1= .halt h w'->sM h=af
 evs:∀e∈(s.runT P w es).2,e∈es\/lu (rW (s.runT P w es).1).heap.size e
 shift:(∃y w',(s.runT P w es).1= .halt (.stuck y) w')\/∀ τ d u,Un w u->Al (dV w) (cm w) τ d (cm (rW (s.runT P w es).1)-cm w)->∃u',iE w u (rW (s.runT P w es).1) u'/\s.runT P' (sh τ d u) es=(uo (sh τ (d+(cm (rW (s.runT P w es).1)-cm w)) u') (s.runT P w es).1,(s.runT P w es).2)
section
variable {α:Type}{P P':aW}{O:cj->Prop}{Q:α->Prop}{w J:ag}{es oh:Array cK}{s H:bX α}
def mJ.cons(h:Nat)(a:mJ P P' O Q H J oh)(b:s.runT P w es=H.runT P J oh)(k:J.tape=w.tape)(m:J.drawn=w.drawn+h)(p:U w.heap<=U J.heap)(o:J.os=w.os)(r:J.output=w.output)
 (v:∀e∈oh,e∈es\/lu (U J.heap) e) (g:(∃A z,(s.runT P w es).1= .halt (.stuck A) z)\/∀d c i,Un w i->Al w.tape w.drawn d c h->∃u1,iE w i J u1/\s.runT P' (sh d c i) es=H.runT P' (sh d (c+h) u1) oh):mJ P P' O Q s w es:=by
 have B:=a.drawn;refine⟨by rw[b,a.tape,k],bh,b5 b (dj p a.size),by rw[b,a.os,o],by rw[b,a.output,r],b5 b a.hp,b5 b a.ok,b5 b a.halt,?_,?_⟩;rw[b];intro e n;rcases a.evs e n with f|f;exact(v e f).imp id (lu.mono a.size);exact an f;rcases g with g|g;exact aq g;rw[b];rcases a.shift with f|q;exact aq f;refine an λd c i u j=>?_;have⟨u1,l,D⟩:=g d c i u (j.sub aa);have⟨u2,t,E⟩:=q d (c+h) u1 l.un (by
  intro x y C;have:=j (h+x) y aa;rw[k,m,gF,gF];exact this)
 exact⟨u2,l.trans t,bh⟩
def mJ.ends{x:Halt}(a:s.runT P w es=(.halt x w,es))(hx:sM x=af)(k:Hp O w)(e:(∃f,x= .stuck f)\/∀d c b,Un w b->s.runT P' (sh d c b) es=(.halt x (sh d c b),es)):mJ P P' O Q s w es:=by
 refine⟨gJ a,b5 a (aV _),b5 a (aV _),gJ a,gJ a,b5 a k,?_,?_,?_,?_⟩;rw[a];intro m l h;cases h;rw[a];intro h l g;cases g;exact hx;rw[a];exact λg j=>aq j;rw[a];rcases e with⟨f,rfl⟩|e;exact aq ⟨f,w,rfl⟩;refine an λd c b i _=>⟨b,i.two,?_⟩;rw[e d c b i];simp[uo,rW]
end
def Hp.push{O:cj->Prop}{w:ag}(c:Hp O w)(d:O Qk):Hp O {w with heap:=gW w.heap Qk}:=by
 intro b e a;simp only[p6] at a
 split at a
 cases a;exact aq d;exact c b e a
def Hp.set{O:cj->Prop}{w:ag}(c:Hp O w)(e:Nat)(d:O Qk):Hp O {w with heap:=cF w.heap e Qk}:=by
 intro b f a;simp only[nG] at a
 split at a
 split at a
 cases a;exact aq d;cases a;exact c b f a
def Hp.modify{O:cj->Prop}(k:Plain O){w:ag}(i:Hp O w){f:cj->cj}(l:∀d,f d=d\/∃b e g,f d=ax b e g):Hp O {w with heap:=w.heap.modify n f}:=by
 intro h o a;simp only[uC] at a
 split at a
 obtain⟨j,m,rfl⟩:=vS.1 a;rcases l j with c|⟨b,e,g,c⟩;rw[c];exact i h j m;rw[c];exact aq (k.cells b e g);exact i h o a
def Hp.sh{O:cj->Prop}{w:ag}(b:Hp O w)(c:Tp)(a:Nat):Hp O (sh c a w):=b
def J6{O:cj->Prop}(e:Plain O){w:ag}(a:Hp O w)(f:∀g c,w.heap[cH R]? ≠K (.view g c))(s:String):w.noCell R s= .stuck s:=by
 unfold r6
 split
 rename_i d c b;exact ff (a _ _ b) (λa=>absurd a (e.pending _ _)) (λa=>cV a);rename_i d c b;exact absurd b (f _ _);rfl
def yb{es:Array cK}(b:lu n QT):∀a∈gW es QT,a∈es\/lu n a:=λa c=>bh
def IA{w:ag}(a:aA w R=K v):cH R<U w.heap:=by
 unfold aA at a;cases b:w.heap[cH R]? with
 |none=>rw[b] at a;cases a
 |some c=>exact(dY.1 b).1
def Un.setCell{w a:ag}(c:Un w a)(b:aN)(v:F):iE w a (bg w b v) (bg a b v):=by
 unfold bg;refine c.modify (λf g h=>⟨_,_,_,rfl⟩) λe d=>?_;cases e<;>first|rfl|exact absurd rfl (d _ _ _)
def Un.freeze{w a:ag}(c:Un w a)(b:aN)(d:Nat):iE w a (w.freeze b d) (a.freeze b d):=by
 unfold lY
 split
 exact c.two;refine c.modify (λg h i=>⟨_,_,_,rfl⟩) λf e=>?_;cases f<;>first|rfl|exact absurd rfl (e _ _ _)
def Nv(w:ag)(c:aN):(∃b a,w.heap[cH c]? =K (.view b a))\/∀b a,w.heap[cH c]? ≠K (.view b a):=bh
def I6{w:ag}(b:w.heap[cH R]? =K (.view qP Qc))(a:aW)(m:Bool):w.farLoad a R m=match w.viewLoad a qP Qc R m with| .ok c=>.ok c| .error d=>.error (pi (.unsafePointer d)):=by
 unfold xg;rw[b];rfl
def B8{w:ag}(b:w.heap[cH R]? =K (.view qP Qc))(a:aW)(v:F)(m:Bool):w.farStore a R v m=match w.viewStore a qP Qc R v m with| .ok c=>.ok c| .error d=>.error (pi (.unsafePointer d)):=by
 unfold vL;rw[b];rfl
def Si {w:ag} (c:∀e d,w.heap[cH R]? ≠K (.view e d)) (a:aW) (m:Bool):w.farLoad a R m= .error (w.noCell R "load: no such cell"):=by
 unfold xg
 split
 rename_i b;exact absurd b (c _ _);rfl
def Sj {w:ag} (c:∀e d,w.heap[cH R]? ≠K (.view e d)) (a:aW) (v:F) (m:Bool):w.farStore a R v m= .error (w.noCell R "store: no such cell"):=by
 unfold vL
 split
 rename_i b;exact absurd b (c _ _);rfl
def H6{es b:Array cK}(d:∀c∈b,lu n c):∀a∈es++b,a∈es\/lu n a:=λa e=>(Array.mem_append.1 e).imp id (d a)
def LM{α:Type}{P P':aW}{O:cj->Prop}(N:Plain O)(am:Views P P'){Q:α->Prop}(s:bX α):∀(w:ag) (es:Array cK),Still P P' O Q s->Hp O w->mJ P P' O Q s w es:=by
 induction s with
 |pure c=>
  intro w es i g;refine⟨rfl,aV _,aV _,rfl,rfl,g,λaG j n=>?_,λn j h=>k8,λh ay=>aq ay,an λe d a b _=>⟨a,b.two,?_⟩⟩;simp only[en] at n;cases n;exact i;simp[en,uo,rW]
 |load m c p t=>
  intro w es i g;cases q:aA w c with
  |some v=>
   exact(t v w (es.push ⟨.cell c,ai,m == .atomic⟩) (i v) g).cons 0 (by simp only[en,q]) Y Y (aV _) Y Y (yb (by simpa [lu] using(IA q))) (an λe d a b _=>⟨a,b.two,by
    have z:aA (sh e d a) c=K v:=aB (b.cell c) q;simp only[en,z];rfl⟩)
  |none=>
   rcases Nv w c with⟨l,o,B⟩|B;cases L:w.viewLoad P l o c (m == .atomic) with
   |ok aZ=>
    have⟨v,R⟩:=aZ;have u:∀(M:aW) (j:ag),aA j c=Z->j.heap[cH c]? =K (.view l o)->j.viewLoad M l o c (m == .atomic)= .ok (v,R)->(Sem.load m c p).runT M j es=(p v).runT M j (es++R.toArray.map (⟨.cell ·,ai,m == .atomic⟩)):=by
     intro M j ad ae aw;simp only[en,ad,I6 ae,aw]
    refine(t v w _ (i v) g).cons 0 (u P w q B L) Y Y (aV _) Y Y (H6 λh ay=>?_) (an λe d a b _=>⟨a,b.two,u P' (sh e d a) (aB (b.cell c) q) (b.o B (by simp[pz])) ?_⟩);obtain⟨C,ab,rfl⟩:=Array.mem_map.1 ay;exact am.touch w l o c _ v R L C bh;rw[<-L];exact am.load w (sh e d a) l o c _ λr h f=>b.row
   |error ap=>
    have u:∀(M:aW) (j:ag),aA j c=Z->j.heap[cH c]? =K (.view l o)->j.viewLoad M l o c (m == .atomic)= .error ap->(Sem.load m c p).runT M j es=(.halt (pi (.unsafePointer ap)) j,es):=by
     intro M j ad ae aw;simp only[en,ad,I6 ae,aw]
    exact mJ.ends (u P w q B L) Y g (an λe d a b=>u P' (sh e d a) (aB (b.cell c) q) (b.o B (by simp[pz])) (by rw[<-L];exact am.load w (sh e d a) l o c _ λr h f=>b.row))
   exact mJ.ends (x:=.stuck "load: no such cell") (by simp only[en,q,Si B,J6 N g B]) Y g (aq ⟨_,rfl⟩)
 |store m c v p t=>
  intro w es i g;have aY:(∀l,v≠cw l)->(∀l,v≠cC l)->mJ P P' O Q (.store m c v p) w es:=by
   intro ad ae;have u:∀(P:aW) (j:ag),(Sem.store m c v p).runT P j es=(match (aA j) c with
    |some _=>if cU j c then(.halt (pi (.unsafePointer "a write to bytes that a string shares")) j,es) else p.runT P (j.setCell c v) (es.push ⟨.cell c,af,m == .atomic⟩)
    |none=>match j.farStore P c v (m == .atomic) with
     | .ok (a1,a0)=>p.runT P a1 (es++a0.toArray.map (⟨.cell ·,af,m == .atomic⟩))
     | .error n=>(.halt n j,es)):=by
    intro P j;cases v<;>first|exact absurd rfl (ad _)|exact absurd rfl (ae _)|rfl
   cases q:aA w c with
   |some l=>
    by_cases S:cU w c=af;refine mJ.ends (x:=pi (.unsafePointer "a write to bytes that a string shares")) bh Y g (an λe d a b=>?_);have z:aA (sh e d a) c=K l:=aB (b.cell c) q;have az:cU (sh e d a) c=af:=aB (b.frozen c) S;rw[u,z];simp only[az,if_true];have aj:Hp O (w.setCell c v):=by
     unfold bg;refine g.modify N λk=>?_;cases k<;>first|exact aq rfl|exact an ⟨_,_,_,rfl⟩
    refine(t (w.setCell c v) (es.push ⟨.cell c,af,m == .atomic⟩) i aj).cons 0 bh Y Y aF Y Y (yb (by simpa [lu,bg] using IA q)) (an λe d a b _=>⟨a.setCell c v,b.setCell c v,?_⟩);have z:aA (sh e d a) c=K l:=aB (b.cell c) q;have az:¬cU (sh e d a) c=af:=λh=>S ((b.frozen c).symm.trans h);rw[u,z];simp only[az,if_false];rfl
   |none=>
    rcases Nv w c with⟨l,o,B⟩|B;have T:=λa (b:Un w a)=>am.store w a l o c v (m == .atomic) λr h f=>b.row;rcases T w (Un.refl w) with⟨ap,D,-⟩|⟨r,h,f,R,D,-,L⟩;refine mJ.ends (x:=pi (.unsafePointer ap)) (by rw[u,q];simp only[B8 B,D]) Y g (an λe d a b=>?_);have z:aA (sh e d a) c=Z:=aB (b.cell c) q;have aC:(sh e d a).heap[cH c]? =K (.view l o):=b.o B (by simp[pz]);rcases T (sh e d a) ⟨b.size,b.at_,b.os,b.output⟩ with⟨a2,E,al⟩|⟨r,h,f,R,E,-⟩;rw[D] at E;cases E;rw[u,z];simp only[B8 aC,al];rw[D] at E;cases E;have aj:Hp O {w with heap:=cF w.heap (cH l) (ax r h f)}:=g.set _ (N.cells _ _ _);refine(t {w with heap:=cF w.heap (cH l) (ax r h f)} (es++R.toArray.map (⟨.cell ·,af,m == .atomic⟩)) i aj).cons 0 (by rw[u,q];simp only[B8 B,D]) Y Y aF Y Y (H6 λC ab=>?_) (an λe d a b _=>?_);obtain⟨y,a3,rfl⟩:=Array.mem_map.1 ab;have:=L y bh;simpa [lu] using this;have z:aA (sh e d a) c=Z:=aB (b.cell c) q;have aC:(sh e d a).heap[cH c]? =K (.view l o):=b.o B (by simp[pz]);rcases T (sh e d a) ⟨b.size,b.at_,b.os,b.output⟩ with⟨a2,E,al⟩|⟨aH,aI,aJ,a4,E,al,-⟩;rw[D] at E;cases E;rw[D] at E;have aD:=Except.ok.inj E;simp only[Prod.mk.injEq] at aD;obtain⟨aL,rfl⟩:=aD;refine⟨{a with heap:=cF a.heap (cH l) (ax aH aI aJ)},?_,?_⟩;rw[aL];exact b.set (cH l) (by simp[pz]);rw[u,z];simp only[B8 aC,al];rfl;exact mJ.ends (x:=.stuck "store: no such cell") (by rw[u,q];simp only[Sj B,J6 N g B]) Y g (aq ⟨_,rfl⟩)
  cases v with
  |agg l=>exact mJ.ends (x:=.stuck "store: not the value of one cell") Y Y g (aq ⟨_,rfl⟩)
  |tuple l=>exact mJ.ends (x:=.stuck "store: not the value of one cell") Y Y g (aq ⟨_,rfl⟩)
  |_=>exact aY (λl n=>cV n) (λl n=>cV n)
 |new k p t=>
  intro w es i g;have W:k≠pz:=λh=>N.Fh (h▸i.1);exact(t (U w.heap) {w with heap:=w.heap.push k} es (i.2 _) (g.push i.1)).cons 0 Y Y Y aF Y Y (λh n=>aq n) (an λe d a b _=>⟨{a with heap:=a.heap.push k},b.push W,by
   show(p (U a.heap)).runT P' _ es=_;rw[b.size];rfl⟩)
 |shape x p t=>intro w es i g;exact(t (w.shape? x) w es (i _) g).cons 0 Y Y Y (aV _) Y Y (λh n=>aq n) (an λe d a b _=>⟨a,b.two,by
  show(p (a.shape? x)).runT P' (sh e d a) es=_;rw[b.shape];rfl⟩)
 |freeze c F p t=>
  intro w es i g;have aj:Hp O (w.freeze c F):=by
   unfold lY
   split
   .exact g
   .refine g.modify N λk=>?_;cases k<;>first|exact aq rfl|exact an ⟨_,_,_,rfl⟩
  have D:dV (w.freeze c F)=dV w/\cm (w.freeze c F)=cm w/\(w.freeze c F).heap.size=U w.heap/\(w.freeze c F).os=w.os/\(w.freeze c F).output=w.output:=by
   unfold lY;split<;>simp
  exact(t (w.freeze c F) es i aj).cons 0 Y D.1 D.2.1 aa D.2.2.2.1 D.2.2.2.2 (λh n=>aq n) (an λe d a b _=>⟨a.freeze c F,b.freeze c F,by
   have:(sh e d a).freeze c F=sh e d (a.freeze c F):=by unfold lY;split<;>rfl
   simp only[en,this];rfl⟩)
 |frozen c p t=>intro w es i g;exact(t (cU w c) w es (i _) g).cons 0 Y Y Y (aV _) Y Y (λh n=>aq n) (an λe d a b _=>⟨a,b.two,by
  show(p (cU a c)).runT P' (sh e d a) es=_;rw[b.frozen];rfl⟩)
 |getObj x p t=>
  intro w es i g;cases A:w.heap[x]? with
  |none=>exact mJ.ends (x:=.stuck "getObj: no such block") (by simp only[en,A]) Y g (aq ⟨_,rfl⟩)
  |some k=>
   have ao:x<U w.heap:=(dY.1 A).1;by_cases q:∃r o y,k=ax r o y;obtain⟨r,o,y,rfl⟩:=q;exact mJ.ends (x:=.stuck "getObj: a row of cells") (by simp only[en,A]) Y g (aq ⟨_,rfl⟩);have u:∀(P:aW) (j:ag) (k:cj),(∀r o y,k≠ax r o y)->j.heap[x]? =K k->(Sem.getObj x p).runT P j es=(p k).runT P j (es.push ⟨.obj x,ai,k.isChan⟩):=by
    intro P j k q ar;cases k<;>first|exact absurd rfl (q _ _ _)|simp only[en,ar]
   have z:∀r o y,k≠ax r o y:=λr o y h=>q ⟨r,o,y,h⟩;have T:Still P P' O Q (p k)\/∃C,p k= .halt (.stuck C):=by
    rcases g x k A with n|rfl;exact aq (i.1 k n);rcases i.2 with⟨C,n⟩|⟨n,-⟩;exact an ⟨C,n⟩;have⟨R,L⟩:=N.loop;exact aq (by rw[<-n R];exact i.1 _ L)
   rcases T with T|⟨C,ab⟩;refine(t k w _ T g).cons 0 (u P w k z A) Y Y (aV _) Y Y (yb (by simpa [lu] using ao)) ?_;by_cases W:k=pz;subst W;by_cases aE:∃C,p pz= .halt (.stuck C);have⟨C,ab⟩:=aE;exact aq ⟨C,w,by rw[u P w pz z A,ab];rfl⟩;refine an λe d a b _=>⟨a,b.two,?_⟩;rcases b.at_ x pz A with h|⟨_,l,h,V⟩;exact u P' (sh e d a) pz z h;rw[u P' (sh e d a) l (λr o y h=>by rw[h] at V;simp[jk] at V) h,(i.2.TL V).resolve_left aE];cases l<;>first|rfl|(simp[jk] at V;done)
   exact an λe d a b _=>⟨a,b.two,u P' (sh e d a) k z (b.o A W)⟩;have G:(Sem.getObj x p).runT P w es=(.halt (.stuck C) w,es.push ⟨.obj x,ai,k.isChan⟩):=by rw[u P w k z A,ab];rfl
   refine⟨gJ G,b5 G (aV _),b5 G (aV _),gJ G,gJ G,b5 G g,?_,?_,?_,aq ⟨C,w,by rw[G]⟩⟩;rw[G];intro c j n;cases n;rw[G];intro n j h;cases h;rfl;rw[G];exact yb (n:=U w.heap) (by simpa [lu] using ao)
 |setObj x k p t=>
  intro w es i g;cases A:w.heap[x]? with
  |none=>exact mJ.ends (x:=.stuck "setObj: no such block") (by simp only[en,A]) Y g (aq ⟨_,rfl⟩)
  |some I=>
   have ao:x<U w.heap:=(dY.1 A).1;by_cases q:∃r o y,I=ax r o y;obtain⟨r,o,y,rfl⟩:=q;exact mJ.ends (x:=.stuck "setObj: a row of cells") (by simp only[en,A]) Y g (aq ⟨_,rfl⟩);have u:∀(P:aW) (j:ag) (I:cj),(∀r o y,I≠ax r o y)->j.heap[x]? =K I->(Sem.setObj x k p).runT P j es=p.runT P {j with heap:=cF j.heap x k} (es.push ⟨.obj x,af,k.isChan⟩):=by
    intro P j I q ar;cases I<;>first|exact absurd rfl (q _ _ _)|simp only[en,ar]
   have W:k≠pz:=λh=>N.Fh (h▸i.1);refine(t {w with heap:=cF w.heap x k} _ i.2 (g.set x i.1)).cons 0 (u P w I (λr o y h=>q ⟨r,o,y,h⟩) A) Y Y aF Y Y (yb (by simpa [lu] using ao)) (an λe d a b _=>⟨{a with heap:=cF a.heap x k},b.set x W,?_⟩);rcases b.at_ x I A with h|⟨_,l,h,V⟩;exact u P' (sh e d a) I (λr o y h=>q ⟨r,o,y,h⟩) h;exact u P' (sh e d a) l (λr o y h=>by rw[h] at V;simp[jk] at V) h
 |choose X p t=>
  intro w es i g;by_cases S:X.forced=af;exact(t 0 w es (i _) g).cons 0 (by simp only[en,S,if_true]) Y Y (aV _) Y Y (λh n=>aq n) (an λe d a b _=>⟨a,b.two,by simp only[en,S,if_true];rfl⟩);refine(t (X.cut (dV w (cm w) X)) {w with drawn:=cm w+1} es (i _) g).cons 1 (by simp only[en,S,if_false];rfl) rfl rfl (aV _) rfl rfl (λh n=>aq n) (an λe d a b aM=>⟨a,⟨⟨b.size,b.at_,b.os,b.output⟩,λaG aQ=>⟨aQ,rfl⟩⟩,?_⟩);have:=aM 0 X aa;simp only[s6] at this;simp only[en,S,if_false];have h:dV (sh e d a) (cm (sh e d a)) X=dV w (cm w) X:=this;rw[h];rfl
 |sys r p t=>
  intro w es i g;obtain⟨rfl,i⟩:=i;exact(t (.strings w.os.env) w (es.push ⟨.output,af,ai⟩) (i _) g).cons 0 Y Y Y (aV _) Y Y (yb (by simp[lu])) (an λe d a b _=>⟨a,b.two,by
   show(p (.strings a.os.env)).runT P' (sh e d a) _=_;rw[b.os];rfl⟩)
 |program p t=>
  intro w es i g;exact(t P w es i.2 g).cons 0 Y Y Y (aV _) Y Y (λh n=>aq n) (an λe d a b _=>⟨a,b.two,by
   show(p P').runT P' (sh e d a) es=_;rw[<-i.1];rfl⟩)
 |mark m p t=>intro w es i g;exact(t w _ i.2 g).cons 0 Y Y Y (aV _) Y Y (yb i.1) (an λe d a b _=>⟨a,b.two,rfl⟩)
 |halt l=>intro w es i g;exact mJ.ends (x:=l) Y i g (an λe d a b=>rfl)
end Go.Proofs.YtjidbonhhpkljaaGreat.Cc
namespace Go.Proofs.YtjidbonhhpkljaaGreat
def ey{a:Prop}(b:a:=by((try dsimp only);repeat' first|(with_reducible first|exact G0 _|exact S5 (λ_=>rfl) (λ_=>rfl) (λ_ _=>rfl) (λ_=>rfl)|exact o_9 ‹_› ‹_› _|exact G_ ‹_› ‹_› _|exact b_9 _ _|exact c_ _|exact B_9 ‹_› ‹_› _|exact pY _|exact k_9 ‹_› ‹_› _ _|exact o_ ‹_› ‹_› _|exact ML ‹_› ‹_› _ _|exact dI _|exact Mc ‹_› ‹_› _|exact nV ‹_› _|exact q_9 ‹_› ‹_› _ _ _|exact Dm ‹_› _|exact z_9 ‹_› _ _ _|exact Dk ‹_› _ _|exact j7 ‹_› _|exact GZ ‹_› _ _|exact C_ _|exact a_ ‹_› ‹_› _ _|exact Ma _|exact ZP ‹_› ‹_› _ _ _ _|exact x_ ‹_› ‹_› _ _ _|exact L9 ‹_› ‹_› _|exact y_ ‹_› ‹_› _ _ _ _ _ _|exact v_9 ‹_› ‹_› _ _ _ _ _|exact oW ‹_› _|exact mi ‹_› ‹_› _|exact Bw _|exact Mb _|exact GO _|exact uu ‹_› _ _ _|exact Dj _|exact q_ ‹_› |exact D_ ‹_› ‹_› _ _|exact MO ‹_› ‹_› _ _ _|exact MN ‹_› _|exact Mh ‹_› ‹_› _ _ _ _|exact Ml ‹_› ‹_› _ _ _ _|exact Ch Y|exact Mm ‹_› ‹_› _ _ _|exact GU ‹_› ‹_› _ _ _ _|exact Mv _ _|exact Ah _ _ _|exact Mz _|exact Bx _ _ _|exact GV ‹_› _|exact F_9 ‹_› ‹_› _ _ _|exact h_ ‹_› ‹_› _ _ _|exact MD ‹_› ‹_› _|exact(Mr ‹_› ‹_› _) _ _|exact s_ ‹_› _ _|exact MP ‹_› ‹_› _ _ _ _ _|exact Mr ‹_› ‹_› _ _ _|exact t_ ‹_› ‹_› _ _ _ _|exact(ME ‹_› ‹_› _) _ _ _|exact(Ms ‹_› ‹_› _) _ _|exact(MH ‹_› ‹_› _) _ _ _|exact Ms ‹_› ‹_› _ _ _|exact Bz _ _|exact GQ _|exact Mg ‹_› ‹_› _|exact r_ ‹_› ‹_› _)|(refine Di _ (λ_ _=>?_) ?_)|(refine g7 _ ?_;rfl)|exact Dk ‹_› _ _|exact Mv _ _|exact Ah _ _ _|exact Bx _ _ _|exact MP ‹_› ‹_› _ _ _ _ _|assumption|(refine wQ _ _ (λ_ _=>?_))|(refine yx _ _ (λ_ _=>?_))|(refine bP ?_ (λ_=>?_))|(refine nD ?_ ?_)|intro _|split|(dsimp only)|exact trivial)):a:=b
end Go.Proofs.YtjidbonhhpkljaaGreat
namespace Go.Proofs.YtjidbonhhpkljaaGreat
namespace Cc
open Go
structure Twin(P P':aW):Prop where
 info:∀t,P'.info? t=P.info? t
 gN:∀t,gb P' t=gb P t
 rt:P'.rt=P.rt
 cells:∀t,rj P' t=rj P t
 bytes:∀t,P'.bytesOf t=P.bytesOf t
 depth:P'.depth=P.depth
 k4:∀d e c o u n,liesAt P' d e c o u n=liesAt P d e c o u n
 cellAt:∀d e c o b,cellAtBytes P' d e c o b=cellAtBytes P d e c o b
 Eh:∀d t o,byteOfCell P' d t o=byteOfCell P d t o
 B6:∀d t,yQ P' d t=yQ P d t
 Dp:∀t,yS P' t=yS P t
 FG:∀d t,yR P' d t=yR P d t
 xY:P'.globals=P.globals
 godebug:P'.godebug=P.godebug
 Nl:P'.types=P.types
 EU:∀f:Nat,P'.funcs[f]? =P.funcs[f]? \/∃fn fn':cO,P.funcs[f]? =K fn/\P'.funcs[f]? =K fn'/\fn'.name=fn.name/\lF fn.body=ai/\lF fn'.body=ai
section
variable {P P':aW}{O:cj->Prop}{J H:Type}
abbrev St(P P':aW)(O:cj->Prop)(s:bX J):Prop:=Still P P' O (λ_=>True) s
def rS{Q:J->Prop}{a:H->Prop}{s:bX J}{f:J->bX H}(d:Still P P' O Q s)(c:∀b,Q b->Still P P' O a (f b)):Still P P' O a (s >>= f):=Still.bind P P' O c d
def bP{b:H->Prop}{s:bX J}{f:J->bX H}(d:St P P' O s)(c:∀a,Still P P' O b (f a)):Still P P' O b (s >>= f):=Still.bind P P' O (λa _=>c a) d
def nD{a:J->Prop}{b:Prop} [Decidable b]{s c:bX J}(d:Still P P' O a s)(e:Still P P' O a c):Still P P' O a (if b then s else c):=bh
def ZE{a:J->Prop}{s:bX J}(b:Still P P' O a s):St P P' O s:=b.mono P P' O (λ_ _=>trivial)
def mV{a:J->Prop}{f:aW->bX J}(b:f P=f P')(c:Still P P' O a (f P)):Still P P' O a (program >>= f):=⟨b,c⟩
def dI{a:J->Prop}(s:String):Still P P' O a (stuck s):=rfl
def g7{b:J->Prop}(a:Unsupported)(c:sM (pi a)=af):Still P P' O b (unsupported a):=c
def Dj{a:J->Prop}(v:F):Still P P' O a (goPanic v):=rfl
def Bz(a:aN)(m:Mode):St P P' O (load a m):=λ_=>trivial
def y_9(a:aN)(v:F)(m:Mode):St P P' O (store a v m):=trivial
def G0(a:Nat):St P P' O (shape a):=λ_=>trivial
def c_(a:aN):St P P' O (frozen a):=λ_=>trivial
def b_9(a:aN)(b:Nat):St P P' O (freeze a b):=trivial
def pY(a:Question):St P P' O (choose a):=λ_=>trivial
def Di{a:H->Prop}(e:Nat){f:cj->bX H}(c:∀b,O b->Still P P' O a (f b))(d:Gx f):Still P P' O a (getObj e >>= f):=⟨c,d⟩
def Ch{f:cj->bX H}{s:String}(a:f pz= .halt (.stuck s)):Gx f:=aq ⟨s,a⟩
def S5{f:cj->bX H}(c:∀h,f (.loop h)=f pz)(d:∀b,f (mz b)=f pz)(e:∀a i,f (.pending a i)=f pz)(g:∀j,f (.coro j)=f pz):Gx f:=an ⟨c,d,e,g⟩
def Ag(b:Nat)(a:O Qk):St P P' O (setObj b Qk):=⟨a,trivial⟩
def Af(a:O Qk):St P P' O (newObj Qk):=⟨a,λ_=>trivial⟩
def MI:St P P' O (mark .noRoom):=⟨aq Y,trivial⟩
def Mb(a:Nat):St P P' O (askRoom a):=by unfold askRoom;split;exact MI;exact trivial
def Ma(v:F):St P P' O (asIntOf v):=by unfold asIntOf;split<;>first|exact trivial|exact dI _|exact rfl
def Bw(v:F):St P P' O (asInt v):=bP (Ma v) (λ_=>trivial)
def GP(v:F):St P P' O (asBool v):=by unfold asBool;split<;>first|exact trivial|exact dI _
def GQ(v:F):St P P' O (asString v):=by unfold asString;split<;>first|exact trivial|exact dI _
def GO(v:F):St P P' O (asAgg v):=by unfold asAgg;split<;>first|exact trivial|exact dI _
def oW(a:Twin P P')(b:aK):St P P' O (mE b):=by
 unfold mE;refine mV (by rw[a.info]) ?_
 split
 exact trivial;exact dI _
def j7(a:Twin P P')(b:aK):St P P' O (rq b):=by
 unfold rq;refine mV (by rw[a.gN]) ?_
 split
 exact trivial;exact dI _
def Dm(b:Twin P P')(a:aK):St P P' O (kR a):=by
 unfold kR;refine bP (oW b a) λc=>?_
 split
 exact trivial;exact g7 _ Y
def nV(b:Twin P P')(a:aK):St P P' O (mD a):=bP (oW b a) (λ_=>trivial)
def My(b:Twin P P')(a:aK):St P P' O (isAgg a):=by
 unfold isAgg;refine bP (j7 b a) λc=>?_
 split<;>exact trivial
def MN(b:Twin P P')(a:aK):St P P' O (typeStr a):=by
 unfold typeStr;refine bP (oW b a) λc=>?_;dsimp only
 split
 exact g7 _ Y;exact trivial
def GV(b:Twin P P')(a:aK):St P P' O (elemOf a):=by
 unfold elemOf;refine bP (j7 b a) λc=>?_
 split
 exact trivial;exact dI _
theorem MA(c:aN):∀(n b:Nat) (a:Array F),St P P' O (loadCellsFrom c b n a)
 |0,b,a=>trivial
 |n+1,b,a=>bP (Bz _ _) (λv=>MA c n (b+1) (gW a v))
def GY(a:aN)(b:Nat):St P P' O (loadCells a b):=MA a b 0 #[]
theorem Ah(b:aN):∀(d:List F) (a:Nat),St P P' O (storeCells b d a)
 | [],a=>trivial
 |v::c,a=>bP (y_9 _ _ _) (λ_=>Ah b c (a+1))
def Dk(c:Plain O)(b:aK)(a:Array F):St P P' O (newRow b a):=bP (Af (c.cells a b (0,0))) (λ_=>trivial)
def MG(b:Plain O)(a:aK)(v:F):St P P' O (newVar a v):=Dk b a v.cells
def uu(b:Twin P P')(a:aK)(c:Array F)(d:Nat):St P P' O (part a c d):=by
 unfold part;refine bP (My b a) λe=>?_
 split
 exact bP (nV b a) λ_=>trivial
 split
 exact trivial;exact dI _
def GZ(b:Twin P P')(a:aK)(c:aN):St P P' O (loadVar a c):=by
 unfold loadVar;refine bP (My b a) λd=>?_
 split
 exact bP (nV b a) λ_=>bP (GY _ _) λ_=>trivial;exact Bz _ _
def z_9(c:Twin P P')(a:aK)(b:aN)(v:F):St P P' O (storeVar a b v):=by
 unfold storeVar;refine bP (nV c a) λd=>?_;dsimp only
 split
 exact bP (dI _) λ_=>Ah _ _ _;exact Ah _ _ _
def mi(a:Twin P P')(c:Plain O){d:J->Prop}(b:RuntimeError):Still P P' O d (runtimePanic b):=by
 unfold runtimePanic;refine mV ?_ ?_;dsimp only;rw[a.rt];cases b<;>first|rfl|(simp only[typeHandle,a.xY])
 dsimp only;cases b with
 |typeAssertion g f e m=>exact bP (GV a _) λ_=>bP (MG c _ _) λ_=>Dj _
 |panicNil=>exact bP (GV a _) λ_=>bP (MG c _ _) λ_=>Dj _
 |_=>exact Dj _
def L9(b:Twin P P')(a:Plain O)(v:F):St P P' O (asAddr v):=by
 unfold asAddr
 split
 exact trivial;exact mi b a _;exact dI _
def ZP(b:Twin P P')(a:Plain O){c:J->Prop}(e:iX)(f g:Int)(d:BoundsCode):Still P P' O c (boundsPanic e f g d):=by
 unfold boundsPanic;dsimp only
 split
 exact bP (bP (pY _) λ_=>trivial) λ_=>mi b a _;exact bP trivial λ_=>mi b a _
def G_(c:Twin P P')(b:Plain O)(a:Nat):St P P' O (viewAt a):=by unfold viewAt;exact ey
def o_9(c:Twin P P')(b:Plain O)(a:Nat):St P P' O (numberAt a):=by unfold numberAt;exact ey
def wO(c:Twin P P')(b:Plain O)(a:aN):St P P' O (pu a):=by unfold pu;exact ey
def o_(c:Twin P P')(b:Plain O)(a:aN):St P P' O (noView a):=by unfold noView;exact ey
def MD(c:Twin P P')(b:Plain O)(a:aN):St P P' O (markStringish a):=by unfold markStringish;exact ey
def B_9(c:Twin P P')(b:Plain O)(a:aN):St P P' O (stringish a):=by unfold stringish;exact ey
def k_9(d:Twin P P')(c:Plain O)(a b:aN):St P P' O (mayBeOne a b):=by unfold mayBeOne;exact ey
def ML(d:Twin P P')(c:Plain O)(a b:aN):St P P' O (sameAddr a b):=by unfold sameAddr;exact ey
def u_9(d:Twin P P')(c:Plain O)(a b:Option aN):St P P' O (samePointer a b):=by unfold samePointer;exact ey
def Mc(a:Twin P P')(c:Plain O)(b:aN):St P P' O (byteOf b):=by
 unfold byteOf;dsimp only
 split
 exact trivial
 .refine mV (by simp only[a.cells,a.bytes,a.Eh,a.depth]) ?_;exact ey
def q_9(e:Twin P P')(d:Plain O)(a:aN)(c b:Nat):St P P' O (partAt a c b):=by unfold partAt;exact ey
def a_(c:Twin P P')(b:Plain O)(a:aN)(f:Field):St P P' O (fieldPlace a f):=by unfold fieldPlace;exact ey
def F_9(a:Twin P P')(e:Plain O)(b:aN)(d:aK)(c:Nat):St P P' O (variablesAt b d c):=by
 unfold variablesAt;refine mV (by simp only[a.cells,a.k4,a.depth]) ?_;exact ey
def h_(f:Twin P P')(e:Plain O)(b:aN)(c:ByteArray)(a:Nat):St P P' O (loadBytes b c a):=by
 induction a generalizing b c with
 |zero=>exact trivial
 |succ a d=>unfold loadBytes;((try dsimp only);repeat' first|exact dI _|exact Bz _ _|exact d _ _|assumption|(refine bP ?_ (λ_=>?_))|intro _|split|(dsimp only)|exact trivial)
theorem GW{d:Type}{f:J->d->bX (ForInStep d)}:∀(c:List J) (a:d),(∀x a,St P P' O (f x a))->St P P' O (forIn c a f)
 | [],a,b=>by simp only[List.forIn_nil];exact trivial
 |x::c,a,b=>by
  simp only[List.forIn_cons];refine bP (b x a) λs=>?_;cases s with
  |done a=>exact trivial
  |yield a=>exact GW c a b
def wQ{b:Type}{f:J->b->bX (ForInStep b)}(d:Array J)(a:b)(c:∀e a,St P P' O (f e a)):St P P' O (forIn d a f):=by
 rw[<-Array.forIn_toList];exact GW _ _ c
def yx{b:Type}{f:Nat->b->bX (ForInStep b)}(d:Nat)(a:b)(c:∀e a,St P P' O (f e a)):St P P' O (forIn [0:d] a f):=by
 rw[zk];exact GW _ _ c
theorem MC(a:J->bX H):∀(c:List J),(∀x,St P P' O (a x))->St P P' O (c.mapM a)
 | [],b=>b5 List.mapM_nil trivial
 |x::c,b=>by
  rw[List.mapM_cons];exact bP (b x) λ_=>bP (MC a c b) λ_=>trivial
def MB(a:J->bX H)(c:Array J)(b:∀d,St P P' O (a d)):St P P' O (c.mapM a):=by
 rw[Array.mapM_eq_mapM_toList];exact bP (MC a _ b) λ_=>trivial
theorem Mq{e:Type}(b:e->J->bX e):∀(d:List J) (a:e),(∀a x,St P P' O (b a x))->St P P' O (d.foldlM b a)
 | [],a,c=>trivial
 |x::d,a,c=>by
  rw[List.foldlM_cons];exact bP (c a x) λ_=>Mq b d _ c
def C_(v:F):St P P' O (uG v):=by unfold uG;split<;>first|exact trivial|exact dI _
def ZI(d:Twin P P')(c:Plain O)(a:aK)(b:Bool)(v:F):St P P' O (Instr.alloc a b v):=by unfold Instr.alloc;exact ey
def ZQ(c:Twin P P')(b:Plain O)(a:aK)(v:F):St P P' O (Instr.box a v):=by unfold Instr.box;exact ey
def ZR(a:Twin P P')(d:Plain O)(b:aK)(c:Array (Nat×F)):St P P' O (Instr.build b c):=by
 unfold Instr.build;refine bP (Dm a b) λh=>?_;dsimp only;refine bP (j7 a b) λg=>?_
 split
 .refine bP (MB _ _ λf=>bP (nV a _) λ_=>trivial) λe=>?_;exact ey
 ·((try dsimp only);repeat' first|exact j7 a _|exact Dm a _|exact nV a _|exact dI _|assumption|(refine bP ?_ (λ_=>?_))|intro _|split|(dsimp only)|exact trivial)
 exact dI _
def ZS(e:Twin P P')(d:Plain O)(c:aK)(a:Nat)(b:Array (Nat×F)):St P P' O (yM c a b):=by unfold yM;exact ey
def g_9(c:Twin P P')(b:Plain O)(a:aK)(v:F):St P P' O (Instr.loadAt a v):=by unfold Instr.loadAt;exact ey
def z_(d:Twin P P')(c:Plain O)(b:aK)(a v:F):St P P' O (Instr.storeAt b a v):=by unfold Instr.storeAt;exact ey
def Z9(d:Twin P P')(c:Plain O)(b:aK)(a:F)(f:Nat):St P P' O (Instr.fieldAt b a f):=by unfold Instr.fieldAt;exact ey
def d_(e:Twin P P')(d:Plain O)(c:aK)(a b:F):St P P' O (Instr.indexAt c a b):=by unfold Instr.indexAt;exact ey
def x_(e:Twin P P')(d:Plain O)(b:F)(c:Nat)(a:BoundsCode):St P P' O (Instr.sliceBound b c a):=by unfold Instr.sliceBound;exact ey
def y_(f:Twin P P')(e:Plain O)(s:Bool)(d c:Nat)(a b m:Option F):St P P' O (Instr.sliceBounds s d c a b m):=by unfold Instr.sliceBounds;exact ey
def v_9(f:Twin P P')(e:Plain O)(c:aK)(d:F)(a b m:Option F):St P P' O (Instr.slice c d a b m):=by unfold Instr.slice;exact ey
def w_(f:Twin P P')(e:Plain O)(c:aK)(d:F)(a b m:Option F):St P P' O (Instr.sliceAt c d a b m):=by unfold Instr.sliceAt;exact ey
def i_9(d:Twin P P')(c:Plain O)(a:aK)(b:F):St P P' O (Instr.makeInterface a b):=by unfold Instr.makeInterface;exact ey
def j_9(e:Twin P P')(d:Plain O)(c:aK)(a b:F):St P P' O (yP c a b):=by unfold yP;exact ey
def j_(d:Twin P P')(g:Plain O)(c:∀b a,O (.map b a))(f:aK)(e:Option F):St P P' O (Instr.makeMap f e):=by unfold Instr.makeMap;((try dsimp only);repeat' first|exact j7 d _|exact dI _|exact Bw _|exact Af (c _ _)|assumption|(refine bP ?_ (λ_=>?_))|intro _|split|(dsimp only)|exact trivial)
def Z8(d:Twin P P')(c:Plain O)(a:aK)(b:F)(f:Nat):St P P' O (Instr.field a b f):=by unfold Instr.field;exact ey
def c_9(e:Twin P P')(d:Plain O)(b:aK)(c a:F):St P P' O (Instr.index b c a):=by unfold Instr.index;exact ey
def Z7(v:F)(a:Nat):St P P' O (Instr.extract v a):=by
 unfold Instr.extract
 split
 split
 exact trivial;exact dI _;exact dI _
def q_(a:Twin P P'):St P P' O Instr.panicnil:=by
 unfold Instr.panicnil;refine bP ⟨rfl,λ_=>trivial⟩ λb=>?_
 split
 dsimp only;exact mV (by rw[a.godebug]) trivial;exact dI _
def p_(c:Twin P P')(b:Plain O)(a:F):St P P' O (Instr.panic a):=by unfold Instr.panic;exact ey
end
section
variable {P J:aW}{O:cj->Prop}{R Q:Type}
def Mw(b:kM)(a:iX)(c d:Int):St P J O (Op.intArith b a c d):=by unfold Op.intArith;split<;>first|exact trivial|exact dI _
def e_(f:Twin P J)(e:Plain O)(b:kM)(a:iX)(c d:Int):St P J O (Op.intDiv b a c d):=by unfold Op.intDiv;exact ey
def Mx(b:kM)(a:iX)(c d:Int):St P J O (Op.intBits b a c d):=by unfold Op.intBits;dsimp only;split<;>first|exact trivial|exact dI _
def d_9(a:kM)(b c:Int):St P J O (Op.intCmp a b c):=by unfold Op.intCmp;split<;>first|exact trivial|exact dI _
def v_(g:Twin P J)(f:Plain O)(b:kM)(a:iX)(c:Int)(e:iX)(d:Int):St P J O (Op.shift b a c e d):=by unfold Op.shift;exact ey
def Mo(b:kM)(a:FloatKind)(c d:Nat):St P J O (Op.floatArith b a c d):=by
 unfold Op.floatArith;dsimp only
 split
 all_goals first|exact bP (dI _) λ_=>(by split<;>first|exact trivial|exact bP (pY _) λ_=>trivial)|exact bP trivial λ_=>(by split<;>first|exact trivial|exact bP (pY _) λ_=>trivial)
def Mp(b:kM)(a:FloatKind)(c d:Nat):St P J O (Op.floatCmp b a c d):=by unfold Op.floatCmp;dsimp only;split<;>first|exact trivial|exact dI _
def a_9(s:FloatKind)(a:Nat)(b:FloatKind):St P J O (Conv.floatToFloat s a b):=by
 unfold Conv.floatToFloat
 (try dsimp only)
 repeat' first|exact trivial|exact dI _|exact pY _|refine bP ?_ (λ_=>?_)|intro _|split|dsimp only
def Dh(b:kM)(a:FloatKind)(c d:Nat):St P J O (N1 b a c d):=by
 unfold N1;refine bP (Mo _ _ _ _) λ_=>?_
 split<;>first|exact trivial|exact dI _
def GR(b:kM)(a:FloatKind)(c d:Nat):St P J O (N2 b a c d):=by
 unfold N2;exact bP (Mp _ _ _ _) λ_=>GP _
def wP(s:FloatKind)(a:Nat)(b:FloatKind):St P J O (N3 s a b):=by
 unfold N3
 split
 exact trivial;refine bP (a_9 _ _ _) λ_=>?_
 split<;>first|exact trivial|exact dI _
def ZV(a b c d:Nat):St P J O (N5 a b c d):=by
 unfold N5 N7 N4 N0
 repeat' first|exact trivial|exact Dh _ _ _ _|refine bP ?_ (λ_=>?_)
def ZW(a b c d:Nat):St P J O (N6 a b c d):=by
 unfold N6 abR N7 N4 N0 abS
 repeat' first|exact Dh _ _ _ _|exact GR _ _ _ _|refine bP ?_ (λ_=>?_)|split|dsimp only|exact trivial
def ZY(f:kM)(e:FloatKind)(a b c d:Nat):St P J O (Op.complexOp f e a b c d):=by
 unfold Op.complexOp
 split
 all_goals first
  |exact bP (Dh _ _ _ _) λ_=>bP (Dh _ _ _ _) λ_=>trivial
  |exact bP (GR _ _ _ _) λ_=>bP (GR _ _ _ _) λ_=>trivial
  |exact dI _
  |(refine bP (wP _ _ _) λ_=>bP (wP _ _ _) λ_=>bP (wP _ _ _) λ_=>bP (wP _ _ _) λ_=>?_;dsimp only
    split
    exact bP (ZV _ _ _ _) λ_=>bP (wP _ _ _) λ_=>bP (wP _ _ _) λ_=>trivial;exact bP (ZW _ _ _ _) λ_=>bP (wP _ _ _) λ_=>bP (wP _ _ _) λ_=>trivial)
def MM(a:kM)(b c:ByteArray):St P J O (Op.stringOp a b c):=by
 unfold Op.stringOp
 repeat' first|exact trivial|exact dI _|exact g7 _ Y|split|dsimp only
def E_(a:UnOp)(b:F):St P J O (Op.unary a b):=by
 unfold Op.unary
 repeat' first|exact trivial|exact dI _|exact g7 _ Y|exact Mw _ _ _ _|exact Mx _ _ _ _|split|dsimp only
def D_(c:Twin P J)(d:Plain O)(a b:aN):St P J O (Op.twoPlaces a b):=by
 unfold Op.twoPlaces;refine mV (by rw[c.xY]) ?_;exact ey
def ZH(e:Twin P J)(d:Plain O)(c:iX)(a b:aN):St P J O (Op.addrSub c a b):=by unfold Op.addrSub;exact ey
def ZF(e:Twin P J)(d:Plain O)(c:kM)(a b:aN):St P J O (Op.addrCmp c a b):=by unfold Op.addrCmp;exact ey
def ZG(e:Twin P J)(d:Plain O)(b:iX)(a:aN)(c:Int):St P J O (Op.addrMod b a c):=by unfold Op.addrMod;exact ey
def MO(b:Twin P J)(r:Plain O)(o:Array aK)(n:aK)(d:Array F):St P J O (yI o n d):=by
 have f:∀s:String,St P J O (stuck s:bX F):=λs=>dI s;unfold yI;have⟨h⟩:=d;rcases h with _|⟨a,_|⟨p,_|⟨q,h⟩⟩⟩
 case cons.cons.nil=>
  cases a with
  |pointer m=>
   dsimp only;refine bP (Bw _) λk=>?_
   split
   .exact ey
   .have g:St P J O (match m with
     |some a=>do
      let i <-shape (cH a)
      match i with
       |some (e,j)=>do
        let c <-program
        match cellAtBytes c c.depth e (j/rj c e) a.off k with
         |some l=>pure (dG (K {block:=cH a,off:=l,spot:=a.spot}))
         |none=>unsupported (HH "Add")
       |x=>unsupported (HH "Add")
     |x=>unsupported (HH "Add"):bX F):=by
     split
     .refine bP (G0 _) λs=>?_
      split
      .refine mV (by simp only[b.cells,b.cellAt,b.depth]) ?_;exact ey
      exact g7 _ Y
     exact g7 _ Y
    split
    exact bP (g7 _ Y) λ_=>g;exact g
  |_=>exact f _
 all_goals exact f _
def ZL(c:∀a b,O (.number a b))(a:aN)(d:Bool):St P J O (asNumber a d):=bP (Af (c _ _)) λ_=>trivial
def MF(a:Twin P J)(b:Plain O)(e:∀c d,O (.number c d))(f:aK)(g h:F):St P J O (movedNumber f g h):=by unfold movedNumber;((try dsimp only);repeat' first|exact j7 a _|(refine g7 _ ?_;rfl)|exact MO a b _ _ _|exact wO a b _|exact ZL e _ _|assumption|(refine bP ?_ (λ_=>?_))|(refine nD ?_ ?_)|intro _|split|(dsimp only)|exact trivial)
def n_(e:Twin P J)(d:Plain O)(a:aK)(b c:F):St P J O (movedPointer a b c):=by unfold movedPointer;exact ey
theorem Mj(a:Twin P J)(b:Plain O):∀(d:Nat) (c:aK) (f g:F),St P J O (Op.equalIn d c f g)
 |0,c,f,g=>g7 _ Y
 |d+1,c,f,g=>by
  have e:=Mj a b d;unfold Op.equalIn;refine bP (j7 a c) λk=>?_
  split
  all_goals first
   |exact trivial
   |exact dI _
   |exact g7 _ Y
   |exact u_9 a b _ _
   |exact nD trivial (dI _)
   |(refine bP (wO a b _) λh=>?_;refine bP (wO a b _) λi=>?_;dsimp only;refine mV (by rw[a.xY]) ?_
     ((try dsimp only);repeat' first|exact oW a _|exact j7 a _|exact nV a _|exact dI _|exact mi a b _|exact pY _|(refine g7 _ ?_;rfl)|exact uu a _ _ _|exact Mc a b _|assumption|(refine bP ?_ (λ_=>?_))|(refine nD ?_ ?_)|intro _|split|(dsimp only)|exact trivial))
   |(refine bP (nV a _) λj=>?_
     ((try dsimp only);repeat' first|exact oW a _|exact j7 a _|exact nV a _|exact dI _|exact mi a b _|exact pY _|(refine g7 _ ?_;rfl)|exact uu a _ _ _|exact ML a b _ _|assumption|(refine bP ?_ (λ_=>?_))|(refine nD ?_ ?_)|intro _|split|(dsimp only)|exact trivial))
   |skip
  .refine nD trivial ?_;refine bP (oW a _) λinfo=>?_;dsimp only
   split
   .refine mV (by simp only[a.FG]) ?_;refine mV (by simp only[a.depth]) ?_;exact ey
   exact e _ _ _
  .refine mV (by rw[a.Dp]) ?_
   ((try dsimp only);repeat' first|exact oW a _|exact j7 a _|exact nV a _|exact dI _|exact mi a b _|exact pY _|(refine g7 _ ?_;rfl)|exact uu a _ _ _|exact e _ _ _|assumption|(refine wQ _ _ (λ_ _=>?_))|(refine yx _ _ (λ_ _=>?_))|(refine bP ?_ (λ_=>?_))|(refine nD ?_ ?_)|intro _|split|(dsimp only)|exact trivial)
  ·((try dsimp only);repeat' first|exact oW a _|exact j7 a _|exact nV a _|exact dI _|exact mi a b _|exact pY _|(refine g7 _ ?_;rfl)|exact uu a _ _ _|exact e _ _ _|assumption|(refine wQ _ _ (λ_ _=>?_))|(refine yx _ _ (λ_ _=>?_))|(refine bP ?_ (λ_=>?_))|(refine nD ?_ ?_)|intro _|split|(dsimp only)|exact trivial)
def Mi(e:Twin P J)(d:Plain O)(a:aK)(b c:F):St P J O (Op.equal a b c):=Mj e d _ a b c
theorem Mh(a:Twin P J)(g:Plain O):∀(d:Nat) (b:aK) (c e:F),St P J O (Op.eqGuardIn d b c e)
 |0,b,c,e=>g7 _ Y
 |d+1,b,c,e=>by
  have f:=Mh a g d;unfold Op.eqGuardIn;refine bP (j7 a b) λh=>?_
  split
  exact trivial
  ·((try dsimp only);repeat' first|exact j7 a _|exact nV a _|(refine g7 _ ?_;rfl)|exact uu a _ _ _|exact f _ _ _|assumption|(refine wQ _ _ (λ_ _=>?_))|(refine yx _ _ (λ_ _=>?_))|(refine bP ?_ (λ_=>?_))|(refine nD ?_ ?_)|intro _|split|(dsimp only)|exact trivial)
  ·((try dsimp only);repeat' first|exact j7 a _|exact nV a _|(refine g7 _ ?_;rfl)|exact uu a _ _ _|exact f _ _ _|assumption|(refine wQ _ _ (λ_ _=>?_))|(refine yx _ _ (λ_ _=>?_))|(refine bP ?_ (λ_=>?_))|(refine nD ?_ ?_)|intro _|split|(dsimp only)|exact trivial)
  exact trivial
def Z4(a:Twin P J)(h:Plain O)(d:kM)(e:aK)(f g:dU)(b c:F):St P J O (eqGuard d e f g b c):=by
 unfold eqGuard;refine nD trivial ?_
 split
 .exact ey
 .refine mV (by simp only[a.B6]) ?_;refine mV (by simp only[a.depth]) ?_;exact ey
 exact trivial
def ZN(a:Twin P J)(b:Plain O)(c:∀d e,O (.number d e))(f:kM)(g:aK)(h i:F):St P J O (binOp f g h i):=by
 unfold binOp
 split
 all_goals first
  |exact v_ a b _ _ _ _ _
  |exact MM _ _ _
  |exact g7 _ Y
  |exact dI _
  |exact MF a b c _ _ _
  |exact bP (Mi a b _ _ _) λ_=>trivial
  |(refine nD (dI _) ?_
    split<;>first|exact Mw _ _ _ _|exact e_ a b _ _ _ _|exact Mx _ _ _ _|exact d_9 _ _ _|exact Mo _ _ _ _|exact Mp _ _ _ _)
  |exact nD (dI _) (ZY _ _ _ _ _ _)
  |(refine bP (j7 a _) λj=>?_
    split<;>first|exact n_ a b _ _ _|exact MF a b c _ _ _)
  |exact bP (wO a b _) λ_=>bP (wO a b _) λ_=>ZH a b _ _ _
  |exact bP (wO a b _) λ_=>bP (wO a b _) λ_=>ZF a b _ _ _
  |exact bP (wO a b _) λ_=>ZG a b _ _ _
end
section
variable {P J:aW}{O:cj->Prop}{R Q:Type}
theorem GU(a:Twin P J)(b:Plain O)(e:Bool):∀(n:Nat) (c:aK) (v:F),St P J O (xa e n c v)
 |0,c,v=>g7 _ Y
 |n+1,c,v=>by
  have d:=GU a b e n;unfold xa;refine bP (j7 a c) λf=>?_
  split
  ·((try dsimp only);repeat' first|exact oW a _|exact j7 a _|exact nV a _|exact dI _|exact mi a b _|(refine g7 _ ?_;rfl)|exact uu a _ _ _|exact d _ _|exact MN a _|assumption|(refine bP ?_ (λ_=>?_))|(refine nD ?_ ?_)|intro _|split|(dsimp only)|exact trivial)
  ·((try dsimp only);repeat' first|exact oW a _|exact j7 a _|exact nV a _|exact dI _|exact mi a b _|(refine g7 _ ?_;rfl)|exact uu a _ _ _|exact d _ _|assumption|(refine wQ _ _ (λ_ _=>?_))|(refine yx _ _ (λ_ _=>?_))|(refine bP ?_ (λ_=>?_))|(refine nD ?_ ?_)|intro _|split|(dsimp only)|exact trivial)
  ·((try dsimp only);repeat' first|exact oW a _|exact j7 a _|exact nV a _|exact dI _|exact mi a b _|(refine g7 _ ?_;rfl)|exact uu a _ _ _|exact d _ _|assumption|(refine wQ _ _ (λ_ _=>?_))|(refine yx _ _ (λ_ _=>?_))|(refine bP ?_ (λ_=>?_))|(refine nD ?_ ?_)|intro _|split|(dsimp only)|exact trivial)
  all_goals first|exact trivial|exact dI _
theorem Ml(d:Twin P J)(c:Plain O)(g:aK)(f:F):∀(b:List gX) (a:Nat),St P J O (Instr.findAsking g f b a)
 | [],a=>trivial
 |e::b,a=>by
  unfold Instr.findAsking;refine bP (Mi d c _ _ _) λh=>?_
  split
  exact trivial;exact Ml d c g f b (a+1)
def Mm(e:Twin P J)(d:Plain O)(c:aK)(b:F)(a:List gX):St P J O (yO c b a):=by unfold yO;exact ey
def i_(f:Twin P J)(e:Plain O)(c:aK)(d b:F)(a:Bool):St P J O (Instr.lookup c d b a):=by unfold Instr.lookup;exact ey
def k_(a:Twin P J)(b:Plain O)(e:∀d c,O (.map d c))(g:aK)(m f v:F):St P J O (Instr.mapUpdate g m f v):=by unfold Instr.mapUpdate Instr.keyThatStays;((try dsimp only);repeat' first|exact j7 a _|exact dI _|exact mi a b _|exact pY _|(refine Di _ (λ_ _=>?_) ?_)|exact Ch Y|exact Mm a b _ _ _|exact GU a b _ _ _ _|exact Ag _ (e _ _)|assumption|(refine bP ?_ (λ_=>?_))|(refine nD ?_ ?_)|intro _|split|(dsimp only)|exact trivial)
def ZU(f:Twin P J)(e:Plain O)(a:F):St P J O (Conv.bytesToString a):=by
 unfold Conv.bytesToString
 split
 exact trivial;refine bP (GY _ _) λd=>?_;dsimp only;refine bP (wQ _ _ λc b=>?_) λ_=>trivial
 split
 exact trivial;exact dI _;exact dI _
def Dl(d:Twin P J)(b:aK):Still P J O (λa=>gb P b=K a) (rq b):=by
 unfold rq;refine mV (by rw[d.gN]) ?_
 split
 rename_i a c;exact c;exact dI _
def Ew (P:aW)(s a:aK):Bool:=match (gb P) s,gb P a with
 |some (.int _),K (.int _)=>af
 |some (.slice b),K .string=>match (gb P) b with|some (.int .u8)=>af|_=>ai
 |some (.slice _),K (.slice _)=>af
 |_,_=>ai
def Mz(a:F):St P J O (vF a):=by unfold vF;split<;>first|exact trivial|exact dI _
def Bx(s a:Nat)(b:F):St P J O (vE s a b):=by unfold vE;split<;>first|exact trivial|exact GY _ _|exact dI _
def Mv(a:aN)(b:Nat):St P J O (yH a b):=by unfold yH;refine bP (G0 _) λs=>?_;split<;>exact trivial
def l_(g:Twin P J)(f:Plain O)(a b c:Nat)(d:Option aN)(e:F):St P J O (Aw a b c d e):=by unfold Aw;exact ey
def Z0(e:Twin P J)(d:Plain O)(c:Array aK)(b:aK)(a:Array F):St P J O (tO c b a):=by unfold tO;exact ey
def g_(e:Twin P J)(d:Plain O)(c:Array aK)(b:aK)(a:Array F):St P J O (Builtin.len_ c b a):=by unfold Builtin.len_;exact ey
def m_(a b:F):St P J O (Builtin.min2 a b):=by
 unfold Builtin.min2
 repeat' first|exact dI _|exact g7 _ Y|exact pY _|exact MM _ _ _|exact GP _|refine bP ?_ (λ_=>?_)|split|dsimp only|exact trivial
def l_9(d:Array aK)(c:aK)(a:Array F):St P J O (Builtin.min_ d c a):=by
 unfold Builtin.min_
 split
 exact dI _;exact Mq _ _ _ λb e=>m_ b e
def F_(j:Twin P J)(i:Plain O)(f:Array aK)(e:aK)(a:Array F):St P J O (Builtin.unsafeString_ f e a):=by
 have b:∀s:String,St P J O (stuck s:bX F):=λs=>dI s;unfold Builtin.unsafeString_;have⟨c⟩:=a;rcases c with _|⟨d,_|⟨g,_|⟨h,c⟩⟩⟩
 case cons.cons.nil=>
  cases d with
  |pointer k=>
   dsimp only;exact ey
  |_=>exact b _
 all_goals exact b _
end
end Cc
namespace Rl
section
structure fo where
 g:Nat
 b:Nat->Bool
structure aL(G:fo) where
 f:Nat->Option Nat
 inj:∀a b c,f a=K c->f b=K c->a=b
 Cf:∀a b,f a=K b->(a<G.g↔b<G.g)
variable {G:fo}
def aL.le(c d:aL G):Prop:=∀a b,c.f a=K b->d.f a=K b
def aL.le.refl(a:aL G):a.le a:=λ_ _ b=>b
def aL.le.trans{a b c:aL G}(d:a.le b)(e:b.le c):a.le c:=λg h f=>e _ _ (d _ _ f)
structure xq(ρ:aL G)(r r':Nat):Prop where
 left:ρ.f r=Z
 right:∀b,ρ.f b≠K r'
 gl:G.g<=r
 gr:G.g<=r'
def aL.ext(f:aL G)(g h:Nat)(d:xq f g h):aL G where
 f:=λb=>if b=g then K h else f.f b
 inj:=λc b i a e=>by
  split at a<;>split at e
  omega;cases a;exact absurd e (d.right b);cases e;exact absurd a (d.right c);exact f.inj c b i a e
 Cf:=λc b a=>by
  have:=d.gl;have:=d.gr
  split at a
  cases a;omega;exact f.Cf c b a
def aL.I4{b:aL G}(c:xq b n m):b.le (b.ext n m c):=λe f a=>by
 unfold aL.ext;dsimp only
 split
 rename_i d;subst d;rw[c.left] at a;cases a;exact a
def aL.B7{a:aL G}(b:xq a n m):(a.ext n m b).f n=K m:=by simp[aL.ext]
def dS (c:aL G)(a b:aN):Prop:=c.f (cH a)=K (cH b)/\a.off=b.off/\a.spot=b.spot
def dS.mono{b c:aL G}(d:b.le c)(a:dS b R qP):dS c R qP:=⟨d _ _ a.1,a.2⟩
def dS.add{c:aL G}(b:dS c R qP)(a:Nat):dS c (R.add a) (qP.add a):=by
 unfold Addr.add
 split
 exact b;exact⟨b.1,by show R.off+a=qP.off+a;rw[b.2.1],rfl⟩
def lz (e:aL G)(b:Fn)(c:Fn):Prop:=∀a:Fn->Fn->Prop,(∀(f:fH) (d:G.b f=af),a (.func f) (.func f))->a b c
def lz.func{c:aL G}(f:fH)(b:G.b f=af):lz c (.func f) (.func f):=λd a=>a f b
def lz.ind{d:aL G}{c:∀(a:Fn) (b:Fn),lz d a b->Prop}(func:∀(f:fH) (h:G.b f=true),c _ _ (lz.func f h)){a:Fn}{b:Fn}(h:lz d a b):c a b h:=(h (λa b=>lz d a b/\∀h,c a b h) (λf h=>⟨lz.func f h,λ_=>func f h⟩)).2 h
def lz.mono{c d:aL G}{f b:Fn}(e:c.le d)(a:lz c f b):lz d f b:=by
 cases a using lz.ind with
 |func f a=>exact .func f a
def aG (ρ:aL G)(y:F)(z:F):Prop:=∀a:F->F->Prop,(∀(p:Bool),a (ak p) (ak p))->(∀(u:iX) (g:Int),a (bt u g) (bt u g))->(∀(s:ByteArray),a (au s) (au s))->(a (dG Z) (dG Z))->(∀{h i:aN} (e:dS ρ h i),a (dG (K h)) (dG (K i)))->(∀(g j:Nat),a (ah Z g j) (ah Z g j))->(∀{h i:aN} (e:dS ρ h i) (g j:Nat),a (ah (K h) g j) (ah (K i) g j))->(a (.map Z) (.map Z))->(∀{k l:Nat} (e:ρ.f k=K l),a (.map (K k)) (.map (K l)))->(a (fp Z) (fp Z))->(∀{k l:Nat} (e:ρ.f k=K l),a (fp (K k)) (fp (K l)))->(∀{f q:Fn} {c d m n:Array F} (A:lz ρ f q) (r:U c=U d) (t:∀b (e:b<U c) (o:b<U d),a c[b] d[b]) (B:U m=U n) (C:∀b (e:b<U m) (o:b<U n),a m[b] n[b]),a (.func f c m) (.func q d n))->(a .nilFunc .nilFunc)->(∀(w:aK) {v x:F} (e:a v x),a (.iface w v) (.iface w x))->(a .nilIface .nilIface)->(∀{c d:Array F} (r:U c=U d) (t:∀b (e:b<U c) (o:b<U d),a c[b] d[b]),a (cw c) (cw d))->(∀{c d:Array F} (r:U c=U d) (t:∀b (e:b<U c) (o:b<U d),a c[b] d[b]),a (cC c) (cC d))->a y z
def aG.bool{c:aL G}(a:Bool):aG c (ak a) (ak a):=λd b m n o p q r s t e f g h i j k l=>b a
def aG.int{d:aL G}(a:iX)(b:Int):aG d (bt a b) (bt a b):=λe f c o p q r s t u g h i j k l m n=>c a b
def aG.string{b:aL G}(s:ByteArray):aG b (au s) (au s):=λc d m a n o p q r t e f g h i j k l=>a s
def aG.hU{b:aL G}:aG b (dG Z) (dG Z):=λc d m n a o p q r s e f g h i j k l=>a
def aG.ptr{a:aL G}(c:dS a R qP):aG a (dG (K R)) (dG (K qP)):=λd e n o p b q r s t f g h i j k l m=>b c
def aG.mQ{d:aL G}(b a:Nat):aG d (ah Z b a) (ah Z b a):=λe f o p q r c s t u g h i j k l m n=>c b a
def aG.sl{c:aL G}(e:dS c R qP)(b a:Nat):aG c (ah (K R) b a) (ah (K qP) b a):=λf g p q r s t d u v h i j k l m n o=>d e b a
def aG.rL{b:aL G}:aG b (.map Z) (.map Z):=λc d m n o p q r a s e f g h i j k l=>a
def aG.map{a:aL G}(c:a.f n=K m):aG a (.map (K n)) (.map (K m)):=λd e p q r s t u v b f g h i j k l o=>b c
def aG.rK{b:aL G}:aG b (fp Z) (fp Z):=λc d l m n o p q r s a e f g h i j k=>a
def aG.chan{a:aL G}(c:a.f n=K m):aG a (fp (K n)) (fp (K m)):=λd e o p q r s t u v f b g h i j k l=>b c
def aG.func{b:aL G}{f y:Fn}(B:lz b f y)(hx:U C=U qJ)(D:∀a (z:a<U C) (A:a<U qJ),aG b C[a] qJ[a])(hy:U qK=U qL)(E:∀a (z:a<U qK) (A:a<U qL),aG b qK[a] qL[a]):aG b (.func f C qK) (.func y qJ qL):=λh i q r s t u v w x j k c l m n o p=>c B hx (λd e g=>D d e g h i q r s t u v w x j k c l m n o p) hy (λd e g=>E d e g h i q r s t u v w x j k c l m n o p)
def aG.nilFunc{b:aL G}:aG b .nilFunc .nilFunc:=λc d l m n o p q r s e f g a h i j k=>a
def aG.iface{c:aL G}(a:aK)(u:aG c v x):aG c (.iface a v) (.iface a x):=λd e m n o p q r s t f g h i b j k l=>b a (u d e m n o p q r s t f g h i b j k l)
def aG.nilIface{b:aL G}:aG b .nilIface .nilIface:=λc d l m n o p q r s e f g h i a j k=>a
def aG.agg{c:aL G}(hx:U C=U qJ)(u:∀a (y:a<U C) (z:a<U qJ),aG c C[a] qJ[a]):aG c (cw C) (cw qJ):=λd e m n o p q r s t f g h i j k b l=>b hx (λv w x=>u v w x d e m n o p q r s t f g h i j k b l)
def aG.tuple{c:aL G}(hx:U C=U qJ)(u:∀a (y:a<U C) (z:a<U qJ),aG c C[a] qJ[a]):aG c (cC C) (cC qJ):=λd e m n o p q r s t f g h i j k l b=>b hx (λv w x=>u v w x d e m n o p q r s t f g h i j k l b)
def aG.ind{l:aL G}{g:∀(p:F) (q:F),aG l p q->Prop}(bool:∀(b:Bool),g _ _ (aG.bool b))(int:∀(k:iX) (n:Int),g _ _ (aG.int k n))(string:∀(s:ByteArray),g _ _ (aG.string s))(hU:g _ _ (aG.hU))(ptr:∀{a z:aN} (h:dS l a z),g _ _ (aG.ptr h))(mQ:∀(n o:Nat),g _ _ (aG.mQ n o))(sl:∀{a z:aN} (h:dS l a z) (n o:Nat),g _ _ (aG.sl h n o))(rL:g _ _ (aG.rL))(map:∀{r B:Nat} (h:l.f r=some B),g _ _ (aG.map h))(rK:g _ _ (aG.rK))(chan:∀{r B:Nat} (h:l.f r=some B),g _ _ (aG.chan h))(func:∀{f E:Fn} {x m y C:Array F} (w:lz l f E) (hx:U x=U m) (j:∀i (h:i<U x) (A:i<U m),aG l x[i] m[i]) (hy:U y=U C) (u:∀i (h:i<U y) (A:i<U C),aG l y[i] C[i]),(∀c d e,g _ _ (j c d e))->(∀c d e,g _ _ (u c d e))->g _ _ (aG.func w hx j hy u))(nilFunc:g _ _ (aG.nilFunc))(iface:∀(t:aK) {v D:F} (h:aG l v D),(g _ _ h)->g _ _ (aG.iface t h))(nilIface:g _ _ (aG.nilIface))(agg:∀{x m:Array F} (hx:U x=U m) (j:∀i (h:i<U x) (A:i<U m),aG l x[i] m[i]),(∀c d e,g _ _ (j c d e))->g _ _ (aG.agg hx j))(tuple:∀{x m:Array F} (hx:U x=U m) (j:∀i (h:i<U x) (A:i<U m),aG l x[i] m[i]),(∀c d e,g _ _ (j c d e))->g _ _ (aG.tuple hx j)){p:F}{q:F}(h:aG l p q):g p q h:=(h (λp q=>aG l p q/\∀h,g p q h) (λb=>⟨aG.bool b,λ_=>bool b⟩) (λk n=>⟨aG.int k n,λ_=>int k n⟩) (λs=>⟨aG.string s,λ_=>string s⟩) (⟨aG.hU,λ_=>hU⟩) (λh=>⟨aG.ptr h,λ_=>ptr h⟩) (λn o=>⟨aG.mQ n o,λ_=>mQ n o⟩) (λh n o=>⟨aG.sl h n o,λ_=>sl h n o⟩) (⟨aG.rL,λ_=>rL⟩) (λh=>⟨aG.map h,λ_=>map h⟩) (⟨aG.rK,λ_=>rK⟩) (λh=>⟨aG.chan h,λ_=>chan h⟩) (λw hx j hy u=>⟨aG.func w hx (λc d e=>(j c d e).1) hy (λc d e=>(u c d e).1),λ_=>func w hx (λc d e=>(j c d e).1) hy (λc d e=>(u c d e).1) (λc d e=>(j c d e).2 _) (λc d e=>(u c d e).2 _)⟩) (⟨aG.nilFunc,λ_=>nilFunc⟩) (λt {v} {D} h=>⟨aG.iface t h.1,λ_=>iface t h.1 (h.2 _)⟩) (⟨aG.nilIface,λ_=>nilIface⟩) (λhx j=>⟨aG.agg hx (λc d e=>(j c d e).1),λ_=>agg hx (λc d e=>(j c d e).1) (λc d e=>(j c d e).2 _)⟩) (λhx j=>⟨aG.tuple hx (λc d e=>(j c d e).1),λ_=>tuple hx (λc d e=>(j c d e).1) (λc d e=>(j c d e).2 _)⟩)).2 h
def cP (d:aL G)(b c:Array F):Prop:=U b=U c/\∀a (e:a<U b) (f:a<U c),aG d b[a] c[a]
def aG.mono{g h:aL G}(d:g.le h)(a:aG g v x):aG h v x:=by
 induction a using aG.ind with
 |ptr a=>exact .ptr (a.mono d)
 |sl a n i=>exact .sl (a.mono d) n i
 |map a=>exact .map (d _ _ a)
 |chan a=>exact .chan (d _ _ a)
 |func j e _ k _ l m=>exact .func (j.mono d) e (λc a b=>l c a b) k (λc a b=>m c a b)
 |iface o _ f=>exact .iface o f
 |agg e _ f=>exact .agg e (λc a b=>f c a b)
 |tuple e _ f=>exact .tuple e (λc a b=>f c a b)
 |_=>first|exact .bool _|exact .int _ _|exact .string _|exact .hU|exact .mQ _ _|exact .rL|exact .rK|exact .nilFunc|exact .nilIface
def cP.mono{b c:aL G}(f:b.le c)(a:cP b C qJ):cP c C qJ:=⟨a.1,λg d e=>(a.2 g d e).mono f⟩
def cP.nil(b:aL G):cP b #[] #[]:=⟨rfl,λc a=>by simp at a⟩
def cP.push{b:aL G}(a:cP b C qJ)(c:aG b v x):cP b (gW C v) (gW qJ x):=by
 refine⟨by simp[a.1],λd e f=>?_⟩;simp only[Array.getElem_push];have:=a.1
 split
 rw[dif_pos aa];exact a.2 d _ _;rw[dif_neg aa];exact c
def cP.append{b:aL G}(d:cP b C qJ)(e:cP b qK qL):cP b (C++qK) (qJ++qL):=by
 have c:=d.1;refine⟨by simp[c,e.1],λa f g=>?_⟩;simp only[Array.getElem_append]
 split
 rw[dif_pos aa];exact d.2 a _ _;rw[dif_neg aa];have:a-U C=a-U qJ:=by rw[c]
 simp only[this];exact e.2 (a-U qJ) bh bh
def cP.get{e:aL G}(b:cP e C qJ)(a:Nat):(C[a]? =Z/\qJ[a]? =Z)\/∃v d,C[a]? =K v/\qJ[a]? =K d/\aG e v d:=by
 have f:=b.1;by_cases c:a<U C;exact an ⟨_,_,m3 c,m3 aa,b.2 a c aa⟩;exact aq ⟨o5 aa,o5 aa⟩
def cP.set{c:aL G}(d:cP c C qJ)(f:aG c v x)(b:Nat):cP c (cF C b v) (cF qJ b x):=by
 refine⟨by simp[d.1],λe g h=>?_⟩;by_cases a:b=e;subst a;simp only[Array.getElem_setIfInBounds_self];exact f;rw[Array.getElem_setIfInBounds_ne bh a,Array.getElem_setIfInBounds_ne bh a];exact d.2 e _ _
def cP.extract{d:aL G}(a:cP d C qJ)(b c:Nat):cP d (C.extract b c) (qJ.extract b c):=by
 refine⟨by simp[a.1],λg e f=>?_⟩;simp only[Array.getElem_extract];exact a.2 _ _ _
def aG.cells{a:aL G}(b:aG a v x):cP a v.cells x.cells:=by
 cases b using aG.ind with
 |agg d e=>exact⟨d,e⟩
 |_=>exact⟨rfl,λf c g=>by
  have:f=0:=by simp[Value.cells] at c;omega
  subst this
  first|exact .bool _|exact .int _ _|exact .string _|exact .hU|exact .ptr ‹_› |exact .mQ _ _|exact .sl ‹_› _ _|exact .rL|exact .map ‹_› |exact .rK|exact .chan ‹_› |exact .func ‹_› ‹_› ‹_› ‹_› ‹_› |exact .nilFunc|exact .iface _ ‹_› |exact .nilIface|exact .tuple ‹_› ‹_›⟩
structure o8(ρ:aL G)(e e':gX):Prop where
 key:aG ρ e.key e'.key
 val:aG ρ e.val e'.val
 born:e.born=e'.born
def o8.mono{e f:aL G}(d:e.le f){b c:gX}(a:o8 e b c):o8 f b c:=⟨a.key.mono d,a.val.mono d,a.born⟩
def er (g:aL G)(t:cj)(u:cj):Prop:=∀a:cj->cj->Prop,(∀{b m:Array F} (h:cP g b m) (c:aK) (n:Nat×Nat),a (ax b c n) (ax m c n))->(∀{d e:Array gX} (x:U d=U e) (h:∀f (v:f<U d) (w:f<U e),o8 g d[f] e[f]) (o:Nat),a (.map d o) (.map e o))->(∀(q:Nat) {k l:Array F} (h:cP g k l) (b:Bool) (s r:Nat) (c:Bool),a (.chan q k b s r c) (.chan q l b s r c))->(∀{i j:aN} (h:dS g i j) (p:Bool),a (.number i p) (.number j p))->a t u
def er.cells{c:aL G}(e:cP c C qJ)(b:aK)(a:Nat×Nat):er c (ax C b a) (ax qJ b a):=λf d g h i=>d e b a
def er.map{e:aL G}{a b:Array gX}(h:U a=U b)(g:∀c (m:c<U a) (n:c<U b),o8 e a[c] b[c])(d:Nat):er e (.map a d) (.map b d):=λi j f k l=>f h g d
def er.chan{e:aL G}(b:Nat)(g:cP e C qJ)(a:Bool)(s c:Nat)(d:Bool):er e (.chan b C a s c d) (.chan b qJ a s c d):=λh i j f k=>f b g a s c d
def er.number{b:aL G}(d:dS b R qP)(a:Bool):er b (.number R a) (.number qP a):=λe f g h c=>c d a
def er.ind{e:aL G}{f:∀(c:cj) (d:cj),er e c d->Prop}(cells:∀{g v:Array F} (h:cP e g v) (t:aK) (j:Nat×Nat),f _ _ (er.cells h t j))(map:∀{o p:Array gX} (l:U o=U p) (h:∀i (w:i<U o) (x:i<U p),o8 e o[i] p[i]) (k:Nat),f _ _ (er.map l h k))(chan:∀(n:Nat) {b q:Array F} (h:cP e b q) (g:Bool) (s r:Nat) (t:Bool),f _ _ (er.chan n h g s r t))(number:∀{a u:aN} (h:dS e a u) (m:Bool),f _ _ (er.number h m)){c:cj}{d:cj}(h:er e c d):f c d h:=(h (λc d=>er e c d/\∀h,f c d h) (λh t j=>⟨er.cells h t j,λ_=>cells h t j⟩) (λl h k=>⟨er.map l h k,λ_=>map l h k⟩) (λn {b} {q} h g s r t=>⟨er.chan n h g s r t,λ_=>chan n h g s r t⟩) (λh m=>⟨er.number h m,λ_=>number h m⟩)).2 h
def er.mono{d e:aL G}(b:d.le e)(a:er d Qk Ql):er e Qk Ql:=by
 cases a using er.ind with
 |cells a c g=>exact .cells (a.mono b) c g
 |map j a l=>exact .map j (λk h i=>(a k h i).mono b) l
 |chan n a f s o c=>exact .chan n (a.mono b) f s o c
 |number a m=>exact .number (a.mono b) m
structure eY(ρ:aL G)(bu:Nat)(w w':ag):Prop where
 gl:G.g<=U w.heap
 gr:G.g<=U w'.heap
 at_:∀b b',ρ.f b=K b'->∃o o',w.heap[b]? =K o/\w'.heap[b']? =K o'/\er ρ o o'
 tape:∀i q,i<bu->dV w (cm w+i) q=dV w' (cm w'+i) q
def tq:Halt->Bool
 | .stuck _=>af
 |pi (.initOrder _)=>ai
 |pi _=>af
 |_=>ai
def jU (f:aL G)(d:Halt)(e:Halt):Prop:=∀b:Halt->Halt->Prop,(∀{v c:F} (a:aG f v c),b (.panic v) (.panic c))->(∀(a:Halt) (g:tq a=af),b a a)->b d e
def jU.panic{a:aL G}(c:aG a v x):jU a (.panic v) (.panic x):=λd b e=>b c
def jU.same{d:aL G}{a:Halt}(c:tq a=af):jU d a a:=λe f b=>b a c
def jU.ind{e:aL G}{c:∀(a:Halt) (b:Halt),jU e a b->Prop}(panic:∀{v f:F} (h:aG e v f),c _ _ (jU.panic h))(same:∀(h:Halt) (d:tq h=true),c _ _ (jU.same d)){a:Halt}{b:Halt}(h:jU e a b):c a b h:=(h (λa b=>jU e a b/\∀h,c a b h) (λh=>⟨jU.panic h,λ_=>panic h⟩) (λh d=>⟨jU.same d,λ_=>same h d⟩)).2 h
end
section
variable {G:fo}{H:Nat}
def aC {Q J:Type}(P R:aW)(A:aL G->Q->J->Prop)(y:aL G)(z:bX Q)(C:bX J):Prop:=∀d:aL G->bX Q->bX J->Prop,(∀{a:aL G} {e:Q} {l:J} (f:A a e l),d a (.pure e) (.pure l))->(∀{a:aL G} {m:Mode} {e i:aN} {b:F->bX Q} {c:F->bX J} (p:dS a e i) (f:∀v o,aG a v o->d a (b v) (c o)),d a (.load m e b) (.load m i c))->(∀{a:aL G} {m:Mode} {e i:aN} {v o:F} {b:bX Q} {c:bX J} (p:dS a e i) (D:aG a v o) (f:d a b c),d a (.store m e v b) (.store m i o c))->(∀{a:aL G} {j k:cj} {b:Nat->bX Q} {c:Nat->bX J} (x:er a j k) (f:∀g h (w:xq a g h),d (a.ext g h w) (b g) (c h)),d a (.new j b) (.new k c))->(∀{a:aL G} {g h:Nat} {b:Option (aK×Nat)->bX Q} {c:Option (aK×Nat)->bX J} (q:a.f g=K h) (f:∀s,d a (b s) (c s)),d a (.shape g b) (.shape h c))->(∀{a:aL G} {e i:aN} {n:Nat} {b:bX Q} {c:bX J} (p:dS a e i) (f:d a b c),d a (.freeze e n b) (.freeze i n c))->(∀{a:aL G} {e i:aN} {b:Bool->bX Q} {c:Bool->bX J} (p:dS a e i) (f:∀l,d a (b l) (c l)),d a (.frozen e b) (.frozen i c))->(∀{a:aL G} {g h:Nat} {b:cj->bX Q} {c:cj->bX J} (q:a.f g=K h) (f:∀j k,er a j k->d a (b j) (c k)),d a (.getObj g b) (.getObj h c))->(∀{a:aL G} {g h:Nat} {j k:cj} {b:bX Q} {c:bX J} (q:a.f g=K h) (x:er a j k) (f:d a b c),d a (.setObj g j b) (.setObj h k c))->(∀{a:aL G} {r:Question} {b:Nat->bX Q} {c:Nat->bX J} (f:∀n,d a (b n) (c n)),d a (.choose r b) (.choose r c))->(∀{a:aL G} {b:aW->bX Q} {c:aW->bX J} (f:d a (b P) (c R)),d a (.program b) (.program c))->(∀{a:aL G} {b:bX Q} {c:bX J} (f:d a b c),d a (.mark .noRoom b) (.mark .noRoom c))->(∀{a:aL G} {t u:Halt} (f:jU a t u),d a (.halt t) (.halt u))->d y z C
def aC.pure{Q J:Type}{P R:aW}{A:aL G->Q->J->Prop}{c:aL G}{a:Q}{b:J}(e:A c a b):aC P R A c (.pure a) (.pure b):=λf d k l m n o p q r g h i j=>d e
def aC.load{Q J:Type}{P R:aW}{A:aL G->Q->J->Prop}{a:aL G}{m:Mode}{c:F->bX Q}{d:F->bX J}(u:dS a qP qQ)(t:∀v e,aG a v e->aC P R A a (c v) (d e)):aC P R A a (.load m qP c) (.load m qQ d):=λf g b l n o p q r s h i j k=>b u (λw x y=>t w x y f g b l n o p q r s h i j k)
def aC.store{Q J:Type}{P R:aW}{A:aL G->Q->J->Prop}{a:aL G}{m:Mode}{c:bX Q}{d:bX J}(t:dS a qP qQ)(u:aG a v x)(s:aC P R A a c d):aC P R A a (.store m qP v c) (.store m qQ x d):=λe f k b l n o p q r g h i j=>b t u (s e f k b l n o p q r g h i j)
def aC.new{Q J:Type}{P R:aW}{A:aL G->Q->J->Prop}{a:aL G}{e:Nat->bX Q}{f:Nat->bX J}(v:er a Qk Ql)(t:∀b c (u:xq a b c),aC P R A (a.ext b c u) (e b) (f c)):aC P R A a (.new Qk e) (.new Ql f):=λg h m n d o p q r s i j k l=>d v (λw x y=>t w x y g h m n d o p q r s i j k l)
def aC.shape{Q J:Type}{P R:aW}{A:aL G->Q->J->Prop}{a:aL G}{c:Option (aK×Nat)->bX Q}{d:Option (aK×Nat)->bX J}(v:a.f n=K m)(u:∀s,aC P R A a (c s) (d s)):aC P R A a (.shape n c) (.shape m d):=λe f k l o b p q r t g h i j=>b v (λw=>u w e f k l o b p q r t g h i j)
def aC.freeze{Q J:Type}{P R:aW}{A:aL G->Q->J->Prop}{a:aL G}{c:bX Q}{d:bX J}(t:dS a qP qQ)(s:aC P R A a c d):aC P R A a (.freeze qP n c) (.freeze qQ n d):=λe f k l m o b p q r g h i j=>b t (s e f k l m o b p q r g h i j)
def aC.frozen{Q J:Type}{P R:aW}{A:aL G->Q->J->Prop}{a:aL G}{d:Bool->bX Q}{e:Bool->bX J}(t:dS a qP qQ)(s:∀b,aC P R A a (d b) (e b)):aC P R A a (.frozen qP d) (.frozen qQ e):=λf g l m n o p c q r h i j k=>c t (λu=>s u f g l m n o p c q r h i j k)
def aC.getObj{Q J:Type}{P R:aW}{A:aL G->Q->J->Prop}{a:aL G}{c:cj->bX Q}{d:cj->bX J}(w:a.f n=K m)(v:∀e f,er a e f->aC P R A a (c e) (d f)):aC P R A a (.getObj n c) (.getObj m d):=λg h o p q r s t b u i j k l=>b w (λx y z=>v x y z g h o p q r s t b u i j k l)
def aC.setObj{Q J:Type}{P R:aW}{A:aL G->Q->J->Prop}{a:aL G}{c:bX Q}{d:bX J}(v:a.f n=K m)(u:er a Qk Ql)(t:aC P R A a c d):aC P R A a (.setObj n Qk c) (.setObj m Ql d):=λe f k l o p q r s b g h i j=>b v u (t e f k l o p q r s b g h i j)
def aC.choose{Q J:Type}{P R:aW}{A:aL G->Q->J->Prop}{f:aL G}{e:Question}{b:Nat->bX Q}{c:Nat->bX J}(t:∀d,aC P R A f (b d) (c d)):aC P R A f (.choose e b) (.choose e c):=λg h l m n o p q r s a i j k=>a (λu=>t u g h l m n o p q r s a i j k)
def aC.program{Q J:Type}{P R:aW}{A:aL G->Q->J->Prop}{d:aL G}{b:aW->bX Q}{c:aW->bX J}(r:aC P R A d (b P) (c R)):aC P R A d (.program b) (.program c):=λe f j k l m n o p q g a h i=>a (r e f j k l m n o p q g a h i)
def aC.room{Q J:Type}{P R:aW}{A:aL G->Q->J->Prop}{d:aL G}{b:bX Q}{c:bX J}(r:aC P R A d b c):aC P R A d (.mark .noRoom b) (.mark .noRoom c):=λe f j k l m n o p q g h a i=>a (r e f j k l m n o p q g h a i)
def aC.halt{Q J:Type}{P R:aW}{A:aL G->Q->J->Prop}{c:aL G}{a b:Halt}(e:jU c a b):aC P R A c (.halt a) (.halt b):=λf g k l m n o p q r h i j d=>d e
def aC.ind{Q J:Type}{P R:aW}{A:aL G->Q->J->Prop}{f:∀(u:aL G) (w:bX Q) (y:bX J),aC P R A u w y->Prop}(pure:∀{c:aL G} {a:Q} {b:J} (h:A c a b),f c (.pure a) (.pure b) (aC.pure h))(load:∀{c:aL G} {m:Mode} {a q:aN} {k:F->bX Q} {e:F->bX J} (j:dS c a q) (h:∀v z,aG c v z->aC P R A c (k v) (e z)),(∀d g i,f _ _ _ (h d g i))->f c (.load m a k) (.load m q e) (aC.load j h))(store:∀{c:aL G} {m:Mode} {a q:aN} {v z:F} {k:bX Q} {e:bX J} (j:dS c a q) (C:aG c v z) (h:aC P R A c k e),(f _ _ _ h)->f c (.store m a v k) (.store m q z e) (aC.store j C h))(new:∀{c:aL G} {o o':cj} {k:Nat->bX Q} {e:Nat->bX J} (t:er c o o') (h:∀r p (I:xq c r p),aC P R A (c.ext r p I) (k r) (e p)),(∀d g i,f _ _ _ (h d g i))->f c (.new o k) (.new o' e) (aC.new t h))(shape:∀{c:aL G} {r p:Nat} {k:Option (aK×Nat)->bX Q} {e:Option (aK×Nat)->bX J} (l:c.f r=some p) (h:∀s,aC P R A c (k s) (e s)),(∀d,f _ _ _ (h d))->f c (.shape r k) (.shape p e) (aC.shape l h))(freeze:∀{c:aL G} {a q:aN} {n:Nat} {k:bX Q} {e:bX J} (j:dS c a q) (h:aC P R A c k e),(f _ _ _ h)->f c (.freeze a n k) (.freeze q n e) (aC.freeze j h))(frozen:∀{c:aL G} {a q:aN} {k:Bool->bX Q} {e:Bool->bX J} (j:dS c a q) (h:∀b,aC P R A c (k b) (e b)),(∀d,f _ _ _ (h d))->f c (.frozen a k) (.frozen q e) (aC.frozen j h))(getObj:∀{c:aL G} {r p:Nat} {k:cj->bX Q} {e:cj->bX J} (l:c.f r=some p) (h:∀o o',er c o o'->aC P R A c (k o) (e o')),(∀d g i,f _ _ _ (h d g i))->f c (.getObj r k) (.getObj p e) (aC.getObj l h))(setObj:∀{c:aL G} {r p:Nat} {o o':cj} {k:bX Q} {e:bX J} (l:c.f r=some p) (t:er c o o') (h:aC P R A c k e),(f _ _ _ h)->f c (.setObj r o k) (.setObj p o' e) (aC.setObj l t h))(choose:∀{c:aL G} {D:Question} {k:Nat->bX Q} {e:Nat->bX J} (h:∀n,aC P R A c (k n) (e n)),(∀d,f _ _ _ (h d))->f c (.choose D k) (.choose D e) (aC.choose h))(program:∀{c:aL G} {k:aW->bX Q} {e:aW->bX J} (h:aC P R A c (k P) (e R)),(f _ _ _ h)->f c (.program k) (.program e) (aC.program h))(room:∀{c:aL G} {k:bX Q} {e:bX J} (h:aC P R A c k e),(f _ _ _ h)->f c (.mark .noRoom k) (.mark .noRoom e) (aC.room h))(halt:∀{c:aL G} {x E:Halt} (h:jU c x E),f c (.halt x) (.halt E) (aC.halt h)){u:aL G}{w:bX Q}{y:bX J}(h:aC P R A u w y):f u w y h:=(h (λu w y=>aC P R A u w y/\∀h,f u w y h) (λh=>⟨aC.pure h,λ_=>pure h⟩) (λj h=>⟨aC.load j (λd g i=>(h d g i).1),λ_=>load j (λd g i=>(h d g i).1) (λd g i=>(h d g i).2 _)⟩) (λj C h=>⟨aC.store j C h.1,λ_=>store j C h.1 (h.2 _)⟩) (λt h=>⟨aC.new t (λd g i=>(h d g i).1),λ_=>new t (λd g i=>(h d g i).1) (λd g i=>(h d g i).2 _)⟩) (λl h=>⟨aC.shape l (λd=>(h d).1),λ_=>shape l (λd=>(h d).1) (λd=>(h d).2 _)⟩) (λj h=>⟨aC.freeze j h.1,λ_=>freeze j h.1 (h.2 _)⟩) (λj h=>⟨aC.frozen j (λd=>(h d).1),λ_=>frozen j (λd=>(h d).1) (λd=>(h d).2 _)⟩) (λl h=>⟨aC.getObj l (λd g i=>(h d g i).1),λ_=>getObj l (λd g i=>(h d g i).1) (λd g i=>(h d g i).2 _)⟩) (λl t h=>⟨aC.setObj l t h.1,λ_=>setObj l t h.1 (h.2 _)⟩) (λh=>⟨aC.choose (λd=>(h d).1),λ_=>choose (λd=>(h d).1) (λd=>(h d).2 _)⟩) (λh=>⟨aC.program h.1,λ_=>program h.1 (h.2 _)⟩) (λh=>⟨aC.room h.1,λ_=>room h.1 (h.2 _)⟩) (λh=>⟨aC.halt h,λ_=>halt h⟩)).2 h
section
variable {P R:aW}{Q J S O:Type}{A:aL G->Q->J->Prop}{B:aL G->S->O->Prop}
def aC.bind{l:aL G}{s:bX Q}{n:bX J}{f:Q->bX S}{m:J->bX O}(g:aC P R A l s n)(b:∀i j e,l.le i->A i j e->aC P R B i (f j) (m e)):aC P R B l (s.bind f) (n.bind m):=by
 induction g using aC.ind with
 |pure g=>exact b _ _ _ (aL.le.refl _) g
 |load d _ a=>exact .load d (λv x k=>a v x k b)
 |store d k _ a=>exact .store d k (a b)
 |new h _ a=>exact .new h (λu w c=>a u w c (λi j e p o=>b i j e ((aL.I4 c).trans p) o))
 |shape c _ a=>exact .shape c (λs=>a s b)
 |freeze d _ a=>exact .freeze d (a b)
 |frozen d _ a=>exact .frozen d (λe=>a e b)
 |getObj c _ a=>exact .getObj c (λr t h=>a r t h b)
 |setObj c h _ a=>exact .setObj c h (a b)
 |choose _ a=>exact .choose (λq=>a q b)
 |program _ a=>exact .program (a b)
 |room _ a=>exact .room (a b)
 |halt g=>exact .halt g
end
def jx (b:aL G)(d:cK):Prop:=match d.loc with
 | .cell c=>∃a,b.f a=K (cH c)
 | .obj e=>∃a,b.f a=K e
 | .mark .noRoom=>True
 |_=>False
def jx.mono{e f:aL G}(d:e.le f)(c:jx e QT):jx f QT:=by
 unfold jx at*
 split<;>simp_all
 have⟨a,b⟩:=c;exact⟨a,d _ _ b⟩;have⟨a,b⟩:=c;exact⟨a,d _ _ b⟩
structure Fr(ρ σ:aL G)(w w1:ag):Prop where
 le:ρ.le σ
 os:w1.os=w.os
 output:fS w1=fS w
 tape:dV w1=dV w
 drawn:cm w<=cm w1
 size:U w.heap<=U w1.heap
 keep:∀b',(∀b,σ.f b≠K b')->b'<U w.heap->w1.heap[b']? =w.heap[b']?
 fresh:∀b b',σ.f b=K b'->ρ.f b=K b'\/U w.heap<=b'
 all:∀b',U w.heap<=b'->b'<U w1.heap->∃b,σ.f b=K b'
def Fr.refl(b:aL G)(a:ag):Fr b b a a:=⟨aL.le.refl _,rfl,rfl,rfl,aV _,aV _,λ_ _ _=>rfl,λ_ _ c=>aq c,λ_ e d=>absurd d aa⟩
def Fr.trans{i j k:aL G}(a:Fr i j w u)(b:Fr j k u W):Fr i k w W:=
 ⟨a.le.trans b.le,b.os.trans a.os,b.output.trans a.output,b.tape.trans a.tape,dj a.drawn b.drawn,dj a.size b.size,
  λc e h=>(b.keep c e (cL h a.size)).trans (a.keep c (λd l=>e d (b.le _ _ l)) h),
  λd c e=>by
   rcases b.fresh d c e with f|f;exact a.fresh d c f;exact an (dj a.size f),
  λc f m=>by
   rcases ij c (U u.heap) with g|g;have⟨d,e⟩:=a.all c f g;exact⟨d,b.le _ _ e⟩;exact b.all c g m⟩
def Result.drawn{Q:Type}:kP Q->Nat
 |b6 _ a=>cm a
 | .halt _ a=>cm a
def OM{Q:Type}(b:Ask Q):∀a:ag,cm a<=(a.ask b).2.drawn:=by
 induction b with
 |done b=>intro a;exact aV _
 |ask f e d c=>
  intro a;unfold World.ask;dsimp only
  split
  exact c _ a;exact dj (Nat.le_succ _) (c _ {a with drawn:=cm a+1})
def P_{a:Sys}:cm w<=(w.sys a).2.drawn:=by
 have b:=OM (Kernel.perform a w.os) w;unfold World.sys;generalize w.ask (Kernel.perform a w.os)=d at b;have⟨⟨c,e⟩,f⟩:=d;cases c<;>first|exact b|exact aV _
def aaH{P:aW}{b:List aN}(a:w.viewStore P qP Qc qQ v qV= .ok (u,b)):cm u=cm w:=by
 unfold World.viewStore at a;simp only[bind,Except.bind,pure,Except.pure,throw,throwThe,HK] at a
 repeat' split at a
 all_goals first
  |(cases a;rfl)
  |(cases a;done)
  |(simp at a;done)
def Sk{P:aW}{c:List aN}(a:w.farStore P qP v qV= .ok (u,c)):cm u=cm w:=by
 unfold vL at a
 split at a
 split at a
 rename_i b;cases a;exact aaH b;cases a;cases a
def Yo{Q:Type}{P:aW}{s:bX Q}:∀(a:ag) (c:Array cK),cm a<=Result.drawn (s.runT P a c).1:=by
 induction s with
 |pure e=>intro a c;exact aV _
 |load m e d b=>
  intro a c;simp only[en]
  split
  exact b _ a _
  split
  exact b _ a _;exact aV _
 |store m e v d b=>
  intro a c;cases v<;>simp only[en]<;>first|exact aV _|skip
  all_goals
   split
   split
   exact aV _;exact b (bg a e _) _
   split
   rename_i i;have:=Sk i;rw[<-this];exact b _ _;exact aV _
 |new f d b=>intro a c;simp only[en];exact b _ {a with heap:=gW a.heap f} _
 |shape g d b=>intro a c;simp only[en];exact b _ a _
 |freeze e j d b=>intro a c;simp only[en];exact dj (by unfold lY;split<;>exact aV _) (b (a.freeze e j) _)
 |frozen e d b=>intro a c;simp only[en];exact b _ a _
 |getObj g d b=>intro a c;simp only[en];split<;>first|exact aV _|exact b _ a _
 |setObj g f d b=>intro a c;simp only[en];split<;>first|exact aV _|exact b {a with heap:=cF a.heap g f} _
 |choose l d b=>
  intro a c;simp only[en]
  split
  exact b _ a _;exact dj (Nat.le_succ _) (b _ {a with drawn:=cm a+1} _)
 |sys h d b=>intro a c;simp only[en];exact dj P_ (b _ (a.sys h).2 _)
 |program d b=>intro a c;simp only[en];exact b _ a _
 |mark m d b=>intro a c;simp only[en];exact b a _
 |halt k=>intro a c;exact aV _
def iQ (b:Array cK):Prop:=∀a∈b,a.loc≠.output
def iQ.push(b:iQ QR)(c:QT.loc≠.output):iQ (gW QR QT):=λd a=>by
 rcases Array.mem_push.1 a with a|rfl;exact b d a;exact c
def fV {Q J:Type}(A:aL G->Q->J->Prop)(r:aL G)(k:Nat)(q:ag)(x:kP Q×Array cK)(y:kP J×Array cK):Prop:=∀e:kP Q×Array cK->kP J×Array cK->Prop,(∀{b:aL G} {g:Nat} {f:Q} {j:J} {a d:ag} {c h:Array cK} (s:A b f j) (v:eY b g a d) (u:Fr r b q d) (t:∀m∈h,jx b m) (o:cm a+g=k) (n:iQ c),e (b6 f a,c) (b6 j d,h))->(∀{b:aL G} {g:Nat} {i l:Halt} {a d:ag} {c h:Array cK} (w:jU b i l) (v:eY b g a d) (u:Fr r b q d) (t:∀m∈h,jx b m) (o:cm a+g=k) (n:iQ c),e (.halt i a,c) (.halt l d,h))->(∀{b:aL G} {f:Q} {j:J} {a:ag} {c:Array cK} {p:kP J×Array cK} (s:A b f j) (o:k<cm a) (n:iQ c),e (b6 f a,c) p)->(∀{b:aL G} {i l:Halt} {a:ag} {c:Array cK} {p:kP J×Array cK} (w:jU b i l) (o:k<cm a) (n:iQ c),e (.halt i a,c) p)->e x y
def fV.ok{Q J:Type}{A:aL G->Q->J->Prop}{d:aL G}{a:aL G}{b:Q}{c:J}(g:A a b c)(l:eY a m u W)(i:Fr d a w W)(h:∀f∈QS,jx a f)(k:cm u+m=n)(j:iQ QR):fV A d n w (b6 b u,QR) (b6 c W,QS):=λo e p q r=>e g l i h k j
def fV.halt{Q J:Type}{A:aL G->Q->J->Prop}{d:aL G}{a:aL G}{b c:Halt}(hx:jU a b c)(k:eY a m u W)(h:Fr d a w W)(g:∀f∈QS,jx a f)(j:cm u+m=n)(i:iQ QR):fV A d n w (.halt b u,QR) (.halt c W,QS):=λl o e p q=>e hx k h g j i
def fV.over{Q J:Type}{A:aL G->Q->J->Prop}{h:aL G}{i:aL G}{a:Q}{b:J}{g:kP J×Array cK}(d:A i a b)(f:n<cm u)(e:iQ QR):fV A h n w (b6 a u,QR) g:=λj k l c m=>c d f e
def fV.rO{Q J:Type}{A:aL G->Q->J->Prop}{g:aL G}{h:aL G}{a f:Halt}{e:kP J×Array cK}(hx:jU h a f)(d:n<cm u)(c:iQ QR):fV A g n w (.halt a u,QR) e:=λi j k l b=>b hx d c
def fV.ind{Q J:Type}{A:aL G->Q->J->Prop}{w:aL G}{t:Nat}{v:ag}{q:∀(o:kP Q×Array cK) (p:kP J×Array cK),fV A w t v o p->Prop}(ok:∀{g:aL G} {s:Nat} {a:Q} {b:J} {f n:ag} {i u:Array cK} (j:A g a b) (m:eY g s f n) (l:Fr w g v n) (k:∀e∈u,jx g e) (d:cm f+s=t) (c:iQ i),q (b6 a f,i) (b6 b n,u) (fV.ok j m l k d c))(halt:∀{g:aL G} {s:Nat} {x y:Halt} {f n:ag} {i u:Array cK} (hx:jU g x y) (m:eY g s f n) (l:Fr w g v n) (k:∀e∈u,jx g e) (d:cm f+s=t) (c:iQ i),q (.halt x f,i) (.halt y n,u) (fV.halt hx m l k d c))(over:∀{g:aL G} {a:Q} {b:J} {f:ag} {i:Array cK} {r:kP J×Array cK} (j:A g a b) (d:t<cm f) (c:iQ i),q (b6 a f,i) r (fV.over j d c))(rO:∀{g:aL G} {x y:Halt} {f:ag} {i:Array cK} {r:kP J×Array cK} (hx:jU g x y) (d:t<cm f) (c:iQ i),q (.halt x f,i) r (fV.rO hx d c)){o:kP Q×Array cK}{p:kP J×Array cK}(h:fV A w t v o p):q o p h:=(h (λo p=>fV A w t v o p/\∀h,q o p h) (λj m l k d c=>⟨fV.ok j m l k d c,λ_=>ok j m l k d c⟩) (λhx m l k d c=>⟨fV.halt hx m l k d c,λ_=>halt hx m l k d c⟩) (λj d c=>⟨fV.over j d c,λ_=>over j d c⟩) (λhx d c=>⟨fV.rO hx d c,λ_=>rO hx d c⟩)).2 h
def fV.after{Q J:Type}{A:aL G->Q->J->Prop}{k σ:aL G}{i:kP Q×Array cK}{j:kP J×Array cK}(h:Fr k σ w w1')(l:fV A σ n w1' i j):fV A k n w i j:=by
 cases l using fV.ind with
 |ok c f e d b a=>exact .ok c f (h.trans e) d b a
 |halt g f e d b a=>exact .halt g f (h.trans e) d b a
 |over c b a=>exact .over c b a
 |rO g b a=>exact .rO g b a
def fV.left{Q J:Type}{A:aL G->Q->J->Prop}{l o:aL G}{e:kP Q×Array cK}{j k:kP J×Array cK}(f:fV A l n w e j)(b:m<Result.drawn e.1):fV A o m u e k:=by
 cases f using fV.ind with
 |ok c i h g _ a=>exact .over c b a
 |halt d i h g _ a=>exact .rO d b a
 |over c _ a=>exact .over c b a
 |rO d _ a=>exact .rO d b a
def eY.lt{a:aL G}(b:eY a H w u)(e:a.f n=K m):n<U w.heap/\m<U u.heap:=by
 obtain⟨f,g,c,d,-⟩:=b.at_ n m e;exact⟨(dY.1 c).1,(dY.1 d).1⟩
structure vV(w W:ag)(b:Nat)(o:cj):Prop where
 at_:W.heap[b]? =K o
 other:∀c,c≠b->W.heap[c]? =w.heap[c]?
 size:U W.heap=U w.heap
 tape:dV W=dV w
 drawn:cm W=cm w
 os:W.os=w.os
 output:fS W=fS w
def eY.upd{d:aL G}(f:eY d H w u)(x:d.f n=K m)(p:er d Qk Ql)(b:vV w W n Qk)(c:vV u E m Ql):eY d H W E:=by
 refine⟨b5 b.size f.gl,b5 c.size f.gr,λe a h=>?_,λq t o=>by rw[b.tape,b.drawn,c.tape,c.drawn];exact f.tape q t o⟩;by_cases g:e=n;subst g;have:a=m:=bh;subst this;exact⟨Qk,Ql,b.at_,c.at_,p⟩;have i:a≠m:=λv=>g (d.inj e n a h bh);have⟨r,s,j,k,l⟩:=f.at_ e a h;exact⟨r,s,aB (b.other e g) j,aB (c.other a i) k,l⟩
def vV.fr{b:aL G}(h:b.f n=K m)(a:vV w u m Qk):Fr b b w u:=
 ⟨aL.le.refl _,a.os,a.output,a.tape,b5 a.drawn (aV _),b5 a.size (aV _),λc e _=>a.other c (λf=>e n bh),λ_ _ a=>aq a,λ_ g d=>absurd d (jG a.size)⟩
def Nq{a:Nat×Nat}(b:w.heap[cH qP]? =K (ax C Qc a))(v:F):vV w (bg w qP v) (cH qP) (ax (if lG qP.spot then C else cF C qP.off v) Qc a):=by
 refine⟨?_,λC c=>?_,by simp[bg],rfl,rfl,rfl,rfl⟩;simp[bg,uC,b];simp[bg,uC,Ne.symm c]
def Np(a:n≠0){b:Nat×Nat}(c:w.heap[cH qP]? =K (ax C Qc b)):vV w (w.freeze qP n) (cH qP) (ax C Qc (if b.1==b.2 then(qP.off,qP.off+n) else(min b.1 qP.off,max b.2 (qP.off+n)))):=by
 have⟨f,e⟩:=b;refine⟨?_,λC d=>?_,by simp[lY,a],by simp[lY,a],by simp[lY,a],by simp[lY,a],by simp[lY,a]⟩;simp[lY,a,uC,c];simp[lY,a,uC,Ne.symm d]
def vt(a:n≠0)(d:w.heap[cH qP]? =K Qk)(f:∀b g c,Qk≠ax b g c):vV w (w.freeze qP n) (cH qP) Qk:=by
 refine⟨?_,λb e=>?_,by simp[lY,a],by simp[lY,a],by simp[lY,a],by simp[lY,a],by simp[lY,a]⟩;simp only[lY,a,if_false,uC,d];cases Qk<;>first|rfl|exact absurd rfl (f _ _ _)
 simp[lY,a,uC,Ne.symm e]
def Nr(a:cj)(b:n<U w.heap):vV w {w with heap:=cF w.heap n a} n a:=
 ⟨by simp[nG,b],λd c=>by simp[wY (Ne.symm c)],aF,rfl,rfl,rfl,rfl⟩
def zv {k:aL G} (r:eY k H w u) (n:dS k qP qQ):(aA w qP=Z/\aA u qQ=Z/\(∀P a,w.farLoad P qP a= .error (.stuck "load: no such cell"))/\(∀P a,u.farLoad P qQ a= .error (.stuck "load: no such cell"))/\(∀P v a,w.farStore P qP v a= .error (.stuck "store: no such cell"))/\(∀P v a,u.farStore P qQ v a= .error (.stuck "store: no such cell")))\/
 ∃f g i h v j,w.heap[cH qP]? =K (ax f i h)/\u.heap[cH qQ]? =K (ax g i h)/\cP k f g/\aA w qP=K v/\aA u qQ=K j/\aG k v j:=by
 have⟨t,x,b,c,s⟩:=r.at_ _ _ n.1;have o:=n.2.1;have d:=n.2.2;cases s using er.ind with
 |cells p i h=>
  rename_i f g;cases e:qP.spot with
  |some y=>
   rw[e] at d;exact aq ⟨by simp[aA,b,e],by simp[aA,c,<-d],λP a=>by simp[xg,r6,b],λP a=>by simp[xg,r6,c],λP v a=>by simp[vL,r6,b],λP v a=>by simp[vL,r6,c]⟩
  |none=>
   rw[e] at d;rcases p.get qP.off with⟨l,m⟩|⟨v,j,l,m,q⟩;exact aq ⟨by simp[aA,b,e,l],by simp[aA,c,<-d,<-o,m],λP a=>by simp[xg,r6,b],λP a=>by simp[xg,r6,c],λP v a=>by simp[vL,r6,b],λP v a=>by simp[vL,r6,c]⟩;exact an ⟨f,g,i,h,v,j,b,c,p,by simp[aA,b,e,l],by simp[aA,c,<-d,<-o,m],q⟩
 |_=>exact aq ⟨by simp[aA,b],by simp[aA,c],λP a=>by simp[xg,r6,b],λP a=>by simp[xg,r6,c],λP v a=>by simp[vL,r6,b],λP v a=>by simp[vL,r6,c]⟩
def Jo{d:aL G}(e:eY d H w u)(c:dS d qP qQ):cU w qP=cU u qQ:=by
 have⟨i,j,a,b,f⟩:=e.at_ _ _ c.1;cases f using er.ind with
 |cells h k g=>simp[cU,a,b,c.2.1]
 |_=>simp[cU,a,b]
def Zv{c:aL G}(d:eY c H w u)(g:c.f n=K m):w.shape? n=u.shape? m:=by
 have⟨i,j,a,b,e⟩:=d.at_ _ _ g;cases e using er.ind with
 |cells f k h=>simp[World.shape?,a,b,f.1]
 |_=>simp[World.shape?,a,b]
def eY.fresh{b:aL G}(a:eY b H w u):xq b (U w.heap) (U u.heap):=by
 refine⟨?_,λe c=>?_,a.gl,a.gr⟩;cases d:b.f (U w.heap) with
 |none=>rfl
 |some f=>have:=(a.lt d).1;omega
 have:=(a.lt c).2;omega
def eY.new{d:aL G}(b:eY d H w u)(k:er d Qk Ql):eY (d.ext (U w.heap) (U u.heap) b.fresh) H {w with heap:=gW w.heap Qk} {u with heap:=gW u.heap Ql}/\Fr d (d.ext (U w.heap) (U u.heap) b.fresh) u {u with heap:=gW u.heap Ql}:=by
 have f:=aL.I4 b.fresh;refine⟨⟨by have:=b.gl;simp;omega,by have:=b.gr;simp;omega,λg c a=>?_,b.tape⟩,⟨f,rfl,rfl,rfl,aV _,aF,λc a l=>by simp[p6,Nat.ne_of_lt l],λg c a=>?_,λc h i=>⟨U w.heap,by
  have e:c=U u.heap:=bh;rw[e];exact aL.B7 _⟩⟩⟩
 unfold aL.ext at a;dsimp only at a
 split at a
 rename_i e;cases a;subst e;exact⟨Qk,Ql,aF,aF,k.mono f⟩;have⟨m,n,h,i,j⟩:=b.at_ g c a;have:=b.lt a;exact⟨m,n,by simp[p6,Nat.ne_of_lt this.1];simpa using h,by simp[p6,Nat.ne_of_lt this.2];simpa using i,j.mono f⟩;unfold aL.ext at a;dsimp only at a
 split at a
 cases a;exact an (aV _);exact aq a
def xQ{a:aL G}(c:∀QT∈QR,jx a QT)(d:jx a QT):∀b∈gW QR QT,jx a b:=λb e=>bh
def aC.runs{P R:aW}{Q J:Type}{A:aL G->Q->J->Prop}{u:aL G}{s:bX Q}{aI:bX J}(I:aC P R A u s aI):∀(b c:ag) (h i:Array cK) (H:Nat),eY u H b c->(∀j∈i,jx u j)->iQ h->fV A u (cm b+H) c (s.runT P b h) (aI.runT R c i):=by
 induction I using aC.ind with
 |pure I=>intro b c h i H a d e;exact .ok I a (Fr.refl _ _) d Y e
 |load k _ f=>
  intro b c h i H a d e;rcases zv a k with⟨l,g,p,Z,-⟩|⟨F,W,t,w,v,o,-,-,-,l,g,p⟩;simp only[en,l,g,p,Z];exact .halt (.same Y) a (Fr.refl _ _) d Y e;simp only[en,l,g];exact f v o p b c _ _ _ a (xQ d ⟨_,k.1⟩) (e.push aF)
 |store k aE _ f=>
  intro b c h i H a d e;rename_i u m n z v o x E _;have al:(∀y,v≠cw y)->(∀y,v≠cC y)->(∀y,o≠cw y)->(∀y,o≠cC y)->fV A u (cm b+H) c ((Sem.store m n v x).runT P b h) ((Sem.store m z o E).runT R c i):=by
   intro a2 a3 a4 a5;have ay:=Jo a k;rcases zv a k with⟨l,g,-,-,p,Z⟩|⟨F,W,t,w,ba,bb,aJ,aM,ar,l,g,p⟩;have M:(Sem.store m n v x).runT P b h=(.halt (.stuck "store: no such cell") b,h):=by cases v<;>first|exact absurd Y (a2 _)|exact absurd Y (a3 _)|simp only[en,l,p]
   have N:(Sem.store m z o E).runT R c i=(.halt (.stuck "store: no such cell") c,i):=by cases o<;>first|exact absurd Y (a4 _)|exact absurd Y (a5 _)|simp only[en,g,Z]
   rw[M,N];exact .halt (.same Y) a (Fr.refl _ _) d Y e;cases aH:cU b n with
   |true=>
    rw[aH] at ay;have M:(Sem.store m n v x).runT P b h=(.halt (pi (.unsafePointer "a write to bytes that a string shares")) b,h):=by cases v<;>simp_all [en]
    have N:(Sem.store m z o E).runT R c i=(.halt (pi (.unsafePointer "a write to bytes that a string shares")) c,i):=by cases o<;>simp_all [en]
    rw[M,N];exact .halt (.same Y) a (Fr.refl _ _) d Y e
   |false=>
    rw[aH] at ay;have M:(Sem.store m n v x).runT P b h=x.runT P (bg b n v) (h.push ⟨.cell n,af,m == .atomic⟩):=by cases v<;>simp_all [en]
    have N:(Sem.store m z o E).runT R c i=E.runT R (bg c z o) (i.push ⟨.cell z,af,m == .atomic⟩):=by cases o<;>simp_all [en]
    rw[M,N];have T:er u (.cells (if lG n.spot then F else cF F n.off v) t w) (.cells (if lG z.spot then W else cF W z.off o) t w):=by
     rw[<-k.2.1,<-k.2.2];refine .cells ?_ t w
     split
     exact ar;exact ar.set aE _
    have D:=Nq aM o;exact fV.after (D.fr k.1) (f _ _ _ _ _ (a.upd k.1 T (Nq aJ v) D) (xQ d ⟨_,k.1⟩) (e.push aF))
  cases aE using aG.ind with
  |agg aZ a0=>simp only[en];exact .halt (.same Y) a (Fr.refl _ _) d Y e
  |tuple aZ a0=>simp only[en];exact .halt (.same Y) a (Fr.refl _ _) d Y e
  |_=>exact al aF aF aF aF
 |new ae _ f=>
  intro b c h i H a d e;have⟨l,g⟩:=a.new ae;simp only[en];exact fV.after g (f _ _ a.fresh _ _ _ _ _ l (λj aY=>(d j aY).mono g.le) e)
 |shape r _ f=>
  intro b c h i H a d e;simp only[en];rw[Zv a r];exact f _ b c _ _ _ a d e
 |freeze k _ f=>
  intro b c h i H a d e;rename_i u n z L x E _;simp only[en];by_cases q:L=0;subst q;simp only[lY,if_pos];exact f b c _ _ _ a d e;have⟨ao,ap,l,g,p⟩:=a.at_ _ _ k.1;have aQ:cm b=cm (b.freeze n L):=by unfold lY;split<;>rfl
  rw[aQ];cases p using er.ind with
  |cells ab t w=>
   have D:=Np (n:=L) q g;have T:er u _ _:=.cells ab t (if w.1==w.2 then(n.off,n.off+L) else(min w.1 n.off,max w.2 (n.off+L)));have aD:=Np (n:=L) q l;rw[k.2.1] at aD T;exact fV.after (D.fr k.1) (f _ _ _ _ _ (a.upd k.1 T aD D) d e)
  |map aj ad a1=>exact fV.after ((vt q g (λ_ _ _ j=>cV j)).fr k.1) (f _ _ _ _ _ (a.upd k.1 (.map aj ad a1) (vt q l (λ_ _ _ j=>cV j)) (vt q g (λ_ _ _ j=>cV j))) d e)
  |chan F K X s V t=>exact fV.after ((vt q g (λ_ _ _ j=>cV j)).fr k.1) (f _ _ _ _ _ (a.upd k.1 (.chan F K X s V t) (vt q l (λ_ _ _ j=>cV j)) (vt q g (λ_ _ _ j=>cV j))) d e)
  |number K am=>exact fV.after ((vt q g (λ_ _ _ j=>cV j)).fr k.1) (f _ _ _ _ _ (a.upd k.1 (.number K am) (vt q l (λ_ _ _ j=>cV j)) (vt q g (λ_ _ _ j=>cV j))) d e)
 |frozen k _ f=>
  intro b c h i H a d e;simp only[en];rw[Jo a k];exact f _ b c _ _ _ a d e
 |getObj r _ f=>
  intro b c h i H a d e;have⟨ao,ap,l,g,p⟩:=a.at_ _ _ r;cases p using er.ind with
  |cells ab t w=>
   simp only[en,l,g];exact .halt (.same Y) a (Fr.refl _ _) d Y e
  |map aj ad x=>
   simp only[en,l,g];exact f _ _ (.map aj ad x) b c _ _ _ a (xQ d ⟨_,r⟩) (e.push aF)
  |chan F K X s V t=>
   simp only[en,l,g];exact f _ _ (.chan F K X s V t) b c _ _ _ a (xQ d ⟨_,r⟩) (e.push aF)
  |number K am=>
   simp only[en,l,g];exact f _ _ (.number K am) b c _ _ _ a (xQ d ⟨_,r⟩) (e.push aF)
 |setObj r ae _ f=>
  intro b c h i H a d e;rename_i u V a9 ao ap x E _;have⟨a7,a8,l,g,p⟩:=a.at_ _ _ r;cases p using er.ind with
  |cells ab t w=>
   simp only[en,l,g];exact .halt (.same Y) a (Fr.refl _ _) d Y e
  |_=>
   simp only[en,l,g];have az:=a.lt r;have D:=Nr (w:=c) ap az.2;exact fV.after (D.fr r) (f _ _ _ _ _ (a.upd r ae (Nr ao az.1) D) (xQ d ⟨_,r⟩) (e.push aF))
 |choose _ f=>
  intro b c h i H a d e;rename_i u C x E _;simp only[en]
  split
  exact f 0 b c _ _ _ a d e;cases H with
  |zero=>
   exact(f (C.cut (b.tape (cm b) C)) {b with drawn:=cm b+1} {c with tape:=λU y=>b.tape (cm b+1+(U-cm c)) y} h i (Result.drawn ((x (C.cut (b.tape (cm b) C))).runT P {b with drawn:=cm b+1} h).1) ⟨a.gl,a.gr,a.at_,λU y _=>aF⟩ d e).left (Yo {b with drawn:=cm b+1} h)
  |succ H=>
   have aw:=a.tape 0 C aa;simp only[s6] at aw;rw[aw];have al:=f (C.cut (c.tape (cm c) C)) {b with drawn:=cm b+1} {c with drawn:=cm c+1} h i H ⟨a.gl,a.gr,a.at_,λU C a6=>by
    have:=a.tape (1+U) C aa;simpa [gF] using this⟩ d e
   have j:cm b+(H+1)=cm b+1+H:=aa;rw[j];exact fV.after (σ:=u) (w1':={c with drawn:=cm c+1}) ⟨aL.le.refl _,rfl,rfl,rfl,aF,aV _,λ_ _ _=>rfl,λ_ _ I=>aq I,λ_ l g=>absurd g bO⟩ al
 |program _ f=>intro b c h i H a d e;simp only[en];exact f b c _ _ _ a d e
 |room _ f=>intro b c h i H a d e;simp only[en];exact f b c _ _ _ a (xQ d trivial) (e.push aF)
 |halt I=>intro b c h i H a d e;exact .halt I a (Fr.refl _ _) d Y e
end
section
variable {G:fo}
structure si(P P':aW):Prop where
 info:∀t,P'.info? t=P.info? t
 gN:∀t,gb P' t=gb P t
 rt:P'.rt=P.rt
 zero:∀t i v,P.info? t=K i->jL i=K v->∀(G:fo) (ρ:aL G),aG ρ v v
def ig (ρ:aL G)(e:List F)(f:List F):Prop:=∀a:List F->List F->Prop,(a [] [])->(∀{v d:F} {b c:List F} (g:aG ρ v d) (h:a b c),a (v::b) (d::c))->a e f
def ig.nil{ρ:aL G}:ig ρ [] []:=λb a c=>a
def ig.cons{ρ:aL G}(d:aG ρ v x)(e:ig ρ S qM):ig ρ (v::S) (x::qM):=λb c a=>a d (e b c a)
def ig.ind{ρ:aL G}{d:∀(a:List F) (b:List F),ig ρ a b->Prop}(nil:d _ _ (ig.nil))(cons:∀{v g:F} {e f:List F} (h:aG ρ v g) (c:ig ρ e f),(d _ _ c)->d _ _ (ig.cons h c)){a:List F}{b:List F}(h:ig ρ a b):d a b h:=(h (λa b=>ig ρ a b/\∀h,d a b h) (⟨ig.nil,λ_=>nil⟩) (λh c=>⟨ig.cons h c.1,λ_=>cons h c.1 (c.2 _)⟩)).2 h
theorem JX{ρ:aL G}:∀(c d:List F),I c=I d->(∀b (a:b<I c) (f:b<I d),aG ρ c[b] d[b])->ig ρ c d
 | [],[],_,_=>.nil
 | [],_::_,a,_=>by simp at a
 |_::_,[],a,_=>by simp at a
 |v::c,i::d,a,e=>.cons (e 0 aF aF) (JX c d (cM a) (λb g h=>e (b+1) bh bh))
def cP.toList{ρ:aL G}(a:cP ρ C qJ):ig ρ (dD C) (dD qJ):=
 JX _ _ (cM a.1) (λb c d=>cM (a.2 b aa aa))
def ig.toArray{ρ:aL G}(c:ig ρ S qM):cP ρ (cX S) (cX qM):=by
 induction c using ig.ind with
 |nil=>exact cP.nil _
 |cons d _ b=>
  refine⟨cM b.1,λa e f=>?_⟩;cases a with
  |zero=>exact d
  |succ a=>exact b.2 a bh bh
def dZ {α:Type}(_:aL G)(a b:α):Prop:=a=b
section
variable {P P':aW}{α J R Q:Type}{A:aL G->α->J->Prop}{B:aL G->R->Q->Prop}{ρ:aL G}
def aC.bindM{s:bX α}{e:bX J}{f:α->bX R}{d:J->bX Q}(g:aC P P' A ρ s e)(h:∀a b c,ρ.le a->A a b c->aC P P' B a (f b) (d c)):aC P P' B ρ (s >>= f) (e >>= d):=g.bind h
def aC.bI{a:α}{b:J}(c:A ρ a b):aC P P' A ρ (Pure.pure a) (Pure.pure b):=.pure c
def aC.stuck:aC P P' A ρ (Go.stuck QK) (Go.stuck QK):=.halt (.same Y)
def aC.fY{a:Unsupported}(b:tq (pi a)=af:=by rfl):aC P P' A ρ (Go.unsupported a) (Go.unsupported a):=.halt (.same b)
def aC.panics(a:aG ρ v x):aC P P' A ρ (Go.goPanic v) (Go.goPanic x):=.halt (.panic a)
def aC.asks{k:aW->bX α}{k':aW->bX J}(a:aC P P' A ρ (k P) (k' P')):aC P P' A ρ (Go.program >>= k) (Go.program >>= k'):=.program a
def uq(b:si P P'):aC P P' (λ_ (a c:TypeInfo)=>a=c/\P.info? Qc=K a) ρ (mE Qc) (mE Qc):=by
 unfold mE;refine .asks ?_;rw[b.info];cases d:P.info? Qc with
 |none=>exact .stuck
 |some a=>exact .bI ⟨rfl,rfl⟩
def iz(b:si P P'):aC P P' (λ_ (a c:TypeDesc)=>a=c/\gb P Qc=K a) ρ (rq Qc) (rq Qc):=by
 unfold rq;refine .asks ?_;rw[b.gN];cases d:gb P Qc with
 |none=>exact .stuck
 |some a=>exact .bI ⟨rfl,rfl⟩
def k7(a:si P P'):aC P P' (dZ (α:=Nat)) ρ (mD Qc) (mD Qc):=by
 unfold mD;exact(uq a).bindM (λe c d _ b=>.bI (gJ b.1))
def z3(a:si P P'):aC P P' aG ρ (kR Qc) (kR Qc):=by
 unfold kR;refine(uq a).bindM (λf b g _ c=>?_);obtain⟨rfl,d⟩:=c;cases e:b.zero with
 |none=>exact .fY
 |some v=>exact .bI (a.zero Qc b v d e _ f)
def KX(a:si P P'):aC P P' (dZ (α:=Bool)) ρ (isAgg Qc) (isAgg Qc):=by
 unfold isAgg;refine(iz a).bindM (λf c d _ b=>?_);obtain⟨rfl,e⟩:=b
 split<;>exact .bI Y
theorem K0:∀(n:Nat) {ρ:aL G} {b c:aN} (a:Nat) {d e:Array F},dS ρ b c->cP ρ d e->aC P P' cP ρ (loadCellsFrom b a n d) (loadCellsFrom c a n e)
 |0,ρ,b,c,a,d,e,g,f=>.bI f
 |n+1,ρ,b,c,a,d,e,g,f=>.load (g.add a) (λv i h=>K0 n (a+1) g (f.push h))
def KZ(a:dS ρ qP qQ):aC P P' cP ρ (loadCells qP n) (loadCells qQ n):=K0 n 0 a (cP.nil _)
theorem Bl:∀(f g:List F) {ρ:aL G} {b c:aN} (a:Nat),dS ρ b c->ig ρ f g->aC P P' (dZ (α:=Unit)) ρ (storeCells b f a) (storeCells c g a)
 | [],[],ρ,b,c,a,e,d=>.bI Y
 | [],_::_,ρ,b,c,a,e,d=>by cases d using ig.ind
 |_::_,[],ρ,b,c,a,e,d=>by cases d using ig.ind
 |v::j,l::k,ρ,b,c,a,e,d=>by
  cases d using ig.ind with
  |cons i h=>exact .store (e.add a) i (Bl j k (a+1) e h)
def K1(c:si P P')(d:dS ρ qP qQ):aC P P' aG ρ (loadVar Qc qP) (loadVar Qc qQ):=by
 unfold loadVar;refine(KX c).bindM (λk b f e a=>?_);cases a;cases b;exact .load (d.mono e) (λv j h=>.pure h);refine(k7 c).bindM (λi b f g a=>?_);cases a;exact(KZ (d.mono (e.trans g))).bindM (λi b f _ a=>.bI (.agg a.1 a.2))
def WO(f:si P P')(d:dS ρ qP qQ)(g:aG ρ v x):aC P P' (dZ (α:=Unit)) ρ (storeVar Qc qP v) (storeVar Qc qQ x):=by
 unfold storeVar;refine(k7 f).bindM (λj h i a c=>?_);cases c;have b:=g.cells;rw[<-b.1]
 split
 exact aC.stuck.bindM (A:=dZ (α:=PUnit)) (λk h i e c=>Bl _ _ 0 (d.mono (a.trans e)) (b.mono (a.trans e)).toList);exact Bl _ _ 0 (d.mono a) (b.mono a).toList
def Bi(a:cP ρ C qJ):aC P P' dS ρ (newRow Qc C) (newRow Qc qJ):=by
 unfold newRow;exact .new (.cells a Qc (0,0)) (λc d b=>.pure ⟨aL.B7 b,rfl,rfl⟩)
def K6(a:aG ρ v x):aC P P' dS ρ (newVar Qc v) (newVar Qc x):=Bi a.cells
def sH(e:si P P')(f:cP ρ C qJ):aC P P' aG ρ (part Qc C n) (part Qc qJ n):=by
 unfold part;refine(KX e).bindM (λl d j g c=>?_);cases c;cases d;rcases(f.mono g).get n with⟨a,b⟩|⟨v,k,a,b,h⟩;simp only[a,b];exact .stuck;simp only[a,b];exact .bI h;refine(k7 e).bindM (λm d j i c=>?_);cases c;have:=(f.mono (g.trans i)).extract n (n+d);exact .bI (.agg this.1 this.2)
def CP(a:aG ρ v x):aC P P' (dZ (α:=iX×Int)) ρ (asIntOf v) (asIntOf x):=by
 cases a using aG.ind with
 |int b c=>exact .bI Y
 |ptr a=>exact .fY
 |_=>exact .stuck
def ye(a:aG ρ v x):aC P P' (dZ (α:=Int)) ρ (asInt v) (asInt x):=by
 unfold asInt;exact(CP a).bindM (λd b c _ a=>by cases a;exact .bI Y)
def V6(a:aG ρ v x):aC P P' (dZ (α:=Bool)) ρ (asBool v) (asBool x):=by
 cases a using aG.ind with
 |bool b=>exact .bI Y
 |_=>exact .stuck
def pW(f:si P P'){A:aL G->α->J->Prop}(b:RuntimeError)(h:∀a c d m,b≠.typeAssertion a c d m)(i:∀e,b≠.unhashable e)(j:b≠.panicNil):aC P P' A ρ (runtimePanic b) (runtimePanic b):=by
 unfold runtimePanic;refine .asks ?_;rw[f.rt];cases b with
 |typeAssertion a c d m=>exact absurd Y (h _ _ _ _)
 |unhashable e=>exact absurd Y (i _)
 |panicNil=>exact absurd Y j
 |bounds l n s c=>exact .panics (.iface _ (.agg Y (λa g k=>by
  have:a=0\/a=1\/a=2\/a=3:=by simp at g;omega
  rcases this with rfl|rfl|rfl|rfl<;>first|exact .bool _|exact .int _ _)))
 |error m=>exact .panics (.iface _ (.string _))
 |plain m=>exact .panics (.iface _ (.string _))
 |nilDeref=>exact .panics (.iface _ (.string _))
def z0(b:si P P'){A:aL G->α->J->Prop}{e:BoundsCode}:aC P P' A ρ (boundsPanic Qv M qA e) (boundsPanic Qv M qA e):=by
 unfold boundsPanic
 split
 exact aC.bindM (A:=dZ (α:=Bool)) (aC.bind (A:=dZ (α:=Nat)) (aC.choose (λg=>.pure Y)) (λf c d _ a=>by cases a;exact .pure Y)) (λf c d _ a=>by cases a;exact pW b _ aF aF aF);refine aC.bindM (A:=dZ (α:=Bool)) (.bI Y) (λf c d _ a=>by cases a;exact pW b _ aF aF aF)
end
end
section
variable {G:fo}
structure Alike(G:fo)(P P':aW):Prop where
 S:si P P'
 cells:∀t,rj P' t=rj P t
 bytes:∀t,P'.bytesOf t=P.bytesOf t
 depth:P'.depth=P.depth
 k4:∀d e c o u n,liesAt P' d e c o u n=liesAt P d e c o u n
 cellAt:∀d e c o b,cellAtBytes P' d e c o b=cellAtBytes P d e c o b
 Eh:∀d t o,byteOfCell P' d t o=byteOfCell P d t o
 B6:∀d t,yQ P' d t=yQ P d t
 Dp:∀t,yS P' t=yS P t
 FG:∀d t,yR P' d t=yR P d t
 xY:U P.globals=G.g
 Jr:U P'.globals=G.g
 O6:∀f:Nat,G.b f=af->∃fn,P.funcs[f]? =K fn/\lF fn.body=ai/\(fn.name == "runtime.NumGoroutine")=ai
 EU:∀f:Nat,(P'.funcs[f]?).map (fun(x:cO)=>(x.name,lF x.body))=(P.funcs[f]?).map (fun(x:cO)=>(x.name,lF x.body))
section
variable {P P':aW}{J:aL G}
def Bm(a:aG J v x):aC P P' dS J (uG v) (uG x):=by
 cases a using aG.ind with
 |ptr a=>exact .bI a
 |_=>exact .stuck
def Wz(b:Alike G P P')(a:aG J v x):aC P P' aG J (Instr.loadAt Qc v) (Instr.loadAt Qc x):=
 (Bm a).bindM (λe c d _ a=>K1 b.S a)
def WN(b:Alike G P P')(a:aG J v x)(hx:aG J y z):aC P P' (dZ (α:=Unit)) J (Instr.storeAt Qc v y) (Instr.storeAt Qc x z):=
 (Bm a).bindM (λf d e c a=>WO b.S a (hx.mono c))
def Ld(b:J.f n=K m):aC P P' (λ_ (g h:Option (aN×aK))=>g=Z/\h=Z) J (viewAt n) (viewAt m):=by
 unfold viewAt;refine aC.bindM (A:=dZ (α:=Option (aK×Nat))) (.shape b (λs=>.pure Y)) (λl i j d c=>?_);cases c
 split
 exact .bI ⟨rfl,rfl⟩;refine aC.bindM (A:=er) (.getObj (d _ _ b) (λe f a=>.pure a)) (λo e f k a=>?_);cases a using er.ind<;>exact .bI ⟨rfl,rfl⟩
def FZ(a:dS J R qP):aC P P' (dZ (α:=Unit)) J (noView R) (noView qP):=by
 unfold noView;refine(Ld a.1).bindM (λf d e c b=>?_);obtain⟨rfl,rfl⟩:=b;exact .bI Y
def yf(a:Alike G P P')(b:dS J R qP):aC P P' (dZ (α:=Nat)) J (byteOf R) (byteOf qP):=by
 unfold byteOf;rw[<-b.2.2];cases h:R.spot with
 |some s=>exact .bI Y
 |none=>
  refine .asks ((FZ b).bindM (λj d f e c=>(aC.bindM (A:=dZ (α:=Option (aK×Nat))) (.shape (e _ _ b.1) (λs=>.pure Y)) (λk d f g c=>?_))));cases c;cases d with
  |none=>exact .stuck
  |some i=>
   simp only[a.cells,a.bytes,a.Eh,a.depth,<-b.2.1]
   split
   exact .bI Y
   split
   exact .bI Y;exact .stuck
def WJ(d:Alike G P P')(b:dS J R qP):aC P P' dS J (partAt R n m) (partAt qP n m):=by
 unfold partAt;refine(yf d b).bindM (λi g h f c=>?_);cases c;have a:dS i {block:=cH R,off:=R.off+n} {block:=cH qP,off:=qP.off+n}:=⟨f _ _ b.1,by show R.off+n=qP.off+n;rw[b.2.1],rfl⟩;refine(yf d a).bindM (λj g h e c=>?_);cases c;refine .bI ?_
 split
 exact a.mono e;exact⟨e _ _ a.1,a.2.1,rfl⟩
def Wn(a:Alike G P P')(b:dS J R qP){f:Field}:aC P P' dS J (fieldPlace R f) (fieldPlace qP f):=by
 unfold fieldPlace;refine(k7 a.S).bindM (λh e g c d=>?_);cases d
 split
 exact WJ a (b.mono c);exact .bI ((b.mono c).add _)
def Wm(b:Alike G P P'){s:aK}(a:aG J v x):aC P P' aG J (Instr.fieldAt s v f) (Instr.fieldAt s x f):=by
 unfold Instr.fieldAt;refine(iz b.S).bindM (λm i l h g=>?_);obtain⟨rfl,-⟩:=g;cases i with
 |struct e=>
  simp only;cases e[f]? with
  |none=>exact .stuck
  |some k=>exact(Bm (a.mono h)).bindM (λj c d _ a=>(Wn b a).bindM (λj c d _ a=>.bI (.ptr a)))
 |_=>exact .stuck
def V3(b:Alike G P P'):aC P P' aG J (Instr.alloc Qc af (cC #[])) (Instr.alloc Qc af (cC #[])):=by
 unfold Instr.alloc;exact(z3 b.S).bindM (λh f g e a=>(K6 a).bindM (λi c d _ a=>.bI (.ptr a)))
def V8(a:aG J v x):aC P P' aG J (Instr.box Qc v) (Instr.box Qc x):=by
 unfold Instr.box;exact(K6 a).bindM (λd b c _ a=>.bI (.ptr a))
def Wr(a:Alike G P P')(hx:aG J v x)(o:aG J y z):aC P P' aG J (Instr.indexAt Qc v y) (Instr.indexAt Qc x z):=by
 unfold Instr.indexAt;refine(CP o).bindM (λD j u p c=>?_);cases c;have⟨A,C⟩:=j;refine(iz a.S).bindM (λE e i q b=>?_);obtain⟨rfl,b⟩:=b;have h:=hx.mono (p.trans q);cases e with
 |array B n=>
  refine(Bm h).bindM (λH j t w f=>((iz a.S).bindM (λk e i d b=>?_)));obtain⟨rfl,-⟩:=b;dsimp only
  split
  exact(k7 a.S).bindM (λs v r g c=>by cases c;exact .bI (.ptr ((f.mono (d.trans g)).add _)))
  ·(repeat' split)<;>first|exact aC.fY|exact z0 a.S
 |slice n=>
  cases h using aG.ind with
  |mQ m l=>
   exact(iz a.S).bindM (λk e i d b=>(z0 a.S))
  |sl f m l=>
   refine(iz a.S).bindM (λk e i d b=>?_);obtain⟨rfl,-⟩:=b;dsimp only
   split
   exact(k7 a.S).bindM (λs v r g c=>by cases c;exact .bI (.ptr ((f.mono (d.trans g)).add _)))
   ·(repeat' split)<;>first|exact aC.fY|exact z0 a.S
  |_=>exact aC.stuck
 |_=>cases h using aG.ind<;>exact aC.stuck
def KS:aC P P' (dZ (α:=Unit)) J (askRoom n) (askRoom n):=by
 unfold askRoom
 split
 exact .room (.pure Y);exact .bI Y
def z2(b:Alike G P P')(d:aG J v x){a:BoundsCode}:aC P P' (dZ (α:=Nat)) J (Instr.sliceBound v n a) (Instr.sliceBound x n a):=by
 unfold Instr.sliceBound;refine(CP d).bindM (λi c f _ e=>?_);cases e;have⟨h,g⟩:=c;dsimp only
 split
 exact .bI Y;exact z0 b.S
def gR (J:aL G)(c:Option F)(d:Option F):Prop:=∀a:Option F->Option F->Prop,(a Z Z)->(∀{v b:F} (e:aG J v b),a (K v) (K b))->a c d
def gR.none{J:aL G}:gR J Z Z:=λb a c=>a
def gR.some{J:aL G}(b:aG J v x):gR J (K v) (K x):=λc d a=>a b
def gR.ind{J:aL G}{c:∀(a:Option F) (b:Option F),gR J a b->Prop}(none:c _ _ (gR.none))(some:∀{v d:F} (h:aG J v d),c _ _ (gR.some h)){a:Option F}{b:Option F}(h:gR J a b):c a b h:=(h (λa b=>gR J a b/\∀h,c a b h) (⟨gR.none,λ_=>none⟩) (λh=>⟨gR.some h,λ_=>some h⟩)).2 h
def gR.mono{d:aL G}(e:J.le d){b c:Option F}(a:gR J b c):gR d b c:=by
 cases a using gR.ind with
 |none=>exact .none
 |some a=>exact .some (a.mono e)
def Bj(b:Alike G P P'){l o j k p q:Option F}(g:gR J l o)(i:gR J j k)(r:gR J p q):aC P P' (dZ (α:=Nat×Nat×Nat)) J (Instr.sliceBounds qV n m l j p) (Instr.sliceBounds qV n m o k q):=by
 unfold Instr.sliceBounds;cases r using gR.ind with
 |none=>
  cases i using gR.ind with
  |none=>
   cases g using gR.ind with
   |none=>exact .bI Y
   |some d=>exact(z2 b d).bindM (λf c qV _ a=>by cases a;exact .bI Y)
  |some h=>
   refine(z2 b h).bindM (λf c qV e a=>?_);cases a;cases g using gR.ind with
   |none=>exact .bI Y
   |some d=>exact(z2 b (d.mono e)).bindM (λf c qV _ a=>by cases a;exact .bI Y)
 |some t=>
  refine(z2 b t).bindM (λf c qV e a=>?_);cases a;cases i using gR.ind with
  |none=>exact aC.stuck
  |some h=>
   refine(z2 b (h.mono e)).bindM (λu c qV s a=>?_);cases a;cases g using gR.ind with
   |none=>exact .bI Y
   |some d=>exact(z2 b (d.mono (e.trans s))).bindM (λf c qV _ a=>by cases a;exact .bI Y)
def WL(b:Alike G P P'){y z r t n o:Option F}(hx:aG J v x)(d:gR J y z)(e:gR J r t)(f:gR J n o):aC P P' aG J (Instr.slice Qc v y r n) (Instr.slice Qc x z t o):=by
 unfold Instr.slice;refine(iz b.S).bindM (λL p K j m=>?_);obtain⟨rfl,-⟩:=m;have hx:=hx.mono j;have d:=d.mono j;have e:=e.mono j;have f:=f.mono j;cases p with
 |string=>
  cases hx using aG.ind with
  |string s=>
   dsimp only;have D:lG n=lG o:=by cases f using gR.ind<;>rfl
   rw[D]
   split
   exact aC.stuck;exact(Bj b d e .none).bindM (λk i l _ a=>by cases a;exact .bI (.string _))
  |_=>exact aC.stuck
 |slice E=>
  cases hx using aG.ind with
  |mQ A C=>
   refine(Bj b d e f).bindM (λk i l _ a=>?_);cases a;refine(k7 b.S).bindM (λq v B _ a=>?_);cases a;refine .bI ?_
   split
   exact .mQ _ _;exact .mQ _ _
  |sl h A C=>
   refine(Bj b d e f).bindM (λk i l g a=>?_);cases a;refine(k7 b.S).bindM (λq v B c a=>?_);cases a;refine .bI ?_
   split
   exact .sl (h.mono (g.trans c)) _ _;exact .sl ((h.mono (g.trans c)).add _) _ _
  |_=>exact aC.stuck
 |pointer N=>
  have I:aC P P' dS L (asAddr v) (asAddr x):=by
   cases hx using aG.ind with
   |ptr H=>exact .bI H
   |hU=>exact pW b.S .nilDeref aF aF aF
   |_=>exact aC.stuck
  refine I.bindM (λk i M g h=>((iz b.S).bindM (λq p K c m=>?_)));obtain⟨rfl,-⟩:=m;cases p with
  |array A E=>
   refine(Bj b (d.mono (g.trans c)) (e.mono (g.trans c)) (f.mono (g.trans c))).bindM (λk i l u a=>?_);cases a;refine(k7 b.S).bindM (λq v B w a=>?_);cases a;refine .bI ?_
   split
   exact .sl (h.mono (c.trans (u.trans w))) _ _;exact .sl ((h.mono (c.trans (u.trans w))).add _) _ _
  |_=>exact aC.stuck
 |_=>cases hx using aG.ind<;>exact aC.stuck
def WM(b:Alike G P P'){m n i j o p:Option F}(hx:aG J v x)(e:gR J m n)(f:gR J i j)(g:gR J o p):aC P P' aG J (Instr.sliceAt Qc v m i o) (Instr.sliceAt Qc x n j p):=by
 unfold Instr.sliceAt;refine(iz b.S).bindM (λC t A a s=>?_);obtain⟨rfl,-⟩:=s;cases t with
 |array z y=>
  refine(Bm (hx.mono a)).bindM (λD q u r h=>?_);have d:=a.trans r;refine(Bj b (e.mono d) (f.mono d) (g.mono d)).bindM (λE q w k c=>?_);cases c;refine(k7 b.S).bindM (λH v B l c=>?_);cases c;refine .bI ?_
  split
  exact .sl (h.mono (k.trans l)) _ _;exact .sl ((h.mono (k.trans l)).add _) _ _
 |_=>exact WL b (hx.mono a) (e.mono a) (f.mono a) (g.mono a)
end
end
section
variable {G:fo}
section
variable {P Q:aW}{J:aL G}
def Dx(b:cP J C qJ)(d:Nat):cP J ((wZ d).map (C[· % U C]!)) ((wZ d).map (qJ[· % U qJ]!)):=by
 refine⟨by simp,λa g h=>?_⟩;simp only[Array.getElem_map,Array.getElem_range];have e:=b.1;by_cases f:0<U C;have c:a%U C<U C:=Nat.mod_lt _ f;rw[getElem!_pos C _ c,getElem!_pos qJ _ (by grind)];have:a%U qJ=a%U C:=by rw[e]
 simp only[this];exact b.2 _ c (by omega);rw[getElem!_neg C _ (by omega),getElem!_neg qJ _ (by omega)];exact .bool _
def z1(e:Alike G P Q){q r b c:Type}{d:aL G->b->c->Prop}{a:RuntimeError}(k:∀o h g m,a≠.typeAssertion o h g m)(l:∀p,a≠.unhashable p)(n:a≠.panicNil){f:q->bX b}{i:r->bX c}:aC P Q d J (runtimePanic a >>= f) (runtimePanic a >>= i):=
 (pW (A:=λ_ _ _=>False) e.S a k l n).bindM (λ_ _ _ _ j=>fe j)
def Bc{e g:Type}{b:aL G->e->g->Prop}{d:Question}{f:Nat->bX e}{c:Nat->bX g}(h:∀a,aC P Q b J (f a) (c a)):aC P Q b J (choose d >>= f) (choose d >>= c):=.choose (λa=>h a)
def WD(b:Alike G P Q)(j:aG J v x)(i:aG J y z):aC P Q aG J (yP Qc v y) (yP Qc x z):=by
 unfold yP;refine(iz b.S).bindM (λt m s g k=>?_);obtain⟨rfl,-⟩:=k;cases m with
 |slice n=>
  refine(ye (j.mono g)).bindM (λu c d h a=>?_);cases a;refine(ye (i.mono (g.trans h))).bindM (λw c d o a=>?_);cases a;refine(uq b.S).bindM (λA c d p a=>?_);obtain⟨rfl,-⟩:=a;dsimp only
  split
  split
  exact z1 b aF aF aF
  split
  exact z1 b aF aF aF;exact Bc (λr=>z1 b aF aF aF);refine(KS).bindM (λB c d q a=>((k7 b.S).bindM (λf c d _ a=>?_)));cases a
  split
  exact(Bi (Dx (cP.nil _) _)).bindM (λf c d _ e=>.bI (.sl e _ _));exact(z3 b.S).bindM (λf c d _ l=>((Bi (Dx l.cells _)).bindM (λf c d _ e=>.bI (.sl e _ _))))
 |_=>exact aC.stuck
def nP (J:aL G)(f:List (F×Nat))(g:List (F×Nat)):Prop:=∀a:List (F×Nat)->List (F×Nat)->Prop,(a [] [])->(∀{v e:F} (b:Nat) {c d:List (F×Nat)} (h:aG J v e) (i:a c d),a ((v,b)::c) ((e,b)::d))->a f g
def nP.nil{J:aL G}:nP J [] []:=λb a c=>a
def nP.cons{J:aL G}(a:Nat){c d:List (F×Nat)}(g:aG J v x)(h:nP J c d):nP J ((v,a)::c) ((x,a)::d):=λe f b=>b a g (h e f b)
def nP.ind{J:aL G}{d:∀(a:List (F×Nat)) (b:List (F×Nat)),nP J a b->Prop}(nil:d _ _ (nP.nil))(cons:∀{v i:F} (e:Nat) {f g:List (F×Nat)} (h:aG J v i) (c:nP J f g),(d _ _ c)->d _ _ (nP.cons e h c)){a:List (F×Nat)}{b:List (F×Nat)}(h:nP J a b):d a b h:=(h (λa b=>nP J a b/\∀h,d a b h) (⟨nP.nil,λ_=>nil⟩) (λ{v} {i} e {f} {g} h c=>⟨nP.cons e h c.1,λ_=>cons e h c.1 (c.2 _)⟩)).2 h
def kB (J:aL G)(f:List (Nat×F))(g:List (Nat×F)):Prop:=∀a:List (Nat×F)->List (Nat×F)->Prop,(a [] [])->(∀{v e:F} (b:Nat) {c d:List (Nat×F)} (h:aG J v e) (i:a c d),a ((b,v)::c) ((b,e)::d))->a f g
def kB.nil{J:aL G}:kB J [] []:=λb a c=>a
def kB.cons{J:aL G}(a:Nat)(e:aG J v x)(f:kB J H q4):kB J ((a,v)::H) ((a,x)::q4):=λc d b=>b a e (f c d b)
def kB.ind{J:aL G}{d:∀(a:List (Nat×F)) (b:List (Nat×F)),kB J a b->Prop}(nil:d _ _ (kB.nil))(cons:∀{v i:F} (e:Nat) {f g:List (Nat×F)} (h:aG J v i) (c:kB J f g),(d _ _ c)->d _ _ (kB.cons e h c)){a:List (Nat×F)}{b:List (Nat×F)}(h:kB J a b):d a b h:=(h (λa b=>kB J a b/\∀h,d a b h) (⟨kB.nil,λ_=>nil⟩) (λ{v} {i} e {f} {g} h c=>⟨kB.cons e h c.1,λ_=>cons e h c.1 (c.2 _)⟩)).2 h
def kB.mono{b:aL G}(c:J.le b)(a:kB J H q4):kB b H q4:=by
 induction a using kB.ind with
 |nil=>exact .nil
 |cons e a _ d=>exact .cons e (a.mono c) d
def ig.zip(b:ig J S qM):∀a,nP J (S.zipIdx a) (qM.zipIdx a):=by
 induction b using ig.ind with
 |nil=>exact λ_=>.nil
 |cons c _ d=>exact λa=>.cons a c (d (a+1))
def aaN{f g:List (F×Nat)}(b:nP J f g):∀{a e:Array F},cP J a e->cP J (f.foldl (λa (d,c)=>cF a (n+c) d) a) (g.foldl (λa (d,c)=>cF a (n+c) d) e):=by
 induction b using nP.ind with
 |nil=>exact λb=>b
 |cons c h _ i=>exact λb=>i (b.set h _)
def Hr{a:Nat->Option (Nat×Nat)}(h:kB J H q4):∀{b c:Array F},cP J b c->(tQ a b H=Z/\tQ a c q4=Z)\/∃f g,tQ a b H=K f/\tQ a c q4=K g/\cP J f g:=by
 induction h using kB.ind with
 |nil=>exact λd=>an ⟨_,_,rfl,rfl,d⟩
 |cons j i _ k=>
  intro b c d;have e:=i.cells;simp only[tQ];cases a j with
  |none=>exact aq ⟨rfl,rfl⟩
  |some l=>
   have⟨m,n⟩:=l;simp only[e.1,d.1]
   split
   exact aq ⟨rfl,rfl⟩;refine k ?_;rw[<-Array.foldl_toList,<-Array.foldl_toList,Array.toList_zipIdx,Array.toList_zipIdx];exact aaN (e.toList.zip 0) d
theorem K2{g e:Type}{b:g->bX e}:∀(a:List g) {J:aL G},(∀f,J.le f->∀x∈a,aC P Q (dZ (α:=e)) f (b x) (b x))->aC P Q (dZ (α:=List e)) J (a.mapM b) (a.mapM b)
 | [],J,c=>by rw[List.mapM_nil];exact .bI Y
 |x::a,J,c=>by
  rw[List.mapM_cons];refine(c J (aL.le.refl _) x (by simp)).bindM (λf i j k d=>?_);cases d;refine(K2 a (λh l n m=>c h (k.trans l) n (by simp[m]))).bindM (λh i j _ d=>?_);cases d;exact .bI Y
def WE{f c:Type}{a:f->bX c}{b:Array f}(g:∀d,J.le d->∀e∈dD b,aC P Q (dZ (α:=c)) d (a e) (a e)):aC P Q (dZ (α:=Array c)) J (b.mapM a) (b.mapM a):=by
 rw[Array.mapM_eq_mapM_toList];exact aC.bind (A:=dZ (α:=List c)) (K2 (dD b) g) (λd i j _ h=>by cases h;exact .pure Y)
def V9(g:Alike G P Q){n o:Array (Nat×F)}(r:kB J (dD n) (dD o)):aC P Q aG J (Instr.build Qc n) (Instr.build Qc o):=by
 unfold Instr.build;refine(z3 g.S).bindM (λx C D s h=>((iz g.S).bindM (λq v B l u=>?_)));obtain⟨rfl,-⟩:=u;have m:=r.mono (s.trans l);have h:=h.cells.mono l;cases v with
 |struct k=>
  have t:aC P Q (dZ (α:=Array (Nat×Nat))) q (k.mapM λf=>do pure (f.offset,<-mD f.type)) (k.mapM λf=>do pure (f.offset,<-mD f.type)):=
   WE (λx _ p _=>(k7 g.S).bindM (λq i j _ d=>by cases d;exact .bI Y))
  refine t.bindM (λy i j e d=>?_);cases d;rcases Hr (m.mono e) (h.mono e) with⟨a,b⟩|⟨p,w,a,b,c⟩;rw[a,b];exact aC.stuck;rw[a,b];exact .bI (.agg c.1 c.2)
 |array A z=>
  refine(k7 g.S).bindM (λy i j e d=>?_);cases d;rcases Hr (m.mono e) (h.mono e) with⟨a,b⟩|⟨p,w,a,b,c⟩;rw[a,b];exact aC.stuck;rw[a,b];exact .bI (.agg c.1 c.2)
 |_=>exact aC.stuck
def Wa(e:Alike G P Q){m o:Array (Nat×F)}(i:kB J (dD m) (dD o)):aC P Q aG J (yM Qc n m) (yM Qc n o):=by
 unfold yM;refine(iz e.S).bindM (λs z B v y=>?_);obtain⟨rfl,-⟩:=y;cases z with
 |slice q=>
  refine(k7 e.S).bindM (λA a p w u=>?_);cases u;have x:=i.mono (v.trans w);dsimp only;have r:∀{d:aL G} {b c:Array F},A.le d->cP d b c->aC P Q aG d (match tQ (λl=>K (l*a,a)) ((wZ (n*a)).map (b[· % U b]!)) (dD m) with|some f=>do pure (ah (K (<-newRow q f)) n n)|_=>stuck "buildSlice: a part of the wrong size") (match tQ (λl=>K (l*a,a)) ((wZ (n*a)).map (c[· % U c]!)) (dD o) with|some f=>do pure (ah (K (<-newRow q f)) n n)|_=>stuck "buildSlice: a part of the wrong size"):=by
   intro d b c j k;rcases Hr (x.mono j) (Dx k (n*a)) with⟨g,h⟩|⟨C,D,g,h,t⟩;rw[g,h];exact aC.stuck;rw[g,h];exact(Bi t).bindM (λs a p _ i=>.bI (.sl i _ _))
  split
  exact aC.fY
  split
  exact r (aL.le.refl _) (cP.nil _);exact(z3 e.S).bindM (λs a p j k=>r j k.cells)
 |_=>exact aC.stuck
def WB(a:Alike G P Q)(b:aG J v x):aC P Q aG J (Instr.makeInterface Qc v) (Instr.makeInterface Qc x):=by
 unfold Instr.makeInterface;refine(iz a.S).bindM (λg e f c d=>?_);obtain⟨rfl,-⟩:=d
 split
 exact aC.stuck;exact .bI (.iface Qc (b.mono c))
def WC(e:Alike G P Q){c d:Option F}(a:gR J c d):aC P Q aG J (Instr.makeMap Qc c) (Instr.makeMap Qc d):=by
 unfold Instr.makeMap;have b:∀{k:aL G},aC P Q aG k (do pure (.map (K (<-newObj (.map #[] 0))))) (do pure (.map (K (<-newObj (.map #[] 0))))):=.new (.map Y (λq f=>by simp at f) 0) (λs t h=>.pure (.map (aL.B7 h)));cases a using gR.ind with
 |none=>exact b
 |some a=>
  refine(iz e.S).bindM (λl j u g i=>?_);obtain⟨rfl,-⟩:=i;cases j with
  |map r o=>exact(ye (a.mono g)).bindM (λl m n _ p=>b)
  |_=>exact aC.stuck
def Wl(b:Alike G P Q)(a:aG J v x):aC P Q aG J (Instr.field Qc v n) (Instr.field Qc x n):=by
 unfold Instr.field;refine(iz b.S).bindM (λk i j d e=>?_);obtain⟨rfl,-⟩:=e;cases i with
 |struct c=>
  dsimp only;cases c[n]? with
  |none=>exact aC.stuck
  |some f=>
   have a:=a.mono d;cases a using aG.ind with
   |agg g h=>exact sH b.S ⟨g,h⟩
   |_=>exact aC.stuck
 |_=>exact aC.stuck
def Wq(a:Alike G P Q)(b:aG J v x)(f:aG J y z):aC P Q aG J (Instr.index Qc v y) (Instr.index Qc x z):=by
 unfold Instr.index;refine(CP f).bindM (λt d e g c=>?_);cases c;have⟨o,q⟩:=d;refine(iz a.S).bindM (λu m r h j=>?_);obtain⟨rfl,-⟩:=j;have b:=b.mono (g.trans h);cases m with
 |array p n=>
  cases b using aG.ind with
  |agg k l=>
   dsimp only
   split
   exact(k7 a.S).bindM (λw d e i c=>by cases c;exact sH a.S (cP.mono i ⟨k,l⟩));exact z0 a.S
  |_=>exact aC.stuck
 |string=>
  cases b using aG.ind with
  |string s=>
   dsimp only
   split
   exact .bI (.int _ _);exact z0 a.S
  |_=>exact aC.stuck
 |_=>cases b using aG.ind<;>exact aC.stuck
def Wj(c:aG J v x):aC P Q aG J (Instr.extract v n) (Instr.extract x n):=by
 cases c using aG.ind with
 |tuple e f=>
  simp only[Instr.extract];rcases cP.get ⟨e,f⟩ n with⟨a,b⟩|⟨v,x,a,b,d⟩;rw[a,b];exact aC.stuck;rw[a,b];exact .bI d
 |_=>exact aC.stuck
def WS{a:UnOp}(b:aG J v x):aC P Q aG J (Op.unary a v) (Op.unary a x):=by
 cases b using aG.ind<;>cases a<;>simp only[Op.unary,Op.intArith,Op.intBits]<;>first|exact aC.stuck|exact aC.fY|exact .bI (.int _ _)|exact .bI (.bool _)
end
end
section
variable {G:fo}
section
variable {P J:aW}{ρ:aL G}
def xE{a a' b b':aN}(e:dS ρ a a')(f:dS ρ b b'):(cH a==cH b)=(cH a'==cH b'):=by
 rw[rX];simp only[beq_iff_eq];constructor;intro c;have d:=e.1;rw[c,f.1] at d;exact bA (Az d);intro c;exact ρ.inj _ _ _ e.1 (b5 c f.1)
def addr_eq(d:dS ρ R qP)(e:dS ρ qQ qR):(R==qQ)=(qP==qR):=by
 have a:=xE d e;have b:=d.2;have c:=e.2;have⟨f,g,h⟩:=R;have⟨i,j,k⟩:=qP;have⟨l,m,n⟩:=qQ;have⟨u1,u2,u3⟩:=qR;simp only at a b c;obtain⟨rfl,rfl⟩:=b;obtain⟨rfl,rfl⟩:=c;rw[rX] at a ⊢;simp only[beq_iff_eq] at a;simp only[beq_iff_eq,r3,a]
def Bg(a:dS ρ R qP):aC P J (dZ (α:=Bool)) ρ (frozen R) (frozen qP):=.frozen a (λb=>.pure Y)
def yg(a:ρ.f n=K m):aC P J (dZ (α:=Option (aK×Nat))) ρ (shape n) (shape m):=.shape a (λb=>.pure Y)
def Lb(a:dS ρ R qP):aC P J (dZ (α:=Bool)) ρ (stringish R) (stringish qP):=by
 unfold stringish;refine(Bg a).bindM (λh d f c b=>?_);cases b
 split
 exact .bI Y;refine(yg (c _ _ a.1)).bindM (λi d f e b=>?_);cases b;cases d with
 |none=>exact .bI Y
 |some g=>exact Bg ⟨e _ _ (c _ _ a.1),rfl,rfl⟩
def WG(e:dS ρ R qP)(f:dS ρ qQ qR):aC P J (dZ (α:=Bool)) ρ (mayBeOne R qQ) (mayBeOne qP qR):=by
 unfold mayBeOne;have i:∀{d:aL G} {b j:aN},dS d b j->aC P J (dZ (α:=Bool)) d (do pure ((<-shape (cH b)) matches K (_,0))) (do pure ((<-shape (cH j)) matches K (_,0))):=λl=>(yg l.1).bindM (λo b k _ a=>by cases a;exact .bI Y);refine(Lb e).bindM (λd b k c a=>?_);cases a;refine(Lb (f.mono c)).bindM (λo k q g a=>?_);cases a;refine(i (e.mono (c.trans g))).bindM (λp m n h a=>?_);cases a;refine(i (f.mono (c.trans (g.trans h)))).bindM (λp m n h a=>?_);cases a;exact .bI Y
def La(b:dS ρ R qP)(c:dS ρ qQ qR):aC P J (dZ (α:=Bool)) ρ (sameAddr R qQ) (sameAddr qP qR):=by
 unfold sameAddr;rw[xE b c,addr_eq b c]
 split
 exact .bI Y;refine(Bg b).bindM (λp n k d a=>?_);cases a;refine(Bg (c.mono d)).bindM (λq k o e a=>?_);cases a
 split
 exact aC.fY;refine(FZ (b.mono (d.trans e))).bindM (λr h i f a=>((FZ (c.mono (d.trans (e.trans f)))).bindM (λs h i j a=>?_)));have g:=d.trans (e.trans (f.trans j));refine(WG (b.mono g) (c.mono g)).bindM (λt h i l a=>?_);cases a
 split
 exact Bc (λm=>.bI Y);exact .bI Y
theorem Bf{i c:Type}{f h:i->c->bX (ForInStep c)}:∀(b:List i) {ρ:aL G} (a:c),(∀g,ρ.le g->∀x∈b,∀a,aC P J (dZ (α:=ForInStep c)) g (f x a) (h x a))->aC P J (dZ (α:=c)) ρ (forIn b a f) (forIn b a h)
 | [],ρ,a,d=>by simp only[List.forIn_nil];exact .bI Y
 |x::b,ρ,a,d=>by
  simp only[List.forIn_cons];refine(d ρ (aL.le.refl _) x aF a).bindM (λg e p l k=>?_);cases k;cases e with
  |done a=>exact .bI Y
  |yield a=>exact Bf b a (λo m e n j=>d o (l.trans m) e (by simp[n]) j)
def FX{g b:Type}{f d:g->b->bX (ForInStep b)}{c:Array g}{a:b}(i:∀h,ρ.le h->∀e∈dD c,∀a,aC P J (dZ (α:=ForInStep b)) h (f e a) (d e a)):aC P J (dZ (α:=b)) ρ (forIn c a f) (forIn c a d):=by
 rw[<-Array.forIn_toList,<-Array.forIn_toList];exact Bf _ _ i
def vm{h i b c:Type}{d:aL G->b->c->Prop}{a:Unsupported}{f:h->bX b}{e:i->bX c}(g:tq (pi a)=af:=by rfl):aC P J d ρ (unsupported a >>= f) (unsupported a >>= e):=.halt (.same g)
def WR(a:Alike G P J):aC P J (dZ (α:=String)) ρ (typeStr Qc) (typeStr Qc):=by
 unfold typeStr;refine(uq a.S).bindM (λe c d _ b=>?_);obtain⟨rfl,-⟩:=b;dsimp only
 split
 exact aC.fY;exact .bI Y
def K7(e:ρ.f n=K m):aC P J (λh (f g:Option (aN×Bool))=>(f=Z/\g=Z)\/∃a d c,f=K (a,c)/\g=K (d,c)/\dS h a d) ρ (numberAt n) (numberAt m):=by
 unfold numberAt;refine(yg e).bindM (λh a p k j=>?_);cases j
 split
 exact .bI (aq ⟨rfl,rfl⟩);refine aC.bindM (A:=er) (.getObj (k _ _ e) (λl o b=>.pure b)) (λr l o q b=>?_);cases b using er.ind with
 |number i c=>exact .bI (an ⟨_,_,_,rfl,rfl,i⟩)
 |_=>exact .bI (aq ⟨rfl,rfl⟩)
def vl(c:dS ρ R qP):aC P J (λd (a b:aN×Bool)=>dS d a.1 b.1/\a.2=b.2) ρ (pu R) (pu qP):=by
 unfold pu;refine(K7 c.1).bindM (λd a b g e=>?_);rcases e with⟨rfl,rfl⟩|⟨h,i,j,rfl,rfl,f⟩;exact .bI ⟨c.mono g,rfl⟩;exact .bI ⟨f,rfl⟩
theorem CR(c:Alike G P J):∀(d:Nat) {ρ:aL G} (x:aK) {p y q z:F},aG ρ p y->aG ρ q z->aC P J (dZ (α:=Bool)) ρ (Op.equalIn d x p q) (Op.equalIn d x y z)
 |0,ρ,x,p,y,q,z,e,a=>by unfold Op.equalIn;exact aC.fY
 |d+1,ρ,x,p,y,q,z,e,a=>by
  unfold Op.equalIn;refine(iz c.S).bindM (λaa U aw I K=>?_);obtain⟨rfl,K⟩:=K;have e:=e.mono I;have a:=a.mono I;cases U with
  |struct ae=>
   cases e using aG.ind with
   |agg k o=>
    cases a using aG.ind with
    |agg C D=>
     dsimp only;refine .asks ?_;rw[c.Dp]
     split
     exact vm;refine aC.bindM (A:=dZ) (FX (λr g f _ i=>?_)) (λr h i g b=>?_)
     split
     refine(sH c.S (cP.mono g ⟨k,o⟩)).bindM (λA v V s u=>((sH c.S (cP.mono (g.trans s) ⟨C,D⟩)).bindM (λB W X j E=>((CR c d f.type (u.mono j) E).bindM (λab h i _ b=>?_)))));cases b
     split<;>exact .bI Y
     exact .bI Y;cases b
     split<;>exact .bI Y
    |_=>exact aC.stuck
   |_=>cases a using aG.ind<;>exact aC.stuck
  |array ao w=>
   cases e using aG.ind with
   |agg k o=>
    cases a using aG.ind with
    |agg C D=>
     dsimp only;refine(k7 c.S).bindM (λr t S g b=>?_);cases b;rw[zk,zk];refine aC.bindM (A:=dZ) (Bf _ _ (λA s al _ i=>?_)) (λr h i g b=>?_);refine(sH c.S (cP.mono (g.trans s) ⟨k,o⟩)).bindM (λA v V j u=>((sH c.S (cP.mono (g.trans (s.trans j)) ⟨C,D⟩)).bindM (λB W X j E=>((CR c d w (u.mono j) E).bindM (λab h i _ b=>?_)))));cases b
     split<;>exact .bI Y
     cases b
     split<;>exact .bI Y
    |_=>exact aC.stuck
   |_=>cases a using aG.ind<;>exact aC.stuck
  |interface ap=>
   cases e using aG.ind with
   |nilIface=>cases a using aG.ind<;>first|exact aC.stuck|exact .bI Y
   |iface T u=>
    cases a using aG.ind with
    |nilIface=>exact .bI Y
    |iface ar Q=>
     dsimp only
     split
     exact .bI Y;refine(uq c.S).bindM (λr h i g b=>?_);obtain⟨rfl,-⟩:=b
     split
     refine .asks (.asks ?_);rw[c.FG,c.depth]
     split
     exact vm;exact(WR c).bindM (λr h i _ b=>by cases b;exact pW c.S _ aF aF aF);exact CR c d T (u.mono g) (Q.mono g)
    |_=>exact aC.stuck
   |_=>cases a using aG.ind<;>exact aC.stuck
  |pointer w=>
   cases e using aG.ind with
   |hU=>cases a using aG.ind<;>first|exact aC.stuck|exact .bI Y
   |ptr l=>
    cases a using aG.ind with
    |hU=>exact .bI Y
    |ptr n=>
     dsimp only;refine(k7 c.S).bindM (λr t S g b=>?_);cases b;rw[addr_eq l n]
     split
     exact La (l.mono g) (n.mono g)
     split
     exact .bI Y;exact Bc (λt=>.bI Y)
    |_=>exact aC.stuck
   |_=>cases a using aG.ind<;>exact aC.stuck
  |unsafePointer=>
   cases e using aG.ind with
   |hU=>cases a using aG.ind<;>first|exact aC.stuck|exact .bI Y
   |ptr l=>
    cases a using aG.ind with
    |hU=>exact .bI Y
    |ptr n=>exact La l n
    |_=>exact aC.stuck
   |_=>cases a using aG.ind<;>exact aC.stuck
  |chan ad w=>
   cases e using aG.ind with
   |rK=>cases a using aG.ind<;>first|exact aC.stuck|exact .bI Y
   |chan l=>
    cases a using aG.ind with
    |rK=>exact .bI Y
    |chan n=>
     refine .bI ?_;have:=xE (ρ:=aa) (a:=⟨_,0,Z⟩) (a':=⟨_,0,Z⟩) (b:=⟨_,0,Z⟩) (b':=⟨_,0,Z⟩) ⟨l,rfl,rfl⟩ ⟨n,rfl,rfl⟩;simpa [dZ] using this
    |_=>exact aC.stuck
   |_=>cases a using aG.ind<;>exact aC.stuck
  |int H=>
   cases e using aG.ind with
   |int R h=>
    rcases h with(_|t)|t
    all_goals
     cases a using aG.ind with
     |int am i=>
      rcases i with(_|m)|m
      all_goals
       dsimp only
       split
       exact .bI Y;exact aC.stuck
     |ptr aj=>first|exact .bI Y|exact aC.fY
     |hU=>exact aC.fY
     |_=>exact aC.stuck
   |hU=>cases a using aG.ind<;>exact aC.fY
   |ptr l=>
    cases a using aG.ind with
    |ptr n=>
     dsimp only;refine(vl l).bindM (λr h i g b=>((vl (n.mono g)).bindM (λA L M s N=>?_)));have k:=b.1.mono s;have o:=N.1;refine .asks ?_;rw[xE k o,c.xY,c.Jr];have O:decide (cH h.1<G.g)=decide (cH i.1<G.g):=by
      rw[decide_eq_decide];exact A.Cf _ _ k.1
     rw[O]
     split
     refine(yf c k).bindM (λB p q j b=>?_);cases b;refine(yf c (o.mono j)).bindM (λB p q j b=>?_);cases b;exact .bI Y
     .refine(uq c.S).bindM (λB p q j b=>?_);obtain⟨rfl,-⟩:=b;rw[addr_eq k o]
      (repeat' split)<;>first|exact aC.fY|exact .bI Y
    |int R h=>
     rcases h with(_|t)|t;exact .bI Y;exact aC.fY;exact aC.fY
    |_=>exact aC.fY
   |_=>cases a using aG.ind<;>first|exact aC.stuck|exact aC.fY
  |slice w=>cases e using aG.ind<;>first|exact aC.stuck|(cases a using aG.ind<;>first|exact aC.stuck|exact .bI Y)
  |map H M=>cases e using aG.ind<;>first|exact aC.stuck|(cases a using aG.ind<;>first|exact aC.stuck|exact .bI Y)
  |func h i L=>cases e using aG.ind<;>first|exact aC.stuck|(cases a using aG.ind<;>first|exact aC.stuck|exact .bI Y)
  |bool=>cases e using aG.ind<;>first|exact aC.stuck|(cases a using aG.ind<;>first|exact aC.stuck|exact .bI Y)
  |string=>cases e using aG.ind<;>first|exact aC.stuck|(cases a using aG.ind<;>first|exact aC.stuck|exact .bI Y)
  |float H=>cases e using aG.ind<;>first|exact aC.stuck|(cases a<;>first|exact aC.stuck|(dsimp only;split<;>first|exact .bI Y|exact aC.stuck))
  |complex H=>cases e using aG.ind<;>first|exact aC.stuck|(cases a<;>first|exact aC.stuck|(dsimp only;split<;>first|exact .bI Y|exact aC.stuck))
  |_=>cases e using aG.ind<;>first|exact aC.stuck|(cases a<;>exact aC.stuck)
end
end
section
variable {G:fo}
section
variable {P J:aW}{ρ:aL G}
def FW(a:Alike G P J)(hx:aG ρ v x)(hy:aG ρ y z):aC P J (dZ (α:=Bool)) ρ (Op.equal Qc v y) (Op.equal Qc x z):=CR a _ Qc hx hy
theorem FV(c:Alike G P J):∀(d:Nat) {ρ:aL G} (k:aK) {l m n o:F},aG ρ l m->aG ρ n o->aC P J (dZ (α:=Bool)) ρ (Op.eqGuardIn d k l n) (Op.eqGuardIn d k m o)
 |0,ρ,k,l,m,n,o,g,b=>by unfold Op.eqGuardIn;exact aC.fY
 |d+1,ρ,k,l,m,n,o,g,b=>by
  unfold Op.eqGuardIn;refine(iz c.S).bindM (λT C S y z=>?_);obtain⟨rfl,z⟩:=z;have g:=g.mono y;have b:=b.mono y;cases C with
  |struct L=>
   cases g using aG.ind with
   |agg q r=>
    cases b using aG.ind with
    |agg s t=>
     dsimp only;refine aC.bindM (A:=dZ) (FX (λx e f _ h=>?_)) (λx p h e a=>?_)
     split
     refine(sH c.S (cP.mono e ⟨q,r⟩)).bindM (λA v D j u=>((sH c.S (cP.mono (e.trans j) ⟨s,t⟩)).bindM (λI E H i w=>((FV c d f.type (u.mono i) w).bindM (λK p h _ a=>?_)))));cases a
     split<;>exact .bI Y
     exact .bI Y;cases a
     split<;>exact .bI Y
    |_=>exact .bI Y
   |_=>cases b using aG.ind<;>exact .bI Y
  |array N B=>
   cases g using aG.ind with
   |agg q r=>
    cases b using aG.ind with
    |agg s t=>
     dsimp only;refine(k7 c.S).bindM (λx Q R e a=>?_);cases a;rw[zk,zk];refine aC.bindM (A:=dZ) (Bf _ _ (λA j M _ h=>?_)) (λx p h e a=>?_);refine(sH c.S (cP.mono (e.trans j) ⟨q,r⟩)).bindM (λA v D i u=>((sH c.S (cP.mono (e.trans (j.trans i)) ⟨s,t⟩)).bindM (λI E H i w=>((FV c d B (u.mono i) w).bindM (λK p h _ a=>?_)))));cases a
     split<;>exact .bI Y
     cases a
     split<;>exact .bI Y
    |_=>exact .bI Y
   |_=>cases b using aG.ind<;>exact .bI Y
  |interface O=>cases g using aG.ind<;>first|exact .bI Y|(cases b using aG.ind<;>exact .bI Y)
  |_=>cases g using aG.ind<;>first|exact .bI Y|(cases b<;>exact .bI Y)
def Wh(c:Alike G P J){e:kM}(d:aG ρ v x)(a:aG ρ y z):aC P J (dZ (α:=Unit)) ρ (eqGuard e Qc Qp Qq v y) (eqGuard e Qc Qp Qq x z):=by
 have g:∀{b:aL G} {s:String} {v x y z:F},aG b v x->aG b y z->aC P J (dZ (α:=Unit)) b (do if <-Op.eqGuardIn Op.maxDepth Qc v y then unsupported (.noEntry s)) (do if <-Op.eqGuardIn Op.maxDepth Qc x z then unsupported (.noEntry s)):=λd a=>
  (FV c _ Qc d a).bindM (λb v y _ m=>by
    cases m
    split
    exact aC.fY;exact .bI Y)
 have h:aC P J (dZ (α:=Unit)) ρ (eqGuard .eql Qc Qp Qq v y) (eqGuard .eql Qc Qp Qq x z):=by
  unfold eqGuard;cases d using aG.ind with
  |nilIface=>
   cases a using aG.ind with
   |nilIface=>cases Qp<;>cases Qq<;>first|exact aC.bI (A:=dZ (α:=Unit)) Y|exact g .nilIface .nilIface
   |_=>exact aC.bI (A:=dZ (α:=Unit)) Y
  |agg i j=>
   cases a using aG.ind with
   |agg k l=>
    refine aC.asks (k:=λf=>_) (k':=λf=>_) (aC.asks (k:=λf=>_) (k':=λf=>_) ?_);rw[c.B6,c.depth]
    split
    exact .bI Y;exact g (.agg i j) (.agg k l)
   |_=>exact aC.bI (A:=dZ (α:=Unit)) Y
  |_=>cases a using aG.ind<;>exact aC.bI (A:=dZ (α:=Unit)) Y
 cases e<;>first|exact aC.bI (A:=dZ (α:=Unit)) rfl|exact h
def CS(f:Alike G P J)(i:Array aK)(h:aK)(d:iX)(e:Int)(hx:aG ρ v x):aC P J aG ρ (yI i h #[v,.int d e]) (yI i h #[x,.int d e]):=by
 unfold yI;cases hx using aG.ind with
 |hU=>
  dsimp only;refine(ye (.int d e)).bindM (λm j k c a=>?_);cases a
  split
  exact aC.fY
  split<;>exact aC.fY
 |ptr b=>
  dsimp only;refine(ye (.int d e)).bindM (λm j k c a=>?_);cases a
  split
  refine(Ld (c _ _ b.1)).bindM (λn v l g a=>?_);obtain⟨rfl,rfl⟩:=a;exact .bI (.ptr (b.mono (c.trans g)))
  split
  exact aC.fY;refine(yg (c _ _ b.1)).bindM (λn v l g a=>?_);cases a;cases v with
  |none=>exact aC.fY
  |some o=>
   dsimp only;refine .asks ?_;rw[f.cells,f.cellAt,f.depth,<-b.2.1]
   split
   exact .bI (.ptr ⟨(c.trans g) _ _ b.1,rfl,b.2.2⟩);exact aC.fY
 |_=>exact aC.stuck
def Bh(d:Alike G P J)(hx:aG ρ (dG O) (dG QC)):aC P J aG ρ (movedNumber Qc (dG O) (.int Qv M)) (movedNumber Qc (dG QC) (.int Qv M)):=by
 unfold movedNumber;refine(iz d.S).bindM (λi h t m g=>?_);obtain⟨rfl,g⟩:=g;have hx:=hx.mono m;cases hx using aG.ind with
 |ptr k=>
  rename_i e j;have p:aC P J aG i (pu e >>= λa=>yI #[] Qc #[dG (K a.1),.int Qv M] >>= λc=>match c with|dG (K b)=>asNumber b a.2|v=>pure v) (pu j >>= λa=>yI #[] Qc #[dG (K a.1),.int Qv M] >>= λc=>match c with|dG (K b)=>asNumber b a.2|v=>pure v):=by
   refine(vl k).bindM (λw e b q f=>((CS d _ _ Qv M (.ptr f.1)).bindM (λx v u r o=>?_)));rw[f.2];cases o using aG.ind with
   |ptr l=>exact .new (.number l _) (λc s n=>.pure (.ptr ⟨aL.B7 n,rfl,rfl⟩))
   |_=>exact .bI (by first|exact .bool _|exact .int _ _|exact .string _|exact .hU|exact .ptr ‹_› |exact .mQ _ _|exact .sl ‹_› _ _|exact .rL|exact .map ‹_› |exact .rK|exact .chan ‹_› |exact .nilFunc|exact .nilIface|exact .iface _ ‹_› |exact .agg ‹_› ‹_› |exact .tuple ‹_› ‹_› |exact .func ‹_› ‹_› ‹_› ‹_› ‹_›)
  cases h<;>first|exact vm|exact p
 |hU=>
  cases h<;>first|exact vm|exact(CS d (ρ:=i) #[] Qc Qv M .hU)
def WI(a:Alike G P J)(hx:aG ρ (dG O) (dG QC)):aC P J aG ρ (movedPointer Qc (dG O) (bt Qv M)) (movedPointer Qc (dG QC) (bt Qv M)):=by
 unfold movedPointer;cases hx using aG.ind with
 |hU=>exact CS a _ _ Qv M .hU
 |ptr b=>
  refine(K7 b.1).bindM (λk i j d c=>?_);rcases c with⟨rfl,rfl⟩|⟨e,f,h,rfl,rfl,g⟩;exact CS a #[] Qc Qv M (.ptr (b.mono d));exact vm
def Lc(a:Alike G P J)(b:dS ρ R qP)(d:dS ρ qQ qR):aC P J (dZ (α:=Nat×Nat)) ρ (Op.twoPlaces R qQ) (Op.twoPlaces qP qR):=by
 unfold Op.twoPlaces;refine .asks ?_;have f:decide (cH R>=G.g)=decide (cH qP>=G.g):=by
  rw[decide_eq_decide];have:=ρ.Cf _ _ b.1;omega
 have g:(cH R !=cH qQ)=(cH qP !=cH qR):=by
  have:=xE b d;simp only[bne,this]
 rw[a.xY,a.Jr,g,f]
 split
 exact vm;refine(yf a b).bindM (λj h i e c=>?_);cases c;refine(yf a (d.mono e)).bindM (λj h i e c=>?_);cases c;exact .bI Y
def KR(c:Alike G P J)(d:dS ρ R qP):aC P J aG ρ (Op.addrMod Qv R M) (Op.addrMod Qv qP M):=by
 unfold Op.addrMod;refine(yg d.1).bindM (λh b f e a=>?_);cases a;cases b with
 |none=>exact aC.fY
 |some i=>
  refine(uq c.S).bindM (λj b f g a=>?_);obtain⟨rfl,-⟩:=a;dsimp only
  split
  exact vm;refine(yf c (d.mono (e.trans g))).bindM (λh b f e a=>?_);cases a;exact .bI (.int _ _)
def Wt{a:kM}:aC P J (aG (ρ:=·)) ρ (Op.intArith a Qv M qA) (Op.intArith a Qv M qA):=by
 cases a<;>first|exact .bI (.int _ _)|exact aC.stuck
def Wu{a:kM}:aC P J (aG (ρ:=·)) ρ (Op.intBits a Qv M qA) (Op.intBits a Qv M qA):=by
 cases a<;>first|exact .bI (.int _ _)|exact aC.stuck
def Wv{a:kM}:aC P J (aG (ρ:=·)) ρ (Op.intCmp a M qA) (Op.intCmp a M qA):=by
 cases a<;>first|exact .bI (.bool _)|exact aC.stuck
def Ww(b:Alike G P J){a:kM}:aC P J (aG (ρ:=·)) ρ (Op.intDiv a Qv M qA) (Op.intDiv a Qv M qA):=by
 unfold Op.intDiv
 split
 exact pW b.S _ aF aF aF;cases a<;>first|exact .bI (.int _ _)|exact aC.stuck
def WK(b:Alike G P J){a:kM}:aC P J (aG (ρ:=·)) ρ (Op.shift a Qv M Qw qA) (Op.shift a Qv M Qw qA):=by
 unfold Op.shift
 split
 exact pW b.S _ aF aF aF;cases a<;>first|exact .bI (.int _ _)|exact aC.stuck
def WQ{a:kM}:aC P J (aG (ρ:=·)) ρ (Op.stringOp a s B) (Op.stringOp a s B):=by
 cases a
 all_goals
  unfold Op.stringOp;dsimp only
  first
  |exact .bI (.bool _)
  |exact aC.stuck
  |(split
    exact aC.fY;exact .bI (.string _))
def Ws(b:Alike G P J){a:kM}:aC P J (aG (ρ:=·)) ρ (binOp a Qc (bt Qv M) (bt Qw qA)) (binOp a Qc (bt Qv M) (bt Qw qA)):=by
 cases a
 all_goals
  unfold binOp;dsimp only
  first
  |exact WK b
  |(split
    exact aC.stuck
    first|exact Wt|exact Ww b|exact Wu|exact Wv)
def V7(e:Alike G P J){c:kM}(hx:aG ρ v x)(hy:aG ρ y z):aC P J aG ρ (binOp c Qc v y) (binOp c Qc x z):=by
 have f:∀{v x y z:F},aG ρ v x->aG ρ y z->aC P J aG ρ (do pure (.bool (<-Op.equal Qc v y))) (do pure (.bool (<-Op.equal Qc x z))):=λhx hy=>(FW e hx hy).bindM (λm j k _ i=>by cases i;exact .bI (.bool _));have g:∀{v x y z:F},aG ρ v x->aG ρ y z->aC P J aG ρ (do pure (.bool (!(<-Op.equal Qc v y)))) (do pure (.bool (!(<-Op.equal Qc x z)))):=λhx hy=>(FW e hx hy).bindM (λm j k _ i=>by cases i;exact .bI (.bool _));have a:=hx;have b:=hy;have w:∀{r t:Option aN} (h:iX) (n:Int),aG ρ (dG r) (dG t)->aC P J aG ρ (do if (<-rq Qc) matches .unsafePointer then movedPointer Qc (dG r) (.int h n) else movedNumber Qc (dG r) (.int h n)) (do if (<-rq Qc) matches .unsafePointer then movedPointer Qc (dG t) (.int h n) else movedNumber Qc (dG t) (.int h n)):=λh n d=>by
  refine(iz e.S).bindM (λm H N l E=>?_);obtain⟨rfl,-⟩:=E;have d:=d.mono l;cases H<;>first|exact WI e d|exact Bh e d
 cases hx using aG.ind with
 |int h j=>
  cases hy using aG.ind with
  |int L k=>exact Ws e
  |ptr d=>
   cases c<;>first
    |exact f (.int h j) (.ptr d)
    |exact g (.int h j) (.ptr d)
    |exact Bh e (.ptr d)
    |exact(vl d).bindM (λm j k l i=>KR e i.1)
    |exact aC.fY
  |hU=>
   cases c<;>first
    |exact f (.int h j) .hU
    |exact g (.int h j) .hU
    |exact Bh e .hU
    |exact aC.fY
  |_=>cases c<;>first|exact f a b|exact g a b|exact aC.stuck
 |string s=>
  cases hy using aG.ind with
  |string M=>cases c<;>(unfold binOp;exact WQ)
  |ptr d=>cases c<;>first|exact f a b|exact g a b|exact aC.fY
  |hU=>cases c<;>first|exact f a b|exact g a b|exact aC.fY
  |_=>cases c<;>first|exact f a b|exact g a b|exact aC.stuck
 |ptr d=>
  cases hy using aG.ind with
  |int h k=>
   cases c<;>first
    |exact f a b
    |exact g a b
    |exact w h k a
    |exact Bh e a
    |exact(vl d).bindM (λm j k l i=>KR e i.1)
    |exact aC.fY
  |ptr u=>
   have D:aC P J aG ρ (do Op.addrSub .u64 (<-pu _).1 (<-pu _).1) (do Op.addrSub .u64 (<-pu _).1 (<-pu _).1):=
    (vl d).bindM (λm j k l i=>(vl (u.mono l)).bindM (λI A B p o=>(Lc e (i.1.mono p) o.1).bindM (λK v y _ q=>by cases q;exact .bI (.int _ _))))
   have C:∀c,aC P J aG ρ (do Op.addrCmp c (<-pu _).1 (<-pu _).1) (do Op.addrCmp c (<-pu _).1 (<-pu _).1):=λc=>
    (vl d).bindM (λm j k l i=>(vl (u.mono l)).bindM (λI A B p o=>(Lc e (i.1.mono p) o.1).bindM (λK v y _ q=>by cases q;cases c<;>first|exact .bI (.bool _)|exact aC.fY)))
   cases c<;>first
    |exact f a b
    |exact g a b
    |exact D
    |exact C _
    |exact aC.fY
  |_=>cases c<;>first|exact f a b|exact g a b|exact aC.fY
 |hU=>
  cases hy using aG.ind with
  |int h k=>
   cases c<;>first
    |exact f a b
    |exact g a b
    |exact w h k a
    |exact Bh e a
    |exact aC.fY
  |_=>cases c<;>first|exact f a b|exact g a b|exact aC.fY
 |_=>
  cases hy using aG.ind with
  |ptr d=>cases c<;>first|exact f a b|exact g a b|exact aC.fY
  |hU=>cases c<;>first|exact f a b|exact g a b|exact aC.fY
  |_=>cases c<;>first|exact f a b|exact g a b|exact aC.stuck
end
end
section
variable {G:fo}
def iV (J:aL G)(f:List gX)(g:List gX):Prop:=∀a:List gX->List gX->Prop,(a [] [])->(∀{b c:gX} {d e:List gX} (h:o8 J b c) (i:a d e),a (b::d) (c::e))->a f g
def iV.nil{J:aL G}:iV J [] []:=λb a c=>a
def iV.cons{J:aL G}{b c:gX}{d e:List gX}(h:o8 J b c)(i:iV J d e):iV J (b::d) (c::e):=λf g a=>a h (i f g a)
def iV.ind{J:aL G}{d:∀(a:List gX) (b:List gX),iV J a b->Prop}(nil:d _ _ (iV.nil))(cons:∀{e f:gX} {g i:List gX} (h:o8 J e f) (c:iV J g i),(d _ _ c)->d _ _ (iV.cons h c)){a:List gX}{b:List gX}(h:iV J a b):d a b h:=(h (λa b=>iV J a b/\∀h,d a b h) (⟨iV.nil,λ_=>nil⟩) (λh c=>⟨iV.cons h c.1,λ_=>cons h c.1 (c.2 _)⟩)).2 h
def iV.mono{J d:aL G}(e:J.le d){b c:List gX}(a:iV J b c):iV d b c:=by
 induction a using iV.ind with
 |nil=>exact .nil
 |cons a _ f=>exact .cons (a.mono e) f
theorem IZ{J:aL G}:∀(c d:List gX),I c=I d->(∀b (a:b<I c) (f:b<I d),o8 J c[b] d[b])->iV J c d
 | [],[],_,_=>.nil
 | [],_::_,a,_=>by simp at a
 |_::_,[],a,_=>by simp at a
 |v::c,i::d,a,e=>.cons (e 0 aF aF) (IZ c d (cM a) (λb g h=>e (b+1) bh bh))
def p9 (J:aL G)(b c:Array gX):Prop:=U b=U c/\∀a (d:a<U b) (e:a<U c),o8 J b[a] c[a]
def p9.mono{J d:aL G}(g:J.le d){b c:Array gX}(a:p9 J b c):p9 d b c:=⟨a.1,λh e f=>(a.2 h e f).mono g⟩
def p9.toList{J:aL G}{a b:Array gX}(c:p9 J a b):iV J (dD a) (dD b):=
 IZ _ _ (cM c.1) (λd e f=>cM (c.2 d aa aa))
def plainKey(P:aW):Nat->aK->Bool
 |0,_=>af
 |d+1,c=>match (gb P) c with
  |some (.interface _)=>ai
  |some (.array _ a)=>plainKey P d a
  |some (.struct b)=>dM b.toList λf=>plainKey P d f.type
  |_=>af
section
variable {P Q:aW}{J:aL G}
theorem CQ(a:Alike G P Q){t u:Bool}:∀(d:Nat) {J:aL G} (h:aK) {v c:F},plainKey P d h=af->aG J v c->aC P Q (dZ (α:=Unit)) J (xa t d h v) (xa u d h c)
 |0,J,h,v,c,i,b=>by unfold xa;exact aC.fY
 |d+1,J,h,v,c,i,b=>by
  unfold xa;refine(iz a.S).bindM (λM y L x n=>?_);obtain⟨rfl,n⟩:=n;have b:=b.mono x;unfold plainKey at i;rw[n] at i;cases y with
  |interface H=>simp at i
  |struct A=>
   cases b using aG.ind with
   |agg k l=>
    dsimp only;refine aC.bindM (A:=dZ) (FX (λp g f B e=>?_)) (λp j e g m=>.bI Y);have w:plainKey P d f.type=af:=bh
    split
    exact(sH a.S (cP.mono g ⟨k,l⟩)).bindM (λz v c q o=>((CQ a d f.type w o).bindM (λr j e _ _=>.bI Y)));exact .bI Y
   |_=>exact aC.stuck
  |array E s=>
   cases b using aG.ind with
   |agg k l=>
    dsimp only;rw[zk,zk];refine aC.bindM (A:=dZ) (Bf _ _ (λp g D _ e=>((k7 a.S).bindM (λz I K q m=>?_)))) (λp j e g m=>.bI Y);cases m;exact(sH a.S (cP.mono (g.trans q) ⟨k,l⟩)).bindM (λr v c C o=>((CQ a d s aa o).bindM (λr j e _ _=>.bI Y)))
   |_=>exact aC.stuck
  |_=>cases b using aG.ind<;>exact .bI Y
def nI (J:aL G)(d:Option (Nat×F))(e:Option (Nat×F)):Prop:=∀a:Option (Nat×F)->Option (Nat×F)->Prop,(a Z Z)->(∀(b:Nat) {v c:F} (f:aG J v c),a (K (b,v)) (K (b,c)))->a d e
def nI.none{J:aL G}:nI J Z Z:=λb a c=>a
def nI.some{J:aL G}(a:Nat)(c:aG J v x):nI J (K (a,v)) (K (a,x)):=λd e b=>b a c
def nI.ind{J:aL G}{c:∀(a:Option (Nat×F)) (b:Option (Nat×F)),nI J a b->Prop}(none:c _ _ (nI.none))(some:∀(i:Nat) {v d:F} (h:aG J v d),c _ _ (nI.some i h)){a:Option (Nat×F)}{b:Option (Nat×F)}(h:nI J a b):c a b h:=(h (λa b=>nI J a b/\∀h,c a b h) (⟨nI.none,λ_=>none⟩) (λi {v} {d} h=>⟨nI.some i h,λ_=>some i h⟩)).2 h
theorem KT(j:Alike G P Q){l:aK}:∀(g h:List gX) {J:aL G} {c d:F} (b:Nat),aG J c d->iV J g h->aC P Q nI J (Instr.findAsking l c g b) (Instr.findAsking l d h b)
 | [],[],J,c,d,b,f,a=>.bI .none
 | [],_::_,J,c,d,b,f,a=>by cases a using iV.ind
 |_::_,[],J,c,d,b,f,a=>by cases a using iV.ind
 |e::g,q::h,J,c,d,b,f,a=>by
  cases a using iV.ind with
  |cons k n=>
   unfold Instr.findAsking;refine(FW j f k.key).bindM (λr o p i m=>?_);cases m
   split
   exact .bI (.some _ (k.val.mono i));exact KT j g h _ (f.mono i) (n.mono i)
def YM{a:TypeDesc}(hx:aG J v x)(hy:aG J y z):Instr.sameNow a v y=Instr.sameNow a x z:=by
 cases hx using aG.ind<;>cases hy using aG.ind<;>first|rfl|(cases a<;>rfl)
theorem Jh{f:TypeDesc}{g h:F}(j:aG J g h):∀(c d:List gX) (a:Nat),iV J c d->(Instr.findNow f g c a=Z/\Instr.findNow f h d a=Z)\/∃k l,Instr.findNow f g c a=K k/\Instr.findNow f h d a=K l/\nI J k l
 | [],[],a,b=>an ⟨_,_,rfl,rfl,.none⟩
 | [],_::_,a,b=>by cases b using iV.ind
 |_::_,[],a,b=>by cases b using iV.ind
 |e::c,n::d,a,b=>by
  cases b using iV.ind with
  |cons i m=>
   unfold Instr.findNow;rw[YM j i.key]
   split
   exact an ⟨_,_,rfl,rfl,.some _ i.val⟩;exact Jh j c d (a+1) m;exact aq ⟨rfl,rfl⟩
def KU(f:Alike G P Q){a b:List gX}(h:aG J v x)(g:iV J a b):aC P Q nI J (yO Qc v a) (yO Qc x b):=by
 unfold yO;refine(iz f.S).bindM (λo k l c j=>?_);obtain⟨rfl,-⟩:=j;rcases Jh (h.mono c) a b 0 (g.mono c) with⟨d,e⟩|⟨m,n,d,e,i⟩;rw[d,e];exact KT f a b 0 (h.mono c) (g.mono c);rw[d,e];exact .bI i
def WA(e:Alike G P Q)(B:∀c f,gb P Qc=K (.map c f)->plainKey P 10000 c=af)(hx:aG J x y)(s:aG J z T):aC P Q aG J (Instr.lookup Qc x z qV) (Instr.lookup Qc y T qV):=by
 unfold Instr.lookup;refine(iz e.S).bindM (λS L R m o=>?_);obtain⟨rfl,o⟩:=o;cases L with
 |map d p=>
  have q:∀{b:aL G} {g h:Array gX},J.le b->p9 b g h->aC P Q aG b (do
   xa g.isEmpty 10000 d z
   let (v,a) <-match <-yO d z g.toList with
    |some (_,v)=>pure (v,af)
    |none=>pure (<-kR p,ai)
   pure (if qV then .tuple #[v,.bool a] else v)) (do
   xa h.isEmpty 10000 d T
   let (v,a) <-match <-yO d T h.toList with
    |some (_,v)=>pure (v,af)
    |none=>pure (<-kR p,ai)
   pure (if qV then .tuple #[v,.bool a] else v)):=by
   intro b g h u A;have r:∀{b:aL G} {v l:F} (a:Bool),aG b v l->aG b (if qV then .tuple #[v,.bool a] else v) (if qV then .tuple #[l,.bool a] else l):=by
    intro b v l a j;cases qV;exact j;exact .tuple Y (λk t N=>by
     have:k=0\/k=1:=bh;rcases this with rfl|rfl;exact j;exact .bool _)
   refine(CQ e _ d (B _ _ o) (s.mono u)).bindM (λU c f i _=>((KU e (s.mono (u.trans i)) (A.mono i).toList).bindM (λV c f O w=>?_)));cases w using nI.ind with
   |none=>exact(z3 e.S).bindM (λW c f _ H=>.bI (r _ H))
   |some k j=>exact .bI (r _ j)
  have hx:=hx.mono m;cases hx using aG.ind with
  |rL=>exact q m ⟨rfl,λk t=>by simp at t⟩
  |map D=>
   refine aC.bindM (A:=er) (.getObj D (λa I n=>.pure n)) (λb a I i n=>?_);cases n using er.ind with
   |map E C M=>exact q (m.trans i) ⟨E,C⟩
   |_=>exact aC.stuck
  |_=>exact aC.stuck
 |_=>exact aC.stuck
def abH{f:F->F->Bool}(i:ig J S qM):∀{m c:List F},ig J m c->(∀a g b h,aG J a g->aG J b h->f a b=f g h)->(dM (S.zip m) fun(a,b)=>f a b)=(dM (qM.zip c) fun(a,b)=>f a b):=by
 induction i using ig.ind with
 |nil=>intro m c _ _;simp
 |cons j _ l=>
  intro m c d e;cases d using ig.ind with
  |nil=>simp
  |cons k d=>
   simp only[List.zip_cons_cons,List.all_cons];rw[e _ _ _ _ j k,l d e]
def Ko(a:J.f n=K m)(b:J.f k=K i):(n==k)=(m==i):=by
 have:=xE (ρ:=J) (a:=⟨n,0,Z⟩) (a':=⟨m,0,Z⟩) (b:=⟨k,0,Z⟩) (b':=⟨i,0,Z⟩) ⟨a,rfl,rfl⟩ ⟨b,rfl,rfl⟩;simpa using this
theorem GA:∀(n:Nat) {c d e f:F},aG J c d->aG J e f->xd n c e=xd n d f
 |0,c,d,e,f,g,h=>by
  cases g using aG.ind<;>cases h using aG.ind<;>first
   |rfl
   |(rename_i a _ _ b;simp only[xd];have:=addr_eq a b;simpa using this)
   |(rename_i a _ _ b;simp only[xd];have:=Ko a b;simpa using this)
 |n+1,c,d,e,f,g,h=>by
  cases g using aG.ind<;>cases h using aG.ind<;>first
   |rfl
   |(rename_i a _ _ b;simp only[xd];have:=addr_eq a b;simpa using this)
   |(rename_i a _ _ b;simp only[xd];have:=Ko a b;simpa using this)
   |(rename_i a _ _ _ b _ _;simp only[xd];rw[GA n a b])
   |(rename_i a b _ _ i j _ _;simp only[xd,a,i];rw[abH (cP.toList ⟨a,b⟩) (cP.toList ⟨i,j⟩) (λ_ _ _ _ k l=>GA n k l)])
end
end
section
variable {G:fo}
section
variable {P Q:aW}{J:aL G}
def p9.push{b c:Array gX}(a:p9 J b c){e e':gX}(d:o8 J e e'):p9 J (gW b e) (gW c e'):=by
 refine⟨by simp[a.1],λf g h=>?_⟩;simp only[Array.getElem_push];have:=a.1
 split
 rw[dif_pos aa];exact a.2 f _ _;rw[dif_neg aa];exact d
def p9.modify{d e:Array gX}(a:p9 J d e)(g:Nat){f f':gX->gX}(i:∀b c,o8 J b c->o8 J (f b) (f' c)):p9 J (d.modify g f) (e.modify g f'):=by
 refine⟨by simp[a.1],λh j k=>?_⟩;simp only[Array.getElem_modify]
 split
 exact i _ _ (a.2 h _ _);exact a.2 h _ _
def Wx(b:aG J v x)(a:aG J y z):aC P Q aG J (Instr.keyThatStays v y) (Instr.keyThatStays x z):=by
 unfold Instr.keyThatStays;rw[GA _ b a]
 split
 exact .bI a;refine Bc (λc=>.bI ?_)
 split
 exact a;exact b
def K4(e:Alike G P Q){m H g h v i:F}(O:∀j t,gb P Qc=K (.map j t)->plainKey P 10000 j=af)(q:aG J m H)(a:aG J g h)(D:aG J v i):aC P Q (dZ (α:=Unit)) J (Instr.mapUpdate Qc m g v) (Instr.mapUpdate Qc H h i):=by
 unfold Instr.mapUpdate;refine(iz e.S).bindM (λam W al z s=>?_);obtain⟨rfl,s⟩:=s;cases W with
 |map S aj=>
  have q:=q.mono z;cases q using aG.ind with
  |rL=>exact pW e.S _ aF aF aF
  |map B=>
   refine aC.bindM (A:=er) (.getObj B (λT V r=>.pure r)) (λab T V A r=>?_);cases r using er.ind with
   |map R M u=>
    rename_i k w;have x:p9 ab k w:=⟨R,M⟩;have p:=z.trans A;refine(CQ e _ S (O _ _ s) (a.mono p)).bindM (λao _ _ b _=>((KU e (a.mono (p.trans b)) (x.mono b).toList).bindM (λad j t n L=>?_)));have l:=x.mono (b.trans n);have c:=p.trans (b.trans n);have C:=(A.trans (b.trans n)) _ _ B;cases L using nI.ind with
    |none=>
     have:=l.push (e:=⟨g,v,u⟩) (e':=⟨h,i,u⟩) ⟨a.mono c,D.mono c,rfl⟩;exact .setObj C (.map this.1 this.2 _) (.pure Y)
    |some d E=>
     have N:aG ad ((k[d]?.map (·.key)).getD g) ((w[d]?.map (·.key)).getD h):=by
      by_cases y:d<U k;rw[m3 y,m3 aa];exact(l.2 d y aa).key;rw[o5 aa,o5 aa];exact a.mono c
     refine(Wx N (a.mono c)).bindM (λap X Z o E=>?_);have:=(l.mono o).modify d (f:=λf=>{f with key:=X,val:=v}) (f':=λf=>{f with key:=Z,val:=i}) (λf ae I=>⟨E,D.mono (c.trans o),I.born⟩);exact .setObj (o _ _ C) (.map this.1 this.2 _) (.pure Y)
   |_=>exact aC.stuck
  |_=>exact aC.stuck
 |_=>exact aC.stuck
def FY(a:aG J v x):aC P Q (dZ (α:=Nat)) J (vF v) (vF x):=by
 cases a using aG.ind<;>first|exact .bI rfl|exact aC.stuck
def aaM{s:ByteArray}:cP J (s.data.map λa=>.int .u8 a.toNat) (s.data.map λa=>.int .u8 a.toNat):=
 ⟨rfl,λd b c=>by simp only[Array.getElem_map];exact .int _ _⟩
def Be(b:aG J v x):aC P Q cP J (vE n k v) (vE n k x):=by
 cases b using aG.ind with
 |sl c m a=>exact KZ c
 |mQ m a=>exact .bI (cP.nil _)
 |string s=>exact .bI aaM
 |_=>exact aC.stuck
def Wy(j:Alike G P Q)(k:cP J C qJ):aC P Q aG J (Builtin.len_ QE Qc C) (Builtin.len_ QE Qc qJ):=by
 unfold Builtin.len_;cases QE[0]? with
 |none=>rcases k.get 0 with⟨b,c⟩|⟨v,w,b,c,d⟩<;>(rw[b,c];exact aC.stuck)
 |some E=>
  rcases k.get 0 with⟨b,c⟩|⟨v,w,b,c,d⟩;rw[b,c];exact aC.stuck;rw[b,c];dsimp only;refine(iz j.S).bindM (λx i u l e=>?_);obtain⟨rfl,e⟩:=e;have d:=d.mono l;cases i with
  |pointer z=>
   refine(iz j.S).bindM (λx i u l e=>?_);obtain⟨rfl,e⟩:=e;cases i<;>first|exact .bI (.int _ _)|exact aC.stuck
  |array t A=>exact .bI (.int _ _)
  |map m n=>
   cases d using aG.ind with
   |map f=>
    refine aC.bindM (A:=er) (.getObj f (λg h a=>.pure a)) (λy g h q a=>?_);cases a using er.ind with
    |map r B o=>dsimp only;rw[r];exact .bI (.int _ _)
    |_=>exact aC.stuck
   |rL=>exact .bI (.int _ _)
   |_=>exact aC.stuck
  |chan m n=>
   cases d using aG.ind with
   |chan f=>
    refine aC.bindM (A:=er) (.getObj f (λg h a=>.pure a)) (λy g h q a=>?_);cases a using er.ind with
    |chan t p o s D H=>dsimp only;rw[p.1];exact .bI (.int _ _)
    |_=>exact aC.stuck
   |rK=>exact .bI (.int _ _)
   |_=>exact aC.stuck
  |_=>cases d using aG.ind<;>first|exact .bI (.int _ _)|exact aC.stuck
def We(h:Alike G P Q)(n:cP J C qJ):aC P Q aG J (tO QE Qc C) (tO QE Qc qJ):=by
 unfold tO;cases QE[0]? with
 |none=>exact aC.stuck
 |some z=>
  rcases n.get 0 with⟨k,l⟩|⟨v,B,k,l,m⟩;rw[k,l];exact aC.stuck;rw[k,l];rcases n.get 1 with⟨i,j⟩|⟨D,E,i,j,e⟩;rw[i,j];exact aC.stuck;rw[i,j];dsimp only;refine(iz h.S).bindM (λH t A d o=>?_);obtain⟨rfl,o⟩:=o;cases t with
  |slice y=>
   have m:=m.mono d;cases m using aG.ind with
   |mQ s p=>
    refine(FY (e.mono d)).bindM (λu b c f a=>?_);cases a;refine(k7 h.S).bindM (λw b c g a=>?_);cases a;exact(Be (e.mono (d.trans (f.trans g)))).bindM (λx b c _ _=>.bI (.int _ _))
   |sl q s p=>
    refine(FY (e.mono d)).bindM (λu b c f a=>?_);cases a;refine(k7 h.S).bindM (λw b c g a=>?_);cases a;exact(Be (e.mono (d.trans (f.trans g)))).bindM (λx b c r a=>((Bl _ _ 0 (q.mono (f.trans (g.trans r))) a.toList).bindM (λI b c _ _=>.bI (.int _ _))))
   |_=>exact aC.stuck
  |_=>exact aC.stuck
def KV(a:dS J R qP):aC P Q (dZ (α:=Bool)) J (yH R n) (yH qP n):=by
 unfold yH;refine(yg a.1).bindM (λf d e c b=>?_);cases b;rw[a.2.1,a.2.2]
 split<;>exact .bI Y
def jn (J:aL G)(d:Option aN)(e:Option aN):Prop:=∀a:Option aN->Option aN->Prop,(a Z Z)->(∀{b c:aN} (f:dS J b c),a (K b) (K c))->a d e
def jn.none{J:aL G}:jn J Z Z:=λb a c=>a
def jn.some{J:aL G}(b:dS J R qP):jn J (K R) (K qP):=λc d a=>a b
def jn.ind{J:aL G}{d:∀(b:Option aN) (c:Option aN),jn J b c->Prop}(none:d _ _ (jn.none))(some:∀{a e:aN} (h:dS J a e),d _ _ (jn.some h)){b:Option aN}{c:Option aN}(h:jn J b c):d b c h:=(h (λb c=>jn J b c/\∀h,d b c h) (⟨jn.none,λ_=>none⟩) (λh=>⟨jn.some h,λ_=>some h⟩)).2 h
def K5{o o':Option aN}(i:jn J o o'):∀{c:aL G} {b d:F},J.le c->aG c b d->aC P Q (dZ (α:=Bool)) c (match b with|ah (K a) _ _=>do pure (!(<-yH a n)||o.any (·.block==cH a))|_=>pure ai) (match d with|ah (K a) _ _=>do pure (!(<-yH a n)||o'.any (·.block==cH a))|_=>pure ai):=by
 intro c b d h j;cases j using aG.ind with
 |sl e m k=>
  refine(KV e).bindM (λq b p l g=>?_);cases g;cases i using jn.ind with
  |none=>exact .bI Y
  |some f=>
   refine .bI ?_;simp only[Option.any_some,xE (f.mono h) e];rfl
 |_=>exact .bI Y
def WH(e:jn J O QC)(hx:aG J v x):aC P Q (dZ (α:=Bool)) J (Aw n m k O v) (Aw n m k QC x):=by
 unfold Aw;have f:=e;cases e using jn.ind with
 |none=>exact K5 f (aL.le.refl _) hx
 |some c=>
  refine(KV c).bindM (λl g i b a=>?_);cases a;refine(Bg ((c.mono b).add _)).bindM (λo h j d a=>?_);cases a;cases g<;>cases h<;>first|exact aC.bI (A:=dZ (α:=Bool)) rfl|exact K5 f (b.trans d) (hx.mono (b.trans d))
def aaO(a:cP J C qJ):cP J (Builtin.zeroCells C n) (Builtin.zeroCells qJ n):=by
 unfold Builtin.zeroCells;rw[<-a.1];have:=Dx a (n*U C);rw[<-a.1] at this;exact this
end
end
section
variable {G:fo}
section
variable {P Q:aW}{J:aL G}
def x2 (a:aK)(e m b d:Nat)(i:Option aN)(k:F):bX F:=do
 let c <-choose (Question.appendCap (m+b) d a);let g <-mE a
 askRoom (c*ji g)
 let j <-vE e m (ah i m d);let h <-vE e b k;let l <-kR a;let f <-newRow a (j++h++Builtin.zeroCells l.cells (c-(m+b)))
 pure (ah (K f) (m+b) c)
def xZ (c:aK)(e m a b:Nat)(d:Option aN)(f:F):bX F:=do
 let h <-mE c
 if Builtin.nextslicecap (m+a) b*ji h>2^48 then
  (do
    let g <-Aw e m a d f
    if (!g)=af then do
     mark Mark.noRoom
     unsupported (N8 "append: a slice or a string whose bytes no memory bears")
    else unsupported (N8 "append: a slice or a string whose bytes no memory bears"):bX PUnit) >>= λ_=>x2 c e m a b d f
 else x2 c e m a b d f
def v5 (e:aK)(d m a b:Nat)(c:Option aN)(f:F):bX F:=
 if m+a<=b then do
  let i <-vE d a f
  match c with
   |some g=>do
    storeCells (g.add (m*d)) (dD i)
    pure (ah c (m+a) b)
   |_=>pure (ah c (m+a) b)
 else do
  let h <-mE e
  if ((m+a:Nat):Int)>bM.max/\(False\/ji h=0) then do
   runtimePanic (abU "growslice: len out of range")
   xZ e d m a b c f
  else xZ e d m a b c f
def jn.mono{b:aL G}(c:J.le b)(a:jn J O QC):jn b O QC:=by
 cases a using jn.ind with
 |none=>exact .none
 |some a=>exact .some (a.mono c)
def jn.slice(a:jn J O QC)(m b:Nat):aG J (ah O m b) (ah QC m b):=by
 cases a using jn.ind with
 |none=>exact .mQ _ _
 |some a=>exact .sl a _ _
def Wp(a:Alike G P Q)(r:jn J O QC)(hx:aG J v x):aC P Q aG J (x2 Qc n m k i O v) (x2 Qc n m k i QC x):=by
 unfold x2;refine Bc (λz=>((uq a.S).bindM (λC w y l j=>?_)));obtain⟨rfl,-⟩:=j;refine(KS).bindM (λD _ _ o _=>?_);have c:=l.trans o;exact(Be ((r.mono c).slice m i)).bindM (λE d t p g=>((Be (hx.mono (c.trans p))).bindM (λH e u q h=>((z3 a.S).bindM (λI A B b s=>((Bi (((g.mono (q.trans b)).append (h.mono b)).append (aaO s.cells))).bindM (λK d e _ f=>.bI (.sl f _ _))))))))
def Wo(b:Alike G P Q)(c:jn J O QC)(hx:aG J v x):aC P Q aG J (xZ Qc n m k i O v) (xZ Qc n m k i QC x):=by
 unfold xZ;refine(uq b.S).bindM (λp l o a g=>?_);obtain⟨rfl,-⟩:=g
 split
 refine aC.bindM (A:=λ_ (_ _:PUnit)=>False) ((WH (c.mono a) (hx.mono a)).bindM (λq d h j f=>?_)) (λ_ _ _ _ e=>fe e);cases f;cases d;exact aC.room (.halt (.same Y));exact aC.fY;exact Wp b (c.mono a) (hx.mono a)
def V5(b:Alike G P Q)(d:jn J O QC)(hx:aG J v x):aC P Q aG J (v5 Qc n m k i O v) (v5 Qc n m k i QC x):=by
 unfold v5
 split
 refine(Be hx).bindM (λh j l a e=>?_);cases d using jn.ind with
 |none=>exact .bI (.mQ _ _)
 |some c=>exact(Bl _ _ 0 ((c.mono a).add _) e.toList).bindM (λq _ _ g _=>.bI (.sl (c.mono (a.trans g)) _ _))
 refine(uq b.S).bindM (λh o p a f=>?_);obtain⟨rfl,-⟩:=f
 split
 exact z1 b aF aF aF;exact Wo b (d.mono a) (hx.mono a)
def V4(d:Alike G P Q)(R:∀i,QE[1]? =K i->∀q,gb P i≠K (.int q))(t:cP J C qJ):aC P Q aG J (Builtin.append_ QE Qc C) (Builtin.append_ QE Qc qJ):=by
 unfold Builtin.append_;cases QE[0]? with
 |none=>exact aC.stuck
 |some W=>
  rcases t.get 0 with⟨l,n⟩|⟨v,B,l,n,f⟩;rw[l,n];exact aC.stuck;rw[l,n];rcases t.get 1 with⟨j,k⟩|⟨D,E,j,k,e⟩;rw[j,k];exact aC.stuck;rw[j,k];dsimp only;refine(iz d.S).bindM (λH S X u y=>?_);obtain⟨rfl,y⟩:=y;cases S with
  |slice s=>
   have f:=f.mono u;have e:=e.mono u;obtain⟨b,h,m,a,rfl,rfl,N⟩|M:(∃b h m a,v=ah b m a/\B=ah h m a/\jn H b h)\/((∀b m a,v≠ah b m a)/\∀b m a,B≠ah b m a):=by
    cases f using aG.ind with
    |mQ m a=>exact aq ⟨_,_,_,_,rfl,rfl,.none⟩
    |sl L m a=>exact aq ⟨_,_,_,_,rfl,rfl,.some L⟩
    |_=>exact an ⟨aF,aF⟩
   dsimp only;refine(k7 d.S).bindM (λY z T w o=>?_);cases o;have A:∀{r:aL G},H.le r->aC P Q aG r (vF D >>= λg=>v5 s z m g a b D) (vF E >>= λg=>v5 s z m g a h E):=λc=>
    (FY (e.mono c)).bindM (λZ g V x o=>by
      cases o;exact V5 d (N.mono (c.trans x)) (e.mono (c.trans x)))
   cases O:QE[1]? with
   |none=>
    simp only[pure_bind,fA,if_false,Bool.not_false,if_true];exact A w
   |some i=>
    refine(iz d.S).bindM (λr I U c p=>?_);obtain⟨rfl,p⟩:=p;cases I with
    |int q=>exact absurd p (R i O q)
    |_=>
     simp only[pure_bind,fA,if_false,Bool.not_false,if_true];exact A (w.trans c)
   cases f using aG.ind<;>first|exact aC.stuck|exact absurd rfl (M.1 _ _ _)
  |_=>exact aC.stuck
end
end
end Rl
namespace Cc
open Go
section
variable {P J:aW}{O:cj->Prop}{R Q:Type}
def b_(s:FloatKind)(a:Nat)(b:iX):St P J O (Conv.floatToInt s a b):=by
 unfold Conv.floatToInt
 (try dsimp only)
 repeat' first|exact dI _|exact pY _|refine bP ?_ (λ_=>?_)|split|dsimp only|exact trivial
def e_9(a:Int):St P J O (Conv.intToString a):=by
 unfold Conv.intToString;exact trivial
def A_(c:Twin P J)(b:Plain O)(a:aK)(s:ByteArray):St P J O (Conv.stringToBytes a s):=by unfold Conv.stringToBytes;exact ey
def B_(c:Twin P J)(b:Plain O)(a:aK)(s:ByteArray):St P J O (Conv.stringToRunes a s):=by unfold Conv.stringToRunes;exact ey
def ZZ(b:Twin P J)(c:Plain O)(s e:aK)(d:F)(a:Ew P s e=af):St P J O (convert s e d):=by
 unfold convert;refine rS (Dl b s) λn j=>rS (Dl b e) λh l=>?_;unfold Ew at a;rw[j,l] at a;cases n<;>first|(simp at a;done)|skip
 rename_i q;cases h<;>first|(simp at a;done)|skip
 cases d<;>first|exact trivial|exact g7 _ rfl|(rename_i f;cases f<;>exact g7 _ rfl)|skip
 exact b_ _ _ _
 .rename_i i;cases h<;>first|(simp at a;done)|skip
  .cases d<;>first|exact trivial|skip
   all_goals first
    |exact e_9 _
    |(refine rS (Dl b i) λg k=>?_;dsimp only at a;rw[k] at a;cases g<;>first|(simp at a;done)|skip
      rename_i m;cases m<;>first|(simp at a;done)|exact ZU b c _)
  cases d with
  |string s=>
   refine bP (j7 b _) λg=>?_
   split
   exact A_ b c _ _;exact B_ b c _ _;exact dI _
  |slice f r p=>
   cases f with
   |none=>exact g7 _ Y
   |some o=>
    refine bP (j7 b _) λg=>?_
    split
    exact bP (MD b c _) λ_=>trivial;exact g7 _ Y
  |_=>exact g7 _ Y
def Mu(a:Twin P J)(d:Plain O)(c:aK)(s m e b:Nat)(f:Option aN)(g:F):St P J O (Rl.x2 c s m e b f g):=by
 unfold Rl.x2;exact bP (pY _) λ_=>bP (oW a _) λ_=>bP (Mb _) λ_=>bP (Bx _ _ _) λ_=>bP (Bx _ _ _) λ_=>bP (Dm a _) λ_=>bP (Dk d _ _) λ_=>trivial
def Mt(a:Twin P J)(b:Plain O)(d:aK)(s m e c:Nat)(f:Option aN)(g:F):St P J O (Rl.xZ d s m e c f g):=by
 unfold Rl.xZ;refine bP (oW a _) λi=>?_
 split
 refine bP (bP (l_ a b _ _ _ _ _) λh=>?_) λ_=>Mu a b _ _ _ _ _ _ _
 split
 exact bP MI λ_=>g7 _ Y;exact g7 _ Y;exact Mu a b _ _ _ _ _ _ _
def ZK(a:Twin P J)(b:Plain O)(d:aK)(s m e c:Nat)(f:Option aN)(g:F):St P J O (Rl.v5 d s m e c f g):=by
 unfold Rl.v5
 split
 refine bP (Bx _ _ _) λh=>?_
 split
 exact bP (Ah _ _ _) λ_=>trivial;exact trivial;refine bP (oW a _) λi=>?_
 split
 exact bP (mi a b _) λ_=>Mt a b _ _ _ _ _ _ _;exact Mt a b _ _ _ _ _ _ _
def D4 (P:aW)(a:Array aK):Bool:=match a[1]? with
 |some b=>match (gb P) b with|some (.int _)=>ai|_=>af
 |none=>af
def ZJ(b:Twin P J)(k:Plain O)(c:Array aK)(q:aK)(g:Array F)(a:D4 P c=af):St P J O (Builtin.append_ c q g):=by
 unfold Builtin.append_
 split
 refine bP (j7 b _) λt=>?_
 split
 split
 rename_i f _ j _ o m h _;refine bP (nV b _) λp=>?_;have e:St P J O (vF f >>= λd=>Rl.v5 j p m d h o f):=bP (Mz _) λd=>ZK b k _ _ _ _ _ _ _;unfold D4 at a;cases n:c[1]? with
 |none=>
  simp only[pure_bind,fA,if_false,Bool.not_false,if_true];exact e
 |some r=>
  rw[n] at a;refine rS (Dl b r) λi l=>?_;dsimp only at a;rw[l] at a;cases i with
  |int s=>simp at a
  |_=>
   simp only[pure_bind,fA,if_false,Bool.not_false,if_true];exact e
 exact dI _;exact dI _;exact dI _
end
def AI (P:aW)(a:Builtin)(b:Array aK):Bool:=match a with
 | .len| .copy| .min| .unsafeString=>af
 | .append=>D4 P b
 |_=>ai
def tn (P:aW)(b:Bool):Op->Bool
 | .move _| .assign _| .pick _ _ _| .alloc _| .box _ _| .build _ _| .buildSlice _ _ _| .load _ _| .store _ _ _| .nilCheck _| .binOp _ _ _ _ _| .unOp _ _ _| .makeInterface _ _| .makeFunc _ _ _| .makeMap _ _| .makeSlice _ _ _| .slice _ _ _ _ _| .fieldAddr _ _ _| .field _ _ _| .indexAddr _ _ _| .index _ _ _| .lookup _ _ _ _| .mapUpdate _ _ _ _| .extract _ _| .panic _=>af
 | .convert s d _=>Ew P s d
 | .call a=>match a.callee with
  | .builtin .recover=> !b
  | .builtin c=>AI P c a.argTypes
  |_=>af
 | .defer a=> !b&&(match a.callee with| .builtin _=>ai|_=>af)
 |_=>ai
def fN (P:aW)(b:Bool):de->Bool
 |gu _ e _=>dM e.toList λd=>tn P b d.op
 |aU a c=>fN P b a&&fN P b c
 | .cond _ a c=>fN P b a&&fN P b c
 |ga _ a| .loop a=>fN P b a
 | .rangeFunc _ _ a c=>fN P af a&&fN P af c
 |eO| .exit _| .ret| .refuse _=>af
 | .goto _| .label _| .scope _=>ai
def sN:Target->Bool
 | .nil| .fn _ _| .collected _=>af
 |_=>ai
def dm (P:aW):cj->Prop
 | .loop a=>fN P af a.assign=af/\fN P af a.body=af/\∀b,a.pending=K b->fN P af b=af
 |mz (K d)=>∀c∈d,sN c.target=af
 | .pending _ _=>False
 | .coro _=>False
 |_=>True
def tv(P:aW):Plain (dm P):=⟨λ_ _ _=>trivial,λ_ _ a=>a,λa=>a,⟨{state:=.ready,pending:=Z,fn:=0,tmps:= #[],params:= #[],assign:=eO,body:=eO,defers:=0},rfl,rfl,λb a=>cV a⟩⟩
def vQ (P:aW)(d:Bool):Next->Prop
 |eT _| .skip| .enter _ _=>True
 | .recover=>d=ai
 | .defer c=>sN c.target=af
 | .round _ _ _ a b=>fN P af a=af/\fN P af b=af
 |_=>False
structure Ext(P P':aW):Prop where
 named:∀(f:Nat) (fn:cO),P.funcs[f]? =K fn->(fn.name == "runtime.NumGoroutine")=ai
 next:∀(f:Nat) (fn:cO),P.funcs[f]? =K fn->lF fn.body=af->Extern.findNext fn=Z
 find:∀(f:Nat) (fn:cO) (e:Array F->bX F),P.funcs[f]? =K fn->lF fn.body=af->yL fn=K e->∀args,St P P' (dm P) (e args)
section
variable {P P':aW}{O:cj->Prop}{Q J:Type}
def s_(b:Twin P P')(c:aK)(a:Place):St P P' O (a.get c):=by
 cases a with
 |val v=>exact trivial
 |var d=>exact GZ b _ _
theorem Mr(e:Twin P P')(d:Plain O):∀(c:List FieldStep) (a:aK) (b:Place),St P P' O (follow c a b)
 | [],a,b=>trivial
 |s::f,a,b=>by
  unfold follow;exact ey
def MP(i:Twin P P')(h:Plain O)(g:Array aK)(f:aK)(b:F)(a c:ByteArray):St P P' O (Builtin.ssaWrapNilChk_ g f #[b,au a,au c]):=by
 have d:∀s:String,St P P' O (stuck s:bX F):=λs=>dI s;unfold Builtin.ssaWrapNilChk_;cases b with
 |pointer e=>
  cases e with
  |some a=>exact trivial
  |none=>
   refine bP (pY _) λj=>?_;exact ey
 |_=>exact d _
def t_(f:Twin P P')(e:Plain O)(b:aK)(d:Place)(a:Bool)(c:Option String):St P P' O (receiverAt b d a c):=by
 unfold receiverAt;exact ey
def t_9(e:Twin P P')(d:Plain O)(c:aK)(v:F)(b:Array FieldStep)(a:Bool):St P P' O (receiverVia c v b a):=by
 unfold receiverVia;exact ey
theorem ME(c:Twin P P')(b:Plain O):∀(n:Nat) (a:aK) (v:F) (s:String),St P P' O (Go.method n a v s)
 |0,a,v,s=>g7 _ Y
 |n+1,a,v,s=>by
  unfold Go.method;exact ey
theorem Ms(e:Twin P P')(d:Plain O):∀(c:List FieldStep) (a:aK) (b:Option F),St P P' O (followBlind c a b)
 | [],a,b=>trivial
 |s::f,a,b=>by
  unfold followBlind;exact ey
theorem MH(c:Twin P P')(b:Plain O):∀(n:Nat) (a:aK) (v:F) (s:String),St P P' O (nilAhead n a v s)
 |0,a,v,s=>trivial
 |n+1,a,v,s=>by
  unfold nilAhead;exact ey
def GS(l:Twin P P')(c:Ext P P')(n:Bool)(f:fH)(args:Array F):Still P P' (dm P) (vQ P n) (callFunc f args):=by
 unfold callFunc;refine mV ?_ ?_;rcases l.EU f with b|⟨a,o,g,h,i,j,k⟩;rw[b];rw[g,h];simp only[i,j,k,fA,if_false]
 .cases d:P.funcs[f]? with
  |none=>exact dI _
  |some a=>
   dsimp only;rw[if_neg (by rw[c.named f a d];simp)]
   split
   .rename_i e;refine bP ⟨an ⟨_,rfl⟩,trivial⟩ λ_=>?_;rw[c.next f a d e];dsimp only;cases m:yL a with
    |some b=>exact bP (c.find f a b d e m args) λ_=>trivial
    |none=>exact nD trivial (g7 _ Y)
   exact trivial
def Mf(a:Twin P P')(d:Ext P P')(c:Bool)(v:F)(s:String)(args:Array F):Still P P' (dm P) (vQ P c) (callMethod v s args):=by
 have b:=tv P;unfold callMethod
 split
 exact mV (by rw[a.Nl]) (bP (ME a b _ _ _ _) λ_=>GS a d c _ _);exact mi a b _;exact dI _
def By(a:Nat):Still P P' (dm P) (λc=>dm P (.loop c)) (Instr.getLoop a):=by
 unfold Instr.getLoop;refine Di a (λd b=>?_) (Ch Y)
 split
 exact b;exact dI _
def G_9(c:Bool)(b:Nat)(args:Array F):Still P P' (dm P) (vQ P c) (Instr.yield b args):=by
 unfold Instr.yield;refine rS (By b) λd a=>?_;dsimp only
 split
 exact bP (dI _) λ_=>⟨a.1,a.2.1⟩;exact⟨a.1,a.2.1⟩
def ZT(b:Twin P P')(c:Builtin)(e:Array aK)(h:aK)(f:Array Bool)(args:Array F)(d:AI P c e=af)(g:Bool):Still P P' (dm P) (vQ P g) (builtin c e h f args):=by
 have a:=tv P;unfold builtin;cases c<;>first|(simp[AI] at d;done)|skip
 exact bP (ZJ b a _ _ _ d) λ_=>trivial;exact bP (Z0 b a _ _ _) λ_=>trivial;exact bP (g_ b a _ _ _) λ_=>trivial;exact bP (l_9 _ _ _) λ_=>trivial;exact bP (F_ b a _ _ _) λ_=>trivial
def x3 (P:aW)(b:Bool):Target->Bool
 | .builtin .recover _ _ _=> !b
 | .builtin a c _ _=>AI P a c
 | .coroexit _=>ai
 |_=>af
def GX(a:Twin P P')(d:Ext P P')(b:Bool)(e:Target)(args:Array F)(c:x3 P b e=af):Still P P' (dm P) (vQ P b) (invoke e args):=by
 have g:=tv P;unfold invoke
 split
 exact mi a g _;rename_i f j e i;by_cases h:f= .recover;subst h;simp only[x3,Bool.not_eq_true'] at c;exact c;exact ZT a f j e i args (by cases f<;>first|exact absurd Y h|exact c) b;exact GS a d b _ _
 split
 exact Mf a d b _ _ _;exact dI _
 split
 exact bP (j7 a _) λk=>Mf a d b _ _ _;exact dI _
 split
 exact bP (t_9 a g _ _ _ _) λ_=>GS a d b _ _;exact dI _;exact G_9 b _ _;exact dI _;simp[x3] at c
def MJ(P P':aW)(c:Bool)(h:dU->F)(b:Call)(e:aK)(d:(match b.callee with| .builtin .recover=> !c| .builtin a=>AI P a b.argTypes|_=>af)=af):Still P P' (dm P) (λf=>x3 P c f.target=af) (oD h b e):=by
 unfold oD;dsimp only
 split
 rename_i a g;rw[g] at d;show x3 P c (.builtin a b.argTypes e _)=af;unfold x3;cases a<;>first|exact d|rfl
 exact rfl;unfold yK
 split
 exact rfl;exact rfl;exact dI _
def u_(P P':aW)(f:dU->F)(a:Call)(e:aK)(b:(match a.callee with| .builtin _=>ai|_=>af)=af):Still P P' (dm P) (λc=>sN c.target=af) (oD f a e):=by
 unfold oD;dsimp only
 split
 rename_i g d;rw[d] at b;cases b;exact rfl;unfold yK
 split
 exact rfl;exact rfl;exact dI _
def Z5(a:Twin P P')(n:Ext P P')(f:Bool)(h:dU->F)(e:Oper)(c:tn P f e.op=af):Still P P' (dm P) (vQ P f) (execOp h e):=by
 have b:=tv P;have o:∀j k,dm P (.number j k):=λ_ _=>trivial;have i:∀m d,dm P (.map m d):=λ_ _=>trivial;unfold execOp;cases p:e.op<;>rw[p] at c<;>first|(simp[tn] at c;done)|skip
 all_goals dsimp only
 case move=>exact trivial
 case assign=>exact trivial
 case pick=>exact bP (GP _) λ_=>trivial
 case alloc=>exact bP (ZI a b _ _ _) λ_=>trivial
 case box=>exact bP (ZQ a b _ _) λ_=>trivial
 case build=>exact bP (ZR a b _ _) λ_=>trivial
 case buildSlice=>exact bP (ZS a b _ _ _) λ_=>trivial
 case load=>exact bP (g_9 a b _ _) λ_=>trivial
 case store=>exact bP (z_ a b _ _ _) λ_=>trivial
 case nilCheck=>
  split
  all_goals first
   |exact mi a b _
   |exact trivial
   |skip
  split
  exact mi a b _;refine mV (by rw[a.Nl]) (bP (MH a b _ _ _ _) λq=>?_)
  split
  exact bP (g7 _ Y) λ_=>trivial;exact trivial;exact trivial
 case binOp=>exact bP (bP (Z4 a b _ _ _ _ _ _) λ_=>ZN a b o _ _ _ _) λ_=>trivial
 case unOp=>exact bP (E_ _ _) λ_=>trivial
 case convert=>exact bP (ZZ a b _ _ _ c) λ_=>trivial
 case makeInterface=>exact bP (i_9 a b _ _) λ_=>trivial
 case makeFunc=>exact trivial
 case makeMap=>exact bP (j_ a b i _ _) λ_=>trivial
 case makeSlice=>exact bP (j_9 a b _ _ _) λ_=>trivial
 case slice=>exact bP (w_ a b _ _ _ _ _) λ_=>trivial
 case fieldAddr=>exact bP (Z9 a b _ _ _) λ_=>trivial
 case field=>exact bP (Z8 a b _ _ _) λ_=>trivial
 case indexAddr=>exact bP (d_ a b _ _ _) λ_=>trivial
 case index=>exact bP (c_9 a b _ _ _) λ_=>trivial
 case lookup=>exact bP (i_ a b _ _ _ _) λ_=>trivial
 case mapUpdate=>exact bP (k_ a b i _ _ _ _) λ_=>trivial
 case extract=>exact bP (Z7 _ _) λ_=>trivial
 case panic=>exact bP (p_ a b _) λ_=>trivial
 case call d=>exact rS (MJ P P' f h d e.type c) λl g=>GX a n f _ _ g
 case defer d=>
  simp only[tn,ez] at c;exact rS (u_ P P' h d e.type c.2) λl g=>g
end
structure sn(P P':aW):Prop where
 T:Twin P P'
 E:Ext P P'
 quiet:∀f:Nat,(P'.funcs[f]?).any (·.norace)=(P.funcs[f]?).any (·.norace)
 mixed:P'.follows n4=P.follows n4
 bad:∀f:Nat,P'.funcs[f]? =P.funcs[f]? \/∃fn s,P.funcs[f]? =K fn/\fn.body=K (.refuse s)
 Ee:∀(f:Nat) (fn:cO) (c:de),P.funcs[f]? =K fn->fn.body=K c->fN P ai c=af
 view:Views P P'
def fL (P:aW)(a:Bool):dW->Prop
 |b9 b|gE b=>fN P a b=af
 |fI _| .inRangeFunc _| .endRangeFunc _=>True
 | .beginRound=>a=af
 |bW d _=>(dM d.toList λc=>tn P a c.op)=af
 |_=>False
structure kL(P:aW)(fr:aP):Prop where
 todo:∀i∈fr.todo,fL P (lG fr.roundOf) i
 defers:∀d∈fr.defers,sN d.target=af
 kind:eD fr=eA\/eD fr= .deferred
def fG:aP->List aP->Prop
 |fr,[]=>eD fr=eA
 |_,f::a=>fG f a
structure fh(P:aW)(fr:aP)(aY:List aP):Prop where
 top:kL P fr
 rest:∀f∈aY,kL P f
 bot:fG fr aY
def yF (a:aP):Prop:=iM a= .run/\∃s,a.todo=[b9 (.refuse s)]
def m4 (a:Nat)(c:cK):Prop:=match c.loc with
 | .obj d=>d<a
 | .cell b=>cH b<a
 | .mark m=>Conc.Neutral m
 |_=>True
def m4.mono(a:n<=m)(b:m4 n QT):m4 m QT:=by
 unfold m4 at*
 split<;>simp_all<;>omega
def Ze{j:fH->Bool}:∀(c:List cK) (g:Bool) (kept:Array cK),(∀a∈kept,∀f,a.loc≠.mark (.extern f))->∀a∈(c.foldl (Conc.seenStep j) (g,kept)).2,∀f,a.loc≠.mark (.extern f):=by
 intro c
 induction c with
 |nil=>exact λ_ _ b=>b
 |cons k c e=>
  intro g kept b;simp only[List.foldl_cons,Conc.seenStep]
  split
  exact e _ _ b;rename_i i;refine e _ _ ?_
  split
  exact b;intro a d;rcases Array.mem_push.1 d with d|rfl;exact b a d;exact λf h=>i f h
def LZ{P:aW}(d:∀a∈QR,lu n a):∀a∈seen P QG QR,m4 n a:=by
 intro a e;have b:=d a (Conc.mem_seen e);have g:∀f,a.loc≠.mark (.extern f):=by
  rw[Conc.seen_def] at e;exact Ze _ _ _ (λa d=>by simp at d) a e
 unfold lu at b;unfold m4;cases c:a.loc with
 |mark m=>
  rw[c] at b;rcases b with b|⟨f,rfl⟩;exact b;exact absurd c (g f)
 |cell h=>rw[c] at b;exact b
 |obj i=>rw[c] at b;exact b
 |_=>trivial
structure Ay(P P':aW)(w:ag)(F0:aW->Bool->List aP->ag->ku)(fr':aP)(tops':List aP)(w':ag)(es:Array cK):Prop where
 eq:∀m cs,F0 P m cs w= .go (aO fr' (tops'++cs)) w' es
 ok:fh P fr' tops'
 hp:Hp (dm P) w'
 tape:dV w'=dV w
 drawn:cm w<=cm w'
 size:U w.heap<=U w'.heap
 os:w'.os=w.os
 output:fS w'=fS w
 evs:∀e∈es,m4 (U w'.heap) e
 twin:(P≠P'/\yF fr')\/∀ τ d u,Un w u->Al (dV w) (cm w) τ d (cm w'-cm w)->∃u',iE w u w' u'/\∀m cs,F0 P' m cs (sh τ d u)= .go (aO fr' (tops'++cs)) (sh τ (d+(cm w'-cm w)) u') es
def mI (P P':aW)(w:ag)(c:aW->Bool->List aP->ag->ku):Prop:=
 (∀m d,∃f b a,c P m d w= .ended f b a)\/∃e g b a,Ay P P' w c e g b a
section
variable {P P':aW}{w:ag}
def nU(e:Hp (dm P) w)(a:aP)(b:List aP)(g:fh P a b):mI P P' w (λi m c w=>.go (aO a (b++c)) w):=
 an ⟨a,b,w,#[],λ_ _=>rfl,g,e,rfl,aV _,aV _,rfl,rfl,λk d=>by simp at d,an λl j h f _=>⟨h,f.two,λm c=>aF⟩⟩
def Ll(A:Hp (dm P) w)(k:sn P P')(f:fH)(args:Array F)(a:CallKind)(z:a=eA\/a= .deferred)(b:List aP)(B:∀f∈b,kL P f)(u:fG (fC P f args a) b):
 mI P P' w (λo m c w=>.go (aO (fC o f args a) (b++c)) w):=by
 have y:kL P (fC P f args a):=by
  refine⟨λD l=>?_,λi v=>by simp[fC] at v,z⟩;simp only[fC,List.mem_singleton] at l;subst l;show fN P ai _=af;cases x:P.funcs[f]? with
  |none=>rfl
  |some d=>
   cases e:d.body with
   |none=>simp[e,fN]
   |some p=>simpa [e] using k.Ee f d p x e
 refine an ⟨fC P f args a,b,w,#[],λ_ _=>rfl,⟨y,B,u⟩,A,rfl,aV _,aV _,rfl,rfl,λj q=>by simp at q,?_⟩;rcases k.bad f with j|⟨d,s,r,t⟩;refine an λC i h g _=>⟨h,g.two,λm c=>?_⟩;have:fC P' f args a=fC P f args a:=by unfold fC;rw[j]
 simp[this];by_cases n:P=P';subst n;exact an λC i h g _=>⟨h,g.two,λm c=>aF⟩;refine aq ⟨n,rfl,s,?_⟩;simp[fC,r,t]
def Zg(b:sn P P')(f:fH)(a:Array cK):seen P' f a=seen P f a:=by
 unfold seen;simp only[b.quiet]
def ym{y:Type}(B:sn P P')(K:Hp (dm P) w)(f:fH){s:bX y}{r:y->Prop}(L:Still P P' (dm P) r s){z:aW->Bool->List aP->ag->ku}(o:aW->Bool->List aP->kP y->ku)
 (hF:∀h,h=P\/h=P'->∀m d w,(∀a c,(s.runT h w #[]).1= .halt a c->sM a=af)->(∀i c,(s.runT h w #[]).1=b6 i c->r i)->z h m d w=pg (seen h f (s.runT h w #[]).2) (o h m d (s.runT h w #[]).1))
 (J:∀i c,r i->Hp (dm P) c->mI P P' c (λh m d w=>o h m d (b6 i w)))
 (I:∀a c,sM a=af->Hp (dm P) c->mI P P' c (λh m d w=>o h m d (.halt a w)))
 (N:∀x c m d,∃p v n,o P m d (.halt (.stuck x) c)= .ended p v n):mI P P' w z:=by
 have b:=LM (tv P) B.view s w #[] L K;rcases b.shift with⟨x,c,R⟩|M;refine aq λm d=>?_;have⟨p,v,n,a⟩:=N x c m d;refine⟨p,v,seen P f (s.runT P w #[]).2++n,?_⟩;rw[hF P (aq Y) _ _ _ b.halt b.ok,R,a];rfl;have g:mI P P' (rW (s.runT P w #[]).1) (λh m d u=>o h m d (uo u (s.runT P w #[]).1)):=by
  cases a:(s.runT P w #[]).1 with
  |ok i j=>exact J i j (b.ok i j a) (by have:=b.hp;rw[a] at this;exact this)
  |halt l j=>exact I l j (b.halt l j a) (by have:=b.hp;rw[a] at this;exact this)
 have D:uo (rW (s.runT P w #[]).1) (s.runT P w #[]).1=(s.runT P w #[]).1:=by cases(s.runT P w #[]).1<;>rfl
 rcases g with g|⟨G,U,c,n,g⟩;refine aq λm d=>?_;have⟨p,c,n,a⟩:=g m d;dsimp only at a;rw[D] at a;refine⟨p,c,seen P f (s.runT P w #[]).2++n,?_⟩;rw[hF P (aq Y) _ _ _ b.halt b.ok,a];rfl;refine an ⟨G,U,c,seen P f (s.runT P w #[]).2++n,λm d=>?_,g.ok,g.hp,g.tape.trans b.tape,dj b.drawn g.drawn,dj b.size g.size,g.os.trans b.os,g.output.trans b.output,λe H=>?_,?_⟩;have:=g.eq m d;try dsimp only at this
 rw[D] at this;rw[hF P (aq Y) _ _ _ b.halt b.ok,this];rfl;rcases Array.mem_append.1 H with a|a;refine m4.mono g.size (LZ (λl k=>?_) e a);rcases b.evs l k with a|a;simp at a;exact a;exact g.evs e a;rcases g.twin with a|a;exact aq a;refine an λF A u Q C=>?_;have V:=b.drawn;have W:=g.drawn;have⟨u1,E,t⟩:=M F A u Q (C.sub aa);have⟨u2,O,q⟩:=a F (A+((rW (s.runT P w #[]).1).drawn-w.drawn)) u1 E.un (by
  intro S T X;have:=C ((rW (s.runT P w #[]).1).drawn-w.drawn+S) T aa;rw[gF,b.tape,this];congr 1;omega)
 refine⟨u2,E.trans O,λm d=>?_⟩;replace q:=q m d;rw[hF P' (an Y) _ _ _ (λa c e=>by
  rw[t] at e;cases k:(s.runT P w #[]).1 with
  |ok i j=>rw[k] at e;simp[uo] at e
  |halt l j=>
   rw[k] at e;simp only[uo,abT] at e;rw[<-e.1];exact b.halt l j k) (λi c e=>by
  rw[t] at e;cases k:(s.runT P w #[]).1 with
  |halt i j=>rw[k] at e;simp[uo] at e
  |ok l j=>
   rw[k] at e;simp only[uo,Result.ok.injEq] at e;rw[<-e.1];exact b.ok l j k),t]
 dsimp only at q ⊢;rw[q,Zg B];show GStep.go _ _ _=GStep.go _ _ _;congr 2;omega
end
def gA (c:aP)(aY:List aP)(a:aW)(m:Bool)(b:List aP)(w:ag):ku:=bQ a m (aO c (aY++b)) w
section
variable {P J:aW}{w:ag}
def mT{d F':aW->Bool->List aP->ag->ku}(e:∀c,c=P\/c=J->∀m b w,d c m b w=F' c m b w)(a:mI P J w F'):mI P J w d:=by
 rcases a with a|⟨h,n,q,g,a⟩;exact aq λm b=>by rw[e P (aq Y)];exact a m b
 exact an ⟨h,n,q,g,λm b=>by rw[e P (aq Y)];exact a.eq m b,a.ok,a.hp,a.tape,a.drawn,a.size,a.os,a.output,a.evs,a.twin.imp id λi r f o l j=>by
 have⟨p,k,s⟩:=i r f o l j;exact⟨p,k,λm b=>bh⟩⟩
def ET(a:kL P Qf)(b:∀c∈QN,fL P (lG Qf.roundOf) c):kL P {Qf with todo:=QN}:=⟨b,a.defers,a.kind⟩
theorem AG(c:eD Qg=eD Qf):∀{b:List aP},fG Qf b->fG Qg b
 | [],a=>aB c a
 |_::_,a=>a
def rT(a:fh P Qf aY)(b:kL P Qg)(c:eD Qg=eD Qf):fh P Qg aY:=⟨b,a.rest,AG c a.bot⟩
def Pw(a:fN P af QJ=af):fN P ai QJ=af:=by
 have j:∀b,tn P af b=af->tn P ai b=af:=by
  intro b c;cases b<;>first|exact c|skip
  rename_i QJ;have⟨i,_,_⟩:=QJ;cases i with
  |builtin e=>cases e<;>first|rfl|exact c
  |_=>rfl
  simp[tn] at c
 induction QJ with
 |region _ k _=>
  simp only[fN,fD] at a ⊢;exact λb c=>j _ (a b c)
 |seq d e g h=>simp only[fN,ez] at a ⊢;exact⟨g a.1,h a.2⟩
 |cond _ d e g h=>simp only[fN,ez] at a ⊢;exact⟨g a.1,h a.2⟩
 |block _ d f=>exact f a
 |loop d f=>exact f a
 |rangeFunc _ _ d e _ _=>exact a
 |_=>first|rfl|(simp[fN] at a)
def Px(a:fN P af QJ=af):fN P qV QJ=af:=by
 cases qV;exact Pw a;exact a
theorem EH{e:Bool}{id:Nat}:∀{c b:List dW},(∀i∈c,fL P e i)->mC id c=K b->∀i∈b,fL P e i
 | [],b,_,a=>by simp[mC] at a
 |i::c,b,f,a=>by
  have d:∀i∈c,fL P e i:=λh g=>f h (by simp[g]);cases i<;>simp only[mC] at a
  case inBlock j=>
   split at a
   cases a;exact d;exact EH d a
  all_goals exact EH d a
def sA(d:kL P Qf)(v:F):kL P (di Qf v)/\(di Qf v).kind=Qf.kind:=by
 unfold di;have a:=d.todo
 split
 rename_i h g i f b;rw[b] at a;exact⟨⟨λe c=>by
  rcases fT.1 c with rfl|c;exact a (bW h (g::i)) aF;exact a e (by simp[c]),d.defers,d.kind⟩,rfl⟩
 rename_i j f b;rw[b] at a;exact⟨⟨λe c=>by
  rcases fT.1 c with rfl|c;exact trivial;exact a e (by simp[c]),d.defers,d.kind⟩,rfl⟩
 rename_i f b;rw[b] at a;exact⟨⟨λe c=>a e (by simp[c]),d.defers,d.kind⟩,rfl⟩;rename_i b;rw[b] at a;exact fe (a _ (List.mem_cons_self ..));rename_i b;rw[b] at a;exact fe (a _ (List.mem_cons_self ..));exact⟨d,rfl⟩
def wG(a:kL P Qf):kL P (jz Qf QU)/\(jz Qf QU).kind=Qf.kind:=by
 unfold jz
 split<;>exact⟨⟨a.todo,a.defers,a.kind⟩,rfl⟩
def Lu(j:Nat)(f:fH)(k:Array F)(b c:de)(a:CallKind)(i:a=eA\/a= .deferred)(e:fN P af b=af)(g:fN P af c=af):kL P (rf j f k b c a):=by
 refine⟨λm d=>?_,λl h=>by simp[rf] at h,i⟩;simp only[rf,fT,jm,or_false] at d;rcases d with rfl|rfl|rfl;exact e;rfl;exact g
def Xl(m:fh P Qf aY):
 (∀a,rp Qf (aY++a)=Z)\/∃v j,(∀a,rp Qf (aY++a)=K (v,j++a))/\(∀f∈j,kL P f)/\fG Qf j:=by
 have⟨n,k,g⟩:=m;rcases n.kind with b|b;exact aq λa=>by unfold rp;rw[b]
 cases aY with
 |nil=>exact absurd (aB g.symm b) aF
 |cons e i=>
  by_cases d:∃v c,iM e=kr ({v,recovered:=ai,goexit:=ai}::c);have⟨v,c,d⟩:=d;refine an ⟨v,{e with mode:=kr ({v,recovered:=af}::c)}::i,λa=>?_,λf h=>?_,?_⟩;unfold rp;simp[b,d];rcases fT.1 h with rfl|h;have:=k e aF;exact⟨this.todo,this.defers,this.kind⟩;exact k f (by simp[h]);cases i with
  |nil=>exact g
  |cons o i=>exact g
  refine aq λa=>?_;unfold rp;simp only[b,r9]
  split
  rename_i v c l;exact absurd ⟨v,c,l⟩ d;rfl
def tY{a:ku}:pg #[] a=a:=by cases a<;>simp[pg]
def seen_none(a:aW)(f:fH):seen a f #[]=#[]:=by simp[seen]
def F5(A:sn P J)(K:Hp (dm P) w)(c:fh P Qf aY){s:bX Next}(L:Still P J (dm P) (vQ P (lG Qf.roundOf)) s)(T:∀j wr N O M,Qf.todo≠.call j wr N O::M):
 mI P J w (λb m a w=>kx b af Qf (aY++a) Z s w):=by
 have h:(Qf.kind == .early)=ai:=by rcases c.top.kind with z|z<;>rw[z]<;>rfl
 have I:(match Qf.todo with| .call _ af _ _::_=>CallKind.wrapped|_=>eA)=eA:=bh;refine ym A K Qf.fn L (λb m a u=>match u with
  |b6 g w=>kx b af Qf (aY++a) Z (.pure g) w
  | .halt d w=>kx b af Qf (aY++a) Z (.halt d) w) (λb S m a w o _=>?_) (λg y k i=>?_) (λd y e i=>?_) (λU y m a=>⟨_,_,_,by simp only[kx,en,seen_none,h,tY,if_true,fA,if_false];rfl⟩)
 unfold kx;simp only[if_true,h,fA,if_false];generalize G:s.runT b w #[]=E;have⟨u,R⟩:=E;rw[G] at o;cases u with
 |ok g D=>simp[en,tY,seen_none]
 |halt d D=>
  have:=o d D Y;cases d<;>first|(simp[sM] at this;done)|(simp[en,tY,seen_none];done)|skip
  rename_i x;cases x<;>first|(simp[sM] at this;done)|(simp[en,tY,seen_none];done)
 .have r:∀v:F,mI P J y (λb m a w=>.go (aO (di Qf v) (aY++a)) w):=λv=>nU i _ _ (rT c (sA c.top v).1 (sA c.top v).2);have l:∀(b:aW) (a:List aP) (w:ag),kx b af Qf (aY++a) Z (.pure g) w=(match g with
   |eT v=>GStep.go (aO (di Qf v) (aY++a)) w
   | .skip=>.go (aO (di Qf cI) (aY++a)) w
   | .enter f args=>.go (aO (fC b f args eA) (Qf::(aY++a))) w
   | .round p f q d n=>.go (aO (rf p f q d n eA) (Qf::(aY++a))) w
   | .defer j=>.go (aO ({Qf with defers:=j::Qf.defers}.finish cI) (aY++a)) w
   |_=>kx b af Qf (aY++a) Z (.pure g) w):=by
   intro b a w;cases g<;>first|rfl|skip
   all_goals simp[kx,en,seen_none,h,tY,aO]
   exact congrArg (fC b _ _) I
  cases g with
  |value v=>exact mT (λb _ m a w=>l b a w) (r v)
  |skip=>exact mT (λb _ m a w=>l b a w) (r cI)
  |enter f args=>exact mT (λb _ m a w=>l b a w) (Ll i A f args eA (aq Y) (Qf::aY) (λd e=>by
   rcases fT.1 e with rfl|e;exact c.top;exact c.rest d e) c.bot)
  |round p f q d n=>exact mT (λb _ m a w=>l b a w) (nU i (rf p f q d n eA) (Qf::aY) ⟨Lu p f q d n eA (aq Y) k.1 k.2,λd e=>by
   rcases fT.1 e with rfl|e;exact c.top;exact c.rest d e,c.bot⟩)
  |defer j=>
   have B:kL P {Qf with defers:=j::Qf.defers}:=⟨c.top.todo,λd e=>by
    rcases fT.1 e with rfl|e;exact k;exact c.top.defers d e,c.top.kind⟩
   exact mT (λb _ m a w=>l b a w) (nU i _ _ (rT c (sA B cI).1 (sA B cI).2))
  |recover=>
   have C:pe Qf=Z:=by
    have:lG Qf.roundOf=ai:=k;simpa using this
   rcases Xl c with t|⟨v,Q,t,o,H⟩;exact mT (λb _ m a w=>by simp[kx,en,seen_none,h,tY,aO,C,t]) (r .nilIface);exact mT (λb _ m a w=>by simp[kx,en,seen_none,h,tY,aO,C,t]) (nU i (di Qf v) Q ⟨(sA c.top v).1,o,AG (sA c.top v).2 H⟩)
  |_=>exact fe k
 cases d with
 |panic v=>
  refine mT (F':=λb m a w=>.go (aO (jz Qf [{v,recovered:=ai}]) (aY++a)) w) (λb _ m a w=>?_) (nU i _ _ (rT c (wG c.top).1 (wG c.top).2));simp[kx,en,seen_none,h,tY,aO]
 |stuck s=>exact aq λm a=>⟨_,_,_,by simp only[kx,en,seen_none,h,tY,if_true,fA,if_false];rfl⟩
 |unsupported x=>
  refine aq λm a=>?_;cases x<;>first|(simp[sM] at e;done)|exact⟨_,_,_,by simp only[kx,en,seen_none,h,tY,if_true,fA,if_false];rfl⟩
 |_=>simp[sM] at e
def sj (a:aP)(aY:List aP):Prop:=aY=[]->(iM a≠.run->a.defers≠[])/\(iM a= .run->pe a=Z\/(a.todo≠[]/\(∀b,a.todo≠b9 .ret::b)/\∀id b,a.todo=b9 (.exit id)::b->mC id b≠Z))
def F7(B:sn P J)(l:Hp (dm P) w)(h:fh P Qf (Qg::aY))(v:F):mI P J w (λb m a w=>l5 b m Qf (Qg::aY++a) Z v w):=by
 have c:kL P Qg:=h.rest Qg aF;have n:∀f∈aY,kL P f:=λf q=>h.rest f (by simp[q]);have j:fG Qg aY:=h.bot;rcases h.top.kind with d|d;refine mT (F':=λb m a w=>.go (aO (di Qg v) (aY++a)) w) (λb _ m a w=>?_) (nU l _ _ ⟨(sA c v).1,n,AG (sA c v).2 j⟩);simp[l5,d,aO];obtain⟨g,o,r,p⟩:∃g:aP,kL P g/\g.kind=Qg.kind/\∀(b:aW) (m:Bool) (a:List aP) (w:ag),l5 b m Qf (Qg::aY++a) Z v w= .go (aO g (aY++a)) w:=by
  cases e:iM Qg with
  |run=>exact⟨Qg,c,rfl,λb m a w=>by simp[l5,d,e,aO]⟩
  |returning=>exact⟨Qg,c,rfl,λb m a w=>by simp[l5,d,e,aO]⟩
  |panicking s=>
   cases s with
   |nil=>exact⟨Qg,c,rfl,λb m a w=>by simp[l5,d,e,aO]⟩
   |cons i t=>
    have⟨z,x,A⟩:=i;cases x with
    |false=>exact⟨Qg,c,rfl,λb m a w=>by simp[l5,d,e,aO]⟩
    |true=>
     cases k:t.dropWhile (λi:hJ=> !i.goexit) with
     |nil=>exact⟨{Qg with mode:=jA},⟨c.todo,c.defers,c.kind⟩,rfl,λb m a w=>by simp[l5,d,e,aO,k]⟩
     |cons y u=>exact⟨{Qg with mode:=kr (y::u)},⟨c.todo,c.defers,c.kind⟩,rfl,λb m a w=>by simp[l5,d,e,aO,k]⟩
 exact mT (λb _ m a w=>p b m a w) (nU l _ _ ⟨o,n,AG r j⟩)
end
section
variable {P J:aW}{w:ag}
def Z2(d:Nat)(c:Option de)(e:∀a,c=K a->fN P af a=af):St P J (dm P) (yN d c):=by
 unfold yN;exact rS (By d) λf b=>bP (Ag _ ⟨b.1,b.2.1,e⟩) λ_=>trivial
def ZM(c:Twin P J)(b:Nat):St P J (dm P) (Instr.beginRound b):=by
 unfold Instr.beginRound;refine rS (By b) λd a=>bP (Ag _ ⟨a.1,a.2.1,a.2.2⟩) λ_=>?_
 split
 exact trivial
 all_goals exact mi c (tv P) _
def Z1(d:Twin P J)(c:Nat):Still P J (dm P) (λe=>∀b,e=K b->fN P af b=af) (Instr.endLoop c):=by
 unfold Instr.endLoop;refine rS (By c) λf a=>?_;dsimp only
 split
 exact bP (mi d (tv P) _) λ_=>bP (Ag _ ⟨a.1,a.2.1,a.2.2⟩) λ_=>a.2.2;exact bP (Ag _ ⟨a.1,a.2.1,a.2.2⟩) λ_=>a.2.2
def Z3(f:fH)(tmps:Array F)(k:Array Tmp)(e g:de)(i:Option Nat)(m:fN P af e=af)(n:fN P af g=af):Still P J (dm P) (λa=>∀b∈a.2,sN b.target=af) (Instr.enterLoop f tmps k e g i):=by
 unfold Instr.enterLoop;have j:∀(d:Nat),dm P (.loop {state:=.ready,pending:=Z,fn:=f,tmps,params:=k,assign:=e,body:=g,defers:=d}):=λd=>⟨m,n,λs l=>cV l⟩;cases i with
 |some o=>
  refine bP (ZE (By o)) λr=>rS (Q:=λa:Nat×List jJ=>∀b∈a.2,sN b.target=af) (λb c=>by simp at c) λa h=>?_;have⟨d,p⟩:=a;exact bP (Af (j _)) λq=>h
 |none=>
  refine bP (Af (λb c=>by simp at c)) λr=>rS (Q:=λa:Nat×List jJ=>∀b∈a.2,sN b.target=af) (λb c=>by
   simp only[List.mem_singleton] at c;subst c;rfl) λa h=>?_
  have⟨d,p⟩:=a;exact bP (Af (j _)) λq=>h
def C_9(a:Nat):Still P J (dm P) (λc=>∀b∈c,sN b.target=af) (Instr.takeDeferred a):=by
 unfold Instr.takeDeferred;refine Di a (λe d=>?_) (Ch Y)
 split
 exact bP (Ag _ trivial) λ_=>d;exact dI _
def F6(k:sn P J)(l:Hp (dm P) w)(d:fh P Qf aY)(t:aY=[]->pe Qf=Z)(h:Option de)(s:∀f,h=K f->fN P af f=af)
 {e:aW->Bool->List aP->ag->ku} (q:pe Qf=Z->(∀m b,∃u i p,e P m b w= .ended u i p)\/∀a,a=P\/a=J->∀m b w,e a m b w= .go (aO {Qf with mode:=jA} (aY++b)) w)
 (r:∀c,pe Qf=K c->∀a m b w,e a m b w=pg (seen a Qf.fn ((yN c h).runT a w #[]).2) (match ((yN c h).runT a w #[]).1 with
   |b6 v w=>l5 a m Qf (aY++b) Z v w
   | .halt _ w=>.ended (.stuck "range over a function: no such loop" (Qf.pos a)) w)):mI P J w e:=by
 cases g:pe Qf with
 |none=>
  rcases q g with j|j;exact aq j;exact mT j (nU l _ _ (rT d ⟨d.top.todo,d.top.defers,d.top.kind⟩ Y))
 |some c=>
  cases aY with
  |nil=>rw[t Y] at g;cases g
  |cons f aY=>
   refine ym k l Qf.fn (Z2 c h s) (λa m b x=>match x with
    |b6 v w=>l5 a m Qf (f::aY++b) Z v w
    | .halt _ w=>.ended (.stuck "range over a function: no such loop" (Qf.pos a)) w) (λa y m b w _ _=>r c g a m b w) (λo i _ n=>?_) (λA i z n=>?_) (λB i m b=>⟨_,_,_,rfl⟩)
   exact F7 k n d o;exact aq λm b=>⟨_,_,_,rfl⟩
def Xp(k:sn P J)(u:Hp (dm P) w)(g:fh P Qf aY)(V:sj Qf aY)(d:iM Qf= .run):mI P J w (gA Qf aY):=by
 have X:=g.top.todo;have W:aY=[]->pe Qf=Z\/(Qf.todo≠[]/\(∀e,Qf.todo≠b9 .ret::e)/\∀id e,Qf.todo=b9 (.exit id)::e->mC id e≠Z):=λj=>(V j).2 d;cases b:Qf.todo with
 |nil=>
  refine F6 k u g (λj=>(W j).elim id λn=>absurd b n.1) Z (λq j=>cV j) (λH=>an λc _ m a w=>?_) (λi x c m a w=>?_);simp[gA,aO,bQ,dN,d,b,H];simp only[gA,aO,bQ,dN,d,b,x];rfl
 |cons aa e=>
  rw[b] at X;have C:=X aa aF;have o:∀l∈e,fL P (lG Qf.roundOf) l:=λl t=>X l (by simp[t]);have move:∀(M:List dW),(∀l∈M,fL P (lG Qf.roundOf) l)->(∀c m a w,gA Qf aY c m a w= .go (aO {Qf with todo:=M} (aY++a)) w)->mI P J w (gA Qf aY):=λM k j=>mT (λc _ m a w=>j c m a w) (nU u _ _ (rT g (ET g.top k) Y));have r:∀{l:dW} {i:List dW},fL P (lG Qf.roundOf) l->(∀l∈i,fL P (lG Qf.roundOf) l)->∀n∈l::i,fL P (lG Qf.roundOf) n:=λt x n L=>bh;have T:(∀m a,∃N D ad,gA Qf aY P m a w= .ended N D ad)->mI P J w (gA Qf aY):=λj=>aq j;cases aa with
  |inBlock l=>exact move e o λc m a w=>by simp[gA,aO,bQ,dN,d,b]
  |inLoop q=>exact move (b9 q::gE q::e) (r C (r C o)) λc m a w=>by simp[gA,aO,bQ,dN,d,b]
  |inScope q=>exact C.elim
  |call _ _ _ _=>exact C.elim
  |extern _ _=>exact C.elim
  |inRangeFunc i=>exact T λm a=>by simp[gA,aO,bQ,dN,d,b]
  |beginRound=>
   have V:Still P J (dm P) (vQ P (lG Qf.roundOf)) (do Qf.roundOf.elim (stuck "beginRound: no round") Instr.beginRound;pure .skip):=by
    refine bP ?_ λ_=>trivial;cases(pe Qf) with
    |none=>exact dI _
    |some i=>exact ZM k.T i
   refine mT (λc _ m a w=>?_) (F5 k u g V (by simp[b]));simp only[gA,aO,bQ,dN,d,b]
  |endRangeFunc i=>
   refine ym k u Qf.fn (Z1 k.T i) (λc m a R=>match R with
    |b6 am w=>.go (aO {Qf with todo:=(am.map b9).toList++e} (aY++a)) w
    | .halt (.panic v) w=>.go (aO (jz Qf [{v,recovered:=ai}]) (aY++a)) w
    | .halt _ w=>.ended (.stuck "range over a function: no such loop" (Qf.pos c)) w) (λc ae m a w _ _=>?_) (λp D G F=>?_) (λn D L F=>?_) (λS D m a=>⟨_,_,_,rfl⟩)
   simp only[gA,aO,bQ,dN,d,b];rfl;refine nU F _ _ (rT g (ET g.top λl t=>?_) Y);rcases eG.1 t with t|t;cases p with
   |none=>simp at t
   |some q=>
    simp at t;subst t;exact Px (G q Y)
   exact o l t;cases n with
   |panic v=>exact nU F _ _ (rT g (wG g.top).1 (wG g.top).2)
   |_=>exact aq λm a=>⟨_,_,_,rfl⟩
  |inRegion y ar=>
   cases ar with
   |nil=>exact move e o λc m a w=>by simp[gA,aO,bQ,dN,d,b]
   |cons l R=>
    by_cases I:((y[l]?).map (eF · (yielded y Qf.tmps))).getD ai=af;cases O:y[l]? with
    |none=>rw[O] at I;simp at I
    |some N=>
     have U:tn P (lG Qf.roundOf) N.op=af:=by
      have:=fD.1 C N (by
       have:=dY.1 O;obtain⟨t,rfl⟩:=this;simp)
      exact this
     refine mT (λc _ m a w=>?_) (F5 k u g (Z5 k.T k.E (lG Qf.roundOf) Qf.eval N U) (by simp[b]));rw[O] at I;simp only[gA,aO,bQ,dN,d,b,O,I,if_true,stepG.oper,Frame.oper?]
     split
     rename_i i q x h;rw[x,h] at U;simp[tn] at U;rfl
    refine mT (F':=λc m a w=>.go (aO (di Qf cI) (aY++a)) w) (λc _ m a w=>?_) (nU u _ _ (rT g (sA g.top cI).1 (sA g.top cI).2));simp only[gA,aO,bQ,dN,d,b,I,if_false];rfl
  |code q=>
   have h:fN P (lG Qf.roundOf) q=af:=C;cases q with
   |skip=>exact move e o λc m a w=>by simp[gA,aO,bQ,dN,d,b]
   |label i=>simp[fN] at h
   |scope i=>simp[fN] at h
   |goto i=>simp[fN] at h
   |refuse s=>exact T λm a=>by simp[gA,aO,bQ,dN,d,b]
   |seq p E=>
    simp only[fN,ez] at h;exact move (b9 p::b9 E::e) (r h.1 (r h.2 o)) λc m a w=>by simp[gA,aO,bQ,dN,d,b]
   |block id p=>exact move (b9 p::fI id::e) (r h (r trivial o)) λc m a w=>by simp[gA,aO,bQ,dN,d,b]
   |loop p=>exact move (b9 p::gE p::e) (r h (r h o)) λc m a w=>by simp[gA,aO,bQ,dN,d,b]
   |cond n p E=>
    simp only[fN,ez] at h;cases L:Qf.eval n with
    |bool S=>
     refine move (b9 (if S then p else E)::e) (r ?_ o) λc m a w=>by simp[gA,aO,bQ,dN,d,b,L]
     cases S;exact h.2;exact h.1
    |_=>exact T λm a=>by simp[gA,aO,bQ,dN,d,b,L]
   |ret=>
    refine F6 k u g (λj=>(W j).elim id λn=>absurd b (n.2.1 e)) (K .ret) (λq j=>by cases j;rfl) (λH=>an λc _ m a w=>?_) (λi x c m a w=>?_);simp[gA,aO,bQ,dN,d,b,H];simp only[gA,aO,bQ,dN,d,b,x];rfl
   |exit id=>
    cases B:mC id e with
    |some M=>exact move M (EH o B) λc m a w=>by simp[gA,aO,bQ,dN,d,b,B]
    |none=>
     refine F6 k u g (λj=>(W j).elim (λn=>n) λn=>absurd B (n.2.2 id e b)) (K (.exit id)) (λq j=>by cases j;rfl) (λH=>aq λm a=>?_) (λi x c m a w=>?_);simp[gA,aO,bQ,dN,d,b,B,H];simp only[gA,aO,bQ,dN,d,b,B,x];rfl
   |region id y ab=>
    cases ab with
    |false=>exact move (bW y (List.range y.size)::e) (r h o) λc m a w=>by simp[gA,aO,bQ,dN,d,b]
    |true=>
     refine an ⟨{Qf with todo:=bW y (yV (P.follows n4) y (dV w (cm w) (.order Qf.fn id)))::e},aY,{w with drawn:=cm w+1},#[],λm a=>?_,rT g (ET g.top (r h o)) Y,u,rfl,Nat.le_succ _,aV _,rfl,rfl,λj B=>by simp at B,an λay z aw Q G=>⟨aw,⟨⟨Q.size,Q.at_,Q.os,Q.output⟩,λE aj=>⟨aj,rfl⟩⟩,λm a=>?_⟩⟩;simp[gA,aO,bQ,dN,d,b,choose,iY,Question.forced,Question.cut];have:=G 0 (.order Qf.fn id) aF;simp only[s6] at this;simp[gA,aO,bQ,dN,d,b,choose,iY,Question.forced,Question.cut,k.mixed,sh,this]
   |rangeFunc f ap p E=>
    simp only[fN,ez] at h;refine ym k u Qf.fn (Z3 Qf.fn Qf.tmps ap p E (pe Qf) h.1 h.2) (λc m a R=>match R with
     |b6 (i,mark) w=>kx c af {Qf with todo:=.inRangeFunc i::e,defers:=mark++Qf.defers} (aY++a) Z (do let z <-oD Qf.eval {callee:=.value f,args:= #[.const (.func (Go.Fn.yield i) #[] #[])],argTypes:= #[]} 0;invoke z.target z.args) w
     | .halt _ w=>.ended (.stuck "range over a function: no such loop" (Qf.pos c)) w) (λc ae m a w _ _=>?_) (λao D G F=>?_) (λn D L F=>?_) (λS D m a=>⟨_,_,_,rfl⟩)
    simp only[gA,aO,bQ,dN,d,b];rfl;have⟨i,mark⟩:=ao;have al:kL P {Qf with todo:=.inRangeFunc i::e,defers:=mark++Qf.defers}:=⟨r trivial o,λz A=>by
     rcases eG.1 A with A|A;exact G z A;exact g.top.defers z A,g.top.kind⟩
    exact F5 k F (rT g al Y) (rS (MJ P J (lG Qf.roundOf) _ _ _ Y) λz A=>GX k.T k.E _ _ _ A) aF;exact aq λm a=>⟨_,_,_,rfl⟩
def TD{a:Target}(b:sN a=af):x3 P qV a=af:=by
 cases a<;>first|rfl|(simp[sN] at b)
def Xo(l:sn P J)(H:Hp (dm P) w)(c:fh P Qf aY){k:jJ}(G:sN k.target=af)(M:iM Qf≠.run):mI P J w (λh m a w=>callDeferred h Qf (aY++a) Z k w):=by
 have⟨q,y⟩:=k;by_cases A:q= .nil/\∃z,iM Qf=kr z
 .obtain⟨rfl,z,F⟩:=A;refine aq λm a=>?_;dsimp only;unfold callDeferred;rw[if_pos ?hP]
  case hP=>simp[F]
  exact⟨_,_,_,rfl⟩
 .have u:∀g,Hp (dm P) g->mI P J g (λh m a w=>.go (aO Qf (aY++a)) w):=λg d=>nU d _ _ c;refine ym l H Qf.fn (GX l.T l.E af q y (TD G)) (λh m a t=>match t with
   |b6 (.enter f args) w=>.go (aO (fC h f args .deferred) (Qf::aY++a)) w
   |b6 (.round p f r i j) w=>.go (aO (rf p f r i j .deferred) (Qf::aY++a)) w
   |b6 _ w=>.go (aO Qf (aY++a)) w
   | .halt (.panic v) w=>.go (aO (jz Qf [{v,recovered:=ai}]) (aY++a)) w
   | .halt b w=>.ended (match b with| .unsupported C=>.unsupported C (Qf.pos h)| .stuck s=>.stuck s (Qf.pos h)|_=>.stuck "" "") w) (λh I m a w B o=>?_) (λi g n d=>?_) (λb g e d=>?_) (λN g m a=>⟨_,_,_,rfl⟩)
  .unfold callDeferred;rw[if_neg ?hL]
   case hL=>
    intro E;apply A;cases q<;>cases o:iM Qf<;>simp[o] at E ⊢
   generalize K:(invoke q y).runT h w #[]=D at B o;have⟨t,L⟩:=D;dsimp only;cases t with
   |ok i x=>
    have:=o i x Y;cases i<;>first|exact absurd this (λc=>c)|(cases this;done)|rfl
   |halt b x=>
    have:=B b x Y;cases b<;>first|(simp[sM] at this;done)|rfl
  cases i with
  |value v=>exact u g d
  |skip=>exact u g d
  |enter f args=>exact Ll d l f args .deferred (an Y) (Qf::aY) (λb e=>by
   rcases fT.1 e with rfl|e;exact c.top;exact c.rest b e) c.bot
  |round p f r b j=>exact nU d (rf p f r b j .deferred) (Qf::aY) ⟨Lu p f r b j .deferred (an Y) n.1 n.2,λb e=>by
   rcases fT.1 e with rfl|e;exact c.top;exact c.rest b e,c.bot⟩
  |defer k=>exact u g d
  |recover=>cases n
  |_=>exact fe n
  cases b with
  |panic v=>exact nU d _ _ (rT c (wG c.top).1 (wG c.top).2)
  |stuck s=>exact aq λm a=>⟨_,_,_,rfl⟩
  |unsupported C=>exact aq λm a=>⟨_,_,_,rfl⟩
  |_=>simp[sM] at e
def MK(a:Twin P J)(b:cO)(e:Array F):St P J (dm P) (dx b e):=by
 unfold dx;refine bP (MB _ _ λc=>?_) λg=>trivial;cases c with
 |tmp d=>exact trivial
 |cell f d=>exact bP (L9 a (tv P) _) λ_=>GZ a _ _
def Xq(j:sn P J)(k:∀f:Nat,(J.funcs[f]? =Z↔P.funcs[f]? =Z)/\∀e d:cO,P.funcs[f]? =K e->J.funcs[f]? =K d->r4 d=r4 e)(n:Hp (dm P) w)(c:fh P Qf aY)(S:sj Qf aY)(t:iM Qf≠.run):mI P J w (gA Qf aY):=by
 have L:∀a m b w,gA Qf aY a m b w=mF a m Qf (aY++b) Z w:=λa m b w=>by
  unfold gA;cases p:iM Qf<;>first|exact absurd p t|simp[aO,bQ,p]
 refine mT (λa _ m b w=>L a m b w) ?_;cases h:Qf.defers with
 |cons x B=>
  have R:sN x.target=af:=c.top.defers x (by simp[h]);have E:kL P {Qf with defers:=B}:=⟨c.top.todo,λi g=>c.top.defers i bh,c.top.kind⟩;have U:=Xo j n (rT c E Y) R t;have⟨V,aa⟩:=x;cases V with
  |collected F=>
   refine ym j n Qf.fn (C_9 F) (λa m b z=>match z with
    |b6 G w=>.go (aO {Qf with defers:=G++B} (aY++b)) w
    | .halt _ w=>.ended (.stuck "the deferred calls of a range-over-func loop have been taken" (Qf.pos a)) w) (λa y m b w _ _=>?_) (λA q C o=>?_) (λi q g o=>?_) (λW q m b=>⟨_,_,_,rfl⟩)
   unfold mF;rw[h];rfl;exact nU o _ _ (rT c ⟨c.top.todo,λi g=>by
    rcases eG.1 g with g|g;exact C i g;exact E.defers i g,c.top.kind⟩ Y)
   exact aq λm b=>⟨_,_,_,rfl⟩
  |_=>
   refine mT (λa _ m b w=>?_) U;unfold mF;rw[h]
 |nil=>
  cases aY with
  |nil=>exact absurd h ((S Y).1 t)
  |cons r aY=>
   have D:kL P r:=c.rest r aF;have T:∀f∈aY,kL P f:=λf k=>c.rest f (by simp[k]);cases u:iM Qf with
   |run=>exact absurd u t
   |panicking H=>
    have Q:∀a,Qf.catches a=ai:=λa=>by
     unfold Frame.catches
     split
     rename_i I;exact fe (c.top.todo (Item.call _ _ _ _) (b5 I (List.mem_cons_self ..)))
     .rfl
    refine mT (F':=λa m b w=>.go (aO (jz r H) (aY++b)) w) (λa _ m b w=>?_) (nU n _ _ ⟨(wG D).1,T,AG (wG D).2 c.bot⟩);unfold mF;rw[h];simp[u,Q,aO]
   |returning=>
    cases l:P.funcs[Qf.fn]? with
    |none=>
     have X:=(k Qf.fn).1.2 l;refine mT (λa y m b w=>?_) (F7 j n c (ek Qf.tmps 0 cI));have:a.funcs[Qf.fn]? =Z:=bh;unfold mF;rw[h];simp[u,this]
    |some e=>
     refine ym j n Qf.fn (MK j.T e Qf.tmps) (λa m b z=>match z with
      |b6 v w=>l5 a m Qf (r::aY++b) Z v w
      | .halt (.stuck s) w=>.ended (.stuck s (Qf.pos a)) w
      | .halt _ w=>.ended (.stuck "return: the result variables cannot be read" (Qf.pos a)) w) (λa y m b w _ _=>?_) (λA q C o=>?_) (λi q g o=>?_) (λW q m b=>⟨_,_,_,rfl⟩)
     have:∃d,a.funcs[Qf.fn]? =K d/\r4 d=r4 e:=by
      rcases y with rfl|rfl;exact⟨e,l,rfl⟩;cases p:a.funcs[Qf.fn]? with
      |none=>rw[(k Qf.fn).1.1 p] at l;cases l
      |some d=>exact⟨d,rfl,(k Qf.fn).2 e d l p⟩
     have⟨d,M,N⟩:=this;have O:dx d Qf.tmps=dx e Qf.tmps:=by unfold dx;rw[N]
     unfold mF;rw[h];simp only[u,M,O];rfl;exact F7 j o c A;cases i<;>exact aq λm b=>⟨_,_,_,rfl⟩
def F8(d:sn P J)(i:∀f:Nat,(J.funcs[f]? =Z↔P.funcs[f]? =Z)/\∀a b:cO,P.funcs[f]? =K a->J.funcs[f]? =K b->r4 b=r4 a)(g:Hp (dm P) w)(c:fh P Qf aY)(h:sj Qf aY):mI P J w (gA Qf aY):=by
 by_cases e:iM Qf= .run;exact Xp d g c h e;exact Xq d i g c h e
end
structure Twins(P P':aW):Prop where
 A:sn P P'
 R:∀f:Nat,(P'.funcs[f]? =Z↔P.funcs[f]? =Z)/\∀fn fn':cO,P.funcs[f]? =K fn->P'.funcs[f]? =K fn'->r4 fn'=r4 fn
def Still.self{P P':aW}{h:cj->Prop}{k:Type}{i:k->Prop}:∀{s:bX k},Still P P' h i s->Still P P h i s:=by
 intro s
 induction s with
 |pure e=>intro a;exact a
 |load m e c b=>intro a v;exact b v (a v)
 |store m e v c b=>intro a;exact b a
 |new f c b=>intro a;exact⟨a.1,λd=>b d (a.2 d)⟩
 |shape d c b=>intro a s;exact b s (a s)
 |freeze e g c b=>intro a;exact b a
 |frozen e c b=>intro a j;exact b j (a j)
 |getObj d c b=>intro a;exact⟨λf l=>b f (a.1 f l),a.2⟩
 |setObj d f c b=>intro a;exact⟨a.1,b a.2⟩
 |choose o c b=>intro a g;exact b g (a g)
 |sys n c b=>intro a;exact⟨a.1,λd=>b d (a.2 d)⟩
 |program c b=>intro a;exact⟨rfl,b P a.2⟩
 |mark m c b=>intro a;exact⟨a.1,b a.2⟩
 |halt a=>intro a;exact a
def Views.self{P P':aW}(e:Views P P'):Views P P:=by
 have i:∀(a:ag) c d b m,a.viewLoad P' c d b m=a.viewLoad P c d b m:=λa c d b m=>e.load a a c d b m λ_ _ _=>Iff.rfl;have s:∀(a:ag) c d b v m,a.viewStore P' c d b v m=a.viewStore P c d b v m:=λa c d b v m=>by
  rcases e.store a a c d b v m λ_ _ _=>Iff.rfl with⟨o,j,k⟩|⟨l,i,f,n,j,k,-⟩<;>rw[j,k]
 refine⟨λa g c d b m h=>(i g c d b m).symm.trans (e.load a g c d b m h),e.touch,λa g c d b v m h=>?_⟩;rw[<-s g];exact e.store a g c d b v m h
def Twins.self{P P':aW}(a:Twins P P'):Twins P P:=
 ⟨⟨⟨λ_=>rfl,λ_=>rfl,rfl,λ_=>rfl,λ_=>rfl,rfl,λ_ _ _ _ _ _=>rfl,λ_ _ _ _ _=>rfl,λ_ _ _=>rfl,λ_ _=>rfl,λ_=>rfl,λ_ _=>rfl,rfl,rfl,rfl,λ_=>aq Y⟩,
  ⟨a.A.E.named,a.A.E.next,λf b e c d g args=>(a.A.E.find f b e c d g args).self⟩,λ_=>rfl,rfl,λ_=>aq Y,a.A.Ee,a.A.view.self⟩,λf=>⟨Iff.rfl,λb h c d=>bh⟩⟩
structure DT(P:aW)(w w':ag)(es:Array cK):Prop where
 hp:Hp (dm P) w'
 tape:dV w'=dV w
 drawn:cm w<=cm w'
 size:U w.heap<=U w'.heap
 os:w'.os=w.os
 output:fS w'=fS w
 evs:∀e∈es,m4 (U w'.heap) e
def Fin (P P':aW)(Stop:aP->List aP->ag->Prop)(d:aP)(aY:List aP)(e f:ag):Prop:=
 ∀g:aP->List aP->ag->ag->Prop,(∀d aY e f,Stop d aY e->g d aY e f)->
  (∀d aY e f (c:Tp->Nat->aP×List aP×ag×ag×Array cK),(∀b a m h,bQ P' m (aO d (aY++h)) (sh b a f)= .go (aO (c b a).1 ((c b a).2.1++h)) (c b a).2.2.2.1 (c b a).2.2.2.2)->
    (∀b a,DT P (sh b a e) (c b a).2.2.1 (c b a).2.2.2.2)->(∀b a,iE (sh b a e) (sh b a f) (c b a).2.2.1 (c b a).2.2.2.1/\(c b a).2.2.2.1.tape=(c b a).2.2.1.tape)->(∀b a,fh P (c b a).1 (c b a).2.1)->sj d aY->
    (∀b a,g (c b a).1 (c b a).2.1 (c b a).2.2.1 (c b a).2.2.2.1)->g d aY e f)->g d aY e f
def Fin.stop{P P':aW}{Stop:aP->List aP->ag->Prop}(a:Stop Qf aY w):Fin P P' Stop Qf aY w u:=λc b _=>b _ _ _ _ a
def Fin.step{P P':aW}{Stop:aP->List aP->ag->Prop}(c:Tp->Nat->aP×List aP×ag×ag×Array cK)(g:∀b a m d,bQ P' m (aO Qf (aY++d)) (sh b a u)= .go (aO (c b a).1 ((c b a).2.1++d)) (c b a).2.2.2.1 (c b a).2.2.2.2)
 (j:∀b a,DT P (sh b a w) (c b a).2.2.1 (c b a).2.2.2.2) (n:∀b a,iE (sh b a w) (sh b a u) (c b a).2.2.1 (c b a).2.2.2.1/\(c b a).2.2.2.1.tape=(c b a).2.2.1.tape) (k:∀b a,fh P (c b a).1 (c b a).2.1) (l:sj Qf aY) (h:∀b a,Fin P P' Stop (c b a).1 (c b a).2.1 (c b a).2.2.1 (c b a).2.2.2.1):Fin P P' Stop Qf aY w u:=
 λf i e=>e _ _ _ _ c g j n k l λb a=>h b a f i e
def fF:aP:={(default:aP) with todo:=[b9 (.refuse "")],defers:=[{target:=.nil,args:= #[]}],mode:=.run,kind:=eA}
section
variable {P P':aW}
def M_(a:Option (List hJ))(d:ag):∃c e b,bQ P af (aO ((a.map (jz fF)).getD fF) []) d= .ended c e b:=by
 cases a with
 |none=>simp[aO,bQ,dN,fF]
 |some f=>simp[aO,bQ,fF,jz,mF,callDeferred]
def VF(N:Twins P P')(Q:Hp (dm P) w)(i:fh P Qf [])(x:¬sj Qf []):(∃j c d,bQ P af (aO Qf [fF]) w= .ended j c d)\/∃e c d,bQ P af (aO Qf [fF]) w= .go (aO (((e:Option (List hJ)).map (jz fF)).getD fF) []) c d:=by
 have G:eD Qf=eA:=i.bot;have s:∀v w,l5 P af Qf [fF] Z v w= .go (aO fF []) w:=λv w=>by simp[l5,G,aO,di,fF]
 have t:∀d k,((∃j c d,k=GStep.ended j c d)\/∃e c d,k=GStep.go (aO (((e:Option (List hJ)).map (jz fF)).getD fF) []) c d)->(∃j c m,pg d k=GStep.ended j c m)\/∃e c m,pg d k=GStep.go (aO (((e:Option (List hJ)).map (jz fF)).getD fF) []) c m:=by
  rintro d k (⟨j,c,m,rfl⟩|⟨e,c,m,rfl⟩);exact aq ⟨_,_,_,rfl⟩;exact an ⟨e,_,_,rfl⟩
 by_cases g:iM Qf= .run;have M:∃b r,pe Qf=K b/\∀w,bQ P af (aO Qf [fF]) w=pg (seen P Qf.fn ((yN b r).runT P w #[]).2) (match ((yN b r).runT P w #[]).1 with
  |b6 v w=>l5 P af Qf [fF] Z v w
  | .halt _ w=>.ended (.stuck "range over a function: no such loop" (Qf.pos P)) w):=by
  have:¬(pe Qf=Z\/(Qf.todo≠[]/\(∀a,Qf.todo≠b9 .ret::a)/\∀id a,Qf.todo=b9 (.exit id)::a->mC id a≠Z)):=λF=>x λ_=>⟨λi=>absurd g i,λ_=>F⟩;rw[not_or] at this;have⟨J,q⟩:=this;obtain⟨b,f⟩:∃b,pe Qf=K b:=by
   cases L:pe Qf with
   |none=>exact absurd L J
   |some b=>exact⟨b,rfl⟩
  by_cases u:Qf.todo=[];exact⟨b,Z,f,λw=>by simp only[aO,bQ,dN,g,u,f];rfl⟩;by_cases n:∃a,Qf.todo=b9 .ret::a;have⟨a,n⟩:=n;exact⟨b,K .ret,f,λw=>by simp only[aO,bQ,dN,g,n,f];rfl⟩;by_cases o:∃id a,Qf.todo=b9 (.exit id)::a/\mC id a=Z;have⟨id,a,o,C⟩:=o;exact⟨b,K (.exit id),f,λw=>by simp only[aO,bQ,dN,g,o,C,f];rfl⟩;exact absurd ⟨u,λa l=>n ⟨a,l⟩,λid a l I=>o ⟨id,a,l,I⟩⟩ q
 have⟨b,r,f,E⟩:=M;rw[E];refine t _ _ ?_;cases((yN b r).runT P w #[]).1 with
 |ok v h=>exact an ⟨Z,h,_,s v h⟩
 |halt y h=>exact aq ⟨_,_,_,rfl⟩
 have p:Qf.defers=[]:=by
  by_cases p:Qf.defers=[];exact p;exact absurd (λ_=>⟨λ_=>p,λi=>absurd i g⟩) x
 have A:∀w,bQ P af (aO Qf [fF]) w=mF P af Qf [fF] Z w:=λw=>by
  cases q:iM Qf<;>first|exact absurd q g|simp[aO,bQ,q]
 rw[A];unfold mF;rw[p];cases H:iM Qf with
 |run=>exact absurd H g
 |panicking z=>
  have D:Qf.catches P=ai:=by
   unfold Frame.catches
   split
   rename_i l;exact fe (i.top.todo (Item.call _ _ _ _) (b5 l (List.mem_cons_self ..)));rfl
  exact an ⟨K z,w,#[],by simp[D,aO]⟩
 |returning=>
  dsimp only;cases O:P.funcs[Qf.fn]? with
  |none=>exact an ⟨Z,w,_,s _ w⟩
  |some B=>
   dsimp only;refine t _ _ ?_;cases((dx B Qf.tmps).runT P w #[]).1 with
   |ok v h=>exact an ⟨Z,h,_,s v h⟩
   |halt y h=>cases y<;>exact aq ⟨_,_,_,rfl⟩
end
def AE (Stop:aP->List aP->ag->Prop)(b:aP)(aY:List aP)(c:ag):Prop:=∃d a,Stop b aY (sh d a c)
structure Node(P P':aW)(Stop:aP->List aP->ag->Prop) where
 fr:aP
 aY:List aP
 w:ag
 u:ag
 ok:fh P fr aY
 hp:Hp (dm P) w
 un:Un w u
 no:¬Fin P P' (AE Stop) fr aY w u
section
variable {P P':aW}{Stop:aP->List aP->ag->Prop}
def HI (a:Node P P' Stop)(e:Tp)(c:Nat)(b:Node P P' Stop):Prop:=∃d,Ay P P (sh e c a.w) (gA a.fr a.aY) b.fr b.aY b.w d
def DX (a:Node P P' Stop)(f:Tp)(d:Nat):Prop:=¬sj a.fr a.aY\/(∀m g,∃h c b,gA a.fr a.aY P m g (sh f d a.w)= .ended h c b)\/∃e i c b,Ay P P (sh f d a.w) (gA a.fr a.aY) e i c b/\yF e
def Nm(b:iE w w u W)(e:Tp)(d:Nat):sh e d W=sh e d u:=by
 have f:gP W=gP u:=by
  apply vB;intro c;rcases b.un.cases c with a|⟨a,i,g,h⟩;exact a;rw[(b.keep c a).2,(b.keep c a).1,a]
 unfold sh;rw[f,b.un.os,b.un.output]
def GH{d:aW->Bool->List aP->ag->ku}(hx:∀a n b,Un w b->Al (dV w) (cm w) a n (cm u-cm w)->∃c,iE w b u c/\∀m e,d P m e (sh a n b)= .go (aO Qf (Qi++e)) (sh a (n+(cm u-cm w)) c) QR){a:Tp}(g:Al (dV w) (cm w) a n (cm u-cm w)):d P af [fF] (sh a n w)= .go (aO Qf (Qi++[fF])) (sh a (n+(cm u-cm w)) u) QR:=by
 have⟨c,h,f⟩:=hx a n w (Un.refl w) g;rw[f af [fF],Nm h]
def SW(b:Twins P P')(f:Hp (dm P) w)(h:fh P Qf aY)(g:sj Qf aY)(c:Ay P P' w (gA Qf aY) Qg Qi u QR):Ay P P w (gA Qf aY) Qg Qi u QR:=by
 rcases F8 b.self.A b.self.R f h g with e|⟨j,l,n,i,d⟩;have⟨k,m,oh,a⟩:=e af [];rw[c.eq] at a;cases a;have a:=(d.eq af []).symm.trans (c.eq af []);simp only[aO,oH,GStep.go.injEq,HG] at a;obtain⟨⟨rfl,rfl,-⟩,rfl,rfl⟩:=a;exact d
def UF(p:Twins P P')(c:Node P P' Stop):∃b a l,DX c b a\/HI c b a l:=by
 apply w7;intro u;have v:∀b a,¬DX c b a/\∀l,¬HI c b a l:=λb a=>⟨λi=>u ⟨b,a,c,aq i⟩,λl C=>u ⟨b,a,l,an C⟩⟩;have j:∀b a,∃d:aP×List aP×ag×ag×Array cK,(∀m h,bQ P' m (aO c.fr (c.aY++h)) (sh b a c.u)= .go (aO d.1 (d.2.1++h)) d.2.2.2.1 d.2.2.2.2)/\DT P (sh b a c.w) d.2.2.1 d.2.2.2.2/\(iE (sh b a c.w) (sh b a c.u) d.2.2.1 d.2.2.2.1/\d.2.2.2.1.tape=d.2.2.1.tape)/\fh P d.1 d.2.1/\Fin P P' (AE Stop) d.1 d.2.1 d.2.2.1 d.2.2.2.1:=by
  intro b a;have⟨r,A⟩:=v b a;have g:sj c.fr c.aY:=w7 λg=>r (aq g);rcases F8 p.A p.R (c.hp.sh b a) c.ok g with z|⟨o,s,f,n,e⟩;exact absurd (an (aq z)) r;have w:=SW p (c.hp.sh b a) c.ok g e;rcases e.twin with q|i;exact absurd (an (an ⟨o,s,f,n,w,q.2⟩)) r;have⟨t,k,i⟩:=i b a c.u ⟨c.un.size,c.un.at_,c.un.os,c.un.output⟩ (Al.refl _ _ _);have q:=e.drawn;have y:(sh b a c.w).drawn=a:=rfl;rw[y] at q i;have x:iE (sh b a c.w) (sh b a c.u) f (sh b f.drawn t):=⟨⟨k.un.size,k.un.at_,k.un.os,k.un.output⟩,k.keep⟩;refine⟨(o,s,f,sh b f.drawn t,n),λm h=>?_,⟨e.hp,e.tape,e.drawn,e.size,e.os,e.output,e.evs⟩,⟨x,bA e.tape⟩,e.ok,?_⟩;have:=i m h;rw[show a+(f.drawn-a)=f.drawn by omega] at this;exact this;apply w7;intro B;exact A ⟨o,s,f,sh b f.drawn t,e.ok,e.hp,x.un,B⟩ ⟨n,w⟩
 have g:sj c.fr c.aY:=w7 λg=>(v (λ_ _=>0) 0).1 (aq g);exact c.no (.step (λb a=>mq (j b a)) (λb a m h=>(fj (j b a)).1 m h) (λb a=>(fj (j b a)).2.1) (λb a=>(fj (j b a)).2.2.1) (λb a=>(fj (j b a)).2.2.2.1) g λb a=>(fj (j b a)).2.2.2.2)
def least{p:Nat->Prop}:∀(b:Nat),p b->∃m,m<=b/\p m/\∀a<m,¬p a:=by
 intro b
 induction b using Nat.strongRecOn with
 |_ b i=>
  intro h;by_cases e:∃a,a<b/\p a;have⟨a,c,d⟩:=e;have⟨m,j,f,g⟩:=i a c d;exact⟨m,aa,f,g⟩;exact⟨b,aV _,h,λa c d=>e ⟨a,c,d⟩⟩
def GN(b:Stepped.next (sX (aO Qf Qi) w)= .next (sX (aO Qg Qj) u)):Qf=Qg/\Qi=Qj/\w=u:=by
 simp only[abV,sX,aO,abP,HG,Array.mk.injEq,vN] at b;obtain⟨c,a,-⟩:=b;simp at a;exact⟨a.1,a.2,c⟩
def step_end{b:Outcome}(a:bQ P af (aO Qf Qi) w= .ended b u QR):step P (sX (aO Qf Qi) w)= .ended b u:=
 step_lone_ended (by simp only[aO] at a;rw[a];rfl)
def RK(g:yF Qf)(d:List aP)(e:ag):∃a b,step P (sX (aO Qf d) e)= .ended a b:=by
 have⟨h,s,i⟩:=g;have:∃a b c,bQ P af (aO Qf d) e= .ended a b c:=by simp[aO,bQ,dN,h,i]
 have⟨a,b,c,f⟩:=this;exact⟨a,b,step_end f⟩
def Jg(q:Twins P P')(aE:∀Qf aY w,Stop Qf aY w->¬yF Qf)(a2:fh P Qf aY)(aL:Hp (dm P) w)(a0:Un w u)
 (aI:∀a3,∃N J S T,runN P N (sX (aO Qf (aY++[fF])) (sh a3 0 w))= .next (sX (aO J (S++[fF])) T)/\Stop J S T):Fin P P' (AE Stop) Qf aY w u:=by
 apply w7;intro aJ;have⟨k,aC⟩:=Classical.axiomOfChoice (UF (Stop:=Stop) q);have⟨j,aD⟩:=Classical.axiomOfChoice aC;have⟨s,aM⟩:=Classical.axiomOfChoice aD;let b:Nat->Node P P' Stop:=λa=>Nat.rec ⟨Qf,aY,w,u,a2,aL,a0,aJ⟩ (λ_ F=>s F) a;let Q:Node P P' Stop->Nat:=λF=>(s F).w.drawn-j F;let D:Nat->Nat:=λa=>Nat.rec 0 (λa ar=>ar+Q (b a)) a;let n:Nat->Prop:=λa=>DX (b a) (k (b a)) (j (b a));have U:∀a,D (a+1)=D a+Q (b a):=λa=>rfl;have a4:∀a c,c<a->D (c+1)<=D a:=by
  intro a
  induction a with
  |zero=>intro c m;omega
  |succ a O=>
   intro c m;rcases ij c a with q|q;have:=O c q;rw[U a];omega;have:c=a:=aa;subst this;exact aV _
 let R:Nat->Nat->Prop:=λh a=>D a<=h/\(n a\/h<D (a+1));have r:∃g:Tp,∀a,(∀c<a,¬n c)->∀h e,R h a->g h e=k (b a) (j (b a)+(h-D a)) e:=by
  have aH:∀(h:Nat),∃f:Question->Nat,∀a,(∀c<a,¬n c)->R h a->∀e,f e=k (b a) (j (b a)+(h-D a)) e:=by
   intro h;by_cases A:∃a,(∀c<a,¬n c)/\R h a;have⟨a,o,ad⟩:=A;refine⟨λe=>k (b a) (j (b a)+(h-D a)) e,λa1 a5 a7 e=>?_⟩;have:a=a1:=bh;subst this;rfl;exact⟨λ_=>0,λa o ad=>absurd ⟨a,o,ad⟩ A⟩
  have⟨g,r⟩:=Classical.axiomOfChoice aH;exact⟨λh e=>g h e,λa o h e A=>r h a o A e⟩
 have⟨g,r⟩:=r;have aj:∀a,(∀c<a,¬n c)->runN P a (sX (aO Qf (aY++[fF])) (sh g 0 w))= .next (sX (aO (b a).fr ((b a).aY++[fF])) (sh g (D a) (b a).w)):=by
  intro a
  induction a with
  |zero=>intro _;rfl
  |succ a O=>
   intro o;have I:=O λc m=>o c aa;rcases aM (b a) with M|⟨y,x⟩;exact absurd M (o a aa)
   .rcases x.twin with i|i;exact absurd Y i.1
    .have z:Al (dV (sh (k (b a)) (j (b a)) (b a).w)) (cm (sh (k (b a)) (j (b a)) (b a).w)) g (D a) ((s (b a)).w.drawn-cm (sh (k (b a)) (j (b a)) (b a).w)):=by
      intro c e m;have:=r a (λc m=>o c aa) (D a+c) e ⟨aa,an (by rw[U];exact Nat.add_lt_add_left m _)⟩;rw[this,Nat.add_sub_cancel_left];rfl
     have K:=GH i z;have B:step P (sX (aO (b a).fr ((b a).aY++[fF])) (sh g (D a) (b a).w))= .next (sX (aO (s (b a)).fr ((s (b a)).aY++[fF])) (sh g (D a+Q (b a)) (s (b a)).w)):=Conc.step_solo_go Y K;rw[runN_add,I];simp only[runN,B];rfl
 have⟨N,J,S,T,d,L⟩:=aI g;by_cases W:∀c<N,¬n c;have:=(aj N W).symm.trans d;have⟨H,v,ay⟩:=GN this;rw[<-H,<-(List.append_cancel_right v),<-ay] at L;exact(b N).no (.stop ⟨g,D N,L⟩);have:∃c,c<N/\n c:=w7 λi=>W λc m M=>i ⟨c,m,M⟩;have⟨c,m,aZ⟩:=this;have⟨a,a6,al,ab⟩:=least (p:=n) c aZ;have I:=aj a ab;obtain⟨t,rfl⟩:∃t,N=a+(t+1):=⟨N-a-1,aa⟩;rw[runN_add,I] at d;simp only[runN] at d;have z:∀am,Al (k (b a)) (j (b a)) g (D a) am:=λam c e m=>by
  rw[r a ab (D a+c) e ⟨aa,aq al⟩,Nat.add_sub_cancel_left]
 have Z:=(b a).hp.sh g (D a);have ae:¬sj (b a).fr (b a).aY->False:=by
  intro p;have aQ:(b a).aY=[]:=w7 λi=>p λl=>absurd l i;have ao:=(b a).ok;rw[aQ] at p ao d;rcases VF q Z ao p with⟨C,E,y,l⟩|⟨aw,E,y,l⟩;rw[show([]:List aP)++[fF]=[fF] from rfl,step_end l] at d;cases d;rw[show([]:List aP)++[fF]=[fF] from rfl,Conc.step_solo_go Y l] at d;dsimp only at d;cases t with
  |zero=>
   obtain⟨-,v,-⟩:=GN d;simp at v
  |succ t=>
   have⟨C,G,V,v⟩:=M_ (P:=P) aw E;simp only[runN,step_end v] at d;cases d
 rcases al with p|aF|⟨az,ap,G,V,x,X⟩;exact ae p;by_cases p:sj (b a).fr (b a).aY;rcases F8 q.self.A q.self.R Z (b a).ok p with aG|⟨az,ap,G,V,x⟩;have⟨C,E,y,l⟩:=aG af [fF];rw[step_end l] at d;cases d
 .rcases x.twin with i|i
  .exact absurd Y i.1
  .have⟨C,E,y,l⟩:=aF af [fF];have:=GH i (λc e m=>bA ((z _) c e m));rw[show sh (k (b a)) (j (b a)) (sh g (D a) (b a).w)=sh (k (b a)) (j (b a)) (b a).w from rfl,l] at this;cases this
 .exact ae p
 .rcases x.twin with i|i
  .exact absurd Y i.1
  .have K:=GH i (z _);have B:=Conc.step_solo_go (P:=P) (a:=aO (b a).fr ((b a).aY++[fF])) Y K;rw[show sh g (D a) (sh (k (b a)) (j (b a)) (b a).w)=sh g (D a) (b a).w from rfl] at B;rw[B] at d;dsimp only at d;cases t with
   |zero=>
    obtain⟨H,-,-⟩:=GN d;exact aE _ _ _ L (H▸X)
   |succ t=>
    have⟨C,a8,l⟩:=RK (P:=P) X (ap++[fF]) (sh g (D a+(cm G-cm (sh (k (b a)) (j (b a)) (b a).w))) G);simp only[runN,l] at d;cases d
end
end Cc
namespace Cc
open Go Go.Conc
def blk:Loc->Nat
 | .cell a=>cH a
 | .obj b=>b
 |_=>0
structure jX where
 c:Nat
 own:Nat->Prop
 pc:Option Nat
def NE (S:Nat->Prop)(b:jX)(a:Touch):Prop:=b.own (blk a.loc)\/blk a.loc=b.c\/(S (blk a.loc)/\a.write=ai)
structure jB(S:Nat->Prop)(wk:Nat->Option jX)(B:Nat)(t:Trace):Prop where
 wl:Wordless t
 clean:∀said,¬Race said t
 low:∀i a,touchAt t i=K a->uI a.loc=af->blk a.loc<B
 known:∀i a,touchAt t i=K a->uI a.loc=af->Knows t 0 i\/∃k x,wk k=K x/\t.g? i=K k/\NE S x a/\∀p,x.pc=K p->Before t i p
 wr:∀k x,wk k=K x->x.pc=Z->∀i a,touchAt t i=K a->uI a.loc=af->a.write=af->S (blk a.loc)->Knows t k i
 ow:∀k x,wk k=K x->x.pc=Z->∀i a,touchAt t i=K a->uI a.loc=af->(x.own (blk a.loc)\/blk a.loc=x.c)->Knows t k i
 shut:∀k x p,wk k=K x->x.pc=K p->t.act? p=K (.close x.c)
section
variable {S:Nat->Prop}{wk:Nat->Option jX}{B B':Nat}{t u:Trace}
def xV(a:t.g? n=K m):(t++u).g? n=K m:=by
 unfold Trace.g? at a ⊢;have⟨d,b,c⟩:=vS.1 a;rw[getElem?_append_old (lt_size_of_getElem? b),b];simpa using c
def oZ{a:Touch}(e:touchAt (t++u) n=K a):touchAt t n=K a\/∃b,b∈u/\(t++u)[n]? =K b/\mw b.act=K a:=by
 have⟨h,c,d⟩:=touch_of e;rcases getElem?_append_cases c with⟨_,f⟩|⟨_,g⟩;exact aq (b5 (touchAt_of f) d);exact an ⟨h,g,c,d⟩
def jB.mute(d:jB S wk B t)(w:∀k∈u,k.g=γ)(x:Wordless u)(r:∀k∈u,mw k.act=Z)(q:B<=B'):jB S wk B' (t++u):=by
 have m:∀{b a},touchAt (t++u) b=K a->touchAt t b=K a:=λc=>by
  rcases oZ c with h|⟨k,h,_,l⟩;exact h;rw[r k h] at l;cases l
 refine⟨d.wl.append x,λz=>noRace_append (d.clean z) w λb a _ k D A C _=>bh,λb a c i=>cL (d.low b a (m c) i) q,λb a c i=>?_,λf g j e b a c i y v=>(d.wr f g j e b a (m c) i y v).app u,λf g j e b a c i s=>(d.ow f g j e b a (m c) i s).app u,λf g n j e=>b5 (act?_old (lt_of_act? (d.shut f g n j e))) (d.shut f g n j e)⟩;rcases d.known b a (m c) i with h|⟨f,g,h,l,o,p⟩;exact aq (h.app u);exact an ⟨f,g,h,xV l,o,λn e=>(p n e).app u⟩
def jB.main(j:jB S wk B t)(x:∀e∈u,e.g=0)(G:Wordless u)(A:B<=B')
 (p:∀e∈u,∀i,mw e.act=K i->uI i.loc=af->blk i.loc<B'/\(∀c b,wk c=K b->¬b.own (blk i.loc)/\blk i.loc≠b.c)/\(S (blk i.loc)->i.write=ai)):jB S wk B' (t++u):=by
 refine⟨j.wl.append G,λH=>noRace_append (j.clean H) x λl f k e E i C D=>?_,λl f k d=>?_,λl f k d=>?_,λc b h m l f k d v w=>?_,λc b h m l f k d o=>?_,λc b r h m=>b5 (act?_old (lt_of_act? (j.shut c b r h m))) (j.shut c b r h m)⟩;have⟨q,d,y,_⟩:=D;have⟨_,g,s⟩:=p e E i C (q▸d);rcases j.known l f k d with a|⟨c,b,h,_,F,_⟩;exact a;rcases F with n|n|⟨n,z⟩;exact absurd (q▸n) (g c b h).1;exact absurd (q▸n) (g c b h).2;have:=s (q▸n);rw[z,this] at y;simp at y;rcases oZ k with a|⟨e,a,_,g⟩;exact cL (j.low l f a d) A;exact(p e a f g d).1;rcases oZ k with a|⟨e,a,g,_⟩;rcases j.known l f a d with a|⟨c,b,a,g,s,n⟩;exact aq (a.app u);exact an ⟨c,b,a,xV g,s,λr m=>(n r m).app u⟩;have:=knows_own g;rw[x e a] at this;exact aq this;rcases oZ k with a|⟨e,a,_,g⟩;exact(j.wr c b h m l f a d v w).app u;rw[(p e a f g d).2.2 w] at v;cases v;rcases oZ k with a|⟨e,a,_,g⟩;exact(j.ow c b h m l f a d o).app u;rcases o with o|o;exact absurd o ((p e a f g d).2.1 c b h).1;exact absurd o ((p e a f g d).2.1 c b h).2
def jB.Hx(j:jB S wk B t){i:jX}(v:wk n=K i)(w:i.pc=Z)(U:∀c,i.own c->q9 c)(I:∀c,q9 c->i.own c\/B<=c)(E:∀m∈u,m.g=n)(V:Wordless u)(M:B<=B')
 (N:∀c,q9 c->¬S c) (O:¬S i.c)
 (R:∀b d,b≠n->wk b=K d->(∀c,q9 c->¬d.own c/\c≠d.c)/\¬d.own i.c/\i.c≠d.c/\(∀c,S c->¬d.own c/\c≠d.c))
 (z:∀m∈u,∀c,mw m.act=K c->uI c.loc=af->blk c.loc<B'/\NE S ⟨i.c,q9,Z⟩ c):jB S (λb=>if b=n then K ⟨i.c,q9,Z⟩ else wk b) B' (t++u):=by
 have F:∀{b d},(if b=n then K (⟨i.c,q9,Z⟩:jX) else wk b)=K d->(b=n/\d=⟨i.c,q9,Z⟩)\/(b≠n/\wk b=K d):=λ{b d} Y=>bh;refine⟨j.wl.append V,λX=>noRace_append (j.clean X) E λl h o m T c P Q=>?_,λl h o f=>?_,λl h o f=>?_,λb d k p l h o f C A=>?_,λb d k p l h o f g=>?_,λb d x k p=>?_⟩;have⟨y,f,W,_⟩:=Q;rcases(z m T c P (y▸f)).2 with e|e|⟨e,r⟩;rcases I _ e with r|r;exact j.ow n i v w l h o f (aq (y▸r));have:=j.low l h o f;rw[y] at this;omega;exact j.ow n i v w l h o f (an (y▸e));rw[r] at W;exact j.wr n i v w l h o f bh (y▸e);rcases oZ o with a|⟨m,a,_,q⟩;exact cL (j.low l h a f) M;exact(z m a h q f).1;rcases oZ o with a|⟨m,a,q,s⟩;rcases j.known l h a f with a|⟨b,d,a,q,s,e⟩;exact aq (a.app u);by_cases k:b=n;subst k;rw[v] at a;cases a;exact an ⟨b,⟨i.c,q9,Z⟩,aF,xV q,(s.imp (U _) id),λx p=>cV p⟩;exact an ⟨b,d,by simp[k,a],xV q,s,λx p=>(e x p).app u⟩;refine an ⟨n,⟨i.c,q9,Z⟩,aF,?_,(z m a h s f).2,λx p=>cV p⟩;simp[Trace.g?,q,E m a];rcases oZ o with a|⟨m,a,_,q⟩;rcases F k with⟨rfl,rfl⟩|⟨D,k⟩;exact(j.wr b i v w l h a f C A).app u;exact(j.wr b d k p l h a f C A).app u;rcases(z m a h q f).2 with e|e|⟨e,r⟩;exact absurd A (N _ e);exact absurd A (e▸O);rw[r] at C;cases C;rcases F k with⟨rfl,rfl⟩|⟨D,k⟩;rcases oZ o with a|⟨m,a,q,s⟩;refine Knows.app u ?_;rcases g with g|g;rcases I _ g with r|r;exact j.ow b i v w l h a f (aq r);have:=j.low l h a f;omega;exact j.ow b i v w l h a f (an g);have:=knows_own q;rw[E m a] at this;exact this;have⟨G,J,L,H⟩:=R b d D k;rcases oZ o with a|⟨m,a,q,s⟩;exact(j.ow b d k p l h a f g).app u;rcases(z m a h s f).2 with e|e|⟨e,r⟩;rcases g with g|g;exact absurd g (G _ e).1;exact absurd g (G _ e).2;rcases g with g|g;exact absurd (e▸g) J;exact absurd (aB e.symm g) L;rcases g with g|g;exact absurd g (H _ e).1;exact absurd g (H _ e).2;rcases F k with⟨rfl,rfl⟩|⟨D,k⟩;cases p;rw[act?_old (lt_of_act? (j.shut b d x k p))];exact j.shut b d x k p
def jB.close(p:jB S wk B t){a:jX}(F:wk n=K a)(T:a.pc=Z)(O:a.c<B)(ab:¬S a.c){fn:fH}
 (P:∀b e,b≠n->wk b=K e->¬e.own a.c/\a.c≠e.c):
 jB S (λb=>if b=n then K ⟨a.c,a.own,K (U t+1)⟩ else wk b) B (t++xe n fn pos #[⟨.obj a.c,ai,af⟩,⟨.obj a.c,af,af⟩]):=by
 have I:xe n fn pos #[⟨.obj a.c,ai,af⟩,⟨.obj a.c,af,af⟩]=#[{g:=n,fn,pos,act:=.access ⟨.obj a.c,ai,af⟩},{g:=n,fn,pos,act:=.close a.c}]:=by
  rw[ofEvents_eq];simp[sZ]
 rw[I];have G:∀f∈ #[({g:=n,fn,pos,act:=.access ⟨.obj a.c,ai,af⟩}:kN),{g:=n,fn,pos,act:=.close a.c}],f.g=n:=aF;have x:∀f∈ #[({g:=n,fn,pos,act:=.access ⟨.obj a.c,ai,af⟩}:kN),{g:=n,fn,pos,act:=.close a.c}],∀v,mw f.act=K v->v=⟨.obj a.c,ai,.atomic⟩:=by
  intro f q v w;simp at q;rcases q with rfl|rfl;simp[mw] at w;exact bA w;simp[mw] at w
 have z:(t++#[({g:=n,fn,pos,act:=.access ⟨.obj a.c,ai,af⟩}:kN),{g:=n,fn,pos,act:=.close a.c}])[U t+1]? =K {g:=n,fn,pos,act:=.close a.c}:=by
  rw[Array.getElem?_append_right aa];simp
 have M:∀d,(t++#[({g:=n,fn,pos,act:=.access ⟨.obj a.c,ai,af⟩}:kN),{g:=n,fn,pos,act:=.close a.c}]).g? d=K n->d≠U t+1->Before (t++#[({g:=n,fn,pos,act:=.access ⟨.obj a.c,ai,af⟩}:kN),{g:=n,fn,pos,act:=.close a.c}]) d (U t+1):=by
  intro d E y;unfold Trace.g? at E;have⟨f,o,D⟩:=vS.1 E;have:=lt_size_of_getElem? o;simp at this;exact an (hb_po aa o z D)
 have C:∀{b e},(if b=n then K (⟨a.c,a.own,K (U t+1)⟩:jX) else wk b)=K e->(b=n/\e=⟨a.c,a.own,K (U t+1)⟩)\/(b≠n/\wk b=K e):=λ{b e} D=>bh;have W:Wordless #[({g:=n,fn,pos,act:=.access ⟨.obj a.c,ai,af⟩}:kN),{g:=n,fn,pos,act:=.close a.c}]:=by
  intro f q m k;simp at q;rcases q with rfl|rfl<;>cases k
 have X:∀{d g},touchAt (t++#[({g:=n,fn,pos,act:=.access ⟨.obj a.c,ai,af⟩}:kN),{g:=n,fn,pos,act:=.close a.c}]) d=K g->d≠U t+1:=by
  rintro d g j rfl;rw[touchAt_of z] at j;simp[mw] at j
 refine⟨p.wl.append W,λY=>noRace_append (p.clean Y) G λd g j f q v w N=>?_,λd g j k=>?_,λd g j k=>?_,λb e h i d g j k A V=>?_,λb e h i d g j k o=>?_,λb e s h i=>?_⟩;have⟨R,k,_⟩:=N;have:=x f q v w;subst this;exact p.ow n a F T d g j k (an (gJ R));rcases oZ j with c|⟨f,c,_,l⟩;exact p.low d g c k;rw[x f c g l];exact O;rcases oZ j with c|⟨f,c,l,r⟩;rcases p.known d g c k with c|⟨b,e,c,l,r,L⟩;exact aq (c.app _);by_cases h:b=n;subst h;rw[F] at c;cases c;exact an ⟨b,⟨a.c,a.own,K (U t+1)⟩,aF,xV l,r,λs i=>by cases i;exact M d (xV l) (X j)⟩;exact an ⟨b,e,by simp[h,c],xV l,r,λs i=>(L s i).app _⟩;have Q:(t++#[({g:=n,fn,pos,act:=.access ⟨.obj a.c,ai,af⟩}:kN),{g:=n,fn,pos,act:=.close a.c}]).g? d=K n:=by simp only[Trace.g?,l,pJ,G f c]
 refine an ⟨n,⟨a.c,a.own,K (U t+1)⟩,aF,Q,an (aq (gJ (x f c g r))),λs i=>bh⟩;rcases C h with⟨rfl,rfl⟩|⟨y,h⟩;cases i;rcases oZ j with c|⟨f,c,_,l⟩;exact(p.wr b e h i d g c k A V).app _;rw[x f c g l] at A;cases A;rcases C h with⟨rfl,rfl⟩|⟨y,h⟩;cases i;have⟨H,J⟩:=P b e y h;rcases oZ j with c|⟨f,c,l,r⟩;exact(p.ow b e h i d g c k o).app _;rw[x f c g r] at o;rcases o with o|o;exact absurd o H;exact absurd o J;rcases C h with⟨rfl,rfl⟩|⟨y,h⟩;cases i;rw[act?_of z];rw[act?_old (lt_of_act? (p.shut b e s h i))];exact p.shut b e s h i
def jB.E3(v:jB S wk B t){d:jX}(q:wk n=K d)(r:d.pc=K k){fn:fH}:
 jB S (λa=>if a=n then Z else wk a) B (t++#[{g:=0,fn,pos,act:=.recvClosed d.c}]):=by
 have C:Wordless #[({g:=0,fn,pos,act:=.recvClosed d.c}:kN)]:=by
  intro h f m j;simp at f;subst f;cases j
 have z:∀h∈ #[({g:=0,fn,pos,act:=.recvClosed d.c}:kN)],mw h.act=Z:=by
  intro h f;simp at f;subst f;rfl
 have c:=v.mute (B':=B) (γ:=0) (λh f=>bh) C z (aV _);have i:(t++#[({g:=0,fn,pos,act:=.recvClosed d.c}:kN)])[U t]? =K {g:=0,fn,pos,act:=.recvClosed d.c}:=by
  rw[Array.getElem?_append_right (aV _)];simp
 have p:=c.shut n d k q r;have⟨H,D,_⟩:=vS.1 p;have A:Knows (t++#[({g:=0,fn,pos,act:=.recvClosed d.c}:kN)]) 0 k:=⟨U t,_,i,rfl,an (.single (an ⟨.closed p (by rw[act?_of i]),c.wl.heard D,c.wl.heard i⟩))⟩;have l:∀{a b},(if a=n then Z else wk a)=K b->a≠n/\wk a=K b:=λ{a b} G=>bh;refine⟨c.wl,c.clean,c.low,λE s y j=>?_,λa b e=>c.wr a b (l e).2,λa b e=>c.ow a b (l e).2,λa b F e=>c.shut a b F (l e).2⟩;rcases c.known E s y j with g|⟨a,b,g,w,x,o⟩;exact aq g;by_cases e:a=n;subst e;rw[q] at g;cases g;exact aq (Knows.of_before (o k r) A);exact an ⟨a,b,by simp[e,g],w,x,o⟩
def jB.spawn(y:jB S wk B t)(W:wk n=Z){fn j:fH}
 (A:∀b c,wk b=K c->¬c.own k/\k≠c.c/\∀x,S x->¬c.own x/\x≠c.c) (O:¬S k):
 jB S (λb=>if b=n then K ⟨k,λ_=>False,Z⟩ else wk b) B (t++#[{g:=0,fn,pos,act:=.go n},{g:=n,fn:=j,pos,act:=.start}]):=by
 have N:t++#[({g:=0,fn,pos,act:=.go n}:kN),{g:=n,fn:=j,pos,act:=.start}]=t++#[({g:=0,fn,pos,act:=.go n}:kN)]++#[({g:=n,fn:=j,pos,act:=.start}:kN)]:=by rfl
 have Q:Wordless #[({g:=0,fn,pos,act:=.go n}:kN)]:=by
  intro s d m i;simp at d;subst d;cases i
 have R:Wordless #[({g:=n,fn:=j,pos,act:=.start}:kN)]:=by
  intro s d m i;simp at d;subst d;cases i
 have q:jB S wk B (t++#[({g:=0,fn,pos,act:=.go n}:kN),{g:=n,fn:=j,pos,act:=.start}]):=by
  rw[N];refine(y.mute (B':=B) (γ:=0) (λs d=>by simp at d;subst d;rfl) Q (λs d=>by simp at d;subst d;rfl) (aV _)).mute (γ:=n) (λs d=>by simp at d;subst d;rfl) R (λs d=>by simp at d;subst d;rfl) (aV _)
 have a:(t++#[({g:=0,fn,pos,act:=.go n}:kN),{g:=n,fn:=j,pos,act:=.start}])[U t]? =K {g:=0,fn,pos,act:=.go n}:=by
  rw[Array.getElem?_append_right (aV _)];simp
 have o:(t++#[({g:=0,fn,pos,act:=.go n}:kN),{g:=n,fn:=j,pos,act:=.start}])[U t+1]? =K {g:=n,fn:=j,pos,act:=.start}:=by
  rw[Array.getElem?_append_right aa];simp
 have I:∀{f},Knows t 0 f->Knows (t++#[({g:=0,fn,pos,act:=.go n}:kN),{g:=n,fn:=j,pos,act:=.start}]) n f:=λ{f} P=>
  ⟨U t+1,_,o,rfl,an ((P.hb_new (aV _) a Y).trans (.single (an ⟨.spawn (by rw[act?_of a]) (by rw[act?_of o]) (by simp[Trace.g?]),q.wl.heard a,q.wl.heard o⟩)))⟩
 have H:∀{f g},touchAt (t++#[({g:=0,fn,pos,act:=.go n}:kN),{g:=n,fn:=j,pos,act:=.start}]) f=K g->touchAt t f=K g:=λp=>by
  rcases oZ p with a|⟨s,a,_,o⟩;exact a;simp at a;rcases a with rfl|rfl<;>simp[mw] at o
 have E:∀{b c},(if b=n then K (⟨k,λ_=>False,Z⟩:jX) else wk b)=K c->(b=n/\c=⟨k,λ_=>False,Z⟩)\/(b≠n/\wk b=K c):=λ{b c} M=>bh;refine⟨q.wl,q.clean,q.low,λf g p i=>?_,λb c h r f g p i D C=>?_,λb c h r f g p i l=>?_,λb c T h r=>?_⟩;rcases q.known f g p i with a|⟨b,c,a,o,e,z⟩;exact aq a;refine an ⟨b,c,?_,o,e,z⟩;rw[if_neg (λM=>bh)];exact a;rcases E h with⟨rfl,rfl⟩|⟨G,h⟩;refine I ?_;rcases y.known f g (H p) i with a|⟨v,w,a,o,e,z⟩;exact a;rcases e with e|e|⟨e,F⟩;exact absurd e ((A v w a).2.2 _ C).1;exact absurd e ((A v w a).2.2 _ C).2;rw[F] at D;cases D;exact q.wr b c h r f g p i D C;rcases E h with⟨rfl,rfl⟩|⟨G,h⟩;refine I ?_;rcases l with l|l;exact fe l;have l:blk g.loc=k:=l;rcases y.known f g (H p) i with a|⟨v,w,a,o,e,z⟩;exact a;have⟨J,L,V⟩:=A v w a;rcases e with e|e|⟨e,F⟩;exact absurd (l▸e) J;exact absurd (l.symm.trans e) L;exact absurd (l▸e) O;exact q.ow b c h r f g p i l;rcases E h with⟨rfl,rfl⟩|⟨G,h⟩;cases r;exact q.shut b c T h r
def jB.over(e:jB S (λ_=>Z) B t):t.HandedOver:=by
 intro k n d i f;have⟨m,j,h,_⟩:=f;rcases e.known k m j h with⟨l,q,b,c,a⟩|⟨o,p,g,_⟩;refine⟨l,by simp[Trace.g?,b,c],?_⟩;rcases a with rfl|a;simp[Trace.g?,b] at d;exact absurd (aB d.symm c) i;exact a;cases g
end
def BB (b:List ag->Prop)(d:ag):List ag->Prop:=λa=>b (d::a)
def DL (s a:List ag->Prop):Prop:=a []/\∃b,s=BB a b
structure Tr where J1 ::
 t:List ag->Prop
 a:Acc DL t
 c:∀p q,t (p++q)->t p
def Tr.ext{a b:Tr}(d:a.t=b.t):a=b:=by
 cases a;cases b;cases d;rfl
def Tr.fin:Tr:=⟨λ_=>False,⟨_,λ_ a=>fe a.1⟩,λ_ _ a=>a⟩
def Tr.mk(f:ag->Tr):Tr:=⟨λa=>match a with
 | []=>True
 |w::a=>(f w).t a,⟨_,λs b=>by obtain⟨_,w,rfl⟩:=b;exact(f w).a⟩,λa d b=>by
 cases a with
 |nil=>trivial
 |cons w a=>exact(f w).c a d b⟩
def Tr.mk_inj{f a:ag->Tr}(b:Tr.mk f= .mk a):f=a:=funext λe=>Tr.ext (funext λd=>congrFun (congrArg Tr.t b) (e::d))
def Tr.Su{f:ag->Tr}(a:Tr.fin= .mk f):False:=(congrFun (congrArg Tr.t a) []).mpr trivial
def Tr.ind{b:Tr->Prop}(fin:b .fin)(mk:∀f,(∀w,b (f w))->b (.mk f))(g:Tr):b g:=by
 have⟨t,a,c⟩:=g
 induction a with
 |intro t h i=>
  by_cases d:t [];have e:Tr.J1 t (.intro t h) c= .mk λw=>⟨BB t w,h _ ⟨d,w,rfl⟩,λp j=>c (w::p) j⟩:=Tr.ext (funext λp=>by
   cases p with
   |nil=>exact eq_true d
   |cons w p=>rfl)
  rw[e];exact mk _ λw=>i _ ⟨d,w,rfl⟩ _;have e:Tr.J1 t (.intro t h) c= .fin:=Tr.ext (funext λp=>eq_false λh=>d (c [] p h));rw[e];exact fin
def Tr.go{C:Type}(f:(ag->C->Prop)->C->Prop)(b:Tr):C->Prop:=abX (r:=DL) (C:=λ_=>C->Prop) (λa e h=>∃g:a [],f (λd=>e (BB a d) ⟨g,d,rfl⟩) h) b.t b.a
def Tr.go_eq{e:Type}{f:(ag->e->Prop)->e->Prop}{a:Tr}{d:e}:Tr.go f a d↔∃g:a.t [],f (λb=>Tr.go f ⟨BB a.t b,a.a.inv ⟨g,b,rfl⟩,λj k=>a.c (b::j) k⟩) d:=Iff.of_eq (congrFun (abY (r:=DL) (C:=λ_=>e->Prop) (λh i d=>∃g:h [],f (λb=>i (BB h b) ⟨g,b,rfl⟩) d) a.t a.a) d:)
def Tr.wo{a:Type}{d:(ag->a->Prop)->a->Prop}{e:a}(b:Tr.go d .fin e):False:=by
 have⟨b,_⟩:=(Tr.go_eq).1 b;exact b
def Tr.Jt{a:Type}{b:(ag->a->Prop)->a->Prop}{f:ag->Tr}{e:a}:Tr.go b (.mk f) e↔b (λg=>Tr.go b (f g)) e:=(Tr.go_eq).trans ⟨fun⟨_,d⟩=>d,λd=>⟨trivial,d⟩⟩
def kS (_:aW)(_:ag):Prop:=True
structure RelB(B:Nat->Prop)(w w1:ag):Prop where
 at_:∀b:Nat,B b->w1.heap[b]? =w.heap[b]?
 size:U w.heap<=U w1.heap
 tape:dV w1=dV w
 os:w1.os=w.os
 output:fS w1=fS w
def RelB.refl(b:Nat->Prop)(a:ag):RelB b a a:=⟨λ_ _=>rfl,aV _,rfl,rfl,rfl⟩
def RelB.trans(a:RelB q9 w u)(b:RelB q9 u W):RelB q9 w W:=⟨λd e=>aB (b.at_ d e) (a.at_ d e),dj a.size b.size,aB b.tape a.tape,aB b.os a.os,aB b.output a.output⟩
def RelB.at(b:Nat->Prop)(a:ag)(d:Nat):RelB b a (a.at d):=⟨λ_ _=>rfl,aV _,rfl,rfl,rfl⟩
def g6 (own:Nat->Prop)(b d:ag):Nat->Prop:=λa=>own a\/(U b.heap<=a/\a<U d.heap)
def EvW (S d:Nat->Prop)(a:cK):Prop:=match a.loc with
 | .cell b=>d (cH b)\/(S (cH b)/\a.write=ai)
 | .obj e=>d e\/(S e/\a.write=ai)
 | .mark m=>Neutral m
 |_=>True
structure oF(P0:aW)(S own:Nat->Prop)(w w':ag)(es:Array cK):Prop where
 keep:∀b:Nat,b<U w.heap->¬own b->w'.heap[b]? =w.heap[b]?
 size:U w.heap<=U w'.heap
 tape:dV w'=dV w
 os:w'.os=w.os
 output:fS w'=fS w
 hp:kS P0 w->kS P0 w'
 evs:∀e∈es,EvW S (g6 own w w') e
structure DS(P0:aW)(w w':ag)(es:Array cK):Prop where
 size:U w.heap<=U w'.heap
 tape:dV w'=dV w
 os:w'.os=w.os
 output:fS w'=fS w
 hp:kS P0 w->kS P0 w'
 evs:∀e∈es,m4 (U w'.heap) e
def HX (P0 P:aW)(S:Nat->Prop)(c:Nat)(i:ag->(Nat->Prop)->List F->dQ->ag->Prop)(own:Nat->Prop)(g:List F)(d:dQ)(h:ag):Prop:=m5 d=lB/\
 ((∀a,RelB (λb=>S b\/own b) h a->∃e f l,bQ P ai d a= .go e f l/\oF P0 S own a f l/\i a (g6 own a f) g e f)\/
 (∃v n m r,g=v::n/\∀a,RelB (λb=>S b\/own b) h a->bQ P ai d a= .comm m #[scase c v r] af .send a #[]/\i a own n (nJ m cI) a)\/
 (g=[]/\∃e q,QuitsIn P q e/\mayWake P d=af/\∀a,RelB (λb=>S b\/own b) h a->∀k j s o p,a.heap[c]? =K (.chan k j ai s o p)->bQ P ai d a= .go e (lZ a c k j af s o p) #[⟨.obj c,ai,af⟩,⟨.obj c,af,af⟩]))
def Wk (P0 P:aW)(S:Nat->Prop)(c:Nat)(g:Tr)(own:Nat->Prop)(h:List F)(b:dQ)(d:ag):Prop:=g.go (C:=(Nat->Prop)×List F×dQ×ag) (λe a=>HX P0 P S c (λd f v b i=>e d (f,v,b,i)) a.1 a.2.1 a.2.2.1 a.2.2.2) (own,h,b,d)
def wX{P0 P:aW}{S:Nat->Prop}{c:Nat}{f:ag->Tr}{own:Nat->Prop}:Wk P0 P S c (.mk f) own qM QV w↔HX P0 P S c (λw=>Wk P0 P S c (f w)) own qM QV w:=Tr.Jt
abbrev Md:Type:=Option ((Nat->Prop)×(Nat->Prop)×(Nat->Option (List F)))
abbrev Md.ex:Md:=Z
abbrev Md.sh(S a:Nat->Prop)(b:Nat->Option (List F)):Md:=K (S,a,b)
def gm (d:Nat->Option (List F))(c:Nat)(b:Option (List F)):Nat->Option (List F):=λa=>if a=c then b else d a
def HJ (P0 P:aW)(J:F->ag->Prop)(j:ag->Md->dQ->ag->Prop):Md->dQ->ag->Prop
 |none,e,g=>
  (∀a,AtRel g a->∃f i h,bQ P af e a= .go f i h/\m5 f=lB/\DS P0 a i h/\j a Md.ex f i)\/
  (∀a,AtRel g a->∃v h,bQ P af e a= .ended (.done v) a h/\(∀q∈h,m4 (U a.heap) q)/\J v a)\/
  (∃S d,(∀b,S b->b<U g.heap/\¬d b)/\(∀b,d b->b<U g.heap)/\∀a,AtRel g a->j a (Md.sh S d (λ_=>Z)) e a)
 |some (S,d,k),e,g=>
  (∀a,RelB (λb=>S b\/d b) g a->∃f i h,bQ P af e a= .go f i h/\m5 f=lB/\oF P0 S d a i h/\j a (Md.sh S (g6 d a i) k) f i)\/
  (∃c m n,d c/\I m<=n/\k c=Z/\g.heap[c]? =K (.chan n #[] ai 0 0 ai)/\∀a,RelB (λb=>S b\/d b) g a->∃f o s,bQ P af e a= .spawn f o a #[]/\m5 f=lB/\Wk P0 P S c s (λ_=>False) m o a/\j a (Md.sh S (λb=>d b/\b≠c) (gm k c (K m))) f a)\/
  (∃c p l m,k c=K m/\(l.frame=e.frame/\sY l=sY e/\l.dying=e.dying)/\∀a,RelB (λb=>S b\/d b) g a->bQ P af e a= .comm l #[rcase c p] af (.recv af) a #[]/\
    match m with
    |v::r=>j a (Md.sh S d (gm k c (K r))) (nJ l (recvd af v af)) a
    | []=>j a (Md.sh S d (gm k c Z)) (nJ l (recvd af p ai)) a)\/
  ((∀c,k c=Z)/\∀a,RelB (λb=>S b\/d b) g a->kS P0 a->j a Md.ex e a)
def Mn (P0 P:aW)(J:F->ag->Prop)(g:Tr)(f:Md)(a:dQ)(b:ag):Prop:=g.go (C:=Md×dQ×ag) (λe d=>HJ P0 P J (λb m a h=>e b (m,a,h)) d.1 d.2.1 d.2.2) (f,a,b)
def pR{P0 P:aW}{J:F->ag->Prop}{f:ag->Tr}{a:Md}:Mn P0 P J (.mk f) a QV w↔HJ P0 P J (λw=>Mn P0 P J (f w)) a QV w:=Tr.Jt
section
variable {P0 P:aW}{S:Nat->Prop}{c:Nat}{J:F->ag->Prop}
def Wk.rely{h:Tr}{own:Nat->Prop}(a:Wk P0 P S c h own qM QV w)(g:RelB (λi=>S i\/own i) w u):Wk P0 P S c h own qM QV u:=by
 cases h using Tr.ind with
 |fin=>exact fe (Tr.wo a)
 |mk f=>
  have⟨n,a⟩:=wX.1 a;refine wX.2 ⟨n,?_⟩;rcases a with a|⟨v,o,k,q,e,a⟩|⟨e,j,p,m,l,a⟩;exact aq λd b=>a d (g.trans b);exact an (aq ⟨v,o,k,q,e,λd b=>a d (g.trans b)⟩);exact an (an ⟨e,j,p,m,l,λd b=>a d (g.trans b)⟩)
def D5{a b c:ag}(d:AtRel a b)(e:AtRel b c):AtRel a c:=atRel_trans a b c d e
def Mn.I3{g:Tr}(a:Mn P0 P J g .ex QV w)(e:AtRel w u):Mn P0 P J g .ex QV u:=by
 cases g using Tr.ind with
 |fin=>exact fe (Tr.wo a)
 |mk f=>
  have l:gP u=gP w:=by obtain⟨j,rfl⟩:=e;rfl
  refine pR.2 ?_;rcases pR.1 a with a|a|⟨S,h,k,b,i⟩;exact aq λd b=>a d (D5 e b);exact an (aq λd b=>a d (D5 e b));exact an (an ⟨S,h,bh,bh,λd b=>i d (D5 e b)⟩)
def Mn.tH{h:Tr}{k:Nat->Option (List F)}(b:Mn P0 P J h (.sh S q9 k) QV w)(g:RelB (λj=>S j\/q9 j) w u):Mn P0 P J h (.sh S q9 k) QV u:=by
 cases h using Tr.ind with
 |fin=>exact fe (Tr.wo b)
 |mk f=>
  refine pR.2 ?_;rcases pR.1 b with b|⟨c,i,l,e,a,n,o,b⟩|⟨c,p,m,i,e,a,b⟩|⟨e,b⟩;exact aq λd a=>b d (g.trans a);exact an (aq ⟨c,i,l,e,a,n,(g.at_ c (an e)).trans o,λd a=>b d (g.trans a)⟩);exact an (an (aq ⟨c,p,m,i,e,a,λd a=>b d (g.trans a)⟩));exact an (an (an ⟨e,λd a=>b d (g.trans a)⟩))
end
def Mn.cast{P0 P:aW}{J:F->ag->Prop}{b d:Tr}{a:Md}(e:b=d)(f:Mn P0 P J d a QV w):Mn P0 P J b a QV w:=e▸f
def Wk.cast{P0 P:aW}{S:Nat->Prop}{c:Nat}{a b:Tr}{own:Nat->Prop}(d:a=b)(e:Wk P0 P S c b own qM QV w):Wk P0 P S c a own qM QV w:=d▸e
def Down (e:Nat)(d c7:Nat->Tr):Prop:=∃a,a<e/\(∃f g,c7 a= .mk f/\d a=f g)/\∀b,b≠a->d b=c7 b
def Oz:∀(a:Nat) (c7:Nat->Tr),Acc (Down a) c7:=by
 intro a
 induction a with
 |zero=>exact λc7=>⟨_,λe g=>by have⟨d,q,_⟩:=g;omega⟩
 |succ a r=>
  have t:∀(m:Tr) (c7:Nat->Tr),c7 a=m->Acc (Down (a+1)) c7:=by
   intro m
   induction m using Tr.ind with
   |fin=>
    intro c7;have o:=r c7
    induction o with
    |intro c7 _ p=>
     intro i;refine⟨_,λe g=>?_⟩;have⟨d,q,⟨f,k,b,l⟩,h⟩:=g;by_cases j:d=a;subst j;rw[i] at b;exact fe (Tr.Su b);exact p e ⟨d,aa,⟨f,k,b,l⟩,h⟩ (aB (h a (λn=>j (bA n))) i)
   |mk u s=>
    intro c7;have o:=r c7
    induction o with
    |intro c7 _ p=>
     intro i;refine⟨_,λe g=>?_⟩;have⟨d,q,⟨f,k,b,l⟩,h⟩:=g;by_cases j:d=a;subst j;rw[i] at b;exact s k e (aB l (bA (congrFun (Tr.mk_inj b) k)));exact p e ⟨d,aa,⟨f,k,b,l⟩,h⟩ (aB (h a (λn=>j (bA n))) i)
  exact λc7=>t (c7 a) c7 Y
def H_9{P:aW}{m:Bool}(a:QW.frame=QV.frame)(b:sY QW=sY QV)(d:QW.dying=QV.dying):bQ P m QW w=bQ P m QV w:=by
 have⟨f,c,s,g,j⟩:=QV;have⟨i,e,l,h,k⟩:=QW;simp only at a b d;subst a b d;rfl
structure Inv(P0 P:aW)(S O:Nat->Prop)(μ:Nat->Option (List F))(gs:Array dQ)(w:ag)(t:Trace)(wk:Nat->Option jX)(vs:Nat->List F)(q:Nat->Nat)(c7:Nat->Tr):Prop where
 kJ:jB S wk (U w.heap) t
 hp:kS P0 w
 quit:∀i g,0<i->gs[i]? =K g->(∀x,wk i=K x->x.pc≠Z)->QuitsIn P (q i) g
 act:∀i g x,gs[i]? =K g->wk i=K x->x.pc=Z->Wk P0 P S x.c (c7 i) x.own (vs i) g w
 idx:∀i x,wk i=K x->0<i/\i<U gs
 kI:∀b,S b->b<U w.heap/\¬O b
 sK:∀b,O b->b<U w.heap
 low:∀i x,wk i=K x->x.c<U w.heap/\¬S x.c/\¬O x.c/\¬x.own x.c/\∀b,x.own b->b<U w.heap/\¬S b/\¬O b
 fW:∀i j x y,i≠j->wk i=K x->wk j=K y->x.c≠y.c/\¬y.own x.c/\∀b,x.own b->¬y.own b
 chan:∀i x,wk i=K x->∃cap buf s r,w.heap[x.c]? =K (.chan cap buf (lG x.pc) s r ai)/\μ x.c=K (dD buf++(if x.pc=Z then vs i else[]))/\(x.pc=Z->U buf+I (vs i)<=cap)
 mu:∀c l,μ c=K l->∃i x,wk i=K x/\x.c=c
def jH {a:Type}(f:Nat->a)(c:Nat)(d:a):Nat->a:=λb=>if b=c then d else f b
def nE{b:Type}{f:Nat->b}{a:b}:jH f n a n=a:=by simp[jH]
def kK{a:Type}{f:Nat->a}{c:a}(b:m≠n):jH f n c m=f m:=by simp[jH,b]
def Nd{b:Touch}(a:mw (sZ QT)=K b)(hx:∀m,QT.loc= .mark m->Neutral m):b.loc=QT.loc/\b.write=QT.write:=by
 have⟨d,wr,c⟩:=QT;cases d with
 |cell e=>simp[sZ,mw] at a;subst a;exact⟨rfl,rfl⟩
 |obj f=>cases wr<;>cases c<;>simp[sZ,mw] at a<;>subst a<;>exact⟨rfl,rfl⟩
 |output=>simp[sZ,mw] at a;subst a;exact⟨rfl,rfl⟩
 |goroutines=>simp[sZ,mw] at a;subst a;exact⟨rfl,rfl⟩
 |mark m=>
  have:sZ ⟨.mark m,wr,c⟩= .mark m:=by rfl
  rw[this,(hx m Y).touch] at a;cases a
def EG{S c:Nat->Prop}(a:EvW S c QT):∀m,QT.loc= .mark m->Neutral m:=λm b=>by
 unfold EvW at a;rw[b] at a;exact a
def I0(a:m4 n QT):∀m,QT.loc= .mark m->Neutral m:=λm b=>by
 unfold m4 at a;rw[b] at a;exact a
def I1{S f:Nat->Prop}{b:Touch}(a:EvW S f QT)(h:mw (sZ QT)=K b)(d:uI b.loc=af):f (blk b.loc)\/(S (blk b.loc)/\b.write=ai):=by
 have⟨e,g⟩:=Nd h (EG a);unfold EvW at a;rw[e,g];rw[e] at d;cases c:QT.loc with
 |cell i=>rw[c] at a;exact a
 |obj j=>rw[c] at a;exact a
 |_=>rw[c] at d;simp[uI] at d
def Sc{b:Touch}(a:m4 n QT)(f:mw (sZ QT)=K b)(d:uI b.loc=af):blk b.loc<n:=by
 have⟨e,h⟩:=Nd f (I0 a);unfold m4 at a;rw[e];rw[e] at d;cases c:QT.loc with
 |cell g=>rw[c] at a;exact a
 |obj i=>rw[c] at a;exact a
 |_=>rw[c] at d;simp[uI] at d
def Fl(e:∀b∈QR,∀m,b.loc= .mark m->Neutral m):Wordless (xe n QG QK QR):=by
 intro i g m a;obtain⟨b,f,rfl⟩:=yJ g;have⟨h,wr,d⟩:=b;cases h with
 |mark c=>
  have:sZ ⟨.mark c,wr,d⟩= .mark c:=by rfl
  simp only[this] at a;cases a;exact e _ f m Y
 |obj j=>cases wr<;>cases d<;>simp[sZ] at a
 |_=>simp[sZ] at a
def wJ{w:ag}(b:¬q9 n){s d:Nat}:RelB q9 w (lZ w n m C qV s d qW):=
 ⟨λa f=>by
  have c:n≠a:=λe=>b bh;simp only[lZ];rw[wY c],by simp[lZ],rfl,rfl,rfl⟩
def JC{P0:aW}{w:ag}(b:kS P0 w){s a:Nat}:kS P0 (lZ w n m C qV s a qW):=trivial
def BY{w:ag}(b:m≠n){s c:Nat}:(lZ w n k C qV s c qW).heap[m]? =w.heap[m]? :=by
 simp only[lZ];rw[wY (λa=>b (bA a))]
def uY{w:ag}{s a:Nat}:(lZ w n m C qV s a qW).heap.size=U w.heap:=by simp[lZ]
def En{w:ag}(b:n<U w.heap){s a:Nat}:(lZ w n m C qV s a qW).heap[n]? =K (.chan m C qV s a qW):=by
 simp[lZ,b]
section
variable {P0 P:aW}{S O:Nat->Prop}{μ:Nat->Option (List F)}{gs J:Array dQ}{w Q:ag}{t u:Trace}{wk:Nat->Option jX}{vs:Nat->List F}{q:Nat->Nat}{c7:Nat->Tr}
def lg{d:Option jX}{c:jX}(a:jH wk n d m=K c):(m=n/\d=K c)\/(m≠n/\wk m=K c):=by
 unfold jH at a
 split at a
 rename_i b;exact aq ⟨b,a⟩;rename_i b;exact an ⟨b,a⟩
def Inv.at(a:Inv P0 P S O μ gs w t wk vs q c7)(b:Nat):Inv P0 P S O μ gs (w.at b) t wk vs q c7:=
 ⟨a.kJ,a.hp,a.quit,λg c h d f e=>(a.act g c h d f e).rely (RelB.at _ w b),a.idx,a.kI,a.sK,a.low,a.fW,a.chan,a.mu⟩
def Inv.S4(a:Inv P0 P S O μ gs w t wk vs q c7)(k:U J=U gs)(i:∀g,0<g->J[g]? =gs[g]?):Inv P0 P S O μ J w t wk vs q c7:=
 ⟨a.kJ,a.hp,λb e h f=>a.quit b e h ((i b h).symm.trans f),λb e d f c j=>a.act b e d ((i b (a.idx b d c).1).symm.trans f) c j,λb d c=>b5 k (a.idx b d c),a.kI,a.sK,a.low,a.fW,a.chan,a.mu⟩
def Inv.slip(b:Inv P0 P S O μ gs w t wk vs q c7)(l:∀c,wk n=K c->c.pc≠Z)(o:QuitsIn P m QV)(p:U J=U gs)(k:J[n]? =K QV)(i:∀a,0<a->a≠n->J[a]? =gs[a]?):Inv P0 P S O μ J w t wk vs (jH q n m) c7:=by
 refine⟨b.kJ,b.hp,λa g h f d=>?_,λa g c f d j=>?_,λa c d=>b5 p (b.idx a c d),b.kI,b.sK,b.low,b.fW,b.chan,b.mu⟩;by_cases e:a=n;subst e;rw[k] at f;cases f;rw[nE];exact o;rw[kK e];exact b.quit a g h ((i a h e).symm.trans f) d;by_cases e:a=n;subst e;exact absurd j (l c d);exact b.act a g c ((i a (b.idx a c d).1 e).symm.trans f) d j
def Inv.Uj(d:Inv P0 P S O μ gs w t wk vs q c7){e:jX}(hx:wk n=K e)(c:oF P0 S e.own w Q QR):RelB (λa=>S a\/O a) w Q:=
 ⟨λa b=>ff b (λb=>c.keep a (d.kI a b).1 λf=>((d.low n e hx).2.2.2.2 a f).2.1 b) (λb=>c.keep a (d.sK a b) λf=>((d.low n e hx).2.2.2.2 a f).2.2 b),c.size,c.tape,c.os,c.output⟩
def Inv.Hx(g:Inv P0 P S O μ gs w t wk vs q c7){h:jX}(hx:wk n=K h)(X:h.pc=Z){am:Tr}(i:oF P0 S h.own w Q QR)(ar:Wk P0 P S h.c am (g6 h.own w Q) (vs n) QV Q)(aa:J.size=gs.size)(ay:J[n]? =K QV)(W:∀c,0<c->c≠n->J[c]? =gs[c]?):
 Inv P0 P S O μ J Q (t++xe n QG QK QR) (jH wk n (K ⟨h.c,g6 h.own w Q,Z⟩)) vs q (jH c7 n am):=by
 have⟨ad,ae,aE,aj,C⟩:=g.low n h hx;have N:∀b,g6 h.own w Q b->¬S b:=λb a p=>ff a (λa=>(C b a).2.1 p) λa=>cB ((g.kI b p).1);have ap:∀b,g6 h.own w Q b->¬O b:=λb a p=>ff a (λa=>(C b a).2.2 p) λa=>cB (g.sK b p);have A:∀c f,c≠n->wk c=K f->∀b,g6 h.own w Q b->¬f.own b/\b≠f.c:=λc f j d b a=>ff a (λa=>⟨(g.fW n c h f (λe=>j (bA e)) hx d).2.2 b a,λe=>(g.fW c n f h j d hx).2.1 (e▸a)⟩) λa=>⟨λl=>cB (((g.low c f d).2.2.2.2 b l).1),λe=>cB ((g.low c f d).1)⟩;have R:∀b,g6 h.own w Q b->b<U Q.heap:=λb a=>ff a (λa=>cL (C b a).1 i.size) (λa=>a.2);refine⟨?_,i.hp g.hp,λc F M j T=>?_,λc F f j d aC=>?_,λc f d=>?_,λb a=>⟨cL (g.kI b a).1 i.size,(g.kI b a).2⟩,λb a=>cL (g.sK b a) i.size,λc f d=>?_,λc v f D o d ab=>?_,λc f d=>?_,λao aD aw=>?_⟩;refine g.kJ.Hx hx X (λb a=>aq a) (λb a=>a.imp id And.left) (λaJ I=>by obtain⟨e,_,rfl⟩:=yJ I;rfl) (Fl λe H=>EG (i.evs e H)) i.size N ae (λc f j d=>⟨A c f j d,(g.fW n c h f (λe=>j (bA e)) hx d).2.1,(g.fW n c h f (λe=>j (bA e)) hx d).1,λb a=>⟨λl=>((g.low c f d).2.2.2.2 b l).2.1 a,λe=>(g.low c f d).2.1 (e▸a)⟩⟩) λaJ I b a az=>?_;obtain⟨e,H,rfl⟩:=yJ I;rcases I1 (i.evs e H) a az with m|m;exact⟨R _ m,aq m⟩;exact⟨cL (g.kI _ m.1).1 i.size,an (an m)⟩;by_cases e:c=n;subst e;exact absurd Y (T ⟨h.c,g6 h.own w Q,Z⟩ nE);exact g.quit c F M ((W c M e).symm.trans j) λf d=>T f (b5 (kK e) d);rcases lg d with⟨rfl,e⟩|⟨k,d⟩;cases e;rw[ay] at j;cases j;rw[nE];exact ar;rw[kK k];refine(g.act c F f ((W c (g.idx c f d).1 k).symm.trans j) d aC).rely ⟨λb a=>?_,i.size,i.tape,i.os,i.output⟩;rcases a with a|a;exact i.keep b (g.kI b a).1 λl=>(C b l).2.1 a;exact i.keep b ((g.low c f d).2.2.2.2 b a).1 λl=>(g.fW n c h f (λe=>k (bA e)) hx d).2.2 b l a;rcases lg d with⟨rfl,e⟩|⟨k,d⟩;rw[aa];exact g.idx c h hx;rw[aa];exact g.idx c f d;rcases lg d with⟨rfl,e⟩|⟨k,d⟩;cases e;exact⟨cL ad i.size,ae,aE,λa=>ff a aj λa=>bh,λb a=>⟨R b a,N b a,ap b a⟩⟩;have⟨aF,aG,aH,aI,al⟩:=g.low c f d;exact⟨cL aF i.size,aG,aH,aI,λb a=>⟨cL (al b a).1 i.size,(al b a).2⟩⟩;rcases lg d with⟨rfl,e⟩|⟨k,B⟩;cases e;rcases lg ab with⟨rfl,e⟩|⟨V,r⟩;exact absurd Y o;exact⟨(g.fW c v h D o hx r).1,(g.fW c v h D o hx r).2.1,λb a=>(A v D V r b a).1⟩;rcases lg ab with⟨rfl,e⟩|⟨V,r⟩;cases e;exact⟨(g.fW c v f h o B hx).1,λa=>(A c f k B _ a).2 Y,λb a l=>(A c f k B b l).1 a⟩;exact g.fW c v f D o B r;rcases lg d with⟨rfl,e⟩|⟨k,d⟩;cases e;have⟨G,E,s,L,x,y,z⟩:=g.chan c h hx;rw[X] at x y z;exact⟨G,E,s,L,aB (i.keep _ ad aj) x,y,z⟩;have⟨G,E,s,L,x,y,z⟩:=g.chan c f d;exact⟨G,E,s,L,aB (i.keep _ (g.low c f d).1 (g.fW c n f h k d hx).2.1) x,y,z⟩;have⟨c,f,d,e⟩:=g.mu ao aD aw;by_cases j:c=n;subst j;rw[hx] at d;cases d;exact⟨c,_,nE,e⟩;exact⟨c,f,b5 (kK j) d,e⟩
end
section
variable {H P:aW}{S O:Nat->Prop}{R:Nat->Option (List F)}{J gs':Array dQ}{w E:ag}{t u:Trace}{Q:Nat->Option jX}{T:Nat->List F}{q:Nat->Nat}{c7:Nat->Tr}{B:Nat}
def jB.Uu(d:jB S Q B t)(h:Wordless u)(g:∀a∈u,mw a.act=Z):jB S Q B (t++u):=by
 have k:∀(c:List kN) (t:Trace),jB S Q B t->Wordless (cX c)->(∀a∈c,mw a.act=Z)->jB S Q B (t++cX c):=by
  intro c
  induction c with
  |nil=>intro t d _ _;simpa using d
  |cons f c j=>
   intro t d h g;have i:t++cX (f::c)=(t++#[f])++cX c:=aF;rw[i];refine j _ (d.mute (B':=B) (γ:=f.g) (λa b=>by simp at b;rw[b]) (λa b m e=>?_) (λa b=>bh) (aV _)) (λa b m e=>h a bh m e) λa b=>g a (by simp[b]);simp at b;rw[b] at e;exact h f aF m e
 have:=k (dD u) t d aa (λa b=>g a bh);simpa using this
def Hi{R:Nat->Option (List F)}{a:Option (List F)}:gm R n a n=a:=by simp[gm]
def Ak{R:Nat->Option (List F)}{b:Option (List F)}(a:m≠n):gm R n b m=R m:=by simp[gm,a]
def Inv.comm(e:Inv H P S O R J w t Q T q c7){b:jX}(hx:Q n=K b){tr':Tr}(L:b.pc=Z->U buf'+I vi'<=cap)
 (G:b.pc=Z->Wk H P S b.c tr' b.own vi' g' w) (M:b.pc=Z->gs'[n]? =K g') (N:b.pc≠Z->gs'[n]? =J[n]?) (s:∀a,0<a->a≠n->gs'[a]? =J[a]?) (W:U gs'=U J) (X:Wordless u) (V:∀ad∈u,mw ad.act=Z):
 Inv H P S O (gm R b.c (K (dD buf'++(if b.pc=Z then vi' else[])))) gs' (lZ w b.c cap buf' (lG b.pc) s' r' ai) (t++u) Q (jH T n vi') q (jH c7 n tr'):=by
 have⟨aa,v,al,ab,am⟩:=e.low n b hx;have r:∀a f,a≠n->Q a=K f->f.c≠b.c:=λa f g d=>(e.fW a n f b g d hx).1;refine⟨by rw[uY];exact e.kJ.Uu X V,JC e.hp,λa i k g l=>?_,λa i f g d m=>?_,λa f d=>by rw[W];exact e.idx a f d,λj h=>by rw[uY];exact e.kI j h,λj h=>by rw[uY];exact e.sK j h,λa f d=>by rw[uY];exact e.low a f d,e.fW,λa f d=>?_,λo Y p=>?_⟩;by_cases c:a=n;subst c;exact e.quit a i k ((N (l b hx)).symm.trans g) l;exact e.quit a i k ((s a k c).symm.trans g) l;by_cases c:a=n;subst c;rw[hx] at d;cases d;rw[M m] at g;cases g;rw[nE,nE];exact(G m).rely (wJ (λh=>ff h v ab))
 .rw[kK c,kK c];exact(e.act a i f ((s a (e.idx a f d).1 c).symm.trans g) d m).rely (wJ (λh=>ff h v (e.fW n a b f (λD=>c (bA D)) hx d).2.1))
 by_cases c:a=n;subst c;rw[hx] at d;cases d;exact⟨cap,buf',s',r',En aa,by rw[Hi,nE],by rw[nE];exact L⟩
 .have⟨C,x,aj,ae,y,z,A⟩:=e.chan a f d;refine⟨C,x,aj,ae,aB (BY (r a f c d)) y,?_,by rw[kK c];exact A⟩;rw[Ak (r a f c d),kK c];exact z
 .by_cases c:o=b.c
  .exact⟨n,b,hx,bA c⟩
  .rw[Ak c] at p;exact e.mu o Y p
def Inv.close(d:Inv H P S O R J w t Q T q c7){f:jX}(hx:Q n=K f)(v:f.pc=Z)(aD:T n=[]){p s D aa:Nat}{tr':Tr}(ao:w.heap[f.c]? =K (.chan p C ai s D ai))(aC:QuitsIn P aa QV)(ar:gs'[n]? =K QV)(N:∀a,0<a->a≠n->gs'[a]? =J[a]?)(W:U gs'=U J)(am:fH)(aI:String):
 Inv H P S O R gs' (lZ w f.c p C af s D ai) (t++xe n am aI #[⟨.obj f.c,ai,af⟩,⟨.obj f.c,af,af⟩]) (jH Q n (K ⟨f.c,f.own,K (U t+1)⟩)) T (jH q n aa) (jH c7 n tr'):=by
 have⟨z,A,aF,aG,aH⟩:=d.low n f hx;have aw:∀a c,a≠n->Q a=K c->c.c≠f.c:=λa c g e=>(d.fW a n c f g e hx).1;refine⟨?_,JC d.hp,λa r I g az=>?_,λa r c g e V=>?_,λa c e=>?_,λm j=>by rw[uY];exact d.kI m j,λm j=>by rw[uY];exact d.sK m j,λa c e=>?_,λa y c ae l e X=>?_,λa c e=>?_,λaj aE ap=>?_⟩
 .rw[uY];exact d.kJ.close hx v z A λa c g e=>⟨(d.fW n a f c (λb=>g (bA b)) hx e).2.1,(d.fW n a f c (λb=>g (bA b)) hx e).1⟩
 by_cases b:a=n;subst b;rw[ar] at g;cases g;rw[nE];exact aC
 .rw[kK b];exact d.quit a r I ((N a I b).symm.trans g) λc e=>az c (by rw[kK b];exact e)
 .rcases lg e with⟨rfl,b⟩|⟨i,h⟩
  .cases b;cases V
  .rw[kK i];exact(d.act a r c ((N a (d.idx a c h).1 i).symm.trans g) h V).rely (wJ (λj=>ff j A (d.fW n a f c (λal=>i (bA al)) hx h).2.1))
 rcases lg e with⟨rfl,b⟩|⟨i,h⟩;rw[W];exact d.idx a f hx;rw[W];exact d.idx a c h;rcases lg e with⟨rfl,b⟩|⟨i,h⟩;cases b;rw[uY];exact⟨z,A,aF,aG,aH⟩;rw[uY];exact d.low a c h;rcases lg e with⟨rfl,b⟩|⟨i,h⟩;cases b;rcases lg X with⟨rfl,b⟩|⟨ay,x⟩;exact absurd Y l;exact d.fW a y f ae l hx x;rcases lg X with⟨rfl,b⟩|⟨ay,x⟩;cases b;exact d.fW a y c f l h hx;exact d.fW a y c ae l h x;rcases lg e with⟨rfl,b⟩|⟨i,h⟩;cases b;have⟨M,G,ad,ab,k,o,L⟩:=d.chan a f hx;rw[v] at k;have:=aB k.symm ao;cases this;refine⟨p,C,s,D,En z,?_,λb=>by cases b⟩;rw[o,v,aD];rfl
 .have⟨M,G,ad,ab,k,o,L⟩:=d.chan a c h;exact⟨M,G,ad,ab,aB (BY (aw a c i h)) k,o,L⟩
 have⟨a,c,e,b⟩:=d.mu aj aE ap;by_cases g:a=n;subst g;rw[hx] at e;cases e;exact⟨a,_,nE,b⟩
 .exact⟨a,c,by rw[kK g];exact e,b⟩
def Inv.main(d:Inv H P S O R J w t Q T q c7)(f:oF H S O w E QR)(ad:gs'.size=J.size)(G:∀c,0<c->gs'[c]? =J[c]?):
 Inv H P S (g6 O w E) R gs' E (t++xe 0 QG QK QR) Q T q c7:=by
 have F:∀b,g6 O w E b->b<U E.heap:=λb a=>ff a (λa=>cL (d.sK b a) f.size) (λa=>a.2);have p:∀c e,Q c=K e->∀b,g6 O w E b->¬e.own b/\b≠e.c:=λc e g b a=>by
  have⟨y,l,z,A,k⟩:=d.low c e g;rcases a with a|a;exact⟨λh=>(k b h).2.2 a,λi=>z (i▸a)⟩;exact⟨λh=>bh,λi=>aa⟩
 refine⟨?_,f.hp d.hp,λc m D o Z=>d.quit c m D ((G c D).symm.trans o) Z,λc m e o g ab=>?_,λc e g=>b5 ad (d.idx c e g),λb a=>⟨cL (d.kI b a).1 f.size,λh=>ff h (d.kI b a).2 λh=>cB ((d.kI b a).1)⟩,F,λc e g=>?_,d.fW,λc e g=>?_,d.mu⟩;refine d.kJ.main (λae r=>by obtain⟨i,_,rfl⟩:=yJ r;rfl) (Fl λi n=>EG (f.evs i n)) f.size λae r b a X=>?_;obtain⟨i,n,rfl⟩:=yJ r;rcases I1 (f.evs i n) a X with j|j;exact⟨F _ j,λx C v=>p x C v _ j,λI=>absurd j (λh=>ff h (d.kI _ I).2 λh=>cB ((d.kI _ I).1))⟩;refine⟨cL (d.kI _ j.1).1 f.size,λx C v=>?_,λ_=>j.2⟩;have⟨y,l,z,A,k⟩:=d.low x C v;exact⟨λh=>(k _ h).2.1 j.1,λi=>l (i▸j.1)⟩;refine(d.act c m e ((G c (d.idx c e g).1).symm.trans o) g ab).rely ⟨λb a=>?_,f.size,f.tape,f.os,f.output⟩;rcases a with a|a;exact f.keep b (d.kI b a).1 (d.kI b a).2;exact f.keep b ((d.low c e g).2.2.2.2 b a).1 ((d.low c e g).2.2.2.2 b a).2.2;have⟨y,l,z,A,k⟩:=d.low c e g;exact⟨cL y f.size,l,λh=>(p c e g _ h).2 Y,A,λb a=>⟨cL (k b a).1 f.size,(k b a).2.1,λh=>(p c e g b h).1 a⟩⟩;have⟨W,L,s,aj,M,N,V⟩:=d.chan c e g;exact⟨W,L,s,aj,aB (f.keep _ (d.low c e g).1 (d.low c e g).2.2.1) M,N,V⟩
def Inv.spawn(d:Inv H P S O R J w t Q T q c7){W:Tr}(o:O n)(az:I qM<=k)(aZ:R n=Z)(ar:w.heap[n]? =K (.chan k #[] ai 0 0 ai))(ap:Wk H P S n W (λ_=>False) qM QV w)(N:U gs'=U J+1)(ao:0<U J)(aw:gs'[U J]? =K QV)(M:∀a,0<a->a<U J->gs'[a]? =J[a]?){fn X:fH}:
 Inv H P S (λg=>O g/\g≠n) (gm R n (K qM)) gs' w (t++#[{g:=0,fn,pos,act:=.go (U J)},{g:=U J,fn:=X,pos,act:=.start}]) (jH Q (U J) (K ⟨n,λ_=>False,Z⟩)) (jH T (U J) qM) q (jH c7 (U J) W):=by
 have ay:Q (U J)=Z:=by
  cases c:Q (U J) with
  |none=>rfl
  |some aY=>have:=(d.idx _ aY c).2;omega
 have C:¬S n:=λaG=>(d.kI n aG).2 o;have aD:∀a b,Q a=K b->a≠U J:=λa b e c=>bh;have p:∀a b,Q a=K b->n≠b.c:=λa b e c=>(d.low a b e).2.2.1 (c▸o);refine⟨?_,d.hp,λa s A l L=>?_,λa s b l e aF=>?_,λa b e=>?_,λg h=>⟨(d.kI g h).1,λf=>(d.kI g h).2 f.1⟩,λg h=>d.sK g h.1,λa b e=>?_,λa v b y G e V=>?_,λa b e=>?_,λz m D=>?_⟩;exact d.kJ.spawn ay (λa b e=>⟨λf=>((d.low a b e).2.2.2.2 n f).2.2 o,p a b e,λg h=>⟨λf=>((d.low a b e).2.2.2.2 g f).2.1 h,λc=>(d.low a b e).2.1 (c▸h)⟩⟩) C;by_cases c:a=U J;subst c;exact absurd Y (L ⟨n,λ_=>False,Z⟩ nE);have aC:a<U J:=by
  have:=(dY.1 l).1;omega
 exact d.quit a s A ((M a A aC).symm.trans l) λb e=>L b (b5 (kK c) e);rcases lg e with⟨rfl,c⟩|⟨j,i⟩;cases c;rw[aw] at l;cases l;rw[nE,nE];exact ap;rw[kK j,kK j];exact d.act a s b ((M a (d.idx a b i).1 (d.idx a b i).2).symm.trans l) i aF;rcases lg e with⟨rfl,c⟩|⟨j,i⟩;rw[N];exact⟨ao,aa⟩;have:=d.idx a b i;rw[N];exact⟨this.1,aa⟩;rcases lg e with⟨rfl,c⟩|⟨j,i⟩;cases c;exact⟨d.sK n o,C,λf=>f.2 Y,λf=>f,λg h=>fe h⟩;have⟨aH,aI,aJ,aL,x⟩:=d.low a b i;exact⟨aH,aI,λf=>aJ f.1,aL,λg h=>⟨(x g h).1,(x g h).2.1,λf=>(x g h).2.2 f.1⟩⟩;rcases lg e with⟨rfl,c⟩|⟨j,i⟩;cases c;rcases lg V with⟨rfl,c⟩|⟨aE,r⟩;exact absurd Y G;exact⟨p v y r,λf=>((d.low v y r).2.2.2.2 n f).2.2 o,λg h=>fe h⟩;rcases lg V with⟨rfl,c⟩|⟨aE,r⟩;cases c;exact⟨λc=>p a b i (bA c),λf=>f,λg h f=>f⟩;exact d.fW a v b y G i r;rcases lg e with⟨rfl,c⟩|⟨j,i⟩;cases c;exact⟨k,#[],0,0,ar,by rw[Hi,nE];simp,by rw[nE];simpa using az⟩;have⟨al,ab,aQ,aM,ad,ae,aj⟩:=d.chan a b i;refine⟨al,ab,aQ,aM,ad,?_,b5 (kK j) aj⟩;rw[Ak (λc=>p a b i (bA c)),kK j];exact ae;by_cases c:z=n;exact⟨U J,_,nE,bA c⟩;rw[Ak c] at D;have⟨a,b,e,am⟩:=d.mu z m D;exact⟨a,b,b5 (kK (aD a b e)) e,am⟩
def Inv.E3(d:Inv H P S O R J w t Q T q c7){g:jX}(hx:Q n=K g)(r:g.pc=K m)(I:U gs'=U J)(p:∀a,0<a->gs'[a]? =J[a]?){fn:fH}:
 Inv H P S O (gm R g.c Z) gs' w (t++#[{g:=0,fn,pos,act:=.recvClosed g.c}]) (jH Q n Z) T q c7:=by
 have f:∀{a c},jH Q n Z a=K c->a≠n/\Q a=K c:=λ{a c} e=>by
  rcases lg e with⟨_,e⟩|e;cases e;exact e
 refine⟨d.kJ.E3 hx r,d.hp,λa i o j F=>?_,λa i c j b G=>?_,λa c b=>by rw[I];exact d.idx a c (f b).2,d.kI,d.sK,λa c b=>d.low a c (f b).2,λa M c W D b L=>d.fW a M c W D (f b).2 (f L).2,λa c b=>?_,λk N h=>?_⟩;refine d.quit a i o ((p a o).symm.trans j) λc b=>?_;by_cases e:a=n;subst e;rw[hx] at b;cases b;rw[r];simp;exact F c (b5 (kK e) b);exact d.act a i c ((p a (d.idx a c (f b).2).1).symm.trans j) (f b).2 G;have⟨A,v,s,V,x,y,z⟩:=d.chan a c (f b).2;exact⟨A,v,s,V,x,b5 (Ak (d.fW a n c g (f b).1 (f b).2 hx).1) y,z⟩;by_cases e:k=g.c;rw[e,Hi] at h;cases h;rw[Ak e] at h;have⟨a,c,b,l⟩:=d.mu k N h;refine⟨a,c,?_,l⟩;rw[kK (λC=>?_)];exact b;subst C;rw[hx] at b;cases b;exact e (bA l)
end
def Ends (P:aW)(J:F->ag->Prop)(m:Machine)(t:Trace):Prop:=
 ∃N a b c d,runNT P (N+1) m t=(.ended b c,d)/\runN P N m= .next a/\step P a= .ended b c/\Conc.Good P J a b c d
section
variable {R P:aW}{J:F->ag->Prop}
def Ends.step{m b:Machine}{t c:Trace}(a:stepT P m=(.next b,c))(d:Ends P J b (t++c)):Ends P J m t:=by
 have⟨N,i,j,l,k,e,f,g,h⟩:=d;refine⟨N+1,i,j,l,k,?_,?_,g,h⟩;rw[runNT,a];exact e;rw[runN,Go.step,a];exact f
def Ends.now{m:Machine}{t b:Trace}{a:Outcome}{w:ag}(c:stepT P m=(.ended a w,b))(d:Conc.Good P J m a w (t++b)):Ends P J m t:=
 ⟨0,m,a,w,t++b,by rw[runNT,c],rfl,by rw[Go.step,c],d⟩
structure oG(g0 g:dQ):Prop where
 frame:g0.frame=g.frame
 callers:sY g0=sY g
 dying:g0.dying=g.dying
def oG.refl(a:dQ):oG a a:=⟨rfl,rfl,rfl⟩
def oG.step(a:oG QV QW)(m:Bool)(w:ag):bQ P m QV w=bQ P m QW w:=H_9 a.frame a.callers a.dying
section
variable {S O:Nat->Prop}{E:Nat->Option (List F)}{Q:Array dQ}{w:ag}{t:Trace}{T:Nat->Option jX}{H:Nat->List F}{q:Nat->Nat}{c7:Nat->Tr}
def Inv.status(b:Inv R P S O E Q w t T H q c7)(e:0<n)(c:Q[n]? =K QV):QV.status=lB\/QV.status= .finished:=by
 cases g:T n with
 |none=>exact(b.quit n QV e c λd a=>by rw[g] at a;cases a).status
 |some d=>
  cases h:d.pc with
  |some j=>exact(b.quit n QV e c λk a=>bh).status
  |none=>
   have:=b.act n QV d c g h;generalize c7 n=i at this;cases i using Tr.ind with
   |fin=>exact fe (Tr.wo this)
   |mk f=>exact aq (wX.1 this).1
def BE{b c a:dQ}(d:m5 a=lB\/m5 a= .finished):woken P b c u a=a:=by
 unfold woken
 split
 exact again_running _ d;rfl
def DC{e f b:dQ}{a d s h:Nat}{c:CommShape}(g:w'.heap[a]? =K (.chan d C ai s h qV)):woken P e f w' (parked b #[rcase a v] c)=parked b #[rcase a v] c:=by
 unfold woken
 split
 exact again_recv_open g;rfl
def others(b:Inv R P S O E Q w t T H q c7)(c:0<m)(e:m≠n):(cF (Q.map (woken P QV QW u)) n QW)[m]? =Q[m]? :=by
 rw[wY (λa=>e (bA a)),Array.getElem?_map];cases d:Q[m]? with
 |none=>rfl
 |some f=>rw[pJ,BE (b.status c d)]
def zR(a:Q[n]? =K QV):(cF (Q.map (woken P QV QW u)) n QW)[n]? =K QW:=by
 rw[Array.getElem?_setIfInBounds_self_of_lt (by simpa using(dY.1 a).1)]
def wI{c b a:dQ}(e:n≠0)(d:Q[0]? =K a)(f:woken P c b u a=a):(cF (Q.map (woken P c b u)) n b)[0]? =K a:=by
 rw[wY e,Array.getElem?_map,d,pJ,f]
def yw:U (cF (Q.map (woken P QV QW u)) n QW)=U Q:=aF
def Inv.Y_9(e:Inv R P S O E Q w t T H q c7)(x:∀h,E h=Z):Inv R P (λ_=>False) (λ_=>False) (λ_=>Z) Q w t (λ_=>Z) H q c7:=by
 have v:∀a,T a=Z:=λa=>by
  cases b:T a with
  |none=>rfl
  |some c=>
   have⟨z,y,s,G,_,i,_⟩:=e.chan a c b;rw[x] at i;cases i
 refine⟨⟨e.kJ.wl,e.kJ.clean,e.kJ.low,λa l p u=>?_,λg c d=>(cV d),λg c d=>(cV d),λg c D d=>(cV d)⟩,e.hp,λa j n k _=>e.quit a j n k λc A=>bh,λa j c k b=>(cV b),λa c b=>(cV b),λm f=>fe f,λm f=>fe f,λa c b=>(cV b),λa B c F _ b=>(cV b),λa c b=>(cV b),λh C r=>(cV r)⟩;rcases e.kJ.known a l p u with o|⟨g,c,d,_⟩;exact aq o;rw[v] at d;cases d
def Inv.Z_9(e:Inv R P (λ_=>False) (λ_=>False) (λ_=>Z) Q w t (λ_=>Z) H q c7)(k:∀d,S d->d<U w.heap/\¬O d)(j:∀d,O d->d<U w.heap):Inv R P S O (λ_=>Z) Q w t (λ_=>Z) H q c7:=by
 refine⟨⟨e.kJ.wl,e.kJ.clean,e.kJ.low,λf h l n=>?_,λg b c=>(cV c),λg b c=>(cV c),λg b v c=>(cV c)⟩,e.hp,e.quit,λf p b r a=>(cV a),λf b a=>(cV a),k,j,λf b a=>(cV a),λf s b x _ a=>(cV a),λf b a=>(cV a),λo u m=>(cV m)⟩;rcases e.kJ.known f h l n with i|⟨g,b,c,_⟩;exact aq i;cases c
def Inv.I2(i:Inv R P (λ_=>False) (λ_=>False) (λ_=>Z) Q w t (λ_=>Z) H q c7){h:Array dQ}(f:DS R w w' es)(B:h.size=Q.size)(v:∀g,0<g->h[g]? =Q[g]?)(p:fH)(z:String):
 Inv R P (λ_=>False) (λ_=>False) (λ_=>Z) h w' (t++xe 0 p z es) (λ_=>Z) H q c7:=by
 refine⟨(i.kJ.main (λy k=>by obtain⟨e,_,rfl⟩:=yJ k;rfl) (Fl λe j=>I0 (f.evs e j)) f.size λy k l c u=>?_),f.hp i.hp,λb m n o a=>i.quit b m n ((v b n).symm.trans o) a,λb m d o a=>(cV a),λb d a=>(cV a),λl c=>fe c,λl c=>fe c,λb d a=>(cV a),λb g d F _ a=>(cV a),λb d a=>(cV a),λA D r=>(cV r)⟩;obtain⟨e,j,rfl⟩:=yJ k;exact⟨Sc (f.evs e j) c u,λC d s=>(cV s),λx=>fe x⟩
def Inv.good(c:Inv R P (λ_=>False) (λ_=>False) (λ_=>Z) Q w t (λ_=>Z) H q c7)(l:Option (Nat×Nat))(j:∀a∈QR,m4 (U w.heap) a)(k:J v w)(h:fH)(i:String)(m:ag):Conc.Good P J (crowd Q m l) (.done v) w (t++xe 0 h i QR):=by
 have d:=c.I2 (w':=w) (es:=QR) ⟨aV _,rfl,rfl,rfl,id,j⟩ Y (λ_ _=>rfl) h i;refine⟨v,rfl,k,d.kJ.clean,d.kJ.over,⟨λg f=>?_,rfl⟩,λb g f e=>?_⟩;have⟨b,e⟩:=List.mem_iff_getElem?.1 f;rw[List.getElem?_drop] at e;exact⟨_,(c.quit (1+b) g aa (by simpa [crowd] using e) λn a=>cV a).leaves⟩;rw[d.kJ.wl.deaf];exact⟨q b,(c.quit b g aa f λn a=>cV a).hears _ 0⟩
end
end
section
variable {Q P:aW}{J:F->ag->Prop}
def BI (Q P:aW)(J:F->ag->Prop)(k:Tr):Prop:=
 (∀d c,Mn Q P J k .ex d c->∀b g e h f c7 a,b[0]? =K a->oG a d->m5 a=lB->Inv Q P (λ_=>False) (λ_=>False) (λ_=>Z) b c e (λ_=>Z) h f c7->Ends P J (crowd b c g) e)/\
 (∀j i l d c,Mn Q P J k (.sh j i l) d c->∀b g e m h f c7 a,b[0]? =K a->oG a d->m5 a=lB->Inv Q P j i l b c e m h f c7->Ends P J (crowd b c g) e)
def MV{a:Nat->Nat}(b:n<m)(c:a n=k+1):tP m (jH a n k)+1=tP m a:=by
 have d:tP m (jH a n k)+(k+1)=tP m a+k:=by
  have:=ConcN.sumTo_upd a k id b;simp only[id,c] at this;exact this
 omega
def D6{o:Nat->Option (List F)}{a:Array dQ}{k:Trace}{m:Nat->Option jX}{l:Nat->List F}{j:Nat->Nat}{c7:Nat->Tr}(d:Inv Q P q9 Qa o a w k m l j c7)(e:a[0]? =K QV)(f:awake QV):∀b∈a,awake b:=by
 intro b g;obtain⟨i,c,rfl⟩:=Array.mem_iff_getElem.1 g;rcases vP i with rfl|h;have:a[0]=QV:=by simpa [m3 c] using e
 rw[this];exact f;exact awake_of (ff (d.status h (m3 c)) aq λn=>an (an n))
def SU{f:ag->Tr}(D:∀a,BI Q P J (f a)):∀(r:Nat) j a,Mn Q P J (.mk f) .ex j a->∀e m q n h c7 d,tP (U e) h<r->e[0]? =K d->oG d j->m5 d=lB->Inv Q P (λ_=>False) (λ_=>False) (λ_=>Z) e a q (λ_=>Z) n h c7->Ends P J (crowd e a m) q:=by
 intro r
 induction r with
 |zero=>intro j a z e m q n h c7 d ao;omega
 |succ r ap=>
  intro j a z e m q n h c7 d ao l t o g;have N:=z;rcases pR.1 z with y|y|⟨F,E,H,I,L⟩
  case inr.inr=>exact(D a).2 F E _ j a (L a (atRel_refl a)) e m q _ n h c7 d l t o (g.Z_9 H I)
  all_goals
   have⟨i,k,b,p,c,s,C⟩:=crowd_pick (P:=P) (w:=a) (sl:=m) (D6 g l (awake_of (aq o))) ⟨0,d,l,o⟩;rcases vP i with rfl|ad
   case inr=>
    have u:=g.quit i k ad c (λaz w=>cV w);have W:(i==0)=ai:=bO;have Y:i<U e:=(dY.1 c).1;cases B:h i with
    |zero=>rw[B] at u;rw[show m5 k= .finished from u] at s;cases s
    |succ aw=>
     rw[B] at u;rcases u with S|⟨_,x,am,ae⟩;rw[S] at s;cases s;have al:=runT_crowd_go (P:=P) (sl:=p) (i:=i) c (by rw[W];exact am (a.at b));have aC:=MV Y B;refine Ends.step (aB C al) (ap j (a.at b) (N.I3 ⟨b,rfl⟩) _ p _ n (jH h i aw) c7 d (jG yw) (wI aa l (BE (aq o))) t o ?_);rw[ofEvents_none,Array.append_empty];exact(g.at b).slip (λaz w=>cV w) ae yw (zR c) λar A X=>others g A X
  obtain rfl:k=d:=by rw[l] at c;exact bA (Az c)
  have⟨x,ay,G,V,aj,T,M⟩:=y (a.at b) ⟨b,rfl⟩;exact Ends.step (aB C (runT_crowd_go (P:=P) (sl:=p) (i:=0) c (show bQ P (0==0) k (a.at b)=_ from aB (t.step af _) V))) ((D (a.at b)).1 x ay M _ p _ n h c7 x (zR c) (oG.refl _) aj ((g.at b).I2 T yw (λar A=>others g A aa) _ _));obtain rfl:k=d:=by rw[l] at c;exact bA (Az c)
  have⟨v,G,O,R,ab⟩:=y (a.at b) ⟨b,rfl⟩;exact Ends.now (aB C (runT_many_ended (P:=P) (sl:=p) (i:=0) c (show bQ P (0==0) k (a.at b)=_ from aB (t.step af _) O))) ((g.at b).good m R ab _ _ a)
end
section
variable {T P:aW}{J:F->ag->Prop}
def RC (T P:aW)(J:F->ag->Prop)(f:ag->Tr)(S O:Nat->Prop)(R:Nat->Option (List F))(d:dQ)(w:ag)(c:Nat)(h:F)(b:dQ)(g:List F):Prop:=
 R c=K g/\(b.frame=d.frame/\sY b=sY d/\b.dying=d.dying)/\∀a,RelB (λe=>S e\/O e) w a->bQ P af d a= .comm b #[rcase c h] af (.recv af) a #[]/\
  match g with
  |v::i=>Mn T P J (f a) (.sh S O (gm R c (K i))) (nJ b (recvd af v af)) a
  | []=>Mn T P J (f a) (.sh S O (gm R c Z)) (nJ b (recvd af h ai)) a
def RC.rely{f:ag->Tr}{S O:Nat->Prop}{R:Nat->Option (List F)}{w c:ag}(a:RC T P J f S O R QV w n v QW qM)(e:RelB (λb=>S b\/O b) w c):RC T P J f S O R QV c n v QW qM:=
 ⟨a.1,a.2.1,λg d=>a.2.2 g (e.trans d)⟩
def y8 (T P:aW)(J:F->ag->Prop)(f:ag->Tr)(S O:Nat->Prop)(R:Nat->Option (List F))(e:dQ)(Q:Array dQ)(w:ag)(H:Nat->Option jX)(d:Nat):Prop:=
 (d=1/\∃b,Q[0]? =K b/\oG b e/\m5 b=lB)\/
 (d=0/\∃a h g k j c i s l,Q[0]? =K (parked g #[rcase a h] (.recv af))/\RC T P J f S O R e w a h g k/\H j=K c/\c.c=a/\c.pc=Z/\w.heap[a]? =K (.chan i #[] ai s l ai))
def aay{R:Nat->Option (List F)}{a:Option (List F)}(c:R n=a):gm R n a=R:=by
 funext d;unfold gm
 split
 rename_i b;rw[b,c];rfl
section
variable {S O:Nat->Prop}{R:Nat->Option (List F)}{Q:Array dQ}{w A:ag}{t:Trace}{H:Nat->Option jX}{E:Nat->List F}{q:Nat->Nat}{c7:Nat->Tr}
def Inv.PM(c:Inv T P S O R Q w t H E q c7){b a:jX}(hx:H n=K b)(hy:H m=K a)(e:oF T S b.own w A QR):A.heap[a.c]? =w.heap[a.c]? :=by
 refine e.keep _ (c.low m a hy).1 ?_;by_cases d:m=n;subst d;rw[hx] at hy;cases hy;exact(c.low m b hx).2.2.2.1;exact(c.fW m n a b d hy hx).2.1
def Inv.J8(h:Inv T P S O R Q w t H E q c7)(a:Nat)(c:Bool)(i:∀e,n≠0->Q[0]? =K e->offersAt e a c=[]):partners (cF Q n ph) a c=[]:=by
 refine partners_nil λg d j=>?_;rcases getElem?_stand Q n g d j with⟨_,rfl⟩|⟨k,f⟩;exact offersAt_ph a c;rcases vP g with rfl|l;exact i d (λb=>k (bA b)) f;exact offersAt_of_not_blocked (by rcases h.status l f with b|b<;>rw[b]<;>simp) a c
end
def Bu{Q:Array dQ}{g a:dQ}(b:Q[n]? =K g):(cF Q n a)[n]? =K a:=Array.getElem?_setIfInBounds_self_of_lt (dY.1 b).1
def tG{Q:Array dQ}(b:m≠n):(cF Q n QV)[m]? =Q[m]? :=wY (λa=>b (bA a))
def VZ(b:QuitsIn P n QV):(QV.status != .blocked&&QV.status != .waiting)=af:=by
 rcases b.status with a|a<;>rw[a]<;>rfl
def Ks{f:ag->Tr}(ch:∀w,BI T P J (f w)){S O:Nat->Prop}{R:Nat->Option (List F)}{c7:Nat->Tr}
 (a0:∀br,Down n br c7->∀w,Mn T P J (.mk f) (.sh S O R) QV w->∀Q ad t H E q i,U Q=n->y8 T P J f S O R QV Q w H i->Inv T P S O R Q w t H E q br->Ends P J (crowd Q w ad) t)
  (ci:∀w,Mn T P J (.mk f) (.sh S O R) QV w->∀Q ad t H E q i,U Q=n->tP n q+i<k->y8 T P J f S O R QV Q w H i->Inv T P S O R Q w t H E q c7->Ends P J (crowd Q w ad) t)
 {w:ag} (b0:Mn T P J (.mk f) (.sh S O R) QV w) {Q:Array dQ} {ad:Option (Nat×Nat)} {t:Trace} {H:Nat->Option jX} {E:Nat->List F} {q:Nat->Nat} (bx:U Q=n) (cx:tP n q+i<k+1) (a5:y8 T P J f S O R QV Q w H i) (aD:Inv T P S O R Q w t H E q c7)
  {u:Option (Nat×Nat)} (b7:0<j) (p:Q[j]? =K QW) (a4:QW.status=lB) (aY:stepT P (crowd Q w ad)=runT P (crowd Q (w.at a) u) j):Ends P J (crowd Q w ad) t:=by
 have B:=aD.at a;have aE:=b0.tH (RelB.at _ w a);have bb:(j==0)=ai:=bO;have bv:j<U Q:=(dY.1 p).1;have bE:(∀b,H j=K b->b.pc≠Z)->Ends P J (crowd Q w ad) t:=by
  intro bD;have ar:=aD.quit j QW b7 p bD;cases be:q j with
  |zero=>rw[be] at ar;rw[show QW.status= .finished from ar] at a4;cases a4
  |succ a6=>
   rw[be] at ar;rcases ar with b1|⟨_,aJ,cc,ca⟩;rw[b1] at a4;cases a4;have bi:=runT_crowd_go (P:=P) (sl:=u) (i:=j) p (by rw[bb];exact cc (w.at a));have cv:=MV (bx▸bv) be;refine Ends.step (aB aY bi) (ci (w.at a) aE _ u _ H E (jH q j a6) i bh aa ?_ ?_);rcases a5 with⟨c,I,e,ap,D⟩|⟨c,x,G,d,X,g,b,h,s,r,e,M,o,cg,L,N⟩;exact aq ⟨c,I,wI aa e (BE (aq D)),ap,D⟩;exact an ⟨c,x,G,d,X,g,b,h,s,r,wI aa e (DC (w':=w.at a) N),M.rely (RelB.at _ w a),o,cg,L,N⟩;rw[ofEvents_none,Array.append_empty];exact B.slip bD ca yw (zR p) λg V l=>others aD V l
 cases o:H j with
 |none=>exact bE λb c=>by rw[o] at c;cases c
 |some b=>
  cases L:b.pc with
  |some cB=>exact bE λae c=>bh
  |none=>
   have aM:=B.act j QW b p o L;have⟨ck,a7,a8,cy,cA⟩:=B.low j b o;have a9:=aM;generalize b2:c7 j=kJ at a9;cases kJ using Tr.ind with
   |fin=>exact(Tr.wo a9).elim
   |mk aI=>
    replace aM:=wX.1 a9;have aH:∀bm,bm=aI (w.at a)->Down n (jH c7 j bm) c7:=λbm c=>⟨j,bx▸bv,⟨aI,w.at a,b2,by rw[nE];exact c⟩,λg V=>kK V⟩;have⟨h,ab,s,r,aj,a1,aG⟩:=B.chan j b o;rw[L] at aj a1 aG;simp only[Option.isSome_none,if_true,forall_const] at aj a1 aG;have⟨_,aM⟩:=aM;rcases aM with bV|⟨v,bk,d,G,bj,bY⟩|⟨bj,aJ,a6,ar,cd,bZ⟩;have⟨aJ,A,co,b3,aQ,a3⟩:=bV (w.at a) (RelB.refl _ _);have hrel:=B.Uj o aQ;refine Ends.step (aB aY (runT_crowd_go (P:=P) (sl:=u) (i:=j) p (b5 bb b3))) (a0 _ (aH _ Y) A (aE.tH hrel) _ u _ _ E q i bh ?_ (B.Hx o L aQ a3 yw (zR p) (λg V l=>others aD V l)));rcases a5 with⟨c,I,e,ap,D⟩|⟨c,x,G,d,X,g,ae,h,s,r,e,M,z,W,aZ,N⟩;exact aq ⟨c,I,wI aa e (BE (aq D)),ap,D⟩;have am:A.heap[x]? =K (.chan h #[] ai s r ai):=by
     rw[<-W,B.PM o z aQ,W];exact N
    by_cases l:g=j;subst l;rw[o] at z;cases z;exact an ⟨c,x,G,d,X,g,⟨b.c,g6 b.own (w.at a) A,Z⟩,h,s,r,wI aa e (DC am),(M.rely (RelB.at _ w a)).rely hrel,nE,W,rfl,am⟩
    .exact an ⟨c,x,G,d,X,g,ae,h,s,r,wI aa e (DC am),(M.rely (RelB.at _ w a)).rely hrel,by rw[kK l];exact z,W,aZ,am⟩
    have⟨cp,a3⟩:=bY (w.at a) (RelB.refl _ _);have bu:bQ P (j==0) QW (w.at a)= .comm d #[scase b.c v G] af .send (w.at a) #[]:=bh;rw[bj] at a1 aG;have cb:U ab<h:=bh;have bN:(∀I,j≠0->Q[0]? =K I->offersAt I b.c ai=[])->(∀a2,a2[0]? =Q[0]? ->y8 T P J f S O R QV a2 (lZ (w.at a) b.c h (gW ab v) ai (s+1) r ai) H i)->Ends P J (crowd Q w ad) t:=by
     intro bd b4;have bi:=crowd_send_room (sl:=u) p bu aj cb (B.J8 b.c ai bd);refine Ends.step (aB aY bi) ?_;rw[ofEvents_none,Array.empty_append,finishComm_send];have y:=B.comm (gs':=cF Q j (nJ d cI)) (u:= #[{g:=j,fn:=d.frame.fn,pos:=d.frame.place,act:=.send b.c s},{g:=j,fn:=d.frame.fn,pos:=d.frame.place,act:=.sendDone b.c s}]) o (cap:=h) (s':=s+1) (r':=r) (buf':=gW ab v) (vi':=bk) (tr':=aI (w.at a)) (g':=nJ d cI) (λ_=>by simp at aG ⊢;omega) (λ_=>a3) (λ_=>Bu p) (λc=>absurd L c) (λg V l=>tG l) aF (λbl C m bc=>by simp at C;rcases C with rfl|rfl<;>cases bc) (λbl C=>by simp at C;rcases C with rfl|rfl<;>rfl);rw[L] at y;simp only[Option.isSome_none,if_true] at y;rw[aay (by rw[a1];simp)] at y;exact a0 _ (aH _ Y) _ (aE.tH (wJ (λal=>al.elim a7 a8))) _ u _ H _ q i (by grind) (b4 _ (tG aa)) y
    rcases a5 with⟨c,I,e,ap,D⟩|⟨c,x,cn,aC,X,g,ae,az,ay,aw,e,M,z,W,aZ,N⟩;refine bN (λbR _ aL=>?_) λa2 ba=>aq ⟨c,I,aB ba e,ap,D⟩;rw[e] at aL;cases aL;exact offersAt_of_not_blocked (by rw[D];simp) _ _;by_cases ao:x=b.c;subst ao;have bo:=aB N.symm (show w.heap[b.c]? =_ from aj);simp only[kU,Obj.chan.injEq] at bo;obtain⟨rfl,rfl,-,rfl,rfl,-⟩:=bo;have bd:partners (cF Q j ph) b.c ai=[(0,0)]:=by
     rw[partners_one (j:=0) (stand_get (i:=j) (by omega) e) (λa6 ae cs z=>?_)];rw[offersAt_parked_recv];simp;rcases getElem?_stand Q j a6 ae z with⟨_,rfl⟩|⟨cu,aQ⟩;exact offersAt_ph _ _;exact offersAt_of_not_blocked (by rcases aD.status aa aQ with c|c<;>rw[c]<;>simp) _ _
    refine Ends.step (aB aY (crowd_send_meets (sl:=u) p bu aj (j:=0) aa e bd)) ?_;rw[ofEvents_none,Array.empty_append,finishComm_send,finishComm_recv];have⟨cl,⟨bF,bH,bI⟩,bJ⟩:=M.rely (RelB.at _ w a);have bP:X=v::bk:=bh;subst bP;have bs:=(bJ (w.at a) (RelB.refl _ _)).2;dsimp only at bs;have y:=B.comm (gs':=cF (cF Q 0 (nJ aC (recvd af v af))) j (nJ d cI)) (u:= #[{g:=j,fn:=d.frame.fn,pos:=d.frame.place,act:=.send b.c ay},{g:=0,fn:=aC.frame.fn,pos:=aC.frame.place,act:=.recv b.c aw az},{g:=j,fn:=d.frame.fn,pos:=d.frame.place,act:=.sendDone b.c ay},{g:=0,fn:=aC.frame.fn,pos:=aC.frame.place,act:=.recvDone b.c aw}]) o (cap:=az) (s':=ay+1) (r':=aw+1) (buf':= #[]) (vi':=bk) (tr':=aI (w.at a)) (g':=nJ d cI) (λ_=>by simp at aG ⊢;omega) (λ_=>a3) (λ_=>Bu (g:=QW) (by rw[tG (by omega)];exact p)) (λc=>absurd L c) (λg V l=>by rw[tG l,tG aa]) aF (λbl C m bc=>by simp at C;rcases C with rfl|rfl|rfl|rfl<;>cases bc) (λbl C=>by simp at C;rcases C with rfl|rfl|rfl|rfl<;>rfl);rw[L] at y;simp only[Option.isSome_none,if_true] at y;exact(ch (w.at a)).2 S O _ _ _ (bs.tH (wJ (λal=>al.elim a7 a8))) _ u _ H _ q _ _ (by grind) (oG.refl _) Y y;refine bN (λbR _ aL=>?_) λa2 ba=>?_;rw[e] at aL;cases aL;rw[offersAt_parked_recv,if_neg ao]
    .exact an ⟨c,x,cn,aC,X,g,ae,az,ay,aw,aB ba e,(M.rely (RelB.at _ w a)).rely (wJ (λal=>al.elim a7 a8)),z,W,aZ,aB (BY ao) N⟩
    ·
     have hrel:RelB (λbn=>S bn\/O bn) (w.at a) (lZ (w.at a) b.c h ab af s r ai):=wJ (λal=>al.elim a7 a8);have y:=B.close (gs':=cF (Q.map (woken P QW aJ (lZ (w.at a) b.c h ab af s r ai))) j aJ) (tr':=aI (w.at a)) o L bj aj ar (zR p) (λg V l=>others aD V l) yw QW.frame.fn QW.frame.place;refine Ends.step (aB aY (runT_crowd_go (P:=P) (sl:=u) (i:=j) p (by rw[bb];exact(bZ (w.at a) (RelB.refl _ _) h ab s r ai aj)))) ?_;rcases a5 with⟨c,I,e,ap,D⟩|⟨c,x,G,d,X,g,ae,az,ay,aw,e,M,z,W,aZ,N⟩;exact a0 _ (aH _ Y) _ (aE.tH hrel) _ u _ _ _ _ i bh (aq ⟨c,I,wI aa e (BE (aq D)),ap,D⟩) y
     .by_cases ao:x=b.c
      .subst ao;have⟨cl,⟨bF,bH,bI⟩,bJ⟩:=M;refine a0 _ (aH _ Y) _ (aE.tH hrel) _ u _ _ _ _ 1 bh (aq ⟨rfl,{parked d #[rcase b.c G] (.recv af) with status:=lB},?_,⟨bF,bH,bI⟩,rfl⟩) y;have cf:woken P QW aJ (lZ (w.at a) b.c h ab af s r ai) (parked d #[rcase b.c G] (.recv af))= {parked d #[rcase b.c G] (.recv af) with status:=lB}:=by
        unfold woken;rw[if_pos ?hP]
        case hP=>rw[cd,Bool.true_and];exact VZ ar
        exact again_recv_closed (En ck)
       rw[wY aa,Array.getElem?_map,e,pJ,cf]
      have l:g≠j:=λc=>by
       subst c;rw[o] at z;cases z;exact ao (bA W)
      have am:(lZ (w.at a) b.c h ab af s r ai).heap[x]? =K (.chan az #[] ai ay aw ai):=aB (BY ao) N;exact a0 _ (aH _ Y) _ (aE.tH hrel) _ u _ _ _ _ i bh (an ⟨c,x,G,d,X,g,ae,az,ay,aw,wI aa e (DC am),(M.rely (RelB.at _ w a)).rely hrel,by rw[kK l];exact z,W,aZ,am⟩) y
def SV{f:ag->Tr}(C:∀w,BI T P J (f w)){S O:Nat->Prop}{R:Nat->Option (List F)}{c7:Nat->Tr}(ba:Acc (Down n) c7):
 ∀(aj:Nat) w,Mn T P J (.mk f) (.sh S O R) QV w->∀Q l t H E q p,U Q=n->tP n q+p<aj->y8 T P J f S O R QV Q w H p->Inv T P S O R Q w t H E q c7->Ends P J (crowd Q w l) t:=by
 induction ba with
 |intro c7 _ bs=>
  have a4:∀al,Down n al c7->∀w,Mn T P J (.mk f) (.sh S O R) QV w->∀Q l t H E q p,U Q=n->y8 T P J f S O R QV Q w H p->Inv T P S O R Q w t H E q al->Ends P J (crowd Q w l) t:=
   λal bd w am Q l t H E q p X az d=>bs al bd (tP n q+p+1) w am Q l t H E q p X aa az d
  intro aj
  induction aj with
  |zero=>intro w am Q l t H E q p X aL;omega
  |succ aj aQ=>
   intro w ao Q l t H E q p X aL az d;have a3:=az;rcases az with⟨z,aD,h,ay,aI⟩|⟨z,D,M,r,L,g,b,N,s,ae,h,ad,i,b2,G,bZ⟩
   .have am:=pR.1 ao;rcases am with B|B|B|⟨bm,a8⟩
    case inr.inr.inr=>exact(C w).1 QV w (a8 w (RelB.refl _ _) d.hp) Q l t E q c7 aD h ay aI (d.Y_9 bm)
    all_goals
     have⟨aM,W,a,k,c,ar,x⟩:=crowd_pick (P:=P) (w:=w) (sl:=l) (D6 d h (awake_of (aq aI))) ⟨0,aD,h,aI⟩;rcases vP aM with rfl|aH
     case inr=>exact Ks C a4 aQ ao X aL a3 d aH c ar x
     obtain rfl:W=aD:=by rw[h] at c;exact bA (Az c)
     have e:=d.at a
    .have⟨V,A,bV,bi,aJ,be,v⟩:=B (w.at a) (RelB.at _ w a);exact Ends.step (aB x (runT_crowd_go (P:=P) (sl:=k) (i:=0) c (show bQ P (0==0) W (w.at a)=_ from aB (ay.step af _) bi))) ((C (w.at a)).2 S _ R V A v _ k _ H E q c7 V (zR c) (oG.refl _) aJ (e.main be yw (λg I=>others d I aa)))
    have⟨D,bE,N,bu,bv,bx,bD,B⟩:=B;have⟨V,bR,bO,bo,aJ,a9,v⟩:=B (w.at a) (RelB.at _ w a);have bk:0<U Q:=(dY.1 h).1;refine Ends.step (aB x (runT_crowd_spawn (P:=P) (sl:=k) (i:=0) c (show bQ P (0==0) W (w.at a)=_ from aB (ay.step af _) bo))) ((C (w.at a)).2 S _ _ V (w.at a) v _ k _ (jH H (U Q) (K ⟨D,λ_=>False,Z⟩)) (jH E (U Q) bE) q (jH c7 (U Q) bO) V ?_ (oG.refl _) aJ ?_);rw[Array.getElem?_push_lt bh];simp;rw[ofEvents_none];exact e.spawn bu bv bx bD a9 aF bk (by rw[p6];simp) (λg I b0=>by
     rw[Array.getElem?_push_lt bh,<-m3,tG aa])
    have⟨D,M,r,L,ad⟩:=B;have ad:RC T P J f S O R QV w D M r L:=ad;have⟨a5,⟨b7,ca,cb⟩,bI⟩:=(ad.rely (RelB.at _ w a));have⟨bc,v⟩:=bI (w.at a) (RelB.refl _ _);have aE:bQ P (0==0) W (w.at a)= .comm r #[rcase D M] af (.recv af) (w.at a) #[]:=aB (ay.step af _) bc;obtain⟨j,b,i,rfl⟩:=e.mu D L a5;have⟨b3,bF,bH,b4,b5⟩:=e.low j b i;have⟨N,o,s,ae,y,aZ,a6⟩:=e.chan j b i;have b1:=(e.idx j b i).1;have aG:=e.J8 b.c af (λbY z=>absurd Y z);obtain⟨gk,a2⟩:∃gk,Q[j]? =K gk:=⟨Q[j]'(e.idx j b i).2,m3 _⟩;by_cases ap:0<U o;refine Ends.step (aB x (crowd_recv_buf (sl:=k) c aE y ap aG)) ?_;rw[ofEvents_none,Array.empty_append,finishComm_recv];have aC:L=ek o 0 cI::(dD (o.extract 1 (U o))++(if b.pc=Z then E j else[])):=by
     have:=aB a5.symm aZ;simp only[kU] at this;rw[this];have⟨aY⟩:=o;cases aY with
     |nil=>simp at ap
     |cons bP aY=>simp
    subst aC;dsimp only at v;have a7:=e.comm (gs':=cF Q 0 (nJ r (recvd af (ek o 0 cI) af))) (u:= #[{g:=0,fn:=r.frame.fn,pos:=r.frame.place,act:=.recv b.c ae N},{g:=0,fn:=r.frame.fn,pos:=r.frame.place,act:=.recvDone b.c ae}]) i (cap:=N) (s':=s) (r':=ae+1) (buf':=o.extract 1 (U o)) (vi':=E j) (tr':=c7 j) (g':=gk) (λz=>by have:=a6 z;simp;omega) (λz=>e.act j gk b a2 i z) (λ_=>by rw[tG aa];exact a2) (λ_=>tG aa) (λg I _=>tG aa) aF (λbJ ab m bl=>by simp at ab;rcases ab with rfl|rfl<;>cases bl) (λbJ ab=>by simp at ab;rcases ab with rfl|rfl<;>rfl);exact(C (w.at a)).2 S O _ _ _ (v.tH (wJ (λap=>ap.elim bF bH))) _ k _ H _ q _ _ (Bu h) (oG.refl _) Y a7;have bb:o=#[]:=by
     apply Array.eq_empty_of_size_eq_zero;omega
    subst bb;cases G:b.pc with
    |none=>
     rw[G] at y;have br:∀a0∈ #[rcase b.c M],NoWays (w.at a) (cF Q 0 ph) a0:=by
      intro a0 a1;simp at a1;subst a1;refine⟨made_recv M y,?_⟩;simp only[ways,rcase];rw[y];simp[aG]
     refine Ends.step (aB x (crowd_waits (sl:=k) c aE br)) ?_;rw[ofEvents_none,Array.append_empty];refine aQ (w.at a) (ao.tH (RelB.at _ w a)) _ k _ H E q 0 bh aa (an ⟨rfl,b.c,M,r,L,j,b,N,s,ae,Bu h,ad.rely (RelB.at _ w a),i,rfl,G,y⟩) (e.S4 aF λg I=>tG aa)
    |some cc=>
     rw[G] at y aZ;refine Ends.step (aB x (crowd_recv_closed (sl:=k) c aE y aG)) ?_;rw[ofEvents_none,Array.empty_append,finishComm_recv];have aC:L=[]:=bh;subst aC;dsimp only at v;exact(C (w.at a)).2 S O _ _ _ v _ k _ _ E q c7 _ (Bu h) (oG.refl _) Y (e.E3 i G aF (λg I=>tG aa))
   have bn:∃u,Q[g]? =K u/\m5 u=lB:=by
    obtain⟨u,aw⟩:∃u,Q[g]? =K u:=⟨Q[g]'(d.idx g b i).2,m3 _⟩;refine⟨u,aw,?_⟩;have:=d.act g u b aw i G;generalize c7 g=bN at this;cases bN using Tr.ind with
    |fin=>exact(Tr.wo this).elim
    |mk f=>exact(wX.1 this).1
   have⟨u,aw,bj⟩:=bn;have⟨aM,W,a,k,c,ar,x⟩:=crowd_pick (P:=P) (w:=w) (sl:=l) (D6 d h (λt=>by simp[parked])) ⟨g,u,aw,bj⟩;rcases vP aM with rfl|aH;rw[h] at c;cases c;simp[parked] at ar;exact Ks C a4 aQ ao X aL a3 d aH c ar x
def SS:∀k:Tr,BI T P J k:=by
 intro k
 induction k using Tr.ind with
 |fin=>exact⟨λa w c=>fe (Tr.wo c),λS O R a w c=>fe (Tr.wo c)⟩
 |mk f l=>
  exact⟨λa w g Q j t E q c7 b d h i e=>SU l (tP (U Q) q+1) a w g Q j t E q c7 b aa d h i e,λS O R a w g Q j t H E q c7 b d h i e=>(SV l (Oz (U Q) c7) (tP (U Q) q+1+1) w g Q j t H E q 1 Y aa (aq ⟨rfl,b,d,h,i⟩) e)⟩
def YA{k:Tr}{w:ag}(m:Mn T P J k .ex (aO Qf Qi) w)(p:kS T w):Ends P J (sX (aO Qf Qi) w) #[]:=by
 rw[solo_eq_crowd];refine(SS k).1 _ w m #[aO Qf Qi] Z #[] (λ_=>[]) (λ_=>0) (λ_=>.fin) _ Y (oG.refl _) Y ⟨⟨λx o=>by simp at o,λz=>?_,λb g d=>by simp[touchAt,Trace.act?] at d,λb g d=>by simp[touchAt,Trace.act?] at d,λj c e=>(cV e),λj c e=>(cV e),λj c y e=>(cV e)⟩,p,λb l u i _=>?_,λb l c i a=>(cV a),λb c a=>(cV a),λh f=>fe f,λh f=>fe f,λb c a=>(cV a),λb r c B _ a=>(cV a),λb c a=>(cV a),λs v n=>(cV n)⟩;rintro⟨b,r,_,⟨g,h,d,_⟩,_⟩;simp[Trace.act?] at d;have:b<1:=by simpa using(dY.1 i).1
 omega
end
def jo (Q P:aW)(J:F->ag->Prop)(a:dQ)(c:ag):Prop:=∃b,Mn Q P J b .ex a c
structure Sm(w w':ag):Prop where
 tape:dV w'=dV w
 os:w'.os=w.os
 output:fS w'=fS w
 size:U w.heap<=U w'.heap
def Sm.refl(a:ag):Sm a a:=⟨rfl,rfl,rfl,aV _⟩
def Sm.trans(a:Sm w u)(b:Sm u W):Sm w W:=⟨aB b.tape a.tape,aB b.os a.os,aB b.output a.output,dj a.size b.size⟩
section
variable {Q P:aW}{J:F->ag->Prop}
def Fq(e:∀a,AtRel w a->∃d g h,bQ P af QV a= .go d g h/\m5 d=lB/\DS Q a g h/\jo Q P J d g):jo Q P J QV w:=by
 classical
 let f:ag->Tr:=λa=>if b:AtRel w a then mq (fj (fj (fj (e a b)))).2.2.2 else .fin
 refine⟨.mk f,pR.2 <| aq λa b=>?_⟩;have c:=fj (fj (fj (e a b)));have i:f a=mq (fj (fj (fj (e a b)))).2.2.2:=bh;exact⟨_,_,_,c.1,c.2.1,c.2.2.1,Mn.cast i (fj c.2.2.2)⟩
def U0(d:∀a,AtRel w a->∃v b,bQ P af QV a= .ended (.done v) a b/\(∀c∈b,m4 (U a.heap) c)/\J v a):jo Q P J QV w:=⟨.mk λ_=>.fin,pR.2 (an (aq d))⟩
def UZ(a:jo Q P J QV w)(b:AtRel w u):jo Q P J QV u:=by
 have⟨c,a⟩:=a;exact⟨c,a.I3 b⟩
def Uk{Q:aW}:∃f,Un f w/\Hp (dm Q) f/\dV f=dV w/\cm f=cm w/\∀(c:Nat) b,w.heap[c]? =K b->dm Q b->f.heap[c]? =K b:=by
 classical
 have j:∀b,¬dm Q b->jk b=af:=λb i=>by cases b<;>first|rfl|exact absurd trivial i
 have h:∀c:Nat,(w.heap.map λb=>if dm Q b then b else pz)[c]? =(w.heap[c]?).map λb=>if dm Q b then b else pz:=λc=>aF
 refine⟨{w with heap:=w.heap.map λb=>if dm Q b then b else pz},⟨aF,λc b a=>?_,rfl,rfl⟩,λc b a=>?_,rfl,rfl,λc b a k=>?_⟩;simp only[h] at a;cases e:w.heap[c]? with
 |none=>rw[e] at a;cases a
 |some g=>
  rw[e] at a;simp only[pJ,kU] at a;by_cases d:dm Q g;rw[if_pos d] at a;subst a;exact aq Y;rw[if_neg d] at a;exact an ⟨bA a,g,rfl,j g d⟩
 simp only[h] at a;cases e:w.heap[c]? with
 |none=>rw[e] at a;cases a
 |some g=>
  rw[e] at a;simp only[pJ,kU] at a;by_cases d:dm Q g;rw[if_pos d] at a;subst a;exact aq d;rw[if_neg d] at a;exact an (bA a)
 simp only[h,a,pJ,if_pos k]
def U1{Stop:aP->List aP->ag->Prop}(t:Fin Q P Stop Qf aY w u):∀{f:List aP},fh Q Qf aY->Hp (dm Q) w->Un w u->(∀a b d c,Stop a b d->fh Q a b->Hp (dm Q) d->iE w u d c->Sm u c->jo Q P J (aO a (b++f)) c)->jo Q P J (aO Qf (aY++f)) u:=by
 intro f;refine t (λQf aY w u=>fh Q Qf aY->Hp (dm Q) w->Un w u->(∀a b d c,Stop a b d->fh Q a b->Hp (dm Q) d->iE w u d c->Sm u c->jo Q P J (aO a (b++f)) c)->jo Q P J (aO Qf (aY++f)) u) ?_ ?_;intro Qf aY w u k l o i j;exact j _ _ _ _ k l o i.two (Sm.refl _);intro Qf aY w u F s E G l I D H o i j;refine Fq λK A=>?_;obtain⟨g,rfl⟩:=A;have h:=E u.tape g;have⟨e,C⟩:=G u.tape g;have p:U u.heap<=(F u.tape g).2.2.2.1.heap.size:=by
  rw[e.un.size,i.size];exact h.size
 have q:=C.trans h.tape;have m:=e.un.os.trans (h.os.trans (bA i.os));have n:=e.un.output.trans (h.output.trans (bA i.output));exact⟨_,_,_,s u.tape g af f,rfl,⟨p,q,m,n,λ_=>trivial,λr x=>b5 e.un.size (h.evs r x)⟩,(D u.tape g (l u.tape g) h.hp e.un λa b d c k y z v B=>j a b d c k y z ((⟨e.un,e.keep⟩:iE w u _ _).trans v) ((⟨q,m,n,p⟩:Sm u _).trans B))⟩
def Cx(j:Twins Q P){Stop:aP->List aP->ag->Prop}(n:∀Qf aY w,Stop Qf aY w->¬yF Qf)(i:fh Q Qf aY)(g:Hp (dm Q) w)(h:Un w u)
 (o:∀f,∃a b c,Steps Q (lone Qf (aY++[fF]) (sh f 0 w)) (lone a (b++[fF]) c)/\Stop a b c)
 (l:∀a b c d,AE Stop a b c->fh Q a b->iE w u c d->Sm u d->jo Q P J (aO a (b++Qi)) d):jo Q P J (aO Qf (aY++Qi)) u:=
 U1 (Jg j n i g h λf=>by
  have⟨a,b,c,⟨N,m⟩,e⟩:=o f;exact⟨N,a,b,c,m,e⟩) i g h λa b c d e p _ k q=>l a b c d e p k q
def Left (a:aP):gL->aP
 |aR v=>di a v
 |gO b=>jz a b
 | .outgrown=>a
def HW (a:aP):Prop:=iM a= .run/\((∃e c f b,a.todo=bW e (c::f)::b)\/∃d b,a.todo= .inRangeFunc d::b)
def sU (Q P:aW)(J:F->ag->Prop)(f:fH)(args:Array F)(d:ag)(g:gL->ag->Prop):Prop:=
 ∀(a:aP) (e:List aP),fh Q a []->HW a->kS Q d->
  (∀c b,g c b->kS Q b->Sm d b->fh Q (Left a c) []->jo Q P J (aO (Left a c) e) b)->jo Q P J (aO (fC P f args eA) (a::e)) d
def Tl (g e:ag)(b:gL->ag->Prop)(d:gL)(f:ag):Prop:=∃h c a,iE g e a f/\b d (sh h c a)
def IY(g:Twins Q P){f:fH}{b:CallKind}(j:b=eA\/b= .deferred):kL Q (fC Q f args b):=by
 refine⟨λl d=>?_,λk h=>by simp[fC] at h,j⟩;simp only[fC,List.mem_singleton] at d;subst d;show fN Q ai _=af;cases i:Q.funcs[f]? with
 |none=>rfl
 |some c=>
  cases a:c.body with
  |none=>simp[a,fN]
  |some e=>simpa [a] using g.A.Ee f c e i a
def Iw(l:Twins Q P){f:fH}{h:gL->ag->Prop}(E:Hp (dm Q) w)(K:Un w u)(A:P.funcs[f]? =Q.funcs[f]?)(p:∀a,¬h .outgrown a)(B:∀g,Calls Q f args (sh g 0 w) h):sU Q P J f args u (Tl w u h):=by
 intro d N m G _ z;have x:fC P f args eA=fC Q f args eA:=by unfold fC;rw[A]
 rw[x];have⟨H,e⟩:=G;refine Cx (aY:=[d]) l (Stop:=λj aY a=>aY=[]/\∃b,h b a/\j=Left d b) (λj aY a k=>?_) ⟨IY l (aq Y),λX r=>by simp at r;rw[r];exact m.top,m.bot⟩ E K (λg=>?_) (λO W a M k D y I=>?_);obtain⟨_,b,c,rfl⟩:=k;rintro⟨C,s,q⟩;cases b with
 |returned v=>
  rcases e with⟨U,S,V,L,e⟩|⟨T,L,e⟩;simp[Left,di,e] at q;simp[Left,di,e] at q
 |panicked i=>
  simp[Left,jz,H] at C
 |outgrown=>exact p _ c
 have⟨b,a,j,c,n,R,o⟩:=B g (d::[fF]);cases b with
 |returned v=>exact⟨di d v,[],a,n.trans (.one (step_leave_returned o)),rfl,aR v,c,rfl⟩
 |panicked i=>exact⟨jz d i,[],a,n.trans (.one (step_leave_panicked o)),rfl,gO i,c,rfl⟩
 |outgrown=>exact absurd c (p _)
 obtain⟨g,t,rfl,b,c,rfl⟩:=k;exact z b M ⟨g,t,a,y,c⟩ trivial I D
end
def n8 (P0 P:aW)(J:F->ag->Prop)(c:aP)(R:List aP)(w:ag):Prop:=fh P0 c []->kS P0 w->jo P0 P J (aO c R) w
section
variable {P0 P:aW}{J:F->ag->Prop}
def aar{w e g f:ag}(d:iE w e g f)(h:gP e=gP w):gP f=gP g:=by
 apply vB;intro b;rcases d.un.cases b with c|⟨c,l,i,j⟩;exact c;rw[(d.keep b c).2,h,(d.keep b c).1,c]
def aas{w i e u1 j u2:ag}(g:iE w i e u1)(h:iE w i j u2)(l:gP e=gP j):gP u1=gP u2:=by
 apply vB;intro b;by_cases d:e.heap[b]? =K pz;rw[(g.keep b d).2,(h.keep b bh).2];rcases g.un.cases b with c|⟨c,_⟩;rcases h.un.cases b with f|⟨f,_⟩;rw[c,f,l];exact absurd bh d;exact absurd c d
def iE.same{w f g j:ag}(i:iE w f g j)(l:Un w f){b:Nat}(h:g.heap[b]? =w.heap[b]?):j.heap[b]? =f.heap[b]? :=by
 by_cases e:g.heap[b]? =K pz;exact(i.keep b e).2;rcases i.un.cases b with c|⟨c,_⟩;rcases l.cases b with d|⟨d,_⟩;rw[c,d,h];exact absurd (aB h d) e;exact absurd c e
structure Mk(P0:aW)(ws w:ag):Prop where
 un:Un ws w
 hp:Hp (dm P0) ws
 at_:∀(b:Nat) o,w.heap[b]? =K o->dm P0 o->ws.heap[b]? =K o
def AZ(P0:aW)(w:ag):∃c,Mk P0 c w:=by
 obtain⟨c,d,e,-,-,f⟩:=Uk;exact⟨c,d,e,f⟩
section
variable {b:aP}{a:Act}{k:List dW}{R:List aP}{w:ag}
def Of (P0 P:aW)(J:F->ag->Prop)(b:aP)(k:List dW)(R:List aP)(c:ag):Exit->Act->Prop
 |e4,a=>n8 P0 P J (b.at a k) R c
 | .exit id,a=>∀e,mC id k=K e->n8 P0 P J (b.at a e) R c
 | .ret,a=>∀d,n8 P0 P J {b.at a d with mode:=jA} R c
 |iL f,a=>∀d,n8 P0 P J {b.at a d with mode:=kr f} R c
 |_,_=>True
theorem EI{id:Nat}{f:dW}:∀{k d:List dW},mC id k=K d->f∈d->f∈k
 | [],d,c,_=>by simp[mC] at c
 |x::h,d,c,e=>by
  cases x<;>simp only[mC] at c
  case inBlock g=>
   split at c
   cases c;exact List.mem_cons_of_mem _ e;exact List.mem_cons_of_mem _ (EI c e)
  all_goals exact List.mem_cons_of_mem _ (EI c e)
def US(B:Twins P0 P){Q:ag->Exit->Act->ag->Prop}(G:∀c,Mk P0 c w->∀n,QJ.wp P0 (Q c) a (sh n 0 c))(z:∀s,b9 (.refuse s)∉k)(E:∀c id a w,Q c (.exit id) a w->mC id k≠Z)(F:∀c q a w,¬Q c (.goto q) a w)(H:∀c a w,¬Q c .outgrown a w)
 (D:∀c h d A f n x,Mk P0 c w->Q c h d (sh n x A)->iE c w A f->Sm w f->Of P0 P J b k R f h d):n8 P0 P J (b.at a (b9 QJ::k)) R w:=by
 intro L _;have⟨c,l⟩:=AZ P0 w;refine Cx (aY:=[]) B (Stop:=λp aY f=>aY=[]/\∃h d,Q c h d f/\(match h with
  |e4=>p=b.at d k
  | .exit id=>∃j,mC id k=K j/\p=b.at d j
  | .ret=>∃g,p= {b.at d g with mode:=jA}
  |iL o=>∃g,p= {b.at d g with mode:=kr o}
  |_=>False)) (λp aY f m=>?_) L l.hp l.un (λn=>?_) (λN O f M m u C I=>?_)
 have⟨_,h,d,i,e⟩:=m;rintro⟨l,s,v⟩;cases h with
 |normal=>subst e;exact z s (by simp only[Frame.at] at v;rw[v];exact List.mem_cons_self ..)
 |exit id=>obtain⟨j,y,rfl⟩:=e;exact z s (EI y (by simp only[Frame.at] at v;rw[v];exact List.mem_cons_self ..))
 |ret=>obtain⟨g,rfl⟩:=e;cases l
 |panic o=>obtain⟨g,rfl⟩:=e;cases l
 |goto q=>exact e
 |outgrown=>exact e
 have⟨h,d,f,i,t⟩:=G c l n b k [fF];cases h with
 |normal=>exact⟨_,[],f,t,rfl,e4,d,i,rfl⟩
 |exit id=>
  cases e:mC id k with
  |none=>exact absurd e (E c id d f i)
  |some j=>exact⟨_,[],f,t j e,rfl,.exit id,d,i,j,e,rfl⟩
 |ret=>have⟨g,m⟩:=t;exact⟨_,[],f,m,rfl,.ret,d,i,g,rfl⟩
 |panic o=>have⟨g,m⟩:=t;exact⟨_,[],f,m,rfl,iL o,d,i,g,rfl⟩
 |goto q=>exact absurd i (F c q d f)
 |outgrown=>exact absurd i (H c d f)
 obtain⟨n,x,rfl,h,d,i,e⟩:=m;have r:=D c h d f M n x l i C I;cases h with
 |normal=>subst e;exact r u trivial
 |exit id=>obtain⟨j,y,rfl⟩:=e;exact r j y u trivial
 |ret=>obtain⟨g,rfl⟩:=e;exact r g u trivial
 |panic o=>obtain⟨g,rfl⟩:=e;exact r g u trivial
 |goto q=>exact fe e
 |outgrown=>exact fe e
end
end
section
variable {P0 P:aW}{Post:F->ag->Prop}{b:aP}{a:Act}{k:List dW}{cs:List aP}{w:ag}{J:Array Oper}
def UR{f:fH}{args:Array dU}{R:gL->ag->Prop}(H:eD b=eA)(o:J[n]? =K Qr)(E:eF Qr (yielded J a.tmps)=af)(r:Qr.op= .call {callee:=.value (.func f),args,argTypes:=QE})
 (l:P.funcs[f]? =K QI) (m:(QI.name == "runtime.NumGoroutine")=ai) (z:QI.body=K QJ) (hR:∀d,AtRel w d->sU P0 P Post f (args.map (bz a)) d R)
 (y:∀v c,R (aR v) c->Sm w c->n8 P0 P Post (b.at (bG a Qr.dst v) (bW J rest::k)) cs c) (hP:∀h c,R (gO h) c->Sm w c->n8 P0 P Post {b.at a (bW J (n::rest)::k) with mode:=kr h} cs c) (A:∀c,¬R .outgrown c):n8 P0 P Post (b.at a (bW J (n::rest)::k)) cs w:=by
 intro F B;refine Fq λd i=>?_;have j:lF QI.body=ai:=gJ z;have D:bQ P af (aO (b.at a (bW J (n::rest)::k)) cs) d= .go (aO (fC P f (args.map (bz a)) eA) (b.at a (bW J (n::rest)::k)::cs)) d #[]:=by
  rw[stepG_enter o E bh (run_call_body r l m j)];have:listed P b.fn a Qr d=#[]:=by unfold listed;rw[events_call_body r l m j];exact Conc.seen_none P _
  rw[this]
 have C:kS P0 d:=by obtain⟨x,rfl⟩:=i;exact B
 have t:Sm w d:=by obtain⟨x,rfl⟩:=i;exact⟨rfl,rfl,rfl,aV _⟩
 refine⟨_,_,_,D,rfl,⟨aV _,rfl,rfl,rfl,λG=>G,λe g=>by simp at g⟩,(hR d i _ cs F ⟨rfl,aq ⟨J,n,rest,k,rfl⟩⟩ C λe c g s u p=>?_)⟩;cases e with
 |returned v=>
  have:=y v c g (t.trans u);have e:=w9 b a J n rest k v;rw[o] at e;have q:fh P0 (di (b.at a (bW J (n::rest)::k)) v) []:=p;rw[e] at q;show jo P0 P Post (aO (di (b.at a (bW J (n::rest)::k)) v) cs) c;rw[e];exact this q s
 |panicked h=>exact hP h c g (t.trans u) p s
 |outgrown=>exact absurd g (A c)
def U2(l:P.inits.idxOf? Qf.fn=Z)(n:∀t c,Qf.leaving P (sh t c w) (aR v))(j:∀d,AtRel w d->∀e,P.funcs[Qf.fn]? =K e->∀h∈((dx e Qf.tmps).runT P d #[]).2,lu (U d.heap) h)(p:∀d,AtRel w d->Post v d):jo P0 P Post (aO Qf []) w:=by
 refine U0 λd s=>?_;obtain⟨c,rfl⟩:=s;have⟨o,i,m,e,g,q⟩:=n (dV w) c;have r:(dx e Qf.tmps).run P (w.at c)=b6 v (w.at c):=q;have f:=j (w.at c) ⟨c,rfl⟩ e g;rw[Sem.runT_eq] at f;refine⟨v,seen P Qf.fn ((dx e Qf.tmps).events P (w.at c) #[]),?_,LZ f,p _ ⟨c,rfl⟩⟩;simp[aO,bQ,mF,o,i,g,l5,m,l,pg,r]
end
end Cc
namespace Rl
section
variable {G:fo}
def k6:Nat->F->Bool
 |_,ak _|_,bt _ _|_,au _|_,dG Z|_,ah Z _ _|_,.map Z|_,fp Z|_,.nilFunc|_,.nilIface=>af
 |n+1,.iface _ v=>k6 n v
 |n+1,cw a|n+1,cC a=>dM a.toList (k6 n)
 |_,_=>ai
theorem CJ:∀(n:Nat) {ρ:aL G} (v:F),k6 n v=af->aG ρ v v
 |n,ρ,v,a=>by
  cases v with
  |bool c=>exact .bool c
  |int e d=>exact .int e d
  |string s=>exact .string s
  |pointer b=>cases b with
   |none=>exact .hU
   |some b=>cases n<;>simp[k6] at a
  |slice b m l=>cases b with
   |none=>exact .mQ _ _
   |some b=>cases n<;>simp[k6] at a
  |map g=>cases g with
   |none=>exact .rL
   |some b=>cases n<;>simp[k6] at a
  |chan g=>cases g with
   |none=>exact .rK
   |some b=>cases n<;>simp[k6] at a
  |nilFunc=>exact .nilFunc
  |nilIface=>exact .nilIface
  |float e c=>cases n<;>simp[k6] at a
  |complex e b c=>cases n<;>simp[k6] at a
  |func f o p=>cases n<;>simp[k6] at a
  |iface k v=>cases n with
   |zero=>simp[k6] at a
   |succ n=>exact .iface k (CJ n v (by simpa [k6] using a))
  |agg h=>cases n with
   |zero=>simp[k6] at a
   |succ n=>exact .agg Y (λd i j=>CJ n _ (by
    simp only[k6] at a;exact fD.1 a _ aF))
  |tuple h=>cases n with
   |zero=>simp[k6] at a
   |succ n=>exact .tuple Y (λd i j=>CJ n _ (by
    simp only[k6] at a;exact fD.1 a _ aF))
def ix (G:fo):dU->Bool
 | .tmp _=>af
 | .const v=>k6 6 v
 | .global _=>ai
 | .func f=>G.b f
def xS (P:aW)(a:Builtin)(c:Array aK):Bool:=
 match a with
 | .append=>match c[1]? with
  |some b=>(match (gb P) b with|some (.int _)=>ai|_=>af)
  |none=>af
 | .copy| .len| .recover| .unsafeString=>af
 |_=>ai
def jV (P:aW)(ρ:aL G)(k:Target)(l:Target):Prop:=∀a:Target->Target->Prop,(∀{f h:Fn} (m:lz ρ f h) {d e:Array F} (j:cP ρ d e),a (.fn f d) (.fn h e))->(a .nil .nil)->(∀(b:Builtin) (c:Array aK) (i:aK) (g:Array Bool) (j:xS P b c=af),a (.builtin b c i g) (.builtin b c i g))->a k l
def jV.fn{P:aW}{ρ:aL G}{f a:Fn}(d:lz ρ f a)(c:cP ρ C qJ):jV P ρ (.fn f C) (.fn a qJ):=λe b g h=>b d c
def jV.nil{P:aW}{ρ:aL G}:jV P ρ .nil .nil:=λb c a d=>a
def jV.builtin{P:aW}{ρ:aL G}(a:Builtin)(b:Array aK)(d:aK)(c:Array Bool)(f:xS P a b=af):jV P ρ (.builtin a b d c) (.builtin a b d c):=λg h i e=>e a b d c f
def jV.ind{P:aW}{ρ:aL G}{d:∀(a:Target) (c:Target),jV P ρ a c->Prop}(fn:∀{f l:Fn} (i:lz ρ f l) {j k:Array F} (h:cP ρ j k),d _ _ (jV.fn i h))(nil:d _ _ (jV.nil))(builtin:∀(b:Builtin) (e:Array aK) (t:aK) (g:Array Bool) (h:xS P b e=true),d _ _ (jV.builtin b e t g h)){a:Target}{c:Target}(h:jV P ρ a c):d a c h:=(h (λa c=>jV P ρ a c/\∀h,d a c h) (λ{f} {l} i {j} {k} h=>⟨jV.fn i h,λ_=>fn i h⟩) (⟨jV.nil,λ_=>nil⟩) (λb e t g h=>⟨jV.builtin b e t g h,λ_=>builtin b e t g h⟩)).2 h
structure sW(P:aW)(ρ:aL G)(d d':jJ):Prop where
 target:jV P ρ d.target d'.target
 args:cP ρ d.args d'.args
def gZ (P:aW)(ρ:aL G)(i:Next)(j:Next):Prop:=∀a:Next->Next->Prop,(∀{v e:F} (d:aG ρ v e),a (eT v) (eT e))->(a .skip .skip)->(∀(f:fH) (k:G.b f=af) {g h:Array F} (d:cP ρ g h),a (.enter f g) (.enter f h))->(∀{b c:jJ} (d:sW P ρ b c),a (.defer b) (.defer c))->(a .recover .recover)->a i j
def gZ.value{P:aW}{ρ:aL G}(b:aG ρ v x):gZ P ρ (eT v) (eT x):=λc a d e f g=>a b
def gZ.skip{P:aW}{ρ:aL G}:gZ P ρ .skip .skip:=λb c a d e f=>a
def gZ.enter{P:aW}{ρ:aL G}(f:fH)(c:G.b f=af)(b:cP ρ C qJ):gZ P ρ (.enter f C) (.enter f qJ):=λd e g a h i=>a f c b
def gZ.defer{P:aW}{ρ:aL G}{a b:jJ}(d:sW P ρ a b):gZ P ρ (.defer a) (.defer b):=λe f g h c i=>c d
def gZ.recover{P:aW}{ρ:aL G}:gZ P ρ .recover .recover:=λb c d e f a=>a
def gZ.ind{P:aW}{ρ:aL G}{a:∀(b:Next) (c:Next),gZ P ρ b c->Prop}(value:∀{v k:F} (h:aG ρ v k),a _ _ (gZ.value h))(skip:a _ _ (gZ.skip))(enter:∀(f:fH) (e:G.b f=true) {g i:Array F} (h:cP ρ g i),a _ _ (gZ.enter f e h))(defer:∀{d j:jJ} (h:sW P ρ d j),a _ _ (gZ.defer h))(recover:a _ _ (gZ.recover)){b:Next}{c:Next}(h:gZ P ρ b c):a b c h:=(h (λb c=>gZ P ρ b c/\∀h,a b c h) (λh=>⟨gZ.value h,λ_=>value h⟩) (⟨gZ.skip,λ_=>skip⟩) (λf e {g} {i} h=>⟨gZ.enter f e h,λ_=>enter f e h⟩) (λh=>⟨gZ.defer h,λ_=>defer h⟩) (⟨gZ.recover,λ_=>recover⟩)).2 h
section
variable {P J:aW}{ρ:aL G}
def cP.two(a:cP ρ C qJ):(∃c e d f,C=#[c,e]/\qJ=#[d,f]/\aG ρ c d/\aG ρ e f)\/(U C≠2/\U qJ≠2):=by
 by_cases b:U C=2;have g:U qJ=2:=by rw[<-a.1];exact b
 have⟨h⟩:=C;have⟨i⟩:=qJ;simp at b g
 match h,i,b,g,a with
 | [c,e],[d,f],_,_,a=>exact aq ⟨c,e,d,f,rfl,rfl,a.2 0 aF aF,a.2 1 aF aF⟩
 exact an ⟨b,by rw[<-a.1];exact b⟩
theorem KY:∀(n:Nat) {ρ:aL G} {a b:aN} (c:ByteArray),dS ρ a b->aC P J (dZ (α:=ByteArray)) ρ (loadBytes a c n) (loadBytes b c n)
 |0,ρ,a,b,c,d=>.bI Y
 |n+1,ρ,a,b,c,d=>by
  unfold loadBytes;refine .load d (λv h e=>?_);cases e using aG.ind with
  |int f g=>
   cases f<;>first|exact aC.stuck|exact KY n _ (d.add 1)
  |_=>exact aC.stuck
def Wf(a:Alike G P J):aC P J (dZ (α:=aK)) ρ (elemOf Qc) (elemOf Qc):=by
 unfold elemOf;refine(iz a.S).bindM (λf c e d b=>?_);obtain⟨rfl,-⟩:=b;cases c<;>first|exact .bI rfl|exact aC.stuck
def WU(a:Alike G P J)(b:dS ρ R qP):aC P J (dZ (α:=Bool)) ρ (variablesAt R Qc n) (variablesAt qP Qc n):=by
 unfold variablesAt;refine .asks ((yg b.1).bindM (λh d g e c=>?_));cases c;cases d with
 |none=>exact .bI Y
 |some f=>dsimp only;rw[a.k4,a.depth,a.cells,<-b.2.1];exact .bI Y
def WT(b:Alike G P J)(e:cP ρ C qJ):aC P J aG ρ (Builtin.unsafeString_ QE Qc C) (Builtin.unsafeString_ QE Qc qJ):=by
 unfold Builtin.unsafeString_;rcases e.two with⟨l,n,m,o,rfl,rfl,c,j⟩|⟨g,h⟩;cases c using aG.ind with
 |hU=>
  refine(ye j).bindM (λz x y d a=>?_);cases a;cases QE[0]? with
  |none=>exact aC.stuck
  |some w=>
   dsimp only
   split
   exact z1 b aF aF aF
   split
   exact vm
   split
   exact .bI (.string _);exact pW b.S _ aF aF aF
 |ptr c=>
  refine(ye j).bindM (λz x y d a=>?_);cases a;cases QE[0]? with
  |none=>exact aC.stuck
  |some w=>
   dsimp only
   split
   exact z1 b aF aF aF
   split
   exact vm
   split
   exact .bI (.string _);refine(Wf b).bindM (λI A B k a=>?_);cases a;refine(WU b (c.mono (d.trans k))).bindM (λK p q r a=>?_);cases a;have i:=c.mono (d.trans (k.trans r))
   split
   refine(KY _ _ i).bindM (λL s H t a=>?_);cases a;exact .freeze (i.mono t) (.pure (.string _));exact aC.fY
 |_=>exact aC.stuck
 have⟨u⟩:=C;have⟨v⟩:=qJ;have f:=e.1;simp only[List.size_toArray] at f g h;rcases u with _|⟨l,_|⟨n,_|⟨p,D⟩⟩⟩<;>rcases v with _|⟨m,_|⟨o,_|⟨q,E⟩⟩⟩<;>first|exact aC.stuck|(exfalso;simp at f;done)|(exfalso;simp at g;done)|(exfalso;simp at h;done)
def kH{s b:bX F}(a:aC P J aG ρ s b):aC P J (gZ P) ρ (do pure (.value (<-s))) (do pure (.value (<-b))):=a.bindM (λ_ _ _ _ a=>.bI (.value a))
def F1{s a:bX Unit}(b:aC P J (dZ (α:=Unit)) ρ s a):aC P J (gZ P) ρ (do s;pure .skip) (do a;pure .skip):=b.bindM (λ_ _ _ _ _=>.bI .skip)
def Wb(a:Alike G P J){b:Builtin}(d:xS P b QE=af)(c:cP ρ C qJ):aC P J (gZ P) ρ (builtin b QE Qc q7 C) (builtin b QE Qc q7 qJ):=by
 unfold builtin;cases b<;>first
  |(simp[xS] at d;done)
  |exact kH (We a c)
  |exact kH (Wy a c)
  |exact kH (WT a c)
  |exact .bI .recover
  |(refine kH (V4 a (λh f g e=>?_) c);simp only[xS,f,e] at d;cases d)
def Wc(b:Alike G P J){f:fH}(e:G.b f=af)(g:cP ρ C qJ):aC P J (gZ P) ρ (callFunc f C) (callFunc f qJ):=by
 unfold callFunc;have⟨j,c,h,i⟩:=b.O6 f e;refine .asks ?_;have a:=b.EU f;rw[c] at a;cases d:J.funcs[f]? with
 |none=>rw[d] at a;simp at a
 |some k=>
  rw[d] at a;simp only[pJ,kU,Prod.mk.injEq] at a;rw[c];dsimp only;rw[a.1,i,a.2,h];exact .bI (.enter f e g)
def KW(a:Alike G P J){c e:Target}(i:jV P ρ c e)(d:cP ρ C qJ):aC P J (gZ P) ρ (invoke c C) (invoke e qJ):=by
 unfold invoke;cases i using jV.ind with
 |nil=>exact pW a.S _ aF aF aF
 |builtin j l c k g=>exact Wb a g d
 |fn b h=>
  cases b using lz.ind with
  |func f b=>exact Wc a b (d.append h)
def EP (G:fo)(P:aW)(a:Call):Bool:=
 dM a.args.toList (ix G)&&match a.callee with
  | .builtin b=>xS P b a.argTypes
  | .value f=>ix G f
  | .invoke _ _=>ai
def Hs{b c:dU->F}(e:∀a,ix G a=af->aG ρ (b a) (c a))(d:dM QM.toList (ix G)=af):cP ρ (QM.map b) (QM.map c):=by
 refine⟨aF,λh f g=>?_⟩;simp only[Array.getElem_map];exact e _ (fD.1 d _ aF)
def K8{g h:dU->F}(k:∀e,ix G e=af->aG ρ (g e) (h e)){c:Call}(d:EP G P c=af):aC P J (sW P) ρ (oD g c Qc) (oD h c Qc):=by
 unfold oD;unfold EP at d;rw[ez] at d;have j:=Hs k d.1;have a:=d.2;cases i:c.callee with
 |builtin l=>
  rw[i] at a;exact .bI ⟨.builtin l _ Qc _ a,j⟩
 |value f=>
  rw[i] at a;have b:=k f a;dsimp only;unfold yK;generalize g f=e at b;generalize h f=r at b;cases b using aG.ind with
  |func b m a n o=>exact .bI ⟨.fn b ⟨n,o⟩,cP.append ⟨m,a⟩ j⟩
  |nilFunc=>exact .bI ⟨.nil,j⟩
  |_=>exact aC.stuck
 |invoke q p=>rw[i] at a;cases a
end
end
end Rl
end Go.Proofs.YtjidbonhhpkljaaGreat
