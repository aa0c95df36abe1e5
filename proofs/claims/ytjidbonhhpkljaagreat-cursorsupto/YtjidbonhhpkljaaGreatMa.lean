/- Parts. -/
import Derived.Conc.Beside
import Derived.Conc.LoneCalls
import Derived.Conc.CrowdComm
import Derived.RangeFuncRecord
set_option linter.all false
open Array renaming getD->cB,getElem?_eq_some_iff->dn,getElem?_modify->yI,push->iz,range->vL,setIfInBounds->cS,size->U,toList->dY
open Bool renaming false->aj,false_eq_true->eN,true->af
open Classical renaming choose->mr
open Eq renaming symm->bq,trans->aB
open False renaming elim->ff
open Go renaming Act->bt,Addr->aL,BinOp->kE,Code->cQ,Ending->gN,Event->ef,FloatKind->od,Frame->aO,Func->cF,FuncId->gw,Goroutine->dN,IntKind->oe,Item->ez,MemOp->kS,Obj->cz,Oper->cC,Operand->eg,PanicEntry->py,Program->bn,Sem->dh,TypeId->aP,Value->F,World->ag,behindNumber->ki,callDeferred->oJ,doReturn->m6,execOp->bX,exitTo->jJ,resolve->m8,results->dB,seen->iD,sizeOf->lZ,stepG->cw,tryRecover->kV,typeInfo->ko,undef->bR,underlying->rq,unwind->kW,yielded->en,zeroValue->lG
open List renaming all->dI,all_eq_true->fA,length->I,toArray->cR
open MonadExceptOf renaming throw->Pa
open Option renaming isNone->nQ,isSome->ni,none->Z,some->K
open Or renaming elim->eD,inl->av,inr->ai
open WellFounded renaming fixF->aeI
open Go
open Act renaming defers->bU,eval->bp,put->bw
open Addr renaming block->cD
open Builtin renaming copy_->sV,firstCells->uK,lenOf->uL,mayShare->AL,unsafeAdd_->yP
open CallKind renaming normal->dM
open Code renaming block->fT,region->iB,seq->aS,skip->ey
open Conc renaming G->aX,mem_ofEvents->yQ,served->nN,solo->p9
open ConcN renaming sumTo->tP
open Deferred renaming ofValue->yR,target->gX
open Ending renaming panicked->gO,returned->aN
open Exit renaming normal->cX,panic->ig
open Extern renaming find->yS
open Extern.BytealgCompare renaming compare->D2
open Extern.Bytes renaming bytesOf->OX,loadBytes->OY
open Extern.ReflectliteType renaming rows->Ic
open Extern.RuntimeError renaming boundsError->aer,boundsErrorFmts->aet,boundsNegErrorFmts->aeu,described->OZ,pkgpathOf->O0,rows->oG,text->O1,typeAssertionError->O2,unhashableTypeError->O3
open Extern.RuntimeError.boundsError renaming match_1->aes
open Fn renaming yield->gP
open Frame renaming defers->oH,enter->eT,finish->dR,kind->dj,mode->ea,raise->jF,round->mZ,roundOf->nO
open FrameMode renaming panicking->jx,returning->jj
open Func renaming results->rR
open GStep renaming after->jT
open GoStatus renaming running->kR
open Goroutine renaming callers->sW,status->m0
open Instr renaming buildSlice->yT,checkKey->yU,endRound->tQ,findKey->yV,loadAt->xm,makeSlice->yW,sliceBounds->yX,storeAt->yY,sureAddr->tR
open IntKind renaming i64->aM
open Item renaming code->bJ,inBlock->fh,inLoop->gx,inRegion->bY
open Loc renaming isMemory->uO
open MemAct renaming ofEvent->sX,touch?->mA
open MemOp renaming ofEvents->xo
open Next renaming value->fi
open Obj renaming cells->aq,deferred->kT,loop->fj
open Op renaming equalIn->uP
open Op.Complex renaming add->Ig,arith->BS,cmp->D3,conv->BT,corrected->O4,mul->Ih,product->Ii,quo->O5,quotient->Ij,sub->Ik
open Program renaming cellsOf->sY,toTables->fo,underlying->g9
open Region renaming schedule->y4,wanted->eI
open Result renaming ok->cm
open RuntimeError renaming error->aeB
open Sem renaming run->jU,runT->gQ
open TypeInfo renaming bytes->jm,zero->jH
open Unsupported renaming resourceLimit->O6,unsafePointer->Il
open Value renaming agg->bZ,bool->ak,chan->fZ,int->aJ,pointer->cU,slice->ah,string->ay,tuple->cP
open World renaming alloc->cG,cell?->ap,drawn->dU,frozen?->cE,heap->dF,output->ga,putObj->kU,setCell->aY,setChan->lY,tape->dG
open stepG renaming apply->jV,exec->gd
variable{R qQ qR:aL}{QS es:Array ef}{QN:Array eg}{QF:Array aP}{C args buf':Array F}{qW qX:Bool}{QK assign:cQ}{QU:ef}{Qg Qh fr':aO}{gf:gw}{QW QX g':dN}{Qj Qk aU cs:List aO}{QO:List ez}{rest:List Nat}{QV:List py}{qN vi':List F}{a cap i j k m n r' s' γ B:Nat}{Qa Qb S:Nat→Prop}{Ql:cz}{Qs:cC}{Qq:eg}{QL pos:String}{Qd:aP}{v x:F}{W u w w':ag}{gs gs':Array dN}{O:cz→Prop}{P P' P0:bn}{J Post:F→ag→Prop}{vs:Nat→List F}{μ:Nat→Option (List F)}{H Q α:Type}
set_option maxRecDepth 100000
set_option maxHeartbeats 8000000
namespace Go.Proofs.YtjidbonhhpkljaaGreat
def X (a:Prop):Prop:=a
def X.o{a:Prop}(h:X a):a:=h
def aA{a:Prop}(h:a):X a:=h
def Y{b:Sort _}{a:b}:a=a:=rfl
abbrev aF:Go.Value:=.slice none 0 0
abbrev n9(a:Nat):Go.Value:=.int .i64 (a:Int)
abbrev z9(a:Int):Go.Value:=.int .i64 a
abbrev aG(b c a:Nat):Go.Value:=.slice (some ⟨b,0,none⟩) c a
abbrev cq(d:Go.World)(b:Nat)(a:Array Go.Value)(c:Go.TypeId):Prop:=d.heap[b]? =some (.cells a c (0,0))
abbrev bl(c:Go.World)(a b:Nat)(v:Go.Value):Prop:=c.cell? ⟨a,b,none⟩=some v
abbrev aK(a:Nat):Go.Value:=.pointer<|some ⟨a,0,none⟩
abbrev aD(a b:Go.World):Prop:=Go.RowKit.Below a.heap.size a b
def aa{a:Prop}(h:a:=by omega):a:=h
def az{a:Prop}(h:a:=by decide):a:=h
def aI{a:Prop}(h:a:=by simp):a:=h
def bS{a:Prop}(h:a:=by simp;omega):a:=h
def fW{a:Prop}(h:a:=by unfold Go.maxLen;omega):a:=h
def cA{b a:Prop}(c:b)(h:b->a:=by intro h;omega):a:=h c
def cN{b a:Prop}(c:b)(h:b->a:=by intro h;simpa using h):a:=h c
def bV{g:Sort _}{c d:g}{f e:Prop}(a:c=d)(b:f)(h:c=d->f->e:=by intro a b;rw[a];exact b):e:=h a b
def jC{e:Sort _}{b c:e}{d:Prop}(a:b=c)(h:b=c->d:=by intro a;rw[a];omega):d:=h a
def rr9{e:Sort _}{b c:e}{d:Prop}(a:b=c)(h:b=c->d:=by intro a;rw[a]):d:=h a
def gG{e:Sort _}{b c:e}{d:Prop}(a:b=c)(h:b=c->d:=by intro a;rw[a];rfl):d:=h a
def de{b a:Prop}(c:b)(h:b->a:=by intro h;cases h):a:=h c
def bu{a:Prop}(h:a:=by grind):a:=h
def nE{a:Prop}(h:a:=by simp_all):a:=h
def aR{a:Prop}(h:a:=by kernel_rfl):a:=h
def vK:=@Array.ext_getElem?
def jh:=@Array.getD_eq_getD_getElem?
def AH:=@Array.getElem?_append_right
def n7:=@Array.getElem?_eq_getElem
def uG:=@Array.getElem?_eq_none
def pq:=@Array.getElem?_map
def p6:=@Array.getElem?_push
def nI:=@Array.getElem?_setIfInBounds
def xf:=@Array.getElem?_setIfInBounds_ne
def yJ:=@Array.length_toList
def rM:=@Array.toList_map
def fe:=@Bool.and_eq_true
def rO:=@Bool.eq_iff_iff
def tM:=@Bool.or_eq_true
def AI:=@ByteArray.ext
def tN:=@ByteArray.size_extract
def xh:=@Classical.byContradiction
def fE:=@Classical.choose_spec
def sU:=@Function.comp_def
def kQ:=@Go.Addr.add_lit
def nM:=@Go.Addr.mk.injEq
def aen:=@Go.ChangeSpec.post_blind
def eH:=@Go.Code.wp_mono
def aeo:=@Go.DataW.Whole.of_heap
def aep:=@Go.Deferred.mk.injEq
def aeq:=@Go.Ending.returned.inj
def xl:=@Go.Frame.finish_at
def Ie:=@Go.Goroutine.mk.injEq
def kF:=@Go.IntKind.wrap_i64
def aev:=@Go.Machine.mk.injEq
def aew:=@Go.MapEntry.mk.injEq
def aey:=@Go.Obj.number.injEq
def aeA:=@Go.Result.halt.injEq
def fM:=@Go.RowKit.Below.heap_alloc
def bN:=@Go.RowKit.Below.refl
def aeC:=@Go.Stepped.next.injEq
def sZ:=@Go.Steps.trans
def aeD:=@Go.Value.chan.injEq
def O7:=@Go.Value.func.injEq
def aeE:=@Go.Value.iface.injEq
def aeF:=@Go.Value.pointer.injEq
def Im:=@Go.Value.slice.inj
def j9:=@Go.Value.slice.injEq
def aeG:=@Go.Value.tuple.injEq
def m4:=@Go.World.grownBy.block
def D4:=@Go.World.grownBy.cell
def y5:=@Go.World.grownBy.size
def xq:=@Go.World.grownBy_alloc
def lF:=@Go.heap_alloc_new
def ei:=@Go.heap_setCell_other
def ek:=@Go.heap_setCell_same
def uQ:=@Go.run_underlying
def jo:=@Go.wp_seq
def uR:=@Int.eq_ofNat_of_zero_le
def xw:=@List.all_cons
def xx:=@List.any_eq_true
def ij:=@List.append_assoc
def l5:=@List.append_nil
def tV:=@List.cons_append
def ru:=@List.drop_eq_getElem_cons
def za:=@List.drop_of_length_le
def tW:=@List.drop_zero
def s4:=@List.eq_nil_of_length_eq_zero
def oN:=@List.flatMap_append
def kX:=@List.flatMap_cons
def pH:=@List.flatMap_singleton
def ep:=@List.getD_eq_getElem?_getD
def tX:=@List.getElem?_append_left
def rX:=@List.getElem?_append_right
def dV:=@List.getElem?_eq_getElem
def uS:=@List.getElem?_eq_none
def fF:=@List.getElem?_eq_some_iff
def s5:=@List.getElem?_map
def vW:=@List.getElem?_take
def jK:=@List.getElem_cons_succ
def kG:=@List.getElem_cons_zero
def oO:=@List.getElem_map
def dm:=@List.getElem_mem
def m9:=@List.getElem_of_mem
def ry:=@List.getElem_take
def l6:=@List.getElem_toArray
def cJ:=@List.length_append
def oh:=@List.length_cons
def uT:=@List.length_drop
def vX:=@List.length_eq_zero_iff
def er:=@List.length_map
def ze:=@List.length_nil
def rY:=@List.length_singleton
def ng:=@List.length_take
def vY:=@List.lookup_cons
def gD:=@List.map_append
def vZ:=@List.map_congr_left
def kY:=@List.map_cons
def rZ:=@List.map_singleton
def eP:=@List.mem_append
def gy:=@List.mem_cons
def xy:=@List.mem_flatMap
def jW:=@List.mem_map
def oP:=@List.mem_of_getElem?
def xz:=@List.mem_of_mem_take
def v5:=@List.mem_singleton
def s6:=@List.nil_append
def kZ:=@List.not_mem_nil
def ct:=@List.setIfInBounds_toArray
def b9:=@List.set_cons_succ
def cj:=@List.set_cons_zero
def v7:=@List.take_append_drop
def jq:=@List.take_length
def iF:=@List.take_of_length_le
def gm:=@List.take_succ_eq_append_getElem
def gH:=@Nat.add_assoc
def tY:=@Nat.add_zero
def v8:=@Nat.eq_zero_or_pos
def uU:=@Nat.le_of_lt
def aZ:=@Nat.le_refl
def dW:=@Nat.le_trans
def cL:=@Nat.lt_of_lt_of_le
def jc:=@Nat.lt_or_ge
def xA:=@Nat.min_eq_left
def s7:=@Nat.mod_eq_of_lt
def uV:=@Nat.mul_comm
def s8:=@Nat.mul_le_mul
def uW:=@Nat.mul_one
def oQ:=@Nat.pow_add
def om:=@Nat.pow_le_pow_right
def rA:=@Nat.pow_succ
def fq:=@Nat.zero_add
def cH:=@Nat.zero_le
def lH:=@Option.bind_eq_some_iff
def tZ:=@Option.getD_some
def xC:=@Option.isNone_iff_eq_none
def xD:=@Option.map_eq_some_iff
def nR:=@Option.map_none
def gE:=@Option.map_some
def uX:=@Option.some.inj
def iG:=@Option.some.injEq
def Ix:=@Std.Legacy.Range.forIn_eq_forIn_range'
def aeJ:=@WellFounded.fixF_eq
end Go.Proofs.YtjidbonhhpkljaaGreat
namespace Go.Proofs.YtjidbonhhpkljaaGreat.Cc
open Go
abbrev Tp:=Nat->Question->Nat
def sh (b:Tp)(a:Nat)(w:ag):ag:={w with tape:=b,drawn:=a}
def rW {α:Type}:Result α->ag
 |cm _ w=>w
 | .halt _ w=>w
def Al (f:Tp)(c:Nat)(g:Tp)(d:Nat)(e:Nat):Prop:=∀a b,a<e->g (d+a) b=f (c+a) b
def Al.sub{a b:Tp}(h:Al a n b k i)(f:m<=i):Al a n b k m:=λc d e=>h c d aa
def Al.refl(b:Tp)(a c:Nat):Al b a b a c:=λ_ _ _=>rfl
def sK:Halt->Bool
 | .panic _=>af
 | .stuck _=>af
 | .unsupported (.initOrder _)=>aj
 | .unsupported _=>af
 |_=>aj
def pz:cz:=.coro Z
def jk:cz->Bool
 |fj _|kT _| .pending _ _| .coro _=>af
 |_=>aj
def Gx {α:Type}(a:cz->dh α):Prop:=(∃s,a pz= .halt (.stuck s))\/((∀d,a (fj d)=a pz)/\(∀c,a (kT c)=a pz)/\(∀b e,a (.pending b e)=a pz)/\∀f,a (.coro f)=a pz)
def Gx.bind{α c:Type}{a:cz->dh α}(h:Gx a)(f:α->dh c):Gx λb=>(a b).bind f:=by
 rcases h with⟨s,h⟩|⟨g,i,j,k⟩;exact av ⟨s,by dsimp only;rw[h];rfl⟩;exact ai ⟨λl=>bu,λe=>bu,λd m=>bu,λn=>bu⟩
def Gx.Vz{α:Type}{a:cz->dh α}(h:Gx a)(hx:jk Ql=af):(∃s,a pz= .halt (.stuck s))\/a Ql=a pz:=by
 rcases h with h|⟨b,c,d,e⟩;exact av h;cases Ql<;>first|(simp[jk] at hx;done)|exact ai (b _)|exact ai (c _)|exact ai (d _ _)|exact ai<|e _
section
variable(P P':bn)(O:cz->Prop)
def Still{α:Type}(Q:α->Prop):dh α->Prop
 | .pure d=>Q d
 | .load _ _ a=>∀v,Still Q<|a v
 | .store _ _ _ a=>Still Q a
 | .new b a=>O b/\∀c,Still Q<|a c
 | .shape _ a=>∀s,Still Q<|a s
 | .freeze _ _ a=>Still Q a
 | .frozen _ a=>∀e,Still Q<|a e
 | .getObj _ a=>(∀b,O b->Still Q (a b))/\Gx a
 | .setObj _ b a=>O b/\Still Q a
 | .choose _ a=>∀i,Still Q<|a i
 | .sys g a=>g= .env/\∀c,Still Q<|a c
 | .program a=>a P=a P'/\Still Q (a P)
 | .mark m a=>(Conc.Neutral m\/∃f,m= .extern f)/\Still Q a
 | .halt h=>sK h=af
def Still.bind{α k:Type}{Q:α->Prop}{i:k->Prop}{f:α->dh k}(l:∀d,Q d->Still P P' O i (f d)):∀{s:dh α},Still P P' O Q s->Still P P' O i (s.bind f):=by
 intro s
 induction s with
 |pure d=>intro a;exact l d a
 |load m d c b=>intro a v;exact b v<|a v
 |store m d v c b=>intro a;exact b a
 |new g c b=>intro a;exact⟨a.1,λe=>b e<|a.2 e⟩
 |shape e c b=>intro a s;exact b s<|a s
 |freeze d h c b=>intro a;exact b a
 |frozen d c b=>intro a j;exact b j<|a j
 |getObj e c b=>intro a;exact⟨λg n=>b g<|a.1 g n,a.2.bind f⟩
 |setObj e g c b=>intro a;exact⟨a.1,b a.2⟩
 |choose p c b=>intro a h;exact b h<|a h
 |sys o c b=>intro a;exact⟨a.1,λe=>b e<|a.2 e⟩
 |program c b=>intro a;exact⟨congrArg (·.bind f) a.1,b P a.2⟩
 |mark m c b=>intro a;exact⟨a.1,b a.2⟩
 |halt a=>intro a;exact a
def Still.mono{α:Type}{Q h:α->Prop}(k:∀d,Q d->h d):∀{s:dh α},Still P P' O Q s->Still P P' O h s:=by
 intro s
 induction s with
 |pure d=>intro a;exact k d a
 |load m d c b=>intro a v;exact b v<|a v
 |store m d v c b=>intro a;exact b a
 |new f c b=>intro a;exact⟨a.1,λe=>b e<|a.2 e⟩
 |shape e c b=>intro a s;exact b s<|a s
 |freeze d g c b=>intro a;exact b a
 |frozen d c b=>intro a i;exact b i<|a i
 |getObj e c b=>intro a;exact⟨λf j=>b f<|a.1 f j,a.2⟩
 |setObj e f c b=>intro a;exact⟨a.1,b a.2⟩
 |choose n c b=>intro a g;exact b g<|a g
 |sys l c b=>intro a;exact⟨a.1,λe=>b e<|a.2 e⟩
 |program c b=>intro a;exact⟨a.1,b P a.2⟩
 |mark m c b=>intro a;exact⟨a.1,b a.2⟩
 |halt a=>intro a;exact a
end
def Hp (O:cz->Prop)(w:ag):Prop:=∀(b:Nat) (a:cz),w.heap[b]? =K a->O a\/a=pz
structure Plain(O:cz->Prop):Prop where
 cells:∀c t f,O<|aq c t f
 pending:∀c t,¬O (.pending c t)
 FZ:¬O pz
 loop:∃r,O<|fj r
structure Un(w u:ag):Prop where
 size:U u.heap=U w.heap
 at_:∀(b:Nat) (o:cz),w.heap[b]? =K o->u.heap[b]? =K o\/(o=pz/\∃x,u.heap[b]? =K x/\jk x=af)
 os:u.os=w.os
 output:ga u=ga w
structure iH(w u w' u':ag):Prop where
 un:Un w' u'
 keep:∀b:Nat,w'.heap[b]? =K pz->w.heap[b]? =K pz/\u'.heap[b]? =u.heap[b]?
def Un.refl(w:ag):Un w w:=⟨rfl,λb c a=>av a,rfl,rfl⟩
def Un.two{w a:ag}(h:Un w a):iH w a w a:=⟨h,λc b=>⟨b,rfl⟩⟩
def iH.trans{w c J u1 d u2:ag}(h:iH w c J u1)(b:iH J u1 d u2):iH w c d u2:=⟨b.un,λa j=>by
 have⟨e,f⟩:=b.keep a j;have⟨g,i⟩:=h.keep a e;exact⟨g,aB f i⟩⟩
def Un.none{w b:ag}(h:Un w b)(a:w.heap[n]? =Z):b.heap[n]? =Z:=by
 rw[Array.getElem?_eq_none_iff] at a ⊢;rw[h.size];exact a
def Un.o{w a:ag}(h:Un w a)(b:w.heap[n]? =K Ql)(c:Ql≠pz):a.heap[n]? =K Ql:=eD (h.at_ n Ql b) id λh=>absurd h.1 c
def Un.row{w d:ag}(h:Un w d){f:Nat×Nat}:w.heap[n]? =K (aq C Qd f)↔d.heap[n]? =K (aq C Qd f):=by
 constructor;exact λa=>h.o a (by simp[pz]);intro a;cases c:w.heap[n]? with
 |none=>rw[h.none c] at a;cases a
 |some g=>
  rcases h.at_ n g c with b|⟨_,i,b,e⟩;rw[b] at a;exact a;rw[b] at a;cases a;simp[jk] at e
def Un.cases{w d:ag}(h:Un w d)(a:Nat):d.heap[a]? =w.heap[a]? \/(w.heap[a]? =K pz/\∃b,d.heap[a]? =K b/\jk b=af):=by
 cases e:w.heap[a]? with
 |none=>exact av<|h.none e
 |some g=>
  rcases h.at_ a g e with c|⟨rfl,b,c,f⟩;exact av c;exact ai ⟨rfl,b,c,f⟩
def Un.cell{w c:ag}(h:Un w c)(a:aL):ap c a=ap w a:=by
 unfold ap;rcases h.cases (cD a) with b|⟨b,f,d,e⟩;rw[b];rw[b,d];cases f<;>first|rfl|(simp[jk] at e;done)
def Un.shape{w c:ag}(h:Un w c)(b:Nat):c.shape? b=w.shape? b:=by
 unfold World.shape?;rcases h.cases b with a|⟨a,f,d,e⟩;rw[a];rw[a,d];cases f<;>first|rfl|(simp[jk] at e;done)
def Un.frozen{w c:ag}(h:Un w c)(a:aL):cE c a=cE w a:=by
 unfold cE;rcases h.cases (cD a) with b|⟨b,f,d,e⟩;rw[b];rw[b,d];cases f<;>first|rfl|(simp[jk] at e;done)
def Un.modify{w q:ag}(h:Un w q){f:cz->cz}(A:∀e g i,∃r y z,f (aq e g i)=aq r y z)(p:∀m,(∀e g i,m≠aq e g i)->f m=m):iH w q {w with heap:=w.heap.modify n f} {q with heap:=q.heap.modify n f}:=by
 have v:∀(h:Array cz) (d:Nat),(h.modify n f)[d]? =(h[d]?).map λm=>if n=d then f m else m:=λh d=>by
  rw[yI]
  split
  rename_i a;subst a;simp;rename_i a;simp[a]
 have x:∀c,jk c=af->∀e g i,c≠aq e g i:=λc l e g i a=>by rw[a] at l;simp[jk] at l
 refine⟨⟨by simp[h.size],λd m b=>?_,h.os,h.output⟩,λd b=>?_⟩;simp only[v] at b ⊢;cases k:w.heap[d]? with
 |none=>rw[k] at b;cases b
 |some j=>
  rw[k] at b;rcases h.at_ d j k with a|⟨rfl,c,a,l⟩;rw[a];exact av b;have o:(if n=d then f pz else pz)=pz:=by split<;>first|rfl|exact p pz (λe g i=>by simp[pz])
  have t:(if n=d then f c else c)=c:=by split<;>first|rfl|exact p c<|x c l
  simp only[gE,o,iG] at b;exact ai ⟨bq b,c,bu,l⟩
 simp only[v] at b ⊢;cases k:w.heap[d]? with
 |none=>rw[k] at b;cases b
 |some j=>
  rw[k] at b;have B:j=pz:=by
   by_cases u:∃e g i,j=aq e g i;obtain⟨e,g,i,rfl⟩:=u;have⟨r,y,z,a⟩:=A e g i;simp only[gE,a,iG] at b
   split at b<;>simp[pz] at b
   have o:(if n=d then f j else j)=j:=by split<;>first|rfl|exact p j λe g i a=>u ⟨e,g,i,a⟩
   simpa [o] using b
  subst B;refine⟨rfl,?_⟩;rcases h.at_ d pz k with a|⟨_,c,a,l⟩;rw[a];have o:(if n=d then f pz else pz)=pz:=by split<;>first|rfl|exact p pz (λe g i=>by simp[pz])
  simp[o];rw[a];have t:(if n=d then f c else c)=c:=by split<;>first|rfl|exact p c<|x c l
  simp[t]
def Un.push{w c:ag}(h:Un w c)(e:Ql≠pz):iH w c {w with heap:=iz w.heap Ql} {c with heap:=iz c.heap Ql}:=by
 refine⟨⟨by simp[h.size],λd f a=>?_,h.os,h.output⟩,λd a=>?_⟩;simp only[p6,h.size] at a ⊢
 split
 rename_i b;rw[if_pos b] at a;exact av a;rename_i b;rw[if_neg b] at a;exact h.at_ d f a;simp only[p6,h.size] at a ⊢
 split at a
 cases a;exact absurd Y e;rename_i b;rw[if_neg b];exact⟨a,rfl⟩
def Un.set{w c:ag}(h:Un w c)(e:Nat)(f:Ql≠pz):iH w c {w with heap:=cS w.heap e Ql} {c with heap:=cS c.heap e Ql}:=by
 refine⟨⟨by simp[h.size],λd g a=>?_,h.os,h.output⟩,λd a=>?_⟩;simp only[nI,h.size] at a ⊢
 split
 rename_i b;rw[if_pos b] at a;exact av a;rename_i b;rw[if_neg b] at a;exact h.at_ d g a;simp only[nI,h.size] at a ⊢
 split at a
 split at a
 cases a;exact absurd Y f;cases a;rename_i b;rw[if_neg b];exact⟨a,rfl⟩
structure Views(P P':bn):Prop where
 load:∀(w u:ag) at_ t a m,(∀c e f,w.heap[cD (at_:aL)]? =K (aq c e f)↔u.heap[cD at_]? =K (aq c e f))->u.viewLoad P' at_ t a m=w.viewLoad P at_ t a m
 touch:∀(w:ag) at_ t a m v l,w.viewLoad P at_ t a m= .ok (v,l)->∀x∈l,cD x<U w.heap
 store:∀(w u:ag) at_ t a v m,(∀c e f,w.heap[cD (at_:aL)]? =K (aq c e f)↔u.heap[cD at_]? =K (aq c e f))->(∃why,w.viewStore P at_ t a v m= .error why/\u.viewStore P' at_ t a v m= .error why)\/∃c e f l,w.viewStore P at_ t a v m= .ok ({w with heap:=cS w.heap (cD at_)<|aq c e f},l)/\u.viewStore P' at_ t a v m= .ok ({u with heap:=cS u.heap (cD at_)<|aq c e f},l)/\∀x∈l,cD x<U w.heap
def lD (a:Nat)(c:ef):Prop:=match c.loc with
 | .obj d=>d<a
 | .cell b=>cD b<a
 | .mark m=>Conc.Neutral m\/∃f,m= .extern f
 |_=>True
def lD.mono(h:n<=m)(a:lD n QU):lD m QU:=by
 unfold lD at*
 split<;>simp_all<;>omega
def us {α:Type}(a:ag):Result α->Result α
 |cm b _=>cm b a
 | .halt c _=>.halt c a
structure mF{α:Type}(P P':bn)(O:cz->Prop)(Q:α->Prop)(s:dh α)(w:ag)(es:Array ef):Prop where
 tape:dG (rW (s.runT P w es).1)=dG w
 drawn:dU w<=dU (rW (s.runT P w es).1)
 size:U w.heap<=(rW (s.runT P w es).1).heap.size
 os:(rW (s.runT P w es).1).os=w.os
 output:ga (rW (s.runT P w es).1)=ga w
 hp:Hp O (rW (s.runT P w es).1)
 ok:∀a w',(s.runT P w es).1=cm a w'->Q a
 halt:∀h w',(s.runT P w es).1= .halt h w'->sK h=af
 evs:∀e∈(s.runT P w es).2,e∈es\/lD (rW (s.runT P w es).1).heap.size e
 shift:(∃y w',(s.runT P w es).1= .halt (.stuck y) w')\/∀ τ d u,Un w u->Al (dG w) (dU w) τ d (dU (rW (s.runT P w es).1)-dU w)->∃u',iH w u (rW (s.runT P w es).1) u'/\s.runT P' (sh τ d u) es=(us (sh τ (d+(dU (rW (s.runT P w es).1)-dU w)) u') (s.runT P w es).1,(s.runT P w es).2)
section
variable{Q:α->Prop}{w J:ag}{A1:Array ef}{s H:dh α}
def mF.cons(g:Nat)(h:mF P P' O Q H J A1)(a:s.runT P w es=H.runT P J A1)(k:J.tape=w.tape)(m:J.drawn=w.drawn+g)(p:U w.heap<=U J.heap)(o:J.os=w.os)(r:J.output=w.output)
 (v:∀d∈A1,d∈es\/lD (U J.heap) d) (f:(∃A z,(s.runT P w es).1= .halt (.stuck A) z)\/∀c b i,Un w i->Al w.tape w.drawn c b g->∃u1,iH w i J u1/\s.runT P' (sh c b i) es=H.runT P' (sh c (b+g) u1) A1):mF P P' O Q s w es:=by
 have B:=h.drawn;refine⟨by rw[a,h.tape,k],bu,bV a<|dW p h.size,by rw[a,h.os,o],by rw[a,h.output,r],bV a h.hp,bV a h.ok,bV a h.halt,?_,?_⟩;rw[a];intro d n;rcases h.evs d n with e|e;exact(v d e).imp id<|lD.mono h.size;exact ai e;rcases f with f|f;exact av f;rw[a];rcases h.shift with e|q;exact av e;refine ai λc b i u j=>?_;have⟨u1,l,D⟩:=f c b i u<|j.sub aa;have⟨u2,t,E⟩:=q c (b+g) u1 l.un (by
  intro x y C;have:=j (g+x) y aa;rw[k,m,gH,gH];exact this)
 exact⟨u2,l.trans t,bu⟩
def mF.ends{x:Halt}(a:s.runT P w es=(.halt x w,es))(hx:sK x=af)(k:Hp O w)(e:(∃f,x= .stuck f)\/∀d c b,Un w b->s.runT P' (sh d c b) es=(.halt x<|sh d c b,es)):mF P P' O Q s w es:=by
 refine⟨gG a,bV a<|aZ _,bV a<|aZ _,gG a,gG a,bV a k,?_,?_,?_,?_⟩;rw[a];intro m l h;cases h;rw[a];intro h l g;cases g;exact hx;rw[a];exact λg j=>av j;rw[a];rcases e with⟨f,rfl⟩|e;exact av ⟨f,w,rfl⟩;refine ai λd c b i _=>⟨b,i.two,?_⟩;rw[e d c b i];simp[us,rW]
end
def Hp.push{O:cz->Prop}{w:ag}(h:Hp O w)(c:O Ql):Hp O {w with heap:=iz w.heap Ql}:=by
 intro b d a;simp only[p6] at a
 split at a
 cases a;exact av c;exact h b d a
def Hp.set{O:cz->Prop}{w:ag}(h:Hp O w)(d:Nat)(c:O Ql):Hp O {w with heap:=cS w.heap d Ql}:=by
 intro b e a;simp only[nI] at a
 split at a
 split at a
 cases a;exact av c;cases a;exact h b e a
def Hp.modify{O:cz->Prop}(k:Plain O){w:ag}(h:Hp O w){f:cz->cz}(l:∀d,f d=d\/∃b e g,f d=aq b e g):Hp O {w with heap:=w.heap.modify n f}:=by
 intro i o a;simp only[yI] at a
 split at a
 obtain⟨j,m,rfl⟩:=xD.1 a;rcases l j with c|⟨b,e,g,c⟩;rw[c];exact h i j m;rw[c];exact av<|k.cells b e g;exact h i o a
def Hp.sh{O:cz->Prop}{w:ag}(h:Hp O w)(b:Tp)(a:Nat):Hp O (sh b a w):=h
def Ld{O:cz->Prop}(d:Plain O){w:ag}(h:Hp O w)(e:∀f b,w.heap[cD R]? ≠K (.view f b))(s:String):w.noCell R s= .stuck s:=by
 unfold World.noCell
 split
 rename_i c b a;exact eD (h _ _ a) (λh=>absurd h<|d.pending _ _) λh=>de h;rename_i c b a;exact absurd a<|e _ _;rfl
def yl{es:Array ef}(b:lD n QU):∀a∈iz es QU,a∈es\/lD n a:=λa c=>bu
def Ja{w:ag}(h:ap w R=K v):cD R<U w.heap:=by
 unfold ap at h;cases a:w.heap[cD R]? with
 |none=>rw[a] at h;cases h
 |some b=>exact(dn.1 a).1
def Un.setCell{w a:ag}(h:Un w a)(b:aL)(v:F):iH w a (aY w b v) (aY a b v):=by
 unfold aY;refine h.modify (λe f g=>⟨_,_,_,rfl⟩) λd c=>?_;cases d<;>first|rfl|exact absurd rfl<|c _ _ _
def Un.freeze{w a:ag}(h:Un w a)(b:aL)(c:Nat):iH w a (w.freeze b c) (a.freeze b c):=by
 unfold World.freeze
 split
 exact h.two;refine h.modify (λf g i=>⟨_,_,_,rfl⟩) λe d=>?_;cases e<;>first|rfl|exact absurd rfl<|d _ _ _
def Ov(w:ag)(c:aL):(∃b a,w.heap[cD c]? =K (.view b a))\/∀b a,w.heap[cD c]? ≠K (.view b a):=bu
def JM{w:ag}(h:w.heap[cD R]? =K (.view qQ Qd))(a:bn)(m:Bool):w.farLoad a R m=match w.viewLoad a qQ Qd R m with| .ok b=>.ok b| .error c=>.error (.unsupported<|.unsafePointer c):=by
 unfold World.farLoad;rw[h];rfl
def Cq{w:ag}(h:w.heap[cD R]? =K (.view qQ Qd))(a:bn)(v:F)(m:Bool):w.farStore a R v m=match w.viewStore a qQ Qd R v m with| .ok b=>.ok b| .error c=>.error (.unsupported<|.unsafePointer c):=by
 unfold World.farStore;rw[h];rfl
def T6 {w:ag} (h:∀d c,w.heap[cD R]? ≠K (.view d c)) (a:bn) (m:Bool):w.farLoad a R m= .error (w.noCell R "load: no such cell"):=by
 unfold World.farLoad
 split
 rename_i b;exact absurd b<|h _ _;rfl
def T7 {w:ag} (h:∀d c,w.heap[cD R]? ≠K (.view d c)) (a:bn) (v:F) (m:Bool):w.farStore a R v m= .error (w.noCell R "store: no such cell"):=by
 unfold World.farStore
 split
 rename_i b;exact absurd b<|h _ _;rfl
def IK{es b:Array ef}(d:∀c∈b,lD n c):∀a∈es++b,a∈es\/lD n a:=λa e=>(Array.mem_append.1 e).imp id<|d a
def MR{α:Type}{P P':bn}{O:cz->Prop}(N:Plain O)(an:Views P P'){Q:α->Prop}(s:dh α):∀(w:ag) (es:Array ef),Still P P' O Q s->Hp O w->mF P P' O Q s w es:=by
 induction s with
 |pure c=>
  intro w es i g;refine⟨rfl,aZ _,aZ _,rfl,rfl,g,λaG j n=>?_,λn j h=>nE,λh aA=>av aA,ai λe d a b _=>⟨a,b.two,?_⟩⟩;simp only[gQ] at n;cases n;exact i;simp[gQ,us,rW]
 |load m c p t=>
  intro w es i g;cases q:ap w c with
  |some v=>
   exact(t v w (es.push ⟨.cell c,aj,m == .atomic⟩) (i v) g).cons 0 (by simp only[gQ,q]) Y Y (aZ _) Y Y (yl<|by simpa [lD] using(Ja q)) (ai λe d a b _=>⟨a,b.two,by
    have z:ap (sh e d a) c=K v:=aB (b.cell c) q;simp only[gQ,z];rfl⟩)
  |none=>
   rcases Ov w c with⟨l,o,B⟩|B;cases L:w.viewLoad P l o c (m == .atomic) with
   |ok a2=>
    have⟨v,R⟩:=a2;have u:∀(M:bn) (j:ag),ap j c=Z->j.heap[cD c]? =K (.view l o)->j.viewLoad M l o c (m == .atomic)= .ok (v,R)->(Sem.load m c p).runT M j es=(p v).runT M j (es++R.toArray.map (⟨.cell ·,aj,m == .atomic⟩)):=by
     intro M j ad ae az;simp only[gQ,ad,JM ae,az]
    refine(t v w _ (i v) g).cons 0 (u P w q B L) Y Y (aZ _) Y Y (IK λh aA=>?_)<|ai λe d a b _=>⟨a,b.two,u P' (sh e d a) (aB (b.cell c) q) (b.o B<|by simp[pz]) ?_⟩;obtain⟨C,ab,rfl⟩:=Array.mem_map.1 aA;exact an.touch w l o c _ v R L C bu;rw[<-L];exact an.load w (sh e d a) l o c _ λr h f=>b.row
   |error ar=>
    have u:∀(M:bn) (j:ag),ap j c=Z->j.heap[cD c]? =K (.view l o)->j.viewLoad M l o c (m == .atomic)= .error ar->(Sem.load m c p).runT M j es=(.halt (.unsupported<|.unsafePointer ar) j,es):=by
     intro M j ad ae az;simp only[gQ,ad,JM ae,az]
    exact mF.ends (u P w q B L) Y g (ai λe d a b=>u P' (sh e d a) (aB (b.cell c) q) (b.o B<|by simp[pz])<|by rw[<-L];exact an.load w (sh e d a) l o c _ λr h f=>b.row)
   exact mF.ends (x:=.stuck "load: no such cell") (by simp only[gQ,q,T6 B,Ld N g B]) Y g<|av ⟨_,rfl⟩
 |store m c v p t=>
  intro w es i g;have a1:(∀l,v≠bZ l)->(∀l,v≠cP l)->mF P P' O Q (.store m c v p) w es:=by
   intro ad ae;have u:∀(P:bn) (j:ag),(Sem.store m c v p).runT P j es=(match (ap j) c with
    |some _=>if cE j c then(.halt (.unsupported<|.unsafePointer "a write to bytes that a string shares") j,es) else p.runT P (j.setCell c v)<|es.push ⟨.cell c,af,m == .atomic⟩
    |none=>match j.farStore P c v (m == .atomic) with
     | .ok (a4,a3)=>p.runT P a4 (es++a3.toArray.map (⟨.cell ·,af,m == .atomic⟩))
     | .error n=>(.halt n j,es)):=by
    intro P j;cases v<;>first|exact absurd rfl (ad _)|exact absurd rfl (ae _)|rfl
   cases q:ap w c with
   |some l=>
    by_cases S:cE w c=af;refine mF.ends (x:=.unsupported<|.unsafePointer "a write to bytes that a string shares") bu Y g<|ai λe d a b=>?_;have z:ap (sh e d a) c=K l:=aB (b.cell c) q;have aC:cE (sh e d a) c=af:=aB (b.frozen c) S;rw[u,z];simp only[aC,if_true];have al:Hp O (w.setCell c v):=by
     unfold aY;refine g.modify N λk=>?_;cases k<;>first|exact av rfl|exact ai ⟨_,_,_,rfl⟩
    refine(t (w.setCell c v) (es.push ⟨.cell c,af,m == .atomic⟩) i al).cons 0 bu Y Y aI Y Y (yl<|by simpa [lD,aY] using Ja q)<|ai λe d a b _=>⟨a.setCell c v,b.setCell c v,?_⟩;have z:ap (sh e d a) c=K l:=aB (b.cell c) q;have aC:¬cE (sh e d a) c=af:=λh=>S<|(b.frozen c).symm.trans h;rw[u,z];simp only[aC,if_false];rfl
   |none=>
    rcases Ov w c with⟨l,o,B⟩|B;have T:=λa (b:Un w a)=>an.store w a l o c v (m == .atomic) λr h f=>b.row;rcases T w (Un.refl w) with⟨ar,D,-⟩|⟨r,h,f,R,D,-,L⟩;refine mF.ends (x:=.unsupported<|.unsafePointer ar) (by rw[u,q];simp only[Cq B,D]) Y g<|ai λe d a b=>?_;have z:ap (sh e d a) c=Z:=aB (b.cell c) q;have aD:(sh e d a).heap[cD c]? =K (.view l o):=b.o B (by simp[pz]);rcases T (sh e d a) ⟨b.size,b.at_,b.os,b.output⟩ with⟨a5,E,am⟩|⟨r,h,f,R,E,-⟩;rw[D] at E;cases E;rw[u,z];simp only[Cq aD,am];rw[D] at E;cases E;have al:Hp O {w with heap:=cS w.heap (cD l)<|aq r h f}:=g.set _<|N.cells _ _ _;refine(t {w with heap:=cS w.heap (cD l)<|aq r h f} (es++R.toArray.map (⟨.cell ·,af,m == .atomic⟩)) i al).cons 0 (by rw[u,q];simp only[Cq B,D]) Y Y aI Y Y (IK λC ab=>?_)<|ai λe d a b _=>?_;obtain⟨y,a6,rfl⟩:=Array.mem_map.1 ab;have:=L y bu;simpa [lD] using this;have z:ap (sh e d a) c=Z:=aB (b.cell c) q;have aD:(sh e d a).heap[cD c]? =K (.view l o):=b.o B (by simp[pz]);rcases T (sh e d a) ⟨b.size,b.at_,b.os,b.output⟩ with⟨a5,E,am⟩|⟨aH,aK,aQ,a7,E,am,-⟩;rw[D] at E;cases E;rw[D] at E;have aE:=Except.ok.inj E;simp only[Prod.mk.injEq] at aE;obtain⟨aR,rfl⟩:=aE;refine⟨{a with heap:=cS a.heap (cD l)<|aq aH aK aQ},?_,?_⟩;rw[aR];exact b.set (cD l) (by simp[pz]);rw[u,z];simp only[Cq aD,am];rfl;exact mF.ends (x:=.stuck "store: no such cell") (by rw[u,q];simp only[T7 B,Ld N g B]) Y g<|av ⟨_,rfl⟩
  cases v with
  |agg l=>exact mF.ends (x:=.stuck "store: not the value of one cell") Y Y g<|av ⟨_,rfl⟩
  |tuple l=>exact mF.ends (x:=.stuck "store: not the value of one cell") Y Y g<|av ⟨_,rfl⟩
  |_=>exact a1 (λl n=>de n) λl n=>de n
 |new k p t=>
  intro w es i g;have W:k≠pz:=λh=>N.FZ<|h▸i.1;exact(t (U w.heap) {w with heap:=w.heap.push k} es (i.2 _)<|g.push i.1).cons 0 Y Y Y aI Y Y (λh n=>av n) (ai λe d a b _=>⟨{a with heap:=a.heap.push k},b.push W,by
   show(p<|U a.heap).runT P' _ es=_;rw[b.size];rfl⟩)
 |shape x p t=>intro w es i g;exact(t (w.shape? x) w es (i _) g).cons 0 Y Y Y (aZ _) Y Y (λh n=>av n) (ai λe d a b _=>⟨a,b.two,by
  show(p<|a.shape? x).runT P' (sh e d a) es=_;rw[b.shape];rfl⟩)
 |freeze c F p t=>
  intro w es i g;have al:Hp O (w.freeze c F):=by
   unfold World.freeze
   split
   .exact g
   .refine g.modify N λk=>?_;cases k<;>first|exact av rfl|exact ai ⟨_,_,_,rfl⟩
  have D:dG (w.freeze c F)=dG w/\dU (w.freeze c F)=dU w/\(w.freeze c F).heap.size=U w.heap/\(w.freeze c F).os=w.os/\(w.freeze c F).output=w.output:=by
   unfold World.freeze;split<;>simp
  exact(t (w.freeze c F) es i al).cons 0 Y D.1 D.2.1 aa D.2.2.2.1 D.2.2.2.2 (λh n=>av n) (ai λe d a b _=>⟨a.freeze c F,b.freeze c F,by
   have:(sh e d a).freeze c F=sh e d (a.freeze c F):=by unfold World.freeze;split<;>rfl
   simp only[gQ,this];rfl⟩)
 |frozen c p t=>intro w es i g;exact(t (cE w c) w es (i _) g).cons 0 Y Y Y (aZ _) Y Y (λh n=>av n) (ai λe d a b _=>⟨a,b.two,by
  show(p<|cE a c).runT P' (sh e d a) es=_;rw[b.frozen];rfl⟩)
 |getObj x p t=>
  intro w es i g;cases A:w.heap[x]? with
  |none=>exact mF.ends (x:=.stuck "getObj: no such block") (by simp only[gQ,A]) Y g<|av ⟨_,rfl⟩
  |some k=>
   have ao:x<U w.heap:=(dn.1 A).1;by_cases q:∃r o y,k=aq r o y;obtain⟨r,o,y,rfl⟩:=q;exact mF.ends (x:=.stuck "getObj: a row of cells") (by simp only[gQ,A]) Y g<|av ⟨_,rfl⟩;have u:∀(P:bn) (j:ag) (k:cz),(∀r o y,k≠aq r o y)->j.heap[x]? =K k->(Sem.getObj x p).runT P j es=(p k).runT P j (es.push ⟨.obj x,aj,k.isChan⟩):=by
    intro P j k q aw;cases k<;>first|exact absurd rfl (q _ _ _)|simp only[gQ,aw]
   have z:∀r o y,k≠aq r o y:=λr o y h=>q ⟨r,o,y,h⟩;have T:Still P P' O Q (p k)\/∃C,p k= .halt (.stuck C):=by
    rcases g x k A with n|rfl;exact av<|i.1 k n;rcases i.2 with⟨C,n⟩|⟨n,-⟩;exact ai ⟨C,n⟩;have⟨R,L⟩:=N.loop;exact av (by rw[<-n R];exact i.1 _ L)
   rcases T with T|⟨C,ab⟩;refine(t k w _ T g).cons 0 (u P w k z A) Y Y (aZ _) Y Y (yl<|by simpa [lD] using ao) ?_;by_cases W:k=pz;subst W;by_cases aF:∃C,p pz= .halt (.stuck C);have⟨C,ab⟩:=aF;exact av ⟨C,w,by rw[u P w pz z A,ab];rfl⟩;refine ai λe d a b _=>⟨a,b.two,?_⟩;rcases b.at_ x pz A with h|⟨_,l,h,V⟩;exact u P' (sh e d a) pz z h;rw[u P' (sh e d a) l (λr o y h=>by rw[h] at V;simp[jk] at V) h,(i.2.Vz V).resolve_left aF];cases l<;>first|rfl|(simp[jk] at V;done)
   exact ai λe d a b _=>⟨a,b.two,u P' (sh e d a) k z<|b.o A W⟩;have G:(Sem.getObj x p).runT P w es=(.halt (.stuck C) w,es.push ⟨.obj x,aj,k.isChan⟩):=by rw[u P w k z A,ab];rfl
   refine⟨gG G,bV G<|aZ _,bV G<|aZ _,gG G,gG G,bV G g,?_,?_,?_,av ⟨C,w,by rw[G]⟩⟩;rw[G];intro c j n;cases n;rw[G];intro n j h;cases h;rfl;rw[G];exact yl (n:=U w.heap) (by simpa [lD] using ao)
 |setObj x k p t=>
  intro w es i g;cases A:w.heap[x]? with
  |none=>exact mF.ends (x:=.stuck "setObj: no such block") (by simp only[gQ,A]) Y g<|av ⟨_,rfl⟩
  |some I=>
   have ao:x<U w.heap:=(dn.1 A).1;by_cases q:∃r o y,I=aq r o y;obtain⟨r,o,y,rfl⟩:=q;exact mF.ends (x:=.stuck "setObj: a row of cells") (by simp only[gQ,A]) Y g<|av ⟨_,rfl⟩;have u:∀(P:bn) (j:ag) (I:cz),(∀r o y,I≠aq r o y)->j.heap[x]? =K I->(Sem.setObj x k p).runT P j es=p.runT P {j with heap:=cS j.heap x k} (es.push ⟨.obj x,af,k.isChan⟩):=by
    intro P j I q aw;cases I<;>first|exact absurd rfl (q _ _ _)|simp only[gQ,aw]
   have W:k≠pz:=λh=>N.FZ<|h▸i.1;refine(t {w with heap:=cS w.heap x k} _ i.2<|g.set x i.1).cons 0 (u P w I (λr o y h=>q ⟨r,o,y,h⟩) A) Y Y aI Y Y (yl<|by simpa [lD] using ao)<|ai λe d a b _=>⟨{a with heap:=cS a.heap x k},b.set x W,?_⟩;rcases b.at_ x I A with h|⟨_,l,h,V⟩;exact u P' (sh e d a) I (λr o y h=>q ⟨r,o,y,h⟩) h;exact u P' (sh e d a) l (λr o y h=>by rw[h] at V;simp[jk] at V) h
 |choose X p t=>
  intro w es i g;by_cases S:X.forced=af;exact(t 0 w es (i _) g).cons 0 (by simp only[gQ,S,if_true]) Y Y (aZ _) Y Y (λh n=>av n)<|ai λe d a b _=>⟨a,b.two,by simp only[gQ,S,if_true];rfl⟩;refine(t (X.cut<|dG w (dU w) X) {w with drawn:=dU w+1} es (i _) g).cons 1 (by simp only[gQ,S,if_false];rfl) rfl rfl (aZ _) rfl rfl (λh n=>av n)<|ai λe d a b aU=>⟨a,⟨⟨b.size,b.at_,b.os,b.output⟩,λaG a0=>⟨a0,rfl⟩⟩,?_⟩;have:=aU 0 X aa;simp only[tY] at this;simp only[gQ,S,if_false];have h:dG (sh e d a) (dU<|sh e d a) X=dG w (dU w) X:=this;rw[h];rfl
 |sys r p t=>
  intro w es i g;obtain⟨rfl,i⟩:=i;exact(t (.strings w.os.env) w (es.push ⟨.output,af,aj⟩) (i _) g).cons 0 Y Y Y (aZ _) Y Y (yl<|by simp[lD]) (ai λe d a b _=>⟨a,b.two,by
   show(p<|.strings a.os.env).runT P' (sh e d a) _=_;rw[b.os];rfl⟩)
 |program p t=>
  intro w es i g;exact(t P w es i.2 g).cons 0 Y Y Y (aZ _) Y Y (λh n=>av n) (ai λe d a b _=>⟨a,b.two,by
   show(p P').runT P' (sh e d a) es=_;rw[<-i.1];rfl⟩)
 |mark m p t=>intro w es i g;exact(t w _ i.2 g).cons 0 Y Y Y (aZ _) Y Y (yl i.1)<|ai λe d a b _=>⟨a,b.two,rfl⟩
 |halt l=>intro w es i g;exact mF.ends (x:=l) Y i g<|ai λe d a b=>rfl
end Go.Proofs.YtjidbonhhpkljaaGreat.Cc
namespace Go.Proofs.YtjidbonhhpkljaaGreat
def eE{a:Prop}(h:a:=by((try dsimp only);repeat' first|(with_reducible first|exact Hx _|exact UX (λ_=>rfl) (λ_=>rfl) (λ_ _=>rfl) (λ_=>rfl)|exact abE ‹_› ‹_› _|exact ab7 ‹_› ‹_› _|exact abh _ _|exact abi _|exact abY ‹_› ‹_› _|exact pZ _|exact aby ‹_› ‹_› _ _|exact abD ‹_› ‹_› _|exact NH ‹_› ‹_› _ _|exact dL _|exact Na ‹_› ‹_› _|exact n3 ‹_› _|exact abH ‹_› ‹_› _ _ _|exact DF ‹_› _|exact abV ‹_› _ _ _|exact DD ‹_› _ _|exact j6 ‹_› _|exact Hw ‹_› _ _|exact abZ _|exact abe ‹_› ‹_› _ _|exact M8 _|exact aaT ‹_› ‹_› _ _ _ _|exact abR ‹_› ‹_› _ _ _|exact M7 ‹_› ‹_› _|exact abS ‹_› ‹_› _ _ _ _ _ _|exact abP ‹_› ‹_› _ _ _ _ _|exact o8 ‹_› _|exact mj ‹_› ‹_› _|exact BF _|exact M9 _|exact Hi _|exact uw ‹_› _ _ _|exact DC _|exact abG ‹_› |exact ab1 ‹_› ‹_› _ _|exact NK ‹_› ‹_› _ _ _|exact NJ ‹_› _|exact Nf ‹_› ‹_› _ _ _ _|exact Ni ‹_› ‹_› _ _ _ _|exact Cy Y|exact Nj ‹_› ‹_› _ _ _|exact Hr ‹_› ‹_› _ _ _ _|exact Nr _ _|exact At _ _ _|exact Nv _|exact BG _ _ _|exact Hs ‹_› _|exact ab6 ‹_› ‹_› _ _ _|exact abr ‹_› ‹_› _ _ _|exact Nz ‹_› ‹_› _|exact(Nn ‹_› ‹_› _) _ _|exact abJ ‹_› _ _|exact NL ‹_› ‹_› _ _ _ _ _|exact Nn ‹_› ‹_› _ _ _|exact abK ‹_› ‹_› _ _ _ _|exact(NA ‹_› ‹_› _) _ _ _|exact(No ‹_› ‹_› _) _ _|exact(ND ‹_› ‹_› _) _ _ _|exact No ‹_› ‹_› _ _ _|exact BI _ _|exact Hl _|exact Nd ‹_› ‹_› _|exact abI ‹_› ‹_› _)|(refine Dz _ (λ_ _=>?_) ?_)|(refine g7 _ ?_;rfl)|exact DD ‹_› _ _|exact Nr _ _|exact At _ _ _|exact BG _ _ _|exact NL ‹_› ‹_› _ _ _ _ _|assumption|(refine w5 _ _ λ_ _=>?_)|(refine yC _ _ λ_ _=>?_)|(refine bK ?_ λ_=>?_)|(refine nF ?_ ?_)|intro _|split|(dsimp only)|exact trivial)):a:=h
end Go.Proofs.YtjidbonhhpkljaaGreat
namespace Go.Proofs.YtjidbonhhpkljaaGreat
namespace Cc
open Go
structure Twin(P P':bn):Prop where
 info:∀t,P'.info? t=P.info? t
 gL:∀t,g9 P' t=g9 P t
 rt:P'.rt=P.rt
 cells:∀t,sY P' t=sY P t
 bytes:∀t,P'.bytesOf t=P.bytesOf t
 depth:P'.depth=P.depth
 mh:∀d e c o u n,liesAt P' d e c o u n=liesAt P d e c o u n
 cellAt:∀d e c o b,cellAtBytes P' d e c o b=cellAtBytes P d e c o b
 Rj:∀d t o,byteOfCell P' d t o=byteOfCell P d t o
 JG:∀d t,P'.eqGuardType d t=P.eqGuardType d t
 NQ:∀t,P'.stoodInHeld t=P.stoodInHeld t
 YL:∀d t,P'.holdsPacked d t=P.holdsPacked d t
 Cu:P'.globals=P.globals
 godebug:P'.godebug=P.godebug
 Oi:P'.types=P.types
 Us:∀f:Nat,P'.funcs[f]? =P.funcs[f]? \/∃fn fn':cF,P.funcs[f]? =K fn/\P'.funcs[f]? =K fn'/\fn'.name=fn.name/\nQ fn.body=aj/\nQ fn'.body=aj
section
variable{J:Type}
abbrev St(P P':bn)(O:cz->Prop)(s:dh J):Prop:=Still P P' O (λ_=>True) s
def rI{Q:J->Prop}{a:H->Prop}{s:dh J}{f:J->dh H}(d:Still P P' O Q s)(c:∀b,Q b->Still P P' O a (f b)):Still P P' O a (s >>= f):=Still.bind P P' O c d
def bK{b:H->Prop}{s:dh J}{f:J->dh H}(d:St P P' O s)(c:∀a,Still P P' O b<|f a):Still P P' O b (s >>= f):=Still.bind P P' O (λa _=>c a) d
def nF{a:J->Prop}{b:Prop} [Decidable b]{s c:dh J}(d:Still P P' O a s)(e:Still P P' O a c):Still P P' O a (if b then s else c):=bu
def aaI{a:J->Prop}{s:dh J}(b:Still P P' O a s):St P P' O s:=b.mono P P' O λ_ _=>trivial
def mQ{a:J->Prop}{f:bn->dh J}(h:f P=f P')(b:Still P P' O a (f P)):Still P P' O a (program >>= f):=⟨h,b⟩
def dL{a:J->Prop}(s:String):Still P P' O a (stuck s):=rfl
def g7{b:J->Prop}(a:Unsupported)(h:sK (.unsupported a)=af):Still P P' O b (unsupported a):=h
def DC{a:J->Prop}(v:F):Still P P' O a (goPanic v):=rfl
def BI(a:aL)(m:Mode):St P P' O (load a m):=λ_=>trivial
def abT(a:aL)(v:F)(m:Mode):St P P' O (store a v m):=trivial
def Hx(a:Nat):St P P' O (shape a):=λ_=>trivial
def abi(a:aL):St P P' O (frozen a):=λ_=>trivial
def abh(a:aL)(b:Nat):St P P' O (freeze a b):=trivial
def pZ(a:Question):St P P' O (choose a):=λ_=>trivial
def Dz{a:H->Prop}(e:Nat){f:cz->dh H}(c:∀b,O b->Still P P' O a (f b))(d:Gx f):Still P P' O a (getObj e >>= f):=⟨c,d⟩
def Cy{f:cz->dh H}{s:String}(h:f pz= .halt (.stuck s)):Gx f:=av ⟨s,h⟩
def UX{f:cz->dh H}(c:∀h,f (fj h)=f pz)(d:∀b,f (kT b)=f pz)(e:∀a i,f (.pending a i)=f pz)(g:∀j,f (.coro j)=f pz):Gx f:=ai ⟨c,d,e,g⟩
def As(a:Nat)(h:O Ql):St P P' O (setObj a Ql):=⟨h,trivial⟩
def Ar(h:O Ql):St P P' O (newObj Ql):=⟨h,λ_=>trivial⟩
def NE:St P P' O (mark .noRoom):=⟨av Y,trivial⟩
def M9(a:Nat):St P P' O (askRoom a):=by unfold askRoom;split;exact NE;exact trivial
def M8(v:F):St P P' O (asIntOf v):=by unfold asIntOf;split<;>first|exact trivial|exact dL _|exact rfl
def BF(v:F):St P P' O (asInt v):=bK (M8 v) λ_=>trivial
def Hj(v:F):St P P' O (asBool v):=by unfold asBool;split<;>first|exact trivial|exact dL _
def Hl(v:F):St P P' O (asString v):=by unfold asString;split<;>first|exact trivial|exact dL _
def Hi(v:F):St P P' O (asAgg v):=by unfold asAgg;split<;>first|exact trivial|exact dL _
def o8(a:Twin P P')(b:aP):St P P' O (ko b):=by
 unfold ko;refine mQ (by rw[a.info]) ?_
 split
 exact trivial;exact dL _
def j6(a:Twin P P')(b:aP):St P P' O (rq b):=by
 unfold rq;refine mQ (by rw[a.gL]) ?_
 split
 exact trivial;exact dL _
def DF(b:Twin P P')(a:aP):St P P' O (lG a):=by
 unfold lG;refine bK (o8 b a) λc=>?_
 split
 exact trivial;exact g7 _ Y
def n3(b:Twin P P')(a:aP):St P P' O (lZ a):=bK (o8 b a) λ_=>trivial
def Nu(b:Twin P P')(a:aP):St P P' O (isAgg a):=by
 unfold isAgg;refine bK (j6 b a) λc=>?_
 split<;>exact trivial
def NJ(b:Twin P P')(a:aP):St P P' O (typeStr a):=by
 unfold typeStr;refine bK (o8 b a) λc=>?_;dsimp only
 split
 exact g7 _ Y;exact trivial
def Hs(b:Twin P P')(a:aP):St P P' O (elemOf a):=by
 unfold elemOf;refine bK (j6 b a) λc=>?_
 split
 exact trivial;exact dL _
theorem Nw(c:aL):∀(n b:Nat) (a:Array F),St P P' O (loadCellsFrom c b n a)
 |0,b,a=>trivial
 |n+1,b,a=>bK (BI _ _) λv=>Nw c n (b+1)<|iz a v
def Hv(a:aL)(b:Nat):St P P' O (loadCells a b):=Nw a b 0 #[]
theorem At(b:aL):∀(d:List F) (a:Nat),St P P' O (storeCells b d a)
 | [],a=>trivial
 |v::c,a=>bK (abT _ _ _) λ_=>At b c<|a+1
def DD(c:Plain O)(b:aP)(a:Array F):St P P' O (newRow b a):=bK (Ar<|c.cells a b (0,0)) λ_=>trivial
def NC(b:Plain O)(a:aP)(v:F):St P P' O (newVar a v):=DD b a v.cells
def uw(b:Twin P P')(a:aP)(c:Array F)(d:Nat):St P P' O (part a c d):=by
 unfold part;refine bK (Nu b a) λe=>?_
 split
 exact bK (n3 b a) λ_=>trivial
 split
 exact trivial;exact dL _
def Hw(b:Twin P P')(a:aP)(c:aL):St P P' O (loadVar a c):=by
 unfold loadVar;refine bK (Nu b a) λd=>?_
 split
 exact bK (n3 b a) λ_=>bK (Hv _ _) λ_=>trivial;exact BI _ _
def abV(c:Twin P P')(a:aP)(b:aL)(v:F):St P P' O (storeVar a b v):=by
 unfold storeVar;refine bK (n3 c a) λd=>?_;dsimp only
 split
 exact bK (dL _) λ_=>At _ _ _;exact At _ _ _
def mj(a:Twin P P')(c:Plain O){d:J->Prop}(b:RuntimeError):Still P P' O d (runtimePanic b):=by
 unfold runtimePanic;refine mQ ?_ ?_;dsimp only;rw[a.rt];cases b<;>first|rfl|(simp only[typeHandle,a.Cu])
 dsimp only;cases b with
 |typeAssertion g f e m=>exact bK (Hs a _) λ_=>bK (NC c _ _) λ_=>DC _
 |panicNil=>exact bK (Hs a _) λ_=>bK (NC c _ _) λ_=>DC _
 |_=>exact DC _
def M7(b:Twin P P')(a:Plain O)(v:F):St P P' O (asAddr v):=by
 unfold asAddr
 split
 exact trivial;exact mj b a _;exact dL _
def aaT(b:Twin P P')(a:Plain O){c:J->Prop}(e:oe)(f g:Int)(d:BoundsCode):Still P P' O c (boundsPanic e f g d):=by
 unfold boundsPanic;dsimp only
 split
 exact bK (bK (pZ _) λ_=>trivial) λ_=>mj b a _;exact bK trivial λ_=>mj b a _
def ab7(c:Twin P P')(b:Plain O)(a:Nat):St P P' O (viewAt a):=by unfold viewAt;exact eE
def abE(c:Twin P P')(b:Plain O)(a:Nat):St P P' O (numberAt a):=by unfold numberAt;exact eE
def wY(c:Twin P P')(b:Plain O)(a:aL):St P P' O (ki a):=by unfold ki;exact eE
def abD(c:Twin P P')(b:Plain O)(a:aL):St P P' O (noView a):=by unfold noView;exact eE
def Nz(c:Twin P P')(b:Plain O)(a:aL):St P P' O (markStringish a):=by unfold markStringish;exact eE
def abY(c:Twin P P')(b:Plain O)(a:aL):St P P' O (stringish a):=by unfold stringish;exact eE
def aby(d:Twin P P')(c:Plain O)(a b:aL):St P P' O (mayBeOne a b):=by unfold mayBeOne;exact eE
def NH(d:Twin P P')(c:Plain O)(a b:aL):St P P' O (sameAddr a b):=by unfold sameAddr;exact eE
def abN(d:Twin P P')(c:Plain O)(a b:Option aL):St P P' O (samePointer a b):=by unfold samePointer;exact eE
def Na(a:Twin P P')(c:Plain O)(b:aL):St P P' O (byteOf b):=by
 unfold byteOf;dsimp only
 split
 exact trivial
 .refine mQ (by simp only[a.cells,a.bytes,a.Rj,a.depth]) ?_;exact eE
def abH(e:Twin P P')(d:Plain O)(a:aL)(c b:Nat):St P P' O (partAt a c b):=by unfold partAt;exact eE
def abe(c:Twin P P')(b:Plain O)(a:aL)(f:Field):St P P' O (fieldPlace a f):=by unfold fieldPlace;exact eE
def ab6(a:Twin P P')(e:Plain O)(b:aL)(d:aP)(c:Nat):St P P' O (variablesAt b d c):=by
 unfold variablesAt;refine mQ (by simp only[a.cells,a.mh,a.depth]) ?_;exact eE
def abr(f:Twin P P')(e:Plain O)(b:aL)(c:ByteArray)(a:Nat):St P P' O (loadBytes b c a):=by
 induction a generalizing b c with
 |zero=>exact trivial
 |succ a d=>unfold loadBytes;((try dsimp only);repeat' first|exact dL _|exact BI _ _|exact d _ _|assumption|(refine bK ?_ λ_=>?_)|intro _|split|(dsimp only)|exact trivial)
theorem Ht{d:Type}{f:J->d->dh (ForInStep d)}:∀(c:List J) (a:d),(∀x a,St P P' O<|f x a)->St P P' O (forIn c a f)
 | [],a,b=>by simp only[List.forIn_nil];exact trivial
 |x::c,a,b=>by
  simp only[List.forIn_cons];refine bK (b x a) λs=>?_;cases s with
  |done a=>exact trivial
  |yield a=>exact Ht c a b
def w5{b:Type}{f:J->b->dh (ForInStep b)}(c:Array J)(a:b)(h:∀d a,St P P' O<|f d a):St P P' O (forIn c a f):=by
 rw[<-Array.forIn_toList];exact Ht _ _ h
def yC{b:Type}{f:Nat->b->dh (ForInStep b)}(c:Nat)(a:b)(h:∀d a,St P P' O<|f d a):St P P' O (forIn [0:c] a f):=by
 rw[Ix];exact Ht _ _ h
theorem Ny(a:J->dh H):∀(c:List J),(∀x,St P P' O<|a x)->St P P' O (c.mapM a)
 | [],b=>bV List.mapM_nil trivial
 |x::c,b=>by
  rw[List.mapM_cons];exact bK (b x) λ_=>bK (Ny a c b) λ_=>trivial
def Nx(a:J->dh H)(b:Array J)(h:∀c,St P P' O<|a c):St P P' O (b.mapM a):=by
 rw[Array.mapM_eq_mapM_toList];exact bK (Ny a _ h) λ_=>trivial
theorem Nm{e:Type}(b:e->J->dh e):∀(d:List J) (a:e),(∀a x,St P P' O<|b a x)->St P P' O (d.foldlM b a)
 | [],a,c=>trivial
 |x::d,a,c=>by
  rw[List.foldlM_cons];exact bK (c a x) λ_=>Nm b d _ c
def abZ(v:F):St P P' O (tR v):=by unfold tR;split<;>first|exact trivial|exact dL _
def aaM(c:Twin P P')(b:Plain O)(a:aP)(h:Bool)(v:F):St P P' O (Instr.alloc a h v):=by unfold Instr.alloc;exact eE
def aaU(c:Twin P P')(b:Plain O)(a:aP)(v:F):St P P' O (Instr.box a v):=by unfold Instr.box;exact eE
def aaV(a:Twin P P')(d:Plain O)(b:aP)(c:Array (Nat×F)):St P P' O (Instr.build b c):=by
 unfold Instr.build;refine bK (DF a b) λh=>?_;dsimp only;refine bK (j6 a b) λg=>?_
 split
 .refine bK (Nx _ _ λf=>bK (n3 a _) λ_=>trivial) λe=>?_;exact eE
 ·((try dsimp only);repeat' first|exact j6 a _|exact DF a _|exact n3 a _|exact dL _|assumption|(refine bK ?_ λ_=>?_)|intro _|split|(dsimp only)|exact trivial)
 exact dL _
def aaW(e:Twin P P')(d:Plain O)(c:aP)(a:Nat)(b:Array (Nat×F)):St P P' O (yT c a b):=by unfold yT;exact eE
def abq(c:Twin P P')(b:Plain O)(a:aP)(v:F):St P P' O (xm a v):=by unfold xm;exact eE
def abU(d:Twin P P')(c:Plain O)(b:aP)(a v:F):St P P' O (yY b a v):=by unfold yY;exact eE
def abd(d:Twin P P')(c:Plain O)(b:aP)(a:F)(f:Nat):St P P' O (Instr.fieldAt b a f):=by unfold Instr.fieldAt;exact eE
def abk(e:Twin P P')(d:Plain O)(c:aP)(a b:F):St P P' O (Instr.indexAt c a b):=by unfold Instr.indexAt;exact eE
def abR(e:Twin P P')(d:Plain O)(b:F)(c:Nat)(a:BoundsCode):St P P' O (Instr.sliceBound b c a):=by unfold Instr.sliceBound;exact eE
def abS(f:Twin P P')(e:Plain O)(s:Bool)(d c:Nat)(a b m:Option F):St P P' O (yX s d c a b m):=by unfold yX;exact eE
def abP(f:Twin P P')(e:Plain O)(c:aP)(d:F)(a b m:Option F):St P P' O (Instr.slice c d a b m):=by unfold Instr.slice;exact eE
def abQ(f:Twin P P')(e:Plain O)(c:aP)(d:F)(a b m:Option F):St P P' O (Instr.sliceAt c d a b m):=by unfold Instr.sliceAt;exact eE
def abu(d:Twin P P')(c:Plain O)(a:aP)(b:F):St P P' O (Instr.makeInterface a b):=by unfold Instr.makeInterface;exact eE
def abw(e:Twin P P')(d:Plain O)(c:aP)(a b:F):St P P' O (yW c a b):=by unfold yW;exact eE
def abv(d:Twin P P')(g:Plain O)(c:∀b a,O<|.map b a)(f:aP)(e:Option F):St P P' O (Instr.makeMap f e):=by unfold Instr.makeMap;((try dsimp only);repeat' first|exact j6 d _|exact dL _|exact BF _|exact Ar (c _ _)|assumption|(refine bK ?_ λ_=>?_)|intro _|split|(dsimp only)|exact trivial)
def abc(d:Twin P P')(c:Plain O)(a:aP)(b:F)(f:Nat):St P P' O (Instr.field a b f):=by unfold Instr.field;exact eE
def abj(e:Twin P P')(d:Plain O)(b:aP)(c a:F):St P P' O (Instr.index b c a):=by unfold Instr.index;exact eE
def abb(v:F)(a:Nat):St P P' O (Instr.extract v a):=by
 unfold Instr.extract
 split
 split
 exact trivial;exact dL _;exact dL _
def abG(a:Twin P P'):St P P' O Instr.panicnil:=by
 unfold Instr.panicnil;refine bK ⟨rfl,λ_=>trivial⟩ λb=>?_
 split
 dsimp only;exact mQ (by rw[a.godebug]) trivial;exact dL _
def abF(c:Twin P P')(b:Plain O)(a:F):St P P' O (Instr.panic a):=by unfold Instr.panic;exact eE
end
section
variable{J:bn}{R:Type}
def Ns(b:kE)(a:oe)(c d:Int):St P J O (Op.intArith b a c d):=by unfold Op.intArith;split<;>first|exact trivial|exact dL _
def abm(f:Twin P J)(e:Plain O)(b:kE)(a:oe)(c d:Int):St P J O (Op.intDiv b a c d):=by unfold Op.intDiv;exact eE
def Nt(b:kE)(a:oe)(c d:Int):St P J O (Op.intBits b a c d):=by unfold Op.intBits;dsimp only;split<;>first|exact trivial|exact dL _
def abl(a:kE)(b c:Int):St P J O (Op.intCmp a b c):=by unfold Op.intCmp;split<;>first|exact trivial|exact dL _
def abO(g:Twin P J)(f:Plain O)(b:kE)(a:oe)(c:Int)(e:oe)(d:Int):St P J O (Op.shift b a c e d):=by unfold Op.shift;exact eE
def Nk(b:kE)(a:od)(c d:Nat):St P J O (Op.floatArith b a c d):=by
 unfold Op.floatArith;dsimp only
 split
 all_goals first|exact bK (dL _) λ_=>(by split<;>first|exact trivial|exact bK (pZ _) λ_=>trivial)|exact bK trivial λ_=>(by split<;>first|exact trivial|exact bK (pZ _) λ_=>trivial)
def Nl(b:kE)(a:od)(c d:Nat):St P J O (Op.floatCmp b a c d):=by unfold Op.floatCmp;dsimp only;split<;>first|exact trivial|exact dL _
def abf(s:od)(a:Nat)(b:od):St P J O (Conv.floatToFloat s a b):=by
 unfold Conv.floatToFloat
 (try dsimp only)
 repeat' first|exact trivial|exact dL _|exact pZ _|refine bK ?_ (λ_=>?_)|intro _|split|dsimp only
def Dy(b:kE)(a:od)(c d:Nat):St P J O (BS b a c d):=by
 unfold BS;refine bK (Nk _ _ _ _) λ_=>?_
 split<;>first|exact trivial|exact dL _
def Ho(b:kE)(a:od)(c d:Nat):St P J O (D3 b a c d):=by
 unfold D3;exact bK (Nl _ _ _ _) λ_=>Hj _
def wZ(s:od)(a:Nat)(b:od):St P J O (BT s a b):=by
 unfold BT
 split
 exact trivial;refine bK (abf _ _ _) λ_=>?_
 split<;>first|exact trivial|exact dL _
def aaZ(a b c d:Nat):St P J O (Ii a b c d):=by
 unfold Ii Ik Ih Ig
 repeat' first|exact trivial|exact Dy _ _ _ _|refine bK ?_ λ_=>?_
def aa0(a b c d:Nat):St P J O (Ij a b c d):=by
 unfold Ij O4 Ik Ih Ig O5
 repeat' first|exact Dy _ _ _ _|exact Ho _ _ _ _|refine bK ?_ (λ_=>?_)|split|dsimp only|exact trivial
def aa2(f:kE)(e:od)(a b c d:Nat):St P J O (Op.complexOp f e a b c d):=by
 unfold Op.complexOp
 split
 all_goals first
  |exact bK (Dy _ _ _ _) λ_=>bK (Dy _ _ _ _) λ_=>trivial
  |exact bK (Ho _ _ _ _) λ_=>bK (Ho _ _ _ _) λ_=>trivial
  |exact dL _
  |(refine bK (wZ _ _ _) λ_=>bK (wZ _ _ _) λ_=>bK (wZ _ _ _) λ_=>bK (wZ _ _ _) λ_=>?_;dsimp only
    split
    exact bK (aaZ _ _ _ _) λ_=>bK (wZ _ _ _) λ_=>bK (wZ _ _ _) λ_=>trivial;exact bK (aa0 _ _ _ _) λ_=>bK (wZ _ _ _) λ_=>bK (wZ _ _ _) λ_=>trivial)
def NI(a:kE)(b c:ByteArray):St P J O (Op.stringOp a b c):=by
 unfold Op.stringOp
 repeat' first|exact trivial|exact dL _|exact g7 _ Y|split|dsimp only
def ab3(a:UnOp)(b:F):St P J O (Op.unary a b):=by
 unfold Op.unary
 repeat' first|exact trivial|exact dL _|exact g7 _ Y|exact Ns _ _ _ _|exact Nt _ _ _ _|split|dsimp only
def ab1(c:Twin P J)(d:Plain O)(a b:aL):St P J O (Op.twoPlaces a b):=by
 unfold Op.twoPlaces;refine mQ (by rw[c.Cu]) ?_;exact eE
def aaL(e:Twin P J)(d:Plain O)(c:oe)(a b:aL):St P J O (Op.addrSub c a b):=by unfold Op.addrSub;exact eE
def aaJ(e:Twin P J)(d:Plain O)(c:kE)(a b:aL):St P J O (Op.addrCmp c a b):=by unfold Op.addrCmp;exact eE
def aaK(e:Twin P J)(d:Plain O)(b:oe)(a:aL)(c:Int):St P J O (Op.addrMod b a c):=by unfold Op.addrMod;exact eE
def NK(b:Twin P J)(r:Plain O)(o:Array aP)(n:aP)(d:Array F):St P J O (yP o n d):=by
 have f:∀s:String,St P J O (stuck s:dh F):=λs=>dL s;unfold yP;have⟨h⟩:=d;rcases h with _|⟨a,_|⟨p,_|⟨q,h⟩⟩⟩
 case cons.cons.nil=>
  cases a with
  |pointer m=>
   dsimp only;refine bK (BF _) λk=>?_
   split
   .exact eE
   .have g:St P J O (match m with
     |some a=>do
      let i <-shape (cD a)
      match i with
       |some (e,j)=>do
        let c <-program
        match cellAtBytes c c.depth e (j/sY c e) a.off k with
         |some l=>pure<|cU<|K {block:=cD a,off:=l,spot:=a.spot}
         |none=>unsupported<|Il "Add"
       |x=>unsupported<|Il "Add"
     |x=>unsupported (Il "Add"):dh F):=by
     split
     .refine bK (Hx _) λs=>?_
      split
      .refine mQ (by simp only[b.cells,b.cellAt,b.depth]) ?_;exact eE
      exact g7 _ Y
     exact g7 _ Y
    split
    exact bK (g7 _ Y) λ_=>g;exact g
  |_=>exact f _
 all_goals exact f _
def aaP(c:∀a b,O<|.number a b)(a:aL)(d:Bool):St P J O (asNumber a d):=bK (Ar<|c _ _) λ_=>trivial
def NB(a:Twin P J)(b:Plain O)(e:∀c d,O<|.number c d)(f:aP)(g h:F):St P J O (movedNumber f g h):=by unfold movedNumber;((try dsimp only);repeat' first|exact j6 a _|(refine g7 _ ?_;rfl)|exact NK a b _ _ _|exact wY a b _|exact aaP e _ _|assumption|(refine bK ?_ λ_=>?_)|(refine nF ?_ ?_)|intro _|split|(dsimp only)|exact trivial)
def abC(e:Twin P J)(d:Plain O)(a:aP)(b c:F):St P J O (movedPointer a b c):=by unfold movedPointer;exact eE
theorem Nh(a:Twin P J)(b:Plain O):∀(d:Nat) (c:aP) (f g:F),St P J O (uP d c f g)
 |0,c,f,g=>g7 _ Y
 |d+1,c,f,g=>by
  have e:=Nh a b d;unfold uP;refine bK (j6 a c) λk=>?_
  split
  all_goals first
   |exact trivial
   |exact dL _
   |exact g7 _ Y
   |exact abN a b _ _
   |exact nF trivial<|dL _
   |(refine bK (wY a b _) λh=>?_;refine bK (wY a b _) λi=>?_;dsimp only;refine mQ (by rw[a.Cu]) ?_
     ((try dsimp only);repeat' first|exact o8 a _|exact j6 a _|exact n3 a _|exact dL _|exact mj a b _|exact pZ _|(refine g7 _ ?_;rfl)|exact uw a _ _ _|exact Na a b _|assumption|(refine bK ?_ λ_=>?_)|(refine nF ?_ ?_)|intro _|split|(dsimp only)|exact trivial))
   |(refine bK (n3 a _) λj=>?_
     ((try dsimp only);repeat' first|exact o8 a _|exact j6 a _|exact n3 a _|exact dL _|exact mj a b _|exact pZ _|(refine g7 _ ?_;rfl)|exact uw a _ _ _|exact NH a b _ _|assumption|(refine bK ?_ λ_=>?_)|(refine nF ?_ ?_)|intro _|split|(dsimp only)|exact trivial))
   |skip
  .refine nF trivial ?_;refine bK (o8 a _) λinfo=>?_;dsimp only
   split
   .refine mQ (by simp only[a.YL]) ?_;refine mQ (by simp only[a.depth]) ?_;exact eE
   exact e _ _ _
  .refine mQ (by rw[a.NQ]) ?_
   ((try dsimp only);repeat' first|exact o8 a _|exact j6 a _|exact n3 a _|exact dL _|exact mj a b _|exact pZ _|(refine g7 _ ?_;rfl)|exact uw a _ _ _|exact e _ _ _|assumption|(refine w5 _ _ λ_ _=>?_)|(refine yC _ _ λ_ _=>?_)|(refine bK ?_ λ_=>?_)|(refine nF ?_ ?_)|intro _|split|(dsimp only)|exact trivial)
  ·((try dsimp only);repeat' first|exact o8 a _|exact j6 a _|exact n3 a _|exact dL _|exact mj a b _|exact pZ _|(refine g7 _ ?_;rfl)|exact uw a _ _ _|exact e _ _ _|assumption|(refine w5 _ _ λ_ _=>?_)|(refine yC _ _ λ_ _=>?_)|(refine bK ?_ λ_=>?_)|(refine nF ?_ ?_)|intro _|split|(dsimp only)|exact trivial)
def Ng(e:Twin P J)(d:Plain O)(a:aP)(b c:F):St P J O (Op.equal a b c):=Nh e d _ a b c
theorem Nf(a:Twin P J)(g:Plain O):∀(d:Nat) (b:aP) (c e:F),St P J O (Op.eqGuardIn d b c e)
 |0,b,c,e=>g7 _ Y
 |d+1,b,c,e=>by
  have f:=Nf a g d;unfold Op.eqGuardIn;refine bK (j6 a b) λh=>?_
  split
  exact trivial
  ·((try dsimp only);repeat' first|exact j6 a _|exact n3 a _|(refine g7 _ ?_;rfl)|exact uw a _ _ _|exact f _ _ _|assumption|(refine w5 _ _ λ_ _=>?_)|(refine yC _ _ λ_ _=>?_)|(refine bK ?_ λ_=>?_)|(refine nF ?_ ?_)|intro _|split|(dsimp only)|exact trivial)
  ·((try dsimp only);repeat' first|exact j6 a _|exact n3 a _|(refine g7 _ ?_;rfl)|exact uw a _ _ _|exact f _ _ _|assumption|(refine w5 _ _ λ_ _=>?_)|(refine yC _ _ λ_ _=>?_)|(refine bK ?_ λ_=>?_)|(refine nF ?_ ?_)|intro _|split|(dsimp only)|exact trivial)
  exact trivial
def aa8(a:Twin P J)(h:Plain O)(d:kE)(e:aP)(f g:eg)(b c:F):St P J O (eqGuard d e f g b c):=by
 unfold eqGuard;refine nF trivial ?_
 split
 .exact eE
 .refine mQ (by simp only[a.JG]) ?_;refine mQ (by simp only[a.depth]) ?_;exact eE
 exact trivial
def aaR(a:Twin P J)(b:Plain O)(c:∀d e,O<|.number d e)(f:kE)(g:aP)(h i:F):St P J O (binOp f g h i):=by
 unfold binOp
 split
 all_goals first
  |exact abO a b _ _ _ _ _
  |exact NI _ _ _
  |exact g7 _ Y
  |exact dL _
  |exact NB a b c _ _ _
  |exact bK (Ng a b _ _ _) λ_=>trivial
  |(refine nF (dL _) ?_
    split<;>first|exact Ns _ _ _ _|exact abm a b _ _ _ _|exact Nt _ _ _ _|exact abl _ _ _|exact Nk _ _ _ _|exact Nl _ _ _ _)
  |exact nF (dL _)<|aa2 _ _ _ _ _ _
  |(refine bK (j6 a _) λj=>?_
    split<;>first|exact abC a b _ _ _|exact NB a b c _ _ _)
  |exact bK (wY a b _) λ_=>bK (wY a b _) λ_=>aaL a b _ _ _
  |exact bK (wY a b _) λ_=>bK (wY a b _) λ_=>aaJ a b _ _ _
  |exact bK (wY a b _) λ_=>aaK a b _ _ _
theorem Hr(a:Twin P J)(b:Plain O)(e:Bool):∀(n:Nat) (c:aP) (v:F),St P J O (yU e n c v)
 |0,c,v=>g7 _ Y
 |n+1,c,v=>by
  have d:=Hr a b e n;unfold yU;refine bK (j6 a c) λf=>?_
  split
  ·((try dsimp only);repeat' first|exact o8 a _|exact j6 a _|exact n3 a _|exact dL _|exact mj a b _|(refine g7 _ ?_;rfl)|exact uw a _ _ _|exact d _ _|exact NJ a _|assumption|(refine bK ?_ λ_=>?_)|(refine nF ?_ ?_)|intro _|split|(dsimp only)|exact trivial)
  ·((try dsimp only);repeat' first|exact o8 a _|exact j6 a _|exact n3 a _|exact dL _|exact mj a b _|(refine g7 _ ?_;rfl)|exact uw a _ _ _|exact d _ _|assumption|(refine w5 _ _ λ_ _=>?_)|(refine yC _ _ λ_ _=>?_)|(refine bK ?_ λ_=>?_)|(refine nF ?_ ?_)|intro _|split|(dsimp only)|exact trivial)
  ·((try dsimp only);repeat' first|exact o8 a _|exact j6 a _|exact n3 a _|exact dL _|exact mj a b _|(refine g7 _ ?_;rfl)|exact uw a _ _ _|exact d _ _|assumption|(refine w5 _ _ λ_ _=>?_)|(refine yC _ _ λ_ _=>?_)|(refine bK ?_ λ_=>?_)|(refine nF ?_ ?_)|intro _|split|(dsimp only)|exact trivial)
  all_goals first|exact trivial|exact dL _
theorem Ni(d:Twin P J)(c:Plain O)(g:aP)(f:F):∀(b:List MapEntry) (a:Nat),St P J O (Instr.findAsking g f b a)
 | [],a=>trivial
 |e::b,a=>by
  unfold Instr.findAsking;refine bK (Ng d c _ _ _) λh=>?_
  split
  exact trivial;exact Ni d c g f b<|a+1
def Nj(e:Twin P J)(d:Plain O)(c:aP)(b:F)(a:List MapEntry):St P J O (yV c b a):=by unfold yV;exact eE
def abt(f:Twin P J)(e:Plain O)(c:aP)(d b:F)(a:Bool):St P J O (Instr.lookup c d b a):=by unfold Instr.lookup;exact eE
def abx(a:Twin P J)(b:Plain O)(e:∀d c,O<|.map d c)(g:aP)(m f v:F):St P J O (Instr.mapUpdate g m f v):=by unfold Instr.mapUpdate Instr.keyThatStays;((try dsimp only);repeat' first|exact j6 a _|exact dL _|exact mj a b _|exact pZ _|(refine Dz _ (λ_ _=>?_) ?_)|exact Cy Y|exact Nj a b _ _ _|exact Hr a b _ _ _ _|exact As _ (e _ _)|assumption|(refine bK ?_ λ_=>?_)|(refine nF ?_ ?_)|intro _|split|(dsimp only)|exact trivial)
def aaY(f:Twin P J)(e:Plain O)(a:F):St P J O (Conv.bytesToString a):=by
 unfold Conv.bytesToString
 split
 exact trivial;refine bK (Hv _ _) λd=>?_;dsimp only;refine bK (w5 _ _ λc b=>?_) λ_=>trivial
 split
 exact trivial;exact dL _;exact dL _
def DE(d:Twin P J)(b:aP):Still P J O (λa=>g9 P b=K a) (rq b):=by
 unfold rq;refine mQ (by rw[d.gL]) ?_
 split
 rename_i a c;exact c;exact dL _
def EL (P:bn)(s a:aP):Bool:=match (g9 P) s,g9 P a with
 |some (.int _),K (.int _)=>af
 |some (.slice b),K .string=>match (g9 P) b with|some (.int .u8)=>af|_=>aj
 |some (.slice _),K (.slice _)=>af
 |_,_=>aj
def Nv(a:F):St P J O (uL a):=by unfold uL;split<;>first|exact trivial|exact dL _
def BG(s a:Nat)(b:F):St P J O (uK s a b):=by unfold uK;split<;>first|exact trivial|exact Hv _ _|exact dL _
def Nr(a:aL)(b:Nat):St P J O (Builtin.holdsCells a b):=by unfold Builtin.holdsCells;refine bK (Hx _) λs=>?_;split<;>exact trivial
def abz(g:Twin P J)(f:Plain O)(a b c:Nat)(d:Option aL)(e:F):St P J O (AL a b c d e):=by unfold AL;exact eE
def aa4(e:Twin P J)(d:Plain O)(c:Array aP)(b:aP)(a:Array F):St P J O (sV c b a):=by unfold sV;exact eE
def abp(e:Twin P J)(d:Plain O)(c:Array aP)(b:aP)(a:Array F):St P J O (Builtin.len_ c b a):=by unfold Builtin.len_;exact eE
def abB(a b:F):St P J O (Builtin.min2 a b):=by
 unfold Builtin.min2
 repeat' first|exact dL _|exact g7 _ Y|exact pZ _|exact NI _ _ _|exact Hj _|refine bK ?_ (λ_=>?_)|split|dsimp only|exact trivial
def abA(d:Array aP)(c:aP)(a:Array F):St P J O (Builtin.min_ d c a):=by
 unfold Builtin.min_
 split
 exact dL _;exact Nm _ _ _ λb e=>abB b e
def ab5(j:Twin P J)(i:Plain O)(f:Array aP)(e:aP)(a:Array F):St P J O (Builtin.unsafeString_ f e a):=by
 have b:∀s:String,St P J O (stuck s:dh F):=λs=>dL s;unfold Builtin.unsafeString_;have⟨c⟩:=a;rcases c with _|⟨d,_|⟨g,_|⟨h,c⟩⟩⟩
 case cons.cons.nil=>
  cases d with
  |pointer k=>
   dsimp only;exact eE
  |_=>exact b _
 all_goals exact b _
end
def x2 (a:aP)(e m b d:Nat)(i:Option aL)(k:F):dh F:=do
 let c <-choose (Question.appendCap (m+b) d a);let g <-ko a
 askRoom (c*jm g)
 let j <-uK e m (ah i m d);let h <-uK e b k;let l <-lG a;let f <-newRow a (j++h++Builtin.zeroCells l.cells (c-(m+b)))
 pure (ah (K f) (m+b) c)
def xZ (c:aP)(e m a b:Nat)(d:Option aL)(f:F):dh F:=do
 let h <-ko c
 if Builtin.nextslicecap (m+a) b*jm h>2^48 then
  (do
    let g <-AL e m a d f
    if (!g)=af then do
     mark Mark.noRoom
     unsupported (O6 "append: a slice or a string whose bytes no memory bears")
    else unsupported (O6 "append: a slice or a string whose bytes no memory bears"):dh PUnit) >>= λ_=>x2 c e m a b d f
 else x2 c e m a b d f
def zu (e:aP)(d m a b:Nat)(c:Option aL)(f:F):dh F:=
 if m+a<=b then do
  let i <-uK d a f
  match c with
   |some g=>do
    storeCells (g.add<|m*d) (dY i)
    pure (ah c (m+a) b)
   |_=>pure<|ah c (m+a) b
 else do
  let h <-ko e
  if ((m+a:Nat):Int)>aM.max/\(False\/jm h=0) then do
   runtimePanic (aeB "growslice: len out of range")
   xZ e d m a b c f
  else xZ e d m a b c f
section
variable{J:bn}{R:Type}
def abg(s:od)(a:Nat)(b:oe):St P J O (Conv.floatToInt s a b):=by
 unfold Conv.floatToInt
 (try dsimp only)
 repeat' first|exact dL _|exact pZ _|refine bK ?_ (λ_=>?_)|split|dsimp only|exact trivial
def abn(a:Int):St P J O (Conv.intToString a):=by
 unfold Conv.intToString;exact trivial
def abW(c:Twin P J)(b:Plain O)(a:aP)(s:ByteArray):St P J O (Conv.stringToBytes a s):=by unfold Conv.stringToBytes;exact eE
def abX(c:Twin P J)(b:Plain O)(a:aP)(s:ByteArray):St P J O (Conv.stringToRunes a s):=by unfold Conv.stringToRunes;exact eE
def aa3(a:Twin P J)(b:Plain O)(s d:aP)(c:F)(h:EL P s d=af):St P J O (convert s d c):=by
 unfold convert;refine rI (DE a s) λn j=>rI (DE a d) λg l=>?_;unfold EL at h;rw[j,l] at h;cases n<;>first|(simp at h;done)|skip
 rename_i q;cases g<;>first|(simp at h;done)|skip
 cases c<;>first|exact trivial|exact g7 _ rfl|(rename_i e;cases e<;>exact g7 _ rfl)|skip
 exact abg _ _ _
 .rename_i i;cases g<;>first|(simp at h;done)|skip
  .cases c<;>first|exact trivial|skip
   all_goals first
    |exact abn _
    |(refine rI (DE a i) λf k=>?_;dsimp only at h;rw[k] at h;cases f<;>first|(simp at h;done)|skip
      rename_i m;cases m<;>first|(simp at h;done)|exact aaY a b _)
  cases c with
  |string s=>
   refine bK (j6 a _) λf=>?_
   split
   exact abW a b _ _;exact abX a b _ _;exact dL _
  |slice e r p=>
   cases e with
   |none=>exact g7 _ Y
   |some o=>
    refine bK (j6 a _) λf=>?_
    split
    exact bK (Nz a b _) λ_=>trivial;exact g7 _ Y
  |_=>exact g7 _ Y
def Nq(a:Twin P J)(d:Plain O)(c:aP)(s m e b:Nat)(f:Option aL)(g:F):St P J O (x2 c s m e b f g):=by
 unfold x2;exact bK (pZ _) λ_=>bK (o8 a _) λ_=>bK (M9 _) λ_=>bK (BG _ _ _) λ_=>bK (BG _ _ _) λ_=>bK (DF a _) λ_=>bK (DD d _ _) λ_=>trivial
def Np(a:Twin P J)(b:Plain O)(d:aP)(s m e c:Nat)(f:Option aL)(g:F):St P J O (xZ d s m e c f g):=by
 unfold xZ;refine bK (o8 a _) λi=>?_
 split
 refine bK (bK (abz a b _ _ _ _ _) λh=>?_) λ_=>Nq a b _ _ _ _ _ _ _
 split
 exact bK NE λ_=>g7 _ Y;exact g7 _ Y;exact Nq a b _ _ _ _ _ _ _
def aaO(a:Twin P J)(b:Plain O)(d:aP)(s m e c:Nat)(f:Option aL)(g:F):St P J O (zu d s m e c f g):=by
 unfold zu
 split
 refine bK (BG _ _ _) λh=>?_
 split
 exact bK (At _ _ _) λ_=>trivial;exact trivial;refine bK (o8 a _) λi=>?_
 split
 exact bK (mj a b _) λ_=>Np a b _ _ _ _ _ _ _;exact Np a b _ _ _ _ _ _ _
def Ej (P:bn)(a:Array aP):Bool:=match a[1]? with
 |some b=>match (g9 P) b with|some (.int _)=>aj|_=>af
 |none=>af
def aaN(a:Twin P J)(k:Plain O)(b:Array aP)(q:aP)(f:Array F)(h:Ej P b=af):St P J O (Builtin.append_ b q f):=by
 unfold Builtin.append_
 split
 refine bK (j6 a _) λt=>?_
 split
 split
 rename_i e _ j _ o m g _;refine bK (n3 a _) λp=>?_;have d:St P J O (uL e >>= λc=>zu j p m c g o e):=bK (Nv _) λc=>aaO a k _ _ _ _ _ _ _;unfold Ej at h;cases n:b[1]? with
 |none=>
  simp only[pure_bind,eN,if_false,Bool.not_false,if_true];exact d
 |some r=>
  rw[n] at h;refine rI (DE a r) λi l=>?_;dsimp only at h;rw[l] at h;cases i with
  |int s=>simp at h
  |_=>
   simp only[pure_bind,eN,if_false,Bool.not_false,if_true];exact d
 exact dL _;exact dL _;exact dL _
end
def AY (P:bn)(a:Builtin)(b:Array aP):Bool:=match a with
 | .len| .copy| .min| .unsafeString=>af
 | .append=>Ej P b
 |_=>aj
def tg (P:bn)(b:Bool):Op->Bool
 | .move _| .assign _| .pick _ _ _| .alloc _| .box _ _| .build _ _| .buildSlice _ _ _| .load _ _| .store _ _ _| .nilCheck _| .binOp _ _ _ _ _| .unOp _ _ _| .makeInterface _ _| .makeFunc _ _ _| .makeMap _ _| .makeSlice _ _ _| .slice _ _ _ _ _| .fieldAddr _ _ _| .field _ _ _| .indexAddr _ _ _| .index _ _ _| .lookup _ _ _ _| .mapUpdate _ _ _ _| .extract _ _| .panic _=>af
 | .convert s d _=>EL P s d
 | .call a=>match a.callee with
  | .builtin .recover=> !b
  | .builtin c=>AY P c a.argTypes
  |_=>af
 | .defer a=> !b&&(match a.callee with| .builtin _=>aj|_=>af)
 |_=>aj
def fC (P:bn)(b:Bool):cQ->Bool
 |iB _ e _=>dI e.toList λd=>tg P b d.op
 |aS a c=>fC P b a&&fC P b c
 | .cond _ a c=>fC P b a&&fC P b c
 |fT _ a| .loop a=>fC P b a
 | .rangeFunc _ _ a c=>fC P af a&&fC P af c
 |ey| .exit _| .ret| .refuse _=>af
 | .goto _| .label _| .scope _=>aj
def sL:Target->Bool
 | .nil| .fn _ _| .collected _=>af
 |_=>aj
def cZ (P:bn):cz->Prop
 |fj a=>fC P af a.assign=af/\fC P af a.body=af/\∀b,a.pending=K b->fC P af b=af
 |kT (K d)=>∀c∈d,sL (gX c)=af
 | .pending _ _=>False
 | .coro _=>False
 |_=>True
def tu(P:bn):Plain (cZ P):=⟨λ_ _ _=>trivial,λ_ _ a=>a,λa=>a,⟨{state:=.ready,pending:=Z,fn:=0,tmps:= #[],params:= #[],assign:=ey,body:=ey,defers:=0},rfl,rfl,λb a=>de a⟩⟩
def v9 (P:bn)(d:Bool):Next->Prop
 |fi _| .skip| .enter _ _=>True
 | .recover=>d=aj
 | .defer c=>sL (gX c)=af
 | .round _ _ _ a b=>fC P af a=af/\fC P af b=af
 |_=>False
structure Ext(P P':bn):Prop where
 named:∀(f:Nat) (fn:cF),P.funcs[f]? =K fn->(fn.name == "runtime.NumGoroutine")=aj
 next:∀(f:Nat) (fn:cF),P.funcs[f]? =K fn->nQ fn.body=af->Extern.findNext fn=Z
 find:∀(f:Nat) (fn:cF) (e:Array F->dh F),P.funcs[f]? =K fn->nQ fn.body=af->yS fn=K e->∀args,St P P' (cZ P)<|e args
section
variable{J:Type}
def abJ(b:Twin P P')(c:aP)(a:Place):St P P' O (a.get c):=by
 cases a with
 |val v=>exact trivial
 |var d=>exact Hw b _ _
theorem Nn(e:Twin P P')(d:Plain O):∀(c:List FieldStep) (a:aP) (b:Place),St P P' O (follow c a b)
 | [],a,b=>trivial
 |s::f,a,b=>by
  unfold follow;exact eE
def NL(i:Twin P P')(h:Plain O)(g:Array aP)(f:aP)(b:F)(a c:ByteArray):St P P' O (Builtin.ssaWrapNilChk_ g f #[b,ay a,ay c]):=by
 have d:∀s:String,St P P' O (stuck s:dh F):=λs=>dL s;unfold Builtin.ssaWrapNilChk_;cases b with
 |pointer e=>
  cases e with
  |some a=>exact trivial
  |none=>
   refine bK (pZ _) λj=>?_;exact eE
 |_=>exact d _
def abK(f:Twin P P')(e:Plain O)(b:aP)(d:Place)(a:Bool)(c:Option String):St P P' O (receiverAt b d a c):=by
 unfold receiverAt;exact eE
def abL(e:Twin P P')(d:Plain O)(c:aP)(v:F)(b:Array FieldStep)(a:Bool):St P P' O (receiverVia c v b a):=by
 unfold receiverVia;exact eE
theorem NA(c:Twin P P')(b:Plain O):∀(n:Nat) (a:aP) (v:F) (s:String),St P P' O (Go.method n a v s)
 |0,a,v,s=>g7 _ Y
 |n+1,a,v,s=>by
  unfold Go.method;exact eE
theorem No(e:Twin P P')(d:Plain O):∀(c:List FieldStep) (a:aP) (b:Option F),St P P' O (followBlind c a b)
 | [],a,b=>trivial
 |s::f,a,b=>by
  unfold followBlind;exact eE
theorem ND(c:Twin P P')(b:Plain O):∀(n:Nat) (a:aP) (v:F) (s:String),St P P' O (nilAhead n a v s)
 |0,a,v,s=>trivial
 |n+1,a,v,s=>by
  unfold nilAhead;exact eE
def Hq(k:Twin P P')(b:Ext P P')(m:Bool)(f:gw)(args:Array F):Still P P' (cZ P) (v9 P m) (callFunc f args):=by
 unfold callFunc;refine mQ ?_ ?_;rcases k.Us f with a|⟨fn,n,e,g,h,i,j⟩;rw[a];rw[e,g];simp only[h,i,j,eN,if_false]
 .cases c:P.funcs[f]? with
  |none=>exact dL _
  |some fn=>
   dsimp only;rw[if_neg<|by rw[b.named f fn c];simp]
   split
   .rename_i d;refine bK ⟨ai ⟨_,rfl⟩,trivial⟩ λ_=>?_;rw[b.next f fn c d];dsimp only;cases l:yS fn with
    |some a=>exact bK (b.find f fn a c d l args) λ_=>trivial
    |none=>exact nF trivial<|g7 _ Y
   exact trivial
def Nc(a:Twin P P')(d:Ext P P')(c:Bool)(v:F)(s:String)(args:Array F):Still P P' (cZ P) (v9 P c) (callMethod v s args):=by
 have b:=tu P;unfold callMethod
 split
 exact mQ (by rw[a.Oi])<|bK (NA a b _ _ _ _) λ_=>Hq a d c _ _;exact mj a b _;exact dL _
def BH(a:Nat):Still P P' (cZ P) (λc=>cZ P<|fj c) (Instr.getLoop a):=by
 unfold Instr.getLoop;refine Dz a (λd b=>?_)<|Cy Y
 split
 exact b;exact dL _
def ab8(c:Bool)(b:Nat)(args:Array F):Still P P' (cZ P) (v9 P c) (Instr.yield b args):=by
 unfold Instr.yield;refine rI (BH b) λd a=>?_;dsimp only
 split
 exact bK (dL _) λ_=>⟨a.1,a.2.1⟩;exact⟨a.1,a.2.1⟩
def aaX(b:Twin P P')(c:Builtin)(d:Array aP)(g:aP)(e:Array Bool)(args:Array F)(h:AY P c d=af)(f:Bool):Still P P' (cZ P) (v9 P f) (builtin c d g e args):=by
 have a:=tu P;unfold builtin;cases c<;>first|(simp[AY] at h;done)|skip
 exact bK (aaN b a _ _ _ h) λ_=>trivial;exact bK (aa4 b a _ _ _) λ_=>trivial;exact bK (abp b a _ _ _) λ_=>trivial;exact bK (abA _ _ _) λ_=>trivial;exact bK (ab5 b a _ _ _) λ_=>trivial
def x3 (P:bn)(b:Bool):Target->Bool
 | .builtin .recover _ _ _=> !b
 | .builtin a c _ _=>AY P a c
 | .coroexit _=>aj
 |_=>af
def Hu(a:Twin P P')(c:Ext P P')(b:Bool)(d:Target)(args:Array F)(h:x3 P b d=af):Still P P' (cZ P) (v9 P b) (invoke d args):=by
 have f:=tu P;unfold invoke
 split
 exact mj a f _;rename_i e j d i;by_cases g:e= .recover;subst g;simp only[x3,Bool.not_eq_true'] at h;exact h;exact aaX a e j d i args (by cases e<;>first|exact absurd Y g|exact h) b;exact Hq a c b _ _
 split
 exact Nc a c b _ _ _;exact dL _
 split
 exact bK (j6 a _) λk=>Nc a c b _ _ _;exact dL _
 split
 exact bK (abL a f _ _ _ _) λ_=>Hq a c b _ _;exact dL _;exact ab8 b _ _;exact dL _;simp[x3] at h
def NF(P P':bn)(c:Bool)(g:eg->F)(b:Call)(d:aP)(h:(match b.callee with| .builtin .recover=> !c| .builtin a=>AY P a b.argTypes|_=>af)=af):Still P P' (cZ P) (λe=>x3 P c (gX e)=af) (m8 g b d):=by
 unfold m8;dsimp only
 split
 rename_i a f;rw[f] at h;show x3 P c (.builtin a b.argTypes d _)=af;unfold x3;cases a<;>first|exact h|rfl
 exact rfl;unfold yR
 split
 exact rfl;exact rfl;exact dL _
def abM(P P':bn)(e:eg->F)(a:Call)(d:aP)(h:(match a.callee with| .builtin _=>aj|_=>af)=af):Still P P' (cZ P) (λb=>sL (gX b)=af) (m8 e a d):=by
 unfold m8;dsimp only
 split
 rename_i f c;rw[c] at h;cases h;exact rfl;unfold yR
 split
 exact rfl;exact rfl;exact dL _
def aa9(a:Twin P P')(n:Ext P P')(e:Bool)(g:eg->F)(d:cC)(h:tg P e d.op=af):Still P P' (cZ P) (v9 P e) (bX g d):=by
 have b:=tu P;have o:∀j k,cZ P (.number j k):=λ_ _=>trivial;have i:∀m c,cZ P (.map m c):=λ_ _=>trivial;unfold bX;cases p:d.op<;>rw[p] at h<;>first|(simp[tg] at h;done)|skip
 all_goals dsimp only
 case move=>exact trivial
 case assign=>exact trivial
 case pick=>exact bK (Hj _) λ_=>trivial
 case alloc=>exact bK (aaM a b _ _ _) λ_=>trivial
 case box=>exact bK (aaU a b _ _) λ_=>trivial
 case build=>exact bK (aaV a b _ _) λ_=>trivial
 case buildSlice=>exact bK (aaW a b _ _ _) λ_=>trivial
 case load=>exact bK (abq a b _ _) λ_=>trivial
 case store=>exact bK (abU a b _ _ _) λ_=>trivial
 case nilCheck=>
  split
  all_goals first
   |exact mj a b _
   |exact trivial
   |skip
  split
  exact mj a b _;refine mQ (by rw[a.Oi])<|bK (ND a b _ _ _ _) λq=>?_
  split
  exact bK (g7 _ Y) λ_=>trivial;exact trivial;exact trivial
 case binOp=>exact bK (bK (aa8 a b _ _ _ _ _ _) λ_=>aaR a b o _ _ _ _) λ_=>trivial
 case unOp=>exact bK (ab3 _ _) λ_=>trivial
 case convert=>exact bK (aa3 a b _ _ _ h) λ_=>trivial
 case makeInterface=>exact bK (abu a b _ _) λ_=>trivial
 case makeFunc=>exact trivial
 case makeMap=>exact bK (abv a b i _ _) λ_=>trivial
 case makeSlice=>exact bK (abw a b _ _ _) λ_=>trivial
 case slice=>exact bK (abQ a b _ _ _ _ _) λ_=>trivial
 case fieldAddr=>exact bK (abd a b _ _ _) λ_=>trivial
 case field=>exact bK (abc a b _ _ _) λ_=>trivial
 case indexAddr=>exact bK (abk a b _ _ _) λ_=>trivial
 case index=>exact bK (abj a b _ _ _) λ_=>trivial
 case lookup=>exact bK (abt a b _ _ _ _) λ_=>trivial
 case mapUpdate=>exact bK (abx a b i _ _ _ _) λ_=>trivial
 case extract=>exact bK (abb _ _) λ_=>trivial
 case panic=>exact bK (abF a b _) λ_=>trivial
 case call c=>exact rI (NF P P' e g c d.type h) λl f=>Hu a n e _ _ f
 case defer c=>
  simp only[tg,fe] at h;exact rI (abM P P' g c d.type h.2) λl f=>f
end
structure r8(P P':bn):Prop where
 T:Twin P P'
 E:Ext P P'
 quiet:∀f:Nat,(P'.funcs[f]?).any (·.norace)=(P.funcs[f]?).any (·.norace)
 mixed:P'.follows .mixedOrders=P.follows .mixedOrders
 bad:∀f:Nat,P'.funcs[f]? =P.funcs[f]? \/∃fn s,P.funcs[f]? =K fn/\fn.body=K (.refuse s)
 Ev:∀(f:Nat) (fn:cF) (c:cQ),P.funcs[f]? =K fn->fn.body=K c->fC P aj c=af
 view:Views P P'
def tT (P:bn)(a:Bool):ez->Prop
 |bJ b|gx b=>fC P a b=af
 |fh _| .inRangeFunc _| .endRangeFunc _=>True
 | .beginRound=>a=af
 |bY d _=>(dI d.toList λc=>tg P a c.op)=af
 |_=>False
structure kP(P:bn)(fr:aO):Prop where
 todo:∀i∈fr.todo,tT P (ni fr.roundOf) i
 defers:∀d∈oH fr,sL (gX d)=af
 kind:dj fr=dM\/dj fr= .deferred
def jS:aO->List aO->Prop
 |fr,[]=>dj fr=dM
 |_,f::a=>jS f a
structure eS(P:bn)(fr:aO)(aU:List aO):Prop where
 top:kP P fr
 rest:∀f∈aU,kP P f
 bot:jS fr aU
def xk (a:aO):Prop:=ea a= .run/\∃s,a.todo=[bJ<|.refuse s]
def mY (a:Nat)(c:ef):Prop:=match c.loc with
 | .obj d=>d<a
 | .cell b=>cD b<a
 | .mark m=>Conc.Neutral m
 |_=>True
def mY.mono(h:n<=m)(a:mY n QU):mY m QU:=by
 unfold mY at*
 split<;>simp_all<;>omega
def aak{j:gw->Bool}:∀(c:List ef) (g:Bool) (kept:Array ef),(∀a∈kept,∀f,a.loc≠.mark (.extern f))->∀a∈(c.foldl (Conc.seenStep j) (g,kept)).2,∀f,a.loc≠.mark (.extern f):=by
 intro c
 induction c with
 |nil=>exact λ_ _ b=>b
 |cons k c e=>
  intro g kept b;simp only[List.foldl_cons,Conc.seenStep]
  split
  exact e _ _ b;rename_i i;refine e _ _ ?_
  split
  exact b;intro a d;rcases Array.mem_push.1 d with d|rfl;exact b a d;exact λf h=>i f h
def MX{P:bn}{fn:gw}(h:∀a∈QS,lD n a):∀a∈iD P fn QS,mY n a:=by
 intro a d;have b:=h a<|Conc.mem_seen d;have e:∀f,a.loc≠.mark (.extern f):=by
  rw[Conc.seen_def] at d;exact aak _ _ _ (λa h=>by simp at h) a d
 unfold lD at b;unfold mY;cases c:a.loc with
 |mark m=>
  rw[c] at b;rcases b with b|⟨f,rfl⟩;exact b;exact absurd c<|e f
 |cell g=>rw[c] at b;exact b
 |obj i=>rw[c] at b;exact b
 |_=>trivial
structure AM(P P':bn)(w:ag)(F0:bn->Bool->List aO->ag->GStep)(fr':aO)(tops':List aO)(w':ag)(es:Array ef):Prop where
 eq:∀m cs,F0 P m cs w= .go (aX fr'<|tops'++cs) w' es
 ok:eS P fr' tops'
 hp:Hp (cZ P) w'
 tape:dG w'=dG w
 drawn:dU w<=dU w'
 size:U w.heap<=U w'.heap
 os:w'.os=w.os
 output:ga w'=ga w
 evs:∀e∈es,mY (U w'.heap) e
 twin:(P≠P'/\xk fr')\/∀ τ d u,Un w u->Al (dG w) (dU w) τ d (dU w'-dU w)->∃u',iH w u w' u'/\∀m cs,F0 P' m cs (sh τ d u)= .go (aX fr'<|tops'++cs) (sh τ (d+(dU w'-dU w)) u') es
def mE (P P':bn)(w:ag)(c:bn->Bool->List aO->ag->GStep):Prop:=
 (∀m d,∃f b a,c P m d w= .ended f b a)\/∃e g b a,AM P P' w c e g b a
section
variable{w:ag}
def nZ(e:Hp (cZ P) w)(a:aO)(b:List aO)(g:eS P a b):mE P P' w (λi m c w=>.go (aX a<|b++c) w):=
 ai ⟨a,b,w,#[],λ_ _=>rfl,g,e,rfl,aZ _,aZ _,rfl,rfl,λk d=>by simp at d,ai λl j h f _=>⟨h,f.two,λm c=>aI⟩⟩
def Mh(z:Hp (cZ P) w)(j:r8 P P')(f:gw)(args:Array F)(a:CallKind)(y:a=dM\/a= .deferred)(b:List aO)(A:∀f∈b,kP P f)(t:jS (eT P f args a) b):
 mE P P' w (λn m c w=>.go (aX (eT n f args a)<|b++c) w):=by
 have x:kP P (eT P f args a):=by
  refine⟨λC k=>?_,λh u=>by simp[eT] at u,y⟩;simp only[eT,v5] at k;subst k;show fC P aj _=af;cases v:P.funcs[f]? with
  |none=>rfl
  |some fn=>
   cases d:fn.body with
   |none=>simp[d,fC]
   |some o=>simpa [d] using j.Ev f fn o v d
 refine ai ⟨eT P f args a,b,w,#[],λ_ _=>rfl,⟨x,A,t⟩,z,rfl,aZ _,aZ _,rfl,rfl,λi p=>by simp at p,?_⟩;rcases j.bad f with i|⟨fn,s,q,r⟩;refine ai λB h g e _=>⟨g,e.two,λm c=>?_⟩;have:eT P' f args a=eT P f args a:=by unfold eT;rw[i]
 simp[this];by_cases l:P=P';subst l;exact ai λB h g e _=>⟨g,e.two,λm c=>aI⟩;refine av ⟨l,rfl,s,?_⟩;simp[eT,q,r]
def aal(b:r8 P P')(f:gw)(a:Array ef):iD P' f a=iD P f a:=by
 unfold iD;simp only[b.quiet]
def yw{y:Type}(B:r8 P P')(K:Hp (cZ P) w)(f:gw){s:dh y}{r:y->Prop}(L:Still P P' (cZ P) r s){z:bn->Bool->List aO->ag->GStep}(o:bn->Bool->List aO->Result y->GStep)
 (hF:∀g,g=P\/g=P'->∀m c w,(∀h b,(s.runT g w #[]).1= .halt h b->sK h=af)->(∀i b,(s.runT g w #[]).1=cm i b->r i)->z g m c w=jT (iD g f (s.runT g w #[]).2) (o g m c (s.runT g w #[]).1))
 (J:∀i b,r i->Hp (cZ P) b->mE P P' b (λg m c w=>o g m c<|cm i w))
 (I:∀h b,sK h=af->Hp (cZ P) b->mE P P' b (λg m c w=>o g m c<|.halt h w))
 (N:∀x b m c,∃p v n,o P m c (.halt (.stuck x) b)= .ended p v n):mE P P' w z:=by
 have a:=MR (tu P) B.view s w #[] L K;rcases a.shift with⟨x,b,R⟩|M;refine av λm c=>?_;have⟨p,v,n,h⟩:=N x b m c;refine⟨p,v,iD P f (s.runT P w #[]).2++n,?_⟩;rw[hF P (av Y) _ _ _ a.halt a.ok,R,h];rfl;have e:mE P P' (rW (s.runT P w #[]).1) (λg m c u=>o g m c<|us u (s.runT P w #[]).1):=by
  cases h:(s.runT P w #[]).1 with
  |ok i j=>exact J i j (a.ok i j h) (by have:=a.hp;rw[h] at this;exact this)
  |halt l j=>exact I l j (a.halt l j h) (by have:=a.hp;rw[h] at this;exact this)
 have D:us (rW (s.runT P w #[]).1) (s.runT P w #[]).1=(s.runT P w #[]).1:=by cases(s.runT P w #[]).1<;>rfl
 rcases e with e|⟨G,U,b,n,e⟩;refine av λm c=>?_;have⟨p,b,n,h⟩:=e m c;dsimp only at h;rw[D] at h;refine⟨p,b,iD P f (s.runT P w #[]).2++n,?_⟩;rw[hF P (av Y) _ _ _ a.halt a.ok,h];rfl;refine ai ⟨G,U,b,iD P f (s.runT P w #[]).2++n,λm c=>?_,e.ok,e.hp,e.tape.trans a.tape,dW a.drawn e.drawn,dW a.size e.size,e.os.trans a.os,e.output.trans a.output,λd H=>?_,?_⟩;have:=e.eq m c;try dsimp only at this
 rw[D] at this;rw[hF P (av Y) _ _ _ a.halt a.ok,this];rfl;rcases Array.mem_append.1 H with h|h;refine mY.mono e.size<|MX (λl k=>?_) d h;rcases a.evs l k with h|h;simp at h;exact h;exact e.evs d h;rcases e.twin with h|h;exact av h;refine ai λF A u Q C=>?_;have V:=a.drawn;have W:=e.drawn;have⟨u1,E,t⟩:=M F A u Q<|C.sub aa;have⟨u2,O,q⟩:=h F (A+((rW (s.runT P w #[]).1).drawn-w.drawn)) u1 E.un (by
  intro S T X;have:=C ((rW (s.runT P w #[]).1).drawn-w.drawn+S) T aa;rw[gH,a.tape,this];congr 1;omega)
 refine⟨u2,E.trans O,λm c=>?_⟩;replace q:=q m c;rw[hF P' (ai Y) _ _ _ (λh b d=>by
  rw[t] at d;cases k:(s.runT P w #[]).1 with
  |ok i j=>rw[k] at d;simp[us] at d
  |halt l j=>
   rw[k] at d;simp only[us,aeA] at d;rw[<-d.1];exact a.halt l j k) (λi b d=>by
  rw[t] at d;cases k:(s.runT P w #[]).1 with
  |halt i j=>rw[k] at d;simp[us] at d
  |ok l j=>
   rw[k] at d;simp only[us,Result.ok.injEq] at d;rw[<-d.1];exact a.ok l j k),t]
 dsimp only at q ⊢;rw[q,aal B];show GStep.go _ _ _=GStep.go _ _ _;congr 2;omega
end
def gC (c:aO)(aU:List aO)(a:bn)(m:Bool)(b:List aO)(w:ag):GStep:=cw a m (aX c<|aU++b) w
section
variable{J:bn}{w:ag}
def mO{d F':bn->Bool->List aO->ag->GStep}(h:∀c,c=P\/c=J->∀m b w,d c m b w=F' c m b w)(a:mE P J w F'):mE P J w d:=by
 rcases a with a|⟨g,n,q,f,a⟩;exact av λm b=>by rw[h P<|av Y];exact a m b
 exact ai ⟨g,n,q,f,λm b=>by rw[h P<|av Y];exact a.eq m b,a.ok,a.hp,a.tape,a.drawn,a.size,a.os,a.output,a.evs,a.twin.imp id λi r e o l j=>by
 have⟨p,k,s⟩:=i r e o l j;exact⟨p,k,λm b=>bu⟩⟩
def Fe(h:kP P Qg)(a:∀b∈QO,tT P (ni Qg.roundOf) b):kP P {Qg with todo:=QO}:=⟨a,h.defers,h.kind⟩
theorem AV(h:dj Qh=dj Qg):∀{b:List aO},jS Qg b->jS Qh b
 | [],a=>aB h a
 |_::_,a=>a
def rK(h:eS P Qg aU)(a:kP P Qh)(b:dj Qh=dj Qg):eS P Qh aU:=⟨a,h.rest,AV b h.bot⟩
def Rz(h:fC P af QK=af):fC P aj QK=af:=by
 have j:∀a,tg P af a=af->tg P aj a=af:=by
  intro a b;cases a<;>first|exact b|skip
  rename_i QK;have⟨i,_,_⟩:=QK;cases i with
  |builtin d=>cases d<;>first|rfl|exact b
  |_=>rfl
  simp[tg] at b
 induction QK with
 |region _ k _=>
  simp only[fC,fA] at h ⊢;exact λa b=>j _<|h a b
 |seq c d f g=>simp only[fC,fe] at h ⊢;exact⟨f h.1,g h.2⟩
 |cond _ c d f g=>simp only[fC,fe] at h ⊢;exact⟨f h.1,g h.2⟩
 |block _ c e=>exact e h
 |loop c e=>exact e h
 |rangeFunc _ _ c d _ _=>exact h
 |_=>first|rfl|(simp[fC] at h)
def RA(h:fC P af QK=af):fC P qW QK=af:=by
 cases qW;exact Rz h;exact h
theorem E0{e:Bool}{id:Nat}:∀{c b:List ez},(∀i∈c,tT P e i)->jJ id c=K b->∀i∈b,tT P e i
 | [],b,_,a=>by simp[jJ] at a
 |i::c,b,f,a=>by
  have d:∀i∈c,tT P e i:=λh g=>f h (by simp[g]);cases i<;>simp only[jJ] at a
  case inBlock j=>
   split at a
   cases a;exact d;exact E0 d a
  all_goals exact E0 d a
def sA(h:kP P Qg)(v:F):kP P (dR Qg v)/\(dR Qg v).kind=Qg.kind:=by
 unfold dR;have a:=h.todo
 split
 rename_i g f i e b;rw[b] at a;exact⟨⟨λd c=>by
  rcases gy.1 c with rfl|c;exact a (bY g<|f::i) aI;exact a d<|by simp[c],h.defers,h.kind⟩,rfl⟩
 rename_i j e b;rw[b] at a;exact⟨⟨λd c=>by
  rcases gy.1 c with rfl|c;exact trivial;exact a d<|by simp[c],h.defers,h.kind⟩,rfl⟩
 rename_i e b;rw[b] at a;exact⟨⟨λd c=>a d<|by simp[c],h.defers,h.kind⟩,rfl⟩;rename_i b;rw[b] at a;exact ff<|a _<|List.mem_cons_self ..;rename_i b;rw[b] at a;exact ff<|a _<|List.mem_cons_self ..;exact⟨h,rfl⟩
def o5(h:kP P Qg):kP P (jF Qg QV)/\(jF Qg QV).kind=Qg.kind:=by
 unfold jF
 split<;>exact⟨⟨h.todo,h.defers,h.kind⟩,rfl⟩
def Mx(j:Nat)(f:gw)(k:Array F)(b c:cQ)(a:CallKind)(i:a=dM\/a= .deferred)(e:fC P af b=af)(g:fC P af c=af):kP P (mZ j f k b c a):=by
 refine⟨λm d=>?_,λl h=>by simp[mZ] at h,i⟩;simp only[mZ,gy,kZ,or_false] at d;rcases d with rfl|rfl|rfl;exact e;rfl;exact g
def ZL(h:eS P Qg aU):
 (∀a,kV Qg (aU++a)=Z)\/∃v k,(∀a,kV Qg (aU++a)=K (v,k++a))/\(∀f∈k,kP P f)/\jS Qg k:=by
 have⟨n,l,g⟩:=h;rcases n.kind with b|b;exact av λa=>by unfold kV;rw[b]
 cases aU with
 |nil=>exact absurd (aB g.symm b) aI
 |cons e j=>
  by_cases d:∃v c,ea e=jx ({v,recovered:=aj,goexit:=aj}::c);have⟨v,c,d⟩:=d;refine ai ⟨v,{e with mode:=jx<|{v,recovered:=af}::c}::j,λa=>?_,λf i=>?_,?_⟩;unfold kV;simp[b,d];rcases gy.1 i with rfl|i;have:=l e aI;exact⟨this.todo,this.defers,this.kind⟩;exact l f (by simp[i]);cases j with
  |nil=>exact g
  |cons o j=>exact g
  refine av λa=>?_;unfold kV;simp only[b,tV]
  split
  rename_i v c m;exact absurd ⟨v,c,m⟩ d;rfl
def ua{a:GStep}:jT #[] a=a:=by cases a<;>simp[jT]
def seen_none(a:bn)(f:gw):iD a f #[]=#[]:=by simp[iD]
def Gu(A:r8 P J)(K:Hp (cZ P) w)(h:eS P Qg aU){s:dh Next}(L:Still P J (cZ P) (v9 P<|ni Qg.roundOf) s)(S:∀j wr re N M,Qg.todo≠.call j wr re N::M):
 mE P J w (λb m a w=>jV b af Qg (aU++a) Z s w):=by
 have g:(Qg.kind == .early)=aj:=by rcases h.top.kind with z|z<;>rw[z]<;>rfl
 have I:(match Qg.todo with| .call _ af _ _::_=>CallKind.wrapped|_=>dM)=dM:=bu;refine yw A K Qg.fn L (λb m a u=>match u with
  |cm e w=>jV b af Qg (aU++a) Z (.pure e) w
  | .halt c w=>jV b af Qg (aU++a) Z (.halt c) w) (λb R m a w o _=>?_) (λe y k i=>?_) (λc y d i=>?_) λT y m a=>⟨_,_,_,by simp only[jV,gQ,seen_none,g,ua,if_true,eN,if_false];rfl⟩
 unfold jV;simp only[if_true,g,eN,if_false];generalize G:s.runT b w #[]=E;have⟨u,Q⟩:=E;rw[G] at o;cases u with
 |ok e D=>simp[gQ,ua,seen_none]
 |halt c D=>
  have:=o c D Y;cases c<;>first|(simp[sK] at this;done)|(simp[gQ,ua,seen_none];done)|skip
  rename_i x;cases x<;>first|(simp[sK] at this;done)|(simp[gQ,ua,seen_none];done)
 .have r:∀v:F,mE P J y (λb m a w=>.go (aX (dR Qg v)<|aU++a) w):=λv=>nZ i _ _<|rK h (sA h.top v).1 (sA h.top v).2;have l:∀(b:bn) (a:List aO) (w:ag),jV b af Qg (aU++a) Z (.pure e) w=(match e with
   |fi v=>GStep.go (aX (dR Qg v)<|aU++a) w
   | .skip=>.go (aX (dR Qg bR)<|aU++a) w
   | .enter f args=>.go (aX (eT b f args dM)<|Qg::(aU++a)) w
   | .round p f q c n=>.go (aX (mZ p f q c n dM)<|Qg::(aU++a)) w
   | .defer j=>.go (aX ({Qg with defers:=j::Qg.defers}.finish bR)<|aU++a) w
   |_=>jV b af Qg (aU++a) Z (.pure e) w):=by
   intro b a w;cases e<;>first|rfl|skip
   all_goals simp[jV,gQ,seen_none,g,ua,aX]
   exact congrArg (eT b _ _) I
  cases e with
  |value v=>exact mO (λb _ m a w=>l b a w)<|r v
  |skip=>exact mO (λb _ m a w=>l b a w)<|r bR
  |enter f args=>exact mO (λb _ m a w=>l b a w) (Mh i A f args dM (av Y) (Qg::aU) (λc d=>by
   rcases gy.1 d with rfl|d;exact h.top;exact h.rest c d) h.bot)
  |round p f q c n=>exact mO (λb _ m a w=>l b a w) (nZ i (mZ p f q c n dM) (Qg::aU) ⟨Mx p f q c n dM (av Y) k.1 k.2,λc d=>by
   rcases gy.1 d with rfl|d;exact h.top;exact h.rest c d,h.bot⟩)
  |defer j=>
   have B:kP P {Qg with defers:=j::Qg.defers}:=⟨h.top.todo,λc d=>by
    rcases gy.1 d with rfl|d;exact k;exact h.top.defers c d,h.top.kind⟩
   exact mO (λb _ m a w=>l b a w)<|nZ i _ _<|rK h (sA B bR).1 (sA B bR).2
  |recover=>
   have C:nO Qg=Z:=by
    have:ni Qg.roundOf=aj:=k;simpa using this
   rcases ZL h with t|⟨v,O,t,o,H⟩;exact mO (λb _ m a w=>by simp[jV,gQ,seen_none,g,ua,aX,C,t])<|r .nilIface;exact mO (λb _ m a w=>by simp[jV,gQ,seen_none,g,ua,aX,C,t])<|nZ i (dR Qg v) O ⟨(sA h.top v).1,o,AV (sA h.top v).2 H⟩
  |_=>exact ff k
 cases c with
 |panic v=>
  refine mO (F':=λb m a w=>.go (aX (jF Qg [{v,recovered:=aj}])<|aU++a) w) (λb _ m a w=>?_)<|nZ i _ _<|rK h (o5 h.top).1 (o5 h.top).2;simp[jV,gQ,seen_none,g,ua,aX]
 |stuck s=>exact av λm a=>⟨_,_,_,by simp only[jV,gQ,seen_none,g,ua,if_true,eN,if_false];rfl⟩
 |unsupported x=>
  refine av λm a=>?_;cases x<;>first|(simp[sK] at d;done)|exact⟨_,_,_,by simp only[jV,gQ,seen_none,g,ua,if_true,eN,if_false];rfl⟩
 |_=>simp[sK] at d
def r7 (a:aO)(aU:List aO):Prop:=aU=[]->(ea a≠.run->oH a≠[])/\(ea a= .run->nO a=Z\/(a.todo≠[]/\(∀b,a.todo≠bJ .ret::b)/\∀id b,a.todo=bJ (.exit id)::b->jJ id b≠Z))
def Gw(B:r8 P J)(l:Hp (cZ P) w)(h:eS P Qg (Qh::aU))(v:F):mE P J w (λb m a w=>m6 b m Qg (Qh::aU++a) Z v w):=by
 have c:kP P Qh:=h.rest Qh aI;have n:∀f∈aU,kP P f:=λf q=>h.rest f (by simp[q]);have j:jS Qh aU:=h.bot;rcases h.top.kind with d|d;refine mO (F':=λb m a w=>.go (aX (dR Qh v)<|aU++a) w) (λb _ m a w=>?_)<|nZ l _ _ ⟨(sA c v).1,n,AV (sA c v).2 j⟩;simp[m6,d,aX];obtain⟨g,o,r,p⟩:∃g:aO,kP P g/\g.kind=Qh.kind/\∀(b:bn) (m:Bool) (a:List aO) (w:ag),m6 b m Qg (Qh::aU++a) Z v w= .go (aX g<|aU++a) w:=by
  cases e:ea Qh with
  |run=>exact⟨Qh,c,rfl,λb m a w=>by simp[m6,d,e,aX]⟩
  |returning=>exact⟨Qh,c,rfl,λb m a w=>by simp[m6,d,e,aX]⟩
  |panicking s=>
   cases s with
   |nil=>exact⟨Qh,c,rfl,λb m a w=>by simp[m6,d,e,aX]⟩
   |cons i t=>
    have⟨z,x,A⟩:=i;cases x with
    |false=>exact⟨Qh,c,rfl,λb m a w=>by simp[m6,d,e,aX]⟩
    |true=>
     cases k:t.dropWhile (λi:py=> !i.goexit) with
     |nil=>exact⟨{Qh with mode:=jj},⟨c.todo,c.defers,c.kind⟩,rfl,λb m a w=>by simp[m6,d,e,aX,k]⟩
     |cons y u=>exact⟨{Qh with mode:=jx<|y::u},⟨c.todo,c.defers,c.kind⟩,rfl,λb m a w=>by simp[m6,d,e,aX,k]⟩
 exact mO (λb _ m a w=>p b m a w)<|nZ l _ _ ⟨o,n,AV r j⟩
def aa6(d:Nat)(c:Option cQ)(e:∀a,c=K a->fC P af a=af):St P J (cZ P) (tQ d c):=by
 unfold tQ;exact rI (BH d) λf b=>bK (As _ ⟨b.1,b.2.1,e⟩) λ_=>trivial
def aaQ(c:Twin P J)(b:Nat):St P J (cZ P) (Instr.beginRound b):=by
 unfold Instr.beginRound;refine rI (BH b) λd a=>bK (As _ ⟨a.1,a.2.1,a.2.2⟩) λ_=>?_
 split
 exact trivial
 all_goals exact mj c (tu P) _
def aa5(d:Twin P J)(c:Nat):Still P J (cZ P) (λe=>∀b,e=K b->fC P af b=af) (Instr.endLoop c):=by
 unfold Instr.endLoop;refine rI (BH c) λf a=>?_;dsimp only
 split
 exact bK (mj d (tu P) _) λ_=>bK (As _ ⟨a.1,a.2.1,a.2.2⟩) λ_=>a.2.2;exact bK (As _ ⟨a.1,a.2.1,a.2.2⟩) λ_=>a.2.2
def aa7(f:gw)(tmps:Array F)(k:Array Tmp)(e g:cQ)(i:Option Nat)(m:fC P af e=af)(n:fC P af g=af):Still P J (cZ P) (λa=>∀b∈a.2,sL (gX b)=af) (Instr.enterLoop f tmps k e g i):=by
 unfold Instr.enterLoop;have j:∀(d:Nat),cZ P (fj {state:=.ready,pending:=Z,fn:=f,tmps,params:=k,assign:=e,body:=g,defers:=d}):=λd=>⟨m,n,λs l=>de l⟩;cases i with
 |some o=>
  refine bK (aaI<|BH o) λr=>rI (Q:=λa:Nat×List Deferred=>∀b∈a.2,sL (gX b)=af) (λb c=>by simp at c) λa h=>?_;have⟨d,p⟩:=a;exact bK (Ar<|j _) λq=>h
 |none=>
  refine bK (Ar λb c=>by simp at c) λr=>rI (Q:=λa:Nat×List Deferred=>∀b∈a.2,sL (gX b)=af) (λb c=>by
   simp only[v5] at c;subst c;rfl) λa h=>?_
  have⟨d,p⟩:=a;exact bK (Ar<|j _) λq=>h
def ab0(a:Nat):Still P J (cZ P) (λc=>∀b∈c,sL (gX b)=af) (Instr.takeDeferred a):=by
 unfold Instr.takeDeferred;refine Dz a (λe d=>?_)<|Cy Y
 split
 exact bK (As _ trivial) λ_=>d;exact dL _
def Gv(k:r8 P J)(l:Hp (cZ P) w)(h:eS P Qg aU)(t:aU=[]->nO Qg=Z)(g:Option cQ)(s:∀e,g=K e->fC P af e=af)
 {d:bn->Bool->List aO->ag->GStep} (q:nO Qg=Z->(∀m b,∃u i p,d P m b w= .ended u i p)\/∀a,a=P\/a=J->∀m b w,d a m b w= .go (aX {Qg with mode:=jj}<|aU++b) w)
 (r:∀c,nO Qg=K c->∀a m b w,d a m b w=jT (iD a Qg.fn ((tQ c g).runT a w #[]).2) (match ((tQ c g).runT a w #[]).1 with
   |cm v w=>m6 a m Qg (aU++b) Z v w
   | .halt _ w=>.ended (.stuck "range over a function: no such loop" (Qg.pos a)) w)):mE P J w d:=by
 cases f:nO Qg with
 |none=>
  rcases q f with j|j;exact av j;exact mO j<|nZ l _ _<|rK h ⟨h.top.todo,h.top.defers,h.top.kind⟩ Y
 |some c=>
  cases aU with
  |nil=>rw[t Y] at f;cases f
  |cons e aU=>
   refine yw k l Qg.fn (aa6 c g s) (λa m b x=>match x with
    |cm v w=>m6 a m Qg (e::aU++b) Z v w
    | .halt _ w=>.ended (.stuck "range over a function: no such loop" (Qg.pos a)) w) (λa y m b w _ _=>r c f a m b w) (λo i _ n=>?_) (λA i z n=>?_) λB i m b=>⟨_,_,_,rfl⟩
   exact Gw k n h o;exact av λm b=>⟨_,_,_,rfl⟩
def ZP(k:r8 P J)(u:Hp (cZ P) w)(h:eS P Qg aU)(V:r7 Qg aU)(d:ea Qg= .run):mE P J w (gC Qg aU):=by
 have X:=h.top.todo;have W:aU=[]->nO Qg=Z\/(Qg.todo≠[]/\(∀e,Qg.todo≠bJ .ret::e)/\∀id e,Qg.todo=bJ (.exit id)::e->jJ id e≠Z):=λj=>(V j).2 d;cases b:Qg.todo with
 |nil=>
  refine Gv k u h (λj=>(W j).elim id λn=>absurd b n.1) Z (λq j=>de j) (λH=>ai λc _ m a w=>?_) λi x c m a w=>?_;simp[gC,aX,cw,gd,d,b,H];simp only[gC,aX,cw,gd,d,b,x];rfl
 |cons aa e=>
  rw[b] at X;have C:=X aa aI;have o:∀l∈e,tT P (ni Qg.roundOf) l:=λl t=>X l (by simp[t]);have move:∀(M:List ez),(∀l∈M,tT P (ni Qg.roundOf) l)->(∀c m a w,gC Qg aU c m a w= .go (aX {Qg with todo:=M}<|aU++a) w)->mE P J w (gC Qg aU):=λM k j=>mO (λc _ m a w=>j c m a w)<|nZ u _ _<|rK h (Fe h.top k) Y;have r:∀{l:ez} {i:List ez},tT P (ni Qg.roundOf) l->(∀l∈i,tT P (ni Qg.roundOf) l)->∀n∈l::i,tT P (ni Qg.roundOf) n:=λt x n L=>bu;have T:(∀m a,∃N D ad,gC Qg aU P m a w= .ended N D ad)->mE P J w (gC Qg aU):=λj=>av j;cases aa with
  |inBlock l=>exact move e o λc m a w=>by simp[gC,aX,cw,gd,d,b]
  |inLoop q=>exact move (bJ q::gx q::e) (r C<|r C o) λc m a w=>by simp[gC,aX,cw,gd,d,b]
  |inScope q=>exact C.elim
  |call _ _ _ _=>exact C.elim
  |extern _ _=>exact C.elim
  |inRangeFunc i=>exact T λm a=>by simp[gC,aX,cw,gd,d,b]
  |beginRound=>
   have V:Still P J (cZ P) (v9 P<|ni Qg.roundOf) (do Qg.roundOf.elim (stuck "beginRound: no round") Instr.beginRound;pure .skip):=by
    refine bK ?_ λ_=>trivial;cases(nO Qg) with
    |none=>exact dL _
    |some i=>exact aaQ k.T i
   refine mO (λc _ m a w=>?_) (Gu k u h V<|by simp[b]);simp only[gC,aX,cw,gd,d,b]
  |endRangeFunc i=>
   refine yw k u Qg.fn (aa5 k.T i) (λc m a R=>match R with
    |cm an w=>.go (aX {Qg with todo:=(an.map bJ).toList++e}<|aU++a) w
    | .halt (.panic v) w=>.go (aX (jF Qg [{v,recovered:=aj}])<|aU++a) w
    | .halt _ w=>.ended (.stuck "range over a function: no such loop" (Qg.pos c)) w) (λc ae m a w _ _=>?_) (λp D G F=>?_) (λn D L F=>?_) λS D m a=>⟨_,_,_,rfl⟩
   simp only[gC,aX,cw,gd,d,b];rfl;refine nZ F _ _<|rK h (Fe h.top λl t=>?_) Y;rcases eP.1 t with t|t;cases p with
   |none=>simp at t
   |some q=>
    simp at t;subst t;exact RA<|G q Y
   exact o l t;cases n with
   |panic v=>exact nZ F _ _<|rK h (o5 h.top).1 (o5 h.top).2
   |_=>exact av λm a=>⟨_,_,_,rfl⟩
  |inRegion y aw=>
   cases aw with
   |nil=>exact move e o λc m a w=>by simp[gC,aX,cw,gd,d,b]
   |cons l R=>
    by_cases I:((y[l]?).map (eI · (en y Qg.tmps))).getD aj=af;cases O:y[l]? with
    |none=>rw[O] at I;simp at I
    |some N=>
     have U:tg P (ni Qg.roundOf) N.op=af:=by
      have:=fA.1 C N (by
       have:=dn.1 O;obtain⟨t,rfl⟩:=this;simp)
      exact this
     refine mO (λc _ m a w=>?_) (Gu k u h (aa9 k.T k.E (ni Qg.roundOf) Qg.eval N U)<|by simp[b]);rw[O] at I;simp only[gC,aX,cw,gd,d,b,O,I,if_true,stepG.oper,Frame.oper?]
     split
     rename_i i q x g;rw[x,g] at U;simp[tg] at U;rfl
    refine mO (F':=λc m a w=>.go (aX (dR Qg bR)<|aU++a) w) (λc _ m a w=>?_)<|nZ u _ _<|rK h (sA h.top bR).1 (sA h.top bR).2;simp only[gC,aX,cw,gd,d,b,I,if_false];rfl
  |code q=>
   have g:fC P (ni Qg.roundOf) q=af:=C;cases q with
   |skip=>exact move e o λc m a w=>by simp[gC,aX,cw,gd,d,b]
   |label i=>simp[fC] at g
   |scope i=>simp[fC] at g
   |goto i=>simp[fC] at g
   |refuse s=>exact T λm a=>by simp[gC,aX,cw,gd,d,b]
   |seq p E=>
    simp only[fC,fe] at g;exact move (bJ p::bJ E::e) (r g.1<|r g.2 o) λc m a w=>by simp[gC,aX,cw,gd,d,b]
   |block id p=>exact move (bJ p::fh id::e) (r g<|r trivial o) λc m a w=>by simp[gC,aX,cw,gd,d,b]
   |loop p=>exact move (bJ p::gx p::e) (r g<|r g o) λc m a w=>by simp[gC,aX,cw,gd,d,b]
   |cond n p E=>
    simp only[fC,fe] at g;cases L:Qg.eval n with
    |bool S=>
     refine move (bJ (if S then p else E)::e) (r ?_ o) λc m a w=>by simp[gC,aX,cw,gd,d,b,L]
     cases S;exact g.2;exact g.1
    |_=>exact T λm a=>by simp[gC,aX,cw,gd,d,b,L]
   |ret=>
    refine Gv k u h (λj=>(W j).elim id λn=>absurd b<|n.2.1 e) (K .ret) (λq j=>by cases j;rfl) (λH=>ai λc _ m a w=>?_) λi x c m a w=>?_;simp[gC,aX,cw,gd,d,b,H];simp only[gC,aX,cw,gd,d,b,x];rfl
   |exit id=>
    cases B:jJ id e with
    |some M=>exact move M (E0 o B) λc m a w=>by simp[gC,aX,cw,gd,d,b,B]
    |none=>
     refine Gv k u h (λj=>(W j).elim (λn=>n) λn=>absurd B<|n.2.2 id e b) (K<|.exit id) (λq j=>by cases j;rfl) (λH=>av λm a=>?_) λi x c m a w=>?_;simp[gC,aX,cw,gd,d,b,B,H];simp only[gC,aX,cw,gd,d,b,B,x];rfl
   |region id y ab=>
    cases ab with
    |false=>exact move (bY y (List.range y.size)::e) (r g o) λc m a w=>by simp[gC,aX,cw,gd,d,b]
    |true=>
     refine ai ⟨{Qg with todo:=bY y (y4 (P.follows .mixedOrders) y<|dG w (dU w)<|.order Qg.fn id)::e},aU,{w with drawn:=dU w+1},#[],λm a=>?_,rK h (Fe h.top<|r g o) Y,u,rfl,Nat.le_succ _,aZ _,rfl,rfl,λj B=>by simp at B,ai λaA z az Q G=>⟨az,⟨⟨Q.size,Q.at_,Q.os,Q.output⟩,λE al=>⟨al,rfl⟩⟩,λm a=>?_⟩⟩;simp[gC,aX,cw,gd,d,b,choose,jU,Question.forced,Question.cut];have:=G 0 (.order Qg.fn id) aI;simp only[tY] at this;simp[gC,aX,cw,gd,d,b,choose,jU,Question.forced,Question.cut,k.mixed,sh,this]
   |rangeFunc f ar p E=>
    simp only[fC,fe] at g;refine yw k u Qg.fn (aa7 Qg.fn Qg.tmps ar p E (nO Qg) g.1 g.2) (λc m a R=>match R with
     |cm (i,mark) w=>jV c af {Qg with todo:=.inRangeFunc i::e,defers:=mark++Qg.defers} (aU++a) Z (do let z <-m8 Qg.eval {callee:=.value f,args:= #[.const<|.func (gP i) #[] #[]],argTypes:= #[]} 0;invoke (gX z) z.args) w
     | .halt _ w=>.ended (.stuck "range over a function: no such loop" (Qg.pos c)) w) (λc ae m a w _ _=>?_) (λao D G F=>?_) (λn D L F=>?_) λS D m a=>⟨_,_,_,rfl⟩
    simp only[gC,aX,cw,gd,d,b];rfl;have⟨i,mark⟩:=ao;have am:kP P {Qg with todo:=.inRangeFunc i::e,defers:=mark++Qg.defers}:=⟨r trivial o,λz A=>by
     rcases eP.1 A with A|A;exact G z A;exact h.top.defers z A,h.top.kind⟩
    exact Gu k F (rK h am Y) (rI (NF P J (ni Qg.roundOf) _ _ _ Y) λz A=>Hu k.T k.E _ _ _ A) aI;exact av λm a=>⟨_,_,_,rfl⟩
def Vr{a:Target}(h:sL a=af):x3 P qW a=af:=by
 cases a<;>first|rfl|(simp[sL] at h)
def ZO(l:r8 P J)(H:Hp (cZ P) w)(h:eS P Qg aU){k:Deferred}(G:sL (gX k)=af)(M:ea Qg≠.run):mE P J w (λg m a w=>oJ g Qg (aU++a) Z k w):=by
 have⟨q,y⟩:=k;by_cases A:q= .nil/\∃z,ea Qg=jx z
 .obtain⟨rfl,z,F⟩:=A;refine av λm a=>?_;dsimp only;unfold oJ;rw[if_pos ?hP]
  case hP=>simp[F]
  exact⟨_,_,_,rfl⟩
 .have u:∀e,Hp (cZ P) e->mE P J e (λg m a w=>.go (aX Qg<|aU++a) w):=λe c=>nZ c _ _ h;refine yw l H Qg.fn (Hu l.T l.E af q y<|Vr G) (λg m a t=>match t with
   |cm (.enter f args) w=>.go (aX (eT g f args .deferred)<|Qg::aU++a) w
   |cm (.round p f r i j) w=>.go (aX (mZ p f r i j .deferred)<|Qg::aU++a) w
   |cm _ w=>.go (aX Qg<|aU++a) w
   | .halt (.panic v) w=>.go (aX (jF Qg [{v,recovered:=aj}])<|aU++a) w
   | .halt b w=>.ended (match b with| .unsupported C=>.unsupported C (Qg.pos g)| .stuck s=>.stuck s (Qg.pos g)|_=>.stuck "" "") w) (λg I m a w B o=>?_) (λi e n c=>?_) (λb e d c=>?_) λN e m a=>⟨_,_,_,rfl⟩
  .unfold oJ;rw[if_neg ?hL]
   case hL=>
    intro E;apply A;cases q<;>cases o:ea Qg<;>simp[o] at E ⊢
   generalize K:(invoke q y).runT g w #[]=D at B o;have⟨t,L⟩:=D;dsimp only;cases t with
   |ok i x=>
    have:=o i x Y;cases i<;>first|exact absurd this (λh=>h)|(cases this;done)|rfl
   |halt b x=>
    have:=B b x Y;cases b<;>first|(simp[sK] at this;done)|rfl
  cases i with
  |value v=>exact u e c
  |skip=>exact u e c
  |enter f args=>exact Mh c l f args .deferred (ai Y) (Qg::aU) (λb d=>by
   rcases gy.1 d with rfl|d;exact h.top;exact h.rest b d) h.bot
  |round p f r b j=>exact nZ c (mZ p f r b j .deferred) (Qg::aU) ⟨Mx p f r b j .deferred (ai Y) n.1 n.2,λb d=>by
   rcases gy.1 d with rfl|d;exact h.top;exact h.rest b d,h.bot⟩
  |defer k=>exact u e c
  |recover=>cases n
  |_=>exact ff n
  cases b with
  |panic v=>exact nZ c _ _<|rK h (o5 h.top).1 (o5 h.top).2
  |stuck s=>exact av λm a=>⟨_,_,_,rfl⟩
  |unsupported C=>exact av λm a=>⟨_,_,_,rfl⟩
  |_=>simp[sK] at d
def NG(a:Twin P J)(fn:cF)(d:Array F):St P J (cZ P) (dB fn d):=by
 unfold dB;refine bK (Nx _ _ λb=>?_) λf=>trivial;cases b with
 |tmp c=>exact trivial
 |cell e c=>exact bK (M7 a (tu P) _) λ_=>Hw a _ _
def ZQ(i:r8 P J)(j:∀f:Nat,(J.funcs[f]? =Z↔P.funcs[f]? =Z)/\∀fn c:cF,P.funcs[f]? =K fn->J.funcs[f]? =K c->rR c=rR fn)(l:Hp (cZ P) w)(h:eS P Qg aU)(R:r7 Qg aU)(r:ea Qg≠.run):mE P J w (gC Qg aU):=by
 have I:∀a m b w,gC Qg aU a m b w=kW a m Qg (aU++b) Z w:=λa m b w=>by
  unfold gC;cases o:ea Qg<;>first|exact absurd o r|simp[aX,cw,o]
 refine mO (λa _ m b w=>I a m b w) ?_;cases e:Qg.defers with
 |cons u A=>
  have Q:sL (gX u)=af:=h.top.defers u (by simp[e]);have D:kP P {Qg with defers:=A}:=⟨h.top.todo,λg d=>h.top.defers g bu,h.top.kind⟩;have T:=ZO i l (rK h D Y) Q r;have⟨V,W⟩:=u;cases V with
  |collected E=>
   refine yw i l Qg.fn (ab0 E) (λa m b y=>match y with
    |cm F w=>.go (aX {Qg with defers:=F++A}<|aU++b) w
    | .halt _ w=>.ended (.stuck "the deferred calls of a range-over-func loop have been taken" (Qg.pos a)) w) (λa x m b w _ _=>?_) (λz p B n=>?_) (λg p d n=>?_) λU p m b=>⟨_,_,_,rfl⟩
   unfold kW;rw[e];rfl;exact nZ n _ _ (rK h ⟨h.top.todo,λg d=>by
    rcases eP.1 d with d|d;exact B g d;exact D.defers g d,h.top.kind⟩ Y)
   exact av λm b=>⟨_,_,_,rfl⟩
  |_=>
   refine mO (λa _ m b w=>?_) T;unfold kW;rw[e]
 |nil=>
  cases aU with
  |nil=>exact absurd e<|(R Y).1 r
  |cons q aU=>
   have C:kP P q:=h.rest q aI;have S:∀f∈aU,kP P f:=λf j=>h.rest f (by simp[j]);cases t:ea Qg with
   |run=>exact absurd t r
   |panicking G=>
    have O:∀a,Qg.catches a=aj:=λa=>by
     unfold Frame.catches
     split
     rename_i H;exact ff<|h.top.todo (Item.call _ _ _ _)<|bV H<|List.mem_cons_self ..
     .rfl
    refine mO (F':=λa m b w=>.go (aX (jF q G)<|aU++b) w) (λa _ m b w=>?_)<|nZ l _ _ ⟨(o5 C).1,S,AV (o5 C).2 h.bot⟩;unfold kW;rw[e];simp[t,O,aX]
   |returning=>
    cases k:P.funcs[Qg.fn]? with
    |none=>
     have X:=(j Qg.fn).1.2 k;refine mO (λa x m b w=>?_)<|Gw i l h<|cB Qg.tmps 0 bR;have:a.funcs[Qg.fn]? =Z:=bu;unfold kW;rw[e];simp[t,this]
    |some fn=>
     refine yw i l Qg.fn (NG i.T fn Qg.tmps) (λa m b y=>match y with
      |cm v w=>m6 a m Qg (q::aU++b) Z v w
      | .halt (.stuck s) w=>.ended (.stuck s<|Qg.pos a) w
      | .halt _ w=>.ended (.stuck "return: the result variables cannot be read" (Qg.pos a)) w) (λa x m b w _ _=>?_) (λz p B n=>?_) (λg p d n=>?_) λU p m b=>⟨_,_,_,rfl⟩
     have:∃c,a.funcs[Qg.fn]? =K c/\rR c=rR fn:=by
      rcases x with rfl|rfl;exact⟨fn,k,rfl⟩;cases o:a.funcs[Qg.fn]? with
      |none=>rw[(j Qg.fn).1.1 o] at k;cases k
      |some c=>exact⟨c,rfl,(j Qg.fn).2 fn c k o⟩
     have⟨c,L,M⟩:=this;have N:dB c Qg.tmps=dB fn Qg.tmps:=by unfold dB;rw[M]
     unfold kW;rw[e];simp only[t,L,N];rfl;exact Gw i n h z;cases g<;>exact av λm b=>⟨_,_,_,rfl⟩
def Gy(b:r8 P J)(g:∀f:Nat,(J.funcs[f]? =Z↔P.funcs[f]? =Z)/\∀fn a:cF,P.funcs[f]? =K fn->J.funcs[f]? =K a->rR a=rR fn)(d:Hp (cZ P) w)(h:eS P Qg aU)(e:r7 Qg aU):mE P J w (gC Qg aU):=by
 by_cases c:ea Qg= .run;exact ZP b d h e c;exact ZQ b g d h e c
end
structure Twins(P P':bn):Prop where
 A:r8 P P'
 R:∀f:Nat,(P'.funcs[f]? =Z↔P.funcs[f]? =Z)/\∀fn fn':cF,P.funcs[f]? =K fn->P'.funcs[f]? =K fn'->rR fn'=rR fn
def Still.self{P P':bn}{h:cz->Prop}{k:Type}{i:k->Prop}:∀{s:dh k},Still P P' h i s->Still P P h i s:=by
 intro s
 induction s with
 |pure e=>intro a;exact a
 |load m e c b=>intro a v;exact b v<|a v
 |store m e v c b=>intro a;exact b a
 |new f c b=>intro a;exact⟨a.1,λd=>b d<|a.2 d⟩
 |shape d c b=>intro a s;exact b s<|a s
 |freeze e g c b=>intro a;exact b a
 |frozen e c b=>intro a j;exact b j<|a j
 |getObj d c b=>intro a;exact⟨λf l=>b f<|a.1 f l,a.2⟩
 |setObj d f c b=>intro a;exact⟨a.1,b a.2⟩
 |choose o c b=>intro a g;exact b g<|a g
 |sys n c b=>intro a;exact⟨a.1,λd=>b d<|a.2 d⟩
 |program c b=>intro a;exact⟨rfl,b P a.2⟩
 |mark m c b=>intro a;exact⟨a.1,b a.2⟩
 |halt a=>intro a;exact a
def Views.self{P P':bn}(h:Views P P'):Views P P:=by
 have i:∀(a:ag) c d b m,a.viewLoad P' c d b m=a.viewLoad P c d b m:=λa c d b m=>h.load a a c d b m λ_ _ _=>Iff.rfl;have s:∀(a:ag) c d b v m,a.viewStore P' c d b v m=a.viewStore P c d b v m:=λa c d b v m=>by
  rcases h.store a a c d b v m λ_ _ _=>Iff.rfl with⟨o,j,k⟩|⟨l,i,f,n,j,k,-⟩<;>rw[j,k]
 refine⟨λa e c d b m g=>(i e c d b m).symm.trans<|h.load a e c d b m g,h.touch,λa e c d b v m g=>?_⟩;rw[<-s e];exact h.store a e c d b v m g
def Twins.self{P P':bn}(h:Twins P P'):Twins P P:=
 ⟨⟨⟨λ_=>rfl,λ_=>rfl,rfl,λ_=>rfl,λ_=>rfl,rfl,λ_ _ _ _ _ _=>rfl,λ_ _ _ _ _=>rfl,λ_ _ _=>rfl,λ_ _=>rfl,λ_=>rfl,λ_ _=>rfl,rfl,rfl,rfl,λ_=>av Y⟩,
  ⟨h.A.E.named,h.A.E.next,λf fn c a b d args=>(h.A.E.find f fn c a b d args).self⟩,λ_=>rfl,rfl,λ_=>av Y,h.A.Ev,h.A.view.self⟩,λf=>⟨Iff.rfl,λfn e a b=>bu⟩⟩
structure D8(P:bn)(w w':ag)(es:Array ef):Prop where
 hp:Hp (cZ P) w'
 tape:dG w'=dG w
 drawn:dU w<=dU w'
 size:U w.heap<=U w'.heap
 os:w'.os=w.os
 output:ga w'=ga w
 evs:∀e∈es,mY (U w'.heap) e
def Fin (P P':bn)(Stop:aO->List aO->ag->Prop)(d:aO)(aU:List aO)(e f:ag):Prop:=
 ∀g:aO->List aO->ag->ag->Prop,(∀d aU e f,Stop d aU e->g d aU e f)->
  (∀d aU e f (c:Tp->Nat->aO×List aO×ag×ag×Array ef),(∀b a m h,cw P' m (aX d<|aU++h) (sh b a f)= .go (aX (c b a).1<|(c b a).2.1++h) (c b a).2.2.2.1 (c b a).2.2.2.2)->
    (∀b a,D8 P (sh b a e) (c b a).2.2.1 (c b a).2.2.2.2)->(∀b a,iH (sh b a e) (sh b a f) (c b a).2.2.1 (c b a).2.2.2.1/\(c b a).2.2.2.1.tape=(c b a).2.2.1.tape)->(∀b a,eS P (c b a).1 (c b a).2.1)->r7 d aU->
    (∀b a,g (c b a).1 (c b a).2.1 (c b a).2.2.1 (c b a).2.2.2.1)->g d aU e f)->g d aU e f
def Fin.stop{P P':bn}{Stop:aO->List aO->ag->Prop}(h:Stop Qg aU w):Fin P P' Stop Qg aU w u:=λb a _=>a _ _ _ _ h
def Fin.step{P P':bn}{Stop:aO->List aO->ag->Prop}(c:Tp->Nat->aO×List aO×ag×ag×Array ef)(g:∀b a m d,cw P' m (aX Qg<|aU++d) (sh b a u)= .go (aX (c b a).1<|(c b a).2.1++d) (c b a).2.2.2.1 (c b a).2.2.2.2)
 (j:∀b a,D8 P (sh b a w) (c b a).2.2.1 (c b a).2.2.2.2) (n:∀b a,iH (sh b a w) (sh b a u) (c b a).2.2.1 (c b a).2.2.2.1/\(c b a).2.2.2.1.tape=(c b a).2.2.1.tape) (k:∀b a,eS P (c b a).1 (c b a).2.1) (l:r7 Qg aU) (h:∀b a,Fin P P' Stop (c b a).1 (c b a).2.1 (c b a).2.2.1 (c b a).2.2.2.1):Fin P P' Stop Qg aU w u:=
 λf i e=>e _ _ _ _ c g j n k l λb a=>h b a f i e
def fD:aO:={(default:aO) with todo:=[bJ<|.refuse ""],defers:=[{target:=.nil,args:= #[]}],mode:=.run,kind:=dM}
def ack(a:Option (List py))(d:ag):∃c e b,cw P af (aX ((a.map<|jF fD).getD fD) []) d= .ended c e b:=by
 cases a with
 |none=>simp[aX,cw,gd,fD]
 |some f=>simp[aX,cw,fD,jF,kW,oJ]
def YW(L:Twins P P')(N:Hp (cZ P) w)(h:eS P Qg [])(u:¬r7 Qg []):(∃j c d,cw P af (aX Qg [fD]) w= .ended j c d)\/∃e c d,cw P af (aX Qg [fD]) w= .go (aX (((e:Option (List py)).map<|jF fD).getD fD) []) c d:=by
 have E:dj Qg=dM:=h.bot;have s:∀v w,m6 P af Qg [fD] Z v w= .go (aX fD []) w:=λv w=>by simp[m6,E,aX,dR,fD]
 have rB:∀d k,((∃j c d,k=GStep.ended j c d)\/∃e c d,k=GStep.go (aX (((e:Option (List py)).map<|jF fD).getD fD) []) c d)->(∃j c m,jT d k=GStep.ended j c m)\/∃e c m,jT d k=GStep.go (aX (((e:Option (List py)).map<|jF fD).getD fD) []) c m:=by
  rintro d k (⟨j,c,m,rfl⟩|⟨e,c,m,rfl⟩);exact av ⟨_,_,_,rfl⟩;exact ai ⟨e,_,_,rfl⟩
 by_cases g:ea Qg= .run;have J:∃b r,nO Qg=K b/\∀w,cw P af (aX Qg [fD]) w=jT (iD P Qg.fn ((tQ b r).runT P w #[]).2) (match ((tQ b r).runT P w #[]).1 with
  |cm v w=>m6 P af Qg [fD] Z v w
  | .halt _ w=>.ended (.stuck "range over a function: no such loop" (Qg.pos P)) w):=by
  have:¬(nO Qg=Z\/(Qg.todo≠[]/\(∀a,Qg.todo≠bJ .ret::a)/\∀id a,Qg.todo=bJ (.exit id)::a->jJ id a≠Z)):=λD=>u λ_=>⟨λh=>absurd g h,λ_=>D⟩;rw[not_or] at this;have⟨H,q⟩:=this;obtain⟨b,f⟩:∃b,nO Qg=K b:=by
   cases I:nO Qg with
   |none=>exact absurd I H
   |some b=>exact⟨b,rfl⟩
  by_cases t:Qg.todo=[];exact⟨b,Z,f,λw=>by simp only[aX,cw,gd,g,t,f];rfl⟩;by_cases n:∃a,Qg.todo=bJ .ret::a;have⟨a,n⟩:=n;exact⟨b,K .ret,f,λw=>by simp only[aX,cw,gd,g,n,f];rfl⟩;by_cases o:∃id a,Qg.todo=bJ (.exit id)::a/\jJ id a=Z;have⟨id,a,o,A⟩:=o;exact⟨b,K<|.exit id,f,λw=>by simp only[aX,cw,gd,g,o,A,f];rfl⟩;exact absurd ⟨t,λa l=>n ⟨a,l⟩,λid a l G=>o ⟨id,a,l,G⟩⟩ q
 have⟨b,r,f,C⟩:=J;rw[C];refine rB _ _ ?_;cases((tQ b r).runT P w #[]).1 with
 |ok v i=>exact ai ⟨Z,i,_,s v i⟩
 |halt x i=>exact av ⟨_,_,_,rfl⟩
 have p:oH Qg=[]:=by
  by_cases p:oH Qg=[];exact p;exact absurd (λ_=>⟨λ_=>p,λh=>absurd h g⟩) u
 have z:∀w,cw P af (aX Qg [fD]) w=kW P af Qg [fD] Z w:=λw=>by
  cases q:ea Qg<;>first|exact absurd q g|simp[aX,cw,q]
 rw[z];unfold kW;rw[p];cases F:ea Qg with
 |run=>exact absurd F g
 |panicking y=>
  have B:Qg.catches P=aj:=by
   unfold Frame.catches
   split
   rename_i l;exact ff<|h.top.todo (Item.call _ _ _ _)<|bV l<|List.mem_cons_self ..;rfl
  exact ai ⟨K y,w,#[],by simp[B,aX]⟩
 |returning=>
  dsimp only;cases M:P.funcs[Qg.fn]? with
  |none=>exact ai ⟨Z,w,_,s _ w⟩
  |some fn=>
   dsimp only;refine rB _ _ ?_;cases((dB fn Qg.tmps).runT P w #[]).1 with
   |ok v i=>exact ai ⟨Z,i,_,s v i⟩
   |halt x i=>cases x<;>exact av ⟨_,_,_,rfl⟩
def AR (Stop:aO->List aO->ag->Prop)(b:aO)(aU:List aO)(c:ag):Prop:=∃d a,Stop b aU<|sh d a c
structure Node(P P':bn)(Stop:aO->List aO->ag->Prop) where
 fr:aO
 aU:List aO
 w:ag
 u:ag
 ok:eS P fr aU
 hp:Hp (cZ P) w
 un:Un w u
 no:¬Fin P P' (AR Stop) fr aU w u
section
variable{Stop:aO->List aO->ag->Prop}
def Io (a:Node P P' Stop)(e:Tp)(c:Nat)(b:Node P P' Stop):Prop:=∃d,AM P P (sh e c a.w) (gC a.fr a.aU) b.fr b.aU b.w d
def Ee (a:Node P P' Stop)(f:Tp)(d:Nat):Prop:=¬r7 a.fr a.aU\/(∀m g,∃h c b,gC a.fr a.aU P m g (sh f d a.w)= .ended h c b)\/∃e i c b,AM P P (sh f d a.w) (gC a.fr a.aU) e i c b/\xk e
def Oj(h:iH w w u W)(d:Tp)(c:Nat):sh d c W=sh d c u:=by
 have e:dF W=dF u:=by
  apply vK;intro b;rcases h.un.cases b with a|⟨a,i,f,g⟩;exact a;rw[(h.keep b a).2,(h.keep b a).1,a]
 unfold sh;rw[e,h.un.os,h.un.output]
def G5{d:bn->Bool->List aO->ag->GStep}(hx:∀a n b,Un w b->Al (dG w) (dU w) a n (dU u-dU w)->∃c,iH w b u c/\∀m e,d P m e (sh a n b)= .go (aX Qg<|Qj++e) (sh a (n+(dU u-dU w)) c) QS){a:Tp}(g:Al (dG w) (dU w) a n (dU u-dU w)):d P af [fD] (sh a n w)= .go (aX Qg<|Qj++[fD]) (sh a (n+(dU u-dU w)) u) QS:=by
 have⟨c,h,f⟩:=hx a n w (Un.refl w) g;rw[f af [fD],Oj h]
def UJ(h:Twins P P')(e:Hp (cZ P) w)(g:eS P Qg aU)(f:r7 Qg aU)(b:AM P P' w (gC Qg aU) Qh Qj u QS):AM P P w (gC Qg aU) Qh Qj u QS:=by
 rcases Gy h.self.A h.self.R e g f with d|⟨j,l,n,i,c⟩;have⟨k,m,A1,a⟩:=d af [];rw[b.eq] at a;cases a;have a:=(c.eq af []).symm.trans<|b.eq af [];simp only[aX,l5,GStep.go.injEq,Ie] at a;obtain⟨⟨rfl,rfl,-⟩,rfl,rfl⟩:=a;exact c
def Xr(h:Twins P P')(c:Node P P' Stop):∃b a n,Ee c b a\/Io c b a n:=by
 apply xh;intro u;have v:∀b a,¬Ee c b a/\∀n,¬Io c b a n:=λb a=>⟨λj=>u ⟨b,a,c,av j⟩,λn C=>u ⟨b,a,n,ai C⟩⟩;have k:∀b a,∃d:aO×List aO×ag×ag×Array ef,(∀m i,cw P' m (aX c.fr<|c.aU++i) (sh b a c.u)= .go (aX d.1<|d.2.1++i) d.2.2.2.1 d.2.2.2.2)/\D8 P (sh b a c.w) d.2.2.1 d.2.2.2.2/\(iH (sh b a c.w) (sh b a c.u) d.2.2.1 d.2.2.2.1/\d.2.2.2.1.tape=d.2.2.1.tape)/\eS P d.1 d.2.1/\Fin P P' (AR Stop) d.1 d.2.1 d.2.2.1 d.2.2.2.1:=by
  intro b a;have⟨r,A⟩:=v b a;have g:r7 c.fr c.aU:=xh λg=>r<|av g;rcases Gy h.A h.R (c.hp.sh b a) c.ok g with z|⟨p,s,f,o,e⟩;exact absurd (ai<|av z) r;have w:=UJ h (c.hp.sh b a) c.ok g e;rcases e.twin with q|j;exact absurd (ai<|ai ⟨p,s,f,o,w,q.2⟩) r;have⟨t,l,j⟩:=j b a c.u ⟨c.un.size,c.un.at_,c.un.os,c.un.output⟩<|Al.refl _ _ _;have q:=e.drawn;have y:(sh b a c.w).drawn=a:=rfl;rw[y] at q j;have x:iH (sh b a c.w) (sh b a c.u) f (sh b f.drawn t):=⟨⟨l.un.size,l.un.at_,l.un.os,l.un.output⟩,l.keep⟩;refine⟨(p,s,f,sh b f.drawn t,o),λm i=>?_,⟨e.hp,e.tape,e.drawn,e.size,e.os,e.output,e.evs⟩,⟨x,bq e.tape⟩,e.ok,?_⟩;have:=j m i;rw[show a+(f.drawn-a)=f.drawn by omega] at this;exact this;apply xh;intro B;exact A ⟨p,s,f,sh b f.drawn t,e.ok,e.hp,x.un,B⟩ ⟨o,w⟩
 have g:r7 c.fr c.aU:=xh λg=>(v (λ_ _=>0) 0).1<|av g;exact c.no<|.step (λb a=>mr<|k b a) (λb a m i=>(fE (k b a)).1 m i) (λb a=>(fE (k b a)).2.1) (λb a=>(fE (k b a)).2.2.1) (λb a=>(fE (k b a)).2.2.2.1) g λb a=>(fE (k b a)).2.2.2.2
def least{p:Nat->Prop}:∀(b:Nat),p b->∃m,m<=b/\p m/\∀a<m,¬p a:=by
 intro b
 induction b using Nat.strongRecOn with
 |_ b i=>
  intro h;by_cases e:∃a,a<b/\p a;have⟨a,c,d⟩:=e;have⟨m,j,f,g⟩:=i a c d;exact⟨m,aa,f,g⟩;exact⟨b,aZ _,h,λa c d=>e ⟨a,c,d⟩⟩
def Hg(h:Stepped.next (p9 (aX Qg Qj) w)= .next (p9 (aX Qh Qk) u)):Qg=Qh/\Qj=Qk/\w=u:=by
 simp only[aeC,p9,aX,aev,Ie,Array.mk.injEq,List.cons.injEq] at h;obtain⟨b,a,-⟩:=h;simp at a;exact⟨a.1,a.2,b⟩
def step_end{a:Outcome}(h:cw P af (aX Qg Qj) w= .ended a u QS):step P (p9 (aX Qg Qj) w)= .ended a u:=
 step_lone_ended (by simp only[aX] at h;rw[h];rfl)
def TD(h:xk Qg)(d:List aO)(e:ag):∃a b,step P (p9 (aX Qg d) e)= .ended a b:=by
 have⟨g,s,i⟩:=h;have:∃a b c,cw P af (aX Qg d) e= .ended a b c:=by simp[aX,cw,gd,g,i]
 have⟨a,b,c,f⟩:=this;exact⟨a,b,step_end f⟩
def JW(h:Twins P P')(aF:∀Qg aU w,Stop Qg aU w->¬xk Qg)(a5:eS P Qg aU)(aR:Hp (cZ P) w)(a3:Un w u)
 (aK:∀a6,∃N J S T,runN P N (p9 (aX Qg<|aU++[fD])<|sh a6 0 w)= .next (p9 (aX J<|S++[fD]) T)/\Stop J S T):Fin P P' (AR Stop) Qg aU w u:=by
 apply xh;intro aQ;have⟨l,aD⟩:=Classical.axiomOfChoice<|Xr (Stop:=Stop) h;have⟨k,aE⟩:=Classical.axiomOfChoice aD;have⟨s,a0⟩:=Classical.axiomOfChoice aE;let b:Nat->Node P P' Stop:=λa=>Nat.rec ⟨Qg,aU,w,u,a5,aR,a3,aQ⟩ (λ_ F=>s F) a;let Q:Node P P' Stop->Nat:=λF=>(s F).w.drawn-k F;let D:Nat->Nat:=λa=>Nat.rec 0 (λa aw=>aw+Q (b a)) a;let o:Nat->Prop:=λa=>Ee (b a) (l<|b a)<|k<|b a;have U:∀a,D (a+1)=D a+Q (b a):=λa=>rfl;have a7:∀a c,c<a->D (c+1)<=D a:=by
  intro a
  induction a with
  |zero=>intro c n;omega
  |succ a O=>
   intro c n;rcases jc c a with h|h;have:=O c h;rw[U a];omega;have:c=a:=aa;subst this;exact aZ _
 let R:Nat->Nat->Prop:=λi a=>D a<=i/\(o a\/i<D (a+1));have r:∃g:Tp,∀a,(∀c<a,¬o c)->∀i e,R i a->g i e=l (b a) (k (b a)+(i-D a)) e:=by
  have aI:∀(i:Nat),∃f:Question->Nat,∀a,(∀c<a,¬o c)->R i a->∀e,f e=l (b a) (k (b a)+(i-D a)) e:=by
   intro i;by_cases A:∃a,(∀c<a,¬o c)/\R i a;have⟨a,p,ad⟩:=A;refine⟨λe=>l (b a) (k (b a)+(i-D a)) e,λa4 a8 ba e=>?_⟩;have:a=a4:=bu;subst this;rfl;exact⟨λ_=>0,λa p ad=>absurd ⟨a,p,ad⟩ A⟩
  have⟨g,r⟩:=Classical.axiomOfChoice aI;exact⟨λi e=>g i e,λa p i e A=>r i a p A e⟩
 have⟨g,r⟩:=r;have al:∀a,(∀c<a,¬o c)->runN P a (p9 (aX Qg<|aU++[fD])<|sh g 0 w)= .next (p9 (aX (b a).fr<|(b a).aU++[fD])<|sh g (D a) (b a).w):=by
  intro a
  induction a with
  |zero=>intro _;rfl
  |succ a O=>
   intro p;have I:=O λc n=>p c aa;rcases a0 (b a) with M|⟨y,x⟩;exact absurd M<|p a aa
   .rcases x.twin with j|j;exact absurd Y j.1
    .have z:Al (dG<|sh (l<|b a) (k<|b a) (b a).w) (dU<|sh (l<|b a) (k<|b a) (b a).w) g (D a) ((s<|b a).w.drawn-dU (sh (l<|b a) (k<|b a) (b a).w)):=by
      intro c e n;have:=r a (λc n=>p c aa) (D a+c) e ⟨aa,ai<|by rw[U];exact Nat.add_lt_add_left n _⟩;rw[this,Nat.add_sub_cancel_left];rfl
     have K:=G5 j z;have B:step P (p9 (aX (b a).fr<|(b a).aU++[fD])<|sh g (D a) (b a).w)= .next (p9 (aX (s<|b a).fr<|(s<|b a).aU++[fD])<|sh g (D a+Q (b a)) (s<|b a).w):=Conc.step_solo_go Y K;rw[runN_add,I];simp only[runN,B];rfl
 have⟨N,J,S,T,d,L⟩:=aK g;by_cases W:∀c<N,¬o c;have:=(al N W).symm.trans d;have⟨H,v,aA⟩:=Hg this;rw[<-H,<-(List.append_cancel_right v),<-aA] at L;exact(b N).no<|.stop ⟨g,D N,L⟩;have:∃c,c<N/\o c:=xh λj=>W λc n M=>j ⟨c,n,M⟩;have⟨c,n,a2⟩:=this;have⟨a,a9,am,ab⟩:=least (p:=o) c a2;have I:=al a ab;obtain⟨t,rfl⟩:∃t,N=a+(t+1):=⟨N-a-1,aa⟩;rw[runN_add,I] at d;simp only[runN] at d;have z:∀an,Al (l<|b a) (k<|b a) g (D a) an:=λan c e n=>by
  rw[r a ab (D a+c) e ⟨aa,av am⟩,Nat.add_sub_cancel_left]
 have Z:=(b a).hp.sh g<|D a;have ae:¬r7 (b a).fr (b a).aU->False:=by
  intro q;have a1:(b a).aU=[]:=xh λj=>q λm=>absurd m j;have ao:=(b a).ok;rw[a1] at q ao d;rcases YW h Z ao q with⟨C,E,y,m⟩|⟨az,E,y,m⟩;rw[show([]:List aO)++[fD]=[fD] from rfl,step_end m] at d;cases d;rw[show([]:List aO)++[fD]=[fD] from rfl,Conc.step_solo_go Y m] at d;dsimp only at d;cases t with
  |zero=>
   obtain⟨-,v,-⟩:=Hg d;simp at v
  |succ t=>
   have⟨C,G,V,v⟩:=ack (P:=P) az E;simp only[runN,step_end v] at d;cases d
 rcases am with q|aG|⟨aC,ar,G,V,x,X⟩;exact ae q;by_cases q:r7 (b a).fr (b a).aU;rcases Gy h.self.A h.self.R Z (b a).ok q with aH|⟨aC,ar,G,V,x⟩;have⟨C,E,y,m⟩:=aH af [fD];rw[step_end m] at d;cases d
 .rcases x.twin with j|j
  .exact absurd Y j.1
  .have⟨C,E,y,m⟩:=aG af [fD];have:=G5 j λc e n=>bq<|(z _) c e n;rw[show sh (l<|b a) (k<|b a) (sh g (D a) (b a).w)=sh (l<|b a) (k<|b a) (b a).w from rfl,m] at this;cases this
 .exact ae q
 .rcases x.twin with j|j
  .exact absurd Y j.1
  .have K:=G5 j<|z _;have B:=Conc.step_solo_go (P:=P) (a:=aX (b a).fr<|(b a).aU++[fD]) Y K;rw[show sh g (D a) (sh (l<|b a) (k<|b a) (b a).w)=sh g (D a) (b a).w from rfl] at B;rw[B] at d;dsimp only at d;cases t with
   |zero=>
    obtain⟨H,-,-⟩:=Hg d;exact aF _ _ _ L<|H▸X
   |succ t=>
    have⟨C,bb,m⟩:=TD (P:=P) X (ar++[fD])<|sh g (D a+(dU G-dU (sh (l<|b a) (k<|b a) (b a).w))) G;simp only[runN,m] at d;cases d
end
open Go.Conc
def blk:Loc->Nat
 | .cell a=>cD a
 | .obj b=>b
 |_=>0
structure jX where
 c:Nat
 own:Nat->Prop
 pc:Option Nat
def OF (S:Nat->Prop)(b:jX)(a:Touch):Prop:=b.own (blk a.loc)\/blk a.loc=b.c\/(S (blk a.loc)/\a.write=aj)
structure jz(S:Nat->Prop)(wk:Nat->Option jX)(B:Nat)(t:Trace):Prop where
 wl:Wordless t
 clean:∀said,¬Race said t
 low:∀i a,touchAt t i=K a->uO a.loc=af->blk a.loc<B
 known:∀i a,touchAt t i=K a->uO a.loc=af->Knows t 0 i\/∃k x,wk k=K x/\t.g? i=K k/\OF S x a/\∀p,x.pc=K p->Before t i p
 wr:∀k x,wk k=K x->x.pc=Z->∀i a,touchAt t i=K a->uO a.loc=af->a.write=af->S (blk a.loc)->Knows t k i
 ow:∀k x,wk k=K x->x.pc=Z->∀i a,touchAt t i=K a->uO a.loc=af->(x.own (blk a.loc)\/blk a.loc=x.c)->Knows t k i
 shut:∀k x p,wk k=K x->x.pc=K p->t.act? p=K (.close x.c)
section
variable{wk:Nat->Option jX}{B':Nat}{t u:Trace}
def xW(h:t.g? n=K m):(t++u).g? n=K m:=by
 unfold Trace.g? at h ⊢;have⟨c,a,b⟩:=xD.1 h;rw[getElem?_append_old<|lt_size_of_getElem? a,a];simpa using b
def pg{a:Touch}(h:touchAt (t++u) n=K a):touchAt t n=K a\/∃b,b∈u/\(t++u)[n]? =K b/\mA b.act=K a:=by
 have⟨g,c,d⟩:=touch_of h;rcases getElem?_append_cases c with⟨_,e⟩|⟨_,f⟩;exact av<|bV (touchAt_of e) d;exact ai ⟨g,f,c,d⟩
def jz.mute(h:jz S wk B t)(w:∀k∈u,k.g=γ)(x:Wordless u)(r:∀k∈u,mA k.act=Z)(q:B<=B'):jz S wk B' (t++u):=by
 have m:∀{b a},touchAt (t++u) b=K a->touchAt t b=K a:=λc=>by
  rcases pg c with g|⟨k,g,_,l⟩;exact g;rw[r k g] at l;cases l
 refine⟨h.wl.append x,λz=>noRace_append (h.clean z) w λb a _ k D A C _=>bu,λb a c i=>cL (h.low b a (m c) i) q,λb a c i=>?_,λe f j d b a c i y v=>(h.wr e f j d b a (m c) i y v).app u,λe f j d b a c i s=>(h.ow e f j d b a (m c) i s).app u,λe f n j d=>bV (act?_old<|lt_of_act?<|h.shut e f n j d)<|h.shut e f n j d⟩;rcases h.known b a (m c) i with g|⟨e,f,g,l,o,p⟩;exact av<|g.app u;exact ai ⟨e,f,g,xW l,o,λn d=>(p n d).app u⟩
def jz.main(h:jz S wk B t)(x:∀e∈u,e.g=0)(G:Wordless u)(A:B<=B')
 (p:∀e∈u,∀j,mA e.act=K j->uO j.loc=af->blk j.loc<B'/\(∀c b,wk c=K b->¬b.own (blk j.loc)/\blk j.loc≠b.c)/\(S (blk j.loc)->j.write=aj)):jz S wk B' (t++u):=by
 refine⟨h.wl.append G,λH=>noRace_append (h.clean H) x λl f k e E j C D=>?_,λl f k d=>?_,λl f k d=>?_,λc b i m l f k d v w=>?_,λc b i m l f k d o=>?_,λc b r i m=>bV (act?_old<|lt_of_act?<|h.shut c b r i m)<|h.shut c b r i m⟩;have⟨q,d,y,_⟩:=D;have⟨_,g,s⟩:=p e E j C<|q▸d;rcases h.known l f k d with a|⟨c,b,i,_,F,_⟩;exact a;rcases F with n|n|⟨n,z⟩;exact absurd (q▸n) (g c b i).1;exact absurd (q▸n) (g c b i).2;have:=s<|q▸n;rw[z,this] at y;simp at y;rcases pg k with a|⟨e,a,_,g⟩;exact cL (h.low l f a d) A;exact(p e a f g d).1;rcases pg k with a|⟨e,a,g,_⟩;rcases h.known l f a d with a|⟨c,b,a,g,s,n⟩;exact av<|a.app u;exact ai ⟨c,b,a,xW g,s,λr m=>(n r m).app u⟩;have:=knows_own g;rw[x e a] at this;exact av this;rcases pg k with a|⟨e,a,_,g⟩;exact(h.wr c b i m l f a d v w).app u;rw[(p e a f g d).2.2 w] at v;cases v;rcases pg k with a|⟨e,a,_,g⟩;exact(h.ow c b i m l f a d o).app u;rcases o with o|o;exact absurd o ((p e a f g d).2.1 c b i).1;exact absurd o ((p e a f g d).2.1 c b i).2
def jz.HT(h:jz S wk B t){j:jX}(v:wk n=K j)(w:j.pc=Z)(U:∀c,j.own c->Qa c)(I:∀c,Qa c->j.own c\/B<=c)(E:∀m∈u,m.g=n)(V:Wordless u)(M:B<=B')
 (N:∀c,Qa c->¬S c) (O:¬S j.c)
 (R:∀b d,b≠n->wk b=K d->(∀c,Qa c->¬d.own c/\c≠d.c)/\¬d.own j.c/\j.c≠d.c/\(∀c,S c->¬d.own c/\c≠d.c))
 (z:∀m∈u,∀c,mA m.act=K c->uO c.loc=af->blk c.loc<B'/\OF S ⟨j.c,Qa,Z⟩ c):jz S (λb=>if b=n then K ⟨j.c,Qa,Z⟩ else wk b) B' (t++u):=by
 have F:∀{b d},(if b=n then K (⟨j.c,Qa,Z⟩:jX) else wk b)=K d->(b=n/\d=⟨j.c,Qa,Z⟩)\/(b≠n/\wk b=K d):=λ{b d} Y=>bu;refine⟨h.wl.append V,λX=>noRace_append (h.clean X) E λl i o m T c P Q=>?_,λl i o f=>?_,λl i o f=>?_,λb d k p l i o f C A=>?_,λb d k p l i o f g=>?_,λb d x k p=>?_⟩;have⟨y,f,W,_⟩:=Q;rcases(z m T c P<|y▸f).2 with e|e|⟨e,r⟩;rcases I _ e with r|r;exact h.ow n j v w l i o f<|av<|y▸r;have:=h.low l i o f;rw[y] at this;omega;exact h.ow n j v w l i o f<|ai<|y▸e;rw[r] at W;exact h.wr n j v w l i o f bu<|y▸e;rcases pg o with a|⟨m,a,_,q⟩;exact cL (h.low l i a f) M;exact(z m a i q f).1;rcases pg o with a|⟨m,a,q,s⟩;rcases h.known l i a f with a|⟨b,d,a,q,s,e⟩;exact av<|a.app u;by_cases k:b=n;subst k;rw[v] at a;cases a;exact ai ⟨b,⟨j.c,Qa,Z⟩,aI,xW q,(s.imp (U _) id),λx p=>de p⟩;exact ai ⟨b,d,by simp[k,a],xW q,s,λx p=>(e x p).app u⟩;refine ai ⟨n,⟨j.c,Qa,Z⟩,aI,?_,(z m a i s f).2,λx p=>de p⟩;simp[Trace.g?,q,E m a];rcases pg o with a|⟨m,a,_,q⟩;rcases F k with⟨rfl,rfl⟩|⟨D,k⟩;exact(h.wr b j v w l i a f C A).app u;exact(h.wr b d k p l i a f C A).app u;rcases(z m a i q f).2 with e|e|⟨e,r⟩;exact absurd A<|N _ e;exact absurd A<|e▸O;rw[r] at C;cases C;rcases F k with⟨rfl,rfl⟩|⟨D,k⟩;rcases pg o with a|⟨m,a,q,s⟩;refine Knows.app u ?_;rcases g with g|g;rcases I _ g with r|r;exact h.ow b j v w l i a f<|av r;have:=h.low l i a f;omega;exact h.ow b j v w l i a f<|ai g;have:=knows_own q;rw[E m a] at this;exact this;have⟨G,J,L,H⟩:=R b d D k;rcases pg o with a|⟨m,a,q,s⟩;exact(h.ow b d k p l i a f g).app u;rcases(z m a i s f).2 with e|e|⟨e,r⟩;rcases g with g|g;exact absurd g (G _ e).1;exact absurd g (G _ e).2;rcases g with g|g;exact absurd (e▸g) J;exact absurd (aB e.symm g) L;rcases g with g|g;exact absurd g (H _ e).1;exact absurd g (H _ e).2;rcases F k with⟨rfl,rfl⟩|⟨D,k⟩;cases p;rw[act?_old<|lt_of_act?<|h.shut b d x k p];exact h.shut b d x k p
def jz.close(h:jz S wk B t){a:jX}(F:wk n=K a)(T:a.pc=Z)(O:a.c<B)(ab:¬S a.c){fn:gw}
 (P:∀b e,b≠n->wk b=K e->¬e.own a.c/\a.c≠e.c):
 jz S (λb=>if b=n then K ⟨a.c,a.own,K<|U t+1⟩ else wk b) B (t++xo n fn pos #[⟨.obj a.c,aj,af⟩,⟨.obj a.c,af,af⟩]):=by
 have I:xo n fn pos #[⟨.obj a.c,aj,af⟩,⟨.obj a.c,af,af⟩]=#[{g:=n,fn,pos,act:=.access ⟨.obj a.c,aj,af⟩},{g:=n,fn,pos,act:=.close a.c}]:=by
  rw[ofEvents_eq];simp[sX]
 rw[I];have G:∀f∈ #[({g:=n,fn,pos,act:=.access ⟨.obj a.c,aj,af⟩}:kS),{g:=n,fn,pos,act:=.close a.c}],f.g=n:=aI;have x:∀f∈ #[({g:=n,fn,pos,act:=.access ⟨.obj a.c,aj,af⟩}:kS),{g:=n,fn,pos,act:=.close a.c}],∀v,mA f.act=K v->v=⟨.obj a.c,aj,.atomic⟩:=by
  intro f q v w;simp at q;rcases q with rfl|rfl;simp[mA] at w;exact bq w;simp[mA] at w
 have z:(t++#[({g:=n,fn,pos,act:=.access ⟨.obj a.c,aj,af⟩}:kS),{g:=n,fn,pos,act:=.close a.c}])[U t+1]? =K {g:=n,fn,pos,act:=.close a.c}:=by
  rw[AH aa];simp
 have M:∀d,(t++#[({g:=n,fn,pos,act:=.access ⟨.obj a.c,aj,af⟩}:kS),{g:=n,fn,pos,act:=.close a.c}]).g? d=K n->d≠U t+1->Before (t++#[({g:=n,fn,pos,act:=.access ⟨.obj a.c,aj,af⟩}:kS),{g:=n,fn,pos,act:=.close a.c}]) d (U t+1):=by
  intro d E y;unfold Trace.g? at E;have⟨f,p,D⟩:=xD.1 E;have:=lt_size_of_getElem? p;simp at this;exact ai<|hb_po aa p z D
 have C:∀{b e},(if b=n then K (⟨a.c,a.own,K<|U t+1⟩:jX) else wk b)=K e->(b=n/\e=⟨a.c,a.own,K<|U t+1⟩)\/(b≠n/\wk b=K e):=λ{b e} D=>bu;have W:Wordless #[({g:=n,fn,pos,act:=.access ⟨.obj a.c,aj,af⟩}:kS),{g:=n,fn,pos,act:=.close a.c}]:=by
  intro f q m l;simp at q;rcases q with rfl|rfl<;>cases l
 have X:∀{d g},touchAt (t++#[({g:=n,fn,pos,act:=.access ⟨.obj a.c,aj,af⟩}:kS),{g:=n,fn,pos,act:=.close a.c}]) d=K g->d≠U t+1:=by
  rintro d g k rfl;rw[touchAt_of z] at k;simp[mA] at k
 refine⟨h.wl.append W,λY=>noRace_append (h.clean Y) G λd g k f q v w N=>?_,λd g k l=>?_,λd g k l=>?_,λb e i j d g k l A V=>?_,λb e i j d g k l p=>?_,λb e s i j=>?_⟩;have⟨R,l,_⟩:=N;have:=x f q v w;subst this;exact h.ow n a F T d g k l<|ai<|gG R;rcases pg k with c|⟨f,c,_,o⟩;exact h.low d g c l;rw[x f c g o];exact O;rcases pg k with c|⟨f,c,o,r⟩;rcases h.known d g c l with c|⟨b,e,c,o,r,L⟩;exact av<|c.app _;by_cases i:b=n;subst i;rw[F] at c;cases c;exact ai ⟨b,⟨a.c,a.own,K<|U t+1⟩,aI,xW o,r,λs j=>by cases j;exact M d (xW o)<|X k⟩;exact ai ⟨b,e,by simp[i,c],xW o,r,λs j=>(L s j).app _⟩;have Q:(t++#[({g:=n,fn,pos,act:=.access ⟨.obj a.c,aj,af⟩}:kS),{g:=n,fn,pos,act:=.close a.c}]).g? d=K n:=by simp only[Trace.g?,o,gE,G f c]
 refine ai ⟨n,⟨a.c,a.own,K<|U t+1⟩,aI,Q,ai<|av<|gG<|x f c g r,λs j=>bu⟩;rcases C i with⟨rfl,rfl⟩|⟨y,i⟩;cases j;rcases pg k with c|⟨f,c,_,o⟩;exact(h.wr b e i j d g c l A V).app _;rw[x f c g o] at A;cases A;rcases C i with⟨rfl,rfl⟩|⟨y,i⟩;cases j;have⟨H,J⟩:=P b e y i;rcases pg k with c|⟨f,c,o,r⟩;exact(h.ow b e i j d g c l p).app _;rw[x f c g r] at p;rcases p with p|p;exact absurd p H;exact absurd p J;rcases C i with⟨rfl,rfl⟩|⟨y,i⟩;cases j;rw[act?_of z];rw[act?_old<|lt_of_act?<|h.shut b e s i j];exact h.shut b e s i j
def jz.Fu(h:jz S wk B t){d:jX}(r:wk n=K d)(s:d.pc=K k){fn:gw}:
 jz S (λa=>if a=n then Z else wk a) B (t++#[{g:=0,fn,pos,act:=.recvClosed d.c}]):=by
 have C:Wordless #[({g:=0,fn,pos,act:=.recvClosed d.c}:kS)]:=by
  intro i f m l;simp at f;subst f;cases l
 have z:∀i∈ #[({g:=0,fn,pos,act:=.recvClosed d.c}:kS)],mA i.act=Z:=by
  intro i f;simp at f;subst f;rfl
 have c:=h.mute (B':=B) (γ:=0) (λi f=>bu) C z<|aZ _;have j:(t++#[({g:=0,fn,pos,act:=.recvClosed d.c}:kS)])[U t]? =K {g:=0,fn,pos,act:=.recvClosed d.c}:=by
  rw[AH<|aZ _];simp
 have q:=c.shut n d k r s;have⟨H,D,_⟩:=xD.1 q;have A:Knows (t++#[({g:=0,fn,pos,act:=.recvClosed d.c}:kS)]) 0 k:=⟨U t,_,j,rfl,ai<|.single<|ai ⟨.closed q<|by rw[act?_of j],c.wl.heard D,c.wl.heard j⟩⟩;have o:∀{a b},(if a=n then Z else wk a)=K b->a≠n/\wk a=K b:=λ{a b} G=>bu;refine⟨c.wl,c.clean,c.low,λE v y l=>?_,λa b e=>c.wr a b (o e).2,λa b e=>c.ow a b (o e).2,λa b F e=>c.shut a b F (o e).2⟩;rcases c.known E v y l with g|⟨a,b,g,w,x,p⟩;exact av g;by_cases e:a=n;subst e;rw[r] at g;cases g;exact av<|Knows.of_before (p k s) A;exact ai ⟨a,b,by simp[e,g],w,x,p⟩
def jz.spawn(h:jz S wk B t)(W:wk n=Z){fn l:gw}
 (A:∀b c,wk b=K c->¬c.own k/\k≠c.c/\∀y,S y->¬c.own y/\y≠c.c) (O:¬S k):
 jz S (λb=>if b=n then K ⟨k,λ_=>False,Z⟩ else wk b) B (t++#[{g:=0,fn,pos,act:=.go n},{g:=n,fn:=l,pos,act:=.start}]):=by
 have N:t++#[({g:=0,fn,pos,act:=.go n}:kS),{g:=n,fn:=l,pos,act:=.start}]=t++#[({g:=0,fn,pos,act:=.go n}:kS)]++#[({g:=n,fn:=l,pos,act:=.start}:kS)]:=by rfl
 have Q:Wordless #[({g:=0,fn,pos,act:=.go n}:kS)]:=by
  intro v d m j;simp at d;subst d;cases j
 have R:Wordless #[({g:=n,fn:=l,pos,act:=.start}:kS)]:=by
  intro v d m j;simp at d;subst d;cases j
 have r:jz S wk B (t++#[({g:=0,fn,pos,act:=.go n}:kS),{g:=n,fn:=l,pos,act:=.start}]):=by
  rw[N];refine(h.mute (B':=B) (γ:=0) (λv d=>by simp at d;subst d;rfl) Q (λv d=>by simp at d;subst d;rfl)<|aZ _).mute (γ:=n) (λv d=>by simp at d;subst d;rfl) R (λv d=>by simp at d;subst d;rfl)<|aZ _
 have a:(t++#[({g:=0,fn,pos,act:=.go n}:kS),{g:=n,fn:=l,pos,act:=.start}])[U t]? =K {g:=0,fn,pos,act:=.go n}:=by
  rw[AH<|aZ _];simp
 have p:(t++#[({g:=0,fn,pos,act:=.go n}:kS),{g:=n,fn:=l,pos,act:=.start}])[U t+1]? =K {g:=n,fn:=l,pos,act:=.start}:=by
  rw[AH aa];simp
 have I:∀{f},Knows t 0 f->Knows (t++#[({g:=0,fn,pos,act:=.go n}:kS),{g:=n,fn:=l,pos,act:=.start}]) n f:=λ{f} P=>
  ⟨U t+1,_,p,rfl,ai<|(P.hb_new (aZ _) a Y).trans<|.single<|ai ⟨.spawn (by rw[act?_of a]) (by rw[act?_of p])<|by simp[Trace.g?],r.wl.heard a,r.wl.heard p⟩⟩
 have H:∀{f g},touchAt (t++#[({g:=0,fn,pos,act:=.go n}:kS),{g:=n,fn:=l,pos,act:=.start}]) f=K g->touchAt t f=K g:=λq=>by
  rcases pg q with a|⟨v,a,_,p⟩;exact a;simp at a;rcases a with rfl|rfl<;>simp[mA] at p
 have E:∀{b c},(if b=n then K (⟨k,λ_=>False,Z⟩:jX) else wk b)=K c->(b=n/\c=⟨k,λ_=>False,Z⟩)\/(b≠n/\wk b=K c):=λ{b c} M=>bu;refine⟨r.wl,r.clean,r.low,λf g q j=>?_,λb c i s f g q j D C=>?_,λb c i s f g q j o=>?_,λb c T i s=>?_⟩;rcases r.known f g q j with a|⟨b,c,a,p,e,z⟩;exact av a;refine ai ⟨b,c,?_,p,e,z⟩;rw[if_neg λM=>bu];exact a;rcases E i with⟨rfl,rfl⟩|⟨G,i⟩;refine I ?_;rcases h.known f g (H q) j with a|⟨w,x,a,p,e,z⟩;exact a;rcases e with e|e|⟨e,F⟩;exact absurd e ((A w x a).2.2 _ C).1;exact absurd e ((A w x a).2.2 _ C).2;rw[F] at D;cases D;exact r.wr b c i s f g q j D C;rcases E i with⟨rfl,rfl⟩|⟨G,i⟩;refine I ?_;rcases o with o|o;exact ff o;have o:blk g.loc=k:=o;rcases h.known f g (H q) j with a|⟨w,x,a,p,e,z⟩;exact a;have⟨J,L,V⟩:=A w x a;rcases e with e|e|⟨e,F⟩;exact absurd (o▸e) J;exact absurd (o.symm.trans e) L;exact absurd (o▸e) O;exact r.ow b c i s f g q j o;rcases E i with⟨rfl,rfl⟩|⟨G,i⟩;cases s;exact r.shut b c T i s
def jz.over(h:jz S (λ_=>Z) B t):t.HandedOver:=by
 intro k n d i e;have⟨m,j,g,_⟩:=e;rcases h.known k m j g with⟨l,q,b,c,a⟩|⟨o,p,f,_⟩;refine⟨l,by simp[Trace.g?,b,c],?_⟩;rcases a with rfl|a;simp[Trace.g?,b] at d;exact absurd (aB d.symm c) i;exact a;cases f
end
def BK (b:List ag->Prop)(d:ag):List ag->Prop:=λa=>b<|d::a
def DZ (s a:List ag->Prop):Prop:=a []/\∃b,s=BK a b
structure Tr where K5 ::
 t:List ag->Prop
 a:Acc DZ t
 c:∀p q,t (p++q)->t p
def Tr.ext{a b:Tr}(h:a.t=b.t):a=b:=by
 cases a;cases b;cases h;rfl
def Tr.fin:Tr:=⟨λ_=>False,⟨_,λ_ a=>ff a.1⟩,λ_ _ a=>a⟩
def Tr.mk(f:ag->Tr):Tr:=⟨λa=>match a with
 | []=>True
 |w::a=>(f w).t a,⟨_,λs b=>by obtain⟨_,w,rfl⟩:=b;exact(f w).a⟩,λa d b=>by
 cases a with
 |nil=>trivial
 |cons w a=>exact(f w).c a d b⟩
def Tr.mk_inj{f a:ag->Tr}(h:Tr.mk f= .mk a):f=a:=funext λd=>Tr.ext<|funext λb=>congrFun (congrArg Tr.t h)<|d::b
def Tr.Ue{f:ag->Tr}(h:Tr.fin= .mk f):False:=(congrFun (congrArg Tr.t h) []).mpr trivial
def Tr.ind{b:Tr->Prop}(fin:b .fin)(mk:∀f,(∀w,b<|f w)->b (.mk f))(g:Tr):b g:=by
 have⟨t,a,c⟩:=g
 induction a with
 |intro t h i=>
  by_cases d:t [];have e:Tr.K5 t (.intro t h) c= .mk λw=>⟨BK t w,h _ ⟨d,w,rfl⟩,λp j=>c (w::p) j⟩:=Tr.ext (funext λp=>by
   cases p with
   |nil=>exact eq_true d
   |cons w p=>rfl)
  rw[e];exact mk _ λw=>i _ ⟨d,w,rfl⟩ _;have e:Tr.K5 t (.intro t h) c= .fin:=Tr.ext<|funext λp=>eq_false λh=>d<|c [] p h;rw[e];exact fin
def Tr.go{C:Type}(f:(ag->C->Prop)->C->Prop)(b:Tr):C->Prop:=aeI (r:=DZ) (C:=λ_=>C->Prop) (λa e h=>∃g:a [],f (λd=>e (BK a d) ⟨g,d,rfl⟩) h) b.t b.a
def Tr.go_eq{e:Type}{f:(ag->e->Prop)->e->Prop}{a:Tr}{d:e}:Tr.go f a d↔∃h:a.t [],f (λb=>Tr.go f ⟨BK a.t b,a.a.inv ⟨h,b,rfl⟩,λj k=>a.c (b::j) k⟩) d:=Iff.of_eq (congrFun (aeJ (r:=DZ) (C:=λ_=>e->Prop) (λg i d=>∃h:g [],f (λb=>i (BK g b) ⟨h,b,rfl⟩) d) a.t a.a) d:)
def Tr.wG{a:Type}{b:(ag->a->Prop)->a->Prop}{d:a}(h:Tr.go b .fin d):False:=by
 have⟨h,_⟩:=(Tr.go_eq).1 h;exact h
def Tr.J7{a:Type}{b:(ag->a->Prop)->a->Prop}{f:ag->Tr}{e:a}:Tr.go b (.mk f) e↔b (λg=>Tr.go b<|f g) e:=(Tr.go_eq).trans ⟨fun⟨_,d⟩=>d,λd=>⟨trivial,d⟩⟩
def kr (_:bn)(_:ag):Prop:=True
structure RelB(B:Nat->Prop)(w w1:ag):Prop where
 at_:∀b:Nat,B b->w1.heap[b]? =w.heap[b]?
 size:U w.heap<=U w1.heap
 tape:dG w1=dG w
 os:w1.os=w.os
 output:ga w1=ga w
def RelB.refl(b:Nat->Prop)(a:ag):RelB b a a:=⟨λ_ _=>rfl,aZ _,rfl,rfl,rfl⟩
def RelB.trans(h:RelB Qa w u)(a:RelB Qa u W):RelB Qa w W:=⟨λb d=>aB (a.at_ b d)<|h.at_ b d,dW h.size a.size,aB a.tape h.tape,aB a.os h.os,aB a.output h.output⟩
def RelB.at(b:Nat->Prop)(a:ag)(d:Nat):RelB b a (a.at d):=⟨λ_ _=>rfl,aZ _,rfl,rfl,rfl⟩
def g6 (own:Nat->Prop)(b d:ag):Nat->Prop:=λa=>own a\/(U b.heap<=a/\a<U d.heap)
def EvW (S d:Nat->Prop)(a:ef):Prop:=match a.loc with
 | .cell b=>d (cD b)\/(S (cD b)/\a.write=aj)
 | .obj e=>d e\/(S e/\a.write=aj)
 | .mark m=>Neutral m
 |_=>True
structure oL(P0:bn)(S own:Nat->Prop)(w w':ag)(es:Array ef):Prop where
 keep:∀b:Nat,b<U w.heap->¬own b->w'.heap[b]? =w.heap[b]?
 size:U w.heap<=U w'.heap
 tape:dG w'=dG w
 os:w'.os=w.os
 output:ga w'=ga w
 hp:kr P0 w->kr P0 w'
 evs:∀e∈es,EvW S (g6 own w w') e
structure D6(P0:bn)(w w':ag)(es:Array ef):Prop where
 size:U w.heap<=U w'.heap
 tape:dG w'=dG w
 os:w'.os=w.os
 output:ga w'=ga w
 hp:kr P0 w->kr P0 w'
 evs:∀e∈es,mY (U w'.heap) e
def IE (P0 P:bn)(S:Nat->Prop)(c:Nat)(i:ag->(Nat->Prop)->List F->dN->ag->Prop)(own:Nat->Prop)(g:List F)(d:dN)(h:ag):Prop:=m0 d=kR/\
 ((∀a,RelB (λb=>S b\/own b) h a->∃e f l,cw P aj d a= .go e f l/\oL P0 S own a f l/\i a (g6 own a f) g e f)\/
 (∃v n m r,g=v::n/\∀a,RelB (λb=>S b\/own b) h a->cw P aj d a= .comm m #[scase c v r] af .send a #[]/\i a own n (nN m bR) a)\/
 (g=[]/\∃e q,QuitsIn P q e/\mayWake P d=af/\∀a,RelB (λb=>S b\/own b) h a->∀k j s o p,a.heap[c]? =K (.chan k j aj s o p)->cw P aj d a= .go e (lY a c k j af s o p) #[⟨.obj c,aj,af⟩,⟨.obj c,af,af⟩]))
def Wk (P0 P:bn)(S:Nat->Prop)(c:Nat)(g:Tr)(own:Nat->Prop)(h:List F)(b:dN)(d:ag):Prop:=g.go (C:=(Nat->Prop)×List F×dN×ag) (λe a=>IE P0 P S c (λd f v b i=>e d (f,v,b,i)) a.1 a.2.1 a.2.2.1 a.2.2.2) (own,h,b,d)
def xe{P0 P:bn}{S:Nat->Prop}{c:Nat}{f:ag->Tr}{own:Nat->Prop}:Wk P0 P S c (.mk f) own qN QW w↔IE P0 P S c (λw=>Wk P0 P S c<|f w) own qN QW w:=Tr.J7
abbrev Md:Type:=Option<|(Nat->Prop)×(Nat->Prop)×(Nat->Option (List F))
abbrev Md.ex:Md:=Z
abbrev Md.sh(S a:Nat->Prop)(b:Nat->Option (List F)):Md:=K (S,a,b)
def gu (d:Nat->Option (List F))(c:Nat)(b:Option (List F)):Nat->Option (List F):=λa=>if a=c then b else d a
def Ip (P0 P:bn)(J:F->ag->Prop)(j:ag->Md->dN->ag->Prop):Md->dN->ag->Prop
 |none,e,g=>
  (∀a,AtRel g a->∃f i h,cw P af e a= .go f i h/\m0 f=kR/\D6 P0 a i h/\j a Md.ex f i)\/
  (∀a,AtRel g a->∃v h,cw P af e a= .ended (.done v) a h/\(∀q∈h,mY (U a.heap) q)/\J v a)\/
  (∃S d,(∀b,S b->b<U g.heap/\¬d b)/\(∀b,d b->b<U g.heap)/\∀a,AtRel g a->j a (Md.sh S d λ_=>Z) e a)
 |some (S,d,k),e,g=>
  (∀a,RelB (λb=>S b\/d b) g a->∃f i h,cw P af e a= .go f i h/\m0 f=kR/\oL P0 S d a i h/\j a (Md.sh S (g6 d a i) k) f i)\/
  (∃c m n,d c/\I m<=n/\k c=Z/\g.heap[c]? =K (.chan n #[] aj 0 0 aj)/\∀a,RelB (λb=>S b\/d b) g a->∃f o s,cw P af e a= .spawn f o a #[]/\m0 f=kR/\Wk P0 P S c s (λ_=>False) m o a/\j a (Md.sh S (λb=>d b/\b≠c)<|gu k c<|K m) f a)\/
  (∃c p l m,k c=K m/\(l.frame=e.frame/\sW l=sW e/\l.dying=e.dying)/\∀a,RelB (λb=>S b\/d b) g a->cw P af e a= .comm l #[rcase c p] af (.recv af) a #[]/\
    match m with
    |v::r=>j a (Md.sh S d<|gu k c<|K r) (nN l<|recvd af v af) a
    | []=>j a (Md.sh S d<|gu k c Z) (nN l<|recvd af p aj) a)\/
  ((∀c,k c=Z)/\∀a,RelB (λb=>S b\/d b) g a->kr P0 a->j a Md.ex e a)
def Mn (P0 P:bn)(J:F->ag->Prop)(g:Tr)(f:Md)(a:dN)(b:ag):Prop:=g.go (C:=Md×dN×ag) (λe d=>Ip P0 P J (λb m a h=>e b (m,a,h)) d.1 d.2.1 d.2.2) (f,a,b)
def pQ{P0 P:bn}{J:F->ag->Prop}{f:ag->Tr}{a:Md}:Mn P0 P J (.mk f) a QW w↔Ip P0 P J (λw=>Mn P0 P J<|f w) a QW w:=Tr.J7
section
variable{c:Nat}
def Wk.rely{g:Tr}{own:Nat->Prop}(h:Wk P0 P S c g own qN QW w)(e:RelB (λi=>S i\/own i) w u):Wk P0 P S c g own qN QW u:=by
 cases g using Tr.ind with
 |fin=>exact ff<|Tr.wG h
 |mk f=>
  have⟨n,h⟩:=xe.1 h;refine xe.2 ⟨n,?_⟩;rcases h with h|⟨v,o,k,q,d,h⟩|⟨d,j,p,m,l,h⟩;exact av λb a=>h b<|e.trans a;exact ai<|av ⟨v,o,k,q,d,λb a=>h b<|e.trans a⟩;exact ai<|ai ⟨d,j,p,m,l,λb a=>h b<|e.trans a⟩
def Ek{a b c:ag}(h:AtRel a b)(d:AtRel b c):AtRel a c:=atRel_trans a b c h d
def Mn.JK{e:Tr}(h:Mn P0 P J e .ex QW w)(d:AtRel w u):Mn P0 P J e .ex QW u:=by
 cases e using Tr.ind with
 |fin=>exact ff<|Tr.wG h
 |mk f=>
  have l:dF u=dF w:=by obtain⟨j,rfl⟩:=d;rfl
  refine pQ.2 ?_;rcases pQ.1 h with h|h|⟨S,g,k,a,i⟩;exact av λb a=>h b<|Ek d a;exact ai<|av λb a=>h b<|Ek d a;exact ai<|ai ⟨S,g,bu,bu,λb a=>i b<|Ek d a⟩
def Mn.tG{g:Tr}{k:Nat->Option (List F)}(h:Mn P0 P J g (.sh S Qa k) QW w)(e:RelB (λj=>S j\/Qa j) w u):Mn P0 P J g (.sh S Qa k) QW u:=by
 cases g using Tr.ind with
 |fin=>exact ff<|Tr.wG h
 |mk f=>
  refine pQ.2 ?_;rcases pQ.1 h with h|⟨c,i,l,d,a,n,o,h⟩|⟨c,p,m,i,d,a,h⟩|⟨d,h⟩;exact av λb a=>h b<|e.trans a;exact ai<|av ⟨c,i,l,d,a,n,(e.at_ c<|ai d).trans o,λb a=>h b<|e.trans a⟩;exact ai<|ai<|av ⟨c,p,m,i,d,a,λb a=>h b<|e.trans a⟩;exact ai<|ai<|ai ⟨d,λb a=>h b<|e.trans a⟩
end
def Mn.cast{P0 P:bn}{J:F->ag->Prop}{b d:Tr}{a:Md}(e:b=d)(h:Mn P0 P J d a QW w):Mn P0 P J b a QW w:=e▸h
def Wk.cast{P0 P:bn}{S:Nat->Prop}{c:Nat}{a b:Tr}{own:Nat->Prop}(d:a=b)(h:Wk P0 P S c b own qN QW w):Wk P0 P S c a own qN QW w:=d▸h
def Down (e:Nat)(d dg:Nat->Tr):Prop:=∃a,a<e/\(∃f g,dg a= .mk f/\d a=f g)/\∀b,b≠a->d b=dg b
def Py:∀(a:Nat) (dg:Nat->Tr),Acc (Down a) dg:=by
 intro a
 induction a with
 |zero=>exact λdg=>⟨_,λe g=>by have⟨d,q,_⟩:=g;omega⟩
 |succ a r=>
  have t:∀(m:Tr) (dg:Nat->Tr),dg a=m->Acc (Down<|a+1) dg:=by
   intro m
   induction m using Tr.ind with
   |fin=>
    intro dg;have o:=r dg
    induction o with
    |intro dg _ p=>
     intro i;refine⟨_,λe g=>?_⟩;have⟨d,q,⟨f,k,b,l⟩,h⟩:=g;by_cases j:d=a;subst j;rw[i] at b;exact ff<|Tr.Ue b;exact p e ⟨d,aa,⟨f,k,b,l⟩,h⟩<|aB (h a λn=>j<|bq n) i
   |mk u s=>
    intro dg;have o:=r dg
    induction o with
    |intro dg _ p=>
     intro i;refine⟨_,λe g=>?_⟩;have⟨d,q,⟨f,k,b,l⟩,h⟩:=g;by_cases j:d=a;subst j;rw[i] at b;exact s k e<|aB l<|bq<|congrFun (Tr.mk_inj b) k;exact p e ⟨d,aa,⟨f,k,b,l⟩,h⟩<|aB (h a λn=>j<|bq n) i
  exact λdg=>t (dg a) dg Y
def acd{P:bn}{m:Bool}(a:QX.frame=QW.frame)(b:sW QX=sW QW)(d:QX.dying=QW.dying):cw P m QX w=cw P m QW w:=by
 have⟨f,c,s,g,j⟩:=QW;have⟨i,e,l,h,k⟩:=QX;simp only at a b d;subst a b d;rfl
structure Inv(P0 P:bn)(S O:Nat->Prop)(μ:Nat->Option (List F))(gs:Array dN)(w:ag)(t:Trace)(wk:Nat->Option jX)(vs:Nat->List F)(q:Nat->Nat)(dg:Nat->Tr):Prop where
 kN:jz S wk (U w.heap) t
 hp:kr P0 w
 quit:∀i g,0<i->gs[i]? =K g->(∀x,wk i=K x->x.pc≠Z)->QuitsIn P (q i) g
 act:∀i g x,gs[i]? =K g->wk i=K x->x.pc=Z->Wk P0 P S x.c (dg i) x.own (vs i) g w
 idx:∀i x,wk i=K x->0<i/\i<U gs
 kM:∀b,S b->b<U w.heap/\¬O b
 sI:∀b,O b->b<U w.heap
 low:∀i x,wk i=K x->x.c<U w.heap/\¬S x.c/\¬O x.c/\¬x.own x.c/\∀b,x.own b->b<U w.heap/\¬S b/\¬O b
 fU:∀i j x y,i≠j->wk i=K x->wk j=K y->x.c≠y.c/\¬y.own x.c/\∀b,x.own b->¬y.own b
 chan:∀i x,wk i=K x->∃cap buf s r,w.heap[x.c]? =K (.chan cap buf (ni x.pc) s r aj)/\μ x.c=K (dY buf++(if x.pc=Z then vs i else[]))/\(x.pc=Z->U buf+I (vs i)<=cap)
 mu:∀c l,μ c=K l->∃i x,wk i=K x/\x.c=c
def jD {a:Type}(f:Nat->a)(c:Nat)(d:a):Nat->a:=λb=>if b=c then d else f b
def nG{b:Type}{f:Nat->b}{a:b}:jD f n a n=a:=by simp[jD]
def kO{a:Type}{f:Nat->a}{b:a}(h:m≠n):jD f n b m=f m:=by simp[jD,h]
def Ob{a:Touch}(h:mA (sX QU)=K a)(hx:∀m,QU.loc= .mark m->Neutral m):a.loc=QU.loc/\a.write=QU.write:=by
 have⟨c,wr,b⟩:=QU;cases c with
 |cell d=>simp[sX,mA] at h;subst h;exact⟨rfl,rfl⟩
 |obj e=>cases wr<;>cases b<;>simp[sX,mA] at h<;>subst h<;>exact⟨rfl,rfl⟩
 |output=>simp[sX,mA] at h;subst h;exact⟨rfl,rfl⟩
 |goroutines=>simp[sX,mA] at h;subst h;exact⟨rfl,rfl⟩
 |mark m=>
  have:sX ⟨.mark m,wr,b⟩= .mark m:=by rfl
  rw[this,(hx m Y).touch] at h;cases h
def EZ{S b:Nat->Prop}(h:EvW S b QU):∀m,QU.loc= .mark m->Neutral m:=λm a=>by
 unfold EvW at h;rw[a] at h;exact h
def JH(h:mY n QU):∀m,QU.loc= .mark m->Neutral m:=λm a=>by
 unfold mY at h;rw[a] at h;exact h
def JI{S e:Nat->Prop}{a:Touch}(h:EvW S e QU)(g:mA (sX QU)=K a)(c:uO a.loc=af):e (blk a.loc)\/(S (blk a.loc)/\a.write=aj):=by
 have⟨d,f⟩:=Ob g<|EZ h;unfold EvW at h;rw[d,f];rw[d] at c;cases b:QU.loc with
 |cell i=>rw[b] at h;exact h
 |obj j=>rw[b] at h;exact h
 |_=>rw[b] at c;simp[uO] at c
def T0{a:Touch}(h:mY n QU)(e:mA (sX QU)=K a)(c:uO a.loc=af):blk a.loc<n:=by
 have⟨d,g⟩:=Ob e<|JH h;unfold mY at h;rw[d];rw[d] at c;cases b:QU.loc with
 |cell f=>rw[b] at h;exact h
 |obj i=>rw[b] at h;exact h
 |_=>rw[b] at c;simp[uO] at c
def F2{fn:gw}(h:∀b∈QS,∀m,b.loc= .mark m->Neutral m):Wordless (xo n fn QL QS):=by
 intro i f m a;obtain⟨b,e,rfl⟩:=yQ f;have⟨g,wr,d⟩:=b;cases g with
 |mark c=>
  have:sX ⟨.mark c,wr,d⟩= .mark c:=by rfl
  simp only[this] at a;cases a;exact h _ e m Y
 |obj j=>cases wr<;>cases d<;>simp[sX] at a
 |_=>simp[sX] at a
def wV{w:ag}(h:¬Qa n){s c:Nat}:RelB Qa w (lY w n m C qW s c qX):=
 ⟨λa e=>by
  have b:n≠a:=λd=>h bu;simp only[lY];rw[xf b],by simp[lY],rfl,rfl,rfl⟩
def Kf{P0:bn}{w:ag}(h:kr P0 w){s a:Nat}:kr P0 (lY w n m C qW s a qX):=trivial
def Cd{w:ag}(h:m≠n){s b:Nat}:(lY w n k C qW s b qX).heap[m]? =w.heap[m]? :=by
 simp only[lY];rw[xf λa=>h<|bq a]
def vk{w:ag}{s a:Nat}:(lY w n m C qW s a qX).heap.size=U w.heap:=by simp[lY]
def EC{w:ag}(h:n<U w.heap){s a:Nat}:(lY w n m C qW s a qX).heap[n]? =K (.chan m C qW s a qX):=by
 simp[lY,h]
section
variable{O:Nat->Prop}{J:Array dN}{w Q:ag}{t u:Trace}{wk:Nat->Option jX}{q:Nat->Nat}{dg:Nat->Tr}
def lB{d:Option jX}{c:jX}(a:jD wk n d m=K c):(m=n/\d=K c)\/(m≠n/\wk m=K c):=by
 unfold jD at a
 split at a
 rename_i b;exact av ⟨b,a⟩;rename_i b;exact ai ⟨b,a⟩
def Inv.at(h:Inv P0 P S O μ gs w t wk vs q dg)(a:Nat):Inv P0 P S O μ gs (w.at a) t wk vs q dg:=
 ⟨h.kN,h.hp,h.quit,λf b g c e d=>(h.act f b g c e d).rely<|RelB.at _ w a,h.idx,h.kM,h.sI,h.low,h.fU,h.chan,h.mu⟩
def Inv.UW(h:Inv P0 P S O μ gs w t wk vs q dg)(k:U J=U gs)(i:∀f,0<f->J[f]? =gs[f]?):Inv P0 P S O μ J w t wk vs q dg:=
 ⟨h.kN,h.hp,λa d g e=>h.quit a d g<|(i a g).symm.trans e,λa d c e b j=>h.act a d c ((i a (h.idx a c b).1).symm.trans e) b j,λa c b=>bV k<|h.idx a c b,h.kM,h.sI,h.low,h.fU,h.chan,h.mu⟩
def Inv.slip(h:Inv P0 P S O μ gs w t wk vs q dg)(l:∀b,wk n=K b->b.pc≠Z)(o:QuitsIn P m QW)(p:U J=U gs)(k:J[n]? =K QW)(i:∀a,0<a->a≠n->J[a]? =gs[a]?):Inv P0 P S O μ J w t wk vs (jD q n m) dg:=by
 refine⟨h.kN,h.hp,λa f g e c=>?_,λa f b e c j=>?_,λa b c=>bV p<|h.idx a b c,h.kM,h.sI,h.low,h.fU,h.chan,h.mu⟩;by_cases d:a=n;subst d;rw[k] at e;cases e;rw[nG];exact o;rw[kO d];exact h.quit a f g ((i a g d).symm.trans e) c;by_cases d:a=n;subst d;exact absurd j<|l b c;exact h.act a f b ((i a (h.idx a b c).1 d).symm.trans e) c j
def Inv.W2(h:Inv P0 P S O μ gs w t wk vs q dg){d:jX}(hx:wk n=K d)(c:oL P0 S d.own w Q QS):RelB (λa=>S a\/O a) w Q:=
 ⟨λa b=>eD b (λb=>c.keep a (h.kM a b).1 λe=>((h.low n d hx).2.2.2.2 a e).2.1 b) λb=>c.keep a (h.sI a b) λe=>((h.low n d hx).2.2.2.2 a e).2.2 b,c.size,c.tape,c.os,c.output⟩
def Inv.HT(h:Inv P0 P S O μ gs w t wk vs q dg){g:jX}(hx:wk n=K g)(X:g.pc=Z){an:Tr}(i:oL P0 S g.own w Q QS)(aw:Wk P0 P S g.c an (g6 g.own w Q) (vs n) QW Q)(aa:J.size=gs.size)(aA:J[n]? =K QW)(W:∀c,0<c->c≠n->J[c]? =gs[c]?){fn:gw}:
 Inv P0 P S O μ J Q (t++xo n fn QL QS) (jD wk n<|K ⟨g.c,g6 g.own w Q,Z⟩) vs q (jD dg n an):=by
 have⟨ad,ae,aF,al,C⟩:=h.low n g hx;have N:∀b,g6 g.own w Q b->¬S b:=λb a p=>eD a (λa=>(C b a).2.1 p) λa=>cA<|(h.kM b p).1;have ar:∀b,g6 g.own w Q b->¬O b:=λb a p=>eD a (λa=>(C b a).2.2 p) λa=>cA<|h.sI b p;have A:∀c f,c≠n->wk c=K f->∀b,g6 g.own w Q b->¬f.own b/\b≠f.c:=λc f j d b a=>eD a (λa=>⟨(h.fU n c g f (λe=>j<|bq e) hx d).2.2 b a,λe=>(h.fU c n f g j d hx).2.1<|e▸a⟩) λa=>⟨λl=>cA<|((h.low c f d).2.2.2.2 b l).1,λe=>cA<|(h.low c f d).1⟩;have R:∀b,g6 g.own w Q b->b<U Q.heap:=λb a=>eD a (λa=>cL (C b a).1 i.size) λa=>a.2;refine⟨?_,i.hp h.hp,λc F M j T=>?_,λc F f j d aD=>?_,λc f d=>?_,λb a=>⟨cL (h.kM b a).1 i.size,(h.kM b a).2⟩,λb a=>cL (h.sI b a) i.size,λc f d=>?_,λc v f D o d ab=>?_,λc f d=>?_,λao aE az=>?_⟩;refine h.kN.HT hx X (λb a=>av a) (λb a=>a.imp id And.left) (λaQ I=>by obtain⟨e,_,rfl⟩:=yQ I;rfl) (F2 λe H=>EZ<|i.evs e H) i.size N ae (λc f j d=>⟨A c f j d,(h.fU n c g f (λe=>j<|bq e) hx d).2.1,(h.fU n c g f (λe=>j<|bq e) hx d).1,λb a=>⟨λl=>((h.low c f d).2.2.2.2 b l).2.1 a,λe=>(h.low c f d).2.1<|e▸a⟩⟩) λaQ I b a aC=>?_;obtain⟨e,H,rfl⟩:=yQ I;rcases JI (i.evs e H) a aC with m|m;exact⟨R _ m,av m⟩;exact⟨cL (h.kM _ m.1).1 i.size,ai<|ai m⟩;by_cases e:c=n;subst e;exact absurd Y<|T ⟨g.c,g6 g.own w Q,Z⟩ nG;exact h.quit c F M ((W c M e).symm.trans j) λf d=>T f<|bV (kO e) d;rcases lB d with⟨rfl,e⟩|⟨k,d⟩;cases e;rw[aA] at j;cases j;rw[nG];exact aw;rw[kO k];refine(h.act c F f ((W c (h.idx c f d).1 k).symm.trans j) d aD).rely ⟨λb a=>?_,i.size,i.tape,i.os,i.output⟩;rcases a with a|a;exact i.keep b (h.kM b a).1 λl=>(C b l).2.1 a;exact i.keep b ((h.low c f d).2.2.2.2 b a).1 λl=>(h.fU n c g f (λe=>k<|bq e) hx d).2.2 b l a;rcases lB d with⟨rfl,e⟩|⟨k,d⟩;rw[aa];exact h.idx c g hx;rw[aa];exact h.idx c f d;rcases lB d with⟨rfl,e⟩|⟨k,d⟩;cases e;exact⟨cL ad i.size,ae,aF,λa=>eD a al λa=>bu,λb a=>⟨R b a,N b a,ar b a⟩⟩;have⟨aG,aH,aI,aK,am⟩:=h.low c f d;exact⟨cL aG i.size,aH,aI,aK,λb a=>⟨cL (am b a).1 i.size,(am b a).2⟩⟩;rcases lB d with⟨rfl,e⟩|⟨k,B⟩;cases e;rcases lB ab with⟨rfl,e⟩|⟨V,r⟩;exact absurd Y o;exact⟨(h.fU c v g D o hx r).1,(h.fU c v g D o hx r).2.1,λb a=>(A v D V r b a).1⟩;rcases lB ab with⟨rfl,e⟩|⟨V,r⟩;cases e;exact⟨(h.fU c v f g o B hx).1,λa=>(A c f k B _ a).2 Y,λb a l=>(A c f k B b l).1 a⟩;exact h.fU c v f D o B r;rcases lB d with⟨rfl,e⟩|⟨k,d⟩;cases e;have⟨G,E,s,L,x,y,z⟩:=h.chan c g hx;rw[X] at x y z;exact⟨G,E,s,L,aB (i.keep _ ad al) x,y,z⟩;have⟨G,E,s,L,x,y,z⟩:=h.chan c f d;exact⟨G,E,s,L,aB (i.keep _ (h.low c f d).1 (h.fU c n f g k d hx).2.1) x,y,z⟩;have⟨c,f,d,e⟩:=h.mu ao aE az;by_cases j:c=n;subst j;rw[hx] at d;cases d;exact⟨c,_,nG,e⟩;exact⟨c,f,bV (kO j) d,e⟩
end
section
variable{H:bn}{O:Nat->Prop}{R:Nat->Option (List F)}{J:Array dN}{w A:ag}{t u:Trace}{Q:Nat->Option jX}{T:Nat->List F}{q:Nat->Nat}{dg:Nat->Tr}
def jz.Xc(h:jz S Q B t)(g:Wordless u)(f:∀a∈u,mA a.act=Z):jz S Q B (t++u):=by
 have k:∀(c:List kS) (t:Trace),jz S Q B t->Wordless (cR c)->(∀a∈c,mA a.act=Z)->jz S Q B (t++cR c):=by
  intro c
  induction c with
  |nil=>intro t h _ _;simpa using h
  |cons e c j=>
   intro t h g f;have i:t++cR (e::c)=(t++#[e])++cR c:=aI;rw[i];refine j _ (h.mute (B':=B) (γ:=e.g) (λa b=>by simp at b;rw[b]) (λa b m d=>?_) (λa b=>bu)<|aZ _) (λa b m d=>g a bu m d) λa b=>f a (by simp[b]);simp at b;rw[b] at d;exact g e aI m d
 have:=k (dY u) t h aa λa b=>f a bu;simpa using this
def HK{R:Nat->Option (List F)}{a:Option (List F)}:gu R n a n=a:=by simp[gu]
def Aw{R:Nat->Option (List F)}{a:Option (List F)}(h:m≠n):gu R n a m=R m:=by simp[gu,h]
def Inv.comm(h:Inv H P S O R J w t Q T q dg){b:jX}(hx:Q n=K b){tr':Tr}(L:b.pc=Z->U buf'+I vi'<=cap)
 (G:b.pc=Z->Wk H P S b.c tr' b.own vi' g' w) (M:b.pc=Z->gs'[n]? =K g') (N:b.pc≠Z->gs'[n]? =J[n]?) (s:∀a,0<a->a≠n->gs'[a]? =J[a]?) (W:U gs'=U J) (X:Wordless u) (V:∀ad∈u,mA ad.act=Z):
 Inv H P S O (gu R b.c<|K<|dY buf'++(if b.pc=Z then vi' else[])) gs' (lY w b.c cap buf' (ni b.pc) s' r' aj) (t++u) Q (jD T n vi') q (jD dg n tr'):=by
 have⟨aa,v,am,ab,an⟩:=h.low n b hx;have r:∀a e,a≠n->Q a=K e->e.c≠b.c:=λa e f d=>(h.fU a n e b f d hx).1;refine⟨by rw[vk];exact h.kN.Xc X V,Kf h.hp,λa i k f l=>?_,λa i e f d m=>?_,λa e d=>by rw[W];exact h.idx a e d,λj g=>by rw[vk];exact h.kM j g,λj g=>by rw[vk];exact h.sI j g,λa e d=>by rw[vk];exact h.low a e d,h.fU,λa e d=>?_,λo Y p=>?_⟩;by_cases c:a=n;subst c;exact h.quit a i k ((N<|l b hx).symm.trans f) l;exact h.quit a i k ((s a k c).symm.trans f) l;by_cases c:a=n;subst c;rw[hx] at d;cases d;rw[M m] at f;cases f;rw[nG,nG];exact(G m).rely<|wV λg=>eD g v ab
 .rw[kO c,kO c];exact(h.act a i e ((s a (h.idx a e d).1 c).symm.trans f) d m).rely<|wV λg=>eD g v (h.fU n a b e (λE=>c<|bq E) hx d).2.1
 by_cases c:a=n;subst c;rw[hx] at d;cases d;exact⟨cap,buf',s',r',EC aa,by rw[HK,nG],by rw[nG];exact L⟩
 .have⟨D,x,al,ae,y,z,C⟩:=h.chan a e d;refine⟨D,x,al,ae,aB (Cd<|r a e c d) y,?_,by rw[kO c];exact C⟩;rw[Aw<|r a e c d,kO c];exact z
 .by_cases c:o=b.c
  .exact⟨n,b,hx,bq c⟩
  .rw[Aw c] at p;exact h.mu o Y p
def Inv.close(h:Inv H P S O R J w t Q T q dg){e:jX}(hx:Q n=K e)(v:e.pc=Z)(aD:T n=[]){p s E aa:Nat}{tr':Tr}(an:w.heap[e.c]? =K (.chan p C aj s E aj))(aC:QuitsIn P aa QW)(ar:gs'[n]? =K QW)(N:∀a,0<a->a≠n->gs'[a]? =J[a]?)(W:U gs'=U J)(fn:gw)(aI:String):
 Inv H P S O R gs' (lY w e.c p C af s E aj) (t++xo n fn aI #[⟨.obj e.c,aj,af⟩,⟨.obj e.c,af,af⟩]) (jD Q n<|K ⟨e.c,e.own,K<|U t+1⟩) T (jD q n aa) (jD dg n tr'):=by
 have⟨z,D,aF,aG,aH⟩:=h.low n e hx;have aw:∀a c,a≠n->Q a=K c->c.c≠e.c:=λa c f d=>(h.fU a n c e f d hx).1;refine⟨?_,Kf h.hp,λa r I f aA=>?_,λa r c f d V=>?_,λa c d=>?_,λm j=>by rw[vk];exact h.kM m j,λm j=>by rw[vk];exact h.sI m j,λa c d=>?_,λa y c ae l d X=>?_,λa c d=>?_,λal aE ao=>?_⟩
 .rw[vk];exact h.kN.close hx v z D λa c f d=>⟨(h.fU n a e c (λb=>f<|bq b) hx d).2.1,(h.fU n a e c (λb=>f<|bq b) hx d).1⟩
 by_cases b:a=n;subst b;rw[ar] at f;cases f;rw[nG];exact aC
 .rw[kO b];exact h.quit a r I ((N a I b).symm.trans f) λc d=>aA c (by rw[kO b];exact d)
 .rcases lB d with⟨rfl,b⟩|⟨i,g⟩
  .cases b;cases V
  .rw[kO i];exact(h.act a r c ((N a (h.idx a c g).1 i).symm.trans f) g V).rely<|wV λj=>eD j D (h.fU n a e c (λam=>i<|bq am) hx g).2.1
 rcases lB d with⟨rfl,b⟩|⟨i,g⟩;rw[W];exact h.idx a e hx;rw[W];exact h.idx a c g;rcases lB d with⟨rfl,b⟩|⟨i,g⟩;cases b;rw[vk];exact⟨z,D,aF,aG,aH⟩;rw[vk];exact h.low a c g;rcases lB d with⟨rfl,b⟩|⟨i,g⟩;cases b;rcases lB X with⟨rfl,b⟩|⟨az,x⟩;exact absurd Y l;exact h.fU a y e ae l hx x;rcases lB X with⟨rfl,b⟩|⟨az,x⟩;cases b;exact h.fU a y c e l g hx;exact h.fU a y c ae l g x;rcases lB d with⟨rfl,b⟩|⟨i,g⟩;cases b;have⟨M,G,ad,ab,k,o,L⟩:=h.chan a e hx;rw[v] at k;have:=aB k.symm an;cases this;refine⟨p,C,s,E,EC z,?_,λb=>by cases b⟩;rw[o,v,aD];rfl
 .have⟨M,G,ad,ab,k,o,L⟩:=h.chan a c g;exact⟨M,G,ad,ab,aB (Cd<|aw a c i g) k,o,L⟩
 have⟨a,c,d,b⟩:=h.mu al aE ao;by_cases f:a=n;subst f;rw[hx] at d;cases d;exact⟨a,_,nG,b⟩
 .exact⟨a,c,by rw[kO f];exact d,b⟩
def Inv.main(h:Inv H P S O R J w t Q T q dg)(e:oL H S O w A QS)(ad:gs'.size=J.size)(G:∀c,0<c->gs'[c]? =J[c]?){fn:gw}:
 Inv H P S (g6 O w A) R gs' A (t++xo 0 fn QL QS) Q T q dg:=by
 have F:∀b,g6 O w A b->b<U A.heap:=λb a=>eD a (λa=>cL (h.sI b a) e.size) λa=>a.2;have p:∀c d,Q c=K d->∀b,g6 O w A b->¬d.own b/\b≠d.c:=λc d f b a=>by
  have⟨y,l,z,C,k⟩:=h.low c d f;rcases a with a|a;exact⟨λg=>(k b g).2.2 a,λi=>z<|i▸a⟩;exact⟨λg=>bu,λi=>aa⟩
 refine⟨?_,e.hp h.hp,λc m E o Z=>h.quit c m E ((G c E).symm.trans o) Z,λc m d o f ab=>?_,λc d f=>bV ad<|h.idx c d f,λb a=>⟨cL (h.kM b a).1 e.size,λg=>eD g (h.kM b a).2 λg=>cA<|(h.kM b a).1⟩,F,λc d f=>?_,h.fU,λc d f=>?_,h.mu⟩;refine h.kN.main (λae r=>by obtain⟨i,_,rfl⟩:=yQ r;rfl) (F2 λi n=>EZ<|e.evs i n) e.size λae r b a X=>?_;obtain⟨i,n,rfl⟩:=yQ r;rcases JI (e.evs i n) a X with j|j;exact⟨F _ j,λx D v=>p x D v _ j,λI=>absurd j λg=>eD g (h.kM _ I).2 λg=>cA<|(h.kM _ I).1⟩;refine⟨cL (h.kM _ j.1).1 e.size,λx D v=>?_,λ_=>j.2⟩;have⟨y,l,z,C,k⟩:=h.low x D v;exact⟨λg=>(k _ g).2.1 j.1,λi=>l<|i▸j.1⟩;refine(h.act c m d ((G c (h.idx c d f).1).symm.trans o) f ab).rely ⟨λb a=>?_,e.size,e.tape,e.os,e.output⟩;rcases a with a|a;exact e.keep b (h.kM b a).1 (h.kM b a).2;exact e.keep b ((h.low c d f).2.2.2.2 b a).1 ((h.low c d f).2.2.2.2 b a).2.2;have⟨y,l,z,C,k⟩:=h.low c d f;exact⟨cL y e.size,l,λg=>(p c d f _ g).2 Y,C,λb a=>⟨cL (k b a).1 e.size,(k b a).2.1,λg=>(p c d f b g).1 a⟩⟩;have⟨W,L,s,al,M,N,V⟩:=h.chan c d f;exact⟨W,L,s,al,aB (e.keep _ (h.low c d f).1 (h.low c d f).2.2.1) M,N,V⟩
def Inv.spawn(h:Inv H P S O R J w t Q T q dg){W:Tr}(o:O n)(aC:I qN<=k)(a2:R n=Z)(aw:w.heap[n]? =K (.chan k #[] aj 0 0 aj))(ar:Wk H P S n W (λ_=>False) qN QW w)(N:U gs'=U J+1)(ao:0<U J)(az:gs'[U J]? =K QW)(M:∀a,0<a->a<U J->gs'[a]? =J[a]?){fn X:gw}:
 Inv H P S (λf=>O f/\f≠n) (gu R n<|K qN) gs' w (t++#[{g:=0,fn,pos,act:=.go<|U J},{g:=U J,fn:=X,pos,act:=.start}]) (jD Q (U J)<|K ⟨n,λ_=>False,Z⟩) (jD T (U J) qN) q (jD dg (U J) W):=by
 have aA:Q (U J)=Z:=by
  cases c:Q (U J) with
  |none=>rfl
  |some a1=>have:=(h.idx _ a1 c).2;omega
 have D:¬S n:=λaH=>(h.kM n aH).2 o;have aE:∀a b,Q a=K b->a≠U J:=λa b d c=>bu;have p:∀a b,Q a=K b->n≠b.c:=λa b d c=>(h.low a b d).2.2.1<|c▸o;refine⟨?_,h.hp,λa s C l L=>?_,λa s b l d aG=>?_,λa b d=>?_,λf g=>⟨(h.kM f g).1,λe=>(h.kM f g).2 e.1⟩,λf g=>h.sI f g.1,λa b d=>?_,λa v b y G d V=>?_,λa b d=>?_,λz m E=>?_⟩;exact h.kN.spawn aA (λa b d=>⟨λe=>((h.low a b d).2.2.2.2 n e).2.2 o,p a b d,λf g=>⟨λe=>((h.low a b d).2.2.2.2 f e).2.1 g,λc=>(h.low a b d).2.1<|c▸g⟩⟩) D;by_cases c:a=U J;subst c;exact absurd Y<|L ⟨n,λ_=>False,Z⟩ nG;have aD:a<U J:=by
  have:=(dn.1 l).1;omega
 exact h.quit a s C ((M a C aD).symm.trans l) λb d=>L b<|bV (kO c) d;rcases lB d with⟨rfl,c⟩|⟨j,i⟩;cases c;rw[az] at l;cases l;rw[nG,nG];exact ar;rw[kO j,kO j];exact h.act a s b ((M a (h.idx a b i).1 (h.idx a b i).2).symm.trans l) i aG;rcases lB d with⟨rfl,c⟩|⟨j,i⟩;rw[N];exact⟨ao,aa⟩;have:=h.idx a b i;rw[N];exact⟨this.1,aa⟩;rcases lB d with⟨rfl,c⟩|⟨j,i⟩;cases c;exact⟨h.sI n o,D,λe=>e.2 Y,λe=>e,λf g=>ff g⟩;have⟨aI,aK,aQ,aR,x⟩:=h.low a b i;exact⟨aI,aK,λe=>aQ e.1,aR,λf g=>⟨(x f g).1,(x f g).2.1,λe=>(x f g).2.2 e.1⟩⟩;rcases lB d with⟨rfl,c⟩|⟨j,i⟩;cases c;rcases lB V with⟨rfl,c⟩|⟨aF,r⟩;exact absurd Y G;exact⟨p v y r,λe=>((h.low v y r).2.2.2.2 n e).2.2 o,λf g=>ff g⟩;rcases lB V with⟨rfl,c⟩|⟨aF,r⟩;cases c;exact⟨λc=>p a b i<|bq c,λe=>e,λf g e=>e⟩;exact h.fU a v b y G i r;rcases lB d with⟨rfl,c⟩|⟨j,i⟩;cases c;exact⟨k,#[],0,0,aw,by rw[HK,nG];simp,by rw[nG];simpa using aC⟩;have⟨am,ab,a0,aU,ad,ae,al⟩:=h.chan a b i;refine⟨am,ab,a0,aU,ad,?_,bV (kO j) al⟩;rw[Aw λc=>p a b i<|bq c,kO j];exact ae;by_cases c:z=n;exact⟨U J,_,nG,bq c⟩;rw[Aw c] at E;have⟨a,b,d,an⟩:=h.mu z m E;exact⟨a,b,bV (kO<|aE a b d) d,an⟩
def Inv.Fu(h:Inv H P S O R J w t Q T q dg){f:jX}(hx:Q n=K f)(r:f.pc=K m)(I:U gs'=U J)(p:∀a,0<a->gs'[a]? =J[a]?){fn:gw}:
 Inv H P S O (gu R f.c Z) gs' w (t++#[{g:=0,fn,pos,act:=.recvClosed f.c}]) (jD Q n Z) T q dg:=by
 have e:∀{a c},jD Q n Z a=K c->a≠n/\Q a=K c:=λ{a c} d=>by
  rcases lB d with⟨_,d⟩|d;cases d;exact d
 refine⟨h.kN.Fu hx r,h.hp,λa i o j F=>?_,λa i c j b G=>?_,λa c b=>by rw[I];exact h.idx a c (e b).2,h.kM,h.sI,λa c b=>h.low a c (e b).2,λa M c W E b L=>h.fU a M c W E (e b).2 (e L).2,λa c b=>?_,λk N g=>?_⟩;refine h.quit a i o ((p a o).symm.trans j) λc b=>?_;by_cases d:a=n;subst d;rw[hx] at b;cases b;rw[r];simp;exact F c<|bV (kO d) b;exact h.act a i c ((p a (h.idx a c (e b).2).1).symm.trans j) (e b).2 G;have⟨C,v,s,V,x,y,z⟩:=h.chan a c (e b).2;exact⟨C,v,s,V,x,bV (Aw (h.fU a n c f (e b).1 (e b).2 hx).1) y,z⟩;by_cases d:k=f.c;rw[d,HK] at g;cases g;rw[Aw d] at g;have⟨a,c,b,l⟩:=h.mu k N g;refine⟨a,c,?_,l⟩;rw[kO λD=>?_];exact b;subst D;rw[hx] at b;cases b;exact d<|bq l
end
def Ends (P:bn)(J:F->ag->Prop)(m:Machine)(t:Trace):Prop:=
 ∃N a b c d,runNT P (N+1) m t=(.ended b c,d)/\runN P N m= .next a/\step P a= .ended b c/\Conc.Good P J a b c d
section
variable{R:bn}
def Ends.step{m a:Machine}{t b:Trace}(h:stepT P m=(.next a,b))(c:Ends P J a (t++b)):Ends P J m t:=by
 have⟨N,i,j,l,k,d,e,f,g⟩:=c;refine⟨N+1,i,j,l,k,?_,?_,f,g⟩;rw[runNT,h];exact d;rw[runN,Go.step,h];exact e
def Ends.now{m:Machine}{t b:Trace}{a:Outcome}{w:ag}(h:stepT P m=(.ended a w,b))(c:Conc.Good P J m a w (t++b)):Ends P J m t:=
 ⟨0,m,a,w,t++b,by rw[runNT,h],rfl,by rw[Go.step,h],c⟩
structure oM(g0 g:dN):Prop where
 frame:g0.frame=g.frame
 callers:sW g0=sW g
 dying:g0.dying=g.dying
def oM.refl(a:dN):oM a a:=⟨rfl,rfl,rfl⟩
def oM.step(h:oM QW QX)(m:Bool)(w:ag):cw P m QW w=cw P m QX w:=acd h.frame h.callers h.dying
section
variable{O:Nat->Prop}{A:Nat->Option (List F)}{Q:Array dN}{w:ag}{t:Trace}{T:Nat->Option jX}{H:Nat->List F}{q:Nat->Nat}{dg:Nat->Tr}
def Inv.status(h:Inv R P S O A Q w t T H q dg)(d:0<n)(b:Q[n]? =K QW):QW.status=kR\/QW.status= .finished:=by
 cases e:T n with
 |none=>exact(h.quit n QW d b λc a=>by rw[e] at a;cases a).status
 |some c=>
  cases g:c.pc with
  |some j=>exact(h.quit n QW d b λk a=>bu).status
  |none=>
   have:=h.act n QW c b e g;generalize dg n=i at this;cases i using Tr.ind with
   |fin=>exact ff<|Tr.wG this
   |mk f=>exact av (xe.1 this).1
def BN{b c a:dN}(h:m0 a=kR\/m0 a= .finished):woken P b c u a=a:=by
 unfold woken
 split
 exact again_running _ h;rfl
def DS{e f b:dN}{a d s h:Nat}{c:CommShape}(g:w'.heap[a]? =K (.chan d C aj s h qW)):woken P e f w' (parked b #[rcase a v] c)=parked b #[rcase a v] c:=by
 unfold woken
 split
 exact again_recv_open g;rfl
def others(h:Inv R P S O A Q w t T H q dg)(b:0<m)(d:m≠n):(cS (Q.map<|woken P QW QX u) n QX)[m]? =Q[m]? :=by
 rw[xf λa=>d<|bq a,pq];cases c:Q[m]? with
 |none=>rfl
 |some e=>rw[gE,BN<|h.status b c]
def z7(a:Q[n]? =K QW):(cS (Q.map<|woken P QW QX u) n QX)[n]? =K QX:=by
 rw[Array.getElem?_setIfInBounds_self_of_lt<|by simpa using(dn.1 a).1]
def wT{c b a:dN}(e:n≠0)(d:Q[0]? =K a)(f:woken P c b u a=a):(cS (Q.map<|woken P c b u) n b)[0]? =K a:=by
 rw[xf e,pq,d,gE,f]
def yB:U (cS (Q.map<|woken P QW QX u) n QX)=U Q:=aI
def Inv.acO(h:Inv R P S O A Q w t T H q dg)(x:∀g,A g=Z):Inv R P (λ_=>False) (λ_=>False) (λ_=>Z) Q w t (λ_=>Z) H q dg:=by
 have v:∀a,T a=Z:=λa=>by
  cases b:T a with
  |none=>rfl
  |some c=>
   have⟨z,y,s,G,_,i,_⟩:=h.chan a c b;rw[x] at i;cases i
 refine⟨⟨h.kN.wl,h.kN.clean,h.kN.low,λa l p u=>?_,λf c d=>(de d),λf c d=>(de d),λf c E d=>(de d)⟩,h.hp,λa j n k _=>h.quit a j n k λc B=>bu,λa j c k b=>(de b),λa c b=>(de b),λm e=>ff e,λm e=>ff e,λa c b=>(de b),λa C c F _ b=>(de b),λa c b=>(de b),λg D r=>(de r)⟩;rcases h.kN.known a l p u with o|⟨f,c,d,_⟩;exact av o;rw[v] at d;cases d
def Inv.acQ(h:Inv R P (λ_=>False) (λ_=>False) (λ_=>Z) Q w t (λ_=>Z) H q dg)(k:∀d,S d->d<U w.heap/\¬O d)(j:∀d,O d->d<U w.heap):Inv R P S O (λ_=>Z) Q w t (λ_=>Z) H q dg:=by
 refine⟨⟨h.kN.wl,h.kN.clean,h.kN.low,λe g l n=>?_,λf b c=>(de c),λf b c=>(de c),λf b v c=>(de c)⟩,h.hp,h.quit,λe p b r a=>(de a),λe b a=>(de a),k,j,λe b a=>(de a),λe s b x _ a=>(de a),λe b a=>(de a),λo u m=>(de m)⟩;rcases h.kN.known e g l n with i|⟨f,b,c,_⟩;exact av i;cases c
def Inv.JJ(h:Inv R P (λ_=>False) (λ_=>False) (λ_=>Z) Q w t (λ_=>Z) H q dg){i:Array dN}(f:D6 R w w' es)(B:i.size=Q.size)(u:∀g,0<g->i[g]? =Q[g]?)(fn:gw)(y:String):
 Inv R P (λ_=>False) (λ_=>False) (λ_=>Z) i w' (t++xo 0 fn y es) (λ_=>Z) H q dg:=by
 refine⟨(h.kN.main (λx k=>by obtain⟨e,_,rfl⟩:=yQ k;rfl) (F2 λe j=>JH<|f.evs e j) f.size λx k l c s=>?_),f.hp h.hp,λb m n o a=>h.quit b m n ((u b n).symm.trans o) a,λb m d o a=>(de a),λb d a=>(de a),λl c=>ff c,λl c=>ff c,λb d a=>(de a),λb g d E _ a=>(de a),λb d a=>(de a),λz D p=>(de p)⟩;obtain⟨e,j,rfl⟩:=yQ k;exact⟨T0 (f.evs e j) c s,λC d r=>(de r),λv=>ff v⟩
def Inv.good(h:Inv R P (λ_=>False) (λ_=>False) (λ_=>Z) Q w t (λ_=>Z) H q dg)(k:Option (Nat×Nat))(i:∀a∈QS,mY (U w.heap) a)(j:J v w)(fn:gw)(g:String)(l:ag):Conc.Good P J (crowd Q l k) (.done v) w (t++xo 0 fn g QS):=by
 have c:=h.JJ (w':=w) (es:=QS) ⟨aZ _,rfl,rfl,rfl,id,i⟩ Y (λ_ _=>rfl) fn g;refine⟨v,rfl,j,c.kN.clean,c.kN.over,⟨λf e=>?_,rfl⟩,λb f e d=>?_⟩;have⟨b,d⟩:=List.mem_iff_getElem?.1 e;rw[List.getElem?_drop] at d;exact⟨_,(h.quit (1+b) f aa (by simpa [crowd] using d) λm a=>de a).leaves⟩;rw[c.kN.wl.deaf];exact⟨q b,(h.quit b f aa e λm a=>de a).hears _ 0⟩
end
end
section
variable{Q:bn}
def BU (Q P:bn)(J:F->ag->Prop)(k:Tr):Prop:=
 (∀d c,Mn Q P J k .ex d c->∀b g e h f dg a,b[0]? =K a->oM a d->m0 a=kR->Inv Q P (λ_=>False) (λ_=>False) (λ_=>Z) b c e (λ_=>Z) h f dg->Ends P J (crowd b c g) e)/\
 (∀j i l d c,Mn Q P J k (.sh j i l) d c->∀b g e m h f dg a,b[0]? =K a->oM a d->m0 a=kR->Inv Q P j i l b c e m h f dg->Ends P J (crowd b c g) e)
def NT{a:Nat->Nat}(b:n<m)(c:a n=k+1):tP m (jD a n k)+1=tP m a:=by
 have d:tP m (jD a n k)+(k+1)=tP m a+k:=by
  have:=ConcN.sumTo_upd a k id b;simp only[id,c] at this;exact this
 omega
def El{o:Nat->Option (List F)}{a:Array dN}{k:Trace}{m:Nat->Option jX}{l:Nat->List F}{j:Nat->Nat}{dg:Nat->Tr}(h:Inv Q P Qa Qb o a w k m l j dg)(d:a[0]? =K QW)(e:awake QW):∀b∈a,awake b:=by
 intro b f;obtain⟨i,c,rfl⟩:=Array.mem_iff_getElem.1 f;rcases v8 i with rfl|g;have:a[0]=QW:=by simpa [n7 c] using d
 rw[this];exact e;exact awake_of<|eD (h.status g<|n7 c) av λn=>ai<|ai n
def UH{f:ag->Tr}(D:∀a,BU Q P J<|f a):∀(r:Nat) j a,Mn Q P J (.mk f) .ex j a->∀e m q n h dg d,tP (U e) h<r->e[0]? =K d->oM d j->m0 d=kR->Inv Q P (λ_=>False) (λ_=>False) (λ_=>Z) e a q (λ_=>Z) n h dg->Ends P J (crowd e a m) q:=by
 intro r
 induction r with
 |zero=>intro j a z e m q n h dg d ao;omega
 |succ r ar=>
  intro j a z e m q n h dg d ao l t o g;have N:=z;rcases pQ.1 z with y|y|⟨F,E,H,I,L⟩
  case inr.inr=>exact(D a).2 F E _ j a (L a<|atRel_refl a) e m q _ n h dg d l t o<|g.acQ H I
  all_goals
   have⟨i,k,b,p,c,s,C⟩:=crowd_pick (P:=P) (w:=a) (sl:=m) (El g l<|awake_of<|av o) ⟨0,d,l,o⟩;rcases v8 i with rfl|ad
   case inr=>
    have u:=g.quit i k ad c λaC w=>de w;have W:(i==0)=aj:=bS;have Y:i<U e:=(dn.1 c).1;cases B:h i with
    |zero=>rw[B] at u;rw[show m0 k= .finished from u] at s;cases s
    |succ az=>
     rw[B] at u;rcases u with S|⟨_,x,an,ae⟩;rw[S] at s;cases s;have am:=runT_crowd_go (P:=P) (sl:=p) (i:=i) c (by rw[W];exact an<|a.at b);have aD:=NT Y B;refine Ends.step (aB C am)<|ar j (a.at b) (N.JK ⟨b,rfl⟩) _ p _ n (jD h i az) dg d (jC yB) (wT aa l<|BN<|av o) t o ?_;rw[ofEvents_none,Array.append_empty];exact(g.at b).slip (λaC w=>de w) ae yB (z7 c) λaw A X=>others g A X
  obtain rfl:k=d:=by rw[l] at c;exact bq<|uX c
  have⟨x,aA,G,V,al,T,M⟩:=y (a.at b) ⟨b,rfl⟩;exact Ends.step (aB C<|runT_crowd_go (P:=P) (sl:=p) (i:=0) c (show cw P (0==0) k (a.at b)=_ from aB (t.step af _) V))<|(D<|a.at b).1 x aA M _ p _ n h dg x (z7 c) (oM.refl _) al<|(g.at b).JJ T yB (λaw A=>others g A aa) _ _;obtain rfl:k=d:=by rw[l] at c;exact bq<|uX c
  have⟨v,G,O,R,ab⟩:=y (a.at b) ⟨b,rfl⟩;exact Ends.now (aB C<|runT_many_ended (P:=P) (sl:=p) (i:=0) c (show cw P (0==0) k (a.at b)=_ from aB (t.step af _) O))<|(g.at b).good m R ab _ _ a
end
section
variable{T:bn}
def RC (T P:bn)(J:F->ag->Prop)(f:ag->Tr)(S O:Nat->Prop)(R:Nat->Option (List F))(d:dN)(w:ag)(c:Nat)(h:F)(b:dN)(g:List F):Prop:=
 R c=K g/\(b.frame=d.frame/\sW b=sW d/\b.dying=d.dying)/\∀a,RelB (λe=>S e\/O e) w a->cw P af d a= .comm b #[rcase c h] af (.recv af) a #[]/\
  match g with
  |v::i=>Mn T P J (f a) (.sh S O<|gu R c<|K i) (nN b<|recvd af v af) a
  | []=>Mn T P J (f a) (.sh S O<|gu R c Z) (nN b<|recvd af h aj) a
def RC.rely{f:ag->Tr}{S O:Nat->Prop}{R:Nat->Option (List F)}{w b:ag}(h:RC T P J f S O R QW w n v QX qN)(d:RelB (λa=>S a\/O a) w b):RC T P J f S O R QW b n v QX qN:=
 ⟨h.1,h.2.1,λe c=>h.2.2 e<|d.trans c⟩
def zf (T P:bn)(J:F->ag->Prop)(f:ag->Tr)(S O:Nat->Prop)(R:Nat->Option (List F))(e:dN)(Q:Array dN)(w:ag)(H:Nat->Option jX)(d:Nat):Prop:=
 (d=1/\∃b,Q[0]? =K b/\oM b e/\m0 b=kR)\/
 (d=0/\∃a h g k j c i s l,Q[0]? =K (parked g #[rcase a h] (.recv af))/\RC T P J f S O R e w a h g k/\H j=K c/\c.c=a/\c.pc=Z/\w.heap[a]? =K (.chan i #[] aj s l aj))
def adf{R:Nat->Option (List F)}{a:Option (List F)}(h:R n=a):gu R n a=R:=by
 funext c;unfold gu
 split
 rename_i b;rw[b,h];rfl
section
variable{O:Nat->Prop}{R:Nat->Option (List F)}{Q:Array dN}{w C:ag}{t:Trace}{H:Nat->Option jX}{A:Nat->List F}{q:Nat->Nat}{dg:Nat->Tr}
def Inv.R1(h:Inv T P S O R Q w t H A q dg){b a:jX}(hx:H n=K b)(hy:H m=K a)(d:oL T S b.own w C QS):C.heap[a.c]? =w.heap[a.c]? :=by
 refine d.keep _ (h.low m a hy).1 ?_;by_cases c:m=n;subst c;rw[hx] at hy;cases hy;exact(h.low m b hx).2.2.2.1;exact(h.fU m n a b c hy hx).2.1
def Inv.Le(h:Inv T P S O R Q w t H A q dg)(a:Nat)(c:Bool)(i:∀e,n≠0->Q[0]? =K e->offersAt e a c=[]):partners (cS Q n ph) a c=[]:=by
 refine partners_nil λg d j=>?_;rcases getElem?_stand Q n g d j with⟨_,rfl⟩|⟨k,f⟩;exact offersAt_ph a c;rcases v8 g with rfl|l;exact i d (λb=>k<|bq b) f;exact offersAt_of_not_blocked (by rcases h.status l f with b|b<;>rw[b]<;>simp) a c
end
def BD{Q:Array dN}{g a:dN}(b:Q[n]? =K g):(cS Q n a)[n]? =K a:=Array.getElem?_setIfInBounds_self_of_lt (dn.1 b).1
def tF{Q:Array dN}(h:m≠n):(cS Q n QW)[m]? =Q[m]? :=xf λa=>h<|bq a
def Zd(h:QuitsIn P n QW):(QW.status != .blocked&&QW.status != .waiting)=af:=by
 rcases h.status with a|a<;>rw[a]<;>rfl
def LC{f:ag->Tr}(cl:∀w,BU T P J<|f w){S O:Nat->Prop}{R:Nat->Option (List F)}{dg:Nat->Tr}
 (a3:∀bx,Down n bx dg->∀w,Mn T P J (.mk f) (.sh S O R) QW w->∀Q ad t H A q i,U Q=n->zf T P J f S O R QW Q w H i->Inv T P S O R Q w t H A q bx->Ends P J (crowd Q w ad) t)
  (cn:∀w,Mn T P J (.mk f) (.sh S O R) QW w->∀Q ad t H A q i,U Q=n->tP n q+i<k->zf T P J f S O R QW Q w H i->Inv T P S O R Q w t H A q dg->Ends P J (crowd Q w ad) t)
 {w:ag} (b4:Mn T P J (.mk f) (.sh S O R) QW w) {Q:Array dN} {ad:Option (Nat×Nat)} {t:Trace} {H:Nat->Option jX} {A:Nat->List F} {q:Nat->Nat} (bF:U Q=n) (cy:tP n q+i<k+1) (a8:zf T P J f S O R QW Q w H i) (aE:Inv T P S O R Q w t H A q dg)
  {u:Option (Nat×Nat)} (ca:0<j) (p:Q[j]? =K QX) (a7:QX.status=kR) (a1:stepT P (crowd Q w ad)=runT P (crowd Q (w.at a) u) j):Ends P J (crowd Q w ad) t:=by
 have B:=aE.at a;have aF:=b4.tG<|RelB.at _ w a;have be:(j==0)=aj:=bS;have bD:j<U Q:=(dn.1 p).1;have bK:(∀b,H j=K b->b.pc≠Z)->Ends P J (crowd Q w ad) t:=by
  intro bH;have aw:=aE.quit j QX ca p bH;cases bj:q j with
  |zero=>rw[bj] at aw;rw[show QX.status= .finished from aw] at a7;cases a7
  |succ a9=>
   rw[bj] at aw;rcases aw with b5|⟨_,aQ,cf,cc⟩;rw[b5] at a7;cases a7;have bk:=runT_crowd_go (P:=P) (sl:=u) (i:=j) p (by rw[be];exact cf<|w.at a);have cx:=NT (bF▸bD) bj;refine Ends.step (aB a1 bk)<|cn (w.at a) aF _ u _ H A (jD q j a9) i bu aa ?_ ?_;rcases a8 with⟨c,I,e,ar,E⟩|⟨c,x,G,d,X,g,b,h,s,r,e,M,o,ck,L,N⟩;exact av ⟨c,I,wT aa e<|BN<|av E,ar,E⟩;exact ai ⟨c,x,G,d,X,g,b,h,s,r,wT aa e<|DS (w':=w.at a) N,M.rely<|RelB.at _ w a,o,ck,L,N⟩;rw[ofEvents_none,Array.append_empty];exact B.slip bH cc yB (z7 p) λg V l=>others aE V l
 cases o:H j with
 |none=>exact bK λb c=>by rw[o] at c;cases c
 |some b=>
  cases L:b.pc with
  |some cM=>exact bK λae c=>bu
  |none=>
   have aU:=B.act j QX b p o L;have⟨co,ba,bb,cA,cK⟩:=B.low j b o;have bc:=aU;generalize b6:dg j=kN at bc;cases kN using Tr.ind with
   |fin=>exact(Tr.wG bc).elim
   |mk aK=>
    replace aU:=xe.1 bc;have aH:∀br,br=aK (w.at a)->Down n (jD dg j br) dg:=λbr c=>⟨j,bF▸bD,⟨aK,w.at a,b6,by rw[nG];exact c⟩,λg V=>kO V⟩;have⟨h,ab,s,r,al,a4,aG⟩:=B.chan j b o;rw[L] at al a4 aG;simp only[Option.isSome_none,if_true,forall_const] at al a4 aG;have⟨_,aU⟩:=aU;rcases aU with b1|⟨v,bm,d,G,bl,b2⟩|⟨bl,aQ,a9,aw,ch,b3⟩;have⟨aQ,C,cr,b7,a0,a6⟩:=b1 (w.at a)<|RelB.refl _ _;have hrel:=B.W2 o a0;refine Ends.step (aB a1<|runT_crowd_go (P:=P) (sl:=u) (i:=j) p<|bV be b7)<|a3 _ (aH _ Y) C (aF.tG hrel) _ u _ _ A q i bu ?_<|B.HT o L a0 a6 yB (z7 p) λg V l=>others aE V l;rcases a8 with⟨c,I,e,ar,E⟩|⟨c,x,G,d,X,g,ae,h,s,r,e,M,z,W,a2,N⟩;exact av ⟨c,I,wT aa e<|BN<|av E,ar,E⟩;have an:C.heap[x]? =K (.chan h #[] aj s r aj):=by
     rw[<-W,B.R1 o z a0,W];exact N
    by_cases l:g=j;subst l;rw[o] at z;cases z;exact ai ⟨c,x,G,d,X,g,⟨b.c,g6 b.own (w.at a) C,Z⟩,h,s,r,wT aa e<|DS an,(M.rely<|RelB.at _ w a).rely hrel,nG,W,rfl,an⟩
    .exact ai ⟨c,x,G,d,X,g,ae,h,s,r,wT aa e<|DS an,(M.rely<|RelB.at _ w a).rely hrel,by rw[kO l];exact z,W,a2,an⟩
    have⟨cs,a6⟩:=b2 (w.at a)<|RelB.refl _ _;have bC:cw P (j==0) QX (w.at a)= .comm d #[scase b.c v G] af .send (w.at a) #[]:=bu;rw[bl] at a4 aG;have cd:U ab<h:=bu;have bT:(∀I,j≠0->Q[0]? =K I->offersAt I b.c aj=[])->(∀a5,a5[0]? =Q[0]? ->zf T P J f S O R QW a5 (lY (w.at a) b.c h (iz ab v) aj (s+1) r aj) H i)->Ends P J (crowd Q w ad) t:=by
     intro bi b8;have bk:=crowd_send_room (sl:=u) p bC al cd<|B.Le b.c aj bi;refine Ends.step (aB a1 bk) ?_;rw[ofEvents_none,Array.empty_append,finishComm_send];have y:=B.comm (gs':=cS Q j<|nN d bR) (u:= #[{g:=j,fn:=d.frame.fn,pos:=d.frame.place,act:=.send b.c s},{g:=j,fn:=d.frame.fn,pos:=d.frame.place,act:=.sendDone b.c s}]) o (cap:=h) (s':=s+1) (r':=r) (buf':=iz ab v) (vi':=bm) (tr':=aK<|w.at a) (g':=nN d bR) (λ_=>by simp at aG ⊢;omega) (λ_=>a6) (λ_=>BD p) (λc=>absurd L c) (λg V l=>tF l) aI (λbo D m bh=>by simp at D;rcases D with rfl|rfl<;>cases bh) (λbo D=>by simp at D;rcases D with rfl|rfl<;>rfl);rw[L] at y;simp only[Option.isSome_none,if_true] at y;rw[adf<|by rw[a4];simp] at y;exact a3 _ (aH _ Y) _ (aF.tG<|wV λam=>am.elim ba bb) _ u _ H _ q i (by grind) (b8 _<|tF aa) y
    rcases a8 with⟨c,I,e,ar,E⟩|⟨c,x,cq,aD,X,g,ae,aC,aA,az,e,M,z,W,a2,N⟩;refine bT (λb0 _ aR=>?_) λa5 bd=>av ⟨c,I,aB bd e,ar,E⟩;rw[e] at aR;cases aR;exact offersAt_of_not_blocked (by rw[E];simp) _ _;by_cases ao:x=b.c;subst ao;have bv:=aB N.symm (show w.heap[b.c]? =_ from al);simp only[iG,Obj.chan.injEq] at bv;obtain⟨rfl,rfl,-,rfl,rfl,-⟩:=bv;have bi:partners (cS Q j ph) b.c aj=[(0,0)]:=by
     rw[partners_one (j:=0) (stand_get (i:=j) (by omega) e) λa9 ae cu z=>?_];rw[offersAt_parked_recv];simp;rcases getElem?_stand Q j a9 ae z with⟨_,rfl⟩|⟨cv,a0⟩;exact offersAt_ph _ _;exact offersAt_of_not_blocked (by rcases aE.status aa a0 with c|c<;>rw[c]<;>simp) _ _
    refine Ends.step (aB a1<|crowd_send_meets (sl:=u) p bC al (j:=0) aa e bi) ?_;rw[ofEvents_none,Array.empty_append,finishComm_send,finishComm_recv];have⟨cp,⟨bL,bM,bP⟩,bQ⟩:=M.rely<|RelB.at _ w a;have bW:X=v::bm:=bu;subst bW;have bz:=(bQ (w.at a)<|RelB.refl _ _).2;dsimp only at bz;have y:=B.comm (gs':=cS (cS Q 0<|nN aD<|recvd af v af) j<|nN d bR) (u:= #[{g:=j,fn:=d.frame.fn,pos:=d.frame.place,act:=.send b.c aA},{g:=0,fn:=aD.frame.fn,pos:=aD.frame.place,act:=.recv b.c az aC},{g:=j,fn:=d.frame.fn,pos:=d.frame.place,act:=.sendDone b.c aA},{g:=0,fn:=aD.frame.fn,pos:=aD.frame.place,act:=.recvDone b.c az}]) o (cap:=aC) (s':=aA+1) (r':=az+1) (buf':= #[]) (vi':=bm) (tr':=aK<|w.at a) (g':=nN d bR) (λ_=>by simp at aG ⊢;omega) (λ_=>a6) (λ_=>BD (g:=QX)<|by rw[tF<|by omega];exact p) (λc=>absurd L c) (λg V l=>by rw[tF l,tF aa]) aI (λbo D m bh=>by simp at D;rcases D with rfl|rfl|rfl|rfl<;>cases bh) (λbo D=>by simp at D;rcases D with rfl|rfl|rfl|rfl<;>rfl);rw[L] at y;simp only[Option.isSome_none,if_true] at y;exact(cl<|w.at a).2 S O _ _ _ (bz.tG<|wV λam=>am.elim ba bb) _ u _ H _ q _ _ (by grind) (oM.refl _) Y y;refine bT (λb0 _ aR=>?_) λa5 bd=>?_;rw[e] at aR;cases aR;rw[offersAt_parked_recv,if_neg ao]
    .exact ai ⟨c,x,cq,aD,X,g,ae,aC,aA,az,aB bd e,(M.rely<|RelB.at _ w a).rely<|wV λam=>am.elim ba bb,z,W,a2,aB (Cd ao) N⟩
    ·
     have hrel:RelB (λbs=>S bs\/O bs) (w.at a) (lY (w.at a) b.c h ab af s r aj):=wV λam=>am.elim ba bb;have y:=B.close (gs':=cS (Q.map<|woken P QX aQ<|lY (w.at a) b.c h ab af s r aj) j aQ) (tr':=aK<|w.at a) o L bl al aw (z7 p) (λg V l=>others aE V l) yB QX.frame.fn QX.frame.place;refine Ends.step (aB a1<|runT_crowd_go (P:=P) (sl:=u) (i:=j) p<|by rw[be];exact(b3 (w.at a) (RelB.refl _ _) h ab s r aj al)) ?_;rcases a8 with⟨c,I,e,ar,E⟩|⟨c,x,G,d,X,g,ae,aC,aA,az,e,M,z,W,a2,N⟩;exact a3 _ (aH _ Y) _ (aF.tG hrel) _ u _ _ _ _ i bu (av ⟨c,I,wT aa e<|BN<|av E,ar,E⟩) y
     .by_cases ao:x=b.c
      .subst ao;have⟨cp,⟨bL,bM,bP⟩,bQ⟩:=M;refine a3 _ (aH _ Y) _ (aF.tG hrel) _ u _ _ _ _ 1 bu (av ⟨rfl,{parked d #[rcase b.c G] (.recv af) with status:=kR},?_,⟨bL,bM,bP⟩,rfl⟩) y;have ci:woken P QX aQ (lY (w.at a) b.c h ab af s r aj) (parked d #[rcase b.c G] (.recv af))= {parked d #[rcase b.c G] (.recv af) with status:=kR}:=by
        unfold woken;rw[if_pos ?hP]
        case hP=>rw[ch,Bool.true_and];exact Zd aw
        exact again_recv_closed<|EC co
       rw[xf aa,pq,e,gE,ci]
      have l:g≠j:=λc=>by
       subst c;rw[o] at z;cases z;exact ao<|bq W
      have an:(lY (w.at a) b.c h ab af s r aj).heap[x]? =K (.chan aC #[] aj aA az aj):=aB (Cd ao) N;exact a3 _ (aH _ Y) _ (aF.tG hrel) _ u _ _ _ _ i bu (ai ⟨c,x,G,d,X,g,ae,aC,aA,az,wT aa e<|DS an,(M.rely<|RelB.at _ w a).rely hrel,by rw[kO l];exact z,W,a2,an⟩) y
def UI{f:ag->Tr}(D:∀w,BU T P J<|f w){S O:Nat->Prop}{R:Nat->Option (List F)}{dg:Nat->Tr}(bd:Acc (Down n) dg):
 ∀(al:Nat) w,Mn T P J (.mk f) (.sh S O R) QW w->∀Q l t H A q p,U Q=n->tP n q+p<al->zf T P J f S O R QW Q w H p->Inv T P S O R Q w t H A q dg->Ends P J (crowd Q w l) t:=by
 induction bd with
 |intro dg _ bz=>
  have a7:∀am,Down n am dg->∀w,Mn T P J (.mk f) (.sh S O R) QW w->∀Q l t H A q p,U Q=n->zf T P J f S O R QW Q w H p->Inv T P S O R Q w t H A q am->Ends P J (crowd Q w l) t:=
   λam bi w an Q l t H A q p X aC d=>bz am bi (tP n q+p+1) w an Q l t H A q p X aa aC d
  intro al
  induction al with
  |zero=>intro w an Q l t H A q p X aR;omega
  |succ al a0=>
   intro w ao Q l t H A q p X aR aC d;have a6:=aC;rcases aC with⟨z,aE,h,aA,aK⟩|⟨z,E,M,r,L,g,b,N,s,ae,h,ad,i,b5,G,b2⟩
   .have an:=pQ.1 ao;rcases an with B|B|B|⟨br,bb⟩
    case inr.inr.inr=>exact(D w).1 QW w (bb w (RelB.refl _ _) d.hp) Q l t A q dg aE h aA aK<|d.acO br
    all_goals
     have⟨aU,W,a,k,c,aw,x⟩:=crowd_pick (P:=P) (w:=w) (sl:=l) (El d h<|awake_of<|av aK) ⟨0,aE,h,aK⟩;rcases v8 aU with rfl|aH
     case inr=>exact LC D a7 a0 ao X aR a6 d aH c aw x
     obtain rfl:W=aE:=by rw[h] at c;exact bq<|uX c
     have e:=d.at a
    .have⟨V,C,b0,bk,aQ,bj,v⟩:=B (w.at a)<|RelB.at _ w a;exact Ends.step (aB x<|runT_crowd_go (P:=P) (sl:=k) (i:=0) c (show cw P (0==0) W (w.at a)=_ from aB (aA.step af _) bk))<|(D<|w.at a).2 S _ R V C v _ k _ H A q dg V (z7 c) (oM.refl _) aQ<|e.main bj yB λg I=>others d I aa
    have⟨E,bK,N,bC,bD,bF,bH,B⟩:=B;have⟨V,bW,bT,bv,aQ,bc,v⟩:=B (w.at a)<|RelB.at _ w a;have bm:0<U Q:=(dn.1 h).1;refine Ends.step (aB x<|runT_crowd_spawn (P:=P) (sl:=k) (i:=0) c (show cw P (0==0) W (w.at a)=_ from aB (aA.step af _) bv))<|(D<|w.at a).2 S _ _ V (w.at a) v _ k _ (jD H (U Q)<|K ⟨E,λ_=>False,Z⟩) (jD A (U Q) bK) q (jD dg (U Q) bT) V ?_ (oM.refl _) aQ ?_;rw[Array.getElem?_push_lt bu];simp;rw[ofEvents_none];exact e.spawn bC bD bF bH bc aI bm (by rw[p6];simp) (λg I b3=>by
     rw[Array.getElem?_push_lt bu,<-n7,tF aa])
    have⟨E,M,r,L,ad⟩:=B;have ad:RC T P J f S O R QW w E M r L:=ad;have⟨a8,⟨ca,cc,cd⟩,bP⟩:=(ad.rely<|RelB.at _ w a);have⟨bh,v⟩:=bP (w.at a)<|RelB.refl _ _;have aF:cw P (0==0) W (w.at a)= .comm r #[rcase E M] af (.recv af) (w.at a) #[]:=aB (aA.step af _) bh;obtain⟨j,b,i,rfl⟩:=e.mu E L a8;have⟨b6,bL,bM,b7,b8⟩:=e.low j b i;have⟨N,o,s,ae,y,a2,a9⟩:=e.chan j b i;have b4:=(e.idx j b i).1;have aG:=e.Le b.c af λb1 z=>absurd Y z;obtain⟨gk,a5⟩:∃gk,Q[j]? =K gk:=⟨Q[j]'(e.idx j b i).2,n7 _⟩;by_cases ar:0<U o;refine Ends.step (aB x<|crowd_recv_buf (sl:=k) c aF y ar aG) ?_;rw[ofEvents_none,Array.empty_append,finishComm_recv];have aD:L=cB o 0 bR::(dY (o.extract 1<|U o)++(if b.pc=Z then A j else[])):=by
     have:=aB a8.symm a2;simp only[iG] at this;rw[this];have⟨a1⟩:=o;cases a1 with
     |nil=>simp at ar
     |cons bV a1=>simp
    subst aD;dsimp only at v;have ba:=e.comm (gs':=cS Q 0<|nN r<|recvd af (cB o 0 bR) af) (u:= #[{g:=0,fn:=r.frame.fn,pos:=r.frame.place,act:=.recv b.c ae N},{g:=0,fn:=r.frame.fn,pos:=r.frame.place,act:=.recvDone b.c ae}]) i (cap:=N) (s':=s) (r':=ae+1) (buf':=o.extract 1<|U o) (vi':=A j) (tr':=dg j) (g':=gk) (λz=>by have:=a9 z;simp;omega) (λz=>e.act j gk b a5 i z) (λ_=>by rw[tF aa];exact a5) (λ_=>tF aa) (λg I _=>tF aa) aI (λbQ ab m bo=>by simp at ab;rcases ab with rfl|rfl<;>cases bo) (λbQ ab=>by simp at ab;rcases ab with rfl|rfl<;>rfl);exact(D<|w.at a).2 S O _ _ _ (v.tG<|wV λar=>ar.elim bL bM) _ k _ H _ q _ _ (BD h) (oM.refl _) Y ba;have be:o=#[]:=by
     apply Array.eq_empty_of_size_eq_zero;omega
    subst be;cases G:b.pc with
    |none=>
     rw[G] at y;have bx:∀a3∈ #[rcase b.c M],NoWays (w.at a) (cS Q 0 ph) a3:=by
      intro a3 a4;simp at a4;subst a4;refine⟨made_recv M y,?_⟩;simp only[ways,rcase];rw[y];simp[aG]
     refine Ends.step (aB x<|crowd_waits (sl:=k) c aF bx) ?_;rw[ofEvents_none,Array.append_empty];refine a0 (w.at a) (ao.tG<|RelB.at _ w a) _ k _ H A q 0 bu aa (ai ⟨rfl,b.c,M,r,L,j,b,N,s,ae,BD h,ad.rely<|RelB.at _ w a,i,rfl,G,y⟩)<|e.UW aI λg I=>tF aa
    |some cf=>
     rw[G] at y a2;refine Ends.step (aB x<|crowd_recv_closed (sl:=k) c aF y aG) ?_;rw[ofEvents_none,Array.empty_append,finishComm_recv];have aD:L=[]:=bu;subst aD;dsimp only at v;exact(D<|w.at a).2 S O _ _ _ v _ k _ _ A q dg _ (BD h) (oM.refl _) Y<|e.Fu i G aI λg I=>tF aa
   have bs:∃u,Q[g]? =K u/\m0 u=kR:=by
    obtain⟨u,az⟩:∃u,Q[g]? =K u:=⟨Q[g]'(d.idx g b i).2,n7 _⟩;refine⟨u,az,?_⟩;have:=d.act g u b az i G;generalize dg g=bS at this;cases bS using Tr.ind with
    |fin=>exact(Tr.wG this).elim
    |mk f=>exact(xe.1 this).1
   have⟨u,az,bl⟩:=bs;have⟨aU,W,a,k,c,aw,x⟩:=crowd_pick (P:=P) (w:=w) (sl:=l) (El d h λt=>by simp[parked]) ⟨g,u,az,bl⟩;rcases v8 aU with rfl|aH;rw[h] at c;cases c;simp[parked] at aw;exact LC D a7 a0 ao X aR a6 d aH c aw x
def UG:∀k:Tr,BU T P J k:=by
 intro k
 induction k using Tr.ind with
 |fin=>exact⟨λa w c=>ff<|Tr.wG c,λS O R a w c=>ff<|Tr.wG c⟩
 |mk f l=>
  exact⟨λa w g Q j t A q dg b d h i e=>UH l (tP (U Q) q+1) a w g Q j t A q dg b aa d h i e,λS O R a w g Q j t H A q dg b d h i e=>(UI l (Py (U Q) dg) (tP (U Q) q+1+1) w g Q j t H A q 1 Y aa (av ⟨rfl,b,d,h,i⟩) e)⟩
def S_{l:Tr}{w:ag}(h:Mn T P J l .ex (aX Qg Qj) w)(p:kr T w):Ends P J (p9 (aX Qg Qj) w) #[]:=by
 rw[solo_eq_crowd];refine(UG l).1 _ w h #[aX Qg Qj] Z #[] (λ_=>[]) (λ_=>0) (λ_=>.fin) _ Y (oM.refl _) Y ⟨⟨λx o=>by simp at o,λz=>?_,λb g d=>by simp[touchAt,Trace.act?] at d,λb g d=>by simp[touchAt,Trace.act?] at d,λk c e=>(de e),λk c e=>(de e),λk c y e=>(de e)⟩,p,λb m u j _=>?_,λb m c j a=>(de a),λb c a=>(de a),λi f=>ff f,λi f=>ff f,λb c a=>(de a),λb r c B _ a=>(de a),λb c a=>(de a),λs v n=>(de n)⟩;rintro⟨b,r,_,⟨g,i,d,_⟩,_⟩;simp[Trace.act?] at d;have:b<1:=by simpa using(dn.1 j).1
 omega
end
def iq (Q P:bn)(J:F->ag->Prop)(a:dN)(c:ag):Prop:=∃b,Mn Q P J b .ex a c
structure Sm(w w':ag):Prop where
 tape:dG w'=dG w
 os:w'.os=w.os
 output:ga w'=ga w
 size:U w.heap<=U w'.heap
def Sm.refl(a:ag):Sm a a:=⟨rfl,rfl,rfl,aZ _⟩
def Sm.trans(h:Sm w u)(a:Sm u W):Sm w W:=⟨aB a.tape h.tape,aB a.os h.os,aB a.output h.output,dW h.size a.size⟩
section
variable{Q:bn}
def CR(h:∀a,AtRel w a->∃d e g,cw P af QW a= .go d e g/\m0 d=kR/\D6 Q a e g/\iq Q P J d e):iq Q P J QW w:=by
 classical
 let f:ag->Tr:=λa=>if b:AtRel w a then mr (fE<|fE<|fE<|h a b).2.2.2 else .fin
 refine⟨.mk f,pQ.2 <| av λa b=>?_⟩;have c:=fE<|fE<|fE<|h a b;have i:f a=mr (fE<|fE<|fE<|h a b).2.2.2:=bu;exact⟨_,_,_,c.1,c.2.1,c.2.2.1,Mn.cast i<|fE c.2.2.2⟩
def Yh(h:∀a,AtRel w a->∃v b,cw P af QW a= .ended (.done v) a b/\(∀c∈b,mY (U a.heap) c)/\J v a):iq Q P J QW w:=⟨.mk λ_=>.fin,pQ.2<|ai<|av h⟩
def Yg(h:iq Q P J QW w)(a:AtRel w u):iq Q P J QW u:=by
 have⟨b,h⟩:=h;exact⟨b,h.JK a⟩
def W5{Q:bn}:∃f,Un f w/\Hp (cZ Q) f/\dG f=dG w/\dU f=dU w/\∀(c:Nat) b,w.heap[c]? =K b->cZ Q b->f.heap[c]? =K b:=by
 classical
 have j:∀b,¬cZ Q b->jk b=af:=λb i=>by cases b<;>first|rfl|exact absurd trivial i
 have h:∀c:Nat,(w.heap.map λb=>if cZ Q b then b else pz)[c]? =(w.heap[c]?).map λb=>if cZ Q b then b else pz:=λc=>aI
 refine⟨{w with heap:=w.heap.map λb=>if cZ Q b then b else pz},⟨aI,λc b a=>?_,rfl,rfl⟩,λc b a=>?_,rfl,rfl,λc b a k=>?_⟩;simp only[h] at a;cases e:w.heap[c]? with
 |none=>rw[e] at a;cases a
 |some g=>
  rw[e] at a;simp only[gE,iG] at a;by_cases d:cZ Q g;rw[if_pos d] at a;subst a;exact av Y;rw[if_neg d] at a;exact ai ⟨bq a,g,rfl,j g d⟩
 simp only[h] at a;cases e:w.heap[c]? with
 |none=>rw[e] at a;cases a
 |some g=>
  rw[e] at a;simp only[gE,iG] at a;by_cases d:cZ Q g;rw[if_pos d] at a;subst a;exact av d;rw[if_neg d] at a;exact ai<|bq a
 simp only[h,a,gE,if_pos k]
def Yi{Stop:aO->List aO->ag->Prop}(h:Fin Q P Stop Qg aU w u):∀{f:List aO},eS Q Qg aU->Hp (cZ Q) w->Un w u->(∀a b d c,Stop a b d->eS Q a b->Hp (cZ Q) d->iH w u d c->Sm u c->iq Q P J (aX a<|b++f) c)->iq Q P J (aX Qg<|aU++f) u:=by
 intro f;refine h (λQg aU w u=>eS Q Qg aU->Hp (cZ Q) w->Un w u->(∀a b d c,Stop a b d->eS Q a b->Hp (cZ Q) d->iH w u d c->Sm u c->iq Q P J (aX a<|b++f) c)->iq Q P J (aX Qg<|aU++f) u) ?_ ?_;intro Qg aU w u l m p j k;exact k _ _ _ _ l m p j.two<|Sm.refl _;intro Qg aU w u F t E G m I D H p j k;refine CR λK A=>?_;obtain⟨g,rfl⟩:=A;have i:=E u.tape g;have⟨e,C⟩:=G u.tape g;have q:U u.heap<=(F u.tape g).2.2.2.1.heap.size:=by
  rw[e.un.size,j.size];exact i.size
 have r:=C.trans i.tape;have n:=e.un.os.trans<|i.os.trans<|bq j.os;have o:=e.un.output.trans<|i.output.trans<|bq j.output;exact⟨_,_,_,t u.tape g af f,rfl,⟨q,r,n,o,λ_=>trivial,λs x=>bV e.un.size<|i.evs s x⟩,(D u.tape g (m u.tape g) i.hp e.un λa b d c l y z v B=>k a b d c l y z ((⟨e.un,e.keep⟩:iH w u _ _).trans v)<|(⟨r,n,o,q⟩:Sm u _).trans B)⟩
def z1(h:Twins Q P){Stop:aO->List aO->ag->Prop}(n:∀Qg aU w,Stop Qg aU w->¬xk Qg)(j:eS Q Qg aU)(g:Hp (cZ Q) w)(i:Un w u)
 (o:∀f,∃a b c,Steps Q (lone Qg (aU++[fD])<|sh f 0 w) (lone a (b++[fD]) c)/\Stop a b c)
 (l:∀a b c d,AR Stop a b c->eS Q a b->iH w u c d->Sm u d->iq Q P J (aX a<|b++cs) d):iq Q P J (aX Qg<|aU++cs) u:=
 Yi (JW h n j g i λf=>by
  have⟨a,b,c,⟨N,m⟩,e⟩:=o f;exact⟨N,a,b,c,m,e⟩) j g i λa b c d e p _ k q=>l a b c d e p k q
def Left (a:aO):gN->aO
 |aN v=>dR a v
 |gO b=>jF a b
 | .outgrown=>a
def zq (a:aO):Prop:=ea a= .run/\((∃e c f b,a.todo=bY e (c::f)::b)\/∃d b,a.todo= .inRangeFunc d::b)
def sQ (Q P:bn)(J:F->ag->Prop)(f:gw)(args:Array F)(d:ag)(g:gN->ag->Prop):Prop:=
 ∀(a:aO) (e:List aO),eS Q a []->zq a->kr Q d->
  (∀c b,g c b->kr Q b->Sm d b->eS Q (Left a c) []->iq Q P J (aX (Left a c) e) b)->iq Q P J (aX (eT P f args dM)<|a::e) d
def Tl (g e:ag)(b:gN->ag->Prop)(d:gN)(f:ag):Prop:=∃h c a,iH g e a f/\b d (sh h c a)
def JE(h:Twins Q P){f:gw}{b:CallKind}(i:b=dM\/b= .deferred):kP Q (eT Q f args b):=by
 refine⟨λk c=>?_,λj e=>by simp[eT] at e,i⟩;simp only[eT,v5] at c;subst c;show fC Q aj _=af;cases g:Q.funcs[f]? with
 |none=>rfl
 |some fn=>
  cases a:fn.body with
  |none=>simp[a,fC]
  |some d=>simpa [a] using h.A.Ev f fn d g a
def I6(h:Twins Q P){f:gw}{i:gN->ag->Prop}(E:Hp (cZ Q) w)(K:Un w u)(A:P.funcs[f]? =Q.funcs[f]?)(p:∀a,¬i .outgrown a)(B:∀g,Calls Q f args (sh g 0 w) i):sQ Q P J f args u (Tl w u i):=by
 intro d N m G _ z;have x:eT P f args dM=eT Q f args dM:=by unfold eT;rw[A]
 rw[x];have⟨H,e⟩:=G;refine z1 (aU:=[d]) h (Stop:=λk aU a=>aU=[]/\∃b,i b a/\k=Left d b) (λk aU a l=>?_) ⟨JE h<|av Y,λX r=>by simp at r;rw[r];exact m.top,m.bot⟩ E K (λg=>?_) λO W a M l D y I=>?_;obtain⟨_,b,c,rfl⟩:=l;rintro⟨C,s,q⟩;cases b with
 |returned v=>
  rcases e with⟨U,S,V,L,e⟩|⟨T,L,e⟩;simp[Left,dR,e] at q;simp[Left,dR,e] at q
 |panicked j=>
  simp[Left,jF,H] at C
 |outgrown=>exact p _ c
 have⟨b,a,k,c,n,R,o⟩:=B g<|d::[fD];cases b with
 |returned v=>exact⟨dR d v,[],a,n.trans<|.one<|step_leave_returned o,rfl,aN v,c,rfl⟩
 |panicked j=>exact⟨jF d j,[],a,n.trans<|.one<|step_leave_panicked o,rfl,gO j,c,rfl⟩
 |outgrown=>exact absurd c<|p _
 obtain⟨g,t,rfl,b,c,rfl⟩:=l;exact z b M ⟨g,t,a,y,c⟩ trivial I D
end
def nh (P0 P:bn)(J:F->ag->Prop)(c:aO)(R:List aO)(w:ag):Prop:=eS P0 c []->kr P0 w->iq P0 P J (aX c R) w
def ac8{w d f e:ag}(h:iH w d f e)(g:dF d=dF w):dF e=dF f:=by
 apply vK;intro b;rcases h.un.cases b with c|⟨c,l,i,j⟩;exact c;rw[(h.keep b c).2,g,(h.keep b c).1,c]
def Ok{w i e u1 j u2:ag}(g:iH w i e u1)(h:iH w i j u2)(l:dF e=dF j):dF u1=dF u2:=by
 apply vK;intro b;by_cases d:e.heap[b]? =K pz;rw[(g.keep b d).2,(h.keep b bu).2];rcases g.un.cases b with c|⟨c,_⟩;rcases h.un.cases b with f|⟨f,_⟩;rw[c,f,l];exact absurd bu d;exact absurd c d
def iH.same{w f g j:ag}(h:iH w f g j)(l:Un w f){b:Nat}(i:g.heap[b]? =w.heap[b]?):j.heap[b]? =f.heap[b]? :=by
 by_cases e:g.heap[b]? =K pz;exact(h.keep b e).2;rcases h.un.cases b with c|⟨c,_⟩;rcases l.cases b with d|⟨d,_⟩;rw[c,d,i];exact absurd (aB i d) e;exact absurd c e
structure Mk(P0:bn)(ws w:ag):Prop where
 un:Un ws w
 hp:Hp (cZ P0) ws
 at_:∀(b:Nat) o,w.heap[b]? =K o->cZ P0 o->ws.heap[b]? =K o
def x9(P0:bn)(w:ag):∃c,Mk P0 c w:=by
 obtain⟨c,d,e,-,-,f⟩:=W5;exact⟨c,d,e,f⟩
section
variable{b:aO}{a:bt}{k:List ez}{R:List aO}{w:ag}
def Pd (P0 P:bn)(J:F->ag->Prop)(b:aO)(k:List ez)(R:List aO)(c:ag):Exit->bt->Prop
 |cX,a=>nh P0 P J (b.at a k) R c
 | .exit id,a=>∀e,jJ id k=K e->nh P0 P J (b.at a e) R c
 | .ret,a=>∀d,nh P0 P J {b.at a d with mode:=jj} R c
 |ig f,a=>∀d,nh P0 P J {b.at a d with mode:=jx f} R c
 |_,_=>True
theorem E1{id:Nat}{f:ez}:∀{k d:List ez},jJ id k=K d->f∈d->f∈k
 | [],d,c,_=>by simp[jJ] at c
 |x::h,d,c,e=>by
  cases x<;>simp only[jJ] at c
  case inBlock g=>
   split at c
   cases c;exact List.mem_cons_of_mem _ e;exact List.mem_cons_of_mem _<|E1 c e
  all_goals exact List.mem_cons_of_mem _<|E1 c e
def F4(h:Twins P0 P){Q:ag->Exit->bt->ag->Prop}(G:∀c,Mk P0 c w->∀o,QK.wp P0 (Q c) a<|sh o 0 c)(A:∀s,bJ (.refuse s)∉k)(E:∀c id a w,Q c (.exit id) a w->jJ id k≠Z)(F:∀c r a w,¬Q c (.goto r) a w)(H:∀c a w,¬Q c .outgrown a w)
 (D:∀c i d B f o y,Mk P0 c w->Q c i d (sh o y B)->iH c w B f->Sm w f->Pd P0 P J b k R f i d):nh P0 P J (b.at a<|bJ QK::k) R w:=by
 intro L _;have⟨c,m⟩:=x9 P0 w;refine z1 (aU:=[]) h (Stop:=λq aU f=>aU=[]/\∃i d,Q c i d f/\(match i with
  |cX=>q=b.at d k
  | .exit id=>∃l,jJ id k=K l/\q=b.at d l
  | .ret=>∃g,q= {b.at d g with mode:=jj}
  |ig p=>∃g,q= {b.at d g with mode:=jx p}
  |_=>False)) (λq aU f n=>?_) L m.hp m.un (λo=>?_) λN O f M n v C I=>?_
 have⟨_,i,d,j,e⟩:=n;rintro⟨m,s,x⟩;cases i with
 |normal=>subst e;exact A s (by simp only[Frame.at] at x;rw[x];exact List.mem_cons_self ..)
 |exit id=>obtain⟨l,z,rfl⟩:=e;exact A s (E1 z<|by simp only[Frame.at] at x;rw[x];exact List.mem_cons_self ..)
 |ret=>obtain⟨g,rfl⟩:=e;cases m
 |panic p=>obtain⟨g,rfl⟩:=e;cases m
 |goto r=>exact e
 |outgrown=>exact e
 have⟨i,d,f,j,u⟩:=G c m o b k [fD];cases i with
 |normal=>exact⟨_,[],f,u,rfl,cX,d,j,rfl⟩
 |exit id=>
  cases e:jJ id k with
  |none=>exact absurd e<|E c id d f j
  |some l=>exact⟨_,[],f,u l e,rfl,.exit id,d,j,l,e,rfl⟩
 |ret=>have⟨g,n⟩:=u;exact⟨_,[],f,n,rfl,.ret,d,j,g,rfl⟩
 |panic p=>have⟨g,n⟩:=u;exact⟨_,[],f,n,rfl,ig p,d,j,g,rfl⟩
 |goto r=>exact absurd j<|F c r d f
 |outgrown=>exact absurd j<|H c d f
 obtain⟨o,y,rfl,i,d,j,e⟩:=n;have t:=D c i d f M o y m j C I;cases i with
 |normal=>subst e;exact t v trivial
 |exit id=>obtain⟨l,z,rfl⟩:=e;exact t l z v trivial
 |ret=>obtain⟨g,rfl⟩:=e;exact t g v trivial
 |panic p=>obtain⟨g,rfl⟩:=e;exact t g v trivial
 |goto r=>exact ff e
 |outgrown=>exact ff e
end
section
variable{b:aO}{a:bt}{k:List ez}{w:ag}{J:Array cC}
def X9{f:gw}{fn:cF}{args:Array eg}{R:gN->ag->Prop}(I:dj b=dM)(o:J[n]? =K Qs)(F:eI Qs (en J a.tmps)=af)(r:Qs.op= .call {callee:=.value<|.func f,args,argTypes:=QF})
 (l:P.funcs[f]? =K fn) (m:(fn.name == "runtime.NumGoroutine")=aj) (A:fn.body=K QK) (z:∀d,AtRel w d->sQ P0 P Post f (args.map<|bp a) d R)
 (y:∀v c,R (aN v) c->Sm w c->nh P0 P Post (b.at (bw a Qs.dst v)<|bY J rest::k) cs c) (hP:∀h c,R (gO h) c->Sm w c->nh P0 P Post {b.at a (bY J (n::rest)::k) with mode:=jx h} cs c) (B:∀c,¬R .outgrown c):nh P0 P Post (b.at a<|bY J (n::rest)::k) cs w:=by
 intro G C;refine CR λd i=>?_;have j:nQ fn.body=aj:=gG A;have E:cw P af (aX (b.at a<|bY J (n::rest)::k) cs) d= .go (aX (eT P f (args.map<|bp a) dM)<|b.at a (bY J (n::rest)::k)::cs) d #[]:=by
  rw[stepG_enter o F bu<|run_call_body r l m j];have:listed P b.fn a Qs d=#[]:=by unfold listed;rw[events_call_body r l m j];exact Conc.seen_none P _
  rw[this]
 have D:kr P0 d:=by obtain⟨x,rfl⟩:=i;exact C
 have t:Sm w d:=by obtain⟨x,rfl⟩:=i;exact⟨rfl,rfl,rfl,aZ _⟩
 refine⟨_,_,_,E,rfl,⟨aZ _,rfl,rfl,rfl,λH=>H,λe g=>by simp at g⟩,(z d i _ cs G ⟨rfl,av ⟨J,n,rest,k,rfl⟩⟩ D λe c g s u p=>?_)⟩;cases e with
 |returned v=>
  have:=y v c g<|t.trans u;have e:=xl b a J n rest k v;rw[o] at e;have q:eS P0 (dR (b.at a<|bY J (n::rest)::k) v) []:=p;rw[e] at q;show iq P0 P Post (aX (dR (b.at a<|bY J (n::rest)::k) v) cs) c;rw[e];exact this q s
 |panicked h=>exact hP h c g (t.trans u) p s
 |outgrown=>exact absurd g<|B c
def Yj(j:P.inits.idxOf? Qg.fn=Z)(m:∀s c,Qg.leaving P (sh s c w)<|aN v)(i:∀d,AtRel w d->∀fn,P.funcs[Qg.fn]? =K fn->∀g∈((dB fn Qg.tmps).runT P d #[]).2,lD (U d.heap) g)(o:∀d,AtRel w d->Post v d):iq P0 P Post (aX Qg []) w:=by
 refine Yh λd r=>?_;obtain⟨c,rfl⟩:=r;have⟨n,h,l,fn,f,p⟩:=m (dG w) c;have q:(dB fn Qg.tmps).run P (w.at c)=cm v (w.at c):=p;have e:=i (w.at c) ⟨c,rfl⟩ fn f;rw[Sem.runT_eq] at e;refine⟨v,iD P Qg.fn<|(dB fn Qg.tmps).events P (w.at c) #[],?_,MX e,o _ ⟨c,rfl⟩⟩;simp[aX,cw,kW,n,h,f,m6,l,j,jT,q]
end
section
variable{H:F->ag->Prop}
def Bo(h:Twins P0 P){aU tops' cs:List aO}{w w':ag}(I:eS P0 Qg aU)(B:w'.tape=w.tape)(t:∀j,Mk P0 j w->∃d,iH j w d w'/\∀c,Steps P0 (lone Qg (aU++[fD])<|sh c 0 j)<|lone fr' (tops'++[fD])<|sh c 0 d)(F:¬xk fr')
 (D:eS P0 fr' tops'->Sm w w'->iq P0 P H (aX fr'<|tops'++cs) w'):iq P0 P H (aX Qg<|aU++cs) w:=by
 have⟨j,u⟩:=x9 P0 w;have⟨d,r,t⟩:=t j u;refine z1 h (Stop:=λf y e=>f=fr'/\y=tops'/\∃c g,e=sh c g d) (λf y e v=>?_) I u.hp u.un (λc=>⟨fr',tops',_,t c,rfl,rfl,c,0,rfl⟩) λf y e u2 v G s l=>?_;obtain⟨rfl,_⟩:=v;exact F;obtain⟨c,g,rfl,rfl,z,m,x⟩:=v;have C:dF e=dF d:=show dF (sh c g e)=dF (sh z m d) by rw[x]
 have n:=Ok s r C;have p:u2.os=w'.os:=by
  rw[s.un.os,r.un.os];exact show(sh c g e).os=(sh z m d).os by rw[x]
 have q:u2.output=w'.output:=by
  rw[s.un.output,r.un.output];exact show(sh c g e).output=(sh z m d).output by rw[x]
 have E:AtRel w' u2:=by
  refine⟨dU u2,?_⟩;have A:=aB l.tape<|bq B;have⟨L,M,N,O,Q⟩:=u2;simp only at n p q A;subst n p q A;rfl
 exact Yg (D G ⟨B,p▸l.os,q▸l.output,n▸l.size⟩) E
def Eb (P0 P:bn)(H:F->ag->Prop)(f:Nat)(args:Array F)(w:ag)(j:F->ag->Prop):Prop:=
 ∃c:Loop,w.heap[f]? =K (fj c)/\cZ P0 (fj c)/\U args=U c.params/\∀(d:aO) (cs:List aO),eS P0 d []->zq d->kr P0 w->
  (∀v e,j v e->kr P0 e->Sm w e->eS P0 (dR d v) []->iq P0 P H (aX (dR d v) cs) e)->
  eS P0 (mZ f c.fn ((c.params.zip args).foldl (λh (g,a)=>cS h g a) c.tmps) c.assign c.body dM) [d]->iq P0 P H (aX (mZ f c.fn ((c.params.zip args).foldl (λh (g,a)=>cS h g a) c.tmps) c.assign c.body dM)<|d::cs) w
section
variable{b:aO}{a:bt}{k:List ez}{w:ag}{J:Array cC}{rest:List Nat}{o:cC}
def Yf(h:Twins P0 P){m:F->ag->Prop}(q:J[i]? =K o)(O:eI o (en J a.tmps)=af)(B:o.op= .call {callee:=.value Qq,args:=QN,argTypes:=QF})(hx:bp a Qq= .func (gP n) #[] #[])
 (z:Eb P0 P H n (QN.map<|bp a) w m) (x:∀v f,m v f->Sm w f->nh P0 P H (b.at (bw a o.dst v)<|bY J rest::k) cs f):nh P0 P H (b.at a<|bY J (i::rest)::k) cs w:=by
 intro t R;have⟨c,D,E,L,y⟩:=z;have G:∀d,Mk P0 d w->∀e,(bX (bp a) o).run P0 (sh e 0 d)=cm (.round n c.fn ((c.params.zip<|QN.map<|bp a).foldl (λl (j,a)=>cS l j a) c.tmps) c.assign c.body) (sh e 0 d):=λd g e=>by
  have u:(sh e 0 d).heap[n]? =K (fj c):=g.at_ n _ D E;unfold bX;simp[B,m8,yR,hx,invoke,(run_yield (P:=P0) (args:=QN.map<|bp a) u L)]
 refine Bo (aU:=[]) (tops':=[b.at a<|bY J (i::rest)::k]) (fr':=mZ n c.fn ((c.params.zip<|QN.map<|bp a).foldl (λl (j,a)=>cS l j a) c.tmps) c.assign c.body dM) (w':=w) h t Y (λd g=>⟨d,g.un.two,λe=>.one<|step_lone_go ?_⟩) (λA=>?_) λQ S=>?_;rw[stepG_op q O];simp[jV,G d g e];have⟨_,s,M⟩:=A;simp[mZ] at M;refine y _ cs t ⟨rfl,av ⟨J,i,rest,k,rfl⟩⟩ trivial (λv f N C I r=>?_) Q;have p:=xl b a J i rest k v;rw[q] at p;rw[p] at r ⊢;exact x v f N I r C
end
section
variable{b:aO}{k:List ez}{J:Array cC}
def Yl{o:cC}{i:Nat}{rest:List Nat}{a:bt}{w:ag}{next:bt->ag->Prop}{l:Exit->bt->ag->Prop}(p:J[i]? =K o)(D:eI o (en J a.tmps)=af)(B:∀u,o.op≠.defer u)(t:∀x a w,¬l (ig x) a w)(C:¬LetsOut l)(h:o.wp P0 a w next l):
 ∃r c,next r c/\Steps P0 (lone (b.atR a<|bY J (i::rest)::k) cs w) (lone (b.atR r<|bY J rest::k) cs c):=by
 have e:=stepGR_op (P:=P0) (b:=b) (k:=k) (cs:=cs) (w:=w) (rest:=rest) p D;rw[Oper.semAt_eq _ _ _ B] at e;have j:∀v,dR (b.atR a<|bY J (i::rest)::k) v=b.atR (bw a o.dst v) (bY J rest::k):=by
  intro v;rw[Frame.finish_atR,p];rfl
 simp only[Oper.wp,Oper.upon] at h
 split at h
 rename_i v c d;refine⟨_,_,h,.one<|step_lone_go ?_⟩;rw[e,<-j];simp[jV,d];rename_i c d;refine⟨_,_,h,.one<|step_lone_go ?_⟩;rw[e,<-j];simp[jV,d];rename_i m c d;refine⟨_,_,h,.one<|step_lone_go ?_⟩;have z:dR ({b.atR a (bY J (i::rest)::k) with defers:=m::bU a}:aO) bR=b.atR ({a with defers:=m::bU a}.put o.dst bR) (bY J rest::k):=by
  have:=Frame.finish_atR b {a with defers:=m::bU a} J i rest k bR;rw[p] at this;exact this
 rw[e];simp only[jV,Sem.runT_eq,d,GStep.bare_after];exact congrArg (λs=>GStep.go {frame:=s,callers:=cs,status:=kR,dying:=Z} c) z
 .rename_i f args c d;have⟨y,G,s,g,q,_,A⟩:=h<|b.atR a (bY J (i::rest)::k)::cs;have n:step P0 (lone (b.atR a<|bY J (i::rest)::k) cs w)= .next (lone (eT P0 f args dM) (b.atR a (bY J (i::rest)::k)::cs) c):=
   step_lone_go (by rw[e];simp[jV,d,Frame.atR])
  cases y with
  |returned v=>
   refine⟨_,_,g,.head n<|q.trans<|.one ?_⟩;rw[<-j];exact step_leave_returned A
  |panicked F=>exact absurd g<|t _ _ _
  |outgrown=>exact absurd g C
 .rename_i E args c d;have⟨v,G,g,q⟩:=h (b.atR a<|bY J (i::rest)::k) cs;have n:step P0 (lone (b.atR a<|bY J (i::rest)::k) cs w)= .next (lone (Frame.ofRow P0 E args dM) (b.atR a (bY J (i::rest)::k)::cs) c):=
   step_lone_go (by rw[e];simp[jV,d,Frame.atR])
  refine⟨_,_,g,.head n ?_⟩;rw[<-j];exact q
 exact absurd h<|t _ _ _;exact ff h
def x4:Op->Bool
 | .defer _=>af
 |_=>aj
def Gd{Q:Exit->bt->ag->Prop}(rest:List Nat)(z:(dI J.toList λo=> !x4 o.op)=af)(A:∀s a w,¬Q (ig s) a w)(q:¬LetsOut Q):∀(e:List Nat) (a:bt) (w:ag),wpOps P0 J Q e a w->
 ∃d f,Q cX d f/\Steps P0 (lone (b.atR a<|bY J (e++rest)::k) cs w) (lone (b.atR d<|bY J rest::k) cs f):=by
 intro e
 induction e with
 |nil=>exact λa w c=>⟨a,w,c,.refl _ _⟩
 |cons i e n=>
  intro a w c;simp only[wpOps] at c;cases g:J[i]? with
  |none=>
   simp only[g] at c;have l:=stepR_op_skip (P:=P0) (b:=b) (a:=a) (k:=k) (cs:=cs) (w:=w) (ops:=J) (i:=i) (rest:=e++rest) (by simp[g]);simp only[g,Option.bind_none,bw] at l;have⟨d,f,h,j⟩:=n a w c;exact⟨d,f,h,.head l j⟩
  |some o=>
   simp only[g] at c;have x:∀p,o.op≠.defer p:=λp t=>by
    obtain⟨y,rfl⟩:=dn.1 g;have:=fA.1 z _<|Array.getElem_mem_toList y;rw[t] at this;cases this
   by_cases m:eI o (en J a.tmps)=af;simp only[m,if_true] at c;rcases c with c|⟨_,c⟩;have⟨d,f,h,j⟩:=Yl (b:=b) (k:=k) (cs:=cs) (rest:=e++rest) g m x A q c;have⟨r,B,u,v⟩:=n d f h;exact⟨r,B,u,j.trans v⟩;exact absurd c q;simp only[m,if_false,eN] at c;have l:=stepR_op_skip (P:=P0) (b:=b) (a:=a) (k:=k) (cs:=cs) (w:=w) (ops:=J) (i:=i) (rest:=e++rest) bu;simp only[g,Option.bind_some] at l;have⟨d,f,h,j⟩:=n _ w c;exact⟨d,f,h,.head l j⟩
end
end
section
variable{Q:bn}{b:aO}{a:bt}{k:List ez}{H:List aO}{w:ag}
def wU (fn:gw)(tmps:Array F)(c:Array Tmp)(assign body:cQ)(D:Nat):Loop:={state:=.ready,pending:=Z,fn,tmps,params:=c,assign,body,defers:=D}
def Yd(h:Twins Q P){g:eg}{i:Array Tmp}{cap:Array F}{j:gN->ag->Prop}(C:bp a g= .func (.func gf) #[] cap)(u:∀args w,(callFunc gf args).run Q w=cm (.enter gf args) w)(A:P.funcs[gf]? =Q.funcs[gf]? \/eT P gf (#[.func (gP<|U w.heap+1) #[] #[]]++cap) dM=eT Q gf (#[.func (gP<|U w.heap+1) #[] #[]]++cap) dM)
 (t:sQ Q P J gf (#[.func (gP<|U w.heap+1) #[] #[]]++cap) (cG (cG w<|kT<|K [])<|fj<|wU b.fn a.tmps i assign QK<|U w.heap) j)
 (r:∀v c,j (aN v) c->Sm w c->nh Q P J (b.at {a with defers:={target:=.collected<|U w.heap,args:= #[]}::bU a}<|.endRangeFunc (U w.heap+1)::k) H c) (D:∀n c,¬j (gO n) c) (E:∀c,¬j .outgrown c) (G:∀s,(eT Q gf (#[.func (gP<|U w.heap+1) #[] #[]]++cap) dM).todo≠[bJ<|.refuse s]):nh Q P J (b.at a<|bJ (.rangeFunc g i assign QK)::k) H w:=by
 intro S T;have B:eT P gf (#[.func (gP<|U w.heap+1) #[] #[]]++cap) dM=eT Q gf (#[.func (gP<|U w.heap+1) #[] #[]]++cap) dM:=by
  rcases A with e|e;unfold eT;rw[e];exact e
 let q:aO:={b with roundOf:=Z};refine Bo (aU:=[]) (tops':=[b.at {a with defers:={target:=.collected<|U w.heap,args:= #[]}::bU a}<|.inRangeFunc (U w.heap+1)::k]) (fr':=eT Q gf (#[.func (gP<|U w.heap+1) #[] #[]]++cap) dM) (w':=cG (cG w<|kT<|K [])<|fj<|wU b.fn a.tmps i assign QK<|U w.heap) h S Y (λd m=>⟨cG (cG d<|kT<|K [])<|fj<|wU b.fn a.tmps i assign QK<|U w.heap,?_,λp=>.one ?_⟩) (λy=>?_) λo N=>?_;exact(m.un.push<|by simp[pz]).trans ((m.un.push<|by simp[pz]).un.push<|by simp[pz]);rw[<-bq m.un.size];have M:=stepR_rangeFunc (P:=Q) (b:=q) (a:=a) (k:=k) (cs:=[fD]) (w:=sh p 0 d) (g:=g) (ps:=i) (assign:=assign) (body:=QK) (w₁':=_) (d:={target:=.fn (.func gf) cap,args:= #[.func (gP<|U d.heap+1) #[] #[]]}) (f:=gf) (args:= #[.func (gP<|U d.heap+1) #[] #[]]++cap) (run_enterLoop_outer (P:=Q) (w:=sh p 0 d) b.fn a.tmps i assign QK) (by
  have e:bp a (.const<|.func (gP<|U d.heap+1) #[] #[])= .func (gP<|U d.heap+1) #[] #[]:=rfl;simp[m8,rangeCall,C,yR,sh];exact⟨rfl,rfl⟩) (by simp only[invoke];exact u _ _)
 exact M;have⟨_,s,R⟩:=y;exact G s R;have x:eS Q (b.at {a with defers:={target:=.collected<|U w.heap,args:= #[]}::bU a}<|.inRangeFunc (U w.heap+1)::k) []:=⟨o.rest _ aI,λf z=>by simp at z,o.bot⟩;show iq Q P J (aX (eT Q gf _ dM) _) _;rw[<-B];refine t _ H x ⟨rfl,ai ⟨_,_,rfl⟩⟩ trivial λe c l L O I=>?_;cases e with
 |returned v=>exact r v c l (N.trans O) I L
 |panicked n=>exact absurd l<|D _ _
 |outgrown=>exact absurd l<|E _
def Yb(h:Twins Q P){D:Nat}(c:bU a=[{target:=.collected D,args:= #[]}])(f:w.heap[D]? =K (kT<|K []))(g:nh Q P J {b.at {a with defers:=[]} QO with mode:=jj} H (kU w D<|kT Z)):nh Q P J {b.at a QO with mode:=jj} H w:=by
 intro j o;refine Bo (aU:=[]) (tops':=[]) (fr':={b.at {a with defers:=[]} QO with mode:=jj}) (w':=kU w D<|kT Z) h j Y (λe d=>⟨kU e D<|kT Z,d.un.set D<|by simp[pz],λm=>.one<|step_lone_go ?_⟩) (λc=>?_) λl p=>g l trivial;have i:=run_takeDeferred (P:=Q) (w:=sh m 0 e) (b:=D) (ds:=[])<|d.at_ D _ f λn c=>de c;simp[cw,kW,Frame.at,c,i,Sem.runT_eq,GStep.bare_after];rfl;have⟨d,_⟩:=c;cases d
end
section
variable{J:bn}
def uB(b:fo J=fo P)(a:aP):J.info? a=P.info? a:=by rw[b]
def pi(b:fo J=fo P)(a:aP):g9 J a=g9 P a:=by unfold g9;simp only[uB b]
def vF(b:fo J=fo P)(a:aP):sY J a=sY P a:=by unfold sY;simp only[uB b]
def w7(b:fo J=fo P)(a:aP):J.bytesOf a=P.bytesOf a:=by unfold Program.bytesOf;simp only[uB b]
def w8(a:fo J=fo P):J.depth=P.depth:=by unfold Program.depth;rw[a]
def DL(b:fo J=fo P)(a:aP):J.underlyingId a=P.underlyingId a:=by unfold Program.underlyingId;simp only[uB b]
def HJ(d:fo J=fo P)(a:Nat):∀c b,byteOfCell J a c b=byteOfCell P a c b:=by
 induction a with
 |zero=>intro c b;rfl
 |succ a e=>intro c b;simp only[byteOfCell,pi d,vF d,w7 d,e]
def acV(d:fo J=fo P)(a:Nat):∀c b,cellOfByte J a c b=cellOfByte P a c b:=by
 induction a with
 |zero=>intro c b;rfl
 |succ a e=>intro c b;simp only[cellOfByte,pi d,vF d,w7 d,e]
def acU(a:fo J=fo P)(d:aP)(c e:Nat)(b:Int):cellAtBytes J n d c e b=cellAtBytes P n d c e b:=by
 simp only[cellAtBytes,vF a,w7 a,HJ a,acV a]
def Oc(d:fo J=fo P)(a:Nat):∀b c,J.alikeButTags a b c=P.alikeButTags a b c:=by
 induction a with
 |zero=>intro b c;rfl
 |succ a e=>intro b c;simp only[Program.alikeButTags,pi d,DL d,uB d,e]
def ac4(a:fo J=fo P)(b:aP):J.stoodInAs b=P.stoodInAs b:=by
 simp only[Program.stoodInAs,Program.ownRow,pi a,DL a,uB a,Oc a,w8 a,a]
def DK(a:fo J=fo P)(b:aP):J.stoodInHeld b=P.stoodInHeld b:=by
 simp only[Program.stoodInHeld,ac4 a,uB a]
def acY(a:fo J=fo P)(b:aP):J.packed b=P.packed b:=by
 simp only[Program.packed,Program.packedAs,Program.ownRow,pi a,DL a,uB a,Oc a,w8 a,a]
def acZ(b:fo J=fo P):∀a,J.holdsPacked n a=P.holdsPacked n a:=by
 induction n with
 |zero=>intro a;rfl
 |succ n c=>intro a;simp only[Program.holdsPacked,acY b,pi b,c]
def Od(c:fo J=fo P)(a:Nat):∀b,J.eqGuardType a b=P.eqGuardType a b:=by
 induction a with
 |zero=>intro b;rfl
 |succ a d=>intro b;simp only[Program.eqGuardType,pi c,d]
def ac2(d:fo J=fo P)(a:Nat):∀b c,sameLayout J a b c=sameLayout P a b c:=by
 induction a with
 |zero=>intro b c;rfl
 |succ a e=>intro b c;simp only[sameLayout,pi d,DL d,DK d,e]
def ac1(g:fo J=fo P)(f:aP->Bool)(b:Nat):∀c a e d,rowAt J f b c a e d=rowAt P f b c a e d:=by
 induction b with
 |zero=>intro c a e d;rfl
 |succ b h=>intro c a e d;simp only[rowAt,pi g,vF g,DK g,h]
def acX(c:fo J=fo P):∀b a e f d,liesAt J n b a e f d=liesAt P n b a e f d:=by
 induction n with
 |zero=>intro b a e f d;rfl
 |succ n g=>intro b a e f d;simp only[liesAt,pi c,w8 c,ac1 c,ac2 c,g]
def ac0(d:fo J=fo P)(a:Nat):∀c b,plainCell J a c b=plainCell P a c b:=by
 induction a with
 |zero=>intro c b;rfl
 |succ a e=>intro c b;simp only[plainCell,pi d,vF d,e]
def acW(d:fo J=fo P)(b:Nat):∀c a,cellHolding J b c a=cellHolding P b c a:=by
 induction b with
 |zero=>intro c a;rfl
 |succ b e=>intro c a;simp only[cellHolding,pi d,vF d,w7 d,e]
def ac5(c:fo J=fo P)(a:Nat):∀b,tight J a b=tight P a b:=by
 induction a with
 |zero=>intro b;rfl
 |succ a d=>intro b;simp only[tight,pi c,w7 c,d]
def ac3(a:fo J=fo P)(c:Array F)(d:aP)(f:Nat):∀b s,seenCells J c d f b s=seenCells P c d f b s:=by
 induction f with
 |zero=>intro b s;rfl
 |succ f e=>intro b s;simp only[seenCells,acW a,w8 a,vF a,w7 a,e]
def Oe(c:fo J=fo P)(h:∀a b f,w.heap[cD R]? =K (aq a b f)↔u.heap[cD R]? =K (aq a b f))(l:aP)(k:aL)(m:Bool):u.seen J R l k m=w.seen P R l k m:=by
 have g:(∃a b f,w.heap[cD R]? =K (aq a b f)/\u.heap[cD R]? =K (aq a b f))\/((∀a b f,w.heap[cD R]? ≠K (aq a b f))/\∀a b f,u.heap[cD R]? ≠K (aq a b f)):=bu;unfold World.seen;simp only[ac0 c,HJ c,vF c,w7 c,w8 c,ac3 c];rcases g with⟨a,b,f,d,e⟩|⟨d,e⟩;rw[d,e];cases g:w.heap[cD R]? with
 |none=>cases i:u.heap[cD R]? with
  |none=>rfl
  |some j=>cases j<;>first|exact absurd i (e _ _ _)|rfl
 |some n=>cases i:u.heap[cD R]? with
  |none=>cases n<;>first|exact absurd g (d _ _ _)|rfl
  |some j=>cases n<;>first|exact absurd g (d _ _ _)|(cases j<;>first|exact absurd i (e _ _ _)|rfl)
def MY{P:bn}{m:Bool}{c:_}(h:w.seen P R Qd qQ m= .ok c):cD R<U w.heap:=by
 rcases jc (cD R) (U w.heap) with a|a;exact a
 .have b:w.heap[cD R]? =Z:=uG a;unfold World.seen at h;rw[b] at h;simp only[bind,Except.bind,throw,throwThe,Pa,pure,Except.pure] at h
  repeat' first|(cases h;done)|split at h
def adr(q:fo J=fo P):Views P J:=by
 refine⟨λc k b j p m a=>?_,λc b j p m v s a y w=>?_,λc k b j p v m a=>?_⟩;unfold World.viewLoad;rw[Oe q a];unfold World.viewLoad at a;cases h:c.seen P b j p m with
 |error e=>rw[h] at a;cases a
 |ok C=>
  have u:=MY h;rw[h] at a;simp only[bind,Except.bind,throw,throwThe,Pa,pure,Except.pure] at a
  split at a
  cases a;obtain⟨e,_,rfl⟩:=jW.1 w;exact u;cases a
 unfold World.viewStore;rw[Oe q a,ac5 q,w8 q];cases H:tight P P.depth j with
 |false=>exact av ⟨_,rfl,rfl⟩
 |true=>
  cases h:c.seen P b j p m with
  |error e=>exact av ⟨e,rfl,rfl⟩
  |ok C=>
   have u:=MY h;have⟨t,d,f,first,i,z⟩:=C;cases G:v.bytes? with
   |none=>exact av ⟨_,rfl,rfl⟩
   |some bytes=>
    by_cases r:K (I bytes)≠i.bytes?.map (·.length);refine av ⟨ "memory seen as another type: a value of another size",?_,?_⟩;show(if K (I bytes)≠i.bytes?.map (·.length) then _ else _)=_;rw[if_pos r];rfl;show(if K (I bytes)≠i.bytes?.map (·.length) then _ else _)=_;rw[if_pos r];rfl;have E:∀(l n:Except String (ag×List aL)) (o:Except String (Array F)),l=o.bind (λg=>.ok ({c with heap:=cS c.heap (cD b)<|aq g d f},z.map λx=>({block:=cD b,off:=x.1}:aL)))->n=o.bind (λg=>.ok ({k with heap:=cS k.heap (cD b)<|aq g d f},z.map λx=>({block:=cD b,off:=x.1}:aL)))->
     (∃D,l= .error D/\n= .error D)\/∃t d f s,l= .ok ({c with heap:=cS c.heap (cD b)<|aq t d f},s)/\n= .ok ({k with heap:=cS k.heap (cD b)<|aq t d f},s)/\∀y∈s,cD y<U c.heap:=by
     intro l n o A B;cases o with
     |error e=>exact av ⟨e,A,B⟩
     |ok g=>
      refine ai ⟨g,d,f,_,A,B,λy w=>?_⟩;obtain⟨e,_,rfl⟩:=jW.1 w;exact u
    apply E;show(if K (I bytes)≠i.bytes?.map (·.length) then _ else _)=_;rw[if_neg r];rfl;show(if K (I bytes)≠i.bytes?.map (·.length) then _ else _)=_;rw[if_neg r];rfl
def ac6(a:fo J=fo P)(d:∀f:Nat,J.funcs[f]? =P.funcs[f]? \/∃fn c:cF,P.funcs[f]? =K fn/\J.funcs[f]? =K c/\c.name=fn.name/\nQ fn.body=aj/\nQ c.body=aj):Twin P J:=
 ⟨uB a,pi a,by rw[a],vF a,w7 a,w8 a,λb=>acX a,λb=>acU a,λb=>HJ a b,λb=>Od a b,DK a,λb=>acZ a,by rw[a],by rw[a],by rw[a],d⟩
def Nd(a:Twin P J)(b:Plain O)(v:F):St P J O (OZ v):=by
 unfold OZ;refine mQ ?_ ?_;have:∀v,handleType J v=handleType P v:=λv=>by unfold handleType;rw[a.Cu]
 rw[this]
 .exact eE
def abI(c:Twin P J)(b:Plain O)(a:TypeInfo):St P J O (O0 a):=by
 unfold O0;exact eE
def ab2(b:Twin P J)(a:Plain O)(args:Array F):St P J O (O2 args):=by
 unfold O2 O1;exact eE
def Yz{o:Option String}{a:String->dh F}{b:Unit->dh F}(c:∀f,St P J O<|a f)(d:St P J O (b ())):St P J O (aes (λ_=>dh F) o a b):=bu
def aaS(args:Array F):St P J O (aer args):=by
 have a:∀s:String,St P J O (stuck s:dh F):=λs=>dL s;have⟨c⟩:=args;rcases c with _|⟨v,_|⟨o,c⟩⟩
 case cons.nil=>
  cases v with
  |agg b=>
   have⟨d⟩:=b;rcases d with _|⟨e,_|⟨g,_|⟨h,_|⟨i,_|⟨k,d⟩⟩⟩⟩⟩
   case cons.cons.cons.cons.nil=>
    cases e with
    |int l b=>
     cases g with
     |int m p=>
      cases h with
      |bool s=>
       cases i with
       |int n j=>
        refine Yz (o:=(if (s&&decide (b<0))=af then aeu else aet)[Int.toNat j]?) (λf=>?_) ?_;exact trivial;exact a _
       |_=>exact a _
      |_=>exact a _
     |_=>exact a _
    |_=>exact a _
   all_goals exact a _
  |_=>exact a _
 all_goals exact a _
def ab4(c:Twin P J)(b:Plain O)(args:Array F):St P J O (O3 args):=by
 have a:∀s:String,St P J O (stuck s:dh F):=λs=>dL s;unfold O3 O1;have⟨d⟩:=args;rcases d with _|⟨v,_|⟨j,d⟩⟩
 case cons.nil=>
  cases v with
  |agg f=>
   have⟨e⟩:=f;rcases e with _|⟨g,_|⟨h,e⟩⟩
   case cons.nil=>
    refine bK (Nd c b _) λi=>?_
    split
    exact trivial;exact mj c b _
   all_goals exact a _
  |_=>exact a _
 all_goals exact a _
def aba(b:aL)(a:Nat)(c:ByteArray):St P J O (OY b a c):=by
 induction a generalizing b c with
 |zero=>exact trivial
 |succ a d=>
  unfold OY;refine bK (BI _ _) λv=>?_
  split
  exact d _ _;exact dL _
def Nb(v:F):St P J O (OX v):=by
 unfold OX
 split<;>first|exact trivial|exact aba _ _ _|exact dL _
def aa1(args:Array F):St P J O (D2 args):=by
 have b:∀s:String,St P J O (stuck s:dh F):=λs=>dL s;unfold D2;have⟨a⟩:=args;rcases a with _|⟨c,_|⟨d,_|⟨e,a⟩⟩⟩
 case cons.cons.nil=>exact bK (Nb _) λ_=>bK (Nb _) λ_=>trivial
 all_goals exact b _
def p0(b:Twin P J)(a:Plain O):∀d∈oG,∀args,St P J O (d.2 args):=by
 intro d c args;simp only[oG,gy,kZ,or_false] at c;rcases c with rfl|rfl|rfl|rfl|rfl|rfl|rfl|rfl|rfl|rfl|rfl|rfl|rfl|rfl|rfl
 all_goals first
  |exact aaS _
  |exact ab2 b a _
  |exact ab4 b a _
  |exact trivial
  |exact bK (Hl _) λ_=>trivial
  |exact bK (Hi _) λ_=>bK (Hl _) λ_=>trivial
  |exact bK (Hi _) λ_=>bK (BF _) λ_=>trivial
def abo(a:11<I Ic)(args:Array F):St P J O ((Ic[11]'a).2 args):=bK (BF<|cB args 0<|cP #[]) λ_=>trivial
def ou{fn:cF}{e:Array F->dh F}(d:fn.name=QL)(a:nQ (Extern.allGenericRows.lookup QL)=af)(b:nQ (Extern.allTypedRows.lookup QL)=af)(c:Extern.allRows.lookup QL=K e):yS fn=K e:=by
 unfold yS;dsimp only;rw[d,xC.1 a,xC.1 b,c];rfl
def E8{fn:cF}{a m:String}(f:fn.name=a)(e:fn.origin=m)(b:nQ (Extern.allGenericRows.lookup a)=af)(c:nQ (Extern.allTypedRows.lookup a)=af)(d:nQ (Extern.allRows.lookup a)=af)(g:nQ (Extern.allGenericRows.lookup m)=af)(h:nQ (Extern.allTypedRows.lookup m)=af)(i:nQ (Extern.allRows.lookup m)=af):yS fn=Z:=by
 unfold yS;dsimp only;rw[f,e,xC.1 b,xC.1 c,xC.1 d,xC.1 g,xC.1 h,xC.1 i];rfl
end
end Cc
namespace Rn
open Go
structure Mp where
 f:Nat->Nat
 h:Fn->Fn
def ra (J:Mp)(a:aL):aL:={a with block:=J.f<|cD a}
@[simp] def rv (J:Mp):F->F
 |ak b=>ak b
 |aJ c e=>aJ c e
 | .float c b=>.float c b
 | .complex c a b=>.complex c a b
 |ay s=>ay s
 |cU a=>cU<|a.map<|ra J
 |ah a e h=>ah (a.map<|ra J) e h
 | .map g=>.map<|g.map J.f
 |fZ g=>fZ<|g.map J.f
 | .func f d j=>.func (J.h f) (d.map λv=>rv J v)<|j.map λv=>rv J v
 | .nilFunc=>.nilFunc
 | .iface i v=>.iface i<|rv J v
 | .nilIface=>.nilIface
 |bZ d=>bZ<|d.map λv=>rv J v
 |cP d=>cP<|d.map λv=>rv J v
def vc{a:F->Prop}(v:F)(bool:∀c,a<|ak c)(o:∀d e,a<|aJ d e)(m:∀d c,a<|.float d c)(l:∀d b c,a<|.complex d b c)(u:∀s,a<|ay s)(nilp:a (cU Z))(ptr:∀b,a<|cU<|K b)(r:∀e h,a<|ah Z e h)(t:∀b e h,a<|ah (K b) e h)(q:a (.map Z))(p:∀i,a<|.map<|K i)(chan:∀i,a<|fZ i)(func:∀f g k,a<|.func f g k)(nilf:a .nilFunc)(n:∀j v,a<|.iface j v)(nili:a .nilIface)(agg:∀g,a<|bZ g)(tuple:∀g,a<|cP g):a v:=by
 rcases v with _|_|_|_|_|(_|_)|⟨_|_⟩|(_|_)<;>solve_by_elim
def nC:cz->Bool
 |aq .. | .number .. | .map .. =>af
 |_=>aj
def re (J:Mp)(a:MapEntry):MapEntry:=⟨rv J a.key,rv J a.val,a.born⟩
def ro (J:Mp):cz->cz
 |aq b f g=>aq (b.map<|rv J) f g
 | .map c d=>.map (c.map<|re J) d
 | .number a e=>.number (ra J a) e
 |o=>o
def uj:Halt->Bool
 | .stuck _=>af
 | .unsupported (.initOrder _)=>aj
 | .unsupported _=>af
 |_=>aj
def iU (P:bn):Mp:=⟨λa=>if a<U P.globals then U P.globals else a,λf=>f⟩
def E {R Q:Type}(a:R->Q)(b:R)(c:Q):Prop:=c=a b
def SR (P:bn)(J:Mp){R Q:Type}(A:R->Q->Prop):dh R->dh Q->Prop
 | .pure c,.pure j=>A c j
 | .load m c a,.load g e b=>g=m/\e=ra J c/\∀v,rv (iU P) v=v->SR P J A (a v) (b<|rv J v)
 | .store m c v a,.store g e w b=>g=m/\e=ra J c/\w=rv J v/\SR P J A a b
 | .new h a,.new l b=>nC h=af/\l=ro J h/\∀d,SR P J A (a d)<|b<|J.f d
 | .shape d a,.shape i b=>i=J.f d/\∀s,SR P J A (a s)<|b s
 | .freeze c f a,.freeze e r b=>r=f/\e=ra J c/\SR P J A a b
 | .frozen c a,.frozen e b=>e=ra J c/\∀j,SR P J A (a j)<|b j
 | .getObj d a,.getObj i b=>i=J.f d/\(∀c o,U P.globals<=cD c->SR P J A (a<|.number c o) (b<|.number (ra J c) o))/\∀k f,k.map (re<|iU P)=k->SR P J A (a<|.map k f) (b<|.map (k.map<|re J) f)
 | .setObj d h a,.setObj i l b=>i=J.f d/\nC h=af/\l=ro J h/\SR P J A a b
 | .choose t a,.choose u b=>u=t/\∀f,SR P J A (a f)<|b f
 | .sys p a,.sys q b=>p= .env/\q= .env/\∀d,SR P J A (a d)<|b d
 | .program a,.program b=>SR P J A (a P)<|b P
 | .mark m a,.mark g b=>m= .noRoom/\g= .noRoom/\SR P J A a b
 | .halt n,s=>uj n=af\/∃v,n= .panic v/\s= .halt (.panic<|rv J v)
 |_,_=>False
section
variable{J:Mp}{R O:Type}{A:R->Q->Prop}{B:O->H->Prop}
def SR.bind{s:dh R}{a:dh Q}{f:R->dh O}{b:Q->dh H}(h:SR P J A s a)(e:∀c d,A c d->SR P J B (f c) (b d)):SR P J B (s >>= f) (a >>= b):=by
 show SR P J B (s.bind f) (a.bind b)
 induction s generalizing a<;>cases a<;>simp only[SR,Sem.bind] at h ⊢<;>grind [Sem.bind]
def sb{F:R->Q}{s:dh R}{c:dh Q}{f:R->dh O}{b:Q->dh H}(h:SR P J (E F) s c)(e:∀a,SR P J B (f a)<|b<|F a):SR P J B (s >>= f) (c >>= b):=h.bind λa g d=>d▸e a
def sp{a:R->Q}{b:R}{c:Q}(h:c=a b):SR P J (E a) (Pure.pure b) (Pure.pure c):=h
def Hh{a:R}{b:Q}{f:R->dh O}{c:Q->dh H}(h:SR P J B (f a) (c b)):SR P J B (Pure.pure a >>= f) (Pure.pure b >>= c):=h
def Dv{g i:Type}{s:dh g}{e:dh i}{f:g->dh R}{b:i->dh Q}{c:R->dh O}{d:Q->dh H}(h:SR P J B (s >>= λa=>f a >>= c) (e >>= λa=>b a >>= d)):SR P J B ((s >>= f) >>= c) ((e >>= b) >>= d):=by
 show SR P J B ((s.bind f).bind c) ((e.bind b).bind d);rw[Sem.bind_assoc',Sem.bind_assoc'];exact h
def sd{s:dh Q}:SR P J A (stuck QL) s:=av Y
def sdb{s:dh H}{f:R->dh O}:SR P J B (stuck QL >>= f) s:=av Y
def su{a:Unsupported}{s:dh Q}(h:uj (.unsupported a)=af:=by rfl):SR P J A (unsupported a) s:=av h
def sub{a:Unsupported}{s:dh H}{f:R->dh O}(h:uj (.unsupported a)=af:=by rfl):SR P J B (unsupported a >>= f) s:=av h
def sg(h:x=rv J v):SR P J A (goPanic v) (goPanic x):=ai ⟨v,rfl,by rw[h];rfl⟩
def sk{a:bn->dh R}{b:bn->dh Q}(h:SR P J A (a P) (b P)):SR P J A (program >>= a) (program >>= b):=h
end
structure Kx(P:bn)(π:Mp):Prop where
 inj:∀a b,π.f a=π.f b↔a=b
 gl:∀b,U P.globals<=b->U P.globals<=π.f b
 z:∀t i v,P.info? t=K i->jH i=K v->rv π v=v
section
variable{π:Mp}{R J:Type}{A:H->R->Prop}{B:Q->J->Prop}
def Zj(a:aL):(ra π a).spot=a.spot:=rfl
def Zh(a:aL):(ra π a).off=a.off:=rfl
def Gs(a:aL):cD (ra π a)=π.f (cD a):=rfl
def yo(a:aL)(b:Nat):(ra π a).add b=ra π (a.add b):=by unfold Addr.add;split<;>rfl
def yA(v:F):(rv π v).cells=v.cells.map (rv π):=by cases v<;>simp[Value.cells]
def KH(a:aL)(m:Mode):SR P π (E<|rv π) (load a m) (load (ra π a) m):=⟨rfl,rfl,λ_ _=>rfl⟩
def KV(a:aL)(v:F)(m:Mode):SR P π (E λa=>a) (store a v m) (store (ra π a) (rv π v) m):=⟨rfl,rfl,rfl,rfl⟩
def KT(a:Nat):SR P π (E λb=>b) (shape a) (shape<|π.f a):=⟨rfl,λ_=>rfl⟩
def V3(a:aL):SR P π (E λa=>a) (frozen a) (frozen<|ra π a):=⟨rfl,λ_=>rfl⟩
def V2(a:aL)(b:Nat):SR P π (E λa=>a) (freeze a b) (freeze (ra π a) b):=⟨rfl,rfl,rfl⟩
def CD(a:Question):SR P π (E λb=>b) (choose a) (choose a):=⟨rfl,λ_=>rfl⟩
def CE{o:cz}(h:nC o=af):SR P π (E π.f) (newObj o) (newObj<|ro π o):=⟨h,rfl,λ_=>rfl⟩
def Wd:SR P π (E π.f) (newObj<|.map #[] 0) (newObj<|.map #[] 0):=by simpa [ro] using CE (P:=P) (π:=π) (o:=.map #[] 0) Y
def x7{f:cz->dh Q}{c:cz->dh J}(h:∀b d,U P.globals<=cD b->SR P π B (f<|.number b d) (c<|.number (ra π b) d))(g:∀a e,a.map (re<|iU P)=a->SR P π B (f<|.map a e) (c<|.map (a.map<|re π) e)):SR P π B (getObj n >>= f) (getObj (π.f n) >>= c):=⟨rfl,h,g⟩
def FL(h:nC Ql=af):SR P π (E λa=>a) (setObj n Ql) (setObj (π.f n)<|ro π Ql):=⟨rfl,h,rfl,rfl⟩
def Bb(a:aP):SR P π (E λb=>b) (ko a) (ko a):=by
 unfold ko;refine sk ?_;split<;>first|exact sp Y|exact sd
def rF(a:aP):SR P π (E λb=>b) (rq a) (rq a):=by
 unfold rq;refine sk ?_;split<;>first|exact sp Y|exact sd
def Bc(d:Kx P π)(a:aP):SR P π (E<|rv π) (lG a) (lG a):=by
 have b:SR P π (λc e=>e=c/\P.info? a=K c) (ko a) (ko a):=by
  unfold ko;refine sk ?_;split<;>first|exact(⟨rfl,by assumption⟩:_/\_)|exact sd
 refine b.bind ?_;rintro f _ ⟨rfl,b⟩
 split
 .exact sp (bq<|d.z a _ _ b<|by assumption)
 .exact su
def lf{a:Prop}(h:a:=by first|(with_reducible first|exact Bb _|exact rF _|exact Bc (by assumption) _|exact wI _|exact KF _|exact KB _|exact Wu _|exact Kz _|exact Ky _|exact A9 _|exact FD _|exact VO _|exact Wi _ _|exact KQ _ _ _|exact Ws _|exact VP _ _ _ _|exact V6 _ _|exact FN _ _ _|exact KI _ _|exact Wo _ _ _|exact CF _ _|exact KM _ _|exact Wf _ _ _|exact Kw _|exact Ww _|exact We _|exact FE _|exact Wh _ _ _|exact VZ _ _|exact Wn _ _ _|exact KU _ _ _ _ _ _|exact Wl _ _ _ _ _|exact Wm _ _ _ _ _|exact Wp _|exact Wb _ _|exact Wj (by assumption) _ _|exact KN _|exact KS (by assumption) _ _|exact FJ _|exact Ba _ _ _|exact V4 _ _|exact b _ _ _|exact Wv _ _ _|exact KG (by assumption) _ _|exact VQ _ _ _ _|exact VS _ _ _ _|exact VT _ _ _|exact FG _ _ _ _|exact FH _ _ _ _|exact KJ (by assumption) _ _ _ _ _|exact gk|exact gk _|exact gk _ _|exact gk _ _ _)|exact Wd|exact KS (by assumption) _ _|exact KH _ _|exact KV _ _ _|exact KT _|exact V3 _|exact V2 _ _|exact CD _|exact CE Y|exact FL Y):a:=h
def au{a:Prop}(h:a:=by(repeat' first|exact lf|exact sd|exact sdb|exact su|exact sub|exact wH|exact KR|(with_reducible first|refine sk ?_|refine Hh ?_|refine Dv ?_|refine sb lf λ_=>?_|refine x7 (λ_ _ _=>?_) λ_ _ _=>?_|refine sb (FI λ_ _ _=>?_) λ_=>?_|refine sb (KE λ_ _=>?_) λ_=>?_|exact sp Y)|exact sp (by simp[yo]<;>first|rfl|(split<;>simp[Function.comp_def,yo]))|(refine sg ?_;simp)|contradiction|simp only[rv,Option.map_some,Option.map_none,Option.isSome_map,Option.isNone_map,Zj,Zh,Gs,yo,Array.size_map,Array.getElem?_map]|simp only[Eo ‹Kx _ _›,C3 ‹Kx _ _›,CP ‹Kx _ _›]|(rename_i h;injection h;subst_vars)|(rename_i h;simp only[h,Option.map_some,Option.map_none])|split)):a:=h
def wI(a:aP):SR P π (E λb=>b) (lZ a) (lZ a):=by unfold lZ;exact au
def KF(a:aP):SR P π (E λb=>b) (isAgg a) (isAgg a):=by unfold isAgg;exact au
def KB(a:aP):SR P π (E λb=>b) (elemOf a) (elemOf a):=by unfold elemOf;exact au
def Wu(a:aP):SR P π (E λb=>b) (typeStr a) (typeStr a):=by unfold typeStr;exact au
def Kz(a:Nat):SR P π (E λb=>b) (askRoom a) (askRoom a):=by
 unfold askRoom;split<;>first|exact⟨rfl,rfl,rfl⟩|exact sp Y
def Ky(v:F):SR P π (E λa=>a) (asIntOf v) (asIntOf<|rv π v):=by unfold asIntOf;exact au
def A9(v:F):SR P π (E λa=>a) (asInt v) (asInt<|rv π v):=sb (Ky v) λ_=>sp Y
def FD(v:F):SR P π (E λa=>a) (asBool v) (asBool<|rv π v):=by unfold asBool;exact au
def VO(v:F):SR P π (E<|Array.map<|rv π) (asAgg v) (asAgg<|rv π v):=by unfold asAgg;exact au
def Ws(v:F):SR P π (E<|ra π) (tR v) (tR<|rv π v):=by unfold tR;exact au
end
section
variable{π:Mp}{R J:Type}{A:R->Q->Prop}{B:H->J->Prop}
def Lo:RuntimeError->Bool
 | .typeAssertion .. | .unhashable _=>aj
 |_=>af
def V7(d:aL)(a:Nat):∀(c:Nat) (b:Array F),SR P π (E<|Array.map<|rv π) (loadCellsFrom d c a b) (loadCellsFrom (ra π d) c a<|b.map<|rv π):=by
 induction a with
 |zero=>exact λ_ _=>sp Y
 |succ a gk=>
  intro c b;unfold loadCellsFrom;rw[yo];refine sb (KH _ _) λv=>?_;rw[<-Array.map_push];exact gk _ _
def V6(a:aL)(b:Nat):SR P π (E<|Array.map<|rv π) (loadCells a b) (loadCells (ra π a) b):=by unfold loadCells;simpa using V7 (P:=P) (π:=π) a b 0 #[]
def FN(a:aL)(c:List F):∀b:Nat,SR P π (E λa=>a) (storeCells a c b) (storeCells (ra π a) (c.map<|rv π) b):=by
 induction c with
 |nil=>exact λ_=>sp Y
 |cons v d gk=>
  intro b;rw[kY];unfold storeCells;rw[yo];exact sb (KV _ _ _) λ_=>gk _
def CF(b:aP)(a:Array F):SR P π (E<|ra π) (newRow b a) (newRow b<|a.map<|rv π):=sb (CE (o:=aq a b) Y) λ_=>sp Y
def KM(a:aP)(v:F):SR P π (E<|ra π) (newVar a v) (newVar a<|rv π v):=by unfold newVar;rw[yA];exact CF _ _
def wH{a:RuntimeError}(h:Lo a=af:=by rfl):SR P π A (runtimePanic a) (runtimePanic a):=by
 unfold runtimePanic;refine sk ?_;cases a<;>first|(cases h;done)|skip
 case panicNil=>
  refine sb (KB _) λb=>sb (F:=ra π) ?_ λ_=>sg (by simp);simpa using KM (π:=π) b<|bZ #[]
 all_goals exact sg (by simp[strVal])
def KR{a:RuntimeError}{f:R->dh H}{b:Q->dh J}(h:Lo a=af:=by rfl):SR P π B (runtimePanic a >>= f) (runtimePanic a >>= b):=(wH (A:=λ_ _=>False) h).bind λ_ _ h=>ff h
def VP(c:oe)(d e:Int)(b:BoundsCode):SR P π A (boundsPanic c d e b) (boundsPanic c d e b):=by
 unfold boundsPanic;dsimp only
 split
 .exact sb (F:=λa=>a) (sb (CD _) λ_=>sp Y) λ_=>wH
 .exact sb (F:=λa=>a) (sp Y) λ_=>wH
def KI(b:aP)(a:aL):SR P π (E<|rv π) (loadVar b a) (loadVar b<|ra π a):=by unfold loadVar;exact au
def Wo(b:aP)(a:aL)(v:F):SR P π (E λa=>a) (storeVar b a v) (storeVar b (ra π a)<|rv π v):=by unfold storeVar;rw[yA,Array.size_map,rM];exact au
def Wf(c:aP)(a:Array F)(b:Nat):SR P π (E<|rv π) (part c a b) (part c (a.map<|rv π) b):=by unfold part;simp only[pq];cases a[b]? <;>exact au
def Kw(v:F):SR P π (E<|ra π) (asAddr v) (asAddr<|rv π v):=by unfold asAddr;exact au
def Ww(a:Nat):SR P π (E λb=>b) (viewAt a) (viewAt<|π.f a):=by unfold viewAt;exact au
def We(a:aL):SR P π (E λa=>a) (noView a) (noView<|ra π a):=by unfold noView;exact au
def FE(a:aL):SR P π (E λa=>a) (byteOf a) (byteOf<|ra π a):=by unfold byteOf;exact au
def Wh(a:aL)(b c:Nat):SR P π (E<|ra π) (partAt a b c) (partAt (ra π a) b c):=by unfold partAt;exact sb (FE _) λ_=>sb (FE ⟨cD a,a.off+b,Z⟩) λ_=>sp (by dsimp only;split<;>rfl)
def VZ(a:aL)(f:Field):SR P π (E<|ra π) (fieldPlace a f) (fieldPlace (ra π a) f):=by unfold fieldPlace;exact au
def XV(a:aP)(v:F):SR P π (E<|rv π) (xm a v) (xm a<|rv π v):=by unfold xm;exact au
def X4(a:aP)(v b:F):SR P π (E λc=>c) (yY a v b) (yY a (rv π v)<|rv π b):=by unfold yY;exact au
def XR(b:aP)(v:F)(a:Nat):SR P π (E<|rv π) (Instr.fieldAt b v a) (Instr.fieldAt b (rv π v) a):=by unfold Instr.fieldAt;exact au
def XF(b:Kx P π)(a:aP):SR P π (E<|rv π) (Instr.alloc a af<|cP #[]) (Instr.alloc a af<|cP #[]):=by unfold Instr.alloc;exact au
def XI(a:aP)(v:F):SR P π (E<|rv π) (Instr.box a v) (Instr.box a<|rv π v):=by unfold Instr.box;exact au
def XT(b:aP)(c a:F):SR P π (E<|rv π) (Instr.indexAt b c a) (Instr.indexAt b (rv π c)<|rv π a):=by unfold Instr.indexAt;exact au
def Wn(b:F)(c:Nat)(a:BoundsCode):SR P π (E λd=>d) (Instr.sliceBound b c a) (Instr.sliceBound (rv π b) c a):=by unfold Instr.sliceBound;exact au
def KU(s:Bool)(d c:Nat)(a b m:Option F):SR P π (E λa=>a) (yX s d c a b m) (yX s d c (a.map<|rv π) (b.map<|rv π)<|m.map<|rv π):=by unfold yX;cases a<;>cases b<;>cases m<;>exact au
def Wl(s:Bool)(d c:Nat)(a b:Option F):SR P π (E λa=>a) (yX s d c a b Z) (yX s d c (a.map<|rv π) (b.map<|rv π) Z):=KU _ _ _ _ _ Z
def Wm(c:aP)(d:F)(a b m:Option F):SR P π (E<|rv π) (Instr.slice c d a b m) (Instr.slice c (rv π d) (a.map<|rv π) (b.map<|rv π)<|m.map<|rv π):=by unfold Instr.slice;exact au
def X3(c:aP)(d:F)(a b m:Option F):SR P π (E<|rv π) (Instr.sliceAt c d a b m) (Instr.sliceAt c (rv π d) (a.map<|rv π) (b.map<|rv π)<|m.map<|rv π):=by unfold Instr.sliceAt;exact au
def Wp(a:aL):SR P π (E λa=>a) (stringish a) (stringish<|ra π a):=by unfold stringish;exact au
def Wb(a b:aL):SR P π (E λa=>a) (mayBeOne a b) (mayBeOne (ra π a)<|ra π b):=by unfold mayBeOne;exact au
def Eo(c:Kx P π)(a b:Nat):(π.f a == π.f b)=(a==b):=rO.2 (by rw[beq_iff_eq,beq_iff_eq];exact c.inj a b)
def C3(c:Kx P π)(a b:aL):(ra π a==ra π b)=(a==b):=rO.2 (by rw[beq_iff_eq,beq_iff_eq];cases a;cases b;simp only[ra,nM,c.inj])
def CP(c:Kx P π)(a b:Option Nat):(a.map π.f==b.map π.f)=(a==b):=by cases a<;>cases b<;>first|rfl|exact Eo c _ _
def Wj(b:Kx P π)(a c:aL):SR P π (E λa=>a) (sameAddr a c) (sameAddr (ra π a)<|ra π c):=by unfold sameAddr;simp only[C3 b,Gs,Eo b];exact au
def XW(a:aP)(v:F):SR P π (E<|rv π) (Instr.makeInterface a v) (Instr.makeInterface a<|rv π v):=by unfold Instr.makeInterface;exact au
def XX(b:aP)(a:Option F):SR P π (E<|rv π) (Instr.makeMap b a) (Instr.makeMap b<|a.map<|rv π):=by unfold Instr.makeMap;cases a<;>exact au
def XP(v:F)(a:Nat):SR P π (E<|rv π) (Instr.extract v a) (Instr.extract (rv π v) a):=by unfold Instr.extract;exact au
def XQ(b:aP)(v:F)(a:Nat):SR P π (E<|rv π) (Instr.field b v a) (Instr.field b (rv π v) a):=by unfold Instr.field;exact au
def XS(b:aP)(v a:F):SR P π (E<|rv π) (Instr.index b v a) (Instr.index b (rv π v)<|rv π a):=by unfold Instr.index;exact au
def X5(a:UnOp)(v:F):SR P π (E<|rv π) (Op.unary a v) (Op.unary a<|rv π v):=by unfold Op.unary Op.intArith Op.intBits;exact au
def zr(a:Array F)(d:Nat):(vL d).map (λb=>(a.map (rv π))[b%U (a.map<|rv π)]!)=((vL d).map λb=>a[b%U a]!).map (rv π):=by
 rw[Array.map_map,Array.size_map];congr 1;funext b;by_cases c:b%U a<U a
 .simp[c]
 .rw[getElem!_neg (a.map<|rv π) (b%U a)<|by simpa using c];show _=rv π a[b%U a]!;rw[getElem!_neg a (b%U a) c];exact bq<|rv.eq_1 π _
def KQ(c:aP)(b:Nat)(v:F):SR P π (E<|ra π) (newRow c<|(vL b).map λa=>v.cells[a%U v.cells]!) (newRow c<|(vL b).map λa=>(rv π v).cells[a%(rv π v).cells.size]!):=by rw[yA,zr];exact CF _ _
def Wi(b:aP)(a:Nat):SR P π (E<|ra π) (newRow b<|(vL a).map λc=>(#[]:Array F)[c%U (#[]:Array F)]!) (newRow b<|(vL a).map λc=>(#[]:Array F)[c%U (#[]:Array F)]!):=by
 have:=KQ (P:=P) (π:=π) b a<|bZ #[];rwa [show rv π (bZ #[])=bZ #[] by simp] at this
def XY(d:Kx P π)(c:aP)(b a:F):SR P π (E<|rv π) (yW c b a) (yW c (rv π b)<|rv π a):=by unfold yW;exact au
def fold_map(f:Nat)(b:List (F×Nat)):∀a:Array F,((b.map λe=>(rv π e.1,e.2)).foldl (λa (c,d)=>cS a (f+d) c)<|a.map<|rv π)=(b.foldl (λa (c,d)=>cS a (f+d) c) a).map (rv π):=by
 induction b with
 |nil=>intro a;rfl
 |cons e b gk=>intro a;simp only[kY,List.foldl_cons,<-Array.map_setIfInBounds];exact gk _
def zip_map(a:List F):∀b:Nat,(a.map<|rv π).zipIdx b=(a.zipIdx b).map λc=>(rv π c.1,c.2):=by
 induction a with
 |nil=>exact λ_=>rfl
 |cons v a gk=>intro b;simp[gk]
def E7(d:Nat->Option (Nat×Nat))(b:List (Nat×F)):∀c:Array F,Instr.fill d (c.map<|rv π) (b.map λa=>(a.1,rv π a.2))=(Instr.fill d c b).map (Array.map<|rv π):=by
 induction b with
 |nil=>exact λ_=>rfl
 |cons a b gk=>
  intro c;simp only[kY,Instr.fill,yA,Array.size_map];cases d a.1 with
  |none=>rfl
  |some e=>
   dsimp only
   split
   .rfl
   .rw[<-gk];congr 1;rw[<-Array.foldl_toList,<-Array.foldl_toList,Array.toList_zipIdx,Array.toList_zipIdx,rM,zip_map,fold_map]
end
section
variable{J:Mp}{O R:Type}{A:H->Q->Prop}{B:O->R->Prop}
def V0(c:Array Field):SR P J (E λb=>b) (c.mapM λf=>do pure (f.offset,<-lZ f.type)) (c.mapM λf=>do pure (f.offset,<-lZ f.type)):=by
 have d:∀a:List Field,SR P J (E λb=>b) (a.mapM λf=>do pure (f.offset,<-lZ f.type)) (a.mapM λf=>do pure (f.offset,<-lZ f.type)):=λa=>by
  induction a with
  |nil=>exact rfl
  |cons f a gk=>rw[List.mapM_cons];exact sb (sb (wI _) λ_=>sp Y) λ_=>sb gk λ_=>sp Y
 rw[Array.mapM_eq_mapM_toList];exact sb (d _) λ_=>sp Y
def XJ(d:Kx P J)(c:aP)(b:Array (Nat×F)):SR P J (E<|rv J) (Instr.build c b) (Instr.build c<|b.map λa=>(a.1,rv J a.2)):=by
 unfold Instr.build;refine sb (Bc d _) λg=>?_;rw[yA,rM];refine sb (rF _) λf=>?_;cases f<;>try exact sd
 .refine sb (wI _) λe=>?_;rw[E7];exact au
 .refine sb (V0 _) λe=>?_;rw[E7];exact au
def XK(g:Kx P J)(f:aP)(d:Nat)(e:Array (Nat×F)):SR P J (E<|rv J) (yT f d e) (yT f d<|e.map λb=>(b.1,rv J b.2)):=by
 unfold yT;rw[rM];refine sb (rF _) λi=>?_;cases i<;>try exact sd
 refine sb (wI _) λm=>?_;have a:∀c:Array F,Instr.fill (λh=>K (h*m,m)) ((vL<|d*m).map ((c.map<|rv J)[· % U (c.map<|rv J)]!)) (e.toList.map λb=>(b.1,rv J b.2))=_:=λc=>by rw[zr,E7]
 dsimp only
 split
 exact sub
 split
 have a:=a #[];rw[Array.map_empty] at a;refine Hh ?_;rw[a];exact au;refine sb (Bc g _) λc=>Hh ?_;rw[yA,a];exact au
def KD{g i:Type}{f e:g->i->dh (ForInStep i)}(b:List g)(h:∀c∈b,∀a,SR P J (E λd=>d) (f c a)<|e c a):∀a,SR P J (E λd=>d) (forIn b a f) (forIn b a e):=by
 induction b with
 |nil=>intro a;simp only[List.forIn_nil];exact sp Y
 |cons c b gk=>
  intro a;simp only[List.forIn_cons];refine sb (h c (by simp) a) λs=>?_;cases s with
  |done a=>exact sp Y
  |yield a=>exact gk (λk j=>h k<|by simp[j]) a
def FI{i d:Type}{f e:i->d->dh (ForInStep d)}{c:Array i}{a:d}(h:∀g∈dY c,∀a,SR P J (E λb=>b) (f g a)<|e g a):SR P J (E λb=>b) (forIn c a f) (forIn c a e):=by
 rw[<-Array.forIn_toList,<-Array.forIn_toList];exact KD _ h a
def KE{d:Type}{f e:Nat->d->dh (ForInStep d)}{a:d}(h:∀b a,SR P J (E λc=>c) (f b a)<|e b a):SR P J (E λc=>c) (forIn [0:n] a f) (forIn [0:n] a e):=by
 rw[Ix,Ix];exact KD _ (λb _=>h b) a
def KN(b:Nat):SR P J (E<|Option.map λa=>(ra J a.1,a.2)) (numberAt b) (numberAt<|J.f b):=by unfold numberAt;exact au
def zV(b:U P.globals<=cD qQ):SR P J (λa d=>d=(ra J a.1,a.2)/\U P.globals<=cD a.1) (ki qQ) (ki<|ra J qQ):=by
 unfold ki numberAt;refine Dv<|sb (KT _) λs=>?_
 split
 .exact(⟨rfl,b⟩:_/\_)
 .exact Dv (x7 (λe f c=>(⟨rfl,c⟩:_/\_)) λ_ _ _=>(⟨rfl,b⟩:_/\_))
def vl(h:rv (iU P) (cU<|K qQ)=cU (K qQ)):U P.globals<=cD qQ:=by
 have h:=congrArg cD (show ra (iU P) qQ=qQ by simpa using h);simp only[ra,iU] at h
 split at h<;>omega
def KO(d:aP)(a:Nat)(h:rv (iU P) (bZ C)=bZ C):SR P J (λb c=>c=rv J b/\rv (iU P) b=b) (part d C a) (part d (C.map<|rv J) a):=by
 have h:C.map (rv<|iU P)=C:=by simpa using h
 unfold part;rw[pq];refine sb (KF _) λc=>?_;cases c
 .cases e:C[a]? with
  |none=>exact sd
  |some v=>
   have:=congrArg (·[a]?) h;simp only[pq,e,gE,iG] at this;exact(⟨rfl,this⟩:_/\_)
 .exact sb (wI _) λf=>(⟨by simp,by simp only[rv,Array.map_extract,h]⟩:_/\_)
def VX(a:Kx P J)(c:aP)(d:U P.globals<=cD qQ)(e:U P.globals<=cD qR):SR P J (E λqQ=>qQ) (do
 let (qQ,qR):=((<-ki qQ).1,(<-ki qR).1)
 if cD qQ==cD qR&&cD qQ<(<-program).globals.size then return (<-byteOf qQ)==(<-byteOf qR)
 let .named "sync.copyChecker" _:=(<-ko c).desc|unsupported .addressObserved
 if qQ==qR then pure af else unsupported .addressObserved) (do
 let (qQ,qR):=((<-ki (ra J qQ)).1,(<-ki (ra J qR)).1)
 if cD qQ==cD qR&&cD qQ<(<-program).globals.size then return (<-byteOf qQ)==(<-byteOf qR)
 let .named "sync.copyChecker" _:=(<-ko c).desc|unsupported .addressObserved
 if qQ==qR then pure af else unsupported .addressObserved):=by
 refine(zV d).bind ?_;rintro g _ ⟨rfl,b⟩;refine(zV e).bind ?_;rintro h _ ⟨rfl,f⟩;refine sk ?_;simp only[Gs,Nat.not_lt.2 b,Nat.not_lt.2<|a.gl _ b,decide_false,Bool.and_false,eN,if_false,C3 a];exact au
def KS(c:Kx P J)(a b:Option aL):SR P J (E λa=>a) (samePointer a b) (samePointer (a.map<|ra J)<|b.map<|ra J):=by unfold samePointer;cases a<;>cases b<;>exact au
def VY(m:Kx P J)(g:Nat):∀a i k,rv (iU P) i=i->rv (iU P) k=k->SR P J (E λh=>h) (uP g a i k) (uP g a (rv J i)<|rv J k):=by
 induction g with
 |zero=>exact λ_ _ _ _ _=>su
 |succ g o=>
  intro a i k b c;have n:∀(a:aP) (j l:Array F) (d:Nat) {Q:Type} (f:Bool->dh Q),rv (iU P) (bZ j)=bZ j->rv (iU P) (bZ l)=bZ l->(∀e,SR P J (E λh=>h) (f e)<|f e)->SR P J (E λh=>h) (do f (<-uP g a (<-part a j d) (<-part a l d))) (do f (<-uP g a (<-part a (j.map<|rv J) d) (<-part a (l.map<|rv J) d))):=λa j l d Q f p q r=>by
   refine(KO a d p).bind ?_;rintro v _ ⟨rfl,t⟩;refine(KO a d q).bind ?_;rintro u _ ⟨rfl,s⟩;exact sb (o _ _ _ t s) r
  unfold uP;refine sb (rF _) λu=>?_
  split<;>first
   |exact sd
   |exact su
   |(simp only[rv,gE];exact VX m a (vl b)<|vl c)
   |(simp only[rv];exact sp<|CP m _ _)
   |(simp only[rv] at b c ⊢;refine sk ?_;split<;>first|exact sub|(refine sb (FI λf _ _=>?_) λ_=>?_;(split<;>first|exact sp Y|exact n _ _ _ _ _ (by simpa only[rv] using b) (by simpa only[rv] using c) λe=>(by cases e<;>exact sp Y));exact au))
   |(simp only[rv] at b c ⊢;refine sb (wI _) λx=>sb (KE λf _=>n _ _ _ _ _ (by simpa only[rv] using b) (by simpa only[rv] using c) λe=>(by cases e<;>exact sp Y)) λ_=>?_;exact au)
   |(simp only[rv] at b c ⊢;split<;>first|exact sp Y|(refine sb (Bb _) λw=>?_;split<;>first|exact o _ _ _ (by simpa using b) (by simpa using c)|exact au))
   |((first|cases ‹Option aL› |cases ‹Option Nat›)<;>first|(exfalso;simp at *;done)|exact au)
   |exact au
end
end Rn
end Go.Proofs.YtjidbonhhpkljaaGreat
